import PyProof.Rows.All
import Wide.All
import OpenK.AllK
import Wide.FinOn
import Lean
import PyProof.EqAt
import PyProof.EqKinds
import PyProof.TupleCall
import PyProof.NeKinds
import Wide.Seal
import KE.KDictList
import KE.KSortTup
import KE.KDictOf
import KE.KTryMore
import PyProof.CompUse
import PyProof.AttrMissHeap
import PyProof.Rows.TupTab
import PyProof.ZipIter
import PyProof.Rows.ZipGen
import PyProof.LayNew
import KE.KRevSl
import PySem.Challenge.RW_bothfaces_k02_lines
set_option Elab.async false
set_option linter.all false
set_option maxRecDepth 100000
set_option maxHeartbeats 4000000
/-! THE HAND LAYER, for ints, bools, texts, own classes, LISTS and tuples (index, slices, in, append, pop ..), calls, loops. Paste it whole ahead of your own text; what your proof does not reach may be deleted. -/
namespace L2
open PySem PySem.Spec PyProof.Rows

/-- a key: an int or a str -/
abbrev Key := Sum Int Str
def keyIs : Key → Value → Bool
  | .inl k, v => Value.isInt k v
  | .inr x, v => Value.isStrOf x v
def keyH (w : World) : Key → Int
  | .inl k => hashInt k
  | .inr x => hashStr w x
theorem keyIs_shape : ∀ {k : Key} {v : Value}, keyIs k v = true → (∃ i t, k = Sum.inl i ∧ v = Value.int i t) ∨ (∃ x t, k = Sum.inr x ∧ v = Value.str x t)
  | .inl i, v, h => by
    obtain ⟨t, e⟩ := Value.isInt_shape (k := i) (v := v) h
    exact .inl ⟨i, t, rfl, e⟩
  | .inr x, v, h => by
    obtain ⟨t, e⟩ := Value.isStrOf_shape (x := x) (v := v) h
    exact .inr ⟨x, t, rfl, e⟩
theorem key_ll (a b : Int) : decide ((Sum.inl a : Key) = Sum.inl b) = (a == b) := by
  by_cases e : a = b
  · subst e; simp
  · have h : ¬ (Sum.inl a : Key) = Sum.inl b := fun q => e (Sum.inl.inj q)
    rw [decide_eq_false h]
    exact (beq_eq_false_iff_ne.mpr e).symm
theorem key_rr (a b : Str) : decide ((Sum.inr a : Key) = Sum.inr b) = decide (a = b) := by
  by_cases e : a = b
  · subst e; simp
  · have h : ¬ (Sum.inr a : Key) = Sum.inr b := fun q => e (Sum.inr.inj q)
    rw [decide_eq_false h, decide_eq_false e]
theorem key_lr (a : Int) (b : Str) : decide ((Sum.inl a : Key) = Sum.inr b) = false := decide_eq_false (fun q => nomatch q)
theorem key_rl (a : Str) (b : Int) : decide ((Sum.inr a : Key) = Sum.inl b) = false := decide_eq_false (fun q => nomatch q)

def mixKind (prog : Program) (w : World) : PySem.KeyKind prog w Key where
  is := keyIs
  hash := keyH w
  inj := fun v a b ha hb => by
    rcases keyIs_shape ha with ⟨i, t, rfl, rfl⟩ | ⟨x, t, rfl, rfl⟩
    · rcases keyIs_shape hb with ⟨j, u, rfl, e⟩ | ⟨y, u, rfl, e⟩
      · injection e with e1 _; rw [e1]
      · exact nomatch e
    · rcases keyIs_shape hb with ⟨j, u, rfl, e⟩ | ⟨y, u, rfl, e⟩
      · exact nomatch e
      · injection e with e1 _; rw [e1]
  byValue := fun k v h => by
    rcases keyIs_shape h with ⟨i, t, rfl, rfl⟩ | ⟨x, t, rfl, rfl⟩ <;> rfl
  pyHash := fun hv h => by
    rcases keyIs_shape hv with ⟨i, t, rfl, rfl⟩ | ⟨x, t, rfl, rfl⟩
    · exact wpAny_pyHash_int h
    · exact wpAny_pyHash_str h
  eqBool := fun hu hv h => by
    rcases keyIs_shape hu with ⟨i, t, rfl, rfl⟩ | ⟨x, t, rfl, rfl⟩
    · rcases keyIs_shape hv with ⟨j, u, rfl, rfl⟩ | ⟨y, u, rfl, rfl⟩
      · rw [key_ll] at h; exact wpAny_eqBool_int h
      · rw [key_lr] at h; exact SeqAt.EqAt.int_str i t y u _ _ _ _ h
    · rcases keyIs_shape hv with ⟨j, u, rfl, rfl⟩ | ⟨y, u, rfl, rfl⟩
      · rw [key_rl] at h; exact SeqAt.EqAt.str_int x t j u _ _ _ _ h
      · rw [key_rr] at h; exact wpAny_eqBool_str h
  «strs» := fun k x t v h => by
    rcases keyIs_shape h with ⟨i, u, rfl, e⟩ | ⟨y, u, rfl, e⟩
    · exact nomatch e
    · injection e with e1 _
      subst e1
      cases v <;> rfl

end L2

namespace L2
open PySem PySem.Spec PyProof.Rows

/-- a value, without the heap -/
inductive V where
  | non | bl (b : Bool) | int (i : Int) | str (x : Str) | byt (b : Array UInt8) | flt (b : UInt64) | ref (a : Addr) | ty (n : String)
  deriving DecidableEq

def RelV : V → Value → Prop
  | .non, u => u = Value.none
  | .bl b, u => u = Value.bool b
  | .int i, u => ∃ t, u = Value.int i t
  | .str x, u => ∃ t, u = Value.str x t
  | .byt b, u => ∃ t, u = Value.bytes b t
  | .flt b, u => ∃ t, u = Value.float b t
  | .ref a, u => u = Value.ref a
  | .ty n, u => u = Value.type n

abbrev Vals : List V → List Value → Prop := Paired RelV
theorem Vals.length {xs : List V} {us : List Value} (r : Vals xs us) : xs.length = us.length := Paired.length r
theorem Vals.get : ∀ {xs : List V} {us : List Value} {i : Nat} {x : V}, Vals xs us → xs[i]? = some x → ∃ u, us[i]? = some u ∧ RelV x u
  | _, _, _, _, .nil, e => by simp at e
  | _, _, 0, _, .cons r _, e => by simp at e; subst e; exact ⟨_, rfl, r⟩
  | _, _, i + 1, x, .cons _ t, e => by
    obtain ⟨u, h1, h2⟩ := Vals.get (i := i) (x := x) t (by simpa using e)
    exact ⟨u, by simpa using h1, h2⟩
theorem Vals.append : ∀ {xs ys : List V} {us ws : List Value}, Vals xs us → Vals ys ws → Vals (xs ++ ys) (us ++ ws)
  | _, _, _, _, .nil, s => s
  | _, _, _, _, .cons r t, s => .cons r (Vals.append t s)
theorem Vals.take : ∀ {xs : List V} {us : List Value} (n : Nat), Vals xs us → Vals (xs.take n) (us.take n)
  | _, _, 0, _ => .nil
  | _, _, _ + 1, .nil => .nil
  | _, _, n + 1, .cons r t => .cons r (Vals.take n t)
theorem Vals.drop : ∀ {xs : List V} {us : List Value} (n : Nat), Vals xs us → Vals (xs.drop n) (us.drop n)
  | _, _, 0, r => r
  | _, _, _ + 1, .nil => .nil
  | _, _, n + 1, .cons _ t => Vals.drop n t

def RelO : Option V → Option Value → Prop
  | some v, some u => RelV v u
  | none, none => True
  | _, _ => False
def KV {κ : Type} : List (κ × V) → List (κ × Value) → Prop := Paired fun (p : κ × V) (q : κ × Value) => p.1 = q.1 ∧ RelV p.2 q.2

/-- a key of a dict (00_mix): an int or a text -/
def kV : Key → V
  | .inl i => .int i
  | .inr x => .str x

/-- what stands at a tracked address -/
inductive HO where
  /-- a list -/
  | lst (xs : List V)
  /-- a tuple (never changes) -/
  | tup (xs : List V)
  /-- a dict whose keys are ints and texts; one whose keys are tuples of ints and texts (the empty one is both) -/
  | dK (kvs : List (Key × V)) | dT (kvs : List (List Key × V))
  /-- a set of ints: its members, its size -/
  | set (S : Int → Bool) (n : Nat)
  /-- an instance of the class at C, its dict at dx, its attributes -/
  | ins (C dx : Addr) (fs : List (Str × V))
  /-- the dict of the instance at x -/
  | own (x : Addr)
  /-- the dict of an exception -/
  | xd (fs : List (Str × V))
  /-- a bound method, f of x -/
  | met (f x : Addr)
  /-- a range object lo, lo + 1, .. below hi -/
  | rng (lo hi : Int)
  /-- a thing that is known to the object (the script; a dict while a loop walks it): read, never written while it is so -/
  | frz (o : Obj) (u : HO)
  /-- a code object's table -/
  | tbl (ps : Array Value)
  /-- any other thing, by what is true of its one object (a def of one's own: SetO a S n := HO.ext fun h => ..) -/
  | ext (φ : Heap → Prop)

abbrev Hp := Addr → Option HO
def upd (H : Hp) (a : Addr) (o : HO) : Hp := fun b => if b = a then some o else H b
theorem upd_same {H : Hp} {a : Addr} {o : HO} : upd H a o a = some o := by unfold upd; rw [if_pos rfl]
theorem upd_ne {H : Hp} {a b : Addr} {o : HO} (h : b ≠ a) : upd H a o b = H b := by unfold upd; rw [if_neg h]
theorem upd_upd {H : Hp} {a : Addr} {o u : HO} : upd (upd H a o) a u = upd H a u := by
  funext b; unfold upd; split <;> rfl
theorem ne_of_none {H : Hp} {a b : Addr} {o : HO} (h : H a = some o) (h' : H b = none) : a ≠ b := by
  intro e; subst e; rw [h] at h'; cases h'

section
variable (P : Program) (w : World)
def ObjOk (H : Hp) (h : Heap) (a : Addr) : HO → Prop
  | .lst xs => xs.length ≤ sizeLine ∧ ∃ (its : List Value) (n : Nat), Vals xs its ∧ h.get? a = some { cls := .type "list", data := .seq its.toArray n }
  | .tup xs => xs.length ≤ sizeLine ∧ ∃ its : List Value, Vals xs its ∧ IsTup h a its.toArray
  | .dK kvs => kvs.length ≤ sizeLine ∧ (a == sysModules) = false ∧ ∃ vs, KV kvs vs ∧ h.DictOf (mixKind P w) a vs
  | .dT kvs => kvs.length ≤ sizeLine ∧ (a == sysModules) = false ∧ ∃ xs : List (List Key × Addr × Value),
      Paired (fun (p : List Key × V) (q : List Key × Addr × Value) => p.1 = q.1 ∧ H q.2.1 = some (.tup (p.1.map kV)) ∧ RelV p.2 q.2.2) kvs xs ∧
      ∃ o es ep, h.get? a = some o ∧ o.ExactDict ∧ o.data = .dict es ep ∧ es.toList = xs.map (entryOfKey (tupleKind (mixKind P w))) ∧ (xs.map (·.1)).Nodup
  | .set S n => h.SetOf (intKind P w) a S n
  | .ins C dx fs => H dx = some (.own a) ∧ fs.length ≤ 1000 ∧ dx ≠ a ∧ h.get? a = some (PySem.W.instObj C dx) ∧
      ∃ mA, h.Ns1 dx mA ∧ (∀ f, RelO (fs.lookup f) (mA f)) ∧ PySem.Within mA (fs.map (·.1))
  | .own _ => ∃ o, h.get? a = some o
  | .xd fs => ∃ mA, h.Ns1 a mA ∧ ∀ f, RelO (fs.lookup f) (mA f)
  | .rng lo hi => ∃ t u v, h.get? a = some { cls := .type "range", data := .fields #[.int lo t, .int hi u, .int 1 v] }
  | .frz o u => h.get? a = some o ∧ ObjOk H h a u
  | .tbl ps => h.get? a = some { cls := .none, data := .fields ps }
  | .met f x => h.get? a = some (PySem.W.methodObj (.ref f) (.ref x))
  | .ext φ => φ h ∧ (∃ o, h.get? a = some o) ∧ ∀ h1 h2 : Heap, φ h1 → (∀ o, h1.get? a = some o → h2.get? a = some o) → φ h2
/-- the abstract heap is held -/
def HOk (H : Hp) (h : Heap) : Prop := ∀ a o, H a = some o → ObjOk P w H h a o
end

section
variable {P : Program} {w : World} {H H' : Hp} {h h' : Heap} {a : Addr} {o : HO}
theorem ObjOk.lt (x : ObjOk P w H h a o) : a < h.objs.size := by
  cases o with
  | lst xs => obtain ⟨_, _, _, _, e⟩ := x; exact Heap.lt_size e
  | tup xs => obtain ⟨_, _, _, p⟩ := x; exact p.lt
  | dK kvs => obtain ⟨_, _, _, _, o, _, _, e, _⟩ := x; exact Heap.lt_size e
  | dT kvs => obtain ⟨_, _, _, _, o, _, _, e, _⟩ := x; exact Heap.lt_size e
  | set S n => obtain ⟨o, _, _, _, e, _⟩ := x; exact Heap.lt_size e
  | ins C dx fs => obtain ⟨_, _, _, e, _⟩ := x; exact Heap.lt_size e
  | own y => obtain ⟨_, e⟩ := x; exact Heap.lt_size e
  | xd fs => obtain ⟨_, ⟨_, _, _, e, _⟩, _⟩ := x; exact Heap.lt_size e
  | rng lo hi => obtain ⟨_, _, _, e⟩ := x; exact Heap.lt_size e
  | frz ob u => obtain ⟨e, _⟩ := x; exact Heap.lt_size e
  | tbl ps => exact Heap.lt_size (show h.get? a = some _ from x)
  | met f y => exact Heap.lt_size (show h.get? a = some _ from x)
  | ext φ => obtain ⟨_, ⟨_, e⟩, _⟩ := x; exact Heap.lt_size e
theorem Paired.mapP {α β : Type} {F G : α → β → Prop} : ∀ {l₁ : List α} {l₂ : List β}, Paired F l₁ l₂ → (∀ a b, F a b → G a b) → Paired G l₁ l₂
  | _, _, .nil, _ => .nil
  | _, _, .cons r t, f => .cons (f _ _ r) (Paired.mapP t f)
/-- what an object's description leans on: its own object, its own dict, the tuples -/
theorem ObjOk.stay (x : ObjOk P w H h a o) (k : ∀ b u, (b = a ∨ H b = some (.own a)) → h.get? b = some u → h'.get? b = some u)
    (ho : ∀ b, H b = some (.own a) → H' b = some (.own a)) (ht : ∀ b xs, H b = some (.tup xs) → H' b = some (.tup xs)) : ObjOk P w H' h' a o := by
  induction o with
  | lst xs => obtain ⟨z, its, n, r, e⟩ := x; exact ⟨z, its, n, r, k _ _ (.inl rfl) e⟩
  | tup xs => obtain ⟨z, its, r, ob, e, c⟩ := x; exact ⟨z, its, r, ob, k _ _ (.inl rfl) e, c⟩
  | dK kvs => obtain ⟨z, y, vs, r, ob, es, ep, e, c⟩ := x; exact ⟨z, y, vs, r, ob, es, ep, k _ _ (.inl rfl) e, c⟩
  | dT kvs =>
    obtain ⟨z, y, xs, r, ob, es, ep, e, c⟩ := x
    exact ⟨z, y, xs, Paired.mapP r fun p q z => ⟨z.1, ht _ _ z.2.1, z.2.2⟩, ob, es, ep, k _ _ (.inl rfl) e, c⟩
  | set S n => obtain ⟨ob, es, ep, t, e, c⟩ := x; exact ⟨ob, es, ep, t, k _ _ (.inl rfl) e, c⟩
  | ins C dx fs =>
    obtain ⟨d, z, ne, e, mA, ⟨od, es, ep, e2, c⟩, r⟩ := x
    exact ⟨ho _ d, z, ne, k _ _ (.inl rfl) e, mA, ⟨od, es, ep, k _ _ (.inr d) e2, c⟩, r⟩
  | own y => obtain ⟨ob, e⟩ := x; exact ⟨ob, k _ _ (.inl rfl) e⟩
  | xd fs => obtain ⟨mA, ⟨od, es, ep, e, c⟩, r⟩ := x; exact ⟨mA, ⟨od, es, ep, k _ _ (.inl rfl) e, c⟩, r⟩
  | rng lo hi => obtain ⟨t, u, v, e⟩ := x; exact ⟨t, u, v, k _ _ (.inl rfl) e⟩
  | frz ob u ih => obtain ⟨e, q⟩ := x; exact ⟨k _ _ (.inl rfl) e, ih q⟩
  | tbl ps =>
    have e : h.get? a = some { cls := .none, data := .fields ps } := x
    show h'.get? a = some { cls := .none, data := .fields ps }
    exact k a _ (.inl rfl) e
  | met f y =>
    have e : h.get? a = some (PySem.W.methodObj (.ref f) (.ref y)) := x
    show h'.get? a = some (PySem.W.methodObj (.ref f) (.ref y))
    exact k a _ (.inl rfl) e
  | ext φ => obtain ⟨p, ⟨o, e⟩, st⟩ := x; exact ⟨st _ _ p fun o q => k _ _ (.inl rfl) q, ⟨o, k _ _ (.inl rfl) e⟩, st⟩
theorem HOk.lt (x : HOk P w H h) (e : H a = some o) : a < h.objs.size := (x a o e).lt
theorem HOk.fresh (x : HOk P w H h) (e : h.objs.size ≤ a) : H a = none := by
  cases q : H a with
  | none => rfl
  | some u => exact absurd (Nat.lt_of_lt_of_le (x.lt q) e) (Nat.lt_irrefl _)
/-- every object of the heap is kept -/
theorem HOk.kept (x : HOk P w H h) (k : ∀ b u, h.get? b = some u → h'.get? b = some u) : HOk P w H h' := fun a o e =>
  (x a o e).stay (fun b u _ q => k b u q) (fun _ q => q) fun _ _ q => q
/-- a new object is laid and tracked -/
theorem HOk.laid (x : HOk P w H h) (k : ∀ b u, h.get? b = some u → h'.get? b = some u) (hp : h.objs.size ≤ a) (new : ObjOk P w (upd H a o) h' a o) : HOk P w (upd H a o) h' := fun b u e => by
  have hn := x.fresh hp
  by_cases hb : b = a
  · subst hb; rw [upd_same] at e; cases e; exact new
  · rw [upd_ne hb] at e
    exact (x b u e).stay (fun c v _ q => k c v q) (fun c q => by rw [upd_ne (ne_of_none q hn)]; exact q) fun c xs q => by rw [upd_ne (ne_of_none q hn)]; exact q
end

/-- what may be read as u: it is u, or a known u -/
def Rd (H : Hp) (a : Addr) (u : HO) : Prop := H a = some u ∨ ∃ o, H a = some (.frz o u)
theorem Rd.ok {P : Program} {w : World} {H : Hp} {h : Heap} {a : Addr} {u : HO} (r : Rd H a u) (x : HOk P w H h) : ObjOk P w H h a u := by
  rcases r with r | ⟨o, r⟩
  · exact x a u r
  · obtain ⟨_, q⟩ := x a _ r
    exact q
/-- what may be written -/
def Mut : Option HO → Prop
  | some (.lst _) => True
  | some (.dK _) => True
  | some (.dT _) => True
  | some (.set _ _) => True
  | some (.ins _ _ _) => True
  | some (.ext _) => True
  | _ => False
section
variable {P : Program} {w : World} {H : Hp} {h h' : Heap} {x e : Addr} {o' : HO}
/-- the object at e is changed: x itself, or the dict of the instance x -/
theorem HOk.write (ok : HOk P w H h) (mu : Mut (H x)) (he : e = x ∨ H e = some (.own x)) (k : ∀ b u, b ≠ e → h.get? b = some u → h'.get? b = some u) (heo : ∃ u, h'.get? e = some u)
    (new : ObjOk P w (upd H x o') h' x o') : HOk P w (upd H x o') h' := fun b u q => by
  have nown : ∀ c y, H c = some (.own y) → c ≠ x := fun c y r z => by subst z; rw [r] at mu; exact mu
  have ntup : ∀ c xs, H c = some (.tup xs) → c ≠ x := fun c xs r z => by subst z; rw [r] at mu; exact mu
  by_cases hb : b = x
  · subst hb; rw [upd_same] at q; cases q; exact new
  · rw [upd_ne hb] at q
    by_cases hbe : b = e
    · have q' : H b = some (.own x) := by
        rcases he with z | z
        · exact absurd (hbe.trans z) hb
        · rw [hbe]; exact z
      rw [q] at q'; cases q'
      obtain ⟨v, hv⟩ := heo
      exact ⟨v, by rw [hbe]; exact hv⟩
    · refine (ok b u q).stay (fun c v hc r => k c v ?_ r) (fun c r => by rw [upd_ne (nown c b r)]; exact r) fun c xs r => by rw [upd_ne (ntup c xs r)]; exact r
      rcases hc with rfl | hc
      · exact hbe
      · rintro rfl
        rcases he with z | z
        · exact nown c b hc z
        · rw [hc] at z; cases z; exact hb rfl
end

/-! ### kept unless tracked; of the frames at fs (the callers') the slots may change (an exception that passes writes there); of the records at ex (iterators) nothing is said -/
structure Un (fs ex : List Addr) (H H' : Hp) (h h' : Heap) : Prop where
  keep : ∀ b o, h.get? b = some o → H b = none → b ∉ fs → b ∉ ex → h'.get? b = some o
  slot : ∀ b o, h.get? b = some o → H b = none → b ∈ fs → b ∉ ex → ∃ sl, h'.get? b = some { o with slots := sl }
  free : ∀ b o, h.get? b = some o → H b = none → b ∉ ex → H' b = none
  there : ∀ b o, h.get? b = some o → b ∉ ex → ∃ o', h'.get? b = some o'
  tups : ∀ b xs, H b = some (.tup xs) → H' b = some (.tup xs)
  frzs : ∀ b o u, H b = some (.frz o u) → H' b = some (.frz o u)
  tbls : ∀ b ps, H b = some (.tbl ps) → ∃ more, H' b = some (.tbl (ps ++ more))
section
variable {fs fs' ex ex' : List Addr} {H H1 H2 : Hp} {h h1 h2 h' : Heap} {a x e : Addr} {o : HO}
theorem Un.any (u : Un fs ex H H1 h h1) {b : Addr} {ob : Obj} (q : h.get? b = some ob) (n : H b = none) (hx : b ∉ ex) : ∃ sl, h1.get? b = some { ob with slots := sl } := by
  by_cases hb : b ∈ fs
  · exact u.slot b ob q n hb hx
  · exact ⟨ob.slots, u.keep b ob q n hb hx⟩
theorem Un.kept (k : ∀ b u, h.get? b = some u → h'.get? b = some u) : Un fs ex H H h h' :=
  ⟨fun b ob q _ _ _ => k b ob q, fun b ob q _ _ _ => ⟨ob.slots, k b ob q⟩, fun _ _ _ n _ => n, fun b ob q _ => ⟨ob, k b ob q⟩, fun _ _ q => q, fun _ _ _ q => q, fun _ ps q => ⟨#[], by rw [q]; simp⟩⟩
theorem Un.refl : Un fs ex H H h h := Un.kept fun _ _ q => q
theorem Un.laid (k : ∀ b u, h.get? b = some u → h'.get? b = some u) (hp : h.objs.size ≤ a) (hn : H a = none) : Un fs ex H (upd H a o) h h' where
  keep := fun b u q _ _ _ => k b u q
  slot := fun b u q _ _ _ => ⟨u.slots, k b u q⟩
  free := fun b u q n _ => by rw [upd_ne (Nat.ne_of_lt (Nat.lt_of_lt_of_le (Heap.lt_size q) hp))]; exact n
  there := fun b u q _ => ⟨u, k b u q⟩
  tups := fun b xs q => by rw [upd_ne (ne_of_none q hn)]; exact q
  frzs := fun b u xs q => by rw [upd_ne (ne_of_none q hn)]; exact q
  tbls := fun b ps q => ⟨#[], by rw [upd_ne (ne_of_none q hn), q]; simp⟩
theorem Un.write (mu : Mut (H x)) (he : e = x ∨ H e = some (.own x)) (k : ∀ b u, b ≠ e → h.get? b = some u → h'.get? b = some u) (heo : ∃ u, h'.get? e = some u) : Un fs ex H (upd H x o) h h' := by
  have hx : ∀ b, H b = none → b ≠ x := fun b n z => by subst z; rw [n] at mu; exact mu
  have hb : ∀ b, H b = none → b ≠ e := fun b n z => by
    subst z
    rcases he with r | r
    · exact hx b n r
    · rw [n] at r; cases r
  have hm : ∀ b u, H b = some u → ¬ Mut (some u) → b ≠ x := fun b u q nm z => by subst z; rw [q] at mu; exact nm mu
  refine ⟨fun b u q n _ _ => k b u (hb b n) q, fun b u q n _ _ => ⟨u.slots, k b u (hb b n) q⟩, fun b u q n _ => by rw [upd_ne (hx b n)]; exact n, fun b u q _ => ?_,
    fun b xs q => by rw [upd_ne (hm b _ q fun z => z)]; exact q, fun b u xs q => by rw [upd_ne (hm b _ q fun z => z)]; exact q, fun b ps q => ⟨#[], by rw [upd_ne (hm b _ q fun z => z), q]; simp⟩⟩
  by_cases hbe : b = e
  · subst hbe; exact heo
  · exact ⟨u, k b u hbe q⟩
end

/-! ### the heap without what is tracked -/
def trk (h : Heap) (H : Hp) : List Addr := (List.range h.objs.size).filter fun a => (H a).isSome
def hidT (h : Heap) (H : Hp) : Heap := PySem.W.hideAll h (trk h H)
theorem hidT_size (h : Heap) (H : Hp) : (hidT h H).objs.size = h.objs.size := PySem.W.hideAll_size _ _
theorem hidT_get {h : Heap} {H : Hp} {b : Addr} {o : Obj} (e : h.get? b = some o) (n : H b = none) : (hidT h H).get? b = some o :=
  PySem.W.hideAll_get _ e fun hm => by
    have q : (H b).isSome = true := (List.mem_filter.mp hm).2
    rw [n] at q; simp at q
theorem of_hidT {h : Heap} {H : Hp} {b : Addr} {o : Obj} (e : (hidT h H).get? b = some o) : h.get? b = some o ∧ H b = none := by
  have e' : h.get? b = some o := PySem.W.of_hideAll (trk h H) e
  refine ⟨e', ?_⟩
  cases q : H b with
  | none => rfl
  | some x =>
    have hm : b ∈ trk h H := List.mem_filter.mpr ⟨List.mem_range.mpr (Heap.lt_size e'), by simp [q]⟩
    have z : (hidT h H).get? b = none := PySem.W.hideAll_none (trk h H) hm
    rw [z] at e; cases e

/-! ### OpenK's ledger, filled with every new object but one -/
end L2

namespace L2
open PySem PySem.Spec PyProof.Rows

/-- the module's facts, over the base: the heap at the law's entry without what is tracked there -/
structure Mod (K : PySem.W.Frag) (mg : Str → Option Value) (base : Heap) : Prop where
  kin : K.In base
  glob : base.Ns mainGlobals mg
  blt : ∃ mb, base.Ns builtinsNs mb ∧ ∀ x : Str, x ≠ "__name__" → mb x = bootBuiltins x
  nolimit : base.NoLimit

/-- the context: a def's body (or a comprehension's block) running. base: fixed through the whole law; s₀, H₀: the entry; outer: the frames whose slots others may change (a def's callers); stack: all frames that run;
   ex: iterators that were made ahead of the entry and are walked here (a comprehension's); fn: the names whose cells were made at the entry (a def: all; a comprehension's block: its own); calm: not within an except suite; pn: pins that every state bears; xe: what is wanted of an exception that leaves the code -/
structure Cx where
  prog : Program
  w : World
  K : PySem.W.Frag
  mg : Str → Option Value
  base : Heap
  A : Around
  N : List Str
  s₀ : Shared
  H₀ : Hp
  env : Env
  outer : List Env
  stack : List Env
  ex : List Addr
  fn : Str → Bool
  calm : Bool
  pn : List (Addr × Obj)
  xe : Value → Shared → Prop
/-- the callers' frames -/
def frs (l : List Env) : List Addr := l.filterMap (·.frame)
abbrev Cx.fs (X : Cx) : List Addr := frs X.outer

def Vis (sc : Scope) (x : Str) : Prop := sc.names.lookup x = some .local ∨ sc.names.lookup x = some .cell ∨ sc.names.lookup x = some .free
def Loc (sc : Scope) (x : Str) : Prop := sc.names.lookup x = some .local ∨ sc.names.lookup x = some .cell
def Look (env : Env) (h : Heap) (m : Str → Option Value) (x : Str) (u : Value) : Prop :=
  (env.kindOf x = some .local ∧ m x = some u) ∨ ((env.kindOf x = some .cell ∨ env.kindOf x = some .free) ∧ ∃ c, env.cells.lookup x = some c ∧ h.IsCell c (some u))

structure Cx.Ok (X : Cx) : Prop where
  mod : Mod X.K X.mg X.base
  kind : X.env.scope.kind = .function
  glob : X.env.globals = mainGlobals
  blt : X.env.builtins = builtinsNs
  above : X.s₀.heap.objs.size ≤ X.env.locals
  inj : ∀ x y c, X.env.cells.lookup x = some c → X.env.cells.lookup y = some c → x = y
  has : ∀ x, (X.env.kindOf x = some .cell ∨ X.env.kindOf x = some .free) → ∃ c, X.env.cells.lookup x = some c
  cab : ∀ x c, X.fn x = true → X.env.cells.lookup x = some c → X.s₀.heap.objs.size ≤ c
  hd : X.calm = true → X.A.handled = none
  frames : X.A.frames = some X.stack
  stk : X.stack = X.outer ∨ (X.stack = X.env :: X.outer ∧ X.env.frame = some X.env.locals)
  exf : ∀ b ∈ X.ex, b ≠ X.env.locals ∧ ∀ x c, X.env.cells.lookup x = some c → c ≠ b
  bs : ∀ b o, X.base.get? b = some o → X.s₀.heap.get? b = some o ∧ X.H₀ b = none
  bsz : X.base.objs.size ≤ X.s₀.heap.objs.size
  noex : ∀ b o, X.base.get? b = some o → b ∉ X.ex
  exfs : ∀ b ∈ X.ex, b ∉ X.fs
  funs : X.s₀.heap.FunFrames X.base X.outer
  frf : ∀ b ∈ X.fs, X.H₀ b = none

structure Inv (X : Cx) (pins : List (Addr × Obj)) (σ : List (Option V)) (H : Hp) (s : Shared) : Prop where
  ok : X.Ok
  os : s.os = X.s₀.os
  bare : AllBare s.gens
  base : Un X.fs X.ex X.H₀ H X.s₀.heap s.heap
  loc : ∃ m, s.heap.Ns X.env.locals m ∧ ∀ (i : Nat) (x : Str) (v : V), X.N[i]? = some x → σ[i]? = some (some v) → Vis X.env.scope x → ∃ u, RelV v u ∧ Look X.env s.heap m x u
  cell : ∀ x c, X.env.cells.lookup x = some c → ∃ v, s.heap.IsCell c v
  free : H X.env.locals = none
  freeC : ∀ x c, X.env.cells.lookup x = some c → H c = none
  pin : ∀ p ∈ X.pn ++ pins, s.heap.get? p.1 = some p.2 ∧ H p.1 = none ∧ p.1 ≠ X.env.locals ∧ p.1 ∉ X.fs ∧ ∀ v, p.2.data ≠ .cell v
  hok : HOk X.prog X.w H s.heap
  len : σ.length = X.N.length

section
variable {X : Cx} {pins : List (Addr × Obj)} {σ : List (Option V)} {H H' : Hp} {s : Shared} {h' : Heap}

theorem Cx.Ok.nofr (ok : X.Ok) {b : Addr} {o : Obj} (e : X.base.get? b = some o) : b ∉ X.fs := fun hb => by
  have := (ok.funs.mem hb).1
  rw [e] at this; cases this
theorem Inv.bs (I : Inv X pins σ H s) : ∀ b o, X.base.get? b = some o → s.heap.get? b = some o ∧ H b = none := fun b o e =>
  ⟨I.base.keep b o (I.ok.bs b o e).1 (I.ok.bs b o e).2 (I.ok.nofr e) (I.ok.noex b o e), I.base.free b o (I.ok.bs b o e).1 (I.ok.bs b o e).2 (I.ok.noex b o e)⟩
theorem Inv.bk (I : Inv X pins σ H s) : ∀ b o, X.base.get? b = some o → s.heap.get? b = some o := fun b o e => (I.bs b o e).1
theorem Inv.mod (I : Inv X pins σ H s) : Mod X.K X.mg X.base := I.ok.mod
theorem Inv.kIn (I : Inv X pins σ H s) : X.K.In s.heap := I.ok.mod.kin.keeps I.bk
theorem Inv.lt (I : Inv X pins σ H s) : X.env.locals < s.heap.objs.size := let ⟨_, hn, _⟩ := I.loc; hn.lt
theorem Inv.sz (I : Inv X pins σ H s) : X.s₀.heap.objs.size ≤ s.heap.objs.size := Nat.le_trans I.ok.above (Nat.le_of_lt I.lt)
theorem Inv.nofs (I : Inv X pins σ H s) {a : Addr} (h : s.heap.objs.size ≤ a) : a ∉ X.fs := fun hb => by
  obtain ⟨_, o, ho, _⟩ := I.ok.funs.mem hb
  exact absurd (Nat.lt_of_lt_of_le (Heap.lt_size ho) (Nat.le_trans I.sz h)) (Nat.lt_irrefl _)
theorem Inv.cne (I : Inv X pins σ H s) : ∀ x c, X.env.cells.lookup x = some c → c ≠ X.env.locals := fun x c e z => by
  obtain ⟨v, o, ho, hd⟩ := I.cell x c e
  obtain ⟨m, ⟨o', es, ep, ho', hd', _⟩, _⟩ := I.loc
  rw [z, ho'] at ho; cases ho; rw [hd'] at hd; cases hd
theorem Inv.funs (I : Inv X pins σ H s) : s.heap.FunFrames X.base X.outer := by
  have all : ∀ (l : List Env), (∀ b ∈ frs l, b ∈ X.fs) → X.s₀.heap.FunFrames X.base l → s.heap.FunFrames X.base l := by
    intro l
    induction l with
    | nil => intro _ _; trivial
    | cons env r ih =>
      intro hs hl
      obtain ⟨hk, ⟨L, o, hf, hn, ho, hd⟩, hr⟩ := hl
      have hL : L ∈ X.fs := hs L (by unfold frs; rw [List.filterMap_cons, hf]; exact List.mem_cons_self)
      obtain ⟨sl, e⟩ := I.base.slot L o ho (I.ok.frf L hL) hL fun z => I.ok.exfs L z hL
      exact ⟨hk, ⟨L, _, hf, hn, e, hd⟩, ih (fun b hb => hs b (by unfold frs; rw [List.filterMap_cons, hf]; exact List.mem_cons_of_mem _ hb)) hr⟩
  exact all X.outer (fun _ hb => hb) I.ok.funs

/-- the frames that run, for a call -/
theorem Inv.stack (I : Inv X pins σ H s) : s.heap.FunFrames X.base X.stack := by
  rcases I.ok.stk with e | ⟨e, hf⟩
  · rw [e]; exact I.funs
  · rw [e]
    obtain ⟨m, hn, _⟩ := I.loc
    refine .cons (by rw [I.ok.kind]; decide) hf hn ?_ I.funs
    exact Heap.get?_none_of_le (Nat.le_trans I.ok.bsz I.ok.above)
theorem Inv.stkSub (I : Inv X pins σ H s) : ∀ b ∈ frs X.stack, b ∈ X.env.locals :: X.fs := fun b hb => by
  rcases I.ok.stk with e | ⟨e, hf⟩
  · rw [e] at hb; exact List.mem_cons_of_mem _ hb
  · rw [e] at hb
    unfold frs at hb
    rw [List.filterMap_cons, hf] at hb
    exact hb
theorem Inv.stkFree (I : Inv X pins σ H s) : ∀ b ∈ frs X.stack, H b = none := fun b hb => by
  rcases List.mem_cons.mp (I.stkSub b hb) with e | hb
  · rw [e]; exact I.free
  · obtain ⟨_, o, ho, _⟩ := I.ok.funs.mem hb
    exact I.base.free b o ho (I.ok.frf b hb) fun z => I.ok.exfs b z hb

/-- THE STEP: the untracked objects but the frame and the records at ch are kept (the callers' frames up to slots), the frame's map is kept, the new abstract heap is held -/
theorem Inv.step {g' : Array GenState} {t' : Nat} {d' : Drawn} {ch : List Addr} (I : Inv X pins σ H s)
    (hch : ∀ b ∈ ch, (b ∈ X.ex ∨ X.s₀.heap.objs.size ≤ b) ∧ b ≠ X.env.locals ∧ (∀ x c, X.env.cells.lookup x = some c → c ≠ b) ∧ ∀ p ∈ X.pn ++ pins, p.1 ≠ b)
    (keep : ∀ b o, b ≠ X.env.locals → b ∉ X.fs → b ∉ ch → s.heap.get? b = some o → H b = none → h'.get? b = some o)
    (slot : ∀ b o, b ≠ X.env.locals → b ∈ X.fs → b ∉ ch → s.heap.get? b = some o → H b = none → ∃ sl, h'.get? b = some { o with slots := sl }) (free : ∀ b o, b ∉ ch → s.heap.get? b = some o → H b = none → H' b = none)
    (there : ∀ b o, b ∉ ch → s.heap.get? b = some o → ∃ o', h'.get? b = some o')
    (tups : ∀ b xs, H b = some (.tup xs) → H' b = some (.tup xs)) (frzs : ∀ b o u, H b = some (.frz o u) → H' b = some (.frz o u)) (tbls : ∀ b ps, H b = some (.tbl ps) → ∃ more, H' b = some (.tbl (ps ++ more)))
    (ns : ∀ m, s.heap.Ns X.env.locals m → h'.Ns X.env.locals m) (hok : HOk X.prog X.w H' h') (hg : AllBare g') :
    Inv X pins σ H' { s with heap := h', gens := g', drawn := d', toks := t' } := by
  have neL : ∀ b o, X.s₀.heap.get? b = some o → b ≠ X.env.locals := fun b o e => Nat.ne_of_lt (Nat.lt_of_lt_of_le (Heap.lt_size e) I.ok.above)
  have neC : ∀ b o, X.s₀.heap.get? b = some o → b ∉ X.ex → b ∉ ch := fun b o e hx hb => by
    rcases (hch b hb).1 with z | z
    · exact hx z
    · exact absurd (Nat.lt_of_lt_of_le (Heap.lt_size e) z) (Nat.lt_irrefl _)
  have cellK : ∀ x c, X.env.cells.lookup x = some c → ∀ v, s.heap.IsCell c v → h'.IsCell c v := fun x c e v ⟨o, ho, hd⟩ => by
    have nch : c ∉ ch := fun z => (hch c z).2.2.1 x c e rfl
    by_cases hc : c ∈ X.fs
    · obtain ⟨sl, q⟩ := slot c o (I.cne x c e) hc nch ho (I.freeC x c e)
      exact ⟨_, q, hd⟩
    · exact ⟨o, keep c o (I.cne x c e) hc nch ho (I.freeC x c e), hd⟩
  refine ⟨I.ok, I.os, hg, ⟨fun b o e n hb hx => ?_, fun b o e n hb hx => ?_, fun b o e n hx => ?_, fun b o e hx => ?_, fun b xs e => tups b xs (I.base.tups b xs e), fun b o xs e => frzs b o xs (I.base.frzs b o xs e), fun b ps e => ?_⟩, ?_, fun x c e => ?_, ?_, fun x c e => ?_, fun p hp => ?_, hok, I.len⟩
  · exact keep b o (neL b o e) hb (neC b o e hx) (I.base.keep b o e n hb hx) (I.base.free b o e n hx)
  · obtain ⟨sl, e1⟩ := I.base.slot b o e n hb hx
    obtain ⟨sl', e2⟩ := slot b _ (neL b o e) hb (neC b o e hx) e1 (I.base.free b o e n hx)
    exact ⟨sl', e2⟩
  · obtain ⟨o', e1⟩ := I.base.there b o e hx
    exact free b o' (neC b o e hx) e1 (I.base.free b o e n hx)
  · obtain ⟨o', e1⟩ := I.base.there b o e hx
    exact there b o' (neC b o e hx) e1
  · obtain ⟨m1, e1⟩ := I.base.tbls b ps e
    obtain ⟨m2, e2⟩ := tbls b _ e1
    exact ⟨m1 ++ m2, by rw [e2, Array.append_assoc]⟩
  · obtain ⟨m, hn, hl⟩ := I.loc
    refine ⟨m, ns m hn, fun i x v e1 e2 e3 => ?_⟩
    obtain ⟨u, r, l⟩ := hl i x v e1 e2 e3
    refine ⟨u, r, ?_⟩
    rcases l with l | ⟨k, c, e, z⟩
    · exact .inl l
    · exact .inr ⟨k, c, e, cellK x c e _ z⟩
  · obtain ⟨v, z⟩ := I.cell x c e
    exact ⟨v, cellK x c e v z⟩
  · obtain ⟨m, ⟨o, _, _, ho, _⟩, _⟩ := I.loc
    exact free _ o (fun z => (hch _ z).2.1 rfl) ho I.free
  · obtain ⟨v, o, ho, hd⟩ := I.cell x c e
    exact free c o (fun z => (hch c z).2.2.1 x c e rfl) ho (I.freeC x c e)
  · obtain ⟨e, n, ne, nf, d⟩ := I.pin p hp
    have nch : p.1 ∉ ch := fun z => (hch p.1 z).2.2.2 p hp rfl
    exact ⟨keep p.1 p.2 ne nf nch e n, free p.1 p.2 nch e n, ne, nf, d⟩
/-- .. where the frame's own object is kept too -/
theorem Inv.un {t' : Nat} (I : Inv X pins σ H s) (u : Un X.fs [] H H' s.heap h') (hok : HOk X.prog X.w H' h') : Inv X pins σ H' { s with heap := h', toks := t' } := by
  obtain ⟨m, ⟨o, es, ep, ho, r⟩, _⟩ := id I.loc
  obtain ⟨sl, hL⟩ := u.any ho I.free (by simp)
  exact I.step (g' := s.gens) (d' := s.drawn) (ch := []) (fun _ z => nomatch z) (fun b o _ hb _ e n => u.keep b o e n hb (by simp)) (fun b o _ hb _ e n => u.slot b o e n hb (by simp)) (fun b o _ e n => u.free b o e n (by simp)) (fun b o _ e => u.there b o e (by simp)) u.tups u.frzs u.tbls (fun m' hm => by
    obtain ⟨o', es', ep', ho', r'⟩ := hm
    rw [ho] at ho'; cases ho'
    exact ⟨_, es', ep', hL, r'⟩) hok I.bare
/-- behind a call (or a comprehension's block): the slots of this frame may have changed too, the records at ch may have turned -/
theorem Inv.call {g' : Array GenState} {t' : Nat} {d' : Drawn} {ch : List Addr} (I : Inv X pins σ H s) (u : Un (frs X.stack) ch H H' s.heap h') (hok : HOk X.prog X.w H' h') (hg : AllBare g')
    (hch : ∀ b ∈ ch, (b ∈ X.ex ∨ X.s₀.heap.objs.size ≤ b) ∧ b ≠ X.env.locals ∧ (∀ x c, X.env.cells.lookup x = some c → c ≠ b) ∧ ∀ p ∈ X.pn ++ pins, p.1 ≠ b) :
    Inv X pins σ H' { s with heap := h', gens := g', drawn := d', toks := t' } := by
  obtain ⟨m, ⟨o, es, ep, ho, r⟩, _⟩ := id I.loc
  obtain ⟨sl, hL⟩ := u.any ho I.free fun z => (hch _ z).2.1 rfl
  exact I.step (ch := ch) hch (fun b o hL hb hc e n => u.keep b o e n (fun z => (List.mem_cons.mp (I.stkSub b z)).elim hL hb) hc) (fun b o _ _ hc e n => u.any e n hc) (fun b o hc e n => u.free b o e n hc) (fun b o hc e => u.there b o e hc) u.tups u.frzs u.tbls (fun m' hm => by
    obtain ⟨o', es', ep', ho', r'⟩ := hm
    rw [ho] at ho'; cases ho'
    exact ⟨_, es', ep', hL, r'⟩) hok hg
/-- an untracked record of ours (an iterator) has turned -/
theorem Inv.turned {t' : Nat} {it : Addr} (I : Inv X pins σ H s) (k : ∀ b o, b ≠ it → s.heap.get? b = some o → h'.get? b = some o) (hn : H it = none) (hL : it ≠ X.env.locals)
    (h1 : it ∈ X.ex ∨ X.s₀.heap.objs.size ≤ it) (h2 : ∀ x c, X.env.cells.lookup x = some c → c ≠ it) (h3 : ∀ p ∈ X.pn ++ pins, p.1 ≠ it) : Inv X pins σ H { s with heap := h', toks := t' } := by
  have nit : ∀ b u, H b = some u → b ≠ it := fun b u e z => by rw [z, hn] at e; cases e
  refine I.step (g' := s.gens) (d' := s.drawn) (ch := [it]) (fun b hb => ?_) (fun b o _ _ hc e _ => k b o (fun z => hc (by simp [z])) e) (fun b o _ _ hc e _ => ⟨o.slots, k b o (fun z => hc (by simp [z])) e⟩) (fun _ _ _ _ n => n)
    (fun b o hc e => ⟨o, k b o (fun z => hc (by simp [z])) e⟩) (fun _ _ e => e) (fun _ _ _ e => e) (fun b ps e => ⟨#[], by rw [e]; simp⟩) (fun m hm => ?_) (fun b u e => ?_) I.bare
  · have e : b = it := by simpa using hb
    subst e
    exact ⟨h1, hL, h2, h3⟩
  · obtain ⟨o, es, ep, ho, r⟩ := hm
    exact ⟨o, es, ep, k _ o (Ne.symm hL) ho, r⟩
  · refine (I.hok b u e).stay (fun c v hc q => k c v ?_ q) (fun _ q => q) fun _ _ q => q
    rcases hc with z | z
    · rw [z]; exact nit b u e
    · exact nit c _ z
theorem Inv.tok (I : Inv X pins σ H s) (t : Nat) : Inv X pins σ H { s with toks := t } := I.un (h' := s.heap) (t' := t) Un.refl I.hok
/-- all objects kept -/
theorem Inv.kept {t' : Nat} (I : Inv X pins σ H s) (k : ∀ b u, s.heap.get? b = some u → h'.get? b = some u) : Inv X pins σ H { s with heap := h', toks := t' } := I.un (Un.kept k) (I.hok.kept k)
/-- a new object laid and tracked -/
theorem Inv.laid {a : Addr} {o : HO} {t' : Nat} (I : Inv X pins σ H s) (k : ∀ b u, s.heap.get? b = some u → h'.get? b = some u) (hp : s.heap.objs.size ≤ a) (new : ObjOk X.prog X.w (upd H a o) h' a o) :
    Inv X pins σ (upd H a o) { s with heap := h', toks := t' } := I.un (Un.laid k hp (I.hok.fresh hp)) (I.hok.laid k hp new)
/-- an object written -/
theorem Inv.write {x e : Addr} {o : HO} {t' : Nat} (I : Inv X pins σ H s) (mu : Mut (H x)) (he : e = x ∨ H e = some (.own x)) (k : ∀ b u, b ≠ e → s.heap.get? b = some u → h'.get? b = some u) (heo : ∃ u, h'.get? e = some u)
    (new : ObjOk X.prog X.w (upd H x o) h' x o) : Inv X pins σ (upd H x o) { s with heap := h', toks := t' } := I.un (Un.write mu he k heo) (I.hok.write mu he k heo new)
theorem Inv.pins_of {pins' : List (Addr × Obj)} (I : Inv X pins σ H s) (h : ∀ p ∈ pins', s.heap.get? p.1 = some p.2 ∧ H p.1 = none ∧ p.1 ≠ X.env.locals ∧ p.1 ∉ X.fs ∧ ∀ v, p.2.data ≠ .cell v) : Inv X pins' σ H s :=
  ⟨I.ok, I.os, I.bare, I.base, I.loc, I.cell, I.free, I.freeC, fun p hp => (List.mem_append.mp hp).elim (fun z => I.pin p (List.mem_append_left _ z)) (h p), I.hok, I.len⟩

theorem nodup_ix {N : List Str} (hN : N.Nodup) {i j : Nat} {x : Str} (a : N[i]? = some x) (b : N[j]? = some x) : i = j := by
  obtain ⟨h1, e1⟩ := List.getElem?_eq_some_iff.mp a
  obtain ⟨h2, e2⟩ := List.getElem?_eq_some_iff.mp b
  exact (List.getElem_inj hN).mp (e1.trans e2.symm)

/-- a name is stored; what changed -/
theorem store_ok2 {M : Model} {A : Around} {E : Value → Shared → Prop} {i : Nat} {x : Str} {v : V} {u : Value} {Q : Unit → Shared → Prop} (I : Inv X pins σ H s) (hN : X.N.Nodup) (hi : X.N[i]? = some x) (hx : Loc X.env.scope x) (r : RelV v u)
    (h : ∀ s', Inv X pins (σ.set i (some v)) H s' → (∃ a, Heap.SameBut a s.heap s'.heap ∧ (a = X.env.locals ∨ X.env.cells.lookup x = some a)) → Q () s') (hf : X.fn x = true ∨ X.env.scope.names.lookup x = some .local := by first | exact .inl rfl | exact .inr rfl | assumption) : wpAny M A (storeName X.env x u) Q E s := by
  obtain ⟨m, hn, hl⟩ := id I.loc
  have hcls : (X.env.scope.kind == .class || (X.env.scope.kind == .module && X.env.locals != X.env.globals)) = false := by rw [I.ok.kind]; rfl
  have hiσ : i < σ.length := by rw [I.len]; exact (List.getElem?_eq_some_iff.mp hi).1
  have cne := I.cne
  have tracked : ∀ {a : Addr} {h' : Heap}, (∃ o, s.heap.get? a = some o ∧ H a = none) → Heap.SameBut a s.heap h' → HOk X.prog X.w H h' := fun {a h'} ha hs b ob e => by
    obtain ⟨_, _, hfree⟩ := ha
    refine (I.hok b ob e).stay (fun c w' hc q => (hs.2 c ?_).trans q) (fun _ q => q) fun _ _ q => q
    rintro rfl
    rcases hc with rfl | hc
    · rw [hfree] at e; cases e
    · rw [hfree] at hc; cases hc
  rcases hx with hk | hk
  · refine wpAny_storeName_local hk hn (fun h' hn' hs => ?_) hcls
    obtain ⟨oL, _, _, hoL, _⟩ := id hn
    refine h _ ⟨I.ok, I.os, I.bare, ⟨fun b o e n hb hx => ?_, fun b o e n hb hx => ?_, I.base.free, fun b o e hx => ?_, I.base.tups, I.base.frzs, I.base.tbls⟩, ⟨_, hn', fun j y v' e1 e2 e3 => ?_⟩, fun y c e => ?_, I.free, I.freeC, fun p hp => ?_, tracked ⟨oL, hoL, I.free⟩ hs, by simpa using I.len⟩ ⟨_, hs, .inl rfl⟩
    · exact (hs.2 b (Nat.ne_of_lt (Nat.lt_of_lt_of_le (Heap.lt_size e) I.ok.above))).trans (I.base.keep b o e n hb hx)
    · obtain ⟨sl, e1⟩ := I.base.slot b o e n hb hx
      exact ⟨sl, (hs.2 b (Nat.ne_of_lt (Nat.lt_of_lt_of_le (Heap.lt_size e) I.ok.above))).trans e1⟩
    · obtain ⟨o', e1⟩ := I.base.there b o e hx
      exact ⟨o', (hs.2 b (Nat.ne_of_lt (Nat.lt_of_lt_of_le (Heap.lt_size e) I.ok.above))).trans e1⟩
    · by_cases hj : j = i
      · subst hj
        rw [hi] at e1; cases e1
        rw [List.getElem?_set_self hiσ] at e2
        cases e2
        exact ⟨u, r, .inl ⟨hk, by simp⟩⟩
      · rw [List.getElem?_set_ne (Ne.symm hj)] at e2
        obtain ⟨u', r', q⟩ := hl j y v' e1 e2 e3
        refine ⟨u', r', ?_⟩
        rcases q with ⟨k, e⟩ | ⟨k, c, e, z⟩
        · refine .inl ⟨k, ?_⟩
          have : y ≠ x := fun e => hj (nodup_ix hN e1 (e ▸ hi))
          simp [this, e]
        · exact .inr ⟨k, c, e, z.sameBut hs (cne y c e)⟩
    · obtain ⟨w', z⟩ := I.cell y c e
      exact ⟨w', z.sameBut hs (cne y c e)⟩
    · obtain ⟨e, n, ne, nf, d⟩ := I.pin p hp
      exact ⟨(hs.2 p.1 ne).trans e, n, ne, nf, d⟩
  · have hfn : X.fn x = true := by
      rcases hf with z | z
      · exact z
      · rw [z] at hk; cases hk
    obtain ⟨c, hc⟩ := I.ok.has x (.inl hk)
    obtain ⟨w', z⟩ := I.cell x c hc
    refine wpAny_storeName_cell I.ok.kind hk hc z (fun h' hc' hs => ?_)
    obtain ⟨oc, hoc, hocd⟩ := id z
    refine h { s with heap := h' } ⟨I.ok, I.os, I.bare, ⟨fun b o e n hb hx => ?_, fun b o e n hb hx => ?_, I.base.free, fun b o e hx => ?_, I.base.tups, I.base.frzs, I.base.tbls⟩, ⟨m, hn.sameBut hs (Ne.symm (cne x c hc)), fun j y v' e1 e2 e3 => ?_⟩, fun y c' e => ?_, I.free, I.freeC, fun p hp => ?_, tracked ⟨oc, hoc, I.freeC x c hc⟩ hs, by simpa using I.len⟩ ⟨c, hs, .inr hc⟩
    · exact (hs.2 b (Nat.ne_of_lt (Nat.lt_of_lt_of_le (Heap.lt_size e) (I.ok.cab x c hfn hc)))).trans (I.base.keep b o e n hb hx)
    · obtain ⟨sl, e1⟩ := I.base.slot b o e n hb hx
      exact ⟨sl, (hs.2 b (Nat.ne_of_lt (Nat.lt_of_lt_of_le (Heap.lt_size e) (I.ok.cab x c hfn hc)))).trans e1⟩
    · obtain ⟨o', e1⟩ := I.base.there b o e hx
      exact ⟨o', (hs.2 b (Nat.ne_of_lt (Nat.lt_of_lt_of_le (Heap.lt_size e) (I.ok.cab x c hfn hc)))).trans e1⟩
    · by_cases hj : j = i
      · subst hj
        rw [hi] at e1; cases e1
        rw [List.getElem?_set_self hiσ] at e2
        cases e2
        exact ⟨u, r, .inr ⟨.inl hk, c, hc, hc'⟩⟩
      · rw [List.getElem?_set_ne (Ne.symm hj)] at e2
        obtain ⟨u', r', q⟩ := hl j y v' e1 e2 e3
        refine ⟨u', r', ?_⟩
        rcases q with q | ⟨k, c', e, z'⟩
        · exact .inl q
        · refine .inr ⟨k, c', e, z'.sameBut hs ?_⟩
          rintro rfl
          exact hj (nodup_ix hN e1 (I.ok.inj _ _ _ e hc ▸ hi))
    · by_cases hcc : c' = c
      · subst hcc; exact ⟨_, hc'⟩
      · obtain ⟨w2, z2⟩ := I.cell y c' e
        exact ⟨w2, z2.sameBut hs hcc⟩
    · obtain ⟨e, n, ne, nf, d⟩ := I.pin p hp
      refine ⟨(hs.2 p.1 ?_).trans e, n, ne, nf, d⟩
      intro q
      rw [q, hoc] at e
      have q' : oc = p.2 := Option.some.inj e
      exact d w' (by rw [← q']; exact hocd)
theorem store_ok {M : Model} {A : Around} {E : Value → Shared → Prop} {i : Nat} {x : Str} {v : V} {u : Value} {Q : Unit → Shared → Prop} (I : Inv X pins σ H s) (hN : X.N.Nodup) (hi : X.N[i]? = some x) (hx : Loc X.env.scope x) (r : RelV v u)
    (h : ∀ s', Inv X pins (σ.set i (some v)) H s' → Q () s') (hf : X.fn x = true ∨ X.env.scope.names.lookup x = some .local := by first | exact .inl rfl | exact .inr rfl | assumption) : wpAny M A (storeName X.env x u) Q E s :=
  store_ok2 I hN hi hx r (fun s' I' _ => h s' I') hf
/-- behind a call or a block, the state as it is -/
theorem Inv.call' {s' : Shared} {ch : List Addr} (I : Inv X pins σ H s) (ho : s'.os = s.os) (u : Un (frs X.stack) ch H H' s.heap s'.heap) (hok : HOk X.prog X.w H' s'.heap) (hg : AllBare s'.gens)
    (hch : ∀ b ∈ ch, (b ∈ X.ex ∨ X.s₀.heap.objs.size ≤ b) ∧ b ≠ X.env.locals ∧ (∀ x c, X.env.cells.lookup x = some c → c ≠ b) ∧ ∀ p ∈ X.pn ++ pins, p.1 ≠ b) : Inv X pins σ H' s' := by
  obtain ⟨h', g', d', t', o'⟩ := s'
  have e : o' = s.os := ho
  subst e
  exact I.call (g' := g') (t' := t') (d' := d') u hok hg hch
end

/-! ### the judgements -/
/-- an exception: its class, its own dict's address (where it has one), the abstract heap behind it -/
abbrev XK := Value → Option Addr → Hp → Prop
abbrev St := List (Option V)
abbrev VK := V → Hp → Prop
/-- an expression's reading; a test's; an argument list's -/
abbrev TE := St → Hp → VK → Prop
abbrev TT := St → Hp → (Bool → Hp → Prop) → Prop
abbrev TA := St → Hp → (List V → Hp → Prop) → Prop
/-- what is wanted behind a statement -/
structure Ends where
  nx : St → Hp → Prop
  rt : VK
  bk : St → Hp → Prop := fun _ _ => False
  ct : St → Hp → Prop := fun _ _ => False
abbrev TS := Ends → St → Hp → Prop

def EP (X : Cx) (pins : List (Addr × Obj)) (σ : St) (Q : VK) (u : Value) (s' : Shared) : Prop := ∃ v H', Inv X pins σ H' s' ∧ RelV v u ∧ Q v H'
def TP (X : Cx) (pins : List (Addr × Obj)) (σ : St) (Q : Bool → Hp → Prop) (b : Bool) (s' : Shared) : Prop := ∃ H', Inv X pins σ H' s' ∧ Q b H'
def AP (X : Cx) (pins : List (Addr × Obj)) (σ : St) (Q : List V → Hp → Prop) (us : List Value) (s' : Shared) : Prop := ∃ vs H', Inv X pins σ H' s' ∧ Vals vs us ∧ Q vs H'
def SP (X : Cx) (pins : List (Addr × Obj)) (D : Ends) (f : Flow) (s' : Shared) : Prop :=
  match f with
  | .next => ∃ σ' H', Inv X pins σ' H' s' ∧ D.nx σ' H'
  | .brk => ∃ σ' H', Inv X pins σ' H' s' ∧ D.bk σ' H'
  | .cont => ∃ σ' H', Inv X pins σ' H' s' ∧ D.ct σ' H'
  | .ret u => ∃ v σ' H', Inv X pins σ' H' s' ∧ RelV v u ∧ D.rt v H'

def PE (X : Cx) (e : Expr) (t : TE) : Prop :=
  ∀ (pins : List (Addr × Obj)) (s : Shared) (σ : St) (H : Hp) (Q : VK), Inv X pins σ H s → t σ H Q → wpAny (model X.prog X.w) X.A (eval e X.env) (EP X pins σ Q) X.xe s
def PT (X : Cx) (e : Expr) (t : TT) : Prop :=
  ∀ (pins : List (Addr × Obj)) (s : Shared) (σ : St) (H : Hp) (Q : Bool → Hp → Prop), Inv X pins σ H s → t σ H Q → wpAny (model X.prog X.w) X.A (isTrue e X.env (eval e X.env)) (TP X pins σ Q) X.xe s
/-- a test whatever its 'whole' is (and, or) -/
def PW (X : Cx) (e : Expr) (t : TT) : Prop :=
  ∀ (whole : Sem Value) (pins : List (Addr × Obj)) (s : Shared) (σ : St) (H : Hp) (Q : Bool → Hp → Prop), Inv X pins σ H s → t σ H Q → wpAny (model X.prog X.w) X.A (isTrue e X.env whole) (TP X pins σ Q) X.xe s
theorem PW.pt {X : Cx} {e : Expr} {t : TT} (h : PW X e t) : PT X e t := h _
/-- an argument list (no star), from the left -/
def PA (X : Cx) (es : List Expr) (t : TA) : Prop :=
  ∀ (pos : Pos) (pins : List (Addr × Obj)) (s : Shared) (σ : St) (H : Hp) (Q : List V → Hp → Prop), Inv X pins σ H s → t σ H Q → wpAny (model X.prog X.w) X.A (spliced (backTo pos (starEach es X.env))) (AP X pins σ Q) X.xe s
def PS (X : Cx) (st : Stmt) (t : TS) : Prop :=
  ∀ (pins : List (Addr × Obj)) (s : Shared) (σ : St) (H : Hp) (D : Ends), Inv X pins σ H s → t D σ H → wpAny (model X.prog X.w) X.A (exec st X.env) (SP X pins D) X.xe s
def PSs (X : Cx) (st : List Stmt) (t : TS) : Prop :=
  ∀ (pins : List (Addr × Obj)) (s : Shared) (σ : St) (H : Hp) (D : Ends), Inv X pins σ H s → t D σ H → wpAny (model X.prog X.w) X.A (execs st X.env) (SP X pins D) X.xe s
/-- weaken the end -/
theorem thn {α : Type} {t : Sem α} {Q Q' : α → Shared → Prop} {M : Model} {A : Around} {E : Value → Shared → Prop} {s : Shared} (h : wpAny M A t Q E s) (hQ : ∀ a s, Q a s → Q' a s) : wpAny M A t Q' E s := wpAny_mono h hQ fun _ _ x => x
end L2

namespace L2
open PySem PySem.Spec PyProof.Rows
section
variable {X : Cx}


/-! ### names and constants -/
def tVar (i : Nat) : TE := fun σ H Q => ∃ v, σ[i]? = some (some v) ∧ Q v H
def tC (v : V) : TE := fun _ H Q => Q v H
theorem pe_var {i : Nat} {x : Str} {pos : Pos} (hN : X.N[i]? = some x) (hv : Vis X.env.scope x) (hd : (x == ("__debug__" : Str)) = false := by decide) (hcd : (x == ("__classdict__" : Str)) = false := by decide) : PE X (.Name x pos) (tVar i) := by
  intro pins s σ H Q I h
  obtain ⟨v, e, h⟩ := h
  obtain ⟨m, hn, hl⟩ := I.loc
  obtain ⟨u, r, l⟩ := hl i x v hN e hv
  have fin : EP X pins σ Q u s := ⟨v, H, I, r, h⟩
  rcases l with ⟨hk, hm⟩ | ⟨hk, c, hc, hcell⟩
  · exact wpAny_Name (wpAny_loadName_local I.ok.kind hk hn hm fin) hd
  · rcases hk with hk | hk
    · exact wpAny_Name (wpAny_loadName_cell I.ok.kind hk hc hcell fin) hd
    · exact wpAny_Name (wpAny_loadName_free I.ok.kind hk hc hcell fin hcd) hd
theorem pe_int {i j pos} : PE X (.Constant (.int i) j pos) (tC (.int i)) := fun _ _ _ H _ I h => wpAny_Constant_int ⟨.int i, H, I.tok _, ⟨_, rfl⟩, h⟩
theorem pe_bl {b j pos} : PE X (.Constant (.bool b) j pos) (tC (.bl b)) := fun _ _ _ H _ I h => Constant_bool ⟨.bl b, H, I, rfl, h⟩
theorem pe_non {j pos} : PE X (.Constant .none j pos) (tC .non) := fun _ _ _ H _ I h => Constant_none ⟨.non, H, I, rfl, h⟩
theorem pe_str {x j pos} : PE X (.Constant (.str x) j pos) (tC (.str x)) := fun _ _ _ H _ I h => Calls.Constant_str ⟨.str x, H, I.tok _, ⟨_, rfl⟩, h⟩

/-- a global name of the def -/
def Gl (X : Cx) (x : Str) : Prop := X.env.kindOf x = some .globalImplicit
theorem ld_glob {E : Value → Shared → Prop} {pins : List (Addr × Obj)} {s : Shared} {σ : St} {H : Hp} {x : Str} {u : Value} {pos : Pos} {Q : Value → Shared → Prop} (I : Inv X pins σ H s) (hg : Gl X x) (hm : X.mg x = some u) (h : Q u s)
    (hd : (x == ("__debug__" : Str)) = false := by decide) : wpAny (model X.prog X.w) X.A (eval (.Name x pos) X.env) Q E s :=
  Calls.Name_function_global I.ok.kind hg (Calls.loadGlobal_global (by rw [I.ok.glob]; exact I.mod.glob.keeps I.bk) hm h) hd
theorem ld_blt {E : Value → Shared → Prop} {pins : List (Addr × Obj)} {s : Shared} {σ : St} {H : Hp} {x : Str} {u : Value} {pos : Pos} {Q : Value → Shared → Prop} (I : Inv X pins σ H s) (hg : Gl X x) (hm : X.mg x = none) (hv : bootBuiltins x = some u) (h : Q u s)
    (hn : x ≠ "__name__" := by decide) (hd : (x == ("__debug__" : Str)) = false := by decide) : wpAny (model X.prog X.w) X.A (eval (.Name x pos) X.env) Q E s := by
  obtain ⟨mb, h1, h2⟩ := I.mod.blt
  exact Calls.Name_function_global I.ok.kind hg (Calls.loadGlobal_builtin (by rw [I.ok.glob]; exact I.mod.glob.keeps I.bk) hm (by rw [I.ok.blt]; exact h1.keeps I.bk) ((h2 x hn).trans hv) h) hd
/-- a module's constant, a class, a function, as a value -/
theorem pe_glob {x : Str} {v : V} {u : Value} {pos : Pos} (hg : Gl X x) (hm : X.mg x = some u) (r : RelV v u) (hd : (x == ("__debug__" : Str)) = false := by decide) : PE X (.Name x pos) (tC v) :=
  fun _ _ _ H _ I h => ld_glob I hg hm ⟨v, H, I, r, h⟩ hd
theorem pe_bltn {x : Str} {v : V} {u : Value} {pos : Pos} (hg : Gl X x) (hm : X.mg x = none) (hv : bootBuiltins x = some u) (r : RelV v u) (hn : x ≠ "__name__" := by decide) (hd : (x == ("__debug__" : Str)) = false := by decide) : PE X (.Name x pos) (tC v) :=
  fun _ _ _ H _ I h => ld_blt I hg hm hv ⟨v, H, I, r, h⟩ hn hd

/-! ### arithmetic -/
variable {a b : Expr} {ta tb : TE} {pos : Pos}

/-! ### comparisons -/
/-- a comparison as a value, as a test -/
def tB (t : TE) : TT := fun σ H Q => t σ H fun x H1 => ∃ c, x = .bl c ∧ Q c H1
/-- an expression whose value is a bool, as a test -/
theorem pt_val {e : Expr} {t : TE} (h : PE X e t) (he : ∀ whole, isTrue e X.env whole = (do let v ← whole; standAt e.pos; holding [v] (truthy v)) := by intro _; rfl) : PT X e (tB t) := by
  intro pins s σ H Q I hw
  refine isTrue_plain (thn (h pins s σ H _ I hw) fun v s1 ⟨x, H1, I1, r1, q1⟩ => ?_) (he _)
  obtain ⟨d, rfl, q⟩ := q1
  cases r1
  exact wpAny_truthy_bool ⟨H1, I1, q⟩

/-! ### and, or, not -/
variable {tA tB' : TT} {rest : List Expr}
def tAnd (t u : TT) : TT := fun σ H Q => t σ H fun c H1 => if c = true then u σ H1 Q else Q false H1
def tOr (t u : TT) : TT := fun σ H Q => t σ H fun c H1 => if c = true then Q true H1 else u σ H1 Q
def tNot (t : TT) : TT := fun σ H Q => t σ H fun c H1 => Q (!c) H1
theorem pw_and1 (ha : PT X a tA) : PW X (.BoolOp .And [a] pos) tA := by
  intro wh pins s σ H Q I h
  refine isTrue_and (thn (ha pins s σ H Q I h) fun c s1 e => ?_)
  cases c with
  | true => exact isTrue_and_nil e
  | false => exact e
theorem pw_or1 (ha : PT X a tA) : PW X (.BoolOp .Or [a] pos) tA := by
  intro wh pins s σ H Q I h
  refine isTrue_or (thn (ha pins s σ H Q I h) fun c s1 e => ?_)
  cases c with
  | false => exact isTrue_or_nil e
  | true => exact e
theorem pw_and (ha : PT X a tA) (hb : PW X (.BoolOp .And (b :: rest) pos) tB') : PW X (.BoolOp .And (a :: b :: rest) pos) (tAnd tA tB') := by
  intro wh pins s σ H Q I h
  refine isTrue_and (thn (ha pins s σ H _ I h) fun c s1 ⟨H1, I1, q1⟩ => ?_)
  cases c with
  | true => exact hb wh pins s1 σ H1 Q I1 q1
  | false => exact ⟨H1, I1, q1⟩
theorem pw_or (ha : PT X a tA) (hb : PW X (.BoolOp .Or (b :: rest) pos) tB') : PW X (.BoolOp .Or (a :: b :: rest) pos) (tOr tA tB') := by
  intro wh pins s σ H Q I h
  refine isTrue_or (thn (ha pins s σ H _ I h) fun c s1 ⟨H1, I1, q1⟩ => ?_)
  cases c with
  | true => exact ⟨H1, I1, q1⟩
  | false => exact hb wh pins s1 σ H1 Q I1 q1
theorem pt_not (ha : PT X a tA) : PT X (.UnaryOp .Not a pos) (tNot tA) := by
  intro pins s σ H Q I h
  exact isTrue_not (ha pins s σ H (fun c H1 => Q (!c) H1) I h)
/-- .. as values (bools) -/
def tAndV (ta tb : TE) : TE := fun σ H Q => ta σ H fun x H1 => ∃ c, x = .bl c ∧ if c = true then tb σ H1 Q else Q (.bl false) H1
def tOrV (ta tb : TE) : TE := fun σ H Q => ta σ H fun x H1 => ∃ c, x = .bl c ∧ if c = true then Q (.bl true) H1 else tb σ H1 Q
def tNotV (ta : TE) : TE := fun σ H Q => ta σ H fun x H1 => ∃ c, x = .bl c ∧ Q (.bl (!c)) H1
theorem pe_one {op} {t : TE} (h : PE X a t) : PE X (.BoolOp op [a] pos) t := fun pins s σ H Q I hw => BoolOp_one (h pins s σ H Q I hw)
theorem pe_and (ha : PE X a ta) (hb : PE X (.BoolOp .And (b :: rest) pos) tb) : PE X (.BoolOp .And (a :: b :: rest) pos) (tAndV ta tb) := by
  intro pins s σ H Q I h
  refine BoolOp_and (thn (ha pins s σ H _ I h) fun v s1 ⟨x, H1, I1, r1, q1⟩ => ?_)
  obtain ⟨c, rfl, q1⟩ := q1
  cases r1
  refine wpAny_truthy_bool ?_
  cases c with
  | true => exact hb pins s1 σ H1 Q I1 q1
  | false => exact ⟨.bl false, H1, I1, rfl, q1⟩
theorem pe_or (ha : PE X a ta) (hb : PE X (.BoolOp .Or (b :: rest) pos) tb) : PE X (.BoolOp .Or (a :: b :: rest) pos) (tOrV ta tb) := by
  intro pins s σ H Q I h
  refine BoolOp_or (thn (ha pins s σ H _ I h) fun v s1 ⟨x, H1, I1, r1, q1⟩ => ?_)
  obtain ⟨c, rfl, q1⟩ := q1
  cases r1
  refine wpAny_truthy_bool ?_
  cases c with
  | false => exact hb pins s1 σ H1 Q I1 q1
  | true => exact ⟨.bl true, H1, I1, rfl, q1⟩
theorem pe_not (ha : PE X a ta) : PE X (.UnaryOp .Not a pos) (tNotV ta) := by
  intro pins s σ H Q I h
  refine UnaryOp_ (thn (ha pins s σ H _ I h) fun v s1 ⟨x, H1, I1, r1, q1⟩ => ?_)
  obtain ⟨c, rfl, q1⟩ := q1
  cases r1
  exact not_of (wpAny_truthy_bool ⟨.bl (!c), H1, I1, rfl, q1⟩)
/-- a if t else b -/
def tIf (t : TT) (ta tb : TE) : TE := fun σ H Q => t σ H fun c H1 => if c = true then ta σ H1 Q else tb σ H1 Q
theorem pe_ifExp {c : Expr} (hc : PT X c tA) (ha : PE X a ta) (hb : PE X b tb) : PE X (.IfExp c a b pos) (tIf tA ta tb) := by
  intro pins s σ H Q I h
  refine wpAny_IfExp (thn (hc pins s σ H _ I h) fun d s1 ⟨H1, I1, q1⟩ => ?_)
  cases d with
  | true => exact ha pins s1 σ H1 Q I1 q1
  | false => exact hb pins s1 σ H1 Q I1 q1
end
end L2

namespace L2
open PySem PySem.Spec PyProof.Rows

/-! ### a list, a tuple that is read: tracked, frozen, or an object of the module -/
def SqL (K : PySem.W.Frag) (H : Hp) (a : Addr) (xs : List V) : Prop :=
  Rd H a (.lst xs) ∨
    ∃ (o : Obj) (its : Array Value) (n : Nat), K.lookup a = some o ∧ o.cls = .type "list" ∧ o.dict = none ∧ o.data = .seq its n ∧ its.size ≤ sizeLine ∧ Vals xs its.toList
def SqT (K : PySem.W.Frag) (H : Hp) (a : Addr) (xs : List V) : Prop :=
  Rd H a (.tup xs) ∨
    ∃ (o : Obj) (its : Array Value) (n : Nat), K.lookup a = some o ∧ o.cls = .type "tuple" ∧ o.data = .seq its n ∧ its.size ≤ sizeLine ∧ Vals xs its.toList
def absV : Value → Option V
  | .none => some .non
  | .bool b => some (.bl b)
  | .int i _ => some (.int i)
  | .str x _ => some (.str x)
  | .bytes b _ => some (.byt b)
  | .float b _ => some (.flt b)
  | .ref a => some (.ref a)
  | .type n => some (.ty n)
  | _ => none
theorem RelV.abs {x : V} {u : Value} (r : RelV x u) : absV u = some x := by
  cases x with
  | non => cases r; rfl
  | bl _ => cases r; rfl
  | int _ => obtain ⟨t, rfl⟩ := r; rfl
  | str _ => obtain ⟨t, rfl⟩ := r; rfl
  | byt _ => obtain ⟨t, rfl⟩ := r; rfl
  | flt _ => obtain ⟨t, rfl⟩ := r; rfl
  | ref _ => cases r; rfl
  | ty _ => cases r; rfl
theorem RelV.inj {x y : V} {u : Value} (r : RelV x u) (q : RelV y u) : x = y := Option.some.inj (r.abs.symm.trans q.abs)
theorem Vals.inj : ∀ {xs ys : List V} {us : List Value}, Vals xs us → Vals ys us → xs = ys
  | _, _, _, .nil, .nil => rfl
  | _, _, _, .cons r t, .cons r' t' => by rw [r.inj r', Vals.inj t t']
section
variable {X : Cx} {pins : List (Addr × Obj)} {σ : St} {H : Hp} {s : Shared} {a : Addr} {xs ys : List V}
theorem SqL.of {K : PySem.W.Frag} (h : H a = some (.lst xs)) : SqL K H a xs := .inl (.inl h)
theorem SqT.of {K : PySem.W.Frag} (h : H a = some (.tup xs)) : SqT K H a xs := .inl (.inl h)
theorem Inv.list (I : Inv X pins σ H s) (h : SqL X.K H a xs) : ∃ its : List Value, Vals xs its ∧ PlainL s.heap a its.toArray ∧ xs.length ≤ sizeLine := by
  rcases h with h | ⟨o, its, n, hk, hc, hd, hs, hz, r⟩
  · obtain ⟨z, its, n, r, e⟩ := h.ok I.hok
    exact ⟨its, r, ⟨_, n, e, rfl, rfl, rfl⟩, z⟩
  · refine ⟨its.toList, r, ⟨o, n, I.kIn a o hk, hc, hd, by simpa using hs⟩, ?_⟩
    have e := r.length
    simp only [Array.length_toList] at e
    omega
theorem Inv.tuple (I : Inv X pins σ H s) (h : SqT X.K H a xs) : ∃ its : List Value, Vals xs its ∧ IsTup s.heap a its.toArray ∧ xs.length ≤ sizeLine := by
  rcases h with h | ⟨o, its, n, hk, hc, hs, hz, r⟩
  · obtain ⟨z, its, r, p⟩ := h.ok I.hok
    exact ⟨its, r, p, z⟩
  · refine ⟨its.toList, r, ⟨o, I.kIn a o hk, hc, n, by simpa using hs⟩, ?_⟩
    have e := r.length
    simp only [Array.length_toList] at e
    omega
theorem Inv.list_inj (I : Inv X pins σ H s) (h : SqL X.K H a xs) (h' : SqL X.K H a ys) : xs = ys := by
  obtain ⟨its, r, ⟨o, n, e, _, _, d⟩, _⟩ := I.list h
  obtain ⟨its', r', ⟨o', n', e', _, _, d'⟩, _⟩ := I.list h'
  rw [e] at e'; cases e'
  rw [d] at d'
  injection d' with d1 _
  have : its = its' := by simpa using congrArg Array.toList d1
  subst this
  exact r.inj r'
end

/-! ### another wish about exceptions -/
abbrev Cx.wish (X : Cx) (E : Value → Shared → Prop) : Cx := { X with xe := E }
/-- no exception leaves -/
abbrev Cx.nox (X : Cx) : Cx := X.wish fun _ _ => False
theorem Cx.Ok.wish {X : Cx} (ok : X.Ok) (E : Value → Shared → Prop) : (X.wish E).Ok :=
  ⟨ok.mod, ok.kind, ok.glob, ok.blt, ok.above, ok.inj, ok.has, ok.cab, ok.hd, ok.frames, ok.stk, ok.exf, ok.bs, ok.bsz, ok.noex, ok.exfs, ok.funs, ok.frf⟩
theorem Cx.Ok.unwish {X : Cx} {E : Value → Shared → Prop} (ok : (X.wish E).Ok) : X.Ok :=
  ⟨ok.mod, ok.kind, ok.glob, ok.blt, ok.above, ok.inj, ok.has, ok.cab, ok.hd, ok.frames, ok.stk, ok.exf, ok.bs, ok.bsz, ok.noex, ok.exfs, ok.funs, ok.frf⟩
section
variable {X : Cx} {pins : List (Addr × Obj)} {σ : St} {H : Hp} {s : Shared} {E : Value → Shared → Prop}
theorem Inv.wish (I : Inv X pins σ H s) (E : Value → Shared → Prop) : Inv (X.wish E) pins σ H s := ⟨I.ok.wish E, I.os, I.bare, I.base, I.loc, I.cell, I.free, I.freeC, I.pin, I.hok, I.len⟩
theorem Inv.unwish (I : Inv (X.wish E) pins σ H s) : Inv X pins σ H s := ⟨I.ok.unwish, I.os, I.bare, I.base, I.loc, I.cell, I.free, I.freeC, I.pin, I.hok, I.len⟩
theorem SP.unwish {D : Ends} {f : Flow} {s' : Shared} (h : SP (X.wish E) pins D f s') : SP X pins D f s' := by
  cases f with
  | next => obtain ⟨σ', H', I, q⟩ := h; exact ⟨σ', H', I.unwish, q⟩
  | brk => obtain ⟨σ', H', I, q⟩ := h; exact ⟨σ', H', I.unwish, q⟩
  | cont => obtain ⟨σ', H', I, q⟩ := h; exact ⟨σ', H', I.unwish, q⟩
  | ret u => obtain ⟨v, σ', H', I, r, q⟩ := h; exact ⟨v, σ', H', I.unwish, r, q⟩
theorem PSs.nox {st : List Stmt} {t : TS} (h : PSs X.nox st t) : PSs X st t := fun pins s σ H D I hw =>
  wpAny_mono (h pins s σ H D (I.wish _) hw) (fun _ _ q => q.unwish) fun _ _ z => False.elim z
end

/-! ### blocks and small statements -/
section
variable {X : Cx} {st : Stmt} {rest : List Stmt} {t u : TS} {e : Expr} {te : TE} {pos : Pos}
def tNext : TS := fun D σ H => D.nx σ H
def tSeq (t u : TS) : TS := fun D σ H => t { D with nx := u D } σ H
theorem pss_nil : PSs X [] tNext := fun _ _ σ H _ I h => wpAny_execs_nil ⟨σ, H, I, h⟩
theorem pss_cons (h1 : PS X st t) (h2 : PSs X rest u) : PSs X (st :: rest) (tSeq t u) := by
  intro pins s σ H D I h
  refine wpAny_execs_cons (thn (h1 pins s σ H { D with nx := u D } I h) fun f s1 q => ?_)
  cases f with
  | next =>
    obtain ⟨σ', H', I', q⟩ := q
    exact h2 pins s1 σ' H' D I' q
  | ret v => exact q
  | brk => exact q
  | cont => exact q
theorem pss_one (h1 : PS X st t) : PSs X [st] t := by
  intro pins s σ H D I h
  refine wpAny_execs_cons (thn (h1 pins s σ H D I h) fun f s1 q => ?_)
  cases f with
  | next => exact wpAny_execs_nil q
  | ret v => exact q
  | brk => exact q
  | cont => exact q
/-- in a def's body nothing is shown -/
theorem Inv.quiet {pins : List (Addr × Obj)} {σ : St} {H : Hp} {s : Shared} (I : Inv X pins σ H s) : interactive X.env = false := by simp [interactive, I.ok.kind]
/-- an expression whose value is dropped -/
def tDrop (te : TE) : TS := fun D σ H => te σ H fun _ H1 => D.nx σ H1
theorem ps_expr (he : PE X e te) (hs : swapsWith e none pos.line X.env = pure false := by rfl) : PS X (.Expr e pos) (tDrop te) := by
  intro pins s σ H D I h
  exact wpAny_Expr_any (thn (he pins s σ H _ I h) fun v s1 ⟨x, H1, I1, r1, q1⟩ => ⟨σ, H1, I1, q1⟩) I.quiet hs
def tRet (te : TE) : TS := fun D σ H => te σ H D.rt
theorem ps_ret (he : PE X e te) : PS X (.Return (some e) pos) (tRet te) := by
  intro pins s σ H D I h
  exact wpAny_Return_some (thn (he pins s σ H _ I h) fun v s1 ⟨x, H1, I1, r1, q1⟩ => ⟨x, σ, H1, I1, r1, q1⟩)
def tIfS (c : TT) (t u : TS) : TS := fun D σ H => c σ H fun b H1 => if b = true then t D σ H1 else u D σ H1
theorem ps_if {c : Expr} {a b : List Stmt} {tc : TT} (hc : PT X c tc) (ha : PSs X a t) (hb : PSs X b u) : PS X (.If c a b pos) (tIfS tc t u) := by
  intro pins s σ H D I h
  refine wpAny_If (thn (hc pins s σ H _ I h) fun d s1 ⟨H1, I1, q1⟩ => ?_)
  cases d with
  | true => exact ha pins s1 σ H1 D I1 q1
  | false => exact hb pins s1 σ H1 D I1 q1
end

/-! ### targets -/
abbrev TG := V → St → Hp → (St → Hp → Prop) → Prop
def PG (X : Cx) (target : Expr) (t : TG) : Prop :=
  ∀ (pins : List (Addr × Obj)) (s : Shared) (σ : St) (H : Hp) (v : V) (u : Value) (Q : St → Hp → Prop), Inv X pins σ H s → RelV v u → t v σ H Q →
    wpAny (model X.prog X.w) X.A (assign target X.env u) (fun _ s' => ∃ σ' H', Inv X pins σ' H' s' ∧ Q σ' H') X.xe s
section
variable {X : Cx} {pos : Pos}
def gName (i : Nat) : TG := fun v σ H Q => Q (σ.set i (some v)) H
theorem pg_name {i : Nat} {x : Str} (hN : X.N.Nodup) (hi : X.N[i]? = some x) (hx : Loc X.env.scope x) (hf : X.fn x = true ∨ X.env.scope.names.lookup x = some .local := by first | exact .inl rfl | exact .inr rfl | assumption) : PG X (.Name x pos) (gName i) := by
  intro pins s σ H v u Q I r h
  exact wpAny_assign_Name (store_ok I hN hi hx r (fun s' I' => ⟨_, H, I', h⟩) hf)
/-- target = value -/
def tAsg (te : TE) (g : TG) : TS := fun D σ H => te σ H fun x H1 => g x σ H1 D.nx
/-- name = value -/
theorem ps_set {i : Nat} {x : Str} {e : Expr} {te : TE} {pos' : Pos} (hN : X.N.Nodup) (hi : X.N[i]? = some x) (hx : Loc X.env.scope x) (he : PE X e te) (hs : swapsWith e (some (.Name x pos')) pos.line X.env = pure false := by rfl) (hf : X.fn x = true ∨ X.env.scope.names.lookup x = some .local := by first | exact .inl rfl | exact .inr rfl | assumption) :
    PS X (.Assign [.Name x pos'] e pos) (tAsg te (gName i)) := by
  intro pins s σ H D I h
  refine wpAny_Assign_Name (thn (he pins s σ H _ I h) fun v s1 ⟨y, H1, I1, r1, q1⟩ => ?_) hs
  exact store_ok I1 hN hi hx r1 (fun s2 I2 => ⟨_, H1, I2, q1⟩) hf
end

/-! ### while -/
section
variable {X : Cx} {pos : Pos}
end

/-! ### what a loop or a comprehension walks -/
/-- at turn i: it yields x (the heap may grow), or it stops -/
structure It where
  go : Nat → Hp → Prop
  yld : Nat → Hp → V → Hp → Prop
  stop : Nat → Hp → Prop
/-- the iterator's own objects may turn: they are not the frame's, not pinned, younger than the entry (or a comprehension's own) -/
def FpOk (X : Cx) (pins : List (Addr × Obj)) (H : Hp) (b : Addr) : Prop :=
  H b = none ∧ b ≠ X.env.locals ∧ b ∉ X.fs ∧ (b ∈ X.ex ∨ X.s₀.heap.objs.size ≤ b) ∧ (∀ x c, X.env.cells.lookup x = some c → c ≠ b) ∧ ∀ p ∈ X.pn ++ pins, p.1 ≠ b
theorem Inv.fpOk {X : Cx} {pins : List (Addr × Obj)} {σ : St} {H H' : Hp} {s : Shared} {b : Addr} (I : Inv X pins σ H s) (hb : s.heap.objs.size ≤ b) (hn : H' b = none) : FpOk X pins H' b := by
  refine ⟨hn, Nat.ne_of_gt (Nat.lt_of_lt_of_le I.lt hb), I.nofs hb, .inr (Nat.le_trans I.sz hb), fun x c e z => ?_, fun p hp z => ?_⟩
  · obtain ⟨v, q⟩ := I.cell x c e
    exact absurd (Nat.lt_of_lt_of_le q.lt (by rw [z]; exact hb)) (Nat.lt_irrefl _)
  · exact absurd (Nat.lt_of_lt_of_le (Heap.lt_size (I.pin p hp).1) (by rw [z]; exact hb)) (Nat.lt_irrefl _)
structure Turn (P : Program) (w : World) (K : PySem.W.Frag) (tg : Expr) (J : It) (fp : List Addr) (it : Addr) (tn : Nat → Heap → Prop) : Prop where
  mem : it ∈ fp
  obj : ∀ i h, tn i h → ∀ b ∈ fp, ∃ o, h.get? b = some o ∧ ∀ v, o.data ≠ .cell v
  keep : ∀ i h h', tn i h → (∀ b ∈ fp, ∀ o, h.get? b = some o → h'.get? b = some o) → tn i h'
  item : ∀ (X : Cx), X.prog = P → X.w = w → X.K = K → X.calm = true → ∀ (i : Nat) (pins : List (Addr × Obj)) (s : Shared) (σ : St) (H : Hp) (E : Value → Shared → Prop), Inv X pins σ H s → (∀ b ∈ fp, FpOk X pins H b) → tn i s.heap → J.go i H →
    wpAny (model P w) X.A (pyNext (.ref it)) (fun r s1 => ∃ u, r = some u ∧
      wpAny (model P w) X.A (letOwnedTupleGo tg (.ref it) u) (fun _ s2 => ∃ x H', Inv X pins σ H' s2 ∧ RelV x u ∧ J.yld i H x H' ∧ tn (i + 1) s2.heap ∧ ∀ b ∈ fp, H' b = none) E s1) E s
  done : ∀ (X : Cx), X.prog = P → X.w = w → X.K = K → X.calm = true → ∀ (i : Nat) (pins : List (Addr × Obj)) (s : Shared) (σ : St) (H : Hp) (E : Value → Shared → Prop), Inv X pins σ H s → (∀ b ∈ fp, FpOk X pins H b) → tn i s.heap → J.stop i H →
    wpAny (model P w) X.A (pyNext (.ref it)) (fun r s1 => r = none ∧ Inv X pins σ H s1) E s
  self : ∀ (A : Around) (i : Nat) (s : Shared) (Q : Value → Shared → Prop) (E : Value → Shared → Prop), tn i s.heap → Q (.ref it) s → wpAny (model P w) A (pyIter (.ref it)) Q E s
abbrev TI := St → Hp → (It → Hp → Prop) → Prop
/-- an iterator has come -/
def PIE (X : Cx) (pins : List (Addr × Obj)) (σ : St) (tg : Expr) (R : It → Hp → Prop) (itv : Value) (s2 : Shared) : Prop :=
  ∃ (it : Addr) (fp : List Addr) (tn : Nat → Heap → Prop) (J : It) (H' : Hp), itv = .ref it ∧ Inv X pins σ H' s2 ∧ Turn X.prog X.w X.K tg J fp it tn ∧ tn 0 s2.heap ∧ (∀ b ∈ fp, FpOk X pins H' b) ∧ R J H'
def PI (X : Cx) (tg iter : Expr) (wi : TI) : Prop :=
  ∀ (pins : List (Addr × Obj)) (s : Shared) (σ : St) (H : Hp) (R : It → Hp → Prop), Inv X pins σ H s → wi σ H R →
    wpAny (model X.prog X.w) X.A (eval iter X.env) (fun v s1 => wpAny (model X.prog X.w) X.A (pyIter v) (PIE X pins σ tg R) X.xe s1) X.xe s

/-- the step ahead of the store is nothing for an iterator that keeps no tuple -/
theorem go_of {M : Model} {A : Around} {E : Value → Shared → Prop} {s : Shared} {tg : Expr} {it : Addr} {u : Value} {o : Obj} {n : String} {vs : Array Value} {Q : Unit → Shared → Prop} (ho : s.heap.get? it = some o) (hc : o.cls = .type n) (hd : o.data = .fields vs)
    (hn : ["enumerate", "zip", "dict_itemiterator", "dict_reverseitemiterator", "odict_iterator", "itertools.zip_longest", "itertools.pairwise"].contains n = false) (hQ : Q () s) : wpAny M A (letOwnedTupleGo tg (.ref it) u) Q E s := by
  unfold letOwnedTupleGo
  cases tg <;> first
    | exact wpAny_pure hQ
    | (cases u <;> first
        | exact wpAny_pure hQ
        | (refine wpAny_bind (wpAny_load ho ?_)
           rw [hc, hd]
           show wpAny M A (if (["enumerate", "zip", "dict_itemiterator", "dict_reverseitemiterator", "odict_iterator", "itertools.zip_longest", "itertools.pairwise"].contains n && vs[0]? == some (rawInt _)) = true then _ else _) Q E s
           rw [if_neg (by intro h; rw [hn, Bool.false_and] at h; cases h)]
           exact wpAny_pure hQ))

/-- the list at a, as it stands at each turn (a loop may append to it) -/
def Itl (K : PySem.W.Frag) (a : Addr) : It :=
  ⟨fun i H => ∃ xs x, SqL K H a xs ∧ xs[i]? = some x, fun i H x H' => H' = H ∧ ∀ xs, SqL K H a xs → xs[i]? = some x, fun i H => ∃ xs, SqL K H a xs ∧ xs.length ≤ i⟩
theorem turn_list {P : Program} {w : World} {K : PySem.W.Frag} {tg : Expr} (a it : Addr) : Turn P w K tg (Itl K a) [it] it (fun i h => h.IsListIter it a i) where
  mem := by simp
  obj := fun i h st b hb => by
    have e : b = it := by simpa using hb
    subst e
    obtain ⟨o, e, c, d⟩ := st
    exact ⟨o, e, fun v z => by rw [d] at z; cases z⟩
  keep := fun i h h' st k => st.at fun o e => k it (by simp) o e
  item := by
    intro X hP hw hK hc i pins s σ H E I hf st hg
    subst hP hw hK
    obtain ⟨xs, x, hq, hx⟩ := hg
    obtain ⟨its, rv, p, hz⟩ := I.list hq
    obtain ⟨u, hu, ru⟩ := rv.get hx
    obtain ⟨f0, f1, f2, f3, f4, f5⟩ := hf it (by simp)
    refine wpAny_pyNext_list_item st p.isList (x := u) (by simpa using hu) fun h' st' sb => ?_
    have I1 : Inv X pins σ H { s with heap := h' } := I.turned (t' := s.toks) (fun b o hb e => (sb.2 b hb).trans e) f0 f1 f3 f4 f5
    obtain ⟨o, e, c, d⟩ := id st'
    exact ⟨u, rfl, go_of (s := { s with heap := h' }) e c d (by decide) ⟨x, H, I1, ru, ⟨rfl, fun ys hy => by rw [I.list_inj hy hq]; exact hx⟩, st', fun b hb => (hf b hb).1⟩⟩
  done := by
    intro X hP hw hK hc i pins s σ H E I hf st hg
    subst hP hw hK
    obtain ⟨xs, hq, hx⟩ := hg
    obtain ⟨its, rv, p, hz⟩ := I.list hq
    obtain ⟨f0, f1, f2, f3, f4, f5⟩ := hf it (by simp)
    have hl := rv.length
    exact wpAny_pyNext_list_end (I.ok.hd hc) st p.isList (by simp; omega) fun h' eb => ⟨rfl, I.turned (t' := s.toks) (fun b o hb e => eb b o hb e) f0 f1 f3 f4 f5⟩
  self := fun _ _ _ _ _ st h => wpAny_pyIter_listiter st h
end L2

namespace L2
open PySem PySem.Spec PyProof.Rows
section
variable {X : Cx} {tg : Expr}
def iList (K : PySem.W.Frag) (tl : TE) : TI := fun σ H R => tl σ H fun x H1 => ∃ a, x = .ref a ∧ (∃ xs, SqL K H1 a xs) ∧ R (Itl K a) H1
theorem pi_list {l : Expr} {tl : TE} (hl : PE X l tl) : PI X tg l (iList X.K tl) := by
  intro pins s σ H R I h
  refine thn (hl pins s σ H _ I h) fun v s1 ⟨x, H1, I1, r1, q1⟩ => ?_
  obtain ⟨a, e, ⟨xs, hq⟩, q⟩ := q1
  subst e
  cases r1
  obtain ⟨its, rv, p, hz⟩ := I1.list hq
  refine wpAny_pyIter_list p.isList ?_
  refine ⟨s1.heap.objs.size, [s1.heap.objs.size], _, _, H1, rfl, I1.kept (t' := s1.toks) fun b o e => Heap.get?_push_of_some _ e, turn_list a _, ⟨_, Heap.get?_push_size _ rfl, rfl, rfl⟩, fun b hb => ?_, q⟩
  have e : b = s1.heap.objs.size := by simpa using hb
  subst e
  exact I1.fpOk (Nat.le_refl _) (I1.hok.fresh (Nat.le_refl _))

/-! ### for -/
/-- W: the invariant by the turn and a measure; N: what the body is to reach -/
def tFor (wi : TI) (g : TG) (tb : TS) : TS := fun D σ H => wi σ H fun J H1 => ∃ W : Nat → Nat → St → Hp → Prop, (∃ m, W 0 m σ H1) ∧ ∀ i m σ H, W i m σ H →
  (J.stop i H ∧ D.nx σ H) ∨ (J.go i H ∧ ∃ N : St → Hp → Prop, (∀ σ' H', N σ' H' → ∃ m', m' < m ∧ W (i + 1) m' σ' H') ∧ ∀ x H', J.yld i H x H' → g x σ H' fun σ2 H2 => tb { D with nx := N, ct := N, bk := D.nx } σ2 H2)
/-- the records at fp as they stand -/
def pinsAt (fp : List Addr) (h : Heap) : List (Addr × Obj) := fp.filterMap fun b => (h.get? b).map fun o => (b, o)
theorem mem_pinsAt {fp : List Addr} {h : Heap} {b : Addr} {o : Obj} (hb : b ∈ fp) (e : h.get? b = some o) : (b, o) ∈ pinsAt fp h := List.mem_filterMap.mpr ⟨b, hb, by rw [e]; rfl⟩
theorem of_pinsAt {fp : List Addr} {h : Heap} {p : Addr × Obj} (hp : p ∈ pinsAt fp h) : p.1 ∈ fp ∧ h.get? p.1 = some p.2 := by
  obtain ⟨b, hb, e⟩ := List.mem_filterMap.mp hp
  cases q : h.get? b with
  | none => rw [q] at e; cases e
  | some o =>
    rw [q] at e
    have e' : (b, o) = p := Option.some.inj e
    subst e'
    exact ⟨hb, q⟩
theorem Inv.pinned {pins : List (Addr × Obj)} {σ : St} {H : Hp} {s : Shared} {fp : List Addr} (I : Inv X pins σ H s) (hf : ∀ b ∈ fp, FpOk X pins H b) (ho : ∀ b ∈ fp, ∃ o, s.heap.get? b = some o ∧ ∀ v, o.data ≠ .cell v) : Inv X (pins ++ pinsAt fp s.heap) σ H s :=
  I.pins_of fun p hp => (List.mem_append.mp hp).elim (fun z => I.pin p (List.mem_append_right _ z)) fun z => by
    obtain ⟨hb, e⟩ := of_pinsAt z
    obtain ⟨f0, f1, f2, _⟩ := hf p.1 hb
    obtain ⟨o, e', d⟩ := ho p.1 hb
    rw [e] at e'; cases e'
    exact ⟨e, f0, f1, f2, d⟩
theorem Inv.unpinned {pins pl : List (Addr × Obj)} {σ : St} {H : Hp} {s : Shared} (I : Inv X (pins ++ pl) σ H s) : Inv X pins σ H s := I.pins_of fun p hp => I.pin p (List.mem_append_right _ (List.mem_append_left _ hp))
theorem ps_for {iter : Expr} {body : List Stmt} {wi : TI} {g : TG} {tb : TS} {pos : Pos} (hp : PassesOwn (model X.prog X.w) X.A X.env X.xe) (hc : X.calm = true) (hi : PI X tg iter wi) (hg : PG X tg g) (hb : PSs X body tb)
    (hs : ∀ x, foldedSetIterable iter X.env x = pure x := by intro _; rfl) : PS X (.For tg iter body [] pos) (tFor wi g tb) := by
  intro pins s σ H D I h
  refine wpAny_For (thn (hi pins s σ H _ I h) fun v s1 h1 => thn h1 fun itv s2 h2 => ?_) hs
  obtain ⟨it, fp, tn, J, H2, e, I2, T, st2, f2, W, ⟨m0, w0⟩, turn⟩ := h2
  subst e
  -- what stays true of the iterator's objects through the loop
  have stat : ∀ {H' : Hp}, (∀ b ∈ fp, H' b = none) → ∀ b ∈ fp, FpOk X pins H' b := fun hn b hb => ⟨hn b hb, (f2 b hb).2⟩
  refine codeAny_forLoop_any (fun n s' => ∃ i σ' H', Inv X pins σ' H' s' ∧ tn i s'.heap ∧ (∀ b ∈ fp, H' b = none) ∧ W i n σ' H') ?_ m0 ⟨0, σ, H2, I2, st2, fun b hb => (f2 b hb).1, w0⟩
  rintro n s3 ⟨i, σ3, H3, I3, st3, fr3, w3⟩
  rcases turn i n σ3 H3 w3 with ⟨stop, qn⟩ | ⟨go, N, hN, step⟩
  · refine wpAny_passesOwn hp (thn (T.done X rfl rfl rfl hc i pins s3 σ3 H3 X.xe I3 (stat fr3) st3 stop) fun r s4 ⟨hr, I4⟩ => ?_)
    subst hr
    exact wpAny_execs_nil ⟨σ3, H3, I4, qn⟩
  · refine wpAny_passesOwn hp (thn (T.item X rfl rfl rfl hc i pins s3 σ3 H3 X.xe I3 (stat fr3) st3 go) fun r s4 ⟨u, hr, h4⟩ => ?_)
    subst hr
    refine wpAny_passesOwn hp (thn h4 fun _ s5 ⟨x, H5, I5, r5, y5, st5, fr5⟩ => ?_)
    have I5' := I5.pinned (stat fr5) (T.obj _ _ st5)
    refine wpAny_passesOwn hp (thn (hg _ s5 σ3 H5 x u _ I5' r5 (step x H5 y5)) fun _ s6 ⟨σ6, H6, I6, q6⟩ => ?_)
    refine wpAny_passesOwn hp (thn (hb _ s6 σ6 H6 _ I6 q6) fun f s7 q7 => ?_)
    have again : ∀ {σ7 : St} {H7 : Hp}, Inv X (pins ++ pinsAt fp s5.heap) σ7 H7 s7 → N σ7 H7 → ∃ m, m < n ∧ ∃ i σ' H', Inv X pins σ' H' s7 ∧ tn i s7.heap ∧ (∀ b ∈ fp, H' b = none) ∧ W i m σ' H' := fun {σ7 H7} I7 n7 => by
      obtain ⟨m', hm, w7⟩ := hN σ7 H7 n7
      refine ⟨m', hm, i + 1, σ7, H7, I7.unpinned, T.keep _ _ _ st5 fun b hb o e => (I7.pin (b, o) (List.mem_append_right _ (List.mem_append_right _ (mem_pinsAt hb e)))).1, fun b hb => ?_, w7⟩
      obtain ⟨o, e, d⟩ := T.obj _ _ st5 b hb
      exact (I7.pin (b, o) (List.mem_append_right _ (List.mem_append_right _ (mem_pinsAt hb e)))).2.1
    cases f with
    | next => obtain ⟨σ7, H7, I7, n7⟩ := q7; exact again I7 n7
    | cont => obtain ⟨σ7, H7, I7, n7⟩ := q7; exact again I7 n7
    | brk => obtain ⟨σ7, H7, I7, q7⟩ := q7; exact ⟨σ7, H7, I7.unpinned, q7⟩
    | ret v => obtain ⟨x7, σ7, H7, I7, r7, q7⟩ := q7; exact ⟨x7, σ7, H7, I7.unpinned, r7, q7⟩
end

/-! ### the forms one uses -/
/-- over a list that the body leaves as it is -/
theorem for_list {K : PySem.W.Frag} {a : Addr} {xs : List V} {g : TG} {tb : TS} {D : Ends} {σ : St} {H : Hp} (Pv : Nat → St → Hp → Prop) (h0 : Pv 0 σ H) (hl : ∀ i σ H, i ≤ xs.length → Pv i σ H → SqL K H a xs)
    (hs : ∀ i x σ H, xs[i]? = some x → Pv i σ H → g x σ H fun σ2 H2 => tb { D with nx := Pv (i + 1), ct := Pv (i + 1), bk := D.nx } σ2 H2) (hd : ∀ σ H, Pv xs.length σ H → D.nx σ H) :
    ∃ W : Nat → Nat → St → Hp → Prop, (∃ m, W 0 m σ H) ∧ ∀ i m σ H, W i m σ H →
      ((Itl K a).stop i H ∧ D.nx σ H) ∨ ((Itl K a).go i H ∧ ∃ N : St → Hp → Prop, (∀ σ' H', N σ' H' → ∃ m', m' < m ∧ W (i + 1) m' σ' H') ∧ ∀ x H', (Itl K a).yld i H x H' → g x σ H' fun σ2 H2 => tb { D with nx := N, ct := N, bk := D.nx } σ2 H2) := by
  refine ⟨fun i m σ H => m = xs.length - i ∧ i ≤ xs.length ∧ Pv i σ H, ⟨xs.length, by simp, Nat.zero_le _, h0⟩, ?_⟩
  rintro i m σ H ⟨rfl, hi, p⟩
  have q := hl i σ H hi p
  by_cases hlt : i < xs.length
  · refine .inr ⟨⟨xs, xs[i], q, by simp [hlt]⟩, Pv (i + 1), fun σ' H' p' => ⟨xs.length - (i + 1), by omega, rfl, hlt, p'⟩, fun x H' y => ?_⟩
    obtain ⟨e, y⟩ := y
    subst e
    exact hs i x σ _ (y xs q) p
  · have e : i = xs.length := by omega
    subst e
    exact .inl ⟨⟨xs, q, Nat.le_refl _⟩, hd σ H p⟩
end L2

namespace L2
open PySem PySem.Spec PyProof.Rows

abbrev R2 := V → V → Hp → VK → Prop
/-- a two-place operation on values: f is binaryOp op, inplaceOp op or compareOp op -/
def OpR (X : Cx) (f : Value → Value → Sem Value) (r : R2) : Prop :=
  ∀ (pins : List (Addr × Obj)) (s : Shared) (σ : St) (H : Hp) (x y : V) (v u : Value) (Q : VK), Inv X pins σ H s → RelV x v → RelV y u → r x y H Q →
    wpAny (model X.prog X.w) X.A (f v u) (EP X pins σ Q) X.xe s
/-- a one-place operation -/
def UnR (X : Cx) (f : Value → Sem Value) (r : V → Hp → VK → Prop) : Prop :=
  ∀ (pins : List (Addr × Obj)) (s : Shared) (σ : St) (H : Hp) (x : V) (v : Value) (Q : VK), Inv X pins σ H s → RelV x v → r x H Q →
    wpAny (model X.prog X.w) X.A (f v) (EP X pins σ Q) X.xe s
/-- a call of a value that is known (a builtin, a type) with values -/
def CallR (X : Cx) (f : Value) (r : List V → Hp → VK → Prop) : Prop :=
  ∀ (pins : List (Addr × Obj)) (s : Shared) (σ : St) (H : Hp) (xs : List V) (us : List Value) (Q : VK), Inv X pins σ H s → Vals xs us → r xs H Q →
    wpAny (model X.prog X.w) X.A (call f us) (EP X pins σ Q) X.xe s

def tOp (r : R2) (ta tb : TE) : TE := fun σ H Q => ta σ H fun x H1 => tb σ H1 fun y H2 => r x y H2 Q
def tUn (r : V → Hp → VK → Prop) (ta : TE) : TE := fun σ H Q => ta σ H fun x H1 => r x H1 Q
/-- ints in, under C, and a value out -/
def rI (C : Int → Int → Prop) (g : Int → Int → V) : R2 := fun x y H Q => ∃ i j, x = .int i ∧ y = .int j ∧ C i j ∧ Q (g i j) H
def rI0 (g : Int → Int → V) : R2 := fun x y H Q => ∃ i j, x = .int i ∧ y = .int j ∧ Q (g i j) H
def rU (g : Int → V) : V → Hp → VK → Prop := fun x H Q => ∃ i, x = .int i ∧ Q (g i) H

section
variable {X : Cx} {a b c : Expr} {ta tb tc : TE} {pos : Pos}

theorem binT (ha : PE X a ta) (hb : PE X b tb) {pins : List (Addr × Obj)} {s : Shared} {σ : St} {H : Hp} {R : V → V → Hp → Prop} (I : Inv X pins σ H s)
    (h : ta σ H fun x H1 => tb σ H1 fun y H2 => R x y H2) {Q : Value → Shared → Prop} {f : Value → Value → Sem Value}
    (hf : ∀ v u s2 x y H2, Inv X pins σ H2 s2 → RelV x v → RelV y u → R x y H2 → wpAny (model X.prog X.w) X.A (f v u) Q X.xe s2) :
    wpAny (model X.prog X.w) X.A (eval a X.env) (fun v s₁ => wpAny (model X.prog X.w) X.A (eval b X.env) (fun u s₂ => wpAny (model X.prog X.w) X.A (f v u) Q X.xe s₂) X.xe s₁) X.xe s := by
  refine thn (ha pins s σ H _ I h) fun v s1 ⟨x, H1, I1, r1, q1⟩ => ?_
  refine thn (hb pins s1 σ H1 _ I1 q1) fun u s2 ⟨y, H2, I2, r2, q2⟩ => ?_
  exact hf v u s2 x y H2 I2 r1 r2 q2

theorem pe_op {op : Operator} {r : R2} (ho : OpR X (binaryOp op) r) (ha : PE X a ta) (hb : PE X b tb) : PE X (.BinOp a op b pos) (tOp r ta tb) := by
  intro pins s σ H Q I h
  exact wpAny_BinOp (binT ha hb I h fun v u s2 x y H2 I2 rx ry q => ho pins s2 σ H2 x y v u Q I2 rx ry q)
theorem pe_un {op : UnaryOp} {r : V → Hp → VK → Prop} (ho : UnR X (unaryOp op) r) (ha : PE X a ta) : PE X (.UnaryOp op a pos) (tUn r ta) := by
  intro pins s σ H Q I h
  exact UnaryOp_ (thn (ha pins s σ H _ I h) fun v s1 ⟨x, H1, I1, r1, q1⟩ => ho pins s1 σ H1 x v Q I1 r1 q1)

/-! ### ints -/
theorem opI {f : Value → Value → Sem Value} {C : Int → Int → Prop} {g : Int → Int → Int}
    (rule : ∀ (i j : Int) (t u : Tok) (s : Shared) (Q : Value → Shared → Prop) (E : Value → Shared → Prop), C i j → Q (.int (g i j) s.toks) { s with toks := s.toks + 1 } → wpAny (model X.prog X.w) X.A (f (.int i t) (.int j u)) Q E s) :
    OpR X f (rI C fun i j => .int (g i j)) := by
  intro pins s σ H x y v u Q I rx ry h
  obtain ⟨i, j, rfl, rfl, hc, q⟩ := h
  obtain ⟨t, rfl⟩ := rx
  obtain ⟨t', rfl⟩ := ry
  exact rule i j t t' s _ _ hc ⟨.int (g i j), H, I.tok _, ⟨_, rfl⟩, q⟩
theorem opI0 {f : Value → Value → Sem Value} {g : Int → Int → Int}
    (rule : ∀ (i j : Int) (t u : Tok) (s : Shared) (Q : Value → Shared → Prop) (E : Value → Shared → Prop), Q (.int (g i j) s.toks) { s with toks := s.toks + 1 } → wpAny (model X.prog X.w) X.A (f (.int i t) (.int j u)) Q E s) :
    OpR X f (rI0 fun i j => .int (g i j)) := by
  intro pins s σ H x y v u Q I rx ry h
  obtain ⟨i, j, rfl, rfl, q⟩ := h
  obtain ⟨t, rfl⟩ := rx
  obtain ⟨t', rfl⟩ := ry
  exact rule i j t t' s _ _ ⟨.int (g i j), H, I.tok _, ⟨_, rfl⟩, q⟩
theorem opB0 {f : Value → Value → Sem Value} {g : Int → Int → Bool}
    (rule : ∀ (i j : Int) (t u : Tok) (s : Shared) (Q : Value → Shared → Prop) (E : Value → Shared → Prop), Q (.bool (g i j)) s → wpAny (model X.prog X.w) X.A (f (.int i t) (.int j u)) Q E s) :
    OpR X f (rI0 fun i j => .bl (g i j)) := by
  intro pins s σ H x y v u Q I rx ry h
  obtain ⟨i, j, rfl, rfl, q⟩ := h
  obtain ⟨t, rfl⟩ := rx
  obtain ⟨t', rfl⟩ := ry
  exact rule i j t t' s _ _ ⟨.bl (g i j), H, I, rfl, q⟩

def CDiv (i j : Int) : Prop := 0 < j ∧ j < 1073741824
def CPow (i j : Int) : Prop := 0 ≤ j ∧ j ≤ 1000000 ∧ i.natAbs < 2 ^ 64
def CMul (i j : Int) : Prop := (-(2 ^ 64) < i ∧ i < 2 ^ 64) ∨ (-(2 ^ 64) < j ∧ j < 2 ^ 64)
theorem CMul.ok {i j : Int} (h : CMul i j) : IntMulOk i j := by
  rcases h with ⟨h1, h2⟩ | ⟨h1, h2⟩
  · exact .of_left (intBits_le_64 h1 h2)
  · exact .of_right (intBits_le_64 h1 h2)

theorem op_add : OpR X (binaryOp .Add) (rI0 fun i j => .int (i + j)) := opI0 fun _ _ _ _ _ _ _ q => add_int q
theorem op_sub : OpR X (binaryOp .Sub) (rI0 fun i j => .int (i - j)) := opI0 fun _ _ _ _ _ _ _ q => sub_int q
theorem op_mul : OpR X (binaryOp .Mult) (rI CMul fun i j => .int (i * j)) := opI fun _ _ _ _ _ _ _ hc q => mul_int q hc.ok
/-- // by a positive divisor -/
theorem op_fdiv : OpR X (binaryOp .FloorDiv) (rI CDiv fun i j => .int (i / j)) := opI fun i j _ _ _ _ _ hc q => by
  have h1 : (0 : Int) < j := hc.1
  have h2 : j < 1073741824 := hc.2
  exact floordiv_int (by omega) (by rw [Int.fdiv_eq_ediv_of_nonneg i (by omega)]; exact q) (.inl (PyProof.noPylong_small (by omega)))
/-- % by a positive divisor of any size -/
theorem op_mod : OpR X (binaryOp .Mod) (rI (fun _ j => 0 < j) fun i j => .int (i % j)) := opI fun i j _ _ _ _ _ hc q => by
  have h1 : (0 : Int) < j := hc
  exact mod_int' (by omega) (by rw [Int.fmod_eq_emod_of_nonneg i (by omega)]; exact q)
theorem op_pow : OpR X (binaryOp .Pow) (rI CPow fun i j => .int (i ^ j.toNat)) := opI fun _ _ _ _ _ _ _ hc q => pow_int_small hc.1 hc.2.1 hc.2.2 q


theorem unI {f : Value → Sem Value} {g : Int → Int}
    (rule : ∀ (i : Int) (t : Tok) (s : Shared) (Q : Value → Shared → Prop) (E : Value → Shared → Prop), Q (.int (g i) s.toks) { s with toks := s.toks + 1 } → wpAny (model X.prog X.w) X.A (f (.int i t)) Q E s) :
    UnR X f (rU fun i => .int (g i)) := by
  intro pins s σ H x v Q I rx h
  obtain ⟨i, rfl, q⟩ := h
  obtain ⟨t, rfl⟩ := rx
  exact rule i t s _ _ ⟨.int (g i), H, I.tok _, ⟨_, rfl⟩, q⟩
theorem un_neg : UnR X (unaryOp .USub) (rU fun i => .int (-i)) := unI fun _ _ _ _ _ q => neg_int q

/-! ### bools among ints: n += (a < b) -/
end

/-! ### comparisons -/
/-- the scalars that == tells apart as data does -/
def scal : V → V → Bool
  | .non, .non => true | .non, .int _ => true | .int _, .non => true | .non, .bl _ => true | .bl _, .non => true | .non, .str _ => true | .str _, .non => true
  | .int _, .int _ => true | .bl _, .bl _ => true | .str _, .str _ => true | .byt _, .byt _ => true
  | .int _, .str _ => true | .str _, .int _ => true | .bl _, .str _ => true | .str _, .bl _ => true
  | _, _ => false
def rEq : R2 := fun x y H Q => scal x y = true ∧ Q (.bl (decide (x = y))) H
def rNe : R2 := fun x y H Q => scal x y = true ∧ Q (.bl (!decide (x = y))) H

theorem dec_int {i j : Int} : decide (V.int i = V.int j) = (i == j) := by
  rw [Bool.eq_iff_iff]
  simp
theorem dec_bl {i j : Bool} : decide (V.bl i = V.bl j) = (i == j) := by
  rw [Bool.eq_iff_iff]
  simp
theorem dec_str {i j : Str} : decide (V.str i = V.str j) = (i == j) := by
  rw [Bool.eq_iff_iff]
  simp
theorem dec_byt {i j : Array UInt8} : decide (V.byt i = V.byt j) = (i.toList == j.toList) := by
  rw [Bool.eq_iff_iff]
  cases i
  cases j
  simp

section
variable {X : Cx} {a b c : Expr} {ta tb tc : TE} {pos : Pos}
theorem fin_bl {pins : List (Addr × Obj)} {σ : St} {H : Hp} {s : Shared} {Q : VK} {k k' : Bool} (I : Inv X pins σ H s) (q : Q (.bl k) H) (e : k = k') : EP X pins σ Q (.bool k') s := by
  subst e
  exact ⟨.bl k, H, I, rfl, q⟩
theorem op_eq : OpR X (compareOp .Eq) rEq := by
  intro pins s σ H x y v u Q I rx ry h
  obtain ⟨hs, q⟩ := h
  cases x with
  | non =>
    cases rx
    cases y with
    | non => cases ry; exact PySem.EqNone.eq_none_none (fin_bl I q (by simp))
    | bl j => cases ry; exact PySem.EqNone.eq_none_bool (fin_bl I q (by simp))
    | int j => obtain ⟨t', rfl⟩ := ry; exact PySem.EqNone.eq_none_int (fin_bl I q (by simp))
    | str j => obtain ⟨t', rfl⟩ := ry; exact PySem.EqNone.eq_none_str (fin_bl I q (by simp))
    | _ => exact absurd (show false = true from hs) Bool.false_ne_true
  | bl i =>
    cases rx
    cases y with
    | non => cases ry; exact PySem.EqNone.eq_bool_none (fin_bl I q (by simp))
    | bl j => cases ry; exact eq_bool (fin_bl I q dec_bl)
    | str j => obtain ⟨t', rfl⟩ := ry; exact PySem.EqMixed.eq_bool_str (fin_bl I q (by simp))
    | _ => exact absurd (show false = true from hs) Bool.false_ne_true
  | int i =>
    obtain ⟨t, rfl⟩ := rx
    cases y with
    | non => cases ry; exact PySem.EqNone.eq_int_none (fin_bl I q (by simp))
    | int j => obtain ⟨t', rfl⟩ := ry; exact eq_int (fin_bl I q dec_int)
    | str j => obtain ⟨t', rfl⟩ := ry; exact PySem.EqMixed.eq_int_str (fin_bl I q (by simp))
    | _ => exact absurd (show false = true from hs) Bool.false_ne_true
  | str i =>
    obtain ⟨t, rfl⟩ := rx
    cases y with
    | non => cases ry; exact PySem.EqNone.eq_str_none (fin_bl I q (by simp))
    | bl j => cases ry; exact PySem.EqMixed.eq_str_bool (fin_bl I q (by simp))
    | int j => obtain ⟨t', rfl⟩ := ry; exact PySem.EqMixed.eq_str_int (fin_bl I q (by simp))
    | str j => obtain ⟨t', rfl⟩ := ry; exact eq_str (fin_bl I q dec_str)
    | _ => exact absurd (show false = true from hs) Bool.false_ne_true
  | byt i =>
    obtain ⟨t, rfl⟩ := rx
    cases y with
    | byt j => obtain ⟨t', rfl⟩ := ry; exact PySem.W.eq_bytes (fin_bl I q dec_byt)
    | _ => exact absurd (show false = true from hs) Bool.false_ne_true
  | _ => cases y <;> exact absurd (show false = true from hs) Bool.false_ne_true
theorem op_ne : OpR X (compareOp .NotEq) rNe := by
  intro pins s σ H x y v u Q I rx ry h
  obtain ⟨hs, q⟩ := h
  cases x with
  | non =>
    cases rx
    cases y with
    | non => cases ry; exact PySem.EqNone.ne_none_none (fin_bl I q (by simp))
    | bl j => cases ry; exact PySem.EqNone.ne_none_bool (fin_bl I q (by simp))
    | int j => obtain ⟨t', rfl⟩ := ry; exact PySem.EqNone.ne_none_int (fin_bl I q (by simp))
    | str j => obtain ⟨t', rfl⟩ := ry; exact PySem.EqNone.ne_none_str (fin_bl I q (by simp))
    | _ => exact absurd (show false = true from hs) Bool.false_ne_true
  | bl i =>
    cases rx
    cases y with
    | non => cases ry; exact PySem.EqNone.ne_bool_none (fin_bl I q (by simp))
    | bl j => cases ry; exact ne_bool (fin_bl I q (congrArg not dec_bl))
    | str j => obtain ⟨t', rfl⟩ := ry; exact PySem.EqMixed.ne_bool_str (fin_bl I q (by simp))
    | _ => exact absurd (show false = true from hs) Bool.false_ne_true
  | int i =>
    obtain ⟨t, rfl⟩ := rx
    cases y with
    | non => cases ry; exact PySem.EqNone.ne_int_none (fin_bl I q (by simp))
    | int j => obtain ⟨t', rfl⟩ := ry; exact ne_int (fin_bl I q (congrArg not dec_int))
    | str j => obtain ⟨t', rfl⟩ := ry; exact PySem.EqMixed.ne_int_str (fin_bl I q (by simp))
    | _ => exact absurd (show false = true from hs) Bool.false_ne_true
  | str i =>
    obtain ⟨t, rfl⟩ := rx
    cases y with
    | non => cases ry; exact PySem.EqNone.ne_str_none (fin_bl I q (by simp))
    | bl j => cases ry; exact PySem.EqMixed.ne_str_bool (fin_bl I q (by simp))
    | int j => obtain ⟨t', rfl⟩ := ry; exact PySem.EqMixed.ne_str_int (fin_bl I q (by simp))
    | str j => obtain ⟨t', rfl⟩ := ry; exact ne_str (fin_bl I q (congrArg not dec_str))
    | _ => exact absurd (show false = true from hs) Bool.false_ne_true
  | byt i =>
    obtain ⟨t, rfl⟩ := rx
    cases y with
    | byt j => obtain ⟨t', rfl⟩ := ry; exact PySem.W.ne_bytes (fin_bl I q (congrArg not dec_byt))
    | _ => exact absurd (show false = true from hs) Bool.false_ne_true
  | _ => cases y <;> exact absurd (show false = true from hs) Bool.false_ne_true

theorem op_le : OpR X (compareOp .LtE) (rI0 fun i j => .bl (decide (i ≤ j))) := opB0 fun _ _ _ _ _ _ _ q => le_int q
theorem op_gt : OpR X (compareOp .Gt) (rI0 fun i j => .bl (decide (j < i))) := opB0 fun _ _ _ _ _ _ _ q => gt_int q




theorem nomark (b : Expr) {op : CmpOp} (h : op ≠ .In := by decide) (h2 : op ≠ .NotIn := by decide) : behindInMarks op b = false := by
  have e1 : (op == CmpOp.In) = false := by cases op <;> first | rfl | exact absurd rfl h
  have e2 : (op == CmpOp.NotIn) = false := by cases op <;> first | rfl | exact absurd rfl h2
  cases b <;> simp [behindInMarks, e1, e2]
/-- a comparison as a value; hm: nomark b, or (for in, not in) by with_unfolding_all rfl -/
theorem pe_cmpR {op : CmpOp} {r : R2} (ho : OpR X (compareOp op) r) (ha : PE X a ta) (hb : PE X b tb) (hm : behindInMarks op b = false) : PE X (.Compare a [op] [b] pos) (tOp r ta tb) := by
  intro pins s σ H Q I h
  exact wpAny_Compare1 (binT ha hb I h fun v u s2 x y H2 I2 rx ry q => ho pins s2 σ H2 x y v u Q I2 rx ry q) hm
/-- a reading of a value as a test -/
def tTest (t : TE) : TT := fun σ H Q => t σ H fun x H' => ∃ k, x = .bl k ∧ Q k H'
theorem pt_cmpR {op : CmpOp} {r : R2} (ho : OpR X (compareOp op) r) (ha : PE X a ta) (hb : PE X b tb) (hm : behindInMarks op b = false) : PT X (.Compare a [op] [b] pos) (tTest (tOp r ta tb)) := by
  intro pins s σ H Q I h
  refine wpAny_isTrue_Compare1 (thn (ha pins s σ H _ I h) fun v s1 ⟨x, H1, I1, r1, q1⟩ => thn (hb pins s1 σ H1 _ I1 q1) fun u s2 ⟨y, H2, I2, r2, q2⟩ =>
    thn (ho pins s2 σ H2 x y v u _ I2 r1 r2 q2) fun c s3 ⟨z, H3, I3, r3, k, e, q3⟩ => ?_) hm
  subst e
  cases r3
  exact wpAny_truthy_bool ⟨H3, I3, q3⟩
/-- a op1 b op2 c -/
def tChain (r r' : R2) (ta tb tc : TE) : TE := fun σ H Q => ta σ H fun x H1 => tb σ H1 fun y H2 => r x y H2 fun z H3 => ∃ k, z = .bl k ∧
  (if k = true then tc σ H3 fun w' H4 => r' y w' H4 Q else Q (.bl false) H3)
theorem pe_chain {op op' : CmpOp} {r r' : R2} (ho : OpR X (compareOp op) r) (ho' : OpR X (compareOp op') r') (ha : PE X a ta) (hb : PE X b tb) (hc : PE X c tc)
    (hm : lastMarks [op, op'] [b, c] = false := by with_unfolding_all rfl) : PE X (.Compare a [op, op'] [b, c] pos) (tChain r r' ta tb tc) := by
  intro pins s σ H Q I h
  refine Compare_chain (thn (ha pins s σ H _ I h) fun v s1 ⟨x, H1, I1, r1, q1⟩ => chain_link (thn (hb pins s1 σ H1 _ I1 q1) fun u s2 ⟨y, H2, I2, r2, q2⟩ =>
    thn (ho pins s2 σ H2 x y v u _ I2 r1 r2 q2) fun d s3 ⟨z, H3, I3, r3, k, e, q3⟩ => ?_)) hm
  subst e
  cases r3
  refine wpAny_truthy_bool ?_
  cases k with
  | false => exact ite_ff ⟨.bl false, H3, I3, rfl, q3⟩
  | true => exact ite_tt (chain_last (thn (hc pins s3 σ H3 _ I3 q3) fun w' s4 ⟨z', H4, I4, r4, q4⟩ => ho' pins s4 σ H4 y z' u w' Q I4 r2 r4 q4))

/-! ### truth -/
theorem line63 : (sizeLine : Nat) < 2 ^ 63 := by rw [sizeLine_eq]; decide

/-! ### strs and bytes -/


/-! ### scalar builtins, by CallR -/
theorem vals1 {x : V} {us : List Value} (r : Vals [x] us) : ∃ u, us = [u] ∧ RelV x u := by
  cases r with
  | cons r1 r2 => cases r2; exact ⟨_, rfl, r1⟩
theorem vals2 {x y : V} {us : List Value} (r : Vals [x, y] us) : ∃ u w', us = [u, w'] ∧ RelV x u ∧ RelV y w' := by
  cases r with
  | cons r1 r2 =>
    cases r2 with
    | cons r3 r4 => cases r4; exact ⟨_, _, rfl, r1, r3⟩
theorem call_abs : CallR X (.builtin "abs") (fun xs H Q => ∃ i, xs = [.int i] ∧ Q (.int (if i < 0 then -i else i)) H) := by
  intro pins s σ H xs us Q I r h
  obtain ⟨i, rfl, q⟩ := h
  obtain ⟨u, rfl, t, rfl⟩ := vals1 r
  exact call_abs_int fun u tk => ⟨.int (if i < 0 then -i else i), H, I.tok _, ⟨_, rfl⟩, q⟩
end
end L2

namespace L2
open PySem PySem.Spec PyProof.Rows

/-! ### an instance, its attributes a map -/
structure ObjM (h : Heap) (x dx C : Addr) (mA : Str → Option Value) : Prop where
  obj : h.get? x = some (PySem.W.instObj C dx)
  ns : h.Ns1 dx mA
  ne : dx ≠ x

theorem lookIn_ns {h : Heap} {dx : Addr} {mA : Str → Option Value} (n : h.Ns1 dx mA) : ∃ od, h.get? dx = some od ∧ ∀ name, PySem.W.lookIn name od = some (mA name) := by
  obtain ⟨o, es, ep, ho, hd, hk, _, hm⟩ := n
  refine ⟨o, ho, fun name => ?_⟩
  have e := hm name
  unfold nsFind findBy at e
  rw [← Array.find?_toList] at e
  unfold PySem.W.lookIn
  rw [hd]
  dsimp only
  split
  · rename_i y q
    rw [q] at e
    exact congrArg some e
  · rename_i q
    rw [q] at e
    have a : es.toList.any (·.refKey) = false := by
      rw [List.any_eq_false]
      intro y hy
      obtain ⟨z, t, hkey⟩ := hk y (Array.mem_toList_iff.mp hy)
      simp [DictEntry.refKey, hkey]
    have a' : ¬ es.toList.any (·.refKey) = true := by rw [a]; exact Bool.false_ne_true
    rw [if_neg a']
    exact congrArg some e

theorem ObjM.look {h : Heap} {x dx C : Addr} {mA : Str → Option Value} (I : ObjM h x dx C mA) : ∃ od, PySem.W.InstAt h x (PySem.W.instObj C dx) C (some od) ∧ ∀ name, PySem.W.lookIn name od = some (mA name) :=
  let ⟨od, ho, hl⟩ := lookIn_ns I.ns
  ⟨od, ⟨I.obj, rfl, rfl, ho⟩, hl⟩

section
variable {prog : Program} {w : World} {A : Around} {E : Value → Shared → Prop} {s : Shared} {K : PySem.W.Frag} {x dx C f : Addr} {mA : Str → Option Value} {name : Str} {v : Value}





end

/-! ### the attributes as a list of pairs -/


section
variable {P : Program} {w : World} {H H' : Hp} {h h' : Heap} {a C dx : Addr} {fs fs' : List (Str × V)}
theorem ins_get (hok : HOk P w H h) (e : H a = some (.ins C dx fs)) : ∃ mA, ObjM h a dx C mA ∧ (∀ f, RelO (fs.lookup f) (mA f)) ∧ PySem.Within mA (fs.map (·.1)) ∧ fs.length ≤ 1000 ∧ H dx = some (.own a) := by
  obtain ⟨d, z, ne, ob, mA, n, r, q⟩ := (show ObjOk P w H h a (.ins C dx fs) from hok a _ e)
  exact ⟨mA, ⟨ob, n, ne⟩, r, q, z, d⟩
end

/-! ### what of the text a class must have -/
structure Cls (K : PySem.W.Frag) (C : Addr) : Prop where
  pg : PySem.W.plainGet K C Str.empty = true
  hd : PySem.W.hasDictIn K C = true
  po : PySem.W.plainOver K C = true
  sa : PySem.W.findIn K (.ref C) "__setattr__" = some (some (.builtin "object.__setattr__"))
theorem Cls.get {K : PySem.W.Frag} {C : Addr} (c : Cls K C) (f : Str) : PySem.W.plainGet K C f = true := c.pg

section
variable {X : Cx} {pins : List (Addr × Obj)} {σ : St} {H : Hp} {s : Shared} {a C dx : Addr} {fs : List (Str × V)} {f : Str} {v : V} {A : Around} {E : Value → Shared → Prop}






end

/-! ### readings and rules -/

section
variable {X : Cx} {o e value : Expr} {f : Str} {pos pos' tpos : Pos} {ta tv : TE}

end

/-! ### isinstance -/
section
variable {X : Cx} {pins : List (Addr × Obj)} {σ : St} {H : Hp} {s : Shared} {A : Around} {E : Value → Shared → Prop} {Q : Value → Shared → Prop} {c : Value} {b : Bool}
/-- the type of a value, as the fragment's deciders take it; for an instance its class -/
inductive TyOf (K : PySem.W.Frag) (H : Hp) : V → Value → Prop where
  | non : TyOf K H .non (.type "NoneType")
  | bl (x : Bool) : TyOf K H (.bl x) (.type "bool")
  | int (i : Int) : TyOf K H (.int i) (.type "int")
  | str (x : Str) : TyOf K H (.str x) (.type "str")
  | flt (x : UInt64) : TyOf K H (.flt x) (.type "float")
  | lst {a : Addr} {xs : List V} (e : H a = some (.lst xs)) : TyOf K H (.ref a) (.type "list")
  | frz {a : Addr} {o : Obj} {xs : List V} (e : H a = some (.frz o (.lst xs))) : TyOf K H (.ref a) (.type "list")
  | tup {a : Addr} {xs : List V} (e : H a = some (.tup xs)) : TyOf K H (.ref a) (.type "tuple")
  | dK {a : Addr} {kvs : List (Key × V)} (e : H a = some (.dK kvs)) : TyOf K H (.ref a) (.type "dict")
  | dT {a : Addr} {kvs : List (List Key × V)} (e : H a = some (.dT kvs)) : TyOf K H (.ref a) (.type "dict")
  | ins {a C dx : Addr} {fs : List (Str × V)} (e : H a = some (.ins C dx fs)) (cl : Cls K C) (ha : PySem.W.findIn K (.ref C) "__class__" = some (some (.builtin "object.__class__")))
      (hn : PySem.W.specialIn K (.builtin "object.__class__") "__get__" = some (some (.builtin "getset_descriptor.__get__"))) (htk : PySem.W.takesIn K (.builtin "object.__class__") = some true)
      (hm : PySem.W.mroIn K C (.type "object") = some true) : TyOf K H (.ref a) (.ref C)
/-- isinstance(x, c) for one class c, a built-in or an own one: kitOne's answer -/
theorem isinst_ok {x : V} {u t : Value} (I : Inv X pins σ H s) (rx : RelV x u) (ty : TyOf X.K H x t) (e : PySem.W.kitOne X.K t c = some b) (h : ∀ tk, Q (.bool b) { s with toks := tk }) :
    wpAny (model X.prog X.w) A (call (.builtin "isinstance") [u, c]) Q E s := by
  cases ty with
  | non => cases (show u = Value.none from rx); exact PySem.W.kia_one PySem.W.kitx_none I.kIn True.intro e (fun z => nomatch z) h
  | bl y => cases (show u = Value.bool y from rx); exact PySem.W.kia_one PySem.W.kitx_bool I.kIn True.intro e (fun z => nomatch z) h
  | int i => obtain ⟨t, q⟩ := (show ∃ t, u = Value.int i t from rx); cases q; exact PySem.W.kia_one PySem.W.kitx_int I.kIn True.intro e (fun z => nomatch z) h
  | str y => obtain ⟨t, q⟩ := (show ∃ t, u = Value.str y t from rx); cases q; exact PySem.W.kia_one PySem.W.kitx_str I.kIn True.intro e (fun z => nomatch z) h
  | flt y => obtain ⟨t, q⟩ := (show ∃ t, u = Value.float y t from rx); cases q; exact PySem.W.kia_one PySem.W.kitx_float I.kIn True.intro e (fun z => nomatch z) h
  | @lst a xs ea =>
    cases (show u = Value.ref a from rx)
    obtain ⟨_, _, n, _, h1⟩ := (show ObjOk X.prog X.w H s.heap a (.lst xs) from I.hok a _ ea)
    exact PySem.W.kia_one PySem.W.kitx_list I.kIn ⟨_, h1, rfl⟩ e (fun z => nomatch z) h
  | @frz a ob xs ea =>
    cases (show u = Value.ref a from rx)
    obtain ⟨_, _, _, n, _, h1⟩ := (show ObjOk X.prog X.w H s.heap a (.frz ob (.lst xs)) from I.hok a _ ea)
    exact PySem.W.kia_one PySem.W.kitx_list I.kIn ⟨_, h1, rfl⟩ e (fun z => nomatch z) h
  | @tup a xs ea =>
    cases (show u = Value.ref a from rx)
    obtain ⟨_, _, _, p⟩ := (show ObjOk X.prog X.w H s.heap a (.tup xs) from I.hok a _ ea)
    obtain ⟨o, h1, h2, _⟩ := p
    exact PySem.W.kia_one PySem.W.kitx_tuple I.kIn ⟨o, h1, h2⟩ e (fun z => nomatch z) h
  | @dK a kvs ea =>
    cases (show u = Value.ref a from rx)
    obtain ⟨_, _, vs, _, p⟩ := (show ObjOk X.prog X.w H s.heap a (.dK kvs) from I.hok a _ ea)
    obtain ⟨o, es, ep, h1, h2, _⟩ := p
    exact PySem.W.kia_one PySem.W.kitx_dict I.kIn ⟨o, h1, h2.1⟩ e (fun z => nomatch z) h
  | @dT a kvs ea =>
    cases (show u = Value.ref a from rx)
    obtain ⟨_, _, xs, _, o, es, ep, h1, h2, _⟩ := (show ObjOk X.prog X.w H s.heap a (.dT kvs) from I.hok a _ ea)
    exact PySem.W.kia_one PySem.W.kitx_dict I.kIn ⟨o, h1, h2.1⟩ e (fun z => nomatch z) h
  | @ins a C dx fs ea cl ha hn htk hm =>
    cases (show u = Value.ref a from rx)
    obtain ⟨mA, O, _⟩ := ins_get I.hok ea
    obtain ⟨od, J, _⟩ := O.look
    exact PySem.W.kia_one (PySem.W.kitx_own (cl.get _) cl.hd ha hn htk hm) I.kIn J e (fun z => nomatch z) h
end
end L2

namespace L2
open PySem PySem.Spec PyProof.Rows

/-! ### room -/
structure Room (k : Nat) (A : Around) : Prop where
  hd : A.handled = none
  dp : A.depth + 3 * k + 5 < recursionLimit
  un : A.units + 16 * k + 200 < cLine
theorem Room.mono {j k : Nat} {A : Around} (r : Room k A) (h : j ≤ k) : Room j A := ⟨r.hd, by have := r.dp; omega, by have := r.un; omega⟩
theorem Room.deeper {k : Nat} {A : Around} (r : Room (k + 1) A) (env : Env) : Room k (A.deeper env) :=
  ⟨r.hd, by have := r.dp; show A.depth + 1 + 3 * k + 5 < _; omega, by have := r.un; show A.units + 3 + 16 * k + 200 < _; omega⟩
theorem Room.depth {k : Nat} {A : Around} (r : Room k A) : A.depth < recursionLimit := by have := r.dp; omega
theorem Room.units {k : Nat} {A : Around} (r : Room k A) : A.units + 64 < cLine := by have := r.un; omega
theorem Room.units0 {k : Nat} {A : Around} (r : Room k A) : A.units < cLine := by have := r.un; omega

/-! ### argument lists and displays -/
def tNil : TA := fun _ H Q => Q [] H
def tCons (ta : TE) (tr : TA) : TA := fun σ H Q => ta σ H fun x H1 => tr σ H1 fun xs H2 => Q (x :: xs) H2
section
variable {X : Cx} {e : Expr} {es : List Expr} {te : TE} {t : TA} {pos : Pos}
theorem pa_nil : PA X [] tNil := fun _ _ _ _ H Q I h => Calls.spliced_nil ⟨[], H, I, .nil, h⟩
theorem pa_cons (ha : PE X e te) (hr : PA X es t) (hs : starEach (e :: es) X.env = (false, eval e X.env) :: starEach es X.env := by rfl) : PA X (e :: es) (tCons te t) := by
  intro pos pins s σ H Q I h
  rw [hs]
  show wpAny _ _ (spliced ((false, eval e X.env) :: backTo pos (starEach es X.env))) _ _ s
  refine Calls.spliced_cons (thn (ha pins s σ H _ I h) fun u s1 ⟨x, H1, I1, r1, q1⟩ => ?_)
  exact thn (hr pos pins s1 σ H1 _ I1 q1) fun us s2 ⟨xs, H2, I2, r2, q2⟩ => ⟨x :: xs, H2, I2, .cons r1 r2, q2⟩

/-- a tuple, a list of written items -/
def tTup (t : TA) : TE := fun σ H Q => t σ H fun xs H1 => xs.length ≤ sizeLine ∧ ∀ p, H1 p = none → Q (.ref p) (upd H1 p (.tup xs))
def tLst (t : TA) : TE := fun σ H Q => t σ H fun xs H1 => xs.length ≤ sizeLine ∧ ∀ p, H1 p = none → Q (.ref p) (upd H1 p (.lst xs))
theorem pe_tup {x1} (h : PA X es t) : PE X (.Tuple es x1 pos) (tTup t) := by
  intro pins s σ H Q I hq
  refine wpAny_Tuple_spliced (thn (h pos pins s σ H _ I hq) fun us s1 ⟨xs, H1, I1, r, z, q⟩ => ⟨by rw [← r.length]; exact z, ?_⟩)
  have hf : H1 s1.heap.objs.size = none := I1.hok.fresh (Nat.le_refl _)
  refine ⟨.ref s1.heap.objs.size, upd H1 s1.heap.objs.size (.tup xs), I1.laid (t' := s1.toks) (fun b u e => Heap.get?_push_of_some _ e) (Nat.le_refl _) ?_, rfl, q _ hf⟩
  exact ⟨z, us, r, ⟨_, Heap.get?_push_size _ rfl, rfl, _, rfl⟩⟩
theorem pe_lst (h : PA X es t) : PE X (.List es pos) (tLst t) := by
  intro pins s σ H Q I hq
  refine wpAny_List_spliced (thn (h pos pins s σ H _ I hq) fun us s1 ⟨xs, H1, I1, r, z, q⟩ => ⟨by rw [← r.length]; exact z, ?_⟩)
  have hf : H1 s1.heap.objs.size = none := I1.hok.fresh (Nat.le_refl _)
  refine ⟨.ref s1.heap.objs.size, upd H1 s1.heap.objs.size (.lst xs), I1.laid (t' := s1.toks) (fun b u e => Heap.get?_push_of_some _ e) (Nat.le_refl _) ?_, rfl, q _ hf⟩
  exact ⟨z, us, 0, r, Heap.get?_push_size _ rfl⟩
end

/-! ### what a def promises -/
/-- a def's promise: the bound arguments in the parameters' order, the heap, the wanted end, the wanted exception -/
abbrev Sp := List V → Hp → VK → XK → Prop
/-- how an exception lies behind a call (file 08 gives it): the callers' frames, abstract heap and state ahead of the call, the wish, the exception, the state -/
abbrev CXT := List Env → Hp → Shared → XK → Value → Shared → Prop

/-- the state at a call -/
structure Env0 (P : Program) (w : World) (K : PySem.W.Frag) (mg : Str → Option Value) (base : Heap) (A : Around) (outer : List Env) (s : Shared) (H : Hp) : Prop where
  frames : A.frames = some outer
  mod : Mod K mg base
  bs : ∀ b o, base.get? b = some o → s.heap.get? b = some o ∧ H b = none
  bsz : base.objs.size ≤ s.heap.objs.size
  funs : s.heap.FunFrames base outer
  frf : ∀ b ∈ frs outer, H b = none
  hok : HOk P w H s.heap
  bare : AllBare s.gens
/-- a call's end -/
def CE (outer : List Env) (P : Program) (w : World) (H : Hp) (s : Shared) (Q : VK) (u : Value) (s' : Shared) : Prop :=
  ∃ v H', s'.os = s.os ∧ AllBare s'.gens ∧ Un (frs outer) [] H H' s.heap s'.heap ∧ HOk P w H' s'.heap ∧ RelV v u ∧ Q v H'
def CR (CX : CXT) (outer : List Env) (P : Program) (w : World) (H : Hp) (s : Shared) (Q : VK) (E : XK) (r : Result) (s' : Shared) : Prop :=
  match r with
  | .ok (.ret u) => CE outer P w H s Q u s'
  | .ok _ => False
  | .error e => CX outer H s E e s'
structure FnOk (P : Program) (w : World) (K : PySem.W.Frag) (mg : Str → Option Value) (base : Heap) (CX : CXT) (k : Nat) (f : Addr) (fd : FuncData) (ps : List Str) (sp : Sp) : Prop where
  len : ∀ vs H Q E, sp vs H Q E → vs.length = ps.length
  run : ∀ (A : Around) (outer : List Env) (s : Shared) (H : Hp) (args : Args) (us : List Value) (vs : List V) (Q : VK) (E : XK), Room k A → Env0 P w K mg base A outer s H → BindsTo s fd args (ps.zip us) → Vals vs us → sp vs H Q E →
    codeAny (model P w) A (.call (.ref f) args) (CR CX outer P w H s Q E) s


section
variable {X : Cx} {pins : List (Addr × Obj)} {σ : St} {H : Hp} {s s' : Shared}
/-- from a body: what a callee wants -/
theorem Inv.env0 (I : Inv X pins σ H s) : Env0 X.prog X.w X.K X.mg X.base X.A X.stack s H :=
  ⟨I.ok.frames, I.ok.mod, I.bs, Nat.le_trans I.ok.bsz I.sz, I.stack, I.stkFree, I.hok, I.bare⟩
/-- behind a call -/
theorem Inv.after {Q : VK} {u : Value} (I : Inv X pins σ H s) (h : CE X.stack X.prog X.w H s Q u s') : EP X pins σ Q u s' := by
  obtain ⟨v, H', os, bare, un, hok, r, q⟩ := h
  obtain ⟨hh, g, d, t, os'⟩ := s'
  obtain rfl : os' = s.os := os
  exact ⟨v, H', I.call (h' := hh) (g' := g) (d' := d) (t' := t) (ch := []) un hok bare (fun b z => absurd z (by simp)), r, q⟩
end

/-! ### calls -/
/-- f(..): the written arguments, then the defaults dvs; E: what is wanted of an exception -/
def tCall (sp : Sp) (dvs : List V) (E : XK) (t : TA) : TE := fun σ H Q => t σ H fun vs H1 => sp (vs ++ dvs) H1 Q E

/-- how the parameters are bound: us the positional arguments, kw the keywords' values by name, ds the defaults that fill up -/
def Binds (K : PySem.W.Frag) (fd : FuncData) (ps : List Str) (ds : List Value) : Prop :=
  ∀ (s : Shared) (us : List Value), K.In s.heap → (us ++ ds).length = ps.length → BindsTo s fd ⟨us, []⟩ (ps.zip (us ++ ds))
/-- every parameter is given -/
theorem Binds.all {K : PySem.W.Frag} {fd : FuncData} {ps : List Str} (h : ∀ us : List Value, us.length = ps.length → bindArgs fd ⟨us, []⟩ = pure (ps.zip us)) : Binds K fd ps [] := fun s us _ hl => by
  rw [List.append_nil] at hl ⊢
  exact .of_eq (h us hl)

/-- an exception of a callee reaches what this body wants of exceptions -/
def Passes (CX : CXT) (X : Cx) (E : XK) : Prop := ∀ (pins : List (Addr × Obj)) (σ : St) (H : Hp) (s : Shared) (e : Value) (s' : Shared), Inv X pins σ H s → CX X.stack H s E e s' → X.xe e s'

section
variable {X : Cx} {CX : CXT} {k : Nat} {f C : Addr} {fd : FuncData} {ps : List Str} {sp : Sp} {dvs : List V} {ds : List Value} {E : XK} {x m : Str} {p pos apos : Pos} {e o : Expr} {es : List Expr} {ta : TE} {t : TA}

/-- the callee runs -/
theorem run_fn {pins : List (Addr × Obj)} {σ : St} {H : Hp} {s : Shared} {Q : VK} {us : List Value} {vs : List V} (F : FnOk X.prog X.w X.K X.mg X.base CX k f fd ps sp) (hr : Room k X.A) (hb : Binds X.K fd ps ds) (hd : Vals dvs ds) (hx : Passes CX X E)
    (I : Inv X pins σ H s) (r : Vals vs us) (h : sp (vs ++ dvs) H Q E) : wpAny (model X.prog X.w) X.A (call (.ref f) us) (EP X pins σ Q) X.xe s := by
  have r2 : Vals (vs ++ dvs) (us ++ ds) := r.append hd
  have hl : (us ++ ds).length = ps.length := by rw [← r2.length]; exact F.len _ _ _ _ h
  refine wpAny_call (codeAny_mono (F.run X.A X.stack s H ⟨us, []⟩ (us ++ ds) (vs ++ dvs) Q E hr I.env0 (hb s us I.kIn hl) r2 h) fun r s' hq => ?_)
  cases r with
  | error e => exact hx pins σ H s e s' I hq
  | ok fl =>
    cases fl with
    | ret u => exact I.after hq
    | next => exact False.elim hq
    | brk => exact False.elim hq
    | cont => exact False.elim hq

theorem pe_call (F : FnOk X.prog X.w X.K X.mg X.base CX k f fd ps sp) (hr : Room k X.A) (hg : Gl X x) (hm : X.mg x = some (.ref f)) (hk : PySem.W.keepIn X.K (.ref f) = true) (hb : Binds X.K fd ps ds) (hd : Vals dvs ds) (hx : Passes CX X E)
    (ha : PA X (e :: es) t) (hdb : (x == ("__debug__" : Str)) = false := by decide) (he : starEach (e :: es) X.env = (false, eval e X.env) :: starEach es X.env := by rfl) (hpl : (backTo pos (starEach es X.env)).any (·.1) = false := by rfl) :
    PE X (.Call (.Name x p) (e :: es) [] pos) (tCall sp dvs E t) := by
  intro pins s σ H Q I h
  refine wpAny_Call_Name_kw (ld_glob I hg hm ?_ hdb)
  refine PySem.W.callWith_K (h₀ := X.base) I.ok.mod.kin hk (thn (ha pos pins s σ H _ I h) fun us s1 ⟨vs, H1, I1, r, q⟩ => ⟨I1.kIn, ?_⟩) he hpl
  exact run_fn F hr hb hd hx I1 r q



end

/-! ### keywords -/
section
variable {X : Cx} {CX : CXT} {k : Nat} {f C : Addr} {fd : FuncData} {ps ks : List Str} {sp : Sp} {E : XK} {x m : Str} {p pos apos kpos : Pos} {e o : Expr} {es : List Expr} {kws : List Keyword} {te ta : TE} {t tk : TA} {nm : Option Str}

variable {g : List Value → List Value → List Value} {gV : List V → List V → List V}
end

/-! ### a def's body keeps its promise -/
/-- names: the parameters first -/
structure FnScope (N P : List Str) (sc : Scope) : Prop where
  kind : sc.kind = .function
  co : sc.isCoroutine = false
  gen : sc.isGenerator = false
  nd : N.Nodup
  pre : N.take P.length = P
  par : ∀ x ∈ P, sc.names.lookup x = some .local ∨ sc.names.lookup x = some .cell
  nofree : ∀ y ∈ sc.names, y.2 ≠ .free

theorem bindL_out {kindOf : Str → Option NameKind} {x : Str} : ∀ {binds : List (Str × Value)} {m : Str → Option Value}, (∀ v, (x, v) ∉ binds) → bindL kindOf binds m x = m x
  | [], _, _ => rfl
  | (n, v) :: r, m, h => by
    unfold bindL
    rw [bindL_out fun w hw => h w (List.mem_cons_of_mem _ hw)]
    split
    · have : x ≠ n := by rintro rfl; exact h v List.mem_cons_self
      simp [this]
    · rfl
theorem bindC_out {kindOf : Str → Option NameKind} {x : Str} : ∀ {binds : List (Str × Value)} {m : Str → Option Value}, (∀ v, (x, v) ∉ binds) → bindC kindOf binds m x = m x
  | [], _, _ => rfl
  | (n, v) :: r, m, h => by
    unfold bindC
    rw [bindC_out fun w hw => h w (List.mem_cons_of_mem _ hw)]
    split
    · rfl
    · have : x ≠ n := by rintro rfl; exact h v List.mem_cons_self
      simp [this]
theorem bindL_get {kindOf : Str → Option NameKind} {x : Str} {v : Value} : ∀ {P : List Str} {vs : List Value} {i : Nat} {m : Str → Option Value}, P.Nodup → P[i]? = some x → vs[i]? = some v → kindOf x = some .local →
    bindL kindOf (P.zip vs) m x = some v
  | [], _, _, _, _, h, _, _ => by simp at h
  | _ :: _, [], _, _, _, _, h, _ => by simp at h
  | p :: P, w :: vs, 0, m, nd, h1, h2, hk => by
    simp at h1 h2; subst h1; subst h2
    show bindL kindOf ((p, w) :: P.zip vs) m p = _
    unfold bindL
    rw [bindL_out fun v hv => (List.nodup_cons.mp nd).1 (List.of_mem_zip hv).1, if_pos hk]
    simp
  | p :: P, w :: vs, i + 1, m, nd, h1, h2, hk => by
    show bindL kindOf ((p, w) :: P.zip vs) m x = _
    unfold bindL
    exact bindL_get (i := i) (List.nodup_cons.mp nd).2 (by simpa using h1) (by simpa using h2) hk
theorem bindC_get {kindOf : Str → Option NameKind} {x : Str} {v : Value} : ∀ {P : List Str} {vs : List Value} {i : Nat} {m : Str → Option Value}, P.Nodup → P[i]? = some x → vs[i]? = some v → kindOf x ≠ some .local →
    bindC kindOf (P.zip vs) m x = some v
  | [], _, _, _, _, h, _, _ => by simp at h
  | _ :: _, [], _, _, _, _, h, _ => by simp at h
  | p :: P, w :: vs, 0, m, nd, h1, h2, hk => by
    simp at h1 h2; subst h1; subst h2
    show bindC kindOf ((p, w) :: P.zip vs) m p = _
    unfold bindC
    rw [bindC_out fun v hv => (List.nodup_cons.mp nd).1 (List.of_mem_zip hv).1, if_neg hk]
    simp
  | p :: P, w :: vs, i + 1, m, nd, h1, h2, hk => by
    show bindC kindOf ((p, w) :: P.zip vs) m x = _
    unfold bindC
    exact bindC_get (i := i) (List.nodup_cons.mp nd).2 (by simpa using h1) (by simpa using h2) hk

/-- the names' values at the entry -/
def start (N : List Str) (vs : List V) : St := vs.map some ++ List.replicate (N.length - vs.length) none

/-- the context of a def's body, at its entry; an exception leaves the frame, then lies as CX says -/
def cxOf (CX : CXT) (P : Program) (w : World) (K : PySem.W.Frag) (mg : Str → Option Value) (base : Heap) (N : List Str) (qual : Str) (scope : Scope) (f : Addr) (cd : Value) (A : Around) (outer : List Env) (s : Shared) (H : Hp) (E : XK) : Cx where
  prog := P
  w := w
  K := K
  mg := mg
  base := base
  A := A.deeper (envOfC qual scope s.heap.objs.size f cd)
  N := N
  s₀ := s
  H₀ := H
  env := envOfC qual scope s.heap.objs.size f cd
  outer := outer
  stack := envOfC qual scope s.heap.objs.size f cd :: outer
  ex := []
  calm := true
  fn := fun _ => true
  pn := []
  xe := fun e s' => wpAny (model P w) (A.deeper (envOfC qual scope s.heap.objs.size f cd)) (leaving (envOfC qual scope s.heap.objs.size f cd) e) (fun _ s'' => CX outer H s E e s'') (fun e' s'' => CX outer H s E e' s'') s'

theorem cell_has {sc : Scope} {n : Nat} {x : Str} (h : sc.names.lookup x = some .cell) : ∃ c, (cellsFrom n sc.names []).lookup x = some c := by
  have q := PySem.W.cellsFrom_some sc.names n [] (.inl h)
  exact Option.isSome_iff_exists.mp q

theorem inv_start {CX : CXT} {P : Program} {w : World} {K : PySem.W.Frag} {mg : Str → Option Value} {base : Heap} {N ps : List Str} {qual : Str} {scope : Scope} {f : Addr} {cd : Value} {A : Around} {outer : List Env} {s s1 : Shared} {H : Hp} {E : XK} {us : List Value} {vs : List V}
    (S : FnScope N ps scope) (hd : A.handled = none) (e0 : Env0 P w K mg base A outer s H) (hl : vs.length = ps.length) (r : Vals vs us)
    (x : InCallC s s.heap.objs.size (bindL (envOfC qual scope s.heap.objs.size f cd).kindOf (ps.zip us) fun _ => none) (cellsFrom (s.heap.objs.size + 1) scope.names []) (bindC (envOfC qual scope s.heap.objs.size f cd).kindOf (ps.zip us) fun _ => none) s1) :
    Inv (cxOf CX P w K mg base N qual scope f cd A outer s H E) [] (start N vs) H s1 := by
  have hpl : ps.length ≤ N.length := by have := congrArg List.length S.pre; rw [List.length_take] at this; omega
  obtain ⟨h1, tk, rfl, hk⟩ := x.done
  have noA : ∀ b : Addr, b ∉ (cxOf CX P w K mg base N qual scope f cd A outer s H E).ex := fun b z => absurd (show b ∈ ([] : List Addr) from z) (by simp)
  refine ⟨⟨e0.mod, S.kind, rfl, rfl, Nat.le_refl _, fun y z c h1 h2 => ?_, fun y hy => ?_, fun y c _ h => ?_, fun _ => hd, Around.frames_deeper e0.frames, .inr ⟨rfl, rfl⟩, fun b z => absurd z (noA b), e0.bs, e0.bsz, fun b _ _ => noA b, fun b z => absurd z (noA b), e0.funs, e0.frf⟩,
    rfl, e0.bare, Un.kept hk, ⟨_, x.toInCall.ns, fun i y v h1 h2 h3 => ?_⟩, fun y c h => ⟨_, x.cell y c h⟩, e0.hok.fresh (Nat.le_refl _), fun y c h => ?_, fun p hp => absurd (show p ∈ ([] : List (Addr × Obj)) from hp) (by simp), e0.hok.kept hk, ?_⟩
  · exact name_of_addr x.apart (PySem.mem_of_lookup h1) (PySem.mem_of_lookup h2)
  · have hy : scope.names.lookup y = some .cell ∨ scope.names.lookup y = some .free := hy
    rcases hy with hy | hy
    · exact cell_has hy
    · exact absurd rfl (S.nofree _ (PySem.mem_of_lookup hy))
  · exact Nat.le_of_lt (x.above y c (PySem.mem_of_lookup h))
  · have hi : i < vs.length := by
      unfold start at h2
      by_cases hi : i < vs.length
      · exact hi
      · rw [List.getElem?_append_right (by simpa using hi)] at h2
        rw [List.getElem?_replicate] at h2
        split at h2 <;> cases h2
    have ha : vs[i]? = some v := by
      unfold start at h2
      rw [List.getElem?_append_left (by simpa using hi), List.getElem?_map] at h2
      cases e : vs[i]? with
      | none => rw [e] at h2; cases h2
      | some a => rw [e] at h2; cases h2; rfl
    obtain ⟨u, hu, rv⟩ := r.get ha
    have hp : ps[i]? = some y := by
      rw [← S.pre, List.getElem?_take_of_lt (by omega)]; exact h1
    have ndP : ps.Nodup := by rw [← S.pre]; exact S.nd.sublist (List.take_sublist _ _)
    refine ⟨u, rv, ?_⟩
    rcases S.par y (List.mem_of_getElem? hp) with k | k
    · exact .inl ⟨k, bindL_get ndP hp hu k⟩
    · obtain ⟨c, e⟩ := cell_has (n := s.heap.objs.size + 1) k
      refine .inr ⟨.inl k, c, e, ?_⟩
      have q := x.cell y c e
      rw [bindC_get ndP hp hu (by show scope.names.lookup y ≠ _; rw [k]; decide)] at q
      exact q
  · exact e0.hok.fresh (Nat.le_of_lt (x.above y c (PySem.mem_of_lookup h)))
  · unfold start
    show _ = N.length
    rw [List.length_append, List.length_map, List.length_replicate]
    omega

/-- THE RULE: a def (or a method) of the text, by its body. The body's reading t is chosen for each entry; it is run at the parameters' values -/
theorem fn_of {CX : CXT} {P : Program} {w : World} {K : PySem.W.Frag} {mg : Str → Option Value} {base : Heap} {k : Nat} {f : Addr} {name qual : Str} {params : Arguments} {body : List Stmt} {scope : Scope} {dV kV doc pm cdv ct oc : Value} {an od : Option Addr}
    {osl : Array (Option Value)} {N ps : List Str} {sp : Sp} (lk : K.lookup f = some ⟨oc, od, .func (PySem.W.fnOf name qual params body scope dV kV doc pm an cdv ct), osl⟩) (hcd : PySem.W.codeIn K cdv qual = true) (S : FnScope N ps scope)
    (len : ∀ vs H Q E, sp vs H Q E → vs.length = ps.length)
    (hbody : ∀ (A : Around) (outer : List Env) (s : Shared) (H : Hp) (vs : List V) (Q : VK) (E : XK), Room k (A.deeper (envOfC qual scope s.heap.objs.size f cdv)) → sp vs H Q E →
      ∃ t, PSs (cxOf CX P w K mg base N qual scope f cdv A outer s H E) body t ∧ t { nx := fun _ H' => Q .non H', rt := Q } (start N vs) H) :
    FnOk P w K mg base CX (k + 1) f (PySem.W.fnOf name qual params body scope dV kV doc pm an cdv ct) ps sp := by
  refine ⟨len, fun A outer s H args us vs Q E hr e0 hb r hsp => ?_⟩
  have hl := len _ _ _ _ hsp
  have KX : K.In s.heap := e0.mod.kin.keeps fun b o e => (e0.bs b o e).1
  have lim : s.heap.NoLimit := e0.mod.nolimit.keeps fun b o e => (e0.bs b o e).1
  have hkind : ∀ y ∈ ps.zip us, scope.names.lookup y.1 = some .local ∨ (scope.names.lookup y.1 = some .cell ∧ ((cellsFrom (s.heap.objs.size + 1) scope.names []).lookup y.1).isSome = true) := fun ⟨n, v⟩ hy => by
    rcases S.par n (List.of_mem_zip hy).1 with q | q
    · exact .inl q
    · exact .inr ⟨q, PySem.W.cellsFrom_some _ _ _ (.inl q)⟩
  refine codeAny_call_function hr.depth (KX _ _ lk) rfl S.co S.gen rfl (PySem.W.codeRec_of KX hcd) (hb _ _ _ _ ?_)
  refine wpAny_newFunctionEnv_cells S.kind hkind fun env he s1 x => ?_
  subst he
  refine ⟨lim.keeps x.toInCall.keep, codeAny_func ?_⟩
  obtain ⟨t, ht, hq⟩ := hbody A outer s H vs Q E (hr.deeper _) hsp
  have I : Inv (cxOf CX P w K mg base N qual scope f cdv A outer s H E) [] (start N vs) H s1 := inv_start S hr.hd e0 hl r x
  refine wpAny_mono (ht [] s1 (start N vs) H _ I hq) (fun fl s' hs => ?_) fun e s' hs => hs
  have fin : ∀ {σ' : St} {H' : Hp} {v : V} {u : Value}, Inv (cxOf CX P w K mg base N qual scope f cdv A outer s H E) [] σ' H' s' → RelV v u → Q v H' → CE outer P w H s Q u s' :=
    fun {σ' H' v u} J rv q => ⟨v, H', J.os, J.bare, J.base, J.hok, rv, q⟩
  cases fl with
  | ret u =>
    obtain ⟨v, σ', H', J, rv, q⟩ := hs
    exact fin J rv q
  | next =>
    obtain ⟨σ', H', J, q⟩ := hs
    exact fin (v := V.non) (u := Value.none) J rfl q
  | brk =>
    obtain ⟨_, _, _, q⟩ := hs
    exact False.elim q
  | cont =>
    obtain ⟨_, _, _, q⟩ := hs
    exact False.elim q
end L2

namespace L2
open PySem PySem.Spec PyProof.Rows
section
variable {X : Cx} {x : Str} {p pos : Pos} {e : Expr} {es : List Expr} {t : TA} {id T : String} {r : List V → Hp → VK → Prop}

def tCB (r : List V → Hp → VK → Prop) (t : TA) : TE := fun σ H Q => t σ H fun vs H1 => r vs H1 Q
/-- f(e, ..), f a built-in function -/
theorem pe_callB (hc : CallR X (.builtin id) r) (hg : Gl X x) (hm : X.mg x = none) (hv : bootBuiltins x = some (.builtin id)) (ha : PA X (e :: es) t) (hn : x ≠ "__name__" := by decide) (hdb : (x == ("__debug__" : Str)) = false := by decide)
    (he : starEach (e :: es) X.env = (false, eval e X.env) :: starEach es X.env := by rfl) (hpl : (backTo pos (starEach es X.env)).any (·.1) = false := by rfl) : PE X (.Call (.Name x p) (e :: es) [] pos) (tCB r t) := by
  intro pins s σ H Q I h
  refine wpAny_Call_Name_kw (ld_blt I hg hm hv ?_ hn hdb)
  exact PyProof.Rows.callWith_builtin1 (thn (ha pos pins s σ H _ I h) fun us s1 ⟨vs, H1, I1, r1, q1⟩ => hc pins s1 σ H1 vs us Q I1 r1 q1) he hpl
/-- T(e, ..), T a built-in type -/
theorem pe_callTy (hc : CallR X (.type T) r) (hg : Gl X x) (hm : X.mg x = none) (hv : bootBuiltins x = some (.type T)) (ha : PA X (e :: es) t) (hn : x ≠ "__name__" := by decide) (hdb : (x == ("__debug__" : Str)) = false := by decide)
    (he : starEach (e :: es) X.env = (false, eval e X.env) :: starEach es X.env := by rfl) (hpl : (backTo pos (starEach es X.env)).any (·.1) = false := by rfl) : PE X (.Call (.Name x p) (e :: es) [] pos) (tCB r t) := by
  intro pins s σ H Q I h
  refine wpAny_Call_Name_kw (ld_blt I hg hm hv ?_ hn hdb)
  exact PyProof.Rows.callWith_type1 (thn (ha pos pins s σ H _ I h) fun us s1 ⟨vs, H1, I1, r1, q1⟩ => hc pins s1 σ H1 vs us Q I1 r1 q1) he hpl
end
end L2

namespace HT
open PySem PyProof.Rows

/-- t < u of tuples of ints -/
def lexLt : List Int → List Int → Bool
  | [], [] => false
  | [], _ :: _ => true
  | _ :: _, [] => false
  | x :: xs, y :: ys => if x = y then lexLt xs ys else decide (x < y)
theorem lexLt_cons (x y : Int) (xs ys : List Int) : lexLt (x :: xs) (y :: ys) = if x = y then lexLt xs ys else decide (x < y) := rfl
theorem lexLt_nil_nil : lexLt [] [] = false := rfl
theorem lexLt_nil_cons (y : Int) (ys : List Int) : lexLt [] (y :: ys) = true := rfl
theorem lexLt_cons_nil (x : Int) (xs : List Int) : lexLt (x :: xs) [] = false := rfl

theorem eqAt_int (A : Around) (s : Shared) (a : Int) (t : Tok) (c : Int) (u : Tok) : ∃ e, SeqAt.EqAt A s (.int a t) (.int c u) e ∧ (e = true ↔ a = c) :=
  ⟨(a == c), SeqAt.EqAt.int_int a t c u, by simp⟩
theorem rcLt_int (A : Around) (s : Shared) (a : Int) (t : Tok) (c : Int) (u : Tok) (prog : Program) (w : World) (E : Value → Shared → Prop) (Q : Value → Shared → Prop) (h : Q (.bool (decide (a < c))) s) :
    wpAny (model prog w) A (richCompare .Lt (.int a t) (.int c u)) Q E s :=
  (PyProof.Rows.lt_int h : wpAny (model prog w) A (compareOp .Lt (.int a t) (.int c u)) Q E s)

section
open PySem.SeqAt
open PySem.AutoSeq1 (wpAny_loadPart')
open PySem.MeetsSeq PySem.MeetsSeq2 PySem.MeetsSeq3

theorem tuple_lt_ints (l b : Addr) (items items2 : Array Value) (n n2 : Nat) (dd dd2 : Option Addr) (sl sl2 : Array (Option Value)) (ns ms : List Int) (hi : IntsAre items.toList ns) (hj : IntsAre items2.toList ms) :
    Meets (Builtin.«tuple.__lt__» ⟨[.ref l, .ref b], []⟩)
      (fun _ R s => s.heap.get? l = some { cls := .type "tuple", dict := dd, data := .seq items n, slots := sl } ∧ s.heap.get? b = some { cls := .type "tuple", dict := dd2, data := .seq items2 n2, slots := sl2 } ∧
        R (.ok (.ret (.bool (lexLt ns ms)))) s) :=
  .of_wp fun prog w A R s h => by
    obtain ⟨hp, g, d, tk, os⟩ := s; obtain ⟨hl, hb, h⟩ := h
    have f2 := AutoSeq1.sub_tuple_tuple
    have z1 : items.size = ns.length := by rw [← hi.length]; simp
    have z2 : items2.size = ms.length := by rw [← hj.length]; simp
    wp_walk using wpAny_loadPart' hl, wpAny_loadPart' hb, wpAny_forIn_list _ (fun rest b s' => b.1 = none ∧ s' = ⟨hp, g, d, tk, os⟩ ∧ ∃ (vs ws : List Value) (ns' ms' : List Int), rest = vs.zip ws ∧
      IntsAre vs ns' ∧ IntsAre ws ms' ∧ ns'.length + items2.size = ms'.length + items.size ∧ R (.ok (.ret (.bool (lexLt ns' ms')))) ⟨hp, g, d, tk, os⟩) _
    case turn =>
      rintro ⟨y, x⟩ rest b s' ⟨hb', rfl, vs, ws, ns', ms', hz, hvi, hwi, hlen, hR⟩
      cases hvi with
      | nil => rw [List.zip_nil_left] at hz; cases hz
      | cons a t hvi' =>
        cases hwi with
        | nil => rw [List.zip_nil_right] at hz; cases hz
        | cons c u hwi' =>
          rw [List.zip_cons_cons] at hz
          injection hz with hyx hrest
          injection hyx with hy hx
          subst hy hx
          rw [lexLt_cons] at hR
          simp only [List.length_cons] at hlen
          obtain ⟨e, he, hiff⟩ := eqAt_int A.in1 ⟨hp, g, d, tk, os⟩ a t c u
          refine wpAny_bind (he prog w _ _ ?_)
          cases e with
          | true =>
            rw [if_pos (hiff.mp rfl)] at hR
            wp_walk
            exact ⟨rfl, rfl, _, _, _, _, hrest, hvi', hwi', by omega, hR⟩
          | false =>
            rw [if_neg (fun q => absurd (hiff.mpr q) Bool.false_ne_true)] at hR
            have hri := rcLt_int A.in1 ⟨hp, g, d, tk, os⟩ a t c u prog w
            wp_walk using hri
            exact ⟨_, rfl, by simpa using hR⟩
    case fin =>
      rintro ⟨b1, b2⟩ s' ⟨hb', rfl, vs, ws, ns', ms', hz, hvi, hwi, hlen, hR⟩
      simp only at hb'
      subst hb'
      have hv : lexLt ns' ms' = decide (items.size < items2.size) := by
        cases hvi with
        | nil =>
          cases hwi with
          | nil =>
            simp only [List.length_nil] at hlen
            rw [lexLt_nil_nil]
            exact (decide_eq_false (by omega)).symm
          | cons c u hw =>
            simp only [List.length_nil, List.length_cons] at hlen
            rw [lexLt_nil_cons]
            exact (decide_eq_true (by omega)).symm
        | cons a t hv =>
          cases hwi with
          | nil =>
            simp only [List.length_nil, List.length_cons] at hlen
            rw [lexLt_cons_nil]
            exact (decide_eq_false (by omega)).symm
          | cons c u hw =>
            rw [List.zip_cons_cons] at hz
            cases hz
      rw [hv] at hR
      wp_walk
      exact ⟨_, rfl, by simpa [Builtin.Tuple.tupleCompareSizes] using hR⟩
    case h =>
      exact ⟨rfl, rfl, items.toList, items2.toList, ns, ms, rfl, hi, hj, by omega, h⟩
end

section
variable {prog : Program} {w : World} {A : Around} {E : Value → Shared → Prop} {s : Shared}

theorem lt_tupInts {l b : Addr} {items items2 : Array Value} {ns ms : List Int} {Q : Value → Shared → Prop} (hl : IsTup s.heap l items) (hb : IsTup s.heap b items2) (hi : IntsAre items.toList ns) (hj : IntsAre items2.toList ms)
    (hu : A.units < cLine) (h : Q (.bool (lexLt ns ms)) s) : wpAny (model prog w) A (compareOp .Lt (.ref l) (.ref b)) Q E s := by
  obtain ⟨⟨cls, dd, data, sl⟩, ho, hc, n, hd⟩ := id hl
  obtain ⟨⟨cls2, dd2, data2, sl2⟩, ho2, hc2, n2, hd2⟩ := id hb
  simp only at hc hd hc2 hd2
  subst hc hd hc2 hd2
  exact richCompare_meets_room (op := .Lt) ⟨_, ho, rfl⟩ ⟨_, ho2, rfl⟩ PySem.F.slot_tuple_lt PySem.F.entry_tuple_lt (PySem.F.args_tuple_lt_2 _ _) (tuple_lt_ints l b items items2 n n2 dd dd2 sl sl2 ns ms hi hj)
    ⟨ho, ho2, show Value.bool (lexLt ns ms) ≠ Value.notImplemented ∧ Q (.bool (lexLt ns ms)) s from ⟨(fun x => nomatch x), h⟩⟩ hu

/-- t + u, t not empty -/
theorem cat_tup {t b : Addr} {vs ws : List Value} {Q : Value → Shared → Prop} (ht : IsTup s.heap t vs.toArray) (hb : IsTup s.heap b ws.toArray) (hv : vs ≠ [])
    (h1 : ws = [] → Q (.ref t) s) (h2 : ws ≠ [] → Q (.ref s.heap.objs.size) { s with heap := s.heap.push { cls := .type "tuple", data := .seq (vs ++ ws).toArray } })
    (hsz : vs.length + ws.length ≤ sizeLine) : wpAny (model prog w) A (binaryOp .Add (.ref t) (.ref b)) Q E s := by
  obtain ⟨⟨cls, dd, data, sl⟩, ho, hc, n, hd⟩ := id ht
  obtain ⟨⟨cls2, dd2, data2, sl2⟩, ho2, hc2, n2, hd2⟩ := id hb
  simp only at hc hd hc2 hd2
  subst hc hd hc2 hd2
  have e : vs.toArray ++ ws.toArray = (vs ++ ws).toArray := by simp
  by_cases hw : ws = []
  · exact concat_meets ⟨_, ho, rfl⟩ ⟨_, ho2, rfl⟩ noFill_tuple_add seq_tuple_add PySem.F.slot_tuple_add PySem.F.entry_tuple_add (PySem.F.args_tuple_add_2 _ _)
      (tuple_addW1 t b vs.toArray ws.toArray n n2 dd dd2 sl sl2 (by simpa using hv) (by simp [hw])) ⟨ho, ho2, h1 hw⟩
  · refine concat_meets ⟨_, ho, rfl⟩ ⟨_, ho2, rfl⟩ noFill_tuple_add seq_tuple_add PySem.F.slot_tuple_add PySem.F.entry_tuple_add (PySem.F.args_tuple_add_2 _ _)
      (tuple_addW2 t b vs.toArray ws.toArray n n2 dd dd2 sl sl2 (by simpa using hv) (by simpa using hw) (by rw [List.size_toArray, List.size_toArray]; exact hsz)) ⟨ho, ho2, ?_⟩
    rw [e]
    exact h2 hw

/-! ### t[a:b], not the whole -/
/-- a slice's bound as a place among n (d where it is left out) -/
def sIx (n d : Nat) : Option Int → Nat
  | none => d
  | some v => if v < 0 then (v + (n : Int)).toNat else min v.toNat n

end
end HT

namespace L2
open PySem PySem.Spec PyProof.Rows

/-! ### the parts of a slice -/
abbrev TO := St → Hp → (Option Int → Hp → Prop) → Prop
/-- a slice's part (left out, or an int) -/
def PO (X : Cx) (e : Option Expr) (t : TO) : Prop :=
  ∀ (pins : List (Addr × Obj)) (s : Shared) (σ : St) (H : Hp) (Q : Option Int → Hp → Prop), Inv X pins σ H s → t σ H Q →
    wpAny (model X.prog X.w) X.A (evalPart e X.env) (fun u s' => ∃ o H', Inv X pins σ H' s' ∧ IsPart u o ∧ Q o H') X.xe s
def tNoPart : TO := fun _ H Q => Q none H
def tPart (t : TE) : TO := fun σ H Q => t σ H fun x H1 => ∃ i, x = .int i ∧ Q (some i) H1

theorem intsAre_of {ns : List Int} : ∀ {us : List Value}, Vals (ns.map V.int) us → IntsAre us ns := by
  induction ns with
  | nil => intro us r; rw [List.map_nil] at r; cases r; exact .nil
  | cons n ns ih =>
    intro us r
    rw [List.map_cons] at r
    cases r with
    | cons r1 r2 =>
      obtain ⟨t, e⟩ := r1
      subst e
      exact .cons n t (ih r2)

section
variable {X : Cx} {e : Expr} {te : TE} {lo hi : Option Expr} {tl th : TO} {pos p2 : Pos}

theorem po_none : PO X none tNoPart := by
  intro pins s σ H Q I h
  rw [evalPart_none]
  exact wpAny_pure ⟨none, H, I, .none, h⟩
theorem po_some (h : PE X e te) : PO X (some e) (tPart te) := by
  intro pins s σ H Q I hw
  rw [evalPart_some]
  refine thn (h pins s σ H _ I hw) fun u s1 ⟨x, H1, I1, r1, q1⟩ => ?_
  obtain ⟨i, rfl, q⟩ := q1
  obtain ⟨t, rfl⟩ := r1
  exact ⟨some i, H1, I1, .int i t, q⟩

/-- what a slice of a value is, by values: the slice object stands at sl -/
def SlR (X : Cx) (r : V → Option Int → Option Int → Hp → VK → Prop) : Prop :=
  ∀ (pins : List (Addr × Obj)) (s : Shared) (σ : St) (H : Hp) (x : V) (v vl vu : Value) (lo hi : Option Int) (sl : Addr) (Q : VK), Inv X pins σ H s → RelV x v → s.heap.IsSliceOf sl vl vu .none → IsPart vl lo → IsPart vu hi → r x lo hi H Q →
    ∃ T id, typeLookup (.type T) "__getitem__" = pure (some (.builtin id)) ∧ s.TypeIs v T ∧ wpAny (model X.prog X.w) X.A (getItem v (.ref sl)) (EP X pins σ Q) X.xe s
def tSl (r : V → Option Int → Option Int → Hp → VK → Prop) (te : TE) (tl th : TO) : TE := fun σ H Q => te σ H fun x H1 => tl σ H1 fun l H2 => th σ H2 fun u H3 => r x l u H3 Q
/-- a[lo:hi], any a -/
theorem pe_slice {r : V → Option Int → Option Int → Hp → VK → Prop} (hr : SlR X r) (he : PE X e te) (hl : PO X lo tl) (hu : PO X hi th) : PE X (.Subscript e (.Slice lo hi none p2) pos) (tSl r te tl th) := by
  intro pins s σ H Q I h
  refine Subscript_ (thn (he pins s σ H _ I h) fun v s1 ⟨x, H1, I1, r1, q1⟩ => ?_)
  refine wpAny_Slice (thn (hl pins s1 σ H1 _ I1 q1) fun vl s2 ⟨l, H2, I2, pl, q2⟩ => thn (hu pins s2 σ H2 _ I2 q2) fun vu s3 ⟨u, H3, I3, pu, q3⟩ => ?_)
  rw [evalPart_none]
  refine wpAny_pure ?_
  have I4 : Inv X pins σ H3 { s3 with heap := s3.heap.push { cls := .type "slice", data := .fields #[vl, vu, .none] } } := I3.kept (t' := s3.toks) fun b ob q => Heap.get?_push_of_some _ q
  obtain ⟨T, id, hT, ht, hg⟩ := hr pins { s3 with heap := s3.heap.push { cls := .type "slice", data := .fields #[vl, vu, .none] } } σ H3 x v vl vu l u s3.heap.objs.size Q I4 r1 (Heap.IsSliceOf.new ..) pl pu q3
  show wpAny (model X.prog X.w) X.A (subscriptTail e (.Slice lo hi none p2) v (.ref s3.heap.objs.size)) (EP X pins σ Q) X.xe { s3 with heap := s3.heap.push { cls := .type "slice", data := .fields #[vl, vu, .none] } }
  exact tail_any (ops := [.ref s3.heap.objs.size, v]) ht hT hg (by with_unfolding_all rfl)

/-- the items of xs[lo:hi] -/
def cutV (xs : List V) (lo hi : Option Int) : List V := (xs.drop (HT.sIx xs.length 0 lo)).take (HT.sIx xs.length xs.length hi - HT.sIx xs.length 0 lo)
theorem cutV_length (xs : List V) (lo hi : Option Int) : (cutV xs lo hi).length ≤ xs.length := by
  unfold cutV
  rw [List.length_take, List.length_drop]
  omega

/-! ### t < u, t + u -/
def rLtT (K : PySem.W.Frag) : R2 := fun x y H Q => ∃ a b ns ms, x = .ref a ∧ y = .ref b ∧ SqT K H a (ns.map V.int) ∧ SqT K H b (ms.map V.int) ∧ Q (.bl (HT.lexLt ns ms)) H
theorem op_ltT (hu : X.A.units < cLine) : OpR X (compareOp .Lt) (rLtT X.K) := by
  intro pins s σ H x y v u Q I rx ry h
  obtain ⟨a, b, ns, ms, rfl, rfl, ha, hb, q⟩ := h
  cases rx
  cases ry
  obtain ⟨its, r1, p1, _⟩ := I.tuple ha
  obtain ⟨its2, r2, p2, _⟩ := I.tuple hb
  have i1 : IntsAre its.toArray.toList ns := intsAre_of r1
  have i2 : IntsAre its2.toArray.toList ms := intsAre_of r2
  exact HT.lt_tupInts p1 p2 i1 i2 hu ⟨.bl (HT.lexLt ns ms), H, I, rfl, q⟩
/-- t + u, t not empty: u empty gives t itself -/
def rCatT (K : PySem.W.Frag) : R2 := fun x y H Q => ∃ a b xs ys, x = .ref a ∧ y = .ref b ∧ SqT K H a xs ∧ SqT K H b ys ∧ xs ≠ [] ∧ xs.length + ys.length ≤ sizeLine ∧
  (ys = [] → Q (.ref a) H) ∧ (ys ≠ [] → ∀ p, H p = none → Q (.ref p) (upd H p (.tup (xs ++ ys))))
theorem Vals.nil_iff {xs : List V} {us : List Value} (r : Vals xs us) : us = [] ↔ xs = [] := by
  cases r with
  | nil => simp
  | cons _ _ => simp
theorem op_catT : OpR X (binaryOp .Add) (rCatT X.K) := by
  intro pins s σ H x y v u Q I rx ry h
  obtain ⟨a, b, xs, ys, rfl, rfl, ha, hb, hx, hz, q1, q2⟩ := h
  cases rx
  cases ry
  obtain ⟨its, r1, p1, _⟩ := I.tuple ha
  obtain ⟨its2, r2, p2, _⟩ := I.tuple hb
  refine HT.cat_tup p1 p2 (fun z => hx (r1.nil_iff.mp z)) (fun z => ⟨.ref a, H, I, rfl, q1 (r2.nil_iff.mp z)⟩) (fun z => ?_) (by rw [← r1.length, ← r2.length]; exact hz)
  refine ⟨.ref s.heap.objs.size, _, I.laid (t' := s.toks) (o := .tup (xs ++ ys)) (fun b ob q => Heap.get?_push_of_some _ q) (Nat.le_refl _) ?_, rfl, q2 (fun w => z (r2.nil_iff.mpr w)) _ (I.hok.fresh (Nat.le_refl _))⟩
  exact ⟨by rw [List.length_append]; exact hz, _, r1.append r2, IsTup.new _ _⟩
end
end L2

namespace L2
open PySem PySem.Spec PyProof.Rows

/-! ### places -/
/-- the place that an index of any sign means -/
def ixN (n : Nat) (i : Int) : Option Nat := if 0 ≤ i then (if i < n then some i.toNat else none) else if -(n : Int) ≤ i then some (i + n).toNat else none
def atI {α : Type} (xs : List α) (i : Int) : Option α := (ixN xs.length i).bind fun j => xs[j]?
theorem ixN_seq {n : Nat} {i : Int} {j : Nat} (h : ixN n i = some j) : seqIndex? i n = some j ∧ j < n ∧ -(n : Int) ≤ i ∧ i < n := by
  unfold ixN at h
  by_cases h0 : 0 ≤ i
  · rw [if_pos h0] at h
    by_cases h1 : i < n
    · rw [if_pos h1] at h
      have e : i.toNat = j := Option.some.inj h
      exact ⟨by rw [seqIndex_of h0 h1, e], by omega, by omega, h1⟩
    · rw [if_neg h1] at h; cases h
  · rw [if_neg h0] at h
    by_cases h1 : -(n : Int) ≤ i
    · rw [if_pos h1] at h
      have e : (i + n).toNat = j := Option.some.inj h
      exact ⟨by rw [seqIndex_neg (by omega) h1, e], by omega, h1, by omega⟩
    · rw [if_neg h1] at h; cases h
theorem atI_get {α : Type} {xs : List α} {i : Int} {v : α} (h : atI xs i = some v) : ∃ j, seqIndex? i xs.length = some j ∧ xs[j]? = some v ∧ j < xs.length ∧ -(xs.length : Int) ≤ i ∧ i < xs.length := by
  unfold atI at h
  cases e : ixN xs.length i with
  | none => rw [e] at h; cases h
  | some j =>
    rw [e] at h
    obtain ⟨h1, h2, h3, h4⟩ := ixN_seq e
    exact ⟨j, h1, h, h2, h3, h4⟩
theorem atI_nat {α : Type} {xs : List α} {j : Nat} {v : α} (h : xs[j]? = some v) : atI xs (j : Int) = some v := by
  have hj : j < xs.length := (List.getElem?_eq_some_iff.mp h).1
  have e : ixN xs.length (j : Int) = some j := by
    unfold ixN
    rw [if_pos (by omega), if_pos (by omega)]; simp
  unfold atI; rw [e]; exact h

/-! ### what may be subscripted -/
/-- what stands as an index of a plain subscript -/
def PlainIx (b : Expr) : Prop := ∀ o i, subscripted b false o i = operate [o, i] (getItem o i)
/-- a subscript by values -/
def IxR (X : Cx) (r : R2) : Prop :=
  ∀ (value slice : Expr) (pins : List (Addr × Obj)) (s : Shared) (σ : St) (H : Hp) (x y : V) (v u : Value) (Q : VK), Inv X pins σ H s → RelV x v → RelV y u → r x y H Q →
    subscripted slice false v u = operate [v, u] (getItem v u) → wpAny (model X.prog X.w) X.A (subscriptTail value slice v u) (EP X pins σ Q) X.xe s
/-- a call of a builtin's method by values: the receiver, the arguments -/
def MtR (X : Cx) (id : String) (r : V → List V → Hp → VK → Prop) : Prop :=
  ∀ (pins : List (Addr × Obj)) (s : Shared) (σ : St) (H : Hp) (x : V) (xs : List V) (v : Value) (us : List Value) (Q : VK), Inv X pins σ H s → RelV x v → Vals xs us → r x xs H Q →
    wpAny (model X.prog X.w) X.A (call (.builtin id) (v :: us)) (EP X pins σ Q) X.xe s
section
variable {X : Cx} {a b : Expr} {ta tb : TE} {pos : Pos}
/-- a[b] -/
theorem pe_ix {r : R2} (hr : IxR X r) (ha : PE X a ta) (hb : PE X b tb) (hs : PlainIx b) : PE X (.Subscript a b pos) (tOp r ta tb) := by
  intro pins s σ H Q I h
  exact Subscript_ (binT ha hb I h fun v u s2 x y H2 I2 rx ry q => hr a b pins s2 σ H2 x y v u Q I2 rx ry q (hs _ _))

def rIxL (K : PySem.W.Frag) : R2 := fun x y H Q => ∃ p xs i v, x = .ref p ∧ y = .int i ∧ SqL K H p xs ∧ atI xs i = some v ∧ Q v H
def rIxT (K : PySem.W.Frag) : R2 := fun x y H Q => ∃ p xs i v, x = .ref p ∧ y = .int i ∧ SqT K H p xs ∧ atI xs i = some v ∧ Q v H
theorem ix_list : IxR X (rIxL X.K) := by
  intro value slice pins s σ H x y v u Q I rx ry h hs
  obtain ⟨p, xs, i, z, rfl, rfl, hq, he, q⟩ := h
  cases rx
  obtain ⟨t, rfl⟩ := ry
  obtain ⟨its, r, pl, hz⟩ := I.list hq
  obtain ⟨j, h1, h2, h3, h4, h5⟩ := atI_get he
  obtain ⟨w, ew, rw'⟩ := r.get h2
  have hl := r.length
  have hn := line63
  have fin : EP X pins σ Q w s := ⟨z, H, I, rw', q⟩
  by_cases h0 : 0 ≤ i
  · have hj : i.toNat = j := by
      rw [seqIndex_of h0 h5] at h1
      exact Option.some.inj h1
    exact item_listR pl.isList h0 (by omega) (by rw [hj]; simpa using ew) fin hs
  · have hj : (i + (its.toArray.size : Int)).toNat = j := by
      rw [seqIndex_neg (by omega) h4] at h1
      rw [List.size_toArray, ← hl]
      exact Option.some.inj h1
    exact subscriptTail_builtinR (x := w) pl.isList.typeIs slot_list_getitem.lookup
      (wpAny_getItem_list_neg (Q := fun r s' => r = w ∧ EP X pins σ Q r s') pl.isList (by omega) (by rw [List.size_toArray] <;> omega) (by omega) (by rw [hj]; simpa using ew) ⟨rfl, fin⟩) hs
theorem ix_tup : IxR X (rIxT X.K) := by
  intro value slice pins s σ H x y v u Q I rx ry h hs
  obtain ⟨p, xs, i, z, rfl, rfl, hq, he, q⟩ := h
  cases rx
  obtain ⟨t, rfl⟩ := ry
  obtain ⟨its, r, pl, hz⟩ := I.tuple hq
  obtain ⟨j, h1, h2, h3, h4, h5⟩ := atI_get he
  obtain ⟨w, ew, rw'⟩ := r.get h2
  have hl := r.length
  have hn := line63
  have fin : EP X pins σ Q w s := ⟨z, H, I, rw', q⟩
  exact subscriptTail_builtinR (x := w) pl.typeIs slot_tuple_getitem.lookup
    (getItem_tuple (j := j) (Q := fun r s' => r = w ∧ EP X pins σ Q r s') pl (by omega) (by omega) (by rw [List.size_toArray, ← hl]; exact h1) (by simpa using ew) ⟨rfl, fin⟩) hs

/-! ### xs[i] = v, any sign -/

/-! ### slices -/
theorem slice_bounds (lo hi : Option Int) (n : Nat) : (sliceBounds lo hi none n).1 = ((HT.sIx n 0 lo : Nat) : Int) ∧ (sliceBounds lo hi none n).2.1 = ((HT.sIx n n hi : Nat) : Int) ∧ (sliceBounds lo hi none n).2.2 = 1 := by
  refine ⟨?_, ?_, rfl⟩
  · cases lo with
    | none => simp [sliceBounds, HT.sIx]
    | some i =>
      simp only [sliceBounds, HT.sIx, Option.getD_none, show (1 : Int) > 0 by decide, if_true]
      by_cases h : i < 0
      · simp only [h, if_true] <;> omega
      · simp only [h, if_false] <;> omega
  · cases hi with
    | none => simp [sliceBounds, HT.sIx]
    | some i =>
      simp only [sliceBounds, HT.sIx, Option.getD_none, show (1 : Int) > 0 by decide, if_true]
      by_cases h : i < 0
      · simp only [h, if_true] <;> omega
      · simp only [h, if_false] <;> omega
theorem slicePick_cut (its : List Value) (lo hi : Option Int) : slicePick its.toArray lo hi none = ((its.drop (HT.sIx its.length 0 lo)).take (HT.sIx its.length its.length hi - HT.sIx its.length 0 lo)).toArray := by
  obtain ⟨h1, h2, h3⟩ := slice_bounds lo hi its.toArray.size
  unfold slicePick
  rw [h1, h2, h3]
  simp only [sliceRange_one, pick_run, List.size_toArray] <;> rfl
/-- xs[lo:hi] of a list: a new list -/
def rSlL (K : PySem.W.Frag) : V → Option Int → Option Int → Hp → VK → Prop := fun x lo hi H Q => ∃ a xs, x = .ref a ∧ SqL K H a xs ∧ ∀ p, H p = none → Q (.ref p) (upd H p (.lst (cutV xs lo hi)))
theorem sl_list : SlR X (rSlL X.K) := by
  intro pins s σ H x v vl vu lo hi sl Q I rx hs pl pu h
  obtain ⟨a, xs, rfl, hx, q⟩ := h
  cases rx
  obtain ⟨its, r, ht, hz⟩ := I.list hx
  have hlen := r.length
  refine ⟨"list", _, slot_list_getitem.lookup, ht.isList.typeIs, ?_⟩
  refine wpAny_getItem_list_slice ht.isList hs pl pu .none (by simp) ?_ (by rw [List.size_toArray] <;> omega)
  rw [slicePick_cut, ← hlen]
  refine ⟨.ref s.heap.objs.size, _, I.laid (t' := s.toks) (o := .lst (cutV xs lo hi)) (fun b ob q => Heap.get?_push_of_some _ q) (Nat.le_refl _) ?_, rfl, q _ (I.hok.fresh (Nat.le_refl _))⟩
  exact ⟨Nat.le_trans (cutV_length xs lo hi) hz, _, 0, (r.drop (HT.sIx xs.length 0 lo)).take (HT.sIx xs.length xs.length hi - HT.sIx xs.length 0 lo), Heap.get?_push_size _ rfl⟩

/-! ### in, not in: flat items -/
def flatV : V → Bool
  | .non => true
  | .bl _ => true
  | .int _ => true
  | .str _ => true
  | _ => false
/-- == of flat values -/
def eqV : V → V → Bool
  | .non, .non => true
  | .bl a, .bl b => a == b
  | .bl a, .int b => (if a then 1 else 0) == b
  | .int a, .bl b => a == (if b then 1 else 0)
  | .int a, .int b => a == b
  | .str a, .str b => a == b
  | _, _ => false
theorem eqAt_V {A : Around} {s : Shared} {y x : V} {u v : Value} (ry : RelV y u) (rx : RelV x v) (fy : flatV y = true) (fx : flatV x = true) : SeqAt.EqAt A s u v (eqV y x) := by
  cases y with
  | non =>
    cases ry
    cases x with
    | non => cases rx; exact SeqAt.EqAt.same _
    | bl b => cases rx; exact SeqAt.EqAt.none_bool b
    | int b => obtain ⟨t, rfl⟩ := rx; exact SeqAt.EqAt.none_int b t
    | str b => obtain ⟨t, rfl⟩ := rx; exact SeqAt.EqAt.none_str b t
    | _ => exact absurd (show false = true from fx) Bool.false_ne_true
  | bl a =>
    cases ry
    cases x with
    | non => cases rx; exact SeqAt.EqAt.bool_none a
    | bl b => cases rx; exact SeqAt.EqAt.bool_bool a b
    | int b => obtain ⟨t, rfl⟩ := rx; exact SeqAt.EqAt.bool_int a b t
    | str b => obtain ⟨t, rfl⟩ := rx; exact SeqAt.EqAt.bool_str a b t
    | _ => exact absurd (show false = true from fx) Bool.false_ne_true
  | int a =>
    obtain ⟨t', rfl⟩ := ry
    cases x with
    | non => cases rx; exact SeqAt.EqAt.int_none a t'
    | bl b => cases rx; exact SeqAt.EqAt.int_bool a t' b
    | int b => obtain ⟨t, rfl⟩ := rx; exact SeqAt.EqAt.int_int a t' b t
    | str b => obtain ⟨t, rfl⟩ := rx; exact SeqAt.EqAt.int_str a t' b t
    | _ => exact absurd (show false = true from fx) Bool.false_ne_true
  | str a =>
    obtain ⟨t', rfl⟩ := ry
    cases x with
    | non => cases rx; exact SeqAt.EqAt.str_none a t'
    | bl b => cases rx; exact SeqAt.EqAt.str_bool a t' b
    | int b => obtain ⟨t, rfl⟩ := rx; exact SeqAt.EqAt.str_int a t' b t
    | str b => obtain ⟨t, rfl⟩ := rx; exact SeqAt.EqAt.str_str a t' b t
    | _ => exact absurd (show false = true from fx) Bool.false_ne_true
  | _ => exact absurd (show false = true from fy) Bool.false_ne_true
/-- the items' answers, read off the values (a value's own answer does not lean on its token) -/
def eqU (x : V) (u : Value) : Bool := match u with
  | .none => eqV .non x
  | .bool b => eqV (.bl b) x
  | .int i _ => eqV (.int i) x
  | .str z _ => eqV (.str z) x
  | _ => false
theorem eqU_of {x y : V} {u : Value} (r : RelV y u) (f : flatV y = true) : eqU x u = eqV y x := by
  cases y with
  | non => cases r; rfl
  | bl b => cases r; rfl
  | int i => obtain ⟨t, rfl⟩ := r; rfl
  | str z => obtain ⟨t, rfl⟩ := r; rfl
  | _ => exact absurd (show false = true from f) Bool.false_ne_true
theorem any_eqU {x : V} : ∀ {xs : List V} {us : List Value}, Vals xs us → xs.all flatV = true → us.any (eqU x) = xs.any fun y => eqV y x
  | _, _, .nil, _ => rfl
  | y :: xs, u :: us, .cons r t, f => by
    rw [List.all_cons, Bool.and_eq_true] at f
    rw [List.any_cons, List.any_cons, eqU_of r f.1, any_eqU t f.2]
theorem mem_eqAt {A : Around} {s : Shared} {x : V} {v : Value} (rx : RelV x v) (fx : flatV x = true) : ∀ {xs : List V} {us : List Value}, Vals xs us → xs.all flatV = true → ∀ u ∈ us, SeqAt.EqAt A s u v (eqU x u)
  | _, _, .nil, _ => fun u hu => by cases hu
  | y :: xs, u :: us, .cons r t, f => fun u' hu => by
    rw [List.all_cons, Bool.and_eq_true] at f
    rcases List.mem_cons.mp hu with rfl | hu
    · rw [eqU_of r f.1]; exact eqAt_V r rx f.1 fx
    · exact mem_eqAt rx fx t f.2 u' hu
def inV (x : V) (xs : List V) : Bool := xs.any fun y => eqV y x
/-- x in a list or tuple of flat items -/
def rIn (K : PySem.W.Frag) (neg : Bool) : R2 := fun x y H Q => ∃ p xs, y = .ref p ∧ (SqL K H p xs ∨ SqT K H p xs) ∧ flatV x = true ∧ xs.all flatV = true ∧ Q (.bl (if neg then !inV x xs else inV x xs)) H
theorem op_in_seq : OpR X (compareOp .In) (rIn X.K false) := by
  intro pins s σ H x y v u Q I rx ry h
  obtain ⟨p, xs, rfl, hq, fx, fs, q⟩ := h
  cases ry
  rcases hq with hq | hq
  · obtain ⟨its, r, pl, hz⟩ := I.list hq
    refine SeqAt.in_listAt (eqU x) pl.isList (fun w hw => mem_eqAt rx fx r fs w (by simpa using hw)) ⟨.bl _, H, I, rfl, ?_⟩
    rw [show its.toArray.any (eqU x) = its.any (eqU x) by simp, any_eqU r fs]
    exact q
  · obtain ⟨its, r, pl, hz⟩ := I.tuple hq
    refine SeqAt.in_tupleAt (eqU x) pl (fun w hw => mem_eqAt rx fx r fs w (by simpa using hw)) ⟨.bl _, H, I, rfl, ?_⟩
    rw [show its.toArray.any (eqU x) = its.any (eqU x) by simp, any_eqU r fs]
    exact q

/-! ### len, list(x), tuple(x) of any list or tuple that is read -/
theorem call_len_seq : CallR X (.builtin "len") (fun xs H Q => ∃ p ys, xs = [.ref p] ∧ (SqL X.K H p ys ∨ SqT X.K H p ys) ∧ Q (.int ys.length) H) := by
  intro pins s σ H xs us Q I r h
  obtain ⟨p, ys, rfl, hq, q⟩ := h
  obtain ⟨u, rfl, rx⟩ := vals1 r
  cases rx
  have hn := line63
  rcases hq with hq | hq
  · obtain ⟨its, r', pl, hz⟩ := I.list hq
    have hlen := r'.length
    exact Calls.call_len_list pl.isList (by simp only [List.size_toArray] <;> omega) ⟨.int ys.length, H, I.tok _, ⟨s.toks + 1, by rw [List.size_toArray, hlen]⟩, q⟩
  · obtain ⟨its, r', pl, hz⟩ := I.tuple hq
    have hlen := r'.length
    exact len_tuple pl (by simp only [List.size_toArray] <;> omega) ⟨.int ys.length, H, I.tok _, ⟨s.toks + 1, by rw [List.size_toArray, hlen]⟩, q⟩
theorem call_list_of : CallR X (.type "list") (fun xs H Q => ∃ p ys, xs = [.ref p] ∧ (SqL X.K H p ys ∨ SqT X.K H p ys) ∧ ∀ l, H l = none → Q (.ref l) (upd H l (.lst ys))) := by
  intro pins s σ H xs us Q I r h
  obtain ⟨p, ys, rfl, hq, q⟩ := h
  obtain ⟨u, rfl, rx⟩ := vals1 r
  cases rx
  have fin : ∀ (its : List Value), Vals ys its → ys.length ≤ sizeLine → ∀ (h' : Heap) (c' : Nat), (∀ b o', s.heap.get? b = some o' → h'.get? b = some o') →
      h'.get? s.heap.objs.size = some { cls := .type "list", dict := none, data := .seq its.toArray c', slots := #[] } → EP X pins σ Q (.ref s.heap.objs.size) { s with heap := h' } := fun its r' hz h' c' kp e =>
    ⟨.ref s.heap.objs.size, _, I.laid (t' := s.toks) kp (Nat.le_refl _) (show ObjOk X.prog X.w _ h' _ (.lst ys) from ⟨hz, its, c', r', e⟩), rfl, q _ (I.hok.fresh (Nat.le_refl _))⟩
  rcases hq with hq | hq
  · obtain ⟨its, r', pl, hz⟩ := I.list hq
    have hlen := r'.length
    obtain ⟨o, ho, hc, n, hd⟩ := pl.isList
    exact call_list_seq p (.inl rfl) ho hc hd (fun h' c' kp e => fin its r' hz h' c' kp e) (by simp only [List.size_toArray] <;> omega)
  · obtain ⟨its, r', pl, hz⟩ := I.tuple hq
    have hlen := r'.length
    obtain ⟨o, ho, hc, n, hd⟩ := pl
    exact call_list_seq p (.inr rfl) ho hc hd (fun h' c' kp e => fin its r' hz h' c' kp e) (by simp only [List.size_toArray] <;> omega)

/-! ### the call of a builtin's method: o.m(..) -/
/-- the value is of that builtin type -/
def tyV (K : PySem.W.Frag) (T : String) (x : V) (H : Hp) : Prop := match x with
  | .str _ => T = "str"
  | .int _ => T = "int"
  | .ref p => (T = "list" ∧ ∃ xs, SqL K H p xs) ∨ (T = "tuple" ∧ ∃ o, K.lookup p = some o ∧ o.cls = .type "tuple" ∧ o.dict = none) ∨
      (T = "dict" ∧ ((∃ kvs, H p = some (.dK kvs)) ∨ ∃ kvs, H p = some (.dT kvs))) ∨ (T = "set" ∧ ∃ S n, H p = some (.set S n))
  | _ => False
theorem tyV_is {pins : List (Addr × Obj)} {σ : St} {H : Hp} {s : Shared} {T : String} {x : V} {v : Value} (I : Inv X pins σ H s) (r : RelV x v) (ty : tyV X.K T x H) :
    s.TypeIs v T ∧ ∀ a, v = .ref a → ∃ ob, s.heap.get? a = some ob ∧ ob.dict = none := by
  cases x with
  | str z =>
    obtain ⟨t, rfl⟩ := r
    cases (show T = "str" from ty)
    exact ⟨typeIs_str s z t, fun _ e => nomatch e⟩
  | int i =>
    obtain ⟨t, rfl⟩ := r
    cases (show T = "int" from ty)
    exact ⟨typeIs_int s i t, fun _ e => nomatch e⟩
  | ref p =>
    cases r
    rcases ty with ⟨rfl, xs, hq⟩ | ⟨rfl, o, hk, hc, hd⟩ | ⟨rfl, hk⟩ | ⟨rfl, S, n, hk⟩
    · obtain ⟨its, _, pl, _⟩ := I.list hq
      refine ⟨pl.isList.typeIs, fun a e => ?_⟩
      cases e
      obtain ⟨o, n, e, c, hd, _⟩ := pl
      exact ⟨o, e, hd⟩
    · refine ⟨⟨o, I.kIn p o hk, hc⟩, fun a e => ?_⟩
      cases e
      exact ⟨o, I.kIn _ o hk, hd⟩
    · have z : ∃ o, s.heap.get? p = some o ∧ o.ExactDict := by
        rcases hk with ⟨kvs, hk⟩ | ⟨kvs, hk⟩
        · obtain ⟨_, _, _, _, o, _, _, e, ex, _⟩ := I.hok p _ hk
          exact ⟨o, e, ex⟩
        · obtain ⟨_, _, _, _, o, _, _, e, ex, _⟩ := I.hok p _ hk
          exact ⟨o, e, ex⟩
      obtain ⟨o, e, ex⟩ := z
      refine ⟨⟨o, e, ex.1⟩, fun a e2 => ?_⟩
      cases e2
      exact ⟨o, e, ex.2.1⟩
    · obtain ⟨o, _, _, _, e, ex, _⟩ := I.hok p _ hk
      refine ⟨⟨o, e, ex.1⟩, fun a e2 => ?_⟩
      cases e2
      exact ⟨o, e, ex.2.1⟩
  | _ => exact False.elim ty
def tBM (K : PySem.W.Frag) (T : String) (r : V → List V → Hp → VK → Prop) (to : TE) (t : TA) : TE := fun σ H Q => to σ H fun x H1 => tyV K T x H1 ∧ t σ H1 fun xs H2 => r x xs H2 Q
variable {o e : Expr} {es : List Expr} {to : TE} {t : TA} {name : Str} {apos cpos : Pos} {T id : String} {r : V → List V → Hp → VK → Prop}
theorem pe_bm (pa : PlainAttrs T) (slot : Slot T name id) (hty : typeOf (.builtin id) = pure (.type "method_descriptor")) (hm : MtR X id r) (ho : PE X o to) (ha : PA X (e :: es) t)
    (hbase : attributeBase o name X.env (eval o X.env) = eval o X.env := by rfl)
    (hfew : ((backTo cpos (starEach (e :: es) X.env)).all (fun x => !x.1) && (backToKw cpos (keywordEach [] X.env)).all (fun x => x.1.isSome)
      && decide ((e :: es).length + ([] : List Keyword).length + (if ([] : List Keyword).isEmpty then 0 else 1) < 30)) = true := by rfl)
    (hline : (apos.endLine == cpos.line) = true := by rfl) (hs : starEach (e :: es) X.env = (false, eval e X.env) :: starEach es X.env := by rfl) (hplain : (backTo cpos (starEach es X.env)).any (·.1) = false := by rfl) :
    PE X (.Call (.Attribute o name apos) (e :: es) [] cpos) (tBM X.K T r to t) := by
  intro pins s σ H Q I h
  refine wpAny_Call_method_late hbase hfew hline rfl (thn (ho pins s σ H _ I h) fun v s1 ⟨x, H1, I1, r1, ty, q1⟩ => ?_)
  obtain ⟨h1, h2⟩ := tyV_is I1 r1 ty
  refine ⟨T, id, pa, slot, hty, h1, h2, ?_⟩
  have hA := ha cpos pins s1 σ H1 _ I1 q1
  rw [hs] at hA ⊢
  refine Calls.callWith_builtin (by show (false || (backTo cpos (starEach es X.env)).any (·.1)) = false; rw [hplain] <;> rfl) (Calls.evalArgs_plain ?_)
  exact thn hA fun us s2 ⟨vs, H2, I2, r2, q2⟩ => hm pins s2 σ H2 x vs v us Q I2 r1 r2 q2
/- xs.append(e), list.index on a module's tuple .. are MtR facts of 06m -/
end
end L2

namespace L2
open PySem PySem.Spec PyProof.Rows

def MtM (X : Cx) (id : String) (r : V → List V → Hp → VK → Prop) : Prop :=
  ∀ (pins : List (Addr × Obj)) (s : Shared) (σ : St) (H : Hp) (x : V) (xs : List V) (v : Value) (us : List Value) (Q : VK), Inv X pins σ H s → RelV x v → Vals xs us → r x xs H Q →
    wpAny (model X.prog X.w) X.A (call (.builtin id) (v :: us)) (EP X pins σ Q) X.xe s

/-! ### lists of values -/
theorem Vals.one : ∀ {x : V} {us : List Value}, Vals [x] us → ∃ u, us = [u] ∧ RelV x u
  | _, _, .cons r .nil => ⟨_, rfl, r⟩

section
variable {X : Cx} {pins : List (Addr × Obj)} {σ : St} {H : Hp} {s : Shared} {l b : Addr} {xs ys zs : List V}

/-! ### the two steps: a tracked list is rewritten, a new list is laid -/
theorem Inv.lset {its its' : List Value} {n : Nat} {f : Array Value → Array Value} {t' : Nat} (I : Inv X pins σ H s) (hH : H l = some (.lst xs))
    (e : s.heap.get? l = some { cls := .type "list", data := .seq its.toArray n }) (hf : f its.toArray = its'.toArray) (hv : Vals ys its') (hz : ys.length ≤ sizeLine) :
    Inv X pins σ (upd H l (.lst ys)) { s with heap := s.heap.update l (Obj.mapSeq f), toks := t' } := by
  have q := PySem.IsL.update e f
  rw [hf] at q
  refine I.write (x := l) (e := l) (by rw [hH]; exact trivial) (.inl rfl) (fun b' u hb hu => (Heap.get?_update_other s.heap (Obj.mapSeq f) (Ne.symm hb)).trans hu) ⟨_, q⟩ ?_
  exact ⟨hz, its', _, hv, q⟩
theorem Inv.lnew {its : List Value} {t' : Nat} (I : Inv X pins σ H s) (hv : Vals ys its) (hz : ys.length ≤ sizeLine) :
    Inv X pins σ (upd H s.heap.objs.size (.lst ys)) { s with heap := s.heap.push { cls := .type "list", data := .seq its.toArray }, toks := t' } :=
  I.laid (fun _ _ q => Heap.get?_push_of_some _ q) (Nat.le_refl _) ⟨hz, its, 0, hv, Heap.get?_push_size _ rfl⟩
theorem Inv.fresh (I : Inv X pins σ H s) : H s.heap.objs.size = none := I.hok.fresh (Nat.le_refl _)
theorem Inv.lstM (I : Inv X pins σ H s) (hH : H l = some (.lst xs)) : xs.length ≤ sizeLine ∧ ∃ (its : List Value) (n : Nat), Vals xs its ∧ xs.length = its.length ∧ s.heap.get? l = some { cls := .type "list", data := .seq its.toArray n } := by
  obtain ⟨z, its, n, r, e⟩ := I.hok l _ hH
  exact ⟨z, its, n, r, r.length, e⟩

end

section
variable {X : Cx}

/-! ### methods -/
def rAppend : V → List V → Hp → VK → Prop := fun x vs H Q => ∃ l xs y, x = .ref l ∧ vs = [y] ∧ H l = some (.lst xs) ∧ xs.length < sizeLine ∧ Q .non (upd H l (.lst (xs ++ [y])))
theorem mt_append : MtM X "list.append" rAppend := by
  intro pins s σ H x vs v us Q I rx rv h
  obtain ⟨l, xs, y, rfl, rfl, hH, hz, q⟩ := h
  cases rx
  obtain ⟨u, rfl, ru⟩ := rv.one
  obtain ⟨z, its, n, r, hl, e⟩ := I.lstM hH
  refine call_meets F.slot_list_append ⟨_, e, rfl⟩ F.entry_list_append (F.args_list_append_2 _ _) (PySem.list_append l its.toArray n u (by rw [List.size_toArray]; omega)) ⟨e, ?_⟩
  refine ⟨.non, _, I.lset (its' := its ++ [u]) hH e (by simp) (r.append (.cons ru .nil)) ?_, rfl, q⟩
  rw [List.length_append, List.length_singleton]
  omega






/-! ### list + list, list += list, list * int -/
def rCat : R2 := fun x y H Q => ∃ l b xs zs, x = .ref l ∧ y = .ref b ∧ H l = some (.lst xs) ∧ H b = some (.lst zs) ∧ xs.length + zs.length ≤ sizeLine ∧ ∀ p, H p = none → Q (.ref p) (upd H p (.lst (xs ++ zs)))
theorem op_cat : OpR X (binaryOp .Add) rCat := by
  intro pins s σ H x y v u Q I rx ry h
  obtain ⟨l, b, xs, zs, rfl, rfl, hH, hB, hz, q⟩ := h
  cases rx
  cases ry
  obtain ⟨z, its, n, r, hl, e⟩ := I.lstM hH
  obtain ⟨z2, its2, n2, r2, hl2, e2⟩ := I.lstM hB
  refine PySem.P.add_list e e2 ?_ (by rw [List.size_toArray, List.size_toArray]; omega)
  have ea : its.toArray ++ its2.toArray = (its ++ its2).toArray := by simp
  rw [ea]
  exact ⟨.ref _, _, I.lnew (t' := s.toks) (r.append r2) (by rw [List.length_append]; omega), rfl, q _ I.fresh⟩

/-! ### del xs[i] -/
end

/-! ### xs[a:b] = ys -/
section
variable {prog : Program} {w : World} {A : Around} {E : Value → Shared → Prop} {s : Shared}
end

section
variable {X : Cx}
end
end L2

namespace Att
open PySem PySem.W PySem.Calls PyProof.Rows

/-! ### the script -/
theorem ints_of_wellAll {P : Params} {h : Heap} : ∀ (ns : List Int) (vs : List Value), WellAll P h vs (ns.map WData.int) → IntsAre vs ns := by
  intro ns
  induction ns with
  | nil =>
    intro vs w
    rw [List.map_nil] at w
    cases w
    exact .nil
  | cons n ns ih =>
    intro vs w
    rw [List.map_cons] at w
    cases w with
    | cons a b =>
      cases a
      exact .cons _ _ (ih _ b)

theorem script_of {l : OpenLaw} {n : Nat} (hn : l.most = some n) {P : Params} {h : Heap} {args : List WData} {vals : List Value}
    (hpre : l.row.toRowW.claim.pre args = true) (hwl : WellAll P h vals args) :
    ∃ a vs ns, vals = [Value.ref a] ∧ args = [WData.list (ns.map WData.int)] ∧ h.get? a = some { cls := .type "list", data := .seq vs.toArray } ∧ IntsAre vs ns ∧ ns.length ≤ n := by
  have hsh : WShape.hasAll [] args [.list .int] = true := (pre_splitW hpre).1
  have hc : l.pre.holds [] { args := args } = true := (pre_splitW hpre).2
  obtain ⟨d, r, rfl, h1, h2⟩ := hasAllW_cons hsh
  obtain rfl := hasAllW_nil h2
  obtain ⟨xs, rfl, h3⟩ := hasW_list h1
  obtain ⟨ns, rfl⟩ := items_int h3
  have hlen : ns.length ≤ n := by
    unfold OpenLaw.pre at hc
    have h4 : (WTm.not (.lt (.lit (.int (n : Int))) (.len (.arg 0)))).holds [] { args := [.list (ns.map .int)] } = true := by
      have h4 := (holds_andW hc).1
      rw [hn] at h4
      exact h4
    have h5 := condW_of h4 (w_not (w_lt w_lit (w_len_list (w_arg rfl))))
    rw [List.length_map] at h5
    refine Nat.le_of_not_lt fun q => ?_
    have q' : (n : Int) < ((ns.length : Nat) : Int) := by omega
    first
      | (rw [decide_eq_true q'] at h5; exact absurd h5 (by decide))
      | (simp at h5; omega)
  cases hwl with
  | cons w1 w2 =>
    cases w2
    cases w1 with
    | list ho hall => exact ⟨_, _, ns, rfl, rfl, ho, ints_of_wellAll ns _ hall, hlen⟩

theorem post_true (l : OpenLaw) (args : List WData) : l.row.toRowW.claim.post args (.bool true) args = true :=
  postW_of (r := l.row.toRowW) (X := (true == true))
    (show WShape.has [] (.bool true) .bool = true by first | rfl | decide | simp [WShape.has, WShape.arms, WShape.armsAll])
    (show (WTm.eq .res (.lit (.bool true))).value [] { args := args, res := some (.bool true), after := args } = some (.bool (true == true)) from w_eq_bool (w_res rfl) w_lit) rfl

/-! ### the attachment: holds_open's last premise (the goal 'hc' behind k_head) from a wpAny of the law's body -/

/-- the same from a codeAny of the CALL (for a layer whose function contracts speak of calls) -/
theorem attach_call {l : OpenLaw} {n : Nat} {q : Program} {loose : List Str} {XP : (Str → Option Value) → Heap → Prop} {YP : World → Heap → Prop} {d : DefRec}
    (hn : l.most = some n) (hdf : d.params.defaults = [])
    (call : ∀ (w : World) (s₀ s₁ : Shared) (mg mb : Str → Option Value) (fa : Addr) (o : Obj) (pm cd doc : Value) (a : Addr) (vs : List Value) (ns : List Int),
      Ground q loose [] XP w s₀ mg mb s₁.heap → YP w s₁.heap →
      s₁.heap.get? fa = some o → o.data = .func (docDef d.name d.params d.body d.scope pm cd doc) → s₁.heap.CodeRec cd d.name → mg d.name = some (.ref fa) →
      s₁.heap.get? a = some { cls := .type "list", data := .seq vs.toArray } → IntsAre vs ns → ns.length ≤ n → s₁.gens = #[] →
      codeAny (model l.prog w) callerA (.call (.ref fa) ⟨[.ref a], []⟩) (fun r s' => r = .ok (.ret (.bool true)) ∧ OldK s₁.heap s'.heap ∧ s'.os = s₁.os ∧ AllBare s'.gens) s₁) :
    WalkO q loose XP YP l.row.toRowW d [] (fun f vs => PySem.call f vs) := by
  intro w s₀ s₁ mg mb G Y fa o pm cd doc dV kV ho hd hcd hD hmg hg args vals as hpre hlay hrd hwl hlo
  obtain rfl : dV = .none := Dflts.none hD hdf
  obtain rfl : kV = .none := Dflts.noKw hD
  obtain ⟨a, vs, ns, rfl, rfl, hobj, hints, hlen⟩ := script_of hn hpre hwl
  refine enter_call (codeAny_mono (call w s₀ s₁ mg mb fa o pm cd doc a vs ns G Y ho (fd_plain hd) hcd hmg hobj hints hlen hg) fun r s' hq => ?_)
  obtain ⟨rfl, h2, h3, h4⟩ := hq
  exact ⟨.inl ⟨.bool true, .bool true, [], rfl, fun _ => rfl, .bool true, post_true l _, fun _ => ⟨List.Pairwise.nil, fun _ hm => (nomatch hm)⟩⟩, h2, h3, h4⟩


/-! ### rules over ANY heap (no ledger) from facts about the written part K: the library's own take a ledger (News) for what they write -/
section
variable {prog : Program} {w : World} {A : Around} {E : Value → Shared → Prop} {s : Shared} {K : Frag}





/-! the whole heap as the ledger: makes every rule that writes through a ledger a rule over any heap -/

end
end Att

namespace L2
open PySem PySem.Spec PyProof.Rows

theorem vals_ints : ∀ {vs : List Value} {ns : List Int}, IntsAre vs ns → Vals (ns.map V.int) vs
  | _, _, .nil => .nil
  | _, _, .cons n t h => .cons ⟨t, rfl⟩ (vals_ints h)

/-- nothing is tracked but the script, known to the object (or it is an object of the module) -/
def Only (H : Hp) : Prop := ∀ b, H b = none ∨ ∃ o xs, H b = some (.frz o (.lst xs))

/-- THE HEAD: the law's promise, at the heap behind the top. F, the promise of the law's def, may use that base is part of the heap (so K.In base, base.Ns mainGlobals mg stand in Mod) -/
theorem law_call {P : Program} {w : World} {K : PySem.W.Frag} {mg mb : Str → Option Value} {CX : CXT} {k : Nat} {fa a : Addr} {fd : FuncData} {x : Str} {sp : Sp} {s₁ : Shared} {vs : List Value} {ns : List Int}
    (KX : K.In s₁.heap) (hns : s₁.heap.Ns mainGlobals mg) (hb : s₁.heap.Ns builtinsNs mb) (hbb : ∀ x : Str, x ≠ "__name__" → mb x = bootBuiltins x) (hlim : s₁.heap.NoLimit) (hg : s₁.gens = #[])
    (ha : s₁.heap.get? a = some { cls := .type "list", data := .seq vs.toArray }) (hi : IntsAre vs ns) (hl : ns.length ≤ sizeLine) (hr : Room k callerA)
    (F : ∀ base : Heap, K.In base → base.Ns mainGlobals mg → FnOk P w K mg base CX k fa fd [x] sp) (hbind : ∀ (s : Shared) (u : Value), BindsTo s fd ⟨[u], []⟩ [(x, u)])
    (hsp : ∀ H : Hp, Only H → SqL K H a (ns.map V.int) → sp [.ref a] H (fun v _ => v = .bl true) fun _ _ _ => False)
    (hCX : ∀ H e s', CX [] H s₁ (fun _ _ _ => False) e s' → False) :
    codeAny (model P w) callerA (.call (.ref fa) ⟨[.ref a], []⟩) (fun r s' => r = .ok (.ret (.bool true)) ∧ OldK s₁.heap s'.heap ∧ s'.os = s₁.os ∧ AllBare s'.gens) s₁ := by
  have rv := vals_ints hi
  have lenV := hi.length
  -- from an abstract heap in which nothing but the script may be tracked
  have core : ∀ H : Hp, Only H → SqL K H a (ns.map V.int) → HOk P w H s₁.heap → (∀ b, H b ≠ none → b = a) → (H a ≠ none → K.lookup a = none) →
      codeAny (model P w) callerA (.call (.ref fa) ⟨[.ref a], []⟩) (fun r s' => r = .ok (.ret (.bool true)) ∧ OldK s₁.heap s'.heap ∧ s'.os = s₁.os ∧ AllBare s'.gens) s₁ := by
    intro H hO hS hok hA hK
    have base_of : ∀ {b : Addr} {o : Obj}, s₁.heap.get? b = some o → H b = none → (hidT s₁.heap H).get? b = some o := fun e n => hidT_get e n
    have noA : ∀ {b : Addr} {o : Obj} {es : Array DictEntry} {ep : Nat}, s₁.heap.get? b = some o → o.data = .dict es ep → H b = none := fun {b o es ep} e d => by
      cases q : H b with
      | none => rfl
      | some u =>
        have e' : b = a := hA b (by rw [q]; simp)
        subst e'
        rw [ha] at e; cases e
        have d' : Data.seq vs.toArray _ = Data.dict es ep := d
        cases d'
    have nsK : ∀ {b : Addr} {m : Str → Option Value}, s₁.heap.Ns b m → (hidT s₁.heap H).Ns b m := fun {b m} ⟨o, es, ep, e, d, r⟩ => ⟨o, es, ep, base_of e (noA e d), d, r⟩
    have hKb : K.In (hidT s₁.heap H) := fun b o e => base_of (KX b o e) (by
      cases q : H b with
      | none => rfl
      | some u =>
        have e' : b = a := hA b (by rw [q]; simp)
        subst e'
        rw [hK (by rw [q]; simp)] at e; cases e)
    have hM : Mod K mg (hidT s₁.heap H) := ⟨hKb, nsK hns, ⟨mb, nsK hb, hbb⟩, let ⟨mc, h1, h2⟩ := hlim; ⟨mc, nsK h1, h2⟩⟩
    have e0 : Env0 P w K mg (hidT s₁.heap H) callerA [] s₁ H := ⟨rfl, hM, fun b o e => of_hidT e, Nat.le_of_eq (hidT_size _ _), trivial, fun b hb => absurd (show b ∈ ([] : List Addr) from hb) (by simp), hok, .of_eq hg⟩
    refine codeAny_mono ((F _ hKb (nsK hns)).run callerA [] s₁ H ⟨[.ref a], []⟩ [.ref a] [.ref a] _ _ hr e0 (hbind s₁ (.ref a)) (.cons rfl .nil) (hsp H hO hS)) fun r s' h => ?_
    cases r with
    | error e => exact (hCX H e s' h).elim
    | ok fl =>
      cases fl with
      | next => exact False.elim h
      | brk => exact False.elim h
      | cont => exact False.elim h
      | ret u =>
        obtain ⟨v, H', os, bare, un, hok', r', q⟩ := h
        have q' : v = .bl true := q
        subst q'
        obtain rfl : u = Value.bool true := r'
        refine ⟨rfl, OldK.of_keep fun b o e => ?_, os, bare⟩
        cases q : H b with
        | none => exact un.keep b o e q (by intro z; exact absurd (show b ∈ ([] : List Addr) from z) (by simp)) (by simp)
        | some u =>
          rcases hO b with z | ⟨ob, xs, z⟩
          · rw [q] at z; cases z
          · have z2 := un.frzs b ob _ z
            obtain ⟨e1, _⟩ := hok b _ z
            obtain ⟨e2, _⟩ := hok' b _ z2
            rw [e] at e1; cases e1
            exact e2
  cases hk : K.lookup a with
  | some o =>
    -- the script is one of the module's own objects
    have e := KX a o hk
    rw [ha] at e
    cases e
    refine core (fun _ => none) (fun _ => .inl rfl) (.inr ⟨_, vs.toArray, _, hk, rfl, rfl, rfl, by rw [List.size_toArray, lenV]; exact hl, by simpa using rv⟩) (fun b u z => by have z' : (none : Option HO) = some u := z; cases z') (fun b z => absurd rfl z) fun z => absurd rfl z
  | none =>
    refine core (fun b => if b = a then some (.frz { cls := .type "list", data := .seq vs.toArray } (.lst (ns.map V.int))) else none) (fun b => ?_) (.inl (.inr ⟨{ cls := .type "list", data := .seq vs.toArray }, if_pos rfl⟩)) (fun b u z => ?_) (fun b z => ?_) fun _ => hk
    · by_cases hb : b = a
      · exact .inr ⟨_, _, if_pos hb⟩
      · exact .inl (if_neg hb)
    · by_cases hb : b = a
      · have z' := (if_pos hb).symm.trans z
        cases z'
        subst hb
        exact ⟨ha, by rw [List.length_map]; exact hl, vs, _, rv, ha⟩
      · have z' := (if_neg hb).symm.trans z
        cases z'
    · by_cases hb : b = a
      · exact hb
      · exact absurd (if_neg hb) z
end L2

namespace L2
open PySem PySem.Spec PyProof.Rows


/-- the goal that k_head leaves (case hc), from the law's promise. F gives the function object fd (K's own) once, then the promise over every base -/
theorem walk_of {l : PySem.W.OpenLaw} {n k : Nat} {q : Program} {loose : List Str} {XP : (Str → Option Value) → Heap → Prop} {YP : World → Heap → Prop} {d : DefRec} {K : Params → PySem.W.Frag} {CX : World → CXT} {sp : World → Sp} {x : Str}
    (hn : l.most = some n) (hn2 : n ≤ sizeLine) (hdf : d.params.defaults = []) (hr : Room k callerA)
    (hY : ∀ (w : World) (h : Heap), YP w h → (K w.params).In h)
    (F : ∀ (w : World) (mg : Str → Option Value) (fa : Addr) (h : Heap), (K w.params).In h → h.Ns mainGlobals mg → mg d.name = some (.ref fa) →
      ∃ fd : FuncData, (∀ (s : Shared) (u : Value), BindsTo s fd ⟨[u], []⟩ [(x, u)]) ∧
        ∀ base : Heap, (K w.params).In base → base.Ns mainGlobals mg → FnOk l.prog w (K w.params) mg base (CX w) k fa fd [x] (sp w))
    (hsp : ∀ (w : World) (H : Hp) (a : Addr) (ns : List Int), ns.length ≤ n → Only H → SqL (K w.params) H a (ns.map V.int) → sp w [.ref a] H (fun v _ => v = .bl true) fun _ _ _ => False)
    (hCX : ∀ (w : World) (H : Hp) (s : Shared) (e : Value) (s' : Shared), CX w [] H s (fun _ _ _ => False) e s' → False) :
    PySem.W.WalkO q loose XP YP l.row.toRowW d [] (fun f vs => PySem.call f vs) := by
  refine Att.attach_call hn hdf fun w s₀ s₁ mg mb fa o pm cd doc a vs ns G Y ho hd hcd hmg hobj hints hlen hg => ?_
  have KX := hY w _ Y
  obtain ⟨fd, hb, hF⟩ := F w mg fa _ KX G.T.g hmg
  exact law_call KX G.T.g G.T.b G.T.builtins G.T.nolimit hg hobj hints (Nat.le_trans hlen hn2) hr hF hb (fun H hO hS => hsp w H a ns hlen hO hS) fun H e s' => hCX w H s₁ e s'
end L2

/- THE LAST THEOREM (shape; LID, My.* are yours):
   My.Adr: a structure of the addresses that your layer names (classes, functions); My.Txt K t: a structure (Prop) of the equations over K;
   My.txt_mk : {K} {implicit addresses ..} (e1 : nsIn K mainGlobals "law" = some (some (.ref f))) (e2 : K.lookup f = some ⟨oc, od, .func (fnOf "law" "law" params body scope dV kV doc pm an cdv ct), sl⟩) (e3 : codeIn K cdv "law" = true) .. : ∃ t, My.Txt K t

set_option maxRecDepth 100000 in
set_option maxHeartbeats 0 in
theorem PySem.Challenge.cw_LID_holds : PySem.Challenge.rw_LID.Holds := by
  w_on; o_law; k_head; (case hw => w_witness2)
  k_fill
  refine L2.walk_of (l := PySem.Challenge.rw_LID) (n := 63) (k := 40) (x := "script") (CX := fun w => ..) (sp := fun _ => My.sp_law) rfl (by decide) rfl ⟨rfl, by decide, by decide⟩ (fun w h Y => PySem.W.kIn_of Y) ?F ?S ?C
  case F =>
    intro w mg fa h KX G hmg
    have T : ∃ t, My.Txt (L2.KOf KX) t := by
      dsimp only [L2.KOf]                          -- K must stand as «<heap const> w.params» for k_is
      refine' My.txt_mk ?e1 ?e2 ?e3 ..
      (case e1 => PySem.W.k_is)                    -- in the order: a name -> its address -> its object -> its parts
      (case e2 => PySem.W.k_is)
      ..
    obtain ⟨t, T⟩ := T
    have e0 := hmg.symm.trans (PySem.W.mg_of KX G T.law)
    cases e0                                       -- fa is the law's own address
    exact ⟨_, fun s u => .of_eq rfl, fun base kb nb => My.law_fn T kb nb⟩     -- if «.of_eq rfl» comes too early: refine' ⟨_, ?b, fun base kb nb => My.law_fn T kb nb⟩; exact fun s u => .of_eq rfl
  case S => exact fun w H a ns hl hO hS => ..
  case C => exact ..
(the tactic k_is has no namespace: write k_is) -/

/-! SHORT WORDS over the layer: a def of the text, its body, what a loop and a test want. -/
namespace L2
open PySem PySem.Spec PyProof.Rows

/-! ### the text by places -/
def defArgs (s : Stmt) : Arguments := match s with
  | .FunctionDef _ a _ _ _ _ _ _ _ _ => a
  | _ => { posonlyargs := [], args := [], vararg := none, kwonlyargs := [], kw_defaults := [], kwarg := none, defaults := [] }
def defBody (s : Stmt) : List Stmt := match s with
  | .FunctionDef _ _ b _ _ _ _ _ _ _ => b
  | _ => []
def defScope (s : Stmt) : Scope := match s with
  | .FunctionDef _ _ _ _ _ _ sc _ _ _ => sc
  | _ => { kind := .function, names := [], isGenerator := false, isCoroutine := false }

/-! ### no exception leaves a def -/
abbrev CX0 : CXT := fun _ _ _ _ _ _ => False
abbrev E0 : XK := fun _ _ _ => False
theorem pass0 {X : Cx} : Passes CX0 X E0 := fun _ _ _ _ _ _ _ h => h.elim

/-! ### a def (or method) of the text as it stands behind the top -/
structure Fun (K : PySem.W.Frag) (x qual : Str) (st : Stmt) (f : Addr) (fd : FuncData) : Prop where
  ex : ∃ (oc : Value) (od : Option Addr) (kV doc pm : Value) (an : Option Addr) (cdv ct : Value) (osl : Array (Option Value)),
    fd = PySem.W.fnOf x qual (defArgs st) (defBody st) (defScope st) .none kV doc pm an cdv ct ∧ K.lookup f = some ⟨oc, od, .func fd, osl⟩ ∧ PySem.W.codeIn K cdv qual = true
  kp : PySem.W.keepIn K (.ref f) = true
section
variable {P : Program} {w : World} {K : PySem.W.Frag} {mg : Str → Option Value} {base : Heap}
/-- THE RULE for a def: its body as a term of rules, and the reading of that term -/
theorem Fun.ok {x qual : Str} {st : Stmt} {f : Addr} {fd : FuncData} {N ps : List Str} {k : Nat} {sp : Sp} (F : Fun K x qual st f fd) (S : FnScope N ps (defScope st)) (len : ∀ vs H Q E, sp vs H Q E → vs.length = ps.length)
    (hbody : ∀ (cdv : Value) (A : Around) (outer : List Env) (s : Shared) (H : Hp) (vs : List V) (Q : VK) (E : XK), Room k (A.deeper (envOfC qual (defScope st) s.heap.objs.size f cdv)) → sp vs H Q E →
      ∃ t, PSs (cxOf CX0 P w K mg base N qual (defScope st) f cdv A outer s H E).nox (defBody st) t ∧ t { nx := fun _ H' => Q .non H', rt := Q } (start N vs) H) : FnOk P w K mg base CX0 (k + 1) f fd ps sp := by
  obtain ⟨oc, od, kV, doc, pm, an, cdv, ct, osl, rfl, lk, hcd⟩ := F.ex
  refine fn_of lk hcd S len fun A outer s H vs Q E hr hsp => ?_
  obtain ⟨t, h, q⟩ := hbody cdv A outer s H vs Q E hr hsp
  exact ⟨t, h.nox, q⟩
/-- how its arguments bind (no defaults): h is «fun _ _ _ _ _ _ us hl => match us, hl with | [_, _], _ => rfl», one _ a parameter -/
theorem Fun.binds {x qual : Str} {st : Stmt} {f : Addr} {fd : FuncData} {ps : List Str} (F : Fun K x qual st f fd)
    (h : ∀ (kV doc pm : Value) (an : Option Addr) (cdv ct : Value) (us : List Value), us.length = ps.length → bindArgs (PySem.W.fnOf x qual (defArgs st) (defBody st) (defScope st) .none kV doc pm an cdv ct) ⟨us, []⟩ = pure (ps.zip us)) : Binds K fd ps [] := by
  obtain ⟨oc, od, kV, doc, pm, an, cdv, ct, osl, rfl, lk, hcd⟩ := F.ex
  exact .all (h kV doc pm an cdv ct)
theorem fun_mk {x qual : Str} {st : Stmt} {f : Addr} {oc : Value} {od an : Option Addr} {osl : Array (Option Value)} {kV doc pm cdv ct : Value} (l : K.lookup f = some ⟨oc, od, .func (PySem.W.fnOf x qual (defArgs st) (defBody st) (defScope st) .none kV doc pm an cdv ct), osl⟩)
    (c : PySem.W.codeIn K cdv qual = true) (k : PySem.W.keepIn K (.ref f) = true) : Fun K x qual st f (PySem.W.fnOf x qual (defArgs st) (defBody st) (defScope st) .none kV doc pm an cdv ct) := ⟨⟨oc, od, kV, doc, pm, an, cdv, ct, osl, rfl, l, c⟩, k⟩
end
theorem small1000 {n : Nat} (h : n ≤ 1000) : n < sizeLine := Nat.lt_of_le_of_lt h (by decide)

/-! ### expressions in short: the name that stands in the i-th slot -/
section
variable {X : Cx}
theorem pv (i : Nat) {x : Str} {pos : Pos} (hN : X.N[i]? = some x := by rfl) (hv : Vis X.env.scope x := by first | exact Or.inl rfl | exact Or.inr (Or.inl rfl) | exact Or.inr (Or.inr rfl)) (hd : (x == ("__debug__" : Str)) = false := by decide)
    (hcd : (x == ("__classdict__" : Str)) = false := by decide) : PE X (.Name x pos) (tVar i) := pe_var hN hv hd hcd
end

/-! ### tests -/
theorem iteF {A B : Prop} (h : B) : if false = true then A else B := by
  rw [if_neg Bool.false_ne_true]
  exact h
theorem iteT {A B : Prop} (h : A) : if true = true then A else B := by
  rw [if_pos rfl]
  exact h

/-! ### heaps -/
/-- all that was tracked is as it was -/
def Same (H H' : Hp) : Prop := ∀ b o, H b = some o → H' b = some o
theorem Same.refl (H : Hp) : Same H H := fun _ _ h => h
theorem Same.trans {H H1 H2 : Hp} (a : Same H H1) (b : Same H1 H2) : Same H H2 := fun c o h => b c o (a c o h)
theorem Same.seq {K : PySem.W.Frag} {H H' : Hp} {a : Addr} {xs : List V} (e : Same H H') (h : SqL K H a xs) : SqL K H' a xs := by
  rcases h with (h | ⟨o, h⟩) | h
  · exact .inl (.inl (e _ _ h))
  · exact .inl (.inr ⟨o, e _ _ h⟩)
  · exact .inr h

end L2
namespace BF
open PySem PySem.Spec PyProof.Rows L2

/-! Own rules over the hand layer: a reading may be narrowed; kinds of values; isinstance; is True, is not False; written powers of ten. -/
theorem pe_imp {X : Cx} {e : Expr} {t t' : TE} (h : PE X e t) (k : ∀ σ H Q, t' σ H Q → t σ H Q) : PE X e t' :=
  fun pins s σ H Q I hw => h pins s σ H Q I (k σ H Q hw)

inductive Kn where
  | non | bl | int | str | lst | tup | dic
def Kn.nm : Kn → String
  | .non => "NoneType" | .bl => "bool" | .int => "int" | .str => "str" | .lst => "list" | .tup => "tuple" | .dic => "dict"
/-- the kind of a value, as it stands in the heap -/
inductive Knd (H : Hp) : V → Kn → Prop where
  | non : Knd H .non .non
  | bl (b : Bool) : Knd H (.bl b) .bl
  | int (i : Int) : Knd H (.int i) .int
  | str (x : Str) : Knd H (.str x) .str
  | lst {a : Addr} {xs : List V} (e : H a = some (.lst xs)) : Knd H (.ref a) .lst
  | tup {a : Addr} {xs : List V} (e : H a = some (.tup xs)) : Knd H (.ref a) .tup
  | dic {a : Addr} {kvs : List (Key × V)} (e : H a = some (.dK kvs)) : Knd H (.ref a) .dic
theorem Knd.ty {K : PySem.W.Frag} {H : Hp} {v : V} {k : Kn} (h : Knd H v k) : TyOf K H v (.type k.nm) := by
  cases h with
  | non => exact .non
  | bl b => exact .bl b
  | int i => exact .int i
  | str x => exact .str x
  | lst e => exact .lst e
  | tup e => exact .tup e
  | dic e => exact .dK e
theorem Knd.same {H H' : Hp} {v : V} {k : Kn} (h : Knd H v k) (s : Same H H') : Knd H' v k := by
  cases h with
  | non => exact .non
  | bl b => exact .bl b
  | int i => exact .int i
  | str x => exact .str x
  | lst e => exact .lst (s _ _ e)
  | tup e => exact .tup (s _ _ e)
  | dic e => exact .dic (s _ _ e)
def isaK : Kn → Kn → Bool
  | .non, .non => true
  | .bl, .bl => true
  | .bl, .int => true
  | .int, .int => true
  | .str, .str => true
  | .lst, .lst => true
  | .tup, .tup => true
  | .dic, .dic => true
  | _, _ => false
theorem kit_of (K : PySem.W.Frag) (k c : Kn) : PySem.W.kitOne K (.type k.nm) (.type c.nm) = some (isaK k c) := by
  cases k <;> cases c <;> kernel_rfl
theorem call_isi {X : Cx} : CallR X (.builtin "isinstance") (fun xs H Q => ∃ x k c, xs = [x, .ty (Kn.nm c)] ∧ Knd H x k ∧ Q (.bl (isaK k c)) H) := by
  intro pins s σ H xs us Q I r h
  obtain ⟨x, k, c, rfl, kd, q⟩ := h
  obtain ⟨u, w', rfl, r1, r2⟩ := vals2 r
  have e : w' = Value.type (Kn.nm c) := r2
  subst e
  exact isinst_ok I r1 kd.ty (kit_of X.K k c) fun tk => ⟨.bl (isaK k c), H, I.tok tk, rfl, q⟩
theorem op_isB {X : Cx} : OpR X (compareOp .Is) (fun x y H Q => ∃ a b, x = .bl a ∧ y = .bl b ∧ Q (.bl (a == b)) H) := by
  intro pins s σ H x y v u Q I rx ry h
  obtain ⟨a, b, rfl, rfl, q⟩ := h
  have e1 : v = Value.bool a := rx
  have e2 : u = Value.bool b := ry
  subst e1 e2
  exact is_bool ⟨.bl (a == b), H, I, rfl, q⟩
theorem op_isnotB {X : Cx} : OpR X (compareOp .IsNot) (fun x y H Q => ∃ a b, x = .bl a ∧ y = .bl b ∧ Q (.bl (a != b)) H) := by
  intro pins s σ H x y v u Q I rx ry h
  obtain ⟨a, b, rfl, rfl, q⟩ := h
  have e1 : v = Value.bool a := rx
  have e2 : u = Value.bool b := ry
  subst e1 e2
  exact isnot_bool ⟨.bl (a != b), H, I, rfl, q⟩
theorem pe_p9 {X : Cx} {j1 j2 : Nat} {p1 p2 pos : Pos} : PE X (.BinOp (.Constant (.int 10) j1 p1) .Pow (.Constant (.int 9) j2 p2) pos) (tC (.int 1000000000)) :=
  pe_imp (pe_op op_pow pe_int pe_int) fun σ H Q q => ⟨10, 9, rfl, rfl, ⟨by decide, by decide, by decide⟩, by
    have e : ((10 : Int) ^ (9 : Int).toNat) = 1000000000 := by decide
    show Q (V.int _) H
    rw [e]; exact q⟩

/-! tests over ints -/
theorem ifI_pos {i j : Int} {A B : Prop} (h : i = j) (a : A) : if decide (V.int i = V.int j) = true then A else B := by
  rw [if_pos (by rw [h]; exact decide_eq_true rfl)]; exact a
theorem ifI_neg {i j : Int} {A B : Prop} (h : i ≠ j) (b : B) : if decide (V.int i = V.int j) = true then A else B := by
  rw [if_neg (by intro z; have z' := of_decide_eq_true z; injection z' with z'; exact h z')]; exact b
theorem ifD_pos {p : Prop} [Decidable p] {A B : Prop} (h : p) (a : A) : if decide p = true then A else B := by
  rw [if_pos (decide_eq_true h)]; exact a
theorem ifD_neg {p : Prop} [Decidable p] {A B : Prop} (h : ¬ p) (b : B) : if decide p = true then A else B := by
  rw [if_neg (by intro z; exact h (of_decide_eq_true z))]; exact b
theorem ifB_pos {c : Bool} {A B : Prop} (h : c = true) (a : A) : if c = true then A else B := by
  rw [if_pos h]; exact a
theorem ifB_neg {c : Bool} {A B : Prop} (h : c = false) (b : B) : if c = true then A else B := by
  rw [if_neg (by rw [h]; exact Bool.false_ne_true)]; exact b
theorem dec_len (n : Nat) (k : Nat) : decide (V.int (n : Int) = V.int (k : Int)) = decide (n = k) := by
  by_cases h : n = k
  · subst h; simp
  · rw [decide_eq_false h, decide_eq_false]
    intro z
    injection z with z
    omega

/-! heaps -/
theorem same_upd {H : Hp} {p : Addr} {o : HO} (h : H p = none) : Same H (upd H p o) := fun b u e => by
  rw [upd_ne (ne_of_none e h)]; exact e
theorem sz {n : Nat} (h : n ≤ 1000) : n ≤ sizeLine := Nat.le_of_lt (small1000 h)
theorem szr {n : Nat} (h : Nat.ble n 1000 = true) : n ≤ sizeLine := sz (Nat.le_of_ble_eq_true h)
theorem cut_mem {xs : List V} {lo hi : Option Int} {x : V} (h : x ∈ cutV xs lo hi) : x ∈ xs := by
  unfold cutV at h
  exact List.mem_of_mem_drop (List.mem_of_mem_take h)

/-! holes and lines, as the program tells them -/
def wholeV : V → Bool
  | .int _ => true
  | _ => false
def good : V → Bool
  | .int i => decide (-1000000000 ≤ i) && decide (i ≤ 1000000000)
  | _ => false
def pairB (H : Hp) : V → Bool
  | .ref p => (match H p with | some (.tup xs) => decide (xs.length = 2) | _ => false)
  | _ => false
theorem pairB_tup {H : Hp} {p : Addr} {xs : List V} (e : H p = some (.tup xs)) : pairB H (.ref p) = decide (xs.length = 2) := by
  show (match H p with | some (.tup xs) => decide (xs.length = 2) | _ => false) = _
  rw [e]
theorem pairB_lst {H : Hp} {p : Addr} {xs : List V} (e : H p = some (.lst xs)) : pairB H (.ref p) = false := by
  show (match H p with | some (.tup xs) => decide (xs.length = 2) | _ => false) = _
  rw [e]
theorem pairB_dic {H : Hp} {p : Addr} {kvs : List (Key × V)} (e : H p = some (.dK kvs)) : pairB H (.ref p) = false := by
  show (match H p with | some (.tup xs) => decide (xs.length = 2) | _ => false) = _
  rw [e]
inductive HoleIs (H : Hp) : V → Bool → Prop where
  | no {u : V} {k : Kn} (kd : Knd H u k) (h : pairB H u = false) : HoleIs H u false
  | two {p : Addr} {a b : V} {ka kb : Kn} {r : Bool} (e : H p = some (.tup [a, b])) (ha : Knd H a ka) (hb : Knd H b kb) (hr : (good a && good b) = r) : HoleIs H (.ref p) r
def nearB (x y z w : Int) : Bool := decide ((if x - z < 0 then -(x - z) else x - z) ≤ 9) && decide ((if y - w < 0 then -(y - w) else y - w) ≤ 9)
inductive LineIs (H : Hp) : V → Bool → Prop where
  | no {u : V} {k : Kn} (kd : Knd H u k) (h : pairB H u = false) : LineIs H u false
  | no1 {p : Addr} {a b : V} (e : H p = some (.tup [a, b])) (ha : HoleIs H a false) : LineIs H (.ref p) false
  | no2 {p : Addr} {a b : V} (e : H p = some (.tup [a, b])) (ha : HoleIs H a true) (hb : HoleIs H b false) : LineIs H (.ref p) false
  | two {p q r : Addr} {x y z w : Int} {c : Bool} (e : H p = some (.tup [.ref q, .ref r])) (hq : H q = some (.tup [.int x, .int y])) (hr : H r = some (.tup [.int z, .int w]))
      (gq : (good (.int x) && good (.int y)) = true) (gr : (good (.int z) && good (.int w)) = true) (hc : (HT.lexLt [x, y] [z, w] && nearB x y z w) = c) : LineIs H (.ref p) c

/-- a def of the text, and the name under which it stands -/
structure Df (K : PySem.W.Frag) (mg : Str → Option Value) (x : Str) (st : Stmt) (f : Addr) (fd : FuncData) : Prop where
  F : Fun K x x st f fd
  m : mg x = some (.ref f)
theorem df_mk {K : PySem.W.Frag} {mg : Str → Option Value} {h : Heap} (X : K.In h) (G : h.Ns mainGlobals mg) {x : Str} {st : Stmt} {f : Addr} {oc : Value} {od an : Option Addr} {osl : Array (Option Value)} {kV doc pm cdv ct : Value}
    (a : PySem.W.nsIn K mainGlobals x = some (some (.ref f))) (l : K.lookup f = some ⟨oc, od, .func (PySem.W.fnOf x x (defArgs st) (defBody st) (defScope st) .none kV doc pm an cdv ct), osl⟩)
    (c : PySem.W.codeIn K cdv x = true) (k : PySem.W.keepIn K (.ref f) = true) : Df K mg x st f (PySem.W.fnOf x x (defArgs st) (defBody st) (defScope st) .none kV doc pm an cdv ct) :=
  ⟨fun_mk l c k, PySem.W.mg_of X G a⟩
end BF
namespace BF
open PySem PySem.Spec PyProof.Rows L2

/-! A list comprehension with one walk and at most one test, its names read from the def round it through cells. -/
/-- the cells that a comprehension's block takes along -/
def clOf (env : Env) : List (Str × NameKind) → List (Str × Addr) → List (Str × Addr)
  | [], acc => acc
  | (n, k) :: r, acc => if (k == NameKind.free) = true then (match env.cells.lookup n with | some a => clOf env r ((n, a) :: acc) | none => clOf env r acc) else clOf env r acc
theorem clOf_sub (env : Env) : ∀ (l : List (Str × NameKind)) (acc : List (Str × Addr)), (∀ p ∈ acc, env.cells.lookup p.1 = some p.2) → ∀ p ∈ clOf env l acc, env.cells.lookup p.1 = some p.2
  | [], _, h => h
  | (n, k) :: r, acc, h => by
    unfold clOf
    split
    · split
      · rename_i a e
        refine clOf_sub env r _ fun p hp => ?_
        rcases List.mem_cons.mp hp with rfl | hp
        · exact e
        · exact h p hp
      · exact clOf_sub env r acc h
    · exact clOf_sub env r acc h
theorem clOf_acc (env : Env) : ∀ (l : List (Str × NameKind)) (acc : List (Str × Addr)) (x : Str), (∃ c, acc.lookup x = some c) → ∃ c, (clOf env l acc).lookup x = some c
  | [], _, _, h => h
  | (n, k) :: r, acc, x, h => by
    unfold clOf
    split
    · split
      · rename_i a e
        refine clOf_acc env r _ x ?_
        rw [List.lookup_cons]
        cases q : x == n with
        | true => exact ⟨a, rfl⟩
        | false => exact h
      · exact clOf_acc env r acc x h
    · exact clOf_acc env r acc x h
theorem clOf_has (env : Env) : ∀ (l : List (Str × NameKind)) (acc : List (Str × Addr)) (x : Str), l.lookup x = some NameKind.free → (∃ c, env.cells.lookup x = some c) → ∃ c, (clOf env l acc).lookup x = some c
  | [], _, _, h, _ => by simp at h
  | (n, k) :: r, acc, x, h, hc => by
    rw [List.lookup_cons] at h
    cases q : x == n with
    | true =>
      rw [q] at h
      have ek : k = NameKind.free := Option.some.inj h
      have en : x = n := eq_of_beq q
      subst ek en
      obtain ⟨c, e⟩ := hc
      unfold clOf
      rw [if_pos (by decide : (NameKind.free == NameKind.free) = true), e]
      refine clOf_acc env r _ x ⟨c, ?_⟩
      rw [List.lookup_cons, q]
    | false =>
      rw [q] at h
      unfold clOf
      split
      · split
        · exact clOf_has env r _ x h hc
        · exact clOf_has env r _ x h hc
      · exact clOf_has env r _ x h hc
def lab (env : Env) (p : Str × NameKind) : Str × NameKind := if (p.2 == NameKind.free && env.scope.kind == .function && env.kindOf p.1 == some .cell) then (p.1, NameKind.cell) else (p.1, p.2)
theorem lab_eq (env : Env) (n : Str) (k : NameKind) : lab env (n, k) = (n, if (k == NameKind.free && env.scope.kind == .function && env.kindOf n == some .cell) then NameKind.cell else k) := by
  unfold lab
  split <;> rfl
theorem relabel_names (scope : Scope) (env : Env) : (relabel scope env).names = scope.names.map (lab env) := rfl
theorem relabel_lookup (env : Env) : ∀ (l : List (Str × NameKind)) (x : Str),
    (l.map (lab env)).lookup x = (l.lookup x).map fun k => if (k == NameKind.free && env.scope.kind == .function && env.kindOf x == some .cell) then NameKind.cell else k
  | [], _ => rfl
  | (n, k) :: r, x => by
    have ih := relabel_lookup env r x
    rw [List.map_cons, lab_eq, List.lookup_cons, List.lookup_cons]
    cases q : x == n with
    | true =>
      have en : x = n := eq_of_beq q
      subst en
      rfl
    | false => exact ih

/-- the context of a comprehension's block: the def's, its own frame and cells; no exception leaves it -/
def compCx (X : Cx) (N' : List Str) (scope : Scope) (C : Addr) (s₀ : Shared) (H₀ : Hp) (fp : List Addr) (pn : List (Addr × Obj)) : Cx where
  prog := X.prog
  w := X.w
  K := X.K
  mg := X.mg
  base := X.base
  A := X.A
  N := N'
  s₀ := s₀
  H₀ := H₀
  env := compEnvC scope (clOf X.env scope.names []) C X.env
  outer := X.stack
  stack := X.stack
  ex := fp
  fn := fun _ => false
  calm := X.calm
  pn := pn
  xe := fun _ _ => False

/-- the block's slots at its begin: for each of its names the def's slot, or none -/
def pick (idx : List (Option Nat)) (σ : L2.St) : L2.St := idx.map fun o => match o with | none => none | some i => (σ[i]?).getD none

structure CompOk (X : Cx) (scope : Scope) (N' : List Str) (idx : List (Option Nat)) : Prop where
  kind : scope.kind = .function
  cell : ∀ y ∈ scope.names, y.2 ≠ .cell
  names : ∀ y ∈ scope.names, y.2 = .local → scope.names.lookup y.1 = some .local
  free : ∀ y ∈ scope.names, y.2 = .free → X.env.kindOf y.1 = some .cell
  len : idx.length = N'.length
  idx : ∀ p ∈ idx.zip N', ∀ i, p.1 = some i → X.N[i]? = some p.2 ∧ X.env.kindOf p.2 = some .cell ∧ scope.names.lookup p.2 = some .free

/-- what a comprehension's scope must be, decided: the def's scope and slots, its own -/
def compB (osc scope : Scope) (ON N' : List Str) (idx : List (Option Nat)) : Bool :=
  (scope.kind == .function) && scope.names.all (fun y => y.2 != .cell) && scope.names.all (fun y => y.2 != .local || scope.names.lookup y.1 == some .local) &&
    scope.names.all (fun y => y.2 != .free || osc.names.lookup y.1 == some .cell) && (idx.length == N'.length) &&
    (idx.zip N').all fun p => match p.1 with | none => true | some i => (ON[i]? == some p.2) && (osc.names.lookup p.2 == some .cell) && (scope.names.lookup p.2 == some .free)
theorem compOk_of {X : Cx} {scope : Scope} {N' : List Str} {idx : List (Option Nat)} (h : compB X.env.scope scope X.N N' idx = true) : CompOk X scope N' idx := by
  unfold compB at h
  simp only [Bool.and_eq_true, List.all_eq_true] at h
  obtain ⟨⟨⟨⟨⟨h1, h2⟩, h3⟩, h4⟩, h5⟩, h6⟩ := h
  refine ⟨by simpa using h1, fun y hy => by simpa using h2 y hy, fun y hy e => ?_, fun y hy e => ?_, by simpa using h5, fun p hp i e => ?_⟩
  · have := h3 y hy
    rw [e] at this
    simpa using this
  · have := h4 y hy
    rw [e] at this
    show X.env.scope.names.lookup y.1 = some .cell
    simpa using this
  · have := h6 p hp
    rw [e] at this
    simp only [Bool.and_eq_true] at this
    obtain ⟨⟨g1, g2⟩, g3⟩ := this
    exact ⟨by simpa using g1, by show X.env.scope.names.lookup p.2 = some .cell; simpa using g2, by simpa using g3⟩

def CompW (J : It) (idx : List (Option Nat)) (g : TG) (tt : TT) (te : TE) (σ : L2.St) (H1 : Hp) (D : Addr) (Q : VK) : Prop :=
  ∃ W : Nat → Nat → L2.St → Hp → Prop, (∃ m, W 0 m (pick idx σ) (upd H1 D (.lst []))) ∧ ∀ i m σ2 H2, W i m σ2 H2 →
    (J.stop i H2 ∧ Q (.ref D) H2) ∨
    (J.go i H2 ∧ ∀ x H3, J.yld i H2 x H3 → g x σ2 H3 fun σ4 H4 => tt σ4 H4 fun b H5 =>
      if b = true then te σ4 H5 fun v H6 => ∃ ys, H6 D = some (.lst ys) ∧ ys.length < sizeLine ∧ ∃ m', m' < m ∧ W (i + 1) m' σ4 (upd H6 D (.lst (ys ++ [v])))
      else ∃ m', m' < m ∧ W (i + 1) m' σ4 H5)
def tComp (wi : TI) (idx : List (Option Nat)) (g : TG) (tt : TT) (te : TE) : TE := fun σ H Q => wi σ H fun J H1 => ∀ D, H1 D = none → CompW J idx g tt te σ H1 D Q

/-- the block's tests -/
def PTs (X : Cx) (ifs : List Expr) (t : TT) : Prop :=
  ∀ (pins : List (Addr × Obj)) (s : Shared) (σ : L2.St) (H : Hp) (Q : Bool → Hp → Prop), Inv X pins σ H s → t σ H Q →
    wpAny (model X.prog X.w) X.A (forIn ifs true fun c r => if r = true then do let ok ← isTrue c X.env (eval c X.env); pure (ForInStep.yield ok) else pure (ForInStep.yield r)) (TP X pins σ Q) X.xe s
theorem pts_one {X : Cx} {c : Expr} {t : TT} (h : PT X c t) : PTs X [c] t := fun pins s σ H Q I hw => wpAny_tests_one (h pins s σ H Q I hw)

theorem comp_loop {prog : Program} {w : World} {A : Around} {elt target iter : Expr} {ifs : List Expr} {scope : Scope} {pos : Pos} {it acc : Value} {env : Env} {R : Result → Shared → Prop} {s : Shared} (I : Nat → Shared → Prop)
    (turn : ∀ n s, I n s → wpAny (model prog w) A (pyNext it) (fun r s₁ => match r with
      | none => R (.ok .next) s₁
      | some v => wpAny (model prog w) A (letOwnedTupleGo target it v) (fun _ s₀ => wpAny (model prog w) A (assign target env v) (fun _ s₂ =>
          wpAny (model prog w) A (forIn ifs true fun c r => if r = true then do let ok ← isTrue c env (eval c env); pure (ForInStep.yield ok) else pure (ForInStep.yield r)) (fun ok s₃ =>
            if ok = true then wpAny (model prog w) A (eval elt env) (fun x s₄ =>
              wpAny (model prog w) A (call (.builtin "list.append") [acc, x]) (fun _ s₅ => ∃ m, m < n ∧ I m s₅) (fun _ _ => False) s₄) (fun _ _ => False) s₃
            else ∃ m, m < n ∧ I m s₃) (fun _ _ => False) s₂) (fun _ _ => False) s₀) (fun _ _ => False) s₁) (fun _ _ => False) s)
    (n : Nat) (h : I n s) : codeAny (model prog w) A (.compLoop (.ListComp elt [⟨target, iter, ifs, 0⟩] scope pos) 0 it acc env) R s := by
  refine codeAny_loop rfl I (fun n s hI => ?_) n h
  show wpAny _ A ((compTurn (.ListComp elt [⟨target, iter, ifs, 0⟩] scope pos) 0 it acc env).onRaise (fun x => do noteFrame x env; theTreesLotGoes x)) _ _ s
  refine wpAny_noted (wpAny_mono (E := fun _ _ => False) ?_ (fun _ _ q => q) fun _ _ z => z.elim)
  rw [compTurn_list]
  refine wpAny_bind (wpAny_standAt (wpAny_bind (wpAny_mono (turn n s hI) (fun r s₁ h₁ => ?_) fun _ _ h' => h')))
  cases r with
  | none => exact wpAny_pure h₁
  | some v =>
    refine wpAny_bind (wpAny_mono h₁ (fun _ s₀ h₀' => ?_) fun _ _ h' => h')
    refine wpAny_bind (wpAny_mono h₀' (fun _ s₂ h₂ => ?_) fun _ _ h' => h')
    refine wpAny_bind (wpAny_mono h₂ (fun ok s₃ h₃ => ?_) fun _ _ h' => h')
    cases ok with
    | false => exact wpAny_pure ⟨rfl, h₃⟩
    | true =>
      exact wpAny_bind (wpAny_bind (wpAny_mono h₃ (fun x s₄ h₄ => wpAny_bind (wpAny_mono h₄ (fun _ s₅ h₅ => wpAny_pure (wpAny_pure ⟨rfl, h₅⟩)) fun _ _ h' => h')) fun _ _ h' => h'))

section
variable {X : Cx} {elt tg iter : Expr} {ifs : List Expr} {scope : Scope} {pos : Pos} {N' : List Str} {idx : List (Option Nat)} {wi : TI} {g : TG} {tt : TT} {te : TE}

/-- the block's context stands -/
theorem comp_ok {pins : List (Addr × Obj)} {σ : L2.St} {H : Hp} {s : Shared} {C : Addr} {fp : List Addr} (S : CompOk X scope N' idx) (I : Inv X pins σ H s) (hC : s.heap.objs.size ≤ C) (hf : ∀ b ∈ fp, FpOk X pins H b) (hlt : ∀ b ∈ fp, b < s.heap.objs.size) (pn : List (Addr × Obj)) :
    (compCx X N' scope C s H fp pn).Ok := by
  have sub : ∀ x c, (clOf X.env scope.names []).lookup x = some c → X.env.cells.lookup x = some c := fun x c e => clOf_sub X.env scope.names [] (fun p hp => (nomatch hp)) (x, c) (PySem.mem_of_lookup e)
  have cne : ∀ x c, (clOf X.env scope.names []).lookup x = some c → c < s.heap.objs.size := fun x c e => by
    obtain ⟨v, q⟩ := I.cell x c (sub x c e)
    exact q.lt
  refine ⟨I.ok.mod, S.kind, I.ok.glob, I.ok.blt, hC, fun x y c h1 h2 => I.ok.inj x y c (sub _ _ h1) (sub _ _ h2), fun x hx => ?_, fun x c h _ => absurd h Bool.false_ne_true, I.ok.hd, I.ok.frames, .inl rfl, fun b hb => ⟨?_, fun x c e z => ?_⟩, I.bs, Nat.le_trans I.ok.bsz I.sz, fun b o e hb => ?_, fun b hb z => ?_, I.stack, I.stkFree⟩
  · have hx' : ((relabel scope X.env).names.lookup x = some .cell) ∨ ((relabel scope X.env).names.lookup x = some .free) := hx
    rw [relabel_names, relabel_lookup] at hx'
    have hfr : scope.names.lookup x = some .free := by
      cases q : scope.names.lookup x with
      | none => rw [q] at hx'; rcases hx' with z | z <;> cases z
      | some k =>
        rw [q] at hx'
        simp only [Option.map_some, Option.some.injEq] at hx'
        cases k with
        | free => rfl
        | cell => exact absurd rfl (S.cell _ (PySem.mem_of_lookup q))
        | _ => exfalso; rcases hx' with z | z <;> simp at z
    exact clOf_has X.env scope.names [] x hfr (I.ok.has x (.inl (S.free _ (PySem.mem_of_lookup hfr) rfl)))
  · exact Nat.ne_of_lt (Nat.lt_of_lt_of_le (hlt b hb) hC)
  · exact (hf b hb).2.2.2.2.1 x c (sub x c e) z
  · rcases (hf b hb).2.2.2.1 with z | z
    · exact I.ok.noex b o e z
    · exact absurd (Nat.lt_of_lt_of_le (Heap.lt_size (I.ok.bs b o e).1) z) (Nat.lt_irrefl _)
  · rcases List.mem_cons.mp (I.stkSub b z) with e | e
    · exact (hf b hb).2.1 e
    · exact (hf b hb).2.2.1 e

end
end BF
namespace BF
open PySem PySem.Spec PyProof.Rows L2

/-! A comprehension over n items, by what holds behind each turn. -/
theorem comp_n {J : It} {n : Nat} {idx : List (Option Nat)} {g : TG} {tt : TT} {te : TE} {σ : L2.St} {H1 : Hp} {D : Addr} {Q : VK} (Pv : Nat → L2.St → Hp → Prop)
    (h0 : Pv 0 (pick idx σ) (upd H1 D (.lst []))) (hgo : ∀ i σ2 H2, i < n → Pv i σ2 H2 → J.go i H2) (hstop : ∀ σ2 H2, Pv n σ2 H2 → J.stop n H2 ∧ Q (.ref D) H2)
    (hs : ∀ i σ2 H2, i < n → Pv i σ2 H2 → ∀ x H3, J.yld i H2 x H3 → g x σ2 H3 fun σ4 H4 => tt σ4 H4 fun b H5 =>
      if b = true then te σ4 H5 fun v H6 => ∃ ys, H6 D = some (.lst ys) ∧ ys.length < sizeLine ∧ Pv (i + 1) σ4 (upd H6 D (.lst (ys ++ [v]))) else Pv (i + 1) σ4 H5) :
    CompW J idx g tt te σ H1 D Q := by
  refine ⟨fun i m σ H => m = n - i ∧ i ≤ n ∧ Pv i σ H, ⟨n, by simp, Nat.zero_le _, h0⟩, ?_⟩
  rintro i m σ2 H2 ⟨rfl, hi, p⟩
  by_cases hlt : i < n
  · refine .inr ⟨hgo i σ2 H2 hlt p, fun x H3 y => ?_⟩
    have key : ∀ (σ' : L2.St) (H' : Hp), (∃ m', m' < n - i ∧ m' = n - (i + 1) ∧ i + 1 ≤ n ∧ Pv (i + 1) σ' H') = Pv (i + 1) σ' H' := fun σ' H' =>
      propext ⟨fun ⟨_, _, _, _, q⟩ => q, fun q => ⟨n - (i + 1), by omega, rfl, hlt, q⟩⟩
    simp only [key]
    exact hs i σ2 H2 hlt p x H3 y
  · have e : i = n := by omega
    subst e
    exact .inl (hstop σ2 H2 p)


/-! texts -/

/-! a small letter, a colour -/

/-! a <= b <= v, v written: one answer -/

theorem cmulR {i j : Int} (h1 : -(2 ^ 64) < j) (h2 : j < 2 ^ 64) : CMul i j := Or.inr ⟨h1, h2⟩
end BF
namespace BF
open PySem PySem.Spec PyProof.Rows L2

/-! Arguments that are no stars, by their kind: the argument itself is not looked into. -/
section
variable {rest : List Expr} {env : Env}
theorem se_name {x p} : starEach (.Name x p :: rest) env = (false, eval (.Name x p) env) :: starEach rest env := rfl
theorem se_const {c k p} : starEach (.Constant c k p :: rest) env = (false, eval (.Constant c k p) env) :: starEach rest env := rfl
theorem se_sub {a b p} : starEach (.Subscript a b p :: rest) env = (false, eval (.Subscript a b p) env) :: starEach rest env := rfl
theorem se_call {f a k p} : starEach (.Call f a k p :: rest) env = (false, eval (.Call f a k p) env) :: starEach rest env := rfl
theorem se_bin {a o b p} : starEach (.BinOp a o b p :: rest) env = (false, eval (.BinOp a o b p) env) :: starEach rest env := rfl
theorem se_tup {l k p} : starEach (.Tuple l k p :: rest) env = (false, eval (.Tuple l k p) env) :: starEach rest env := rfl
theorem se_list {l p} : starEach (.List l p :: rest) env = (false, eval (.List l p) env) :: starEach rest env := rfl
theorem se_comp {e g s p} : starEach (.ListComp e g s p :: rest) env = (false, eval (.ListComp e g s p) env) :: starEach rest env := rfl
theorem se_un {o a p} : starEach (.UnaryOp o a p :: rest) env = (false, eval (.UnaryOp o a p) env) :: starEach rest env := rfl
end
section
variable {X : Cx} {e : Expr} {es : List Expr} {te : TE} {t : TA} {pos : Pos}
theorem pac (ha : PE X e te) (hr : PA X es t) (hs : starEach (e :: es) X.env = (false, eval e X.env) :: starEach es X.env := by
    first | exact se_name | exact se_const | exact se_sub | exact se_call | exact se_bin | exact se_tup | exact se_list | exact se_dict | exact se_comp | exact se_attr | exact se_cmp | exact se_bool | exact se_un | exact se_if) :
    PA X (e :: es) (tCons te t) := pa_cons ha hr hs
variable {CX : CXT} {k : Nat} {f : Addr} {fd : FuncData} {ps : List Str} {sp : Sp} {dvs : List V} {ds : List Value} {E : XK} {x : Str} {p : Pos}
/-- a def's call; at most four arguments -/
theorem pec (F : FnOk X.prog X.w X.K X.mg X.base CX k f fd ps sp) (hr : Room k X.A) (hg : Gl X x) (hm : X.mg x = some (.ref f)) (hk : PySem.W.keepIn X.K (.ref f) = true) (hb : Binds X.K fd ps ds) (hd : Vals dvs ds) (hx : Passes CX X E)
    (ha : PA X (e :: es) t) (hdb : (x == ("__debug__" : Str)) = false := by decide)
    (he : starEach (e :: es) X.env = (false, eval e X.env) :: starEach es X.env := by
      first | exact se_name | exact se_const | exact se_sub | exact se_call | exact se_bin | exact se_tup | exact se_list | exact se_dict | exact se_comp | exact se_attr | exact se_cmp | exact se_bool | exact se_un | exact se_if)
    (hpl : (backTo pos (starEach es X.env)).any (·.1) = false := by rfl) : PE X (.Call (.Name x p) (e :: es) [] pos) (tCall sp dvs E t) := pe_call F hr hg hm hk hb hd hx ha hdb he hpl
end
end BF
namespace BF
open PySem PySem.Spec PyProof.Rows L2 PySem.SeqAt

/-! Data that is told: ints, texts, tuples of such; how it lies in the heap; equality. -/
inductive Dt where
  | int (i : Int)
  | str (x : Str)
  | tup (l : List Dt)
mutual
def Dt.beq : Dt → Dt → Bool
  | .int i, .int j => i == j
  | .str x, .str y => x == y
  | .tup l, .tup m => Dt.beqs l m
  | _, _ => false
def Dt.beqs : List Dt → List Dt → Bool
  | [], [] => true
  | a :: l, b :: m => Dt.beq a b && Dt.beqs l m
  | _, _ => false
end
mutual
theorem Dt.beq_iff : ∀ a b : Dt, Dt.beq a b = true ↔ a = b
  | .int i, .int j => by simp [Dt.beq]
  | .str x, .str y => by simp [Dt.beq]
  | .tup l, .tup m => by simp [Dt.beq, Dt.beqs_iff l m]
  | .int i, .str y => by simp [Dt.beq]
  | .int i, .tup m => by simp [Dt.beq]
  | .str x, .int j => by simp [Dt.beq]
  | .str x, .tup m => by simp [Dt.beq]
  | .tup l, .int j => by simp [Dt.beq]
  | .tup l, .str y => by simp [Dt.beq]
theorem Dt.beqs_iff : ∀ l m : List Dt, Dt.beqs l m = true ↔ l = m
  | [], [] => by simp [Dt.beqs]
  | a :: l, b :: m => by simp [Dt.beqs, Dt.beq_iff a b, Dt.beqs_iff l m]
  | [], b :: m => by simp [Dt.beqs]
  | a :: l, [] => by simp [Dt.beqs]
end
theorem Dt.beq_self (a : Dt) : Dt.beq a a = true := (Dt.beq_iff a a).mpr rfl
mutual
def Dt.dp : Dt → Nat
  | .int _ => 0
  | .str _ => 0
  | .tup l => Dt.dps l + 1
def Dt.dps : List Dt → Nat
  | [] => 0
  | a :: l => max (Dt.dp a) (Dt.dps l)
end
mutual
inductive DtIs (H : Hp) : V → Dt → Prop where
  | int (i : Int) : DtIs H (.int i) (.int i)
  | str (x : Str) : DtIs H (.str x) (.str x)
  | tup {a : Addr} {xs : List V} {ds : List Dt} (e : H a = some (.tup xs)) (h : DtsIs H xs ds) : DtIs H (.ref a) (.tup ds)
inductive DtsIs (H : Hp) : List V → List Dt → Prop where
  | nil : DtsIs H [] []
  | cons {v : V} {d : Dt} {vs : List V} {ds : List Dt} (h : DtIs H v d) (t : DtsIs H vs ds) : DtsIs H (v :: vs) (d :: ds)
end
mutual
theorem DtIs.inj {H : Hp} : ∀ {d : Dt} {v : V} {d' : Dt}, DtIs H v d → DtIs H v d' → d = d'
  | .int i, _, d', .int _, h => by cases h; rfl
  | .str x, _, d', .str _, h => by cases h; rfl
  | .tup ds, _, d', .tup e q, h => by
    cases h with
    | tup e2 q2 =>
      rw [e] at e2
      cases e2
      rw [DtsIs.inj q q2]
theorem DtsIs.inj {H : Hp} : ∀ {ds : List Dt} {vs : List V} {ds' : List Dt}, DtsIs H vs ds → DtsIs H vs ds' → ds = ds'
  | [], _, _, .nil, h => by cases h; rfl
  | d :: ds, _, _, .cons q t, h => by
    cases h with
    | cons q2 t2 => rw [DtIs.inj q q2, DtsIs.inj t t2]
end
mutual
theorem DtIs.same {H H' : Hp} (S : Same H H') : ∀ {d : Dt} {v : V}, DtIs H v d → DtIs H' v d
  | .int i, _, .int _ => .int i
  | .str x, _, .str _ => .str x
  | .tup ds, _, .tup e q => .tup (S _ _ e) (DtsIs.same S q)
theorem DtsIs.same {H H' : Hp} (S : Same H H') : ∀ {ds : List Dt} {vs : List V}, DtsIs H vs ds → DtsIs H' vs ds
  | [], _, .nil => .nil
  | d :: ds, _, .cons q t => .cons (DtIs.same S q) (DtsIs.same S t)
end
theorem DtsIs.length {H : Hp} : ∀ {ds : List Dt} {vs : List V}, DtsIs H vs ds → vs.length = ds.length
  | [], _, .nil => rfl
  | d :: ds, _, .cons q t => by rw [List.length_cons, List.length_cons, DtsIs.length t]

/-- item by item -/
def itEq (ds ds' : List Dt) (j : Nat) : Bool := match ds[j]?, ds'[j]? with
  | some a, some b => Dt.beq a b
  | _, _ => true
theorem all_itEq : ∀ ds ds' : List Dt, ((List.range (min ds.length ds'.length)).all (itEq ds ds') && ds.length == ds'.length) = Dt.beqs ds ds'
  | [], [] => rfl
  | [], b :: m => by simp [Dt.beqs]
  | a :: l, [] => by simp [Dt.beqs]
  | a :: l, b :: m => by
    have ih := all_itEq l m
    rw [List.length_cons, List.length_cons, Nat.succ_min_succ, List.range_succ_eq_map, List.all_cons, List.all_map]
    have e0 : itEq (a :: l) (b :: m) 0 = Dt.beq a b := rfl
    have e1 : (itEq (a :: l) (b :: m) ∘ Nat.succ) = itEq l m := by
      funext j
      simp [itEq]
    rw [e0, e1]
    show _ = (Dt.beq a b && Dt.beqs l m)
    rw [← ih, Bool.and_assoc]
    simp

section
variable {X : Cx} {pins : List (Addr × Obj)} {σ : L2.St} {H : Hp} {s : Shared}
theorem dp_at : ∀ {ds : List Dt} {j : Nat} {d : Dt}, ds[j]? = some d → d.dp ≤ Dt.dps ds
  | [], j, d, e => by simp at e
  | a :: l, 0, d, e => by
    have e' := Option.some.inj e
    subst e'
    simp only [Dt.dps]
    omega
  | a :: l, j + 1, d, e => by
    have := dp_at (ds := l) (j := j) (d := d) (by simpa using e)
    simp only [Dt.dps]
    omega
theorem rel_at : ∀ {ds : List Dt} {vs : List V} {us : List Value}, DtsIs H vs ds → Vals vs us → ∀ {j : Nat} {u : Value}, us[j]? = some u → ∃ v d, ds[j]? = some d ∧ DtIs H v d ∧ RelV v u
  | _, _, _, .nil, .nil, j, u, e => by simp at e
  | _, _, _, .cons h t, .cons r rs, 0, u, e => by
    have e' := Option.some.inj e
    subst e'
    exact ⟨_, _, rfl, h, r⟩
  | _, _, _, .cons h t, .cons r rs, j + 1, u, e => by
    obtain ⟨v, d, a, b, c⟩ := rel_at t rs (j := j) (u := u) (by simpa using e)
    exact ⟨v, d, by simpa using a, b, c⟩
theorem eqAt_n (I : Inv X pins σ H s) (n : Nat) : ∀ {d d' : Dt} {v v' : V} {u u' : Value} (A : Around), d.dp ≤ n → DtIs H v d → RelV v u → DtIs H v' d' → RelV v' u' → A.units + n < cLine → EqAt A s u u' (Dt.beq d d') := by
  induction n with
  | zero =>
    intro d d' v v' u u' A hn h r h' r' hu
    cases h with
    | int i =>
      obtain ⟨t, rfl⟩ := r
      cases h' with
      | int j => obtain ⟨t', rfl⟩ := r'; exact EqAt.int_int i t j t'
      | str y => obtain ⟨t', rfl⟩ := r'; exact EqAt.int_str i t y t'
      | tup e q => cases r'; obtain ⟨its, _, p, _⟩ := I.tuple (SqT.of e); exact EqAt.int_tuple i t p hu
    | str x =>
      obtain ⟨t, rfl⟩ := r
      cases h' with
      | int j => obtain ⟨t', rfl⟩ := r'; exact EqAt.str_int x t j t'
      | str y => obtain ⟨t', rfl⟩ := r'; exact EqAt.str_str x t y t'
      | tup e q => cases r'; obtain ⟨its, _, p, _⟩ := I.tuple (SqT.of e); exact EqAt.str_tuple x t p hu
    | tup e q => simp only [Dt.dp] at hn; omega
  | succ n ih =>
    intro d d' v v' u u' A hn h r h' r' hu
    by_cases h0 : d.dp ≤ n
    · exact ih A h0 h r h' r' (by omega)
    cases h with
    | int i => simp only [Dt.dp] at h0; omega
    | str x => simp only [Dt.dp] at h0; omega
    | @tup a xs l e q =>
      cases r
      cases h' with
      | int j => obtain ⟨t', rfl⟩ := r'; obtain ⟨its, _, p, _⟩ := I.tuple (SqT.of e); exact EqAt.tuple_int j t' p (by omega)
      | str y => obtain ⟨t', rfl⟩ := r'; obtain ⟨its, _, p, _⟩ := I.tuple (SqT.of e); exact EqAt.tuple_str y t' p (by omega)
      | @tup b ys m e' q' =>
        cases r'
        by_cases hab : a = b
        · subst hab
          have z := DtIs.inj (DtIs.tup e q) (DtIs.tup e' q')
          rw [z, Dt.beq_self]
          exact EqAt.same _
        · obtain ⟨its, rv, p, _⟩ := I.tuple (SqT.of e)
          obtain ⟨its', rv', p', _⟩ := I.tuple (SqT.of e')
          have n1 : its.toArray.size = l.length := by rw [List.size_toArray, ← rv.length, q.length]
          have n2 : its'.toArray.size = m.length := by rw [List.size_toArray, ← rv'.length, q'.length]
          simp only [Dt.dp] at hn
          have R := RcAt.tuples (A := A) (s := s) (e := itEq l m) p p' (by omega) (fun j h1 h2 => by
            obtain ⟨v1, d1, a1, b1, c1⟩ := rel_at q rv (j := j) (u := its.toArray[j]) (by simp)
            obtain ⟨v2, d2, a2, b2, c2⟩ := rel_at q' rv' (j := j) (u := its'.toArray[j]) (by simp)
            have z : itEq l m j = Dt.beq d1 d2 := by unfold itEq; rw [a1, a2]
            rw [z]
            exact ih A.in1 (by have := dp_at a1; omega) b1 c1 b2 c2 (by show A.units + 1 + _ < _; omega))
          rw [n1, n2, all_itEq] at R
          exact EqAt.of_refs hab R
theorem eqsAt_D (I : Inv X pins σ H s) {ds ds' : List Dt} {vs vs' : List V} {us us' : List Value} (A : Around) (q : DtsIs H vs ds) (rv : Vals vs us) (q' : DtsIs H vs' ds') (rv' : Vals vs' us') (hu : A.units + Dt.dps ds < cLine)
    (j : Nat) (u u' : Value) (e : us[j]? = some u) (e' : us'[j]? = some u') : EqAt A s u u' (itEq ds ds' j) := by
  obtain ⟨v1, d1, a1, b1, c1⟩ := rel_at q rv e
  obtain ⟨v2, d2, a2, b2, c2⟩ := rel_at q' rv' e'
  have z : itEq ds ds' j = Dt.beq d1 d2 := by unfold itEq; rw [a1, a2]
  rw [z]
  exact eqAt_n I _ A (dp_at a1) b1 c1 b2 c2 hu
theorem op_neD {k : Nat} (hr : Room k X.A) : OpR X (compareOp .NotEq) (fun x y H Q => ∃ d d', DtIs H x d ∧ DtIs H y d' ∧ d.dp ≤ 60 ∧ (∃ l, d = .tup l) ∧ (∃ l, d' = .tup l) ∧ Q (.bl (!Dt.beq d d')) H) := by
  intro pins s σ H x y v u Q I rx ry h
  obtain ⟨d, d', hd, hd', h60, ⟨l, rfl⟩, ⟨m, rfl⟩, q⟩ := h
  have hu := hr.units
  cases hd with
  | @tup a xs _ e h1 =>
    cases hd' with
    | @tup b ys _ e' h2 =>
      cases rx
      cases ry
      obtain ⟨its, rv, p, _⟩ := I.tuple (SqT.of e)
      obtain ⟨its', rv', p', _⟩ := I.tuple (SqT.of e')
      have n1 : its.toArray.size = l.length := by rw [List.size_toArray, ← rv.length, h1.length]
      have n2 : its'.toArray.size = m.length := by rw [List.size_toArray, ← rv'.length, h2.length]
      have hd : Dt.dps l + 1 ≤ 60 := by simpa only [Dt.dp] using h60
      have R := RcNeAt.tuples (A := X.A) (s := s) (e := itEq l m) p p' (by omega) (fun j j1 j2 => eqsAt_D I X.A.in1 h1 rv h2 rv' (by show X.A.units + 1 + _ < _; omega) j _ _ (by simp) (by simp))
      rw [n1, n2, all_itEq] at R
      exact R X.prog X.w X.xe _ ⟨.bl _, H, I, rfl, q⟩
end
end BF
namespace BF
open PySem

/-! An exception in the air: its class, that it has no context, its trace; B: all that stands as it was; l: the frames that run. -/
def Trc (B : Heap) (e : Addr) (fl : Value) (vs : Array Value) (h : Heap) : Prop :=
  vs[1]? = some .none ∨ ∃ T oT ts, vs[1]? = some (.ref T) ∧ B.get? T = none ∧ T ≠ e ∧ h.get? T = some oT ∧ oT.data = .fields ts ∧ ts[3]? = some fl
structure Air (B : Heap) (l : List Env) (e : Addr) (cls fl : Value) (h : Heap) : Prop where
  stays : B.StaysIn h
  new : B.get? e = none
  fr : h.FunFrames B l
  obj : ∃ oe vs, h.get? e = some oe ∧ oe.cls = cls ∧ oe.dict = none ∧ oe.data = .fields vs ∧ 2 < vs.size ∧ vs[2]? = some .none ∧ Trc B e fl vs h

theorem mapFields_dict (f : Array Value → Array Value) (o : Obj) : (Obj.mapFields f o).dict = o.dict := by
  obtain ⟨c, d, dt, sl⟩ := o
  cases dt <;> rfl

section
variable {M : Model} {A : Around} {E : Value → Shared → Prop} {s : Shared}
/-- a new entry of the trace -/
theorem air_entry {B : Heap} {env : Env} {outer : List Env} {L e : Addr} {cls head : Value} {had : Bool} {oe : Obj} {vs : Array Value} {Q : Unit → Shared → Prop}
    (hfr : A.frames = some (env :: outer)) (hf : env.frame = some L) (hB : B.StaysIn s.heap) (hn : B.get? e = none) (hl : s.heap.FunFrames B (env :: outer))
    (he : s.heap.get? e = some oe) (hc : oe.cls = cls) (hdi : oe.dict = none) (hd : oe.data = .fields vs) (hz : 2 < vs.size) (h2 : vs[2]? = some .none)
    (hQ : ∀ h', Air B (env :: outer) e cls (rawInt L) h' → s.heap.UpToSlots h' → Q () { s with heap := h' }) :
    wpAny M A (do let a ← frameOf env; let pl ← entryPlaceOf L had; let b ← EntryCells.newEntry head a .none (rawInt L) .none pl; setField (.ref e) 1 b) Q E s := by
  have hne : e ∉ (env :: outer).filterMap (·.frame) := fun z => by
    obtain ⟨_, o, ho, k⟩ := hl.mem z
    rw [he] at ho
    cases ho
    exact k vs hd
  refine wpAny_bind (wpAny_frameOf_fun hfr hl hf fun h1 so => ?_)
  refine wpAny_bind (wpAny_entryPlaceOf fun pl ip => ?_)
  unfold EntryCells.newEntry newFields
  refine wpAny_bind (wpAny_newObj_type ?_ (ip.sizeOk5 _ _ _ _ _))
  have e1 : h1.get? e = some oe := (so.2.1 e hne).trans he
  have B1 : B.StaysIn h1 := fun b o q => (so.2.1 b fun z => by rw [(hl.mem z).1] at q; cases q).trans (hB b o q)
  generalize htb : ({ cls := .type "traceback", dict := none, data := .fields ([head, .ref L, .none, rawInt L, .none] ++ (if pl.isEmpty then List.replicate 6 Value.none else pl)).toArray } : Obj) = tb
  have tbd : tb.data = .fields ([head, .ref L, .none, rawInt L, .none] ++ (if pl.isEmpty then List.replicate 6 Value.none else pl)).toArray := by rw [← htb]
  have e2 : (h1.push tb).get? e = some oe := Heap.get?_push_of_some _ e1
  refine wpAny_setField e2 hd (by omega) (hQ _ ?_ ?_)
  · have ne : h1.objs.size ≠ e := Nat.ne_of_gt (Heap.lt_size e1)
    have d3 := Obj.data_mapFields hd (·.setIfInBounds 1 (Value.ref h1.objs.size))
    have e3 := Heap.get?_update_self (Obj.mapFields (·.setIfInBounds 1 (Value.ref h1.objs.size))) e2 (Obj.isFreed_of_fields d3)
    have other : ∀ b o, b ≠ e → h1.get? b = some o → ((h1.push tb).update e (Obj.mapFields (·.setIfInBounds 1 (Value.ref h1.objs.size)))).get? b = some o := fun b o hb q => by
      rw [Heap.get?_update_other _ _ (Ne.symm hb)]
      exact Heap.get?_push_of_some _ q
    refine ⟨fun b o q => other b o (fun z => by rw [z, hn] at q; cases q) (B1 b o q), hn, hl.of_keeps fun b o q k => ?_, _, _, e3, (Obj.cls_mapFields _ _).trans hc, (mapFields_dict _ _).trans hdi, d3, by simpa using hz, ?_, .inr ⟨h1.objs.size, tb, _, ?_, B1.fresh, ne, ?_, tbd, ?_⟩⟩
    · obtain ⟨sl, q1⟩ := so.2.2 b o q
      exact ⟨_, other b _ (fun z => by rw [z, he] at q; cases q; exact k vs hd) q1, rfl⟩
    · rw [Array.getElem?_setIfInBounds_ne (by decide)]; exact h2
    · simp [show 1 < vs.size by omega]
    · rw [Heap.get?_update_other _ _ (Ne.symm ne)]
      exact Heap.get?_push_size _ (by rw [← htb]; rfl)
    · simp
  · intro b o q k
    obtain ⟨sl, q1⟩ := so.2.2 b o q
    refine ⟨sl, ?_⟩
    rw [Heap.get?_update_other _ _ (fun z => by rw [← z, he] at q; cases q; exact k vs hd)]
    exact Heap.get?_push_of_some _ q1

theorem air_note {B : Heap} {env : Env} {outer : List Env} {L e : Addr} {cls : Value} {Q : Unit → Shared → Prop} (hfr : A.frames = some (env :: outer)) (hf : env.frame = some L)
    (a : Air B (env :: outer) e cls .none s.heap) (hQ : ∀ h', Air B (env :: outer) e cls (rawInt L) h' → s.heap.UpToSlots h' → Q () { s with heap := h' }) : wpAny M A (noteFrame (.ref e) env) Q E s := by
  obtain ⟨hB, hn, hl, oe, vs, he, hc, hdi, hd, hz, h2, tr⟩ := a
  unfold noteFrame
  simp only [hf]
  rcases tr with h1 | ⟨T, oT, ts, h1, nT, neT, hT, dT, h3⟩
  · refine wpAny_bind (wpAny_field he hd h1 ?_)
    rw [if_neg (by decide)]
    exact air_entry hfr hf hB hn hl he hc hdi hd hz h2 hQ
  · refine wpAny_bind (wpAny_field he hd h1 ?_)
    rw [if_pos (by simp : (Value.ref T != Value.none) = true)]
    refine wpAny_bind (wpAny_field hT dT h3 ?_)
    rw [if_neg (by simp [rawInt] : ¬ ((Value.none == rawInt L) = true))]
    have zT : 3 < ts.size := (Array.getElem?_eq_some_iff.mp h3).1
    refine wpAny_bind (wpAny_setField hT dT zT ?_)
    have other : ∀ b, b ≠ T → (s.heap.update T (Obj.mapFields (·.setIfInBounds 3 Value.none))).get? b = s.heap.get? b := fun b hb => Heap.get?_update_other _ _ (Ne.symm hb)
    have rcd : ∀ b o, s.heap.get? b = some o → (∀ ws, o.data ≠ .fields ws) → b ≠ T := fun b o q k z => by
      rw [z, hT] at q
      cases q
      exact k ts dT
    refine air_entry (s := { s with heap := s.heap.update T (Obj.mapFields (·.setIfInBounds 3 Value.none)) }) hfr hf (fun b o q => (other b fun z => by rw [z, nT] at q; cases q).trans (hB b o q)) hn
      (hl.of_keeps fun b o q k => ⟨o, (other b (rcd b o q k)).trans q, rfl⟩) ((other e (Ne.symm neT)).trans he) hc hdi hd hz h2 fun h' x1 x2 => hQ h' x1 fun b o q k => x2 b o ((other b (rcd b o q k)).trans q) k

theorem air_land {B : Heap} {l : List Env} {e : Addr} {cls fl : Value} {Q : Unit → Shared → Prop} (a : Air B l e cls fl s.heap)
    (hQ : ∀ h', Air B l e cls .none h' → s.heap.UpToSlots h' → Q () { s with heap := h' }) : wpAny M A (setFlight (.ref e) none) Q E s := by
  obtain ⟨hB, hn, hl, oe, vs, he, hc, hdi, hd, hz, h2, tr⟩ := a
  unfold setFlight
  rcases tr with h1 | ⟨T, oT, ts, h1, nT, neT, hT, dT, h3⟩
  · refine wpAny_bind (wpAny_field he hd h1 ?_)
    rw [if_neg (by decide)]
    exact wpAny_pure (hQ s.heap ⟨hB, hn, hl, oe, vs, he, hc, hdi, hd, hz, h2, .inl h1⟩ (.refl _))
  · refine wpAny_bind (wpAny_field he hd h1 ?_)
    rw [if_pos (by simp : (Value.ref T != Value.none) = true)]
    have zT : 3 < ts.size := (Array.getElem?_eq_some_iff.mp h3).1
    have other : ∀ (v : Value) b, b ≠ T → (s.heap.update T (Obj.mapFields (·.setIfInBounds 3 v))).get? b = s.heap.get? b := fun v b hb => Heap.get?_update_other _ _ (Ne.symm hb)
    have rcd : ∀ b o, s.heap.get? b = some o → (∀ ws, o.data ≠ .fields ws) → b ≠ T := fun b o q k z => by
      rw [z, hT] at q
      cases q
      exact k ts dT
    refine wpAny_setField hT dT zT (hQ _ ⟨fun b o q => (other _ b fun z => by rw [z, nT] at q; cases q).trans (hB b o q), hn, hl.of_keeps fun b o q k => ⟨o, (other _ b (rcd b o q k)).trans q, rfl⟩,
      oe, vs, (other _ e (Ne.symm neT)).trans he, hc, hdi, hd, hz, h2, .inr ⟨T, _, _, h1, nT, neT, Heap.get?_update_self _ hT (Obj.isFreed_of_fields (Obj.data_mapFields dT _)), Obj.data_mapFields dT _, by simp [zT]⟩⟩
      fun b o q k => ⟨o.slots, (other _ b (rcd b o q k)).trans q⟩)
theorem air_leave {B : Heap} {env : Env} {outer : List Env} {L e : Addr} {cls : Value} {Q : Unit → Shared → Prop} (hfr : A.frames = some (env :: outer)) (hf : env.frame = some L)
    (a : Air B (env :: outer) e cls .none s.heap) (hQ : ∀ h', Air B outer e cls .none h' → s.heap.UpToSlots h' → Q () { s with heap := h' }) : wpAny M A (leaving env (.ref e)) Q E s := by
  unfold leaving
  refine wpAny_bind (air_note hfr hf a fun h1 a1 u1 => ?_)
  refine air_land a1 fun h2 a2 u2 => hQ h2 ⟨a2.stays, a2.new, a2.fr.2.2, a2.obj⟩ (u1.trans u2)
theorem air_made {B h h' : Heap} {l : List Env} {e : Addr} {cls : Value} {args : List Value} (hB : B.StaysIn h) (hl : h.FunFrames B l) (hx : Heap.MadeExcOf h h' e cls args) : Air B l e cls .none h' := by
  obtain ⟨t, he, _, _⟩ := hx.there
  refine ⟨fun b o q => hx.keeps b o (hB b o q), ?_, hl.of_keeps fun b o q _ => ⟨o, hx.keeps b o q, rfl⟩, _, _, he, rfl, rfl, rfl, by simp, by simp, .inl (by simp)⟩
  cases q : B.get? e with
  | none => rfl
  | some o =>
    have := hB e o q
    rw [hx.new] at this
    cases this
end
end BF
namespace BF
open PySem

/-! The end of a list's walk while an exception is handled: the walk's own StopIteration gets it as its context. -/
theorem entry_unchain : entryFor table "proto.unchain" = some Builtin.«proto.unchain» := entryFor_of_tree (by kernel_rfl)
section
variable {prog : Program} {w : World} {A : Around} {E : Value → Shared → Prop} {s : Shared}
theorem unchain_none {a x : Addr} {ox : Obj} {vs : Array Value} {Q : Value → Shared → Prop} (hx : s.heap.get? x = some ox) (hd : ox.data = .fields vs) (h2 : vs[2]? = some .none) (hQ : Q .none s) :
    wpAny (model prog w) A (runValue (.builtin "proto.unchain" ⟨[.ref a, .ref x, .ref x, .bool false], []⟩)) Q E s := by
  refine wpAny_runValue (codeAny_builtin entry_unchain ?_)
  unfold Builtin.«proto.unchain»
  refine wpAny_bind (wpAny_field hx hd h2 ?_)
  rw [if_pos (by decide)]
  exact wpAny_pure hQ

theorem next_end_h {it l x : Addr} {i : Nat} {items : Array Value} {ox : Obj} {vs : Array Value} {Q : Option Value → Shared → Prop} (hh : A.handled = some (.ref x)) (hx : s.heap.get? x = some ox) (hdx : ox.data = .fields vs) (h2 : vs[2]? = some .none)
    (li : s.heap.IsListIter it l i) (ls : s.heap.IsList l items) (hend : items[i]? = none) (hQ : ∀ h', Heap.ExtBut it s.heap h' → Q none { s with heap := h' }) : wpAny (model prog w) A (pyNext (.ref it)) Q E s := by
  obtain ⟨oi, gi, ci, di⟩ := id li
  obtain ⟨ol, gl, _, nl, dl⟩ := ls
  have nx : x ≠ it := fun z => by
    subst z
    rw [hx] at gi
    cases gi
    rw [hdx] at di
    cases di
    simp at h2
  unfold pyNext
  refine wpAny_bind (wpAny_attempt (wpAny_callSpecial?_slot (name := Str.ofString "__next__") li.typeIs slot_listiter_next (wpAny_call_entry slot_listiter_next li.typeIs entry_listiter_next ?_ (args_listiter_next _))))
  refine wpAny_bind (m := field (.ref it) 0) (wpAny_field gi di (x := .ref l) rfl ?_)
  rw [if_neg (by simp : ¬ ((Value.ref l == Value.none) = true))]
  refine wpAny_bind (m := field (.ref it) 1) (wpAny_field gi di (x := .int i 0) rfl ?_)
  refine wpAny_bind (m := seqItems? (.ref l)) (wpAny_seqItems gl dl ?_)
  simp only [Int.toNat_natCast, hend]
  refine wpAny_bind (wpAny_rule (wpAny_bind (wpAny_setField gi di (by simp) ?_)))
  have x1 : (s.heap.update it (Obj.mapFields (·.setIfInBounds 0 Value.none))).get? x = some ox := (Heap.get?_update_other _ _ (Ne.symm nx)).trans hx
  have k1 : Heap.ExtBut it s.heap (s.heap.update it (Obj.mapFields (·.setIfInBounds 0 Value.none))) := (Heap.SameBut.update ..).extBut
  generalize hH : s.heap.update it (Obj.mapFields (·.setIfInBounds 0 Value.none)) = h1 at x1 k1 ⊢
  refine wpAny_bind (m := newExc (.type "StopIteration") []) ?_
  simp only [newExc, newTuple]
  refine wpAny_bind (wpAny_newObj_type ?_ (by size_fits))
  refine wpAny_bind (m := firstArgMember _ _) (wpAny_of_eq (a := Value.none) (by first | rfl | (simp only [firstArgMember]; rfl)) ?_)
  refine wpAny_newObj_type ?_ (by size_fits)
  simp only [raiseNew]
  refine wpAny_bind (wpAny_handled ?_)
  have hh' : A.in1.handled = some (.ref x) := hh
  rw [hh']
  dsimp only
  have x2 : (h1.push { cls := .type "tuple", data := .seq #[] }).get? x = some ox := Heap.get?_push_of_some _ x1
  have k2 : Heap.ExtBut it s.heap (h1.push { cls := .type "tuple", data := .seq #[] }) := k1.push _
  generalize h1.push { cls := Value.type "tuple", data := Data.seq #[] } = h3 at x2 k2 ⊢
  have na : x ≠ h3.objs.size := Nat.ne_of_lt (Heap.lt_size x2)
  rw [if_pos (by simpa using na : (Value.ref x != Value.ref h3.objs.size) = true)]
  generalize hst : ({ cls := Value.type "StopIteration", data := Data.fields (#[Value.ref h1.objs.size, Value.none, Value.none, Value.none, Value.bool false, Value.none] ++ ownMembersOf (Value.type "StopIteration") []) } : Obj) = st
  have x3 : (h3.push st).get? x = some ox := Heap.get?_push_of_some _ x2
  have k3 : Heap.ExtBut it s.heap (h3.push st) := k2.push _
  have g3 : (h3.push st).get? h3.objs.size = some st := Heap.get?_push_size _ (by rw [← hst]; rfl)
  have d3 : st.data = Data.fields (#[Value.ref h1.objs.size, Value.none, Value.none, Value.none, Value.bool false, Value.none] ++ ownMembersOf (Value.type "StopIteration") []) := by rw [← hst]
  refine wpAny_bind (wpAny_holding (unchain_none x3 hdx h2 ?_))
  refine wpAny_bind (m := setField (.ref h3.objs.size) 2 (.ref x)) (wpAny_setField g3 d3 (by rw [Array.size_append]; exact Nat.lt_of_lt_of_le (by decide : 2 < 6) (Nat.le_add_right _ _)) (wpAny_throw ?_))
  have g4 := Heap.get?_update_self (Obj.mapFields (·.setIfInBounds 2 (Value.ref x))) g3 (Obj.isFreed_of_fields (Obj.data_mapFields d3 _))
  refine wpAny_bind (wpAny_isInstance (T := "StopIteration") (b := true) ⟨_, g4, by rw [Obj.cls_mapFields, ← hst]⟩ isSubtype_stop ?_)
  refine wpAny_pure (hQ _ ?_)
  intro b o hb q
  have q2 := k2 b o hb q
  rw [Heap.get?_update_other _ _ (Nat.ne_of_gt (Heap.lt_size q2))]
  exact Heap.get?_push_of_some _ q2
end
end BF
namespace BF
open PySem PySem.Spec PyProof.Rows L2

/-! How an exception lies behind a call: the air's heap B holds all but the frames, the tracked things stand in it. -/
structure Flew (P : Program) (w : World) (l : List Env) (H H' : Hp) (x : Addr) (cls : Value) (h h' B : Heap) : Prop where
  air : Air B l x cls .none h'
  hok : HOk P w H' B
  keep : ∀ b o, h.get? b = some o → H b = none → b ∉ frs l → B.get? b = some o
  there : ∀ b o, h.get? b = some o → b ∉ frs l → ∃ o', B.get? b = some o'
  slot : ∀ b o, h.get? b = some o → H b = none → b ∈ frs l → ∃ sl, h'.get? b = some { o with slots := sl }
  free : ∀ b o, h.get? b = some o → H b = none → H' b = none
  tups : ∀ b xs, H b = some (.tup xs) → H' b = some (.tup xs)
  frzs : ∀ b o u, H b = some (.frz o u) → H' b = some (.frz o u)
  tbls : ∀ b ps, H b = some (.tbl ps) → ∃ more, H' b = some (.tbl (ps ++ more))
def CXE (P : Program) (w : World) : CXT := fun outer H s E e s' => ∃ x cls H' B, e = .ref x ∧ s'.os = s.os ∧ AllBare s'.gens ∧ Flew P w outer H H' x cls s.heap s'.heap B ∧ E cls none H'

theorem Flew.un {P : Program} {w : World} {l : List Env} {H H' : Hp} {x : Addr} {cls fl : Value} {h h' h6 B : Heap} (F : Flew P w l H H' x cls h h' B) (frf : ∀ b ∈ frs l, H b = none) (a6 : Air B l x cls fl h6) (u : h'.UpToSlots h6) :
    Un (frs l) [] H H' h h6 := by
  have sl : ∀ b o, h.get? b = some o → H b = none → b ∈ frs l → ∃ sl, h6.get? b = some { o with slots := sl } := fun b o q n hb => by
    obtain ⟨s1, q1⟩ := F.slot b o q n hb
    obtain ⟨_, o', q2, k⟩ := F.air.fr.mem hb
    rw [q1] at q2
    cases q2
    obtain ⟨s2, q3⟩ := u b _ q1 k
    exact ⟨s2, q3⟩
  refine ⟨fun b o q n hb _ => a6.stays b o (F.keep b o q n hb), fun b o q n hb _ => sl b o q n hb, fun b o q n _ => F.free b o q n, fun b o q _ => ?_, F.tups, F.frzs, F.tbls⟩
  by_cases hb : b ∈ frs l
  · obtain ⟨s2, q3⟩ := sl b o q (frf b hb) hb
    exact ⟨_, q3⟩
  · obtain ⟨o', q3⟩ := F.there b o q hb
    exact ⟨o', a6.stays b o' q3⟩
theorem Flew.ok {P : Program} {w : World} {l : List Env} {H H' : Hp} {x : Addr} {cls fl : Value} {h h' h6 B : Heap} (F : Flew P w l H H' x cls h h' B) (a6 : Air B l x cls fl h6) : HOk P w H' h6 := F.hok.kept a6.stays

/-! raise -/
theorem exc_of {K : PySem.W.Frag} {C : Addr} {bmB : List Value} {newId : String} (q : PySem.W.excIn K C bmB newId = true) {h : Heap} (X : K.In h) :
    ∃ nm qn N bs bm hdct sn sub ab col dd k0 k1 k2 k3 k5 mN, h.get? C = some (excClassObj nm qn C N bs bm hdct sn sub ab col dd k0 k1 k2 k3 k5 newId) ∧ h.Ns N mN ∧ mN "__init__" = none ∧ OwnTail h bmB bm := by
  unfold PySem.W.excIn at q
  split at q
  · rename_i dd cd sl ho
    split at q
    · rename_i C' bm j0 j1 j2 j3 n j5 hm hs
      simp only [Bool.and_eq_true, beq_iff_eq, Bool.not_eq_true'] at q
      obtain ⟨⟨⟨⟨⟨rfl, rfl⟩, hdel⟩, ht⟩, hk⟩, hni⟩ := q
      obtain ⟨nm, bs, mro, ns, qn, hd, sn, sub, ab, col, del⟩ := cd
      dsimp only at hm hdel hk hni
      subst hm hdel
      obtain ⟨l⟩ := sl
      simp only at hs
      subst hs
      exact ⟨nm, qn, ns, bs, bm, hd, sn, sub, ab, col, dd, j0, j1, j2, j3, j5, _, X _ _ ho, .of_isNs (PySem.W.isNs_of_in X hk), PySem.W.nsMap_none_of_in X hk hni, PySem.W.tail_of_in X ht⟩
    · cases q
  · cases q

section
variable {P : Program} {w : World} {K : PySem.W.Frag} {mg : Str → Option Value} {base : Heap} {N : List Str} {qual : Str} {scope : Scope} {f : Addr} {cdv : Value} {A : Around} {outer : List Env} {s : Shared} {H : Hp} {E : XK}
/-- an exception made in a def's body leaves it -/
theorem leave_made {pins : List (Addr × Obj)} {σ : L2.St} {H2 : Hp} {s2 : Shared} {h' : Heap} {x : Addr} {cls : Value} {args : List Value}
    (I : Inv (cxOf (CXE P w) P w K mg base N qual scope f cdv A outer s H E) pins σ H2 s2) (hx : Heap.MadeExcOf s2.heap h' x cls args) (hE : E cls none H2) :
    (cxOf (CXE P w) P w K mg base N qual scope f cdv A outer s H E).xe (.ref x) { s2 with heap := h' } := by
  generalize hY : cxOf (CXE P w) P w K mg base N qual scope f cdv A outer s H E = Y at I
  have e1 : Y.stack = envOfC qual scope s.heap.objs.size f cdv :: outer := by rw [← hY]; rfl
  have e2 : Y.fs = frs outer := by rw [← hY]; rfl
  have e3 : Y.ex = [] := by rw [← hY]; rfl
  have e4 : Y.s₀ = s := by rw [← hY]; rfl
  have e5 : Y.H₀ = H := by rw [← hY]; rfl
  have e6 : Y.env = envOfC qual scope s.heap.objs.size f cdv := by rw [← hY]; rfl
  have e7 : Y.prog = P := by rw [← hY]; rfl
  have e8 : Y.w = w := by rw [← hY]; rfl
  have fr := I.stack
  have sf := I.stkFree
  have hb := I.base
  have hfr := I.ok.frames
  have ab := I.ok.above
  have os := I.os
  have hk := I.hok
  rw [e1] at fr sf hfr
  rw [e2, e3, e4, e5] at hb
  rw [e4] at ab os
  rw [e6] at ab
  rw [e7, e8] at hk
  have hin : ∀ b, b ∈ frs (envOfC qual scope s.heap.objs.size f cdv :: outer) → H2 b = none := sf
  have inB : ∀ b o, s2.heap.get? b = some o → b ∉ frs (envOfC qual scope s.heap.objs.size f cdv :: outer) → (PySem.W.hideAll s2.heap (frs (envOfC qual scope s.heap.objs.size f cdv :: outer))).get? b = some o := fun b o q n => PySem.W.hideAll_get _ q n
  have old : ∀ b o, s.heap.get? b = some o → b ∉ frs outer → b ∉ frs (envOfC qual scope s.heap.objs.size f cdv :: outer) := fun b o q n z => by
    rcases List.mem_cons.mp (show b ∈ s.heap.objs.size :: frs outer from z) with z | z
    · exact absurd (Heap.lt_size q) (by rw [z]; exact Nat.lt_irrefl _)
    · exact n z
  have a0 := air_made (fun b o q => PySem.W.of_hideAll _ q) (PySem.W.funFrames_hide fr fun env he a ha => List.mem_filterMap.mpr ⟨env, he, ha⟩) hx
  subst hY
  refine air_leave (s := { s2 with heap := h' }) (L := s.heap.objs.size) hfr rfl a0 fun h3 a3 u3 => ?_
  refine ⟨x, cls, H2, _, rfl, os, I.bare, ⟨a3, fun b o q => ?_, fun b o q n hn => ?_, fun b o q hn => ?_, fun b o q n hn => ?_, fun b o q n => hb.free b o q n (by simp), hb.tups, hb.frzs, hb.tbls⟩, hE⟩
  · refine (hk b o q).stay (fun c u hc qc => inB c u qc fun z => ?_) (fun _ z => z) fun _ _ z => z
    have := hin c z
    rcases hc with e | e
    · rw [e] at this; rw [this] at q; cases q
    · rw [this] at e; cases e
  · exact inB b o (hb.keep b o q n hn (by simp)) (old b o q hn)
  · obtain ⟨o', q'⟩ := hb.there b o q (by simp)
    exact ⟨o', inB b o' q' (old b o q hn)⟩
  · obtain ⟨sl, q1⟩ := hb.slot b o q n hn (by simp)
    obtain ⟨_, o', q2, k⟩ := fr.mem (List.mem_cons_of_mem _ hn : b ∈ s.heap.objs.size :: frs outer)
    rw [q1] at q2
    cases q2
    obtain ⟨sl2, q3⟩ := u3 b _ (hx.keeps b _ q1) k
    exact ⟨sl2, q3⟩
theorem ps_raise {x : Str} {np cpos pos : Pos} {a : Expr} {ta : TE} {C : Addr} (hg : Gl (cxOf (CXE P w) P w K mg base N qual scope f cdv A outer s H E) x) (hm : mg x = some (.ref C)) (hd : A.handled = none)
    (q : PySem.W.excIn K C [.type "ValueError", .type "Exception", .type "BaseException", .type "object"] "ValueError.__new__" = true)
    (ha : PE (cxOf (CXE P w) P w K mg base N qual scope f cdv A outer s H E) a ta)
    (hs : starEach [a] (cxOf (CXE P w) P w K mg base N qual scope f cdv A outer s H E).env = [(false, eval a (cxOf (CXE P w) P w K mg base N qual scope f cdv A outer s H E).env)] := by rfl) (hdb : (x == ("__debug__" : Str)) = false := by decide) :
    PS (cxOf (CXE P w) P w K mg base N qual scope f cdv A outer s H E) (.Raise (some (.Call (.Name x np) [a] [] cpos)) none pos) (fun D σ H1 => ta σ H1 fun v H2 => E (.ref C) none H2) := by
  intro pins s1 σ H1 D I h
  obtain ⟨nm, qn, N', bs, bm, hdct, sn, sub, ab, col, dd, k0, k1, k2, k3, k5, mN, hC, hN, hni, T⟩ := exc_of q I.ok.mod.kin
  refine wpAny_Raise_call_subT (C := C) (nm := nm) (q := qn) (N := N') (bs := bs) (bm := bm) (hdct := hdct) (sn := sn) (sub := sub) (ab := ab) (col := col) (dd := dd) (k0 := k0) (k1 := k1) (k2 := k2) (k3 := k3) (k5 := k5)
    PySem.F.excBase_ValueError (mN := mN) (T.hasType PySem.F.excBase_ValueError.hasBase) hd (by rw [hs]; rfl) hni (ld_glob I hg hm ⟨rfl, ?_⟩ hdb)
  rw [hs]
  refine Calls.evalArgs_plain (Calls.spliced_cons (thn (ha pins s1 σ H1 _ I h) fun u s2 ⟨v, H2, I2, r2, q2⟩ => Calls.spliced_nil ⟨rfl, szr rfl, I2.bk _ _ hC, hN.keeps I2.bk, T.keeps I2.bk, fun h' x hx => ?_⟩))
  exact leave_made I2 hx q2
end
end BF
namespace BF
open PySem PySem.Spec PyProof.Rows L2

/-! A try of which the exceptions come from calls; the except clause with a name. -/
theorem ObjOk.is {P : Program} {w : World} {H : Hp} {h : Heap} {a : Addr} {o : HO} (x : ObjOk P w H h a o) : ∃ u, h.get? a = some u := by
  cases o with
  | lst xs => obtain ⟨_, _, _, _, e⟩ := x; exact ⟨_, e⟩
  | tup xs => obtain ⟨_, _, _, ob, e, _⟩ := x; exact ⟨_, e⟩
  | dK kvs => obtain ⟨_, _, _, _, o, _, _, e, _⟩ := x; exact ⟨_, e⟩
  | dT kvs => obtain ⟨_, _, _, _, o, _, _, e, _⟩ := x; exact ⟨_, e⟩
  | set S n => obtain ⟨o, _, _, _, e, _⟩ := x; exact ⟨_, e⟩
  | ins C dx fs => obtain ⟨_, _, _, e, _⟩ := x; exact ⟨_, e⟩
  | own y => exact x
  | xd fs => obtain ⟨_, ⟨_, _, _, e, _⟩, _⟩ := x; exact ⟨_, e⟩
  | rng lo hi => obtain ⟨_, _, _, e⟩ := x; exact ⟨_, e⟩
  | frz ob u => exact ⟨_, x.1⟩
  | tbl ps => exact ⟨_, show h.get? a = some _ from x⟩
  | met f y => exact ⟨_, show h.get? a = some _ from x⟩
  | ext φ => exact x.2.1

/-- an exception's object: its class, no dict, no context -/
def ExcO (cls : Value) (o : Obj) : Prop := o.cls = cls ∧ o.dict = none ∧ ∃ vs, o.data = .fields vs ∧ vs[2]? = some .none
abbrev frzX (o : Obj) : HO := .frz o (.ext fun _ => True)

def TryE (X : Cx) (W : L2.St → Value → Hp → Prop) (e : Value) (s' : Shared) : Prop :=
  ∃ pins σ H1 s1 H' x cls B, e = .ref x ∧ Inv X pins σ H1 s1 ∧ s'.os = s1.os ∧ AllBare s'.gens ∧ Flew X.prog X.w X.stack H1 H' x cls s1.heap s'.heap B ∧ W σ cls H'

theorem pe_callX {X : Cx} {W : L2.St → Value → Hp → Prop} {k : Nat} {f : Addr} {fd : FuncData} {ps : List Str} {sp : Sp} {x : Str} {p pos : Pos} {e : Expr} {es : List Expr} {t : TA}
    (F : FnOk X.prog X.w X.K X.mg X.base (CXE X.prog X.w) k f fd ps sp) (hr : Room k X.A) (hg : Gl X x) (hm : X.mg x = some (.ref f)) (hk : PySem.W.keepIn X.K (.ref f) = true) (hb : Binds X.K fd ps [])
    (ha : PA (X.wish (TryE X W)) (e :: es) t) (hdb : (x == ("__debug__" : Str)) = false := by decide) (he : starEach (e :: es) X.env = (false, eval e X.env) :: starEach es X.env := by rfl) (hpl : (backTo pos (starEach es X.env)).any (·.1) = false := by rfl) :
    PE (X.wish (TryE X W)) (.Call (.Name x p) (e :: es) [] pos) (fun σ H Q => t σ H fun vs H1 => sp vs H1 Q fun cls _ H' => W σ cls H') := by
  intro pins s σ H Q I h
  refine wpAny_Call_Name_kw (ld_glob I hg hm ?_ hdb)
  refine PySem.W.callWith_K (h₀ := X.base) I.ok.mod.kin hk (thn (ha pos pins s σ H _ I h) fun us s1 ⟨vs, H1, I1, r, q⟩ => ⟨I1.kIn, ?_⟩) he hpl
  have hl : us.length = ps.length := by rw [← r.length]; exact F.len _ _ _ _ q
  have bd := hb s1 us I1.kIn (by rw [List.append_nil]; exact hl)
  rw [List.append_nil] at bd
  refine wpAny_call (codeAny_mono (F.run X.A X.stack s1 H1 ⟨us, []⟩ us vs Q _ hr I1.env0 bd r q) fun r' s' hq => ?_)
  cases r' with
  | error e =>
    obtain ⟨x, cls, H', B, rfl, os, bare, fl, hw⟩ := hq
    exact ⟨pins, σ, H1, s1, H', x, cls, B, rfl, I1.unwish, os, bare, fl, hw⟩
  | ok fl =>
    cases fl with
    | ret u => exact I1.after hq
    | next => exact False.elim hq
    | brk => exact False.elim hq
    | cont => exact False.elim hq

/-- the context of the clause's suite -/
abbrev suiteCx (X : Cx) (x : Addr) : Cx := { X with A := X.A.mark (some (.ref x)), calm := false }
section
variable {X : Cx} {pins : List (Addr × Obj)} {σ : L2.St} {H H' : Hp} {s : Shared}
theorem Inv.marked (I : Inv X pins σ H s) (x : Addr) : Inv (suiteCx X x) pins σ H s :=
  ⟨⟨I.ok.mod, I.ok.kind, I.ok.glob, I.ok.blt, I.ok.above, I.ok.inj, I.ok.has, I.ok.cab, (fun z => absurd z Bool.false_ne_true), I.ok.frames, I.ok.stk, I.ok.exf, I.ok.bs, I.ok.bsz, I.ok.noex, I.ok.exfs, I.ok.funs, I.ok.frf⟩, I.os, I.bare, I.base, I.loc, I.cell, I.free, I.freeC, I.pin, I.hok, I.len⟩
theorem Inv.unmarked {x : Addr} (I : Inv (suiteCx X x) pins σ H s) (ok : X.Ok) : Inv X pins σ H s := ⟨ok, I.os, I.bare, I.base, I.loc, I.cell, I.free, I.freeC, I.pin, I.hok, I.len⟩
theorem Cx.Ok.repin (ok : X.Ok) (pn : List (Addr × Obj)) : ({ X with pn := pn } : Cx).Ok :=
  ⟨ok.mod, ok.kind, ok.glob, ok.blt, ok.above, ok.inj, ok.has, ok.cab, ok.hd, ok.frames, ok.stk, ok.exf, ok.bs, ok.bsz, ok.noex, ok.exfs, ok.funs, ok.frf⟩
theorem Inv.repin (I : Inv X pins σ H s) : Inv { X with pn := X.pn ++ pins } [] σ H s :=
  ⟨Cx.Ok.repin I.ok _, I.os, I.bare, I.base, I.loc, I.cell, I.free, I.freeC, fun p hp => I.pin p (by rw [List.append_nil] at hp; exact hp), I.hok, I.len⟩
theorem Inv.unpin {pl : List (Addr × Obj)} (ok : X.Ok) (I : Inv { X with pn := X.pn ++ pins } pl σ H s) : Inv X pins σ H s :=
  ⟨ok, I.os, I.bare, I.base, I.loc, I.cell, I.free, I.freeC, fun p hp => I.pin p (List.mem_append_left _ hp), I.hok, I.len⟩
theorem Un.more {fs ex : List Addr} {h h' : Heap} {x : Addr} {o : HO} (u : Un fs ex H H' h h') (hx : h.get? x = none) (hn : H' x = none) : Un fs ex H (upd H' x o) h h' := by
  refine ⟨u.keep, u.slot, fun b ob q n hb => ?_, u.there, fun b xs q => ?_, fun b ob v q => ?_, fun b ps q => ?_⟩
  · rw [upd_ne (fun z => by rw [z, hx] at q; cases q)]; exact u.free b ob q n hb
  · have := u.tups b xs q
    rw [upd_ne (ne_of_none this hn)]; exact this
  · have := u.frzs b ob v q
    rw [upd_ne (ne_of_none this hn)]; exact this
  · obtain ⟨more, e⟩ := u.tbls b ps q
    exact ⟨more, by rw [upd_ne (ne_of_none e hn)]; exact e⟩
theorem HOk.more {P : Program} {w : World} {h : Heap} {x : Addr} {o : HO} (k : HOk P w H h) (hn : H x = none) (new : ObjOk P w (upd H x o) h x o) : HOk P w (upd H x o) h := fun b u e => by
  by_cases hb : b = x
  · subst hb
    rw [upd_same] at e
    cases e
    exact new
  · rw [upd_ne hb] at e
    exact (k b u e).stay (fun _ _ _ q => q) (fun c z => by rw [upd_ne (ne_of_none z hn)]; exact z) fun c xs z => by rw [upd_ne (ne_of_none z hn)]; exact z
/-- the clause's name goes -/
theorem unbind_ok {M : Model} {A : Around} {E : Value → Shared → Prop} {i : Nat} {n : Str} {pos : Pos} {Q : Unit → Shared → Prop} (I : Inv X pins σ H s) (hN : X.N.Nodup) (hi : X.N[i]? = some n) (hk : X.env.scope.names.lookup n = some .local)
    (h : ∀ s', Inv X pins (σ.set i none) H s' → Q () s') : wpAny M A (do bindName X.env n .none; unbindBehindTheSuite X.env n pos) Q E s := by
  obtain ⟨m, hn, hl⟩ := id I.loc
  have hcls : (X.env.scope.kind == .class || (X.env.scope.kind == .module && X.env.locals != X.env.globals)) = false := by rw [I.ok.kind]; rfl
  have hiσ : i < σ.length := by rw [I.len]; exact (List.getElem?_eq_some_iff.mp hi).1
  obtain ⟨oL, _, _, hoL, _⟩ := id hn
  refine wpAny_nameGoes_keeps hk hn hcls fun h' v hn' hs => ?_
  have up : ∀ b o, X.s₀.heap.get? b = some o → b ≠ X.env.locals := fun b o e => Nat.ne_of_lt (Nat.lt_of_lt_of_le (Heap.lt_size e) I.ok.above)
  refine h _ ⟨I.ok, I.os, I.bare, ⟨fun b o e z hb hx => ?_, fun b o e z hb hx => ?_, I.base.free, fun b o e hx => ?_, I.base.tups, I.base.frzs, I.base.tbls⟩, ⟨_, hn', fun j y v' e1 e2 e3 => ?_⟩, fun y c e => ?_, I.free, I.freeC, fun p hp => ?_, fun b ob e => ?_, by simpa using I.len⟩
  · exact (hs.2 b (up b o e)).trans (I.base.keep b o e z hb hx)
  · obtain ⟨sl, e1⟩ := I.base.slot b o e z hb hx
    exact ⟨sl, (hs.2 b (up b o e)).trans e1⟩
  · obtain ⟨o', e1⟩ := I.base.there b o e hx
    exact ⟨o', (hs.2 b (up b o e)).trans e1⟩
  · by_cases hj : j = i
    · subst hj
      rw [List.getElem?_set_self hiσ] at e2
      cases e2
    · rw [List.getElem?_set_ne (Ne.symm hj)] at e2
      obtain ⟨u', r', q⟩ := hl j y v' e1 e2 e3
      refine ⟨u', r', ?_⟩
      rcases q with ⟨k, e⟩ | ⟨k, c, e, z⟩
      · refine .inl ⟨k, ?_⟩
        have : y ≠ n := fun e => hj (nodup_ix hN e1 (e ▸ hi))
        simp [this, e]
      · exact .inr ⟨k, c, e, z.sameBut hs (I.cne y c e)⟩
  · obtain ⟨w', z⟩ := I.cell y c e
    exact ⟨w', z.sameBut hs (I.cne y c e)⟩
  · obtain ⟨e, z, ne, nf, d⟩ := I.pin p hp
    exact ⟨(hs.2 p.1 ne).trans e, z, ne, nf, d⟩
  · refine (I.hok b ob e).stay (fun c u hc q => (hs.2 c ?_).trans q) (fun _ q => q) fun _ _ q => q
    rintro rfl
    rcases hc with rfl | hc
    · rw [I.free] at e; cases e
    · rw [I.free] at hc; cases hc
end

def tTry (K : PySem.W.Frag) (Cc : Addr) (i : Nat) (tb : (L2.St → Value → Hp → Prop) → TS) (ts : Addr → TS) : TS := fun D σ H =>
  tb (fun σ' cls H' => PySem.W.exmOne K cls (.ref Cc) = some true ∧ ∀ x o, H' x = none → ExcO cls o →
    ts x { nx := fun σ2 H2 => D.nx (σ2.set i none) H2, bk := fun σ2 H2 => D.bk (σ2.set i none) H2, ct := fun σ2 H2 => D.ct (σ2.set i none) H2, rt := D.rt } (σ'.set i (some (.ref x))) (upd H' x (frzX o))) D σ H
theorem ps_try {X : Cx} {body suite : List Stmt} {b₀ : Stmt} {c n : Str} {np hpos pos : Pos} {i : Nat} {Cc : Addr} {tb : (L2.St → Value → Hp → Prop) → TS} {ts : Addr → TS} (hstk : X.stack = X.env :: X.outer) (hfr : X.env.frame = some X.env.locals)
    (hN : X.N.Nodup) (hi : X.N[i]? = some n) (hn : X.env.scope.names.lookup n = some .local) (hg : Gl X c) (hm : X.mg c = some (.ref Cc)) (hxe : ∀ e s', ¬ X.xe e s')
    (hb : ∀ pn W, PSs (({ X with pn := pn } : Cx).wish (TryE { X with pn := pn } W)) body (tb W)) (hs : ∀ x pn, PSs (suiteCx { X with pn := pn } x) (b₀ :: suite) (ts x)) (hdb : (c == ("__debug__" : Str)) = false := by decide) :
    PS X (.Try body [.ExceptHandler (some (.Name c np)) (some n) (b₀ :: suite) hpos] [] [] pos) (tTry X.K Cc i tb ts) := by
  intro pins s σ H D I h
  refine wpAny_Try_except (wpAny_mono (hb (X.pn ++ pins) _ [] s σ H D ((Inv.repin I).wish _) h) (fun fl s1 q => ?_) fun e s1 q => ?_)
  · cases fl with
    | next => obtain ⟨σ', H', J, q⟩ := q; exact wpAny_execs_nil ⟨σ', H', Inv.unpin I.ok J.unwish, q⟩
    | brk => obtain ⟨σ', H', J, q⟩ := q; exact ⟨σ', H', Inv.unpin I.ok J.unwish, q⟩
    | cont => obtain ⟨σ', H', J, q⟩ := q; exact ⟨σ', H', Inv.unpin I.ok J.unwish, q⟩
    | ret v => obtain ⟨v', σ', H', J, r, q⟩ := q; exact ⟨v', σ', H', Inv.unpin I.ok J.unwish, r, q⟩
  · obtain ⟨pl, σ1, H1, s0, H', x, cls, B, rfl, J, os, bare, fl, ex, hw⟩ := q
    have frs1 : X.A.frames = some (X.env :: X.outer) := by rw [← hstk]; exact I.ok.frames
    have fl0 : Air B (X.env :: X.outer) x cls .none s1.heap := by rw [← hstk]; exact fl.air
    refine air_note frs1 hfr fl0 fun h2 a2 u2 => ?_
    refine air_land a2 fun h3 a3 u3 => ?_
    have A3 : Air B X.stack x cls .none h3 := by rw [hstk]; exact a3
    have U3 := u2.trans u3
    have J3 : Inv { X with pn := X.pn ++ pins } pl σ1 H' { s1 with heap := h3 } := J.call' (s' := { s1 with heap := h3 }) (ch := []) os (fl.un J.stkFree A3 U3) (fl.ok A3) bare fun b z => nomatch z
    obtain ⟨oe, vs, he, hc, _⟩ := a3.obj
    have LT : PySem.W.Looks (model X.prog X.w) h3 (typeOf (.ref x)) cls := hc ▸ (PySem.W.Looks.ld he).andThen .now
    refine wpAny_handleBy_cons (codeAny_handlers_test (ld_glob (Inv.marked J3 x) hg hm ((PySem.W.exm_one J3.kIn LT ex).here ?_) hdb)) (by intro z; cases z)
    refine codeAny_handlers_suite_as ?_
    refine air_land (s := { s1 with heap := h3 }) a3 fun h6 a6 u6 => ?_
    have A6 : Air B X.stack x cls .none h6 := by rw [hstk]; exact a6
    have U6 := U3.trans u6
    obtain ⟨o6, vs6, g6, c6, d6, dt6, z6, n6, _⟩ := a6.obj
    have hx' : H' x = none := by
      cases q : H' x with
      | none => rfl
      | some o =>
        obtain ⟨u, qu⟩ := ObjOk.is (fl.hok x o q)
        rw [A6.new] at qu
        cases qu
    have hx0 : s0.heap.get? x = none := by
      cases q : s0.heap.get? x with
      | none => rfl
      | some o =>
        by_cases hm' : x ∈ frs X.stack
        · obtain ⟨_, o', q2, k⟩ := A6.fr.mem hm'
          rw [g6] at q2
          cases q2
          exact absurd dt6 (k vs6)
        · obtain ⟨o', q2⟩ := fl.there x o q hm'
          rw [A6.new] at q2
          cases q2
    have J6 : Inv { X with pn := X.pn ++ pins } pl σ1 (upd H' x (frzX o6)) { s1 with heap := h6 } :=
      J.call' (s' := { s1 with heap := h6 }) (ch := []) os (Un.more (fl.un J.stkFree A6 U6) hx0 hx') (HOk.more (fl.ok A6) hx' ⟨g6, trivial, ⟨_, g6⟩, fun _ _ _ _ => trivial⟩) bare fun b z => nomatch z
    refine store_ok (X := suiteCx { X with pn := X.pn ++ pins } x) (Inv.marked J6 x) hN hi (Or.inl hn) (v := .ref x) rfl (fun s7 J7 => ?_) (Or.inr hn)
    refine wpAny_mono (hs x (X.pn ++ pins) pl s7 _ _ _ J7 (hw x o6 hx' ⟨c6, d6, vs6, dt6, n6⟩)) (fun f s8 q8 => ?_) fun e s8 z => (hxe _ _ z).elim
    cases f with
    | next => obtain ⟨σ8, H8, J8, q8⟩ := q8; exact unbind_ok (Inv.unpin I.ok (Inv.unmarked J8 (Cx.Ok.repin I.ok _))) hN hi hn fun s9 J9 => ⟨_, H8, J9, q8⟩
    | brk => obtain ⟨σ8, H8, J8, q8⟩ := q8; exact unbind_ok (Inv.unpin I.ok (Inv.unmarked J8 (Cx.Ok.repin I.ok _))) hN hi hn fun s9 J9 => ⟨_, H8, J9, q8⟩
    | cont => obtain ⟨σ8, H8, J8, q8⟩ := q8; exact unbind_ok (Inv.unpin I.ok (Inv.unmarked J8 (Cx.Ok.repin I.ok _))) hN hi hn fun s9 J9 => ⟨_, H8, J9, q8⟩
    | ret v => obtain ⟨v', σ8, H8, J8, r, q8⟩ := q8; exact unbind_ok (Inv.unpin I.ok (Inv.unmarked J8 (Cx.Ok.repin I.ok _))) hN hi hn fun s9 J9 => ⟨v', _, H8, J9, r, q8⟩
end BF
namespace BF
open PySem PySem.Spec PyProof.Rows L2

/-! A comprehension over a list while an exception is handled. -/
/-- an exception is handled here; its object stands as it was since the entry -/
def Hnd (X : Cx) : Prop := ∃ x o vs, X.A.handled = some (.ref x) ∧ X.H₀ x = some (frzX o) ∧ o.data = .fields vs ∧ vs[2]? = some .none
structure TurnH (P : Program) (w : World) (K : PySem.W.Frag) (tg : Expr) (J : It) (fp : List Addr) (it : Addr) (tn : Nat → Heap → Prop) : Prop where
  mem : it ∈ fp
  obj : ∀ i h, tn i h → ∀ b ∈ fp, ∃ o, h.get? b = some o ∧ ∀ v, o.data ≠ .cell v
  keep : ∀ i h h', tn i h → (∀ b ∈ fp, ∀ o, h.get? b = some o → h'.get? b = some o) → tn i h'
  item : ∀ (X : Cx), X.prog = P → X.w = w → X.K = K → Hnd X → ∀ (i : Nat) (pins : List (Addr × Obj)) (s : Shared) (σ : L2.St) (H : Hp) (E : Value → Shared → Prop), Inv X pins σ H s → (∀ b ∈ fp, FpOk X pins H b) → tn i s.heap → J.go i H →
    wpAny (model P w) X.A (pyNext (.ref it)) (fun r s1 => ∃ u, r = some u ∧
      wpAny (model P w) X.A (letOwnedTupleGo tg (.ref it) u) (fun _ s2 => ∃ x H', Inv X pins σ H' s2 ∧ RelV x u ∧ J.yld i H x H' ∧ tn (i + 1) s2.heap ∧ ∀ b ∈ fp, H' b = none) E s1) E s
  done : ∀ (X : Cx), X.prog = P → X.w = w → X.K = K → Hnd X → ∀ (i : Nat) (pins : List (Addr × Obj)) (s : Shared) (σ : L2.St) (H : Hp) (E : Value → Shared → Prop), Inv X pins σ H s → (∀ b ∈ fp, FpOk X pins H b) → tn i s.heap → J.stop i H →
    wpAny (model P w) X.A (pyNext (.ref it)) (fun r s1 => r = none ∧ Inv X pins σ H s1) E s
  self : ∀ (A : Around) (i : Nat) (s : Shared) (Q : Value → Shared → Prop) (E : Value → Shared → Prop), tn i s.heap → Q (.ref it) s → wpAny (model P w) A (pyIter (.ref it)) Q E s
theorem turnH_list {P : Program} {w : World} {K : PySem.W.Frag} {tg : Expr} (a it : Addr) : TurnH P w K tg (Itl K a) [it] it (fun i h => h.IsListIter it a i) where
  mem := by simp
  obj := (turn_list (P := P) (w := w) (K := K) (tg := tg) a it).obj
  keep := (turn_list (P := P) (w := w) (K := K) (tg := tg) a it).keep
  item := by
    intro X hP hw hK hc i pins s σ H E I hf st hg
    subst hP hw hK
    obtain ⟨xs, x, hq, hx⟩ := hg
    obtain ⟨its, rv, p, hz⟩ := I.list hq
    obtain ⟨u, hu, ru⟩ := rv.get hx
    obtain ⟨f0, f1, f2, f3, f4, f5⟩ := hf it (by simp)
    refine wpAny_pyNext_list_item st p.isList (x := u) (by simpa using hu) fun h' st' sb => ?_
    have I1 : Inv X pins σ H { s with heap := h' } := I.turned (t' := s.toks) (fun b o hb e => (sb.2 b hb).trans e) f0 f1 f3 f4 f5
    obtain ⟨o, e, c, d⟩ := id st'
    exact ⟨u, rfl, go_of (s := { s with heap := h' }) e c d (by decide) ⟨x, H, I1, ru, ⟨rfl, fun ys hy => by rw [I.list_inj hy hq]; exact hx⟩, st', fun b hb => (hf b hb).1⟩⟩
  done := by
    intro X hP hw hK hc i pins s σ H E I hf st hg
    subst hP hw hK
    obtain ⟨xs, hq, hx⟩ := hg
    obtain ⟨its, rv, p, hz⟩ := I.list hq
    obtain ⟨f0, f1, f2, f3, f4, f5⟩ := hf it (by simp)
    obtain ⟨x, o, vs, h1, h2, h3, h4⟩ := hc
    have hl := rv.length
    have gx : s.heap.get? x = some o := (show ObjOk X.prog X.w H s.heap x (frzX o) from I.hok x _ (I.base.frzs x o _ h2)).1
    exact next_end_h h1 gx h3 h4 st p.isList (by simp; omega) fun h' eb => ⟨rfl, I.turned (t' := s.toks) (fun b o hb e => eb b o hb e) f0 f1 f3 f4 f5⟩
  self := fun _ _ _ _ _ st h => wpAny_pyIter_listiter st h
def PIEH (X : Cx) (pins : List (Addr × Obj)) (σ : L2.St) (tg : Expr) (R : It → Hp → Prop) (itv : Value) (s2 : Shared) : Prop :=
  ∃ (it : Addr) (fp : List Addr) (tn : Nat → Heap → Prop) (J : It) (H' : Hp), itv = .ref it ∧ Inv X pins σ H' s2 ∧ TurnH X.prog X.w X.K tg J fp it tn ∧ tn 0 s2.heap ∧ (∀ b ∈ fp, FpOk X pins H' b) ∧ R J H'
def PIH (X : Cx) (tg iter : Expr) (wi : TI) : Prop :=
  ∀ (pins : List (Addr × Obj)) (s : Shared) (σ : L2.St) (H : Hp) (R : It → Hp → Prop), Inv X pins σ H s → wi σ H R →
    wpAny (model X.prog X.w) X.A (eval iter X.env) (fun v s1 => wpAny (model X.prog X.w) X.A (pyIter v) (PIEH X pins σ tg R) X.xe s1) X.xe s
theorem piH_list {X : Cx} {tg l : Expr} {tl : TE} (hl : PE X l tl) : PIH X tg l (iList X.K tl) := by
  intro pins s σ H R I h
  refine thn (hl pins s σ H _ I h) fun v s1 ⟨x, H1, I1, r1, q1⟩ => ?_
  obtain ⟨a, e, ⟨xs, hq⟩, q⟩ := q1
  subst e
  cases r1
  obtain ⟨its, rv, p, hz⟩ := I1.list hq
  refine wpAny_pyIter_list p.isList ?_
  refine ⟨s1.heap.objs.size, [s1.heap.objs.size], _, _, H1, rfl, I1.kept (t' := s1.toks) fun b o e => Heap.get?_push_of_some _ e, turnH_list a _, ⟨_, Heap.get?_push_size _ rfl, rfl, rfl⟩, fun b hb => ?_, q⟩
  have e : b = s1.heap.objs.size := by simpa using hb
  subst e
  exact I1.fpOk (Nat.le_refl _) (I1.hok.fresh (Nat.le_refl _))

section
variable {X : Cx} {elt tg iter : Expr} {ifs : List Expr} {scope : Scope} {pos : Pos} {N' : List Str} {idx : List (Option Nat)} {wi : TI} {g : TG} {tt : TT} {te : TE}

theorem pe_compH (S : CompOk X scope N' idx) (hclos : closureFor scope X.env = pure (clOf X.env scope.names [])) (hh : Hnd X) (hi : PIH X tg iter wi)
    (hg : ∀ C s₀ H₀ fp pn, PG (compCx X N' scope C s₀ H₀ fp pn) tg g) (ht : ∀ C s₀ H₀ fp pn, PTs (compCx X N' scope C s₀ H₀ fp pn) ifs tt) (he : ∀ C s₀ H₀ fp pn, PE (compCx X N' scope C s₀ H₀ fp pn) elt te)
    (hs : ∀ x, foldedSetIterable iter X.env x = pure x := by intro _; rfl) : PE X (.ListComp elt [⟨tg, iter, ifs, 0⟩] scope pos) (tComp wi idx g tt te) := by
  intro pins s σ H Q I h
  rw [eval_ListComp]
  refine wpAny_comprehension_free (use := none) rfl hs hclos S.kind S.names (thn (hi pins s σ H _ I h) fun xv s₁ h₁ => thn h₁ fun itv s₂ h₂ => ?_)
  obtain ⟨it, fp, tn, J, H2, e, I2, T, st2, f2, hJ⟩ := h₂
  subst e
  obtain ⟨W, ⟨m0, w0⟩, turn⟩ := hJ s₂.heap.objs.size (I2.hok.fresh (Nat.le_refl _))
  have hlt : ∀ b ∈ fp, b < s₂.heap.objs.size := fun b hb => by
    obtain ⟨o, e, _⟩ := T.obj _ _ st2 b hb
    exact Heap.lt_size e
  refine wpAny_newObj_type (wpAny_newFunctionEnv S.cell (by intro y hy; simp at hy) (fun h₁ hns₁ hsb₁ => ?_) S.kind)
  dsimp only at hns₁ hsb₁ ⊢
  generalize hH2 : s₂.heap.push { cls := .type "list", dict := none, data := .seq ([] : List Value).toArray } = P2 at hns₁ hsb₁ ⊢
  have hC : P2.objs.size = s₂.heap.objs.size + 1 := by rw [← hH2, Heap.size_push]
  have neC : ∀ b : Addr, b < s₂.heap.objs.size → b ≠ P2.objs.size := fun b hb => Nat.ne_of_lt (by rw [hC]; exact Nat.lt_succ_of_lt hb)
  have neD : s₂.heap.objs.size ≠ P2.objs.size := Nat.ne_of_lt (by rw [hC]; exact Nat.lt_succ_self _)
  have old : ∀ b o, s₂.heap.get? b = some o → h₁.get? b = some o := fun b o e =>
    hsb₁.extBut b o (neC b (Heap.lt_size e)) (Heap.get?_push_of_some _ (hH2 ▸ Heap.get?_push_of_some _ e))
  have hacc : h₁.get? s₂.heap.objs.size = some { cls := .type "list", data := .seq ([] : List Value).toArray } :=
    hsb₁.extBut _ _ neD (Heap.get?_push_of_some _ (hH2 ▸ Heap.get?_push_size _ rfl))
  have nD : H2 s₂.heap.objs.size = none := I2.hok.fresh (Nat.le_refl _)
  have nC : H2 P2.objs.size = none := I2.hok.fresh (by omega)
  have hc : ∀ C, Hnd (compCx X N' scope C s₂ H2 fp (X.pn ++ pins)) := fun C => by
    obtain ⟨x, o, vs, h1, h2, h3, h4⟩ := hh
    exact ⟨x, o, vs, h1, I2.base.frzs x o _ h2, h3, h4⟩
  have ok := comp_ok (C := P2.objs.size) S I2 (by omega) f2 hlt (X.pn ++ pins)
  have pinlt : ∀ p ∈ X.pn ++ pins, p.1 < s₂.heap.objs.size := fun p hp => Heap.lt_size (I2.pin p hp).1
  have sub : ∀ x c, (clOf X.env scope.names []).lookup x = some c → X.env.cells.lookup x = some c := fun x c e => clOf_sub X.env scope.names [] (fun p hp => (nomatch hp)) (x, c) (PySem.mem_of_lookup e)
  have I3 : Inv (compCx X N' scope P2.objs.size s₂ H2 fp (X.pn ++ pins)) [] (pick idx σ) (upd H2 s₂.heap.objs.size (.lst [])) { s₂ with heap := h₁, toks := s₂.toks + ([] : List (Str × Value)).length } := by
    refine ⟨ok, rfl, I2.bare, ?_, ⟨_, hns₁, fun j x v h1 h2 h3 => ?_⟩, fun x c e => ?_, ?_, fun x c e => ?_, fun p hp => ?_, ?_, ?_⟩
    · exact Un.laid old (Nat.le_refl _) nD
    · have hj : j < idx.length := by
        have := (List.getElem?_eq_some_iff.mp h2).1
        unfold pick at this
        rwa [List.length_map] at this
      unfold pick at h2
      rw [List.getElem?_map, List.getElem?_eq_getElem hj] at h2
      have h2' := Option.some.inj h2
      cases q : idx[j] with
      | none => rw [q] at h2'; cases h2'
      | some i =>
        have h2' : (σ[i]?).getD none = some v := by rw [q] at h2'; exact h2'
        have hmem : (idx[j], x) ∈ idx.zip N' := by
          refine List.mem_iff_getElem?.mpr ⟨j, ?_⟩
          rw [List.getElem?_zip_eq_some]
          exact ⟨List.getElem?_eq_getElem hj, h1⟩
        obtain ⟨z1, z2, z3⟩ := S.idx _ hmem i q
        have hσ : σ[i]? = some (some v) := by
          cases r : σ[i]? with
          | none => rw [r] at h2'; cases h2'
          | some y => rw [r] at h2'; rw [show y = some v from h2']
        obtain ⟨m, hn, hl⟩ := I2.loc
        obtain ⟨u, ru, lk⟩ := hl i x v z1 hσ (.inr (.inl z2))
        refine ⟨u, ru, .inr ⟨.inl ?_, ?_⟩⟩
        · show (relabel scope X.env).names.lookup x = some .cell
          rw [relabel_names, relabel_lookup, z3, I2.ok.kind]
          simp [z2]
        · obtain ⟨c, hcl⟩ := clOf_has X.env scope.names [] x z3 (I2.ok.has x (.inl z2))
          rcases lk with ⟨k1, _⟩ | ⟨_, c', e1, e2⟩
          · rw [z2] at k1; cases k1
          · refine ⟨c, hcl, ?_⟩
            have e3 := sub x c hcl
            rw [e1] at e3
            cases e3
            obtain ⟨o, ho, hd⟩ := e2
            exact ⟨o, old _ _ ho, hd⟩
    · obtain ⟨v, o, ho, hd⟩ := I2.cell x c (sub x c e)
      exact ⟨v, o, old _ _ ho, hd⟩
    · show upd H2 _ _ P2.objs.size = none
      rw [upd_ne (Ne.symm neD)]; exact nC
    · obtain ⟨v, q⟩ := I2.cell x c (sub x c e)
      rw [upd_ne (Nat.ne_of_lt q.lt)]
      exact I2.freeC x c (sub x c e)
    · rw [List.append_nil] at hp
      obtain ⟨e, n, ne, nf, d⟩ := I2.pin p hp
      refine ⟨old _ _ e, ?_, ?_, fun z => ?_, d⟩
      · rw [upd_ne (Nat.ne_of_lt (pinlt p hp))]; exact n
      · exact neC _ (pinlt p hp)
      · rcases List.mem_cons.mp (I2.stkSub _ z) with z | z
        · exact ne z
        · exact nf z
    · exact I2.hok.laid old (Nat.le_refl _) ⟨Nat.zero_le _, [], 0, .nil, hacc⟩
    · show (pick idx σ).length = N'.length
      unfold pick
      rw [List.length_map]
      exact S.len
  have stat : ∀ {pl : List (Addr × Obj)} {H' : Hp}, (∀ b ∈ fp, H' b = none) → (∀ p ∈ pl, p.1 ∉ fp) → ∀ b ∈ fp, FpOk (compCx X N' scope P2.objs.size s₂ H2 fp (X.pn ++ pins)) pl H' b := fun {pl H'} hn hp b hb => by
    refine ⟨hn b hb, (ok.exf b hb).1, ok.exfs b hb, .inl hb, (ok.exf b hb).2, fun p hpp z => ?_⟩
    rcases List.mem_append.mp hpp with h1 | h1
    · exact (f2 b hb).2.2.2.2.2 p h1 z
    · exact hp p h1 (z ▸ hb)
  have loop : codeAny (model X.prog X.w) X.A (.compLoop (.ListComp elt [⟨tg, iter, ifs, 0⟩] scope pos) 0 (.ref it) (.ref s₂.heap.objs.size) (compEnvC scope (clOf X.env scope.names []) P2.objs.size X.env))
      (compPost (model X.prog X.w) X.A X.xe none (EP X pins σ Q) (.ref s₂.heap.objs.size) P2.objs.size) { s₂ with heap := h₁, toks := s₂.toks + ([] : List (Str × Value)).length } := by
    refine comp_loop (fun n s' => ∃ i σ' H', Inv (compCx X N' scope P2.objs.size s₂ H2 fp (X.pn ++ pins)) [] σ' H' s' ∧ tn i s'.heap ∧ (∀ b ∈ fp, H' b = none) ∧ W i n σ' H') ?_ m0
      ⟨0, _, _, I3, T.keep _ _ _ st2 fun b _ o e => old b o e, fun b hb => by rw [upd_ne (Nat.ne_of_lt (hlt b hb))]; exact (f2 b hb).1, w0⟩
    rintro n s3 ⟨i, σ3, H3, J3, st3, fr3, w3⟩
    rcases turn i n σ3 H3 w3 with ⟨stop, q⟩ | ⟨go, step⟩
    · refine wpAny_mono (T.done (compCx X N' scope P2.objs.size s₂ H2 fp (X.pn ++ pins)) rfl rfl rfl (hc _) i [] s3 σ3 H3 (fun _ _ => False) J3 (stat fr3 (fun _ z => nomatch z)) st3 stop) (fun r s4 hr => ?_) fun _ _ z => z
      obtain ⟨rfl, J4⟩ := hr
      obtain ⟨m, hn, _⟩ := J4.loc
      refine ⟨m, hn, fun h' hs' => ?_⟩
      have fC : H3 P2.objs.size = none := J4.free
      have up : ∀ b o, b ≠ P2.objs.size → s4.heap.get? b = some o → h'.get? b = some o := fun b o hb e => hs'.extBut b o hb e
      have un : Un (frs X.stack) fp H2 H3 s₂.heap h' := by
        have u := J4.base
        refine ⟨fun b o e n1 h1 h2 => ?_, fun b o e n1 h1 h2 => ?_, u.free, fun b o e h2 => ?_, u.tups, u.frzs, u.tbls⟩
        · exact up b o (neC b (Heap.lt_size e)) (u.keep b o e n1 h1 h2)
        · obtain ⟨sl, e1⟩ := u.slot b o e n1 h1 h2
          exact ⟨sl, up b _ (neC b (Heap.lt_size e)) e1⟩
        · obtain ⟨o', e1⟩ := u.there b o e h2
          exact ⟨o', up b _ (neC b (Heap.lt_size e)) e1⟩
      have hok : HOk X.prog X.w H3 h' := fun b o e => (J4.hok b o e).stay (fun c v hcc e1 => up c v (fun z => by
        subst z
        rcases hcc with z | z
        · subst z; rw [fC] at e; cases e
        · rw [fC] at z; cases z) e1) (fun _ z => z) fun _ _ z => z
      refine ⟨.ref s₂.heap.objs.size, H3, ?_, rfl, q⟩
      refine I2.call' (s' := { s4 with heap := h' }) (ch := fp) ?_ un hok J4.bare fun b hb => ?_
      · exact J4.os
      · obtain ⟨f0, f1, f2', f3, f4, f5⟩ := f2 b hb
        exact ⟨f3, f1, f4, f5⟩
    · refine wpAny_mono (T.item (compCx X N' scope P2.objs.size s₂ H2 fp (X.pn ++ pins)) rfl rfl rfl (hc _) i [] s3 σ3 H3 (fun _ _ => False) J3 (stat fr3 (fun _ z => nomatch z)) st3 go) (fun r s4 hr => ?_) fun _ _ z => z
      obtain ⟨u, rfl, h4⟩ := hr
      refine wpAny_mono h4 (fun _ s5 h5 => ?_) fun _ _ z => z
      obtain ⟨x, H5, J5, r5, y5, st5, fr5⟩ := h5
      have J5' := J5.pinned (stat fr5 (fun _ z => nomatch z)) (T.obj _ _ st5)
      refine wpAny_mono (hg _ _ _ _ _ _ s5 σ3 H5 x u _ J5' r5 (step x H5 y5)) (fun _ s6 h6 => ?_) fun _ _ z => z
      obtain ⟨σ6, H6, J6, q6⟩ := h6
      have again : ∀ {s9 : Shared} {σ9 : L2.St} {H9 : Hp}, Inv (compCx X N' scope P2.objs.size s₂ H2 fp (X.pn ++ pins)) ([] ++ pinsAt fp s5.heap) σ9 H9 s9 → (∃ m', m' < n ∧ W (i + 1) m' σ9 H9) →
          ∃ m, m < n ∧ ∃ i σ' H', Inv (compCx X N' scope P2.objs.size s₂ H2 fp (X.pn ++ pins)) [] σ' H' s9 ∧ tn i s9.heap ∧ (∀ b ∈ fp, H' b = none) ∧ W i m σ' H' := fun {s9 σ9 H9} J9 hw => by
        obtain ⟨m', hm, w9⟩ := hw
        refine ⟨m', hm, i + 1, σ9, H9, J9.unpinned, T.keep _ _ _ st5 fun b hb o e => (J9.pin (b, o) (List.mem_append_right _ (List.mem_append_right _ (mem_pinsAt hb e)))).1, fun b hb => ?_, w9⟩
        obtain ⟨o, e, d⟩ := T.obj _ _ st5 b hb
        exact (J9.pin (b, o) (List.mem_append_right _ (List.mem_append_right _ (mem_pinsAt hb e)))).2.1
      refine wpAny_mono (ht _ _ _ _ _ _ s6 σ6 H6 _ J6 q6) (fun ok' s7 h7 => ?_) fun _ _ z => z
      obtain ⟨H7, J7, q7⟩ := h7
      cases ok' with
      | false => exact again J7 q7
      | true =>
        refine wpAny_mono (he _ _ _ _ _ _ s7 σ6 H7 _ J7 q7) (fun xv2 s8 h8 => ?_) fun _ _ z => z
        obtain ⟨v, H8, J8, r8, ys, hD, hz, hw⟩ := h8
        refine wpAny_mono (mt_append (X := compCx X N' scope P2.objs.size s₂ H2 fp (X.pn ++ pins)) _ s8 σ6 H8 (.ref s₂.heap.objs.size) [v] (.ref s₂.heap.objs.size) [xv2] (fun _ H9 => ∃ m', m' < n ∧ W (i + 1) m' σ6 H9) J8 rfl (.cons r8 .nil) ⟨_, ys, v, rfl, rfl, hD, hz, hw⟩) (fun _ s9 h9 => ?_) fun _ _ z => z
        obtain ⟨_, H9, J9, _, q9⟩ := h9
        exact again J9 q9
  exact codeAny_compStart_list loop (T.self X.A 0 _ _ _ (T.keep _ _ _ st2 fun b _ o e => old b o e) loop)
end

/-! A def called while an exception is handled. -/
structure FnOkH (P : Program) (w : World) (K : PySem.W.Frag) (mg : Str → Option Value) (base : Heap) (k : Nat) (f : Addr) (fd : FuncData) (ps : List Str) (sp : Addr → Obj → List V → Hp → VK → Prop) : Prop where
  len : ∀ x o vs H Q, sp x o vs H Q → vs.length = ps.length
  run : ∀ (A : Around) (outer : List Env) (s : Shared) (H : Hp) (args : Args) (us : List Value) (vs : List V) (Q : VK) (x : Addr) (o : Obj), Room k { A with handled := none } → A.handled = some (.ref x) → H x = some (frzX o) → (∃ cls, ExcO cls o) →
    Env0 P w K mg base A outer s H → BindsTo s fd args (ps.zip us) → Vals vs us → sp x o vs H Q → codeAny (model P w) A (.call (.ref f) args) (CR CX0 outer P w H s Q E0) s
abbrev cxH (P : Program) (w : World) (K : PySem.W.Frag) (mg : Str → Option Value) (base : Heap) (N : List Str) (qual : Str) (scope : Scope) (f : Addr) (cd : Value) (A : Around) (outer : List Env) (s : Shared) (H : Hp) : Cx :=
  { cxOf CX0 P w K mg base N qual scope f cd A outer s H E0 with calm := false, xe := fun _ _ => False }
section
variable {P : Program} {w : World} {K : PySem.W.Frag} {mg : Str → Option Value} {base : Heap}
theorem fun_okH {x qual : Str} {st : Stmt} {f : Addr} {fd : FuncData} {N ps : List Str} {k : Nat} {sp : Addr → Obj → List V → Hp → VK → Prop} (F : Fun K x qual st f fd) (S : FnScope N ps (defScope st)) (len : ∀ x o vs H Q, sp x o vs H Q → vs.length = ps.length)
    (hbody : ∀ (cdv : Value) (A : Around) (outer : List Env) (s : Shared) (H : Hp) (vs : List V) (Q : VK) (x : Addr) (o : Obj), Room k { A.deeper (envOfC qual (defScope st) s.heap.objs.size f cdv) with handled := none } → A.handled = some (.ref x) → H x = some (frzX o) → (∃ cls, ExcO cls o) → sp x o vs H Q →
      ∃ t, PSs (cxH P w K mg base N qual (defScope st) f cdv A outer s H) (defBody st) t ∧ t { nx := fun _ H' => Q .non H', rt := Q } (start N vs) H) : FnOkH P w K mg base (k + 1) f fd ps sp := by
  obtain ⟨oc, od, kV, doc, pm, an, cdv, ct, osl, rfl, lk, hcd⟩ := F.ex
  refine ⟨len, fun A outer s H args us vs Q x o hr hh hx ho e0 hb r hsp => ?_⟩
  have hl := len _ _ _ _ _ hsp
  have KX : K.In s.heap := e0.mod.kin.keeps fun b o e => (e0.bs b o e).1
  have lim : s.heap.NoLimit := e0.mod.nolimit.keeps fun b o e => (e0.bs b o e).1
  have hkind : ∀ y ∈ ps.zip us, (defScope st).names.lookup y.1 = some .local ∨ ((defScope st).names.lookup y.1 = some .cell ∧ ((cellsFrom (s.heap.objs.size + 1) (defScope st).names []).lookup y.1).isSome = true) := fun ⟨n, v⟩ hy => by
    rcases S.par n (List.of_mem_zip hy).1 with q | q
    · exact .inl q
    · exact .inr ⟨q, PySem.W.cellsFrom_some _ _ _ (.inl q)⟩
  refine codeAny_call_function (show A.depth < recursionLimit from hr.depth) (KX _ _ lk) rfl S.co S.gen rfl (PySem.W.codeRec_of KX hcd) (hb _ _ _ _ ?_)
  refine wpAny_newFunctionEnv_cells S.kind hkind fun env he s1 x1 => ?_
  subst he
  refine ⟨lim.keeps x1.toInCall.keep, codeAny_func ?_⟩
  obtain ⟨t, ht, hq⟩ := hbody cdv A outer s H vs Q x o (hr.deeper _) hh hx ho hsp
  have e1 : Env0 P w K mg base { A with handled := none } outer s H := ⟨e0.frames, e0.mod, e0.bs, e0.bsz, e0.funs, e0.frf, e0.hok, e0.bare⟩
  have I0 : Inv (cxOf CX0 P w K mg base N qual (defScope st) f cdv { A with handled := none } outer s H E0) [] (start N vs) H s1 := inv_start S rfl e1 hl r x1
  have I : Inv (cxH P w K mg base N qual (defScope st) f cdv A outer s H) [] (start N vs) H s1 :=
    ⟨⟨I0.ok.mod, I0.ok.kind, I0.ok.glob, I0.ok.blt, I0.ok.above, I0.ok.inj, I0.ok.has, I0.ok.cab, (fun z => absurd z Bool.false_ne_true), I0.ok.frames, I0.ok.stk, I0.ok.exf, I0.ok.bs, I0.ok.bsz, I0.ok.noex, I0.ok.exfs, I0.ok.funs, I0.ok.frf⟩, I0.os, I0.bare, I0.base, I0.loc, I0.cell, I0.free, I0.freeC, I0.pin, I0.hok, I0.len⟩
  refine wpAny_mono (ht [] s1 (start N vs) H _ I hq) (fun fl s' hs => ?_) fun e s' hs => hs.elim
  have fin : ∀ {σ' : L2.St} {H' : Hp} {v : V} {u : Value}, Inv (cxH P w K mg base N qual (defScope st) f cdv A outer s H) [] σ' H' s' → RelV v u → Q v H' → CE outer P w H s Q u s' :=
    fun {σ' H' v u} J rv q => ⟨v, H', J.os, J.bare, J.base, J.hok, rv, q⟩
  cases fl with
  | ret u =>
    obtain ⟨v, σ', H', J, rv, q⟩ := hs
    exact fin J rv q
  | next =>
    obtain ⟨σ', H', J, q⟩ := hs
    exact fin (v := V.non) (u := Value.none) J rfl q
  | brk =>
    obtain ⟨_, _, _, q⟩ := hs
    exact False.elim q
  | cont =>
    obtain ⟨_, _, _, q⟩ := hs
    exact False.elim q
theorem hnd_cxH {N : List Str} {qual : Str} {scope : Scope} {f : Addr} {cdv : Value} {A : Around} {outer : List Env} {s : Shared} {H : Hp} {x : Addr} {o : Obj} (hh : A.handled = some (.ref x)) (hx : H x = some (frzX o)) (ho : ∃ cls, ExcO cls o) :
    Hnd (cxH P w K mg base N qual scope f cdv A outer s H) := by
  obtain ⟨_, _, _, vs, h3, h4⟩ := ho
  exact ⟨x, o, vs, hh, hx, h3, h4⟩
theorem pe_callH {X : Cx} {k : Nat} {f : Addr} {fd : FuncData} {ps : List Str} {sp : Addr → Obj → List V → Hp → VK → Prop} {x : Addr} {y : Str} {p pos : Pos} {e : Expr} {es : List Expr} {t : TA}
    (F : FnOkH X.prog X.w X.K X.mg X.base k f fd ps sp) (hr : Room k { X.A with handled := none }) (hh : X.A.handled = some (.ref x)) (hg : Gl X y) (hm : X.mg y = some (.ref f)) (hk : PySem.W.keepIn X.K (.ref f) = true) (hb : Binds X.K fd ps [])
    (ha : PA X (e :: es) t) (hdb : (y == ("__debug__" : Str)) = false := by decide) (he : starEach (e :: es) X.env = (false, eval e X.env) :: starEach es X.env := by rfl) (hpl : (backTo pos (starEach es X.env)).any (·.1) = false := by rfl) :
    PE X (.Call (.Name y p) (e :: es) [] pos) (fun σ H Q => t σ H fun vs H1 => ∃ o, H1 x = some (frzX o) ∧ (∃ cls, ExcO cls o) ∧ sp x o vs H1 Q) := by
  intro pins s σ H Q I h
  refine wpAny_Call_Name_kw (ld_glob I hg hm ?_ hdb)
  refine PySem.W.callWith_K (h₀ := X.base) I.ok.mod.kin hk (thn (ha pos pins s σ H _ I h) fun us s1 ⟨vs, H1, I1, r, o, hx, ho, q⟩ => ⟨I1.kIn, ?_⟩) he hpl
  have hl : us.length = ps.length := by rw [← r.length]; exact F.len _ _ _ _ _ q
  have bd := hb s1 us I1.kIn (by rw [List.append_nil]; exact hl)
  rw [List.append_nil] at bd
  refine wpAny_call (codeAny_mono (F.run X.A X.stack s1 H1 ⟨us, []⟩ us vs Q x o hr hh hx ho I1.env0 bd r q) fun r' s' hq => ?_)
  cases r' with
  | error e => exact False.elim hq
  | ok fl =>
    cases fl with
    | ret u => exact I1.after hq
    | next => exact False.elim hq
    | brk => exact False.elim hq
    | cont => exact False.elim hq
end
end BF
namespace BF
open PySem PySem.Spec PyProof.Rows

/-! isinstance of an exception of the text's own classes. -/
structure XCls (K : PySem.W.Frag) (C : Addr) : Prop where
  hd : PySem.W.hasDictIn K C = true
  ga : PySem.W.findIn K (.ref C) "__getattribute__" = some (some (.builtin "BaseException.__getattribute__"))
  gh : PySem.W.findIn K (.ref C) "__getattr__" = some none
  kl : PySem.W.findIn K (.ref C) "__class__" = some (some (.builtin "object.__class__"))
  gg : PySem.W.specialIn K (.builtin "object.__class__") "__get__" = some (some (.builtin "getset_descriptor.__get__"))
  tk : PySem.W.takesIn K (.builtin "object.__class__") = some true
  ob : PySem.W.mroIn K C (.type "object") = some true
  be : PySem.W.mroIn K C (.type "BaseException") = some true

section
variable {prog : Program} {w : World} {A : Around} {E : Value → Shared → Prop} {s : Shared} {K : PySem.W.Frag} {x C : Addr} {ox : Obj}
theorem exc_find (F : XCls K C) : PySem.W.findObj K C none "__class__" = some (.bind (.builtin "getset_descriptor.__get__") (.builtin "object.__class__")) := by
  obtain ⟨cd, hc, _⟩ := PySem.W.any_some F.hd
  unfold PySem.W.findObj
  rw [hc, Option.bind_some, F.kl, Option.bind_some]
  simp [F.gg, F.tk]
theorem exc_class {Q : Option Value → Shared → Prop} (F : XCls K C) (X : K.In s.heap) (I : PySem.W.InstAt s.heap x ox C none) (h : Q (some (.ref C)) { s with toks := s.toks + 1 }) :
    wpAny (model prog w) A (getAttr? (.ref x) "__class__") Q E s := by
  obtain ⟨hh, g, d, t, os⟩ := s
  have l0 := I.type (M := model prog w)
  have l1 := PySem.W.looks_findIn (M := model prog w) X F.ga
  have l2 := PySem.W.looks_findIn (M := model prog w) X F.gh
  have l3 := PySem.W.looks_find (M := model prog w) X I (exc_find F)
  have l4 : PySem.W.Looks (model prog w) hh (isInstance (.ref x) (.type "BaseException")) true := l0.andThen (PySem.W.looks_mroIn X F.be)
  have bd := PySem.F.attr_ValueError.ga.bind (.ref x)
  unfold getAttr? getAttrBy? getAttrBy
  refine wpAny_bind (wpAny_mkText (wpAny_bind (wpAny_attempt (wpAny_holding (wpAny_bind (l0.at (wpAny_bind (l1.at ?_))))))))
  show wpAny _ _ (if (onTheHeap (.ref C) && Value.builtin "BaseException.__getattribute__" == Value.builtin "object.__getattribute__") = true then _ else _) _ _ _
  have hgb : (Value.builtin "BaseException.__getattribute__" == Value.builtin "object.__getattribute__") = false := by decide +kernel
  rw [if_neg (by rw [hgb]; simp)]
  unfold getAttrByItsOwn
  refine wpAny_bind (m := hookBefore (.ref C)) (l2.at ?_)
  refine wpAny_bind (wpAny_attempt (wpAny_holding ?_))
  show wpAny _ _ (boundAndCalled (.builtin "BaseException.__getattribute__") (.ref x) _) _ _ _
  unfold boundAndCalled
  refine wpAny_bind (wpAny_of_eq bd ?_)
  have hk : builtinKind "BaseException.__getattribute__" = some .slot := by decide +kernel
  have hsp : splitId "BaseException.__getattribute__" = some ("BaseException", "__getattribute__") := by decide +kernel
  refine wpAny_call (codeAny_call_builtin PySem.F.attr_ValueError.ga.plain PySem.F.entry_bexc_ga ?_)
  have ha := PySem.F.args_bexc_ga (.ref x) (.str "__class__" t)
  show wpAny _ _ (checkBuiltinCall "BaseException.__getattribute__" ⟨[.ref x, .str "__class__" t], []⟩) _ _ _
  simp only [checkBuiltinCall, hk, hsp]
  refine wpAny_bind (l4.at ?_)
  rw [if_neg (by decide)]
  refine wpAny_of_eq ha ?_
  unfold Builtin.«object.__getattribute__»
  refine wpAny_bind (wpAny_of_eq (a := (Value.ref x, [Value.str "__class__" t])) rfl ?_)
  refine wpAny_bind (wpAny_of_eq (a := ("__class__" : Str)) rfl ?_)
  refine wpAny_bind (l0.at ?_)
  refine wpAny_bind (l3.at ?_)
  show wpAny _ _ (holding [Value.builtin "object.__class__"] (call (.builtin "getset_descriptor.__get__") [.builtin "object.__class__", .ref x, .ref C]) >>= ret) _ _ _
  refine wpAny_bind (wpAny_holding (wpAny_call (PySem.W.class_get (ox := ox) (od := none) X I F.ob ?_)))
  exact wpAny_pure (wpAny_pure (wpAny_pure h))
theorem kitx_exc (F : XCls K C) : PySem.W.KitX K (.ref x) (.ref C) (fun h => PySem.W.InstAt h x ox C none) where
  ty := fun _ _ _ I => I.type
  it := fun _ _ X _ => by
    obtain ⟨cd, hc, _⟩ := PySem.W.any_some F.hd
    unfold PySem.W.clsIn at hc
    split at hc
    · rename_i c' d' cd' sl' ho
      intro A' Q' E' s' k q
      unfold isType loadHead
      exact wpAny_bind (wpAny_loadPart (k _ _ (X _ _ ho)) (wpAny_pure q))
    · cases hc
  ne := fun h tp dd its n sl X htp => by
    obtain ⟨cd, hc, _⟩ := PySem.W.any_some F.hd
    refine Bool.eq_false_iff.mpr fun q => ?_
    have e : C = tp := Value.ref.inj (beq_iff_eq.mp q)
    subst e
    unfold PySem.W.clsIn at hc
    split at hc
    · rename_i c' d' cd' sl' ho
      have z := (X _ _ ho).symm.trans htp
      cases z
    · cases hc
  ca := fun X I k => exc_class F X I k
end

/-- isinstance(e, C) of a caught exception -/
theorem call_isiX {X : L2.Cx} : L2.CallR X (.builtin "isinstance") (fun xs H Q => ∃ x o C c b, xs = [L2.V.ref x, c] ∧ H x = some (frzX o) ∧ ExcO (.ref C) o ∧ XCls X.K C ∧ (∃ cv, L2.RelV c cv ∧ (∀ u, L2.RelV c u → u = cv) ∧ PySem.W.kitOne X.K (.ref C) cv = some b) ∧ Q (.bl b) H) := by
  intro pins s σ H xs us Q I r h
  obtain ⟨x, o, C, c, b, rfl, hx, ⟨oc, od, vs, odt, _⟩, F, ⟨cv, _, rc, kt⟩, q⟩ := h
  obtain ⟨u, w', rfl, r1, r2⟩ := L2.vals2 r
  have e : u = Value.ref x := r1
  subst e
  have e2 := rc w' r2
  subst e2
  have gx : s.heap.get? x = some o := (show L2.ObjOk X.prog X.w H s.heap x (frzX o) from I.hok x _ hx).1
  have J : PySem.W.InstAt s.heap x o C none := ⟨gx, oc, by unfold PySem.W.notCls; rw [odt], by rw [od]; trivial⟩
  exact PySem.W.kia_one (kitx_exc F) I.kIn J kt (fun z => nomatch z) fun tk => ⟨.bl b, H, I.tok tk, rfl, q⟩
end BF
namespace BF
open PySem PySem.Spec PyProof.Rows L2

/-! xs.index(y) of plain values -/
theorem mt_index {X : Cx} : MtM X "list.index" (fun x vs H Q => ∃ l xs y j, x = .ref l ∧ vs = [y] ∧ H l = some (.lst xs) ∧ flatV y = true ∧ xs.all flatV = true ∧ j < 1000 ∧ (∃ z, xs[j]? = some z ∧ eqV z y = true) ∧
    (∀ (m : Nat) z, m < j → xs[m]? = some z → eqV z y = false) ∧ Q (.int (j : Nat)) H) := by
  intro pins s σ H x vs v us Q I rx rv h
  obtain ⟨l, xs, y, j, rfl, rfl, hH, fy, fs, hj, ⟨z, hz, ez⟩, hno, q⟩ := h
  cases rx
  obtain ⟨u, rfl, ru⟩ := rv.one
  obtain ⟨_, its, n, r, hl, e⟩ := I.lstM hH
  have hjl : j < xs.length := (List.getElem?_eq_some_iff.mp hz).1
  have at_ : ∀ (m : Nat) z, xs[m]? = some z → ∀ (hm : m < its.toArray.size), eqU y its.toArray[m] = eqV z y := fun m z hz hm => by
    obtain ⟨w', hw, rw'⟩ := r.get hz
    have e1 : its.toArray[m] = w' := by
      have : its[m]? = some its.toArray[m] := by simp
      rw [hw] at this
      exact (Option.some.inj this).symm
    rw [e1]
    exact eqU_of rw' (List.all_eq_true.mp fs z (List.mem_of_getElem? hz))
  refine call_meets F.slot_list_index ⟨_, e, rfl⟩ F.entry_list_index (F.args_list_index_2 _ _)
    (SeqAt.list_indexAt l its.toArray n _ _ u (eqU y) j (by rw [List.size_toArray]; omega) (by omega) ?_ ?_) ⟨e, fun w hw => mem_eqAt ru fy r fs w (by simpa using hw), ⟨.int (j : Nat), H, I.tok _, ⟨_, rfl⟩, q⟩⟩
  · rw [at_ j z hz]; exact ez
  · intro m hm hlt
    have hm' : m < xs.length := by omega
    rw [at_ m _ (List.getElem?_eq_getElem hm') hm]
    exact hno m _ hlt (List.getElem?_eq_getElem hm')
end BF
namespace BF
open PySem PySem.Spec PyProof.Rows L2
/-! the refusals' classes: their names, and of one that is raised what it is an instance of -/
structure ENames (mg : Str → Option Value) (c0 c1 c2 c3 c4 c5 c6 c7 c8 c9 c10 c11 c12 c13 c14 c15 c16 c17 : Addr) : Prop where
  m0 : mg "ClothError" = some (.ref c0)
  m1 : mg "NoLine" = some (.ref c1)
  m2 : mg "TwoColours" = some (.ref c2)
  m3 : mg "TooMany" = some (.ref c3)
  m4 : mg "NoHole" = some (.ref c4)
  m5 : mg "NoDrawing" = some (.ref c5)
  m6 : mg "NoThread" = some (.ref c6)
  m7 : mg "Taken" = some (.ref c7)
  m8 : mg "NoName" = some (.ref c8)
  m9 : mg "NoTie" = some (.ref c9)
  m10 : mg "NoPlan" = some (.ref c10)
  m11 : mg "NoNumber" = some (.ref c11)
  m12 : mg "Busy" = some (.ref c12)
  m13 : mg "Idle" = some (.ref c13)
  m14 : mg "NotWished" = some (.ref c14)
  m15 : mg "Bare" = some (.ref c15)
  m16 : mg "NoChart" = some (.ref c16)
  m17 : mg "NoRow" = some (.ref c17)
structure EKit (K : PySem.W.Frag) (c0 c1 c2 c3 c4 c5 c6 c7 c8 c9 c10 c11 c12 c13 c14 c15 c16 c17 r : Addr) (j : Nat) : Prop where
  x : XCls K r
  q : PySem.W.excIn K r [.type "ValueError", .type "Exception", .type "BaseException", .type "object"] "ValueError.__new__" = true
  ex : PySem.W.exmOne K (.ref r) (.ref c0) = some true
  v : PySem.W.kitOne K (.ref r) (.type "ValueError") = some true
  k1 : PySem.W.kitOne K (.ref r) (.ref c1) = some (j == 0)
  k2 : PySem.W.kitOne K (.ref r) (.ref c2) = some (j == 1)
  k3 : PySem.W.kitOne K (.ref r) (.ref c3) = some (j == 2)
  k4 : PySem.W.kitOne K (.ref r) (.ref c4) = some (j == 3)
  k5 : PySem.W.kitOne K (.ref r) (.ref c5) = some false
  k6 : PySem.W.kitOne K (.ref r) (.ref c6) = some false
  k7 : PySem.W.kitOne K (.ref r) (.ref c7) = some false
  k8 : PySem.W.kitOne K (.ref r) (.ref c8) = some false
  k9 : PySem.W.kitOne K (.ref r) (.ref c9) = some false
  k10 : PySem.W.kitOne K (.ref r) (.ref c10) = some false
  k11 : PySem.W.kitOne K (.ref r) (.ref c11) = some false
  k12 : PySem.W.kitOne K (.ref r) (.ref c12) = some false
  k13 : PySem.W.kitOne K (.ref r) (.ref c13) = some false
  k14 : PySem.W.kitOne K (.ref r) (.ref c14) = some false
  k15 : PySem.W.kitOne K (.ref r) (.ref c15) = some false
  k16 : PySem.W.kitOne K (.ref r) (.ref c16) = some false
  k17 : PySem.W.kitOne K (.ref r) (.ref c17) = some false
/-- which of the four it is, in words -/
def kinds : List V := [.str "line", .str "two", .str "many", .str "hole"]
def fours (j : Nat) : List Bool := [j == 0, j == 1, j == 2, j == 3]
theorem isi_ref {K : PySem.W.Frag} {r c : Addr} {b : Bool} (k : PySem.W.kitOne K (.ref r) (.ref c) = some b) : ∃ cv, RelV (.ref c) cv ∧ (∀ u, RelV (.ref c) u → u = cv) ∧ PySem.W.kitOne K (.ref r) cv = some b := ⟨.ref c, rfl, fun _ h => h, k⟩
theorem isi_ty {K : PySem.W.Frag} {r : Addr} {n : String} {b : Bool} (k : PySem.W.kitOne K (.ref r) (.type n) = some b) : ∃ cv, RelV (.ty n) cv ∧ (∀ u, RelV (.ty n) u → u = cv) ∧ PySem.W.kitOne K (.ref r) cv = some b := ⟨.type n, rfl, fun _ h => h, k⟩
/-- a comprehension over a list that stays, all that pass the test kept as they are -/
def spKind (r : Addr) (j : Nat) : Addr → Obj → List V → Hp → VK → Prop := fun x o vs H Q => vs = [.ref x] ∧ H x = some (frzX o) ∧ ExcO (.ref r) o ∧ ∀ H', Same H H' → ∀ z, kinds[j]? = some z → Q z H'
end BF
namespace BF
open PySem PySem.Spec PyProof.Rows L2
section
variable {prog : Program} {w : World} {A : Around} {E : Value → Shared → Prop} {s : Shared}
/-- min(a, b) by what b < a answers at the states ahead -/
theorem two_min {a b : Value} {bt : Bool} {Q : Value → Shared → Prop} (hh : A.handled = none)
    (hcmp : ∀ (s' : Shared) (Q' : Value → Shared → Prop) (E' : Value → Shared → Prop), (∀ c o, s.heap.get? c = some o → s'.heap.get? c = some o) → Q' (.bool bt) s' → wpAny (model prog w) A.in1 (richCompare .Lt b a) Q' E' s')
    (h : ∀ h' tk, (∀ c o, s.heap.get? c = some o → h'.get? c = some o) → Q (if bt = true then b else a) { s with heap := h', toks := tk }) : wpAny (model prog w) A (call (.builtin "min") [a, b]) Q E s := by
  have nm : (toString "min" ++ toString ".loop" : String) = "min.loop" := by decide
  refine call_function_tree F.kind_min F.plain_min F.entry_min (F.args_min2 a b) ?_
  refine wpAny_bind (m := Builtin.Builtins.bindParams "min" ["key", "default"] 0 ⟨[], []⟩) (wpAny_of_eq (a := [none, none]) rfl ?_)
  refine wpAny_bind (m := newTuple [a, b]) (wpAny_newObj_type ?_)
  generalize ho : ({ cls := .type "tuple", dict := none, data := .seq [a, b].toArray } : Obj) = ot
  have k1 : ∀ c o, s.heap.get? c = some o → (s.heap.push ot).get? c = some o := fun c o e => Heap.get?_push_of_some _ e
  have t1 : (s.heap.push ot).IsTuple s.heap.objs.size #[a, b] := ⟨ot, Heap.get?_push_size _ (by rw [← ho]; rfl), by rw [← ho], 0, by rw [← ho]⟩
  have z1 : s.heap.objs.size < (s.heap.push ot).objs.size := by rw [Heap.size_push]; exact Nat.lt_succ_self _
  refine wpAny_bind (wpAny_pyIter_tuple t1 ?_)
  have zs : ∀ c o, s.heap.get? c = some o → c < s.heap.objs.size := fun c o e => Heap.lt_size e
  generalize s.heap.push ot = h1 at k1 t1 z1 ⊢
  generalize hoi : ({ cls := .type "tuple_iterator", data := .fields #[.ref s.heap.objs.size, .int 0 0] } : Obj) = oi
  dsimp only
  have i2 : (h1.push oi).IsTupleIter h1.objs.size s.heap.objs.size 0 := ⟨oi, Heap.get?_push_size _ (by rw [← hoi]; rfl), by rw [← hoi], by rw [← hoi]; rfl⟩
  have t2 : (h1.push oi).IsTuple s.heap.objs.size #[a, b] := t1.push _
  have z2 : h1.objs.size < (h1.push oi).objs.size := by rw [Heap.size_push]; exact Nat.lt_succ_self _
  have k2 : ∀ c o, s.heap.get? c = some o → (h1.push oi).get? c = some o := fun c o e => Heap.get?_push_of_some _ (k1 c o e)
  generalize hI : h1.objs.size = I at i2 z1 z2 ⊢
  generalize hT : s.heap.objs.size = T at i2 t2 z1 zs ⊢
  generalize h1.push oi = h2 at i2 t2 z2 k2 ⊢
  refine wpAny_bind (m := newList []) (wpAny_newObj_type ?_)
  generalize hol : ({ cls := .type "list", dict := none, data := .seq ([] : List Value).toArray } : Obj) = ol
  have gS : (h2.push ol).get? h2.objs.size = some { cls := .type "list", dict := none, data := .seq #[] 0, slots := #[] } := by rw [← hol]; exact Heap.get?_push_size _ rfl
  have i3 : (h2.push ol).IsTupleIter I T 0 := by
    obtain ⟨o, e, c, d⟩ := i2
    exact ⟨o, Heap.get?_push_of_some _ e, c, d⟩
  have t3 := t2.push ol
  have k3 : ∀ c o, s.heap.get? c = some o → (h2.push ol).get? c = some o := fun c o e => Heap.get?_push_of_some _ (k2 c o e)
  have nSI : h2.objs.size ≠ I := Nat.ne_of_gt z2
  have nST : h2.objs.size ≠ T := Nat.ne_of_gt (Nat.lt_trans z1 z2)
  have nS : ∀ c o, s.heap.get? c = some o → c ≠ h2.objs.size := fun c o e => Nat.ne_of_lt (Nat.lt_trans (zs c o e) (Nat.lt_trans z1 z2))
  have nI : ∀ c o, s.heap.get? c = some o → c ≠ I := fun c o e => Nat.ne_of_lt (Nat.lt_trans (zs c o e) z1)
  generalize h2.objs.size = S at gS nSI nST nS ⊢
  generalize h2.push ol = h3 at gS i3 t3 k3 ⊢
  have W : Walks prog w A.in1 I [I, T] [I] 2 (fun i v => (#[a, b] : Array Value)[i]? = some v) (fun i h => h.IsTupleIter I T i ∧ h.IsTuple T #[a, b]) := Walks.tuple (A := A.in1) hh I T (Nat.ne_of_lt z1) #[a, b]
  rw [nm]
  refine wpAny_pure ⟨plainId_quiet F.plain_min_loop _, ?_⟩
  -- the first item
  refine codeAny_builtin F.entry_min_loop ?_
  rw [Around.under_plainId F.plain_min_loop _]
  refine wpAny_bind (m := seqItems? (.ref S)) (wpAny_seqItems gS rfl ?_)
  show wpAny _ A.in1 (tryCatch (pyNext (.ref I)) _ >>= _) _ _ _
  refine wpAny_bind (wpAny_tryCatch (W.item 0 _ _ _ (by decide) ⟨i3, t3⟩ fun v h4 tk hv st4 q4 => ?_))
  have ev : a = v := Option.some.inj hv
  subst ev
  have g4 := q4 S _ (by simpa using nSI) gS
  have k4 : ∀ c o, s.heap.get? c = some o → h4.get? c = some o := fun c o e => q4 c o (by simpa using nI c o e) (k3 c o e)
  refine wpAny_bind (m := updateSeq S _) ?_
  refine wpAny_updateSeq g4 rfl ?_
  rw [nm]
  have st5 := W.frame 1 _ (h4.update S (Obj.mapSeq fun _ => #[a, a])) st4 fun c hc o e => by
    rw [Heap.get?_update_other _ _ (fun z => by subst z; simp at hc; rcases hc with z | z <;> contradiction)]; exact e
  have g5 := Heap.get?_update_self (Obj.mapSeq fun _ => #[a, a]) g4 rfl
  have k5 : ∀ c o, s.heap.get? c = some o → (h4.update S (Obj.mapSeq fun _ => #[a, a])).get? c = some o := fun c o e => (Heap.get?_update_other _ _ (Ne.symm (nS c o e))).trans (k4 c o e)
  dsimp only
  generalize h4.update S (Obj.mapSeq fun _ => #[a, a]) = h5 at st5 g5 k5 ⊢
  refine wpAny_pure ⟨plainId_quiet F.plain_min_loop _, ?_⟩
  -- the second
  refine codeAny_builtin F.entry_min_loop ?_
  rw [Around.under_plainId F.plain_min_loop _]
  refine wpAny_bind (m := seqItems? (.ref S)) (wpAny_seqItems g5 rfl ?_)
  show wpAny _ A.in1 (tryCatch (pyNext (.ref I)) _ >>= _) _ _ _
  refine wpAny_bind (wpAny_tryCatch (W.item 1 _ _ _ (by decide) st5 fun v h6 tk6 hv st6 q6 => ?_))
  have ev : b = v := Option.some.inj hv
  subst ev
  have g6 := q6 S _ (by simpa using nSI) g5
  have k6 : ∀ c o, s.heap.get? c = some o → h6.get? c = some o := fun c o e => q6 c o (by simpa using nI c o e) (k5 c o e)
  show wpAny _ A.in1 (tryCatch (holding [b, b] (richCompare .Lt b a >>= _)) _ >>= _) _ _ _
  refine wpAny_bind (wpAny_tryCatch (wpAny_holding (wpAny_bind (hcmp _ _ _ k6 ?_))))
  refine wpAny_bind (wpAny_holding (wpAny_truthy_bool ?_))
  refine wpAny_bind (wpAny_letGo (wpAny_pure ?_))
  -- the end
  have fin : ∀ (s7 : Shared) (v : Value) (c : Nat), s7.heap.IsTupleIter I T 2 ∧ s7.heap.IsTuple T #[a, b] → s7.heap.get? S = some { cls := .type "list", dict := none, data := .seq #[v, v] c, slots := #[] } →
      (∀ c o, s.heap.get? c = some o → s7.heap.get? c = some o) → (∀ h' tk, (∀ c o, s.heap.get? c = some o → h'.get? c = some o) → Q v { s7 with heap := h', toks := tk }) →
      codeAny (model prog w) A (.builtin "min.loop" ⟨[.ref I, .none, .ref S], []⟩) (fun r s' => match r with | .ok (.ret v) => Q v s' | .ok _ => False | .error e => E e s') s7 := fun s7 v c st7 g7 k7 hq => by
    refine codeAny_builtin F.entry_min_loop ?_
    rw [Around.under_plainId F.plain_min_loop _]
    refine wpAny_bind (m := seqItems? (.ref S)) (wpAny_seqItems g7 rfl ?_)
    show wpAny _ A.in1 (tryCatch (pyNext (.ref I)) _ >>= _) _ _ _
    refine wpAny_bind (wpAny_tryCatch (W.done _ _ _ st7 fun h8 tk8 q8 => ?_))
    have g8 := q8 S _ (by simpa using nSI) g7
    refine wpAny_bind (m := updateSeq S _) ?_
    refine wpAny_updateSeq g8 rfl (wpAny_bind (wpAny_letGo (wpAny_pure ?_)))
    exact hq _ tk8 fun c o e => (Heap.get?_update_other _ _ (Ne.symm (nS c o e))).trans (q8 c o (by simpa using nI c o e) (k7 c o e))
  cases bt with
  | true =>
    simp only [if_true]
    refine wpAny_bind (m := updateSeq S _) ?_
    refine wpAny_updateSeq g6 rfl (wpAny_bind (wpAny_letGo ?_))
    rw [nm]
    refine wpAny_pure ⟨plainId_quiet F.plain_min_loop _, fin _ b _ (W.frame 2 _ _ st6 fun c hc o e => ?_) (Heap.get?_update_self _ g6 rfl) (fun c o e => ?_) fun h' tk k => ?_⟩
    · exact (Heap.get?_update_other _ _ (fun z => by subst z; simp at hc; rcases hc with z | z <;> contradiction)).trans e
    · exact (Heap.get?_update_other _ _ (Ne.symm (nS c o e))).trans (k6 c o e)
    · have := h h' tk k
      rw [if_pos rfl] at this
      exact this
  | false =>
    simp only [Bool.false_eq_true, if_false]
    refine wpAny_bind (wpAny_letGo ?_)
    rw [nm]
    refine wpAny_pure ⟨plainId_quiet F.plain_min_loop _, fin _ a _ st6 g6 k6 fun h' tk k => ?_⟩
    have := h h' tk k
    rw [if_neg Bool.false_ne_true] at this
    exact this
/-- max(a, b) by what b > a answers at the states ahead -/
theorem two_max {a b : Value} {bt : Bool} {Q : Value → Shared → Prop} (hh : A.handled = none)
    (hcmp : ∀ (s' : Shared) (Q' : Value → Shared → Prop) (E' : Value → Shared → Prop), (∀ c o, s.heap.get? c = some o → s'.heap.get? c = some o) → Q' (.bool bt) s' → wpAny (model prog w) A.in1 (richCompare .Gt b a) Q' E' s')
    (h : ∀ h' tk, (∀ c o, s.heap.get? c = some o → h'.get? c = some o) → Q (if bt = true then b else a) { s with heap := h', toks := tk }) : wpAny (model prog w) A (call (.builtin "max") [a, b]) Q E s := by
  have nm : (toString "max" ++ toString ".loop" : String) = "max.loop" := by decide
  refine call_function_tree F.kind_max F.plain_max F.entry_max (F.args_max2 a b) ?_
  refine wpAny_bind (m := Builtin.Builtins.bindParams "max" ["key", "default"] 0 ⟨[], []⟩) (wpAny_of_eq (a := [none, none]) rfl ?_)
  refine wpAny_bind (m := newTuple [a, b]) (wpAny_newObj_type ?_)
  generalize ho : ({ cls := .type "tuple", dict := none, data := .seq [a, b].toArray } : Obj) = ot
  have k1 : ∀ c o, s.heap.get? c = some o → (s.heap.push ot).get? c = some o := fun c o e => Heap.get?_push_of_some _ e
  have t1 : (s.heap.push ot).IsTuple s.heap.objs.size #[a, b] := ⟨ot, Heap.get?_push_size _ (by rw [← ho]; rfl), by rw [← ho], 0, by rw [← ho]⟩
  have z1 : s.heap.objs.size < (s.heap.push ot).objs.size := by rw [Heap.size_push]; exact Nat.lt_succ_self _
  refine wpAny_bind (wpAny_pyIter_tuple t1 ?_)
  have zs : ∀ c o, s.heap.get? c = some o → c < s.heap.objs.size := fun c o e => Heap.lt_size e
  generalize s.heap.push ot = h1 at k1 t1 z1 ⊢
  generalize hoi : ({ cls := .type "tuple_iterator", data := .fields #[.ref s.heap.objs.size, .int 0 0] } : Obj) = oi
  dsimp only
  have i2 : (h1.push oi).IsTupleIter h1.objs.size s.heap.objs.size 0 := ⟨oi, Heap.get?_push_size _ (by rw [← hoi]; rfl), by rw [← hoi], by rw [← hoi]; rfl⟩
  have t2 : (h1.push oi).IsTuple s.heap.objs.size #[a, b] := t1.push _
  have z2 : h1.objs.size < (h1.push oi).objs.size := by rw [Heap.size_push]; exact Nat.lt_succ_self _
  have k2 : ∀ c o, s.heap.get? c = some o → (h1.push oi).get? c = some o := fun c o e => Heap.get?_push_of_some _ (k1 c o e)
  generalize hI : h1.objs.size = I at i2 z1 z2 ⊢
  generalize hT : s.heap.objs.size = T at i2 t2 z1 zs ⊢
  generalize h1.push oi = h2 at i2 t2 z2 k2 ⊢
  refine wpAny_bind (m := newList []) (wpAny_newObj_type ?_)
  generalize hol : ({ cls := .type "list", dict := none, data := .seq ([] : List Value).toArray } : Obj) = ol
  have gS : (h2.push ol).get? h2.objs.size = some { cls := .type "list", dict := none, data := .seq #[] 0, slots := #[] } := by rw [← hol]; exact Heap.get?_push_size _ rfl
  have i3 : (h2.push ol).IsTupleIter I T 0 := by
    obtain ⟨o, e, c, d⟩ := i2
    exact ⟨o, Heap.get?_push_of_some _ e, c, d⟩
  have t3 := t2.push ol
  have k3 : ∀ c o, s.heap.get? c = some o → (h2.push ol).get? c = some o := fun c o e => Heap.get?_push_of_some _ (k2 c o e)
  have nSI : h2.objs.size ≠ I := Nat.ne_of_gt z2
  have nST : h2.objs.size ≠ T := Nat.ne_of_gt (Nat.lt_trans z1 z2)
  have nS : ∀ c o, s.heap.get? c = some o → c ≠ h2.objs.size := fun c o e => Nat.ne_of_lt (Nat.lt_trans (zs c o e) (Nat.lt_trans z1 z2))
  have nI : ∀ c o, s.heap.get? c = some o → c ≠ I := fun c o e => Nat.ne_of_lt (Nat.lt_trans (zs c o e) z1)
  generalize h2.objs.size = S at gS nSI nST nS ⊢
  generalize h2.push ol = h3 at gS i3 t3 k3 ⊢
  have W : Walks prog w A.in1 I [I, T] [I] 2 (fun i v => (#[a, b] : Array Value)[i]? = some v) (fun i h => h.IsTupleIter I T i ∧ h.IsTuple T #[a, b]) := Walks.tuple (A := A.in1) hh I T (Nat.ne_of_lt z1) #[a, b]
  rw [nm]
  refine wpAny_pure ⟨plainId_quiet F.plain_max_loop _, ?_⟩
  -- the first item
  refine codeAny_builtin F.entry_max_loop ?_
  rw [Around.under_plainId F.plain_max_loop _]
  refine wpAny_bind (m := seqItems? (.ref S)) (wpAny_seqItems gS rfl ?_)
  show wpAny _ A.in1 (tryCatch (pyNext (.ref I)) _ >>= _) _ _ _
  refine wpAny_bind (wpAny_tryCatch (W.item 0 _ _ _ (by decide) ⟨i3, t3⟩ fun v h4 tk hv st4 q4 => ?_))
  have ev : a = v := Option.some.inj hv
  subst ev
  have g4 := q4 S _ (by simpa using nSI) gS
  have k4 : ∀ c o, s.heap.get? c = some o → h4.get? c = some o := fun c o e => q4 c o (by simpa using nI c o e) (k3 c o e)
  refine wpAny_bind (m := updateSeq S _) ?_
  refine wpAny_updateSeq g4 rfl ?_
  rw [nm]
  have st5 := W.frame 1 _ (h4.update S (Obj.mapSeq fun _ => #[a, a])) st4 fun c hc o e => by
    rw [Heap.get?_update_other _ _ (fun z => by subst z; simp at hc; rcases hc with z | z <;> contradiction)]; exact e
  have g5 := Heap.get?_update_self (Obj.mapSeq fun _ => #[a, a]) g4 rfl
  have k5 : ∀ c o, s.heap.get? c = some o → (h4.update S (Obj.mapSeq fun _ => #[a, a])).get? c = some o := fun c o e => (Heap.get?_update_other _ _ (Ne.symm (nS c o e))).trans (k4 c o e)
  dsimp only
  generalize h4.update S (Obj.mapSeq fun _ => #[a, a]) = h5 at st5 g5 k5 ⊢
  refine wpAny_pure ⟨plainId_quiet F.plain_max_loop _, ?_⟩
  -- the second
  refine codeAny_builtin F.entry_max_loop ?_
  rw [Around.under_plainId F.plain_max_loop _]
  refine wpAny_bind (m := seqItems? (.ref S)) (wpAny_seqItems g5 rfl ?_)
  show wpAny _ A.in1 (tryCatch (pyNext (.ref I)) _ >>= _) _ _ _
  refine wpAny_bind (wpAny_tryCatch (W.item 1 _ _ _ (by decide) st5 fun v h6 tk6 hv st6 q6 => ?_))
  have ev : b = v := Option.some.inj hv
  subst ev
  have g6 := q6 S _ (by simpa using nSI) g5
  have k6 : ∀ c o, s.heap.get? c = some o → h6.get? c = some o := fun c o e => q6 c o (by simpa using nI c o e) (k5 c o e)
  show wpAny _ A.in1 (tryCatch (holding [b, b] (richCompare .Gt b a >>= _)) _ >>= _) _ _ _
  refine wpAny_bind (wpAny_tryCatch (wpAny_holding (wpAny_bind (hcmp _ _ _ k6 ?_))))
  refine wpAny_bind (wpAny_holding (wpAny_truthy_bool ?_))
  refine wpAny_bind (wpAny_letGo (wpAny_pure ?_))
  -- the end
  have fin : ∀ (s7 : Shared) (v : Value) (c : Nat), s7.heap.IsTupleIter I T 2 ∧ s7.heap.IsTuple T #[a, b] → s7.heap.get? S = some { cls := .type "list", dict := none, data := .seq #[v, v] c, slots := #[] } →
      (∀ c o, s.heap.get? c = some o → s7.heap.get? c = some o) → (∀ h' tk, (∀ c o, s.heap.get? c = some o → h'.get? c = some o) → Q v { s7 with heap := h', toks := tk }) →
      codeAny (model prog w) A (.builtin "max.loop" ⟨[.ref I, .none, .ref S], []⟩) (fun r s' => match r with | .ok (.ret v) => Q v s' | .ok _ => False | .error e => E e s') s7 := fun s7 v c st7 g7 k7 hq => by
    refine codeAny_builtin F.entry_max_loop ?_
    rw [Around.under_plainId F.plain_max_loop _]
    refine wpAny_bind (m := seqItems? (.ref S)) (wpAny_seqItems g7 rfl ?_)
    show wpAny _ A.in1 (tryCatch (pyNext (.ref I)) _ >>= _) _ _ _
    refine wpAny_bind (wpAny_tryCatch (W.done _ _ _ st7 fun h8 tk8 q8 => ?_))
    have g8 := q8 S _ (by simpa using nSI) g7
    refine wpAny_bind (m := updateSeq S _) ?_
    refine wpAny_updateSeq g8 rfl (wpAny_bind (wpAny_letGo (wpAny_pure ?_)))
    exact hq _ tk8 fun c o e => (Heap.get?_update_other _ _ (Ne.symm (nS c o e))).trans (q8 c o (by simpa using nI c o e) (k7 c o e))
  cases bt with
  | true =>
    simp only [if_true]
    refine wpAny_bind (m := updateSeq S _) ?_
    refine wpAny_updateSeq g6 rfl (wpAny_bind (wpAny_letGo ?_))
    rw [nm]
    refine wpAny_pure ⟨plainId_quiet F.plain_max_loop _, fin _ b _ (W.frame 2 _ _ st6 fun c hc o e => ?_) (Heap.get?_update_self _ g6 rfl) (fun c o e => ?_) fun h' tk k => ?_⟩
    · exact (Heap.get?_update_other _ _ (fun z => by subst z; simp at hc; rcases hc with z | z <;> contradiction)).trans e
    · exact (Heap.get?_update_other _ _ (Ne.symm (nS c o e))).trans (k6 c o e)
    · have := h h' tk k
      rw [if_pos rfl] at this
      exact this
  | false =>
    simp only [Bool.false_eq_true, if_false]
    refine wpAny_bind (wpAny_letGo ?_)
    rw [nm]
    refine wpAny_pure ⟨plainId_quiet F.plain_max_loop _, fin _ a _ st6 g6 k6 fun h' tk k => ?_⟩
    have := h h' tk k
    rw [if_neg Bool.false_ne_true] at this
    exact this
end
end BF

namespace BF
open PySem PySem.Spec PyProof.Rows
section
/-- what u > t answers of two tuples of ints -/
def lexGt : List Int → List Int → Bool
  | x :: xs, y :: ys => if x = y then lexGt xs ys else decide (y < x)
  | _ :: _, [] => true
  | [], _ => false
theorem lexGt_lt : ∀ (xs ys : List Int), lexGt xs ys = HT.lexLt ys xs
  | [], [] => rfl
  | [], _ :: _ => rfl
  | _ :: _, [] => rfl
  | x :: xs, y :: ys => by
    show (if x = y then lexGt xs ys else decide (y < x)) = (if y = x then HT.lexLt ys xs else decide (y < x))
    by_cases h : x = y
    · rw [if_pos h, if_pos h.symm, lexGt_lt xs ys]
    · rw [if_neg h, if_neg (Ne.symm h)]
open PySem.SeqAt
open PySem.AutoSeq1 (wpAny_loadPart')
open PySem.MeetsSeq PySem.MeetsSeq2 PySem.MeetsSeq3
theorem tuple_gt_ints (l b : Addr) (pa pb : Array Value) (n n2 : Nat) (dd dd2 : Option Addr) (sl sl2 : Array (Option Value)) (ns ms : List Int) (hi : IntsAre pa.toList ns) (hj : IntsAre pb.toList ms) :
    Meets (Builtin.«tuple.__gt__» ⟨[.ref l, .ref b], []⟩)
      (fun _ R s => s.heap.get? l = some { cls := .type "tuple", dict := dd, data := .seq pa n, slots := sl } ∧ s.heap.get? b = some { cls := .type "tuple", dict := dd2, data := .seq pb n2, slots := sl2 } ∧
        R (.ok (.ret (.bool (lexGt ns ms)))) s) :=
  .of_wp fun prog w A R s h => by
    obtain ⟨hp, g, d, tk, os⟩ := s
    obtain ⟨hl, hb, h⟩ := h
    have f2 := AutoSeq1.sub_tuple_tuple
    have z1 : pa.size = ns.length := by rw [← hi.length]; simp
    have z2 : pb.size = ms.length := by rw [← hj.length]; simp
    wp_walk using wpAny_loadPart' hl, wpAny_loadPart' hb, wpAny_forIn_list _ (fun rest q s' => q.1 = none ∧ s' = ⟨hp, g, d, tk, os⟩ ∧ ∃ (vs ws : List Value) (xs ys : List Int), rest = vs.zip ws ∧
      IntsAre vs xs ∧ IntsAre ws ys ∧ xs.length + pb.size = ys.length + pa.size ∧ R (.ok (.ret (.bool (lexGt xs ys)))) ⟨hp, g, d, tk, os⟩) _
    case turn =>
      rintro ⟨y, x⟩ rest q s' ⟨hq, rfl, vs, ws, xs, ys, hz, ix, iy, hlen, hR⟩
      cases ix with
      | nil => rw [List.zip_nil_left] at hz; cases hz
      | cons a t ix' =>
        cases iy with
        | nil => rw [List.zip_nil_right] at hz; cases hz
        | cons c u iy' =>
          rw [List.zip_cons_cons] at hz
          injection hz with hd hrest
          injection hd with e1 e2
          subst e1 e2
          simp only [List.length_cons] at hlen
          obtain ⟨e, he, hiff⟩ := HT.eqAt_int A.in1 ⟨hp, g, d, tk, os⟩ a t c u
          refine wpAny_bind (he prog w _ _ ?_)
          cases e with
          | true =>
            have hR' := hR
            rw [show lexGt (a :: _) (c :: _) = _ from if_pos (hiff.mp rfl)] at hR'
            wp_walk
            exact ⟨rfl, rfl, _, _, _, _, hrest, ix', iy', by omega, hR'⟩
          | false =>
            have hR' := hR
            rw [show lexGt (a :: _) (c :: _) = _ from if_neg (fun q => absurd (hiff.mpr q) Bool.false_ne_true)] at hR'
            have hri : ∀ (E : Value → Shared → Prop) (Q : Value → Shared → Prop), Q (.bool (decide (a > c))) ⟨hp, g, d, tk, os⟩ → wpAny (model prog w) A.in1 (richCompare .Gt (.int a t) (.int c u)) Q E ⟨hp, g, d, tk, os⟩ :=
              fun E Q h => (PyProof.Rows.gt_int h : wpAny (model prog w) A.in1 (compareOp .Gt (.int a t) (.int c u)) Q E ⟨hp, g, d, tk, os⟩)
            wp_walk using hri
            exact ⟨_, rfl, by simpa using hR'⟩
    case fin =>
      rintro ⟨b1, b2⟩ s' ⟨hq, rfl, vs, ws, xs, ys, hz, ix, iy, hlen, hR⟩
      simp only at hq
      subst hq
      have hv : lexGt xs ys = decide (pb.size < pa.size) := by
        cases ix with
        | nil =>
          simp only [List.length_nil] at hlen
          exact (decide_eq_false (by omega)).symm
        | cons a t hv =>
          cases iy with
          | nil =>
            simp only [List.length_nil, List.length_cons] at hlen
            exact (decide_eq_true (by omega)).symm
          | cons c u hw =>
            rw [List.zip_cons_cons] at hz
            cases hz
      rw [hv] at hR
      wp_walk
      exact ⟨_, rfl, by simpa [Builtin.Tuple.tupleCompareSizes] using hR⟩
    case h =>
      exact ⟨rfl, rfl, pa.toList, pb.toList, ns, ms, rfl, hi, hj, by omega, h⟩
end
section
variable {prog : Program} {w : World} {A : Around} {E : Value → Shared → Prop} {s : Shared}
theorem gt_tupInts {l b : Addr} {pa pb : Array Value} {ns ms : List Int} {Q : Value → Shared → Prop} (hl : IsTup s.heap l pa) (hb : IsTup s.heap b pb) (hi : IntsAre pa.toList ns) (hj : IntsAre pb.toList ms)
    (hu : A.units < cLine) (h : Q (.bool (HT.lexLt ms ns)) s) : wpAny (model prog w) A (compareOp .Gt (.ref l) (.ref b)) Q E s := by
  obtain ⟨⟨cls, dd, data, sl⟩, ho, hc, n, hd⟩ := id hl
  obtain ⟨⟨cls2, dd2, data2, sl2⟩, ho2, hc2, n2, hd2⟩ := id hb
  simp only at hc hd hc2 hd2
  subst hc hd hc2 hd2
  rw [← lexGt_lt] at h
  exact richCompare_meets_room (op := .Gt) ⟨_, ho, rfl⟩ ⟨_, ho2, rfl⟩ PySem.F.slot_tuple_gt PySem.F.entry_tuple_gt (PySem.F.args_tuple_gt_2 _ _) (tuple_gt_ints l b pa pb n n2 dd dd2 sl sl2 ns ms hi hj)
    ⟨ho, ho2, show Value.bool (lexGt ns ms) ≠ Value.notImplemented ∧ Q (.bool (lexGt ns ms)) s from ⟨(fun x => nomatch x), h⟩⟩ hu
end
section
open L2
variable {X : Cx}
theorem isTup_keep {h h' : Heap} {l : Addr} {xs : Array Value} (p : IsTup h l xs) (k : ∀ c o, h.get? c = some o → h'.get? c = some o) : IsTup h' l xs := by
  obtain ⟨o, e, r⟩ := p
  exact ⟨o, k _ _ e, r⟩
/-- min(t, u), max(t, u) of two tuples of ints -/
theorem call_minT (hc : X.calm = true) (hu : X.A.units + 1 < cLine) : CallR X (.builtin "min") (fun xs H Q => ∃ a b ns ms, xs = [.ref a, .ref b] ∧ SqT X.K H a (ns.map V.int) ∧ SqT X.K H b (ms.map V.int) ∧ Q (if HT.lexLt ms ns = true then .ref b else .ref a) H) := by
  intro pins s σ H xs us Q I r h
  obtain ⟨a, b, ns, ms, rfl, ha, hb, q⟩ := h
  obtain ⟨u, w', rfl, r1, r2⟩ := vals2 r
  cases r1
  cases r2
  obtain ⟨its, r1, p1, _⟩ := I.tuple ha
  obtain ⟨its2, r2, p2, _⟩ := I.tuple hb
  refine two_min (bt := HT.lexLt ms ns) (I.ok.hd hc) (fun s' Q' E' k hq => ?_) fun h' tk k => ⟨_, H, I.kept k, ?_, q⟩
  · exact HT.lt_tupInts (A := X.A.in1) (isTup_keep p2 k) (isTup_keep p1 k) (intsAre_of r2) (intsAre_of r1) hu hq
  · cases HT.lexLt ms ns <;> rfl
theorem call_maxT (hc : X.calm = true) (hu : X.A.units + 1 < cLine) : CallR X (.builtin "max") (fun xs H Q => ∃ a b ns ms, xs = [.ref a, .ref b] ∧ SqT X.K H a (ns.map V.int) ∧ SqT X.K H b (ms.map V.int) ∧ Q (if HT.lexLt ns ms = true then .ref b else .ref a) H) := by
  intro pins s σ H xs us Q I r h
  obtain ⟨a, b, ns, ms, rfl, ha, hb, q⟩ := h
  obtain ⟨u, w', rfl, r1, r2⟩ := vals2 r
  cases r1
  cases r2
  obtain ⟨its, r1, p1, _⟩ := I.tuple ha
  obtain ⟨its2, r2, p2, _⟩ := I.tuple hb
  refine two_max (bt := HT.lexLt ns ms) (I.ok.hd hc) (fun s' Q' E' k hq => ?_) fun h' tk k => ⟨_, H, I.kept k, ?_, q⟩
  · exact gt_tupInts (A := X.A.in1) (isTup_keep p2 k) (isTup_keep p1 k) (intsAre_of r2) (intsAre_of r1) hu hq
  · cases HT.lexLt ns ms <;> rfl
end
end BF
namespace BF
open PySem PySem.Spec PyProof.Rows L2
/-! what may stand for a hole: a hole, or something else; and the lines of two such -/
theorem pairB_same {H H' : Hp} {u : V} {k : Kn} (kd : Knd H u k) (s : Same H H') : pairB H' u = pairB H u := by
  cases kd with
  | non => rfl
  | bl b => rfl
  | int i => rfl
  | str x => rfl
  | lst e => rw [pairB_lst e, pairB_lst (s _ _ e)]
  | tup e => rw [pairB_tup e, pairB_tup (s _ _ e)]
  | dic e => rw [pairB_dic e, pairB_dic (s _ _ e)]
theorem HoleIs.same {H H' : Hp} {u : V} {b : Bool} (h : HoleIs H u b) (s : Same H H') : HoleIs H' u b := by
  cases h with
  | no kd h => exact .no (kd.same s) ((pairB_same kd s).trans h)
  | two e ha hb hr => exact .two (s _ _ e) (ha.same s) (hb.same s) hr
inductive HD (H : Hp) : V → Option (Int × Int) → Prop where
  | hole {p : Addr} {x y : Int} (e : H p = some (.tup [.int x, .int y])) (g : (good (.int x) && good (.int y)) = true) : HD H (.ref p) (some (x, y))
  | not {u : V} (h : HoleIs H u false) : HD H u none
theorem HD.same {H H' : Hp} {u : V} {d : Option (Int × Int)} (h : HD H u d) (s : Same H H') : HD H' u d := by
  cases h with
  | hole e g => exact .hole (s _ _ e) g
  | not h => exact .not (h.same s)
def lnB : Option (Int × Int) → Option (Int × Int) → Bool
  | some (x, y), some (z, w) => HT.lexLt [x, y] [z, w] && nearB x y z w
  | _, _ => false
def goodB : Option (Int × Int) → Option (Int × Int) → Bool
  | some (x, y), some (z, w) => (!Dt.beq (.tup [.int x, .int y]) (.tup [.int z, .int w])) && nearB x y z w
  | _, _ => false
theorem lineHD {H : Hp} {p : Addr} {u v : V} {du dv : Option (Int × Int)} (e : H p = some (.tup [u, v])) (hu : HD H u du) (hv : HD H v dv) : LineIs H (.ref p) (lnB du dv) := by
  cases hu with
  | not h => exact .no1 e h
  | hole e1 g1 =>
    cases hv with
    | not h => exact .no2 e (.two e1 (.int _) (.int _) g1) h
    | hole e2 g2 => exact .two e e1 e2 g1 g2 rfl
theorem nearB_comm (x y z w : Int) : nearB x y z w = nearB z w x y := by
  unfold nearB
  have h1 : ∀ a b : Int, (if a - b < 0 then -(a - b) else a - b) = (if b - a < 0 then -(b - a) else b - a) := fun a b => by
    split <;> split <;> omega
  rw [h1 x z, h1 y w]
theorem lex2 (x y z w : Int) : HT.lexLt [x, y] [z, w] = (decide (x < z) || (decide (x = z) && decide (y < w))) := by
  show (if x = z then (if y = w then false else decide (y < w)) else decide (x < z)) = _
  by_cases h : x = z
  · rw [if_pos h, decide_eq_true h, decide_eq_false (by omega : ¬ x < z)]
    by_cases k : y = w
    · rw [if_pos k, decide_eq_false (by omega : ¬ y < w)]; rfl
    · rw [if_neg k]; simp
  · rw [if_neg h, decide_eq_false h]; simp
theorem beq2 (x y z w : Int) : Dt.beq (.tup [.int x, .int y]) (.tup [.int z, .int w]) = (decide (x = z) && decide (y = w)) := by
  show ((x == z) && ((y == w) && true)) = _
  rw [Bool.and_true]
  rfl
/-- two holes apart and near: one of the two ways is a line -/
theorem lex_irr (x y : Int) : HT.lexLt [x, y] [x, y] = false := by
  rw [lex2]; simp
theorem lex_asy {x y z w : Int} (h : HT.lexLt [x, y] [z, w] = true) : HT.lexLt [z, w] [x, y] = false := by
  rw [lex2] at h ⊢
  simp at h ⊢
  omega
theorem good_ln (du dv : Option (Int × Int)) : goodB du dv = (lnB du dv || lnB dv du) := by
  cases du with
  | none => cases dv <;> rfl
  | some a =>
    cases dv with
    | none => rfl
    | some b =>
      obtain ⟨x, y⟩ := a
      obtain ⟨z, w⟩ := b
      show (_ && _) = ((_ && _) || (_ && _))
      rw [nearB_comm z w x y, ← Bool.and_or_distrib_right, beq2, lex2, lex2]
      congr 1
      by_cases h1 : x < z
      · have h2 : ¬ x = z := by omega
        simp [h1, h2]
      · by_cases h2 : x = z
        · subst h2
          by_cases h3 : y < w
          · have h4 : ¬ y = w := by omega
            simp [h3, h4]
          · by_cases h4 : y = w
            · subst h4; simp
            · have h5 : w < y := by omega
              simp [h3, h4, h5]
        · have h3 : z < x := by omega
          simp [h1, h2, h3]
/-- a def that may raise -/
theorem fun_okX {P : Program} {w : World} {K : PySem.W.Frag} {mg : Str → Option Value} {base : Heap} {x qual : Str} {st : Stmt} {f : Addr} {fd : FuncData} {N ps : List Str} {k : Nat} {sp : Sp} (F : Fun K x qual st f fd) (S : FnScope N ps (defScope st)) (len : ∀ vs H Q E, sp vs H Q E → vs.length = ps.length)
    (hbody : ∀ (cdv : Value) (A : Around) (outer : List Env) (s : Shared) (H : Hp) (vs : List V) (Q : VK) (E : XK), Room k (A.deeper (envOfC qual (defScope st) s.heap.objs.size f cdv)) → sp vs H Q E →
      ∃ t, PSs (cxOf (CXE P w) P w K mg base N qual (defScope st) f cdv A outer s H E) (defBody st) t ∧ t { nx := fun _ H' => Q .non H', rt := Q } (start N vs) H) : FnOk P w K mg base (CXE P w) (k + 1) f fd ps sp := by
  obtain ⟨oc, od, kV, doc, pm, an, cdv, ct, osl, rfl, lk, hcd⟩ := F.ex
  exact fn_of lk hcd S len fun A outer s H vs Q E hr hsp => hbody cdv A outer s H vs Q E hr hsp
end BF
namespace K02
open PySem PySem.Spec PyProof.Rows L2 BF
seal L2.PE L2.PA L2.PS L2.PSs L2.PT L2.PW L2.PG L2.PI BF.PTs L2.PO BF.PIH
def top (i : Nat) : Stmt := PySem.Challenge.pw_bothfaces_k02_lines.main.body.getD i (.Pass ⟨0, 0, 0, 0⟩)
abbrev sWhole : Stmt := top 22
abbrev sPair : Stmt := top 23
abbrev sWithin : Stmt := top 24
abbrev sHole : Stmt := top 25
abbrev sNear : Stmt := top 26
abbrev sOrd : Stmt := top 27
abbrev sAre : Stmt := top 29
abbrev sLine : Stmt := top 28
abbrev sMake : Stmt := top 30
abbrev sLWhole : Stmt := top 33
abbrev sLHole : Stmt := top 34
abbrev sKind : Stmt := top 36
abbrev sOther : Stmt := top 37
abbrev sGood : Stmt := top 38
abbrev sTold : Stmt := top 39
abbrev sLaw : Stmt := top 40

structure Blt (mg : Str → Option Value) : Prop where
  isi : mg "isinstance" = none
  int : mg "int" = none
  bool : mg "bool" = none
  tuple : mg "tuple" = none
  len : mg "len" = none
  abs : mg "abs" = none
  list : mg "list" = none
  min : mg "min" = none
  max : mg "max" = none
  val : mg "ValueError" = none
  far : ∃ t, mg "FARTHEST" = some (.int 1000000000 t)
  lng : ∃ t, mg "LONGEST" = some (.int 9 t)

def spWhole : Sp := fun vs H Q _ => ∃ u k, vs = [u] ∧ Knd H u k ∧ Q (.bl (wholeV u)) H
def spPair : Sp := fun vs H Q _ => ∃ u k, vs = [u] ∧ Knd H u k ∧ Q (.bl (pairB H u)) H
def spWithin : Sp := fun vs H Q _ => ∃ u k, vs = [u] ∧ Knd H u k ∧ Q (.bl (good u)) H
def spHole : Sp := fun vs H Q _ => ∃ u b, vs = [u] ∧ HoleIs H u b ∧ Q (.bl b) H
def spNear : Sp := fun vs H Q _ => ∃ q r x y z w, vs = [.ref q, .ref r] ∧ H q = some (.tup [.int x, .int y]) ∧ H r = some (.tup [.int z, .int w]) ∧ Q (.bl (nearB x y z w)) H
def spLine : Sp := fun vs H Q _ => ∃ u b, vs = [u] ∧ LineIs H u b ∧ Q (.bl b) H
section
variable {P : Program} {w : World} {K : PySem.W.Frag} {mg : Str → Option Value} {base : Heap}

theorem scWhole : FnScope ["thing"] ["thing"] (defScope sWhole) := ⟨rfl, rfl, rfl, by decide +kernel, rfl, by decide +kernel, by decide +kernel⟩
theorem ok_whole {f : Addr} {fd : FuncData} (D : Df K mg "is_whole" sWhole f fd) (B : Blt mg) : FnOk P w K mg base CX0 1 f fd ["thing"] spWhole := by
  refine D.F.ok scWhole (fun vs H Q E h => ?_) (fun cdv A outer s H vs Q E hr h => ?_)
  · obtain ⟨u, k, rfl, _⟩ := h
    rfl
  · obtain ⟨u, k, rfl, kd, q⟩ := h
    refine ⟨_, pss_one (ps_ret (pe_and (pe_callB call_isi (by rfl) B.isi boot_isinstance (pa_cons (pv 0) (pa_cons (pe_bltn (v := .ty "int") (by rfl) B.int boot_int rfl) pa_nil)))
      (pe_one (pe_not (pe_callB call_isi (by rfl) B.isi boot_isinstance (pa_cons (pv 0) (pa_cons (pe_bltn (v := .ty "bool") (by rfl) B.bool boot_bool rfl) pa_nil))))))), ?_⟩
    refine ⟨_, rfl, u, k, .int, rfl, kd, _, rfl, ?_⟩
    cases kd with
    | int i => exact iteT ⟨_, rfl, _, _, .bl, rfl, .int i, _, rfl, q⟩
    | bl b => exact iteT ⟨_, rfl, _, _, .bl, rfl, .bl b, _, rfl, q⟩
    | non => exact iteF q
    | str x => exact iteF q
    | lst e => exact iteF q
    | tup e => exact iteF q
    | dic e => exact iteF q

theorem scPair : FnScope ["thing"] ["thing"] (defScope sPair) := ⟨rfl, rfl, rfl, by decide +kernel, rfl, by decide +kernel, by decide +kernel⟩
theorem ok_pair {f : Addr} {fd : FuncData} (D : Df K mg "is_pair" sPair f fd) (B : Blt mg) : FnOk P w K mg base CX0 1 f fd ["thing"] spPair := by
  refine D.F.ok scPair (fun vs H Q E h => ?_) (fun cdv A outer s H vs Q E hr h => ?_)
  · obtain ⟨u, k, rfl, _⟩ := h
    rfl
  · obtain ⟨u, k, rfl, kd, q⟩ := h
    refine ⟨_, pss_one (ps_ret (pe_and (pe_callB call_isi (by rfl) B.isi boot_isinstance (pa_cons (pv 0) (pa_cons (pe_bltn (v := .ty "tuple") (by rfl) B.tuple boot_tuple rfl) pa_nil)))
      (pe_one (pe_cmpR op_eq (pe_callB call_len_seq (by rfl) B.len PySem.boot_len (pa_cons (pv 0) pa_nil)) pe_int (nomark _))))), ?_⟩
    refine ⟨_, rfl, u, k, .tup, rfl, kd, _, rfl, ?_⟩
    cases kd with
    | @tup a xs e =>
      rw [pairB_tup e, ← dec_len] at q
      exact iteT ⟨_, rfl, a, xs, rfl, .inr (SqT.of e), rfl, q⟩
    | int i => exact iteF q
    | bl b => exact iteF q
    | non => exact iteF q
    | str x => exact iteF q
    | lst e => rw [pairB_lst e] at q; exact iteF q
    | dic e => rw [pairB_dic e] at q; exact iteF q

theorem scWithin : FnScope ["thing"] ["thing"] (defScope sWithin) := ⟨rfl, rfl, rfl, by decide +kernel, rfl, by decide +kernel, by decide +kernel⟩
theorem ok_within {f fW : Addr} {fd fdW : FuncData} (D : Df K mg "is_within" sWithin f fd) (DW : Df K mg "is_whole" sWhole fW fdW) (bW : Binds K fdW ["thing"] []) (B : Blt mg) : FnOk P w K mg base CX0 2 f fd ["thing"] spWithin := by
  have GW : FnOk P w K mg base CX0 1 fW fdW ["thing"] spWhole := ok_whole DW B
  obtain ⟨tf, far⟩ := B.far
  refine D.F.ok scWithin (fun vs H Q E h => ?_) (fun cdv A outer s H vs Q E hr h => ?_)
  · obtain ⟨u, k, rfl, _⟩ := h
    rfl
  · obtain ⟨u, k, rfl, kd, q⟩ := h
    refine ⟨_, pss_one (ps_ret (pe_and (pe_call GW hr rfl DW.m DW.F.kp bW .nil pass0 (pa_cons (pv 0) pa_nil))
      (pe_one (pe_chain op_le op_le (pe_un un_neg (pe_glob (v := .int 1000000000) rfl far ⟨_, rfl⟩)) (pv 0) (pe_glob (v := .int 1000000000) rfl far ⟨_, rfl⟩))))), ?_⟩
    refine ⟨_, rfl, u, k, rfl, kd, _, rfl, ?_⟩
    cases kd with
    | int i =>
      refine iteT ⟨_, rfl, _, rfl, _, _, rfl, rfl, _, rfl, ?_⟩
      by_cases h1 : -1000000000 ≤ i
      · refine ifD_pos h1 ⟨_, _, rfl, rfl, ?_⟩
        have e : good (.int i) = decide (i ≤ 1000000000) := by
          show (decide (-1000000000 ≤ i) && decide (i ≤ 1000000000)) = _
          rw [decide_eq_true h1, Bool.true_and]
        rw [e] at q
        exact q
      · refine ifD_neg h1 ?_
        have e : good (.int i) = false := by
          show (decide (-1000000000 ≤ i) && decide (i ≤ 1000000000)) = _
          rw [decide_eq_false h1, Bool.false_and]
        rw [e] at q
        exact q
    | bl b => exact iteF q
    | non => exact iteF q
    | str x => exact iteF q
    | lst e => exact iteF q
    | tup e => exact iteF q
    | dic e => exact iteF q

theorem scHole : FnScope ["thing"] ["thing"] (defScope sHole) := ⟨rfl, rfl, rfl, by decide +kernel, rfl, by decide +kernel, by decide +kernel⟩
theorem ok_hole {f fP fI : Addr} {fd fdP fdI : FuncData} (D : Df K mg "is_hole" sHole f fd) (DP : Df K mg "is_pair" sPair fP fdP) (bP : Binds K fdP ["thing"] []) (GP : FnOk P w K mg base CX0 1 fP fdP ["thing"] spPair)
    (DI : Df K mg "is_within" sWithin fI fdI) (bI : Binds K fdI ["thing"] []) (GI : FnOk P w K mg base CX0 2 fI fdI ["thing"] spWithin) : FnOk P w K mg base CX0 3 f fd ["thing"] spHole := by
  refine D.F.ok scHole (fun vs H Q E h => ?_) (fun cdv A outer s H vs Q E hr h => ?_)
  · obtain ⟨u, k, rfl, _⟩ := h
    rfl
  · obtain ⟨u, b, rfl, hh, q⟩ := h
    have hr1 : Room 1 _ := hr.mono (by decide)
    refine ⟨_, pss_one (ps_ret (pe_and (pe_call GP hr1 rfl DP.m DP.F.kp bP .nil pass0 (pa_cons (pv 0) pa_nil))
      (pe_and (pe_call GI hr rfl DI.m DI.F.kp bI .nil pass0 (pa_cons (pe_ix ix_tup (pv 0) pe_int (fun _ _ => rfl)) pa_nil))
      (pe_one (pe_call GI hr rfl DI.m DI.F.kp bI .nil pass0 (pa_cons (pe_ix ix_tup (pv 0) pe_int (fun _ _ => rfl)) pa_nil)))))), ?_⟩
    cases hh with
    | @no _ k kd hp =>
      refine ⟨_, rfl, u, k, rfl, kd, _, rfl, ?_⟩
      exact ifB_neg hp q
    | @two p x y kx ky _ e hx hy hr' =>
      refine ⟨_, rfl, .ref p, .tup, rfl, .tup e, _, rfl, ?_⟩
      refine ifB_pos (pairB_tup e) ?_
      refine ⟨_, rfl, p, _, _, x, rfl, rfl, SqT.of e, rfl, x, kx, rfl, hx, _, rfl, ?_⟩
      cases g : good x with
      | false =>
        rw [g, Bool.false_and] at hr'
        subst hr'
        exact iteF q
      | true =>
        rw [g, Bool.true_and] at hr'
        subst hr'
        exact iteT ⟨_, rfl, p, _, _, y, rfl, rfl, SqT.of e, rfl, y, ky, rfl, hy, q⟩

theorem scNear : FnScope ["one", "other"] ["one", "other"] (defScope sNear) := ⟨rfl, rfl, rfl, by decide +kernel, rfl, by decide +kernel, by decide +kernel⟩
theorem ok_near {f : Addr} {fd : FuncData} (D : Df K mg "are_near" sNear f fd) (B : Blt mg) : FnOk P w K mg base CX0 1 f fd ["one", "other"] spNear := by
  obtain ⟨tl, lng⟩ := B.lng
  refine D.F.ok scNear (fun vs H Q E h => ?_) (fun cdv A outer s H vs Q E hr h => ?_)
  · obtain ⟨q, r, x, y, z, w', rfl, _⟩ := h
    rfl
  · obtain ⟨q, r, x, y, z, w', rfl, hq, hr', k⟩ := h
    refine ⟨_, pss_one (ps_ret (pe_and
      (pe_cmpR op_le (pe_callB call_abs (by rfl) B.abs boot_abs (pa_cons (pe_op op_sub (pe_ix ix_tup (pv 0) pe_int (fun _ _ => rfl)) (pe_ix ix_tup (pv 1) pe_int (fun _ _ => rfl))) pa_nil)) (pe_glob (v := .int 9) rfl lng ⟨_, rfl⟩) (nomark _))
      (pe_one (pe_cmpR op_le (pe_callB call_abs (by rfl) B.abs boot_abs (pa_cons (pe_op op_sub (pe_ix ix_tup (pv 0) pe_int (fun _ _ => rfl)) (pe_ix ix_tup (pv 1) pe_int (fun _ _ => rfl))) pa_nil)) (pe_glob (v := .int 9) rfl lng ⟨_, rfl⟩) (nomark _))))), ?_⟩
    refine ⟨_, rfl, q, _, _, .int x, rfl, rfl, SqT.of hq, rfl, _, rfl, r, _, _, .int z, rfl, rfl, SqT.of hr', rfl, _, _, rfl, rfl, _, rfl, _, _, rfl, rfl, _, rfl, ?_⟩
    cases g : decide ((if x - z < 0 then -(x - z) else x - z) ≤ 9) with
    | false =>
      have e : nearB x y z w' = false := by unfold nearB; rw [g, Bool.false_and]
      rw [e] at k
      exact iteF k
    | true =>
      have e : nearB x y z w' = decide ((if y - w' < 0 then -(y - w') else y - w') ≤ 9) := by unfold nearB; rw [g, Bool.true_and]
      rw [e] at k
      exact iteT ⟨_, rfl, q, _, _, .int y, rfl, rfl, SqT.of hq, rfl, _, rfl, r, _, _, .int w', rfl, rfl, SqT.of hr', rfl, _, _, rfl, rfl, _, rfl, _, _, rfl, rfl, k⟩

theorem scLine : FnScope ["thing"] ["thing"] (defScope sLine) := ⟨rfl, rfl, rfl, by decide +kernel, rfl, by decide +kernel, by decide +kernel⟩
theorem ok_line {f fP fH fN : Addr} {fd fdP fdH fdN : FuncData} (D : Df K mg "is_line" sLine f fd) (DP : Df K mg "is_pair" sPair fP fdP) (bP : Binds K fdP ["thing"] []) (GP : FnOk P w K mg base CX0 1 fP fdP ["thing"] spPair)
    (DH : Df K mg "is_hole" sHole fH fdH) (bH : Binds K fdH ["thing"] []) (GH : FnOk P w K mg base CX0 3 fH fdH ["thing"] spHole)
    (DN : Df K mg "are_near" sNear fN fdN) (bN : Binds K fdN ["one", "other"] []) (GN : FnOk P w K mg base CX0 1 fN fdN ["one", "other"] spNear) : FnOk P w K mg base CX0 4 f fd ["thing"] spLine := by
  refine D.F.ok scLine (fun vs H Q E h => ?_) (fun cdv A outer s H vs Q E hr h => ?_)
  · obtain ⟨u, k, rfl, _⟩ := h
    rfl
  · obtain ⟨u, b, rfl, hh, q⟩ := h
    have hr1 : Room 1 _ := hr.mono (by decide)
    refine ⟨_, pss_cons (ps_if (pt_not (PW.pt (pw_and (pt_val (pe_call GP hr1 rfl DP.m DP.F.kp bP .nil pass0 (pa_cons (pv 0) pa_nil)))
        (pw_and (pt_val (pe_call GH hr rfl DH.m DH.F.kp bH .nil pass0 (pa_cons (pe_ix ix_tup (pv 0) pe_int (fun _ _ => rfl)) pa_nil)))
        (pw_and1 (pt_val (pe_call GH hr rfl DH.m DH.F.kp bH .nil pass0 (pa_cons (pe_ix ix_tup (pv 0) pe_int (fun _ _ => rfl)) pa_nil))))))))
        (pss_one (ps_ret pe_bl)) pss_nil)
      (pss_one (ps_ret (pe_and (pe_cmpR (op_ltT (hr1.units0)) (pe_ix ix_tup (pv 0) pe_int (fun _ _ => rfl)) (pe_ix ix_tup (pv 0) pe_int (fun _ _ => rfl)) (nomark _))
        (pe_one (pe_call GN hr1 rfl DN.m DN.F.kp bN .nil pass0 (pa_cons (pe_ix ix_tup (pv 0) pe_int (fun _ _ => rfl)) (pa_cons (pe_ix ix_tup (pv 0) pe_int (fun _ _ => rfl)) pa_nil))))))), ?_⟩
    cases hh with
    | @no _ k kd hp =>
      refine ⟨_, rfl, u, k, rfl, kd, _, rfl, ?_⟩
      rw [hp]
      exact iteF (iteT q)
    | @no1 p x y e hx =>
      refine ⟨_, rfl, .ref p, .tup, rfl, .tup e, _, rfl, ?_⟩
      refine ifB_pos (pairB_tup e) ?_
      refine ⟨_, rfl, p, _, _, x, rfl, rfl, SqT.of e, rfl, x, false, rfl, hx, _, rfl, ?_⟩
      exact iteF (iteT q)
    | @no2 p x y e hx hy =>
      refine ⟨_, rfl, .ref p, .tup, rfl, .tup e, _, rfl, ?_⟩
      refine ifB_pos (pairB_tup e) ?_
      refine ⟨_, rfl, p, _, _, x, rfl, rfl, SqT.of e, rfl, x, true, rfl, hx, _, rfl, ?_⟩
      refine iteT ⟨_, rfl, p, _, _, y, rfl, rfl, SqT.of e, rfl, y, false, rfl, hy, _, rfl, ?_⟩
      exact iteT q
    | @two p q1 r1 x y z w' _ e hq hr' gq gr hc =>
      refine ⟨_, rfl, .ref p, .tup, rfl, .tup e, _, rfl, ?_⟩
      refine ifB_pos (pairB_tup e) ?_
      refine ⟨_, rfl, p, _, _, .ref q1, rfl, rfl, SqT.of e, rfl, .ref q1, true, rfl, .two hq (.int x) (.int y) gq, _, rfl, ?_⟩
      refine iteT ⟨_, rfl, p, _, _, .ref r1, rfl, rfl, SqT.of e, rfl, .ref r1, true, rfl, .two hr' (.int z) (.int w') gr, _, rfl, ?_⟩
      refine iteF ?_
      refine ⟨_, rfl, p, _, _, .ref q1, rfl, rfl, SqT.of e, rfl, _, rfl, p, _, _, .ref r1, rfl, rfl, SqT.of e, rfl, q1, r1, [x, y], [z, w'], rfl, rfl, SqT.of hq, SqT.of hr', _, rfl, ?_⟩
      cases g : HT.lexLt [x, y] [z, w'] with
      | false =>
        rw [g, Bool.false_and] at hc
        subst hc
        exact iteF q
      | true =>
        rw [g, Bool.true_and] at hc
        subst hc
        exact iteT ⟨_, rfl, p, _, _, .ref q1, rfl, rfl, SqT.of e, rfl, _, rfl, p, _, _, .ref r1, rfl, rfl, SqT.of e, rfl, q1, r1, x, y, z, w', rfl, hq, hr', q⟩

/-! the law's own defs -/
def hx (n f : Int) : Int := if f = 3 then n * 69621 % 2000000001 - 1000000000 else if f = 1 then 1000000000 - n % 11 else n % 11 - 5
def hy (n f : Int) : Int := if f = 3 then n * 40692 % 2000000001 - 1000000000 else if f = 2 then n / 11 % 11 - 1000000000 else n / 11 % 11 - 5
theorem good_of {i : Int} (h1 : -1000000000 ≤ i) (h2 : i ≤ 1000000000) : good (.int i) = true := by
  show (decide (-1000000000 ≤ i) && decide (i ≤ 1000000000)) = _
  rw [decide_eq_true h1, decide_eq_true h2]; rfl
theorem good_sub {a m b : Int} (h0 : 0 < m) (h1 : b ≤ 1000000000) (h2 : m - b ≤ 1000000001) : good (.int (a % m - b)) = true := by
  have p := Int.emod_nonneg a (Int.ne_of_gt h0)
  have q := Int.emod_lt_of_pos a h0
  exact good_of (by omega) (by omega)
theorem hx_good (n f : Int) : good (.int (hx n f)) = true := by
  unfold hx
  split
  · exact good_sub (by decide) (by decide) (by decide)
  · split
    · have p := Int.emod_nonneg n (show (11 : Int) ≠ 0 by decide)
      have q := Int.emod_lt_of_pos n (show (0 : Int) < 11 by decide)
      exact good_of (by omega) (by omega)
    · exact good_sub (by decide) (by decide) (by decide)
theorem hy_good (n f : Int) : good (.int (hy n f)) = true := by
  unfold hy
  split
  · exact good_sub (by decide) (by decide) (by decide)
  · split
    · exact good_sub (by decide) (by decide) (by decide)
    · exact good_sub (by decide) (by decide) (by decide)
def spLHole : Sp := fun vs H Q _ => ∃ n f, vs = [.int n, .int f] ∧ ∀ p, H p = none → Q (.ref p) (upd H p (.tup [.int (hx n f), .int (hy n f)]))
theorem scLHole : FnScope ["_law_number", "_law_far", "_law_x", "_law_y"] ["_law_number", "_law_far"] (defScope sLHole) := ⟨rfl, rfl, rfl, by decide +kernel, rfl, by decide +kernel, by decide +kernel⟩
theorem ok_lhole {f : Addr} {fd : FuncData} (D : Df K mg "_law_hole" sLHole f fd) : FnOk P w K mg base CX0 1 f fd ["_law_number", "_law_far"] spLHole := by
  refine D.F.ok scLHole (fun vs H Q E h => ?_) (fun cdv A outer s H vs Q E hr h => ?_)
  · obtain ⟨n, f, rfl, _⟩ := h
    rfl
  · obtain ⟨n, f, rfl, k⟩ := h
    refine ⟨_, pss_cons (ps_set (i := 2) scLHole.nd rfl (Or.inl rfl) (pe_op op_sub (pe_op op_mod (pv 0) pe_int) pe_int))
      (pss_cons (ps_set (i := 3) scLHole.nd rfl (Or.inl rfl) (pe_op op_sub (pe_op op_mod (pe_op op_fdiv (pv 0) pe_int) pe_int) pe_int))
      (pss_cons (ps_if (pt_cmpR op_eq (pv 1) pe_int (nomark _)) (pss_one (ps_set (i := 2) scLHole.nd rfl (Or.inl rfl) (pe_op op_sub pe_p9 (pe_op op_mod (pv 0) pe_int)))) pss_nil)
      (pss_cons (ps_if (pt_cmpR op_eq (pv 1) pe_int (nomark _)) (pss_one (ps_set (i := 3) scLHole.nd rfl (Or.inl rfl) (pe_op op_sub (pe_op op_mod (pe_op op_fdiv (pv 0) pe_int) pe_int) pe_p9))) pss_nil)
      (pss_cons (ps_if (pt_cmpR op_eq (pv 1) pe_int (nomark _))
        (pss_cons (ps_set (i := 2) scLHole.nd rfl (Or.inl rfl) (pe_op op_sub (pe_op op_mod (pe_op op_mul (pv 0) pe_int) (pe_op op_add (pe_op op_mul pe_int pe_p9) pe_int)) pe_p9))
        (pss_one (ps_set (i := 3) scLHole.nd rfl (Or.inl rfl) (pe_op op_sub (pe_op op_mod (pe_op op_mul (pv 0) pe_int) (pe_op op_add (pe_op op_mul pe_int pe_p9) pe_int)) pe_p9)))) pss_nil)
      (pss_one (ps_ret (pe_tup (pa_cons (pv 2) (pa_cons (pv 3) pa_nil))))))))), ?_⟩
    refine ⟨_, rfl, _, _, rfl, rfl, (by show (0 : Int) < 11; decide), _, _, rfl, rfl, ?_⟩
    refine ⟨_, rfl, _, _, rfl, rfl, ⟨by decide, by decide⟩, _, _, rfl, rfl, (by show (0 : Int) < 11; decide), _, _, rfl, rfl, ?_⟩
    refine ⟨_, rfl, rfl, _, rfl, ?_⟩
    have fin : ∀ (x y : Int) (σ : L2.St), σ[2]? = some (some (.int x)) → σ[3]? = some (some (.int y)) → x = hx n f → y = hy n f →
        (tTup (tCons (tVar 2) (tCons (tVar 3) tNil))) σ H Q := fun x y σ h1 h2 e1 e2 => by
      subst e1 e2
      exact ⟨_, h1, _, h2, szr rfl, fun p hp => k p hp⟩
    by_cases f1 : f = 1
    · refine ifI_pos f1 ⟨_, rfl, _, _, rfl, rfl, (by show (0 : Int) < 11; decide), _, _, rfl, rfl, ?_⟩
      refine ⟨_, rfl, rfl, _, rfl, ifI_neg (by omega) ?_⟩
      refine ⟨_, rfl, rfl, _, rfl, ifI_neg (by omega) ?_⟩
      exact fin _ _ _ rfl rfl (by unfold hx; rw [if_neg (by omega), if_pos f1]) (by unfold hy; rw [if_neg (by omega), if_neg (by omega)])
    · refine ifI_neg f1 ?_
      by_cases f2 : f = 2
      · refine ⟨_, rfl, rfl, _, rfl, ifI_pos f2 ⟨_, rfl, _, _, rfl, rfl, ⟨by decide, by decide⟩, _, _, rfl, rfl, (by show (0 : Int) < 11; decide), _, _, rfl, rfl, ?_⟩⟩
        refine ⟨_, rfl, rfl, _, rfl, ifI_neg (by omega) ?_⟩
        exact fin _ _ _ rfl rfl (by unfold hx; rw [if_neg (by omega), if_neg f1]) (by unfold hy; rw [if_neg (by omega), if_pos f2])
      · refine ⟨_, rfl, rfl, _, rfl, ifI_neg f2 ?_⟩
        by_cases f3 : f = 3
        · refine ⟨_, rfl, rfl, _, rfl, ifI_pos f3 ?_⟩
          refine ⟨_, rfl, _, _, rfl, rfl, cmulR (by decide) (by decide), _, _, rfl, rfl, cmulR (by decide) (by decide), _, _, rfl, rfl, _, _, rfl, rfl, (by show (0 : Int) < _; decide), _, _, rfl, rfl, ?_⟩
          refine ⟨_, rfl, _, _, rfl, rfl, cmulR (by decide) (by decide), _, _, rfl, rfl, cmulR (by decide) (by decide), _, _, rfl, rfl, _, _, rfl, rfl, (by show (0 : Int) < _; decide), _, _, rfl, rfl, ?_⟩
          exact fin _ _ _ rfl rfl (by unfold hx; rw [if_pos f3]; rfl) (by unfold hy; rw [if_pos f3]; rfl)
        · refine ⟨_, rfl, rfl, _, rfl, ifI_neg f3 ?_⟩
          exact fin _ _ _ rfl rfl (by unfold hx; rw [if_neg f3, if_neg f1]) (by unfold hy; rw [if_neg f3, if_neg f2])

end
end K02
namespace K02
open PySem PySem.Spec PyProof.Rows L2 BF
seal L2.PE L2.PA L2.PS L2.PSs L2.PT L2.PW L2.PG L2.PI BF.PTs L2.PO BF.PIH
section
variable {P : Program} {w : World} {K : PySem.W.Frag} {mg : Str → Option Value} {base : Heap} {c0 c1 c2 c3 c4 c5 c6 c7 c8 c9 c10 c11 c12 c13 c14 c15 c16 c17 : Addr}
theorem scKind : FnScope ["_law_e", "_law_some", "_law_others"] ["_law_e"] (defScope sKind) := ⟨rfl, rfl, rfl, by decide +kernel, rfl, by decide +kernel, by decide +kernel⟩
theorem ok_kind {f : Addr} {fd : FuncData} {r : Addr} {j : Nat} (hj : j < 4) (D : Df K mg "_law_kind" sKind f fd) (B : Blt mg) (N : ENames mg c0 c1 c2 c3 c4 c5 c6 c7 c8 c9 c10 c11 c12 c13 c14 c15 c16 c17) (T : EKit K c0 c1 c2 c3 c4 c5 c6 c7 c8 c9 c10 c11 c12 c13 c14 c15 c16 c17 r j) :
    FnOkH P w K mg base 1 f fd ["_law_e"] (spKind r j) := by
  refine fun_okH D.F scKind (fun x o vs H Q h => ?_) (fun cdv A outer s H vs Q x o hr hh hx0 hX h => ?_)
  · obtain ⟨rfl, _⟩ := h
    rfl
  · obtain ⟨rfl, hx, ho, q⟩ := h
    refine ⟨_, pss_cons (ps_set (i := 1) scKind.nd rfl (Or.inl rfl) (pe_lst (pac (pe_callB call_isiX (by rfl) B.isi boot_isinstance (pac (pv 0) (pac (pe_glob (v := .ref c1) rfl N.m1 rfl) pa_nil))) (pac (pe_callB call_isiX (by rfl) B.isi boot_isinstance (pac (pv 0) (pac (pe_glob (v := .ref c2) rfl N.m2 rfl) pa_nil))) (pac (pe_callB call_isiX (by rfl) B.isi boot_isinstance (pac (pv 0) (pac (pe_glob (v := .ref c3) rfl N.m3 rfl) pa_nil))) (pac (pe_callB call_isiX (by rfl) B.isi boot_isinstance (pac (pv 0) (pac (pe_glob (v := .ref c4) rfl N.m4 rfl) pa_nil))) pa_nil))))))
      (pss_cons (ps_set (i := 2) scKind.nd rfl (Or.inl rfl) (pe_lst (pac (pe_callB call_isiX (by rfl) B.isi boot_isinstance (pac (pv 0) (pac (pe_glob (v := .ref c5) rfl N.m5 rfl) pa_nil))) (pac (pe_callB call_isiX (by rfl) B.isi boot_isinstance (pac (pv 0) (pac (pe_glob (v := .ref c6) rfl N.m6 rfl) pa_nil))) (pac (pe_callB call_isiX (by rfl) B.isi boot_isinstance (pac (pv 0) (pac (pe_glob (v := .ref c7) rfl N.m7 rfl) pa_nil))) (pac (pe_callB call_isiX (by rfl) B.isi boot_isinstance (pac (pv 0) (pac (pe_glob (v := .ref c8) rfl N.m8 rfl) pa_nil))) pa_nil))))))
      (pss_cons (ps_set (i := 2) scKind.nd rfl (Or.inl rfl) (pe_op op_cat (pv 2) (pe_lst (pac (pe_callB call_isiX (by rfl) B.isi boot_isinstance (pac (pv 0) (pac (pe_glob (v := .ref c9) rfl N.m9 rfl) pa_nil))) (pac (pe_callB call_isiX (by rfl) B.isi boot_isinstance (pac (pv 0) (pac (pe_glob (v := .ref c10) rfl N.m10 rfl) pa_nil))) (pac (pe_callB call_isiX (by rfl) B.isi boot_isinstance (pac (pv 0) (pac (pe_glob (v := .ref c11) rfl N.m11 rfl) pa_nil))) (pac (pe_callB call_isiX (by rfl) B.isi boot_isinstance (pac (pv 0) (pac (pe_glob (v := .ref c12) rfl N.m12 rfl) pa_nil))) pa_nil)))))))
      (pss_cons (ps_set (i := 2) scKind.nd rfl (Or.inl rfl) (pe_op op_cat (pv 2) (pe_lst (pac (pe_callB call_isiX (by rfl) B.isi boot_isinstance (pac (pv 0) (pac (pe_glob (v := .ref c13) rfl N.m13 rfl) pa_nil))) (pac (pe_callB call_isiX (by rfl) B.isi boot_isinstance (pac (pv 0) (pac (pe_glob (v := .ref c14) rfl N.m14 rfl) pa_nil))) (pac (pe_callB call_isiX (by rfl) B.isi boot_isinstance (pac (pv 0) (pac (pe_glob (v := .ref c15) rfl N.m15 rfl) pa_nil))) (pac (pe_callB call_isiX (by rfl) B.isi boot_isinstance (pac (pv 0) (pac (pe_glob (v := .ref c16) rfl N.m16 rfl) pa_nil))) pa_nil)))))))
      (pss_cons (ps_expr (pe_bm PySem.F.plainAttrs_list PySem.F.slot_list_append PySem.F.type_list_append mt_append (pv 2) (pac (pe_callB call_isiX (by rfl) B.isi boot_isinstance (pac (pv 0) (pac (pe_glob (v := .ref c17) rfl N.m17 rfl) pa_nil))) pa_nil)))
      (pss_cons (ps_if (PW.pt (pw_or (pt_cmpR op_in_seq pe_bl (pv 2) rfl) (pw_or (pt_not (pt_val (pe_callB call_isiX (by rfl) B.isi boot_isinstance (pac (pv 0) (pac (pe_bltn (v := .ty "ValueError") (by rfl) B.val PyProof.Rows.Boot.«ValueError» rfl) pa_nil)))))
          (pw_or1 (pt_cmpR op_ne (pe_callB call_len_seq (by rfl) B.len PySem.boot_len (pac (pe_compH (N' := ["_law_one"]) (idx := [none]) (compOk_of (by kernel_rfl)) (by kernel_rfl) (hnd_cxH hh hx0 hX) (piH_list (pv 1))
            (fun _ _ _ _ _ => pg_name (i := 0) (show (["_law_one"] : List Str).Nodup by decide +kernel) rfl (Or.inl rfl)) (fun _ _ _ _ _ => pts_one (pt_val (pv 0))) (fun _ _ _ _ _ => pv 0)) pa_nil)) pe_int (nomark _))))))
          (pss_one (ps_ret pe_str)) pss_nil)
      (pss_one (ps_ret (pe_ix ix_list (pe_lst (pac pe_str (pac pe_str (pac pe_str (pac pe_str pa_nil)))))
        (pe_bm PySem.F.plainAttrs_list PySem.F.slot_list_index PySem.F.type_list_index mt_index (pv 1) (pac pe_bl pa_nil)) (fun _ _ => rfl))))))))), ?_⟩
    have hj' : j = 0 ∨ j = 1 ∨ j = 2 ∨ j = 3 := by omega
    have f1 : ((fours j).filter id).length = 1 := by rcases hj' with rfl | rfl | rfl | rfl <;> rfl
    have f2 : ∃ z, ((fours j).map V.bl)[j]? = some z ∧ eqV z (.bl true) = true := by rcases hj' with rfl | rfl | rfl | rfl <;> exact ⟨_, rfl, rfl⟩
    have f3 : ∀ (m : Nat) z, m < j → ((fours j).map V.bl)[m]? = some z → eqV z (.bl true) = false := by
      intro m z hm e
      have hm4 : m = 0 ∨ m = 1 ∨ m = 2 ∨ m = 3 := by omega
      rcases hj' with rfl | rfl | rfl | rfl <;> rcases hm4 with rfl | rfl | rfl | rfl <;> first | (exfalso; omega) | (have e' := Option.some.inj e; subst e'; rfl)
    refine ⟨_, rfl, x, o, r, _, _, rfl, hx, ho, T.x, isi_ref T.k1, ?_⟩
    refine ⟨_, rfl, x, o, r, _, _, rfl, hx, ho, T.x, isi_ref T.k2, ?_⟩
    refine ⟨_, rfl, x, o, r, _, _, rfl, hx, ho, T.x, isi_ref T.k3, ?_⟩
    refine ⟨_, rfl, x, o, r, _, _, rfl, hx, ho, T.x, isi_ref T.k4, ?_⟩
    refine ⟨szr rfl, fun l1 n1 => ?_⟩
    have S1 := same_upd (o := HO.lst ((fours j).map V.bl)) n1
    have x1 := S1 _ _ hx
    refine ⟨_, rfl, x, o, r, _, _, rfl, x1, ho, T.x, isi_ref T.k5, ?_⟩
    refine ⟨_, rfl, x, o, r, _, _, rfl, x1, ho, T.x, isi_ref T.k6, ?_⟩
    refine ⟨_, rfl, x, o, r, _, _, rfl, x1, ho, T.x, isi_ref T.k7, ?_⟩
    refine ⟨_, rfl, x, o, r, _, _, rfl, x1, ho, T.x, isi_ref T.k8, ?_⟩
    refine ⟨szr rfl, fun l2 n2 => ?_⟩
    have S2 := S1.trans (same_upd (o := HO.lst [.bl false, .bl false, .bl false, .bl false]) n2)
    have x2 := S2 _ _ hx
    refine ⟨_, rfl, ?_⟩
    refine ⟨_, rfl, x, o, r, _, _, rfl, x2, ho, T.x, isi_ref T.k9, ?_⟩
    refine ⟨_, rfl, x, o, r, _, _, rfl, x2, ho, T.x, isi_ref T.k10, ?_⟩
    refine ⟨_, rfl, x, o, r, _, _, rfl, x2, ho, T.x, isi_ref T.k11, ?_⟩
    refine ⟨_, rfl, x, o, r, _, _, rfl, x2, ho, T.x, isi_ref T.k12, ?_⟩
    refine ⟨szr rfl, fun l3 n3 => ?_⟩
    have T3 := same_upd (o := HO.lst [.bl false, .bl false, .bl false, .bl false]) n3
    have S3 := S2.trans T3
    refine ⟨l2, l3, _, _, rfl, rfl, T3 _ _ upd_same, upd_same, szr rfl, fun l4 n4 => ?_⟩
    have S4 := S3.trans (same_upd (o := HO.lst ([.bl false, .bl false, .bl false, .bl false] ++ [.bl false, .bl false, .bl false, .bl false])) n4)
    have x4 := S4 _ _ hx
    refine ⟨_, rfl, ?_⟩
    refine ⟨_, rfl, x, o, r, _, _, rfl, x4, ho, T.x, isi_ref T.k13, ?_⟩
    refine ⟨_, rfl, x, o, r, _, _, rfl, x4, ho, T.x, isi_ref T.k14, ?_⟩
    refine ⟨_, rfl, x, o, r, _, _, rfl, x4, ho, T.x, isi_ref T.k15, ?_⟩
    refine ⟨_, rfl, x, o, r, _, _, rfl, x4, ho, T.x, isi_ref T.k16, ?_⟩
    refine ⟨szr rfl, fun l5 n5 => ?_⟩
    have T5 := same_upd (o := HO.lst [.bl false, .bl false, .bl false, .bl false]) n5
    have S5 := S4.trans T5
    refine ⟨l4, l5, _, _, rfl, rfl, T5 _ _ upd_same, upd_same, szr rfl, fun l6 n6 => ?_⟩
    have S6 := S5.trans (same_upd (o := HO.lst ([.bl false, .bl false, .bl false, .bl false] ++ [.bl false, .bl false, .bl false, .bl false] ++ [.bl false, .bl false, .bl false, .bl false])) n6)
    have x6 := S6 _ _ hx
    refine ⟨_, rfl, .inl ⟨rfl, _, SqL.of upd_same⟩, ?_⟩
    refine ⟨_, rfl, x, o, r, _, _, rfl, x6, ho, T.x, isi_ref T.k17, ?_⟩
    refine ⟨l6, _, _, rfl, rfl, upd_same, small1000 (by decide), ?_⟩
    rw [upd_upd]
    have A2 := same_upd (o := HO.lst [.bl false, .bl false, .bl false, .bl false]) n2
    have A4 := same_upd (o := HO.lst ([.bl false, .bl false, .bl false, .bl false] ++ [.bl false, .bl false, .bl false, .bl false])) n4
    have A7 := same_upd (o := HO.lst ([.bl false, .bl false, .bl false, .bl false] ++ [.bl false, .bl false, .bl false, .bl false] ++ [.bl false, .bl false, .bl false, .bl false] ++ [.bl false])) n6
    have S7 := S5.trans A7
    have x7 := S7 _ _ hx
    have e1 := A7 _ _ (T5 _ _ (A4 _ _ (T3 _ _ (A2 _ _ (upd_same (H := H) (a := l1) (o := HO.lst ((fours j).map V.bl)))))))
    generalize hH7 : upd _ l6 (HO.lst ([.bl false, .bl false, .bl false, .bl false] ++ [.bl false, .bl false, .bl false, .bl false] ++ [.bl false, .bl false, .bl false, .bl false] ++ [.bl false])) = H7 at A7 S7 x7 e1 ⊢
    have e6 : H7 l6 = some (HO.lst ([.bl false, .bl false, .bl false, .bl false] ++ [.bl false, .bl false, .bl false, .bl false] ++ [.bl false, .bl false, .bl false, .bl false] ++ [.bl false])) := by rw [← hH7]; exact upd_same
    -- none of the others, a ValueError
    refine ⟨_, rfl, l6, _, rfl, .inl (SqL.of e6), rfl, rfl, _, rfl, iteF ?_⟩
    refine ⟨_, rfl, x, o, r, _, _, rfl, x7, ho, T.x, isi_ty T.v, _, rfl, iteF ?_⟩
    -- just one of the four
    refine ⟨_, rfl, l1, rfl, ⟨_, SqL.of e1⟩, fun E nE => ?_⟩
    refine comp_n (J := Itl _ l1) (n := 4) (fun i σ2 H2 => (∃ v, σ2 = [v]) ∧ Same H7 H2 ∧ H2 E = some (.lst ((((fours j).take i).filter id).map V.bl))) ?_ ?_ ?_ ?_
    · exact ⟨⟨_, rfl⟩, same_upd nE, upd_same⟩
    · rintro i σ2 H2 hi ⟨_, S2', _⟩
      exact ⟨_, _, SqL.of (S2' _ _ e1), List.getElem?_eq_getElem (show i < ((fours j).map V.bl).length from hi)⟩
    · rintro σ2 H2 ⟨_, S8, e8⟩
      refine ⟨⟨_, SqL.of (S8 _ _ e1), Nat.le_refl _⟩, E, _, rfl, .inl (SqL.of e8), rfl, _, rfl, ?_⟩
      have l8 : ((((fours j).take 4).filter id).map V.bl).length = 1 := by rw [List.length_map]; exact f1
      rw [l8]
      refine iteF ?_
      -- its word
      refine ⟨szr rfl, fun l9 n9 => ?_⟩
      have A9 := same_upd (o := HO.lst kinds) n9
      have e9 := A9 _ _ (S8 _ _ e1)
      obtain ⟨z, hz, _⟩ : ∃ z, kinds[j]? = some z ∧ True := by rcases hj' with rfl | rfl | rfl | rfl <;> exact ⟨_, rfl, trivial⟩
      refine ⟨_, rfl, .inl ⟨rfl, _, SqL.of e9⟩, l1, _, _, j, rfl, rfl, e9, rfl, rfl, by omega, f2, f3, l9, _, _, z, rfl, rfl, SqL.of upd_same, atI_nat hz, ?_⟩
      exact q _ ((S7.trans S8).trans A9) z hz
    · rintro i σ2 H2 hi ⟨⟨v, rfl⟩, S8, e8⟩ y H3 ⟨rfl, hy⟩
      have hyi := hy _ (SqL.of (S8 _ _ e1))
      have hi4 : i < (fours j).length := hi
      rw [List.getElem?_map, List.getElem?_eq_getElem hi4] at hyi
      have ey : y = V.bl (fours j)[i] := (Option.some.inj hyi).symm
      subst ey
      have tk : (fours j).take (i + 1) = (fours j).take i ++ [(fours j)[i]] := by rw [List.take_succ, List.getElem?_eq_getElem hi4]; rfl
      refine ⟨_, rfl, _, rfl, ?_⟩
      cases hb : (fours j)[i] with
      | true =>
        refine ⟨_, rfl, _, e8, ?_, ⟨_, rfl⟩, ?_, ?_⟩
        · refine small1000 ?_
          have h1 := List.length_filter_le id ((fours j).take i)
          have h2 := List.length_take_le i (fours j)
          rw [List.length_map]
          omega
        · intro b' o' hb'
          rw [upd_ne (ne_of_none hb' nE)]
          exact S8 _ _ hb'
        · rw [upd_same, tk, List.filter_append, List.map_append, hb]; rfl
      | false =>
        refine ⟨⟨_, rfl⟩, S8, ?_⟩
        rw [e8, tk, List.filter_append, hb]; simp
end
end K02
namespace K02
open PySem PySem.Spec PyProof.Rows L2 BF
seal L2.PE L2.PA L2.PS L2.PSs L2.PT L2.PW L2.PG L2.PI BF.PTs L2.PO BF.PIH
section
variable {P : Program} {w : World} {K : PySem.W.Frag} {mg : Str → Option Value} {base : Heap} {c0 c1 c2 c3 c4 c5 c6 c7 c8 c9 c10 c11 c12 c13 c14 c15 c16 c17 : Addr}
def spMake (c : Addr) : Sp := fun vs H Q E => ∃ u v du dv, vs = [u, v] ∧ HD H u du ∧ HD H v dv ∧
  ∀ H', Same H H' → (lnB du dv = true → ∀ p, H' p = some (.tup [u, v]) → Q (.ref p) H') ∧ (lnB du dv = false → lnB dv du = true → ∀ p, H' p = some (.tup [v, u]) → Q (.ref p) H') ∧
    (lnB du dv = false → lnB dv du = false → E (.ref c) none H')
def spOrd2 : Sp := fun vs H Q _ => ∃ (x y : Addr) (p q r t : Int), vs = [.ref x, .ref y] ∧ H x = some (.tup [.int p, .int q]) ∧ H y = some (.tup [.int r, .int t]) ∧
  ∀ H', Same H H' → (HT.lexLt [p, q] [r, t] = true → ∀ z, H' z = some (.tup [.ref x, .ref y]) → Q (.ref z) H') ∧ (HT.lexLt [p, q] [r, t] = false → ∀ z, H' z = some (.tup [.ref y, .ref x]) → Q (.ref z) H')
theorem scOrd : FnScope ["one", "other"] ["one", "other"] (defScope sOrd) := ⟨rfl, rfl, rfl, by decide +kernel, rfl, by decide +kernel, by decide +kernel⟩
theorem ok_ord {f : Addr} {fd : FuncData} (D : Df K mg "ordered" sOrd f fd) : FnOk P w K mg base CX0 1 f fd ["one", "other"] spOrd2 := by
  refine D.F.ok scOrd (fun vs H Q E h => ?_) (fun cdv A outer s H vs Q E hr h => ?_)
  · obtain ⟨x, y, p, q, r, t, rfl, _⟩ := h
    rfl
  · obtain ⟨x, y, p, q, r, t, rfl, hx, hy, k⟩ := h
    refine ⟨_, pss_one (ps_ret (pe_ifExp (pt_cmpR (op_ltT hr.units0) (pv 0) (pv 1) (nomark _)) (pe_tup (pac (pv 0) (pac (pv 1) pa_nil))) (pe_tup (pac (pv 1) (pac (pv 0) pa_nil))))), ?_⟩
    refine ⟨_, rfl, _, rfl, x, y, [p, q], [r, t], rfl, rfl, SqT.of hx, SqT.of hy, _, rfl, ?_⟩
    cases g : HT.lexLt [p, q] [r, t] with
    | true => exact iteT ⟨_, rfl, _, rfl, szr rfl, fun z nz => (k _ (same_upd nz)).1 g z upd_same⟩
    | false => exact iteF ⟨_, rfl, _, rfl, szr rfl, fun z nz => (k _ (same_upd nz)).2 g z upd_same⟩
def spAre : Sp := fun vs H Q _ => ∃ u v du dv, vs = [u, v] ∧ HD H u du ∧ HD H v dv ∧ ∀ H', Same H H' → Q (.bl (lnB du dv || lnB dv du)) H'
theorem scAre : FnScope ["one", "other"] ["one", "other"] (defScope sAre) := ⟨rfl, rfl, rfl, by decide +kernel, rfl, by decide +kernel, by decide +kernel⟩
theorem ok_are {f fL : Addr} {fd fdL : FuncData} (D : Df K mg "are_ends" sAre f fd) (DL : Df K mg "is_line" sLine fL fdL) (bL : Binds K fdL ["thing"] []) (GL : FnOk P w K mg base CX0 4 fL fdL ["thing"] spLine) :
    FnOk P w K mg base CX0 5 f fd ["one", "other"] spAre := by
  refine D.F.ok scAre (fun vs H Q E h => ?_) (fun cdv A outer s H vs Q E hr h => ?_)
  · obtain ⟨u, v, du, dv, rfl, _⟩ := h
    rfl
  · obtain ⟨u, v, du, dv, rfl, hu, hv, k⟩ := h
    refine ⟨_, pss_one (ps_ret (pe_or (pec GL hr rfl DL.m DL.F.kp bL .nil pass0 (pac (pe_tup (pac (pv 0) (pac (pv 1) pa_nil))) pa_nil))
      (pe_one (pec GL hr rfl DL.m DL.F.kp bL .nil pass0 (pac (pe_tup (pac (pv 1) (pac (pv 0) pa_nil))) pa_nil))))), ?_⟩
    refine ⟨_, rfl, _, rfl, szr rfl, fun p1 n1 => ?_⟩
    have S1 := same_upd (o := HO.tup [u, v]) n1
    refine ⟨_, _, rfl, lineHD upd_same (hu.same S1) (hv.same S1), _, rfl, ?_⟩
    cases g1 : lnB du dv with
    | true =>
      have k1 := k _ S1
      rw [g1, Bool.true_or] at k1
      exact iteT k1
    | false =>
      refine iteF ⟨_, rfl, _, rfl, szr rfl, fun p2 n2 => ?_⟩
      have S2 := S1.trans (same_upd (o := HO.tup [v, u]) n2)
      have k2 := k _ S2
      rw [g1, Bool.false_or] at k2
      exact ⟨_, _, rfl, lineHD upd_same (hv.same S2) (hu.same S2), k2⟩
theorem scMake : FnScope ["one", "other"] ["one", "other"] (defScope sMake) := ⟨rfl, rfl, rfl, by decide +kernel, rfl, by decide +kernel, by decide +kernel⟩
theorem ok_make {f fA fO : Addr} {fd fdA fdO : FuncData} (D : Df K mg "line" sMake f fd) (DA : Df K mg "are_ends" sAre fA fdA) (bA : Binds K fdA ["one", "other"] []) (GA : FnOk P w K mg base CX0 5 fA fdA ["one", "other"] spAre)
    (DO : Df K mg "ordered" sOrd fO fdO) (bO : Binds K fdO ["one", "other"] []) (GO : FnOk P w K mg base CX0 1 fO fdO ["one", "other"] spOrd2)
    (m1 : mg "NoLine" = some (.ref c1)) (q1 : PySem.W.excIn K c1 [.type "ValueError", .type "Exception", .type "BaseException", .type "object"] "ValueError.__new__" = true) :
    FnOk P w K mg base (CXE P w) 6 f fd ["one", "other"] (spMake c1) := by
  refine fun_okX D.F scMake (fun vs H Q E h => ?_) (fun cdv A outer s H vs Q E hr h => ?_)
  · obtain ⟨u, v, du, dv, rfl, _⟩ := h
    rfl
  · obtain ⟨u, v, du, dv, rfl, hu, hv, k⟩ := h
    have hr1 : Room 1 _ := hr.mono (by decide)
    refine ⟨_, pss_cons (ps_if (pt_not (pt_val (pec GA hr rfl DA.m DA.F.kp bA .nil pass0 (pac (pv 0) (pac (pv 1) pa_nil))))) (pss_one (ps_raise rfl m1 hr.hd q1 pe_str)) pss_nil)
      (pss_one (ps_ret (pec GO hr1 rfl DO.m DO.F.kp bO .nil pass0 (pac (pv 0) (pac (pv 1) pa_nil))))), ?_⟩
    refine ⟨_, rfl, _, rfl, u, v, du, dv, rfl, hu, hv, fun H1 S1 => ⟨_, rfl, ?_⟩⟩
    cases hu with
    | not h => exact ifB_pos (by cases dv <;> rfl) ((k _ S1).2.2 rfl (by cases dv <;> rfl))
    | @hole px x y e1 j1 =>
      cases hv with
      | not h => exact ifB_pos rfl ((k _ S1).2.2 rfl rfl)
      | @hole py z t e2 j2 =>
        have ex : lnB (some (x, y)) (some (z, t)) = (HT.lexLt [x, y] [z, t] && nearB x y z t) := rfl
        have ey : lnB (some (z, t)) (some (x, y)) = (HT.lexLt [z, t] [x, y] && nearB z t x y) := rfl
        cases g1 : lnB (some (x, y)) (some (z, t)) with
        | true =>
          have hl : HT.lexLt [x, y] [z, t] = true := by rw [ex] at g1; simp at g1; exact g1.1
          refine ifB_neg rfl ⟨_, rfl, _, rfl, px, py, x, y, z, t, rfl, S1 _ _ e1, S1 _ _ e2, fun H2 S2 => ⟨fun _ r hr' => (k _ (S1.trans S2)).1 g1 r hr', fun hf => ?_⟩⟩
          rw [hl] at hf; cases hf
        | false =>
          cases g2 : lnB (some (z, t)) (some (x, y)) with
          | true =>
            have hl : HT.lexLt [x, y] [z, t] = false := by rw [ey] at g2; simp at g2; exact lex_asy g2.1
            refine ifB_neg rfl ⟨_, rfl, _, rfl, px, py, x, y, z, t, rfl, S1 _ _ e1, S1 _ _ e2, fun H2 S2 => ⟨fun hf => ?_, fun _ r hr' => (k _ (S1.trans S2)).2.1 g1 g2 r hr'⟩⟩
            rw [hl] at hf; cases hf
          | false => exact ifB_pos rfl ((k _ S1).2.2 g1 g2)

theorem scLWhole : FnScope ["_law_found"] ["_law_found"] (defScope sLWhole) := ⟨rfl, rfl, rfl, by decide +kernel, rfl, by decide +kernel, by decide +kernel⟩
theorem ok_lwhole {f : Addr} {fd : FuncData} (D : Df K mg "_law_whole" sLWhole f fd) (B : Blt mg) : FnOk P w K mg base CX0 1 f fd ["_law_found"] spWhole := by
  refine D.F.ok scLWhole (fun vs H Q E h => ?_) (fun cdv A outer s H vs Q E hr h => ?_)
  · obtain ⟨u, k, rfl, _⟩ := h
    rfl
  · obtain ⟨u, k, rfl, kd, q⟩ := h
    refine ⟨_, pss_one (ps_ret (pe_and (pe_callB call_isi (by rfl) B.isi boot_isinstance (pac (pv 0) (pac (pe_bltn (v := .ty "int") (by rfl) B.int boot_int rfl) pa_nil)))
      (pe_one (pe_not (pe_callB call_isi (by rfl) B.isi boot_isinstance (pac (pv 0) (pac (pe_bltn (v := .ty "bool") (by rfl) B.bool boot_bool rfl) pa_nil))))))), ?_⟩
    refine ⟨_, rfl, u, k, .int, rfl, kd, _, rfl, ?_⟩
    cases kd with
    | int i => exact iteT ⟨_, rfl, _, _, .bl, rfl, .int i, _, rfl, q⟩
    | bl b => exact iteT ⟨_, rfl, _, _, .bl, rfl, .bl b, _, rfl, q⟩
    | non => exact iteF q
    | str x => exact iteF q
    | lst e => exact iteF q
    | tup e => exact iteF q
    | dic e => exact iteF q

theorem abs_good {i : Int} (h : good (.int i) = true) : ¬ (1000000000 < (if i < 0 then -i else i)) := by
  have h' : (decide (-1000000000 ≤ i) && decide (i ≤ 1000000000)) = true := h
  simp at h'
  split <;> omega
theorem abs_bad {i : Int} (h : good (.int i) = false) : 1000000000 < (if i < 0 then -i else i) := by
  have h' : (decide (-1000000000 ≤ i) && decide (i ≤ 1000000000)) = false := h
  rw [Bool.and_eq_false_iff, decide_eq_false_iff_not, decide_eq_false_iff_not] at h'
  split <;> omega
def spGood : Sp := fun vs H Q _ => ∃ u v du dv, vs = [u, v] ∧ HD H u du ∧ HD H v dv ∧ ∀ H', Same H H' → Q (.bl (goodB du dv)) H'
theorem scGood : FnScope ["_law_one", "_law_other_here", "_law_hole_here"] ["_law_one", "_law_other_here"] (defScope sGood) := ⟨rfl, rfl, rfl, by decide +kernel, rfl, by decide +kernel, by decide +kernel⟩
theorem ok_good {f fW : Addr} {fd fdW : FuncData} (D : Df K mg "_law_good" sGood f fd) (B : Blt mg) (DW : Df K mg "_law_whole" sLWhole fW fdW) (bW : Binds K fdW ["_law_found"] []) (GW : FnOk P w K mg base CX0 1 fW fdW ["_law_found"] spWhole) :
    FnOk P w K mg base CX0 2 f fd ["_law_one", "_law_other_here"] spGood := by
  refine D.F.ok scGood (fun vs H Q E h => ?_) (fun cdv A outer s H vs Q E hr h => ?_)
  · obtain ⟨u, v, du, dv, rfl, _⟩ := h
    rfl
  · obtain ⟨u, v, du, dv, rfl, hu, hv, k⟩ := h
    refine ⟨_, pss_cons (ps_for PassesOwn.never rfl (pi_list (pe_lst (pac (pv 0) (pac (pv 1) pa_nil)))) (pg_name (i := 2) scGood.nd rfl (Or.inl rfl))
        (pss_cons (ps_if (PW.pt (pw_or (pt_not (pt_val (pe_callB call_isi (by rfl) B.isi boot_isinstance (pac (pv 2) (pac (pe_bltn (v := .ty "tuple") (by rfl) B.tuple boot_tuple rfl) pa_nil)))))
            (pw_or (pt_cmpR op_ne (pe_callB call_len_seq (by rfl) B.len PySem.boot_len (pac (pv 2) pa_nil)) pe_int (nomark _))
            (pw_or (pt_not (pt_val (pec GW hr rfl DW.m DW.F.kp bW .nil pass0 (pac (pe_ix ix_tup (pv 2) pe_int (fun _ _ => rfl)) pa_nil))))
            (pw_or1 (pt_not (pt_val (pec GW hr rfl DW.m DW.F.kp bW .nil pass0 (pac (pe_ix ix_tup (pv 2) pe_int (fun _ _ => rfl)) pa_nil))))))))) (pss_one (ps_ret pe_bl)) pss_nil)
        (pss_one (ps_if (PW.pt (pw_or (pt_cmpR op_gt (pe_callB call_abs (by rfl) B.abs boot_abs (pac (pe_ix ix_tup (pv 2) pe_int (fun _ _ => rfl)) pa_nil)) pe_p9 (nomark _))
            (pw_or1 (pt_cmpR op_gt (pe_callB call_abs (by rfl) B.abs boot_abs (pac (pe_ix ix_tup (pv 2) pe_int (fun _ _ => rfl)) pa_nil)) pe_p9 (nomark _))))) (pss_one (ps_ret pe_bl)) pss_nil))))
      (pss_one (ps_ret (pe_and (pe_cmpR (op_neD hr) (pv 0) (pv 1) (nomark _))
        (pe_and (pe_cmpR op_le (pe_callB call_abs (by rfl) B.abs boot_abs (pac (pe_op op_sub (pe_ix ix_tup (pv 0) pe_int (fun _ _ => rfl)) (pe_ix ix_tup (pv 1) pe_int (fun _ _ => rfl))) pa_nil)) pe_int (nomark _))
        (pe_one (pe_cmpR op_le (pe_callB call_abs (by rfl) B.abs boot_abs (pac (pe_op op_sub (pe_ix ix_tup (pv 0) pe_int (fun _ _ => rfl)) (pe_ix ix_tup (pv 1) pe_int (fun _ _ => rfl))) pa_nil)) pe_int (nomark _))))))), ?_⟩
    refine ⟨_, rfl, _, rfl, szr rfl, fun l n => ⟨l, rfl, ⟨_, SqL.of upd_same⟩, ?_⟩⟩
    have S1 := same_upd (o := HO.lst [u, v]) n
    have hu1 := hu.same S1
    have hv1 := hv.same S1
    have eL : upd H l (.lst [u, v]) l = some (.lst [u, v]) := upd_same
    have fin := k _ S1
    generalize upd H l (.lst [u, v]) = H1 at hu1 hv1 eL fin ⊢
    refine for_list (K := K) (a := l) (xs := [u, v]) (fun i σ H2 => (∃ v2, σ = [some u, some v, v2]) ∧ H2 = H1 ∧ (0 < i → du ≠ none) ∧ (1 < i → dv ≠ none))
      ⟨⟨_, rfl⟩, rfl, fun z => absurd z (by decide), fun z => absurd z (by decide)⟩ (fun i σ H2 _ ⟨_, e, _⟩ => by rw [e]; exact SqL.of eL) ?_ ?_
    · rintro i y σ H2 hi ⟨⟨v2, rfl⟩, rfl, h0, h1⟩
      obtain ⟨dy, hy, hno, hyes⟩ : ∃ dy, HD H2 y dy ∧ (dy = none → goodB du dv = false) ∧ (dy ≠ none → (0 < i + 1 → du ≠ none) ∧ (1 < i + 1 → dv ≠ none)) := by
        have hcase : i = 0 ∨ i = 1 := by
          have := (List.getElem?_eq_some_iff.mp hi).1
          simp at this
          omega
        rcases hcase with rfl | rfl
        · have ey : u = y := Option.some.inj hi
          subst ey
          exact ⟨du, hu1, (fun z => by rw [z]; cases dv <;> rfl), fun z => ⟨fun _ => z, fun z => absurd z (by decide)⟩⟩
        · have ey : v = y := Option.some.inj hi
          subst ey
          exact ⟨dv, hv1, (fun z => by rw [z]; cases du <;> rfl), fun z => ⟨fun _ => h0 (by decide), fun _ => z⟩⟩
      cases hy with
      | @hole p a b e g =>
        have hg : good (.int a) = true ∧ good (.int b) = true := by simpa using g
        refine ⟨_, rfl, .ref p, .tup, .tup, rfl, .tup e, _, rfl, iteF ?_⟩
        refine ⟨_, rfl, p, _, rfl, .inr (SqT.of e), rfl, _, rfl, iteF ?_⟩
        refine ⟨_, rfl, p, _, _, .int a, rfl, rfl, SqT.of e, rfl, .int a, .int, rfl, .int a, _, rfl, iteF ?_⟩
        refine ⟨_, rfl, p, _, _, .int b, rfl, rfl, SqT.of e, rfl, .int b, .int, rfl, .int b, _, rfl, iteF ?_⟩
        have ga := abs_good hg.1
        have gb := abs_good hg.2
        refine ⟨_, rfl, p, _, _, .int a, rfl, rfl, SqT.of e, rfl, a, rfl, _, _, rfl, rfl, _, rfl, ifD_neg ga ?_⟩
        refine ⟨_, rfl, p, _, _, .int b, rfl, rfl, SqT.of e, rfl, b, rfl, _, _, rfl, rfl, _, rfl, ifD_neg gb ?_⟩
        exact ⟨⟨_, rfl⟩, rfl, hyes (fun z => nomatch z)⟩
      | not hh =>
        have fin' := fin
        rw [hno rfl] at fin'
        cases hh with
        | @no _ kk kd hp =>
          refine ⟨_, rfl, y, kk, .tup, rfl, kd, _, rfl, ?_⟩
          cases kd with
          | @tup a xs e =>
            rw [pairB_tup e] at hp
            refine iteF ⟨_, rfl, a, _, rfl, .inr (SqT.of e), rfl, _, rfl, ifB_pos ?_ (iteT fin')⟩
            have hl := dec_len xs.length 2
            rw [hp] at hl
            exact congrArg not hl
          | non => exact iteT fin'
          | bl b => exact iteT fin'
          | int i => exact iteT fin'
          | str x => exact iteT fin'
          | lst e => exact iteT fin'
          | dic e => exact iteT fin'
        | @two p a b ka kb _ e ha hb hr' =>
          refine ⟨_, rfl, .ref p, .tup, .tup, rfl, .tup e, _, rfl, iteF ?_⟩
          refine ⟨_, rfl, p, _, rfl, .inr (SqT.of e), rfl, _, rfl, iteF ?_⟩
          refine ⟨_, rfl, p, _, _, a, rfl, rfl, SqT.of e, rfl, a, ka, rfl, ha, _, rfl, ?_⟩
          cases ha with
          | int i =>
            refine iteF ⟨_, rfl, p, _, _, b, rfl, rfl, SqT.of e, rfl, b, kb, rfl, hb, _, rfl, ?_⟩
            cases hb with
            | int j =>
              refine iteF ?_
              refine ⟨_, rfl, p, _, _, .int i, rfl, rfl, SqT.of e, rfl, i, rfl, _, _, rfl, rfl, _, rfl, ?_⟩
              cases gi : good (.int i) with
              | false => exact ifD_pos (abs_bad gi) (iteT fin')
              | true =>
                rw [gi, Bool.true_and] at hr'
                refine ifD_neg (abs_good gi) ⟨_, rfl, p, _, _, .int j, rfl, rfl, SqT.of e, rfl, j, rfl, _, _, rfl, rfl, _, rfl, ?_⟩
                exact ifD_pos (abs_bad hr') fin'
            | non => exact iteT fin'
            | bl b => exact iteT fin'
            | str x => exact iteT fin'
            | lst e => exact iteT fin'
            | tup e => exact iteT fin'
            | dic e => exact iteT fin'
          | non => exact iteT fin'
          | bl b => exact iteT fin'
          | str x => exact iteT fin'
          | lst e => exact iteT fin'
          | tup e => exact iteT fin'
          | dic e => exact iteT fin'
    · rintro σ H2 ⟨⟨v2, rfl⟩, rfl, h0, h1⟩
      have d0 := h0 (Nat.succ_pos 1)
      have d1 := h1 (Nat.lt_succ_self 1)
      cases hu1 with
      | not _ => exact absurd rfl d0
      | @hole p x y e1 g1 =>
        cases hv1 with
        | not _ => exact absurd rfl d1
        | @hole q z w' e2 g2 =>
          refine ⟨_, rfl, _, rfl, _, _, .tup e1 (.cons (.int x) (.cons (.int y) .nil)), .tup e2 (.cons (.int z) (.cons (.int w') .nil)), Nat.le_of_ble_eq_true rfl, ⟨_, rfl⟩, ⟨_, rfl⟩, _, rfl, ?_⟩
          cases g : Dt.beq (.tup [.int x, .int y]) (.tup [.int z, .int w']) with
          | true =>
            have e : goodB (some (x, y)) (some (z, w')) = false := by
              show ((!_) && _) = false
              rw [g]; rfl
            rw [e] at fin
            exact iteF fin
          | false =>
            have e : goodB (some (x, y)) (some (z, w')) = nearB x y z w' := by
              show ((!_) && _) = _
              rw [g]; rfl
            rw [e] at fin
            refine iteT ?_
            refine ⟨_, rfl, p, _, _, .int x, rfl, rfl, SqT.of e1, rfl, _, rfl, q, _, _, .int z, rfl, rfl, SqT.of e2, rfl, _, _, rfl, rfl, _, rfl, _, _, rfl, rfl, _, rfl, ?_⟩
            by_cases h9 : (if x - z < 0 then -(x - z) else x - z) ≤ 9
            · refine ifD_pos h9 ⟨_, rfl, p, _, _, .int y, rfl, rfl, SqT.of e1, rfl, _, rfl, q, _, _, .int w', rfl, rfl, SqT.of e2, rfl, _, _, rfl, rfl, _, rfl, _, _, rfl, rfl, ?_⟩
              have e3 : nearB x y z w' = decide ((if y - w' < 0 then -(y - w') else y - w') ≤ 9) := by
                unfold nearB
                rw [decide_eq_true h9, Bool.true_and]
              rw [e3] at fin
              exact fin
            · have e3 : nearB x y z w' = false := by
                unfold nearB
                rw [decide_eq_false h9, Bool.false_and]
              rw [e3] at fin
              exact ifD_neg h9 fin
end
end K02
namespace K02
open PySem PySem.Spec PyProof.Rows L2 BF
seal L2.PE L2.PA L2.PS L2.PSs L2.PT L2.PW L2.PG L2.PI BF.PTs L2.PO BF.PIH
section
variable {P : Program} {w : World} {K : PySem.W.Frag} {mg : Str → Option Value} {base : Heap} {c0 c1 c2 c3 c4 c5 c6 c7 c8 c9 c10 c11 c12 c13 c14 c15 c16 c17 : Addr}
def spOther : Sp := fun vs H Q _ => ∃ p a b n, vs = [.ref p, .int n] ∧ H p = some (.tup [.int a, .int b]) ∧ (good (.int a) && good (.int b)) = true ∧ ∀ H' u du, Same H H' → HD H' u du → Q u H'
theorem scOther : FnScope ["_law_one", "_law_number", "_law_other_here", "_law_some"] ["_law_one", "_law_number"] (defScope sOther) := ⟨rfl, rfl, rfl, by decide +kernel, rfl, by decide +kernel, by decide +kernel⟩
theorem hd_pair {H : Hp} {p : Addr} {x y : Int} (e : H p = some (.tup [.int x, .int y])) : ∃ d, HD H (.ref p) d := by
  cases g : (good (.int x) && good (.int y)) with
  | true => exact ⟨_, .hole e g⟩
  | false => exact ⟨_, .not (.two e (.int x) (.int y) g)⟩
theorem mod8 (m : Int) : m % 8 = 0 ∨ m % 8 = 1 ∨ m % 8 = 2 ∨ m % 8 = 3 ∨ m % 8 = 4 ∨ m % 8 = 5 ∨ m % 8 = 6 ∨ m % 8 = 7 := by
  obtain ⟨k, e⟩ := Int.eq_ofNat_of_zero_le (Int.emod_nonneg m (show (8 : Int) ≠ 0 by decide))
  have h := Int.emod_lt_of_pos m (show (0 : Int) < 8 by decide)
  rw [e] at h ⊢
  match k, Int.ofNat_lt.mp h with
  | 0, _ => exact .inl rfl
  | 1, _ => exact .inr (.inl rfl)
  | 2, _ => exact .inr (.inr (.inl rfl))
  | 3, _ => exact .inr (.inr (.inr (.inl rfl)))
  | 4, _ => exact .inr (.inr (.inr (.inr (.inl rfl))))
  | 5, _ => exact .inr (.inr (.inr (.inr (.inr (.inl rfl)))))
  | 6, _ => exact .inr (.inr (.inr (.inr (.inr (.inr (.inl rfl))))))
  | 7, _ => exact .inr (.inr (.inr (.inr (.inr (.inr (.inr rfl))))))
theorem ok_other {f : Addr} {fd : FuncData} (D : Df K mg "_law_other" sOther f fd) : FnOk P w K mg base CX0 1 f fd ["_law_one", "_law_number"] spOther := by
  refine D.F.ok scOther (fun vs H Q E h => ?_) (fun cdv A outer s H vs Q E hr h => ?_)
  · obtain ⟨p, a, b, n, rfl, _⟩ := h
    rfl
  · obtain ⟨p, a, b, n, rfl, e, g, k⟩ := h
    refine ⟨_, pss_cons (ps_set (i := 2) scOther.nd rfl (Or.inl rfl) (pe_tup (pac (pe_op op_sub (pe_op op_add (pe_ix ix_tup (pv 0) pe_int (fun _ _ => rfl)) (pe_op op_mod (pe_op op_fdiv (pv 1) pe_int) pe_int)) pe_int)
        (pac (pe_op op_sub (pe_op op_add (pe_ix ix_tup (pv 0) pe_int (fun _ _ => rfl)) (pe_op op_mod (pe_op op_fdiv (pv 1) pe_int) pe_int)) pe_int) pa_nil))))
      (pss_cons (ps_if (pt_cmpR op_eq (pe_op op_mod (pv 1) pe_int) pe_int (nomark _)) (pss_one (ps_ret (pv 0))) pss_nil)
      (pss_cons (ps_if (pt_cmpR op_eq (pe_op op_mod (pv 1) pe_int) pe_int (nomark _))
        (pss_cons (ps_set (i := 3) scOther.nd rfl (Or.inl rfl) (pe_lst (pac pe_non (pac pe_str (pac pe_int (pac (pe_tup (pac (pe_ix ix_tup (pv 0) pe_int (fun _ _ => rfl)) pa_nil))
          (pac (pe_lst (pac (pe_ix ix_tup (pv 0) pe_int (fun _ _ => rfl)) (pac (pe_op op_add (pe_ix ix_tup (pv 0) pe_int (fun _ _ => rfl)) pe_int) pa_nil)))
          (pac (pe_tup (pac (pe_op op_add (pe_ix ix_tup (pv 0) pe_int (fun _ _ => rfl)) pe_int) (pac pe_bl pa_nil)))
          (pac (pe_tup (pac (pe_ix ix_tup (pv 0) pe_int (fun _ _ => rfl)) (pac pe_str pa_nil)))
          (pac (pe_op op_catT (pv 0) (pe_tup (pac pe_int pa_nil))) pa_nil))))))))))
        (pss_one (ps_ret (pe_ix ix_list (pv 3) (pe_op op_mod (pe_op op_fdiv (pv 1) pe_int) pe_int) (fun _ _ => rfl))))) pss_nil)
      (pss_one (ps_ret (pv 2))))), ?_⟩
    refine ⟨_, rfl, p, _, _, .int a, rfl, rfl, SqT.of e, rfl, _, rfl, _, _, rfl, rfl, ⟨by decide, by decide⟩, _, _, rfl, rfl, (by show (0 : Int) < 23; decide), _, _, rfl, rfl, _, _, rfl, rfl, ?_⟩
    refine ⟨_, rfl, p, _, _, .int b, rfl, rfl, SqT.of e, rfl, _, rfl, _, _, rfl, rfl, ⟨by decide, by decide⟩, _, _, rfl, rfl, (by show (0 : Int) < 23; decide), _, _, rfl, rfl, _, _, rfl, rfl, ?_⟩
    refine ⟨szr rfl, fun p0 n0 => ?_⟩
    have hx0 : ∃ x0, x0 = a + n / 8 % 23 - 11 := ⟨_, rfl⟩
    have hy0 : ∃ y0, y0 = b + n / 184 % 23 - 11 := ⟨_, rfl⟩
    obtain ⟨x0, ex0⟩ := hx0
    obtain ⟨y0, ey0⟩ := hy0
    show tSeq _ _ _ _ (upd H p0 (.tup [.int (a + n / 8 % 23 - 11), .int (b + n / 184 % 23 - 11)]))
    rw [← ex0, ← ey0]
    have S0 := same_upd (o := HO.tup [.int x0, .int y0]) n0
    have e0 := S0 _ _ e
    refine ⟨_, rfl, _, _, rfl, rfl, (by show (0 : Int) < 8; decide), rfl, _, rfl, ?_⟩
    by_cases f1 : n % 8 = 1
    · exact ifI_pos f1 ⟨_, rfl, k _ _ _ S0 (.hole e0 g)⟩
    · refine ifI_neg f1 ⟨_, rfl, _, _, rfl, rfl, (by show (0 : Int) < 8; decide), rfl, _, rfl, ?_⟩
      by_cases f2 : n % 8 = 2
      · refine ifI_pos f2 ?_
        refine ⟨_, rfl, p, _, _, .int a, rfl, rfl, SqT.of e0, rfl, szr rfl, fun p1 n1 => ?_⟩
        have T1 := same_upd (o := HO.tup [.int a]) n1
        have g1 := T1 _ _ e0
        refine ⟨_, rfl, p, _, _, .int a, rfl, rfl, SqT.of g1, rfl, _, rfl, p, _, _, .int b, rfl, rfl, SqT.of g1, rfl, _, _, rfl, rfl, szr rfl, fun p2 n2 => ?_⟩
        have T2 := same_upd (o := HO.lst [.int a, .int (b + 1)]) n2
        have g2 := T2 _ _ g1
        refine ⟨_, rfl, p, _, _, .int a, rfl, rfl, SqT.of g2, rfl, _, _, rfl, rfl, szr rfl, fun p3 n3 => ?_⟩
        have T3 := same_upd (o := HO.tup [.int (a + 1), .bl true]) n3
        have g3 := T3 _ _ g2
        refine ⟨_, rfl, p, _, _, .int a, rfl, rfl, SqT.of g3, rfl, szr rfl, fun p4 n4 => ?_⟩
        have T4 := same_upd (o := HO.tup [.int a, .str "0"]) n4
        have g4 := T4 _ _ g3
        refine ⟨_, rfl, szr rfl, fun p5 n5 => ?_⟩
        have T5 := same_upd (o := HO.tup [.int 0]) n5
        have g5 := T5 _ _ g4
        refine ⟨p, p5, _, _, rfl, rfl, SqT.of g5, SqT.of upd_same, (fun z => nomatch z), szr rfl, (fun z => nomatch z), fun _ p6 n6 => ?_⟩
        have T6 := same_upd (o := HO.tup ([.int a, .int b] ++ [.int 0])) n6
        refine ⟨szr rfl, fun l nl => ?_⟩
        generalize hL : [V.non, V.str "a", V.int 5, V.ref p1, V.ref p2, V.ref p3, V.ref p4, V.ref p6] = L at *
        have TL := same_upd (o := HO.lst L) nl
        have U6 := T6.trans TL
        have U5 := T5.trans U6
        have U4 := T4.trans U5
        have U3 := T3.trans U4
        have U2 := T2.trans U3
        have U1 := T1.trans U2
        have h1 := U2 p1 _ upd_same
        have h2 := U3 p2 _ upd_same
        have h3 := U4 p3 _ upd_same
        have h4 := U5 p4 _ upd_same
        have h6 := TL p6 _ upd_same
        suffices hv : ∀ m : Int, ∃ v, atI L (m % 8) = some v ∧ HoleIs _ v false by
          obtain ⟨v, hat, hd⟩ := hv (n / 8)
          refine ⟨_, rfl, _, rfl, _, _, rfl, rfl, ⟨by decide, by decide⟩, _, _, rfl, rfl, (by show (0 : Int) < 8; decide), l, _, _, v, rfl, rfl, SqL.of upd_same, hat, ?_⟩
          exact k _ _ _ (S0.trans U1) (.not hd)
        intro m
        have hm : m % 8 = 0 ∨ m % 8 = 1 ∨ m % 8 = 2 ∨ m % 8 = 3 ∨ m % 8 = 4 ∨ m % 8 = 5 ∨ m % 8 = 6 ∨ m % 8 = 7 := mod8 m
        subst hL
        rcases hm with h | h | h | h | h | h | h | h
        · exact ⟨.non, by rw [h]; rfl, .no .non rfl⟩
        · exact ⟨.str "a", by rw [h]; rfl, .no (.str _) rfl⟩
        · exact ⟨.int 5, by rw [h]; rfl, .no (.int _) rfl⟩
        · exact ⟨.ref p1, by rw [h]; rfl, .no (.tup h1) (pairB_tup h1)⟩
        · exact ⟨.ref p2, by rw [h]; rfl, .no (.lst h2) (pairB_lst h2)⟩
        · exact ⟨.ref p3, by rw [h]; rfl, .two h3 (.int _) (.bl _) (Bool.and_false _)⟩
        · exact ⟨.ref p4, by rw [h]; rfl, .two h4 (.int _) (.str _) (Bool.and_false _)⟩
        · exact ⟨.ref p6, by rw [h]; rfl, .no (.tup h6) (pairB_tup h6)⟩
      · refine ifI_neg f2 ⟨_, rfl, ?_⟩
        obtain ⟨d, hd⟩ := hd_pair (H := upd H p0 (.tup [.int x0, .int y0])) upd_same
        exact k _ _ _ S0 hd
end
end K02
namespace K02
open PySem PySem.Spec PyProof.Rows L2 BF
seal L2.PE L2.PA L2.PS L2.PSs L2.PT L2.PW L2.PG L2.PI BF.PTs L2.PO BF.PIH
section
variable {P : Program} {w : World} {K : PySem.W.Frag} {mg : Str → Option Value} {base : Heap} {c0 c1 c2 c3 c4 c5 c6 c7 c8 c9 c10 c11 c12 c13 c14 c15 c16 c17 : Addr}
def spTold : Sp := fun vs H Q _ => ∃ u v du dv, vs = [u, v] ∧ HD H u du ∧ HD H v dv ∧ ∀ H', Same H H' → Q (.bl true) H'
theorem scTold : FnScope ["_law_one", "_law_other_here", "_law_found", "_law_kind_here", "_law_e", "_law_due"] ["_law_one", "_law_other_here"] (defScope sTold) := ⟨rfl, rfl, rfl, by decide +kernel, rfl, by decide +kernel, by decide +kernel⟩
theorem ok_told {f fL fM fK fG : Addr} {fd fdL fdM fdK fdG : FuncData} (D : Df K mg "_law_told" sTold f fd) (B : Blt mg)
    (N : ENames mg c0 c1 c2 c3 c4 c5 c6 c7 c8 c9 c10 c11 c12 c13 c14 c15 c16 c17) (T : EKit K c0 c1 c2 c3 c4 c5 c6 c7 c8 c9 c10 c11 c12 c13 c14 c15 c16 c17 c1 0)
    (DL : Df K mg "is_line" sLine fL fdL) (bL : Binds K fdL ["thing"] []) (GL : FnOk P w K mg base CX0 4 fL fdL ["thing"] spLine)
    (DM : Df K mg "line" sMake fM fdM) (bM : Binds K fdM ["one", "other"] []) (GM : FnOk P w K mg base (CXE P w) 6 fM fdM ["one", "other"] (spMake c1))
    (DK : Df K mg "_law_kind" sKind fK fdK) (bK : Binds K fdK ["_law_e"] []) (GK : FnOkH P w K mg base 1 fK fdK ["_law_e"] (spKind c1 0))
    (DG : Df K mg "_law_good" sGood fG fdG) (bG : Binds K fdG ["_law_one", "_law_other_here"] []) (GG : FnOk P w K mg base CX0 2 fG fdG ["_law_one", "_law_other_here"] spGood) :
    FnOk P w K mg base CX0 7 f fd ["_law_one", "_law_other_here"] spTold := by
  refine D.F.ok scTold (fun vs H Q E h => ?_) (fun cdv A outer s H vs Q E hr h => ?_)
  · obtain ⟨u, v, du, dv, rfl, _⟩ := h
    rfl
  · obtain ⟨u, v, du, dv, rfl, hu, hv, k⟩ := h
    have hr4 : Room 4 _ := hr.mono (by decide)
    have hr2 : Room 2 _ := hr.mono (by decide)
    have hr1 : Room 1 _ := hr.mono (by decide)
    have hun := hr.un
    refine ⟨_, pss_cons (ps_set (i := 2) scTold.nd rfl (Or.inl rfl) pe_non) (pss_cons (ps_set (i := 3) scTold.nd rfl (Or.inl rfl) pe_str)
      (pss_cons (ps_try (i := 4) (Cc := c0) rfl rfl scTold.nd rfl rfl rfl N.m0 (fun _ _ z => z)
        (fun pn W => pss_one (ps_set (i := 2) scTold.nd rfl (Or.inl rfl) (pe_callX GM hr rfl DM.m DM.F.kp bM (pac (pv 0) (pac (pv 1) pa_nil)))))
        (fun x pn => pss_one (ps_set (i := 3) scTold.nd rfl (Or.inl rfl) (pe_callH (x := x) GK ⟨rfl, hr1.dp, hr1.un⟩ rfl rfl DK.m DK.F.kp bK (pac (pv 4) pa_nil)))))
      (pss_cons (ps_if (pt_not (pt_val (pec GG hr2 rfl DG.m DG.F.kp bG .nil pass0 (pac (pv 0) (pac (pv 1) pa_nil)))))
        (pss_one (ps_ret (pe_and (pe_cmpR op_eq (pv 3) pe_str (nomark _))
          (pe_and (pe_cmpR op_isB (pec GL hr4 rfl DL.m DL.F.kp bL .nil pass0 (pac (pe_tup (pac (pv 0) (pac (pv 1) pa_nil))) pa_nil)) pe_bl (nomark _))
          (pe_one (pe_cmpR op_isB (pec GL hr4 rfl DL.m DL.F.kp bL .nil pass0 (pac (pe_tup (pac (pv 1) (pac (pv 0) pa_nil))) pa_nil)) pe_bl (nomark _))))))) pss_nil)
      (pss_cons (ps_set (i := 5) scTold.nd rfl (Or.inl rfl) (pe_tup (pac (pe_callB (call_minT rfl (by show A.units + 3 + 1 < cLine; have : A.units + 3 + _ < cLine := hun; omega)) (by rfl) B.min boot_min (pac (pv 0) (pac (pv 1) pa_nil)))
          (pac (pe_callB (call_maxT rfl (by show A.units + 3 + 1 < cLine; have : A.units + 3 + _ < cLine := hun; omega)) (by rfl) B.max boot_max (pac (pv 0) (pac (pv 1) pa_nil))) pa_nil))))
      (pss_cons (ps_if (PW.pt (pw_or (pt_cmpR op_ne (pv 3) pe_str (nomark _))
          (pw_or (pt_not (pt_val (pe_callB call_isi (by rfl) B.isi boot_isinstance (pac (pv 2) (pac (pe_bltn (v := .ty "tuple") (by rfl) B.tuple boot_tuple rfl) pa_nil)))))
          (pw_or1 (pt_cmpR (op_neD hr) (pv 2) (pv 5) (nomark _)))))) (pss_one (ps_ret pe_bl)) pss_nil)
      (pss_cons (ps_if (PW.pt (pw_or (pt_cmpR op_isnotB (pec GL hr4 rfl DL.m DL.F.kp bL .nil pass0 (pac (pv 5) pa_nil)) pe_bl (nomark _))
          (pw_or (pt_cmpR op_isnotB (pec GL hr4 rfl DL.m DL.F.kp bL .nil pass0 (pac (pe_tup (pac (pe_ix ix_tup (pv 5) pe_int (fun _ _ => rfl)) (pac (pe_ix ix_tup (pv 5) pe_int (fun _ _ => rfl)) pa_nil))) pa_nil)) pe_bl (nomark _))
          (pw_or1 (pt_cmpR op_isnotB (pec GL hr4 rfl DL.m DL.F.kp bL .nil pass0 (pac (pe_callTy call_list_of (by rfl) B.list boot_list (pac (pv 5) pa_nil)) pa_nil)) pe_bl (nomark _)))))) (pss_one (ps_ret pe_bl)) pss_nil)
      (pss_one (ps_ret (pe_and (pe_cmpR op_isB (pec GL hr4 rfl DL.m DL.F.kp bL .nil pass0 (pac (pe_op op_catT (pv 5) (pe_tup (pac (pe_ix ix_tup (pv 5) pe_int (fun _ _ => rfl)) pa_nil))) pa_nil)) pe_bl (nomark _))
        (pe_one (pe_cmpR op_isB (pec GL hr4 rfl DL.m DL.F.kp bL .nil pass0 (pac (pe_tup (pac (pe_ix ix_tup (pv 5) pe_int (fun _ _ => rfl)) (pac (pe_ix ix_tup (pv 5) pe_int (fun _ _ => rfl)) pa_nil))) pa_nil)) pe_bl (nomark _)))))))))))), ?_⟩
    refine ⟨_, rfl, _, rfl, u, v, du, dv, rfl, hu, hv, fun H1 S1 => ⟨?_, ?_, ?_⟩⟩
    · intro h1 p ep0
      refine ⟨_, rfl, _, rfl, u, v, du, dv, rfl, hu.same S1, hv.same S1, fun H2 S12 => ⟨_, rfl, ifB_neg (by rw [good_ln, h1]; rfl) ?_⟩⟩
      have S2 := S1.trans S12
      have ep := S12 _ _ ep0
      have hu2 := hu.same S2
      have hv2 := hv.same S2
      cases hu2 with
      | not _ => cases h1
      | @hole a x y ea ga =>
      cases hv2 with
      | not _ => cases h1
      | @hole b z w' eb gb =>
        have hl := h1
        have hx : HT.lexLt [x, y] [z, w'] = true := (Bool.and_eq_true_iff.mp hl).1
        refine ⟨_, rfl, _, rfl, a, b, [x, y], [z, w'], rfl, SqT.of ea, SqT.of eb, ?_⟩
        rw [if_neg (by rw [lex_asy hx]; exact Bool.false_ne_true)]
        refine ⟨_, rfl, _, rfl, a, b, [x, y], [z, w'], rfl, SqT.of ea, SqT.of eb, ?_⟩
        rw [if_pos hx]
        refine ⟨szr rfl, fun d nd => ?_⟩
        have T1 := same_upd (o := HO.tup [.ref a, .ref b]) nd
        have ed : upd H2 d (.tup [.ref a, .ref b]) d = some (.tup [.ref a, .ref b]) := upd_same
        have ep1 := T1 _ _ ep
        have ea1 := T1 _ _ ea
        have eb1 := T1 _ _ eb
        have S3 := S2.trans T1
        generalize upd H2 d (.tup [.ref a, .ref b]) = H3 at ed ep1 ea1 eb1 S3 ⊢
        refine ⟨_, rfl, rfl, _, rfl, ifB_neg (by simp) ?_⟩
        refine ⟨_, rfl, .ref p, .tup, .tup, rfl, .tup ep1, _, rfl, iteF ?_⟩
        have da : DtsIs H3 [.ref a, .ref b] [.tup [.int x, .int y], .tup [.int z, .int w']] := .cons (.tup ea1 (.cons (.int x) (.cons (.int y) .nil))) (.cons (.tup eb1 (.cons (.int z) (.cons (.int w') .nil))) .nil)
        refine ⟨_, rfl, _, rfl, _, _, .tup ep1 da, .tup ed da, Nat.le_of_ble_eq_true rfl, ⟨_, rfl⟩, ⟨_, rfl⟩, _, rfl, ifB_neg (by rw [Dt.beq_self]; rfl) ?_⟩
        have dA : HD H3 (.ref a) (some (x, y)) := .hole ea1 ga
        have dB : HD H3 (.ref b) (some (z, w')) := .hole eb1 gb
        have L1 : LineIs H3 (.ref d) true := hl ▸ lineHD ed dA dB
        refine ⟨_, rfl, .ref d, _, rfl, L1, _, _, rfl, rfl, _, rfl, iteF ?_⟩
        refine ⟨_, rfl, d, _, _, .ref b, rfl, rfl, SqT.of ed, rfl, _, rfl, d, _, _, .ref a, rfl, rfl, SqT.of ed, rfl, szr rfl, fun t nt => ?_⟩
        have T2 := same_upd (o := HO.tup [.ref b, .ref a]) nt
        have L2' : LineIs (upd H3 t (.tup [.ref b, .ref a])) (.ref t) false := by
          have := lineHD (H := upd H3 t (.tup [.ref b, .ref a])) (p := t) upd_same (dB.same T2) (dA.same T2)
          rwa [show lnB (some (z, w')) (some (x, y)) = false from by show (_ && _) = false; rw [lex_asy hx]; rfl] at this
        refine ⟨.ref t, _, rfl, L2', _, _, rfl, rfl, _, rfl, iteF ?_⟩
        have ed2 := T2 _ _ ed
        have S4 := S3.trans T2
        have dA2 := dA.same T2
        generalize upd H3 t (.tup [.ref b, .ref a]) = H4 at ed2 S4 dA2 ⊢
        refine ⟨_, rfl, d, _, rfl, .inr (SqT.of ed2), fun l nl => ?_⟩
        refine ⟨.ref l, _, rfl, .no (.lst upd_same) (pairB_lst upd_same), _, _, rfl, rfl, _, rfl, iteF ?_⟩
        have T3 := same_upd (o := HO.lst [.ref a, .ref b]) nl
        have ed3 := T3 _ _ ed2
        have S5 := S4.trans T3
        have dA3 := dA2.same T3
        generalize upd H4 l (.lst [.ref a, .ref b]) = H5 at ed3 S5 dA3 ⊢
        refine ⟨_, rfl, _, rfl, d, _, _, .ref a, rfl, rfl, SqT.of ed3, rfl, szr rfl, fun t1 nt1 => ?_⟩
        have T4 := same_upd (o := HO.tup [.ref a]) nt1
        have ed4 := T4 _ _ ed3
        refine ⟨d, t1, _, _, rfl, rfl, SqT.of ed4, SqT.of upd_same, (fun z => nomatch z), szr rfl, (fun z => nomatch z), fun _ t2 nt2 => ?_⟩
        refine ⟨.ref t2, _, rfl, .no (.tup upd_same) (pairB_tup upd_same), _, _, rfl, rfl, _, rfl, iteT ?_⟩
        have T5 := same_upd (o := HO.tup ([.ref a, .ref b] ++ [.ref a])) nt2
        have ed5 := T5 _ _ ed4
        refine ⟨_, rfl, d, _, _, .ref a, rfl, rfl, SqT.of ed5, rfl, _, rfl, d, _, _, .ref a, rfl, rfl, SqT.of ed5, rfl, szr rfl, fun t3 nt3 => ?_⟩
        have T6 := same_upd (o := HO.tup [.ref a, .ref a]) nt3
        have dA6 := dA3.same (T4.trans (T5.trans T6))
        have L6 := lineHD upd_same dA6 dA6
        rw [show lnB (some (x, y)) (some (x, y)) = false from by show (_ && _) = false; rw [lex_irr]; rfl] at L6
        exact ⟨.ref t3, _, rfl, L6, _, _, rfl, rfl, k _ (S5.trans (T4.trans (T5.trans T6)))⟩
    · intro h1 h2 p ep0
      refine ⟨_, rfl, _, rfl, u, v, du, dv, rfl, hu.same S1, hv.same S1, fun H2 S12 => ⟨_, rfl, ifB_neg (by rw [good_ln, h1, h2]; rfl) ?_⟩⟩
      have S2 := S1.trans S12
      have ep := S12 _ _ ep0
      have hu2 := hu.same S2
      have hv2 := hv.same S2
      cases hu2 with
      | not _ => cases dv <;> cases h2
      | @hole b z w' eb gb =>
      cases hv2 with
      | not _ => cases h2
      | @hole a x y ea ga =>
        have hl := h2
        have hx : HT.lexLt [x, y] [z, w'] = true := (Bool.and_eq_true_iff.mp hl).1
        refine ⟨_, rfl, _, rfl, b, a, [z, w'], [x, y], rfl, SqT.of eb, SqT.of ea, ?_⟩
        rw [if_pos hx]
        refine ⟨_, rfl, _, rfl, b, a, [z, w'], [x, y], rfl, SqT.of eb, SqT.of ea, ?_⟩
        rw [if_neg (by rw [lex_asy hx]; exact Bool.false_ne_true)]
        refine ⟨szr rfl, fun d nd => ?_⟩
        have T1 := same_upd (o := HO.tup [.ref a, .ref b]) nd
        have ed : upd H2 d (.tup [.ref a, .ref b]) d = some (.tup [.ref a, .ref b]) := upd_same
        have ep1 := T1 _ _ ep
        have ea1 := T1 _ _ ea
        have eb1 := T1 _ _ eb
        have S3 := S2.trans T1
        generalize upd H2 d (.tup [.ref a, .ref b]) = H3 at ed ep1 ea1 eb1 S3 ⊢
        refine ⟨_, rfl, rfl, _, rfl, ifB_neg (by simp) ?_⟩
        refine ⟨_, rfl, .ref p, .tup, .tup, rfl, .tup ep1, _, rfl, iteF ?_⟩
        have da : DtsIs H3 [.ref a, .ref b] [.tup [.int x, .int y], .tup [.int z, .int w']] := .cons (.tup ea1 (.cons (.int x) (.cons (.int y) .nil))) (.cons (.tup eb1 (.cons (.int z) (.cons (.int w') .nil))) .nil)
        refine ⟨_, rfl, _, rfl, _, _, .tup ep1 da, .tup ed da, Nat.le_of_ble_eq_true rfl, ⟨_, rfl⟩, ⟨_, rfl⟩, _, rfl, ifB_neg (by rw [Dt.beq_self]; rfl) ?_⟩
        have dA : HD H3 (.ref a) (some (x, y)) := .hole ea1 ga
        have dB : HD H3 (.ref b) (some (z, w')) := .hole eb1 gb
        have L1 : LineIs H3 (.ref d) true := hl ▸ lineHD ed dA dB
        refine ⟨_, rfl, .ref d, _, rfl, L1, _, _, rfl, rfl, _, rfl, iteF ?_⟩
        refine ⟨_, rfl, d, _, _, .ref b, rfl, rfl, SqT.of ed, rfl, _, rfl, d, _, _, .ref a, rfl, rfl, SqT.of ed, rfl, szr rfl, fun t nt => ?_⟩
        have T2 := same_upd (o := HO.tup [.ref b, .ref a]) nt
        have L2' : LineIs (upd H3 t (.tup [.ref b, .ref a])) (.ref t) false := by
          have := lineHD (H := upd H3 t (.tup [.ref b, .ref a])) (p := t) upd_same (dB.same T2) (dA.same T2)
          rwa [show lnB (some (z, w')) (some (x, y)) = false from by show (_ && _) = false; rw [lex_asy hx]; rfl] at this
        refine ⟨.ref t, _, rfl, L2', _, _, rfl, rfl, _, rfl, iteF ?_⟩
        have ed2 := T2 _ _ ed
        have S4 := S3.trans T2
        have dA2 := dA.same T2
        generalize upd H3 t (.tup [.ref b, .ref a]) = H4 at ed2 S4 dA2 ⊢
        refine ⟨_, rfl, d, _, rfl, .inr (SqT.of ed2), fun l nl => ?_⟩
        refine ⟨.ref l, _, rfl, .no (.lst upd_same) (pairB_lst upd_same), _, _, rfl, rfl, _, rfl, iteF ?_⟩
        have T3 := same_upd (o := HO.lst [.ref a, .ref b]) nl
        have ed3 := T3 _ _ ed2
        have S5 := S4.trans T3
        have dA3 := dA2.same T3
        generalize upd H4 l (.lst [.ref a, .ref b]) = H5 at ed3 S5 dA3 ⊢
        refine ⟨_, rfl, _, rfl, d, _, _, .ref a, rfl, rfl, SqT.of ed3, rfl, szr rfl, fun t1 nt1 => ?_⟩
        have T4 := same_upd (o := HO.tup [.ref a]) nt1
        have ed4 := T4 _ _ ed3
        refine ⟨d, t1, _, _, rfl, rfl, SqT.of ed4, SqT.of upd_same, (fun z => nomatch z), szr rfl, (fun z => nomatch z), fun _ t2 nt2 => ?_⟩
        refine ⟨.ref t2, _, rfl, .no (.tup upd_same) (pairB_tup upd_same), _, _, rfl, rfl, _, rfl, iteT ?_⟩
        have T5 := same_upd (o := HO.tup ([.ref a, .ref b] ++ [.ref a])) nt2
        have ed5 := T5 _ _ ed4
        refine ⟨_, rfl, d, _, _, .ref a, rfl, rfl, SqT.of ed5, rfl, _, rfl, d, _, _, .ref a, rfl, rfl, SqT.of ed5, rfl, szr rfl, fun t3 nt3 => ?_⟩
        have T6 := same_upd (o := HO.tup [.ref a, .ref a]) nt3
        have dA6 := dA3.same (T4.trans (T5.trans T6))
        have L6 := lineHD upd_same dA6 dA6
        rw [show lnB (some (x, y)) (some (x, y)) = false from by show (_ && _) = false; rw [lex_irr]; rfl] at L6
        exact ⟨.ref t3, _, rfl, L6, _, _, rfl, rfl, k _ (S5.trans (T4.trans (T5.trans T6)))⟩
    · intro h1 h2
      refine ⟨T.ex, fun x o hn hx => ⟨_, rfl, o, upd_same, ⟨_, hx⟩, rfl, upd_same, hx, fun H2 S12 z hz => ?_⟩⟩
      have ez : V.str "line" = z := Option.some.inj hz
      subst ez
      have S2 := S1.trans ((same_upd hn).trans S12)
      have hu2 := hu.same S2
      have hv2 := hv.same S2
      refine ⟨_, rfl, _, rfl, u, v, du, dv, rfl, hu2, hv2, fun H3 S23 => ⟨_, rfl, ifB_pos (by rw [good_ln, h1, h2]; rfl) ?_⟩⟩
      refine ⟨_, rfl, rfl, _, rfl, ifB_pos (decide_eq_true rfl) ?_⟩
      refine ⟨_, rfl, _, rfl, szr rfl, fun p1 n1 => ?_⟩
      have T1 := S23.trans (same_upd (o := HO.tup [u, v]) n1)
      have L1 := lineHD upd_same (hu2.same T1) (hv2.same T1)
      rw [h1] at L1
      refine ⟨.ref p1, _, rfl, L1, _, _, rfl, rfl, _, rfl, iteT ?_⟩
      refine ⟨_, rfl, _, rfl, szr rfl, fun p2 n2 => ?_⟩
      have T2 := T1.trans (same_upd (o := HO.tup [v, u]) n2)
      have L2' := lineHD upd_same (hv2.same T2) (hu2.same T2)
      rw [h2] at L2'
      exact ⟨.ref p2, _, rfl, L2', _, _, rfl, rfl, k _ (S2.trans T2)⟩
end
end K02
namespace K02
open PySem PySem.Spec PyProof.Rows L2 BF
seal L2.PE L2.PA L2.PS L2.PSs L2.PT L2.PW L2.PG L2.PI BF.PTs L2.PO BF.PIH
section
variable {P : Program} {w : World} {K : PySem.W.Frag} {mg : Str → Option Value} {base : Heap}
def spLaw (K : PySem.W.Frag) : Sp := fun vs H Q _ => ∃ (a : Addr) (ns : List Int), vs = [.ref a] ∧ SqL K H a (ns.map V.int) ∧ ns.length ≤ 63 ∧ ∀ H', Q (.bl true) H'
theorem scLaw : FnScope ["_law_script", "_law_cell", "_law_number", "_law_one", "_law_other_here"] ["_law_script"] (defScope sLaw) := ⟨rfl, rfl, rfl, by decide +kernel, rfl, by decide +kernel, by decide +kernel⟩
theorem ok_law {f fH fO fT : Addr} {fd fdH fdO fdT : FuncData} (D : Df K mg "law" sLaw f fd)
    (DH : Df K mg "_law_hole" sLHole fH fdH) (bH : Binds K fdH ["_law_number", "_law_far"] []) (GH : FnOk P w K mg base CX0 1 fH fdH ["_law_number", "_law_far"] spLHole)
    (DO : Df K mg "_law_other" sOther fO fdO) (bO : Binds K fdO ["_law_one", "_law_number"] []) (GO : FnOk P w K mg base CX0 1 fO fdO ["_law_one", "_law_number"] spOther)
    (DT : Df K mg "_law_told" sTold fT fdT) (bT : Binds K fdT ["_law_one", "_law_other_here"] []) (GT : FnOk P w K mg base CX0 7 fT fdT ["_law_one", "_law_other_here"] spTold) :
    FnOk P w K mg base CX0 8 f fd ["_law_script"] (spLaw K) := by
  refine D.F.ok scLaw (fun vs H Q E h => ?_) (fun cdv A outer s H vs Q E hr h => ?_)
  · obtain ⟨a, ns, rfl, _⟩ := h
    rfl
  · obtain ⟨a, ns, rfl, hS, hlen, k⟩ := h
    have hr1 : Room 1 _ := hr.mono (by decide)
    refine ⟨_, pss_cons (ps_for PassesOwn.never rfl (pi_list (pe_slice sl_list (pv 0) po_none (po_some pe_int))) (pg_name (i := 1) scLaw.nd rfl (Or.inl rfl))
        (pss_cons (ps_set (i := 2) scLaw.nd rfl (Or.inl rfl) (pe_op op_mod (pe_op op_mul (pv 1) pe_int) pe_int))
        (pss_cons (ps_set (i := 3) scLaw.nd rfl (Or.inl rfl) (pec GH hr1 rfl DH.m DH.F.kp bH .nil pass0 (pac (pv 2) (pac (pe_op op_mod (pe_op op_fdiv (pv 2) pe_int) pe_int) pa_nil))))
        (pss_cons (ps_set (i := 4) scLaw.nd rfl (Or.inl rfl) (pec GO hr1 rfl DO.m DO.F.kp bO .nil pass0 (pac (pv 3) (pac (pe_op op_mod (pe_op op_mul (pv 2) pe_int) pe_int) pa_nil))))
        (pss_one (ps_if (PW.pt (pw_or (pt_not (pt_val (pec GT hr rfl DT.m DT.F.kp bT .nil pass0 (pac (pv 3) (pac (pv 4) pa_nil)))))
          (pw_or1 (pt_not (pt_val (pec GT hr rfl DT.m DT.F.kp bT .nil pass0 (pac (pv 4) (pac (pv 3) pa_nil)))))))) (pss_one (ps_ret pe_bl)) pss_nil))))))
      (pss_one (ps_ret (pe_and (pec GT hr rfl DT.m DT.F.kp bT .nil pass0 (pac (pe_tup (pac pe_int (pac pe_int pa_nil))) (pac (pe_tup (pac pe_int (pac (pe_un un_neg pe_int) pa_nil))) pa_nil)))
        (pe_and (pec GT hr rfl DT.m DT.F.kp bT .nil pass0 (pac (pe_tup (pac pe_int (pac pe_int pa_nil))) (pac (pe_tup (pac pe_int (pac pe_int pa_nil))) pa_nil)))
        (pe_and (pec GT hr rfl DT.m DT.F.kp bT .nil pass0 (pac (pe_tup (pac pe_int (pac pe_int pa_nil))) (pac (pe_tup (pac pe_int (pac pe_int pa_nil))) pa_nil)))
        (pe_one (pec GT hr rfl DT.m DT.F.kp bT .nil pass0 (pac pe_int (pac pe_int pa_nil))))))))), ?_⟩
    refine ⟨_, rfl, _, rfl, a, _, rfl, hS, fun pl np => ⟨pl, rfl, ⟨_, SqL.of upd_same⟩, ?_⟩⟩
    refine for_list (K := K) (a := pl) (xs := cutV (ns.map V.int) none (some 60)) (fun i σ H2 => (∃ v1 v2 v3 v4, σ = [some (.ref a), v1, v2, v3, v4]) ∧ Same (upd H pl (.lst (cutV (ns.map V.int) none (some 60)))) H2)
      ⟨⟨_, _, _, _, rfl⟩, Same.refl _⟩ (fun i σ H2 _ ⟨_, s2⟩ => s2.seq (SqL.of upd_same)) ?_ ?_
    · rintro i y σ H2 hi ⟨⟨v1, v2, v3, v4, rfl⟩, s2⟩
      obtain ⟨z, _, rfl⟩ := List.mem_map.mp (cut_mem (List.mem_of_getElem? hi))
      refine ⟨_, rfl, _, _, rfl, rfl, cmulR (by decide) (by decide), _, _, rfl, rfl, (by show (0 : Int) < _; decide), ?_⟩
      refine ⟨_, rfl, _, rfl, _, _, rfl, rfl, ⟨by decide, by decide⟩, _, _, rfl, rfl, (by show (0 : Int) < 4; decide), _, _, rfl, fun p hp => ?_⟩
      have S3 := same_upd (o := HO.tup [.int (hx (z * 48271 % 2147483647) (z * 48271 % 2147483647 / 7 % 4)), .int (hy (z * 48271 % 2147483647) (z * 48271 % 2147483647 / 7 % 4))]) hp
      have g3 : (good (.int (hx (z * 48271 % 2147483647) (z * 48271 % 2147483647 / 7 % 4))) && good (.int (hy (z * 48271 % 2147483647) (z * 48271 % 2147483647 / 7 % 4)))) = true := by rw [hx_good, hy_good]; rfl
      refine ⟨_, rfl, _, rfl, _, _, rfl, rfl, cmulR (by decide) (by decide), _, _, rfl, rfl, (by show (0 : Int) < _; decide), p, _, _, _, rfl, upd_same, g3, fun H4 u du S4 hu => ?_⟩
      have h1 : HD H4 (.ref p) _ := .hole (S4 _ _ upd_same) g3
      refine ⟨_, rfl, _, rfl, .ref p, u, _, du, rfl, h1, hu, fun H5 S5 => ⟨_, rfl, iteF ?_⟩⟩
      refine ⟨_, rfl, _, rfl, u, .ref p, du, _, rfl, hu.same S5, h1.same S5, fun H6 S6 => ⟨_, rfl, iteF ?_⟩⟩
      exact ⟨⟨_, _, _, _, rfl⟩, s2.trans (S3.trans (S4.trans (S5.trans S6)))⟩
    · rintro σ H2 ⟨⟨v1, v2, v3, v4, rfl⟩, s2⟩
      refine ⟨szr rfl, fun p1 n1 => ⟨_, rfl, szr rfl, fun p2 n2 => ?_⟩⟩
      have T2 := same_upd (o := HO.tup [.int 9, .int (-9)]) n2
      refine ⟨.ref p1, .ref p2, _, _, rfl, .hole (T2 _ _ upd_same) (by decide), .hole upd_same (by decide), fun H3 S3 => ⟨_, rfl, iteT ?_⟩⟩
      refine ⟨szr rfl, fun p3 n3 => ⟨szr rfl, fun p4 n4 => ?_⟩⟩
      have T4 := same_upd (o := HO.tup [.int 10, .int 0]) n4
      refine ⟨.ref p3, .ref p4, _, _, rfl, .hole (T4 _ _ upd_same) (by decide), .hole upd_same (by decide), fun H4 S4 => ⟨_, rfl, iteT ?_⟩⟩
      refine ⟨szr rfl, fun p5 n5 => ⟨szr rfl, fun p6 n6 => ?_⟩⟩
      have T6 := same_upd (o := HO.tup [.int 5, .int 19]) n6
      refine ⟨.ref p5, .ref p6, _, _, rfl, .hole (T6 _ _ upd_same) (by decide), .hole upd_same (by decide), fun H5 S5 => ⟨_, rfl, iteT ?_⟩⟩
      exact ⟨.int 1, .int 2, _, _, rfl, .not (.no (.int 1) rfl), .not (.no (.int 2) rfl), fun H6 _ => k H6⟩
end
end K02
def PySem.W.Fast.tw587407312944822246 : Nat := 0
theorem PySem.W.Fast.te587407312944822246 : PySem.W.Fast.tw587407312944822246 = 0 := rfl
namespace K02
open PySem PySem.Spec PyProof.Rows L2 BF
/-! what the top has written, and the law's head -/
theorem ln1 {us : List Value} (h : us.length = 1) : ∃ a0, us = [a0] := match us, h with | [a0], _ => ⟨a0, rfl⟩
theorem ln2 {us : List Value} (h : us.length = 2) : ∃ a0 a1, us = [a0, a1] := match us, h with | [a0, a1], _ => ⟨a0, a1, rfl⟩
theorem all_mk {l : PySem.W.OpenLaw} {w : World} {K : PySem.W.Frag} {h : Heap} {mg : Str → Option Value} {fa fW fP fI fH fN fQ fL fR fM fV fJ fK fO fG fT fZ : Addr} (X : K.In h) (G : h.Ns mainGlobals mg) (hfa : mg "law" = some (.ref fa))
    {odW anW odP anP odI anI odH anH odN anN odQ anQ odL anL odR anR odM anM odV anV odJ anJ odK anK odO anO odG anG odT anT odZ anZ : Option Addr} {slW slP slI slH slN slQ slL slR slM slV slJ slK slO slG slT slZ : Array (Option Value)} {ocW kVW dcW pmW cdW ctW ocP kVP dcP pmP cdP ctP ocI kVI dcI pmI cdI ctI ocH kVH dcH pmH cdH ctH ocN kVN dcN pmN cdN ctN ocQ kVQ dcQ pmQ cdQ ctQ ocL kVL dcL pmL cdL ctL ocR kVR dcR pmR cdR ctR ocM kVM dcM pmM cdM ctM ocV kVV dcV pmV cdV ctV ocJ kVJ dcJ pmJ cdJ ctJ ocK kVK dcK pmK cdK ctK ocO kVO dcO pmO cdO ctO ocG kVG dcG pmG cdG ctG ocT kVT dcT pmT cdT ctT ocZ kVZ dcZ pmZ cdZ ctZ : Value} {t_far t_lng : Tok}
    (aW : PySem.W.nsIn K mainGlobals "is_whole" = some (some (.ref fW))) (lW : K.lookup fW = some ⟨ocW, odW, .func (PySem.W.fnOf "is_whole" "is_whole" (defArgs sWhole) (defBody sWhole) (defScope sWhole) .none kVW dcW pmW anW cdW ctW), slW⟩) (cW : PySem.W.codeIn K cdW "is_whole" = true) (kW : PySem.W.keepIn K (.ref fW) = true)
    (aP : PySem.W.nsIn K mainGlobals "is_pair" = some (some (.ref fP))) (lP : K.lookup fP = some ⟨ocP, odP, .func (PySem.W.fnOf "is_pair" "is_pair" (defArgs sPair) (defBody sPair) (defScope sPair) .none kVP dcP pmP anP cdP ctP), slP⟩) (cP : PySem.W.codeIn K cdP "is_pair" = true) (kP : PySem.W.keepIn K (.ref fP) = true)
    (aI : PySem.W.nsIn K mainGlobals "is_within" = some (some (.ref fI))) (lI : K.lookup fI = some ⟨ocI, odI, .func (PySem.W.fnOf "is_within" "is_within" (defArgs sWithin) (defBody sWithin) (defScope sWithin) .none kVI dcI pmI anI cdI ctI), slI⟩) (cI : PySem.W.codeIn K cdI "is_within" = true) (kI : PySem.W.keepIn K (.ref fI) = true)
    (aH : PySem.W.nsIn K mainGlobals "is_hole" = some (some (.ref fH))) (lH : K.lookup fH = some ⟨ocH, odH, .func (PySem.W.fnOf "is_hole" "is_hole" (defArgs sHole) (defBody sHole) (defScope sHole) .none kVH dcH pmH anH cdH ctH), slH⟩) (cH : PySem.W.codeIn K cdH "is_hole" = true) (kH : PySem.W.keepIn K (.ref fH) = true)
    (aN : PySem.W.nsIn K mainGlobals "are_near" = some (some (.ref fN))) (lN : K.lookup fN = some ⟨ocN, odN, .func (PySem.W.fnOf "are_near" "are_near" (defArgs sNear) (defBody sNear) (defScope sNear) .none kVN dcN pmN anN cdN ctN), slN⟩) (cN : PySem.W.codeIn K cdN "are_near" = true) (kN : PySem.W.keepIn K (.ref fN) = true)
    (aQ : PySem.W.nsIn K mainGlobals "ordered" = some (some (.ref fQ))) (lQ : K.lookup fQ = some ⟨ocQ, odQ, .func (PySem.W.fnOf "ordered" "ordered" (defArgs sOrd) (defBody sOrd) (defScope sOrd) .none kVQ dcQ pmQ anQ cdQ ctQ), slQ⟩) (cQ : PySem.W.codeIn K cdQ "ordered" = true) (kQ : PySem.W.keepIn K (.ref fQ) = true)
    (aL : PySem.W.nsIn K mainGlobals "is_line" = some (some (.ref fL))) (lL : K.lookup fL = some ⟨ocL, odL, .func (PySem.W.fnOf "is_line" "is_line" (defArgs sLine) (defBody sLine) (defScope sLine) .none kVL dcL pmL anL cdL ctL), slL⟩) (cL : PySem.W.codeIn K cdL "is_line" = true) (kL : PySem.W.keepIn K (.ref fL) = true)
    (aR : PySem.W.nsIn K mainGlobals "are_ends" = some (some (.ref fR))) (lR : K.lookup fR = some ⟨ocR, odR, .func (PySem.W.fnOf "are_ends" "are_ends" (defArgs sAre) (defBody sAre) (defScope sAre) .none kVR dcR pmR anR cdR ctR), slR⟩) (cR : PySem.W.codeIn K cdR "are_ends" = true) (kR : PySem.W.keepIn K (.ref fR) = true)
    (aM : PySem.W.nsIn K mainGlobals "line" = some (some (.ref fM))) (lM : K.lookup fM = some ⟨ocM, odM, .func (PySem.W.fnOf "line" "line" (defArgs sMake) (defBody sMake) (defScope sMake) .none kVM dcM pmM anM cdM ctM), slM⟩) (cM : PySem.W.codeIn K cdM "line" = true) (kM : PySem.W.keepIn K (.ref fM) = true)
    (aV : PySem.W.nsIn K mainGlobals "_law_whole" = some (some (.ref fV))) (lV : K.lookup fV = some ⟨ocV, odV, .func (PySem.W.fnOf "_law_whole" "_law_whole" (defArgs sLWhole) (defBody sLWhole) (defScope sLWhole) .none kVV dcV pmV anV cdV ctV), slV⟩) (cV : PySem.W.codeIn K cdV "_law_whole" = true) (kV : PySem.W.keepIn K (.ref fV) = true)
    (aJ : PySem.W.nsIn K mainGlobals "_law_hole" = some (some (.ref fJ))) (lJ : K.lookup fJ = some ⟨ocJ, odJ, .func (PySem.W.fnOf "_law_hole" "_law_hole" (defArgs sLHole) (defBody sLHole) (defScope sLHole) .none kVJ dcJ pmJ anJ cdJ ctJ), slJ⟩) (cJ : PySem.W.codeIn K cdJ "_law_hole" = true) (kJ : PySem.W.keepIn K (.ref fJ) = true)
    (aK : PySem.W.nsIn K mainGlobals "_law_kind" = some (some (.ref fK))) (lK : K.lookup fK = some ⟨ocK, odK, .func (PySem.W.fnOf "_law_kind" "_law_kind" (defArgs sKind) (defBody sKind) (defScope sKind) .none kVK dcK pmK anK cdK ctK), slK⟩) (cK : PySem.W.codeIn K cdK "_law_kind" = true) (kK : PySem.W.keepIn K (.ref fK) = true)
    (aO : PySem.W.nsIn K mainGlobals "_law_other" = some (some (.ref fO))) (lO : K.lookup fO = some ⟨ocO, odO, .func (PySem.W.fnOf "_law_other" "_law_other" (defArgs sOther) (defBody sOther) (defScope sOther) .none kVO dcO pmO anO cdO ctO), slO⟩) (cO : PySem.W.codeIn K cdO "_law_other" = true) (kO : PySem.W.keepIn K (.ref fO) = true)
    (aG : PySem.W.nsIn K mainGlobals "_law_good" = some (some (.ref fG))) (lG : K.lookup fG = some ⟨ocG, odG, .func (PySem.W.fnOf "_law_good" "_law_good" (defArgs sGood) (defBody sGood) (defScope sGood) .none kVG dcG pmG anG cdG ctG), slG⟩) (cG : PySem.W.codeIn K cdG "_law_good" = true) (kG : PySem.W.keepIn K (.ref fG) = true)
    (aT : PySem.W.nsIn K mainGlobals "_law_told" = some (some (.ref fT))) (lT : K.lookup fT = some ⟨ocT, odT, .func (PySem.W.fnOf "_law_told" "_law_told" (defArgs sTold) (defBody sTold) (defScope sTold) .none kVT dcT pmT anT cdT ctT), slT⟩) (cT : PySem.W.codeIn K cdT "_law_told" = true) (kT : PySem.W.keepIn K (.ref fT) = true)
    (aZ : PySem.W.nsIn K mainGlobals "law" = some (some (.ref fZ))) (lZ : K.lookup fZ = some ⟨ocZ, odZ, .func (PySem.W.fnOf "law" "law" (defArgs sLaw) (defBody sLaw) (defScope sLaw) .none kVZ dcZ pmZ anZ cdZ ctZ), slZ⟩) (cZ : PySem.W.codeIn K cdZ "law" = true) (kZ : PySem.W.keepIn K (.ref fZ) = true)
    {c0 c1 c2 c3 c4 c5 c6 c7 c8 c9 c10 c11 c12 c13 c14 c15 c16 c17 : Addr} (n0 : PySem.W.nsIn K mainGlobals "ClothError" = some (some (.ref c0))) (n1 : PySem.W.nsIn K mainGlobals "NoLine" = some (some (.ref c1))) (n2 : PySem.W.nsIn K mainGlobals "TwoColours" = some (some (.ref c2))) (n3 : PySem.W.nsIn K mainGlobals "TooMany" = some (some (.ref c3))) (n4 : PySem.W.nsIn K mainGlobals "NoHole" = some (some (.ref c4))) (n5 : PySem.W.nsIn K mainGlobals "NoDrawing" = some (some (.ref c5))) (n6 : PySem.W.nsIn K mainGlobals "NoThread" = some (some (.ref c6))) (n7 : PySem.W.nsIn K mainGlobals "Taken" = some (some (.ref c7))) (n8 : PySem.W.nsIn K mainGlobals "NoName" = some (some (.ref c8))) (n9 : PySem.W.nsIn K mainGlobals "NoTie" = some (some (.ref c9))) (n10 : PySem.W.nsIn K mainGlobals "NoPlan" = some (some (.ref c10))) (n11 : PySem.W.nsIn K mainGlobals "NoNumber" = some (some (.ref c11))) (n12 : PySem.W.nsIn K mainGlobals "Busy" = some (some (.ref c12))) (n13 : PySem.W.nsIn K mainGlobals "Idle" = some (some (.ref c13))) (n14 : PySem.W.nsIn K mainGlobals "NotWished" = some (some (.ref c14))) (n15 : PySem.W.nsIn K mainGlobals "Bare" = some (some (.ref c15))) (n16 : PySem.W.nsIn K mainGlobals "NoChart" = some (some (.ref c16))) (n17 : PySem.W.nsIn K mainGlobals "NoRow" = some (some (.ref c17))) (T1 : EKit K c0 c1 c2 c3 c4 c5 c6 c7 c8 c9 c10 c11 c12 c13 c14 c15 c16 c17 c1 0)
    (z_isi : PySem.W.nsIn K mainGlobals "isinstance" = some none)
    (z_int : PySem.W.nsIn K mainGlobals "int" = some none)
    (z_bool : PySem.W.nsIn K mainGlobals "bool" = some none)
    (z_tuple : PySem.W.nsIn K mainGlobals "tuple" = some none)
    (z_len : PySem.W.nsIn K mainGlobals "len" = some none)
    (z_abs : PySem.W.nsIn K mainGlobals "abs" = some none)
    (z_list : PySem.W.nsIn K mainGlobals "list" = some none)
    (z_min : PySem.W.nsIn K mainGlobals "min" = some none)
    (z_max : PySem.W.nsIn K mainGlobals "max" = some none)
    (z_val : PySem.W.nsIn K mainGlobals "ValueError" = some none)
    (g_far : PySem.W.nsIn K mainGlobals "FARTHEST" = some (some (.int 1000000000 t_far)))
    (g_lng : PySem.W.nsIn K mainGlobals "LONGEST" = some (some (.int 9 t_lng))) :
    ∃ fd : FuncData, (∀ (s : Shared) (v : Value), BindsTo s fd ⟨[v], []⟩ [("_law_script", v)]) ∧ ∀ base : Heap, K.In base → base.Ns mainGlobals mg → FnOk l.prog w K mg base CX0 8 fa fd ["_law_script"] (spLaw K) := by
  have e := hfa.symm.trans (PySem.W.mg_of X G aZ)
  cases e
  have DW := df_mk (st := sWhole) X G aW lW cW kW
  have DP := df_mk (st := sPair) X G aP lP cP kP
  have DI := df_mk (st := sWithin) X G aI lI cI kI
  have DH := df_mk (st := sHole) X G aH lH cH kH
  have DN := df_mk (st := sNear) X G aN lN cN kN
  have DQ := df_mk (st := sOrd) X G aQ lQ cQ kQ
  have DL := df_mk (st := sLine) X G aL lL cL kL
  have DR := df_mk (st := sAre) X G aR lR cR kR
  have DM := df_mk (st := sMake) X G aM lM cM kM
  have DV := df_mk (st := sLWhole) X G aV lV cV kV
  have DJ := df_mk (st := sLHole) X G aJ lJ cJ kJ
  have DK := df_mk (st := sKind) X G aK lK cK kK
  have DO := df_mk (st := sOther) X G aO lO cO kO
  have DG := df_mk (st := sGood) X G aG lG cG kG
  have DT := df_mk (st := sTold) X G aT lT cT kT
  have DZ := df_mk (st := sLaw) X G aZ lZ cZ kZ
  have B : Blt mg := ⟨PySem.W.mg_none_of X G z_isi, PySem.W.mg_none_of X G z_int, PySem.W.mg_none_of X G z_bool, PySem.W.mg_none_of X G z_tuple, PySem.W.mg_none_of X G z_len, PySem.W.mg_none_of X G z_abs, PySem.W.mg_none_of X G z_list, PySem.W.mg_none_of X G z_min, PySem.W.mg_none_of X G z_max, PySem.W.mg_none_of X G z_val, ⟨t_far, PySem.W.mg_of X G g_far⟩, ⟨t_lng, PySem.W.mg_of X G g_lng⟩⟩
  have N : ENames mg c0 c1 c2 c3 c4 c5 c6 c7 c8 c9 c10 c11 c12 c13 c14 c15 c16 c17 := ⟨PySem.W.mg_of X G n0, PySem.W.mg_of X G n1, PySem.W.mg_of X G n2, PySem.W.mg_of X G n3, PySem.W.mg_of X G n4, PySem.W.mg_of X G n5, PySem.W.mg_of X G n6, PySem.W.mg_of X G n7, PySem.W.mg_of X G n8, PySem.W.mg_of X G n9, PySem.W.mg_of X G n10, PySem.W.mg_of X G n11, PySem.W.mg_of X G n12, PySem.W.mg_of X G n13, PySem.W.mg_of X G n14, PySem.W.mg_of X G n15, PySem.W.mg_of X G n16, PySem.W.mg_of X G n17⟩
  have bW := DW.F.binds (ps := ["thing"]) fun _ _ _ _ _ _ us hl => by obtain ⟨_, rfl⟩ := ln1 hl; rfl
  have bP := DP.F.binds (ps := ["thing"]) fun _ _ _ _ _ _ us hl => by obtain ⟨_, rfl⟩ := ln1 hl; rfl
  have bI := DI.F.binds (ps := ["thing"]) fun _ _ _ _ _ _ us hl => by obtain ⟨_, rfl⟩ := ln1 hl; rfl
  have bH := DH.F.binds (ps := ["thing"]) fun _ _ _ _ _ _ us hl => by obtain ⟨_, rfl⟩ := ln1 hl; rfl
  have bN := DN.F.binds (ps := ["one", "other"]) fun _ _ _ _ _ _ us hl => by obtain ⟨_, _, rfl⟩ := ln2 hl; rfl
  have bQ := DQ.F.binds (ps := ["one", "other"]) fun _ _ _ _ _ _ us hl => by obtain ⟨_, _, rfl⟩ := ln2 hl; rfl
  have bL := DL.F.binds (ps := ["thing"]) fun _ _ _ _ _ _ us hl => by obtain ⟨_, rfl⟩ := ln1 hl; rfl
  have bR := DR.F.binds (ps := ["one", "other"]) fun _ _ _ _ _ _ us hl => by obtain ⟨_, _, rfl⟩ := ln2 hl; rfl
  have bM := DM.F.binds (ps := ["one", "other"]) fun _ _ _ _ _ _ us hl => by obtain ⟨_, _, rfl⟩ := ln2 hl; rfl
  have bV := DV.F.binds (ps := ["_law_found"]) fun _ _ _ _ _ _ us hl => by obtain ⟨_, rfl⟩ := ln1 hl; rfl
  have bJ := DJ.F.binds (ps := ["_law_number", "_law_far"]) fun _ _ _ _ _ _ us hl => by obtain ⟨_, _, rfl⟩ := ln2 hl; rfl
  have bK := DK.F.binds (ps := ["_law_e"]) fun _ _ _ _ _ _ us hl => by obtain ⟨_, rfl⟩ := ln1 hl; rfl
  have bO := DO.F.binds (ps := ["_law_one", "_law_number"]) fun _ _ _ _ _ _ us hl => by obtain ⟨_, _, rfl⟩ := ln2 hl; rfl
  have bG := DG.F.binds (ps := ["_law_one", "_law_other_here"]) fun _ _ _ _ _ _ us hl => by obtain ⟨_, _, rfl⟩ := ln2 hl; rfl
  have bT := DT.F.binds (ps := ["_law_one", "_law_other_here"]) fun _ _ _ _ _ _ us hl => by obtain ⟨_, _, rfl⟩ := ln2 hl; rfl
  refine ⟨PySem.W.fnOf "law" "law" (defArgs sLaw) (defBody sLaw) (defScope sLaw) .none kVZ dcZ pmZ anZ cdZ ctZ, fun s v => .of_eq rfl, fun base _ _ => ?_⟩
  have GP : FnOk l.prog w K mg base CX0 1 fP _ ["thing"] spPair := ok_pair DP B
  have GI : FnOk l.prog w K mg base CX0 2 fI _ ["thing"] spWithin := ok_within DI DW bW B
  have GH : FnOk l.prog w K mg base CX0 3 fH _ ["thing"] spHole := ok_hole DH DP bP GP DI bI GI
  have GL : FnOk l.prog w K mg base CX0 4 fL _ ["thing"] spLine := ok_line DL DP bP GP DH bH GH DN bN (ok_near DN B)
  have GR : FnOk l.prog w K mg base CX0 5 fR _ ["one", "other"] spAre := ok_are DR DL bL GL
  have GM : FnOk l.prog w K mg base (CXE l.prog w) 6 fM _ ["one", "other"] (spMake c1) := ok_make DM DR bR GR DQ bQ (ok_ord DQ) N.m1 T1.q
  have GK : FnOkH l.prog w K mg base 1 fK _ ["_law_e"] (spKind c1 0) := ok_kind (by decide) DK B N T1
  have GG : FnOk l.prog w K mg base CX0 2 fG _ ["_law_one", "_law_other_here"] spGood := ok_good DG B DV bV (ok_lwhole DV B)
  exact ok_law DZ DJ bJ (ok_lhole DJ) DO bO (ok_other DO) DT bT (ok_told DT B N T1 DL bL GL DM bM GM DK bK GK DG bG GG)
theorem walk {l : PySem.W.OpenLaw} {q : Program} {loose : List Str} {XP : (Str → Option Value) → Heap → Prop} {YP : World → Heap → Prop} {d : DefRec} {K : Params → PySem.W.Frag} (hn : l.most = some 63) (hdf : d.params.defaults = [])
    (hY : ∀ (w : World) (h : Heap), YP w h → (K w.params).In h)
    (F : ∀ (w : World) (mg : Str → Option Value) (fa : Addr) (h : Heap), (K w.params).In h → h.Ns mainGlobals mg → mg d.name = some (.ref fa) →
      ∃ fd : FuncData, (∀ (s : Shared) (u : Value), BindsTo s fd ⟨[u], []⟩ [("_law_script", u)]) ∧ ∀ base : Heap, (K w.params).In base → base.Ns mainGlobals mg → FnOk l.prog w (K w.params) mg base CX0 8 fa fd ["_law_script"] (spLaw (K w.params))) :
    PySem.W.WalkO q loose XP YP l.row.toRowW d [] (fun f vs => PySem.call f vs) :=
  L2.walk_of (n := 63) (k := 8) (x := "_law_script") (CX := fun _ => CX0) (sp := fun w => spLaw (K w.params)) hn (by decide) hdf ⟨rfl, by decide, by decide⟩ hY F (fun _ _ a ns hl _ hS => ⟨a, ns, rfl, hS, hl, fun _ => rfl⟩) fun _ _ _ _ _ z => z
end K02
open PySem PySem.W PyProof.Rows
set_option maxRecDepth 100000 in
set_option maxHeartbeats 0 in
theorem PySem.Challenge.cw_bothfaces_k02_lines_holds : PySem.Challenge.rw_bothfaces_k02_lines.Holds := by
  w_on; o_law; k_head; (case hw => w_witness2)
  k_fill
  refine K02.walk (l := PySem.Challenge.rw_bothfaces_k02_lines) rfl rfl (fun w h Y => PySem.W.kIn_of Y) ?F
  case F =>
    intro w mg fa h KX G hmg
    refine' K02.all_mk KX G hmg ?aW ?lW ?cW ?kW ?aP ?lP ?cP ?kP ?aI ?lI ?cI ?kI ?aH ?lH ?cH ?kH ?aN ?lN ?cN ?kN ?aQ ?lQ ?cQ ?kQ ?aL ?lL ?cL ?kL ?aR ?lR ?cR ?kR ?aM ?lM ?cM ?kM ?aV ?lV ?cV ?kV ?aJ ?lJ ?cJ ?kJ ?aK ?lK ?cK ?kK ?aO ?lO ?cO ?kO ?aG ?lG ?cG ?kG ?aT ?lT ?cT ?kT ?aZ ?lZ ?cZ ?kZ ?n0 ?n1 ?n2 ?n3 ?n4 ?n5 ?n6 ?n7 ?n8 ?n9 ?n10 ?n11 ?n12 ?n13 ?n14 ?n15 ?n16 ?n17 ?T1 ?z_isi ?z_int ?z_bool ?z_tuple ?z_len ?z_abs ?z_list ?z_min ?z_max ?z_val ?g_far ?g_lng
    (case aW => k_is)
    (case lW => k_is)
    (case cW => k_is)
    (case kW => k_is)
    (case aP => k_is)
    (case lP => k_is)
    (case cP => k_is)
    (case kP => k_is)
    (case aI => k_is)
    (case lI => k_is)
    (case cI => k_is)
    (case kI => k_is)
    (case aH => k_is)
    (case lH => k_is)
    (case cH => k_is)
    (case kH => k_is)
    (case aN => k_is)
    (case lN => k_is)
    (case cN => k_is)
    (case kN => k_is)
    (case aQ => k_is)
    (case lQ => k_is)
    (case cQ => k_is)
    (case kQ => k_is)
    (case aL => k_is)
    (case lL => k_is)
    (case cL => k_is)
    (case kL => k_is)
    (case aR => k_is)
    (case lR => k_is)
    (case cR => k_is)
    (case kR => k_is)
    (case aM => k_is)
    (case lM => k_is)
    (case cM => k_is)
    (case kM => k_is)
    (case aV => k_is)
    (case lV => k_is)
    (case cV => k_is)
    (case kV => k_is)
    (case aJ => k_is)
    (case lJ => k_is)
    (case cJ => k_is)
    (case kJ => k_is)
    (case aK => k_is)
    (case lK => k_is)
    (case cK => k_is)
    (case kK => k_is)
    (case aO => k_is)
    (case lO => k_is)
    (case cO => k_is)
    (case kO => k_is)
    (case aG => k_is)
    (case lG => k_is)
    (case cG => k_is)
    (case kG => k_is)
    (case aT => k_is)
    (case lT => k_is)
    (case cT => k_is)
    (case kT => k_is)
    (case aZ => k_is)
    (case lZ => k_is)
    (case cZ => k_is)
    (case kZ => k_is)
    (case n0 => k_is)
    (case n1 => k_is)
    (case n2 => k_is)
    (case n3 => k_is)
    (case n4 => k_is)
    (case n5 => k_is)
    (case n6 => k_is)
    (case n7 => k_is)
    (case n8 => k_is)
    (case n9 => k_is)
    (case n10 => k_is)
    (case n11 => k_is)
    (case n12 => k_is)
    (case n13 => k_is)
    (case n14 => k_is)
    (case n15 => k_is)
    (case n16 => k_is)
    (case n17 => k_is)
    (case T1 => exact ⟨⟨by k_is, by k_is, by k_is, by k_is, by k_is, by k_is, by k_is, by k_is⟩, by k_exc, by kts_exm, by kit_is, by kit_is, by kit_is, by kit_is, by kit_is, by kit_is, by kit_is, by kit_is, by kit_is, by kit_is, by kit_is, by kit_is, by kit_is, by kit_is, by kit_is, by kit_is, by kit_is, by kit_is⟩)
    (case z_isi => k_is)
    (case z_int => k_is)
    (case z_bool => k_is)
    (case z_tuple => k_is)
    (case z_len => k_is)
    (case z_abs => k_is)
    (case z_list => k_is)
    (case z_min => k_is)
    (case z_max => k_is)
    (case z_val => k_is)
    (case g_far => k_is)
    (case g_lng => k_is)
