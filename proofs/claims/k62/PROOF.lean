import PyProof.Rows.All
import Wide.All
import OpenK.AllK
import Wide.FinOn
import Lean
import PyProof.EqAt
import PyProof.EqKinds
import PyProof.TupleCall
import PyProof.NeKinds
import Wide.Seal
import KE.KDictList
import KE.KSortTup
import KE.KDictOf
import KE.KTryMore
import PyProof.CompUse
import PyProof.AttrMissHeap
import PyProof.Rows.TupTab
import PyProof.ZipIter
import PyProof.Rows.ZipGen
import PyProof.LayNew
import KE.KRevSl
import PyProof.SumWalk
import PyProof.EnumMake
import PyProof.EnumFor
import PyProof.Rows.EnumRows
import PyProof.ListRange
import PyProof.Rows.Range3
import PyProof.Rows.TupDisplay
import PyProof.ListIndex
import PyProof.StrOps2
import PyProof.NoPylong
import PySem.Challenge.RW_bothfaces_k62_papers
set_option Elab.async false
set_option linter.all false
set_option maxRecDepth 100000
set_option maxHeartbeats 4000000
namespace L2
open PySem PySem.Spec PyProof.Rows
abbrev Key := Sum Int Str
def keyIs : Key → Value → Bool
  | .inl k, v => Value.isInt k v
  | .inr x, v => Value.isStrOf x v
def keyH (w : World) : Key → Int
  | .inl k => hashInt k
  | .inr x => hashStr w x
theorem keyIs_shape : ∀ {k : Key} {v : Value}, keyIs k v = true → (∃ i t, k = Sum.inl i ∧ v = Value.int i t) ∨ (∃ x t, k = Sum.inr x ∧ v = Value.str x t)
  | .inl i, v, h => by
    obtain ⟨t, e⟩ := Value.isInt_shape (k := i) (v := v) h
    exact .inl ⟨i, t, rfl, e⟩
  | .inr x, v, h => by
    obtain ⟨t, e⟩ := Value.isStrOf_shape (x := x) (v := v) h
    exact .inr ⟨x, t, rfl, e⟩
theorem key_ll (a b : Int) : decide ((Sum.inl a : Key) = Sum.inl b) = (a == b) := by
  by_cases e : a = b
  · subst e; simp
  · have h : ¬ (Sum.inl a : Key) = Sum.inl b := fun q => e (Sum.inl.inj q)
    rw [decide_eq_false h]
    exact (beq_eq_false_iff_ne.mpr e).symm
theorem key_rr (a b : Str) : decide ((Sum.inr a : Key) = Sum.inr b) = decide (a = b) := by
  by_cases e : a = b
  · subst e; simp
  · have h : ¬ (Sum.inr a : Key) = Sum.inr b := fun q => e (Sum.inr.inj q)
    rw [decide_eq_false h, decide_eq_false e]
theorem key_lr (a : Int) (b : Str) : decide ((Sum.inl a : Key) = Sum.inr b) = false := decide_eq_false (fun q => nomatch q)
theorem key_rl (a : Str) (b : Int) : decide ((Sum.inr a : Key) = Sum.inl b) = false := decide_eq_false (fun q => nomatch q)
def mixKind (prog : Program) (w : World) : PySem.KeyKind prog w Key where
  is := keyIs
  hash := keyH w
  inj := fun v a b ha hb => by
    rcases keyIs_shape ha with ⟨i, t, rfl, rfl⟩ | ⟨x, t, rfl, rfl⟩
    · rcases keyIs_shape hb with ⟨j, u, rfl, e⟩ | ⟨y, u, rfl, e⟩
      · injection e with e1 _; rw [e1]
      · exact nomatch e
    · rcases keyIs_shape hb with ⟨j, u, rfl, e⟩ | ⟨y, u, rfl, e⟩
      · exact nomatch e
      · injection e with e1 _; rw [e1]
  byValue := fun k v h => by
    rcases keyIs_shape h with ⟨i, t, rfl, rfl⟩ | ⟨x, t, rfl, rfl⟩ <;> rfl
  pyHash := fun hv h => by
    rcases keyIs_shape hv with ⟨i, t, rfl, rfl⟩ | ⟨x, t, rfl, rfl⟩
    · exact wpAny_pyHash_int h
    · exact wpAny_pyHash_str h
  eqBool := fun hu hv h => by
    rcases keyIs_shape hu with ⟨i, t, rfl, rfl⟩ | ⟨x, t, rfl, rfl⟩
    · rcases keyIs_shape hv with ⟨j, u, rfl, rfl⟩ | ⟨y, u, rfl, rfl⟩
      · rw [key_ll] at h; exact wpAny_eqBool_int h
      · rw [key_lr] at h; exact SeqAt.EqAt.int_str i t y u _ _ _ _ h
    · rcases keyIs_shape hv with ⟨j, u, rfl, rfl⟩ | ⟨y, u, rfl, rfl⟩
      · rw [key_rl] at h; exact SeqAt.EqAt.str_int x t j u _ _ _ _ h
      · rw [key_rr] at h; exact wpAny_eqBool_str h
  «strs» := fun k x t v h => by
    rcases keyIs_shape h with ⟨i, u, rfl, e⟩ | ⟨y, u, rfl, e⟩
    · exact nomatch e
    · injection e with e1 _
      subst e1
      cases v <;> rfl
end L2
namespace L2
open PySem PySem.Spec PyProof.Rows
inductive V where
  | non | bl (b : Bool) | int (i : Int) | str (x : Str) | byt (b : Array UInt8) | flt (b : UInt64) | ref (a : Addr) | ty (n : String)
  deriving DecidableEq
def RelV : V → Value → Prop
  | .non, u => u = Value.none
  | .bl b, u => u = Value.bool b
  | .int i, u => ∃ t, u = Value.int i t
  | .str x, u => ∃ t, u = Value.str x t
  | .byt b, u => ∃ t, u = Value.bytes b t
  | .flt b, u => ∃ t, u = Value.float b t
  | .ref a, u => u = Value.ref a
  | .ty n, u => u = Value.type n
abbrev Vals : List V → List Value → Prop := Paired RelV
theorem Vals.length {xs : List V} {us : List Value} (r : Vals xs us) : xs.length = us.length := Paired.length r
theorem Vals.get : ∀ {xs : List V} {us : List Value} {i : Nat} {x : V}, Vals xs us → xs[i]? = some x → ∃ u, us[i]? = some u ∧ RelV x u
  | _, _, _, _, .nil, e => by simp at e
  | _, _, 0, _, .cons r _, e => by simp at e; subst e; exact ⟨_, rfl, r⟩
  | _, _, i + 1, x, .cons _ t, e => by
    obtain ⟨u, h1, h2⟩ := Vals.get (i := i) (x := x) t (by simpa using e)
    exact ⟨u, by simpa using h1, h2⟩
theorem Vals.append : ∀ {xs ys : List V} {us ws : List Value}, Vals xs us → Vals ys ws → Vals (xs ++ ys) (us ++ ws)
  | _, _, _, _, .nil, s => s
  | _, _, _, _, .cons r t, s => .cons r (Vals.append t s)
theorem Vals.take : ∀ {xs : List V} {us : List Value} (n : Nat), Vals xs us → Vals (xs.take n) (us.take n)
  | _, _, 0, _ => .nil
  | _, _, _ + 1, .nil => .nil
  | _, _, n + 1, .cons r t => .cons r (Vals.take n t)
theorem Vals.drop : ∀ {xs : List V} {us : List Value} (n : Nat), Vals xs us → Vals (xs.drop n) (us.drop n)
  | _, _, 0, r => r
  | _, _, _ + 1, .nil => .nil
  | _, _, n + 1, .cons _ t => Vals.drop n t
def RelO : Option V → Option Value → Prop
  | some v, some u => RelV v u
  | none, none => True
  | _, _ => False
def KV {κ : Type} : List (κ × V) → List (κ × Value) → Prop := Paired fun (p : κ × V) (q : κ × Value) => p.1 = q.1 ∧ RelV p.2 q.2
def kV : Key → V
  | .inl i => .int i
  | .inr x => .str x
inductive HO where
  | lst (xs : List V)
  | tup (xs : List V)
  | dK (kvs : List (Key × V)) | dT (kvs : List (List Key × V))
  | set (S : Int → Bool) (n : Nat)
  | ins (C dx : Addr) (fs : List (Str × V))
  | own (x : Addr)
  | xd (fs : List (Str × V))
  | met (f x : Addr)
  | rng (lo hi : Int)
  | frz (o : Obj) (u : HO)
  | tbl (ps : Array Value)
  | ext (φ : Heap → Prop)
abbrev Hp := Addr → Option HO
def upd (H : Hp) (a : Addr) (o : HO) : Hp := fun b => if b = a then some o else H b
theorem upd_same {H : Hp} {a : Addr} {o : HO} : upd H a o a = some o := by unfold upd; rw [if_pos rfl]
theorem upd_ne {H : Hp} {a b : Addr} {o : HO} (h : b ≠ a) : upd H a o b = H b := by unfold upd; rw [if_neg h]
theorem ne_of_none {H : Hp} {a b : Addr} {o : HO} (h : H a = some o) (h' : H b = none) : a ≠ b := by
  intro e; subst e; rw [h] at h'; cases h'
section
variable (P : Program) (w : World)
def ObjOk (H : Hp) (h : Heap) (a : Addr) : HO → Prop
  | .lst xs => xs.length ≤ sizeLine ∧ ∃ (its : List Value) (n : Nat), Vals xs its ∧ h.get? a = some { cls := .type "list", data := .seq its.toArray n }
  | .tup xs => xs.length ≤ sizeLine ∧ ∃ its : List Value, Vals xs its ∧ IsTup h a its.toArray
  | .dK kvs => kvs.length ≤ sizeLine ∧ (a == sysModules) = false ∧ ∃ vs, KV kvs vs ∧ h.DictOf (mixKind P w) a vs
  | .dT kvs => kvs.length ≤ sizeLine ∧ (a == sysModules) = false ∧ ∃ xs : List (List Key × Addr × Value),
      Paired (fun (p : List Key × V) (q : List Key × Addr × Value) => p.1 = q.1 ∧ H q.2.1 = some (.tup (p.1.map kV)) ∧ RelV p.2 q.2.2) kvs xs ∧
      ∃ o es ep, h.get? a = some o ∧ o.ExactDict ∧ o.data = .dict es ep ∧ es.toList = xs.map (entryOfKey (tupleKind (mixKind P w))) ∧ (xs.map (·.1)).Nodup
  | .set S n => h.SetOf (intKind P w) a S n
  | .ins C dx fs => H dx = some (.own a) ∧ fs.length ≤ 1000 ∧ dx ≠ a ∧ h.get? a = some (PySem.W.instObj C dx) ∧
      ∃ mA, h.Ns1 dx mA ∧ (∀ f, RelO (fs.lookup f) (mA f)) ∧ PySem.Within mA (fs.map (·.1))
  | .own _ => ∃ o, h.get? a = some o
  | .xd fs => ∃ mA, h.Ns1 a mA ∧ ∀ f, RelO (fs.lookup f) (mA f)
  | .rng lo hi => ∃ t u v, h.get? a = some { cls := .type "range", data := .fields #[.int lo t, .int hi u, .int 1 v] }
  | .frz o u => h.get? a = some o ∧ ObjOk H h a u
  | .tbl ps => h.get? a = some { cls := .none, data := .fields ps }
  | .met f x => h.get? a = some (PySem.W.methodObj (.ref f) (.ref x))
  | .ext φ => φ h ∧ (∃ o, h.get? a = some o) ∧ ∀ h1 h2 : Heap, φ h1 → (∀ o, h1.get? a = some o → h2.get? a = some o) → φ h2
def HOk (H : Hp) (h : Heap) : Prop := ∀ a o, H a = some o → ObjOk P w H h a o
end
section
variable {P : Program} {w : World} {H H' : Hp} {h h' : Heap} {a : Addr} {o : HO}
theorem ObjOk.lt (x : ObjOk P w H h a o) : a < h.objs.size := by
  cases o with
  | lst xs => obtain ⟨_, _, _, _, e⟩ := x; exact Heap.lt_size e
  | tup xs => obtain ⟨_, _, _, p⟩ := x; exact p.lt
  | dK kvs => obtain ⟨_, _, _, _, o, _, _, e, _⟩ := x; exact Heap.lt_size e
  | dT kvs => obtain ⟨_, _, _, _, o, _, _, e, _⟩ := x; exact Heap.lt_size e
  | set S n => obtain ⟨o, _, _, _, e, _⟩ := x; exact Heap.lt_size e
  | ins C dx fs => obtain ⟨_, _, _, e, _⟩ := x; exact Heap.lt_size e
  | own y => obtain ⟨_, e⟩ := x; exact Heap.lt_size e
  | xd fs => obtain ⟨_, ⟨_, _, _, e, _⟩, _⟩ := x; exact Heap.lt_size e
  | rng lo hi => obtain ⟨_, _, _, e⟩ := x; exact Heap.lt_size e
  | frz ob u => obtain ⟨e, _⟩ := x; exact Heap.lt_size e
  | tbl ps => exact Heap.lt_size (show h.get? a = some _ from x)
  | met f y => exact Heap.lt_size (show h.get? a = some _ from x)
  | ext φ => obtain ⟨_, ⟨_, e⟩, _⟩ := x; exact Heap.lt_size e
theorem Paired.mapP {α β : Type} {F G : α → β → Prop} : ∀ {l₁ : List α} {l₂ : List β}, Paired F l₁ l₂ → (∀ a b, F a b → G a b) → Paired G l₁ l₂
  | _, _, .nil, _ => .nil
  | _, _, .cons r t, f => .cons (f _ _ r) (Paired.mapP t f)
theorem ObjOk.stay (x : ObjOk P w H h a o) (k : ∀ b u, (b = a ∨ H b = some (.own a)) → h.get? b = some u → h'.get? b = some u)
    (ho : ∀ b, H b = some (.own a) → H' b = some (.own a)) (ht : ∀ b xs, H b = some (.tup xs) → H' b = some (.tup xs)) : ObjOk P w H' h' a o := by
  induction o with
  | lst xs => obtain ⟨z, its, n, r, e⟩ := x; exact ⟨z, its, n, r, k _ _ (.inl rfl) e⟩
  | tup xs => obtain ⟨z, its, r, ob, e, c⟩ := x; exact ⟨z, its, r, ob, k _ _ (.inl rfl) e, c⟩
  | dK kvs => obtain ⟨z, y, vs, r, ob, es, ep, e, c⟩ := x; exact ⟨z, y, vs, r, ob, es, ep, k _ _ (.inl rfl) e, c⟩
  | dT kvs =>
    obtain ⟨z, y, xs, r, ob, es, ep, e, c⟩ := x
    exact ⟨z, y, xs, Paired.mapP r fun p q z => ⟨z.1, ht _ _ z.2.1, z.2.2⟩, ob, es, ep, k _ _ (.inl rfl) e, c⟩
  | set S n => obtain ⟨ob, es, ep, t, e, c⟩ := x; exact ⟨ob, es, ep, t, k _ _ (.inl rfl) e, c⟩
  | ins C dx fs =>
    obtain ⟨d, z, ne, e, mA, ⟨od, es, ep, e2, c⟩, r⟩ := x
    exact ⟨ho _ d, z, ne, k _ _ (.inl rfl) e, mA, ⟨od, es, ep, k _ _ (.inr d) e2, c⟩, r⟩
  | own y => obtain ⟨ob, e⟩ := x; exact ⟨ob, k _ _ (.inl rfl) e⟩
  | xd fs => obtain ⟨mA, ⟨od, es, ep, e, c⟩, r⟩ := x; exact ⟨mA, ⟨od, es, ep, k _ _ (.inl rfl) e, c⟩, r⟩
  | rng lo hi => obtain ⟨t, u, v, e⟩ := x; exact ⟨t, u, v, k _ _ (.inl rfl) e⟩
  | frz ob u ih => obtain ⟨e, q⟩ := x; exact ⟨k _ _ (.inl rfl) e, ih q⟩
  | tbl ps =>
    have e : h.get? a = some { cls := .none, data := .fields ps } := x
    show h'.get? a = some { cls := .none, data := .fields ps }
    exact k a _ (.inl rfl) e
  | met f y =>
    have e : h.get? a = some (PySem.W.methodObj (.ref f) (.ref y)) := x
    show h'.get? a = some (PySem.W.methodObj (.ref f) (.ref y))
    exact k a _ (.inl rfl) e
  | ext φ => obtain ⟨p, ⟨o, e⟩, st⟩ := x; exact ⟨st _ _ p fun o q => k _ _ (.inl rfl) q, ⟨o, k _ _ (.inl rfl) e⟩, st⟩
theorem HOk.lt (x : HOk P w H h) (e : H a = some o) : a < h.objs.size := (x a o e).lt
theorem HOk.fresh (x : HOk P w H h) (e : h.objs.size ≤ a) : H a = none := by
  cases q : H a with
  | none => rfl
  | some u => exact absurd (Nat.lt_of_lt_of_le (x.lt q) e) (Nat.lt_irrefl _)
theorem HOk.kept (x : HOk P w H h) (k : ∀ b u, h.get? b = some u → h'.get? b = some u) : HOk P w H h' := fun a o e =>
  (x a o e).stay (fun b u _ q => k b u q) (fun _ q => q) fun _ _ q => q
theorem HOk.laid (x : HOk P w H h) (k : ∀ b u, h.get? b = some u → h'.get? b = some u) (hp : h.objs.size ≤ a) (new : ObjOk P w (upd H a o) h' a o) : HOk P w (upd H a o) h' := fun b u e => by
  have hn := x.fresh hp
  by_cases hb : b = a
  · subst hb; rw [upd_same] at e; cases e; exact new
  · rw [upd_ne hb] at e
    exact (x b u e).stay (fun c v _ q => k c v q) (fun c q => by rw [upd_ne (ne_of_none q hn)]; exact q) fun c xs q => by rw [upd_ne (ne_of_none q hn)]; exact q
end
def Rd (H : Hp) (a : Addr) (u : HO) : Prop := H a = some u ∨ ∃ o, H a = some (.frz o u)
theorem Rd.ok {P : Program} {w : World} {H : Hp} {h : Heap} {a : Addr} {u : HO} (r : Rd H a u) (x : HOk P w H h) : ObjOk P w H h a u := by
  rcases r with r | ⟨o, r⟩
  · exact x a u r
  · obtain ⟨_, q⟩ := x a _ r
    exact q
def Mut : Option HO → Prop
  | some (.lst _) => True
  | some (.dK _) => True
  | some (.dT _) => True
  | some (.set _ _) => True
  | some (.ins _ _ _) => True
  | some (.ext _) => True
  | _ => False
section
variable {P : Program} {w : World} {H : Hp} {h h' : Heap} {x e : Addr} {o' : HO}
theorem HOk.write (ok : HOk P w H h) (mu : Mut (H x)) (he : e = x ∨ H e = some (.own x)) (k : ∀ b u, b ≠ e → h.get? b = some u → h'.get? b = some u) (heo : ∃ u, h'.get? e = some u)
    (new : ObjOk P w (upd H x o') h' x o') : HOk P w (upd H x o') h' := fun b u q => by
  have nown : ∀ c y, H c = some (.own y) → c ≠ x := fun c y r z => by subst z; rw [r] at mu; exact mu
  have ntup : ∀ c xs, H c = some (.tup xs) → c ≠ x := fun c xs r z => by subst z; rw [r] at mu; exact mu
  by_cases hb : b = x
  · subst hb; rw [upd_same] at q; cases q; exact new
  · rw [upd_ne hb] at q
    by_cases hbe : b = e
    · have q' : H b = some (.own x) := by
        rcases he with z | z
        · exact absurd (hbe.trans z) hb
        · rw [hbe]; exact z
      rw [q] at q'; cases q'
      obtain ⟨v, hv⟩ := heo
      exact ⟨v, by rw [hbe]; exact hv⟩
    · refine (ok b u q).stay (fun c v hc r => k c v ?_ r) (fun c r => by rw [upd_ne (nown c b r)]; exact r) fun c xs r => by rw [upd_ne (ntup c xs r)]; exact r
      rcases hc with rfl | hc
      · exact hbe
      · rintro rfl
        rcases he with z | z
        · exact nown c b hc z
        · rw [hc] at z; cases z; exact hb rfl
end
structure Un (fs ex : List Addr) (H H' : Hp) (h h' : Heap) : Prop where
  keep : ∀ b o, h.get? b = some o → H b = none → b ∉ fs → b ∉ ex → h'.get? b = some o
  slot : ∀ b o, h.get? b = some o → H b = none → b ∈ fs → b ∉ ex → ∃ sl, h'.get? b = some { o with slots := sl }
  free : ∀ b o, h.get? b = some o → H b = none → b ∉ ex → H' b = none
  there : ∀ b o, h.get? b = some o → b ∉ ex → ∃ o', h'.get? b = some o'
  tups : ∀ b xs, H b = some (.tup xs) → H' b = some (.tup xs)
  frzs : ∀ b o u, H b = some (.frz o u) → H' b = some (.frz o u)
  tbls : ∀ b ps, H b = some (.tbl ps) → ∃ more, H' b = some (.tbl (ps ++ more))
section
variable {fs fs' ex ex' : List Addr} {H H1 H2 : Hp} {h h1 h2 h' : Heap} {a x e : Addr} {o : HO}
theorem Un.any (u : Un fs ex H H1 h h1) {b : Addr} {ob : Obj} (q : h.get? b = some ob) (n : H b = none) (hx : b ∉ ex) : ∃ sl, h1.get? b = some { ob with slots := sl } := by
  by_cases hb : b ∈ fs
  · exact u.slot b ob q n hb hx
  · exact ⟨ob.slots, u.keep b ob q n hb hx⟩
theorem Un.kept (k : ∀ b u, h.get? b = some u → h'.get? b = some u) : Un fs ex H H h h' :=
  ⟨fun b ob q _ _ _ => k b ob q, fun b ob q _ _ _ => ⟨ob.slots, k b ob q⟩, fun _ _ _ n _ => n, fun b ob q _ => ⟨ob, k b ob q⟩, fun _ _ q => q, fun _ _ _ q => q, fun _ ps q => ⟨#[], by rw [q]; simp⟩⟩
theorem Un.refl : Un fs ex H H h h := Un.kept fun _ _ q => q
theorem Un.laid (k : ∀ b u, h.get? b = some u → h'.get? b = some u) (hp : h.objs.size ≤ a) (hn : H a = none) : Un fs ex H (upd H a o) h h' where
  keep := fun b u q _ _ _ => k b u q
  slot := fun b u q _ _ _ => ⟨u.slots, k b u q⟩
  free := fun b u q n _ => by rw [upd_ne (Nat.ne_of_lt (Nat.lt_of_lt_of_le (Heap.lt_size q) hp))]; exact n
  there := fun b u q _ => ⟨u, k b u q⟩
  tups := fun b xs q => by rw [upd_ne (ne_of_none q hn)]; exact q
  frzs := fun b u xs q => by rw [upd_ne (ne_of_none q hn)]; exact q
  tbls := fun b ps q => ⟨#[], by rw [upd_ne (ne_of_none q hn), q]; simp⟩
theorem Un.write (mu : Mut (H x)) (he : e = x ∨ H e = some (.own x)) (k : ∀ b u, b ≠ e → h.get? b = some u → h'.get? b = some u) (heo : ∃ u, h'.get? e = some u) : Un fs ex H (upd H x o) h h' := by
  have hx : ∀ b, H b = none → b ≠ x := fun b n z => by subst z; rw [n] at mu; exact mu
  have hb : ∀ b, H b = none → b ≠ e := fun b n z => by
    subst z
    rcases he with r | r
    · exact hx b n r
    · rw [n] at r; cases r
  have hm : ∀ b u, H b = some u → ¬ Mut (some u) → b ≠ x := fun b u q nm z => by subst z; rw [q] at mu; exact nm mu
  refine ⟨fun b u q n _ _ => k b u (hb b n) q, fun b u q n _ _ => ⟨u.slots, k b u (hb b n) q⟩, fun b u q n _ => by rw [upd_ne (hx b n)]; exact n, fun b u q _ => ?_,
    fun b xs q => by rw [upd_ne (hm b _ q fun z => z)]; exact q, fun b u xs q => by rw [upd_ne (hm b _ q fun z => z)]; exact q, fun b ps q => ⟨#[], by rw [upd_ne (hm b _ q fun z => z), q]; simp⟩⟩
  by_cases hbe : b = e
  · subst hbe; exact heo
  · exact ⟨u, k b u hbe q⟩
end
def trk (h : Heap) (H : Hp) : List Addr := (List.range h.objs.size).filter fun a => (H a).isSome
def hidT (h : Heap) (H : Hp) : Heap := PySem.W.hideAll h (trk h H)
theorem hidT_size (h : Heap) (H : Hp) : (hidT h H).objs.size = h.objs.size := PySem.W.hideAll_size _ _
theorem hidT_get {h : Heap} {H : Hp} {b : Addr} {o : Obj} (e : h.get? b = some o) (n : H b = none) : (hidT h H).get? b = some o :=
  PySem.W.hideAll_get _ e fun hm => by
    have q : (H b).isSome = true := (List.mem_filter.mp hm).2
    rw [n] at q; simp at q
theorem of_hidT {h : Heap} {H : Hp} {b : Addr} {o : Obj} (e : (hidT h H).get? b = some o) : h.get? b = some o ∧ H b = none := by
  have e' : h.get? b = some o := PySem.W.of_hideAll (trk h H) e
  refine ⟨e', ?_⟩
  cases q : H b with
  | none => rfl
  | some x =>
    have hm : b ∈ trk h H := List.mem_filter.mpr ⟨List.mem_range.mpr (Heap.lt_size e'), by simp [q]⟩
    have z : (hidT h H).get? b = none := PySem.W.hideAll_none (trk h H) hm
    rw [z] at e; cases e
end L2
namespace L2
open PySem PySem.Spec PyProof.Rows
structure Mod (K : PySem.W.Frag) (mg : Str → Option Value) (base : Heap) : Prop where
  kin : K.In base
  glob : base.Ns mainGlobals mg
  blt : ∃ mb, base.Ns builtinsNs mb ∧ ∀ x : Str, x ≠ "__name__" → mb x = bootBuiltins x
  nolimit : base.NoLimit
structure Cx where
  prog : Program
  w : World
  K : PySem.W.Frag
  mg : Str → Option Value
  base : Heap
  A : Around
  N : List Str
  s₀ : Shared
  H₀ : Hp
  env : Env
  outer : List Env
  stack : List Env
  ex : List Addr
  fn : Str → Bool
  calm : Bool
  pn : List (Addr × Obj)
  xe : Value → Shared → Prop
def frs (l : List Env) : List Addr := l.filterMap (·.frame)
abbrev Cx.fs (X : Cx) : List Addr := frs X.outer
def Vis (sc : Scope) (x : Str) : Prop := sc.names.lookup x = some .local ∨ sc.names.lookup x = some .cell ∨ sc.names.lookup x = some .free
def Loc (sc : Scope) (x : Str) : Prop := sc.names.lookup x = some .local ∨ sc.names.lookup x = some .cell
def Look (env : Env) (h : Heap) (m : Str → Option Value) (x : Str) (u : Value) : Prop :=
  (env.kindOf x = some .local ∧ m x = some u) ∨ ((env.kindOf x = some .cell ∨ env.kindOf x = some .free) ∧ ∃ c, env.cells.lookup x = some c ∧ h.IsCell c (some u))
structure Cx.Ok (X : Cx) : Prop where
  mod : Mod X.K X.mg X.base
  kind : X.env.scope.kind = .function
  glob : X.env.globals = mainGlobals
  blt : X.env.builtins = builtinsNs
  above : X.s₀.heap.objs.size ≤ X.env.locals
  inj : ∀ x y c, X.env.cells.lookup x = some c → X.env.cells.lookup y = some c → x = y
  has : ∀ x, (X.env.kindOf x = some .cell ∨ X.env.kindOf x = some .free) → ∃ c, X.env.cells.lookup x = some c
  cab : ∀ x c, X.fn x = true → X.env.cells.lookup x = some c → X.s₀.heap.objs.size ≤ c
  hd : X.calm = true → X.A.handled = none
  frames : X.A.frames = some X.stack
  stk : X.stack = X.outer ∨ (X.stack = X.env :: X.outer ∧ X.env.frame = some X.env.locals)
  exf : ∀ b ∈ X.ex, b ≠ X.env.locals ∧ ∀ x c, X.env.cells.lookup x = some c → c ≠ b
  bs : ∀ b o, X.base.get? b = some o → X.s₀.heap.get? b = some o ∧ X.H₀ b = none
  bsz : X.base.objs.size ≤ X.s₀.heap.objs.size
  noex : ∀ b o, X.base.get? b = some o → b ∉ X.ex
  exfs : ∀ b ∈ X.ex, b ∉ X.fs
  funs : X.s₀.heap.FunFrames X.base X.outer
  frf : ∀ b ∈ X.fs, X.H₀ b = none
structure Inv (X : Cx) (pins : List (Addr × Obj)) (σ : List (Option V)) (H : Hp) (s : Shared) : Prop where
  ok : X.Ok
  os : s.os = X.s₀.os
  bare : AllBare s.gens
  base : Un X.fs X.ex X.H₀ H X.s₀.heap s.heap
  loc : ∃ m, s.heap.Ns X.env.locals m ∧ ∀ (i : Nat) (x : Str) (v : V), X.N[i]? = some x → σ[i]? = some (some v) → Vis X.env.scope x → ∃ u, RelV v u ∧ Look X.env s.heap m x u
  cell : ∀ x c, X.env.cells.lookup x = some c → ∃ v, s.heap.IsCell c v
  free : H X.env.locals = none
  freeC : ∀ x c, X.env.cells.lookup x = some c → H c = none
  pin : ∀ p ∈ X.pn ++ pins, s.heap.get? p.1 = some p.2 ∧ H p.1 = none ∧ p.1 ≠ X.env.locals ∧ p.1 ∉ X.fs ∧ ∀ v, p.2.data ≠ .cell v
  hok : HOk X.prog X.w H s.heap
  len : σ.length = X.N.length
section
variable {X : Cx} {pins : List (Addr × Obj)} {σ : List (Option V)} {H H' : Hp} {s : Shared} {h' : Heap}
theorem Cx.Ok.nofr (ok : X.Ok) {b : Addr} {o : Obj} (e : X.base.get? b = some o) : b ∉ X.fs := fun hb => by
  have := (ok.funs.mem hb).1
  rw [e] at this; cases this
theorem Inv.bs (I : Inv X pins σ H s) : ∀ b o, X.base.get? b = some o → s.heap.get? b = some o ∧ H b = none := fun b o e =>
  ⟨I.base.keep b o (I.ok.bs b o e).1 (I.ok.bs b o e).2 (I.ok.nofr e) (I.ok.noex b o e), I.base.free b o (I.ok.bs b o e).1 (I.ok.bs b o e).2 (I.ok.noex b o e)⟩
theorem Inv.bk (I : Inv X pins σ H s) : ∀ b o, X.base.get? b = some o → s.heap.get? b = some o := fun b o e => (I.bs b o e).1
theorem Inv.mod (I : Inv X pins σ H s) : Mod X.K X.mg X.base := I.ok.mod
theorem Inv.kIn (I : Inv X pins σ H s) : X.K.In s.heap := I.ok.mod.kin.keeps I.bk
theorem Inv.lt (I : Inv X pins σ H s) : X.env.locals < s.heap.objs.size := let ⟨_, hn, _⟩ := I.loc; hn.lt
theorem Inv.sz (I : Inv X pins σ H s) : X.s₀.heap.objs.size ≤ s.heap.objs.size := Nat.le_trans I.ok.above (Nat.le_of_lt I.lt)
theorem Inv.nofs (I : Inv X pins σ H s) {a : Addr} (h : s.heap.objs.size ≤ a) : a ∉ X.fs := fun hb => by
  obtain ⟨_, o, ho, _⟩ := I.ok.funs.mem hb
  exact absurd (Nat.lt_of_lt_of_le (Heap.lt_size ho) (Nat.le_trans I.sz h)) (Nat.lt_irrefl _)
theorem Inv.cne (I : Inv X pins σ H s) : ∀ x c, X.env.cells.lookup x = some c → c ≠ X.env.locals := fun x c e z => by
  obtain ⟨v, o, ho, hd⟩ := I.cell x c e
  obtain ⟨m, ⟨o', es, ep, ho', hd', _⟩, _⟩ := I.loc
  rw [z, ho'] at ho; cases ho; rw [hd'] at hd; cases hd
theorem Inv.funs (I : Inv X pins σ H s) : s.heap.FunFrames X.base X.outer := by
  have all : ∀ (l : List Env), (∀ b ∈ frs l, b ∈ X.fs) → X.s₀.heap.FunFrames X.base l → s.heap.FunFrames X.base l := by
    intro l
    induction l with
    | nil => intro _ _; trivial
    | cons env r ih =>
      intro hs hl
      obtain ⟨hk, ⟨L, o, hf, hn, ho, hd⟩, hr⟩ := hl
      have hL : L ∈ X.fs := hs L (by unfold frs; rw [List.filterMap_cons, hf]; exact List.mem_cons_self)
      obtain ⟨sl, e⟩ := I.base.slot L o ho (I.ok.frf L hL) hL fun z => I.ok.exfs L z hL
      exact ⟨hk, ⟨L, _, hf, hn, e, hd⟩, ih (fun b hb => hs b (by unfold frs; rw [List.filterMap_cons, hf]; exact List.mem_cons_of_mem _ hb)) hr⟩
  exact all X.outer (fun _ hb => hb) I.ok.funs
theorem Inv.stack (I : Inv X pins σ H s) : s.heap.FunFrames X.base X.stack := by
  rcases I.ok.stk with e | ⟨e, hf⟩
  · rw [e]; exact I.funs
  · rw [e]
    obtain ⟨m, hn, _⟩ := I.loc
    refine .cons (by rw [I.ok.kind]; decide) hf hn ?_ I.funs
    exact Heap.get?_none_of_le (Nat.le_trans I.ok.bsz I.ok.above)
theorem Inv.stkSub (I : Inv X pins σ H s) : ∀ b ∈ frs X.stack, b ∈ X.env.locals :: X.fs := fun b hb => by
  rcases I.ok.stk with e | ⟨e, hf⟩
  · rw [e] at hb; exact List.mem_cons_of_mem _ hb
  · rw [e] at hb
    unfold frs at hb
    rw [List.filterMap_cons, hf] at hb
    exact hb
theorem Inv.stkFree (I : Inv X pins σ H s) : ∀ b ∈ frs X.stack, H b = none := fun b hb => by
  rcases List.mem_cons.mp (I.stkSub b hb) with e | hb
  · rw [e]; exact I.free
  · obtain ⟨_, o, ho, _⟩ := I.ok.funs.mem hb
    exact I.base.free b o ho (I.ok.frf b hb) fun z => I.ok.exfs b z hb
theorem Inv.step {g' : Array GenState} {t' : Nat} {d' : Drawn} {ch : List Addr} (I : Inv X pins σ H s)
    (hch : ∀ b ∈ ch, (b ∈ X.ex ∨ X.s₀.heap.objs.size ≤ b) ∧ b ≠ X.env.locals ∧ (∀ x c, X.env.cells.lookup x = some c → c ≠ b) ∧ ∀ p ∈ X.pn ++ pins, p.1 ≠ b)
    (keep : ∀ b o, b ≠ X.env.locals → b ∉ X.fs → b ∉ ch → s.heap.get? b = some o → H b = none → h'.get? b = some o)
    (slot : ∀ b o, b ≠ X.env.locals → b ∈ X.fs → b ∉ ch → s.heap.get? b = some o → H b = none → ∃ sl, h'.get? b = some { o with slots := sl }) (free : ∀ b o, b ∉ ch → s.heap.get? b = some o → H b = none → H' b = none)
    (there : ∀ b o, b ∉ ch → s.heap.get? b = some o → ∃ o', h'.get? b = some o')
    (tups : ∀ b xs, H b = some (.tup xs) → H' b = some (.tup xs)) (frzs : ∀ b o u, H b = some (.frz o u) → H' b = some (.frz o u)) (tbls : ∀ b ps, H b = some (.tbl ps) → ∃ more, H' b = some (.tbl (ps ++ more)))
    (ns : ∀ m, s.heap.Ns X.env.locals m → h'.Ns X.env.locals m) (hok : HOk X.prog X.w H' h') (hg : AllBare g') :
    Inv X pins σ H' { s with heap := h', gens := g', drawn := d', toks := t' } := by
  have neL : ∀ b o, X.s₀.heap.get? b = some o → b ≠ X.env.locals := fun b o e => Nat.ne_of_lt (Nat.lt_of_lt_of_le (Heap.lt_size e) I.ok.above)
  have neC : ∀ b o, X.s₀.heap.get? b = some o → b ∉ X.ex → b ∉ ch := fun b o e hx hb => by
    rcases (hch b hb).1 with z | z
    · exact hx z
    · exact absurd (Nat.lt_of_lt_of_le (Heap.lt_size e) z) (Nat.lt_irrefl _)
  have cellK : ∀ x c, X.env.cells.lookup x = some c → ∀ v, s.heap.IsCell c v → h'.IsCell c v := fun x c e v ⟨o, ho, hd⟩ => by
    have nch : c ∉ ch := fun z => (hch c z).2.2.1 x c e rfl
    by_cases hc : c ∈ X.fs
    · obtain ⟨sl, q⟩ := slot c o (I.cne x c e) hc nch ho (I.freeC x c e)
      exact ⟨_, q, hd⟩
    · exact ⟨o, keep c o (I.cne x c e) hc nch ho (I.freeC x c e), hd⟩
  refine ⟨I.ok, I.os, hg, ⟨fun b o e n hb hx => ?_, fun b o e n hb hx => ?_, fun b o e n hx => ?_, fun b o e hx => ?_, fun b xs e => tups b xs (I.base.tups b xs e), fun b o xs e => frzs b o xs (I.base.frzs b o xs e), fun b ps e => ?_⟩, ?_, fun x c e => ?_, ?_, fun x c e => ?_, fun p hp => ?_, hok, I.len⟩
  · exact keep b o (neL b o e) hb (neC b o e hx) (I.base.keep b o e n hb hx) (I.base.free b o e n hx)
  · obtain ⟨sl, e1⟩ := I.base.slot b o e n hb hx
    obtain ⟨sl', e2⟩ := slot b _ (neL b o e) hb (neC b o e hx) e1 (I.base.free b o e n hx)
    exact ⟨sl', e2⟩
  · obtain ⟨o', e1⟩ := I.base.there b o e hx
    exact free b o' (neC b o e hx) e1 (I.base.free b o e n hx)
  · obtain ⟨o', e1⟩ := I.base.there b o e hx
    exact there b o' (neC b o e hx) e1
  · obtain ⟨m1, e1⟩ := I.base.tbls b ps e
    obtain ⟨m2, e2⟩ := tbls b _ e1
    exact ⟨m1 ++ m2, by rw [e2, Array.append_assoc]⟩
  · obtain ⟨m, hn, hl⟩ := I.loc
    refine ⟨m, ns m hn, fun i x v e1 e2 e3 => ?_⟩
    obtain ⟨u, r, l⟩ := hl i x v e1 e2 e3
    refine ⟨u, r, ?_⟩
    rcases l with l | ⟨k, c, e, z⟩
    · exact .inl l
    · exact .inr ⟨k, c, e, cellK x c e _ z⟩
  · obtain ⟨v, z⟩ := I.cell x c e
    exact ⟨v, cellK x c e v z⟩
  · obtain ⟨m, ⟨o, _, _, ho, _⟩, _⟩ := I.loc
    exact free _ o (fun z => (hch _ z).2.1 rfl) ho I.free
  · obtain ⟨v, o, ho, hd⟩ := I.cell x c e
    exact free c o (fun z => (hch c z).2.2.1 x c e rfl) ho (I.freeC x c e)
  · obtain ⟨e, n, ne, nf, d⟩ := I.pin p hp
    have nch : p.1 ∉ ch := fun z => (hch p.1 z).2.2.2 p hp rfl
    exact ⟨keep p.1 p.2 ne nf nch e n, free p.1 p.2 nch e n, ne, nf, d⟩
theorem Inv.un {t' : Nat} (I : Inv X pins σ H s) (u : Un X.fs [] H H' s.heap h') (hok : HOk X.prog X.w H' h') : Inv X pins σ H' { s with heap := h', toks := t' } := by
  obtain ⟨m, ⟨o, es, ep, ho, r⟩, _⟩ := id I.loc
  obtain ⟨sl, hL⟩ := u.any ho I.free (by simp)
  exact I.step (g' := s.gens) (d' := s.drawn) (ch := []) (fun _ z => nomatch z) (fun b o _ hb _ e n => u.keep b o e n hb (by simp)) (fun b o _ hb _ e n => u.slot b o e n hb (by simp)) (fun b o _ e n => u.free b o e n (by simp)) (fun b o _ e => u.there b o e (by simp)) u.tups u.frzs u.tbls (fun m' hm => by
    obtain ⟨o', es', ep', ho', r'⟩ := hm
    rw [ho] at ho'; cases ho'
    exact ⟨_, es', ep', hL, r'⟩) hok I.bare
theorem Inv.call {g' : Array GenState} {t' : Nat} {d' : Drawn} {ch : List Addr} (I : Inv X pins σ H s) (u : Un (frs X.stack) ch H H' s.heap h') (hok : HOk X.prog X.w H' h') (hg : AllBare g')
    (hch : ∀ b ∈ ch, (b ∈ X.ex ∨ X.s₀.heap.objs.size ≤ b) ∧ b ≠ X.env.locals ∧ (∀ x c, X.env.cells.lookup x = some c → c ≠ b) ∧ ∀ p ∈ X.pn ++ pins, p.1 ≠ b) :
    Inv X pins σ H' { s with heap := h', gens := g', drawn := d', toks := t' } := by
  obtain ⟨m, ⟨o, es, ep, ho, r⟩, _⟩ := id I.loc
  obtain ⟨sl, hL⟩ := u.any ho I.free fun z => (hch _ z).2.1 rfl
  exact I.step (ch := ch) hch (fun b o hL hb hc e n => u.keep b o e n (fun z => (List.mem_cons.mp (I.stkSub b z)).elim hL hb) hc) (fun b o _ _ hc e n => u.any e n hc) (fun b o hc e n => u.free b o e n hc) (fun b o hc e => u.there b o e hc) u.tups u.frzs u.tbls (fun m' hm => by
    obtain ⟨o', es', ep', ho', r'⟩ := hm
    rw [ho] at ho'; cases ho'
    exact ⟨_, es', ep', hL, r'⟩) hok hg
theorem Inv.turned {t' : Nat} {it : Addr} (I : Inv X pins σ H s) (k : ∀ b o, b ≠ it → s.heap.get? b = some o → h'.get? b = some o) (hn : H it = none) (hL : it ≠ X.env.locals)
    (h1 : it ∈ X.ex ∨ X.s₀.heap.objs.size ≤ it) (h2 : ∀ x c, X.env.cells.lookup x = some c → c ≠ it) (h3 : ∀ p ∈ X.pn ++ pins, p.1 ≠ it) : Inv X pins σ H { s with heap := h', toks := t' } := by
  have nit : ∀ b u, H b = some u → b ≠ it := fun b u e z => by rw [z, hn] at e; cases e
  refine I.step (g' := s.gens) (d' := s.drawn) (ch := [it]) (fun b hb => ?_) (fun b o _ _ hc e _ => k b o (fun z => hc (by simp [z])) e) (fun b o _ _ hc e _ => ⟨o.slots, k b o (fun z => hc (by simp [z])) e⟩) (fun _ _ _ _ n => n)
    (fun b o hc e => ⟨o, k b o (fun z => hc (by simp [z])) e⟩) (fun _ _ e => e) (fun _ _ _ e => e) (fun b ps e => ⟨#[], by rw [e]; simp⟩) (fun m hm => ?_) (fun b u e => ?_) I.bare
  · have e : b = it := by simpa using hb
    subst e
    exact ⟨h1, hL, h2, h3⟩
  · obtain ⟨o, es, ep, ho, r⟩ := hm
    exact ⟨o, es, ep, k _ o (Ne.symm hL) ho, r⟩
  · refine (I.hok b u e).stay (fun c v hc q => k c v ?_ q) (fun _ q => q) fun _ _ q => q
    rcases hc with z | z
    · rw [z]; exact nit b u e
    · exact nit c _ z
theorem Inv.tok (I : Inv X pins σ H s) (t : Nat) : Inv X pins σ H { s with toks := t } := I.un (h' := s.heap) (t' := t) Un.refl I.hok
theorem Inv.kept {t' : Nat} (I : Inv X pins σ H s) (k : ∀ b u, s.heap.get? b = some u → h'.get? b = some u) : Inv X pins σ H { s with heap := h', toks := t' } := I.un (Un.kept k) (I.hok.kept k)
theorem Inv.laid {a : Addr} {o : HO} {t' : Nat} (I : Inv X pins σ H s) (k : ∀ b u, s.heap.get? b = some u → h'.get? b = some u) (hp : s.heap.objs.size ≤ a) (new : ObjOk X.prog X.w (upd H a o) h' a o) :
    Inv X pins σ (upd H a o) { s with heap := h', toks := t' } := I.un (Un.laid k hp (I.hok.fresh hp)) (I.hok.laid k hp new)
theorem Inv.write {x e : Addr} {o : HO} {t' : Nat} (I : Inv X pins σ H s) (mu : Mut (H x)) (he : e = x ∨ H e = some (.own x)) (k : ∀ b u, b ≠ e → s.heap.get? b = some u → h'.get? b = some u) (heo : ∃ u, h'.get? e = some u)
    (new : ObjOk X.prog X.w (upd H x o) h' x o) : Inv X pins σ (upd H x o) { s with heap := h', toks := t' } := I.un (Un.write mu he k heo) (I.hok.write mu he k heo new)
theorem Inv.pins_of {pins' : List (Addr × Obj)} (I : Inv X pins σ H s) (h : ∀ p ∈ pins', s.heap.get? p.1 = some p.2 ∧ H p.1 = none ∧ p.1 ≠ X.env.locals ∧ p.1 ∉ X.fs ∧ ∀ v, p.2.data ≠ .cell v) : Inv X pins' σ H s :=
  ⟨I.ok, I.os, I.bare, I.base, I.loc, I.cell, I.free, I.freeC, fun p hp => (List.mem_append.mp hp).elim (fun z => I.pin p (List.mem_append_left _ z)) (h p), I.hok, I.len⟩
theorem nodup_ix {N : List Str} (hN : N.Nodup) {i j : Nat} {x : Str} (a : N[i]? = some x) (b : N[j]? = some x) : i = j := by
  obtain ⟨h1, e1⟩ := List.getElem?_eq_some_iff.mp a
  obtain ⟨h2, e2⟩ := List.getElem?_eq_some_iff.mp b
  exact (List.getElem_inj hN).mp (e1.trans e2.symm)
theorem store_ok2 {M : Model} {A : Around} {E : Value → Shared → Prop} {i : Nat} {x : Str} {v : V} {u : Value} {Q : Unit → Shared → Prop} (I : Inv X pins σ H s) (hN : X.N.Nodup) (hi : X.N[i]? = some x) (hx : Loc X.env.scope x) (r : RelV v u)
    (h : ∀ s', Inv X pins (σ.set i (some v)) H s' → (∃ a, Heap.SameBut a s.heap s'.heap ∧ (a = X.env.locals ∨ X.env.cells.lookup x = some a)) → Q () s') (hf : X.fn x = true ∨ X.env.scope.names.lookup x = some .local := by first | exact .inl rfl | exact .inr rfl | assumption) : wpAny M A (storeName X.env x u) Q E s := by
  obtain ⟨m, hn, hl⟩ := id I.loc
  have hcls : (X.env.scope.kind == .class || (X.env.scope.kind == .module && X.env.locals != X.env.globals)) = false := by rw [I.ok.kind]; rfl
  have hiσ : i < σ.length := by rw [I.len]; exact (List.getElem?_eq_some_iff.mp hi).1
  have cne := I.cne
  have tracked : ∀ {a : Addr} {h' : Heap}, (∃ o, s.heap.get? a = some o ∧ H a = none) → Heap.SameBut a s.heap h' → HOk X.prog X.w H h' := fun {a h'} ha hs b ob e => by
    obtain ⟨_, _, hfree⟩ := ha
    refine (I.hok b ob e).stay (fun c w' hc q => (hs.2 c ?_).trans q) (fun _ q => q) fun _ _ q => q
    rintro rfl
    rcases hc with rfl | hc
    · rw [hfree] at e; cases e
    · rw [hfree] at hc; cases hc
  rcases hx with hk | hk
  · refine wpAny_storeName_local hk hn (fun h' hn' hs => ?_) hcls
    obtain ⟨oL, _, _, hoL, _⟩ := id hn
    refine h _ ⟨I.ok, I.os, I.bare, ⟨fun b o e n hb hx => ?_, fun b o e n hb hx => ?_, I.base.free, fun b o e hx => ?_, I.base.tups, I.base.frzs, I.base.tbls⟩, ⟨_, hn', fun j y v' e1 e2 e3 => ?_⟩, fun y c e => ?_, I.free, I.freeC, fun p hp => ?_, tracked ⟨oL, hoL, I.free⟩ hs, by simpa using I.len⟩ ⟨_, hs, .inl rfl⟩
    · exact (hs.2 b (Nat.ne_of_lt (Nat.lt_of_lt_of_le (Heap.lt_size e) I.ok.above))).trans (I.base.keep b o e n hb hx)
    · obtain ⟨sl, e1⟩ := I.base.slot b o e n hb hx
      exact ⟨sl, (hs.2 b (Nat.ne_of_lt (Nat.lt_of_lt_of_le (Heap.lt_size e) I.ok.above))).trans e1⟩
    · obtain ⟨o', e1⟩ := I.base.there b o e hx
      exact ⟨o', (hs.2 b (Nat.ne_of_lt (Nat.lt_of_lt_of_le (Heap.lt_size e) I.ok.above))).trans e1⟩
    · by_cases hj : j = i
      · subst hj
        rw [hi] at e1; cases e1
        rw [List.getElem?_set_self hiσ] at e2
        cases e2
        exact ⟨u, r, .inl ⟨hk, by simp⟩⟩
      · rw [List.getElem?_set_ne (Ne.symm hj)] at e2
        obtain ⟨u', r', q⟩ := hl j y v' e1 e2 e3
        refine ⟨u', r', ?_⟩
        rcases q with ⟨k, e⟩ | ⟨k, c, e, z⟩
        · refine .inl ⟨k, ?_⟩
          have : y ≠ x := fun e => hj (nodup_ix hN e1 (e ▸ hi))
          simp [this, e]
        · exact .inr ⟨k, c, e, z.sameBut hs (cne y c e)⟩
    · obtain ⟨w', z⟩ := I.cell y c e
      exact ⟨w', z.sameBut hs (cne y c e)⟩
    · obtain ⟨e, n, ne, nf, d⟩ := I.pin p hp
      exact ⟨(hs.2 p.1 ne).trans e, n, ne, nf, d⟩
  · have hfn : X.fn x = true := by
      rcases hf with z | z
      · exact z
      · rw [z] at hk; cases hk
    obtain ⟨c, hc⟩ := I.ok.has x (.inl hk)
    obtain ⟨w', z⟩ := I.cell x c hc
    refine wpAny_storeName_cell I.ok.kind hk hc z (fun h' hc' hs => ?_)
    obtain ⟨oc, hoc, hocd⟩ := id z
    refine h { s with heap := h' } ⟨I.ok, I.os, I.bare, ⟨fun b o e n hb hx => ?_, fun b o e n hb hx => ?_, I.base.free, fun b o e hx => ?_, I.base.tups, I.base.frzs, I.base.tbls⟩, ⟨m, hn.sameBut hs (Ne.symm (cne x c hc)), fun j y v' e1 e2 e3 => ?_⟩, fun y c' e => ?_, I.free, I.freeC, fun p hp => ?_, tracked ⟨oc, hoc, I.freeC x c hc⟩ hs, by simpa using I.len⟩ ⟨c, hs, .inr hc⟩
    · exact (hs.2 b (Nat.ne_of_lt (Nat.lt_of_lt_of_le (Heap.lt_size e) (I.ok.cab x c hfn hc)))).trans (I.base.keep b o e n hb hx)
    · obtain ⟨sl, e1⟩ := I.base.slot b o e n hb hx
      exact ⟨sl, (hs.2 b (Nat.ne_of_lt (Nat.lt_of_lt_of_le (Heap.lt_size e) (I.ok.cab x c hfn hc)))).trans e1⟩
    · obtain ⟨o', e1⟩ := I.base.there b o e hx
      exact ⟨o', (hs.2 b (Nat.ne_of_lt (Nat.lt_of_lt_of_le (Heap.lt_size e) (I.ok.cab x c hfn hc)))).trans e1⟩
    · by_cases hj : j = i
      · subst hj
        rw [hi] at e1; cases e1
        rw [List.getElem?_set_self hiσ] at e2
        cases e2
        exact ⟨u, r, .inr ⟨.inl hk, c, hc, hc'⟩⟩
      · rw [List.getElem?_set_ne (Ne.symm hj)] at e2
        obtain ⟨u', r', q⟩ := hl j y v' e1 e2 e3
        refine ⟨u', r', ?_⟩
        rcases q with q | ⟨k, c', e, z'⟩
        · exact .inl q
        · refine .inr ⟨k, c', e, z'.sameBut hs ?_⟩
          rintro rfl
          exact hj (nodup_ix hN e1 (I.ok.inj _ _ _ e hc ▸ hi))
    · by_cases hcc : c' = c
      · subst hcc; exact ⟨_, hc'⟩
      · obtain ⟨w2, z2⟩ := I.cell y c' e
        exact ⟨w2, z2.sameBut hs hcc⟩
    · obtain ⟨e, n, ne, nf, d⟩ := I.pin p hp
      refine ⟨(hs.2 p.1 ?_).trans e, n, ne, nf, d⟩
      intro q
      rw [q, hoc] at e
      have q' : oc = p.2 := Option.some.inj e
      exact d w' (by rw [← q']; exact hocd)
theorem store_ok {M : Model} {A : Around} {E : Value → Shared → Prop} {i : Nat} {x : Str} {v : V} {u : Value} {Q : Unit → Shared → Prop} (I : Inv X pins σ H s) (hN : X.N.Nodup) (hi : X.N[i]? = some x) (hx : Loc X.env.scope x) (r : RelV v u)
    (h : ∀ s', Inv X pins (σ.set i (some v)) H s' → Q () s') (hf : X.fn x = true ∨ X.env.scope.names.lookup x = some .local := by first | exact .inl rfl | exact .inr rfl | assumption) : wpAny M A (storeName X.env x u) Q E s :=
  store_ok2 I hN hi hx r (fun s' I' _ => h s' I') hf
theorem Inv.call' {s' : Shared} {ch : List Addr} (I : Inv X pins σ H s) (ho : s'.os = s.os) (u : Un (frs X.stack) ch H H' s.heap s'.heap) (hok : HOk X.prog X.w H' s'.heap) (hg : AllBare s'.gens)
    (hch : ∀ b ∈ ch, (b ∈ X.ex ∨ X.s₀.heap.objs.size ≤ b) ∧ b ≠ X.env.locals ∧ (∀ x c, X.env.cells.lookup x = some c → c ≠ b) ∧ ∀ p ∈ X.pn ++ pins, p.1 ≠ b) : Inv X pins σ H' s' := by
  obtain ⟨h', g', d', t', o'⟩ := s'
  have e : o' = s.os := ho
  subst e
  exact I.call (g' := g') (t' := t') (d' := d') u hok hg hch
end
abbrev XK := Value → Option Addr → Hp → Prop
abbrev St := List (Option V)
abbrev VK := V → Hp → Prop
abbrev TE := St → Hp → VK → Prop
abbrev TT := St → Hp → (Bool → Hp → Prop) → Prop
abbrev TA := St → Hp → (List V → Hp → Prop) → Prop
structure Ends where
  nx : St → Hp → Prop
  rt : VK
  bk : St → Hp → Prop := fun _ _ => False
  ct : St → Hp → Prop := fun _ _ => False
abbrev TS := Ends → St → Hp → Prop
def EP (X : Cx) (pins : List (Addr × Obj)) (σ : St) (Q : VK) (u : Value) (s' : Shared) : Prop := ∃ v H', Inv X pins σ H' s' ∧ RelV v u ∧ Q v H'
def TP (X : Cx) (pins : List (Addr × Obj)) (σ : St) (Q : Bool → Hp → Prop) (b : Bool) (s' : Shared) : Prop := ∃ H', Inv X pins σ H' s' ∧ Q b H'
def AP (X : Cx) (pins : List (Addr × Obj)) (σ : St) (Q : List V → Hp → Prop) (us : List Value) (s' : Shared) : Prop := ∃ vs H', Inv X pins σ H' s' ∧ Vals vs us ∧ Q vs H'
def SP (X : Cx) (pins : List (Addr × Obj)) (D : Ends) (f : Flow) (s' : Shared) : Prop :=
  match f with
  | .next => ∃ σ' H', Inv X pins σ' H' s' ∧ D.nx σ' H'
  | .brk => ∃ σ' H', Inv X pins σ' H' s' ∧ D.bk σ' H'
  | .cont => ∃ σ' H', Inv X pins σ' H' s' ∧ D.ct σ' H'
  | .ret u => ∃ v σ' H', Inv X pins σ' H' s' ∧ RelV v u ∧ D.rt v H'
def PE (X : Cx) (e : Expr) (t : TE) : Prop :=
  ∀ (pins : List (Addr × Obj)) (s : Shared) (σ : St) (H : Hp) (Q : VK), Inv X pins σ H s → t σ H Q → wpAny (model X.prog X.w) X.A (eval e X.env) (EP X pins σ Q) X.xe s
def PT (X : Cx) (e : Expr) (t : TT) : Prop :=
  ∀ (pins : List (Addr × Obj)) (s : Shared) (σ : St) (H : Hp) (Q : Bool → Hp → Prop), Inv X pins σ H s → t σ H Q → wpAny (model X.prog X.w) X.A (isTrue e X.env (eval e X.env)) (TP X pins σ Q) X.xe s
def PW (X : Cx) (e : Expr) (t : TT) : Prop :=
  ∀ (whole : Sem Value) (pins : List (Addr × Obj)) (s : Shared) (σ : St) (H : Hp) (Q : Bool → Hp → Prop), Inv X pins σ H s → t σ H Q → wpAny (model X.prog X.w) X.A (isTrue e X.env whole) (TP X pins σ Q) X.xe s
theorem PW.pt {X : Cx} {e : Expr} {t : TT} (h : PW X e t) : PT X e t := h _
def PA (X : Cx) (es : List Expr) (t : TA) : Prop :=
  ∀ (pos : Pos) (pins : List (Addr × Obj)) (s : Shared) (σ : St) (H : Hp) (Q : List V → Hp → Prop), Inv X pins σ H s → t σ H Q → wpAny (model X.prog X.w) X.A (spliced (backTo pos (starEach es X.env))) (AP X pins σ Q) X.xe s
def PS (X : Cx) (st : Stmt) (t : TS) : Prop :=
  ∀ (pins : List (Addr × Obj)) (s : Shared) (σ : St) (H : Hp) (D : Ends), Inv X pins σ H s → t D σ H → wpAny (model X.prog X.w) X.A (exec st X.env) (SP X pins D) X.xe s
def PSs (X : Cx) (st : List Stmt) (t : TS) : Prop :=
  ∀ (pins : List (Addr × Obj)) (s : Shared) (σ : St) (H : Hp) (D : Ends), Inv X pins σ H s → t D σ H → wpAny (model X.prog X.w) X.A (execs st X.env) (SP X pins D) X.xe s
theorem thn {α : Type} {t : Sem α} {Q Q' : α → Shared → Prop} {M : Model} {A : Around} {E : Value → Shared → Prop} {s : Shared} (h : wpAny M A t Q E s) (hQ : ∀ a s, Q a s → Q' a s) : wpAny M A t Q' E s := wpAny_mono h hQ fun _ _ x => x
end L2
namespace L2
open PySem PySem.Spec PyProof.Rows
section
variable {X : Cx}
def tVar (i : Nat) : TE := fun σ H Q => ∃ v, σ[i]? = some (some v) ∧ Q v H
def tC (v : V) : TE := fun _ H Q => Q v H
theorem pe_var {i : Nat} {x : Str} {pos : Pos} (hN : X.N[i]? = some x) (hv : Vis X.env.scope x) (hd : (x == ("__debug__" : Str)) = false := by decide) (hcd : (x == ("__classdict__" : Str)) = false := by decide) : PE X (.Name x pos) (tVar i) := by
  intro pins s σ H Q I h
  obtain ⟨v, e, h⟩ := h
  obtain ⟨m, hn, hl⟩ := I.loc
  obtain ⟨u, r, l⟩ := hl i x v hN e hv
  have fin : EP X pins σ Q u s := ⟨v, H, I, r, h⟩
  rcases l with ⟨hk, hm⟩ | ⟨hk, c, hc, hcell⟩
  · exact wpAny_Name (wpAny_loadName_local I.ok.kind hk hn hm fin) hd
  · rcases hk with hk | hk
    · exact wpAny_Name (wpAny_loadName_cell I.ok.kind hk hc hcell fin) hd
    · exact wpAny_Name (wpAny_loadName_free I.ok.kind hk hc hcell fin hcd) hd
theorem pe_int {i j pos} : PE X (.Constant (.int i) j pos) (tC (.int i)) := fun _ _ _ H _ I h => wpAny_Constant_int ⟨.int i, H, I.tok _, ⟨_, rfl⟩, h⟩
theorem pe_bl {b j pos} : PE X (.Constant (.bool b) j pos) (tC (.bl b)) := fun _ _ _ H _ I h => Constant_bool ⟨.bl b, H, I, rfl, h⟩
def Gl (X : Cx) (x : Str) : Prop := X.env.kindOf x = some .globalImplicit
theorem ld_glob {E : Value → Shared → Prop} {pins : List (Addr × Obj)} {s : Shared} {σ : St} {H : Hp} {x : Str} {u : Value} {pos : Pos} {Q : Value → Shared → Prop} (I : Inv X pins σ H s) (hg : Gl X x) (hm : X.mg x = some u) (h : Q u s)
    (hd : (x == ("__debug__" : Str)) = false := by decide) : wpAny (model X.prog X.w) X.A (eval (.Name x pos) X.env) Q E s :=
  Calls.Name_function_global I.ok.kind hg (Calls.loadGlobal_global (by rw [I.ok.glob]; exact I.mod.glob.keeps I.bk) hm h) hd
theorem ld_blt {E : Value → Shared → Prop} {pins : List (Addr × Obj)} {s : Shared} {σ : St} {H : Hp} {x : Str} {u : Value} {pos : Pos} {Q : Value → Shared → Prop} (I : Inv X pins σ H s) (hg : Gl X x) (hm : X.mg x = none) (hv : bootBuiltins x = some u) (h : Q u s)
    (hn : x ≠ "__name__" := by decide) (hd : (x == ("__debug__" : Str)) = false := by decide) : wpAny (model X.prog X.w) X.A (eval (.Name x pos) X.env) Q E s := by
  obtain ⟨mb, h1, h2⟩ := I.mod.blt
  exact Calls.Name_function_global I.ok.kind hg (Calls.loadGlobal_builtin (by rw [I.ok.glob]; exact I.mod.glob.keeps I.bk) hm (by rw [I.ok.blt]; exact h1.keeps I.bk) ((h2 x hn).trans hv) h) hd
theorem pe_bltn {x : Str} {v : V} {u : Value} {pos : Pos} (hg : Gl X x) (hm : X.mg x = none) (hv : bootBuiltins x = some u) (r : RelV v u) (hn : x ≠ "__name__" := by decide) (hd : (x == ("__debug__" : Str)) = false := by decide) : PE X (.Name x pos) (tC v) :=
  fun _ _ _ H _ I h => ld_blt I hg hm hv ⟨v, H, I, r, h⟩ hn hd
variable {a b : Expr} {ta tb : TE} {pos : Pos}
def tB (t : TE) : TT := fun σ H Q => t σ H fun x H1 => ∃ c, x = .bl c ∧ Q c H1
theorem pt_val {e : Expr} {t : TE} (h : PE X e t) (he : ∀ whole, isTrue e X.env whole = (do let v ← whole; standAt e.pos; holding [v] (truthy v)) := by intro _; rfl) : PT X e (tB t) := by
  intro pins s σ H Q I hw
  refine isTrue_plain (thn (h pins s σ H _ I hw) fun v s1 ⟨x, H1, I1, r1, q1⟩ => ?_) (he _)
  obtain ⟨d, rfl, q⟩ := q1
  cases r1
  exact wpAny_truthy_bool ⟨H1, I1, q⟩
variable {tA tB' : TT} {rest : List Expr}
def tAnd (t u : TT) : TT := fun σ H Q => t σ H fun c H1 => if c = true then u σ H1 Q else Q false H1
def tOr (t u : TT) : TT := fun σ H Q => t σ H fun c H1 => if c = true then Q true H1 else u σ H1 Q
def tNot (t : TT) : TT := fun σ H Q => t σ H fun c H1 => Q (!c) H1
theorem pw_and1 (ha : PT X a tA) : PW X (.BoolOp .And [a] pos) tA := by
  intro wh pins s σ H Q I h
  refine isTrue_and (thn (ha pins s σ H Q I h) fun c s1 e => ?_)
  cases c with
  | true => exact isTrue_and_nil e
  | false => exact e
theorem pw_or1 (ha : PT X a tA) : PW X (.BoolOp .Or [a] pos) tA := by
  intro wh pins s σ H Q I h
  refine isTrue_or (thn (ha pins s σ H Q I h) fun c s1 e => ?_)
  cases c with
  | false => exact isTrue_or_nil e
  | true => exact e
theorem pw_and (ha : PT X a tA) (hb : PW X (.BoolOp .And (b :: rest) pos) tB') : PW X (.BoolOp .And (a :: b :: rest) pos) (tAnd tA tB') := by
  intro wh pins s σ H Q I h
  refine isTrue_and (thn (ha pins s σ H _ I h) fun c s1 ⟨H1, I1, q1⟩ => ?_)
  cases c with
  | true => exact hb wh pins s1 σ H1 Q I1 q1
  | false => exact ⟨H1, I1, q1⟩
theorem pw_or (ha : PT X a tA) (hb : PW X (.BoolOp .Or (b :: rest) pos) tB') : PW X (.BoolOp .Or (a :: b :: rest) pos) (tOr tA tB') := by
  intro wh pins s σ H Q I h
  refine isTrue_or (thn (ha pins s σ H _ I h) fun c s1 ⟨H1, I1, q1⟩ => ?_)
  cases c with
  | true => exact ⟨H1, I1, q1⟩
  | false => exact hb wh pins s1 σ H1 Q I1 q1
theorem pt_not (ha : PT X a tA) : PT X (.UnaryOp .Not a pos) (tNot tA) := by
  intro pins s σ H Q I h
  exact isTrue_not (ha pins s σ H (fun c H1 => Q (!c) H1) I h)
def tAndV (ta tb : TE) : TE := fun σ H Q => ta σ H fun x H1 => ∃ c, x = .bl c ∧ if c = true then tb σ H1 Q else Q (.bl false) H1
def tNotV (ta : TE) : TE := fun σ H Q => ta σ H fun x H1 => ∃ c, x = .bl c ∧ Q (.bl (!c)) H1
theorem pe_one {op} {t : TE} (h : PE X a t) : PE X (.BoolOp op [a] pos) t := fun pins s σ H Q I hw => BoolOp_one (h pins s σ H Q I hw)
theorem pe_and (ha : PE X a ta) (hb : PE X (.BoolOp .And (b :: rest) pos) tb) : PE X (.BoolOp .And (a :: b :: rest) pos) (tAndV ta tb) := by
  intro pins s σ H Q I h
  refine BoolOp_and (thn (ha pins s σ H _ I h) fun v s1 ⟨x, H1, I1, r1, q1⟩ => ?_)
  obtain ⟨c, rfl, q1⟩ := q1
  cases r1
  refine wpAny_truthy_bool ?_
  cases c with
  | true => exact hb pins s1 σ H1 Q I1 q1
  | false => exact ⟨.bl false, H1, I1, rfl, q1⟩
theorem pe_not (ha : PE X a ta) : PE X (.UnaryOp .Not a pos) (tNotV ta) := by
  intro pins s σ H Q I h
  refine UnaryOp_ (thn (ha pins s σ H _ I h) fun v s1 ⟨x, H1, I1, r1, q1⟩ => ?_)
  obtain ⟨c, rfl, q1⟩ := q1
  cases r1
  exact not_of (wpAny_truthy_bool ⟨.bl (!c), H1, I1, rfl, q1⟩)
end
end L2
namespace L2
open PySem PySem.Spec PyProof.Rows
def SqL (K : PySem.W.Frag) (H : Hp) (a : Addr) (xs : List V) : Prop :=
  Rd H a (.lst xs) ∨
    ∃ (o : Obj) (its : Array Value) (n : Nat), K.lookup a = some o ∧ o.cls = .type "list" ∧ o.dict = none ∧ o.data = .seq its n ∧ its.size ≤ sizeLine ∧ Vals xs its.toList
def SqT (K : PySem.W.Frag) (H : Hp) (a : Addr) (xs : List V) : Prop :=
  Rd H a (.tup xs) ∨
    ∃ (o : Obj) (its : Array Value) (n : Nat), K.lookup a = some o ∧ o.cls = .type "tuple" ∧ o.data = .seq its n ∧ its.size ≤ sizeLine ∧ Vals xs its.toList
def absV : Value → Option V
  | .none => some .non
  | .bool b => some (.bl b)
  | .int i _ => some (.int i)
  | .str x _ => some (.str x)
  | .bytes b _ => some (.byt b)
  | .float b _ => some (.flt b)
  | .ref a => some (.ref a)
  | .type n => some (.ty n)
  | _ => none
theorem RelV.abs {x : V} {u : Value} (r : RelV x u) : absV u = some x := by
  cases x with
  | non => cases r; rfl
  | bl _ => cases r; rfl
  | int _ => obtain ⟨t, rfl⟩ := r; rfl
  | str _ => obtain ⟨t, rfl⟩ := r; rfl
  | byt _ => obtain ⟨t, rfl⟩ := r; rfl
  | flt _ => obtain ⟨t, rfl⟩ := r; rfl
  | ref _ => cases r; rfl
  | ty _ => cases r; rfl
theorem RelV.inj {x y : V} {u : Value} (r : RelV x u) (q : RelV y u) : x = y := Option.some.inj (r.abs.symm.trans q.abs)
theorem Vals.inj : ∀ {xs ys : List V} {us : List Value}, Vals xs us → Vals ys us → xs = ys
  | _, _, _, .nil, .nil => rfl
  | _, _, _, .cons r t, .cons r' t' => by rw [r.inj r', Vals.inj t t']
section
variable {X : Cx} {pins : List (Addr × Obj)} {σ : St} {H : Hp} {s : Shared} {a : Addr} {xs ys : List V}
theorem SqL.of {K : PySem.W.Frag} (h : H a = some (.lst xs)) : SqL K H a xs := .inl (.inl h)
theorem SqT.of {K : PySem.W.Frag} (h : H a = some (.tup xs)) : SqT K H a xs := .inl (.inl h)
theorem Inv.list (I : Inv X pins σ H s) (h : SqL X.K H a xs) : ∃ its : List Value, Vals xs its ∧ PlainL s.heap a its.toArray ∧ xs.length ≤ sizeLine := by
  rcases h with h | ⟨o, its, n, hk, hc, hd, hs, hz, r⟩
  · obtain ⟨z, its, n, r, e⟩ := h.ok I.hok
    exact ⟨its, r, ⟨_, n, e, rfl, rfl, rfl⟩, z⟩
  · refine ⟨its.toList, r, ⟨o, n, I.kIn a o hk, hc, hd, by simpa using hs⟩, ?_⟩
    have e := r.length
    simp only [Array.length_toList] at e
    omega
theorem Inv.tuple (I : Inv X pins σ H s) (h : SqT X.K H a xs) : ∃ its : List Value, Vals xs its ∧ IsTup s.heap a its.toArray ∧ xs.length ≤ sizeLine := by
  rcases h with h | ⟨o, its, n, hk, hc, hs, hz, r⟩
  · obtain ⟨z, its, r, p⟩ := h.ok I.hok
    exact ⟨its, r, p, z⟩
  · refine ⟨its.toList, r, ⟨o, I.kIn a o hk, hc, n, by simpa using hs⟩, ?_⟩
    have e := r.length
    simp only [Array.length_toList] at e
    omega
theorem Inv.list_inj (I : Inv X pins σ H s) (h : SqL X.K H a xs) (h' : SqL X.K H a ys) : xs = ys := by
  obtain ⟨its, r, ⟨o, n, e, _, _, d⟩, _⟩ := I.list h
  obtain ⟨its', r', ⟨o', n', e', _, _, d'⟩, _⟩ := I.list h'
  rw [e] at e'; cases e'
  rw [d] at d'
  injection d' with d1 _
  have : its = its' := by simpa using congrArg Array.toList d1
  subst this
  exact r.inj r'
theorem Inv.tuple_inj (I : Inv X pins σ H s) (h : SqT X.K H a xs) (h' : SqT X.K H a ys) : xs = ys := by
  obtain ⟨its, r, ⟨o, e, _, n, d⟩, _⟩ := I.tuple h
  obtain ⟨its', r', ⟨o', e', _, n', d'⟩, _⟩ := I.tuple h'
  rw [e] at e'; cases e'
  rw [d] at d'
  injection d' with d1 _
  have : its = its' := by simpa using congrArg Array.toList d1
  subst this
  exact r.inj r'
end
abbrev Cx.wish (X : Cx) (E : Value → Shared → Prop) : Cx := { X with xe := E }
abbrev Cx.nox (X : Cx) : Cx := X.wish fun _ _ => False
theorem Cx.Ok.wish {X : Cx} (ok : X.Ok) (E : Value → Shared → Prop) : (X.wish E).Ok :=
  ⟨ok.mod, ok.kind, ok.glob, ok.blt, ok.above, ok.inj, ok.has, ok.cab, ok.hd, ok.frames, ok.stk, ok.exf, ok.bs, ok.bsz, ok.noex, ok.exfs, ok.funs, ok.frf⟩
theorem Cx.Ok.unwish {X : Cx} {E : Value → Shared → Prop} (ok : (X.wish E).Ok) : X.Ok :=
  ⟨ok.mod, ok.kind, ok.glob, ok.blt, ok.above, ok.inj, ok.has, ok.cab, ok.hd, ok.frames, ok.stk, ok.exf, ok.bs, ok.bsz, ok.noex, ok.exfs, ok.funs, ok.frf⟩
section
variable {X : Cx} {pins : List (Addr × Obj)} {σ : St} {H : Hp} {s : Shared} {E : Value → Shared → Prop}
theorem Inv.wish (I : Inv X pins σ H s) (E : Value → Shared → Prop) : Inv (X.wish E) pins σ H s := ⟨I.ok.wish E, I.os, I.bare, I.base, I.loc, I.cell, I.free, I.freeC, I.pin, I.hok, I.len⟩
theorem Inv.unwish (I : Inv (X.wish E) pins σ H s) : Inv X pins σ H s := ⟨I.ok.unwish, I.os, I.bare, I.base, I.loc, I.cell, I.free, I.freeC, I.pin, I.hok, I.len⟩
theorem SP.unwish {D : Ends} {f : Flow} {s' : Shared} (h : SP (X.wish E) pins D f s') : SP X pins D f s' := by
  cases f with
  | next => obtain ⟨σ', H', I, q⟩ := h; exact ⟨σ', H', I.unwish, q⟩
  | brk => obtain ⟨σ', H', I, q⟩ := h; exact ⟨σ', H', I.unwish, q⟩
  | cont => obtain ⟨σ', H', I, q⟩ := h; exact ⟨σ', H', I.unwish, q⟩
  | ret u => obtain ⟨v, σ', H', I, r, q⟩ := h; exact ⟨v, σ', H', I.unwish, r, q⟩
theorem PSs.nox {st : List Stmt} {t : TS} (h : PSs X.nox st t) : PSs X st t := fun pins s σ H D I hw =>
  wpAny_mono (h pins s σ H D (I.wish _) hw) (fun _ _ q => q.unwish) fun _ _ z => False.elim z
end
section
variable {X : Cx} {st : Stmt} {rest : List Stmt} {t u : TS} {e : Expr} {te : TE} {pos : Pos}
def tNext : TS := fun D σ H => D.nx σ H
def tSeq (t u : TS) : TS := fun D σ H => t { D with nx := u D } σ H
theorem pss_nil : PSs X [] tNext := fun _ _ σ H _ I h => wpAny_execs_nil ⟨σ, H, I, h⟩
theorem pss_cons (h1 : PS X st t) (h2 : PSs X rest u) : PSs X (st :: rest) (tSeq t u) := by
  intro pins s σ H D I h
  refine wpAny_execs_cons (thn (h1 pins s σ H { D with nx := u D } I h) fun f s1 q => ?_)
  cases f with
  | next =>
    obtain ⟨σ', H', I', q⟩ := q
    exact h2 pins s1 σ' H' D I' q
  | ret v => exact q
  | brk => exact q
  | cont => exact q
theorem pss_one (h1 : PS X st t) : PSs X [st] t := by
  intro pins s σ H D I h
  refine wpAny_execs_cons (thn (h1 pins s σ H D I h) fun f s1 q => ?_)
  cases f with
  | next => exact wpAny_execs_nil q
  | ret v => exact q
  | brk => exact q
  | cont => exact q
theorem Inv.quiet {pins : List (Addr × Obj)} {σ : St} {H : Hp} {s : Shared} (I : Inv X pins σ H s) : interactive X.env = false := by simp [interactive, I.ok.kind]
def tDrop (te : TE) : TS := fun D σ H => te σ H fun _ H1 => D.nx σ H1
theorem ps_expr (he : PE X e te) (hs : swapsWith e none pos.line X.env = pure false := by rfl) : PS X (.Expr e pos) (tDrop te) := by
  intro pins s σ H D I h
  exact wpAny_Expr_any (thn (he pins s σ H _ I h) fun v s1 ⟨x, H1, I1, r1, q1⟩ => ⟨σ, H1, I1, q1⟩) I.quiet hs
def tRet (te : TE) : TS := fun D σ H => te σ H D.rt
theorem ps_ret (he : PE X e te) : PS X (.Return (some e) pos) (tRet te) := by
  intro pins s σ H D I h
  exact wpAny_Return_some (thn (he pins s σ H _ I h) fun v s1 ⟨x, H1, I1, r1, q1⟩ => ⟨x, σ, H1, I1, r1, q1⟩)
def tIfS (c : TT) (t u : TS) : TS := fun D σ H => c σ H fun b H1 => if b = true then t D σ H1 else u D σ H1
theorem ps_if {c : Expr} {a b : List Stmt} {tc : TT} (hc : PT X c tc) (ha : PSs X a t) (hb : PSs X b u) : PS X (.If c a b pos) (tIfS tc t u) := by
  intro pins s σ H D I h
  refine wpAny_If (thn (hc pins s σ H _ I h) fun d s1 ⟨H1, I1, q1⟩ => ?_)
  cases d with
  | true => exact ha pins s1 σ H1 D I1 q1
  | false => exact hb pins s1 σ H1 D I1 q1
end
abbrev TG := V → St → Hp → (St → Hp → Prop) → Prop
abbrev TGs := List V → St → Hp → (St → Hp → Prop) → Prop
def PG (X : Cx) (target : Expr) (t : TG) : Prop :=
  ∀ (pins : List (Addr × Obj)) (s : Shared) (σ : St) (H : Hp) (v : V) (u : Value) (Q : St → Hp → Prop), Inv X pins σ H s → RelV v u → t v σ H Q →
    wpAny (model X.prog X.w) X.A (assign target X.env u) (fun _ s' => ∃ σ' H', Inv X pins σ' H' s' ∧ Q σ' H') X.xe s
def PGs (X : Cx) (ts : List Expr) (t : TGs) : Prop :=
  ∀ (pins : List (Addr × Obj)) (s : Shared) (σ : St) (H : Hp) (vs : List V) (us : List Value) (Q : St → Hp → Prop), Inv X pins σ H s → Vals vs us → t vs σ H Q →
    wpAny (model X.prog X.w) X.A (assignInOrder ((assignEach ts X.env).map (·.2)) us) (fun _ s' => ∃ σ' H', Inv X pins σ' H' s' ∧ Q σ' H') X.xe s
section
variable {X : Cx} {pos : Pos}
def gName (i : Nat) : TG := fun v σ H Q => Q (σ.set i (some v)) H
theorem pg_name {i : Nat} {x : Str} (hN : X.N.Nodup) (hi : X.N[i]? = some x) (hx : Loc X.env.scope x) (hf : X.fn x = true ∨ X.env.scope.names.lookup x = some .local := by first | exact .inl rfl | exact .inr rfl | assumption) : PG X (.Name x pos) (gName i) := by
  intro pins s σ H v u Q I r h
  exact wpAny_assign_Name (store_ok I hN hi hx r (fun s' I' => ⟨_, H, I', h⟩) hf)
def gNil : TGs := fun vs σ H Q => vs = [] ∧ Q σ H
def gCons (t : TG) (u : TGs) : TGs := fun vs σ H Q => ∃ v r, vs = v :: r ∧ t v σ H fun σ' H' => u r σ' H' Q
theorem pgs_nil : PGs X [] gNil := by
  intro pins s σ H vs us Q I r h
  obtain ⟨e, h⟩ := h
  subst e
  cases r
  exact assignInOrder_nil ⟨σ, H, I, h⟩
theorem pgs_cons {e : Expr} {es : List Expr} {t : TG} {u : TGs} (h1 : PG X e t) (h2 : PGs X es u)
    (hs : (assignEach (e :: es) X.env).map (·.2) = assign e X.env :: (assignEach es X.env).map (·.2) := by rfl) : PGs X (e :: es) (gCons t u) := by
  intro pins s σ H vs us Q I r h
  obtain ⟨v, vr, e1, h⟩ := h
  subst e1
  cases r with
  | cons r rr =>
    rw [hs]
    refine assignInOrder_cons (thn (h1 pins s σ H _ _ _ I r h) fun _ s1 ⟨σ1, H1, I1, q1⟩ => ?_)
    exact h2 pins s1 σ1 H1 _ _ Q I1 rr q1
def gTup (K : PySem.W.Frag) (n : Nat) (t : TGs) : TG := fun v σ H Q => ∃ a xs, v = .ref a ∧ SqT K H a xs ∧ xs.length = n ∧ t xs σ H Q
theorem pg_tup {es : List Expr} {k : Nat} {t : TGs} {n : Nat} (hc : X.calm = true) (h : PGs X es t)
    (hn : (assignEach es X.env).length = n := by rfl) (hst : (assignEach es X.env).findIdx? (·.1) = none := by rfl) : PG X (.Tuple es k pos) (gTup X.K n t) := by
  intro pins s σ H v u Q I r hw
  obtain ⟨a, xs, e1, hq, hl, hw⟩ := hw
  subst e1
  cases r
  obtain ⟨its, rv, ht, hz⟩ := I.tuple hq
  refine assign_Tuple_tuple (I.ok.hd hc) ht (by simp [hn, ← hl, rv.length]) hst fun h' hx => ?_
  have I1 : Inv X pins σ H { s with heap := h' } := I.kept (t' := s.toks) fun b o e => hx b o (Nat.ne_of_lt (Heap.lt_size e)) e
  exact h pins _ σ H xs _ Q I1 (by simpa using rv) hw
def tAsg (te : TE) (g : TG) : TS := fun D σ H => te σ H fun x H1 => g x σ H1 D.nx
theorem ps_asg {tg e : Expr} {te : TE} {g : TG} (he : PE X e te) (hg : PG X tg g) (hs : swapsWithSole [tg] e pos.line X.env = pure false := by rfl) (hw : swappedStores [tg] e X.env = pure none := by rfl)
    (h1 : (assignEach [tg] X.env).map (·.2) = [assign tg X.env] := by rfl) : PS X (.Assign [tg] e pos) (tAsg te g) := by
  intro pins s σ H D I h
  refine wpAny_Assign_stores (thn (he pins s σ H _ I h) fun v s1 ⟨x, H1, I1, r1, q1⟩ => ?_) hs hw
  rw [h1]
  exact thn (hg pins s1 σ H1 x v _ I1 r1 q1) fun _ s2 q => q
theorem ps_set {i : Nat} {x : Str} {e : Expr} {te : TE} {pos' : Pos} (hN : X.N.Nodup) (hi : X.N[i]? = some x) (hx : Loc X.env.scope x) (he : PE X e te) (hs : swapsWith e (some (.Name x pos')) pos.line X.env = pure false := by rfl) (hf : X.fn x = true ∨ X.env.scope.names.lookup x = some .local := by first | exact .inl rfl | exact .inr rfl | assumption) :
    PS X (.Assign [.Name x pos'] e pos) (tAsg te (gName i)) := by
  intro pins s σ H D I h
  refine wpAny_Assign_Name (thn (he pins s σ H _ I h) fun v s1 ⟨y, H1, I1, r1, q1⟩ => ?_) hs
  exact store_ok I1 hN hi hx r1 (fun s2 I2 => ⟨_, H1, I2, q1⟩) hf
end
section
variable {X : Cx} {pos : Pos}
def tWhile (c : TT) (tb : TS) : TS := fun D σ H => ∃ W : Nat → St → Hp → Prop, (∃ m, W m σ H) ∧ ∀ m σ H, W m σ H →
  c σ H fun b H1 => if b = true then ∃ N : St → Hp → Prop, (∀ σ' H', N σ' H' → ∃ m', m' < m ∧ W m' σ' H') ∧ tb { D with nx := N, ct := N, bk := D.nx } σ H1 else D.nx σ H1
theorem ps_while {c : Expr} {body : List Stmt} {tc : TT} {tb : TS} (hp : PassesOwn (model X.prog X.w) X.A X.env X.xe) (hc : PT X c tc) (hb : PSs X body tb) : PS X (.While c body [] pos) (tWhile tc tb) := by
  intro pins s σ H D I h
  obtain ⟨W, ⟨m0, w0⟩, turn⟩ := h
  refine wpAny_While (codeAny_whileLoop (fun n s' => ∃ σ' H', Inv X pins σ' H' s' ∧ W n σ' H') ?_ m0 ⟨σ, H, I, w0⟩)
  rintro n s1 ⟨σ1, H1, I1, w1⟩
  refine wpAny_passesOwn hp (thn (hc pins s1 σ1 H1 _ I1 (turn n σ1 H1 w1)) fun b s2 ⟨H2, I2, q2⟩ => ?_)
  cases b with
  | true =>
    obtain ⟨N, hN, q2⟩ := q2
    rw [if_pos rfl]
    refine wpAny_passesOwn hp (thn (hb pins s2 σ1 H2 _ I2 q2) fun f s3 q3 => ?_)
    cases f with
    | next =>
      obtain ⟨σ3, H3, I3, n3⟩ := q3
      obtain ⟨m', hm, w3⟩ := hN σ3 H3 n3
      exact ⟨m', hm, σ3, H3, I3, w3⟩
    | cont =>
      obtain ⟨σ3, H3, I3, n3⟩ := q3
      obtain ⟨m', hm, w3⟩ := hN σ3 H3 n3
      exact ⟨m', hm, σ3, H3, I3, w3⟩
    | brk => exact q3
    | ret v => exact q3
  | false =>
    rw [if_neg Bool.false_ne_true]
    exact wpAny_execs_nil ⟨σ1, H2, I2, q2⟩
end
structure It where
  go : Nat → Hp → Prop
  yld : Nat → Hp → V → Hp → Prop
  stop : Nat → Hp → Prop
def FpOk (X : Cx) (pins : List (Addr × Obj)) (H : Hp) (b : Addr) : Prop :=
  H b = none ∧ b ≠ X.env.locals ∧ b ∉ X.fs ∧ (b ∈ X.ex ∨ X.s₀.heap.objs.size ≤ b) ∧ (∀ x c, X.env.cells.lookup x = some c → c ≠ b) ∧ ∀ p ∈ X.pn ++ pins, p.1 ≠ b
theorem Inv.fpOk {X : Cx} {pins : List (Addr × Obj)} {σ : St} {H H' : Hp} {s : Shared} {b : Addr} (I : Inv X pins σ H s) (hb : s.heap.objs.size ≤ b) (hn : H' b = none) : FpOk X pins H' b := by
  refine ⟨hn, Nat.ne_of_gt (Nat.lt_of_lt_of_le I.lt hb), I.nofs hb, .inr (Nat.le_trans I.sz hb), fun x c e z => ?_, fun p hp z => ?_⟩
  · obtain ⟨v, q⟩ := I.cell x c e
    exact absurd (Nat.lt_of_lt_of_le q.lt (by rw [z]; exact hb)) (Nat.lt_irrefl _)
  · exact absurd (Nat.lt_of_lt_of_le (Heap.lt_size (I.pin p hp).1) (by rw [z]; exact hb)) (Nat.lt_irrefl _)
structure Turn (P : Program) (w : World) (K : PySem.W.Frag) (tg : Expr) (J : It) (fp : List Addr) (it : Addr) (tn : Nat → Heap → Prop) : Prop where
  mem : it ∈ fp
  obj : ∀ i h, tn i h → ∀ b ∈ fp, ∃ o, h.get? b = some o ∧ ∀ v, o.data ≠ .cell v
  keep : ∀ i h h', tn i h → (∀ b ∈ fp, ∀ o, h.get? b = some o → h'.get? b = some o) → tn i h'
  item : ∀ (X : Cx), X.prog = P → X.w = w → X.K = K → X.calm = true → ∀ (i : Nat) (pins : List (Addr × Obj)) (s : Shared) (σ : St) (H : Hp) (E : Value → Shared → Prop), Inv X pins σ H s → (∀ b ∈ fp, FpOk X pins H b) → tn i s.heap → J.go i H →
    wpAny (model P w) X.A (pyNext (.ref it)) (fun r s1 => ∃ u, r = some u ∧
      wpAny (model P w) X.A (letOwnedTupleGo tg (.ref it) u) (fun _ s2 => ∃ x H', Inv X pins σ H' s2 ∧ RelV x u ∧ J.yld i H x H' ∧ tn (i + 1) s2.heap ∧ ∀ b ∈ fp, H' b = none) E s1) E s
  done : ∀ (X : Cx), X.prog = P → X.w = w → X.K = K → X.calm = true → ∀ (i : Nat) (pins : List (Addr × Obj)) (s : Shared) (σ : St) (H : Hp) (E : Value → Shared → Prop), Inv X pins σ H s → (∀ b ∈ fp, FpOk X pins H b) → tn i s.heap → J.stop i H →
    wpAny (model P w) X.A (pyNext (.ref it)) (fun r s1 => r = none ∧ Inv X pins σ H s1) E s
  self : ∀ (A : Around) (i : Nat) (s : Shared) (Q : Value → Shared → Prop) (E : Value → Shared → Prop), tn i s.heap → Q (.ref it) s → wpAny (model P w) A (pyIter (.ref it)) Q E s
abbrev TI := St → Hp → (It → Hp → Prop) → Prop
def PIE (X : Cx) (pins : List (Addr × Obj)) (σ : St) (tg : Expr) (R : It → Hp → Prop) (itv : Value) (s2 : Shared) : Prop :=
  ∃ (it : Addr) (fp : List Addr) (tn : Nat → Heap → Prop) (J : It) (H' : Hp), itv = .ref it ∧ Inv X pins σ H' s2 ∧ Turn X.prog X.w X.K tg J fp it tn ∧ tn 0 s2.heap ∧ (∀ b ∈ fp, FpOk X pins H' b) ∧ R J H'
def PI (X : Cx) (tg iter : Expr) (wi : TI) : Prop :=
  ∀ (pins : List (Addr × Obj)) (s : Shared) (σ : St) (H : Hp) (R : It → Hp → Prop), Inv X pins σ H s → wi σ H R →
    wpAny (model X.prog X.w) X.A (eval iter X.env) (fun v s1 => wpAny (model X.prog X.w) X.A (pyIter v) (PIE X pins σ tg R) X.xe s1) X.xe s
theorem go_of {M : Model} {A : Around} {E : Value → Shared → Prop} {s : Shared} {tg : Expr} {it : Addr} {u : Value} {o : Obj} {n : String} {vs : Array Value} {Q : Unit → Shared → Prop} (ho : s.heap.get? it = some o) (hc : o.cls = .type n) (hd : o.data = .fields vs)
    (hn : ["enumerate", "zip", "dict_itemiterator", "dict_reverseitemiterator", "odict_iterator", "itertools.zip_longest", "itertools.pairwise"].contains n = false) (hQ : Q () s) : wpAny M A (letOwnedTupleGo tg (.ref it) u) Q E s := by
  unfold letOwnedTupleGo
  cases tg <;> first
    | exact wpAny_pure hQ
    | (cases u <;> first
        | exact wpAny_pure hQ
        | (refine wpAny_bind (wpAny_load ho ?_)
           rw [hc, hd]
           show wpAny M A (if (["enumerate", "zip", "dict_itemiterator", "dict_reverseitemiterator", "odict_iterator", "itertools.zip_longest", "itertools.pairwise"].contains n && vs[0]? == some (rawInt _)) = true then _ else _) Q E s
           rw [if_neg (by intro h; rw [hn, Bool.false_and] at h; cases h)]
           exact wpAny_pure hQ))
def Itl (K : PySem.W.Frag) (a : Addr) : It :=
  ⟨fun i H => ∃ xs x, SqL K H a xs ∧ xs[i]? = some x, fun i H x H' => H' = H ∧ ∀ xs, SqL K H a xs → xs[i]? = some x, fun i H => ∃ xs, SqL K H a xs ∧ xs.length ≤ i⟩
def Itt (K : PySem.W.Frag) (a : Addr) : It :=
  ⟨fun i H => ∃ xs x, SqT K H a xs ∧ xs[i]? = some x, fun i H x H' => H' = H ∧ ∀ xs, SqT K H a xs → xs[i]? = some x, fun i H => ∃ xs, SqT K H a xs ∧ xs.length ≤ i⟩
def Itr (lo : Int) (n : Nat) : It := ⟨fun i _ => i < n, fun i H x H' => H' = H ∧ x = .int (lo + i), fun i _ => n ≤ i⟩
theorem turn_list {P : Program} {w : World} {K : PySem.W.Frag} {tg : Expr} (a it : Addr) : Turn P w K tg (Itl K a) [it] it (fun i h => h.IsListIter it a i) where
  mem := by simp
  obj := fun i h st b hb => by
    have e : b = it := by simpa using hb
    subst e
    obtain ⟨o, e, c, d⟩ := st
    exact ⟨o, e, fun v z => by rw [d] at z; cases z⟩
  keep := fun i h h' st k => st.at fun o e => k it (by simp) o e
  item := by
    intro X hP hw hK hc i pins s σ H E I hf st hg
    subst hP hw hK
    obtain ⟨xs, x, hq, hx⟩ := hg
    obtain ⟨its, rv, p, hz⟩ := I.list hq
    obtain ⟨u, hu, ru⟩ := rv.get hx
    obtain ⟨f0, f1, f2, f3, f4, f5⟩ := hf it (by simp)
    refine wpAny_pyNext_list_item st p.isList (x := u) (by simpa using hu) fun h' st' sb => ?_
    have I1 : Inv X pins σ H { s with heap := h' } := I.turned (t' := s.toks) (fun b o hb e => (sb.2 b hb).trans e) f0 f1 f3 f4 f5
    obtain ⟨o, e, c, d⟩ := id st'
    exact ⟨u, rfl, go_of (s := { s with heap := h' }) e c d (by decide) ⟨x, H, I1, ru, ⟨rfl, fun ys hy => by rw [I.list_inj hy hq]; exact hx⟩, st', fun b hb => (hf b hb).1⟩⟩
  done := by
    intro X hP hw hK hc i pins s σ H E I hf st hg
    subst hP hw hK
    obtain ⟨xs, hq, hx⟩ := hg
    obtain ⟨its, rv, p, hz⟩ := I.list hq
    obtain ⟨f0, f1, f2, f3, f4, f5⟩ := hf it (by simp)
    have hl := rv.length
    exact wpAny_pyNext_list_end (I.ok.hd hc) st p.isList (by simp; omega) fun h' eb => ⟨rfl, I.turned (t' := s.toks) (fun b o hb e => eb b o hb e) f0 f1 f3 f4 f5⟩
  self := fun _ _ _ _ _ st h => wpAny_pyIter_listiter st h
theorem turn_tuple {P : Program} {w : World} {K : PySem.W.Frag} {tg : Expr} (a it : Addr) : Turn P w K tg (Itt K a) [it] it (fun i h => h.IsTupleIter it a i) where
  mem := by simp
  obj := fun i h st b hb => by
    have e : b = it := by simpa using hb
    subst e
    obtain ⟨o, e, c, d⟩ := st
    exact ⟨o, e, fun v z => by rw [d] at z; cases z⟩
  keep := fun i h h' st k => st.at fun o e => k it (by simp) o e
  item := by
    intro X hP hw hK hc i pins s σ H E I hf st hg
    subst hP hw hK
    obtain ⟨xs, x, hq, hx⟩ := hg
    obtain ⟨its, rv, p, hz⟩ := I.tuple hq
    obtain ⟨u, hu, ru⟩ := rv.get hx
    obtain ⟨f0, f1, f2, f3, f4, f5⟩ := hf it (by simp)
    refine wpAny_pyNext_tuple_item st (show s.heap.IsTuple a its.toArray from p) (x := u) (by simpa using hu) fun h' st' sb => ?_
    have I1 : Inv X pins σ H { s with heap := h' } := I.turned (t' := s.toks) (fun b o hb e => (sb.2 b hb).trans e) f0 f1 f3 f4 f5
    obtain ⟨o, e, c, d⟩ := id st'
    exact ⟨u, rfl, go_of (s := { s with heap := h' }) e c d (by decide) ⟨x, H, I1, ru, ⟨rfl, fun ys hy => by rw [I.tuple_inj hy hq]; exact hx⟩, st', fun b hb => (hf b hb).1⟩⟩
  done := by
    intro X hP hw hK hc i pins s σ H E I hf st hg
    subst hP hw hK
    obtain ⟨xs, hq, hx⟩ := hg
    obtain ⟨its, rv, p, hz⟩ := I.tuple hq
    obtain ⟨f0, f1, f2, f3, f4, f5⟩ := hf it (by simp)
    have hl := rv.length
    exact wpAny_pyNext_tuple_end (I.ok.hd hc) st (show s.heap.IsTuple a its.toArray from p) (by simp; omega) fun h' eb => ⟨rfl, I.turned (t' := s.toks) (fun b o hb e => eb b o hb e) f0 f1 f3 f4 f5⟩
  self := fun _ _ _ _ _ st h => wpAny_pyIter_tupleiter st h
theorem turn_range {P : Program} {w : World} {K : PySem.W.Frag} {tg : Expr} (it : Addr) (lo : Int) (n : Nat) : Turn P w K tg (Itr lo n) [it] it (fun i h => IsRangeIter h it (lo + (i : Nat) * 1) ((n : Int) - (i : Nat)) 1) where
  mem := by simp
  obj := fun i h st b hb => by
    have e : b = it := by simpa using hb
    subst e
    exact ⟨_, st, fun v z => by
      have z' : Data.fields _ = Data.cell v := z
      cases z'⟩
  keep := fun i h h' st k => k it (by simp) _ st
  item := by
    intro X hP hw hK hc i pins s σ H E I hf st hg
    subst hP hw hK
    obtain ⟨f0, f1, f2, f3, f4, f5⟩ := hf it (by simp)
    have W := Walks.range (prog := X.prog) (w := X.w) (I.ok.hd hc) it lo 1 n
    refine W.item i s _ _ hg st fun v h' tk hv st' kk => ?_
    obtain ⟨t, rfl⟩ := hv
    have I1 : Inv X pins σ H { s with heap := h', toks := tk } := I.turned (fun b o hb e => kk b o (by simpa using hb) e) f0 f1 f3 f4 f5
    refine ⟨_, rfl, go_of (s := { s with heap := h', toks := tk }) (n := "range_iterator") st' rfl rfl (by decide) ⟨.int (lo + i), H, I1, ⟨t, ?_⟩, ⟨rfl, rfl⟩, st', fun b hb => (hf b hb).1⟩⟩
    rw [Int.mul_one]
  done := by
    intro X hP hw hK hc i pins s σ H E I hf st hg
    subst hP hw hK
    obtain ⟨f0, f1, f2, f3, f4, f5⟩ := hf it (by simp)
    exact wpAny_pyNext_range_end (I.ok.hd hc) st (by have : n ≤ i := hg; omega) fun h' eb => ⟨rfl, I.turned (t' := s.toks) (fun b o hb e => eb b o hb e) f0 f1 f3 f4 f5⟩
  self := fun _ _ _ _ _ st h => wpAny_pyIter_rangeiter st h
end L2
namespace L2
open PySem PySem.Spec PyProof.Rows
section
variable {X : Cx} {tg : Expr}
def iList (K : PySem.W.Frag) (tl : TE) : TI := fun σ H R => tl σ H fun x H1 => ∃ a, x = .ref a ∧ (∃ xs, SqL K H1 a xs) ∧ R (Itl K a) H1
def iTup (K : PySem.W.Frag) (tl : TE) : TI := fun σ H R => tl σ H fun x H1 => ∃ a, x = .ref a ∧ (∃ xs, SqT K H1 a xs) ∧ R (Itt K a) H1
theorem pi_list {l : Expr} {tl : TE} (hl : PE X l tl) : PI X tg l (iList X.K tl) := by
  intro pins s σ H R I h
  refine thn (hl pins s σ H _ I h) fun v s1 ⟨x, H1, I1, r1, q1⟩ => ?_
  obtain ⟨a, e, ⟨xs, hq⟩, q⟩ := q1
  subst e
  cases r1
  obtain ⟨its, rv, p, hz⟩ := I1.list hq
  refine wpAny_pyIter_list p.isList ?_
  refine ⟨s1.heap.objs.size, [s1.heap.objs.size], _, _, H1, rfl, I1.kept (t' := s1.toks) fun b o e => Heap.get?_push_of_some _ e, turn_list a _, ⟨_, Heap.get?_push_size _ rfl, rfl, rfl⟩, fun b hb => ?_, q⟩
  have e : b = s1.heap.objs.size := by simpa using hb
  subst e
  exact I1.fpOk (Nat.le_refl _) (I1.hok.fresh (Nat.le_refl _))
theorem pi_tup {l : Expr} {tl : TE} (hl : PE X l tl) : PI X tg l (iTup X.K tl) := by
  intro pins s σ H R I h
  refine thn (hl pins s σ H _ I h) fun v s1 ⟨x, H1, I1, r1, q1⟩ => ?_
  obtain ⟨a, e, ⟨xs, hq⟩, q⟩ := q1
  subst e
  cases r1
  obtain ⟨its, rv, p, hz⟩ := I1.tuple hq
  refine wpAny_pyIter_tuple (show s1.heap.IsTuple a its.toArray from p) ?_
  refine ⟨s1.heap.objs.size, [s1.heap.objs.size], _, _, H1, rfl, I1.kept (t' := s1.toks) fun b o e => Heap.get?_push_of_some _ e, turn_tuple a _, ⟨_, Heap.get?_push_size _ rfl, rfl, rfl⟩, fun b hb => ?_, q⟩
  have e : b = s1.heap.objs.size := by simpa using hb
  subst e
  exact I1.fpOk (Nat.le_refl _) (I1.hok.fresh (Nat.le_refl _))
theorem range_it {pins : List (Addr × Obj)} {σ : St} {H : Hp} {s : Shared} {R : It → Hp → Prop} {E : Value → Shared → Prop} {lo hi : Int} {t u v : Tok} {tk : Nat} (I : Inv X pins σ H s) (h1 : -(2 ^ 62) ≤ lo) (h2 : lo < 2 ^ 62) (h3 : -(2 ^ 62) ≤ hi) (h4 : hi < 2 ^ 62)
    (q : R (Itr lo (hi - lo).toNat) H) : wpAny (model X.prog X.w) X.A (pyIter (.ref s.heap.objs.size)) (PIE X pins σ tg R) E { s with heap := s.heap.push { cls := .type "range", data := .fields #[.int lo t, .int hi u, .int 1 v] }, toks := tk } := by
  refine wpAny_pyIter_range (IsRange.new ..) (small_one h1 h2 h3 h4) ?_
  have I1 : Inv X pins σ H { s with heap := s.heap.push { cls := .type "range", data := .fields #[.int lo t, .int hi u, .int 1 v] }, toks := tk } := I.kept fun b o e => Heap.get?_push_of_some _ e
  refine ⟨(s.heap.push { cls := .type "range", data := .fields #[.int lo t, .int hi u, .int 1 v] }).objs.size, [(s.heap.push { cls := .type "range", data := .fields #[.int lo t, .int hi u, .int 1 v] }).objs.size], _, _, H, rfl,
    I1.kept (t' := tk) fun b o e => Heap.get?_push_of_some _ e, turn_range _ lo (hi - lo).toNat, ?_, fun b hb => ?_, q⟩
  · have e1 : lo + ((0 : Nat) : Int) * 1 = lo := by simp
    have e2 : (((hi - lo).toNat : Nat) : Int) - ((0 : Nat) : Int) = Builtin.Range.rangeSize lo hi 1 := by rw [rangeSize_one]; split <;> omega
    show IsRangeIter _ _ (lo + ((0 : Nat) : Int) * 1) ((((hi - lo).toNat : Nat) : Int) - ((0 : Nat) : Int)) 1
    rw [e1, e2]
    exact Heap.get?_push_size _ rfl
  · have e : b = (s.heap.push { cls := .type "range", data := .fields #[.int lo t, .int hi u, .int 1 v] }).objs.size := by simpa using hb
    subst e
    exact I1.fpOk (Nat.le_refl _) (I1.hok.fresh (Nat.le_refl _))
def iRng1 (ta : TA) : TI := fun σ H R => ta σ H fun vs H1 => ∃ j : Int, vs = [.int j] ∧ -(2 ^ 62) ≤ j ∧ j < 2 ^ 62 ∧ R (Itr 0 j.toNat) H1
theorem pi_range1 {a : Expr} {ta : TA} {p pos : Pos} (hg : Gl X "range") (hm : X.mg "range" = none) (ha : PA X [a] ta) (hs : starEach [a] X.env = [(false, eval a X.env)] := by rfl) : PI X tg (.Call (.Name "range" p) [a] [] pos) (iRng1 ta) := by
  intro pins s σ H R I h
  refine Call_ (ld_blt I hg hm boot_range (PyProof.Rows.callWith_type1 (thn (ha pos pins s σ H _ I h) fun us s1 ⟨vs, H1, I1, r1, q1⟩ => ?_) hs rfl))
  obtain ⟨j, e, q1, q2, q⟩ := q1
  subst e
  cases r1 with
  | cons r rr =>
    cases rr
    obtain ⟨t, rfl⟩ := r
    exact call_range_1 (range_it I1 (by omega) (by omega) q1 q2 (by simpa using q))
def tFor (wi : TI) (g : TG) (tb : TS) : TS := fun D σ H => wi σ H fun J H1 => ∃ W : Nat → Nat → St → Hp → Prop, (∃ m, W 0 m σ H1) ∧ ∀ i m σ H, W i m σ H →
  (J.stop i H ∧ D.nx σ H) ∨ (J.go i H ∧ ∃ N : St → Hp → Prop, (∀ σ' H', N σ' H' → ∃ m', m' < m ∧ W (i + 1) m' σ' H') ∧ ∀ x H', J.yld i H x H' → g x σ H' fun σ2 H2 => tb { D with nx := N, ct := N, bk := D.nx } σ2 H2)
def pinsAt (fp : List Addr) (h : Heap) : List (Addr × Obj) := fp.filterMap fun b => (h.get? b).map fun o => (b, o)
theorem mem_pinsAt {fp : List Addr} {h : Heap} {b : Addr} {o : Obj} (hb : b ∈ fp) (e : h.get? b = some o) : (b, o) ∈ pinsAt fp h := List.mem_filterMap.mpr ⟨b, hb, by rw [e]; rfl⟩
theorem of_pinsAt {fp : List Addr} {h : Heap} {p : Addr × Obj} (hp : p ∈ pinsAt fp h) : p.1 ∈ fp ∧ h.get? p.1 = some p.2 := by
  obtain ⟨b, hb, e⟩ := List.mem_filterMap.mp hp
  cases q : h.get? b with
  | none => rw [q] at e; cases e
  | some o =>
    rw [q] at e
    have e' : (b, o) = p := Option.some.inj e
    subst e'
    exact ⟨hb, q⟩
theorem Inv.pinned {pins : List (Addr × Obj)} {σ : St} {H : Hp} {s : Shared} {fp : List Addr} (I : Inv X pins σ H s) (hf : ∀ b ∈ fp, FpOk X pins H b) (ho : ∀ b ∈ fp, ∃ o, s.heap.get? b = some o ∧ ∀ v, o.data ≠ .cell v) : Inv X (pins ++ pinsAt fp s.heap) σ H s :=
  I.pins_of fun p hp => (List.mem_append.mp hp).elim (fun z => I.pin p (List.mem_append_right _ z)) fun z => by
    obtain ⟨hb, e⟩ := of_pinsAt z
    obtain ⟨f0, f1, f2, _⟩ := hf p.1 hb
    obtain ⟨o, e', d⟩ := ho p.1 hb
    rw [e] at e'; cases e'
    exact ⟨e, f0, f1, f2, d⟩
theorem Inv.unpinned {pins pl : List (Addr × Obj)} {σ : St} {H : Hp} {s : Shared} (I : Inv X (pins ++ pl) σ H s) : Inv X pins σ H s := I.pins_of fun p hp => I.pin p (List.mem_append_right _ (List.mem_append_left _ hp))
theorem ps_for {iter : Expr} {body : List Stmt} {wi : TI} {g : TG} {tb : TS} {pos : Pos} (hp : PassesOwn (model X.prog X.w) X.A X.env X.xe) (hc : X.calm = true) (hi : PI X tg iter wi) (hg : PG X tg g) (hb : PSs X body tb)
    (hs : ∀ x, foldedSetIterable iter X.env x = pure x := by intro _; rfl) : PS X (.For tg iter body [] pos) (tFor wi g tb) := by
  intro pins s σ H D I h
  refine wpAny_For (thn (hi pins s σ H _ I h) fun v s1 h1 => thn h1 fun itv s2 h2 => ?_) hs
  obtain ⟨it, fp, tn, J, H2, e, I2, T, st2, f2, W, ⟨m0, w0⟩, turn⟩ := h2
  subst e
  have stat : ∀ {H' : Hp}, (∀ b ∈ fp, H' b = none) → ∀ b ∈ fp, FpOk X pins H' b := fun hn b hb => ⟨hn b hb, (f2 b hb).2⟩
  refine codeAny_forLoop_any (fun n s' => ∃ i σ' H', Inv X pins σ' H' s' ∧ tn i s'.heap ∧ (∀ b ∈ fp, H' b = none) ∧ W i n σ' H') ?_ m0 ⟨0, σ, H2, I2, st2, fun b hb => (f2 b hb).1, w0⟩
  rintro n s3 ⟨i, σ3, H3, I3, st3, fr3, w3⟩
  rcases turn i n σ3 H3 w3 with ⟨stop, qn⟩ | ⟨go, N, hN, step⟩
  · refine wpAny_passesOwn hp (thn (T.done X rfl rfl rfl hc i pins s3 σ3 H3 X.xe I3 (stat fr3) st3 stop) fun r s4 ⟨hr, I4⟩ => ?_)
    subst hr
    exact wpAny_execs_nil ⟨σ3, H3, I4, qn⟩
  · refine wpAny_passesOwn hp (thn (T.item X rfl rfl rfl hc i pins s3 σ3 H3 X.xe I3 (stat fr3) st3 go) fun r s4 ⟨u, hr, h4⟩ => ?_)
    subst hr
    refine wpAny_passesOwn hp (thn h4 fun _ s5 ⟨x, H5, I5, r5, y5, st5, fr5⟩ => ?_)
    have I5' := I5.pinned (stat fr5) (T.obj _ _ st5)
    refine wpAny_passesOwn hp (thn (hg _ s5 σ3 H5 x u _ I5' r5 (step x H5 y5)) fun _ s6 ⟨σ6, H6, I6, q6⟩ => ?_)
    refine wpAny_passesOwn hp (thn (hb _ s6 σ6 H6 _ I6 q6) fun f s7 q7 => ?_)
    have again : ∀ {σ7 : St} {H7 : Hp}, Inv X (pins ++ pinsAt fp s5.heap) σ7 H7 s7 → N σ7 H7 → ∃ m, m < n ∧ ∃ i σ' H', Inv X pins σ' H' s7 ∧ tn i s7.heap ∧ (∀ b ∈ fp, H' b = none) ∧ W i m σ' H' := fun {σ7 H7} I7 n7 => by
      obtain ⟨m', hm, w7⟩ := hN σ7 H7 n7
      refine ⟨m', hm, i + 1, σ7, H7, I7.unpinned, T.keep _ _ _ st5 fun b hb o e => (I7.pin (b, o) (List.mem_append_right _ (List.mem_append_right _ (mem_pinsAt hb e)))).1, fun b hb => ?_, w7⟩
      obtain ⟨o, e, d⟩ := T.obj _ _ st5 b hb
      exact (I7.pin (b, o) (List.mem_append_right _ (List.mem_append_right _ (mem_pinsAt hb e)))).2.1
    cases f with
    | next => obtain ⟨σ7, H7, I7, n7⟩ := q7; exact again I7 n7
    | cont => obtain ⟨σ7, H7, I7, n7⟩ := q7; exact again I7 n7
    | brk => obtain ⟨σ7, H7, I7, q7⟩ := q7; exact ⟨σ7, H7, I7.unpinned, q7⟩
    | ret v => obtain ⟨x7, σ7, H7, I7, r7, q7⟩ := q7; exact ⟨x7, σ7, H7, I7.unpinned, r7, q7⟩
end
theorem for_list {K : PySem.W.Frag} {a : Addr} {xs : List V} {g : TG} {tb : TS} {D : Ends} {σ : St} {H : Hp} (Pv : Nat → St → Hp → Prop) (h0 : Pv 0 σ H) (hl : ∀ i σ H, i ≤ xs.length → Pv i σ H → SqL K H a xs)
    (hs : ∀ i x σ H, xs[i]? = some x → Pv i σ H → g x σ H fun σ2 H2 => tb { D with nx := Pv (i + 1), ct := Pv (i + 1), bk := D.nx } σ2 H2) (hd : ∀ σ H, Pv xs.length σ H → D.nx σ H) :
    ∃ W : Nat → Nat → St → Hp → Prop, (∃ m, W 0 m σ H) ∧ ∀ i m σ H, W i m σ H →
      ((Itl K a).stop i H ∧ D.nx σ H) ∨ ((Itl K a).go i H ∧ ∃ N : St → Hp → Prop, (∀ σ' H', N σ' H' → ∃ m', m' < m ∧ W (i + 1) m' σ' H') ∧ ∀ x H', (Itl K a).yld i H x H' → g x σ H' fun σ2 H2 => tb { D with nx := N, ct := N, bk := D.nx } σ2 H2) := by
  refine ⟨fun i m σ H => m = xs.length - i ∧ i ≤ xs.length ∧ Pv i σ H, ⟨xs.length, by simp, Nat.zero_le _, h0⟩, ?_⟩
  rintro i m σ H ⟨rfl, hi, p⟩
  have q := hl i σ H hi p
  by_cases hlt : i < xs.length
  · refine .inr ⟨⟨xs, xs[i], q, by simp [hlt]⟩, Pv (i + 1), fun σ' H' p' => ⟨xs.length - (i + 1), by omega, rfl, hlt, p'⟩, fun x H' y => ?_⟩
    obtain ⟨e, y⟩ := y
    subst e
    exact hs i x σ _ (y xs q) p
  · have e : i = xs.length := by omega
    subst e
    exact .inl ⟨⟨xs, q, Nat.le_refl _⟩, hd σ H p⟩
theorem for_tup {K : PySem.W.Frag} {a : Addr} {xs : List V} {g : TG} {tb : TS} {D : Ends} {σ : St} {H : Hp} (Pv : Nat → St → Hp → Prop) (h0 : Pv 0 σ H) (hl : ∀ i σ H, i ≤ xs.length → Pv i σ H → SqT K H a xs)
    (hs : ∀ i x σ H, xs[i]? = some x → Pv i σ H → g x σ H fun σ2 H2 => tb { D with nx := Pv (i + 1), ct := Pv (i + 1), bk := D.nx } σ2 H2) (hd : ∀ σ H, Pv xs.length σ H → D.nx σ H) :
    ∃ W : Nat → Nat → St → Hp → Prop, (∃ m, W 0 m σ H) ∧ ∀ i m σ H, W i m σ H →
      ((Itt K a).stop i H ∧ D.nx σ H) ∨ ((Itt K a).go i H ∧ ∃ N : St → Hp → Prop, (∀ σ' H', N σ' H' → ∃ m', m' < m ∧ W (i + 1) m' σ' H') ∧ ∀ x H', (Itt K a).yld i H x H' → g x σ H' fun σ2 H2 => tb { D with nx := N, ct := N, bk := D.nx } σ2 H2) := by
  refine ⟨fun i m σ H => m = xs.length - i ∧ i ≤ xs.length ∧ Pv i σ H, ⟨xs.length, by simp, Nat.zero_le _, h0⟩, ?_⟩
  rintro i m σ H ⟨rfl, hi, p⟩
  have q := hl i σ H hi p
  by_cases hlt : i < xs.length
  · refine .inr ⟨⟨xs, xs[i], q, by simp [hlt]⟩, Pv (i + 1), fun σ' H' p' => ⟨xs.length - (i + 1), by omega, rfl, hlt, p'⟩, fun x H' y => ?_⟩
    obtain ⟨e, y⟩ := y
    subst e
    exact hs i x σ _ (y xs q) p
  · have e : i = xs.length := by omega
    subst e
    exact .inl ⟨⟨xs, q, Nat.le_refl _⟩, hd σ H p⟩
theorem for_range {lo : Int} {n : Nat} {g : TG} {tb : TS} {D : Ends} {σ : St} {H : Hp} (Pv : Nat → St → Hp → Prop) (h0 : Pv 0 σ H)
    (hs : ∀ i σ H, i < n → Pv i σ H → g (.int (lo + i)) σ H fun σ2 H2 => tb { D with nx := Pv (i + 1), ct := Pv (i + 1), bk := D.nx } σ2 H2) (hd : ∀ σ H, Pv n σ H → D.nx σ H) :
    ∃ W : Nat → Nat → St → Hp → Prop, (∃ m, W 0 m σ H) ∧ ∀ i m σ H, W i m σ H →
      ((Itr lo n).stop i H ∧ D.nx σ H) ∨ ((Itr lo n).go i H ∧ ∃ N : St → Hp → Prop, (∀ σ' H', N σ' H' → ∃ m', m' < m ∧ W (i + 1) m' σ' H') ∧ ∀ x H', (Itr lo n).yld i H x H' → g x σ H' fun σ2 H2 => tb { D with nx := N, ct := N, bk := D.nx } σ2 H2) := by
  refine ⟨fun i m σ H => m = n - i ∧ i ≤ n ∧ Pv i σ H, ⟨n, by simp, Nat.zero_le _, h0⟩, ?_⟩
  rintro i m σ H ⟨rfl, hi, p⟩
  by_cases hlt : i < n
  · refine .inr ⟨hlt, Pv (i + 1), fun σ' H' p' => ⟨n - (i + 1), by omega, rfl, hlt, p'⟩, fun x H' y => ?_⟩
    obtain ⟨e, y⟩ := y
    subst e y
    exact hs i σ _ hlt p
  · have e : i = n := by omega
    subst e
    exact .inl ⟨Nat.le_refl _, hd σ H p⟩
end L2
namespace L2
open PySem PySem.Spec PyProof.Rows
abbrev R2 := V → V → Hp → VK → Prop
def OpR (X : Cx) (f : Value → Value → Sem Value) (r : R2) : Prop :=
  ∀ (pins : List (Addr × Obj)) (s : Shared) (σ : St) (H : Hp) (x y : V) (v u : Value) (Q : VK), Inv X pins σ H s → RelV x v → RelV y u → r x y H Q →
    wpAny (model X.prog X.w) X.A (f v u) (EP X pins σ Q) X.xe s
def UnR (X : Cx) (f : Value → Sem Value) (r : V → Hp → VK → Prop) : Prop :=
  ∀ (pins : List (Addr × Obj)) (s : Shared) (σ : St) (H : Hp) (x : V) (v : Value) (Q : VK), Inv X pins σ H s → RelV x v → r x H Q →
    wpAny (model X.prog X.w) X.A (f v) (EP X pins σ Q) X.xe s
def CallR (X : Cx) (f : Value) (r : List V → Hp → VK → Prop) : Prop :=
  ∀ (pins : List (Addr × Obj)) (s : Shared) (σ : St) (H : Hp) (xs : List V) (us : List Value) (Q : VK), Inv X pins σ H s → Vals xs us → r xs H Q →
    wpAny (model X.prog X.w) X.A (call f us) (EP X pins σ Q) X.xe s
def TruR (X : Cx) (r : V → Hp → (Bool → Hp → Prop) → Prop) : Prop :=
  ∀ (pins : List (Addr × Obj)) (s : Shared) (σ : St) (H : Hp) (x : V) (v : Value) (Q : Bool → Hp → Prop), Inv X pins σ H s → RelV x v → r x H Q →
    wpAny (model X.prog X.w) X.A (truthy v) (TP X pins σ Q) X.xe s
def tOp (r : R2) (ta tb : TE) : TE := fun σ H Q => ta σ H fun x H1 => tb σ H1 fun y H2 => r x y H2 Q
def tUn (r : V → Hp → VK → Prop) (ta : TE) : TE := fun σ H Q => ta σ H fun x H1 => r x H1 Q
def rI (C : Int → Int → Prop) (g : Int → Int → V) : R2 := fun x y H Q => ∃ i j, x = .int i ∧ y = .int j ∧ C i j ∧ Q (g i j) H
def rI0 (g : Int → Int → V) : R2 := fun x y H Q => ∃ i j, x = .int i ∧ y = .int j ∧ Q (g i j) H
def rU (g : Int → V) : V → Hp → VK → Prop := fun x H Q => ∃ i, x = .int i ∧ Q (g i) H
section
variable {X : Cx} {a b c : Expr} {ta tb tc : TE} {pos : Pos}
theorem binT (ha : PE X a ta) (hb : PE X b tb) {pins : List (Addr × Obj)} {s : Shared} {σ : St} {H : Hp} {R : V → V → Hp → Prop} (I : Inv X pins σ H s)
    (h : ta σ H fun x H1 => tb σ H1 fun y H2 => R x y H2) {Q : Value → Shared → Prop} {f : Value → Value → Sem Value}
    (hf : ∀ v u s2 x y H2, Inv X pins σ H2 s2 → RelV x v → RelV y u → R x y H2 → wpAny (model X.prog X.w) X.A (f v u) Q X.xe s2) :
    wpAny (model X.prog X.w) X.A (eval a X.env) (fun v s₁ => wpAny (model X.prog X.w) X.A (eval b X.env) (fun u s₂ => wpAny (model X.prog X.w) X.A (f v u) Q X.xe s₂) X.xe s₁) X.xe s := by
  refine thn (ha pins s σ H _ I h) fun v s1 ⟨x, H1, I1, r1, q1⟩ => ?_
  refine thn (hb pins s1 σ H1 _ I1 q1) fun u s2 ⟨y, H2, I2, r2, q2⟩ => ?_
  exact hf v u s2 x y H2 I2 r1 r2 q2
theorem pe_op {op : Operator} {r : R2} (ho : OpR X (binaryOp op) r) (ha : PE X a ta) (hb : PE X b tb) : PE X (.BinOp a op b pos) (tOp r ta tb) := by
  intro pins s σ H Q I h
  exact wpAny_BinOp (binT ha hb I h fun v u s2 x y H2 I2 rx ry q => ho pins s2 σ H2 x y v u Q I2 rx ry q)
theorem pe_un {op : UnaryOp} {r : V → Hp → VK → Prop} (ho : UnR X (unaryOp op) r) (ha : PE X a ta) : PE X (.UnaryOp op a pos) (tUn r ta) := by
  intro pins s σ H Q I h
  exact UnaryOp_ (thn (ha pins s σ H _ I h) fun v s1 ⟨x, H1, I1, r1, q1⟩ => ho pins s1 σ H1 x v Q I1 r1 q1)
theorem opI {f : Value → Value → Sem Value} {C : Int → Int → Prop} {g : Int → Int → Int}
    (rule : ∀ (i j : Int) (t u : Tok) (s : Shared) (Q : Value → Shared → Prop) (E : Value → Shared → Prop), C i j → Q (.int (g i j) s.toks) { s with toks := s.toks + 1 } → wpAny (model X.prog X.w) X.A (f (.int i t) (.int j u)) Q E s) :
    OpR X f (rI C fun i j => .int (g i j)) := by
  intro pins s σ H x y v u Q I rx ry h
  obtain ⟨i, j, rfl, rfl, hc, q⟩ := h
  obtain ⟨t, rfl⟩ := rx
  obtain ⟨t', rfl⟩ := ry
  exact rule i j t t' s _ _ hc ⟨.int (g i j), H, I.tok _, ⟨_, rfl⟩, q⟩
theorem opI0 {f : Value → Value → Sem Value} {g : Int → Int → Int}
    (rule : ∀ (i j : Int) (t u : Tok) (s : Shared) (Q : Value → Shared → Prop) (E : Value → Shared → Prop), Q (.int (g i j) s.toks) { s with toks := s.toks + 1 } → wpAny (model X.prog X.w) X.A (f (.int i t) (.int j u)) Q E s) :
    OpR X f (rI0 fun i j => .int (g i j)) := by
  intro pins s σ H x y v u Q I rx ry h
  obtain ⟨i, j, rfl, rfl, q⟩ := h
  obtain ⟨t, rfl⟩ := rx
  obtain ⟨t', rfl⟩ := ry
  exact rule i j t t' s _ _ ⟨.int (g i j), H, I.tok _, ⟨_, rfl⟩, q⟩
theorem opB0 {f : Value → Value → Sem Value} {g : Int → Int → Bool}
    (rule : ∀ (i j : Int) (t u : Tok) (s : Shared) (Q : Value → Shared → Prop) (E : Value → Shared → Prop), Q (.bool (g i j)) s → wpAny (model X.prog X.w) X.A (f (.int i t) (.int j u)) Q E s) :
    OpR X f (rI0 fun i j => .bl (g i j)) := by
  intro pins s σ H x y v u Q I rx ry h
  obtain ⟨i, j, rfl, rfl, q⟩ := h
  obtain ⟨t, rfl⟩ := rx
  obtain ⟨t', rfl⟩ := ry
  exact rule i j t t' s _ _ ⟨.bl (g i j), H, I, rfl, q⟩
def CDiv (i j : Int) : Prop := 0 < j ∧ j < 1073741824
def CPow (i j : Int) : Prop := 0 ≤ j ∧ j ≤ 1000000 ∧ i.natAbs < 2 ^ 64
def CMul (i j : Int) : Prop := (-(2 ^ 64) < i ∧ i < 2 ^ 64) ∨ (-(2 ^ 64) < j ∧ j < 2 ^ 64)
theorem CMul.ok {i j : Int} (h : CMul i j) : IntMulOk i j := by
  rcases h with ⟨h1, h2⟩ | ⟨h1, h2⟩
  · exact .of_left (intBits_le_64 h1 h2)
  · exact .of_right (intBits_le_64 h1 h2)
theorem op_add : OpR X (binaryOp .Add) (rI0 fun i j => .int (i + j)) := opI0 fun _ _ _ _ _ _ _ q => add_int q
theorem op_sub : OpR X (binaryOp .Sub) (rI0 fun i j => .int (i - j)) := opI0 fun _ _ _ _ _ _ _ q => sub_int q
theorem op_mul : OpR X (binaryOp .Mult) (rI CMul fun i j => .int (i * j)) := opI fun _ _ _ _ _ _ _ hc q => mul_int q hc.ok
theorem op_fdiv : OpR X (binaryOp .FloorDiv) (rI CDiv fun i j => .int (i / j)) := opI fun i j _ _ _ _ _ hc q => by
  have h1 : (0 : Int) < j := hc.1
  have h2 : j < 1073741824 := hc.2
  exact floordiv_int (by omega) (by rw [Int.fdiv_eq_ediv_of_nonneg i (by omega)]; exact q) (.inl (PyProof.noPylong_small (by omega)))
theorem op_mod : OpR X (binaryOp .Mod) (rI (fun _ j => 0 < j) fun i j => .int (i % j)) := opI fun i j _ _ _ _ _ hc q => by
  have h1 : (0 : Int) < j := hc
  exact mod_int' (by omega) (by rw [Int.fmod_eq_emod_of_nonneg i (by omega)]; exact q)
theorem op_pow : OpR X (binaryOp .Pow) (rI CPow fun i j => .int (i ^ j.toNat)) := opI fun _ _ _ _ _ _ _ hc q => pow_int_small hc.1 hc.2.1 hc.2.2 q
theorem unI {f : Value → Sem Value} {g : Int → Int}
    (rule : ∀ (i : Int) (t : Tok) (s : Shared) (Q : Value → Shared → Prop) (E : Value → Shared → Prop), Q (.int (g i) s.toks) { s with toks := s.toks + 1 } → wpAny (model X.prog X.w) X.A (f (.int i t)) Q E s) :
    UnR X f (rU fun i => .int (g i)) := by
  intro pins s σ H x v Q I rx h
  obtain ⟨i, rfl, q⟩ := h
  obtain ⟨t, rfl⟩ := rx
  exact rule i t s _ _ ⟨.int (g i), H, I.tok _, ⟨_, rfl⟩, q⟩
theorem un_neg : UnR X (unaryOp .USub) (rU fun i => .int (-i)) := unI fun _ _ _ _ _ q => neg_int q
end
def scal : V → V → Bool
  | .non, .non => true | .non, .int _ => true | .int _, .non => true | .non, .bl _ => true | .bl _, .non => true | .non, .str _ => true | .str _, .non => true
  | .int _, .int _ => true | .bl _, .bl _ => true | .str _, .str _ => true | .byt _, .byt _ => true
  | .int _, .str _ => true | .str _, .int _ => true | .bl _, .str _ => true | .str _, .bl _ => true
  | _, _ => false
def rEq : R2 := fun x y H Q => scal x y = true ∧ Q (.bl (decide (x = y))) H
def rNe : R2 := fun x y H Q => scal x y = true ∧ Q (.bl (!decide (x = y))) H
theorem dec_int {i j : Int} : decide (V.int i = V.int j) = (i == j) := by
  rw [Bool.eq_iff_iff]
  simp
theorem dec_bl {i j : Bool} : decide (V.bl i = V.bl j) = (i == j) := by
  rw [Bool.eq_iff_iff]
  simp
theorem dec_str {i j : Str} : decide (V.str i = V.str j) = (i == j) := by
  rw [Bool.eq_iff_iff]
  simp
theorem dec_byt {i j : Array UInt8} : decide (V.byt i = V.byt j) = (i.toList == j.toList) := by
  rw [Bool.eq_iff_iff]
  cases i
  cases j
  simp
section
variable {X : Cx} {a b c : Expr} {ta tb tc : TE} {pos : Pos}
theorem fin_bl {pins : List (Addr × Obj)} {σ : St} {H : Hp} {s : Shared} {Q : VK} {k k' : Bool} (I : Inv X pins σ H s) (q : Q (.bl k) H) (e : k = k') : EP X pins σ Q (.bool k') s := by
  subst e
  exact ⟨.bl k, H, I, rfl, q⟩
theorem op_eq : OpR X (compareOp .Eq) rEq := by
  intro pins s σ H x y v u Q I rx ry h
  obtain ⟨hs, q⟩ := h
  cases x with
  | non =>
    cases rx
    cases y with
    | non => cases ry; exact PySem.EqNone.eq_none_none (fin_bl I q (by simp))
    | bl j => cases ry; exact PySem.EqNone.eq_none_bool (fin_bl I q (by simp))
    | int j => obtain ⟨t', rfl⟩ := ry; exact PySem.EqNone.eq_none_int (fin_bl I q (by simp))
    | str j => obtain ⟨t', rfl⟩ := ry; exact PySem.EqNone.eq_none_str (fin_bl I q (by simp))
    | _ => exact absurd (show false = true from hs) Bool.false_ne_true
  | bl i =>
    cases rx
    cases y with
    | non => cases ry; exact PySem.EqNone.eq_bool_none (fin_bl I q (by simp))
    | bl j => cases ry; exact eq_bool (fin_bl I q dec_bl)
    | str j => obtain ⟨t', rfl⟩ := ry; exact PySem.EqMixed.eq_bool_str (fin_bl I q (by simp))
    | _ => exact absurd (show false = true from hs) Bool.false_ne_true
  | int i =>
    obtain ⟨t, rfl⟩ := rx
    cases y with
    | non => cases ry; exact PySem.EqNone.eq_int_none (fin_bl I q (by simp))
    | int j => obtain ⟨t', rfl⟩ := ry; exact eq_int (fin_bl I q dec_int)
    | str j => obtain ⟨t', rfl⟩ := ry; exact PySem.EqMixed.eq_int_str (fin_bl I q (by simp))
    | _ => exact absurd (show false = true from hs) Bool.false_ne_true
  | str i =>
    obtain ⟨t, rfl⟩ := rx
    cases y with
    | non => cases ry; exact PySem.EqNone.eq_str_none (fin_bl I q (by simp))
    | bl j => cases ry; exact PySem.EqMixed.eq_str_bool (fin_bl I q (by simp))
    | int j => obtain ⟨t', rfl⟩ := ry; exact PySem.EqMixed.eq_str_int (fin_bl I q (by simp))
    | str j => obtain ⟨t', rfl⟩ := ry; exact eq_str (fin_bl I q dec_str)
    | _ => exact absurd (show false = true from hs) Bool.false_ne_true
  | byt i =>
    obtain ⟨t, rfl⟩ := rx
    cases y with
    | byt j => obtain ⟨t', rfl⟩ := ry; exact PySem.W.eq_bytes (fin_bl I q dec_byt)
    | _ => exact absurd (show false = true from hs) Bool.false_ne_true
  | _ => cases y <;> exact absurd (show false = true from hs) Bool.false_ne_true
theorem op_ne : OpR X (compareOp .NotEq) rNe := by
  intro pins s σ H x y v u Q I rx ry h
  obtain ⟨hs, q⟩ := h
  cases x with
  | non =>
    cases rx
    cases y with
    | non => cases ry; exact PySem.EqNone.ne_none_none (fin_bl I q (by simp))
    | bl j => cases ry; exact PySem.EqNone.ne_none_bool (fin_bl I q (by simp))
    | int j => obtain ⟨t', rfl⟩ := ry; exact PySem.EqNone.ne_none_int (fin_bl I q (by simp))
    | str j => obtain ⟨t', rfl⟩ := ry; exact PySem.EqNone.ne_none_str (fin_bl I q (by simp))
    | _ => exact absurd (show false = true from hs) Bool.false_ne_true
  | bl i =>
    cases rx
    cases y with
    | non => cases ry; exact PySem.EqNone.ne_bool_none (fin_bl I q (by simp))
    | bl j => cases ry; exact ne_bool (fin_bl I q (congrArg not dec_bl))
    | str j => obtain ⟨t', rfl⟩ := ry; exact PySem.EqMixed.ne_bool_str (fin_bl I q (by simp))
    | _ => exact absurd (show false = true from hs) Bool.false_ne_true
  | int i =>
    obtain ⟨t, rfl⟩ := rx
    cases y with
    | non => cases ry; exact PySem.EqNone.ne_int_none (fin_bl I q (by simp))
    | int j => obtain ⟨t', rfl⟩ := ry; exact ne_int (fin_bl I q (congrArg not dec_int))
    | str j => obtain ⟨t', rfl⟩ := ry; exact PySem.EqMixed.ne_int_str (fin_bl I q (by simp))
    | _ => exact absurd (show false = true from hs) Bool.false_ne_true
  | str i =>
    obtain ⟨t, rfl⟩ := rx
    cases y with
    | non => cases ry; exact PySem.EqNone.ne_str_none (fin_bl I q (by simp))
    | bl j => cases ry; exact PySem.EqMixed.ne_str_bool (fin_bl I q (by simp))
    | int j => obtain ⟨t', rfl⟩ := ry; exact PySem.EqMixed.ne_str_int (fin_bl I q (by simp))
    | str j => obtain ⟨t', rfl⟩ := ry; exact ne_str (fin_bl I q (congrArg not dec_str))
    | _ => exact absurd (show false = true from hs) Bool.false_ne_true
  | byt i =>
    obtain ⟨t, rfl⟩ := rx
    cases y with
    | byt j => obtain ⟨t', rfl⟩ := ry; exact PySem.W.ne_bytes (fin_bl I q (congrArg not dec_byt))
    | _ => exact absurd (show false = true from hs) Bool.false_ne_true
  | _ => cases y <;> exact absurd (show false = true from hs) Bool.false_ne_true
theorem op_lt : OpR X (compareOp .Lt) (rI0 fun i j => .bl (decide (i < j))) := opB0 fun _ _ _ _ _ _ _ q => lt_int q
theorem op_gt : OpR X (compareOp .Gt) (rI0 fun i j => .bl (decide (j < i))) := opB0 fun _ _ _ _ _ _ _ q => gt_int q
theorem nomark (b : Expr) {op : CmpOp} (h : op ≠ .In := by decide) (h2 : op ≠ .NotIn := by decide) : behindInMarks op b = false := by
  have e1 : (op == CmpOp.In) = false := by cases op <;> first | rfl | exact absurd rfl h
  have e2 : (op == CmpOp.NotIn) = false := by cases op <;> first | rfl | exact absurd rfl h2
  cases b <;> simp [behindInMarks, e1, e2]
theorem pe_cmpR {op : CmpOp} {r : R2} (ho : OpR X (compareOp op) r) (ha : PE X a ta) (hb : PE X b tb) (hm : behindInMarks op b = false) : PE X (.Compare a [op] [b] pos) (tOp r ta tb) := by
  intro pins s σ H Q I h
  exact wpAny_Compare1 (binT ha hb I h fun v u s2 x y H2 I2 rx ry q => ho pins s2 σ H2 x y v u Q I2 rx ry q) hm
def tTest (t : TE) : TT := fun σ H Q => t σ H fun x H' => ∃ k, x = .bl k ∧ Q k H'
theorem pt_cmpR {op : CmpOp} {r : R2} (ho : OpR X (compareOp op) r) (ha : PE X a ta) (hb : PE X b tb) (hm : behindInMarks op b = false) : PT X (.Compare a [op] [b] pos) (tTest (tOp r ta tb)) := by
  intro pins s σ H Q I h
  refine wpAny_isTrue_Compare1 (thn (ha pins s σ H _ I h) fun v s1 ⟨x, H1, I1, r1, q1⟩ => thn (hb pins s1 σ H1 _ I1 q1) fun u s2 ⟨y, H2, I2, r2, q2⟩ =>
    thn (ho pins s2 σ H2 x y v u _ I2 r1 r2 q2) fun c s3 ⟨z, H3, I3, r3, k, e, q3⟩ => ?_) hm
  subst e
  cases r3
  exact wpAny_truthy_bool ⟨H3, I3, q3⟩
def TruV (K : PySem.W.Frag) (x : V) (H : Hp) (k : Bool) : Prop :=
  match x with
  | .non => k = false
  | .bl b => k = b
  | .int i => k = (i != 0)
  | .str y => y.length ≤ sizeLine ∧ k = ((y.length : Int) != 0)
  | .byt y => y.size ≤ sizeLine ∧ k = ((y.size : Int) != 0)
  | .ref p => (∃ xs, SqL K H p xs ∧ k = !xs.isEmpty) ∨ (∃ xs, SqT K H p xs ∧ k = !xs.isEmpty) ∨ ∃ kvs, H p = some (.dK kvs) ∧ k = !kvs.isEmpty
  | _ => False
theorem isEmpty_kv {κ : Type} {kvs : List (κ × V)} {vs : List (κ × Value)} (r : KV kvs vs) : (!vs.isEmpty) = !kvs.isEmpty := by
  cases r <;> rfl
theorem isEmpty_of {xs : List V} {its : List Value} (r : Vals xs its) : (!its.toArray.isEmpty) = !xs.isEmpty := by
  cases r <;> simp
theorem line63 : (sizeLine : Nat) < 2 ^ 63 := by rw [sizeLine_eq]; decide
theorem tru_ok : TruR X (fun x H Q => ∃ k, TruV X.K x H k ∧ Q k H) := by
  intro pins s σ H x v Q I rx h
  obtain ⟨k, e, q⟩ := h
  have hl := line63
  have hs : sizeLine = 16777216 := sizeLine_eq
  cases x with
  | non =>
    cases rx
    have e' : k = false := e
    subst e'
    exact truthy_none ⟨H, I, q⟩
  | bl b =>
    cases rx
    have e' : k = b := e
    subst e'
    exact wpAny_truthy_bool ⟨H, I, q⟩
  | int i =>
    obtain ⟨t, rfl⟩ := rx
    have e' : k = (i != 0) := e
    subst e'
    exact PySem.P.truthy_int ⟨H, I, q⟩
  | str y =>
    obtain ⟨t, rfl⟩ := rx
    obtain ⟨hy, e'⟩ : y.length ≤ sizeLine ∧ k = ((y.length : Int) != 0) := e
    subst e'
    exact PySem.P.truthy_str (by omega) ⟨H, I.tok _, q⟩
  | byt y =>
    obtain ⟨t, rfl⟩ := rx
    obtain ⟨hy, e'⟩ : y.size ≤ sizeLine ∧ k = ((y.size : Int) != 0) := e
    subst e'
    exact PySem.W.truthy_bytes (by omega) ⟨H, I.tok _, q⟩
  | ref p =>
    cases rx
    have e' : (∃ xs, SqL X.K H p xs ∧ k = !xs.isEmpty) ∨ (∃ xs, SqT X.K H p xs ∧ k = !xs.isEmpty) ∨ ∃ kvs, H p = some (.dK kvs) ∧ k = !kvs.isEmpty := e
    rcases e' with ⟨xs, hx, e'⟩ | ⟨xs, hx, e'⟩ | ⟨kvs, hx, e'⟩
    · subst e'
      obtain ⟨its, r, pl, hz⟩ := I.list hx
      have hlen := r.length
      exact wpAny_truthy_list pl.isList (by simp only [List.size_toArray]; omega) ⟨H, I.tok _, by rw [isEmpty_of r]; exact q⟩
    · subst e'
      obtain ⟨its, r, pl, hz⟩ := I.tuple hx
      have hlen := r.length
      exact truthy_tuple pl (by simp only [List.size_toArray]; omega) ⟨H, I.tok _, by rw [isEmpty_of r]; exact q⟩
    · subst e'
      obtain ⟨hz, hS, vs, r, m⟩ : kvs.length ≤ sizeLine ∧ (p == sysModules) = false ∧ ∃ vs, KV kvs vs ∧ s.heap.DictOf (mixKind X.prog X.w) p vs := I.hok p _ hx
      have hlen : kvs.length = vs.length := Paired.length r
      exact wpAny_truthy_dict hS m (by omega) ⟨H, I.tok _, by rw [isEmpty_kv r]; exact q⟩
  | _ => exact (show False from e).elim
theorem pt_truth (ha : PE X a ta) (he : ∀ whole, isTrue a X.env whole = (do let v ← whole; standAt a.pos; holding [v] (truthy v))) :
    PT X a (fun σ H Q => ta σ H fun x H' => ∃ k, TruV X.K x H' k ∧ Q k H') := by
  intro pins s σ H Q I h
  exact isTrue_plain (thn (ha pins s σ H _ I h) fun v s1 ⟨x, H1, I1, r1, q1⟩ => tru_ok pins s1 σ H1 x v Q I1 r1 q1) (he _)
theorem vals1 {x : V} {us : List Value} (r : Vals [x] us) : ∃ u, us = [u] ∧ RelV x u := by
  cases r with
  | cons r1 r2 => cases r2; exact ⟨_, rfl, r1⟩
theorem vals2 {x y : V} {us : List Value} (r : Vals [x, y] us) : ∃ u w', us = [u, w'] ∧ RelV x u ∧ RelV y w' := by
  cases r with
  | cons r1 r2 =>
    cases r2 with
    | cons r3 r4 => cases r4; exact ⟨_, _, rfl, r1, r3⟩
theorem call_abs : CallR X (.builtin "abs") (fun xs H Q => ∃ i, xs = [.int i] ∧ Q (.int (if i < 0 then -i else i)) H) := by
  intro pins s σ H xs us Q I r h
  obtain ⟨i, rfl, q⟩ := h
  obtain ⟨u, rfl, t, rfl⟩ := vals1 r
  exact call_abs_int fun u tk => ⟨.int (if i < 0 then -i else i), H, I.tok _, ⟨_, rfl⟩, q⟩
theorem call_max2 (hc : X.calm = true) : CallR X (.builtin "max") (fun xs H Q => ∃ i j, xs = [.int i, .int j] ∧ Q (.int (if j > i then j else i)) H) := by
  intro pins s σ H xs us Q I r h
  obtain ⟨i, j, rfl, q⟩ := h
  obtain ⟨u, w', rfl, ⟨t, rfl⟩, ⟨t', rfl⟩⟩ := vals2 r
  refine max_two_ints (I.ok.hd hc) fun h' tk k => ⟨_, H, I.kept k, ?_, q⟩
  by_cases hj : j > i
  · rw [if_pos hj, if_pos hj]; exact ⟨_, rfl⟩
  · rw [if_neg hj, if_neg hj]; exact ⟨_, rfl⟩
theorem call_min2 (hc : X.calm = true) : CallR X (.builtin "min") (fun xs H Q => ∃ i j, xs = [.int i, .int j] ∧ Q (.int (if j < i then j else i)) H) := by
  intro pins s σ H xs us Q I r h
  obtain ⟨i, j, rfl, q⟩ := h
  obtain ⟨u, w', rfl, ⟨t, rfl⟩, ⟨t', rfl⟩⟩ := vals2 r
  refine min_two_ints (I.ok.hd hc) fun h' tk k => ⟨_, H, I.kept k, ?_, q⟩
  by_cases hj : j < i
  · rw [if_pos hj, if_pos hj]; exact ⟨_, rfl⟩
  · rw [if_neg hj, if_neg hj]; exact ⟨_, rfl⟩
theorem call_int1 : CallR X (.type "int") (fun xs H Q => (∃ i, xs = [.int i] ∧ Q (.int i) H) ∨ ∃ k, xs = [.bl k] ∧ Q (.int (if k then 1 else 0)) H) := by
  intro pins s σ H xs us Q I r h
  rcases h with ⟨i, rfl, q⟩ | ⟨k, rfl, q⟩
  · obtain ⟨u, rfl, t, rfl⟩ := vals1 r
    exact call_int_int ⟨.int i, H, I, ⟨_, rfl⟩, q⟩
  · obtain ⟨u, rfl, r1⟩ := vals1 r
    cases r1
    exact call_int_bool ⟨.int (if k then 1 else 0), H, I.tok _, ⟨_, rfl⟩, q⟩
end
end L2
namespace L2
open PySem PySem.Spec PyProof.Rows
structure ObjM (h : Heap) (x dx C : Addr) (mA : Str → Option Value) : Prop where
  obj : h.get? x = some (PySem.W.instObj C dx)
  ns : h.Ns1 dx mA
  ne : dx ≠ x
theorem lookIn_ns {h : Heap} {dx : Addr} {mA : Str → Option Value} (n : h.Ns1 dx mA) : ∃ od, h.get? dx = some od ∧ ∀ name, PySem.W.lookIn name od = some (mA name) := by
  obtain ⟨o, es, ep, ho, hd, hk, _, hm⟩ := n
  refine ⟨o, ho, fun name => ?_⟩
  have e := hm name
  unfold nsFind findBy at e
  rw [← Array.find?_toList] at e
  unfold PySem.W.lookIn
  rw [hd]
  dsimp only
  split
  · rename_i y q
    rw [q] at e
    exact congrArg some e
  · rename_i q
    rw [q] at e
    have a : es.toList.any (·.refKey) = false := by
      rw [List.any_eq_false]
      intro y hy
      obtain ⟨z, t, hkey⟩ := hk y (Array.mem_toList_iff.mp hy)
      simp [DictEntry.refKey, hkey]
    have a' : ¬ es.toList.any (·.refKey) = true := by rw [a]; exact Bool.false_ne_true
    rw [if_neg a']
    exact congrArg some e
theorem ObjM.look {h : Heap} {x dx C : Addr} {mA : Str → Option Value} (I : ObjM h x dx C mA) : ∃ od, PySem.W.InstAt h x (PySem.W.instObj C dx) C (some od) ∧ ∀ name, PySem.W.lookIn name od = some (mA name) :=
  let ⟨od, ho, hl⟩ := lookIn_ns I.ns
  ⟨od, ⟨I.obj, rfl, rfl, ho⟩, hl⟩
section
variable {prog : Program} {w : World} {A : Around} {E : Value → Shared → Prop} {s : Shared} {K : PySem.W.Frag} {x dx C f : Addr} {mA : Str → Option Value} {name : Str} {v : Value}
end
section
variable {P : Program} {w : World} {H H' : Hp} {h h' : Heap} {a C dx : Addr} {fs fs' : List (Str × V)}
theorem ins_get (hok : HOk P w H h) (e : H a = some (.ins C dx fs)) : ∃ mA, ObjM h a dx C mA ∧ (∀ f, RelO (fs.lookup f) (mA f)) ∧ PySem.Within mA (fs.map (·.1)) ∧ fs.length ≤ 1000 ∧ H dx = some (.own a) := by
  obtain ⟨d, z, ne, ob, mA, n, r, q⟩ := (show ObjOk P w H h a (.ins C dx fs) from hok a _ e)
  exact ⟨mA, ⟨ob, n, ne⟩, r, q, z, d⟩
end
structure Cls (K : PySem.W.Frag) (C : Addr) : Prop where
  pg : PySem.W.plainGet K C Str.empty = true
  hd : PySem.W.hasDictIn K C = true
  po : PySem.W.plainOver K C = true
  sa : PySem.W.findIn K (.ref C) "__setattr__" = some (some (.builtin "object.__setattr__"))
theorem Cls.get {K : PySem.W.Frag} {C : Addr} (c : Cls K C) (f : Str) : PySem.W.plainGet K C f = true := c.pg
section
variable {X : Cx} {pins : List (Addr × Obj)} {σ : St} {H : Hp} {s : Shared} {a C dx : Addr} {fs : List (Str × V)} {f : Str} {v : V} {A : Around} {E : Value → Shared → Prop}
end
section
variable {X : Cx} {o e value : Expr} {f : Str} {pos pos' tpos : Pos} {ta tv : TE}
end
section
variable {X : Cx} {pins : List (Addr × Obj)} {σ : St} {H : Hp} {s : Shared} {A : Around} {E : Value → Shared → Prop} {Q : Value → Shared → Prop} {c : Value} {b : Bool}
inductive TyOf (K : PySem.W.Frag) (H : Hp) : V → Value → Prop where
  | non : TyOf K H .non (.type "NoneType")
  | bl (x : Bool) : TyOf K H (.bl x) (.type "bool")
  | int (i : Int) : TyOf K H (.int i) (.type "int")
  | str (x : Str) : TyOf K H (.str x) (.type "str")
  | flt (x : UInt64) : TyOf K H (.flt x) (.type "float")
  | lst {a : Addr} {xs : List V} (e : H a = some (.lst xs)) : TyOf K H (.ref a) (.type "list")
  | frz {a : Addr} {o : Obj} {xs : List V} (e : H a = some (.frz o (.lst xs))) : TyOf K H (.ref a) (.type "list")
  | tup {a : Addr} {xs : List V} (e : H a = some (.tup xs)) : TyOf K H (.ref a) (.type "tuple")
  | dK {a : Addr} {kvs : List (Key × V)} (e : H a = some (.dK kvs)) : TyOf K H (.ref a) (.type "dict")
  | dT {a : Addr} {kvs : List (List Key × V)} (e : H a = some (.dT kvs)) : TyOf K H (.ref a) (.type "dict")
  | ins {a C dx : Addr} {fs : List (Str × V)} (e : H a = some (.ins C dx fs)) (cl : Cls K C) (ha : PySem.W.findIn K (.ref C) "__class__" = some (some (.builtin "object.__class__")))
      (hn : PySem.W.specialIn K (.builtin "object.__class__") "__get__" = some (some (.builtin "getset_descriptor.__get__"))) (htk : PySem.W.takesIn K (.builtin "object.__class__") = some true)
      (hm : PySem.W.mroIn K C (.type "object") = some true) : TyOf K H (.ref a) (.ref C)
theorem isinst_ok {x : V} {u t : Value} (I : Inv X pins σ H s) (rx : RelV x u) (ty : TyOf X.K H x t) (e : PySem.W.kitOne X.K t c = some b) (h : ∀ tk, Q (.bool b) { s with toks := tk }) :
    wpAny (model X.prog X.w) A (call (.builtin "isinstance") [u, c]) Q E s := by
  cases ty with
  | non => cases (show u = Value.none from rx); exact PySem.W.kia_one PySem.W.kitx_none I.kIn True.intro e (fun z => nomatch z) h
  | bl y => cases (show u = Value.bool y from rx); exact PySem.W.kia_one PySem.W.kitx_bool I.kIn True.intro e (fun z => nomatch z) h
  | int i => obtain ⟨t, q⟩ := (show ∃ t, u = Value.int i t from rx); cases q; exact PySem.W.kia_one PySem.W.kitx_int I.kIn True.intro e (fun z => nomatch z) h
  | str y => obtain ⟨t, q⟩ := (show ∃ t, u = Value.str y t from rx); cases q; exact PySem.W.kia_one PySem.W.kitx_str I.kIn True.intro e (fun z => nomatch z) h
  | flt y => obtain ⟨t, q⟩ := (show ∃ t, u = Value.float y t from rx); cases q; exact PySem.W.kia_one PySem.W.kitx_float I.kIn True.intro e (fun z => nomatch z) h
  | @lst a xs ea =>
    cases (show u = Value.ref a from rx)
    obtain ⟨_, _, n, _, h1⟩ := (show ObjOk X.prog X.w H s.heap a (.lst xs) from I.hok a _ ea)
    exact PySem.W.kia_one PySem.W.kitx_list I.kIn ⟨_, h1, rfl⟩ e (fun z => nomatch z) h
  | @frz a ob xs ea =>
    cases (show u = Value.ref a from rx)
    obtain ⟨_, _, _, n, _, h1⟩ := (show ObjOk X.prog X.w H s.heap a (.frz ob (.lst xs)) from I.hok a _ ea)
    exact PySem.W.kia_one PySem.W.kitx_list I.kIn ⟨_, h1, rfl⟩ e (fun z => nomatch z) h
  | @tup a xs ea =>
    cases (show u = Value.ref a from rx)
    obtain ⟨_, _, _, p⟩ := (show ObjOk X.prog X.w H s.heap a (.tup xs) from I.hok a _ ea)
    obtain ⟨o, h1, h2, _⟩ := p
    exact PySem.W.kia_one PySem.W.kitx_tuple I.kIn ⟨o, h1, h2⟩ e (fun z => nomatch z) h
  | @dK a kvs ea =>
    cases (show u = Value.ref a from rx)
    obtain ⟨_, _, vs, _, p⟩ := (show ObjOk X.prog X.w H s.heap a (.dK kvs) from I.hok a _ ea)
    obtain ⟨o, es, ep, h1, h2, _⟩ := p
    exact PySem.W.kia_one PySem.W.kitx_dict I.kIn ⟨o, h1, h2.1⟩ e (fun z => nomatch z) h
  | @dT a kvs ea =>
    cases (show u = Value.ref a from rx)
    obtain ⟨_, _, xs, _, o, es, ep, h1, h2, _⟩ := (show ObjOk X.prog X.w H s.heap a (.dT kvs) from I.hok a _ ea)
    exact PySem.W.kia_one PySem.W.kitx_dict I.kIn ⟨o, h1, h2.1⟩ e (fun z => nomatch z) h
  | @ins a C dx fs ea cl ha hn htk hm =>
    cases (show u = Value.ref a from rx)
    obtain ⟨mA, O, _⟩ := ins_get I.hok ea
    obtain ⟨od, J, _⟩ := O.look
    exact PySem.W.kia_one (PySem.W.kitx_own (cl.get _) cl.hd ha hn htk hm) I.kIn J e (fun z => nomatch z) h
end
end L2
namespace L2
open PySem PySem.Spec PyProof.Rows
structure Room (k : Nat) (A : Around) : Prop where
  hd : A.handled = none
  dp : A.depth + 3 * k + 5 < recursionLimit
  un : A.units + 16 * k + 200 < cLine
theorem Room.mono {j k : Nat} {A : Around} (r : Room k A) (h : j ≤ k) : Room j A := ⟨r.hd, by have := r.dp; omega, by have := r.un; omega⟩
theorem Room.deeper {k : Nat} {A : Around} (r : Room (k + 1) A) (env : Env) : Room k (A.deeper env) :=
  ⟨r.hd, by have := r.dp; show A.depth + 1 + 3 * k + 5 < _; omega, by have := r.un; show A.units + 3 + 16 * k + 200 < _; omega⟩
theorem Room.depth {k : Nat} {A : Around} (r : Room k A) : A.depth < recursionLimit := by have := r.dp; omega
theorem Room.units {k : Nat} {A : Around} (r : Room k A) : A.units + 64 < cLine := by have := r.un; omega
def tNil : TA := fun _ H Q => Q [] H
def tCons (ta : TE) (tr : TA) : TA := fun σ H Q => ta σ H fun x H1 => tr σ H1 fun xs H2 => Q (x :: xs) H2
section
variable {X : Cx} {e : Expr} {es : List Expr} {te : TE} {t : TA} {pos : Pos}
theorem pa_nil : PA X [] tNil := fun _ _ _ _ H Q I h => Calls.spliced_nil ⟨[], H, I, .nil, h⟩
theorem pa_cons (ha : PE X e te) (hr : PA X es t) (hs : starEach (e :: es) X.env = (false, eval e X.env) :: starEach es X.env := by rfl) : PA X (e :: es) (tCons te t) := by
  intro pos pins s σ H Q I h
  rw [hs]
  show wpAny _ _ (spliced ((false, eval e X.env) :: backTo pos (starEach es X.env))) _ _ s
  refine Calls.spliced_cons (thn (ha pins s σ H _ I h) fun u s1 ⟨x, H1, I1, r1, q1⟩ => ?_)
  exact thn (hr pos pins s1 σ H1 _ I1 q1) fun us s2 ⟨xs, H2, I2, r2, q2⟩ => ⟨x :: xs, H2, I2, .cons r1 r2, q2⟩
def tTup (t : TA) : TE := fun σ H Q => t σ H fun xs H1 => xs.length ≤ sizeLine ∧ ∀ p, H1 p = none → Q (.ref p) (upd H1 p (.tup xs))
def tLst (t : TA) : TE := fun σ H Q => t σ H fun xs H1 => xs.length ≤ sizeLine ∧ ∀ p, H1 p = none → Q (.ref p) (upd H1 p (.lst xs))
theorem pe_tup {x1} (h : PA X es t) : PE X (.Tuple es x1 pos) (tTup t) := by
  intro pins s σ H Q I hq
  refine wpAny_Tuple_spliced (thn (h pos pins s σ H _ I hq) fun us s1 ⟨xs, H1, I1, r, z, q⟩ => ⟨by rw [← r.length]; exact z, ?_⟩)
  have hf : H1 s1.heap.objs.size = none := I1.hok.fresh (Nat.le_refl _)
  refine ⟨.ref s1.heap.objs.size, upd H1 s1.heap.objs.size (.tup xs), I1.laid (t' := s1.toks) (fun b u e => Heap.get?_push_of_some _ e) (Nat.le_refl _) ?_, rfl, q _ hf⟩
  exact ⟨z, us, r, ⟨_, Heap.get?_push_size _ rfl, rfl, _, rfl⟩⟩
theorem pe_lst (h : PA X es t) : PE X (.List es pos) (tLst t) := by
  intro pins s σ H Q I hq
  refine wpAny_List_spliced (thn (h pos pins s σ H _ I hq) fun us s1 ⟨xs, H1, I1, r, z, q⟩ => ⟨by rw [← r.length]; exact z, ?_⟩)
  have hf : H1 s1.heap.objs.size = none := I1.hok.fresh (Nat.le_refl _)
  refine ⟨.ref s1.heap.objs.size, upd H1 s1.heap.objs.size (.lst xs), I1.laid (t' := s1.toks) (fun b u e => Heap.get?_push_of_some _ e) (Nat.le_refl _) ?_, rfl, q _ hf⟩
  exact ⟨z, us, 0, r, Heap.get?_push_size _ rfl⟩
end
abbrev Sp := List V → Hp → VK → XK → Prop
abbrev CXT := List Env → Hp → Shared → XK → Value → Shared → Prop
structure Env0 (P : Program) (w : World) (K : PySem.W.Frag) (mg : Str → Option Value) (base : Heap) (A : Around) (outer : List Env) (s : Shared) (H : Hp) : Prop where
  frames : A.frames = some outer
  mod : Mod K mg base
  bs : ∀ b o, base.get? b = some o → s.heap.get? b = some o ∧ H b = none
  bsz : base.objs.size ≤ s.heap.objs.size
  funs : s.heap.FunFrames base outer
  frf : ∀ b ∈ frs outer, H b = none
  hok : HOk P w H s.heap
  bare : AllBare s.gens
def CE (outer : List Env) (P : Program) (w : World) (H : Hp) (s : Shared) (Q : VK) (u : Value) (s' : Shared) : Prop :=
  ∃ v H', s'.os = s.os ∧ AllBare s'.gens ∧ Un (frs outer) [] H H' s.heap s'.heap ∧ HOk P w H' s'.heap ∧ RelV v u ∧ Q v H'
def CR (CX : CXT) (outer : List Env) (P : Program) (w : World) (H : Hp) (s : Shared) (Q : VK) (E : XK) (r : Result) (s' : Shared) : Prop :=
  match r with
  | .ok (.ret u) => CE outer P w H s Q u s'
  | .ok _ => False
  | .error e => CX outer H s E e s'
structure FnOk (P : Program) (w : World) (K : PySem.W.Frag) (mg : Str → Option Value) (base : Heap) (CX : CXT) (k : Nat) (f : Addr) (fd : FuncData) (ps : List Str) (sp : Sp) : Prop where
  len : ∀ vs H Q E, sp vs H Q E → vs.length = ps.length
  run : ∀ (A : Around) (outer : List Env) (s : Shared) (H : Hp) (args : Args) (us : List Value) (vs : List V) (Q : VK) (E : XK), Room k A → Env0 P w K mg base A outer s H → BindsTo s fd args (ps.zip us) → Vals vs us → sp vs H Q E →
    codeAny (model P w) A (.call (.ref f) args) (CR CX outer P w H s Q E) s
section
variable {X : Cx} {pins : List (Addr × Obj)} {σ : St} {H : Hp} {s s' : Shared}
theorem Inv.env0 (I : Inv X pins σ H s) : Env0 X.prog X.w X.K X.mg X.base X.A X.stack s H :=
  ⟨I.ok.frames, I.ok.mod, I.bs, Nat.le_trans I.ok.bsz I.sz, I.stack, I.stkFree, I.hok, I.bare⟩
theorem Inv.after {Q : VK} {u : Value} (I : Inv X pins σ H s) (h : CE X.stack X.prog X.w H s Q u s') : EP X pins σ Q u s' := by
  obtain ⟨v, H', os, bare, un, hok, r, q⟩ := h
  obtain ⟨hh, g, d, t, os'⟩ := s'
  obtain rfl : os' = s.os := os
  exact ⟨v, H', I.call (h' := hh) (g' := g) (d' := d) (t' := t) (ch := []) un hok bare (fun b z => absurd z (by simp)), r, q⟩
end
def tCall (sp : Sp) (dvs : List V) (E : XK) (t : TA) : TE := fun σ H Q => t σ H fun vs H1 => sp (vs ++ dvs) H1 Q E
def Binds (K : PySem.W.Frag) (fd : FuncData) (ps : List Str) (ds : List Value) : Prop :=
  ∀ (s : Shared) (us : List Value), K.In s.heap → (us ++ ds).length = ps.length → BindsTo s fd ⟨us, []⟩ (ps.zip (us ++ ds))
theorem Binds.all {K : PySem.W.Frag} {fd : FuncData} {ps : List Str} (h : ∀ us : List Value, us.length = ps.length → bindArgs fd ⟨us, []⟩ = pure (ps.zip us)) : Binds K fd ps [] := fun s us _ hl => by
  rw [List.append_nil] at hl ⊢
  exact .of_eq (h us hl)
def Passes (CX : CXT) (X : Cx) (E : XK) : Prop := ∀ (pins : List (Addr × Obj)) (σ : St) (H : Hp) (s : Shared) (e : Value) (s' : Shared), Inv X pins σ H s → CX X.stack H s E e s' → X.xe e s'
section
variable {X : Cx} {CX : CXT} {k : Nat} {f C : Addr} {fd : FuncData} {ps : List Str} {sp : Sp} {dvs : List V} {ds : List Value} {E : XK} {x m : Str} {p pos apos : Pos} {e o : Expr} {es : List Expr} {ta : TE} {t : TA}
theorem run_fn {pins : List (Addr × Obj)} {σ : St} {H : Hp} {s : Shared} {Q : VK} {us : List Value} {vs : List V} (F : FnOk X.prog X.w X.K X.mg X.base CX k f fd ps sp) (hr : Room k X.A) (hb : Binds X.K fd ps ds) (hd : Vals dvs ds) (hx : Passes CX X E)
    (I : Inv X pins σ H s) (r : Vals vs us) (h : sp (vs ++ dvs) H Q E) : wpAny (model X.prog X.w) X.A (call (.ref f) us) (EP X pins σ Q) X.xe s := by
  have r2 : Vals (vs ++ dvs) (us ++ ds) := r.append hd
  have hl : (us ++ ds).length = ps.length := by rw [← r2.length]; exact F.len _ _ _ _ h
  refine wpAny_call (codeAny_mono (F.run X.A X.stack s H ⟨us, []⟩ (us ++ ds) (vs ++ dvs) Q E hr I.env0 (hb s us I.kIn hl) r2 h) fun r s' hq => ?_)
  cases r with
  | error e => exact hx pins σ H s e s' I hq
  | ok fl =>
    cases fl with
    | ret u => exact I.after hq
    | next => exact False.elim hq
    | brk => exact False.elim hq
    | cont => exact False.elim hq
theorem pe_call (F : FnOk X.prog X.w X.K X.mg X.base CX k f fd ps sp) (hr : Room k X.A) (hg : Gl X x) (hm : X.mg x = some (.ref f)) (hk : PySem.W.keepIn X.K (.ref f) = true) (hb : Binds X.K fd ps ds) (hd : Vals dvs ds) (hx : Passes CX X E)
    (ha : PA X (e :: es) t) (hdb : (x == ("__debug__" : Str)) = false := by decide) (he : starEach (e :: es) X.env = (false, eval e X.env) :: starEach es X.env := by rfl) (hpl : (backTo pos (starEach es X.env)).any (·.1) = false := by rfl) :
    PE X (.Call (.Name x p) (e :: es) [] pos) (tCall sp dvs E t) := by
  intro pins s σ H Q I h
  refine wpAny_Call_Name_kw (ld_glob I hg hm ?_ hdb)
  refine PySem.W.callWith_K (h₀ := X.base) I.ok.mod.kin hk (thn (ha pos pins s σ H _ I h) fun us s1 ⟨vs, H1, I1, r, q⟩ => ⟨I1.kIn, ?_⟩) he hpl
  exact run_fn F hr hb hd hx I1 r q
end
section
variable {X : Cx} {CX : CXT} {k : Nat} {f C : Addr} {fd : FuncData} {ps ks : List Str} {sp : Sp} {E : XK} {x m : Str} {p pos apos kpos : Pos} {e o : Expr} {es : List Expr} {kws : List Keyword} {te ta : TE} {t tk : TA} {nm : Option Str}
variable {g : List Value → List Value → List Value} {gV : List V → List V → List V}
end
structure FnScope (N P : List Str) (sc : Scope) : Prop where
  kind : sc.kind = .function
  co : sc.isCoroutine = false
  gen : sc.isGenerator = false
  nd : N.Nodup
  pre : N.take P.length = P
  par : ∀ x ∈ P, sc.names.lookup x = some .local ∨ sc.names.lookup x = some .cell
  nofree : ∀ y ∈ sc.names, y.2 ≠ .free
theorem bindL_out {kindOf : Str → Option NameKind} {x : Str} : ∀ {binds : List (Str × Value)} {m : Str → Option Value}, (∀ v, (x, v) ∉ binds) → bindL kindOf binds m x = m x
  | [], _, _ => rfl
  | (n, v) :: r, m, h => by
    unfold bindL
    rw [bindL_out fun w hw => h w (List.mem_cons_of_mem _ hw)]
    split
    · have : x ≠ n := by rintro rfl; exact h v List.mem_cons_self
      simp [this]
    · rfl
theorem bindC_out {kindOf : Str → Option NameKind} {x : Str} : ∀ {binds : List (Str × Value)} {m : Str → Option Value}, (∀ v, (x, v) ∉ binds) → bindC kindOf binds m x = m x
  | [], _, _ => rfl
  | (n, v) :: r, m, h => by
    unfold bindC
    rw [bindC_out fun w hw => h w (List.mem_cons_of_mem _ hw)]
    split
    · rfl
    · have : x ≠ n := by rintro rfl; exact h v List.mem_cons_self
      simp [this]
theorem bindL_get {kindOf : Str → Option NameKind} {x : Str} {v : Value} : ∀ {P : List Str} {vs : List Value} {i : Nat} {m : Str → Option Value}, P.Nodup → P[i]? = some x → vs[i]? = some v → kindOf x = some .local →
    bindL kindOf (P.zip vs) m x = some v
  | [], _, _, _, _, h, _, _ => by simp at h
  | _ :: _, [], _, _, _, _, h, _ => by simp at h
  | p :: P, w :: vs, 0, m, nd, h1, h2, hk => by
    simp at h1 h2; subst h1; subst h2
    show bindL kindOf ((p, w) :: P.zip vs) m p = _
    unfold bindL
    rw [bindL_out fun v hv => (List.nodup_cons.mp nd).1 (List.of_mem_zip hv).1, if_pos hk]
    simp
  | p :: P, w :: vs, i + 1, m, nd, h1, h2, hk => by
    show bindL kindOf ((p, w) :: P.zip vs) m x = _
    unfold bindL
    exact bindL_get (i := i) (List.nodup_cons.mp nd).2 (by simpa using h1) (by simpa using h2) hk
theorem bindC_get {kindOf : Str → Option NameKind} {x : Str} {v : Value} : ∀ {P : List Str} {vs : List Value} {i : Nat} {m : Str → Option Value}, P.Nodup → P[i]? = some x → vs[i]? = some v → kindOf x ≠ some .local →
    bindC kindOf (P.zip vs) m x = some v
  | [], _, _, _, _, h, _, _ => by simp at h
  | _ :: _, [], _, _, _, _, h, _ => by simp at h
  | p :: P, w :: vs, 0, m, nd, h1, h2, hk => by
    simp at h1 h2; subst h1; subst h2
    show bindC kindOf ((p, w) :: P.zip vs) m p = _
    unfold bindC
    rw [bindC_out fun v hv => (List.nodup_cons.mp nd).1 (List.of_mem_zip hv).1, if_neg hk]
    simp
  | p :: P, w :: vs, i + 1, m, nd, h1, h2, hk => by
    show bindC kindOf ((p, w) :: P.zip vs) m x = _
    unfold bindC
    exact bindC_get (i := i) (List.nodup_cons.mp nd).2 (by simpa using h1) (by simpa using h2) hk
def start (N : List Str) (vs : List V) : St := vs.map some ++ List.replicate (N.length - vs.length) none
def cxOf (CX : CXT) (P : Program) (w : World) (K : PySem.W.Frag) (mg : Str → Option Value) (base : Heap) (N : List Str) (qual : Str) (scope : Scope) (f : Addr) (cd : Value) (A : Around) (outer : List Env) (s : Shared) (H : Hp) (E : XK) : Cx where
  prog := P
  w := w
  K := K
  mg := mg
  base := base
  A := A.deeper (envOfC qual scope s.heap.objs.size f cd)
  N := N
  s₀ := s
  H₀ := H
  env := envOfC qual scope s.heap.objs.size f cd
  outer := outer
  stack := envOfC qual scope s.heap.objs.size f cd :: outer
  ex := []
  calm := true
  fn := fun _ => true
  pn := []
  xe := fun e s' => wpAny (model P w) (A.deeper (envOfC qual scope s.heap.objs.size f cd)) (leaving (envOfC qual scope s.heap.objs.size f cd) e) (fun _ s'' => CX outer H s E e s'') (fun e' s'' => CX outer H s E e' s'') s'
theorem cell_has {sc : Scope} {n : Nat} {x : Str} (h : sc.names.lookup x = some .cell) : ∃ c, (cellsFrom n sc.names []).lookup x = some c := by
  have q := PySem.W.cellsFrom_some sc.names n [] (.inl h)
  exact Option.isSome_iff_exists.mp q
theorem inv_start {CX : CXT} {P : Program} {w : World} {K : PySem.W.Frag} {mg : Str → Option Value} {base : Heap} {N ps : List Str} {qual : Str} {scope : Scope} {f : Addr} {cd : Value} {A : Around} {outer : List Env} {s s1 : Shared} {H : Hp} {E : XK} {us : List Value} {vs : List V}
    (S : FnScope N ps scope) (hd : A.handled = none) (e0 : Env0 P w K mg base A outer s H) (hl : vs.length = ps.length) (r : Vals vs us)
    (x : InCallC s s.heap.objs.size (bindL (envOfC qual scope s.heap.objs.size f cd).kindOf (ps.zip us) fun _ => none) (cellsFrom (s.heap.objs.size + 1) scope.names []) (bindC (envOfC qual scope s.heap.objs.size f cd).kindOf (ps.zip us) fun _ => none) s1) :
    Inv (cxOf CX P w K mg base N qual scope f cd A outer s H E) [] (start N vs) H s1 := by
  have hpl : ps.length ≤ N.length := by have := congrArg List.length S.pre; rw [List.length_take] at this; omega
  obtain ⟨h1, tk, rfl, hk⟩ := x.done
  have noA : ∀ b : Addr, b ∉ (cxOf CX P w K mg base N qual scope f cd A outer s H E).ex := fun b z => absurd (show b ∈ ([] : List Addr) from z) (by simp)
  refine ⟨⟨e0.mod, S.kind, rfl, rfl, Nat.le_refl _, fun y z c h1 h2 => ?_, fun y hy => ?_, fun y c _ h => ?_, fun _ => hd, Around.frames_deeper e0.frames, .inr ⟨rfl, rfl⟩, fun b z => absurd z (noA b), e0.bs, e0.bsz, fun b _ _ => noA b, fun b z => absurd z (noA b), e0.funs, e0.frf⟩,
    rfl, e0.bare, Un.kept hk, ⟨_, x.toInCall.ns, fun i y v h1 h2 h3 => ?_⟩, fun y c h => ⟨_, x.cell y c h⟩, e0.hok.fresh (Nat.le_refl _), fun y c h => ?_, fun p hp => absurd (show p ∈ ([] : List (Addr × Obj)) from hp) (by simp), e0.hok.kept hk, ?_⟩
  · exact name_of_addr x.apart (PySem.mem_of_lookup h1) (PySem.mem_of_lookup h2)
  · have hy : scope.names.lookup y = some .cell ∨ scope.names.lookup y = some .free := hy
    rcases hy with hy | hy
    · exact cell_has hy
    · exact absurd rfl (S.nofree _ (PySem.mem_of_lookup hy))
  · exact Nat.le_of_lt (x.above y c (PySem.mem_of_lookup h))
  · have hi : i < vs.length := by
      unfold start at h2
      by_cases hi : i < vs.length
      · exact hi
      · rw [List.getElem?_append_right (by simpa using hi)] at h2
        rw [List.getElem?_replicate] at h2
        split at h2 <;> cases h2
    have ha : vs[i]? = some v := by
      unfold start at h2
      rw [List.getElem?_append_left (by simpa using hi), List.getElem?_map] at h2
      cases e : vs[i]? with
      | none => rw [e] at h2; cases h2
      | some a => rw [e] at h2; cases h2; rfl
    obtain ⟨u, hu, rv⟩ := r.get ha
    have hp : ps[i]? = some y := by
      rw [← S.pre, List.getElem?_take_of_lt (by omega)]; exact h1
    have ndP : ps.Nodup := by rw [← S.pre]; exact S.nd.sublist (List.take_sublist _ _)
    refine ⟨u, rv, ?_⟩
    rcases S.par y (List.mem_of_getElem? hp) with k | k
    · exact .inl ⟨k, bindL_get ndP hp hu k⟩
    · obtain ⟨c, e⟩ := cell_has (n := s.heap.objs.size + 1) k
      refine .inr ⟨.inl k, c, e, ?_⟩
      have q := x.cell y c e
      rw [bindC_get ndP hp hu (by show scope.names.lookup y ≠ _; rw [k]; decide)] at q
      exact q
  · exact e0.hok.fresh (Nat.le_of_lt (x.above y c (PySem.mem_of_lookup h)))
  · unfold start
    show _ = N.length
    rw [List.length_append, List.length_map, List.length_replicate]
    omega
theorem fn_of {CX : CXT} {P : Program} {w : World} {K : PySem.W.Frag} {mg : Str → Option Value} {base : Heap} {k : Nat} {f : Addr} {name qual : Str} {params : Arguments} {body : List Stmt} {scope : Scope} {dV kV doc pm cdv ct oc : Value} {an od : Option Addr}
    {osl : Array (Option Value)} {N ps : List Str} {sp : Sp} (lk : K.lookup f = some ⟨oc, od, .func (PySem.W.fnOf name qual params body scope dV kV doc pm an cdv ct), osl⟩) (hcd : PySem.W.codeIn K cdv qual = true) (S : FnScope N ps scope)
    (len : ∀ vs H Q E, sp vs H Q E → vs.length = ps.length)
    (hbody : ∀ (A : Around) (outer : List Env) (s : Shared) (H : Hp) (vs : List V) (Q : VK) (E : XK), Room k (A.deeper (envOfC qual scope s.heap.objs.size f cdv)) → sp vs H Q E →
      ∃ t, PSs (cxOf CX P w K mg base N qual scope f cdv A outer s H E) body t ∧ t { nx := fun _ H' => Q .non H', rt := Q } (start N vs) H) :
    FnOk P w K mg base CX (k + 1) f (PySem.W.fnOf name qual params body scope dV kV doc pm an cdv ct) ps sp := by
  refine ⟨len, fun A outer s H args us vs Q E hr e0 hb r hsp => ?_⟩
  have hl := len _ _ _ _ hsp
  have KX : K.In s.heap := e0.mod.kin.keeps fun b o e => (e0.bs b o e).1
  have lim : s.heap.NoLimit := e0.mod.nolimit.keeps fun b o e => (e0.bs b o e).1
  have hkind : ∀ y ∈ ps.zip us, scope.names.lookup y.1 = some .local ∨ (scope.names.lookup y.1 = some .cell ∧ ((cellsFrom (s.heap.objs.size + 1) scope.names []).lookup y.1).isSome = true) := fun ⟨n, v⟩ hy => by
    rcases S.par n (List.of_mem_zip hy).1 with q | q
    · exact .inl q
    · exact .inr ⟨q, PySem.W.cellsFrom_some _ _ _ (.inl q)⟩
  refine codeAny_call_function hr.depth (KX _ _ lk) rfl S.co S.gen rfl (PySem.W.codeRec_of KX hcd) (hb _ _ _ _ ?_)
  refine wpAny_newFunctionEnv_cells S.kind hkind fun env he s1 x => ?_
  subst he
  refine ⟨lim.keeps x.toInCall.keep, codeAny_func ?_⟩
  obtain ⟨t, ht, hq⟩ := hbody A outer s H vs Q E (hr.deeper _) hsp
  have I : Inv (cxOf CX P w K mg base N qual scope f cdv A outer s H E) [] (start N vs) H s1 := inv_start S hr.hd e0 hl r x
  refine wpAny_mono (ht [] s1 (start N vs) H _ I hq) (fun fl s' hs => ?_) fun e s' hs => hs
  have fin : ∀ {σ' : St} {H' : Hp} {v : V} {u : Value}, Inv (cxOf CX P w K mg base N qual scope f cdv A outer s H E) [] σ' H' s' → RelV v u → Q v H' → CE outer P w H s Q u s' :=
    fun {σ' H' v u} J rv q => ⟨v, H', J.os, J.bare, J.base, J.hok, rv, q⟩
  cases fl with
  | ret u =>
    obtain ⟨v, σ', H', J, rv, q⟩ := hs
    exact fin J rv q
  | next =>
    obtain ⟨σ', H', J, q⟩ := hs
    exact fin (v := V.non) (u := Value.none) J rfl q
  | brk =>
    obtain ⟨_, _, _, q⟩ := hs
    exact False.elim q
  | cont =>
    obtain ⟨_, _, _, q⟩ := hs
    exact False.elim q
end L2
namespace L2
open PySem PySem.Spec PyProof.Rows
section
variable {X : Cx} {x : Str} {p pos : Pos} {e : Expr} {es : List Expr} {t : TA} {id T : String} {r : List V → Hp → VK → Prop}
def tCB (r : List V → Hp → VK → Prop) (t : TA) : TE := fun σ H Q => t σ H fun vs H1 => r vs H1 Q
theorem pe_callB (hc : CallR X (.builtin id) r) (hg : Gl X x) (hm : X.mg x = none) (hv : bootBuiltins x = some (.builtin id)) (ha : PA X (e :: es) t) (hn : x ≠ "__name__" := by decide) (hdb : (x == ("__debug__" : Str)) = false := by decide)
    (he : starEach (e :: es) X.env = (false, eval e X.env) :: starEach es X.env := by rfl) (hpl : (backTo pos (starEach es X.env)).any (·.1) = false := by rfl) : PE X (.Call (.Name x p) (e :: es) [] pos) (tCB r t) := by
  intro pins s σ H Q I h
  refine wpAny_Call_Name_kw (ld_blt I hg hm hv ?_ hn hdb)
  exact PyProof.Rows.callWith_builtin1 (thn (ha pos pins s σ H _ I h) fun us s1 ⟨vs, H1, I1, r1, q1⟩ => hc pins s1 σ H1 vs us Q I1 r1 q1) he hpl
theorem pe_callTy (hc : CallR X (.type T) r) (hg : Gl X x) (hm : X.mg x = none) (hv : bootBuiltins x = some (.type T)) (ha : PA X (e :: es) t) (hn : x ≠ "__name__" := by decide) (hdb : (x == ("__debug__" : Str)) = false := by decide)
    (he : starEach (e :: es) X.env = (false, eval e X.env) :: starEach es X.env := by rfl) (hpl : (backTo pos (starEach es X.env)).any (·.1) = false := by rfl) : PE X (.Call (.Name x p) (e :: es) [] pos) (tCB r t) := by
  intro pins s σ H Q I h
  refine wpAny_Call_Name_kw (ld_blt I hg hm hv ?_ hn hdb)
  exact PyProof.Rows.callWith_type1 (thn (ha pos pins s σ H _ I h) fun us s1 ⟨vs, H1, I1, r1, q1⟩ => hc pins s1 σ H1 vs us Q I1 r1 q1) he hpl
end
end L2
namespace HT
open PySem PyProof.Rows
def lexLt : List Int → List Int → Bool
  | [], [] => false
  | [], _ :: _ => true
  | _ :: _, [] => false
  | x :: xs, y :: ys => if x = y then lexLt xs ys else decide (x < y)
section
open PySem.SeqAt
open PySem.AutoSeq1 (wpAny_loadPart')
open PySem.MeetsSeq PySem.MeetsSeq2 PySem.MeetsSeq3
end
section
variable {prog : Program} {w : World} {A : Around} {E : Value → Shared → Prop} {s : Shared}
def sIx (n d : Nat) : Option Int → Nat
  | none => d
  | some v => if v < 0 then (v + (n : Int)).toNat else min v.toNat n
theorem sIx_nat (n d k : Nat) : sIx n d (some (k : Int)) = min k n := by
  show (if (k : Int) < 0 then ((k : Int) + (n : Int)).toNat else min (k : Int).toNat n) = min k n
  rw [if_neg (by omega), Int.toNat_natCast]
end
end HT
namespace L2
open PySem PySem.Spec PyProof.Rows
abbrev TO := St → Hp → (Option Int → Hp → Prop) → Prop
def PO (X : Cx) (e : Option Expr) (t : TO) : Prop :=
  ∀ (pins : List (Addr × Obj)) (s : Shared) (σ : St) (H : Hp) (Q : Option Int → Hp → Prop), Inv X pins σ H s → t σ H Q →
    wpAny (model X.prog X.w) X.A (evalPart e X.env) (fun u s' => ∃ o H', Inv X pins σ H' s' ∧ IsPart u o ∧ Q o H') X.xe s
def tPart (t : TE) : TO := fun σ H Q => t σ H fun x H1 => ∃ i, x = .int i ∧ Q (some i) H1
section
variable {X : Cx} {e : Expr} {te : TE} {lo hi : Option Expr} {tl th : TO} {pos p2 : Pos}
theorem po_some (h : PE X e te) : PO X (some e) (tPart te) := by
  intro pins s σ H Q I hw
  rw [evalPart_some]
  refine thn (h pins s σ H _ I hw) fun u s1 ⟨x, H1, I1, r1, q1⟩ => ?_
  obtain ⟨i, rfl, q⟩ := q1
  obtain ⟨t, rfl⟩ := r1
  exact ⟨some i, H1, I1, .int i t, q⟩
def SlR (X : Cx) (r : V → Option Int → Option Int → Hp → VK → Prop) : Prop :=
  ∀ (pins : List (Addr × Obj)) (s : Shared) (σ : St) (H : Hp) (x : V) (v vl vu : Value) (lo hi : Option Int) (sl : Addr) (Q : VK), Inv X pins σ H s → RelV x v → s.heap.IsSliceOf sl vl vu .none → IsPart vl lo → IsPart vu hi → r x lo hi H Q →
    ∃ T id, typeLookup (.type T) "__getitem__" = pure (some (.builtin id)) ∧ s.TypeIs v T ∧ wpAny (model X.prog X.w) X.A (getItem v (.ref sl)) (EP X pins σ Q) X.xe s
def tSl (r : V → Option Int → Option Int → Hp → VK → Prop) (te : TE) (tl th : TO) : TE := fun σ H Q => te σ H fun x H1 => tl σ H1 fun l H2 => th σ H2 fun u H3 => r x l u H3 Q
theorem pe_slice {r : V → Option Int → Option Int → Hp → VK → Prop} (hr : SlR X r) (he : PE X e te) (hl : PO X lo tl) (hu : PO X hi th) : PE X (.Subscript e (.Slice lo hi none p2) pos) (tSl r te tl th) := by
  intro pins s σ H Q I h
  refine Subscript_ (thn (he pins s σ H _ I h) fun v s1 ⟨x, H1, I1, r1, q1⟩ => ?_)
  refine wpAny_Slice (thn (hl pins s1 σ H1 _ I1 q1) fun vl s2 ⟨l, H2, I2, pl, q2⟩ => thn (hu pins s2 σ H2 _ I2 q2) fun vu s3 ⟨u, H3, I3, pu, q3⟩ => ?_)
  rw [evalPart_none]
  refine wpAny_pure ?_
  have I4 : Inv X pins σ H3 { s3 with heap := s3.heap.push { cls := .type "slice", data := .fields #[vl, vu, .none] } } := I3.kept (t' := s3.toks) fun b ob q => Heap.get?_push_of_some _ q
  obtain ⟨T, id, hT, ht, hg⟩ := hr pins { s3 with heap := s3.heap.push { cls := .type "slice", data := .fields #[vl, vu, .none] } } σ H3 x v vl vu l u s3.heap.objs.size Q I4 r1 (Heap.IsSliceOf.new ..) pl pu q3
  show wpAny (model X.prog X.w) X.A (subscriptTail e (.Slice lo hi none p2) v (.ref s3.heap.objs.size)) (EP X pins σ Q) X.xe { s3 with heap := s3.heap.push { cls := .type "slice", data := .fields #[vl, vu, .none] } }
  exact tail_any (ops := [.ref s3.heap.objs.size, v]) ht hT hg (by with_unfolding_all rfl)
def cutV (xs : List V) (lo hi : Option Int) : List V := (xs.drop (HT.sIx xs.length 0 lo)).take (HT.sIx xs.length xs.length hi - HT.sIx xs.length 0 lo)
theorem cutV_length (xs : List V) (lo hi : Option Int) : (cutV xs lo hi).length ≤ xs.length := by
  unfold cutV
  rw [List.length_take, List.length_drop]
  omega
end
end L2
namespace L2
open PySem PySem.Spec PyProof.Rows
def ixN (n : Nat) (i : Int) : Option Nat := if 0 ≤ i then (if i < n then some i.toNat else none) else if -(n : Int) ≤ i then some (i + n).toNat else none
def atI {α : Type} (xs : List α) (i : Int) : Option α := (ixN xs.length i).bind fun j => xs[j]?
theorem ixN_seq {n : Nat} {i : Int} {j : Nat} (h : ixN n i = some j) : seqIndex? i n = some j ∧ j < n ∧ -(n : Int) ≤ i ∧ i < n := by
  unfold ixN at h
  by_cases h0 : 0 ≤ i
  · rw [if_pos h0] at h
    by_cases h1 : i < n
    · rw [if_pos h1] at h
      have e : i.toNat = j := Option.some.inj h
      exact ⟨by rw [seqIndex_of h0 h1, e], by omega, by omega, h1⟩
    · rw [if_neg h1] at h; cases h
  · rw [if_neg h0] at h
    by_cases h1 : -(n : Int) ≤ i
    · rw [if_pos h1] at h
      have e : (i + n).toNat = j := Option.some.inj h
      exact ⟨by rw [seqIndex_neg (by omega) h1, e], by omega, h1, by omega⟩
    · rw [if_neg h1] at h; cases h
theorem atI_get {α : Type} {xs : List α} {i : Int} {v : α} (h : atI xs i = some v) : ∃ j, seqIndex? i xs.length = some j ∧ xs[j]? = some v ∧ j < xs.length ∧ -(xs.length : Int) ≤ i ∧ i < xs.length := by
  unfold atI at h
  cases e : ixN xs.length i with
  | none => rw [e] at h; cases h
  | some j =>
    rw [e] at h
    obtain ⟨h1, h2, h3, h4⟩ := ixN_seq e
    exact ⟨j, h1, h, h2, h3, h4⟩
theorem atI_nat {α : Type} {xs : List α} {j : Nat} {v : α} (h : xs[j]? = some v) : atI xs (j : Int) = some v := by
  have hj : j < xs.length := (List.getElem?_eq_some_iff.mp h).1
  have e : ixN xs.length (j : Int) = some j := by
    unfold ixN
    rw [if_pos (by omega), if_pos (by omega)]; simp
  unfold atI; rw [e]; exact h
def PlainIx (b : Expr) : Prop := ∀ o i, subscripted b false o i = operate [o, i] (getItem o i)
def IxR (X : Cx) (r : R2) : Prop :=
  ∀ (value slice : Expr) (pins : List (Addr × Obj)) (s : Shared) (σ : St) (H : Hp) (x y : V) (v u : Value) (Q : VK), Inv X pins σ H s → RelV x v → RelV y u → r x y H Q →
    subscripted slice false v u = operate [v, u] (getItem v u) → wpAny (model X.prog X.w) X.A (subscriptTail value slice v u) (EP X pins σ Q) X.xe s
def MtR (X : Cx) (id : String) (r : V → List V → Hp → VK → Prop) : Prop :=
  ∀ (pins : List (Addr × Obj)) (s : Shared) (σ : St) (H : Hp) (x : V) (xs : List V) (v : Value) (us : List Value) (Q : VK), Inv X pins σ H s → RelV x v → Vals xs us → r x xs H Q →
    wpAny (model X.prog X.w) X.A (call (.builtin id) (v :: us)) (EP X pins σ Q) X.xe s
section
variable {X : Cx} {a b : Expr} {ta tb : TE} {pos : Pos}
theorem pe_ix {r : R2} (hr : IxR X r) (ha : PE X a ta) (hb : PE X b tb) (hs : PlainIx b) : PE X (.Subscript a b pos) (tOp r ta tb) := by
  intro pins s σ H Q I h
  exact Subscript_ (binT ha hb I h fun v u s2 x y H2 I2 rx ry q => hr a b pins s2 σ H2 x y v u Q I2 rx ry q (hs _ _))
def rIxL (K : PySem.W.Frag) : R2 := fun x y H Q => ∃ p xs i v, x = .ref p ∧ y = .int i ∧ SqL K H p xs ∧ atI xs i = some v ∧ Q v H
def rIxT (K : PySem.W.Frag) : R2 := fun x y H Q => ∃ p xs i v, x = .ref p ∧ y = .int i ∧ SqT K H p xs ∧ atI xs i = some v ∧ Q v H
theorem ix_list : IxR X (rIxL X.K) := by
  intro value slice pins s σ H x y v u Q I rx ry h hs
  obtain ⟨p, xs, i, z, rfl, rfl, hq, he, q⟩ := h
  cases rx
  obtain ⟨t, rfl⟩ := ry
  obtain ⟨its, r, pl, hz⟩ := I.list hq
  obtain ⟨j, h1, h2, h3, h4, h5⟩ := atI_get he
  obtain ⟨w, ew, rw'⟩ := r.get h2
  have hl := r.length
  have hn := line63
  have fin : EP X pins σ Q w s := ⟨z, H, I, rw', q⟩
  by_cases h0 : 0 ≤ i
  · have hj : i.toNat = j := by
      rw [seqIndex_of h0 h5] at h1
      exact Option.some.inj h1
    exact item_listR pl.isList h0 (by omega) (by rw [hj]; simpa using ew) fin hs
  · have hj : (i + (its.toArray.size : Int)).toNat = j := by
      rw [seqIndex_neg (by omega) h4] at h1
      rw [List.size_toArray, ← hl]
      exact Option.some.inj h1
    exact subscriptTail_builtinR (x := w) pl.isList.typeIs slot_list_getitem.lookup
      (wpAny_getItem_list_neg (Q := fun r s' => r = w ∧ EP X pins σ Q r s') pl.isList (by omega) (by rw [List.size_toArray] <;> omega) (by omega) (by rw [hj]; simpa using ew) ⟨rfl, fin⟩) hs
theorem ix_tup : IxR X (rIxT X.K) := by
  intro value slice pins s σ H x y v u Q I rx ry h hs
  obtain ⟨p, xs, i, z, rfl, rfl, hq, he, q⟩ := h
  cases rx
  obtain ⟨t, rfl⟩ := ry
  obtain ⟨its, r, pl, hz⟩ := I.tuple hq
  obtain ⟨j, h1, h2, h3, h4, h5⟩ := atI_get he
  obtain ⟨w, ew, rw'⟩ := r.get h2
  have hl := r.length
  have hn := line63
  have fin : EP X pins σ Q w s := ⟨z, H, I, rw', q⟩
  exact subscriptTail_builtinR (x := w) pl.typeIs slot_tuple_getitem.lookup
    (getItem_tuple (j := j) (Q := fun r s' => r = w ∧ EP X pins σ Q r s') pl (by omega) (by omega) (by rw [List.size_toArray, ← hl]; exact h1) (by simpa using ew) ⟨rfl, fin⟩) hs
theorem slice_bounds (lo hi : Option Int) (n : Nat) : (sliceBounds lo hi none n).1 = ((HT.sIx n 0 lo : Nat) : Int) ∧ (sliceBounds lo hi none n).2.1 = ((HT.sIx n n hi : Nat) : Int) ∧ (sliceBounds lo hi none n).2.2 = 1 := by
  refine ⟨?_, ?_, rfl⟩
  · cases lo with
    | none => simp [sliceBounds, HT.sIx]
    | some i =>
      simp only [sliceBounds, HT.sIx, Option.getD_none, show (1 : Int) > 0 by decide, if_true]
      by_cases h : i < 0
      · simp only [h, if_true] <;> omega
      · simp only [h, if_false] <;> omega
  · cases hi with
    | none => simp [sliceBounds, HT.sIx]
    | some i =>
      simp only [sliceBounds, HT.sIx, Option.getD_none, show (1 : Int) > 0 by decide, if_true]
      by_cases h : i < 0
      · simp only [h, if_true] <;> omega
      · simp only [h, if_false] <;> omega
theorem slicePick_cut (its : List Value) (lo hi : Option Int) : slicePick its.toArray lo hi none = ((its.drop (HT.sIx its.length 0 lo)).take (HT.sIx its.length its.length hi - HT.sIx its.length 0 lo)).toArray := by
  obtain ⟨h1, h2, h3⟩ := slice_bounds lo hi its.toArray.size
  unfold slicePick
  rw [h1, h2, h3]
  simp only [sliceRange_one, pick_run, List.size_toArray] <;> rfl
def rSlL (K : PySem.W.Frag) : V → Option Int → Option Int → Hp → VK → Prop := fun x lo hi H Q => ∃ a xs, x = .ref a ∧ SqL K H a xs ∧ ∀ p, H p = none → Q (.ref p) (upd H p (.lst (cutV xs lo hi)))
theorem sl_list : SlR X (rSlL X.K) := by
  intro pins s σ H x v vl vu lo hi sl Q I rx hs pl pu h
  obtain ⟨a, xs, rfl, hx, q⟩ := h
  cases rx
  obtain ⟨its, r, ht, hz⟩ := I.list hx
  have hlen := r.length
  refine ⟨"list", _, slot_list_getitem.lookup, ht.isList.typeIs, ?_⟩
  refine wpAny_getItem_list_slice ht.isList hs pl pu .none (by simp) ?_ (by rw [List.size_toArray] <;> omega)
  rw [slicePick_cut, ← hlen]
  refine ⟨.ref s.heap.objs.size, _, I.laid (t' := s.toks) (o := .lst (cutV xs lo hi)) (fun b ob q => Heap.get?_push_of_some _ q) (Nat.le_refl _) ?_, rfl, q _ (I.hok.fresh (Nat.le_refl _))⟩
  exact ⟨Nat.le_trans (cutV_length xs lo hi) hz, _, 0, (r.drop (HT.sIx xs.length 0 lo)).take (HT.sIx xs.length xs.length hi - HT.sIx xs.length 0 lo), Heap.get?_push_size _ rfl⟩
theorem call_len_seq : CallR X (.builtin "len") (fun xs H Q => ∃ p ys, xs = [.ref p] ∧ (SqL X.K H p ys ∨ SqT X.K H p ys) ∧ Q (.int ys.length) H) := by
  intro pins s σ H xs us Q I r h
  obtain ⟨p, ys, rfl, hq, q⟩ := h
  obtain ⟨u, rfl, rx⟩ := vals1 r
  cases rx
  have hn := line63
  rcases hq with hq | hq
  · obtain ⟨its, r', pl, hz⟩ := I.list hq
    have hlen := r'.length
    exact Calls.call_len_list pl.isList (by simp only [List.size_toArray] <;> omega) ⟨.int ys.length, H, I.tok _, ⟨s.toks + 1, by rw [List.size_toArray, hlen]⟩, q⟩
  · obtain ⟨its, r', pl, hz⟩ := I.tuple hq
    have hlen := r'.length
    exact len_tuple pl (by simp only [List.size_toArray] <;> omega) ⟨.int ys.length, H, I.tok _, ⟨s.toks + 1, by rw [List.size_toArray, hlen]⟩, q⟩
theorem call_list_of : CallR X (.type "list") (fun xs H Q => ∃ p ys, xs = [.ref p] ∧ (SqL X.K H p ys ∨ SqT X.K H p ys) ∧ ∀ l, H l = none → Q (.ref l) (upd H l (.lst ys))) := by
  intro pins s σ H xs us Q I r h
  obtain ⟨p, ys, rfl, hq, q⟩ := h
  obtain ⟨u, rfl, rx⟩ := vals1 r
  cases rx
  have fin : ∀ (its : List Value), Vals ys its → ys.length ≤ sizeLine → ∀ (h' : Heap) (c' : Nat), (∀ b o', s.heap.get? b = some o' → h'.get? b = some o') →
      h'.get? s.heap.objs.size = some { cls := .type "list", dict := none, data := .seq its.toArray c', slots := #[] } → EP X pins σ Q (.ref s.heap.objs.size) { s with heap := h' } := fun its r' hz h' c' kp e =>
    ⟨.ref s.heap.objs.size, _, I.laid (t' := s.toks) kp (Nat.le_refl _) (show ObjOk X.prog X.w _ h' _ (.lst ys) from ⟨hz, its, c', r', e⟩), rfl, q _ (I.hok.fresh (Nat.le_refl _))⟩
  rcases hq with hq | hq
  · obtain ⟨its, r', pl, hz⟩ := I.list hq
    have hlen := r'.length
    obtain ⟨o, ho, hc, n, hd⟩ := pl.isList
    exact call_list_seq p (.inl rfl) ho hc hd (fun h' c' kp e => fin its r' hz h' c' kp e) (by simp only [List.size_toArray] <;> omega)
  · obtain ⟨its, r', pl, hz⟩ := I.tuple hq
    have hlen := r'.length
    obtain ⟨o, ho, hc, n, hd⟩ := pl
    exact call_list_seq p (.inr rfl) ho hc hd (fun h' c' kp e => fin its r' hz h' c' kp e) (by simp only [List.size_toArray] <;> omega)
def tyV (K : PySem.W.Frag) (T : String) (x : V) (H : Hp) : Prop := match x with
  | .str _ => T = "str"
  | .int _ => T = "int"
  | .ref p => (T = "list" ∧ ∃ xs, SqL K H p xs) ∨ (T = "tuple" ∧ ∃ o, K.lookup p = some o ∧ o.cls = .type "tuple" ∧ o.dict = none) ∨
      (T = "dict" ∧ ((∃ kvs, H p = some (.dK kvs)) ∨ ∃ kvs, H p = some (.dT kvs))) ∨ (T = "set" ∧ ∃ S n, H p = some (.set S n))
  | _ => False
theorem tyV_is {pins : List (Addr × Obj)} {σ : St} {H : Hp} {s : Shared} {T : String} {x : V} {v : Value} (I : Inv X pins σ H s) (r : RelV x v) (ty : tyV X.K T x H) :
    s.TypeIs v T ∧ ∀ a, v = .ref a → ∃ ob, s.heap.get? a = some ob ∧ ob.dict = none := by
  cases x with
  | str z =>
    obtain ⟨t, rfl⟩ := r
    cases (show T = "str" from ty)
    exact ⟨typeIs_str s z t, fun _ e => nomatch e⟩
  | int i =>
    obtain ⟨t, rfl⟩ := r
    cases (show T = "int" from ty)
    exact ⟨typeIs_int s i t, fun _ e => nomatch e⟩
  | ref p =>
    cases r
    rcases ty with ⟨rfl, xs, hq⟩ | ⟨rfl, o, hk, hc, hd⟩ | ⟨rfl, hk⟩ | ⟨rfl, S, n, hk⟩
    · obtain ⟨its, _, pl, _⟩ := I.list hq
      refine ⟨pl.isList.typeIs, fun a e => ?_⟩
      cases e
      obtain ⟨o, n, e, c, hd, _⟩ := pl
      exact ⟨o, e, hd⟩
    · refine ⟨⟨o, I.kIn p o hk, hc⟩, fun a e => ?_⟩
      cases e
      exact ⟨o, I.kIn _ o hk, hd⟩
    · have z : ∃ o, s.heap.get? p = some o ∧ o.ExactDict := by
        rcases hk with ⟨kvs, hk⟩ | ⟨kvs, hk⟩
        · obtain ⟨_, _, _, _, o, _, _, e, ex, _⟩ := I.hok p _ hk
          exact ⟨o, e, ex⟩
        · obtain ⟨_, _, _, _, o, _, _, e, ex, _⟩ := I.hok p _ hk
          exact ⟨o, e, ex⟩
      obtain ⟨o, e, ex⟩ := z
      refine ⟨⟨o, e, ex.1⟩, fun a e2 => ?_⟩
      cases e2
      exact ⟨o, e, ex.2.1⟩
    · obtain ⟨o, _, _, _, e, ex, _⟩ := I.hok p _ hk
      refine ⟨⟨o, e, ex.1⟩, fun a e2 => ?_⟩
      cases e2
      exact ⟨o, e, ex.2.1⟩
  | _ => exact False.elim ty
def tBM0 (K : PySem.W.Frag) (T : String) (r : V → List V → Hp → VK → Prop) (to : TE) : TE := fun σ H Q => to σ H fun x H1 => tyV K T x H1 ∧ r x [] H1 Q
def tBM (K : PySem.W.Frag) (T : String) (r : V → List V → Hp → VK → Prop) (to : TE) (t : TA) : TE := fun σ H Q => to σ H fun x H1 => tyV K T x H1 ∧ t σ H1 fun xs H2 => r x xs H2 Q
variable {o e : Expr} {es : List Expr} {to : TE} {t : TA} {name : Str} {apos cpos : Pos} {T id : String} {r : V → List V → Hp → VK → Prop}
theorem pe_bm0 (pa : PlainAttrs T) (slot : Slot T name id) (hty : typeOf (.builtin id) = pure (.type "method_descriptor")) (hm : MtR X id r) (ho : PE X o to)
    (hbase : attributeBase o name X.env (eval o X.env) = eval o X.env := by rfl) (hline : (apos.endLine == cpos.line) = true := by rfl) : PE X (.Call (.Attribute o name apos) [] [] cpos) (tBM0 X.K T r to) := by
  intro pins s σ H Q I h
  refine wpAny_Call_method0_late hbase hline (thn (ho pins s σ H _ I h) fun v s1 ⟨x, H1, I1, r1, ty, q1⟩ => ?_)
  obtain ⟨h1, h2⟩ := tyV_is I1 r1 ty
  exact ⟨T, id, pa, slot, hty, h1, h2, Calls.callWith_builtin rfl (PySem.evalArgs_none (hm pins s1 σ H1 x [] v [] Q I1 r1 .nil q1))⟩
theorem pe_bm (pa : PlainAttrs T) (slot : Slot T name id) (hty : typeOf (.builtin id) = pure (.type "method_descriptor")) (hm : MtR X id r) (ho : PE X o to) (ha : PA X (e :: es) t)
    (hbase : attributeBase o name X.env (eval o X.env) = eval o X.env := by rfl)
    (hfew : ((backTo cpos (starEach (e :: es) X.env)).all (fun x => !x.1) && (backToKw cpos (keywordEach [] X.env)).all (fun x => x.1.isSome)
      && decide ((e :: es).length + ([] : List Keyword).length + (if ([] : List Keyword).isEmpty then 0 else 1) < 30)) = true := by rfl)
    (hline : (apos.endLine == cpos.line) = true := by rfl) (hs : starEach (e :: es) X.env = (false, eval e X.env) :: starEach es X.env := by rfl) (hplain : (backTo cpos (starEach es X.env)).any (·.1) = false := by rfl) :
    PE X (.Call (.Attribute o name apos) (e :: es) [] cpos) (tBM X.K T r to t) := by
  intro pins s σ H Q I h
  refine wpAny_Call_method_late hbase hfew hline rfl (thn (ho pins s σ H _ I h) fun v s1 ⟨x, H1, I1, r1, ty, q1⟩ => ?_)
  obtain ⟨h1, h2⟩ := tyV_is I1 r1 ty
  refine ⟨T, id, pa, slot, hty, h1, h2, ?_⟩
  have hA := ha cpos pins s1 σ H1 _ I1 q1
  rw [hs] at hA ⊢
  refine Calls.callWith_builtin (by show (false || (backTo cpos (starEach es X.env)).any (·.1)) = false; rw [hplain] <;> rfl) (Calls.evalArgs_plain ?_)
  exact thn hA fun us s2 ⟨vs, H2, I2, r2, q2⟩ => hm pins s2 σ H2 x vs v us Q I2 r1 r2 q2
/- xs.append(e), list.index on a module's tuple .. are MtR facts of 06m -/
end
end L2
namespace L2
open PySem PySem.Spec PyProof.Rows
def MtM (X : Cx) (id : String) (r : V → List V → Hp → VK → Prop) : Prop :=
  ∀ (pins : List (Addr × Obj)) (s : Shared) (σ : St) (H : Hp) (x : V) (xs : List V) (v : Value) (us : List Value) (Q : VK), Inv X pins σ H s → RelV x v → Vals xs us → r x xs H Q →
    wpAny (model X.prog X.w) X.A (call (.builtin id) (v :: us)) (EP X pins σ Q) X.xe s
theorem Vals.one : ∀ {x : V} {us : List Value}, Vals [x] us → ∃ u, us = [u] ∧ RelV x u
  | _, _, .cons r .nil => ⟨_, rfl, r⟩
theorem Vals.zero : ∀ {us : List Value}, Vals [] us → us = []
  | _, .nil => rfl
theorem Vals.dropLast {xs : List V} {us : List Value} (h : Vals xs us) : Vals xs.dropLast us.dropLast := by
  induction h with
  | nil => exact .nil
  | cons r t ih =>
    cases t with
    | nil => exact .nil
    | cons q t' => exact .cons r ih
theorem erase_last {α : Type} (l : List α) : l.eraseIdx (l.length - 1) = l.dropLast := by
  induction l with
  | nil => rfl
  | cons a r ih =>
    cases r with
    | nil => rfl
    | cons b r =>
      have e : (a :: b :: r).length - 1 = ((b :: r).length - 1) + 1 := by
        have h1 : (a :: b :: r).length = r.length + 2 := rfl
        have h2 : (b :: r).length = r.length + 1 := rfl
        omega
      rw [e, List.eraseIdx_cons_succ, ih]
      all_goals rfl
section
variable {X : Cx} {pins : List (Addr × Obj)} {σ : St} {H : Hp} {s : Shared} {l b : Addr} {xs ys zs : List V}
theorem Inv.lset {its its' : List Value} {n : Nat} {f : Array Value → Array Value} {t' : Nat} (I : Inv X pins σ H s) (hH : H l = some (.lst xs))
    (e : s.heap.get? l = some { cls := .type "list", data := .seq its.toArray n }) (hf : f its.toArray = its'.toArray) (hv : Vals ys its') (hz : ys.length ≤ sizeLine) :
    Inv X pins σ (upd H l (.lst ys)) { s with heap := s.heap.update l (Obj.mapSeq f), toks := t' } := by
  have q := PySem.IsL.update e f
  rw [hf] at q
  refine I.write (x := l) (e := l) (by rw [hH]; exact trivial) (.inl rfl) (fun b' u hb hu => (Heap.get?_update_other s.heap (Obj.mapSeq f) (Ne.symm hb)).trans hu) ⟨_, q⟩ ?_
  exact ⟨hz, its', _, hv, q⟩
theorem Inv.lnew {its : List Value} {t' : Nat} (I : Inv X pins σ H s) (hv : Vals ys its) (hz : ys.length ≤ sizeLine) :
    Inv X pins σ (upd H s.heap.objs.size (.lst ys)) { s with heap := s.heap.push { cls := .type "list", data := .seq its.toArray }, toks := t' } :=
  I.laid (fun _ _ q => Heap.get?_push_of_some _ q) (Nat.le_refl _) ⟨hz, its, 0, hv, Heap.get?_push_size _ rfl⟩
theorem Inv.fresh (I : Inv X pins σ H s) : H s.heap.objs.size = none := I.hok.fresh (Nat.le_refl _)
theorem Inv.lstM (I : Inv X pins σ H s) (hH : H l = some (.lst xs)) : xs.length ≤ sizeLine ∧ ∃ (its : List Value) (n : Nat), Vals xs its ∧ xs.length = its.length ∧ s.heap.get? l = some { cls := .type "list", data := .seq its.toArray n } := by
  obtain ⟨z, its, n, r, e⟩ := I.hok l _ hH
  exact ⟨z, its, n, r, r.length, e⟩
theorem notLongL {n : Nat} (h : n ≤ sizeLine) : Builtin.List.listTooLong n = false := by
  unfold Builtin.List.listTooLong
  exact decide_eq_false (by omega)
end
section
variable {X : Cx}
def rAppend : V → List V → Hp → VK → Prop := fun x vs H Q => ∃ l xs y, x = .ref l ∧ vs = [y] ∧ H l = some (.lst xs) ∧ xs.length < sizeLine ∧ Q .non (upd H l (.lst (xs ++ [y])))
theorem mt_append : MtM X "list.append" rAppend := by
  intro pins s σ H x vs v us Q I rx rv h
  obtain ⟨l, xs, y, rfl, rfl, hH, hz, q⟩ := h
  cases rx
  obtain ⟨u, rfl, ru⟩ := rv.one
  obtain ⟨z, its, n, r, hl, e⟩ := I.lstM hH
  refine call_meets F.slot_list_append ⟨_, e, rfl⟩ F.entry_list_append (F.args_list_append_2 _ _) (PySem.list_append l its.toArray n u (by rw [List.size_toArray]; omega)) ⟨e, ?_⟩
  refine ⟨.non, _, I.lset (its' := its ++ [u]) hH e (by simp) (r.append (.cons ru .nil)) ?_, rfl, q⟩
  rw [List.length_append, List.length_singleton]
  omega
def rExtend : V → List V → Hp → VK → Prop := fun x vs H Q => ∃ l b xs zs, x = .ref l ∧ vs = [.ref b] ∧ H l = some (.lst xs) ∧ H b = some (.lst zs) ∧ xs.length + zs.length ≤ sizeLine ∧ Q .non (upd H l (.lst (xs ++ zs)))
theorem mt_extend : MtM X "list.extend" rExtend := by
  intro pins s σ H x vs v us Q I rx rv h
  obtain ⟨l, b, xs, zs, rfl, rfl, hH, hB, hz, q⟩ := h
  cases rx
  obtain ⟨u, rfl, ru⟩ := rv.one
  cases ru
  obtain ⟨z, its, n, r, hl, e⟩ := I.lstM hH
  obtain ⟨z2, its2, n2, r2, hl2, e2⟩ := I.lstM hB
  have hsz : its.toArray.size + its2.toArray.size ≤ sizeLine := by rw [List.size_toArray, List.size_toArray]; omega
  have hlong : ¬ (!its.toArray.isEmpty && Builtin.List.listTooLong (its.toArray.size + its2.toArray.size)) = true := by
    rw [notLongL hsz, Bool.and_false]
    exact Bool.false_ne_true
  refine call_meets F.slot_list_extend ⟨_, e, rfl⟩ F.entry_list_extend (F.args_list_extend_2 _ _)
    (AutoSeq1.list_extend_list_list_0 l its.toArray n b its2.toArray n2 hlong (by rw [List.size_toArray]; omega) (by omega)) ⟨e, e2, ?_⟩
  refine ⟨.non, _, I.lset (its' := its ++ its2) hH e (by simp) (r.append r2) ?_, rfl, q⟩
  rw [List.length_append]
  omega
def rPop : V → List V → Hp → VK → Prop := fun x vs H Q => ∃ l xs y, x = .ref l ∧ vs = [] ∧ H l = some (.lst xs) ∧ xs[xs.length - 1]? = some y ∧ Q y (upd H l (.lst xs.dropLast))
theorem mt_pop : MtM X "list.pop" rPop := by
  intro pins s σ H x vs v us Q I rx rv h
  obtain ⟨l, xs, y, rfl, rfl, hH, hy, q⟩ := h
  cases rx
  have hus := rv.zero
  subst hus
  obtain ⟨z, its, n, r, hl, e⟩ := I.lstM hH
  obtain ⟨u, hu, ru⟩ := r.get hy
  have hy' : its.toArray[its.toArray.size - 1]? = some u := by
    show its.toArray[its.length - 1]? = some u
    rw [← Array.getElem?_toList, ← hl]
    exact hu
  refine call_meets F.slot_list_pop ⟨_, e, rfl⟩ F.entry_list_pop (F.args_list_pop_1 _) (MeetsSeq.list_pop_last l its.toArray n u hy' (by rw [List.size_toArray]; omega)) ⟨e, ?_⟩
  refine ⟨y, _, I.lset (its' := its.dropLast) hH e ?_ r.dropLast ?_, ru, q⟩
  · show its.toArray.eraseIdxIfInBounds (its.toArray.size - 1) = its.dropLast.toArray
    rw [List.size_toArray, List.eraseIdxIfInBounds_toArray, erase_last]
  · rw [List.length_dropLast]
    omega
def rCat : R2 := fun x y H Q => ∃ l b xs zs, x = .ref l ∧ y = .ref b ∧ H l = some (.lst xs) ∧ H b = some (.lst zs) ∧ xs.length + zs.length ≤ sizeLine ∧ ∀ p, H p = none → Q (.ref p) (upd H p (.lst (xs ++ zs)))
theorem op_cat : OpR X (binaryOp .Add) rCat := by
  intro pins s σ H x y v u Q I rx ry h
  obtain ⟨l, b, xs, zs, rfl, rfl, hH, hB, hz, q⟩ := h
  cases rx
  cases ry
  obtain ⟨z, its, n, r, hl, e⟩ := I.lstM hH
  obtain ⟨z2, its2, n2, r2, hl2, e2⟩ := I.lstM hB
  refine PySem.P.add_list e e2 ?_ (by rw [List.size_toArray, List.size_toArray]; omega)
  have ea : its.toArray ++ its2.toArray = (its ++ its2).toArray := by simp
  rw [ea]
  exact ⟨.ref _, _, I.lnew (t' := s.toks) (r.append r2) (by rw [List.length_append]; omega), rfl, q _ I.fresh⟩
end
section
variable {prog : Program} {w : World} {A : Around} {E : Value → Shared → Prop} {s : Shared}
end
section
variable {X : Cx}
end
end L2
namespace Att
open PySem PySem.W PySem.Calls PyProof.Rows
theorem ints_of_wellAll {P : Params} {h : Heap} : ∀ (ns : List Int) (vs : List Value), WellAll P h vs (ns.map WData.int) → IntsAre vs ns := by
  intro ns
  induction ns with
  | nil =>
    intro vs w
    rw [List.map_nil] at w
    cases w
    exact .nil
  | cons n ns ih =>
    intro vs w
    rw [List.map_cons] at w
    cases w with
    | cons a b =>
      cases a
      exact .cons _ _ (ih _ b)
theorem script_of {l : OpenLaw} {n : Nat} (hn : l.most = some n) {P : Params} {h : Heap} {args : List WData} {vals : List Value}
    (hpre : l.row.toRowW.claim.pre args = true) (hwl : WellAll P h vals args) :
    ∃ a vs ns, vals = [Value.ref a] ∧ args = [WData.list (ns.map WData.int)] ∧ h.get? a = some { cls := .type "list", data := .seq vs.toArray } ∧ IntsAre vs ns ∧ ns.length ≤ n := by
  have hsh : WShape.hasAll [] args [.list .int] = true := (pre_splitW hpre).1
  have hc : l.pre.holds [] { args := args } = true := (pre_splitW hpre).2
  obtain ⟨d, r, rfl, h1, h2⟩ := hasAllW_cons hsh
  obtain rfl := hasAllW_nil h2
  obtain ⟨xs, rfl, h3⟩ := hasW_list h1
  obtain ⟨ns, rfl⟩ := items_int h3
  have hlen : ns.length ≤ n := by
    unfold OpenLaw.pre at hc
    have h4 : (WTm.not (.lt (.lit (.int (n : Int))) (.len (.arg 0)))).holds [] { args := [.list (ns.map .int)] } = true := by
      have h4 := (holds_andW hc).1
      rw [hn] at h4
      exact h4
    have h5 := condW_of h4 (w_not (w_lt w_lit (w_len_list (w_arg rfl))))
    rw [List.length_map] at h5
    refine Nat.le_of_not_lt fun q => ?_
    have q' : (n : Int) < ((ns.length : Nat) : Int) := by omega
    first
      | (rw [decide_eq_true q'] at h5; exact absurd h5 (by decide))
      | (simp at h5; omega)
  cases hwl with
  | cons w1 w2 =>
    cases w2
    cases w1 with
    | list ho hall => exact ⟨_, _, ns, rfl, rfl, ho, ints_of_wellAll ns _ hall, hlen⟩
theorem post_true (l : OpenLaw) (args : List WData) : l.row.toRowW.claim.post args (.bool true) args = true :=
  postW_of (r := l.row.toRowW) (X := (true == true))
    (show WShape.has [] (.bool true) .bool = true by first | rfl | decide | simp [WShape.has, WShape.arms, WShape.armsAll])
    (show (WTm.eq .res (.lit (.bool true))).value [] { args := args, res := some (.bool true), after := args } = some (.bool (true == true)) from w_eq_bool (w_res rfl) w_lit) rfl
theorem attach_call {l : OpenLaw} {n : Nat} {q : Program} {loose : List Str} {XP : (Str → Option Value) → Heap → Prop} {YP : World → Heap → Prop} {d : DefRec}
    (hn : l.most = some n) (hdf : d.params.defaults = [])
    (call : ∀ (w : World) (s₀ s₁ : Shared) (mg mb : Str → Option Value) (fa : Addr) (o : Obj) (pm cd doc : Value) (a : Addr) (vs : List Value) (ns : List Int),
      Ground q loose [] XP w s₀ mg mb s₁.heap → YP w s₁.heap →
      s₁.heap.get? fa = some o → o.data = .func (docDef d.name d.params d.body d.scope pm cd doc) → s₁.heap.CodeRec cd d.name → mg d.name = some (.ref fa) →
      s₁.heap.get? a = some { cls := .type "list", data := .seq vs.toArray } → IntsAre vs ns → ns.length ≤ n → s₁.gens = #[] →
      codeAny (model l.prog w) callerA (.call (.ref fa) ⟨[.ref a], []⟩) (fun r s' => r = .ok (.ret (.bool true)) ∧ OldK s₁.heap s'.heap ∧ s'.os = s₁.os ∧ AllBare s'.gens) s₁) :
    WalkO q loose XP YP l.row.toRowW d [] (fun f vs => PySem.call f vs) := by
  intro w s₀ s₁ mg mb G Y fa o pm cd doc dV kV ho hd hcd hD hmg hg args vals as hpre hlay hrd hwl hlo
  obtain rfl : dV = .none := Dflts.none hD hdf
  obtain rfl : kV = .none := Dflts.noKw hD
  obtain ⟨a, vs, ns, rfl, rfl, hobj, hints, hlen⟩ := script_of hn hpre hwl
  refine enter_call (codeAny_mono (call w s₀ s₁ mg mb fa o pm cd doc a vs ns G Y ho (fd_plain hd) hcd hmg hobj hints hlen hg) fun r s' hq => ?_)
  obtain ⟨rfl, h2, h3, h4⟩ := hq
  exact ⟨.inl ⟨.bool true, .bool true, [], rfl, fun _ => rfl, .bool true, post_true l _, fun _ => ⟨List.Pairwise.nil, fun _ hm => (nomatch hm)⟩⟩, h2, h3, h4⟩
section
variable {prog : Program} {w : World} {A : Around} {E : Value → Shared → Prop} {s : Shared} {K : Frag}
end
end Att
namespace L2
open PySem PySem.Spec PyProof.Rows
theorem vals_ints : ∀ {vs : List Value} {ns : List Int}, IntsAre vs ns → Vals (ns.map V.int) vs
  | _, _, .nil => .nil
  | _, _, .cons n t h => .cons ⟨t, rfl⟩ (vals_ints h)
def Only (H : Hp) : Prop := ∀ b, H b = none ∨ ∃ o xs, H b = some (.frz o (.lst xs))
theorem law_call {P : Program} {w : World} {K : PySem.W.Frag} {mg mb : Str → Option Value} {CX : CXT} {k : Nat} {fa a : Addr} {fd : FuncData} {x : Str} {sp : Sp} {s₁ : Shared} {vs : List Value} {ns : List Int}
    (KX : K.In s₁.heap) (hns : s₁.heap.Ns mainGlobals mg) (hb : s₁.heap.Ns builtinsNs mb) (hbb : ∀ x : Str, x ≠ "__name__" → mb x = bootBuiltins x) (hlim : s₁.heap.NoLimit) (hg : s₁.gens = #[])
    (ha : s₁.heap.get? a = some { cls := .type "list", data := .seq vs.toArray }) (hi : IntsAre vs ns) (hl : ns.length ≤ sizeLine) (hr : Room k callerA)
    (F : ∀ base : Heap, K.In base → base.Ns mainGlobals mg → FnOk P w K mg base CX k fa fd [x] sp) (hbind : ∀ (s : Shared) (u : Value), BindsTo s fd ⟨[u], []⟩ [(x, u)])
    (hsp : ∀ H : Hp, Only H → SqL K H a (ns.map V.int) → sp [.ref a] H (fun v _ => v = .bl true) fun _ _ _ => False)
    (hCX : ∀ H e s', CX [] H s₁ (fun _ _ _ => False) e s' → False) :
    codeAny (model P w) callerA (.call (.ref fa) ⟨[.ref a], []⟩) (fun r s' => r = .ok (.ret (.bool true)) ∧ OldK s₁.heap s'.heap ∧ s'.os = s₁.os ∧ AllBare s'.gens) s₁ := by
  have rv := vals_ints hi
  have lenV := hi.length
  have core : ∀ H : Hp, Only H → SqL K H a (ns.map V.int) → HOk P w H s₁.heap → (∀ b, H b ≠ none → b = a) → (H a ≠ none → K.lookup a = none) →
      codeAny (model P w) callerA (.call (.ref fa) ⟨[.ref a], []⟩) (fun r s' => r = .ok (.ret (.bool true)) ∧ OldK s₁.heap s'.heap ∧ s'.os = s₁.os ∧ AllBare s'.gens) s₁ := by
    intro H hO hS hok hA hK
    have base_of : ∀ {b : Addr} {o : Obj}, s₁.heap.get? b = some o → H b = none → (hidT s₁.heap H).get? b = some o := fun e n => hidT_get e n
    have noA : ∀ {b : Addr} {o : Obj} {es : Array DictEntry} {ep : Nat}, s₁.heap.get? b = some o → o.data = .dict es ep → H b = none := fun {b o es ep} e d => by
      cases q : H b with
      | none => rfl
      | some u =>
        have e' : b = a := hA b (by rw [q]; simp)
        subst e'
        rw [ha] at e; cases e
        have d' : Data.seq vs.toArray _ = Data.dict es ep := d
        cases d'
    have nsK : ∀ {b : Addr} {m : Str → Option Value}, s₁.heap.Ns b m → (hidT s₁.heap H).Ns b m := fun {b m} ⟨o, es, ep, e, d, r⟩ => ⟨o, es, ep, base_of e (noA e d), d, r⟩
    have hKb : K.In (hidT s₁.heap H) := fun b o e => base_of (KX b o e) (by
      cases q : H b with
      | none => rfl
      | some u =>
        have e' : b = a := hA b (by rw [q]; simp)
        subst e'
        rw [hK (by rw [q]; simp)] at e; cases e)
    have hM : Mod K mg (hidT s₁.heap H) := ⟨hKb, nsK hns, ⟨mb, nsK hb, hbb⟩, let ⟨mc, h1, h2⟩ := hlim; ⟨mc, nsK h1, h2⟩⟩
    have e0 : Env0 P w K mg (hidT s₁.heap H) callerA [] s₁ H := ⟨rfl, hM, fun b o e => of_hidT e, Nat.le_of_eq (hidT_size _ _), trivial, fun b hb => absurd (show b ∈ ([] : List Addr) from hb) (by simp), hok, .of_eq hg⟩
    refine codeAny_mono ((F _ hKb (nsK hns)).run callerA [] s₁ H ⟨[.ref a], []⟩ [.ref a] [.ref a] _ _ hr e0 (hbind s₁ (.ref a)) (.cons rfl .nil) (hsp H hO hS)) fun r s' h => ?_
    cases r with
    | error e => exact (hCX H e s' h).elim
    | ok fl =>
      cases fl with
      | next => exact False.elim h
      | brk => exact False.elim h
      | cont => exact False.elim h
      | ret u =>
        obtain ⟨v, H', os, bare, un, hok', r', q⟩ := h
        have q' : v = .bl true := q
        subst q'
        obtain rfl : u = Value.bool true := r'
        refine ⟨rfl, OldK.of_keep fun b o e => ?_, os, bare⟩
        cases q : H b with
        | none => exact un.keep b o e q (by intro z; exact absurd (show b ∈ ([] : List Addr) from z) (by simp)) (by simp)
        | some u =>
          rcases hO b with z | ⟨ob, xs, z⟩
          · rw [q] at z; cases z
          · have z2 := un.frzs b ob _ z
            obtain ⟨e1, _⟩ := hok b _ z
            obtain ⟨e2, _⟩ := hok' b _ z2
            rw [e] at e1; cases e1
            exact e2
  cases hk : K.lookup a with
  | some o =>
    have e := KX a o hk
    rw [ha] at e
    cases e
    refine core (fun _ => none) (fun _ => .inl rfl) (.inr ⟨_, vs.toArray, _, hk, rfl, rfl, rfl, by rw [List.size_toArray, lenV]; exact hl, by simpa using rv⟩) (fun b u z => by have z' : (none : Option HO) = some u := z; cases z') (fun b z => absurd rfl z) fun z => absurd rfl z
  | none =>
    refine core (fun b => if b = a then some (.frz { cls := .type "list", data := .seq vs.toArray } (.lst (ns.map V.int))) else none) (fun b => ?_) (.inl (.inr ⟨{ cls := .type "list", data := .seq vs.toArray }, if_pos rfl⟩)) (fun b u z => ?_) (fun b z => ?_) fun _ => hk
    · by_cases hb : b = a
      · exact .inr ⟨_, _, if_pos hb⟩
      · exact .inl (if_neg hb)
    · by_cases hb : b = a
      · have z' := (if_pos hb).symm.trans z
        cases z'
        subst hb
        exact ⟨ha, by rw [List.length_map]; exact hl, vs, _, rv, ha⟩
      · have z' := (if_neg hb).symm.trans z
        cases z'
    · by_cases hb : b = a
      · exact hb
      · exact absurd (if_neg hb) z
end L2
namespace L2
open PySem PySem.Spec PyProof.Rows
theorem walk_of {l : PySem.W.OpenLaw} {n k : Nat} {q : Program} {loose : List Str} {XP : (Str → Option Value) → Heap → Prop} {YP : World → Heap → Prop} {d : DefRec} {K : Params → PySem.W.Frag} {CX : World → CXT} {sp : World → Sp} {x : Str}
    (hn : l.most = some n) (hn2 : n ≤ sizeLine) (hdf : d.params.defaults = []) (hr : Room k callerA)
    (hY : ∀ (w : World) (h : Heap), YP w h → (K w.params).In h)
    (F : ∀ (w : World) (mg : Str → Option Value) (fa : Addr) (h : Heap), (K w.params).In h → h.Ns mainGlobals mg → mg d.name = some (.ref fa) →
      ∃ fd : FuncData, (∀ (s : Shared) (u : Value), BindsTo s fd ⟨[u], []⟩ [(x, u)]) ∧
        ∀ base : Heap, (K w.params).In base → base.Ns mainGlobals mg → FnOk l.prog w (K w.params) mg base (CX w) k fa fd [x] (sp w))
    (hsp : ∀ (w : World) (H : Hp) (a : Addr) (ns : List Int), ns.length ≤ n → Only H → SqL (K w.params) H a (ns.map V.int) → sp w [.ref a] H (fun v _ => v = .bl true) fun _ _ _ => False)
    (hCX : ∀ (w : World) (H : Hp) (s : Shared) (e : Value) (s' : Shared), CX w [] H s (fun _ _ _ => False) e s' → False) :
    PySem.W.WalkO q loose XP YP l.row.toRowW d [] (fun f vs => PySem.call f vs) := by
  refine Att.attach_call hn hdf fun w s₀ s₁ mg mb fa o pm cd doc a vs ns G Y ho hd hcd hmg hobj hints hlen hg => ?_
  have KX := hY w _ Y
  obtain ⟨fd, hb, hF⟩ := F w mg fa _ KX G.T.g hmg
  exact law_call KX G.T.g G.T.b G.T.builtins G.T.nolimit hg hobj hints (Nat.le_trans hlen hn2) hr hF hb (fun H hO hS => hsp w H a ns hlen hO hS) fun H e s' => hCX w H s₁ e s'
end L2
/- THE LAST THEOREM (shape; LID, My.* are yours):
   My.Adr: a structure of the addresses that your layer names (classes, functions); My.Txt K t: a structure (Prop) of the equations over K;
   My.txt_mk : {K} {implicit addresses ..} (e1 : nsIn K mainGlobals "law" = some (some (.ref f))) (e2 : K.lookup f = some ⟨oc, od, .func (fnOf "law" "law" params body scope dV kV doc pm an cdv ct), sl⟩) (e3 : codeIn K cdv "law" = true) .. : ∃ t, My.Txt K t
set_option maxRecDepth 100000 in
set_option maxHeartbeats 0 in
theorem PySem.Challenge.cw_LID_holds : PySem.Challenge.rw_LID.Holds := by
  w_on; o_law; k_head; (case hw => w_witness2)
  k_fill
  refine L2.walk_of (l := PySem.Challenge.rw_LID) (n := 63) (k := 40) (x := "script") (CX := fun w => ..) (sp := fun _ => My.sp_law) rfl (by decide) rfl ⟨rfl, by decide, by decide⟩ (fun w h Y => PySem.W.kIn_of Y) ?F ?S ?C
  case F =>
    intro w mg fa h KX G hmg
    have T : ∃ t, My.Txt (L2.KOf KX) t := by
      dsimp only [L2.KOf]                          -- K must stand as «<heap const> w.params» for k_is
      refine' My.txt_mk ?e1 ?e2 ?e3 ..
      (case e1 => PySem.W.k_is)                    -- in the order: a name -> its address -> its object -> its parts
      (case e2 => PySem.W.k_is)
      ..
    obtain ⟨t, T⟩ := T
    have e0 := hmg.symm.trans (PySem.W.mg_of KX G T.law)
    cases e0                                       -- fa is the law's own address
    exact ⟨_, fun s u => .of_eq rfl, fun base kb nb => My.law_fn T kb nb⟩     -- if «.of_eq rfl» comes too early: refine' ⟨_, ?b, fun base kb nb => My.law_fn T kb nb⟩; exact fun s u => .of_eq rfl
  case S => exact fun w H a ns hl hO hS => ..
  case C => exact ..
(the tactic k_is has no namespace: write k_is) -/
namespace L2
open PySem PySem.Spec PyProof.Rows
def defArgs (s : Stmt) : Arguments := match s with
  | .FunctionDef _ a _ _ _ _ _ _ _ _ => a
  | _ => { posonlyargs := [], args := [], vararg := none, kwonlyargs := [], kw_defaults := [], kwarg := none, defaults := [] }
def defBody (s : Stmt) : List Stmt := match s with
  | .FunctionDef _ _ b _ _ _ _ _ _ _ => b
  | _ => []
def defScope (s : Stmt) : Scope := match s with
  | .FunctionDef _ _ _ _ _ _ sc _ _ _ => sc
  | _ => { kind := .function, names := [], isGenerator := false, isCoroutine := false }
abbrev CX0 : CXT := fun _ _ _ _ _ _ => False
abbrev E0 : XK := fun _ _ _ => False
theorem pass0 {X : Cx} : Passes CX0 X E0 := fun _ _ _ _ _ _ _ h => h.elim
structure Fun (K : PySem.W.Frag) (x qual : Str) (st : Stmt) (f : Addr) (fd : FuncData) : Prop where
  ex : ∃ (oc : Value) (od : Option Addr) (kV doc pm : Value) (an : Option Addr) (cdv ct : Value) (osl : Array (Option Value)),
    fd = PySem.W.fnOf x qual (defArgs st) (defBody st) (defScope st) .none kV doc pm an cdv ct ∧ K.lookup f = some ⟨oc, od, .func fd, osl⟩ ∧ PySem.W.codeIn K cdv qual = true
  kp : PySem.W.keepIn K (.ref f) = true
section
variable {P : Program} {w : World} {K : PySem.W.Frag} {mg : Str → Option Value} {base : Heap}
theorem Fun.ok {x qual : Str} {st : Stmt} {f : Addr} {fd : FuncData} {N ps : List Str} {k : Nat} {sp : Sp} (F : Fun K x qual st f fd) (S : FnScope N ps (defScope st)) (len : ∀ vs H Q E, sp vs H Q E → vs.length = ps.length)
    (hbody : ∀ (cdv : Value) (A : Around) (outer : List Env) (s : Shared) (H : Hp) (vs : List V) (Q : VK) (E : XK), Room k (A.deeper (envOfC qual (defScope st) s.heap.objs.size f cdv)) → sp vs H Q E →
      ∃ t, PSs (cxOf CX0 P w K mg base N qual (defScope st) f cdv A outer s H E).nox (defBody st) t ∧ t { nx := fun _ H' => Q .non H', rt := Q } (start N vs) H) : FnOk P w K mg base CX0 (k + 1) f fd ps sp := by
  obtain ⟨oc, od, kV, doc, pm, an, cdv, ct, osl, rfl, lk, hcd⟩ := F.ex
  refine fn_of lk hcd S len fun A outer s H vs Q E hr hsp => ?_
  obtain ⟨t, h, q⟩ := hbody cdv A outer s H vs Q E hr hsp
  exact ⟨t, h.nox, q⟩
theorem Fun.binds {x qual : Str} {st : Stmt} {f : Addr} {fd : FuncData} {ps : List Str} (F : Fun K x qual st f fd)
    (h : ∀ (kV doc pm : Value) (an : Option Addr) (cdv ct : Value) (us : List Value), us.length = ps.length → bindArgs (PySem.W.fnOf x qual (defArgs st) (defBody st) (defScope st) .none kV doc pm an cdv ct) ⟨us, []⟩ = pure (ps.zip us)) : Binds K fd ps [] := by
  obtain ⟨oc, od, kV, doc, pm, an, cdv, ct, osl, rfl, lk, hcd⟩ := F.ex
  exact .all (h kV doc pm an cdv ct)
theorem fun_mk {x qual : Str} {st : Stmt} {f : Addr} {oc : Value} {od an : Option Addr} {osl : Array (Option Value)} {kV doc pm cdv ct : Value} (l : K.lookup f = some ⟨oc, od, .func (PySem.W.fnOf x qual (defArgs st) (defBody st) (defScope st) .none kV doc pm an cdv ct), osl⟩)
    (c : PySem.W.codeIn K cdv qual = true) (k : PySem.W.keepIn K (.ref f) = true) : Fun K x qual st f (PySem.W.fnOf x qual (defArgs st) (defBody st) (defScope st) .none kV doc pm an cdv ct) := ⟨⟨oc, od, kV, doc, pm, an, cdv, ct, osl, rfl, l, c⟩, k⟩
end
theorem small1000 {n : Nat} (h : n ≤ 1000) : n < sizeLine := Nat.lt_of_le_of_lt h (by decide)
section
variable {X : Cx}
theorem pv (i : Nat) {x : Str} {pos : Pos} (hN : X.N[i]? = some x := by rfl) (hv : Vis X.env.scope x := by first | exact Or.inl rfl | exact Or.inr (Or.inl rfl) | exact Or.inr (Or.inr rfl)) (hd : (x == ("__debug__" : Str)) = false := by decide)
    (hcd : (x == ("__classdict__" : Str)) = false := by decide) : PE X (.Name x pos) (tVar i) := pe_var hN hv hd hcd
end
theorem iteF {A B : Prop} (h : B) : if false = true then A else B := by
  rw [if_neg Bool.false_ne_true]
  exact h
theorem iteT {A B : Prop} (h : A) : if true = true then A else B := by
  rw [if_pos rfl]
  exact h
def Same (H H' : Hp) : Prop := ∀ b o, H b = some o → H' b = some o
theorem Same.trans {H H1 H2 : Hp} (a : Same H H1) (b : Same H1 H2) : Same H H2 := fun c o h => b c o (a c o h)
theorem Same.seq {K : PySem.W.Frag} {H H' : Hp} {a : Addr} {xs : List V} (e : Same H H') (h : SqL K H a xs) : SqL K H' a xs := by
  rcases h with (h | ⟨o, h⟩) | h
  · exact .inl (.inl (e _ _ h))
  · exact .inl (.inr ⟨o, e _ _ h⟩)
  · exact .inr h
end L2
namespace L2
open PySem PySem.Spec PyProof.Rows
section
variable {κ : Type} [DecidableEq κ]
def valV (kvs : List (κ × V)) (k : κ) : Option V := (kvs.find? fun kv => decide (kv.1 = k)).map (·.2)
def putK (kvs : List (κ × V)) (k : κ) (v : V) : List (κ × V) :=
  if (kvs.any fun kv => decide (kv.1 = k)) = true then kvs.map (fun kv => if kv.1 = k then (kv.1, v) else kv) else kvs ++ [(k, v)]
theorem valV_pos {p : κ × V} {r : List (κ × V)} {k : κ} (e : p.1 = k) : valV (p :: r) k = some p.2 := by simp [valV, List.find?_cons, e]
theorem valV_neg {p : κ × V} {r : List (κ × V)} {k : κ} (e : ¬ p.1 = k) : valV (p :: r) k = valV r k := by simp [valV, List.find?_cons, e]
theorem valV_any (k : κ) : ∀ kvs : List (κ × V), (kvs.any fun kv => decide (kv.1 = k)) = (valV kvs k).isSome
  | [] => rfl
  | p :: r => by
    rw [List.any_cons]
    by_cases e : p.1 = k
    · simp only [valV_pos e, decide_eq_true e, Bool.true_or, Option.isSome_some]
    · rw [valV_neg e, decide_eq_false e, Bool.false_or]; exact valV_any k r
theorem valV_map (k j : κ) (y : V) : ∀ kvs : List (κ × V), valV (kvs.map fun kv => if kv.1 = k then (kv.1, y) else kv) j = (valV kvs j).map fun x => if j = k then y else x
  | [] => rfl
  | p :: r => by
    have ih := valV_map k j y r
    rw [List.map_cons]
    by_cases h : p.1 = k
    · rw [if_pos h]
      by_cases e : p.1 = j
      · rw [valV_pos (p := (p.1, y)) e, valV_pos e, Option.map_some, if_pos (e.symm.trans h)]
      · rw [valV_neg (p := (p.1, y)) e, valV_neg e, ih]
    · rw [if_neg h]
      by_cases e : p.1 = j
      · rw [valV_pos (p := p) e, valV_pos e, Option.map_some, if_neg (fun z => h (e.trans z))]
      · rw [valV_neg (p := p) e, valV_neg e, ih]
theorem valV_snoc (k j : κ) (y : V) : ∀ kvs : List (κ × V), valV kvs k = none → valV (kvs ++ [(k, y)]) j = if j = k then some y else valV kvs j
  | [], _ => by
    by_cases e : k = j
    · rw [if_pos e.symm]; exact valV_pos (p := (k, y)) e
    · rw [if_neg (fun z => e z.symm)]; exact valV_neg (p := (k, y)) e
  | p :: r, hn => by
    rw [List.cons_append]
    have hk : ¬ p.1 = k := fun z => by rw [valV_pos z] at hn; cases hn
    rw [valV_neg hk] at hn
    have ih := valV_snoc k j y r hn
    by_cases e : p.1 = j
    · rw [valV_pos e, valV_pos e, if_neg (fun z => hk (e.trans z))]
    · rw [valV_neg e, valV_neg e, ih]
theorem valV_put (kvs : List (κ × V)) (k j : κ) (y : V) : valV (putK kvs k y) j = if j = k then some y else valV kvs j := by
  unfold putK
  by_cases a : (kvs.any fun kv => decide (kv.1 = k)) = true
  · rw [if_pos a, valV_map]
    rw [valV_any] at a
    by_cases e : j = k
    · obtain ⟨x, hx⟩ := Option.isSome_iff_exists.mp a
      rw [if_pos e, e, hx, Option.map_some, if_pos rfl]
    · rw [if_neg e]
      cases valV kvs j with
      | none => rfl
      | some x => rw [Option.map_some, if_neg e]
  · rw [if_neg a]
    refine valV_snoc k j y kvs ?_
    rw [valV_any] at a
    cases q : valV kvs k with
    | none => rfl
    | some x => rw [q] at a; exact (a rfl).elim
theorem putK_new {kvs : List (κ × V)} {k : κ} (v : V) (h : valV kvs k = none) : putK kvs k v = kvs ++ [(k, v)] := by
  unfold putK
  rw [valV_any, h]
  exact if_neg (by decide)
theorem RelO.isSome_eq {o : Option V} {u : Option Value} (r : RelO o u) : o.isSome = u.isSome := by
  cases o with
  | none => cases u with
    | none => rfl
    | some _ => exact (show False from r).elim
  | some _ => cases u with
    | none => exact (show False from r).elim
    | some _ => rfl
end
section
variable {P : Program} {w : World} {H : Hp} {h : Heap} {a : Addr}
end
section
variable {X : Cx} {pins : List (Addr × Obj)} {σ : St} {H : Hp} {s : Shared} {a : Addr} {y v : V} {u r : Value} {o : Option V} {A : Around} {E : Value → Shared → Prop}
theorem Inv.big (I : Inv X pins σ H s) : sysModules < s.heap.objs.size := by
  have h : mainGlobals < s.heap.objs.size := (I.mod.glob.keeps I.bk).lt
  exact Nat.lt_trans (by decide) h
theorem d_write {h' : Heap} {t' : Nat} {ob : HO} (I : Inv X pins σ H s) (mu : Mut (H a)) (hs : Heap.SameBut a s.heap h') (he : ∃ q, h'.get? a = some q) (new : ObjOk X.prog X.w (upd H a ob) h' a ob) :
    Inv X pins σ (upd H a ob) { s with heap := h', toks := t' } :=
  I.write (x := a) (e := a) mu (.inl rfl) (fun b q hb z => (hs.2 b hb).trans z) he new
end
section
variable {X : Cx} {pins : List (Addr × Obj)} {σ : St} {H : Hp} {s : Shared} {a : Addr} {kvs : List (Key × V)} {k : Key} {u : Value} {A : Around} {E : Value → Shared → Prop}
end
def NoSl (i : Expr) : Prop := ∀ ov iv, subscripted i false ov iv = operate [ov, iv] (getItem ov iv)
theorem subD_of {prog : Program} {w : World} {A : Around} {E : Value → Shared → Prop} {s : Shared} {env : Env} {value slice : Expr} {pos : Pos} {T id : String} {Q : Value → Shared → Prop}
    (hl : typeLookup (.type T) "__getitem__" = pure (some (.builtin id))) (hs : NoSl slice)
    (h : wpAny (model prog w) A (eval value env) (fun o s₁ => wpAny (model prog w) A (eval slice env) (fun i s₂ => s₂.TypeIs o T ∧ wpAny (model prog w) A (getItem o i) Q E s₂) E s₁) E s) :
    wpAny (model prog w) A (eval (.Subscript value slice pos) env) Q E s := by
  refine Subscript_ (wpAny_mono h (fun o s₁ h₁ => wpAny_mono h₁ (fun i s₂ h₂ => ?_) fun _ _ x => x) fun _ _ x => x)
  obtain ⟨hT, h₂⟩ := h₂
  unfold subscriptTail
  refine wpAny_bind ?_
  rw [getitemInPython_of_ne hT.not_modules]
  refine wpAny_bind (wpAny_specialOf hT hl ?_)
  have fin : wpAny (model prog w) A (subscripted slice false o i) (fun r s₃ => wpAny (model prog w) A (letTemporaryGo value o r >>= fun _ => pure r) Q E s₃) E s₂ := by
    rw [hs o i]
    exact wpAny_operating (wpAny_mono h₂ (fun r s₃ h₃ => wpAny_bind (wpAny_letTemporaryGo (wpAny_pure h₃))) fun _ _ x => x)
  first
    | exact wpAny_pure (wpAny_bind fin)
    | exact wpAny_bind (wpAny_pure (wpAny_bind fin))
    | exact wpAny_bind fin
section
variable {X : Cx} {o i e value : Expr} {pos pos' tpos : Pos} {td ty tv : TE}
end
section
variable {X : Cx} {pos : Pos}
end
section
variable {X : Cx} {pins : List (Addr × Obj)} {σ : St} {H : Hp} {s : Shared} {a : Addr} {y d : V} {u r : Value} {o : Option V} {A : Around} {E : Value → Shared → Prop}
end
section
variable {X : Cx} {o e f : Expr} {apos cpos : Pos} {td ty tx : TE}
end
section
variable {X : Cx} {pins : List (Addr × Obj)} {σ : St} {H : Hp} {s : Shared} {a : Addr} {kvs : List (Key × V)} {A : Around} {E : Value → Shared → Prop}
end
section
variable {X : Cx} {pins : List (Addr × Obj)} {σ : St} {H : Hp} {s : Shared} {a : Addr} {y : V} {u : Value} {A : Around} {E : Value → Shared → Prop}
end
end L2
namespace L2
open PySem PySem.Spec PyProof.Rows
section
variable {X : Cx}
end
end L2
namespace L2
open PySem PySem.Spec PyProof.Rows
section
variable {κ : Type} [DecidableEq κ]
theorem valV_not {kvs : List (κ × V)} {k : κ} (h : valV kvs k = none) : ¬ k ∈ kvs.map (·.1) := by
  intro m
  obtain ⟨p, hp, e⟩ := List.mem_map.mp m
  have q : (kvs.any fun kv => decide (kv.1 = k)) = true := List.any_eq_true.mpr ⟨p, hp, decide_eq_true e⟩
  rw [valV_any, h] at q
  exact absurd q (by simp)
theorem valV_in {kvs : List (κ × V)} {k : κ} {v : V} (h : valV kvs k = some v) : k ∈ kvs.map (·.1) := by
  have q : (kvs.any fun kv => decide (kv.1 = k)) = true := by
    rw [valV_any, h]
    all_goals rfl
  obtain ⟨p, hp, e⟩ := List.any_eq_true.mp q
  exact List.mem_map.mpr ⟨p, hp, of_decide_eq_true e⟩
theorem nd_snoc : ∀ {l : List κ} {k : κ}, l.Nodup → ¬ k ∈ l → (l ++ [k]).Nodup
  | [], k, _, _ => by simp
  | a :: r, k, h, hk => by
    obtain ⟨h1, h2⟩ := List.nodup_cons.mp h
    show (a :: (r ++ [k])).Nodup
    refine List.nodup_cons.mpr ⟨fun m => ?_, nd_snoc h2 fun m => hk (List.mem_cons.mpr (Or.inr m))⟩
    rcases List.mem_append.mp m with q | q
    · exact h1 q
    · exact hk (List.mem_cons.mpr (Or.inl (List.mem_singleton.mp q).symm))
theorem nd_putK {kvs : List (κ × V)} {k : κ} (v : V) (hn : (kvs.map (·.1)).Nodup) (h : valV kvs k = none) : ((putK kvs k v).map (·.1)).Nodup := by
  rw [putK_new v h, List.map_append]
  exact nd_snoc hn (valV_not h)
end
end L2
namespace BF
open PySem PySem.Spec PyProof.Rows L2
theorem pe_imp {X : Cx} {e : Expr} {t t' : TE} (h : PE X e t) (k : ∀ σ H Q, t' σ H Q → t σ H Q) : PE X e t' :=
  fun pins s σ H Q I hw => h pins s σ H Q I (k σ H Q hw)
inductive Kn where
  | non | bl | int | str | lst | tup | dic
def Kn.nm : Kn → String
  | .non => "NoneType" | .bl => "bool" | .int => "int" | .str => "str" | .lst => "list" | .tup => "tuple" | .dic => "dict"
inductive Knd (H : Hp) : V → Kn → Prop where
  | non : Knd H .non .non
  | bl (b : Bool) : Knd H (.bl b) .bl
  | int (i : Int) : Knd H (.int i) .int
  | str (x : Str) : Knd H (.str x) .str
  | lst {a : Addr} {xs : List V} (e : H a = some (.lst xs)) : Knd H (.ref a) .lst
  | tup {a : Addr} {xs : List V} (e : H a = some (.tup xs)) : Knd H (.ref a) .tup
  | dic {a : Addr} {kvs : List (Key × V)} (e : H a = some (.dK kvs)) : Knd H (.ref a) .dic
theorem Knd.ty {K : PySem.W.Frag} {H : Hp} {v : V} {k : Kn} (h : Knd H v k) : TyOf K H v (.type k.nm) := by
  cases h with
  | non => exact .non
  | bl b => exact .bl b
  | int i => exact .int i
  | str x => exact .str x
  | lst e => exact .lst e
  | tup e => exact .tup e
  | dic e => exact .dK e
def isaK : Kn → Kn → Bool
  | .non, .non => true
  | .bl, .bl => true
  | .bl, .int => true
  | .int, .int => true
  | .str, .str => true
  | .lst, .lst => true
  | .tup, .tup => true
  | .dic, .dic => true
  | _, _ => false
theorem kit_of (K : PySem.W.Frag) (k c : Kn) : PySem.W.kitOne K (.type k.nm) (.type c.nm) = some (isaK k c) := by
  cases k <;> cases c <;> kernel_rfl
theorem call_isi {X : Cx} : CallR X (.builtin "isinstance") (fun xs H Q => ∃ x k c, xs = [x, .ty (Kn.nm c)] ∧ Knd H x k ∧ Q (.bl (isaK k c)) H) := by
  intro pins s σ H xs us Q I r h
  obtain ⟨x, k, c, rfl, kd, q⟩ := h
  obtain ⟨u, w', rfl, r1, r2⟩ := vals2 r
  have e : w' = Value.type (Kn.nm c) := r2
  subst e
  exact isinst_ok I r1 kd.ty (kit_of X.K k c) fun tk => ⟨.bl (isaK k c), H, I.tok tk, rfl, q⟩
theorem pe_p9 {X : Cx} {j1 j2 : Nat} {p1 p2 pos : Pos} : PE X (.BinOp (.Constant (.int 10) j1 p1) .Pow (.Constant (.int 9) j2 p2) pos) (tC (.int 1000000000)) :=
  pe_imp (pe_op op_pow pe_int pe_int) fun σ H Q q => ⟨10, 9, rfl, rfl, ⟨by decide, by decide, by decide⟩, by
    have e : ((10 : Int) ^ (9 : Int).toNat) = 1000000000 := by decide
    show Q (V.int _) H
    rw [e]; exact q⟩
theorem ifD_pos {p : Prop} [Decidable p] {A B : Prop} (h : p) (a : A) : if decide p = true then A else B := by
  rw [if_pos (decide_eq_true h)]; exact a
theorem ifD_neg {p : Prop} [Decidable p] {A B : Prop} (h : ¬ p) (b : B) : if decide p = true then A else B := by
  rw [if_neg (by intro z; exact h (of_decide_eq_true z))]; exact b
theorem ifB_pos {c : Bool} {A B : Prop} (h : c = true) (a : A) : if c = true then A else B := by
  rw [if_pos h]; exact a
theorem ifB_neg {c : Bool} {A B : Prop} (h : c = false) (b : B) : if c = true then A else B := by
  rw [if_neg (by rw [h]; exact Bool.false_ne_true)]; exact b
theorem same_upd {H : Hp} {p : Addr} {o : HO} (h : H p = none) : Same H (upd H p o) := fun b u e => by
  rw [upd_ne (ne_of_none e h)]; exact e
theorem sz {n : Nat} (h : n ≤ 1000) : n ≤ sizeLine := Nat.le_of_lt (small1000 h)
theorem szr {n : Nat} (h : Nat.ble n 1000 = true) : n ≤ sizeLine := sz (Nat.le_of_ble_eq_true h)
theorem cut_mem {xs : List V} {lo hi : Option Int} {x : V} (h : x ∈ cutV xs lo hi) : x ∈ xs := by
  unfold cutV at h
  exact List.mem_of_mem_drop (List.mem_of_mem_take h)
def wholeV : V → Bool
  | .int _ => true
  | _ => false
structure Df (K : PySem.W.Frag) (mg : Str → Option Value) (x : Str) (st : Stmt) (f : Addr) (fd : FuncData) : Prop where
  F : Fun K x x st f fd
  m : mg x = some (.ref f)
theorem df_mk {K : PySem.W.Frag} {mg : Str → Option Value} {h : Heap} (X : K.In h) (G : h.Ns mainGlobals mg) {x : Str} {st : Stmt} {f : Addr} {oc : Value} {od an : Option Addr} {osl : Array (Option Value)} {kV doc pm cdv ct : Value}
    (a : PySem.W.nsIn K mainGlobals x = some (some (.ref f))) (l : K.lookup f = some ⟨oc, od, .func (PySem.W.fnOf x x (defArgs st) (defBody st) (defScope st) .none kV doc pm an cdv ct), osl⟩)
    (c : PySem.W.codeIn K cdv x = true) (k : PySem.W.keepIn K (.ref f) = true) : Df K mg x st f (PySem.W.fnOf x x (defArgs st) (defBody st) (defScope st) .none kV doc pm an cdv ct) :=
  ⟨fun_mk l c k, PySem.W.mg_of X G a⟩
end BF
namespace BF
open PySem PySem.Spec PyProof.Rows L2
def clOf (env : Env) : List (Str × NameKind) → List (Str × Addr) → List (Str × Addr)
  | [], acc => acc
  | (n, k) :: r, acc => if (k == NameKind.free) = true then (match env.cells.lookup n with | some a => clOf env r ((n, a) :: acc) | none => clOf env r acc) else clOf env r acc
theorem clOf_sub (env : Env) : ∀ (l : List (Str × NameKind)) (acc : List (Str × Addr)), (∀ p ∈ acc, env.cells.lookup p.1 = some p.2) → ∀ p ∈ clOf env l acc, env.cells.lookup p.1 = some p.2
  | [], _, h => h
  | (n, k) :: r, acc, h => by
    unfold clOf
    split
    · split
      · rename_i a e
        refine clOf_sub env r _ fun p hp => ?_
        rcases List.mem_cons.mp hp with rfl | hp
        · exact e
        · exact h p hp
      · exact clOf_sub env r acc h
    · exact clOf_sub env r acc h
theorem clOf_acc (env : Env) : ∀ (l : List (Str × NameKind)) (acc : List (Str × Addr)) (x : Str), (∃ c, acc.lookup x = some c) → ∃ c, (clOf env l acc).lookup x = some c
  | [], _, _, h => h
  | (n, k) :: r, acc, x, h => by
    unfold clOf
    split
    · split
      · rename_i a e
        refine clOf_acc env r _ x ?_
        rw [List.lookup_cons]
        cases q : x == n with
        | true => exact ⟨a, rfl⟩
        | false => exact h
      · exact clOf_acc env r acc x h
    · exact clOf_acc env r acc x h
theorem clOf_has (env : Env) : ∀ (l : List (Str × NameKind)) (acc : List (Str × Addr)) (x : Str), l.lookup x = some NameKind.free → (∃ c, env.cells.lookup x = some c) → ∃ c, (clOf env l acc).lookup x = some c
  | [], _, _, h, _ => by simp at h
  | (n, k) :: r, acc, x, h, hc => by
    rw [List.lookup_cons] at h
    cases q : x == n with
    | true =>
      rw [q] at h
      have ek : k = NameKind.free := Option.some.inj h
      have en : x = n := eq_of_beq q
      subst ek en
      obtain ⟨c, e⟩ := hc
      unfold clOf
      rw [if_pos (by decide : (NameKind.free == NameKind.free) = true), e]
      refine clOf_acc env r _ x ⟨c, ?_⟩
      rw [List.lookup_cons, q]
    | false =>
      rw [q] at h
      unfold clOf
      split
      · split
        · exact clOf_has env r _ x h hc
        · exact clOf_has env r _ x h hc
      · exact clOf_has env r _ x h hc
def lab (env : Env) (p : Str × NameKind) : Str × NameKind := if (p.2 == NameKind.free && env.scope.kind == .function && env.kindOf p.1 == some .cell) then (p.1, NameKind.cell) else (p.1, p.2)
theorem lab_eq (env : Env) (n : Str) (k : NameKind) : lab env (n, k) = (n, if (k == NameKind.free && env.scope.kind == .function && env.kindOf n == some .cell) then NameKind.cell else k) := by
  unfold lab
  split <;> rfl
theorem relabel_names (scope : Scope) (env : Env) : (relabel scope env).names = scope.names.map (lab env) := rfl
theorem relabel_lookup (env : Env) : ∀ (l : List (Str × NameKind)) (x : Str),
    (l.map (lab env)).lookup x = (l.lookup x).map fun k => if (k == NameKind.free && env.scope.kind == .function && env.kindOf x == some .cell) then NameKind.cell else k
  | [], _ => rfl
  | (n, k) :: r, x => by
    have ih := relabel_lookup env r x
    rw [List.map_cons, lab_eq, List.lookup_cons, List.lookup_cons]
    cases q : x == n with
    | true =>
      have en : x = n := eq_of_beq q
      subst en
      rfl
    | false => exact ih
def compCx (X : Cx) (N' : List Str) (scope : Scope) (C : Addr) (s₀ : Shared) (H₀ : Hp) (fp : List Addr) (pn : List (Addr × Obj)) : Cx where
  prog := X.prog
  w := X.w
  K := X.K
  mg := X.mg
  base := X.base
  A := X.A
  N := N'
  s₀ := s₀
  H₀ := H₀
  env := compEnvC scope (clOf X.env scope.names []) C X.env
  outer := X.stack
  stack := X.stack
  ex := fp
  fn := fun _ => false
  calm := X.calm
  pn := pn
  xe := fun _ _ => False
def pick (idx : List (Option Nat)) (σ : L2.St) : L2.St := idx.map fun o => match o with | none => none | some i => (σ[i]?).getD none
structure CompOk (X : Cx) (scope : Scope) (N' : List Str) (idx : List (Option Nat)) : Prop where
  kind : scope.kind = .function
  cell : ∀ y ∈ scope.names, y.2 ≠ .cell
  names : ∀ y ∈ scope.names, y.2 = .local → scope.names.lookup y.1 = some .local
  free : ∀ y ∈ scope.names, y.2 = .free → X.env.kindOf y.1 = some .cell
  len : idx.length = N'.length
  idx : ∀ p ∈ idx.zip N', ∀ i, p.1 = some i → X.N[i]? = some p.2 ∧ X.env.kindOf p.2 = some .cell ∧ scope.names.lookup p.2 = some .free
def compB (osc scope : Scope) (ON N' : List Str) (idx : List (Option Nat)) : Bool :=
  (scope.kind == .function) && scope.names.all (fun y => y.2 != .cell) && scope.names.all (fun y => y.2 != .local || scope.names.lookup y.1 == some .local) &&
    scope.names.all (fun y => y.2 != .free || osc.names.lookup y.1 == some .cell) && (idx.length == N'.length) &&
    (idx.zip N').all fun p => match p.1 with | none => true | some i => (ON[i]? == some p.2) && (osc.names.lookup p.2 == some .cell) && (scope.names.lookup p.2 == some .free)
theorem compOk_of {X : Cx} {scope : Scope} {N' : List Str} {idx : List (Option Nat)} (h : compB X.env.scope scope X.N N' idx = true) : CompOk X scope N' idx := by
  unfold compB at h
  simp only [Bool.and_eq_true, List.all_eq_true] at h
  obtain ⟨⟨⟨⟨⟨h1, h2⟩, h3⟩, h4⟩, h5⟩, h6⟩ := h
  refine ⟨by simpa using h1, fun y hy => by simpa using h2 y hy, fun y hy e => ?_, fun y hy e => ?_, by simpa using h5, fun p hp i e => ?_⟩
  · have := h3 y hy
    rw [e] at this
    simpa using this
  · have := h4 y hy
    rw [e] at this
    show X.env.scope.names.lookup y.1 = some .cell
    simpa using this
  · have := h6 p hp
    rw [e] at this
    simp only [Bool.and_eq_true] at this
    obtain ⟨⟨g1, g2⟩, g3⟩ := this
    exact ⟨by simpa using g1, by show X.env.scope.names.lookup p.2 = some .cell; simpa using g2, by simpa using g3⟩
def CompW (J : It) (idx : List (Option Nat)) (g : TG) (tt : TT) (te : TE) (σ : L2.St) (H1 : Hp) (D : Addr) (Q : VK) : Prop :=
  ∃ W : Nat → Nat → L2.St → Hp → Prop, (∃ m, W 0 m (pick idx σ) (upd H1 D (.lst []))) ∧ ∀ i m σ2 H2, W i m σ2 H2 →
    (J.stop i H2 ∧ Q (.ref D) H2) ∨
    (J.go i H2 ∧ ∀ x H3, J.yld i H2 x H3 → g x σ2 H3 fun σ4 H4 => tt σ4 H4 fun b H5 =>
      if b = true then te σ4 H5 fun v H6 => ∃ ys, H6 D = some (.lst ys) ∧ ys.length < sizeLine ∧ ∃ m', m' < m ∧ W (i + 1) m' σ4 (upd H6 D (.lst (ys ++ [v])))
      else ∃ m', m' < m ∧ W (i + 1) m' σ4 H5)
def tComp (wi : TI) (idx : List (Option Nat)) (g : TG) (tt : TT) (te : TE) : TE := fun σ H Q => wi σ H fun J H1 => ∀ D, H1 D = none → CompW J idx g tt te σ H1 D Q
def PTs (X : Cx) (ifs : List Expr) (t : TT) : Prop :=
  ∀ (pins : List (Addr × Obj)) (s : Shared) (σ : L2.St) (H : Hp) (Q : Bool → Hp → Prop), Inv X pins σ H s → t σ H Q →
    wpAny (model X.prog X.w) X.A (forIn ifs true fun c r => if r = true then do let ok ← isTrue c X.env (eval c X.env); pure (ForInStep.yield ok) else pure (ForInStep.yield r)) (TP X pins σ Q) X.xe s
def tYes : TT := fun _ H Q => Q true H
theorem pts_nil {X : Cx} : PTs X [] tYes := fun pins s σ H Q I h => wpAny_tests_nil ⟨H, I, h⟩
theorem pts_one {X : Cx} {c : Expr} {t : TT} (h : PT X c t) : PTs X [c] t := fun pins s σ H Q I hw => wpAny_tests_one (h pins s σ H Q I hw)
theorem comp_loop {prog : Program} {w : World} {A : Around} {elt target iter : Expr} {ifs : List Expr} {scope : Scope} {pos : Pos} {it acc : Value} {env : Env} {R : Result → Shared → Prop} {s : Shared} (I : Nat → Shared → Prop)
    (turn : ∀ n s, I n s → wpAny (model prog w) A (pyNext it) (fun r s₁ => match r with
      | none => R (.ok .next) s₁
      | some v => wpAny (model prog w) A (letOwnedTupleGo target it v) (fun _ s₀ => wpAny (model prog w) A (assign target env v) (fun _ s₂ =>
          wpAny (model prog w) A (forIn ifs true fun c r => if r = true then do let ok ← isTrue c env (eval c env); pure (ForInStep.yield ok) else pure (ForInStep.yield r)) (fun ok s₃ =>
            if ok = true then wpAny (model prog w) A (eval elt env) (fun x s₄ =>
              wpAny (model prog w) A (call (.builtin "list.append") [acc, x]) (fun _ s₅ => ∃ m, m < n ∧ I m s₅) (fun _ _ => False) s₄) (fun _ _ => False) s₃
            else ∃ m, m < n ∧ I m s₃) (fun _ _ => False) s₂) (fun _ _ => False) s₀) (fun _ _ => False) s₁) (fun _ _ => False) s)
    (n : Nat) (h : I n s) : codeAny (model prog w) A (.compLoop (.ListComp elt [⟨target, iter, ifs, 0⟩] scope pos) 0 it acc env) R s := by
  refine codeAny_loop rfl I (fun n s hI => ?_) n h
  show wpAny _ A ((compTurn (.ListComp elt [⟨target, iter, ifs, 0⟩] scope pos) 0 it acc env).onRaise (fun x => do noteFrame x env; theTreesLotGoes x)) _ _ s
  refine wpAny_noted (wpAny_mono (E := fun _ _ => False) ?_ (fun _ _ q => q) fun _ _ z => z.elim)
  rw [compTurn_list]
  refine wpAny_bind (wpAny_standAt (wpAny_bind (wpAny_mono (turn n s hI) (fun r s₁ h₁ => ?_) fun _ _ h' => h')))
  cases r with
  | none => exact wpAny_pure h₁
  | some v =>
    refine wpAny_bind (wpAny_mono h₁ (fun _ s₀ h₀' => ?_) fun _ _ h' => h')
    refine wpAny_bind (wpAny_mono h₀' (fun _ s₂ h₂ => ?_) fun _ _ h' => h')
    refine wpAny_bind (wpAny_mono h₂ (fun ok s₃ h₃ => ?_) fun _ _ h' => h')
    cases ok with
    | false => exact wpAny_pure ⟨rfl, h₃⟩
    | true =>
      exact wpAny_bind (wpAny_bind (wpAny_mono h₃ (fun x s₄ h₄ => wpAny_bind (wpAny_mono h₄ (fun _ s₅ h₅ => wpAny_pure (wpAny_pure ⟨rfl, h₅⟩)) fun _ _ h' => h')) fun _ _ h' => h'))
section
variable {X : Cx} {elt tg iter : Expr} {ifs : List Expr} {scope : Scope} {pos : Pos} {N' : List Str} {idx : List (Option Nat)} {wi : TI} {g : TG} {tt : TT} {te : TE}
theorem comp_ok {pins : List (Addr × Obj)} {σ : L2.St} {H : Hp} {s : Shared} {C : Addr} {fp : List Addr} (S : CompOk X scope N' idx) (I : Inv X pins σ H s) (hC : s.heap.objs.size ≤ C) (hf : ∀ b ∈ fp, FpOk X pins H b) (hlt : ∀ b ∈ fp, b < s.heap.objs.size) (pn : List (Addr × Obj)) :
    (compCx X N' scope C s H fp pn).Ok := by
  have sub : ∀ x c, (clOf X.env scope.names []).lookup x = some c → X.env.cells.lookup x = some c := fun x c e => clOf_sub X.env scope.names [] (fun p hp => (nomatch hp)) (x, c) (PySem.mem_of_lookup e)
  have cne : ∀ x c, (clOf X.env scope.names []).lookup x = some c → c < s.heap.objs.size := fun x c e => by
    obtain ⟨v, q⟩ := I.cell x c (sub x c e)
    exact q.lt
  refine ⟨I.ok.mod, S.kind, I.ok.glob, I.ok.blt, hC, fun x y c h1 h2 => I.ok.inj x y c (sub _ _ h1) (sub _ _ h2), fun x hx => ?_, fun x c h _ => absurd h Bool.false_ne_true, I.ok.hd, I.ok.frames, .inl rfl, fun b hb => ⟨?_, fun x c e z => ?_⟩, I.bs, Nat.le_trans I.ok.bsz I.sz, fun b o e hb => ?_, fun b hb z => ?_, I.stack, I.stkFree⟩
  · have hx' : ((relabel scope X.env).names.lookup x = some .cell) ∨ ((relabel scope X.env).names.lookup x = some .free) := hx
    rw [relabel_names, relabel_lookup] at hx'
    have hfr : scope.names.lookup x = some .free := by
      cases q : scope.names.lookup x with
      | none => rw [q] at hx'; rcases hx' with z | z <;> cases z
      | some k =>
        rw [q] at hx'
        simp only [Option.map_some, Option.some.injEq] at hx'
        cases k with
        | free => rfl
        | cell => exact absurd rfl (S.cell _ (PySem.mem_of_lookup q))
        | _ => exfalso; rcases hx' with z | z <;> simp at z
    exact clOf_has X.env scope.names [] x hfr (I.ok.has x (.inl (S.free _ (PySem.mem_of_lookup hfr) rfl)))
  · exact Nat.ne_of_lt (Nat.lt_of_lt_of_le (hlt b hb) hC)
  · exact (hf b hb).2.2.2.2.1 x c (sub x c e) z
  · rcases (hf b hb).2.2.2.1 with z | z
    · exact I.ok.noex b o e z
    · exact absurd (Nat.lt_of_lt_of_le (Heap.lt_size (I.ok.bs b o e).1) z) (Nat.lt_irrefl _)
  · rcases List.mem_cons.mp (I.stkSub b z) with e | e
    · exact (hf b hb).2.1 e
    · exact (hf b hb).2.2.1 e
theorem pe_comp (S : CompOk X scope N' idx) (hclos : closureFor scope X.env = pure (clOf X.env scope.names [])) (hc : X.calm = true) (hi : PI X tg iter wi)
    (hg : ∀ C s₀ H₀ fp pn, PG (compCx X N' scope C s₀ H₀ fp pn) tg g) (ht : ∀ C s₀ H₀ fp pn, PTs (compCx X N' scope C s₀ H₀ fp pn) ifs tt) (he : ∀ C s₀ H₀ fp pn, PE (compCx X N' scope C s₀ H₀ fp pn) elt te)
    (hs : ∀ x, foldedSetIterable iter X.env x = pure x := by intro _; rfl) : PE X (.ListComp elt [⟨tg, iter, ifs, 0⟩] scope pos) (tComp wi idx g tt te) := by
  intro pins s σ H Q I h
  rw [eval_ListComp]
  refine wpAny_comprehension_free (use := none) rfl hs hclos S.kind S.names (thn (hi pins s σ H _ I h) fun xv s₁ h₁ => thn h₁ fun itv s₂ h₂ => ?_)
  obtain ⟨it, fp, tn, J, H2, e, I2, T, st2, f2, hJ⟩ := h₂
  subst e
  obtain ⟨W, ⟨m0, w0⟩, turn⟩ := hJ s₂.heap.objs.size (I2.hok.fresh (Nat.le_refl _))
  have hlt : ∀ b ∈ fp, b < s₂.heap.objs.size := fun b hb => by
    obtain ⟨o, e, _⟩ := T.obj _ _ st2 b hb
    exact Heap.lt_size e
  refine wpAny_newObj_type (wpAny_newFunctionEnv S.cell (by intro y hy; simp at hy) (fun h₁ hns₁ hsb₁ => ?_) S.kind)
  dsimp only at hns₁ hsb₁ ⊢
  generalize hH2 : s₂.heap.push { cls := .type "list", dict := none, data := .seq ([] : List Value).toArray } = P2 at hns₁ hsb₁ ⊢
  have hC : P2.objs.size = s₂.heap.objs.size + 1 := by rw [← hH2, Heap.size_push]
  have neC : ∀ b : Addr, b < s₂.heap.objs.size → b ≠ P2.objs.size := fun b hb => Nat.ne_of_lt (by rw [hC]; exact Nat.lt_succ_of_lt hb)
  have neD : s₂.heap.objs.size ≠ P2.objs.size := Nat.ne_of_lt (by rw [hC]; exact Nat.lt_succ_self _)
  have old : ∀ b o, s₂.heap.get? b = some o → h₁.get? b = some o := fun b o e =>
    hsb₁.extBut b o (neC b (Heap.lt_size e)) (Heap.get?_push_of_some _ (hH2 ▸ Heap.get?_push_of_some _ e))
  have hacc : h₁.get? s₂.heap.objs.size = some { cls := .type "list", data := .seq ([] : List Value).toArray } :=
    hsb₁.extBut _ _ neD (Heap.get?_push_of_some _ (hH2 ▸ Heap.get?_push_size _ rfl))
  have nD : H2 s₂.heap.objs.size = none := I2.hok.fresh (Nat.le_refl _)
  have nC : H2 P2.objs.size = none := I2.hok.fresh (by omega)
  have ok := comp_ok (C := P2.objs.size) S I2 (by omega) f2 hlt (X.pn ++ pins)
  have pinlt : ∀ p ∈ X.pn ++ pins, p.1 < s₂.heap.objs.size := fun p hp => Heap.lt_size (I2.pin p hp).1
  have sub : ∀ x c, (clOf X.env scope.names []).lookup x = some c → X.env.cells.lookup x = some c := fun x c e => clOf_sub X.env scope.names [] (fun p hp => (nomatch hp)) (x, c) (PySem.mem_of_lookup e)
  have I3 : Inv (compCx X N' scope P2.objs.size s₂ H2 fp (X.pn ++ pins)) [] (pick idx σ) (upd H2 s₂.heap.objs.size (.lst [])) { s₂ with heap := h₁, toks := s₂.toks + ([] : List (Str × Value)).length } := by
    refine ⟨ok, rfl, I2.bare, ?_, ⟨_, hns₁, fun j x v h1 h2 h3 => ?_⟩, fun x c e => ?_, ?_, fun x c e => ?_, fun p hp => ?_, ?_, ?_⟩
    · exact Un.laid old (Nat.le_refl _) nD
    · have hj : j < idx.length := by
        have := (List.getElem?_eq_some_iff.mp h2).1
        unfold pick at this
        rwa [List.length_map] at this
      unfold pick at h2
      rw [List.getElem?_map, List.getElem?_eq_getElem hj] at h2
      have h2' := Option.some.inj h2
      cases q : idx[j] with
      | none => rw [q] at h2'; cases h2'
      | some i =>
        have h2' : (σ[i]?).getD none = some v := by rw [q] at h2'; exact h2'
        have hmem : (idx[j], x) ∈ idx.zip N' := by
          refine List.mem_iff_getElem?.mpr ⟨j, ?_⟩
          rw [List.getElem?_zip_eq_some]
          exact ⟨List.getElem?_eq_getElem hj, h1⟩
        obtain ⟨z1, z2, z3⟩ := S.idx _ hmem i q
        have hσ : σ[i]? = some (some v) := by
          cases r : σ[i]? with
          | none => rw [r] at h2'; cases h2'
          | some y => rw [r] at h2'; rw [show y = some v from h2']
        obtain ⟨m, hn, hl⟩ := I2.loc
        obtain ⟨u, ru, lk⟩ := hl i x v z1 hσ (.inr (.inl z2))
        refine ⟨u, ru, .inr ⟨.inl ?_, ?_⟩⟩
        · show (relabel scope X.env).names.lookup x = some .cell
          rw [relabel_names, relabel_lookup, z3, I2.ok.kind]
          simp [z2]
        · obtain ⟨c, hcl⟩ := clOf_has X.env scope.names [] x z3 (I2.ok.has x (.inl z2))
          rcases lk with ⟨k1, _⟩ | ⟨_, c', e1, e2⟩
          · rw [z2] at k1; cases k1
          · refine ⟨c, hcl, ?_⟩
            have e3 := sub x c hcl
            rw [e1] at e3
            cases e3
            obtain ⟨o, ho, hd⟩ := e2
            exact ⟨o, old _ _ ho, hd⟩
    · obtain ⟨v, o, ho, hd⟩ := I2.cell x c (sub x c e)
      exact ⟨v, o, old _ _ ho, hd⟩
    · show upd H2 _ _ P2.objs.size = none
      rw [upd_ne (Ne.symm neD)]; exact nC
    · obtain ⟨v, q⟩ := I2.cell x c (sub x c e)
      rw [upd_ne (Nat.ne_of_lt q.lt)]
      exact I2.freeC x c (sub x c e)
    · rw [List.append_nil] at hp
      obtain ⟨e, n, ne, nf, d⟩ := I2.pin p hp
      refine ⟨old _ _ e, ?_, ?_, fun z => ?_, d⟩
      · rw [upd_ne (Nat.ne_of_lt (pinlt p hp))]; exact n
      · exact neC _ (pinlt p hp)
      · rcases List.mem_cons.mp (I2.stkSub _ z) with z | z
        · exact ne z
        · exact nf z
    · exact I2.hok.laid old (Nat.le_refl _) ⟨Nat.zero_le _, [], 0, .nil, hacc⟩
    · show (pick idx σ).length = N'.length
      unfold pick
      rw [List.length_map]
      exact S.len
  have stat : ∀ {pl : List (Addr × Obj)} {H' : Hp}, (∀ b ∈ fp, H' b = none) → (∀ p ∈ pl, p.1 ∉ fp) → ∀ b ∈ fp, FpOk (compCx X N' scope P2.objs.size s₂ H2 fp (X.pn ++ pins)) pl H' b := fun {pl H'} hn hp b hb => by
    refine ⟨hn b hb, (ok.exf b hb).1, ok.exfs b hb, .inl hb, (ok.exf b hb).2, fun p hpp z => ?_⟩
    rcases List.mem_append.mp hpp with h1 | h1
    · exact (f2 b hb).2.2.2.2.2 p h1 z
    · exact hp p h1 (z ▸ hb)
  have loop : codeAny (model X.prog X.w) X.A (.compLoop (.ListComp elt [⟨tg, iter, ifs, 0⟩] scope pos) 0 (.ref it) (.ref s₂.heap.objs.size) (compEnvC scope (clOf X.env scope.names []) P2.objs.size X.env))
      (compPost (model X.prog X.w) X.A X.xe none (EP X pins σ Q) (.ref s₂.heap.objs.size) P2.objs.size) { s₂ with heap := h₁, toks := s₂.toks + ([] : List (Str × Value)).length } := by
    refine comp_loop (fun n s' => ∃ i σ' H', Inv (compCx X N' scope P2.objs.size s₂ H2 fp (X.pn ++ pins)) [] σ' H' s' ∧ tn i s'.heap ∧ (∀ b ∈ fp, H' b = none) ∧ W i n σ' H') ?_ m0
      ⟨0, _, _, I3, T.keep _ _ _ st2 fun b _ o e => old b o e, fun b hb => by rw [upd_ne (Nat.ne_of_lt (hlt b hb))]; exact (f2 b hb).1, w0⟩
    rintro n s3 ⟨i, σ3, H3, J3, st3, fr3, w3⟩
    rcases turn i n σ3 H3 w3 with ⟨stop, q⟩ | ⟨go, step⟩
    · refine wpAny_mono (T.done (compCx X N' scope P2.objs.size s₂ H2 fp (X.pn ++ pins)) rfl rfl rfl hc i [] s3 σ3 H3 (fun _ _ => False) J3 (stat fr3 (fun _ z => nomatch z)) st3 stop) (fun r s4 hr => ?_) fun _ _ z => z
      obtain ⟨rfl, J4⟩ := hr
      obtain ⟨m, hn, _⟩ := J4.loc
      refine ⟨m, hn, fun h' hs' => ?_⟩
      have fC : H3 P2.objs.size = none := J4.free
      have up : ∀ b o, b ≠ P2.objs.size → s4.heap.get? b = some o → h'.get? b = some o := fun b o hb e => hs'.extBut b o hb e
      have un : Un (frs X.stack) fp H2 H3 s₂.heap h' := by
        have u := J4.base
        refine ⟨fun b o e n1 h1 h2 => ?_, fun b o e n1 h1 h2 => ?_, u.free, fun b o e h2 => ?_, u.tups, u.frzs, u.tbls⟩
        · exact up b o (neC b (Heap.lt_size e)) (u.keep b o e n1 h1 h2)
        · obtain ⟨sl, e1⟩ := u.slot b o e n1 h1 h2
          exact ⟨sl, up b _ (neC b (Heap.lt_size e)) e1⟩
        · obtain ⟨o', e1⟩ := u.there b o e h2
          exact ⟨o', up b _ (neC b (Heap.lt_size e)) e1⟩
      have hok : HOk X.prog X.w H3 h' := fun b o e => (J4.hok b o e).stay (fun c v hcc e1 => up c v (fun z => by
        subst z
        rcases hcc with z | z
        · subst z; rw [fC] at e; cases e
        · rw [fC] at z; cases z) e1) (fun _ z => z) fun _ _ z => z
      refine ⟨.ref s₂.heap.objs.size, H3, ?_, rfl, q⟩
      refine I2.call' (s' := { s4 with heap := h' }) (ch := fp) ?_ un hok J4.bare fun b hb => ?_
      · exact J4.os
      · obtain ⟨f0, f1, f2', f3, f4, f5⟩ := f2 b hb
        exact ⟨f3, f1, f4, f5⟩
    · refine wpAny_mono (T.item (compCx X N' scope P2.objs.size s₂ H2 fp (X.pn ++ pins)) rfl rfl rfl hc i [] s3 σ3 H3 (fun _ _ => False) J3 (stat fr3 (fun _ z => nomatch z)) st3 go) (fun r s4 hr => ?_) fun _ _ z => z
      obtain ⟨u, rfl, h4⟩ := hr
      refine wpAny_mono h4 (fun _ s5 h5 => ?_) fun _ _ z => z
      obtain ⟨x, H5, J5, r5, y5, st5, fr5⟩ := h5
      have J5' := J5.pinned (stat fr5 (fun _ z => nomatch z)) (T.obj _ _ st5)
      refine wpAny_mono (hg _ _ _ _ _ _ s5 σ3 H5 x u _ J5' r5 (step x H5 y5)) (fun _ s6 h6 => ?_) fun _ _ z => z
      obtain ⟨σ6, H6, J6, q6⟩ := h6
      have again : ∀ {s9 : Shared} {σ9 : L2.St} {H9 : Hp}, Inv (compCx X N' scope P2.objs.size s₂ H2 fp (X.pn ++ pins)) ([] ++ pinsAt fp s5.heap) σ9 H9 s9 → (∃ m', m' < n ∧ W (i + 1) m' σ9 H9) →
          ∃ m, m < n ∧ ∃ i σ' H', Inv (compCx X N' scope P2.objs.size s₂ H2 fp (X.pn ++ pins)) [] σ' H' s9 ∧ tn i s9.heap ∧ (∀ b ∈ fp, H' b = none) ∧ W i m σ' H' := fun {s9 σ9 H9} J9 hw => by
        obtain ⟨m', hm, w9⟩ := hw
        refine ⟨m', hm, i + 1, σ9, H9, J9.unpinned, T.keep _ _ _ st5 fun b hb o e => (J9.pin (b, o) (List.mem_append_right _ (List.mem_append_right _ (mem_pinsAt hb e)))).1, fun b hb => ?_, w9⟩
        obtain ⟨o, e, d⟩ := T.obj _ _ st5 b hb
        exact (J9.pin (b, o) (List.mem_append_right _ (List.mem_append_right _ (mem_pinsAt hb e)))).2.1
      refine wpAny_mono (ht _ _ _ _ _ _ s6 σ6 H6 _ J6 q6) (fun ok' s7 h7 => ?_) fun _ _ z => z
      obtain ⟨H7, J7, q7⟩ := h7
      cases ok' with
      | false => exact again J7 q7
      | true =>
        refine wpAny_mono (he _ _ _ _ _ _ s7 σ6 H7 _ J7 q7) (fun xv2 s8 h8 => ?_) fun _ _ z => z
        obtain ⟨v, H8, J8, r8, ys, hD, hz, hw⟩ := h8
        refine wpAny_mono (mt_append (X := compCx X N' scope P2.objs.size s₂ H2 fp (X.pn ++ pins)) _ s8 σ6 H8 (.ref s₂.heap.objs.size) [v] (.ref s₂.heap.objs.size) [xv2] (fun _ H9 => ∃ m', m' < n ∧ W (i + 1) m' σ6 H9) J8 rfl (.cons r8 .nil) ⟨_, ys, v, rfl, rfl, hD, hz, hw⟩) (fun _ s9 h9 => ?_) fun _ _ z => z
        obtain ⟨_, H9, J9, _, q9⟩ := h9
        exact again J9 q9
  exact codeAny_compStart_list loop (T.self X.A 0 _ _ _ (T.keep _ _ _ st2 fun b _ o e => old b o e) loop)
end
end BF
namespace BF
open PySem PySem.Spec PyProof.Rows L2
theorem comp_n {J : It} {n : Nat} {idx : List (Option Nat)} {g : TG} {tt : TT} {te : TE} {σ : L2.St} {H1 : Hp} {D : Addr} {Q : VK} (Pv : Nat → L2.St → Hp → Prop)
    (h0 : Pv 0 (pick idx σ) (upd H1 D (.lst []))) (hgo : ∀ i σ2 H2, i < n → Pv i σ2 H2 → J.go i H2) (hstop : ∀ σ2 H2, Pv n σ2 H2 → J.stop n H2 ∧ Q (.ref D) H2)
    (hs : ∀ i σ2 H2, i < n → Pv i σ2 H2 → ∀ x H3, J.yld i H2 x H3 → g x σ2 H3 fun σ4 H4 => tt σ4 H4 fun b H5 =>
      if b = true then te σ4 H5 fun v H6 => ∃ ys, H6 D = some (.lst ys) ∧ ys.length < sizeLine ∧ Pv (i + 1) σ4 (upd H6 D (.lst (ys ++ [v]))) else Pv (i + 1) σ4 H5) :
    CompW J idx g tt te σ H1 D Q := by
  refine ⟨fun i m σ H => m = n - i ∧ i ≤ n ∧ Pv i σ H, ⟨n, by simp, Nat.zero_le _, h0⟩, ?_⟩
  rintro i m σ2 H2 ⟨rfl, hi, p⟩
  by_cases hlt : i < n
  · refine .inr ⟨hgo i σ2 H2 hlt p, fun x H3 y => ?_⟩
    have key : ∀ (σ' : L2.St) (H' : Hp), (∃ m', m' < n - i ∧ m' = n - (i + 1) ∧ i + 1 ≤ n ∧ Pv (i + 1) σ' H') = Pv (i + 1) σ' H' := fun σ' H' =>
      propext ⟨fun ⟨_, _, _, _, q⟩ => q, fun q => ⟨n - (i + 1), by omega, rfl, hlt, q⟩⟩
    simp only [key]
    exact hs i σ2 H2 hlt p x H3 y
  · have e : i = n := by omega
    subst e
    exact .inl (hstop σ2 H2 p)
theorem atI_of {α : Type} {xs : List α} {m : Int} (h0 : 0 ≤ m) (h1 : m < xs.length) : ∃ c, atI xs m = some c ∧ c ∈ xs := by
  obtain ⟨j, rfl⟩ := Int.eq_ofNat_of_zero_le h0
  have hj : j < xs.length := by omega
  exact ⟨xs[j], atI_nat (List.getElem?_eq_getElem hj), List.getElem_mem hj⟩
theorem cmulR {i j : Int} (h1 : -(2 ^ 64) < j) (h2 : j < 2 ^ 64) : CMul i j := Or.inr ⟨h1, h2⟩
end BF
namespace BF
open PySem PySem.Spec PyProof.Rows L2
section
variable {rest : List Expr} {env : Env}
theorem se_name {x p} : starEach (.Name x p :: rest) env = (false, eval (.Name x p) env) :: starEach rest env := rfl
theorem se_const {c k p} : starEach (.Constant c k p :: rest) env = (false, eval (.Constant c k p) env) :: starEach rest env := rfl
theorem se_sub {a b p} : starEach (.Subscript a b p :: rest) env = (false, eval (.Subscript a b p) env) :: starEach rest env := rfl
theorem se_call {f a k p} : starEach (.Call f a k p :: rest) env = (false, eval (.Call f a k p) env) :: starEach rest env := rfl
theorem se_bin {a o b p} : starEach (.BinOp a o b p :: rest) env = (false, eval (.BinOp a o b p) env) :: starEach rest env := rfl
theorem se_tup {l k p} : starEach (.Tuple l k p :: rest) env = (false, eval (.Tuple l k p) env) :: starEach rest env := rfl
theorem se_list {l p} : starEach (.List l p :: rest) env = (false, eval (.List l p) env) :: starEach rest env := rfl
theorem se_comp {e g s p} : starEach (.ListComp e g s p :: rest) env = (false, eval (.ListComp e g s p) env) :: starEach rest env := rfl
theorem se_cmp {a o b p} : starEach (.Compare a o b p :: rest) env = (false, eval (.Compare a o b p) env) :: starEach rest env := rfl
theorem se_un {o a p} : starEach (.UnaryOp o a p :: rest) env = (false, eval (.UnaryOp o a p) env) :: starEach rest env := rfl
end
section
variable {X : Cx} {e : Expr} {es : List Expr} {te : TE} {t : TA} {pos : Pos}
theorem pac (ha : PE X e te) (hr : PA X es t) (hs : starEach (e :: es) X.env = (false, eval e X.env) :: starEach es X.env := by
    first | exact se_name | exact se_const | exact se_sub | exact se_call | exact se_bin | exact se_tup | exact se_list | exact se_dict | exact se_comp | exact se_attr | exact se_cmp | exact se_bool | exact se_un | exact se_if) :
    PA X (e :: es) (tCons te t) := pa_cons ha hr hs
variable {CX : CXT} {k : Nat} {f : Addr} {fd : FuncData} {ps : List Str} {sp : Sp} {dvs : List V} {ds : List Value} {E : XK} {x : Str} {p : Pos}
theorem pec (F : FnOk X.prog X.w X.K X.mg X.base CX k f fd ps sp) (hr : Room k X.A) (hg : Gl X x) (hm : X.mg x = some (.ref f)) (hk : PySem.W.keepIn X.K (.ref f) = true) (hb : Binds X.K fd ps ds) (hd : Vals dvs ds) (hx : Passes CX X E)
    (ha : PA X (e :: es) t) (hdb : (x == ("__debug__" : Str)) = false := by decide)
    (he : starEach (e :: es) X.env = (false, eval e X.env) :: starEach es X.env := by
      first | exact se_name | exact se_const | exact se_sub | exact se_call | exact se_bin | exact se_tup | exact se_list | exact se_dict | exact se_comp | exact se_attr | exact se_cmp | exact se_bool | exact se_un | exact se_if)
    (hpl : (backTo pos (starEach es X.env)).any (·.1) = false := by rfl) : PE X (.Call (.Name x p) (e :: es) [] pos) (tCall sp dvs E t) := pe_call F hr hg hm hk hb hd hx ha hdb he hpl
end
end BF
namespace BF
open PySem PySem.Spec PyProof.Rows L2 PySem.SeqAt
inductive Dt where
  | int (i : Int)
  | str (x : Str)
  | tup (l : List Dt)
mutual
def Dt.beq : Dt → Dt → Bool
  | .int i, .int j => i == j
  | .str x, .str y => x == y
  | .tup l, .tup m => Dt.beqs l m
  | _, _ => false
def Dt.beqs : List Dt → List Dt → Bool
  | [], [] => true
  | a :: l, b :: m => Dt.beq a b && Dt.beqs l m
  | _, _ => false
end
mutual
theorem Dt.beq_iff : ∀ a b : Dt, Dt.beq a b = true ↔ a = b
  | .int i, .int j => by simp [Dt.beq]
  | .str x, .str y => by simp [Dt.beq]
  | .tup l, .tup m => by simp [Dt.beq, Dt.beqs_iff l m]
  | .int i, .str y => by simp [Dt.beq]
  | .int i, .tup m => by simp [Dt.beq]
  | .str x, .int j => by simp [Dt.beq]
  | .str x, .tup m => by simp [Dt.beq]
  | .tup l, .int j => by simp [Dt.beq]
  | .tup l, .str y => by simp [Dt.beq]
theorem Dt.beqs_iff : ∀ l m : List Dt, Dt.beqs l m = true ↔ l = m
  | [], [] => by simp [Dt.beqs]
  | a :: l, b :: m => by simp [Dt.beqs, Dt.beq_iff a b, Dt.beqs_iff l m]
  | [], b :: m => by simp [Dt.beqs]
  | a :: l, [] => by simp [Dt.beqs]
end
theorem Dt.beq_self (a : Dt) : Dt.beq a a = true := (Dt.beq_iff a a).mpr rfl
mutual
def Dt.dp : Dt → Nat
  | .int _ => 0
  | .str _ => 0
  | .tup l => Dt.dps l + 1
def Dt.dps : List Dt → Nat
  | [] => 0
  | a :: l => max (Dt.dp a) (Dt.dps l)
end
mutual
inductive DtIs (H : Hp) : V → Dt → Prop where
  | int (i : Int) : DtIs H (.int i) (.int i)
  | str (x : Str) : DtIs H (.str x) (.str x)
  | tup {a : Addr} {xs : List V} {ds : List Dt} (e : H a = some (.tup xs)) (h : DtsIs H xs ds) : DtIs H (.ref a) (.tup ds)
inductive DtsIs (H : Hp) : List V → List Dt → Prop where
  | nil : DtsIs H [] []
  | cons {v : V} {d : Dt} {vs : List V} {ds : List Dt} (h : DtIs H v d) (t : DtsIs H vs ds) : DtsIs H (v :: vs) (d :: ds)
end
mutual
theorem DtIs.inj {H : Hp} : ∀ {d : Dt} {v : V} {d' : Dt}, DtIs H v d → DtIs H v d' → d = d'
  | .int i, _, d', .int _, h => by cases h; rfl
  | .str x, _, d', .str _, h => by cases h; rfl
  | .tup ds, _, d', .tup e q, h => by
    cases h with
    | tup e2 q2 =>
      rw [e] at e2
      cases e2
      rw [DtsIs.inj q q2]
theorem DtsIs.inj {H : Hp} : ∀ {ds : List Dt} {vs : List V} {ds' : List Dt}, DtsIs H vs ds → DtsIs H vs ds' → ds = ds'
  | [], _, _, .nil, h => by cases h; rfl
  | d :: ds, _, _, .cons q t, h => by
    cases h with
    | cons q2 t2 => rw [DtIs.inj q q2, DtsIs.inj t t2]
end
mutual
theorem DtIs.same {H H' : Hp} (S : Same H H') : ∀ {d : Dt} {v : V}, DtIs H v d → DtIs H' v d
  | .int i, _, .int _ => .int i
  | .str x, _, .str _ => .str x
  | .tup ds, _, .tup e q => .tup (S _ _ e) (DtsIs.same S q)
theorem DtsIs.same {H H' : Hp} (S : Same H H') : ∀ {ds : List Dt} {vs : List V}, DtsIs H vs ds → DtsIs H' vs ds
  | [], _, .nil => .nil
  | d :: ds, _, .cons q t => .cons (DtIs.same S q) (DtsIs.same S t)
end
theorem DtsIs.length {H : Hp} : ∀ {ds : List Dt} {vs : List V}, DtsIs H vs ds → vs.length = ds.length
  | [], _, .nil => rfl
  | d :: ds, _, .cons q t => by rw [List.length_cons, List.length_cons, DtsIs.length t]
def itEq (ds ds' : List Dt) (j : Nat) : Bool := match ds[j]?, ds'[j]? with
  | some a, some b => Dt.beq a b
  | _, _ => true
theorem all_itEq : ∀ ds ds' : List Dt, ((List.range (min ds.length ds'.length)).all (itEq ds ds') && ds.length == ds'.length) = Dt.beqs ds ds'
  | [], [] => rfl
  | [], b :: m => by simp [Dt.beqs]
  | a :: l, [] => by simp [Dt.beqs]
  | a :: l, b :: m => by
    have ih := all_itEq l m
    rw [List.length_cons, List.length_cons, Nat.succ_min_succ, List.range_succ_eq_map, List.all_cons, List.all_map]
    have e0 : itEq (a :: l) (b :: m) 0 = Dt.beq a b := rfl
    have e1 : (itEq (a :: l) (b :: m) ∘ Nat.succ) = itEq l m := by
      funext j
      simp [itEq]
    rw [e0, e1]
    show _ = (Dt.beq a b && Dt.beqs l m)
    rw [← ih, Bool.and_assoc]
    simp
section
variable {X : Cx} {pins : List (Addr × Obj)} {σ : L2.St} {H : Hp} {s : Shared}
theorem dp_at : ∀ {ds : List Dt} {j : Nat} {d : Dt}, ds[j]? = some d → d.dp ≤ Dt.dps ds
  | [], j, d, e => by simp at e
  | a :: l, 0, d, e => by
    have e' := Option.some.inj e
    subst e'
    simp only [Dt.dps]
    omega
  | a :: l, j + 1, d, e => by
    have := dp_at (ds := l) (j := j) (d := d) (by simpa using e)
    simp only [Dt.dps]
    omega
theorem rel_at : ∀ {ds : List Dt} {vs : List V} {us : List Value}, DtsIs H vs ds → Vals vs us → ∀ {j : Nat} {u : Value}, us[j]? = some u → ∃ v d, ds[j]? = some d ∧ DtIs H v d ∧ RelV v u
  | _, _, _, .nil, .nil, j, u, e => by simp at e
  | _, _, _, .cons h t, .cons r rs, 0, u, e => by
    have e' := Option.some.inj e
    subst e'
    exact ⟨_, _, rfl, h, r⟩
  | _, _, _, .cons h t, .cons r rs, j + 1, u, e => by
    obtain ⟨v, d, a, b, c⟩ := rel_at t rs (j := j) (u := u) (by simpa using e)
    exact ⟨v, d, by simpa using a, b, c⟩
theorem eqAt_n (I : Inv X pins σ H s) (n : Nat) : ∀ {d d' : Dt} {v v' : V} {u u' : Value} (A : Around), d.dp ≤ n → DtIs H v d → RelV v u → DtIs H v' d' → RelV v' u' → A.units + n < cLine → EqAt A s u u' (Dt.beq d d') := by
  induction n with
  | zero =>
    intro d d' v v' u u' A hn h r h' r' hu
    cases h with
    | int i =>
      obtain ⟨t, rfl⟩ := r
      cases h' with
      | int j => obtain ⟨t', rfl⟩ := r'; exact EqAt.int_int i t j t'
      | str y => obtain ⟨t', rfl⟩ := r'; exact EqAt.int_str i t y t'
      | tup e q => cases r'; obtain ⟨its, _, p, _⟩ := I.tuple (SqT.of e); exact EqAt.int_tuple i t p hu
    | str x =>
      obtain ⟨t, rfl⟩ := r
      cases h' with
      | int j => obtain ⟨t', rfl⟩ := r'; exact EqAt.str_int x t j t'
      | str y => obtain ⟨t', rfl⟩ := r'; exact EqAt.str_str x t y t'
      | tup e q => cases r'; obtain ⟨its, _, p, _⟩ := I.tuple (SqT.of e); exact EqAt.str_tuple x t p hu
    | tup e q => simp only [Dt.dp] at hn; omega
  | succ n ih =>
    intro d d' v v' u u' A hn h r h' r' hu
    by_cases h0 : d.dp ≤ n
    · exact ih A h0 h r h' r' (by omega)
    cases h with
    | int i => simp only [Dt.dp] at h0; omega
    | str x => simp only [Dt.dp] at h0; omega
    | @tup a xs l e q =>
      cases r
      cases h' with
      | int j => obtain ⟨t', rfl⟩ := r'; obtain ⟨its, _, p, _⟩ := I.tuple (SqT.of e); exact EqAt.tuple_int j t' p (by omega)
      | str y => obtain ⟨t', rfl⟩ := r'; obtain ⟨its, _, p, _⟩ := I.tuple (SqT.of e); exact EqAt.tuple_str y t' p (by omega)
      | @tup b ys m e' q' =>
        cases r'
        by_cases hab : a = b
        · subst hab
          have z := DtIs.inj (DtIs.tup e q) (DtIs.tup e' q')
          rw [z, Dt.beq_self]
          exact EqAt.same _
        · obtain ⟨its, rv, p, _⟩ := I.tuple (SqT.of e)
          obtain ⟨its', rv', p', _⟩ := I.tuple (SqT.of e')
          have n1 : its.toArray.size = l.length := by rw [List.size_toArray, ← rv.length, q.length]
          have n2 : its'.toArray.size = m.length := by rw [List.size_toArray, ← rv'.length, q'.length]
          simp only [Dt.dp] at hn
          have R := RcAt.tuples (A := A) (s := s) (e := itEq l m) p p' (by omega) (fun j h1 h2 => by
            obtain ⟨v1, d1, a1, b1, c1⟩ := rel_at q rv (j := j) (u := its.toArray[j]) (by simp)
            obtain ⟨v2, d2, a2, b2, c2⟩ := rel_at q' rv' (j := j) (u := its'.toArray[j]) (by simp)
            have z : itEq l m j = Dt.beq d1 d2 := by unfold itEq; rw [a1, a2]
            rw [z]
            exact ih A.in1 (by have := dp_at a1; omega) b1 c1 b2 c2 (by show A.units + 1 + _ < _; omega))
          rw [n1, n2, all_itEq] at R
          exact EqAt.of_refs hab R
theorem eqAt_D (I : Inv X pins σ H s) {d d' : Dt} {v v' : V} {u u' : Value} (A : Around) (h : DtIs H v d) (r : RelV v u) (h' : DtIs H v' d') (r' : RelV v' u') (hu : A.units + d.dp < cLine) : EqAt A s u u' (Dt.beq d d') := eqAt_n I _ A (Nat.le_refl _) h r h' r' hu
theorem eqsAt_D (I : Inv X pins σ H s) {ds ds' : List Dt} {vs vs' : List V} {us us' : List Value} (A : Around) (q : DtsIs H vs ds) (rv : Vals vs us) (q' : DtsIs H vs' ds') (rv' : Vals vs' us') (hu : A.units + Dt.dps ds < cLine)
    (j : Nat) (u u' : Value) (e : us[j]? = some u) (e' : us'[j]? = some u') : EqAt A s u u' (itEq ds ds' j) := by
  obtain ⟨v1, d1, a1, b1, c1⟩ := rel_at q rv e
  obtain ⟨v2, d2, a2, b2, c2⟩ := rel_at q' rv' e'
  have z : itEq ds ds' j = Dt.beq d1 d2 := by unfold itEq; rw [a1, a2]
  rw [z]
  exact eqAt_n I _ A (dp_at a1) b1 c1 b2 c2 hu
theorem op_eqD {k : Nat} (hr : Room k X.A) : OpR X (compareOp .Eq) (fun x y H Q => ∃ d d', DtIs H x d ∧ DtIs H y d' ∧ d.dp ≤ 60 ∧ (∃ l, d = .tup l) ∧ (∃ l, d' = .tup l) ∧ Q (.bl (Dt.beq d d')) H) := by
  intro pins s σ H x y v u Q I rx ry h
  obtain ⟨d, d', hd, hd', h60, ⟨l, rfl⟩, ⟨m, rfl⟩, q⟩ := h
  have hu := hr.units
  cases hd with
  | @tup a xs _ e h1 =>
    cases hd' with
    | @tup b ys _ e' h2 =>
      cases rx
      cases ry
      obtain ⟨its, rv, p, _⟩ := I.tuple (SqT.of e)
      obtain ⟨its', rv', p', _⟩ := I.tuple (SqT.of e')
      have n1 : its.toArray.size = l.length := by rw [List.size_toArray, ← rv.length, h1.length]
      have n2 : its'.toArray.size = m.length := by rw [List.size_toArray, ← rv'.length, h2.length]
      have hd : Dt.dps l + 1 ≤ 60 := by simpa only [Dt.dp] using h60
      have R := RcAt.tuples (A := X.A) (s := s) (e := itEq l m) p p' (by omega) (fun j j1 j2 => eqsAt_D I X.A.in1 h1 rv h2 rv' (by show X.A.units + 1 + _ < _; omega) j _ _ (by simp) (by simp))
      rw [n1, n2, all_itEq] at R
      exact R X.prog X.w X.xe _ ⟨.bl _, H, I, rfl, q⟩
end
end BF
namespace BF
open PySem PySem.Spec PyProof.Rows L2
theorem lex2 (x y z w : Int) : HT.lexLt [x, y] [z, w] = (decide (x < z) || (decide (x = z) && decide (y < w))) := by
  show (if x = z then (if y = w then false else decide (y < w)) else decide (x < z)) = _
  by_cases h : x = z
  · rw [if_pos h, decide_eq_true h, decide_eq_false (by omega : ¬ x < z)]
    by_cases k : y = w
    · rw [if_pos k, decide_eq_false (by omega : ¬ y < w)]; rfl
    · rw [if_neg k]; simp
  · rw [if_neg h, decide_eq_false h]; simp
end BF
namespace BF
open PySem PySem.Spec PyProof.Rows L2
def two (H : Hp) (q : Addr) (p : Int × Int) : Prop := H q = some (.tup [.int p.1, .int p.2])
theorem two_dt {H : Hp} {q : Addr} {p : Int × Int} (h : two H q p) : DtIs H (.ref q) (.tup [.int p.1, .int p.2]) := .tup h (.cons (.int _) (.cons (.int _) .nil))
end BF
namespace BF
open PySem PyProof.Rows
structure Ord (M : Model) (A : Around) (E : Value → Shared → Prop) (s : Shared) (kd : SortKind) where
  O : KeyOrd
  key : Keyed → O.α
  G : Keyed → Prop
  lt : ∀ {st : SortSt} {x y : Keyed} {Q : Option Bool → SortSt → Prop}, kindOf st = kd → G x → G y → Q (some (O.blt (key x) (key y))) st → wpS M A E s (lt' x y) Q st
section
variable {M : Model} {A : Around} {E : Value → Shared → Prop} {s : Shared} {kd : SortKind}
def Ord.le (o : Ord M A E s kd) (x y : Keyed) : Prop := o.O.kle (o.key x) (o.key y)
def Ord.b (o : Ord M A E s kd) (x y : Keyed) : Bool := o.O.blt (o.key x) (o.key y)
theorem Ord.le_refl (o : Ord M A E s kd) (x : Keyed) : o.le x x := KeyOrd.kle_refl _
theorem Ord.le_trans (o : Ord M A E s kd) {x y z : Keyed} (h : o.le x y) (k : o.le y z) : o.le x z := KeyOrd.kle_trans h k
theorem Ord.le_of_b (o : Ord M A E s kd) {x y : Keyed} (h : o.b x y = true) : o.le x y := KeyOrd.kle_of_klt h
theorem Ord.le_of_nb (o : Ord M A E s kd) {x y : Keyed} (h : o.b x y = false) : o.le y x := h
theorem Ord.b_le (o : Ord M A E s kd) {x y z : Keyed} (h : o.b x y = true) (k : o.le y z) : o.b x z = true := KeyOrd.klt_of_klt_of_kle h k
theorem Ord.le_b (o : Ord M A E s kd) {x y z : Keyed} (h : o.le x y) (k : o.b y z = true) : o.b x z = true := KeyOrd.klt_of_kle_of_klt h k
theorem Ord.nb_of_le (o : Ord M A E s kd) {x y : Keyed} (h : o.le x y) : o.b y x = false := h
def Ord.up (o : Ord M A E s kd) (xs : Array Keyed) (lo hi : Nat) : Prop := ∀ i j x y, lo ≤ i → i ≤ j → j < hi → xs[i]? = some x → xs[j]? = some y → o.le x y
def Ord.all (o : Ord M A E s kd) (xs : Array Keyed) : Prop := ∀ (i : Nat) x, xs[i]? = some x → o.G x
theorem wpS_elem {xs : Array Keyed} {i : Nat} {x : Keyed} {Q : Keyed → SortSt → Prop} {st : SortSt} (e : xs[i]? = some x) (h : Q x st) : wpS M A E s (elem' xs i) Q st := by
  rw [elem'_eq, e]; exact wpS_pure h
def gal : Bool → Keyed → Array Keyed → Nat → Nat → Nat → StateT SortSt Sem (Option Nat) := sortPriv% PySem.Builtin.gallop
def byd (left : Bool) (key : Keyed) (xs : Array Keyed) (base i : Nat) : StateT SortSt Sem (Option Bool) := do
  let x ← elem' xs (base + i)
  if left then lt' x key else return (← lt' key x).map (!·)
def galEnd (left : Bool) (key : Keyed) (xs : Array Keyed) (base n l r : Nat) : StateT SortSt Sem (Option Nat) := do
  let mut l := l
  let mut r := r
  for _ in [0:n] do
    if l ≥ r then break
    let some more ← byd left key xs base (l + (r - l) / 2) | return none
    if more then l := l + (r - l) / 2 + 1 else r := l + (r - l) / 2
  return some r
def galUp (left : Bool) (key : Keyed) (xs : Array Keyed) (base n hint : Nat) : StateT SortSt Sem (Option Nat) := do
  let mut p := 0
  let mut q := 1
  for _ in [0:n] do
    if q ≥ n - hint then break
    let some more ← byd left key xs base (hint + q) | return none
    if !more then break
    p := q
    q := 2 * q + 1
  galEnd left key xs base n (hint + p + 1) (hint + min q (n - hint))
def galDn (left : Bool) (key : Keyed) (xs : Array Keyed) (base n hint : Nat) : StateT SortSt Sem (Option Nat) := do
  let mut p := 0
  let mut q := 1
  for _ in [0:n] do
    if q ≥ hint + 1 then break
    let some more ← byd left key xs base (hint - q) | return none
    if more then break
    p := q
    q := 2 * q + 1
  galEnd left key xs base n (hint + 1 - min q (hint + 1)) (hint - p)
theorem gal_eq (left : Bool) (key : Keyed) (xs : Array Keyed) (base n hint : Nat) : gal left key xs base n hint = (do
    let some right ← byd left key xs base hint | return none
    if right then galUp left key xs base n hint else galDn left key xs base n hint) := rfl
def Ord.byB (o : Ord M A E s kd) (left : Bool) (key x : Keyed) : Bool := if left then o.b x key else !o.b key x
theorem wpS_byd (o : Ord M A E s kd) {left : Bool} {key x : Keyed} {xs : Array Keyed} {base i : Nat} {Q : Option Bool → SortSt → Prop} {st : SortSt} (hk : kindOf st = kd) (gk : o.G key) (gx : o.G x) (e : xs[base + i]? = some x)
    (h : Q (some (o.byB left key x)) st) : wpS M A E s (byd left key xs base i) Q st := by
  unfold byd
  refine wpS_bind (wpS_elem e ?_)
  cases left with
  | true => exact o.lt hk gx gk h
  | false => exact wpS_bind (o.lt hk gk gx (wpS_pure h))
end
end BF
namespace BF
open PySem PyProof.Rows
section
variable {M : Model} {A : Around} {E : Value → Shared → Prop} {s : Shared} {kd : SortKind}
theorem wpS_gal (o : Ord M A E s kd) {left : Bool} {key : Keyed} {xs : Array Keyed} {base n hint : Nat} {Q : Option Nat → SortSt → Prop} {st : SortSt} (hk : kindOf st = kd) (gk : o.G key) (ga : o.all xs) (hsz : base + n ≤ xs.size) (hh : hint < n)
    (up : o.up xs base (base + n)) (h : ∀ k, k ≤ n → (∀ i x, i < k → xs[base + i]? = some x → o.byB left key x = true) → (∀ i x, k ≤ i → i < n → xs[base + i]? = some x → o.byB left key x = false) → Q (some k) st) :
    wpS M A E s (gal left key xs base n hint) Q st := by
  rw [gal_eq]
  have at' : ∀ i, i < n → ∃ x, xs[base + i]? = some x := fun i hi => ⟨_, getElem?_pos _ _ (by omega)⟩
  have mono : ∀ i j x y, i ≤ j → j < n → xs[base + i]? = some x → xs[base + j]? = some y → o.byB left key y = true → o.byB left key x = true := fun i j x y hij hj ex ey hb => by
    have le := up (base + i) (base + j) x y (by omega) (by omega) (by omega) ex ey
    unfold Ord.byB at hb ⊢
    cases left with
    | true => exact o.le_b le hb
    | false =>
      have hb' : o.b key y = false := by simpa using hb
      have : o.b key x = false := o.nb_of_le (o.le_trans le hb')
      simp [this]
  have down : ∀ m, m < n → (∃ x, xs[base + m]? = some x ∧ o.byB left key x = true) → ∀ i x, i < m + 1 → xs[base + i]? = some x → o.byB left key x = true := fun m hm ⟨y, ey, hy⟩ i x hi ex => mono i m x y (by omega) hm ex ey hy
  have upp : ∀ m, (∃ x, xs[base + m]? = some x ∧ o.byB left key x = false) → ∀ i x, m ≤ i → i < n → xs[base + i]? = some x → o.byB left key x = false := fun m ⟨y, ey, hy⟩ i x hi hn ex => by
    cases hb : o.byB left key x with
    | false => rfl
    | true => rw [mono m i y x hi hn ey ex hb] at hy; cases hy
  have fin : ∀ l r, l ≤ r → r ≤ n → (∀ i x, i < l → xs[base + i]? = some x → o.byB left key x = true) → (∀ i x, r ≤ i → i < n → xs[base + i]? = some x → o.byB left key x = false) → wpS M A E s (galEnd left key xs base n l r) Q st := fun l r hlr hrn h1 h2 => by
    unfold galEnd
    refine wpS_bind (wpS_mono (wpS_forRange (I := fun t c st' => st' = st ∧ ∃ l r, c = (none, l, r) ∧ l ≤ r ∧ r ≤ n ∧ r - l ≤ n - t ∧ (∀ i x, i < l → xs[base + i]? = some x → o.byB left key x = true) ∧ (∀ i x, r ≤ i → i < n → xs[base + i]? = some x → o.byB left key x = false))
      (Q := fun c st' => st' = st ∧ ∃ l, c = (none, l, l) ∧ l ≤ n ∧ (∀ i x, i < l → xs[base + i]? = some x → o.byB left key x = true) ∧ (∀ i x, l ≤ i → i < n → xs[base + i]? = some x → o.byB left key x = false)) ?step ?fin ⟨rfl, l, r, rfl, hlr, hrn, by omega, h1, h2⟩) ?post)
    case post =>
      rintro c st' ⟨rfl, l, rfl, hl, a1, a2⟩
      exact wpS_pure (h l hl a1 a2)
    case fin =>
      rintro c st' ⟨rfl, l, r, rfl, h3, h4, h5, a1, a2⟩
      have : l = r := by omega
      subst this
      exact ⟨rfl, l, rfl, h4, a1, a2⟩
    case step =>
      rintro t c st' _ ht ⟨rfl, l, r, rfl, h3, h4, h5, a1, a2⟩
      dsimp only
      by_cases hge : l ≥ r
      · rw [if_pos hge]
        have : l = r := by omega
        subst this
        exact wpS_pure ⟨rfl, l, rfl, h4, a1, a2⟩
      · rw [if_neg hge]
        obtain ⟨y, ey⟩ := at' (l + (r - l) / 2) (by omega)
        refine wpS_bind (wpS_byd o hk gk (ga _ _ ey) ey ?_)
        cases hb : o.byB left key y with
        | true =>
          refine wpS_pure ⟨rfl, l + (r - l) / 2 + 1, r, rfl, by omega, h4, by omega, fun i x hi ex => down _ (by omega) ⟨y, ey, hb⟩ i x hi ex, a2⟩
        | false =>
          refine wpS_pure ⟨rfl, l, l + (r - l) / 2, rfl, by omega, by omega, by omega, a1, fun i x hi hn ex => upp _ ⟨y, ey, hb⟩ i x hi hn ex⟩
  obtain ⟨xh, eh⟩ := at' hint hh
  refine wpS_bind (wpS_byd o hk gk (ga _ _ eh) eh ?_)
  cases hb : o.byB left key xh with
  | true =>
    show wpS M A E s (galUp left key xs base n hint) Q st
    unfold galUp
    refine wpS_bind (wpS_mono (wpS_forRange (I := fun t c st' => st' = st ∧ ∃ p q, c = (none, p, q) ∧ p < q ∧ t < q ∧ hint + p < n ∧ ∃ x, xs[base + (hint + p)]? = some x ∧ o.byB left key x = true)
      (Q := fun c st' => st' = st ∧ ∃ p q, c = (none, p, q) ∧ p < q ∧ hint + p < n ∧ (∃ x, xs[base + (hint + p)]? = some x ∧ o.byB left key x = true) ∧ (n - hint ≤ q ∨ (hint + q < n ∧ ∃ x, xs[base + (hint + q)]? = some x ∧ o.byB left key x = false))) ?step ?fin ⟨rfl, 0, 1, rfl, by omega, by omega, by omega, xh, eh, hb⟩) ?post)
    case post =>
      rintro c st' ⟨rfl, p, q, rfl, h1, h2, a1, a2⟩
      show wpS M A E s (galEnd left key xs base n (hint + p + 1) (hint + min q (n - hint))) Q _
      refine fin _ _ ?_ ?_ (fun i x hi ex => down _ h2 a1 i x hi ex) fun i x hi hn ex => ?_
      · rcases a2 with z | ⟨z, _⟩ <;> omega
      · omega
      · rcases a2 with z | ⟨z, y⟩
        · omega
        · exact upp _ y i x (by omega) hn ex
    case fin =>
      rintro c st' ⟨rfl, p, q, rfl, h1, h2, h3, a1⟩
      exact ⟨rfl, p, q, rfl, h1, h3, a1, .inl (by omega)⟩
    case step =>
      rintro t c st' _ ht ⟨rfl, p, q, rfl, h1, h2, h3, a1⟩
      dsimp only
      by_cases hge : q ≥ n - hint
      · rw [if_pos hge]
        exact wpS_pure ⟨rfl, p, q, rfl, h1, h3, a1, .inl hge⟩
      · rw [if_neg hge]
        obtain ⟨y, ey⟩ := at' (hint + q) (by omega)
        refine wpS_bind (wpS_byd o hk gk (ga _ _ ey) ey ?_)
        cases hy : o.byB left key y with
        | true => exact wpS_pure ⟨rfl, q, 2 * q + 1, rfl, by omega, by omega, by omega, y, ey, hy⟩
        | false => exact wpS_pure ⟨rfl, p, q, rfl, h1, h3, a1, .inr ⟨by omega, y, ey, hy⟩⟩
  | false =>
    show wpS M A E s (galDn left key xs base n hint) Q st
    unfold galDn
    refine wpS_bind (wpS_mono (wpS_forRange (I := fun t c st' => st' = st ∧ ∃ p q, c = (none, p, q) ∧ p < q ∧ t < q ∧ p ≤ hint ∧ ∃ x, xs[base + (hint - p)]? = some x ∧ o.byB left key x = false)
      (Q := fun c st' => st' = st ∧ ∃ p q, c = (none, p, q) ∧ p < q ∧ p ≤ hint ∧ (∃ x, xs[base + (hint - p)]? = some x ∧ o.byB left key x = false) ∧ (hint + 1 ≤ q ∨ (q ≤ hint ∧ ∃ x, xs[base + (hint - q)]? = some x ∧ o.byB left key x = true))) ?step ?fin ⟨rfl, 0, 1, rfl, by omega, by omega, by omega, xh, eh, hb⟩) ?post)
    case post =>
      rintro c st' ⟨rfl, p, q, rfl, h1, h2, a1, a2⟩
      show wpS M A E s (galEnd left key xs base n (hint + 1 - min q (hint + 1)) (hint - p)) Q _
      refine fin _ _ ?_ ?_ (fun i x hi ex => ?_) fun i x hi hn ex => upp _ a1 i x hi hn ex
      · rcases a2 with z | ⟨z, _⟩ <;> omega
      · omega
      · rcases a2 with z | ⟨z, y⟩
        · omega
        · exact down _ (by omega) y i x (by omega) ex
    case fin =>
      rintro c st' ⟨rfl, p, q, rfl, h1, h2, h3, a1⟩
      exact ⟨rfl, p, q, rfl, h1, h3, a1, .inl (by omega)⟩
    case step =>
      rintro t c st' _ ht ⟨rfl, p, q, rfl, h1, h2, h3, a1⟩
      dsimp only
      by_cases hge : q ≥ hint + 1
      · rw [if_pos hge]
        exact wpS_pure ⟨rfl, p, q, rfl, h1, h3, a1, .inl hge⟩
      · rw [if_neg hge]
        obtain ⟨y, ey⟩ := at' (hint - q) (by omega)
        refine wpS_bind (wpS_byd o hk gk (ga _ _ ey) ey ?_)
        cases hy : o.byB left key y with
        | false => exact wpS_pure ⟨rfl, q, 2 * q + 1, rfl, by omega, by omega, by omega, y, ey, hy⟩
        | true => exact wpS_pure ⟨rfl, p, q, rfl, h1, h3, a1, .inr ⟨by omega, y, ey, hy⟩⟩
end
end BF
namespace BF
open PySem PyProof.Rows
section
variable {M : Model} {A : Around} {E : Value → Shared → Prop} {s : Shared} {kd : SortKind}
structure Ord.Mg (o : Ord M A E s kd) (la lb out : List Keyed) (i j : Nat) : Prop where
  perm : out.Perm (la.take i ++ lb.take j)
  up : out.Pairwise o.le
  la : ∀ x ∈ out, ∀ y ∈ la.drop i, o.le x y
  lb : ∀ x ∈ out, ∀ y ∈ lb.drop j, o.le x y
def Ord.Merged (o : Ord M A E s kd) (la lb out : List Keyed) : Prop := out.Perm (la ++ lb) ∧ out.Pairwise o.le
variable {o : Ord M A E s kd} {la lb out : List Keyed} {i j k : Nat}
theorem Ord.Mg.zero : o.Mg la lb [] 0 0 := ⟨by simp, .nil, by simp, by simp⟩
theorem mem_take_drop {x : Keyed} {l : List Keyed} {i k : Nat} (h : x ∈ (l.drop i).take k) : x ∈ l.drop i := List.mem_of_mem_take h
theorem Ord.Mg.manyA (m : o.Mg la lb out i j) (ua : la.Pairwise o.le) (h : ∀ x ∈ (la.drop i).take k, ∀ y ∈ lb.drop j, o.le x y) : o.Mg la lb (out ++ (la.drop i).take k) (i + k) j := by
  have e : la.take (i + k) = la.take i ++ (la.drop i).take k := List.take_add
  have ud : (la.drop i).Pairwise o.le := ua.sublist (List.drop_sublist _ _)
  have ed : (la.drop i).take k ++ la.drop (i + k) = la.drop i := by rw [← List.drop_drop]; exact List.take_append_drop k _
  refine ⟨?_, ?_, ?_, ?_⟩
  · rw [e]
    refine (m.perm.append_right _).trans ?_
    rw [List.append_assoc, List.append_assoc]
    exact List.Perm.append_left _ List.perm_append_comm
  · exact List.pairwise_append.mpr ⟨m.up, ud.sublist (List.take_sublist _ _), fun x hx y hy => m.la x hx y (mem_take_drop hy)⟩
  · intro x hx y hy
    rcases List.mem_append.mp hx with hx | hx
    · exact m.la x hx y (by rw [← ed]; exact List.mem_append_right _ hy)
    · rw [← ed] at ud
      exact (List.pairwise_append.mp ud).2.2 x hx y hy
  · intro x hx y hy
    rcases List.mem_append.mp hx with hx | hx
    · exact m.lb x hx y hy
    · exact h x hx y hy
theorem Ord.Mg.swap (m : o.Mg la lb out i j) : o.Mg lb la out j i := ⟨m.perm.trans List.perm_append_comm, m.up, m.lb, m.la⟩
theorem Ord.Mg.manyB (m : o.Mg la lb out i j) (ub : lb.Pairwise o.le) (h : ∀ x ∈ (lb.drop j).take k, ∀ y ∈ la.drop i, o.le x y) : o.Mg la lb (out ++ (lb.drop j).take k) i (j + k) := (m.swap.manyA ub h).swap
theorem Ord.Mg.endB (m : o.Mg la lb out i j) (ua : la.Pairwise o.le) (ub : lb.Pairwise o.le) (h : ∀ x ∈ lb.drop j, ∀ y ∈ la.drop i, o.le x y) : o.Merged la lb (out ++ lb.drop j ++ la.drop i) := by
  refine ⟨?_, ?_⟩
  · refine ((m.perm.append_right _).append_right _).trans ?_
    have e1 : la = la.take i ++ la.drop i := (List.take_append_drop _ _).symm
    have e2 : lb = lb.take j ++ lb.drop j := (List.take_append_drop _ _).symm
    refine List.Perm.trans ?_ (show (la.take i ++ la.drop i ++ (lb.take j ++ lb.drop j)).Perm (la ++ lb) by rw [← e1, ← e2])
    simp only [List.append_assoc]
    refine List.Perm.append_left _ ?_
    rw [← List.append_assoc]
    exact List.perm_append_comm
  · have ua' : (la.drop i).Pairwise o.le := ua.sublist (List.drop_sublist _ _)
    have ub' : (lb.drop j).Pairwise o.le := ub.sublist (List.drop_sublist _ _)
    refine List.pairwise_append.mpr ⟨List.pairwise_append.mpr ⟨m.up, ub', m.lb⟩, ua', fun x hx y hy => ?_⟩
    rcases List.mem_append.mp hx with hx | hx
    · exact m.la x hx y hy
    · exact h x hx y hy
theorem Ord.Merged.swap (m : o.Merged la lb out) : o.Merged lb la out := ⟨m.1.trans List.perm_append_comm, m.2⟩
theorem Ord.Mg.endA (m : o.Mg la lb out i j) (ua : la.Pairwise o.le) (ub : lb.Pairwise o.le) (h : ∀ x ∈ la.drop i, ∀ y ∈ lb.drop j, o.le x y) : o.Merged la lb (out ++ la.drop i ++ lb.drop j) := (m.swap.endB ub ua h).swap
end
theorem bind2 {α β : Type} {m m' : StateT SortSt Sem α} {f f' : α → StateT SortSt Sem β} (h : m = m') (k : f = f') : m >>= f = m' >>= f' := by rw [h, k]
def setG (g : Nat) : StateT SortSt Sem Unit := modify fun st => SortSt.mk' (kindOf st) (arrOf st) (pendingOf st) g (failedOf st)
section
abbrev MT1 := Option (Array Keyed) × Array Keyed × Nat × Nat × Nat × Nat
abbrev MT2 := Option (Array Keyed) × Array Keyed × Nat × Nat × Nat × Nat × Nat
abbrev MT0 := Option (Array Keyed) × Array Keyed × Nat × Nat × Nat
variable (u v : Array Keyed)
def loU (r : Array Keyed) (p q : Nat) : Array Keyed := r ++ u.extract p u.size ++ v.extract q v.size
def loV (r : Array Keyed) (p q : Nat) : Array Keyed := r ++ v.extract q v.size ++ u.extract p u.size
def loLin (g : Nat) (t : MT1) : StateT SortSt Sem (ForInStep MT1) := do
  let y ← elem' v t.2.2.2.1
  let x ← elem' u t.2.2.1
  match ← lt' y x with
  | some less =>
    if less then do
      let y ← elem' v t.2.2.2.1
      if t.2.2.2.1 + 1 == v.size then pure (.done (some (loU u v (t.2.1.push y) t.2.2.1 (t.2.2.2.1 + 1)), t.2.1.push y, t.2.2.1, t.2.2.2.1 + 1, 0, t.2.2.2.2.2 + 1))
      else if t.2.2.2.2.2 + 1 ≥ g then pure (.done (none, t.2.1.push y, t.2.2.1, t.2.2.2.1 + 1, 0, t.2.2.2.2.2 + 1))
      else pure (.yield (none, t.2.1.push y, t.2.2.1, t.2.2.2.1 + 1, 0, t.2.2.2.2.2 + 1))
    else do
      let x ← elem' u t.2.2.1
      if t.2.2.1 + 1 + 1 == u.size then pure (.done (some (loV u v (t.2.1.push x) (t.2.2.1 + 1) t.2.2.2.1), t.2.1.push x, t.2.2.1 + 1, t.2.2.2.1, t.2.2.2.2.1 + 1, 0))
      else if t.2.2.2.2.1 + 1 ≥ g then pure (.done (none, t.2.1.push x, t.2.2.1 + 1, t.2.2.2.1, t.2.2.2.2.1 + 1, 0))
      else pure (.yield (none, t.2.1.push x, t.2.2.1 + 1, t.2.2.2.1, t.2.2.2.2.1 + 1, 0))
  | _ => pure (.done (some (loU u v t.2.1 t.2.2.1 t.2.2.2.1), t.2.1, t.2.2.1, t.2.2.2.1, t.2.2.2.2.1, t.2.2.2.2.2))
def lo4 (r : Array Keyed) (p q g cu cv : Nat) : StateT SortSt Sem (ForInStep MT2) := do
  let x ← elem' u p
  if p + 1 + 1 == u.size then pure (.done (some (loV u v (r.push x) (p + 1) q), r.push x, p + 1, q, g, cu, cv))
  else if cu < 7 && cv < 7 then pure (.done (none, r.push x, p + 1, q, g, cu, cv))
  else pure (.yield (none, r.push x, p + 1, q, g, cu, cv))
def lo3 (r : Array Keyed) (p q g cu cv : Nat) : StateT SortSt Sem (ForInStep MT2) := do
  let x ← elem' u p
  match ← gal true x v q (v.size - q) 0 with
  | some k =>
    if k > 0 then
      if q + k == v.size then pure (.done (some (loU u v (r ++ v.extract q (q + k)) p (q + k)), r ++ v.extract q (q + k), p, q + k, g, cu, k))
      else lo4 u v (r ++ v.extract q (q + k)) p (q + k) g cu k
    else lo4 u v r p q g cu k
  | _ => pure (.done (some (loU u v r p q), r, p, q, g, cu, cv))
def lo2 (r : Array Keyed) (p q g cu cv : Nat) : StateT SortSt Sem (ForInStep MT2) := do
  let y ← elem' v q
  if q + 1 == v.size then pure (.done (some (loU u v (r.push y) p (q + 1)), r.push y, p, q + 1, g, cu, cv))
  else lo3 u v (r.push y) p (q + 1) g cu cv
def lo1 (r : Array Keyed) (p q g cu cv : Nat) : StateT SortSt Sem (ForInStep MT2) := do
  setG g
  let y ← elem' v q
  match ← gal false y u p (u.size - p) 0 with
  | some k =>
    if k > 0 then
      if p + k + 1 == u.size then pure (.done (some (loV u v (r ++ u.extract p (p + k)) (p + k) q), r ++ u.extract p (p + k), p + k, q, g, k, cv))
      else if p + k == u.size then pure (.done (some (loU u v (r ++ u.extract p (p + k)) (p + k) q), r ++ u.extract p (p + k), p + k, q, g, k, cv))
      else lo2 u v (r ++ u.extract p (p + k)) (p + k) q g k cv
    else lo2 u v r p q g k cv
  | _ => pure (.done (some (loU u v r p q), r, p, q, g, cu, cv))
def lo0 (t : MT2) : StateT SortSt Sem (ForInStep MT2) :=
  if t.2.2.2.2.1 > 1 then lo1 u v t.2.1 t.2.2.1 t.2.2.2.1 (t.2.2.2.2.1 - 1) t.2.2.2.2.2.1 t.2.2.2.2.2.2 else lo1 u v t.2.1 t.2.2.1 t.2.2.2.1 t.2.2.2.2.1 t.2.2.2.2.2.1 t.2.2.2.2.2.2
def loOut (t : MT0) : StateT SortSt Sem (ForInStep MT0) := do
  let t1 ← forIn [0:u.size + v.size] ((none, t.2.1, t.2.2.1, t.2.2.2.1, 0, 0) : MT1) (fun _ t1 => loLin u v t.2.2.2.2 t1)
  match t1.1 with
  | some z => pure (.done (some z, t1.2.1, t1.2.2.1, t1.2.2.2.1, t.2.2.2.2))
  | none => do
    rule "list.sort.gallop"
    let t2 ← forIn [0:u.size + v.size] ((none, t1.2.1, t1.2.2.1, t1.2.2.2.1, t.2.2.2.2 + 1, t1.2.2.2.2.1, t1.2.2.2.2.2) : MT2) (fun _ t2 => lo0 u v t2)
    match t2.1 with
    | some z => pure (.done (some z, t2.2.1, t2.2.2.1, t2.2.2.2.1, t2.2.2.2.2.1))
    | none => do
      setG (t2.2.2.2.2.1 + 1)
      pure (.yield (none, t2.2.1, t2.2.2.1, t2.2.2.2.1, t2.2.2.2.2.1 + 1))
def mlo : Array Keyed → Array Keyed → StateT SortSt Sem (Array Keyed) := sortPriv% PySem.Builtin.mergeLo
theorem mlo_eq0 (u v : Array Keyed) : mlo u v = (do
    rule "list.sort.merge-lo"
    let fullEnd (r : Array Keyed) (p q : Nat) := r ++ u.extract p u.size ++ v.extract q v.size
    let lastU (r : Array Keyed) (p q : Nat) := r ++ v.extract q v.size ++ u.extract p u.size
    let mut r : Array Keyed := #[← elem' v 0]
    let mut p := 0
    let mut q := 1
    if q == v.size then return fullEnd r p q
    if p + 1 == u.size then return lastU r p q
    let mut g := gallopOf (← get)
    for _ in [0:u.size + v.size] do
      let mut cu := 0
      let mut cv := 0
      for _ in [0:u.size + v.size] do
        let some less ← lt' (← elem' v q) (← elem' u p) | return fullEnd r p q
        if less then
          r := r.push (← elem' v q); q := q + 1; cv := cv + 1; cu := 0
          if q == v.size then return fullEnd r p q
          if cv ≥ g then break
        else
          r := r.push (← elem' u p); p := p + 1; cu := cu + 1; cv := 0
          if p + 1 == u.size then return lastU r p q
          if cu ≥ g then break
      rule "list.sort.gallop"
      g := g + 1
      for _ in [0:u.size + v.size] do
        if g > 1 then g := g - 1
        setG g
        let some k ← gal false (← elem' v q) u p (u.size - p) 0 | return fullEnd r p q
        cu := k
        if k > 0 then
          r := r ++ u.extract p (p + k); p := p + k
          if p + 1 == u.size then return lastU r p q
          if p == u.size then return fullEnd r p q
        r := r.push (← elem' v q); q := q + 1
        if q == v.size then return fullEnd r p q
        let some k ← gal true (← elem' u p) v q (v.size - q) 0 | return fullEnd r p q
        cv := k
        if k > 0 then
          r := r ++ v.extract q (q + k); q := q + k
          if q == v.size then return fullEnd r p q
        r := r.push (← elem' u p); p := p + 1
        if p + 1 == u.size then return lastU r p q
        if cu < 7 && cv < 7 then break
      g := g + 1
      setG g
    unsupported "internal:list.sort.merge-bound") := rfl
theorem mlo_eq : mlo u v = (do
    rule "list.sort.merge-lo"
    let y ← elem' v 0
    if 1 == v.size then pure (loU u v #[y] 0 1)
    else if 0 + 1 == u.size then pure (loV u v #[y] 0 1)
    else do
      let st ← get
      let t ← forIn [0:u.size + v.size] ((none, #[y], 0, 1, gallopOf st) : MT0) (fun _ t => loOut u v t)
      match t.1 with
      | some z => pure z
      | none => unsupported "internal:list.sort.merge-bound") := by
  rw [mlo_eq0]
  dsimp only [loOut, lo0, lo1, lo2, lo3, lo4, loLin, loU, loV]
  refine bind_congr fun _ => bind_congr fun y => ?_
  refine ite_congr rfl (fun _ => rfl) fun _ => ite_congr rfl (fun _ => rfl) fun _ => ?_
  refine bind_congr fun st => ?_
  refine bind2 (congrArg (forIn _ _) (funext fun x => funext fun t => ?_)) ?_
  · refine bind2 (congrArg (forIn _ _) (funext fun x => funext fun t1 => ?_)) (funext fun t1 => ?_)
    · refine bind_congr fun y => bind_congr fun x => bind_congr fun z => ?_
      cases z with
      | none => with_reducible rfl
      | some z => cases z <;> with_reducible rfl
    · obtain ⟨z, t1⟩ := t1
      cases z with
      | some z => with_reducible rfl
      | none =>
        dsimp only
        refine bind_congr fun _ => ?_
        refine bind2 (congrArg (forIn _ _) (funext fun x => funext fun t2 => ?_)) (funext fun t2 => ?_)
        · refine ite_congr rfl (fun _ => ?_) (fun _ => ?_)
          all_goals (refine bind_congr fun _ => bind_congr fun y => bind_congr fun k => ?_)
          all_goals cases k
          · with_reducible rfl
          · refine ite_congr rfl (fun _ => ite_congr rfl (fun _ => rfl) fun _ => ite_congr rfl (fun _ => rfl) fun _ => ?_) (fun _ => ?_)
            all_goals (refine bind_congr fun _ => ite_congr rfl (fun _ => rfl) fun _ => bind_congr fun _ => bind_congr fun k => ?_)
            all_goals cases k <;> with_reducible rfl
          · with_reducible rfl
          · refine ite_congr rfl (fun _ => ite_congr rfl (fun _ => rfl) fun _ => ite_congr rfl (fun _ => rfl) fun _ => ?_) (fun _ => ?_)
            all_goals (refine bind_congr fun _ => ite_congr rfl (fun _ => rfl) fun _ => bind_congr fun _ => bind_congr fun k => ?_)
            all_goals cases k <;> with_reducible rfl
        · obtain ⟨z, t2⟩ := t2
          cases z <;> with_reducible rfl
  · funext t
    obtain ⟨z, t⟩ := t
    cases z <;> with_reducible rfl
end
end BF
namespace BF
open PySem PyProof.Rows
section
variable {M : Model} {A : Around} {E : Value → Shared → Prop} {s : Shared} {kd : SortKind}
structure Gs (st st' : SortSt) : Prop where
  k : kindOf st' = kindOf st
  a : arrOf st' = arrOf st
  p : pendingOf st' = pendingOf st
  f : failedOf st' = failedOf st
theorem Gs.refl (st : SortSt) : Gs st st := ⟨rfl, rfl, rfl, rfl⟩
theorem wpS_setG {st st' : SortSt} {g : Nat} {Q : Unit → SortSt → Prop} (h : Gs st st') (k : ∀ st2, Gs st st2 → Q () st2) : wpS M A E s (setG g) Q st' :=
  wpS_modify (k _ ⟨h.k, h.a, h.p, h.f⟩)
theorem xt {u : Array Keyed} {p : Nat} : (u.extract p u.size).toList = u.toList.drop p := by
  rw [Array.toList_extract]
  show (u.toList.drop p).take (u.size - p) = _
  exact List.take_of_length_le (by simp)
theorem xk {u : Array Keyed} {p k : Nat} : (u.extract p (p + k)).toList = (u.toList.drop p).take k := by simp [Array.toList_extract, List.extract]
theorem at_lt {u : Array Keyed} {p : Nat} (h : p < u.size) : ∃ x, u[p]? = some x := ⟨u[p], getElem?_pos u p h⟩
theorem drop1 {u : Array Keyed} {p : Nat} {x : Keyed} (e : u[p]? = some x) : (u.toList.drop p).take 1 = [x] := by
  have e' : u.toList[p]? = some x := by simpa using e
  obtain ⟨h, rfl⟩ := List.getElem?_eq_some_iff.mp e'
  rw [List.drop_eq_getElem_cons h]
  rfl
theorem mem_drop_iff {u : Array Keyed} {p : Nat} {y : Keyed} : y ∈ u.toList.drop p ↔ ∃ i, p ≤ i ∧ u[i]? = some y := by
  rw [List.mem_iff_getElem?]
  constructor
  · rintro ⟨n, e⟩
    rw [List.getElem?_drop] at e
    exact ⟨p + n, by omega, by simpa using e⟩
  · rintro ⟨i, hi, e⟩
    exact ⟨i - p, by rw [List.getElem?_drop, show p + (i - p) = i by omega]; simpa using e⟩
theorem up_at {o : Ord M A E s kd} {u : Array Keyed} (uu : u.toList.Pairwise o.le) {i j : Nat} {x y : Keyed} (hij : i ≤ j) (ex : u[i]? = some x) (ey : u[j]? = some y) : o.le x y := by
  have ex' : u.toList[i]? = some x := by simpa using ex
  have ey' : u.toList[j]? = some y := by simpa using ey
  obtain ⟨h1, rfl⟩ := List.getElem?_eq_some_iff.mp ex'
  obtain ⟨h2, rfl⟩ := List.getElem?_eq_some_iff.mp ey'
  rcases Nat.lt_or_eq_of_le hij with h | h
  · exact List.pairwise_iff_getElem.mp uu i j h1 h2 h
  · subst h; exact o.le_refl _
theorem up_of {o : Ord M A E s kd} {u : Array Keyed} (uu : u.toList.Pairwise o.le) (lo hi : Nat) : o.up u lo hi := fun i j x y _ h _ ex ey => up_at uu h ex ey
theorem head_le {o : Ord M A E s kd} {u : Array Keyed} (uu : u.toList.Pairwise o.le) {p : Nat} {x : Keyed} (e : u[p]? = some x) : ∀ y ∈ u.toList.drop p, o.le x y := fun y hy => by
  obtain ⟨i, hi, ey⟩ := mem_drop_iff.mp hy
  exact up_at uu hi e ey
section
variable (o : Ord M A E s kd) (u v : Array Keyed)
structure LoPre : Prop where
  gu : o.all u
  gv : o.all v
  uu : u.toList.Pairwise o.le
  uv : v.toList.Pairwise o.le
  h2 : ∀ x y, x ∈ v.toList → u[u.size - 1]? = some y → o.le x y
def Live (r : Array Keyed) (p q : Nat) : Prop := o.Mg u.toList v.toList r.toList p q ∧ p + 1 < u.size ∧ q < v.size
def Res (z : Array Keyed) : Prop := o.Merged u.toList v.toList z.toList
end
variable {o : Ord M A E s kd} {u v : Array Keyed} {r : Array Keyed} {p q : Nat}
theorem Ord.Mg.pushA (m : o.Mg u.toList v.toList r.toList p q) (uu : u.toList.Pairwise o.le) {x : Keyed} (e : u[p]? = some x) (h : ∀ y ∈ v.toList.drop q, o.le x y) : o.Mg u.toList v.toList (r.push x).toList (p + 1) q := by
  have := m.manyA (k := 1) uu (by rw [drop1 e]; intro a ha y hy; rw [List.mem_singleton.mp ha]; exact h y hy)
  rw [drop1 e] at this
  simpa using this
theorem Ord.Mg.pushB (m : o.Mg u.toList v.toList r.toList p q) (uv : v.toList.Pairwise o.le) {y : Keyed} (e : v[q]? = some y) (h : ∀ x ∈ u.toList.drop p, o.le y x) : o.Mg u.toList v.toList (r.push y).toList p (q + 1) := by
  have := m.manyB (k := 1) uv (by rw [drop1 e]; intro a ha y hy; rw [List.mem_singleton.mp ha]; exact h y hy)
  rw [drop1 e] at this
  simpa using this
theorem resU (m : o.Mg u.toList v.toList r.toList p q) (uu : u.toList.Pairwise o.le) (uv : v.toList.Pairwise o.le) (h : u.size ≤ p ∨ v.size ≤ q) : Res o u v (loU u v r p q) := by
  unfold Res loU
  rw [Array.toList_append, Array.toList_append, xt, xt]
  refine m.endA uu uv fun x hx y hy => ?_
  rcases h with h | h
  · rw [List.drop_eq_nil_of_le (by simpa using h)] at hx; cases hx
  · rw [List.drop_eq_nil_of_le (by simpa using h)] at hy; cases hy
theorem resV (L : LoPre o u v) (m : o.Mg u.toList v.toList r.toList p q) (h : p + 1 = u.size) : Res o u v (loV u v r p q) := by
  unfold Res loV
  rw [Array.toList_append, Array.toList_append, xt, xt]
  refine m.endB L.uu L.uv fun x hx y hy => ?_
  obtain ⟨i, hi, ey⟩ := mem_drop_iff.mp hy
  have hi' : i < u.size := by
    rcases Nat.lt_or_ge i u.size with z | z
    · exact z
    · rw [getElem?_neg _ _ (by omega)] at ey; cases ey
  have : i = u.size - 1 := by omega
  subst this
  exact L.h2 x y (List.mem_of_mem_drop hx) ey
def lp (u v : Array Keyed) (o : Ord M A E s kd) (c : Nat) : ForInStep MT1 → Prop
  | .done (some z, _) => Res o u v z
  | .done (none, r, p, q, _) => Live o u v r p q ∧ c < p + q
  | .yield (some _, _) => False
  | .yield (none, r, p, q, _) => Live o u v r p q ∧ c < p + q
theorem wpS_loLin (L : LoPre o u v) {g a b : Nat} {st : SortSt} (hk : kindOf st = kd) (l : Live o u v r p q) : wpS M A E s (loLin u v g (none, r, p, q, a, b)) (fun t st' => st' = st ∧ lp u v o (p + q) t) st := by
  obtain ⟨m, hp, hq⟩ := l
  obtain ⟨x, ex⟩ := at_lt (u := u) (p := p) (by omega)
  obtain ⟨y, ey⟩ := at_lt hq
  unfold loLin
  refine wpS_bind (wpS_elem ey (wpS_bind (wpS_elem ex (wpS_bind (o.lt hk (L.gv _ _ ey) (L.gu _ _ ex) ?_)))))
  dsimp only
  cases hb : o.O.blt (o.key y) (o.key x) with
  | true =>
    refine wpS_bind (wpS_elem ey ?_)
    have m' := m.pushB L.uv ey fun z hz => o.le_trans (o.le_of_b hb) (head_le L.uu ex z hz)
    by_cases h1 : q + 1 = v.size
    · rw [if_pos (by simpa using h1)]
      exact wpS_pure ⟨rfl, resU m' L.uu L.uv (.inr (by omega))⟩
    · rw [if_neg (by simpa using h1)]
      split
      · exact wpS_pure ⟨rfl, ⟨m', hp, by omega⟩, by omega⟩
      · exact wpS_pure ⟨rfl, ⟨m', hp, by omega⟩, by omega⟩
  | false =>
    refine wpS_bind (wpS_elem ex ?_)
    have m' := m.pushA L.uu ex fun z hz => o.le_trans (o.le_of_nb hb) (head_le L.uv ey z hz)
    by_cases h1 : p + 1 + 1 = u.size
    · rw [if_pos (by simpa using h1)]
      exact wpS_pure ⟨rfl, resV L m' h1⟩
    · rw [if_neg (by simpa using h1)]
      split
      · exact wpS_pure ⟨rfl, ⟨m', by omega, hq⟩, by omega⟩
      · exact wpS_pure ⟨rfl, ⟨m', by omega, hq⟩, by omega⟩
end
end BF
namespace BF
open PySem PyProof.Rows
section
variable {M : Model} {A : Around} {E : Value → Shared → Prop} {s : Shared} {kd : SortKind} {o : Ord M A E s kd} {u v : Array Keyed} {r : Array Keyed} {p q g cu cv c : Nat} {st : SortSt}
theorem mem_take_iff {u : Array Keyed} {p k : Nat} {y : Keyed} (h : y ∈ (u.toList.drop p).take k) : ∃ i, i < k ∧ u[p + i]? = some y := by
  obtain ⟨n, e⟩ := List.mem_iff_getElem?.mp h
  rw [List.getElem?_take] at e
  split at e
  · rw [List.getElem?_drop] at e
    exact ⟨n, by assumption, by simpa using e⟩
  · cases e
theorem lt_of_at {u : Array Keyed} {i : Nat} {y : Keyed} (e : u[i]? = some y) : i < u.size := by
  rcases Nat.lt_or_ge i u.size with z | z
  · exact z
  · rw [getElem?_neg u i (by omega)] at e; cases e
def gp (u v : Array Keyed) (o : Ord M A E s kd) (c : Nat) : ForInStep MT2 → Prop
  | .done (some z, _) => Res o u v z
  | .done (none, r, p, q, _) => Live o u v r p q ∧ c < p + q
  | .yield (some _, _) => False
  | .yield (none, r, p, q, _) => Live o u v r p q ∧ c < p + q
theorem wpS_lo4 (L : LoPre o u v) (m : o.Mg u.toList v.toList r.toList p q) (hp : p + 1 < u.size) (hq : q < v.size) (hc : c ≤ p + q) {x : Keyed} (ex : u[p]? = some x) (hx : ∀ y ∈ v.toList.drop q, o.le x y) :
    wpS M A E s (lo4 u v r p q g cu cv) (fun t st' => st' = st ∧ gp u v o c t) st := by
  unfold lo4
  refine wpS_bind (wpS_elem ex ?_)
  have m' := m.pushA L.uu ex hx
  by_cases h1 : p + 1 + 1 = u.size
  · rw [if_pos (by simpa using h1)]
    exact wpS_pure ⟨rfl, resV L m' h1⟩
  · rw [if_neg (by simpa using h1)]
    split
    · exact wpS_pure ⟨rfl, ⟨m', by omega, hq⟩, by omega⟩
    · exact wpS_pure ⟨rfl, ⟨m', by omega, hq⟩, by omega⟩
theorem wpS_lo3 (L : LoPre o u v) (hk : kindOf st = kd) (m : o.Mg u.toList v.toList r.toList p q) (hp : p + 1 < u.size) (hq : q < v.size) (hc : c ≤ p + q) :
    wpS M A E s (lo3 u v r p q g cu cv) (fun t st' => st' = st ∧ gp u v o c t) st := by
  unfold lo3
  obtain ⟨x, ex⟩ := at_lt (u := u) (p := p) (by omega)
  refine wpS_bind (wpS_elem ex ?_)
  refine wpS_bind (wpS_gal o hk (L.gu _ _ ex) L.gv (by omega) (by omega) (up_of L.uv _ _) fun k hkn h1 h2 => ?_)
  have rest : ∀ y ∈ v.toList.drop (q + k), o.le x y := fun y hy => by
    obtain ⟨i, hi, ey⟩ := mem_drop_iff.mp hy
    have := lt_of_at ey
    exact o.le_of_nb (h2 (i - q) y (by omega) (by omega) (by rw [show q + (i - q) = i by omega]; exact ey))
  dsimp only
  split
  · have m' := m.manyB (k := k) L.uv fun a ha y hy => by
      obtain ⟨i, hi, ea⟩ := mem_take_iff ha
      exact o.le_trans (o.le_of_b (h1 i a hi ea)) (head_le L.uu ex y hy)
    have m'' : o.Mg u.toList v.toList (r ++ v.extract q (q + k)).toList p (q + k) := by rw [Array.toList_append, xk]; exact m'
    by_cases h3 : q + k = v.size
    · rw [if_pos (by simpa using h3)]
      exact wpS_pure ⟨rfl, resU m'' L.uu L.uv (.inr (by omega))⟩
    · rw [if_neg (by simpa using h3)]
      exact wpS_lo4 L m'' hp (by omega) (by omega) ex rest
  · have : k = 0 := by omega
    subst this
    exact wpS_lo4 L m hp hq hc ex rest
theorem wpS_lo2 (L : LoPre o u v) (hk : kindOf st = kd) (m : o.Mg u.toList v.toList r.toList p q) (hp : p + 1 < u.size) (hq : q < v.size) (hc : c ≤ p + q) {y : Keyed} (ey : v[q]? = some y) (hy : ∀ x ∈ u.toList.drop p, o.le y x) :
    wpS M A E s (lo2 u v r p q g cu cv) (fun t st' => st' = st ∧ gp u v o c t) st := by
  unfold lo2
  refine wpS_bind (wpS_elem ey ?_)
  have m' := m.pushB L.uv ey hy
  by_cases h1 : q + 1 = v.size
  · rw [if_pos (by simpa using h1)]
    exact wpS_pure ⟨rfl, resU m' L.uu L.uv (.inr (by omega))⟩
  · rw [if_neg (by simpa using h1)]
    exact wpS_lo3 L hk m' hp (by omega) (by omega)
theorem wpS_lo1 (L : LoPre o u v) {st0 : SortSt} (hs : Gs st0 st) (hk : kindOf st0 = kd) (l : Live o u v r p q) :
    wpS M A E s (lo1 u v r p q g cu cv) (fun t st' => Gs st0 st' ∧ gp u v o (p + q) t) st := by
  obtain ⟨m, hp, hq⟩ := l
  unfold lo1
  refine wpS_bind (wpS_setG hs fun st2 hs2 => ?_)
  have hk2 : kindOf st2 = kd := hs2.k.trans hk
  obtain ⟨y, ey⟩ := at_lt hq
  refine wpS_bind (wpS_elem ey ?_)
  refine wpS_bind (wpS_gal o hk2 (L.gv _ _ ey) L.gu (by omega) (by omega) (up_of L.uu _ _) fun k hkn h1 h2 => ?_)
  have rest : ∀ x ∈ u.toList.drop (p + k), o.le y x := fun x hx => by
    obtain ⟨i, hi, ex⟩ := mem_drop_iff.mp hx
    have := lt_of_at ex
    have z := h2 (i - p) x (by omega) (by omega) (by rw [show p + (i - p) = i by omega]; exact ex)
    exact o.le_of_b (by simpa [Ord.byB] using z)
  dsimp only
  split
  · have m' := m.manyA (k := k) L.uu fun a ha b hb => by
      obtain ⟨i, hi, ea⟩ := mem_take_iff ha
      have z := h1 i a hi ea
      have z' : o.b y a = false := by simpa [Ord.byB] using z
      exact o.le_trans (o.le_of_nb z') (head_le L.uv ey b hb)
    have m'' : o.Mg u.toList v.toList (r ++ u.extract p (p + k)).toList (p + k) q := by rw [Array.toList_append, xk]; exact m'
    by_cases h3 : p + k + 1 = u.size
    · rw [if_pos (by simpa using h3)]
      exact wpS_pure ⟨hs2, resV L m'' h3⟩
    · rw [if_neg (by simpa using h3)]
      by_cases h4 : p + k = u.size
      · rw [if_pos (by simpa using h4)]
        exact wpS_pure ⟨hs2, resU m'' L.uu L.uv (.inl (by omega))⟩
      · rw [if_neg (by simpa using h4)]
        exact wpS_mono (wpS_lo2 L hk2 m'' (by omega) hq (by omega) ey rest) fun t st' ⟨e, z⟩ => ⟨e ▸ hs2, z⟩
  · have : k = 0 := by omega
    subst this
    exact wpS_mono (wpS_lo2 L hk2 m hp hq (by omega) ey rest) fun t st' ⟨e, z⟩ => ⟨e ▸ hs2, z⟩
theorem wpS_lo0 (L : LoPre o u v) {st0 : SortSt} (hs : Gs st0 st) (hk : kindOf st0 = kd) (l : Live o u v r p q) :
    wpS M A E s (lo0 u v (none, r, p, q, g, cu, cv)) (fun t st' => Gs st0 st' ∧ gp u v o (p + q) t) st := by
  unfold lo0
  split
  · exact wpS_lo1 L hs hk l
  · exact wpS_lo1 L hs hk l
def op0 (u v : Array Keyed) (o : Ord M A E s kd) (c : Nat) : ForInStep MT0 → Prop
  | .done (some z, _) => Res o u v z
  | .done (none, _) => False
  | .yield (some _, _) => False
  | .yield (none, r, p, q, _) => Live o u v r p q ∧ c < p + q
theorem wpS_loOut (L : LoPre o u v) {st0 : SortSt} (hs : Gs st0 st) (hk : kindOf st0 = kd) (l : Live o u v r p q) :
    wpS M A E s (loOut u v (none, r, p, q, g)) (fun t st' => Gs st0 st' ∧ op0 u v o (p + q) t) st := by
  unfold loOut
  have hk1 : kindOf st = kd := hs.k.trans hk
  have hpos : 0 < u.size + v.size := by have := l.2.1; omega
  refine wpS_bind (wpS_mono (wpS_forRange (I := fun i t st' => st' = st ∧ ∃ r1 p1 q1 a b, t = (none, r1, p1, q1, a, b) ∧ Live o u v r1 p1 q1 ∧ p + q + i ≤ p1 + q1)
    (Q := fun t st' => st' = st ∧ ((∃ z t', t = (some z, t') ∧ Res o u v z) ∨ ∃ r1 p1 q1 a b, t = (none, r1, p1, q1, a, b) ∧ Live o u v r1 p1 q1 ∧ p + q < p1 + q1)) ?step ?fin ⟨rfl, r, p, q, 0, 0, rfl, l, by omega⟩) ?post)
  case fin =>
    rintro t st' ⟨rfl, r1, p1, q1, a, b, rfl, l1, hc⟩
    exact ⟨rfl, .inr ⟨r1, p1, q1, a, b, rfl, l1, by omega⟩⟩
  case step =>
    rintro i t st' _ hi ⟨rfl, r1, p1, q1, a, b, rfl, l1, hc⟩
    refine wpS_mono (wpS_loLin L hk1 l1) fun t st'' ⟨e, z⟩ => ?_
    subst e
    match t, z with
    | .done (some z, t'), hz => exact ⟨rfl, .inl ⟨z, t', rfl, hz⟩⟩
    | .done (none, r2, p2, q2, a2, b2), hz => exact ⟨rfl, .inr ⟨r2, p2, q2, a2, b2, rfl, hz.1, by have := hz.2; omega⟩⟩
    | .yield (none, r2, p2, q2, a2, b2), hz => exact ⟨rfl, r2, p2, q2, a2, b2, rfl, hz.1, by have := hz.2; omega⟩
  case post =>
    rintro t st' ⟨rfl, ⟨z, t', rfl, hz⟩ | ⟨r1, p1, q1, a, b, rfl, l1, hc⟩⟩
    · exact wpS_pure ⟨hs, hz⟩
    · dsimp only
      refine wpS_bind (wpS_lift (wpAny_rule ⟨rfl, ?_⟩))
      refine wpS_bind (wpS_mono (wpS_forRange (I := fun i t st2 => Gs st0 st2 ∧ ∃ r2 p2 q2 g2 a b, t = (none, r2, p2, q2, g2, a, b) ∧ Live o u v r2 p2 q2 ∧ p + q < p2 + q2)
        (Q := fun t st2 => Gs st0 st2 ∧ ((∃ z t', t = (some z, t') ∧ Res o u v z) ∨ ∃ r2 p2 q2 g2 a b, t = (none, r2, p2, q2, g2, a, b) ∧ Live o u v r2 p2 q2 ∧ p + q < p2 + q2)) ?step2 ?fin2 ⟨hs, r1, p1, q1, _, _, _, rfl, l1, hc⟩) ?post2)
      case fin2 =>
        rintro t st2 ⟨hs2, r2, p2, q2, g2, a, b, rfl, l2, hc2⟩
        exact ⟨hs2, .inr ⟨r2, p2, q2, g2, a, b, rfl, l2, hc2⟩⟩
      case step2 =>
        rintro i t st2 _ hi ⟨hs2, r2, p2, q2, g2, a, b, rfl, l2, hc2⟩
        refine wpS_mono (wpS_lo0 L hs2 hk l2) fun t st3 ⟨hs3, z⟩ => ?_
        match t, z with
        | .done (some z, t'), hz => exact ⟨hs3, .inl ⟨z, t', rfl, hz⟩⟩
        | .done (none, r3, p3, q3, g3, a3, b3), hz => exact ⟨hs3, .inr ⟨r3, p3, q3, g3, a3, b3, rfl, hz.1, by have := hz.2; omega⟩⟩
        | .yield (none, r3, p3, q3, g3, a3, b3), hz => exact ⟨hs3, r3, p3, q3, g3, a3, b3, rfl, hz.1, by have := hz.2; omega⟩
      case post2 =>
        rintro t st2 ⟨hs2, ⟨z, t', rfl, hz⟩ | ⟨r2, p2, q2, g2, a, b, rfl, l2, hc2⟩⟩
        · exact wpS_pure ⟨hs2, hz⟩
        · exact wpS_bind (wpS_setG hs2 fun st3 hs3 => wpS_pure ⟨hs3, l2, hc2⟩)
theorem wpS_mlo (L : LoPre o u v) {Q : Array Keyed → SortSt → Prop} (hk : kindOf st = kd) (hu : 0 < u.size) (hv : 0 < v.size)
    (h1 : ∀ x y, v[0]? = some x → y ∈ u.toList → o.le x y) (h : ∀ st' out, Gs st st' → o.Merged u.toList v.toList out.toList → Q out st') : wpS M A E s (mlo u v) Q st := by
  rw [mlo_eq]
  refine wpS_bind (wpS_lift (wpAny_rule ⟨rfl, ?_⟩))
  obtain ⟨y, ey⟩ := at_lt hv
  refine wpS_bind (wpS_elem ey ?_)
  have m : o.Mg u.toList v.toList (#[y] : Array Keyed).toList 0 1 := by
    have := (Ord.Mg.zero (o := o) (la := u.toList) (lb := v.toList)).pushB (r := #[]) L.uv ey (fun x hx => h1 y x ey (by simpa using hx))
    simpa using this
  by_cases h3 : 1 = v.size
  · rw [if_pos (by simpa using h3)]
    exact wpS_pure (h _ _ (.refl _) (resU m L.uu L.uv (.inr (by omega))))
  · rw [if_neg (by simpa using h3)]
    by_cases h4 : 0 + 1 = u.size
    · rw [if_pos (by simpa using h4)]
      exact wpS_pure (h _ _ (.refl _) (resV L m h4))
    · rw [if_neg (by simpa using h4)]
      refine wpS_bind (wpS_get ?_)
      refine wpS_bind (wpS_mono (wpS_forRange (I := fun i t st2 => Gs st st2 ∧ ∃ r2 p2 q2 g2, t = (none, r2, p2, q2, g2) ∧ Live o u v r2 p2 q2 ∧ i < p2 + q2)
        (Q := fun t st2 => Gs st st2 ∧ ∃ z t', t = (some z, t') ∧ Res o u v z) ?step ?fin ⟨.refl _, _, 0, 1, _, rfl, ⟨m, by omega, by omega⟩, by omega⟩) ?post)
      case fin =>
        rintro t st2 ⟨hs2, r2, p2, q2, g2, rfl, l2, hc⟩
        have := l2.2.1
        have := l2.2.2
        omega
      case step =>
        rintro i t st2 _ hi ⟨hs2, r2, p2, q2, g2, rfl, l2, hc⟩
        refine wpS_mono (wpS_loOut L hs2 hk l2) fun t st3 ⟨hs3, z⟩ => ?_
        match t, z with
        | .done (some z, t'), hz => exact ⟨hs3, z, t', rfl, hz⟩
        | .yield (none, r3, p3, q3, g3), hz => exact ⟨hs3, r3, p3, q3, g3, rfl, hz.1, by have := hz.2; omega⟩
      case post =>
        rintro t st2 ⟨hs2, z, t', rfl, hz⟩
        exact wpS_pure (h _ _ hs2 hz)
end
end BF
namespace BF
open PySem PyProof.Rows
section
abbrev NT1 := Option (Array Keyed) × Nat × Nat × Array Keyed × Nat × Nat
abbrev NT2 := Option (Array Keyed) × Nat × Nat × Array Keyed × Nat × Nat × Nat
abbrev NT0 := Option (Array Keyed) × Nat × Nat × Array Keyed × Nat
variable (u v : Array Keyed)
def hiU (p q : Nat) (r : Array Keyed) : Array Keyed := u.extract 0 p ++ v.extract 0 q ++ r.reverse
def hiV (p q : Nat) (r : Array Keyed) : Array Keyed := v.extract 0 q ++ u.extract 0 p ++ r.reverse
def hiLin (g : Nat) (t : NT1) : StateT SortSt Sem (ForInStep NT1) := do
  let y ← elem' v (t.2.2.1 - 1)
  let x ← elem' u (t.2.1 - 1)
  match ← lt' y x with
  | some less =>
    if less then do
      let x ← elem' u (t.2.1 - 1)
      if t.2.1 - 1 == 0 then pure (.done (some (hiU u v (t.2.1 - 1) t.2.2.1 (t.2.2.2.1.push x)), t.2.1 - 1, t.2.2.1, t.2.2.2.1.push x, t.2.2.2.2.1 + 1, 0))
      else if t.2.2.2.2.1 + 1 ≥ g then pure (.done (none, t.2.1 - 1, t.2.2.1, t.2.2.2.1.push x, t.2.2.2.2.1 + 1, 0))
      else pure (.yield (none, t.2.1 - 1, t.2.2.1, t.2.2.2.1.push x, t.2.2.2.2.1 + 1, 0))
    else do
      let y ← elem' v (t.2.2.1 - 1)
      if t.2.2.1 - 1 == 1 then pure (.done (some (hiV u v t.2.1 (t.2.2.1 - 1) (t.2.2.2.1.push y)), t.2.1, t.2.2.1 - 1, t.2.2.2.1.push y, 0, t.2.2.2.2.2 + 1))
      else if t.2.2.2.2.2 + 1 ≥ g then pure (.done (none, t.2.1, t.2.2.1 - 1, t.2.2.2.1.push y, 0, t.2.2.2.2.2 + 1))
      else pure (.yield (none, t.2.1, t.2.2.1 - 1, t.2.2.2.1.push y, 0, t.2.2.2.2.2 + 1))
  | _ => pure (.done (some (hiU u v t.2.1 t.2.2.1 t.2.2.2.1), t.2.1, t.2.2.1, t.2.2.2.1, t.2.2.2.2.1, t.2.2.2.2.2))
def hi4 (p q : Nat) (r : Array Keyed) (g cu cv : Nat) : StateT SortSt Sem (ForInStep NT2) := do
  let x ← elem' u (p - 1)
  if p - 1 == 0 then pure (.done (some (hiU u v (p - 1) q (r.push x)), p - 1, q, r.push x, g, cu, cv))
  else if cu < 7 && cv < 7 then pure (.done (none, p - 1, q, r.push x, g, cu, cv))
  else pure (.yield (none, p - 1, q, r.push x, g, cu, cv))
def hi3 (p q : Nat) (r : Array Keyed) (g cu cv : Nat) : StateT SortSt Sem (ForInStep NT2) := do
  let x ← elem' u (p - 1)
  match ← gal true x v 0 q (q - 1) with
  | some k =>
    if q - k > 0 then
      if k == 1 then pure (.done (some (hiV u v p k (r ++ (v.extract k q).reverse)), p, k, r ++ (v.extract k q).reverse, g, cu, q - k))
      else if k == 0 then pure (.done (some (hiU u v p k (r ++ (v.extract k q).reverse)), p, k, r ++ (v.extract k q).reverse, g, cu, q - k))
      else hi4 u v p k (r ++ (v.extract k q).reverse) g cu (q - k)
    else hi4 u v p q r g cu (q - k)
  | _ => pure (.done (some (hiU u v p q r), p, q, r, g, cu, cv))
def hi2 (p q : Nat) (r : Array Keyed) (g cu cv : Nat) : StateT SortSt Sem (ForInStep NT2) := do
  let y ← elem' v (q - 1)
  if q - 1 == 1 then pure (.done (some (hiV u v p (q - 1) (r.push y)), p, q - 1, r.push y, g, cu, cv))
  else hi3 u v p (q - 1) (r.push y) g cu cv
def hi1 (p q : Nat) (r : Array Keyed) (g cu cv : Nat) : StateT SortSt Sem (ForInStep NT2) := do
  setG g
  let y ← elem' v (q - 1)
  match ← gal false y u 0 p (p - 1) with
  | some k =>
    if p - k > 0 then
      if k == 0 then pure (.done (some (hiU u v k q (r ++ (u.extract k p).reverse)), k, q, r ++ (u.extract k p).reverse, g, p - k, cv))
      else hi2 u v k q (r ++ (u.extract k p).reverse) g (p - k) cv
    else hi2 u v p q r g (p - k) cv
  | _ => pure (.done (some (hiU u v p q r), p, q, r, g, cu, cv))
def hi0 (t : NT2) : StateT SortSt Sem (ForInStep NT2) :=
  if t.2.2.2.2.1 > 1 then hi1 u v t.2.1 t.2.2.1 t.2.2.2.1 (t.2.2.2.2.1 - 1) t.2.2.2.2.2.1 t.2.2.2.2.2.2 else hi1 u v t.2.1 t.2.2.1 t.2.2.2.1 t.2.2.2.2.1 t.2.2.2.2.2.1 t.2.2.2.2.2.2
def hiOut (t : NT0) : StateT SortSt Sem (ForInStep NT0) := do
  let t1 ← forIn [0:u.size + v.size] ((none, t.2.1, t.2.2.1, t.2.2.2.1, 0, 0) : NT1) (fun _ t1 => hiLin u v t.2.2.2.2 t1)
  match t1.1 with
  | some z => pure (.done (some z, t1.2.1, t1.2.2.1, t1.2.2.2.1, t.2.2.2.2))
  | none => do
    rule "list.sort.gallop"
    let t2 ← forIn [0:u.size + v.size] ((none, t1.2.1, t1.2.2.1, t1.2.2.2.1, t.2.2.2.2 + 1, t1.2.2.2.2.1, t1.2.2.2.2.2) : NT2) (fun _ t2 => hi0 u v t2)
    match t2.1 with
    | some z => pure (.done (some z, t2.2.1, t2.2.2.1, t2.2.2.2.1, t2.2.2.2.2.1))
    | none => do
      setG (t2.2.2.2.2.1 + 1)
      pure (.yield (none, t2.2.1, t2.2.2.1, t2.2.2.2.1, t2.2.2.2.2.1 + 1))
def mhi : Array Keyed → Array Keyed → StateT SortSt Sem (Array Keyed) := sortPriv% PySem.Builtin.mergeHi
theorem mhi_eq0 : mhi u v = (do
    rule "list.sort.merge-hi"
    let fullEnd (r : Array Keyed) (p q : Nat) := u.extract 0 p ++ v.extract 0 q ++ r.reverse
    let firstV (r : Array Keyed) (p q : Nat) := v.extract 0 q ++ u.extract 0 p ++ r.reverse
    let mut p := u.size - 1
    let mut q := v.size
    let mut r : Array Keyed := #[← elem' u p]
    if p == 0 then return fullEnd r p q
    if q == 1 then return firstV r p q
    let mut g := gallopOf (← get)
    for _ in [0:u.size + v.size] do
      let mut cu := 0
      let mut cv := 0
      for _ in [0:u.size + v.size] do
        let some less ← lt' (← elem' v (q - 1)) (← elem' u (p - 1)) | return fullEnd r p q
        if less then
          p := p - 1; r := r.push (← elem' u p); cu := cu + 1; cv := 0
          if p == 0 then return fullEnd r p q
          if cu ≥ g then break
        else
          q := q - 1; r := r.push (← elem' v q); cv := cv + 1; cu := 0
          if q == 1 then return firstV r p q
          if cv ≥ g then break
      rule "list.sort.gallop"
      g := g + 1
      for _ in [0:u.size + v.size] do
        if g > 1 then g := g - 1
        setG g
        let some m ← gal false (← elem' v (q - 1)) u 0 p (p - 1) | return fullEnd r p q
        let k := p - m
        cu := k
        if k > 0 then
          r := r ++ (u.extract m p).reverse; p := m
          if p == 0 then return fullEnd r p q
        q := q - 1; r := r.push (← elem' v q)
        if q == 1 then return firstV r p q
        let some m ← gal true (← elem' u (p - 1)) v 0 q (q - 1) | return fullEnd r p q
        let k := q - m
        cv := k
        if k > 0 then
          r := r ++ (v.extract m q).reverse; q := m
          if q == 1 then return firstV r p q
          if q == 0 then return fullEnd r p q
        p := p - 1; r := r.push (← elem' u p)
        if p == 0 then return fullEnd r p q
        if cu < 7 && cv < 7 then break
      g := g + 1
      setG g
    unsupported "internal:list.sort.merge-bound") := rfl
theorem mhi_eq : mhi u v = (do
    rule "list.sort.merge-hi"
    let x ← elem' u (u.size - 1)
    if u.size - 1 == 0 then pure (hiU u v (u.size - 1) v.size #[x])
    else if v.size == 1 then pure (hiV u v (u.size - 1) v.size #[x])
    else do
      let st ← get
      let t ← forIn [0:u.size + v.size] ((none, u.size - 1, v.size, #[x], gallopOf st) : NT0) (fun _ t => hiOut u v t)
      match t.1 with
      | some z => pure z
      | none => unsupported "internal:list.sort.merge-bound") := by
  rw [mhi_eq0]
  dsimp only [hiOut, hi0, hi1, hi2, hi3, hi4, hiLin, hiU, hiV]
  refine bind_congr fun _ => bind_congr fun y => ?_
  refine ite_congr rfl (fun _ => rfl) fun _ => ite_congr rfl (fun _ => rfl) fun _ => ?_
  refine bind_congr fun st => ?_
  refine bind2 (congrArg (forIn _ _) (funext fun x => funext fun t => ?_)) ?_
  · refine bind2 (congrArg (forIn _ _) (funext fun x => funext fun t1 => ?_)) (funext fun t1 => ?_)
    · refine bind_congr fun y => bind_congr fun x => bind_congr fun z => ?_
      cases z with
      | none => with_reducible rfl
      | some z => cases z <;> with_reducible rfl
    · obtain ⟨z, t1⟩ := t1
      cases z with
      | some z => with_reducible rfl
      | none =>
        dsimp only
        refine bind_congr fun _ => ?_
        refine bind2 (congrArg (forIn _ _) (funext fun x => funext fun t2 => ?_)) (funext fun t2 => ?_)
        · refine ite_congr rfl (fun _ => ?_) (fun _ => ?_)
          all_goals (refine bind_congr fun _ => bind_congr fun y => bind_congr fun k => ?_)
          all_goals cases k
          · with_reducible rfl
          · refine ite_congr rfl (fun _ => ite_congr rfl (fun _ => rfl) fun _ => ?_) (fun _ => ?_)
            all_goals (refine bind_congr fun _ => ite_congr rfl (fun _ => rfl) fun _ => bind_congr fun _ => bind_congr fun k => ?_)
            all_goals cases k <;> with_reducible rfl
          · with_reducible rfl
          · refine ite_congr rfl (fun _ => ite_congr rfl (fun _ => rfl) fun _ => ?_) (fun _ => ?_)
            all_goals (refine bind_congr fun _ => ite_congr rfl (fun _ => rfl) fun _ => bind_congr fun _ => bind_congr fun k => ?_)
            all_goals cases k <;> with_reducible rfl
        · obtain ⟨z, t2⟩ := t2
          cases z <;> with_reducible rfl
  · funext t
    obtain ⟨z, t⟩ := t
    cases z <;> with_reducible rfl
end
end BF
namespace BF
open PySem PyProof.Rows
section
variable {M : Model} {A : Around} {E : Value → Shared → Prop} {s : Shared} {kd : SortKind}
structure Ord.Hg (o : Ord M A E s kd) (la lb out : List Keyed) (i j : Nat) : Prop where
  perm : out.Perm (la.drop i ++ lb.drop j)
  up : out.Pairwise o.le
  la : ∀ x ∈ out, ∀ y ∈ la.take i, o.le y x
  lb : ∀ x ∈ out, ∀ y ∈ lb.take j, o.le y x
section
variable {o : Ord M A E s kd} {la lb out : List Keyed} {i j k : Nat}
theorem Ord.Hg.manyA (m : o.Hg la lb out i j) (ua : la.Pairwise o.le) (hk : k ≤ i) (h : ∀ x ∈ (la.take i).drop k, ∀ y ∈ lb.take j, o.le y x) : o.Hg la lb ((la.take i).drop k ++ out) k j := by
  have ut : (la.take i).Pairwise o.le := ua.sublist (List.take_sublist _ _)
  have et : la.take k ++ (la.take i).drop k = la.take i := by
    have := List.take_append_drop k (la.take i)
    rwa [List.take_take, Nat.min_eq_left hk] at this
  have ed : (la.take i).drop k ++ la.drop i = la.drop k := by
    have : (la.take i ++ la.drop i).drop k = la.drop k := by rw [List.take_append_drop]
    rw [← this, List.drop_append]
    by_cases hl : k ≤ (la.take i).length
    · rw [Nat.sub_eq_zero_of_le hl, List.drop_zero]
    · have hl' : la.length < k := by
        rw [List.length_take] at hl
        omega
      rw [List.drop_eq_nil_of_le (show (la.take i).length ≤ k by rw [List.length_take]; omega), List.drop_eq_nil_of_le (show la.length ≤ i by omega)]
      simp
  refine ⟨?_, ?_, ?_, ?_⟩
  · rw [← ed, List.append_assoc]
    exact List.Perm.append_left _ m.perm
  · exact List.pairwise_append.mpr ⟨ut.sublist (List.drop_sublist _ _), m.up, fun x hx y hy => m.la y hy x (List.mem_of_mem_drop hx)⟩
  · intro x hx y hy
    rcases List.mem_append.mp hx with hx | hx
    · rw [← et] at ut
      exact (List.pairwise_append.mp ut).2.2 y hy x hx
    · exact m.la x hx y (by rw [← et]; exact List.mem_append_left _ hy)
  · intro x hx y hy
    rcases List.mem_append.mp hx with hx | hx
    · exact h x hx y hy
    · exact m.lb x hx y hy
theorem Ord.Hg.swap (m : o.Hg la lb out i j) : o.Hg lb la out j i := ⟨m.perm.trans List.perm_append_comm, m.up, m.lb, m.la⟩
theorem Ord.Hg.manyB (m : o.Hg la lb out i j) (ub : lb.Pairwise o.le) (hk : k ≤ j) (h : ∀ x ∈ (lb.take j).drop k, ∀ y ∈ la.take i, o.le y x) : o.Hg la lb ((lb.take j).drop k ++ out) i k := (m.swap.manyA ub hk h).swap
theorem Ord.Hg.endA (m : o.Hg la lb out i j) (ua : la.Pairwise o.le) (ub : lb.Pairwise o.le) (h : ∀ x ∈ la.take i, ∀ y ∈ lb.take j, o.le x y) : o.Merged la lb (la.take i ++ lb.take j ++ out) := by
  refine ⟨?_, ?_⟩
  · refine (List.Perm.append_left _ m.perm).trans ?_
    have e1 : la = la.take i ++ la.drop i := (List.take_append_drop _ _).symm
    have e2 : lb = lb.take j ++ lb.drop j := (List.take_append_drop _ _).symm
    refine List.Perm.trans ?_ (show (la.take i ++ la.drop i ++ (lb.take j ++ lb.drop j)).Perm (la ++ lb) by rw [← e1, ← e2])
    simp only [List.append_assoc]
    refine List.Perm.append_left _ ?_
    rw [← List.append_assoc, ← List.append_assoc]
    exact List.Perm.append_right _ List.perm_append_comm
  · refine List.pairwise_append.mpr ⟨List.pairwise_append.mpr ⟨ua.sublist (List.take_sublist _ _), ub.sublist (List.take_sublist _ _), h⟩, m.up, fun x hx y hy => ?_⟩
    rcases List.mem_append.mp hx with hx | hx
    · exact m.la y hy x hx
    · exact m.lb y hy x hx
theorem Ord.Hg.endB (m : o.Hg la lb out i j) (ua : la.Pairwise o.le) (ub : lb.Pairwise o.le) (h : ∀ x ∈ lb.take j, ∀ y ∈ la.take i, o.le x y) : o.Merged la lb (lb.take j ++ la.take i ++ out) := (m.swap.endA ub ua h).swap
end
theorem x0 {u : Array Keyed} {p : Nat} : (u.extract 0 p).toList = u.toList.take p := by
  rw [Array.toList_extract]
  show (u.toList.drop 0).take (p - 0) = _
  simp
theorem xd {u : Array Keyed} {k p : Nat} : (u.extract k p).toList = (u.toList.take p).drop k := by
  rw [Array.toList_extract, List.drop_take]
theorem mem_upto {u : Array Keyed} {p : Nat} {y : Keyed} (h : y ∈ u.toList.take p) : ∃ i, i < p ∧ u[i]? = some y := by
  obtain ⟨i, hi, e⟩ := mem_take_iff (u := u) (p := 0) (k := p) (by simpa using h)
  exact ⟨i, hi, by simpa using e⟩
theorem mem_seg {u : Array Keyed} {k p : Nat} {y : Keyed} (h : y ∈ (u.toList.take p).drop k) : ∃ i, k ≤ i ∧ i < p ∧ u[i]? = some y := by
  obtain ⟨n, e⟩ := List.mem_iff_getElem?.mp h
  rw [List.getElem?_drop, List.getElem?_take] at e
  split at e
  · exact ⟨k + n, by omega, by assumption, by simpa using e⟩
  · cases e
theorem seg1 {u : Array Keyed} {p : Nat} {x : Keyed} (h0 : 0 < p) (e : u[p - 1]? = some x) : (u.toList.take p).drop (p - 1) = [x] := by
  rw [List.drop_take, show p - (p - 1) = 1 by omega]
  exact drop1 e
theorem last_ge {o : Ord M A E s kd} {u : Array Keyed} (uu : u.toList.Pairwise o.le) {p : Nat} {x : Keyed} (e : u[p - 1]? = some x) : ∀ y ∈ u.toList.take p, o.le y x := fun y hy => by
  obtain ⟨i, hi, ey⟩ := mem_upto hy
  exact up_at uu (by omega) ey e
section
variable (o : Ord M A E s kd) (u v : Array Keyed)
structure HiPre : Prop where
  gu : o.all u
  gv : o.all v
  uu : u.toList.Pairwise o.le
  uv : v.toList.Pairwise o.le
  h1 : ∀ x y, v[0]? = some x → y ∈ u.toList → o.le x y
def LiveH (p q : Nat) (r : Array Keyed) : Prop := o.Hg u.toList v.toList r.toList.reverse p q ∧ 0 < p ∧ 1 < q ∧ p ≤ u.size ∧ q ≤ v.size
end
variable {o : Ord M A E s kd} {u v : Array Keyed} {r : Array Keyed} {p q g cu cv c : Nat} {st : SortSt}
theorem Ord.Hg.pushA (m : o.Hg u.toList v.toList r.toList.reverse p q) (uu : u.toList.Pairwise o.le) (h0 : 0 < p) {x : Keyed} (e : u[p - 1]? = some x) (h : ∀ y ∈ v.toList.take q, o.le y x) : o.Hg u.toList v.toList (r.push x).toList.reverse (p - 1) q := by
  have := m.manyA (k := p - 1) uu (by omega) (by rw [seg1 h0 e]; intro a ha y hy; rw [List.mem_singleton.mp ha]; exact h y hy)
  rw [seg1 h0 e] at this
  simpa using this
theorem Ord.Hg.pushB (m : o.Hg u.toList v.toList r.toList.reverse p q) (uv : v.toList.Pairwise o.le) (h0 : 0 < q) {y : Keyed} (e : v[q - 1]? = some y) (h : ∀ x ∈ u.toList.take p, o.le x y) : o.Hg u.toList v.toList (r.push y).toList.reverse p (q - 1) := by
  have := m.manyB (k := q - 1) uv (by omega) (by rw [seg1 h0 e]; intro a ha y hy; rw [List.mem_singleton.mp ha]; exact h y hy)
  rw [seg1 h0 e] at this
  simpa using this
theorem resHU (m : o.Hg u.toList v.toList r.toList.reverse p q) (uu : u.toList.Pairwise o.le) (uv : v.toList.Pairwise o.le) (h : p = 0 ∨ q = 0) : Res o u v (hiU u v p q r) := by
  unfold Res hiU
  rw [Array.toList_append, Array.toList_append, x0, x0, Array.toList_reverse]
  refine m.endA uu uv fun x hx y hy => ?_
  rcases h with rfl | rfl
  · rw [List.take_zero] at hx; cases hx
  · rw [List.take_zero] at hy; cases hy
theorem resHV (L : HiPre o u v) (m : o.Hg u.toList v.toList r.toList.reverse p q) (h : q = 1) : Res o u v (hiV u v p q r) := by
  unfold Res hiV
  rw [Array.toList_append, Array.toList_append, x0, x0, Array.toList_reverse]
  refine m.endB L.uu L.uv fun x hx y hy => ?_
  subst h
  obtain ⟨i, hi, ex⟩ := mem_upto hx
  have : i = 0 := by omega
  subst this
  exact L.h1 x y ex (List.mem_of_mem_take hy)
def hlp (u v : Array Keyed) (o : Ord M A E s kd) (c : Nat) : ForInStep NT1 → Prop
  | .done (some z, _) => Res o u v z
  | .done (none, p, q, r, _) => LiveH o u v p q r ∧ p + q < c
  | .yield (some _, _) => False
  | .yield (none, p, q, r, _) => LiveH o u v p q r ∧ p + q < c
theorem wpS_hiLin (L : HiPre o u v) {a b : Nat} (hk : kindOf st = kd) (l : LiveH o u v p q r) : wpS M A E s (hiLin u v g (none, p, q, r, a, b)) (fun t st' => st' = st ∧ hlp u v o (p + q) t) st := by
  obtain ⟨m, hp, hq, hpu, hqv⟩ := l
  obtain ⟨x, ex⟩ := at_lt (u := u) (p := p - 1) (by omega)
  obtain ⟨y, ey⟩ := at_lt (u := v) (p := q - 1) (by omega)
  unfold hiLin
  refine wpS_bind (wpS_elem ey (wpS_bind (wpS_elem ex (wpS_bind (o.lt hk (L.gv _ _ ey) (L.gu _ _ ex) ?_)))))
  dsimp only
  cases hb : o.O.blt (o.key y) (o.key x) with
  | true =>
    refine wpS_bind (wpS_elem ex ?_)
    have m' := m.pushA L.uu hp ex fun z hz => o.le_trans (last_ge L.uv ey z hz) (o.le_of_b hb)
    by_cases h1 : p - 1 = 0
    · rw [if_pos (by simpa using h1)]
      exact wpS_pure ⟨rfl, resHU m' L.uu L.uv (.inl h1)⟩
    · rw [if_neg (by simpa using h1)]
      split
      · exact wpS_pure ⟨rfl, ⟨m', by omega, hq, by omega, hqv⟩, by omega⟩
      · exact wpS_pure ⟨rfl, ⟨m', by omega, hq, by omega, hqv⟩, by omega⟩
  | false =>
    refine wpS_bind (wpS_elem ey ?_)
    have m' := m.pushB L.uv (by omega) ey fun z hz => o.le_trans (last_ge L.uu ex z hz) (o.le_of_nb hb)
    by_cases h1 : q - 1 = 1
    · rw [if_pos (by simpa using h1)]
      exact wpS_pure ⟨rfl, resHV L m' h1⟩
    · rw [if_neg (by simpa using h1)]
      split
      · exact wpS_pure ⟨rfl, ⟨m', hp, by omega, hpu, by omega⟩, by omega⟩
      · exact wpS_pure ⟨rfl, ⟨m', hp, by omega, hpu, by omega⟩, by omega⟩
def hgp (u v : Array Keyed) (o : Ord M A E s kd) (c : Nat) : ForInStep NT2 → Prop
  | .done (some z, _) => Res o u v z
  | .done (none, p, q, r, _) => LiveH o u v p q r ∧ p + q < c
  | .yield (some _, _) => False
  | .yield (none, p, q, r, _) => LiveH o u v p q r ∧ p + q < c
theorem wpS_hi4 (L : HiPre o u v) (l : LiveH o u v p q r) (hc : p + q ≤ c) {x : Keyed} (ex : u[p - 1]? = some x) (hx : ∀ y ∈ v.toList.take q, o.le y x) :
    wpS M A E s (hi4 u v p q r g cu cv) (fun t st' => st' = st ∧ hgp u v o c t) st := by
  obtain ⟨m, hp, hq, hpu, hqv⟩ := l
  unfold hi4
  refine wpS_bind (wpS_elem ex ?_)
  have m' := m.pushA L.uu hp ex hx
  by_cases h1 : p - 1 = 0
  · rw [if_pos (by simpa using h1)]
    exact wpS_pure ⟨rfl, resHU m' L.uu L.uv (.inl h1)⟩
  · rw [if_neg (by simpa using h1)]
    split
    · exact wpS_pure ⟨rfl, ⟨m', by omega, hq, by omega, hqv⟩, by omega⟩
    · exact wpS_pure ⟨rfl, ⟨m', by omega, hq, by omega, hqv⟩, by omega⟩
theorem wpS_hi3 (L : HiPre o u v) (hk : kindOf st = kd) (l : LiveH o u v p q r) (hc : p + q ≤ c) :
    wpS M A E s (hi3 u v p q r g cu cv) (fun t st' => st' = st ∧ hgp u v o c t) st := by
  obtain ⟨m, hp, hq, hpu, hqv⟩ := l
  unfold hi3
  obtain ⟨x, ex⟩ := at_lt (u := u) (p := p - 1) (by omega)
  refine wpS_bind (wpS_elem ex ?_)
  refine wpS_bind (wpS_gal o hk (L.gu _ _ ex) L.gv (by omega) (by omega) (up_of L.uv _ _) fun k hkn h1 h2 => ?_)
  have rest : ∀ y ∈ v.toList.take k, o.le y x := fun y hy => by
    obtain ⟨i, hi, ey⟩ := mem_upto hy
    exact o.le_of_b (h1 i y hi (by rw [Nat.zero_add]; exact ey))
  dsimp only
  split
  · have m' := m.manyB (k := k) L.uv hkn fun b hb a ha => by
      obtain ⟨i, hi, hi2, eb⟩ := mem_seg hb
      exact o.le_trans (last_ge L.uu ex a ha) (o.le_of_nb (h2 i b hi hi2 (by rw [Nat.zero_add]; exact eb)))
    have m'' : o.Hg u.toList v.toList (r ++ (v.extract k q).reverse).toList.reverse p k := by
      rw [Array.toList_append, List.reverse_append, Array.toList_reverse, List.reverse_reverse, xd]; exact m'
    by_cases h3 : k = 1
    · rw [if_pos (by simpa using h3)]
      exact wpS_pure ⟨rfl, resHV L m'' h3⟩
    · rw [if_neg (by simpa using h3)]
      by_cases h4 : k = 0
      · rw [if_pos (by simpa using h4)]
        exact wpS_pure ⟨rfl, resHU m'' L.uu L.uv (.inr h4)⟩
      · rw [if_neg (by simpa using h4)]
        exact wpS_hi4 L ⟨m'', hp, by omega, hpu, by omega⟩ (by omega) ex rest
  · have : k = q := by omega
    subst this
    exact wpS_hi4 L ⟨m, hp, hq, hpu, hqv⟩ hc ex rest
theorem wpS_hi2 (L : HiPre o u v) (hk : kindOf st = kd) (l : LiveH o u v p q r) (hc : p + q ≤ c) {y : Keyed} (ey : v[q - 1]? = some y) (hy : ∀ x ∈ u.toList.take p, o.le x y) :
    wpS M A E s (hi2 u v p q r g cu cv) (fun t st' => st' = st ∧ hgp u v o c t) st := by
  obtain ⟨m, hp, hq, hpu, hqv⟩ := l
  unfold hi2
  refine wpS_bind (wpS_elem ey ?_)
  have m' := m.pushB L.uv (by omega) ey hy
  by_cases h1 : q - 1 = 1
  · rw [if_pos (by simpa using h1)]
    exact wpS_pure ⟨rfl, resHV L m' h1⟩
  · rw [if_neg (by simpa using h1)]
    exact wpS_hi3 L hk ⟨m', hp, by omega, hpu, by omega⟩ (by omega)
theorem wpS_hi1 (L : HiPre o u v) {st0 : SortSt} (hs : Gs st0 st) (hk : kindOf st0 = kd) (l : LiveH o u v p q r) :
    wpS M A E s (hi1 u v p q r g cu cv) (fun t st' => Gs st0 st' ∧ hgp u v o (p + q) t) st := by
  obtain ⟨m, hp, hq, hpu, hqv⟩ := id l
  unfold hi1
  refine wpS_bind (wpS_setG hs fun st2 hs2 => ?_)
  have hk2 : kindOf st2 = kd := hs2.k.trans hk
  obtain ⟨y, ey⟩ := at_lt (u := v) (p := q - 1) (by omega)
  refine wpS_bind (wpS_elem ey ?_)
  refine wpS_bind (wpS_gal o hk2 (L.gv _ _ ey) L.gu (by omega) (by omega) (up_of L.uu _ _) fun k hkn h1 h2 => ?_)
  have rest : ∀ x ∈ u.toList.take k, o.le x y := fun x hx => by
    obtain ⟨i, hi, ex⟩ := mem_upto hx
    have z := h1 i x hi (by rw [Nat.zero_add]; exact ex)
    have z' : o.b y x = false := by simpa [Ord.byB] using z
    exact o.le_of_nb z'
  dsimp only
  split
  · have m' := m.manyA (k := k) L.uu hkn fun a ha b hb => by
      obtain ⟨i, hi, hi2, ea⟩ := mem_seg ha
      have z := h2 i a hi hi2 (by rw [Nat.zero_add]; exact ea)
      have z' : o.b y a = true := by simpa [Ord.byB] using z
      exact o.le_trans (last_ge L.uv ey b hb) (o.le_of_b z')
    have m'' : o.Hg u.toList v.toList (r ++ (u.extract k p).reverse).toList.reverse k q := by
      rw [Array.toList_append, List.reverse_append, Array.toList_reverse, List.reverse_reverse, xd]; exact m'
    by_cases h4 : k = 0
    · rw [if_pos (by simpa using h4)]
      exact wpS_pure ⟨hs2, resHU m'' L.uu L.uv (.inl h4)⟩
    · rw [if_neg (by simpa using h4)]
      exact wpS_mono (wpS_hi2 L hk2 ⟨m'', by omega, hq, by omega, hqv⟩ (by omega) ey rest) fun t st' ⟨e, z⟩ => ⟨e ▸ hs2, z⟩
  · have : k = p := by omega
    subst this
    exact wpS_mono (wpS_hi2 L hk2 l (by omega) ey rest) fun t st' ⟨e, z⟩ => ⟨e ▸ hs2, z⟩
theorem wpS_hi0 (L : HiPre o u v) {st0 : SortSt} (hs : Gs st0 st) (hk : kindOf st0 = kd) (l : LiveH o u v p q r) :
    wpS M A E s (hi0 u v (none, p, q, r, g, cu, cv)) (fun t st' => Gs st0 st' ∧ hgp u v o (p + q) t) st := by
  unfold hi0
  split
  · exact wpS_hi1 L hs hk l
  · exact wpS_hi1 L hs hk l
def hop (u v : Array Keyed) (o : Ord M A E s kd) (c : Nat) : ForInStep NT0 → Prop
  | .done (some z, _) => Res o u v z
  | .done (none, _) => False
  | .yield (some _, _) => False
  | .yield (none, p, q, r, _) => LiveH o u v p q r ∧ p + q < c
theorem wpS_hiOut (L : HiPre o u v) {st0 : SortSt} (hs : Gs st0 st) (hk : kindOf st0 = kd) (l : LiveH o u v p q r) :
    wpS M A E s (hiOut u v (none, p, q, r, g)) (fun t st' => Gs st0 st' ∧ hop u v o (p + q) t) st := by
  unfold hiOut
  have hk1 : kindOf st = kd := hs.k.trans hk
  have hpos : 0 < u.size + v.size := by have := l.2.2.2.1; have := l.2.1; omega
  refine wpS_bind (wpS_mono (wpS_forRange (I := fun i t st' => st' = st ∧ ∃ p1 q1 r1 a b, t = (none, p1, q1, r1, a, b) ∧ LiveH o u v p1 q1 r1 ∧ p1 + q1 + i ≤ p + q)
    (Q := fun t st' => st' = st ∧ ((∃ z t', t = (some z, t') ∧ Res o u v z) ∨ ∃ p1 q1 r1 a b, t = (none, p1, q1, r1, a, b) ∧ LiveH o u v p1 q1 r1 ∧ p1 + q1 < p + q)) ?step ?fin ⟨rfl, p, q, r, 0, 0, rfl, l, by omega⟩) ?post)
  case fin =>
    rintro t st' ⟨rfl, p1, q1, r1, a, b, rfl, l1, hc⟩
    exact ⟨rfl, .inr ⟨p1, q1, r1, a, b, rfl, l1, by omega⟩⟩
  case step =>
    rintro i t st' _ hi ⟨rfl, p1, q1, r1, a, b, rfl, l1, hc⟩
    refine wpS_mono (wpS_hiLin L hk1 l1) fun t st'' ⟨e, z⟩ => ?_
    subst e
    match t, z with
    | .done (some z, t'), hz => exact ⟨rfl, .inl ⟨z, t', rfl, hz⟩⟩
    | .done (none, p2, q2, r2, a2, b2), hz => exact ⟨rfl, .inr ⟨p2, q2, r2, a2, b2, rfl, hz.1, by have := hz.2; omega⟩⟩
    | .yield (none, p2, q2, r2, a2, b2), hz => exact ⟨rfl, p2, q2, r2, a2, b2, rfl, hz.1, by have := hz.2; omega⟩
  case post =>
    rintro t st' ⟨rfl, ⟨z, t', rfl, hz⟩ | ⟨p1, q1, r1, a, b, rfl, l1, hc⟩⟩
    · exact wpS_pure ⟨hs, hz⟩
    · dsimp only
      refine wpS_bind (wpS_lift (wpAny_rule ⟨rfl, ?_⟩))
      refine wpS_bind (wpS_mono (wpS_forRange (I := fun i t st2 => Gs st0 st2 ∧ ∃ p2 q2 r2 g2 a b, t = (none, p2, q2, r2, g2, a, b) ∧ LiveH o u v p2 q2 r2 ∧ p2 + q2 < p + q)
        (Q := fun t st2 => Gs st0 st2 ∧ ((∃ z t', t = (some z, t') ∧ Res o u v z) ∨ ∃ p2 q2 r2 g2 a b, t = (none, p2, q2, r2, g2, a, b) ∧ LiveH o u v p2 q2 r2 ∧ p2 + q2 < p + q)) ?step2 ?fin2 ⟨hs, p1, q1, r1, _, _, _, rfl, l1, hc⟩) ?post2)
      case fin2 =>
        rintro t st2 ⟨hs2, p2, q2, r2, g2, a, b, rfl, l2, hc2⟩
        exact ⟨hs2, .inr ⟨p2, q2, r2, g2, a, b, rfl, l2, hc2⟩⟩
      case step2 =>
        rintro i t st2 _ hi ⟨hs2, p2, q2, r2, g2, a, b, rfl, l2, hc2⟩
        refine wpS_mono (wpS_hi0 L hs2 hk l2) fun t st3 ⟨hs3, z⟩ => ?_
        match t, z with
        | .done (some z, t'), hz => exact ⟨hs3, .inl ⟨z, t', rfl, hz⟩⟩
        | .done (none, p3, q3, r3, g3, a3, b3), hz => exact ⟨hs3, .inr ⟨p3, q3, r3, g3, a3, b3, rfl, hz.1, by have := hz.2; omega⟩⟩
        | .yield (none, p3, q3, r3, g3, a3, b3), hz => exact ⟨hs3, p3, q3, r3, g3, a3, b3, rfl, hz.1, by have := hz.2; omega⟩
      case post2 =>
        rintro t st2 ⟨hs2, ⟨z, t', rfl, hz⟩ | ⟨p2, q2, r2, g2, a, b, rfl, l2, hc2⟩⟩
        · exact wpS_pure ⟨hs2, hz⟩
        · exact wpS_bind (wpS_setG hs2 fun st3 hs3 => wpS_pure ⟨hs3, l2, hc2⟩)
theorem wpS_mhi (L : HiPre o u v) {Q : Array Keyed → SortSt → Prop} (hk : kindOf st = kd) (hu : 0 < u.size) (hv : 0 < v.size)
    (h2 : ∀ x y, x ∈ v.toList → u[u.size - 1]? = some y → o.le x y) (h : ∀ st' out, Gs st st' → o.Merged u.toList v.toList out.toList → Q out st') : wpS M A E s (mhi u v) Q st := by
  rw [mhi_eq]
  refine wpS_bind (wpS_lift (wpAny_rule ⟨rfl, ?_⟩))
  obtain ⟨x, ex⟩ := at_lt (u := u) (p := u.size - 1) (by omega)
  refine wpS_bind (wpS_elem ex ?_)
  have m0 : o.Hg u.toList v.toList (#[] : Array Keyed).toList.reverse u.size v.size := ⟨by simp, by simp, by simp, by simp⟩
  have m : o.Hg u.toList v.toList (#[x] : Array Keyed).toList.reverse (u.size - 1) v.size := by
    have := m0.pushA L.uu hu ex (fun y hy => h2 y x (List.mem_of_mem_take hy) ex)
    simpa using this
  by_cases h3 : u.size - 1 = 0
  · rw [if_pos (by simpa using h3)]
    exact wpS_pure (h _ _ (.refl _) (resHU m L.uu L.uv (.inl h3)))
  · rw [if_neg (by simpa using h3)]
    by_cases h4 : v.size = 1
    · rw [if_pos (by simpa using h4)]
      exact wpS_pure (h _ _ (.refl _) (resHV L m h4))
    · rw [if_neg (by simpa using h4)]
      refine wpS_bind (wpS_get ?_)
      refine wpS_bind (wpS_mono (wpS_forRange (I := fun i t st2 => Gs st st2 ∧ ∃ p2 q2 r2 g2, t = (none, p2, q2, r2, g2) ∧ LiveH o u v p2 q2 r2 ∧ p2 + q2 + i < u.size + v.size)
        (Q := fun t st2 => Gs st st2 ∧ ∃ z t', t = (some z, t') ∧ Res o u v z) ?step ?fin ⟨.refl _, u.size - 1, v.size, _, _, rfl, ⟨m, by omega, by omega, by omega, by omega⟩, by omega⟩) ?post)
      case fin =>
        rintro t st2 ⟨hs2, p2, q2, r2, g2, rfl, l2, hc⟩
        omega
      case step =>
        rintro i t st2 _ hi ⟨hs2, p2, q2, r2, g2, rfl, l2, hc⟩
        refine wpS_mono (wpS_hiOut L hs2 hk l2) fun t st3 ⟨hs3, z⟩ => ?_
        match t, z with
        | .done (some z, t'), hz => exact ⟨hs3, z, t', rfl, hz⟩
        | .yield (none, p3, q3, r3, g3), hz => exact ⟨hs3, p3, q3, r3, g3, rfl, hz.1, by have := hz.2; omega⟩
      case post =>
        rintro t st2 ⟨hs2, z, t', rfl, hz⟩
        exact wpS_pure (h _ _ hs2 hz)
end
end BF
namespace BF
open PySem PyProof.Rows
section
theorem splice_go : ∀ (zs : List Keyed) (n L : Nat) (xs : Array Keyed), L + n + zs.length ≤ xs.size →
    ((zs.zipIdx n).foldl (fun a (pj : Keyed × Nat) => a.setIfInBounds (L + pj.2) pj.1) xs).toList = xs.toList.take (L + n) ++ zs ++ xs.toList.drop (L + n + zs.length)
  | [], n, L, xs, h => by simp
  | z :: zs, n, L, xs, h => by
    rw [List.zipIdx_cons, List.foldl_cons]
    simp only [List.length_cons] at h
    rw [splice_go zs (n + 1) L (xs.setIfInBounds (L + n) z) (by rw [Array.size_setIfInBounds]; omega)]
    have hlt : L + n < xs.toList.length := by rw [Array.length_toList]; omega
    rw [Array.toList_setIfInBounds]
    have e1 : (xs.toList.set (L + n) z).take (L + (n + 1)) = xs.toList.take (L + n) ++ [z] := by
      rw [show L + (n + 1) = (L + n) + 1 by omega, List.take_succ, List.take_set, List.getElem?_set_self hlt]
      congr 1
      exact List.set_eq_of_length_le (by rw [List.length_take]; omega)
    have e2 : (xs.toList.set (L + n) z).drop (L + (n + 1) + zs.length) = xs.toList.drop (L + n + (z :: zs).length) := by
      rw [List.drop_set_of_lt (by omega), List.length_cons]
      congr 1
      omega
    rw [e1, e2]
    simp
theorem splice (zs xs : Array Keyed) (L : Nat) (h : L + zs.size ≤ xs.size) :
    (zs.toList.zipIdx.foldl (fun a (pj : Keyed × Nat) => a.setIfInBounds (L + pj.2) pj.1) xs).toList = xs.toList.take L ++ zs.toList ++ xs.toList.drop (L + zs.size) := by
  have := splice_go zs.toList 0 L xs (by rw [Array.length_toList]; omega)
  simpa using this
end
section
variable {M : Model} {A : Around} {E : Value → Shared → Prop} {s : Shared} {kd : SortKind} {o : Ord M A E s kd}
theorem at_mid {xs : Array Keyed} {pre B post : List Keyed} (e : xs.toList = pre ++ B ++ post) {i : Nat} (hi : i < B.length) : xs[pre.length + i]? = B[i]? := by
  have : xs.toList[pre.length + i]? = B[i]? := by
    rw [e, List.append_assoc, List.getElem?_append_right (by omega), Nat.add_sub_cancel_left, List.getElem?_append_left hi]
  rw [← this]; simp
theorem size_mid {xs : Array Keyed} {l : List Keyed} (e : xs.toList = l) : xs.size = l.length := by rw [← e]; simp
theorem up_mid {xs : Array Keyed} {pre B post : List Keyed} (e : xs.toList = pre ++ B ++ post) (ub : B.Pairwise o.le) : o.up xs pre.length (pre.length + B.length) := fun i j x y h1 h2 h3 ex ey => by
  have ex' := at_mid e (i := i - pre.length) (by omega)
  have ey' := at_mid e (i := j - pre.length) (by omega)
  rw [show pre.length + (i - pre.length) = i by omega, ex] at ex'
  rw [show pre.length + (j - pre.length) = j by omega, ey] at ey'
  have bu : (B.toArray).toList.Pairwise o.le := by simpa using ub
  exact up_at (u := B.toArray) bu (i := i - pre.length) (j := j - pre.length) (by omega) (by simpa using ex'.symm) (by simpa using ey'.symm)
def mAt : Nat → StateT SortSt Sem Bool := sortPriv% PySem.Builtin.mergeAt
theorem mAt_eq (i : Nat) : mAt i = (do
    let st ← get
    let (some (p, n, pw), some (q, m, _)) := ((pendingOf st)[i]?, (pendingOf st)[i + 1]?) | unsupported "internal:list.sort.pending"
    set (SortSt.mk' (kindOf st) (arrOf st) (((pendingOf st).setIfInBounds i (p, n + m, pw)).eraseIdxIfInBounds (i + 1)) (gallopOf st) (failedOf st))
    let some k ← gal false (← elem' (arrOf st) q) (arrOf st) p n 0 | return false
    let (p, n) := (p + k, n - k)
    if n == 0 then return true
    let some m ← gal true (← elem' (arrOf st) (p + n - 1)) (arrOf st) q m (m - 1) | return false
    if m == 0 then return true
    let x := (arrOf st).extract p q
    let y := (arrOf st).extract q (q + m)
    let z ← if n ≤ m then mlo x y else mhi x y
    modify fun st => setArr st (z.toList.zipIdx.foldl (fun a (pj : Keyed × Nat) => a.setIfInBounds (p + pj.2) pj.1) (arrOf st))
    return (failedOf (← get)).isNone) := rfl
end
end BF
namespace BF
open PySem PyProof.Rows
section
variable {M : Model} {A : Around} {E : Value → Shared → Prop} {s : Shared} {kd : SortKind} {o : Ord M A E s kd}
theorem wpS_set {σ : Type} {st st2 : σ} {Q : PUnit → σ → Prop} (h : Q ⟨⟩ st2) : wpS M A E s (set st2 : StateT σ Sem PUnit) Q st := by
  unfold wpS; rw [StateT.run_set]; exact wpAny_pure ⟨rfl, h⟩
theorem mem_ix {l : List Keyed} {x : Keyed} (h : x ∈ l) : ∃ i, i < l.length ∧ l[i]? = some x := by
  obtain ⟨i, e⟩ := List.mem_iff_getElem?.mp h
  exact ⟨i, (List.getElem?_eq_some_iff.mp e).1, e⟩
theorem wpS_mAt {st : SortSt} {i : Nat} {Q : Bool → SortSt → Prop} {pre B C post : List Keyed} {P1 P2 : List (Nat × Nat × Nat)} {pw pw2 : Nat} (hk : kindOf st = kd) (hf : failedOf st = none) (ga : o.all (arrOf st))
    (e : (arrOf st).toList = pre ++ B ++ C ++ post) (uB : B.Pairwise o.le) (uC : C.Pairwise o.le) (hB : 0 < B.length) (hC : 0 < C.length)
    (ep : (pendingOf st).toList = P1 ++ (pre.length, B.length, pw) :: (pre.length + B.length, C.length, pw2) :: P2) (hi : i = P1.length)
    (h : ∀ st' D, kindOf st' = kd → failedOf st' = none → (arrOf st').toList = pre ++ D ++ post → D.Pairwise o.le → D.Perm (B ++ C) → (pendingOf st').toList = P1 ++ (pre.length, B.length + C.length, pw) :: P2 → Q true st') :
    wpS M A E s (mAt i) Q st := by
  subst hi
  have g1 : (pendingOf st)[P1.length]? = some (pre.length, B.length, pw) := by
    rw [← Array.getElem?_toList, ep]; simp
  have g2 : (pendingOf st)[P1.length + 1]? = some (pre.length + B.length, C.length, pw2) := by
    rw [← Array.getElem?_toList, ep, List.getElem?_append_right (by omega)]; simp
  rw [mAt_eq]
  refine wpS_bind (wpS_get ?_)
  rw [g1, g2]
  dsimp only
  refine wpS_bind (wpS_set ?_)
  have pp : (((pendingOf st).setIfInBounds P1.length (pre.length, B.length + C.length, pw)).eraseIdxIfInBounds (P1.length + 1)).toList = P1 ++ (pre.length, B.length + C.length, pw) :: P2 := by
    rw [Array.toList_eraseIdxIfInBounds, Array.toList_setIfInBounds, ep, List.set_append_right _ _ (Nat.le_refl _), Nat.sub_self, List.set_cons_zero, List.eraseIdx_append_of_length_le (by omega), Nat.add_sub_cancel_left]
    rfl
  have eB : (arrOf st).toList = pre ++ B ++ (C ++ post) := by rw [e]; simp
  have eC : (arrOf st).toList = (pre ++ B) ++ C ++ post := e
  have lB : (pre ++ B).length = pre.length + B.length := by simp
  have sz := size_mid e
  simp only [List.length_append] at sz
  have aB : ∀ j, j < B.length → (arrOf st)[pre.length + j]? = B[j]? := fun j hj => at_mid eB hj
  have aC : ∀ j, j < C.length → (arrOf st)[pre.length + B.length + j]? = C[j]? := fun j hj => by have := at_mid eC hj; rwa [lB] at this
  have gB : ∀ x ∈ B, o.G x := fun x hx => by
    obtain ⟨j, hj, ej⟩ := mem_ix hx
    exact ga _ x ((aB j hj).trans ej)
  have gC : ∀ x ∈ C, o.G x := fun x hx => by
    obtain ⟨j, hj, ej⟩ := mem_ix hx
    exact ga _ x ((aC j hj).trans ej)
  obtain ⟨c0, ec0⟩ : ∃ c, C[0]? = some c := ⟨C[0], List.getElem?_eq_getElem hC⟩
  have ac0 : (arrOf st)[pre.length + B.length]? = some c0 := by have := aC 0 hC; rw [Nat.add_zero] at this; rw [this, ec0]
  have c0C : ∀ c ∈ C, o.le c0 c := fun c hc => head_le (u := C.toArray) (by simpa using uC) (p := 0) (x := c0) (by simpa using ec0) c (by simpa using hc)
  refine wpS_bind (wpS_elem ac0 ?_)
  refine wpS_bind (wpS_gal o (by exact hk) (gC _ (List.mem_of_getElem? ec0)) ga (by omega) hB (up_mid eB uB) fun k hkn k1 k2 => ?_)
  have lo1 : ∀ x ∈ B.take k, o.le x c0 := fun x hx => by
    obtain ⟨j, hj, ej⟩ := mem_ix hx
    rw [List.length_take] at hj
    rw [List.getElem?_take, if_pos (by omega)] at ej
    have z := k1 j x (by omega) ((aB j (by omega)).trans ej)
    have z' : o.b c0 x = false := by simpa [Ord.byB] using z
    exact o.le_of_nb z'
  have hi1 : ∀ x ∈ B.drop k, o.le c0 x := fun x hx => by
    obtain ⟨j, hj, ej⟩ := mem_ix hx
    rw [List.length_drop] at hj
    rw [List.getElem?_drop] at ej
    have z := k2 (k + j) x (by omega) (by omega) ((aB (k + j) (by omega)).trans ej)
    exact o.le_of_b (by simpa [Ord.byB] using z)
  dsimp only
  by_cases hn : B.length - k = 0
  · rw [if_pos (by simpa using hn)]
    refine wpS_pure (h _ (B ++ C) hk hf (by rw [e]; simp) (List.pairwise_append.mpr ⟨uB, uC, fun x hx y hy => ?_⟩) (List.Perm.refl _) pp)
    rw [← List.take_of_length_le (show B.length ≤ k by omega)] at hx
    exact o.le_trans (lo1 x hx) (c0C y hy)
  · rw [if_neg (by simpa using hn)]
    obtain ⟨bl, ebl⟩ : ∃ b, B[B.length - 1]? = some b := ⟨B[B.length - 1], List.getElem?_eq_getElem (by omega)⟩
    have abl : (arrOf st)[pre.length + k + (B.length - k) - 1]? = some bl := by
      rw [show pre.length + k + (B.length - k) - 1 = pre.length + (B.length - 1) by omega, aB _ (by omega), ebl]
    have Bbl : ∀ b ∈ B, o.le b bl := fun b hb => last_ge (u := B.toArray) (by simpa using uB) (p := B.length) (x := bl) (by simpa using ebl) b (by simpa using hb)
    refine wpS_bind (wpS_elem abl ?_)
    have upC := up_mid eC uC
    rw [lB] at upC
    refine wpS_bind (wpS_gal o (by exact hk) (gB _ (List.mem_of_getElem? ebl)) ga (by omega) (by omega) upC fun m hmn m1 m2 => ?_)
    have lo2 : ∀ x ∈ C.take m, o.le x bl := fun x hx => by
      obtain ⟨j, hj, ej⟩ := mem_ix hx
      rw [List.length_take] at hj
      rw [List.getElem?_take, if_pos (by omega)] at ej
      exact o.le_of_b (m1 j x (by omega) ((aC j (by omega)).trans ej))
    have hi2 : ∀ x ∈ C.drop m, o.le bl x := fun x hx => by
      obtain ⟨j, hj, ej⟩ := mem_ix hx
      rw [List.length_drop] at hj
      rw [List.getElem?_drop] at ej
      exact o.le_of_nb (m2 (m + j) x (by omega) (by omega) ((aC (m + j) (by omega)).trans ej))
    dsimp only
    by_cases hm : m = 0
    · rw [if_pos (by simpa using hm)]
      subst hm
      refine wpS_pure (h _ (B ++ C) hk hf (by rw [e]; simp) (List.pairwise_append.mpr ⟨uB, uC, fun x hx y hy => ?_⟩) (List.Perm.refl _) pp)
      exact o.le_trans (Bbl x hx) (hi2 y (by simpa using hy))
    · rw [if_neg (by simpa using hm)]
      generalize hX : (arrOf st).extract (pre.length + k) (pre.length + B.length) = X
      generalize hY : (arrOf st).extract (pre.length + B.length) (pre.length + B.length + m) = Y
      have lX : X.toList = B.drop k := by
        rw [← hX, xd, eB, ← lB, List.take_left, List.drop_append, List.drop_eq_nil_of_le (by omega), Nat.add_sub_cancel_left, List.nil_append]
      have lY : Y.toList = C.take m := by
        rw [← hY, xk, eC, ← lB, List.append_assoc, List.drop_left, List.take_append_of_le_length (by omega)]
      have szX : X.size = B.length - k := by rw [size_mid lX, List.length_drop]
      have szY : Y.size = m := by rw [size_mid lY, List.length_take]; omega
      have gX : o.all X := fun i x ex => gB x (List.mem_of_mem_drop (by rw [← lX]; exact Array.mem_toList_iff.mpr (Array.mem_of_getElem? ex)))
      have gY : o.all Y := fun i x ex => gC x (List.mem_of_mem_take (by rw [← lY]; exact Array.mem_toList_iff.mpr (Array.mem_of_getElem? ex)))
      have uX : X.toList.Pairwise o.le := by rw [lX]; exact uB.sublist (List.drop_sublist _ _)
      have uY : Y.toList.Pairwise o.le := by rw [lY]; exact uC.sublist (List.take_sublist _ _)
      have p1 : ∀ x y, Y[0]? = some x → y ∈ X.toList → o.le x y := fun x y ex hy => by
        have : x = c0 := by
          have e1 : Y.toList[0]? = some x := by simpa using ex
          rw [lY, List.getElem?_take, if_pos (by omega), ec0] at e1
          exact (Option.some.inj e1).symm
        rw [this]
        exact hi1 y (by rw [← lX]; exact hy)
      have p2 : ∀ x y, x ∈ Y.toList → X[X.size - 1]? = some y → o.le x y := fun x y hx ey => by
        have : y = bl := by
          have e1 : X.toList[X.size - 1]? = some y := by simpa using ey
          rw [lX, List.getElem?_drop, szX, show k + (B.length - k - 1) = B.length - 1 by omega, ebl] at e1
          exact (Option.some.inj e1).symm
        rw [this]
        exact lo2 x (by rw [← lY]; exact hx)
      have fin : ∀ (st' : SortSt) (out : Array Keyed), kindOf st' = kd → arrOf st' = arrOf st → (pendingOf st').toList = P1 ++ (pre.length, B.length + C.length, pw) :: P2 → failedOf st' = none → o.Merged X.toList Y.toList out.toList →
          wpS M A E s (do modify fun st => setArr st (out.toList.zipIdx.foldl (fun a (pj : Keyed × Nat) => a.setIfInBounds (pre.length + k + pj.2) pj.1) (arrOf st)); return (failedOf (← get)).isNone) Q st' := fun st' out hk' ha' hp' hf' hm' => by
        refine wpS_bind (wpS_modify (wpS_bind (wpS_get ?_)))
        have hm1 := hm'.1
        rw [lX, lY] at hm1
        have szO : out.size = B.length - k + m := by
          have := hm1.length_eq
          rw [Array.length_toList, List.length_append, List.length_drop, List.length_take] at this
          omega
        have ef : (failedOf (setArr st' (out.toList.zipIdx.foldl (fun a (pj : Keyed × Nat) => a.setIfInBounds (pre.length + k + pj.2) pj.1) (arrOf st')))).isNone = true := by
          show (failedOf st').isNone = true
          rw [hf']; rfl
        rw [ef]
        refine wpS_pure (h _ (B.take k ++ out.toList ++ C.drop m) hk' hf' ?_ ?_ ?_ hp')
        · show (out.toList.zipIdx.foldl (fun a (pj : Keyed × Nat) => a.setIfInBounds (pre.length + k + pj.2) pj.1) (arrOf st')).toList = _
          rw [ha', splice _ _ _ (by rw [szO]; omega), szO]
          have t1 : (arrOf st).toList.take (pre.length + k) = pre ++ B.take k := by
            rw [eB, List.append_assoc, List.take_append, List.take_of_length_le (by omega), Nat.add_sub_cancel_left, List.take_append_of_le_length (by omega)]
          have t2 : (arrOf st).toList.drop (pre.length + k + (B.length - k + m)) = C.drop m ++ post := by
            rw [eC, List.append_assoc, List.drop_append, List.drop_eq_nil_of_le (by omega), lB, show pre.length + k + (B.length - k + m) - (pre.length + B.length) = m by omega, List.nil_append, List.drop_append_of_le_length (by omega)]
          rw [t1, t2]
          simp
        · have inO : ∀ x ∈ out.toList, x ∈ B.drop k ∨ x ∈ C.take m := fun x hx => List.mem_append.mp (hm1.mem_iff.mp hx)
          have uB' := uB
          rw [← List.take_append_drop k B] at uB'
          have uC' := uC
          rw [← List.take_append_drop m C] at uC'
          refine List.pairwise_append.mpr ⟨List.pairwise_append.mpr ⟨uB.sublist (List.take_sublist _ _), hm'.2, fun x hx y hy => ?_⟩, uC.sublist (List.drop_sublist _ _), fun x hx y hy => ?_⟩
          · rcases inO y hy with z | z
            · exact (List.pairwise_append.mp uB').2.2 x hx y z
            · exact o.le_trans (lo1 x hx) (c0C y (List.mem_of_mem_take z))
          · rcases List.mem_append.mp hx with hx | hx
            · exact o.le_trans (Bbl x (List.mem_of_mem_take hx)) (hi2 y hy)
            · rcases inO x hx with z | z
              · exact o.le_trans (Bbl x (List.mem_of_mem_drop z)) (hi2 y hy)
              · exact (List.pairwise_append.mp uC').2.2 x z y hy
        · refine ((List.Perm.append_left _ hm1).append_right _).trans ?_
          rw [← List.append_assoc, List.take_append_drop, List.append_assoc, List.take_append_drop]
      by_cases hnm : B.length - k ≤ m
      · rw [if_pos hnm]
        refine wpS_bind (wpS_mlo ⟨gX, gY, uX, uY, p2⟩ (by exact hk) (by omega) (by omega) p1 fun st' out gs mg => ?_)
        exact fin st' out (gs.k.trans hk) gs.a (by rw [gs.p]; exact pp) (gs.f.trans hf) mg
      · rw [if_neg hnm]
        refine wpS_bind (wpS_mhi ⟨gX, gY, uX, uY, p1⟩ (by exact hk) (by omega) (by omega) p2 fun st' out gs mg => ?_)
        exact fin st' out (gs.k.trans hk) gs.a (by rw [gs.p]; exact pp) (gs.f.trans hf) mg
end
end BF
namespace BF
open PySem PyProof.Rows
section
variable {M : Model} {A : Around} {E : Value → Shared → Prop} {s : Shared} {kd : SortKind} {o : Ord M A E s kd}
structure As (lo : Nat) (st st' : SortSt) : Prop where
  k : kindOf st' = kindOf st
  p : pendingOf st' = pendingOf st
  f : failedOf st' = failedOf st
  perm : (arrOf st').Perm (arrOf st)
  pre : ∀ j, j < lo → (arrOf st')[j]? = (arrOf st)[j]?
theorem As.refl (lo : Nat) (st : SortSt) : As lo st st := ⟨rfl, rfl, rfl, .refl _, fun _ _ => rfl⟩
theorem As.arr {lo : Nat} {st st' : SortSt} (h : As lo st st') {xs : Array Keyed} (hp : xs.Perm (arrOf st')) (hq : ∀ j, j < lo → xs[j]? = (arrOf st')[j]?) : As lo st (setArr st' xs) :=
  ⟨h.k, h.p, h.f, hp.trans h.perm, fun j hj => (hq j hj).trans (h.pre j hj)⟩
theorem As.all {lo : Nat} {st st' : SortSt} (h : As lo st st') (ga : o.all (arrOf st)) : o.all (arrOf st') := fun i x e => by
  have : x ∈ (arrOf st') := Array.mem_of_getElem? e
  have : x ∈ (arrOf st) := h.perm.mem_iff.mp this
  obtain ⟨j, e2⟩ := Array.getElem?_of_mem this
  exact ga j x e2
theorem As.size {lo : Nat} {st st' : SortSt} (h : As lo st st') : (arrOf st').size = (arrOf st).size := h.perm.size_eq
theorem wpS_ltA {st : SortSt} {i j : Nat} {x y : Keyed} {Q : Option Bool → SortSt → Prop} (hk : kindOf st = kd) (ga : o.all (arrOf st)) (ex : (arrOf st)[i]? = some x) (ey : (arrOf st)[j]? = some y) (h : Q (some (o.b x y)) st) : wpS M A E s (ltAt' i j) Q st := by
  rw [ltAt'_eq]
  refine wpS_bind (wpS_get ?_)
  exact wpS_bind (wpS_elem ex (wpS_bind (wpS_elem ey (o.lt hk (ga _ _ ex) (ga _ _ ey) h))))
def bsort : Nat → Nat → Nat → StateT SortSt Sem Bool := sortPriv% PySem.Builtin.binarySort
theorem bsort_eq (lo n ok : Nat) : bsort lo n ok = (do
    for t in [max ok 1 : n] do
      let mut a := 0
      let mut b := t
      for _ in [0:t] do
        if a ≥ b then break
        let some less ← ltAt' (lo + t) (lo + (a + b) / 2) | return false
        if less then b := (a + b) / 2 else a := (a + b) / 2 + 1
      moveDown' (lo + t) (lo + a)
    return true) := rfl
theorem wpS_bsort {st : SortSt} {lo n ok : Nat} {Q : Bool → SortSt → Prop} (hk : kindOf st = kd) (ga : o.all (arrOf st)) (hn : lo + n ≤ (arrOf st).size) (hok : ok ≤ n) (hs : o.up (arrOf st) lo (lo + ok))
    (h : ∀ st', As lo st st' → o.up (arrOf st') lo (lo + n) → Q true st') : wpS M A E s (bsort lo n ok) Q st := by
  rw [bsort_eq]
  refine wpS_bind (wpS_mono (wpS_forRange (I := fun t c st' => c = (none, ()) ∧ As lo st st' ∧ o.up (arrOf st') lo (lo + min t n)) (Q := fun c st' => c = (none, ()) ∧ As lo st st' ∧ o.up (arrOf st') lo (lo + n)) ?step ?fin ?init) ?post)
  case post =>
    rintro c st' ⟨rfl, h1, h2⟩
    exact wpS_pure (h st' h1 h2)
  case init =>
    refine ⟨rfl, .refl _ _, fun i j x y h1 h2 h3 ex ey => ?_⟩
    by_cases hz : ok = 0
    · have : i = j := by omega
      subst this
      rw [ex] at ey
      cases ey
      exact o.le_refl _
    · exact hs i j x y h1 h2 (by omega) ex ey
  case fin =>
    rintro c st' ⟨hc, h1, h2⟩
    refine ⟨hc, h1, ?_⟩
    rwa [show min (max (max ok 1) n) n = n by omega] at h2
  case step =>
    rintro t c st' h1 h2 ⟨rfl, hA, hU⟩
    rw [show min t n = t by omega] at hU
    have hk' : kindOf st' = kd := hA.k.trans hk
    have ga' := hA.all ga
    have hsz := hA.size
    obtain ⟨x, ex⟩ := at_lt (u := arrOf st') (p := lo + t) (by omega)
    refine wpS_bind (wpS_mono (wpS_forRange (I := fun z c st'' => st'' = st' ∧ ∃ a b, c = (none, a, b) ∧ a ≤ b ∧ b ≤ t ∧ b - a ≤ t - z ∧ (∀ i y, i < a → (arrOf st')[lo + i]? = some y → o.le y x) ∧ (∀ i y, b ≤ i → i < t → (arrOf st')[lo + i]? = some y → o.b x y = true))
      (Q := fun c st'' => st'' = st' ∧ ∃ a, c = (none, a, a) ∧ a ≤ t ∧ (∀ i y, i < a → (arrOf st')[lo + i]? = some y → o.le y x) ∧ (∀ i y, a ≤ i → i < t → (arrOf st')[lo + i]? = some y → o.b x y = true)) ?istep ?ifin ⟨rfl, 0, t, rfl, by omega, by omega, by omega, fun i y hi => by omega, fun i y p q => by omega⟩) ?ipost)
    case ifin =>
      rintro c st'' ⟨rfl, a, b, rfl, h3, h4, h5, a1, a2⟩
      have : a = b := by omega
      subst this
      exact ⟨rfl, a, rfl, h4, a1, a2⟩
    case istep =>
      rintro z c st'' _ hz ⟨rfl, a, b, rfl, h3, h4, h5, a1, a2⟩
      dsimp only
      by_cases hge : a ≥ b
      · rw [if_pos hge]
        have : a = b := by omega
        subst this
        exact wpS_pure ⟨rfl, a, rfl, h4, a1, a2⟩
      · rw [if_neg hge]
        obtain ⟨y, ey⟩ := at_lt (u := arrOf st'') (p := lo + (a + b) / 2) (by omega)
        refine wpS_bind (wpS_ltA hk' ga' ex ey ?_)
        cases hb : o.b x y with
        | true =>
          refine wpS_pure ⟨rfl, a, (a + b) / 2, rfl, by omega, by omega, by omega, a1, fun i y' hi hi2 ey' => ?_⟩
          exact o.b_le hb (hU _ _ y y' (by omega) (by omega) (by omega) ey ey')
        | false =>
          refine wpS_pure ⟨rfl, (a + b) / 2 + 1, b, rfl, by omega, by omega, by omega, fun i y' hi ey' => ?_, a2⟩
          exact o.le_trans (hU _ _ y' y (by omega) (by omega) (by omega) ey' ey) (o.le_of_nb hb)
    case ipost =>
      rintro c st'' ⟨rfl, a, rfl, h3, a1, a2⟩
      show wpS _ _ _ _ (do moveDown' (lo + t) (lo + a); pure (ForInStep.yield (none, ()))) _ _
      rw [moveDown'_eq]
      have hb := getElem?_bubble (xs := arrOf st'') (src := lo + t) (by omega) (lo + t - (lo + a)) (by omega)
      rw [show lo + t - (lo + t - (lo + a)) = lo + a by omega] at hb
      refine wpS_bind (wpS_modify (wpS_pure ⟨rfl, hA.arr (bubble_perm _ _ _) fun j hj => ?_, ?_⟩))
      · rw [hb j, if_neg (by omega), if_neg (by omega)]
      · rw [show min (t + 1) n = t + 1 by omega]
        intro i j p q h5 h6 h7 ep eq
        have ep' : (bubble (arrOf st'') (lo + t) (lo + t - (lo + a)))[i]? = some p := ep
        have eq' : (bubble (arrOf st'') (lo + t) (lo + t - (lo + a)))[j]? = some q := eq
        rw [hb i] at ep'
        rw [hb j] at eq'
        by_cases c1 : i = lo + a
        · rw [if_pos c1] at ep'
          rw [ex] at ep'
          cases ep'
          by_cases c2 : j = lo + a
          · rw [if_pos c2, ex] at eq'
            cases eq'
            exact o.le_refl _
          · rw [if_neg c2, if_pos (by omega)] at eq'
            exact o.le_of_b (a2 (j - 1 - lo) q (by omega) (by omega) (by rw [show lo + (j - 1 - lo) = j - 1 by omega]; exact eq'))
        · rw [if_neg c1] at ep'
          by_cases c3 : lo + a < i ∧ i ≤ lo + t
          · rw [if_pos c3] at ep'
            rw [if_neg (by omega), if_pos (by omega)] at eq'
            exact hU _ _ p q (by omega) (by omega) (by omega) ep' eq'
          · rw [if_neg c3] at ep'
            by_cases c2 : j = lo + a
            · rw [if_pos c2, ex] at eq'
              cases eq'
              exact a1 (i - lo) p (by omega) (by rw [show lo + (i - lo) = i by omega]; exact ep')
            · rw [if_neg c2] at eq'
              by_cases c4 : lo + a < j ∧ j ≤ lo + t
              · rw [if_pos c4] at eq'
                exact hU _ _ p q (by omega) (by omega) (by omega) ep' eq'
              · rw [if_neg c4] at eq'
                exact hU _ _ p q (by omega) (by omega) (by omega) ep' eq'
def crun : Nat → Nat → StateT SortSt Sem (Option Nat) := sortPriv% PySem.Builtin.countRun
theorem crun_eq (lo left : Nat) : crun lo left = (do
    let mut n := 1
    for _ in [1:left] do
      let some less ← ltAt' (lo + n) (lo + n - 1) | return none
      if less then break
      n := n + 1
    if n == left then return some n
    if n > 1 then
      let some rose ← ltAt' lo (lo + n - 1) | return none
      if rose then return some n
      reverseSlice' lo (lo + n)
    rule "list.sort.descending-run"
    n := n + 1
    let mut same := 0
    for _ in [n:left] do
      let some less ← ltAt' (lo + n) (lo + n - 1) | return none
      if less then
        if same > 0 then reverseSlice' (lo + n - (same + 1)) (lo + n)
        same := 0
      else
        let some more ← ltAt' (lo + n - 1) (lo + n) | return none
        if more then break
        same := same + 1
      n := n + 1
    if same > 0 then reverseSlice' (lo + n - (same + 1)) (lo + n)
    reverseSlice' lo (lo + n)
    for _ in [n:left] do
      let some less ← ltAt' (lo + n) (lo + n - 1) | return none
      if less then break
      n := n + 1
    return some n) := rfl
end
end BF
namespace BF
open PySem PyProof.Rows
section
def cr3 (lo left n : Nat) : StateT SortSt Sem (Option Nat) := do
  let mut n := n
  for _ in [n:left] do
    let some less ← ltAt' (lo + n) (lo + n - 1) | return none
    if less then break
    n := n + 1
  return some n
def cr2b (lo left n : Nat) : StateT SortSt Sem (Option Nat) := do
  reverseSlice' lo (lo + n)
  cr3 lo left n
def cr2a (lo left n same : Nat) : StateT SortSt Sem (Option Nat) :=
  if same > 0 then do
    reverseSlice' (lo + n - (same + 1)) (lo + n)
    cr2b lo left n
  else cr2b lo left n
abbrev CT := Option (Option Nat) × Nat × Nat
def cr2s (lo : Nat) (t : CT) : StateT SortSt Sem (ForInStep CT) := do
  match ← ltAt' (lo + t.2.1) (lo + t.2.1 - 1) with
  | some less =>
    if less then
      if t.2.2 > 0 then do
        reverseSlice' (lo + t.2.1 - (t.2.2 + 1)) (lo + t.2.1)
        pure (.yield (none, t.2.1 + 1, 0))
      else pure (.yield (none, t.2.1 + 1, 0))
    else do
      match ← ltAt' (lo + t.2.1 - 1) (lo + t.2.1) with
      | some more => if more then pure (.done (none, t.2.1, t.2.2)) else pure (.yield (none, t.2.1 + 1, t.2.2 + 1))
      | _ => pure (.done (some none, t.2.1, t.2.2))
  | _ => pure (.done (some none, t.2.1, t.2.2))
def cr2 (lo left n : Nat) : StateT SortSt Sem (Option Nat) := do
  rule "list.sort.descending-run"
  let t ← forIn [n + 1:left] ((none, n + 1, 0) : CT) (fun _ t => cr2s lo t)
  match t.1 with
  | some z => pure z
  | none => cr2a lo left t.2.1 t.2.2
def cr1 (lo left n : Nat) : StateT SortSt Sem (Option Nat) :=
  if n == left then pure (some n)
  else if n > 1 then do
    match ← ltAt' lo (lo + n - 1) with
    | some rose => if rose then pure (some n) else do
      reverseSlice' lo (lo + n)
      cr2 lo left n
    | _ => pure none
  else cr2 lo left n
theorem crun_fac (lo left : Nat) : crun lo left = (do
    let t ← forIn [1:left] ((none, 1) : Option (Option Nat) × Nat) (fun _ t => do
      match ← ltAt' (lo + t.2) (lo + t.2 - 1) with
      | some less => if less then pure (.done (none, t.2)) else pure (.yield (none, t.2 + 1))
      | _ => pure (.done (some none, t.2)))
    match t.1 with
    | some z => pure z
    | none => cr1 lo left t.2) := by
  rw [crun_eq]
  dsimp only [cr1, cr2, cr2s, cr2a, cr2b, cr3]
  refine bind2 (congrArg (forIn _ _) (funext fun x => funext fun t => ?_)) (funext fun t => ?_)
  · refine bind_congr fun z => ?_
    cases z <;> with_reducible rfl
  · obtain ⟨z, n⟩ := t
    cases z with
    | some z => with_reducible rfl
    | none =>
      dsimp only
      refine ite_congr rfl (fun _ => rfl) fun _ => ite_congr rfl (fun _ => ?_) (fun _ => ?_)
      · refine bind_congr fun z => ?_
        cases z with
        | none => with_reducible rfl
        | some z =>
          dsimp only
          refine ite_congr rfl (fun _ => rfl) fun _ => bind_congr fun _ => bind_congr fun _ => ?_
          refine bind2 (congrArg (forIn _ _) (funext fun x => funext fun t => ?_)) (funext fun t => ?_)
          · refine bind_congr fun z => ?_
            cases z with
            | none => with_reducible rfl
            | some z =>
              first
                | (dsimp only; done)
                | (dsimp only; refine ite_congr rfl (fun _ => rfl) fun _ => bind_congr fun z => ?_; cases z <;> first | with_reducible rfl | rfl)
          · obtain ⟨z, t⟩ := t
            cases z <;> first | with_reducible rfl | rfl
      · refine bind_congr fun _ => ?_
        refine bind2 (congrArg (forIn _ _) (funext fun x => funext fun t => ?_)) (funext fun t => ?_)
        · refine bind_congr fun z => ?_
          cases z with
          | none => with_reducible rfl
          | some z =>
            first
              | (dsimp only; done)
              | (dsimp only; refine ite_congr rfl (fun _ => rfl) fun _ => bind_congr fun z => ?_; cases z <;> first | with_reducible rfl | rfl)
        · obtain ⟨z, t⟩ := t
          cases z <;> first | with_reducible rfl | rfl
end
end BF
namespace BF
open PySem PyProof.Rows
section
variable {M : Model} {A : Around} {E : Value → Shared → Prop} {s : Shared} {kd : SortKind} {o : Ord M A E s kd}
def Ord.dn (o : Ord M A E s kd) (xs : Array Keyed) (lo hi : Nat) : Prop := ∀ i j x y, lo ≤ i → i ≤ j → j < hi → xs[i]? = some x → xs[j]? = some y → o.le y x
def Ord.eqs (o : Ord M A E s kd) (xs : Array Keyed) (a b : Nat) : Prop := ∀ i j x y, a ≤ i → i < b → a ≤ j → j < b → xs[i]? = some x → xs[j]? = some y → o.le x y
abbrev rv (xs : Array Keyed) (i j : Nat) : Array Keyed := mirror xs i j ((j - i) / 2)
theorem rv_at {xs : Array Keyed} {i j : Nat} (h : j ≤ xs.size) (k : Nat) : (rv xs i j)[k]? = if i ≤ k ∧ k < j then xs[i + j - 1 - k]? else xs[k]? := getElem?_mirror_all h k
theorem up_rv {xs : Array Keyed} {lo hi : Nat} (h : hi ≤ xs.size) (d : o.dn xs lo hi) : o.up (rv xs lo hi) lo hi := fun i j x y h1 h2 h3 ex ey => by
  rw [rv_at h, if_pos (by omega)] at ex ey
  exact d _ _ y x (by omega) (by omega) (by omega) ey ex
theorem dn_rv {xs : Array Keyed} {lo a hi : Nat} (h : hi ≤ xs.size) (ha : lo ≤ a) (d : o.dn xs lo hi) (q : o.eqs xs a hi) : o.dn (rv xs a hi) lo hi := fun i j x y h1 h2 h3 ex ey => by
  rw [rv_at h] at ex ey
  by_cases c1 : a ≤ i
  · rw [if_pos (by omega)] at ex ey
    exact q _ _ y x (by omega) (by omega) (by omega) (by omega) ey ex
  · rw [if_neg (by omega)] at ex
    by_cases c2 : a ≤ j
    · rw [if_pos (by omega)] at ey
      exact d _ _ x y h1 (by omega) (by omega) ex ey
    · rw [if_neg (by omega)] at ey
      exact d _ _ x y h1 h2 h3 ex ey
theorem wpS_rev {st : SortSt} {i j : Nat} {Q : Unit → SortSt → Prop} (h : Q () (setArr st (rv (arrOf st) i j))) : wpS M A E s (reverseSlice' i j) Q st := by
  rw [reverseSlice'_eq]; exact wpS_modify h
theorem As.rv {lo a b : Nat} {st st' : SortSt} (h : As lo st st') (hb : b ≤ (arrOf st').size) (ha : lo ≤ a) : As lo st (setArr st' (BF.rv (arrOf st') a b)) :=
  h.arr (mirror_perm _ _ _ _) fun j hj => by rw [rv_at hb, if_neg (by omega)]
variable {st st' : SortSt} {lo left n : Nat} {Q : Option Nat → SortSt → Prop}
theorem up_more {xs : Array Keyed} (h1 : 1 ≤ n) (u : o.up xs lo (lo + n)) {x y : Keyed} (ex : xs[lo + n]? = some x) (ey : xs[lo + n - 1]? = some y) (hle : o.le y x) : o.up xs lo (lo + (n + 1)) := fun i j a b h2 h3 h4 ea eb => by
  by_cases c : j = lo + n
  · subst c
    rw [ex] at eb
    cases eb
    by_cases c2 : i = lo + n
    · subst c2
      rw [ex] at ea
      cases ea
      exact o.le_refl _
    · exact o.le_trans (u i (lo + n - 1) a y h2 (by omega) (by omega) ea ey) hle
  · exact u i j a b h2 h3 (by omega) ea eb
theorem wpS_cr3 (hk : kindOf st = kd) (ga : o.all (arrOf st)) (hA : As lo st st') (hsz : lo + left ≤ (arrOf st).size) (h1 : 1 ≤ n) (hn : n ≤ left) (u : o.up (arrOf st') lo (lo + n))
    (h : ∀ m st2, As lo st st2 → 1 ≤ m → m ≤ left → o.up (arrOf st2) lo (lo + m) → Q (some m) st2) : wpS M A E s (cr3 lo left n) Q st' := by
  unfold cr3
  have sz := hA.size
  refine wpS_bind (wpS_mono (wpS_forRange (I := fun t c st2 => st2 = st' ∧ c = (none, t) ∧ t ≤ left ∧ 1 ≤ t ∧ o.up (arrOf st') lo (lo + t)) (Q := fun c st2 => st2 = st' ∧ ∃ t, c = (none, t) ∧ t ≤ left ∧ 1 ≤ t ∧ o.up (arrOf st') lo (lo + t)) ?step ?fin ⟨rfl, rfl, hn, h1, u⟩) ?post)
  case fin =>
    rintro c st2 ⟨rfl, rfl, h2, h3, h4⟩
    exact ⟨rfl, _, rfl, h2, h3, h4⟩
  case post =>
    rintro c st2 ⟨rfl, t, rfl, h2, h3, h4⟩
    exact wpS_pure (h t _ hA h3 h2 h4)
  case step =>
    rintro t c st2 _ ht ⟨rfl, rfl, h2, h3, h4⟩
    obtain ⟨x, ex⟩ := at_lt (u := arrOf st2) (p := lo + t) (by omega)
    obtain ⟨y, ey⟩ := at_lt (u := arrOf st2) (p := lo + t - 1) (by omega)
    dsimp only
    refine wpS_bind (wpS_ltA (hA.k.trans hk) (hA.all ga) ex ey ?_)
    cases hb : o.b x y with
    | true => exact wpS_pure ⟨rfl, t, rfl, h2, h3, h4⟩
    | false => exact wpS_pure ⟨rfl, rfl, by omega, by omega, up_more h3 h4 ex ey (o.le_of_nb hb)⟩
theorem wpS_cr2b (hk : kindOf st = kd) (ga : o.all (arrOf st)) (hA : As lo st st') (hsz : lo + left ≤ (arrOf st).size) (h1 : 1 ≤ n) (hn : n ≤ left) (d : o.dn (arrOf st') lo (lo + n))
    (h : ∀ m st2, As lo st st2 → 1 ≤ m → m ≤ left → o.up (arrOf st2) lo (lo + m) → Q (some m) st2) : wpS M A E s (cr2b lo left n) Q st' := by
  unfold cr2b
  have sz := hA.size
  exact wpS_bind (wpS_rev (wpS_cr3 hk ga (hA.rv (by omega) (Nat.le_refl _)) hsz h1 hn (up_rv (by omega) d) h))
theorem wpS_cr2a {same : Nat} (hk : kindOf st = kd) (ga : o.all (arrOf st)) (hA : As lo st st') (hsz : lo + left ≤ (arrOf st).size) (hs : same + 1 ≤ n) (hn : n ≤ left) (d : o.dn (arrOf st') lo (lo + n)) (q : o.eqs (arrOf st') (lo + n - (same + 1)) (lo + n))
    (h : ∀ m st2, As lo st st2 → 1 ≤ m → m ≤ left → o.up (arrOf st2) lo (lo + m) → Q (some m) st2) : wpS M A E s (cr2a lo left n same) Q st' := by
  unfold cr2a
  have sz := hA.size
  split
  · exact wpS_bind (wpS_rev (wpS_cr2b hk ga (hA.rv (by omega) (by omega)) hsz (by omega) hn (dn_rv (by omega) (by omega) d q) h))
  · exact wpS_cr2b hk ga hA hsz (by omega) hn d h
theorem dn_more {xs : Array Keyed} (h1 : 1 ≤ n) (d : o.dn xs lo (lo + n)) {x y : Keyed} (ex : xs[lo + n]? = some x) (ey : xs[lo + n - 1]? = some y) (hle : o.le x y) : o.dn xs lo (lo + (n + 1)) := fun i j a b h2 h3 h4 ea eb => by
  by_cases c : j = lo + n
  · subst c
    rw [ex] at eb
    cases eb
    by_cases c2 : i = lo + n
    · subst c2
      rw [ex] at ea
      cases ea
      exact o.le_refl _
    · exact o.le_trans hle (d i (lo + n - 1) a y h2 (by omega) (by omega) ea ey)
  · exact d i j a b h2 h3 (by omega) ea eb
theorem wpS_cr2 (hk : kindOf st = kd) (ga : o.all (arrOf st)) (hA : As lo st st') (hsz : lo + left ≤ (arrOf st).size) (h1 : 1 ≤ n) (hn : n + 1 ≤ left) (d : o.dn (arrOf st') lo (lo + (n + 1)))
    (h : ∀ m st2, As lo st st2 → 1 ≤ m → m ≤ left → o.up (arrOf st2) lo (lo + m) → Q (some m) st2) : wpS M A E s (cr2 lo left n) Q st' := by
  unfold cr2
  refine wpS_bind (wpS_lift (wpAny_rule ⟨rfl, ?_⟩))
  refine wpS_bind (wpS_mono (wpS_forRange (I := fun t c st2 => As lo st st2 ∧ ∃ same, c = (none, t, same) ∧ t ≤ left ∧ same + 1 ≤ t ∧ o.dn (arrOf st2) lo (lo + t) ∧ o.eqs (arrOf st2) (lo + t - (same + 1)) (lo + t))
    (Q := fun c st2 => As lo st st2 ∧ ∃ t same, c = (none, t, same) ∧ t ≤ left ∧ same + 1 ≤ t ∧ o.dn (arrOf st2) lo (lo + t) ∧ o.eqs (arrOf st2) (lo + t - (same + 1)) (lo + t)) ?step ?fin ⟨hA, 0, rfl, hn, by omega, d, ?init⟩) ?post)
  case init =>
    intro i j x y h2 h3 h4 h5 ex ey
    have : i = j := by omega
    subst this
    rw [ex] at ey
    cases ey
    exact o.le_refl _
  case fin =>
    rintro c st2 ⟨hA2, same, rfl, h2, h3, h4, h5⟩
    exact ⟨hA2, _, same, rfl, h2, h3, h4, h5⟩
  case post =>
    rintro c st2 ⟨hA2, t, same, rfl, h2, h3, h4, h5⟩
    exact wpS_cr2a hk ga hA2 hsz h3 h2 h4 h5 h
  case step =>
    rintro t c st2 ht0 ht ⟨hA2, same, rfl, h2, h3, h4, h5⟩
    have sz := hA2.size
    obtain ⟨x, ex⟩ := at_lt (u := arrOf st2) (p := lo + t) (by omega)
    obtain ⟨y, ey⟩ := at_lt (u := arrOf st2) (p := lo + t - 1) (by omega)
    unfold cr2s
    dsimp only
    refine wpS_bind (wpS_ltA (hA2.k.trans hk) (hA2.all ga) ex ey ?_)
    have one : ∀ (zs : Array Keyed), o.eqs zs (lo + (t + 1) - (0 + 1)) (lo + (t + 1)) := fun zs i j p q a1 a2 a3 a4 ep eq => by
      have : i = j := by omega
      subst this
      rw [ep] at eq
      cases eq
      exact o.le_refl _
    cases hb : o.b x y with
    | true =>
      dsimp only
      rw [if_pos rfl]
      split
      · refine wpS_bind (wpS_rev (wpS_pure ⟨hA2.rv (by omega) (by omega), 0, rfl, by omega, by omega, ?_, one _⟩))
        have ex' : (rv (arrOf st2) (lo + t - (same + 1)) (lo + t))[lo + t]? = some x := by rw [rv_at (by omega), if_neg (by omega)]; exact ex
        obtain ⟨y', ey'⟩ := at_lt (u := rv (arrOf st2) (lo + t - (same + 1)) (lo + t)) (p := lo + t - 1) (by rw [mirror_size]; omega)
        refine dn_more (by omega) (dn_rv (by omega) (by omega) h4 h5) ex' ey' ?_
        rw [rv_at (by omega), if_pos (by omega)] at ey'
        exact o.le_trans (o.le_of_b hb) (h5 _ _ y y' (by omega) (by omega) (by omega) (by omega) ey ey')
      · exact wpS_pure ⟨hA2, 0, rfl, by omega, by omega, dn_more (by omega) h4 ex ey (o.le_of_b hb), one _⟩
    | false =>
      dsimp only
      rw [if_neg Bool.false_ne_true]
      refine wpS_bind (wpS_ltA (hA2.k.trans hk) (hA2.all ga) ey ex ?_)
      cases hc : o.b y x with
      | true => exact wpS_pure ⟨hA2, t, same, rfl, h2, h3, h4, h5⟩
      | false =>
        refine wpS_pure ⟨hA2, same + 1, rfl, by omega, by omega, dn_more (by omega) h4 ex ey (o.le_of_nb hc), fun i j p q a1 a2 a3 a4 ep eq => ?_⟩
        have lx : ∀ i p, lo + t - (same + 1) ≤ i → i < lo + (t + 1) → (arrOf st2)[i]? = some p → o.le p x ∧ o.le x p := fun i p b1 b2 e => by
          by_cases c : i = lo + t
          · subst c
            rw [ex] at e
            cases e
            exact ⟨o.le_refl _, o.le_refl _⟩
          · exact ⟨o.le_trans (h5 _ _ p y b1 (by omega) (by omega) (by omega) e ey) (o.le_of_nb hb), o.le_trans (o.le_of_nb hc) (h5 _ _ y p (by omega) (by omega) b1 (by omega) ey e)⟩
        exact o.le_trans (lx i p (by omega) (by omega) ep).1 (lx j q (by omega) (by omega) eq).2
theorem wpS_crun (hk : kindOf st = kd) (ga : o.all (arrOf st)) (hsz : lo + left ≤ (arrOf st).size) (hl : 1 ≤ left)
    (h : ∀ m st2, As lo st st2 → 1 ≤ m → m ≤ left → o.up (arrOf st2) lo (lo + m) → Q (some m) st2) : wpS M A E s (crun lo left) Q st := by
  rw [crun_fac]
  have at0 : ∀ zs : Array Keyed, o.up zs lo (lo + 1) := fun zs i j p q a1 a2 a3 ep eq => by
    have : i = j := by omega
    subst this
    rw [ep] at eq
    cases eq
    exact o.le_refl _
  refine wpS_bind (wpS_mono (wpS_forRange (I := fun t c st2 => st2 = st ∧ c = (none, t) ∧ t ≤ left ∧ 1 ≤ t ∧ o.up (arrOf st) lo (lo + t))
    (Q := fun c st2 => st2 = st ∧ ∃ t, c = (none, t) ∧ t ≤ left ∧ 1 ≤ t ∧ o.up (arrOf st) lo (lo + t) ∧ (t = left ∨ ∃ x y, (arrOf st)[lo + t]? = some x ∧ (arrOf st)[lo + t - 1]? = some y ∧ o.b x y = true)) ?step ?fin ⟨rfl, rfl, hl, by omega, at0 _⟩) ?post)
  case fin =>
    rintro c st2 ⟨rfl, rfl, h2, h3, h4⟩
    exact ⟨rfl, _, rfl, h2, h3, h4, .inl (by omega)⟩
  case step =>
    rintro t c st2 _ ht ⟨rfl, rfl, h2, h3, h4⟩
    obtain ⟨x, ex⟩ := at_lt (u := arrOf st2) (p := lo + t) (by omega)
    obtain ⟨y, ey⟩ := at_lt (u := arrOf st2) (p := lo + t - 1) (by omega)
    dsimp only
    refine wpS_bind (wpS_ltA hk ga ex ey ?_)
    cases hb : o.b x y with
    | true => exact wpS_pure ⟨rfl, t, rfl, h2, h3, h4, .inr ⟨x, y, ex, ey, hb⟩⟩
    | false => exact wpS_pure ⟨rfl, rfl, by omega, by omega, up_more h3 h4 ex ey (o.le_of_nb hb)⟩
  case post =>
    rintro c st2 ⟨rfl, t, rfl, h2, h3, h4, h5⟩
    dsimp only
    unfold cr1
    by_cases c1 : t = left
    · rw [if_pos (by simpa using c1)]
      exact wpS_pure (h t _ (.refl _ _) h3 h2 h4)
    · rw [if_neg (by simpa using c1)]
      rcases h5 with h5 | ⟨x, y, ex, ey, hb⟩
      · exact absurd h5 c1
      · split
        · obtain ⟨z, ez⟩ := at_lt (u := arrOf st2) (p := lo) (by omega)
          refine wpS_bind (wpS_ltA hk ga ez ey ?_)
          cases hr : o.b z y with
          | true => exact wpS_pure (h t _ (.refl _ _) h3 h2 h4)
          | false =>
            refine wpS_bind (wpS_rev (wpS_cr2 hk ga ((As.refl lo st2).rv (by omega) (Nat.le_refl _)) hsz h3 (by omega) ?_ h))
            have all : ∀ i p, lo ≤ i → i < lo + t → (arrOf st2)[i]? = some p → o.le p y ∧ o.le y p := fun i p b1 b2 e =>
              ⟨h4 i (lo + t - 1) p y b1 (by omega) (by omega) e ey, o.le_trans (o.le_of_nb hr) (h4 lo i z p (Nat.le_refl _) b1 b2 ez e)⟩
            have q : o.dn (rv (arrOf st2) lo (lo + t)) lo (lo + t) := fun i j p q a1 a2 a3 ep eq => by
              rw [rv_at (by omega), if_pos (by omega)] at ep eq
              exact o.le_trans (all _ q (by omega) (by omega) eq).1 (all _ p (by omega) (by omega) ep).2
            have ex' : (rv (arrOf st2) lo (lo + t))[lo + t]? = some x := by rw [rv_at (by omega), if_neg (by omega)]; exact ex
            obtain ⟨y', ey'⟩ := at_lt (u := rv (arrOf st2) lo (lo + t)) (p := lo + t - 1) (by rw [mirror_size]; omega)
            refine dn_more h3 q ex' ey' ?_
            rw [rv_at (by omega), if_pos (by omega)] at ey'
            exact o.le_trans (o.le_of_b hb) (all _ y' (by omega) (by omega) ey').2
        · have : t = 1 := by omega
          subst this
          refine wpS_cr2 hk ga (.refl _ _) hsz (Nat.le_refl _) (by omega) (dn_more (Nat.le_refl _) ?_ ex ey (o.le_of_b hb)) h
          intro i j p q a1 a2 a3 ep eq
          have : i = j := by omega
          subst this
          rw [ep] at eq
          cases eq
          exact o.le_refl _
end
end BF
namespace BF
open PySem PyProof.Rows
section
def mrun : Nat → Nat → Nat → Nat := sortPriv% PySem.Builtin.minRun
def pwr : Nat → Nat → Nat → Nat → Nat := sortPriv% PySem.Builtin.power
def sruns : StateT SortSt Sem Unit := sortPriv% PySem.Builtin.sortRuns
abbrev setPend (st : SortSt) (p : Array (Nat × Nat × Nat)) : SortSt := SortSt.mk' (kindOf st) (arrOf st) p (gallopOf st) (failedOf st)
theorem sruns_eq : sruns = (do
    let all := (arrOf (← get)).size
    let least := mrun all all 0
    let mut at_ := 0
    for _ in [0:all] do
      if at_ ≥ all then break
      let some met ← crun at_ (all - at_) | return
      let mut n := met
      if n < least then
        rule "list.sort.binary-insertion"
        let most := min (all - at_) least
        if !(← bsort at_ most n) then return
        n := most
      if let some (s1, n1, _) := (pendingOf (← get)).back? then
        let w := pwr all (2 * s1 + n1) (2 * s1 + n1 + n1 + n) all
        for _ in [0:all] do
          let p := pendingOf (← get)
          let some (_, _, older) := (if p.size > 1 then p[p.size - 2]? else none) | break
          if older ≤ w then break
          if !(← mAt (p.size - 2)) then return
        modify fun st => setPend st ((pendingOf st).modify ((pendingOf st).size - 1) fun (x, y, _) => (x, y, w))
      modify fun st => setPend st ((pendingOf st).push (at_, n, 0))
      at_ := at_ + n
    for _ in [0:all] do
      let p := pendingOf (← get)
      if p.size ≤ 1 then break
      let i := p.size - 2
      let before := if i > 0 then p[i - 1]?.map (·.2.1) else none
      let i := if before.any (· < (p[i + 1]?.elim 0 (·.2.1))) then i - 1 else i
      if !(← mAt i) then return) := rfl
def srM (w : Nat) : StateT SortSt Sem (ForInStep (Option Unit × Unit)) := do
  let st ← get
  match (if (pendingOf st).size > 1 then (pendingOf st)[(pendingOf st).size - 2]? else none) with
  | some (_, _, older) =>
    if older ≤ w then pure (.done (none, ()))
    else do
      let b ← mAt ((pendingOf st).size - 2)
      if !b then pure (.done (some (), ())) else pure (.yield (none, ()))
  | _ => pure (.done (none, ()))
def srP (lo n : Nat) : StateT SortSt Sem (ForInStep (Option Unit × Nat)) := do
  modify fun st => setPend st ((pendingOf st).push (lo, n, 0))
  pure (.yield (none, lo + n))
def srT (all lo n : Nat) : StateT SortSt Sem (ForInStep (Option Unit × Nat)) := do
  let st ← get
  match (pendingOf st).back? with
  | some (s1, n1, _) => do
    let t ← forIn [0:all] ((none, ()) : Option Unit × Unit) (fun _ _ => srM (pwr all (2 * s1 + n1) (2 * s1 + n1 + n1 + n) all))
    match t.1 with
    | some r => pure (.done (some r, lo))
    | none => do
      modify fun st => setPend st ((pendingOf st).modify ((pendingOf st).size - 1) fun x => (x.1, x.2.1, pwr all (2 * s1 + n1) (2 * s1 + n1 + n1 + n) all))
      srP lo n
  | _ => srP lo n
end
section
variable {M : Model} {A : Around} {E : Value → Shared → Prop} {s : Shared} {kd : SortKind}
inductive Pend (o : Ord M A E s kd) : Nat → List (Nat × Nat × Nat) → List (List Keyed) → Prop where
  | nil (n : Nat) : Pend o n [] []
  | cons {n w : Nat} {R : List Keyed} {ps : List (Nat × Nat × Nat)} {Rs : List (List Keyed)} (u : R.Pairwise o.le) (h : 0 < R.length) (t : Pend o (n + R.length) ps Rs) : Pend o n ((n, R.length, w) :: ps) (R :: Rs)
variable {o : Ord M A E s kd}
theorem Pend.length {n : Nat} {ps : List (Nat × Nat × Nat)} {Rs : List (List Keyed)} (p : Pend o n ps Rs) : ps.length = Rs.length := by
  induction p with
  | nil => rfl
  | cons u h t ih => simp [ih]
theorem Pend.le {n : Nat} {ps : List (Nat × Nat × Nat)} {Rs : List (List Keyed)} (p : Pend o n ps Rs) : ps.length ≤ Rs.flatten.length := by
  induction p with
  | nil => simp
  | cons u h t ih => simp only [List.length_cons, List.flatten_cons, List.length_append]; omega
theorem Pend.snoc {n w : Nat} {ps : List (Nat × Nat × Nat)} {Rs : List (List Keyed)} (p : Pend o n ps Rs) {R : List Keyed} (u : R.Pairwise o.le) (h : 0 < R.length) : Pend o n (ps ++ [(n + Rs.flatten.length, R.length, w)]) (Rs ++ [R]) := by
  induction p with
  | nil n => exact .cons u h (.nil _)
  | @cons n w' R' ps Rs u' h' t ih =>
    refine .cons u' h' ?_
    have : n + (R' :: Rs).flatten.length = n + R'.length + Rs.flatten.length := by simp; omega
    rw [this]
    exact ih
theorem Pend.other {n : Nat} {ps : List (Nat × Nat × Nat)} {Rs : List (List Keyed)} (p : Pend o n ps Rs) : ∀ {ps' : List (Nat × Nat × Nat)}, ps'.map (fun x => (x.1, x.2.1)) = ps.map (fun x => (x.1, x.2.1)) → Pend o n ps' Rs := by
  induction p with
  | nil n =>
    intro ps' e
    cases ps' with
    | nil => exact .nil n
    | cons a l => simp at e
  | @cons n w R ps Rs u h t ih =>
    intro ps' e
    cases ps' with
    | nil => simp at e
    | cons a l =>
      obtain ⟨a1, a2, a3⟩ := a
      simp only [List.map_cons, List.cons.injEq, Prod.mk.injEq] at e
      obtain ⟨⟨rfl, rfl⟩, e2⟩ := e
      exact .cons u h (ih e2)
theorem Pend.pick {n : Nat} {ps : List (Nat × Nat × Nat)} {Rs : List (List Keyed)} (p : Pend o n ps Rs) : ∀ (i : Nat), i + 1 < ps.length → ∃ P1 P2 Rs1 Rs2 B C w w2, P1.length = i ∧ ps = P1 ++ (n + Rs1.flatten.length, B.length, w) :: (n + Rs1.flatten.length + B.length, C.length, w2) :: P2 ∧
    Rs = Rs1 ++ B :: C :: Rs2 ∧ B.Pairwise o.le ∧ C.Pairwise o.le ∧ 0 < B.length ∧ 0 < C.length ∧ ∀ D : List Keyed, D.Pairwise o.le → D.length = B.length + C.length → Pend o n (P1 ++ (n + Rs1.flatten.length, B.length + C.length, w) :: P2) (Rs1 ++ D :: Rs2) := by
  induction p with
  | nil n => intro i hi; simp at hi
  | @cons n w R ps Rs u h t ih =>
    intro i hi
    cases i with
    | zero =>
      cases t with
      | nil => simp at hi
      | @cons _ w2 R2 ps2 Rs2 u2 h2 t2 =>
        refine ⟨[], ps2, [], Rs2, R, R2, w, w2, rfl, by simp, rfl, u, u2, h, h2, fun D uD lD => ?_⟩
        have t3 : Pend o (n + D.length) ps2 Rs2 := by rw [lD, ← Nat.add_assoc]; exact t2
        have := Pend.cons (w := w) uD (by omega) t3
        rw [lD] at this
        simpa using this
    | succ i =>
      simp only [List.length_cons] at hi
      obtain ⟨P1, P2, Rs1, Rs2, B, C, v, v2, e1, e2, e3, uB, uC, hB, hC, k⟩ := ih i (by omega)
      have e : n + (R :: Rs1).flatten.length = n + R.length + Rs1.flatten.length := by simp; omega
      refine ⟨(n, R.length, w) :: P1, P2, R :: Rs1, Rs2, B, C, v, v2, by simp [e1], ?_, by simp [e3], uB, uC, hB, hC, fun D uD lD => ?_⟩
      · rw [e, e2]; rfl
      · rw [e]
        exact .cons u h (k D uD lD)
structure SRun (o : Ord M A E s kd) (a₀ : Array Keyed) (lo : Nat) (rest : List Keyed) (st : SortSt) : Prop where
  k : kindOf st = kd
  f : failedOf st = none
  perm : (arrOf st).Perm a₀
  ex : ∃ Rs, (arrOf st).toList = Rs.flatten ++ rest ∧ Rs.flatten.length = lo ∧ Pend o 0 (pendingOf st).toList Rs
variable {a₀ : Array Keyed} {lo : Nat} {rest : List Keyed} {st : SortSt}
theorem all_perm {xs ys : Array Keyed} (p : ys.Perm xs) (ga : o.all xs) : o.all ys := fun i x e => by
  obtain ⟨j, e2⟩ := Array.getElem?_of_mem (p.mem_iff.mp (Array.mem_of_getElem? e))
  exact ga j x e2
theorem SRun.merge (S : SRun o a₀ lo rest st) (ga : o.all a₀) {i : Nat} (hi : i + 1 < (pendingOf st).size) {Q : Bool → SortSt → Prop} (h : ∀ st', SRun o a₀ lo rest st' → (pendingOf st').size + 1 = (pendingOf st).size → Q true st') : wpS M A E s (mAt i) Q st := by
  obtain ⟨Rs, e, el, p⟩ := S.ex
  obtain ⟨P1, P2, Rs1, Rs2, B, C, w, w2, e1, e2, e3, uB, uC, hB, hC, k⟩ := p.pick i (by simpa using hi)
  simp only [Nat.zero_add] at e2 k
  have ea : (arrOf st).toList = Rs1.flatten ++ B ++ C ++ (Rs2.flatten ++ rest) := by rw [e, e3]; simp
  refine wpS_mAt S.k S.f (all_perm S.perm ga) ea uB uC hB hC e2 e1.symm fun st' D hk' hf' ha' uD pD hp' => ?_
  have lD : D.length = B.length + C.length := by rw [pD.length_eq, List.length_append]
  refine h st' ⟨hk', hf', ?_, Rs1 ++ D :: Rs2, by rw [ha']; simp, ?_, by rw [hp']; exact k D uD lD⟩ ?_
  · refine Array.Perm.trans ?_ S.perm
    rw [Array.perm_iff_toList_perm, ha', ea]
    refine List.Perm.append_right _ ?_
    rw [List.append_assoc]
    exact List.Perm.append_left _ pD
  · rw [← el, e3]
    simp [lD]
    omega
  · have a1 := congrArg List.length hp'
    have a2 := congrArg List.length e2
    simp at a1 a2
    omega
theorem wpS_srM (S : SRun o a₀ lo rest st) (ga : o.all a₀) {w : Nat} : wpS M A E s (srM w) (fun t st' => SRun o a₀ lo rest st' ∧ (t = .done (none, ()) ∨ t = .yield (none, ()))) st := by
  unfold srM
  refine wpS_bind (wpS_get ?_)
  by_cases h1 : (pendingOf st).size > 1
  · rw [if_pos h1]
    obtain ⟨x, ex⟩ : ∃ x, (pendingOf st)[(pendingOf st).size - 2]? = some x := ⟨(pendingOf st)[(pendingOf st).size - 2], getElem?_pos _ _ (by omega)⟩
    rw [ex]
    obtain ⟨x1, x2, x3⟩ := x
    dsimp only
    split
    · exact wpS_pure ⟨S, .inl rfl⟩
    · exact wpS_bind (S.merge ga (by omega) fun st' S' _ => wpS_pure ⟨S', .inr rfl⟩)
  · rw [if_neg h1]
    exact wpS_pure ⟨S, .inl rfl⟩
theorem wpS_srP (S : SRun o a₀ lo rest st) {n : Nat} (hn : 0 < n) (hr : n ≤ rest.length) (u : (rest.take n).Pairwise o.le) : wpS M A E s (srP lo n) (fun t st' => t = .yield (none, lo + n) ∧ SRun o a₀ (lo + n) (rest.drop n) st') st := by
  unfold srP
  refine wpS_bind (wpS_modify (wpS_pure ⟨rfl, S.k, S.f, S.perm, ?_⟩))
  obtain ⟨Rs, e, el, p⟩ := S.ex
  have ln : (rest.take n).length = n := by rw [List.length_take]; omega
  refine ⟨Rs ++ [rest.take n], ?_, by simp [el]; omega, ?_⟩
  · show (arrOf st).toList = _
    rw [e]
    simp
  · have := p.snoc (w := 0) u (by omega)
    rw [Nat.zero_add, el, ln] at this
    show Pend o 0 ((pendingOf st).push (lo, n, 0)).toList _
    rw [Array.toList_push]
    exact this
theorem wpS_srT (S : SRun o a₀ lo rest st) (ga : o.all a₀) {all n : Nat} (hn : 0 < n) (hr : n ≤ rest.length) (u : (rest.take n).Pairwise o.le) : wpS M A E s (srT all lo n) (fun t st' => t = .yield (none, lo + n) ∧ SRun o a₀ (lo + n) (rest.drop n) st') st := by
  unfold srT
  refine wpS_bind (wpS_get ?_)
  cases hb : (pendingOf st).back? with
  | none => exact wpS_srP S hn hr u
  | some x =>
    obtain ⟨s1, n1, w1⟩ := x
    dsimp only
    refine wpS_bind (wpS_mono (wpS_forRange (I := fun t c st2 => c = (none, ()) ∧ SRun o a₀ lo rest st2) (Q := fun c st2 => c = (none, ()) ∧ SRun o a₀ lo rest st2) ?step (fun c st2 hh => hh) ⟨rfl, S⟩) ?post)
    case step =>
      rintro t c st2 _ _ ⟨rfl, S2⟩
      refine wpS_mono (wpS_srM S2 ga) fun t st3 ⟨S3, ht⟩ => ?_
      rcases ht with rfl | rfl
      · exact ⟨rfl, S3⟩
      · exact ⟨rfl, S3⟩
    case post =>
      rintro c st2 ⟨rfl, S2⟩
      dsimp only
      refine wpS_bind (wpS_modify ?_)
      refine wpS_srP (lo := lo) (rest := rest) (SRun.mk (by exact S2.k) (by exact S2.f) (by exact S2.perm) ?_) hn hr u
      obtain ⟨Rs, e, el, p⟩ := S2.ex
      refine ⟨Rs, e, el, p.other ?_⟩
      show (((pendingOf st2).modify ((pendingOf st2).size - 1) _).toList).map _ = _
      rw [Array.toList_modify]
      refine List.ext_getElem? fun i => ?_
      rw [List.getElem?_map, List.getElem?_map, List.getElem?_modify]
      split
      · cases (pendingOf st2).toList[i]? <;> rfl
      · cases (pendingOf st2).toList[i]? <;> rfl
end
end BF
namespace BF
open PySem PyProof.Rows
section
variable {M : Model} {A : Around} {E : Value → Shared → Prop} {s : Shared} {kd : SortKind} {o : Ord M A E s kd} {a₀ : Array Keyed} {lo : Nat} {rest : List Keyed} {st st' : SortSt}
theorem SRun.as (S : SRun o a₀ lo rest st) (h : As lo st st') : SRun o a₀ lo ((arrOf st').toList.drop lo) st' ∧ lo + ((arrOf st').toList.drop lo).length = a₀.size := by
  obtain ⟨Rs, e, el, p⟩ := S.ex
  have sz : (arrOf st').size = a₀.size := (h.perm.trans S.perm).size_eq
  have sz0 : (arrOf st).size = a₀.size := S.perm.size_eq
  have le : lo ≤ a₀.size := by
    have := size_mid e
    rw [List.length_append] at this
    omega
  have et : (arrOf st').toList.take lo = Rs.flatten := by
    have : (arrOf st').toList.take lo = (arrOf st).toList.take lo := by
      refine List.ext_getElem? fun i => ?_
      rw [List.getElem?_take, List.getElem?_take]
      split
      · have := h.pre i (by assumption)
        simpa using this
      · rfl
    rw [this, e, ← el, List.take_left]
  refine ⟨⟨h.k.trans S.k, h.f.trans S.f, h.perm.trans S.perm, Rs, ?_, el, by rw [h.p]; exact p⟩, ?_⟩
  · rw [← et, List.take_append_drop]
  · rw [List.length_drop, Array.length_toList, sz]; omega
theorem up_take {xs : Array Keyed} {m : Nat} (h : o.up xs lo (lo + m)) : ((xs.toList.drop lo).take m).Pairwise o.le := by
  rw [List.pairwise_iff_getElem]
  intro i j hi hj hij
  have bi : i < m := by rw [List.length_take] at hi; omega
  have bj : j < m := by rw [List.length_take] at hj; omega
  have ei : xs[lo + i]? = some ((xs.toList.drop lo).take m)[i] := by
    have := List.getElem?_eq_getElem hi
    rw [List.getElem?_take, if_pos bi, List.getElem?_drop] at this
    simpa using this
  have ej : xs[lo + j]? = some ((xs.toList.drop lo).take m)[j] := by
    have := List.getElem?_eq_getElem hj
    rw [List.getElem?_take, if_pos bj, List.getElem?_drop] at this
    simpa using this
  exact h _ _ _ _ (by omega) (by omega) (by omega) ei ej
theorem pick_ok (c : Prop) [Decidable c] (k : Nat) (h : 1 < k) : (if c then k - 2 - 1 else k - 2) + 1 < k := by split <;> omega
theorem wpS_conv {α : Type} {m m' : StateT SortSt Sem α} {Q : α → SortSt → Prop} (e : m = m') (h : wpS M A E s m Q st) : wpS M A E s m' Q st := e ▸ h
theorem wpS_sruns {Q : Unit → SortSt → Prop} (hk : kindOf st = kd) (hf : failedOf st = none) (ga : o.all (arrOf st)) (hp : pendingOf st = #[])
    (h : ∀ st', failedOf st' = none → (arrOf st').Perm (arrOf st) → (arrOf st').toList.Pairwise o.le → Q () st') : wpS M A E s sruns Q st := by
  rw [sruns_eq]
  refine wpS_bind (wpS_get ?_)
  dsimp only
  have S0 : SRun o (arrOf st) 0 (arrOf st).toList st := ⟨hk, hf, .refl _, [], rfl, rfl, by rw [hp]; exact .nil 0⟩
  have z0 : 0 + (arrOf st).toList.length = (arrOf st).size := by simp
  refine wpS_bind (wpS_mono (wpS_forRange (I := fun t c st2 => ∃ lo rest, c = (none, lo) ∧ SRun o (arrOf st) lo rest st2 ∧ t ≤ lo ∧ lo + rest.length = (arrOf st).size)
    (Q := fun c st2 => c = (none, (arrOf st).size) ∧ SRun o (arrOf st) (arrOf st).size [] st2) ?step ?fin ⟨0, _, rfl, S0, Nat.le_refl _, z0⟩) ?post)
  case fin =>
    rintro c st2 ⟨lo, rest, rfl, S, h1, h2⟩
    have h3 : rest.length = 0 := by omega
    have e1 : rest = [] := List.eq_nil_of_length_eq_zero h3
    subst e1
    have e2 : lo = (arrOf st).size := by simpa using h2
    subst e2
    exact ⟨rfl, S⟩
  case step =>
    rintro t c st2 _ ht ⟨lo, rest, rfl, S, h1, h2⟩
    dsimp only
    by_cases hge : lo ≥ (arrOf st).size
    · rw [if_pos hge]
      have h3 : rest.length = 0 := by omega
      have e1 : rest = [] := List.eq_nil_of_length_eq_zero h3
      subst e1
      have e2 : lo = (arrOf st).size := by simpa using h2
      subst e2
      exact wpS_pure ⟨rfl, S⟩
    · rw [if_neg hge]
      have ga2 := all_perm S.perm ga
      have sz2 : (arrOf st2).size = (arrOf st).size := S.perm.size_eq
      refine wpS_bind (wpS_crun S.k ga2 (by omega) (by omega) fun m st3 A3 m1 m2 u3 => ?_)
      obtain ⟨S3, l3⟩ := S.as A3
      have ga3 := all_perm S3.perm ga
      have sz3 : (arrOf st3).size = (arrOf st).size := S3.perm.size_eq
      have tail : ∀ (n : Nat) (st4 : SortSt) (Q' : ForInStep (Option Unit × Nat) → SortSt → Prop), SRun o (arrOf st) lo ((arrOf st4).toList.drop lo) st4 → lo + ((arrOf st4).toList.drop lo).length = (arrOf st).size → 0 < n → n ≤ (arrOf st).size - lo → o.up (arrOf st4) lo (lo + n) →
          (∀ st', (∃ lo' rest, ((none, lo + n) : Option Unit × Nat) = (none, lo') ∧ SRun o (arrOf st) lo' rest st' ∧ t + 1 ≤ lo' ∧ lo' + rest.length = (arrOf st).size) → Q' (.yield (none, lo + n)) st') → wpS M A E s (srT (arrOf st).size lo n) Q' st4 := fun n st4 Q' S4 l4 n0 n1 u4 hq => by
        refine wpS_mono (wpS_srT S4 ga n0 (by omega) (up_take u4)) fun r st5 ⟨er, S5⟩ => ?_
        subst er
        exact hq st5 ⟨lo + n, _, rfl, S5, by omega, by rw [List.length_drop]; omega⟩
      dsimp only
      split
      · refine wpS_bind (wpS_lift (wpAny_rule ⟨rfl, ?_⟩))
        refine wpS_bind (wpS_bsort S3.k ga3 (by omega) (by omega) u3 fun st4 A4 u4 => ?_)
        obtain ⟨S4, l4⟩ := S3.as A4
        rw [if_neg (by decide)]
        refine wpS_conv (m := srT (arrOf st).size lo (min ((arrOf st).size - lo) (mrun (arrOf st).size (arrOf st).size 0))) ?_ (tail _ st4 _ S4 l4 (by omega) (by omega) u4 fun st' hh => hh)
        · dsimp only [srT, srM, srP]
          refine bind_congr fun sx => ?_
          cases (pendingOf sx).back? with
          | none => rfl
          | some x =>
            obtain ⟨s1, n1, w1⟩ := x
            refine bind2 (congrArg (forIn _ _) (funext fun _ => funext fun _ => bind_congr fun sy => ?_)) (funext fun tt => ?_)
            · generalize (if (pendingOf sy).size > 1 then (pendingOf sy)[(pendingOf sy).size - 2]? else none) = zz
              rcases zz with _ | ⟨_, _, _⟩ <;> rfl
            · obtain ⟨z, _⟩ := tt
              cases z <;> rfl
      · refine wpS_conv (m := srT (arrOf st).size lo m) ?_ (tail m st3 _ S3 l3 (by omega) m2 u3 fun st' hh => hh)
        · dsimp only [srT, srM, srP]
          refine bind_congr fun sx => ?_
          cases (pendingOf sx).back? with
          | none => rfl
          | some x =>
            obtain ⟨s1, n1, w1⟩ := x
            refine bind2 (congrArg (forIn _ _) (funext fun _ => funext fun _ => bind_congr fun sy => ?_)) (funext fun tt => ?_)
            · generalize (if (pendingOf sy).size > 1 then (pendingOf sy)[(pendingOf sy).size - 2]? else none) = zz
              rcases zz with _ | ⟨_, _, _⟩ <;> rfl
            · obtain ⟨z, _⟩ := tt
              cases z <;> rfl
  case post =>
    rintro c st2 ⟨rfl, S⟩
    dsimp only
    have p2 : (pendingOf st2).size ≤ (arrOf st).size := by
      obtain ⟨Rs, e, el, p⟩ := S.ex
      have := p.le
      rw [el] at this
      simpa using this
    refine wpS_bind (wpS_mono (wpS_forRange (I := fun t c st2 => c = (none, ()) ∧ SRun o (arrOf st) (arrOf st).size [] st2 ∧ ((pendingOf st2).size + t ≤ (arrOf st).size ∨ (pendingOf st2).size ≤ 1))
      (Q := fun c st2 => c = (none, ()) ∧ SRun o (arrOf st) (arrOf st).size [] st2 ∧ (pendingOf st2).size ≤ 1) ?step2 ?fin2 ⟨rfl, S, .inl (by omega)⟩) ?post2)
    case fin2 =>
      rintro c st3 ⟨rfl, S3, h3⟩
      exact ⟨rfl, S3, by omega⟩
    case step2 =>
      rintro t c st3 _ ht ⟨rfl, S3, h3⟩
      refine wpS_bind (wpS_get ?_)
      by_cases h4 : (pendingOf st3).size ≤ 1
      · rw [if_pos h4]
        exact wpS_pure ⟨rfl, S3, h4⟩
      · rw [if_neg h4]
        refine wpS_bind (S3.merge ga ?_ fun st4 S4 e4 => ?_)
        · exact pick_ok _ _ (by omega)
        · exact wpS_pure ⟨rfl, S4, .inl (by omega)⟩
    case post2 =>
      rintro c st3 ⟨rfl, S3, h3⟩
      refine wpS_pure (h st3 S3.f S3.perm ?_)
      obtain ⟨Rs, e, el, p⟩ := S3.ex
      rw [e, List.append_nil]
      have hl := p.length
      have hl2 : Rs.length ≤ 1 := by rw [← hl]; simpa using h3
      cases Rs with
      | nil => exact List.Pairwise.nil
      | cons R Rs' =>
        cases Rs' with
        | cons R2 Rs2 => simp at hl2
        | nil =>
          generalize (pendingOf st3).toList = ps at p
          cases p with
          | cons u _ _ => simpa using u
end
end BF
namespace BF
open PySem PyProof.Rows
section
variable {prog : Program} {w : World} {A : Around} {E : Value → Shared → Prop} {s : Shared}
abbrev midHeap (h : Heap) (a : Addr) (vs : List Value) : Heap := ((h.update a (Obj.mapSeq fun _ => #[])).push (seqObj "tuple" vs.toArray 0)).push (seqObj "list" #[] 0)
theorem pw_short {α : Type} {R : α → α → Prop} : ∀ {L : List α}, L.length < 2 → L.Pairwise R
  | [], _ => .nil
  | [_], _ => List.pairwise_singleton _ _
  | _ :: _ :: _, h => absurd h (by simp)
theorem list_sort_any {a : Addr} {vs : List Value} {n : Nat} {P : Fin → Shared → Prop} {kd : SortKind} (ho : s.heap.get? a = some (seqObj "list" vs.toArray n)) (hle : vs.length ≤ sizeLine)
    (hkk : 2 ≤ vs.length → ∀ Q : SortKind → Shared → Prop, Q kd { s with heap := midHeap s.heap a vs } → wpAny (model prog w) A (keyKind' vs.toArray) Q E { s with heap := midHeap s.heap a vs })
    (o : Ord (model prog w) A E { s with heap := midHeap s.heap a vs } kd) (ga : o.all (pairsOf vs))
    (h : ∀ ks : Array Keyed, ks.Perm (pairsOf vs) → ks.toList.Pairwise o.le → P (.done (.ret .none)) { s with heap := sortedHeap s.heap a vs (ks.map (·.2)) }) :
    wpAny (model prog w) A (Builtin.«list.sort» ⟨[.ref a], []⟩) P E s := by
  rw [list_sort_plain]
  have ha := Heap.lt_size ho
  refine wpAny_bind (listItems_at ho rfl (wpAny_bind (listUpdate_at ho rfl ?_)))
  obtain ⟨e1, h1⟩ : ∃ e1, (s.heap.update a (Obj.mapSeq fun _ => #[])).get? a = some (seqObj "list" #[] e1) := ⟨_, get?_update_seq ho (fun _ => #[])⟩
  refine wpAny_bind (seqEpoch_at h1 rfl (wpAny_bind (wpAny_newTuple (wpAny_bind (wpAny_newList (wpAny_holding ?_))))))
  have h6 : (midHeap s.heap a vs).get? a = some (seqObj "list" #[] e1) := by
    have n1 : a ≠ (s.heap.update a (Obj.mapSeq fun _ => #[])).objs.size := Nat.ne_of_lt (by rw [Heap.size_update]; exact ha)
    have n2 : a ≠ ((s.heap.update a (Obj.mapSeq fun _ => #[])).push (seqObj "tuple" vs.toArray 0)).objs.size := Nat.ne_of_lt (by rw [size_push', Heap.size_update]; exact Nat.lt_succ_of_lt ha)
    rw [Heap.get?_push_ne _ _ _ n2, Heap.get?_push_ne _ _ _ n1]
    exact h1
  show wpAny (model prog w) A _ P E { s with heap := midHeap s.heap a vs }
  dsimp only
  by_cases h2 : vs.toArray.size < 2
  · rw [if_pos h2, if_pos h2]
    refine wpAny_bind (wpAny_pure ?_)
    rw [StateT.run_pure]
    refine wpAny_bind (wpAny_pure (wpAny_bind (seqEpoch_at h6 rfl (wpAny_bind (listUpdate_at h6 rfl ?_ (hsz2 := ?_))))))
    · simp only [bne_self_eq_false, Bool.false_eq_true, if_false]
      refine wpAny_pure (h (pairsOf vs) (Array.Perm.refl _) ?_)
      have hl : (pairsOf vs).toList.length < 2 := by rw [Array.length_toList, pairsOf_size]; simpa using h2
      exact pw_short hl
    · rw [Array.size_map]
      show (pairsOf vs).size ≤ _
      rw [pairsOf_size]
      omega
  · rw [if_neg h2, if_neg h2]
    have h3 : 2 ≤ vs.length := by simpa using h2
    refine wpAny_bind (hkk h3 _ ?_)
    refine wpAny_bind (wpAny_mono (wpS_sruns (o := o) (st := SortSt.mk' kd (pairsOf vs) #[] 7 none) (Q := fun _ st' => failedOf st' = none ∧ (arrOf st').Perm (pairsOf vs) ∧ (arrOf st').toList.Pairwise o.le) rfl rfl ga rfl fun st' a1 a2 a3 => ⟨a1, a2, a3⟩) ?_ fun _ _ e => e)
    rintro ⟨⟨⟩, st'⟩ s' ⟨rfl, hf, hp, hs⟩
    refine wpAny_bind (seqEpoch_at h6 rfl (wpAny_bind (listUpdate_at h6 rfl ?_ (hsz2 := ?_))))
    · dsimp only at hf ⊢
      rw [hf]
      simp only [bne_self_eq_false, Bool.false_eq_true, if_false]
      exact wpAny_pure (h _ hp hs)
    · refine Nat.le_trans (Nat.le_of_eq ((Array.size_map ..).trans (hp.size_eq.trans (pairsOf_size _)))) ?_
      omega
end
end BF
namespace BF
open PySem PyProof.Rows
section
variable {prog : Program} {w : World} {A : Around} {E : Value → Shared → Prop} {s : Shared}
abbrev bagHeap (h : Heap) (vs : List Value) : Heap := ((h.push (seqObj "list" #[] 0)).update h.objs.size (Obj.mapSeq (· ++ vs.toArray))).push (seqObj "list" vs.toArray 0)
theorem sorted_any {l : Addr} {vs : List Value} {Q : Value → Shared → Prop} {kd : SortKind} (hl : s.heap.IsList l vs.toArray) (hle : vs.length ≤ sizeLine) (le : Keyed → Keyed → Prop)
    (hkk : 2 ≤ vs.length → ∀ (A' : Around) (E' : Value → Shared → Prop) (Q : SortKind → Shared → Prop), Q kd { s with heap := midHeap (bagHeap s.heap vs) (s.heap.objs.size + 1) vs } → wpAny (model prog w) A' (keyKind' vs.toArray) Q E' { s with heap := midHeap (bagHeap s.heap vs) (s.heap.objs.size + 1) vs })
    (ord : ∀ (A' : Around) (E' : Value → Shared → Prop), A'.units ≤ A.units + 4 → ∃ o : Ord (model prog w) A' E' { s with heap := midHeap (bagHeap s.heap vs) (s.heap.objs.size + 1) vs } kd, o.all (pairsOf vs) ∧ ∀ x y, o.le x y → le x y)
    (h : ∀ ks : Array Keyed, ks.Perm (pairsOf vs) → ks.toList.Pairwise le → Q (.ref (s.heap.objs.size + 1)) { s with heap := sortedAll s.heap vs (ks.map (·.2)) }) :
    wpAny (model prog w) A (call (.builtin "sorted") [.ref l]) Q E s := by
  refine Calls.call_function_entry kind_sorted plain_sorted entry_sorted (args_sorted1 _) ?_
  unfold Builtin.«sorted»
  refine wpAny_bind (m := checkCount "sorted" 1 1 _) (wpAny_pure (wpAny_bind (collect_list hl (wpAny_bind (wpAny_newList ?_)) hle)))
  have hsz : ((s.heap.push (seqObj "list" #[] 0)).update s.heap.objs.size (Obj.mapSeq (· ++ vs.toArray))).objs.size = s.heap.objs.size + 1 := by
    rw [Heap.size_update, size_push']
  have hb : (bagHeap s.heap vs).get? (s.heap.objs.size + 1) = some (seqObj "list" vs.toArray 0) := by
    rw [← hsz]; exact Heap.get?_push_size _ rfl
  show wpAny _ _ _ _ _ { s with heap := bagHeap s.heap vs }
  rw [hsz]
  obtain ⟨o, ga, ho⟩ := ord A.in1.in1 E (by show A.units + 1 + 1 ≤ _; omega)
  refine wpAny_bind (wpAny_holding (wpAny_call_entry slot_list_sort ⟨_, hb, rfl⟩ entry_list_sort (list_sort_any (s := { s with heap := bagHeap s.heap vs }) (kd := kd) hb hle (fun h2 Q q => hkk h2 _ _ Q q) o ga fun ks kp ku => ⟨_, rfl, ?_⟩) (args_list_sort _)))
  exact wpAny_pure ⟨_, rfl, h ks kp (ku.imp fun {x y} z => ho x y z)⟩
end
end BF
namespace BF
open PySem PyProof.Rows
mutual
def Dt.blt : Dt → Dt → Bool
  | .int i, .int j => decide (i < j)
  | .int _, .str _ => true
  | .int _, .tup _ => true
  | .str _, .int _ => false
  | .str x, .str y => decide (x.cps.toList < y.cps.toList)
  | .str _, .tup _ => true
  | .tup _, .int _ => false
  | .tup _, .str _ => false
  | .tup l, .tup m => Dt.blts l m
def Dt.blts : List Dt → List Dt → Bool
  | [], [] => false
  | [], _ :: _ => true
  | _ :: _, [] => false
  | a :: l, b :: m => if Dt.beq a b = true then Dt.blts l m else Dt.blt a b
end
theorem Dt.beq_false {a b : Dt} : Dt.beq a b = false ↔ a ≠ b := by
  rw [← Bool.not_eq_true, Dt.beq_iff]
mutual
theorem Dt.irr : ∀ a : Dt, Dt.blt a a = false
  | .int i => by simp [Dt.blt]
  | .str x => by simp only [Dt.blt, decide_eq_false_iff_not]; exact List.lt_irrefl _
  | .tup l => by simp only [Dt.blt]; exact Dt.irrs l
theorem Dt.irrs : ∀ l : List Dt, Dt.blts l l = false
  | [] => by simp [Dt.blts]
  | a :: l => by simp only [Dt.blts, Dt.beq_self, if_true]; exact Dt.irrs l
end
mutual
theorem Dt.tot : ∀ a b : Dt, Dt.blt a b = false → Dt.blt b a = false → a = b
  | .int i, .int j => by simp only [Dt.blt, decide_eq_false_iff_not]; intro h1 h2; congr 1; omega
  | .int i, .str y => by simp [Dt.blt]
  | .int i, .tup m => by simp [Dt.blt]
  | .str x, .int j => by simp [Dt.blt]
  | .str x, .str y => by
    simp only [Dt.blt, decide_eq_false_iff_not]
    intro h1 h2
    have : x.cps.toList = y.cps.toList := List.le_antisymm (List.not_lt.mp h2) (List.not_lt.mp h1)
    cases x with | mk cx =>
    cases y with | mk cy =>
    have : cx = cy := Array.toList_inj.mp this
    rw [this]
  | .str x, .tup m => by simp [Dt.blt]
  | .tup l, .int j => by simp [Dt.blt]
  | .tup l, .str y => by simp [Dt.blt]
  | .tup l, .tup m => by simp only [Dt.blt]; intro h1 h2; rw [Dt.tots l m h1 h2]
theorem Dt.tots : ∀ l m : List Dt, Dt.blts l m = false → Dt.blts m l = false → l = m
  | [], [] => by simp
  | [], b :: m => by simp [Dt.blts]
  | a :: l, [] => by simp [Dt.blts]
  | a :: l, b :: m => by
    simp only [Dt.blts]
    intro h1 h2
    by_cases e : a = b
    · subst e
      rw [if_pos (Dt.beq_self a)] at h1 h2
      rw [Dt.tots l m h1 h2]
    · rw [if_neg (by rw [Dt.beq_iff]; exact e)] at h1
      rw [if_neg (by rw [Dt.beq_iff]; exact fun z => e z.symm)] at h2
      exact absurd (Dt.tot a b h1 h2) e
end
mutual
theorem Dt.trn : ∀ a b c : Dt, Dt.blt a b = true → Dt.blt b c = true → Dt.blt a c = true
  | .int i, .int j, .int k => by simp only [Dt.blt, decide_eq_true_eq]; omega
  | .int i, .int j, .str z => by simp [Dt.blt]
  | .int i, .int j, .tup n => by simp [Dt.blt]
  | .int i, .str y, .int k => by simp [Dt.blt]
  | .int i, .str y, .str z => by simp [Dt.blt]
  | .int i, .str y, .tup n => by simp [Dt.blt]
  | .int i, .tup m, .int k => by simp [Dt.blt]
  | .int i, .tup m, .str z => by simp [Dt.blt]
  | .int i, .tup m, .tup n => by simp [Dt.blt]
  | .str x, .int j, c => by intro h; simp only [Dt.blt, Bool.false_eq_true] at h
  | .str x, .str y, .int k => by simp [Dt.blt]
  | .str x, .str y, .str z => by simp only [Dt.blt, decide_eq_true_eq]; exact List.lt_trans
  | .str x, .str y, .tup n => by simp [Dt.blt]
  | .str x, .tup m, .int k => by simp [Dt.blt]
  | .str x, .tup m, .str z => by simp [Dt.blt]
  | .str x, .tup m, .tup n => by simp [Dt.blt]
  | .tup l, .int j, c => by intro h; simp only [Dt.blt, Bool.false_eq_true] at h
  | .tup l, .str y, c => by intro h; simp only [Dt.blt, Bool.false_eq_true] at h
  | .tup l, .tup m, .int k => by simp [Dt.blt]
  | .tup l, .tup m, .str z => by simp [Dt.blt]
  | .tup l, .tup m, .tup n => by simp only [Dt.blt]; exact Dt.trns l m n
theorem Dt.trns : ∀ l m n : List Dt, Dt.blts l m = true → Dt.blts m n = true → Dt.blts l n = true
  | [], [], n => by intro h; simp only [Dt.blts, Bool.false_eq_true] at h
  | [], b :: m, [] => by simp [Dt.blts]
  | [], b :: m, c :: n => by simp [Dt.blts]
  | a :: l, [], n => by intro h; simp only [Dt.blts, Bool.false_eq_true] at h
  | a :: l, b :: m, [] => by simp [Dt.blts]
  | a :: l, b :: m, c :: n => by
    simp only [Dt.blts]
    intro h1 h2
    by_cases e1 : a = b
    · subst e1
      rw [if_pos (Dt.beq_self a)] at h1
      by_cases e2 : a = c
      · subst e2
        rw [if_pos (Dt.beq_self a)] at h2 ⊢
        exact Dt.trns l m n h1 h2
      · have ne : ¬ Dt.beq a c = true := by rw [Dt.beq_iff]; exact e2
        rw [if_neg ne] at h2 ⊢
        exact h2
    · rw [if_neg (by rw [Dt.beq_iff]; exact e1)] at h1
      by_cases e2 : b = c
      · subst e2
        rw [if_neg (by rw [Dt.beq_iff]; exact e1)]
        exact h1
      · rw [if_neg (by rw [Dt.beq_iff]; exact e2)] at h2
        have t := Dt.trn a b c h1 h2
        by_cases e3 : a = c
        · subst e3
          rw [Dt.irr] at t
          cases t
        · rw [if_neg (by rw [Dt.beq_iff]; exact e3)]
          exact t
end
def dtOrd : KeyOrd where
  α := Dt
  blt := Dt.blt
  irrefl := Dt.irr
  trans := Dt.trn
  negTrans a b c h := by
    cases hb : Dt.blt a b with
    | true => exact .inl rfl
    | false =>
      cases hc : Dt.blt b a with
      | true => exact .inr (Dt.trn _ _ _ hc h)
      | false => rw [← Dt.tot a b hb hc]; exact .inr h
  total := Dt.tot
end BF
namespace BF
open PySem PySem.Spec PyProof.Rows L2 PySem.SeqAt
def LtAt (A : Around) (s : Shared) (x y : Value) (b : Bool) : Prop := ∀ (prog : Program) (w : World) (Q E : Value → Shared → Prop), Q (.bool b) s → wpAny (model prog w) A (richCompare .Lt x y) Q E s
inductive Lx (A : Around) (s : Shared) : List Value → List Value → Bool → Prop where
  | both : Lx A s [] [] false
  | left (y : Value) (ys : List Value) : Lx A s [] (y :: ys) true
  | right (x : Value) (xs : List Value) : Lx A s (x :: xs) [] false
  | like {x y : Value} {xs ys : List Value} {r : Bool} (h : EqAt A s x y true) (t : Lx A s xs ys r) : Lx A s (x :: xs) (y :: ys) r
  | part {x y : Value} {r : Bool} (xs ys : List Value) (h : EqAt A s x y false) (k : LtAt A s x y r) : Lx A s (x :: xs) (y :: ys) r
section
open PySem.AutoSeq1 (wpAny_loadPart')
open PySem.MeetsSeq PySem.MeetsSeq2 PySem.MeetsSeq3
theorem tuple_lt_lx (l b : Addr) (pa pb : Array Value) (n n2 : Nat) (dd dd2 : Option Addr) (sl sl2 : Array (Option Value)) (r : Bool) :
    Meets (Builtin.«tuple.__lt__» ⟨[.ref l, .ref b], []⟩)
      (fun A R s => Lx A.in1 s pa.toList pb.toList r ∧ s.heap.get? l = some { cls := .type "tuple", dict := dd, data := .seq pa n, slots := sl } ∧ s.heap.get? b = some { cls := .type "tuple", dict := dd2, data := .seq pb n2, slots := sl2 } ∧
        R (.ok (.ret (.bool r))) s) :=
  .of_wp fun prog w A R s h => by
    obtain ⟨hp, g, d, tk, os⟩ := s
    obtain ⟨lx, hl, hb, h⟩ := h
    have f2 := AutoSeq1.sub_tuple_tuple
    wp_walk using wpAny_loadPart' hl, wpAny_loadPart' hb, wpAny_forIn_list _ (fun rest q s' => q.1 = none ∧ s' = ⟨hp, g, d, tk, os⟩ ∧ ∃ (vs ws : List Value), rest = vs.zip ws ∧
      Lx A.in1 ⟨hp, g, d, tk, os⟩ vs ws r ∧ vs.length + pb.size = ws.length + pa.size) _
    case turn =>
      rintro ⟨y, x⟩ rest q s' ⟨hq, rfl, vs, ws, hz, lx, hlen⟩
      cases lx with
      | both => rw [List.zip_nil_left] at hz; cases hz
      | left => rw [List.zip_nil_left] at hz; cases hz
      | right => rw [List.zip_nil_right] at hz; cases hz
      | @like x' y' xs ys _ he t =>
        rw [List.zip_cons_cons] at hz
        injection hz with e1 e2
        injection e1 with e3 e4
        subst e3 e4
        simp only [List.length_cons] at hlen
        refine wpAny_bind (he prog w _ _ ?_)
        wp_walk
        exact ⟨rfl, rfl, _, _, e2, t, by omega⟩
      | @part x' y' _ xs ys he k =>
        rw [List.zip_cons_cons] at hz
        injection hz with e1 e2
        injection e1 with e3 e4
        subst e3 e4
        refine wpAny_bind (he prog w _ _ ?_)
        have kk : ∀ (E : Value → Shared → Prop) (Q : Value → Shared → Prop), Q (.bool r) ⟨hp, g, d, tk, os⟩ → wpAny (model prog w) A.in1 (richCompare .Lt y x) Q E ⟨hp, g, d, tk, os⟩ := fun E Q z => k prog w Q E z
        wp_walk using kk
        exact ⟨_, rfl, by simpa using h⟩
    case fin =>
      rintro ⟨b1, b2⟩ s' ⟨hq, rfl, vs, ws, hz, lx, hlen⟩
      simp only at hq
      subst hq
      have hv : r = decide (pa.size < pb.size) := by
        cases lx with
        | both => simp only [List.length_nil] at hlen; exact (decide_eq_false (by omega)).symm
        | left => simp only [List.length_nil, List.length_cons] at hlen; exact (decide_eq_true (by omega)).symm
        | right => simp only [List.length_nil, List.length_cons] at hlen; exact (decide_eq_false (by omega)).symm
        | like => rw [List.zip_cons_cons] at hz; cases hz
        | part => rw [List.zip_cons_cons] at hz; cases hz
      subst hv
      wp_walk
      exact ⟨_, rfl, by simpa [Builtin.Tuple.tupleCompareSizes] using h⟩
    case h =>
      exact ⟨rfl, rfl, pa.toList, pb.toList, rfl, lx, by simp; omega⟩
end
theorem ltAt_tuples {A : Around} {s : Shared} {l b : Addr} {pa pb : Array Value} {r : Bool} (hl : IsTup s.heap l pa) (hb : IsTup s.heap b pb) (lx : Lx A.in1 s pa.toList pb.toList r) (hu : A.units < cLine) : LtAt A s (.ref l) (.ref b) r := by
  intro prog w Q E h
  obtain ⟨⟨cls, dd, data, sl⟩, ho, hc, n, hd⟩ := id hl
  obtain ⟨⟨cls2, dd2, data2, sl2⟩, ho2, hc2, n2, hd2⟩ := id hb
  simp only at hc hd hc2 hd2
  subst hc hd hc2 hd2
  exact richCompare_meets_room (op := .Lt) ⟨_, ho, rfl⟩ ⟨_, ho2, rfl⟩ PySem.F.slot_tuple_lt PySem.F.entry_tuple_lt (PySem.F.args_tuple_lt_2 _ _) (tuple_lt_lx l b pa pb n n2 dd dd2 sl sl2 r)
    ⟨lx, ho, ho2, show Value.bool r ≠ Value.notImplemented ∧ Q (.bool r) s from ⟨(fun x => nomatch x), h⟩⟩ hu
mutual
def Dt.like : Dt → Dt → Bool
  | .int _, .int _ => true
  | .str _, .str _ => true
  | .tup l, .tup m => Dt.likes l m
  | _, _ => false
def Dt.likes : List Dt → List Dt → Bool
  | a :: l, b :: m => Dt.like a b && Dt.likes l m
  | _, _ => true
end
section
variable {X : Cx} {pins : List (Addr × Obj)} {σ : L2.St} {H : Hp} {s : Shared}
mutual
theorem ltAt_D (I : Inv X pins σ H s) : ∀ {d d' : Dt} {v v' : V} {u u' : Value} (A : Around), DtIs H v d → RelV v u → DtIs H v' d' → RelV v' u' → Dt.like d d' = true → A.units + d.dp < cLine → LtAt A s u u' (Dt.blt d d')
  | .int i, .int j => by
    intro A h r h' r' hk hu
    cases h
    cases h'
    obtain ⟨t, rfl⟩ := r
    obtain ⟨t', rfl⟩ := r'
    intro prog w Q E h
    rw [show Dt.blt (.int i) (.int j) = decide (i < j) by simp only [Dt.blt]] at h
    exact (PyProof.Rows.lt_int h : wpAny (model prog w) A (compareOp .Lt (.int i t) (.int j t')) Q E s)
  | .str x, .str y => by
    intro A h r h' r' hk hu
    cases h
    cases h'
    obtain ⟨t, rfl⟩ := r
    obtain ⟨t', rfl⟩ := r'
    intro prog w Q E h
    rw [show Dt.blt (.str x) (.str y) = decide (x.cps.toList < y.cps.toList) by simp only [Dt.blt]] at h
    exact (PyProof.Rows.lt_str h : wpAny (model prog w) A (compareOp .Lt (.str x t) (.str y t')) Q E s)
  | .tup l, .tup m => by
    intro A h r h' r' hk hu
    cases h with
    | tup e q =>
    cases h' with
    | tup e' q' =>
    cases r
    cases r'
    obtain ⟨its, rv, p, _⟩ := I.tuple (SqT.of e)
    obtain ⟨its', rv', p', _⟩ := I.tuple (SqT.of e')
    have hd : A.units + (Dt.dps l + 1) < cLine := by simpa only [Dt.dp] using hu
    have hk' : Dt.likes l m = true := by simpa only [Dt.like] using hk
    rw [show Dt.blt (.tup l) (.tup m) = Dt.blts l m by simp only [Dt.blt]]
    exact ltAt_tuples p p' (lx_D I A.in1 q rv q' rv' hk' (by show A.units + 1 + _ < _; omega)) (by omega)
  | .int _, .str _ => by
    intro A h r h' r' hk hu
    simp only [Dt.like, Bool.false_eq_true] at hk
  | .int _, .tup _ => by
    intro A h r h' r' hk hu
    simp only [Dt.like, Bool.false_eq_true] at hk
  | .str _, .int _ => by
    intro A h r h' r' hk hu
    simp only [Dt.like, Bool.false_eq_true] at hk
  | .str _, .tup _ => by
    intro A h r h' r' hk hu
    simp only [Dt.like, Bool.false_eq_true] at hk
  | .tup _, .int _ => by
    intro A h r h' r' hk hu
    simp only [Dt.like, Bool.false_eq_true] at hk
  | .tup _, .str _ => by
    intro A h r h' r' hk hu
    simp only [Dt.like, Bool.false_eq_true] at hk
theorem lx_D (I : Inv X pins σ H s) : ∀ {ds ds' : List Dt} {vs vs' : List V} {us us' : List Value} (A : Around), DtsIs H vs ds → Vals vs us → DtsIs H vs' ds' → Vals vs' us' → Dt.likes ds ds' = true → A.units + Dt.dps ds < cLine → Lx A s us us' (Dt.blts ds ds')
  | [], [] => by
    intro A h r h' r' hk hu
    cases h
    cases r
    cases h'
    cases r'
    rw [show Dt.blts [] [] = false by simp only [Dt.blts]]; exact .both
  | [], _ :: _ => by
    intro A h r h' r' hk hu
    cases h
    cases r
    cases h'
    cases r'
    rw [show ∀ a l, Dt.blts [] (a :: l) = true from fun a l => by simp only [Dt.blts]]; exact .left _ _
  | _ :: _, [] => by
    intro A h r h' r' hk hu
    cases h
    cases r
    cases h'
    cases r'
    rw [show ∀ a l, Dt.blts (a :: l) [] = false from fun a l => by simp only [Dt.blts]]; exact .right _ _
  | d :: ds, d' :: ds' => by
    intro A h r h' r' hk hu
    cases h with
    | cons h t =>
    cases r with
    | cons r rs =>
    cases h' with
    | cons h' t' =>
    cases r' with
    | cons r' rs' =>
    have hk' : Dt.like d d' = true ∧ Dt.likes ds ds' = true := by simpa only [Dt.likes, Bool.and_eq_true] using hk
    have hu' : A.units + max d.dp (Dt.dps ds) < cLine := by simpa only [Dt.dps] using hu
    have hq := eqAt_D I A h r h' r' (by omega)
    rw [show Dt.blts (d :: ds) (d' :: ds') = if Dt.beq d d' = true then Dt.blts ds ds' else Dt.blt d d' by simp only [Dt.blts]]
    cases hb : Dt.beq d d' with
    | true =>
      rw [hb] at hq
      rw [if_pos rfl]
      exact .like hq (lx_D I A t rs t' rs' hk'.2 (by omega))
    | false =>
      rw [hb] at hq
      rw [if_neg Bool.false_ne_true]
      exact .part _ _ hq (ltAt_D I A h r h' r' hk'.1 (by omega))
end
end
end BF
namespace BF
open PySem PySem.Spec PyProof.Rows L2 PySem.SeqAt
abbrev tupKind (f : Bool) : SortKind := (sortPriv% PySem.Builtin.KeyKind.tuples) f
theorem keyLt_tuples (f : Bool) (x y : Value) : keyLt' (tupKind f) x y = (do
    let a ← Builtin.List.listItems x
    let b ← Builtin.List.listItems y
    for ((p, q), i) in (a.toList.zip b.toList).zipIdx do
      if !(← eqBool p q) then return ← oneLt' (f && i == 0) p q
    return a.size < b.size) := rfl
theorem oneLt_false (x y : Value) : oneLt' false x y = (do truthOfDropped (← richCompare .Lt x y)) := rfl
inductive Lk (A : Around) (s : Shared) (prog : Program) (w : World) (f : Bool) : Nat → List Value → List Value → Bool → Prop where
  | both (i : Nat) : Lk A s prog w f i [] [] false
  | left (i : Nat) (y : Value) (ys : List Value) : Lk A s prog w f i [] (y :: ys) true
  | right (i : Nat) (x : Value) (xs : List Value) : Lk A s prog w f i (x :: xs) [] false
  | like {i : Nat} {x y : Value} {xs ys : List Value} {r : Bool} (h : EqAt A s x y true) (t : Lk A s prog w f (i + 1) xs ys r) : Lk A s prog w f i (x :: xs) (y :: ys) r
  | part {i : Nat} {x y : Value} {r : Bool} (xs ys : List Value) (h : EqAt A s x y false) (k : ∀ (E : Value → Shared → Prop) (Q : Bool → Shared → Prop), Q r s → wpAny (model prog w) A (oneLt' (f && i == 0) x y) Q E s) : Lk A s prog w f i (x :: xs) (y :: ys) r
theorem keyLt_lk {A : Around} {s : Shared} {prog : Program} {w : World} {f : Bool} {l b : Addr} {pa pb : Array Value} {r : Bool} {Q : Bool → Shared → Prop} {E : Value → Shared → Prop} (hl : IsTup s.heap l pa) (hb : IsTup s.heap b pb) (lk : Lk A s prog w f 0 pa.toList pb.toList r) (h : Q r s) :
    wpAny (model prog w) A (keyLt' (tupKind f) (.ref l) (.ref b)) Q E s := by
  obtain ⟨o1, ho, hc, n, hd⟩ := id hl
  obtain ⟨o2, ho2, hc2, n2, hd2⟩ := id hb
  rw [keyLt_tuples]
  refine wpAny_bind (listItems_at ho hd ?_)
  refine wpAny_bind (listItems_at ho2 hd2 ?_)
  refine wpAny_bind (wpAny_forIn_list _ (fun rest c s' => c = (none, ()) ∧ s' = s ∧ ∃ (i : Nat) (vs ws : List Value), rest = (vs.zip ws).zipIdx i ∧ Lk A s prog w f i vs ws r ∧ vs.length + pb.size = ws.length + pa.size)
    (fun c s' => s' = s ∧ (c = (some r, ()) ∨ (c = (none, ()) ∧ r = decide (pa.size < pb.size)))) ?turn ?fin _ _ ⟨rfl, rfl, 0, _, _, rfl, lk, by simp; omega⟩ |> fun z => wpAny_mono z ?post fun _ _ e => e)
  case turn =>
    rintro ⟨⟨p, q⟩, j⟩ rest c s' ⟨rfl, rfl, i, vs, ws, hz, lk, hlen⟩
    cases lk with
    | both => simp at hz
    | left => simp at hz
    | right => simp at hz
    | @like _ x y xs ys _ he t =>
      rw [List.zip_cons_cons, List.zipIdx_cons] at hz
      injection hz with e1 e2
      injection e1 with e3 e4
      injection e3 with e5 e6
      subst e5 e6 e4
      simp only [List.length_cons] at hlen
      refine wpAny_bind (he prog w _ _ ?_)
      exact wpAny_pure ⟨rfl, rfl, _, _, _, e2, t, by omega⟩
    | @part _ x y _ xs ys he k =>
      rw [List.zip_cons_cons, List.zipIdx_cons] at hz
      injection hz with e1 e2
      injection e1 with e3 e4
      injection e3 with e5 e6
      subst e5 e6 e4
      refine wpAny_bind (he prog w _ _ ?_)
      exact wpAny_bind (k _ _ (wpAny_pure ⟨rfl, .inl rfl⟩))
  case fin =>
    rintro c s' ⟨rfl, rfl, i, vs, ws, hz, lk, hlen⟩
    refine ⟨rfl, .inr ⟨rfl, ?_⟩⟩
    cases lk with
    | both => simp only [List.length_nil] at hlen; exact (decide_eq_false (by omega)).symm
    | left => simp only [List.length_nil, List.length_cons] at hlen; exact (decide_eq_true (by omega)).symm
    | right => simp only [List.length_nil, List.length_cons] at hlen; exact (decide_eq_false (by omega)).symm
    | like => simp at hz
    | part => simp at hz
  case post =>
    rintro c s' ⟨rfl, rfl | ⟨rfl, hr⟩⟩
    · exact wpAny_pure h
    · subst hr
      exact wpAny_pure h
section
variable {X : Cx} {pins : List (Addr × Obj)} {σ : L2.St} {H : Hp} {s : Shared}
def Dt.flat : Dt → Bool
  | .tup _ => false
  | _ => true
theorem oneLt_D (I : Inv X pins σ H s) {d d' : Dt} {v v' : V} {u u' : Value} {A : Around} {g : Bool} (h : DtIs H v d) (r : RelV v u) (h' : DtIs H v' d') (r' : RelV v' u') (hk : Dt.like d d' = true) (hu : A.units + d.dp < cLine) (hg : g = true → Dt.flat d = true)
    {prog : Program} {w : World} {E : Value → Shared → Prop} {Q : Bool → Shared → Prop} (q : Q (Dt.blt d d') s) : wpAny (model prog w) A (oneLt' g u u') Q E s := by
  cases g with
  | false =>
    rw [oneLt_false]
    exact wpAny_bind (ltAt_D I A h r h' r' hk hu prog w _ _ (wpAny_truthy_bool q))
  | true =>
    have hf := hg rfl
    cases h with
    | int i =>
      cases h' with
      | int j =>
        obtain ⟨t, rfl⟩ := r
        obtain ⟨t', rfl⟩ := r'
        exact oneLt_int (by simpa only [Dt.blt] using q)
      | str y => simp only [Dt.like, Bool.false_eq_true] at hk
      | tup _ _ => simp only [Dt.like, Bool.false_eq_true] at hk
    | str x =>
      cases h' with
      | str y =>
        obtain ⟨t, rfl⟩ := r
        obtain ⟨t', rfl⟩ := r'
        exact oneLt_str (by simpa only [Dt.blt] using q)
      | int j => simp only [Dt.like, Bool.false_eq_true] at hk
      | tup _ _ => simp only [Dt.like, Bool.false_eq_true] at hk
    | tup _ _ => simp only [Dt.flat, Bool.false_eq_true] at hf
theorem lk_D (I : Inv X pins σ H s) {f : Bool} {prog : Program} {w : World} : ∀ {ds ds' : List Dt} {vs vs' : List V} {us us' : List Value} (A : Around) (i : Nat), DtsIs H vs ds → Vals vs us → DtsIs H vs' ds' → Vals vs' us' → Dt.likes ds ds' = true → A.units + Dt.dps ds < cLine →
    (f = true → i = 0 → ∀ d, ds.head? = some d → Dt.flat d = true) → Lk A s prog w f i us us' (Dt.blts ds ds')
  | [], [] => by
    intro A i h r h' r' hk hu hf
    cases h
    cases r
    cases h'
    cases r'
    rw [show Dt.blts [] [] = false by simp only [Dt.blts]]; exact .both _
  | [], _ :: _ => by
    intro A i h r h' r' hk hu hf
    cases h
    cases r
    cases h'
    cases r'
    rw [show ∀ a l, Dt.blts [] (a :: l) = true from fun a l => by simp only [Dt.blts]]; exact .left _ _ _
  | _ :: _, [] => by
    intro A i h r h' r' hk hu hf
    cases h
    cases r
    cases h'
    cases r'
    rw [show ∀ a l, Dt.blts (a :: l) [] = false from fun a l => by simp only [Dt.blts]]; exact .right _ _ _
  | d :: ds, d' :: ds' => by
    intro A i h r h' r' hk hu hf
    cases h with
    | cons h t =>
    cases r with
    | cons r rs =>
    cases h' with
    | cons h' t' =>
    cases r' with
    | cons r' rs' =>
    have hk' : Dt.like d d' = true ∧ Dt.likes ds ds' = true := by simpa only [Dt.likes, Bool.and_eq_true] using hk
    have hu' : A.units + max d.dp (Dt.dps ds) < cLine := by simpa only [Dt.dps] using hu
    have hq := eqAt_D I A h r h' r' (by omega)
    rw [show Dt.blts (d :: ds) (d' :: ds') = if Dt.beq d d' = true then Dt.blts ds ds' else Dt.blt d d' by simp only [Dt.blts]]
    cases hb : Dt.beq d d' with
    | true =>
      rw [hb] at hq
      rw [if_pos rfl]
      exact .like hq (lk_D I A (i + 1) t rs t' rs' hk'.2 (by omega) (fun _ z => absurd z (by omega)))
    | false =>
      rw [hb] at hq
      rw [if_neg Bool.false_ne_true]
      refine .part _ _ hq fun E Q q => oneLt_D I h r h' r' hk'.1 (by omega) (fun hg => ?_) q
      rw [Bool.and_eq_true] at hg
      exact hf hg.1 (by simpa using hg.2) d rfl
end
end BF
namespace BF
open PySem PySem.Spec PyProof.Rows L2 PySem.SeqAt
section
variable {X : Cx} {pins : List (Addr × Obj)} {σ : L2.St} {H : Hp} {s : Shared}
def DatOf (H : Hp) (u : Value) (d : Dt) : Prop := ∃ v, RelV v u ∧ DtIs H v d
theorem DatOf.inj {u : Value} {d d' : Dt} (h : DatOf H u d) (h' : DatOf H u d') : d = d' := by
  obtain ⟨v, r, q⟩ := h
  obtain ⟨v', r', q'⟩ := h'
  cases q with
  | int i =>
    obtain ⟨t, rfl⟩ := r
    cases q' with
    | int j => obtain ⟨t', e⟩ := r'; cases e; rfl
    | str y => obtain ⟨t', e⟩ := r'; cases e
    | tup e _ => cases r'
  | str x =>
    obtain ⟨t, rfl⟩ := r
    cases q' with
    | int j => obtain ⟨t', e⟩ := r'; cases e
    | str y => obtain ⟨t', e⟩ := r'; cases e; rfl
    | tup e _ => cases r'
  | @tup a xs ds e h =>
    cases r
    cases q' with
    | int j => obtain ⟨t', e⟩ := r'; cases e
    | str y => obtain ⟨t', e⟩ := r'; cases e
    | @tup a' xs' ds' e' h2 =>
      cases r'
      exact DtIs.inj (.tup e h) (.tup e' h2)
open Classical in
noncomputable def datKey (H : Hp) (p : Keyed) : Dt := if h : ∃ d, DatOf H p.1 d then Classical.choose h else .int 0
theorem datKey_eq {p : Keyed} {d : Dt} (h : DatOf H p.1 d) : datKey H p = d := by
  have hx : ∃ d, DatOf H p.1 d := ⟨d, h⟩
  unfold datKey
  rw [dif_pos hx]
  exact DatOf.inj (Classical.choose_spec hx) h
noncomputable def ordT (I : Inv X pins σ H s) (prog : Program) (w : World) (A : Around) (E : Value → Shared → Prop) (f : Bool) (P : Dt → Prop) (hP : ∀ d d', P d → P d' → ∃ l m, d = .tup l ∧ d' = .tup m ∧ Dt.likes l m = true ∧ A.units + Dt.dps l < cLine ∧ (f = true → ∀ a, l.head? = some a → Dt.flat a = true)) :
    Ord (model prog w) A E s (tupKind f) where
  O := dtOrd
  key := datKey H
  G := fun p => ∃ d, DatOf H p.1 d ∧ P d
  lt := fun {st x y Q} hk gx gy h => by
    obtain ⟨d, hd, pd⟩ := gx
    obtain ⟨d', hd', pd'⟩ := gy
    rw [datKey_eq hd, datKey_eq hd'] at h
    obtain ⟨l, m, rfl, rfl, lk, hu, hf⟩ := hP d d' pd pd'
    obtain ⟨v, r, q⟩ := hd
    obtain ⟨v', r', q'⟩ := hd'
    obtain ⟨x1, x2⟩ := x
    obtain ⟨y1, y2⟩ := y
    cases q with
    | tup e qs =>
      cases q' with
      | tup e' qs' =>
        cases r
        cases r'
        obtain ⟨its, rv, p, _⟩ := I.tuple (SqT.of e)
        obtain ⟨its', rv', p', _⟩ := I.tuple (SqT.of e')
        rw [lt'_eq]
        refine wpS_bind (wpS_get ?_)
        rw [hk]
        have hb : Q (some (Dt.blts l m)) st := by
          have : dtOrd.blt (.tup l) (.tup m) = Dt.blts l m := by show Dt.blt _ _ = _; simp only [Dt.blt]
          rw [← this]; exact h
        refine wpS_bind (wpS_lift (wpAny_attempt (keyLt_lk p p' (lk_D I A 0 qs rv qs' rv' lk hu (fun z _ => hf z)) ⟨rfl, ?_⟩)))
        exact wpS_pure hb
end
end BF
namespace BF
open PySem PySem.Spec PyProof.Rows L2 PySem.SeqAt
theorem vals_perm {us us' : List Value} (p : us.Perm us') : ∀ {ys : List V}, Vals ys us → ∃ zs, Vals zs us' ∧ ys.Perm zs := by
  induction p with
  | nil => intro ys r; exact ⟨ys, r, .refl _⟩
  | cons x _ ih =>
    intro ys r
    cases r with
    | cons r1 r2 =>
      obtain ⟨zs, a, b⟩ := ih r2
      exact ⟨_ :: zs, .cons r1 a, b.cons _⟩
  | swap x y l =>
    intro ys r
    cases r with
    | cons r1 r2 =>
      cases r2 with
      | cons r3 r4 => exact ⟨_ :: _ :: _, .cons r3 (.cons r1 r4), .swap _ _ _⟩
  | trans _ _ ih1 ih2 =>
    intro ys r
    obtain ⟨zs, a, b⟩ := ih1 r
    obtain ⟨ws, c, d⟩ := ih2 a
    exact ⟨ws, c, b.trans d⟩
theorem dts_perm {H : Hp} {ys zs : List V} (p : ys.Perm zs) : ∀ {ds : List Dt}, DtsIs H ys ds → ∃ es, DtsIs H zs es ∧ ds.Perm es := by
  induction p with
  | nil => intro ds r; exact ⟨ds, r, .refl _⟩
  | cons x _ ih =>
    intro ds r
    cases r with
    | cons r1 r2 =>
      obtain ⟨es, a, b⟩ := ih r2
      exact ⟨_ :: es, .cons r1 a, b.cons _⟩
  | swap x y l =>
    intro ds r
    cases r with
    | cons r1 r2 =>
      cases r2 with
      | cons r3 r4 => exact ⟨_ :: _ :: _, .cons r3 (.cons r1 r4), .swap _ _ _⟩
  | trans _ _ ih1 ih2 =>
    intro ds r
    obtain ⟨es, a, b⟩ := ih1 r
    obtain ⟨fs, c, d⟩ := ih2 a
    exact ⟨fs, c, b.trans d⟩
def Dt.tag : Dt → String
  | .int _ => "int"
  | .str _ => "str"
  | .tup _ => "tuple"
theorem mid_old {h : Heap} {vs : List Value} {c : Addr} {o : Obj} (e : h.get? c = some o) : (midHeap (bagHeap h vs) (h.objs.size + 1) vs).get? c = some o := by
  have hc := Heap.lt_size e
  refine Heap.get?_push_of_some _ (Heap.get?_push_of_some _ ?_)
  rw [Heap.get?_update_other _ _ (Ne.symm (Nat.ne_of_lt (Nat.lt_succ_of_lt hc)))]
  refine Heap.get?_push_of_some _ ?_
  rw [Heap.get?_update_other _ _ (Ne.symm (Nat.ne_of_lt hc))]
  exact Heap.get?_push_of_some _ e
theorem dts_at {H : Hp} : ∀ {ys : List V} {ds : List Dt} {us : List Value}, DtsIs H ys ds → Vals ys us → ∀ (i : Nat) (u : Value), us[i]? = some u → ∃ d, ds[i]? = some d ∧ DatOf H u d
  | _, _, _, .nil, .nil, i, u, e => by simp at e
  | _, _, _, .cons h t, .cons r rs, 0, u, e => by
    simp at e
    subst e
    exact ⟨_, rfl, _, r, h⟩
  | _, _, _, .cons h t, .cons r rs, i + 1, u, e => by
    simp at e
    obtain ⟨d, e1, e2⟩ := dts_at t rs i u e
    exact ⟨d, by simpa using e1, e2⟩
section
variable {X : Cx}
theorem looks_D {M : Model} {pins : List (Addr × Obj)} {σ : L2.St} {H : Hp} {s : Shared} (I : Inv X pins σ H s) {u : Value} {d : Dt} (h : DatOf H u d) : PySem.W.Looks M s.heap (typeOf u) (.type d.tag) := by
  obtain ⟨v, r, q⟩ := h
  cases q with
  | int i => obtain ⟨t, rfl⟩ := r; exact .now
  | str x => obtain ⟨t, rfl⟩ := r; exact .now
  | tup e _ =>
    cases r
    obtain ⟨its, _, ⟨o, ho, hc, _⟩, _⟩ := I.tuple (SqT.of e)
    exact hc ▸ (show PySem.W.Looks M s.heap (typeOf (.ref _)) o.cls from (PySem.W.Looks.ld ho).andThen .now)
theorem katT {pins : List (Addr × Obj)} {σ : L2.St} {H : Hp} {s : Shared} (I : Inv X pins σ H s) {T : String} : ∀ {ys : List V} {ds : List Dt} {us : List Value}, DtsIs H ys ds → Vals ys us → (∀ d ∈ ds, ∃ e r, d = .tup (e :: r) ∧ e.tag = T) →
    ∃ fs, PySem.W.KatTups s.heap us fs ∧ fs.length = us.length ∧ ∀ f ∈ fs, ∃ e, DatOf H f e ∧ e.tag = T
  | _, _, _, .nil, .nil, _ => ⟨[], trivial, rfl, fun _ z => nomatch z⟩
  | _, _, _, .cons h t, .cons r rs, hs => by
    obtain ⟨fs, k, lf, hf⟩ := katT I t rs fun d hd => hs d (List.mem_cons_of_mem _ hd)
    obtain ⟨e, r', rfl, et⟩ := hs _ (List.mem_cons_self ..)
    cases h with
    | tup ex qs =>
      cases r
      obtain ⟨its, rv, ⟨o, ho, hc, n, hd⟩, _⟩ := I.tuple (SqT.of ex)
      cases qs with
      | cons q1 q2 =>
        cases rv with
        | cons r1 r2 =>
          refine ⟨_ :: fs, PySem.W.KatTups.cons ho hc hd rfl k, by simp [lf], fun f hf' => ?_⟩
          rcases List.mem_cons.mp hf' with rfl | hf'
          · exact ⟨e, ⟨_, r1, q1⟩, et⟩
          · exact hf f hf'
end
end BF
namespace BF
open PySem PySem.SetTable
def lpN (m : Nat) : Nat → Nat → Nat → Nat × Nat
  | 0, i, pt => (i, pt)
  | n + 1, i, pt => lpN m n ((i * 5 + 1 + pt / 32) % (m + 1)) (pt / 32)
def itf (m : Nat) : Nat → Nat → Nat
  | 0, i => i
  | n + 1, i => itf m n ((i * 5 + 1) % (m + 1))
theorem lpN_zero (m : Nat) : ∀ n i, lpN m n i 0 = (itf m n i, 0)
  | 0, _ => rfl
  | n + 1, i => lpN_zero m n _
theorem lpN_add (m : Nat) : ∀ a b i pt, lpN m (a + b) i pt = lpN m b (lpN m a i pt).1 (lpN m a i pt).2
  | 0, b, i, pt => by rw [Nat.zero_add]; rfl
  | a + 1, b, i, pt => by
    rw [Nat.succ_add]
    exact lpN_add m a b _ _
theorem lpN_pt (m : Nat) : ∀ n i pt, (lpN m n i pt).2 = pt / 32 ^ n
  | 0, _, pt => by rw [Nat.pow_zero, Nat.div_one]; rfl
  | n + 1, i, pt => by
    rw [Nat.pow_succ, Nat.mul_comm, ← Nat.div_div_eq_div_mul]
    exact lpN_pt m n _ _
theorem lpN_le (m : Nat) : ∀ n i pt, i ≤ m → (lpN m n i pt).1 ≤ m
  | 0, i, pt, h => h
  | n + 1, i, pt, h => lpN_le m n _ _ (Nat.le_of_lt_succ (Nat.mod_lt _ (Nat.succ_pos m)))
theorem itf_add (m : Nat) : ∀ a b i, itf m (a + b) i = itf m b (itf m a i)
  | 0, b, i => by rw [Nat.zero_add]; rfl
  | a + 1, b, i => by
    rw [Nat.succ_add]
    exact itf_add m a b _
def orb (m : Nat) : Nat → Nat → Nat
  | 0, _ => 0
  | n + 1, i => 2 ^ i ||| orb m n ((i * 5 + 1) % (m + 1))
theorem orb_bit (m : Nat) : ∀ n i j, (orb m n i).testBit j = true → ∃ b, b < n ∧ itf m b i = j
  | 0, i, j, h => by simp [orb] at h
  | n + 1, i, j, h => by
    rw [orb, Nat.testBit_or, Bool.or_eq_true] at h
    rcases h with h | h
    · rw [Nat.testBit_two_pow] at h
      exact ⟨0, Nat.succ_pos _, by show i = j; simpa using h⟩
    · obtain ⟨b, hb, e⟩ := orb_bit m n _ j h
      exact ⟨b + 1, Nat.succ_lt_succ hb, e⟩
def MaskOk (m : Nat) : Prop := m = 7 ∨ m = 31 ∨ m = 127 ∨ m = 511
theorem orb_full {m : Nat} (h : MaskOk m) : orb m (m + 1) 0 = 2 ^ (m + 1) - 1 ∧ itf m (m + 1) 0 = 0 := by
  rcases h with rfl | rfl | rfl | rfl
  · exact ⟨by decide +kernel, by decide +kernel⟩
  · exact ⟨by decide +kernel, by decide +kernel⟩
  · exact ⟨by decide +kernel, by decide +kernel⟩
  · exact ⟨by decide +kernel, by decide +kernel⟩
theorem itf_zero {m : Nat} (h : MaskOk m) {j : Nat} (hj : j ≤ m) : ∃ b, b ≤ m ∧ itf m b 0 = j := by
  obtain ⟨b, hb, e⟩ := orb_bit m (m + 1) 0 j (by rw [(orb_full h).1, Nat.testBit_two_pow_sub_one]; exact decide_eq_true (Nat.lt_succ_of_le hj))
  exact ⟨b, Nat.le_of_lt_succ hb, e⟩
theorem itf_cover {m : Nat} (h : MaskOk m) {i j : Nat} (hi : i ≤ m) (hj : j ≤ m) : ∃ b, b ≤ m ∧ itf m b i = j := by
  obtain ⟨a, ha, ea⟩ := itf_zero h hi
  obtain ⟨b, hb, eb⟩ := itf_zero h hj
  by_cases hab : a ≤ b
  · refine ⟨b - a, by omega, ?_⟩
    rw [← ea, ← itf_add, Nat.add_sub_cancel' hab, eb]
  · refine ⟨m + 1 - a + b, by omega, ?_⟩
    rw [← ea, ← itf_add]
    have : a + (m + 1 - a + b) = (m + 1) + b := by omega
    rw [this, itf_add, (orb_full h).2, eb]
theorem lpN_cover {m : Nat} (h : MaskOk m) {i j pt : Nat} (hi : i ≤ m) (hp : pt < 2 ^ 64) (hj : j ≤ m) : ∃ b, b < m + 15 ∧ (lpN m b i pt).1 = j := by
  obtain ⟨b, hb, e⟩ := itf_cover h (lpN_le m 13 i pt hi) hj
  refine ⟨13 + b, by omega, ?_⟩
  rw [lpN_add, lpN_pt, Nat.div_eq_of_lt (Nat.lt_trans hp (by decide)), lpN_zero]
  exact e
def advM (m : Nat) (p : Probe) : Probe :=
  if p.more > 0 then { p with j := p.j + 1, more := p.more - 1 } else
  { p with j := (leap m p.i p.perturb).1, more := runEnd m (leap m p.i p.perturb).1 - (leap m p.i p.perturb).1, i := (leap m p.i p.perturb).1, perturb := (leap m p.i p.perturb).2 }
theorem adv_eq (t : SetTable) (p : Probe) : t.advance p = advM t.mask p := rfl
def bst (m i pt k : Nat) : Probe := { j := i + k, more := runEnd m i - i - k, i := i, perturb := pt, dummy := none }
theorem start_eq (t : SetTable) (h : Int) : t.probeStart h = bst t.mask (bits h % (t.mask + 1)) (bits h) 0 := rfl
theorem bst_in {m i pt k : Nat} (h : k < runEnd m i - i) : advM m (bst m i pt k) = bst m i pt (k + 1) := by
  unfold advM
  rw [if_pos (show (bst m i pt k).more > 0 by show runEnd m i - i - k > 0; omega)]
  rfl
theorem bst_out {m i pt k : Nat} (h : runEnd m i - i ≤ k) : advM m (bst m i pt k) = bst m ((i * 5 + 1 + pt / 32) % (m + 1)) (pt / 32) 0 := by
  unfold advM
  rw [if_neg (show ¬ (bst m i pt k).more > 0 by show ¬ runEnd m i - i - k > 0; omega)]
  rfl
theorem run9 (m i : Nat) : runEnd m i - i ≤ 9 := by
  unfold runEnd; split <;> omega
def Hits (m : Nat) (occ : Nat → Prop) : Nat → Probe → Prop
  | 0, p => ¬ occ p.j
  | n + 1, p => ¬ occ p.j ∨ Hits m occ n (advM m p)
theorem Hits.up {m : Nat} {occ : Nat → Prop} : ∀ {n : Nat} {p : Probe}, Hits m occ n p → Hits m occ (n + 1) p
  | 0, p, h => .inl h
  | n + 1, p, .inl h => .inl h
  | n + 1, p, .inr h => .inr h.up
theorem Hits.mono {m : Nat} {occ : Nat → Prop} {n k : Nat} {p : Probe} (h : Hits m occ n p) (hk : n ≤ k) : Hits m occ k p := by
  induction hk with
  | refl => exact h
  | step _ ih => exact ih.up
theorem hits_in {m : Nat} {occ : Nat → Prop} {i pt n : Nat} (h : Hits m occ n (bst m ((i * 5 + 1 + pt / 32) % (m + 1)) (pt / 32) 0)) :
    ∀ d k, runEnd m i - i - k = d → k ≤ runEnd m i - i → Hits m occ (n + 1 + d) (bst m i pt k)
  | 0, k, hd, hk => .inr (by rw [bst_out (by omega)]; exact h)
  | d + 1, k, hd, hk => by
    refine .inr ?_
    rw [bst_in (by omega)]
    exact hits_in h d (k + 1) (by omega) (by omega)
theorem hits_of {m : Nat} {occ : Nat → Prop} : ∀ (b i pt : Nat), ¬ occ (lpN m b i pt).1 → Hits m occ (10 * b) (bst m i pt 0)
  | 0, i, pt, h => h
  | b + 1, i, pt, h => by
    have r := run9 m i
    exact (hits_in (hits_of b _ _ h) (runEnd m i - i) 0 (by omega) (Nat.zero_le _)).mono (by omega)
inductive Rch (m : Nat) (occ : Nat → Prop) : Probe → Nat → Prop where
  | here (p : Probe) : Rch m occ p p.j
  | next {p : Probe} {j : Nat} (h : occ p.j) (r : Rch m occ (advM m p) j) : Rch m occ p j
theorem Rch.mono {m : Nat} {occ occ' : Nat → Prop} (w : ∀ j, occ j → occ' j) {p : Probe} {j : Nat} (h : Rch m occ p j) : Rch m occ' p j := by
  induction h with
  | here p => exact .here p
  | next h _ ih => exact .next (w _ h) ih
theorem bits_lt (h : Int) : bits h < 2 ^ 64 := by
  unfold bits
  have h1 : (0 : Int) ≤ h % 2 ^ 64 := Int.emod_nonneg _ (by decide)
  have h2 : h % 2 ^ 64 < 2 ^ 64 := Int.emod_lt_of_pos _ (by decide)
  omega
def startM (m : Nat) (h : Int) : Probe := bst m (bits h % (m + 1)) (bits h) 0
theorem hits_start {m : Nat} (hm : MaskOk m) {occ : Nat → Prop} {j : Nat} (hj : j ≤ m) (he : ¬ occ j) (h : Int) : Hits m occ (10 * (m + 14)) (startM m h) := by
  obtain ⟨b, hb, e⟩ := lpN_cover hm (Nat.le_of_lt_succ (Nat.mod_lt (bits h) (Nat.succ_pos m))) (bits_lt h) hj
  exact (hits_of b _ _ (by rw [e]; exact he)).mono (by omega)
theorem pigeon : ∀ (n : Nat) (l : List Nat), (∀ j, j < n → j ∈ l) → n ≤ l.length
  | 0, l, _ => Nat.zero_le _
  | n + 1, l, h => by
    have hn := h n (Nat.lt_succ_self n)
    have := pigeon n (l.erase n) fun j hj => (List.mem_erase_of_ne (Nat.ne_of_lt hj)).mpr (h j (Nat.lt_succ_of_lt hj))
    rw [List.length_erase_of_mem hn] at this
    have := List.length_pos_of_mem hn
    omega
theorem pigeon_free {n : Nat} {l : List Nat} (h : l.length < n) : ∃ j, j < n ∧ j ∉ l := by
  refine Classical.byContradiction fun hc => ?_
  have := pigeon n l fun j hj => Classical.byContradiction fun hn => hc ⟨j, hj, hn⟩
  omega
end BF
namespace BF
open PySem PySem.SetTable
def Rises (xs : List Nat) : Prop := xs.Pairwise (· < ·)
theorem below_go (xs : Array Nat) (j : Nat) (hr : Rises xs.toList) : ∀ (fuel lo hi : Nat), hi - lo ≤ fuel → lo ≤ hi → hi ≤ xs.size → (∀ i, i < lo → ∀ x, xs[i]? = some x → x < j) → (∀ i, hi ≤ i → ∀ x, xs[i]? = some x → j ≤ x) →
    ∃ p, SetTable.below.go xs j fuel lo hi = p ∧ p ≤ xs.size ∧ (∀ i, i < p → ∀ x, xs[i]? = some x → x < j) ∧ (∀ i, p ≤ i → ∀ x, xs[i]? = some x → j ≤ x)
  | 0, lo, hi, hf, hl, hs, h1, h2 => by
    have : lo = hi := by omega
    subst this
    exact ⟨lo, rfl, hs, h1, h2⟩
  | fuel + 1, lo, hi, hf, hl, hs, h1, h2 => by
    unfold SetTable.below.go
    by_cases hlt : lo < hi
    · rw [if_pos hlt]
      have hm : (lo + hi) / 2 < xs.size := by omega
      have em : xs.getD ((lo + hi) / 2) j = xs[(lo + hi) / 2] := by simp [Array.getD, hm]
      have inc : ∀ a b x y : Nat, a < b → xs[a]? = some x → xs[b]? = some y → x < y := fun a b x y hab ea eb => by
        have ea' : xs.toList[a]? = some x := by rw [Array.getElem?_toList]; exact ea
        have eb' : xs.toList[b]? = some y := by rw [Array.getElem?_toList]; exact eb
        obtain ⟨ha, ea'⟩ := List.getElem?_eq_some_iff.mp ea'
        obtain ⟨hb, eb'⟩ := List.getElem?_eq_some_iff.mp eb'
        have := List.pairwise_iff_getElem.mp hr a b ha hb hab
        rw [ea', eb'] at this
        exact this
      dsimp only
      rw [em]
      by_cases hx : xs[(lo + hi) / 2] < j
      · rw [if_pos hx]
        refine below_go xs j hr fuel ((lo + hi) / 2 + 1) hi (by omega) (by omega) hs (fun i hi' x ex => ?_) h2
        rcases Nat.lt_or_ge i ((lo + hi) / 2) with h | h
        · exact Nat.lt_trans (inc i _ x _ h ex (Array.getElem?_eq_getElem hm)) hx
        · have : i = (lo + hi) / 2 := by omega
          subst this
          rw [Array.getElem?_eq_getElem hm] at ex
          cases ex
          exact hx
      · rw [if_neg hx]
        refine below_go xs j hr fuel lo ((lo + hi) / 2) (by omega) (by omega) (by omega) h1 (fun i hi' x ex => ?_)
        rcases Nat.lt_or_ge ((lo + hi) / 2) i with h | h
        · have := inc _ i _ x h (Array.getElem?_eq_getElem hm) ex
          omega
        · have : i = (lo + hi) / 2 := by omega
          subst this
          rw [Array.getElem?_eq_getElem hm] at ex
          cases ex
          omega
    · rw [if_neg hlt]
      have : lo = hi := by omega
      subst this
      exact ⟨lo, rfl, hs, h1, h2⟩
theorem below_spec {xs : Array Nat} (hr : Rises xs.toList) (j : Nat) : below xs j ≤ xs.size ∧ (∀ i, i < below xs j → ∀ x, xs[i]? = some x → x < j) ∧ (∀ i, below xs j ≤ i → ∀ x, xs[i]? = some x → j ≤ x) := by
  obtain ⟨p, e, h⟩ := below_go xs j hr xs.size 0 xs.size (by omega) (Nat.zero_le _) (Nat.le_refl _) (fun i h => absurd h (Nat.not_lt_zero _)) (fun i h x ex => by
    have : xs[i]? = none := Array.getElem?_eq_none h
    rw [this] at ex; cases ex)
  have : below xs j = p := e
  rw [this]
  exact h
theorem below_live {xs : Array Nat} (hr : Rises xs.toList) {i j : Nat} (h : xs[i]? = some j) : below xs j = i := by
  obtain ⟨_, h1, h2⟩ := below_spec hr j
  rcases Nat.lt_trichotomy (below xs j) i with h' | h' | h'
  · -- the place at below is at least j and less than the one at i
    have hi : i < xs.size := by
      rcases Nat.lt_or_ge i xs.size with z | z
      · exact z
      · rw [Array.getElem?_eq_none z] at h; cases h
    have hb : below xs j < xs.size := Nat.lt_trans h' hi
    have h3 := h2 _ (Nat.le_refl _) _ (Array.getElem?_eq_getElem hb)
    have := List.pairwise_iff_getElem.mp hr (below xs j) i (by simpa using hb) (by simpa using hi) h'
    rw [Array.getElem?_eq_getElem hi] at h
    cases h
    simp only [Array.getElem_toList] at this
    omega
  · exact h'
  · exact absurd (h1 i h' j h) (Nat.lt_irrefl _)
structure TabOk (t : SetTable) (n : Nat) : Prop where
  mask : MaskOk t.mask
  rises : Rises t.place.toList
  size : t.place.size = n
  clean : t.dummies = #[]
  top : ∀ j ∈ t.place.toList, j ≤ t.mask
  full : n * 5 < t.mask * 3
def Occ (t : SetTable) (j : Nat) : Prop := j ∈ t.place.toList
theorem slot_empty {t : SetTable} {n : Nat} (ok : TabOk t n) {j : Nat} (h : ¬ Occ t j) : t.slot j = .empty := by
  unfold SetTable.slot
  have h1 : (t.place[below t.place j]? == some j) = false := by
    cases e : t.place[below t.place j]? with
    | none => rfl
    | some x =>
      by_cases hx : x = j
      · subst hx
        exact absurd (Array.mem_toList_iff.mpr (Array.mem_of_getElem? e)) h
      · simpa using hx
  have h2 : has t.dummies j = false := by rw [ok.clean]; rfl
  dsimp only
  rw [h1, h2]
  rfl
theorem slot_live {t : SetTable} {n : Nat} (ok : TabOk t n) {i j : Nat} (h : t.place[i]? = some j) : t.slot j = .live i := by
  unfold SetTable.slot
  dsimp only
  rw [below_live ok.rises h, h]
  simp
theorem occ_at {t : SetTable} {j : Nat} (h : Occ t j) : ∃ i : Nat, t.place[i]? = some j := by
  obtain ⟨i, e⟩ := List.mem_iff_getElem?.mp h
  exact ⟨i, by rw [← Array.getElem?_toList]; exact e⟩
theorem TabOk.free {t : SetTable} {n : Nat} (ok : TabOk t n) : ∃ j, j ≤ t.mask ∧ ¬ Occ t j := by
  have : t.place.toList.length < t.mask + 1 := by
    rw [Array.length_toList, ok.size]
    have := ok.full
    omega
  obtain ⟨j, h1, h2⟩ := pigeon_free this
  exact ⟨j, Nat.le_of_lt_succ h1, h2⟩
theorem TabOk.fits {t : SetTable} {n : Nat} (ok : TabOk t n) : t.fits n = true := by
  unfold SetTable.fits SetTable.fill
  rw [ok.size, ok.clean]
  have := ok.full
  simp
  omega
theorem TabOk.odd {t : SetTable} {n : Nat} (ok : TabOk t n) : t.gaveWay = false := by
  unfold SetTable.gaveWay
  rcases ok.mask with h | h | h | h <;> rw [h] <;> rfl
theorem probe_go {t : SetTable} {n : Nat} (ok : TabOk t n) (hashAt : Nat → Int) (h : Int) : ∀ (k fuel : Nat) (p : Probe), p.dummy = none → k < fuel → Hits t.mask (Occ t) k p →
    (∃ j, SetTable.probe.go t hashAt h fuel p = some (.empty j none) ∧ ¬ Occ t j ∧ Rch t.mask (Occ t) p j ∧ (∀ j' i' : Nat, Rch t.mask (Occ t) p j' → t.place[i']? = some j' → hashAt i' ≠ h)) ∨
    (∃ (j i : Nat) (q : Probe) (k' : Nat), SetTable.probe.go t hashAt h fuel p = some (.candidate j i q) ∧ t.place[i]? = some j ∧ hashAt i = h ∧ q.dummy = none ∧ k' < k ∧ Hits t.mask (Occ t) k' q ∧
      (∀ j', Rch t.mask (Occ t) q j' → Rch t.mask (Occ t) p j') ∧ (∀ j' i' : Nat, Rch t.mask (Occ t) p j' → t.place[i']? = some j' → hashAt i' ≠ h ∨ i' = i ∨ Rch t.mask (Occ t) q j'))
  | k, 0, p, _, hf, _ => absurd hf (Nat.not_lt_zero _)
  | k, fuel + 1, p, hd, hf, hh => by
    unfold SetTable.probe.go
    by_cases ho : Occ t p.j
    · obtain ⟨i, ei⟩ := occ_at ho
      rw [slot_live ok ei]
      dsimp only
      have hh' : ∃ k', k = k' + 1 ∧ Hits t.mask (Occ t) k' (advM t.mask p) := by
        cases k with
        | zero => exact absurd ho hh
        | succ k' => exact ⟨k', rfl, hh.resolve_left fun z => z ho⟩
      obtain ⟨k', rfl, hh'⟩ := hh'
      have hd' : (advM t.mask p).dummy = none := by
        unfold advM; split <;> exact hd
      have un : ∀ i', t.place[i']? = some p.j → i' = i := fun i' e' => by rw [← below_live ok.rises e', below_live ok.rises ei]
      by_cases hq : hashAt i = h
      · rw [if_pos (by simpa using hq)]
        refine .inr ⟨p.j, i, advM t.mask p, k', rfl, ei, hq, hd', Nat.lt_succ_self _, hh', fun j' r => .next ho r, fun j' i' r e' => ?_⟩
        cases r with
        | here => exact .inr (.inl (un i' e'))
        | next _ r => exact .inr (.inr r)
      · rw [if_neg (by simpa using hq), adv_eq]
        rcases probe_go ok hashAt h k' fuel (advM t.mask p) hd' (by omega) hh' with ⟨j, e, h1, h2, h3⟩ | ⟨j, i2, q, k2, e, h1, h2, h3, h4, h5, h6, h7⟩
        · refine .inl ⟨j, e, h1, .next ho h2, fun j' i' r e' => ?_⟩
          cases r with
          | here => rw [un i' e']; exact hq
          | next _ r => exact h3 j' i' r e'
        · refine .inr ⟨j, i2, q, k2, e, h1, h2, h3, by omega, h5, fun j' r => .next ho (h6 j' r), fun j' i' r e' => ?_⟩
          cases r with
          | here => rw [un i' e']; exact .inl hq
          | next _ r => exact h7 j' i' r e'
    · rw [slot_empty ok ho]
      dsimp only
      refine .inl ⟨p.j, by rw [hd], ho, .here p, fun j' i' r e' => ?_⟩
      cases r with
      | here => exact absurd (Array.mem_toList_iff.mpr (Array.mem_of_getElem? e')) ho
      | next h _ => exact absurd h ho
end BF
namespace BF
open PySem PySem.SetTable
theorem insAt_get {α : Type} (xs : Array α) (p : Nat) (x : α) (hp : p ≤ xs.size) (i : Nat) : (insertAt xs p x)[i]? = if i < p then xs[i]? else if i = p then some x else xs[i - 1]? := by
  rw [← Array.getElem?_toList, SetTable.toList_insertAt]
  have hl : (xs.toList.take p).length = p := by rw [List.length_take, Array.length_toList]; omega
  by_cases h1 : i < p
  · rw [if_pos h1]
    rw [List.getElem?_append_left (by omega), List.getElem?_take_of_lt h1, Array.getElem?_toList]
  · rw [if_neg h1]
    rw [List.getElem?_append_right (by omega), hl]
    by_cases h2 : i = p
    · rw [if_pos h2, h2, Nat.sub_self]; rfl
    · rw [if_neg h2]
      have : i - p = (i - 1 - p) + 1 := by omega
      rw [this, List.getElem?_cons_succ, List.getElem?_drop, Array.getElem?_toList]
      congr 1
      omega
theorem insAt_size {α : Type} (xs : Array α) (p : Nat) (x : α) : (insertAt xs p x).size = xs.size + 1 := by
  rw [← Array.length_toList, (SetTable.insertAt_perm xs p x).length_eq, Array.toList_push, List.length_append, Array.length_toList]; rfl
structure SetPre (t : SetTable) (es : Array (Int × Value)) : Prop where
  mask : MaskOk t.mask
  rises : Rises t.place.toList
  size : t.place.size = es.size
  clean : t.dummies = #[]
  top : ∀ j ∈ t.place.toList, j ≤ t.mask
  reach : ∀ (i j : Nat) (e : Int × Value), t.place[i]? = some j → es[i]? = some e → Rch t.mask (Occ t) (startM t.mask e.1) j
structure SetOk (t : SetTable) (es : Array (Int × Value)) : Prop extends SetPre t es where
  full : es.size * 5 < t.mask * 3
theorem SetOk.tab {t : SetTable} {es : Array (Int × Value)} (h : SetOk t es) : TabOk t es.size := ⟨h.mask, h.rises, h.size, h.clean, h.top, h.full⟩
theorem put_place {t : SetTable} (h : t.dummies = #[]) (j : Nat) : (t.put j).1 = { t with place := insertAt t.place (below t.place j) j } ∧ (t.put j).2 = below t.place j := by
  unfold SetTable.put
  dsimp only
  refine ⟨?_, rfl⟩
  have : has t.dummies j = false := by rw [h]; rfl
  rw [this]
  rfl
theorem SetOk.put {t : SetTable} {es : Array (Int × Value)} (h : SetOk t es) {j : Nat} (hj : j ≤ t.mask) (hf : ¬ Occ t j) {e : Int × Value} (hr : Rch t.mask (Occ t) (startM t.mask e.1) j) :
    SetPre (t.put j).1 (insertAt es (t.put j).2 e) := by
  obtain ⟨e1, e2⟩ := put_place h.clean j
  rw [e1, e2]
  obtain ⟨b1, b2, b3⟩ := below_spec h.rises j
  have hp : below t.place j ≤ es.size := by rw [← h.size]; exact b1
  have mem : ∀ x, x ∈ (insertAt t.place (below t.place j) j).toList ↔ x = j ∨ x ∈ t.place.toList := fun x => by
    rw [(SetTable.insertAt_perm t.place (below t.place j) j).mem_iff, Array.toList_push, List.mem_append, List.mem_singleton, Or.comm]
  have oc : ∀ x, Occ t x → Occ { t with place := insertAt t.place (below t.place j) j } x := fun x hx => (mem x).mpr (.inr hx)
  refine ⟨h.mask, ?_, ?_, h.clean, fun x hx => ?_, fun i k e' ep ee => ?_⟩
  · show Rises (insertAt t.place (below t.place j) j).toList
    rw [SetTable.toList_insertAt]
    have hr := h.rises
    have sp := List.take_append_drop (below t.place j) t.place.toList
    unfold Rises at hr ⊢
    rw [← sp, List.pairwise_append] at hr
    obtain ⟨r1, r2, r3⟩ := hr
    rw [List.pairwise_append]
    refine ⟨r1, List.pairwise_cons.mpr ⟨fun y hy => ?_, r2⟩, fun x hx y hy => ?_⟩
    · obtain ⟨i, ei⟩ := List.mem_iff_getElem?.mp hy
      rw [List.getElem?_drop, Array.getElem?_toList] at ei
      have := b3 _ (Nat.le_add_right _ _) _ ei
      have : y ≠ j := fun z => hf (by
        subst z
        exact Array.mem_toList_iff.mpr (Array.mem_of_getElem? ei))
      omega
    · have hx2 : x < j := by
        obtain ⟨i, ei⟩ := List.mem_iff_getElem?.mp hx
        obtain ⟨hi, _⟩ := List.getElem?_eq_some_iff.mp ei
        rw [List.length_take] at hi
        rw [List.getElem?_take_of_lt (by omega), Array.getElem?_toList] at ei
        exact b2 i (by omega) x ei
      rcases List.mem_cons.mp hy with rfl | hy
      · exact hx2
      · exact r3 x hx y hy
  · show (insertAt t.place (below t.place j) j).size = _
    rw [insAt_size, insAt_size, h.size]
  · rcases (mem x).mp hx with rfl | hx
    · exact hj
    · exact h.top x hx
  · show Rch t.mask _ (startM t.mask e'.1) k
    have ep' : (insertAt t.place (below t.place j) j)[i]? = some k := ep
    rw [insAt_get _ _ _ b1] at ep'
    rw [insAt_get _ _ _ hp] at ee
    by_cases h1 : i < below t.place j
    · rw [if_pos h1] at ep' ee
      exact (h.reach i k e' ep' ee).mono oc
    · rw [if_neg h1] at ep' ee
      by_cases h2 : i = below t.place j
      · rw [if_pos h2] at ep' ee
        cases ep'
        cases ee
        exact hr.mono oc
      · rw [if_neg h2] at ep' ee
        exact (h.reach _ k e' ep' ee).mono oc
theorem SetOk.off {t : SetTable} {es : Array (Int × Value)} (h : SetPre t es) : SetPre { t with plain := false } es := ⟨h.mask, h.rises, h.size, h.clean, h.top, h.reach⟩
def OccO (owner : Array (Option Nat)) (j : Nat) : Prop := ∃ k, owner[j]? = some (some k)
theorem occO_iff {owner : Array (Option Nat)} {m j : Nat} (hs : owner.size = m + 1) (hj : j ≤ m) : (owner.getD j (some 0)).isNone = true ↔ ¬ OccO owner j := by
  have hlt : j < owner.size := by omega
  have e : owner[j]? = some owner[j] := Array.getElem?_eq_getElem hlt
  have eg : owner.getD j (some 0) = owner[j] := by simp [Array.getD, hlt]
  rw [eg]
  unfold OccO
  rw [e]
  cases owner[j] with
  | none => simp
  | some k => simp
theorem rch_in {m : Nat} {occ : Nat → Prop} {i pt k : Nat} (hk : k ≤ runEnd m i - i) (ho : ∀ k', k' < k → occ (i + k')) : ∀ d a, k - a = d → a ≤ k → Rch m occ (bst m i pt a) (i + k)
  | 0, a, hd, ha => by
    have : a = k := by omega
    subst this
    exact .here (bst m i pt a)
  | d + 1, a, hd, ha => by
    refine .next (ho a (by omega)) ?_
    rw [bst_in (by omega)]
    exact rch_in hk ho d (a + 1) (by omega) (by omega)
theorem rch_out {m : Nat} {occ : Nat → Prop} {i pt j : Nat} (ho : ∀ k', k' ≤ runEnd m i - i → occ (i + k')) (r : Rch m occ (bst m ((i * 5 + 1 + pt / 32) % (m + 1)) (pt / 32) 0) j) :
    ∀ d a, runEnd m i - i - a = d → a ≤ runEnd m i - i → Rch m occ (bst m i pt a) j
  | 0, a, hd, ha => .next (ho a ha) (by rw [bst_out (by omega)]; exact r)
  | d + 1, a, hd, ha => by
    refine .next (ho a ha) ?_
    rw [bst_in (by omega)]
    exact rch_out ho r d (a + 1) (by omega) (by omega)
theorem runEnd_le {m i : Nat} (hi : i ≤ m) : i ≤ runEnd m i ∧ runEnd m i ≤ m := by
  unfold runEnd; split <;> omega
theorem free_spec {m : Nat} {owner : Array (Option Nat)} (hs : owner.size = m + 1) : ∀ (fuel i pt : Nat), i ≤ m → (∃ b, b < fuel ∧ ¬ OccO owner (lpN m b i pt).1) →
    ∃ j, SetTable.layClean.free m owner fuel i pt = some j ∧ j ≤ m ∧ ¬ OccO owner j ∧ Rch m (OccO owner) (bst m i pt 0) j
  | 0, i, pt, hi, h => by obtain ⟨b, hb, _⟩ := h; exact absurd hb (Nat.not_lt_zero _)
  | fuel + 1, i, pt, hi, h => by
    obtain ⟨r1, r2⟩ := runEnd_le hi
    unfold SetTable.layClean.free
    cases hf : (List.range (runEnd m i + 1 - i)).find? (fun k => (owner.getD (i + k) (some 0)).isNone) with
    | some k =>
      dsimp only
      rw [List.find?_range_eq_some] at hf
      obtain ⟨h1, h2, h3⟩ := hf
      have hk := List.mem_range.mp h2
      refine ⟨i + k, rfl, by omega, (occO_iff hs (by omega)).mp h1, rch_in (by omega) (fun k' hk' => ?_) k 0 (by omega) (Nat.zero_le _)⟩
      have := h3 k' hk'
      refine Classical.byContradiction fun hc => ?_
      rw [(occO_iff hs (by omega)).mpr hc] at this
      simp at this
    | none =>
      dsimp only
      rw [List.find?_range_eq_none] at hf
      have all : ∀ k', k' ≤ runEnd m i - i → OccO owner (i + k') := fun k' hk' => by
        have := hf k' (by omega)
        refine Classical.byContradiction fun hc => ?_
        rw [(occO_iff hs (by omega)).mpr hc] at this
        simp at this
      obtain ⟨b, hb, hn⟩ := h
      cases b with
      | zero => exact absurd (all 0 (Nat.zero_le _)) hn
      | succ b =>
        obtain ⟨j, e, h1, h2, h3⟩ := free_spec hs fuel ((i * 5 + 1 + pt / 32) % (m + 1)) (pt / 32) (Nat.le_of_lt_succ (Nat.mod_lt _ (Nat.succ_pos m))) ⟨b, by omega, hn⟩
        exact ⟨j, e, h1, h2, rch_out all h3 _ 0 rfl (Nat.zero_le _)⟩
end BF
namespace BF
open PySem PySem.SetTable
structure Own (m : Nat) (owner : Array (Option Nat)) (js : List Nat) (hs : List Int) : Prop where
  size : owner.size = m + 1
  len : js.length = hs.length
  iff : ∀ j k : Nat, owner[j]? = some (some k) ↔ js[k]? = some j
  top : ∀ j ∈ js, j ≤ m
  reach : ∀ (k j : Nat) (h : Int), js[k]? = some j → hs[k]? = some h → Rch m (OccO owner) (startM m h) j
def layStep (m : Nat) (acc : Option (Array (Option Nat) × Nat)) (h : Int) : Option (Array (Option Nat) × Nat) := do
  let (owner, k) ← acc
  let j ← SetTable.layClean.free m owner (turns m) (bits h % (m + 1)) (bits h)
  pure (owner.setIfInBounds j (some k), k + 1)
theorem Own.step {m : Nat} (hm : MaskOk m) {owner : Array (Option Nat)} {js : List Nat} {hs : List Int} (o : Own m owner js hs) (hl : hs.length ≤ m) (h : Int) :
    ∃ owner' js', layStep m (some (owner, hs.length)) h = some (owner', (hs ++ [h]).length) ∧ Own m owner' js' (hs ++ [h]) := by
  have : js.length < m + 1 := by rw [o.len]; omega
  obtain ⟨q, hq, hn⟩ := pigeon_free this
  have hno : ¬ OccO owner q := fun ⟨k, e⟩ => hn (List.mem_of_getElem? ((o.iff q k).mp e))
  obtain ⟨b, hb, eb⟩ := lpN_cover hm (Nat.le_of_lt_succ (Nat.mod_lt (bits h) (Nat.succ_pos m))) (bits_lt h) (Nat.le_of_lt_succ hq)
  obtain ⟨j, e, h1, h2, h3⟩ := free_spec o.size (turns m) (bits h % (m + 1)) (bits h) (Nat.le_of_lt_succ (Nat.mod_lt (bits h) (Nat.succ_pos m))) ⟨b, hb, by rw [eb]; exact hno⟩
  have oc : ∀ x, OccO owner x → OccO (owner.setIfInBounds j (some hs.length)) x := fun x ⟨k, ek⟩ => by
    refine ⟨k, ?_⟩
    rw [Array.getElem?_setIfInBounds]
    by_cases hx : j = x
    · subst hx; exact absurd ⟨k, ek⟩ h2
    · rw [if_neg hx]; exact ek
  refine ⟨owner.setIfInBounds j (some hs.length), js ++ [j], ?_, ?_, ?_, fun x k => ?_, fun x hx => ?_, fun k x h' ex eh => ?_⟩
  · show (do let j ← SetTable.layClean.free m owner (turns m) (bits h % (m + 1)) (bits h); pure (owner.setIfInBounds j (some hs.length), hs.length + 1)) = _
    rw [e, List.length_append]
    rfl
  · rw [Array.size_setIfInBounds]; exact o.size
  · rw [List.length_append, List.length_append, o.len]; rfl
  · rw [Array.getElem?_setIfInBounds]
    by_cases hx : j = x
    · subst hx
      rw [if_pos rfl, if_pos (by rw [o.size]; omega)]
      constructor
      · intro z
        have : hs.length = k := by simpa using z
        subst this
        rw [← o.len, List.getElem?_append_right (Nat.le_refl _), Nat.sub_self]; rfl
      · intro z
        rcases Nat.lt_or_ge k js.length with hk | hk
        · rw [List.getElem?_append_left hk] at z
          exact absurd ⟨k, (o.iff _ _).mpr z⟩ h2
        · rw [List.getElem?_append_right hk] at z
          have : k - js.length = 0 := by
            cases hc : k - js.length with
            | zero => rfl
            | succ n => rw [hc] at z; simp at z
          have hkk := o.len
          have : k = hs.length := by omega
          rw [this]
    · rw [if_neg hx, o.iff]
      rcases Nat.lt_or_ge k js.length with hk | hk
      · rw [List.getElem?_append_left hk]
      · rw [List.getElem?_append_right hk, List.getElem?_eq_none hk]
        constructor
        · intro z; cases z
        · intro z
          cases hc : k - js.length with
          | zero => rw [hc] at z; simp at z; exact absurd z hx
          | succ n => rw [hc] at z; simp at z
  · rcases List.mem_append.mp hx with hx | hx
    · exact o.top x hx
    · rw [List.mem_singleton] at hx; subst hx; exact h1
  · rcases Nat.lt_or_ge k js.length with hk | hk
    · rw [List.getElem?_append_left hk] at ex
      rw [List.getElem?_append_left (by rw [← o.len]; exact hk)] at eh
      exact (o.reach k x h' ex eh).mono oc
    · rw [List.getElem?_append_right hk] at ex
      rw [List.getElem?_append_right (by rw [← o.len]; exact hk), ← o.len] at eh
      cases hc : k - js.length with
      | succ n => rw [hc] at ex; simp at ex
      | zero =>
        rw [hc] at ex eh
        simp at ex eh
        subst ex eh
        exact h3.mono oc
theorem lay_fold {m : Nat} (hm : MaskOk m) : ∀ (rest : List Int) (owner : Array (Option Nat)) (js : List Nat) (hs : List Int), Own m owner js hs → (hs ++ rest).length ≤ m →
    ∃ owner' js', rest.foldl (layStep m) (some (owner, hs.length)) = some (owner', (hs ++ rest).length) ∧ Own m owner' js' (hs ++ rest)
  | [], owner, js, hs, o, hl => ⟨owner, js, by simp, by simpa using o⟩
  | h :: rest, owner, js, hs, o, hl => by
    have e : hs ++ h :: rest = (hs ++ [h]) ++ rest := by simp
    rw [e] at hl ⊢
    obtain ⟨o1, j1, e1, w1⟩ := o.step hm (by rw [List.length_append, List.length_append] at hl; omega) h
    rw [List.foldl_cons, e1]
    exact lay_fold hm rest o1 j1 (hs ++ [h]) w1 hl
theorem own_init (m : Nat) : Own m (Array.replicate (m + 1) none) [] [] := by
  refine ⟨by simp, rfl, fun j k => ?_, fun j hj => (by cases hj), fun k j h e => (by simp at e)⟩
  constructor
  · intro z
    rw [Array.getElem?_replicate] at z
    split at z <;> simp at z
  · intro z; simp at z
theorem layClean_ok {m : Nat} (hm : MaskOk m) (hashes : Array Int) (hl : hashes.size ≤ m) : ∃ owner js, layClean m hashes = some owner ∧ Own m owner js hashes.toList := by
  obtain ⟨owner, js, e, o⟩ := lay_fold hm hashes.toList _ _ _ (own_init m) (by simpa using hl)
  refine ⟨owner, js, ?_, by simpa using o⟩
  have z : layClean m hashes = (hashes.foldl (layStep m) (some (Array.replicate (m + 1) none, 0))).map (·.1) := rfl
  rw [z, ← Array.foldl_toList]
  have e' : hashes.toList.foldl (layStep m) (some (Array.replicate (m + 1) none, 0)) = some (owner, ([] ++ hashes.toList).length) := e
  rw [e']
  rfl
theorem relaid_ok {t : SetTable} {es : Array (Int × Value)} {wanted : Nat} (hm : MaskOk (sizeAbove wanted - 1)) (hn : es.size * 5 < (sizeAbove wanted - 1) * 3) :
    ∃ t' order, t.relaid (es.map (·.1)) wanted = some (t', order) ∧ (order.filterMap (es[·]?)).toList.Perm es.toList ∧ SetOk t' (order.filterMap (es[·]?)) ∧ t'.led = t.led := by
  generalize hmm : sizeAbove wanted - 1 = m at hm hn
  obtain ⟨owner, js, e, o⟩ := layClean_ok hm (es.map (·.1)) (by rw [Array.size_map]; omega)
  let live := (List.range (m + 1)).filterMap fun j => (owner.getD j none).map (j, ·)
  have memL : ∀ j k, (j, k) ∈ live ↔ js[k]? = some j := fun j k => by
    show (j, k) ∈ (List.range (m + 1)).filterMap _ ↔ _
    rw [List.mem_filterMap]
    constructor
    · rintro ⟨x, hx, ex⟩
      rw [List.mem_range] at hx
      have hlt : x < owner.size := by rw [o.size]; exact hx
      have eg : owner.getD x none = owner[x] := by simp [Array.getD, hlt]
      rw [eg] at ex
      cases hc : owner[x] with
      | none => rw [hc] at ex; simp at ex
      | some k' =>
        rw [hc] at ex
        simp at ex
        obtain ⟨rfl, rfl⟩ := ex
        exact (o.iff _ _).mp (by rw [Array.getElem?_eq_getElem hlt, hc])
    · intro z
      have hx := o.top j (List.mem_of_getElem? z)
      have eo := (o.iff j k).mpr z
      refine ⟨j, List.mem_range.mpr (by omega), ?_⟩
      rw [Array.getD_eq_getD_getElem?, eo]
      rfl
  have pw : live.Pairwise (fun a b => a.1 < b.1) := by
    refine List.Pairwise.filterMap _ (fun a a' haa b hb b' hb' => ?_) List.pairwise_lt_range
    cases hc : owner.getD a none with
    | none => rw [hc] at hb; simp at hb
    | some k =>
      cases hc' : owner.getD a' none with
      | none => rw [hc'] at hb'; simp at hb'
      | some k' =>
        rw [hc] at hb; rw [hc'] at hb'
        simp at hb hb'
        subst hb hb'
        exact haa
  have hlen : js.length = es.size := by rw [o.len]; simp
  have ordN : (live.map (·.2)).Nodup := by
    unfold List.Nodup
    rw [List.pairwise_map]
    refine (List.pairwise_iff_getElem.mpr fun a b ha hb hab => ?_)
    have h1 := List.pairwise_iff_getElem.mp pw a b ha hb hab
    intro z
    have m1 := (memL live[a].1 live[a].2).mp (List.getElem_mem ha)
    have m2 := (memL live[b].1 live[b].2).mp (List.getElem_mem hb)
    rw [z, m2] at m1
    have := Option.some.inj m1
    omega
  have ordP : (live.map (·.2)).Perm (List.range es.size) := by
    rw [List.perm_ext_iff_of_nodup ordN List.nodup_range]
    intro k
    rw [List.mem_range, List.mem_map]
    constructor
    · rintro ⟨⟨j, k'⟩, hx, rfl⟩
      obtain ⟨hlt, _⟩ := List.getElem?_eq_some_iff.mp ((memL j k').mp hx)
      omega
    · intro hk
      have hk' : k < js.length := by omega
      exact ⟨(js[k], k), (memL _ _).mpr (List.getElem?_eq_getElem hk'), rfl⟩
  have esL : ((live.map (·.2)).toArray.filterMap (es[·]?)).toList = (live.map (·.2)).filterMap (fun i => es[i]?) := by rw [Array.toList_filterMap]
  have esP : ((live.map (·.2)).toArray.filterMap (es[·]?)).toList.Perm es.toList := by
    rw [esL]
    refine (ordP.filterMap _).trans ?_
    rw [filterMap_getElem?_range]
  have esz : ((live.map (·.2)).toArray.filterMap (es[·]?)).size = es.size := by rw [← Array.length_toList, esP.length_eq, Array.length_toList]
  have esAt : (live.map (·.2)).filterMap (fun i => es[i]?) = live.map (fun x => (es[x.2]?).getD (0, .none)) := by
    have : ∀ l : List (Nat × Nat), (∀ x ∈ l, x.2 < es.size) → (l.map (·.2)).filterMap (fun i => es[i]?) = l.map (fun x => (es[x.2]?).getD (0, .none)) := by
      intro l
      induction l with
      | nil => intro _; rfl
      | cons x l ih =>
        intro h
        have hx := h x List.mem_cons_self
        rw [List.map_cons, List.filterMap_cons, Array.getElem?_eq_getElem hx, ih fun y hy => h y (List.mem_cons_of_mem _ hy), List.map_cons, Array.getElem?_eq_getElem hx]
        rfl
    refine this live fun x hx => ?_
    obtain ⟨hlt, _⟩ := List.getElem?_eq_some_iff.mp ((memL x.1 x.2).mp hx)
    omega
  refine ⟨{ mask := m, place := (live.map (·.1)).toArray, dummies := #[], finger := t.finger, led := t.led, moves := t.movedTo (sizeAbove wanted - 1), plain := t.plain }, (live.map (·.2)).toArray, ?_, esP, ⟨⟨hm, ?_, ?_, rfl, fun j hj => ?_, fun i j ev ep ee => ?_⟩, ?_⟩, rfl⟩
  · unfold SetTable.relaid SetTable.laid
    rw [hmm, e]
    rfl
  · show (live.map (·.1)).toArray.toList.Pairwise (· < ·)
    rw [List.toList_toArray, List.pairwise_map]
    exact pw
  · rw [esz]
    show (live.map (·.1)).toArray.size = _
    have := ordP.length_eq
    rw [List.length_map, List.length_range] at this
    rw [List.size_toArray, List.length_map, this]
  · have hj' : j ∈ live.map (·.1) := by simpa using hj
    obtain ⟨⟨x, k⟩, hx, rfl⟩ := List.mem_map.mp hj'
    exact o.top _ (List.mem_of_getElem? ((memL x k).mp hx))
  · have ep' : (live.map (·.1)).toArray[i]? = some j := ep
    rw [List.getElem?_toArray, List.getElem?_map] at ep'
    rw [← Array.getElem?_toList, esL, esAt, List.getElem?_map] at ee
    cases hc : live[i]? with
    | none => rw [hc] at ep'; simp at ep'
    | some x =>
      rw [hc] at ep' ee
      simp at ep' ee
      subst ep'
      have mx := (memL x.1 x.2).mp (List.mem_of_getElem? hc)
      obtain ⟨hlt, _⟩ := List.getElem?_eq_some_iff.mp mx
      have hlt' : x.2 < es.size := by omega
      rw [Array.getElem?_eq_getElem hlt'] at ee
      have hr := o.reach x.2 x.1 ev.1 mx (by
        rw [Array.toList_map, List.getElem?_map, Array.getElem?_toList, Array.getElem?_eq_getElem hlt', ← ee]
        rfl)
      refine hr.mono fun q ⟨k, ek⟩ => ?_
      show q ∈ (live.map (·.1)).toArray.toList
      rw [List.toList_toArray, List.mem_map]
      exact ⟨(q, k), (memL q k).mpr ((o.iff q k).mp ek), rfl⟩
  · rw [esz]; exact hn
end BF
namespace BF
open PySem PySem.Spec PyProof.Rows L2 PySem.W
mutual
inductive DatH (h : Heap) : Value → Dt → Prop where
  | int (i : Int) (t : Tok) : DatH h (.int i t) (.int i)
  | str (x : Str) (t : Tok) : DatH h (.str x t) (.str x)
  | tup {a : Addr} {o : Obj} {items : Array Value} {n : Nat} {ds : List Dt} (ho : h.get? a = some o) (hc : o.cls = .type "tuple") (hd : o.data = .seq items n) (r : DatHs h items.toList ds) : DatH h (.ref a) (.tup ds)
inductive DatHs (h : Heap) : List Value → List Dt → Prop where
  | nil : DatHs h [] []
  | cons {v : Value} {d : Dt} {vs : List Value} {ds : List Dt} (q : DatH h v d) (t : DatHs h vs ds) : DatHs h (v :: vs) (d :: ds)
end
mutual
theorem DatH.keep {h h' : Heap} (k : ∀ b o, h.get? b = some o → h'.get? b = some o) : ∀ {d : Dt} {v : Value}, DatH h v d → DatH h' v d
  | _, _, .int i t => .int i t
  | _, _, .str x t => .str x t
  | .tup ds, _, .tup ho hc hd r => .tup (k _ _ ho) hc hd (DatHs.keep k r)
theorem DatHs.keep {h h' : Heap} (k : ∀ b o, h.get? b = some o → h'.get? b = some o) : ∀ {ds : List Dt} {vs : List Value}, DatHs h vs ds → DatHs h' vs ds
  | [], _, .nil => .nil
  | d :: ds, _, .cons q t => .cons (DatH.keep k q) (DatHs.keep k t)
end
mutual
def hashD (w : World) : Dt → Int
  | .int i => hashInt i
  | .str x => hashStr w x
  | .tup l => reduceHash (Builtin.Tuple.tupleHashOf (hashDs w l))
def hashDs (w : World) : List Dt → List Int
  | [] => []
  | d :: l => hashD w d :: hashDs w l
end
section
variable {X : Cx} {pins : List (Addr × Obj)} {σ : L2.St} {H : Hp} {s : Shared}
mutual
theorem datH_of (I : Inv X pins σ H s) : ∀ {d : Dt} {v : V} {u : Value}, DtIs H v d → RelV v u → DatH s.heap u d
  | _, _, _, .int i, r => by obtain ⟨t, rfl⟩ := r; exact .int i t
  | _, _, _, .str x, r => by obtain ⟨t, rfl⟩ := r; exact .str x t
  | .tup ds, _, _, .tup e q, r => by
    cases r
    obtain ⟨its, rv, ⟨o, ho, hc, n, hd⟩, _⟩ := I.tuple (SqT.of e)
    exact .tup ho hc hd (by rw [List.toList_toArray]; exact datHs_of I q rv)
theorem datHs_of (I : Inv X pins σ H s) : ∀ {ds : List Dt} {vs : List V} {us : List Value}, DtsIs H vs ds → Vals vs us → DatHs s.heap us ds
  | [], _, _, .nil, .nil => .nil
  | d :: ds, _, _, .cons q t, .cons r rs => .cons (datH_of I q r) (datHs_of I t rs)
end
end
section
variable {prog : Program} {w : World} {E : Value → Shared → Prop}
set_option maxRecDepth 100000 in
mutual
theorem pyHash_D : ∀ (d : Dt) (v : Value) (A : Around) (s : Shared) (Q : Int → Shared → Prop), DatH s.heap v d → A.units + d.dp < cLine → (∀ tk, s.toks ≤ tk → Q (hashD w d) { s with toks := tk }) → wpAny (model prog w) A (pyHash v) Q E s
  | .int i, _, A, s, Q, .int _ t, hu, h => wpAny_pyHash_int (h _ (Nat.le_succ _))
  | .str x, _, A, s, Q, .str _ t, hu, h => wpAny_pyHash_str (h _ (Nat.le_succ _))
  | .tup ds, _, A, s, Q, .tup (a := a) (items := items) ho hc hd r, hu, h => by
    have hu' : A.units + (Dt.dps ds + 1) < cLine := by simpa only [Dt.dp] using hu
    refine pyHash_slot (T := "tuple") ⟨_, ho, hc⟩ F.slot_tuple_hash F.entry_tuple_hash (F.args_tuple_hash_1 _) (beq_builtin_none _) (.inr (by omega)) ?_
    show wpAny _ _ (Builtin.Tuple.tupleItemsOf (.ref a) >>= _) _ _ s
    refine wpAny_bind (wpAny_tupleItemsOf ho hd ?_)
    refine wpAny_bind ?_
    rw [← Array.forIn_toList]
    refine hashLoop_D ds items.toList A.in1 s #[] _ r (by simp only [Around.in1_units]; omega) fun tk htk b hb => ?_
    show wpAny _ _ (retInt (Builtin.Tuple.tupleHashOf b.toList)) _ _ _
    rw [hb]
    exact wpAny_bind (wpAny_mkInt (wpAny_pure ⟨_, _, rfl, by have := h (tk + 1) (Nat.le_succ_of_le htk); rw [hashD] at this; exact this⟩))
theorem hashLoop_D : ∀ (ds : List Dt) (vs : List Value) (A : Around) (s : Shared) (b : Array Int) (Q : Array Int → Shared → Prop), DatHs s.heap vs ds → A.units + Dt.dps ds < cLine →
    (∀ tk, s.toks ≤ tk → ∀ b', b'.toList = b.toList ++ hashDs w ds → Q b' { s with toks := tk }) →
    wpAny (model prog w) A (forIn vs b fun x r => do let h ← pyHash x; pure PUnit.unit; pure (ForInStep.yield (r.push h))) Q E s
  | [], _, A, s, b, Q, .nil, _, h => wpAny_pure (h s.toks (Nat.le_refl _) b (by simp [hashDs]))
  | d :: ds, _, A, s, b, Q, .cons q t, hu, h => by
    simp only [Dt.dps] at hu
    rw [List.forIn_cons]
    refine wpAny_bind (wpAny_bind (pyHash_D d _ A s _ q (by omega) fun tk htk => ?_))
    refine wpAny_bind (wpAny_pure (wpAny_pure ?_))
    exact hashLoop_D ds _ A _ _ Q t (by omega) fun tk' htk' b' hb => h tk' (Nat.le_trans htk htk') b' (by simp [hb, hashDs])
end
mutual
theorem byValue_D : ∀ (d : Dt) (v : Value) (n : Nat) (A : Around) (s : Shared) (Q : Bool → Shared → Prop), DatH s.heap v d → (∀ b, Q b s) → wpAny (model prog w) A (hashByValue n v) Q E s
  | .int i, _, n, A, s, Q, .int _ t, h => by
    have : hashByValue n (.int i t) = pure true := by cases n <;> rfl
    rw [this]; exact wpAny_pure (h _)
  | .str x, _, n, A, s, Q, .str _ t, h => by
    have : hashByValue n (.str x t) = pure false := by cases n <;> rfl
    rw [this]; exact wpAny_pure (h _)
  | .tup ds, _, 0, A, s, Q, .tup (a := a) (items := items) ho hc hd r, h => wpAny_pure (h _)
  | .tup ds, _, n + 1, A, s, Q, .tup (a := a) (items := items) ho hc hd r, h => by
    unfold hashByValue
    refine wpAny_bind (wpAny_specialOf ⟨_, ho, hc⟩ F.slot_tuple_hash.lookup ?_)
    dsimp only
    refine wpAny_bind (wpAny_seqItems ho hd ?_)
    show wpAny _ _ (forIn items _ _ >>= _) _ _ _
    rw [← Array.forIn_toList]
    refine wpAny_bind (byValues_D ds items.toList n A s _ r fun b => ?_)
    cases b with
    | none => exact wpAny_pure (h _)
    | some b => exact wpAny_pure (h _)
theorem byValues_D : ∀ (ds : List Dt) (vs : List Value) (n : Nat) (A : Around) (s : Shared) (Q : Option Bool × PUnit → Shared → Prop), DatHs s.heap vs ds → (∀ b, Q (b, ⟨⟩) s) →
    wpAny (model prog w) A (forIn vs ((none, ⟨⟩) : Option Bool × PUnit) fun x r => do
      let c ← hashByValue n x
      if (!c) = true then pure (ForInStep.done (some false, ⟨⟩)) else pure (ForInStep.yield (none, ⟨⟩))) Q E s
  | [], _, n, A, s, Q, .nil, h => wpAny_pure (h _)
  | d :: ds, _, n, A, s, Q, .cons q t, h => by
    rw [List.forIn_cons]
    refine wpAny_bind (wpAny_bind (byValue_D d _ n A s _ q fun b => ?_))
    cases b with
    | false => exact wpAny_pure (wpAny_pure (h _))
    | true => exact wpAny_pure (byValues_D ds _ n A s Q t h)
end
end
end BF
namespace BF
open PySem PySem.Spec PyProof.Rows L2 PySem.W
section
variable {prog : Program} {w : World} {E : Value → Shared → Prop}
theorem sub_tt : isSubtype (.type "tuple") (.type "tuple") = pure true := PySem.isSubtype_tuple_tuple
mutual
theorem quiet_D : ∀ (d : Dt) (v : Value) (n : Nat) (A : Around) (s : Shared) (Q : Bool → Shared → Prop), DatH s.heap v d → d.dp ≤ n → Q true s → wpAny (model prog w) A (eqIsQuiet n v) Q E s
  | .int i, _, n, A, s, Q, .int _ t, hn, h => by
    rw [eqIsQuiet_byValue n (v := .int i t) rfl]; exact wpAny_pure h
  | .str x, _, n, A, s, Q, .str _ t, hn, h => by
    rw [eqIsQuiet_byValue n (v := .str x t) rfl]; exact wpAny_pure h
  | .tup ds, _, 0, A, s, Q, .tup (a := a) (items := items) ho hc hd r, hn, h => by
    simp only [Dt.dp] at hn
    omega
  | .tup ds, _, n + 1, A, s, Q, .tup (a := a) (items := items) ho hc hd r, hn, h => by
    have hn' : Dt.dps ds ≤ n := by simp only [Dt.dp] at hn; omega
    unfold eqIsQuiet
    refine wpAny_bind (wpAny_specialOf ⟨_, ho, hc⟩ F.slot_tuple_eq.lookup ?_)
    dsimp only
    refine wpAny_bind (wpAny_isInstance ⟨_, ho, hc⟩ sub_tt ?_)
    simp only [Bool.not_true, Bool.false_eq_true, if_false]
    refine wpAny_bind (wpAny_seqItems ho hd ?_)
    show wpAny _ _ (forIn items _ _ >>= _) _ _ _
    rw [← Array.forIn_toList]
    exact wpAny_bind (quiets_D ds items.toList n A s _ r hn' (wpAny_pure h))
theorem quiets_D : ∀ (ds : List Dt) (vs : List Value) (n : Nat) (A : Around) (s : Shared) (Q : Option Bool × PUnit → Shared → Prop), DatHs s.heap vs ds → Dt.dps ds ≤ n → Q (none, ⟨⟩) s →
    wpAny (model prog w) A (forIn vs ((none, ⟨⟩) : Option Bool × PUnit) fun x r => do
      let c ← eqIsQuiet n x
      if (!c) = true then pure (ForInStep.done (some false, ⟨⟩)) else pure (ForInStep.yield (none, ⟨⟩))) Q E s
  | [], _, n, A, s, Q, .nil, _, h => wpAny_pure h
  | d :: ds, _, n, A, s, Q, .cons q t, hn, h => by
    simp only [Dt.dps] at hn
    rw [List.forIn_cons]
    exact wpAny_bind (wpAny_bind (quiet_D d _ n A s _ q (by omega) (wpAny_pure (quiets_D ds _ n A s Q t (by omega) h))))
end
mutual
theorem ofCls_D : ∀ (d : Dt) (v : Value) (n : Nat) (A : Around) (s : Shared) (Q : Bool → Shared → Prop), DatH s.heap v d → d.dp ≤ n → Q false s → wpAny (model prog w) A (ofAClassStatement n v) Q E s
  | .int i, _, n, A, s, Q, .int _ t, hn, h => by
    have : ofAClassStatement n (.int i t) = pure false := by cases n <;> rfl
    rw [this]; exact wpAny_pure h
  | .str x, _, n, A, s, Q, .str _ t, hn, h => by
    have : ofAClassStatement n (.str x t) = pure false := by cases n <;> rfl
    rw [this]; exact wpAny_pure h
  | .tup ds, _, 0, A, s, Q, .tup (a := a) (items := items) ho hc hd r, hn, h => by
    simp only [Dt.dp] at hn
    omega
  | .tup ds, _, n + 1, A, s, Q, .tup (a := a) (items := items) ho hc hd r, hn, h => by
    have hn' : Dt.dps ds ≤ n := by simp only [Dt.dp] at hn; omega
    unfold ofAClassStatement
    refine wpAny_bind (wpAny_typeOf (T := "tuple") ⟨_, ho, hc⟩ ?_)
    dsimp only
    refine wpAny_bind (wpAny_pure ?_)
    simp only [Bool.not_true, Bool.false_eq_true, if_false]
    refine wpAny_bind (wpAny_seqItems ho hd ?_)
    show wpAny _ _ (forIn items _ _ >>= _) _ _ _
    rw [← Array.forIn_toList]
    exact wpAny_bind (ofClss_D ds items.toList n A s _ r hn' (wpAny_pure h))
theorem ofClss_D : ∀ (ds : List Dt) (vs : List Value) (n : Nat) (A : Around) (s : Shared) (Q : Option Bool × PUnit → Shared → Prop), DatHs s.heap vs ds → Dt.dps ds ≤ n → Q (none, ⟨⟩) s →
    wpAny (model prog w) A (forIn vs ((none, ⟨⟩) : Option Bool × PUnit) fun x r => do
      let c ← ofAClassStatement n x
      if c = true then pure (ForInStep.done (some true, ⟨⟩)) else pure (ForInStep.yield (none, ⟨⟩))) Q E s
  | [], _, n, A, s, Q, .nil, _, h => wpAny_pure h
  | d :: ds, _, n, A, s, Q, .cons q t, hn, h => by
    simp only [Dt.dps] at hn
    rw [List.forIn_cons]
    exact wpAny_bind (wpAny_bind (ofCls_D d _ n A s _ q (by omega) (wpAny_pure (ofClss_D ds _ n A s Q t (by omega) h))))
end
theorem seen_D {x : Value} {dx : Dt} {A : Around} {s : Shared} {Q : Bool → Shared → Prop} (hx : DatH s.heap x dx) (h8 : dx.dp ≤ 8) (stored : List Value) (hs : ∀ y ∈ stored, ∃ dy, DatH s.heap y dy ∧ dy.dp ≤ 8) (h : Q false s) :
    wpAny (model prog w) A (searchCouldBeSeen x stored) Q E s := by
  unfold searchCouldBeSeen
  refine wpAny_bind (wpAny_forIn_list _ (fun rest r s' => r.1 = none ∧ s' = s ∧ ∀ y ∈ rest, ∃ dy, DatH s.heap y dy ∧ dy.dp ≤ 8) _ ?_ ?_ stored _ ⟨rfl, rfl, hs⟩)
  · rintro y rest r s' ⟨hr, rfl, hs'⟩
    obtain ⟨dy, hy, hy8⟩ := hs' y List.mem_cons_self
    have tl : ∀ y ∈ rest, ∃ dy, DatH s'.heap y dy ∧ dy.dp ≤ 8 := fun z hz => hs' z (List.mem_cons_of_mem _ hz)
    dsimp only
    split <;> (
      split
      · exact wpAny_pure ⟨rfl, rfl, tl⟩
      · refine wpAny_bind (quiet_D _ _ 8 A s' _ hx h8 ?_)
        simp only [Bool.not_true, Bool.false_eq_true, if_false]
        refine wpAny_bind (quiet_D _ _ 8 A s' _ hy hy8 ?_)
        simp only [Bool.not_true, Bool.false_eq_true, if_false]
        refine wpAny_bind (ofCls_D _ _ 8 A s' _ hx h8 ?_)
        simp only [Bool.false_eq_true, if_false]
        refine wpAny_bind (ofCls_D _ _ 8 A s' _ hy hy8 ?_)
        simp only [Bool.false_eq_true, if_false]
        exact wpAny_pure ⟨rfl, rfl, tl⟩)
  · rintro ⟨r1, r2⟩ s' ⟨hr, rfl, _⟩
    have hr' : r1 = none := hr
    subst hr'
    exact wpAny_pure h
end
end BF
namespace BF
open PySem PySem.Spec PyProof.Rows L2 PySem.SeqAt
theorem DatHs.length {h : Heap} : ∀ {ds : List Dt} {vs : List Value}, DatHs h vs ds → vs.length = ds.length
  | [], _, .nil => rfl
  | d :: ds, _, .cons q t => by rw [List.length_cons, List.length_cons, DatHs.length t]
mutual
theorem DatH.inj {h : Heap} : ∀ {d : Dt} {v : Value} {d' : Dt}, DatH h v d → DatH h v d' → d = d'
  | .int i, _, d', .int _ _, q => by cases q; rfl
  | .str x, _, d', .str _ _, q => by cases q; rfl
  | .tup ds, _, d', .tup ho hc hd r, q => by
    cases q with
    | tup ho2 hc2 hd2 r2 =>
      rw [ho] at ho2
      cases ho2
      rw [hd] at hd2
      cases hd2
      rw [DatHs.inj r r2]
theorem DatHs.inj {h : Heap} : ∀ {ds : List Dt} {vs : List Value} {ds' : List Dt}, DatHs h vs ds → DatHs h vs ds' → ds = ds'
  | [], _, _, .nil, q => by cases q; rfl
  | d :: ds, _, _, .cons q t, q2 => by
    cases q2 with
    | cons a b => rw [DatH.inj q a, DatHs.inj t b]
end
section
variable {s : Shared}
theorem tup_H {h : Heap} {u : Value} {l : List Dt} (q : DatH h u (.tup l)) : ∃ a its o n, u = .ref a ∧ h.get? a = some o ∧ o.cls = .type "tuple" ∧ o.data = .seq its n ∧ DatHs h its.toList l := by
  cases q with
  | tup ho hc hd r => exact ⟨_, _, _, _, rfl, ho, hc, hd, r⟩
mutual
theorem eqAt_H : ∀ {d d' : Dt} {u u' : Value} (A : Around), DatH s.heap u d → DatH s.heap u' d' → A.units + d.dp < cLine → EqAt A s u u' (Dt.beq d d')
  | .int i, .int j => by
    intro A h h' hu
    cases h with
    | int _ t =>
    cases h' with
    | int _ t' => exact EqAt.int_int i t j t'
  | .str x, .str y => by
    intro A h h' hu
    cases h with
    | str _ t =>
    cases h' with
    | str _ t' => exact EqAt.str_str x t y t'
  | .int i, .str y => by
    intro A h h' hu
    cases h with
    | int _ t =>
    cases h' with
    | str _ t' => exact EqAt.int_str i t y t'
  | .str x, .int j => by
    intro A h h' hu
    cases h with
    | str _ t =>
    cases h' with
    | int _ t' => exact EqAt.str_int x t j t'
  | .int i, .tup m => by
    intro A h h' hu
    cases h with
    | int _ t =>
    cases h' with
    | tup ho hc hd r => exact EqAt.int_tuple i t ⟨_, ho, hc, _, hd⟩ (by omega)
  | .str x, .tup m => by
    intro A h h' hu
    cases h with
    | str _ t =>
    cases h' with
    | tup ho hc hd r => exact EqAt.str_tuple x t ⟨_, ho, hc, _, hd⟩ (by omega)
  | .tup l, .int j => by
    intro A h h' hu
    cases h with
    | tup ho hc hd r =>
    cases h' with
    | int _ t' => exact EqAt.tuple_int j t' ⟨_, ho, hc, _, hd⟩ (by omega)
  | .tup l, .str y => by
    intro A h h' hu
    cases h with
    | tup ho hc hd r =>
    cases h' with
    | str _ t' => exact EqAt.tuple_str y t' ⟨_, ho, hc, _, hd⟩ (by omega)
  | .tup l, .tup m => by
    intro A h h' hu
    obtain ⟨a, its, o, n, rfl, ho, hc, hd, r⟩ := tup_H h
    obtain ⟨b, its', o', n', rfl, ho', hc', hd', r'⟩ := tup_H h'
    by_cases hab : a = b
    · subst hab
      have z := DatH.inj (DatH.tup ho hc hd r) (DatH.tup ho' hc' hd' r')
      rw [z, Dt.beq_self]
      exact EqAt.same _
    · have n1 : its.size = l.length := by rw [← Array.length_toList, r.length]
      have n2 : its'.size = m.length := by rw [← Array.length_toList, r'.length]
      have hd2 : A.units + (Dt.dps l + 1) < cLine := by simpa only [Dt.dp] using hu
      have R := RcAt.tuples (A := A) (s := s) (e := itEq l m) ⟨_, ho, hc, _, hd⟩ ⟨_, ho', hc', _, hd'⟩ (by omega) (fun j h1 h2 => by
        have := eqsAt_H A.in1 r r' (by show A.units + 1 + _ < _; omega) j
        exact this _ _ (by simp) (by simp))
      rw [n1, n2, all_itEq] at R
      exact EqAt.of_refs hab R
theorem eqsAt_H : ∀ {ds ds' : List Dt} {us us' : List Value} (A : Around), DatHs s.heap us ds → DatHs s.heap us' ds' → A.units + Dt.dps ds < cLine →
    ∀ (j : Nat) (u u' : Value), us[j]? = some u → us'[j]? = some u' → EqAt A s u u' (itEq ds ds' j)
  | [], _ => by
    intro A h h' hu j u u' e e'
    cases h
    simp at e
  | d :: ds, [] => by
    intro A h h' hu j u u' e e'
    cases h'
    simp at e'
  | d :: ds, d' :: ds' => by
    intro A h h' hu j u u' e e'
    cases h with
    | cons h t =>
    cases h' with
    | cons h' t' =>
    simp only [Dt.dps] at hu
    cases j with
    | zero =>
      have e1 := Option.some.inj e
      have e2 := Option.some.inj e'
      subst e1 e2
      exact eqAt_H A h h' (by omega)
    | succ j =>
    have := eqsAt_H A t t' (by omega) j u u' (by simpa using e) (by simpa using e')
    have z : itEq (d :: ds) (d' :: ds') (j + 1) = itEq ds ds' j := by simp [itEq]
    rw [z]
    exact this
end
end
def EntOk (w : World) (h : Heap) (es : Array (Int × Value)) : Prop := ∀ e ∈ es.toList, ∃ d, DatH h e.2 d ∧ d.dp ≤ 8 ∧ e.1 = hashD w d ∧ ∃ l, d = .tup l
section
variable {prog : Program} {w : World} {E : Value → Shared → Prop} {A : Around} {s : Shared}
set_option maxHeartbeats 1000000 in
theorem search_D {S : Addr} {o : Obj} {es : Array (Int × Value)} {ep : Nat} {t : SetTable} (ok : SetOk t es) (ho : s.heap.get? S = some o) (hd : o.data = .set es ep t) (en : EntOk w s.heap es)
    {x : Value} {dx : Dt} (hx : DatH s.heap x dx) (h8 : dx.dp ≤ 8) (hu : A.units + 8 < cLine) {Q : SetFound → Shared → Prop} (h1 : (∃ e ∈ es.toList, DatH s.heap e.2 dx) → Q (.there none) s) :
    ∀ (k fuel : Nat) (p : SetTable.Probe) (stand : Option SetTable.Probe), stand.getD (t.probeStart (hashD w dx)) = p → p.dummy = none → k < fuel → k ≤ 10 * (t.mask + 14) → Hits t.mask (Occ t) k p →
      (∀ j, ¬ Occ t j → Rch t.mask (Occ t) p j → (∀ (j' i' : Nat) (e : Int × Value), Rch t.mask (Occ t) p j' → t.place[i']? = some j' → es[i']? = some e → ¬ DatH s.heap e.2 dx) → Q (.free j false) s) →
      wpAny (model prog w) A (setSearchFrom S x (hashD w dx) true fuel stand) Q E s
  | k, 0, p, stand, _, _, hf, _, _, _ => absurd hf (Nat.not_lt_zero _)
  | k, fuel + 1, p, stand, hst, hpd, hf, hk, hh, h2 => by
    unfold setSearchFrom
    refine wpAny_bind (wpAny_setState_of ho hd ok.tab.fits ?_)
    dsimp only
    rw [ok.tab.odd, hst]
    simp only [Bool.false_eq_true, if_false]
    generalize hp : SetTable.probe t _ _ p = pr
    have hdat : ∀ (i : Nat) (e : Int × Value), es[i]? = some e → DatH s.heap e.2 dx → W.hashAt es i = hashD w dx := fun i e ee q => by
      obtain ⟨d, q1, _, q3, _⟩ := en e (Array.mem_toList_iff.mpr (Array.mem_of_getElem? ee))
      unfold W.hashAt
      rw [ee]
      show e.1 = _
      rw [q3, DatH.inj q1 q]
    rcases probe_go ok.tab (W.hashAt es) (hashD w dx) k (10 * SetTable.turns t.mask) p hpd (by show k < 10 * (t.mask + 15); omega) hh with ⟨j, e, e1, e2, e3⟩ | ⟨j, i, q, k', e, e1, e2, e3, e4, e5, e6, e7⟩
    · have : pr = some (.empty j none) := hp.symm.trans e
      subst this
      dsimp only
      exact wpAny_pure (h2 j e1 e2 fun j' i' ev r pl ee q => e3 j' i' r pl (hdat i' ev ee q))
    · have : pr = some (.candidate j i q) := hp.symm.trans e
      subst this
      dsimp only
      have hi : i < es.size := by
        rw [← ok.size]
        rcases Nat.lt_or_ge i t.place.size with z | z
        · exact z
        · rw [Array.getElem?_eq_none z] at e1; cases e1
      obtain ⟨⟨hy, y⟩, ei⟩ : ∃ ev, es[i]? = some ev := ⟨_, Array.getElem?_eq_getElem hi⟩
      have emem : (hy, y) ∈ es.toList := Array.mem_toList_iff.mpr (Array.mem_of_getElem? ei)
      obtain ⟨dy, q1, q2, q3, l, rfl⟩ := en (hy, y) emem
      have main : wpAny (model prog w) A (do
          let some (_, y) := es[i]? | unsupported "internal:set-entry"
          let equal ← holding [y] (eqBool y x)
          let (es', _, t') ← setState S
          if true && equal then return .there none
          let some same := t'.sameMemory t.moves t.mask | unsupported "set.changed-during-lookup:is-the-new-block-at-the-old-address"
          let still ← match (if same then t'.slot j else .empty) with
            | .live i' => match es'[i']? with
              | some (_, y') => do pure (if ← isSame y' y then some i' else none)
              | none => pure none
            | _ => pure none
          match still with
          | none => rule "set.search.anew"; setSearchFrom S x (hashD w dx) true fuel none
          | some i' => if equal then return .there (some i') else setSearchFrom S x (hashD w dx) true fuel (some q)) Q E s := by
        rw [ei]
        dsimp only
        refine wpAny_bind (wpAny_holding (eqAt_H A q1 hx (by omega) prog w E _ ?_))
        refine wpAny_bind (wpAny_setState_of ho hd ok.tab.fits ?_)
        dsimp only
        cases hb : Dt.beq (.tup l) dx with
        | true =>
          have : Dt.tup l = dx := (Dt.beq_iff _ _).mp hb
          subst this
          simp only [Bool.and_self, if_true]
          exact wpAny_pure (h1 ⟨(hy, y), emem, q1⟩)
        | false =>
          have sm : t.sameMemory t.moves t.mask = some true := by
            unfold SetTable.sameMemory
            rw [if_pos (by simp)]
          simp only [Bool.and_false, Bool.false_eq_true, if_false, sm, if_true, slot_live ok.tab e1, ei]
          cases q1 with
          | @tup b oo items nn _ ho' hc' hd' r' =>
            refine wpAny_bind (wpAny_isSame_ref_self (wpAny_bind (wpAny_pure ?_)))
            simp only [if_true]
            refine search_D ok ho hd en hx h8 hu h1 k' fuel q (some q) rfl e3 (by omega) (by omega) e5 fun j2 n2 r2 all2 => ?_
            refine h2 j2 n2 (e6 j2 r2) fun j' i' ev r pl ee qq => ?_
            rcases e7 j' i' r pl with z | z | z
            · exact z (hdat i' ev ee qq)
            · subst z
              rw [ei] at ee
              cases ee
              have := DatH.inj (DatH.tup ho' hc' hd' r') qq
              rw [this, Dt.beq_self] at hb
              cases hb
            · exact all2 j' i' ev z pl ee qq
      cases hled : t.led with
      | true =>
        simp only [Bool.not_true, Bool.false_eq_true, if_false]
        exact main
      | false =>
        simp only [Bool.not_false, if_true]
        refine wpAny_bind (seen_D hx h8 _ (fun y' hy' => ?_) ?_)
        · obtain ⟨e', he', rfl⟩ := List.mem_map.mp hy'
          have : e' ∈ es.toList := by
            have := Array.mem_toList_iff.mp he'
            exact Array.mem_toList_iff.mpr (Array.mem_filter.mp this).1
          obtain ⟨d, a1, a2, _, _⟩ := en e' this
          exact ⟨d, a1, a2⟩
        · simp only [Bool.false_eq_true, if_false]
          exact main
end
end BF
namespace BF
open PySem PySem.Spec PyProof.Rows L2 PySem.SeqAt
theorem adv_le {m : Nat} {p : SetTable.Probe} (h : p.j + p.more ≤ m) : (advM m p).j + (advM m p).more ≤ m := by
  unfold advM
  split
  · show p.j + 1 + (p.more - 1) ≤ m
    omega
  · have h1 : (SetTable.leap m p.i p.perturb).1 ≤ m := Nat.le_of_lt_succ (Nat.mod_lt _ (Nat.succ_pos m))
    have h2 := runEnd_le h1
    show (SetTable.leap m p.i p.perturb).1 + (SetTable.runEnd m (SetTable.leap m p.i p.perturb).1 - (SetTable.leap m p.i p.perturb).1) ≤ m
    omega
theorem Rch.le {m : Nat} {occ : Nat → Prop} {p : SetTable.Probe} {j : Nat} (r : Rch m occ p j) : p.j + p.more ≤ m → j ≤ m := by
  induction r with
  | here p => intro h; omega
  | next _ _ ih => intro h; exact ih (adv_le h)
theorem start_le (m : Nat) (h : Int) : (startM m h).j + (startM m h).more ≤ m := by
  have h1 : SetTable.bits h % (m + 1) ≤ m := Nat.le_of_lt_succ (Nat.mod_lt _ (Nat.succ_pos m))
  have h2 := runEnd_le h1
  show SetTable.bits h % (m + 1) + 0 + (SetTable.runEnd m (SetTable.bits h % (m + 1)) - SetTable.bits h % (m + 1) - 0) ≤ m
  omega
theorem grow_ok {m n : Nat} (hm : MaskOk m) (h1 : n * 5 < m * 3) (h2 : ¬ (n + 1) * 5 < m * 3) (h3 : n < 306) : MaskOk (SetTable.sizeAbove (SetTable.grown (n + 1)) - 1) ∧ (n + 1) * 5 < (SetTable.sizeAbove (SetTable.grown (n + 1)) - 1) * 3 ∧ SetTable.sizeAbove (SetTable.grown (n + 1)) ≤ 512 := by
  rcases hm with rfl | rfl | rfl | rfl
  · have : n = 4 := by omega
    subst this
    exact ⟨.inr (.inl (by decide +kernel)), by decide +kernel, by decide +kernel⟩
  · have : n = 18 := by omega
    subst this
    exact ⟨.inr (.inr (.inl (by decide +kernel))), by decide +kernel, by decide +kernel⟩
  · have : n = 76 := by omega
    subst this
    exact ⟨.inr (.inr (.inr (by decide +kernel))), by decide +kernel, by decide +kernel⟩
  · omega
section
variable {prog : Program} {w : World} {E : Value → Shared → Prop} {A : Around} {s : Shared}
theorem size512 {n : Nat} (h : n ≤ 512) : n ≤ sizeLine := by rw [sizeLine_eq]; omega
theorem setAt_store {h : Heap} {S : Addr} {o : Obj} {es es' : Array (Int × Value)} {ep : Nat} {t t' : SetTable} (ho : h.get? S = some o) (hd : o.data = .set es ep t) :
    (h.update S (Obj.putSet es' t')).get? S = some { o with data := .set es' (ep + 1) t' } := by
  have := Heap.get?_update_self (Obj.putSet es' t') ho (by rw [putSet_of es' t' hd]; rfl)
  rw [putSet_of es' t' hd] at this
  exact this
theorem relay_D {S : Addr} {o : Obj} {es : Array (Int × Value)} {ep : Nat} {t : SetTable} {wanted : Nat} (hf : t.fits es.size = true) (ho : s.heap.get? S = some o) (hd : o.data = .set es ep t)
    (hm : MaskOk (SetTable.sizeAbove wanted - 1)) (hn : es.size * 5 < (SetTable.sizeAbove wanted - 1) * 3) (hw : SetTable.sizeAbove wanted ≤ 512) {Q : Unit → Shared → Prop}
    (q : ∀ h' es' ep' t', Heap.SameBut S s.heap h' → h'.get? S = some { o with data := .set es' ep' t' } → SetOk t' es' → t'.led = t.led → es'.toList.Perm es.toList → Q () { s with heap := h' }) :
    wpAny (model prog w) A (setRelay S wanted) Q E s := by
  obtain ⟨t', order, e, hp, ok, hl⟩ := relaid_ok (t := t) (es := es) hm hn
  unfold setRelay
  refine wpAny_bind (wpAny_setState_of ho hd hf ?_)
  dsimp only
  rw [if_neg (Nat.not_lt.mpr (size512 hw)), e]
  have hsz : (order.filterMap (es[·]?)).size = es.size := by rw [← Array.length_toList, hp.length_eq, Array.length_toList]
  refine wpAny_bind ?_
  show wpAny (model prog w) A (if ((order.filterMap (es[·]?)).size != es.size) = true then unsupported "internal:set-table-lost-an-element" else pure (order.filterMap (es[·]?), t')) _ E s
  rw [if_neg (by rw [hsz]; simp)]
  refine wpAny_pure ?_
  dsimp only
  refine wpAny_storeSet_of ho hd ?_ (by rw [hsz]; exact size512 (by omega))
  exact q _ _ _ t' (Heap.SameBut.update _ _ _) (setAt_store ho hd) ok hl hp
set_option maxHeartbeats 1000000 in
theorem add_D {S : Addr} {o : Obj} {es : Array (Int × Value)} {ep : Nat} {t : SetTable} (ok : SetOk t es) (ho : s.heap.get? S = some o) (hd : o.data = .set es ep t) (en : EntOk w s.heap es)
    {x : Value} {l : List Dt} (hx : DatH s.heap x (.tup l)) (h8 : (Dt.tup l).dp ≤ 8) (hu : A.units + 8 < cLine) (hn : es.size < 306) {Q : Bool → Shared → Prop}
    (q1 : ∀ tk, s.toks ≤ tk → (∃ e ∈ es.toList, DatH s.heap e.2 (.tup l)) → Q false { s with toks := tk })
    (q2 : ∀ tk h' es' ep' t', s.toks ≤ tk → (¬ ∃ e ∈ es.toList, DatH s.heap e.2 (.tup l)) → Heap.SameBut S s.heap h' → h'.get? S = some { o with data := .set es' ep' t' } → SetOk t' es' → t'.led = t.led → es'.toList.Perm ((hashD w (.tup l), x) :: es.toList) → Q true { s with heap := h', toks := tk }) :
    wpAny (model prog w) A (setAdd S x) Q E s := by
  unfold setAdd
  refine wpAny_holding (wpAny_bind (pyHash_D _ _ A s _ hx (by omega) fun tk htk => ?_))
  unfold setAddHashed
  refine wpAny_holding ?_
  unfold setAddHashedIn
  have ho' : ({ s with toks := tk } : Shared).heap.get? S = some o := ho
  refine wpAny_bind (wpAny_setState_of (s := { s with toks := tk }) ho' hd ok.tab.fits ?_)
  dsimp only
  have hb : byScan x es = false := by
    cases hx with
    | tup _ _ _ _ => rfl
  rw [hb]
  simp only [Bool.false_eq_true, if_false]
  obtain ⟨jf, hj1, hj2⟩ := ok.tab.free
  have hstart : t.probeStart (hashD w (.tup l)) = startM t.mask (hashD w (.tup l)) := start_eq _ _
  have reachAll : ∀ e ∈ es.toList, DatH s.heap e.2 (.tup l) → ∃ (i j : Nat), t.place[i]? = some j ∧ es[i]? = some e ∧ Rch t.mask (Occ t) (startM t.mask (hashD w (.tup l))) j := fun e he qe => by
    obtain ⟨i, ei⟩ := List.mem_iff_getElem?.mp he
    rw [Array.getElem?_toList] at ei
    have hi : i < t.place.size := by
      rw [ok.size]
      rcases Nat.lt_or_ge i es.size with z | z
      · exact z
      · rw [Array.getElem?_eq_none z] at ei; cases ei
    obtain ⟨d, a1, _, a3, _⟩ := en e he
    have := ok.reach i _ e (Array.getElem?_eq_getElem hi) ei
    rw [a3, DatH.inj a1 qe] at this
    exact ⟨i, _, Array.getElem?_eq_getElem hi, ei, this⟩
  refine wpAny_bind ?_
  unfold setSearch
  refine search_D (s := { s with toks := tk }) ok ho' hd en hx h8 hu (fun he => wpAny_pure (q1 tk htk he)) (10 * (t.mask + 14)) 100000 _ none rfl rfl ?_ (Nat.le_refl _) ?_ fun j nj rj all => ?_
  · rcases ok.mask with h | h | h | h <;> rw [h] <;> decide
  · show Hits _ _ _ (t.probeStart (hashD w (.tup l)))
    rw [hstart]
    exact hits_start ok.mask hj1 hj2 _
  · have rj' : Rch t.mask (Occ t) (startM t.mask (hashD w (.tup l))) j := by rw [← hstart]; exact rj
    have none' : ¬ ∃ e ∈ es.toList, DatH s.heap e.2 (.tup l) := fun ⟨e, he, qe⟩ => by
      obtain ⟨i, j', p1, p2, p3⟩ := reachAll e he qe
      exact all j' i e (by show Rch _ _ (t.probeStart _) _; rw [hstart]; exact p3) p1 p2 qe
    have jm : j ≤ t.mask := rj'.le (start_le _ _)
    have pre := ok.put jm nj (e := (hashD w (.tup l), x)) rj'
    dsimp only
    refine wpAny_bind (wpAny_setState_of (s := { s with toks := tk }) ho' hd ok.tab.fits ?_)
    dsimp only
    have fin : ∀ t1 : SetTable, SetPre t1 (SetTable.insertAt es (t.put j).2 (hashD w (.tup l), x)) → t1.mask = t.mask → t1.led = t.led →
        wpAny (model prog w) A (do
          storeSet S (SetTable.insertAt es (t.put j).2 (hashD w (.tup l), x)) t1
          if (!false && t1.tooFull) = true then setRelay S (SetTable.grown (es.size + 1))
          pure true) Q E { s with toks := tk } := fun t1 p1 m1 l1 => by
      have sz1 : (SetTable.insertAt es (t.put j).2 (hashD w (.tup l), x)).size = es.size + 1 := insAt_size _ _ _
      have per := SetTable.insertAt_perm es (t.put j).2 (hashD w (.tup l), x)
      have per' : (SetTable.insertAt es (t.put j).2 (hashD w (.tup l), x)).toList.Perm ((hashD w (.tup l), x) :: es.toList) := by
        refine per.trans ?_
        rw [Array.toList_push]
        exact List.perm_append_comm
      refine wpAny_bind (wpAny_storeSet_of ho' hd ?_ (by rw [sz1]; exact size512 (by omega)))
      have fill : t1.fill = es.size + 1 := by
        unfold SetTable.fill
        rw [p1.size, p1.clean, sz1]; rfl
      by_cases hf : (es.size + 1) * 5 < t.mask * 3
      · have tf : t1.tooFull = false := by
          unfold SetTable.tooFull
          rw [fill, m1]
          exact decide_eq_false (by omega)
        rw [tf]
        simp only [Bool.and_false, Bool.false_eq_true, if_false]
        refine wpAny_pure (q2 tk _ _ _ t1 htk none' (Heap.SameBut.update _ _ _) (setAt_store ho' hd) ⟨p1, ?_⟩ l1 per')
        rw [sz1, m1]; exact hf
      · have tf : t1.tooFull = true := by
          unfold SetTable.tooFull
          rw [fill, m1]
          exact decide_eq_true (by omega)
        rw [tf]
        simp only [Bool.not_false, Bool.and_self, if_true]
        obtain ⟨g1, g2, g3⟩ := grow_ok ok.mask ok.full hf hn
        refine wpAny_bind (relay_D (s := { s with heap := s.heap.update S (Obj.putSet (SetTable.insertAt es (t.put j).2 (hashD w (.tup l), x)) t1), toks := tk }) ?_ (setAt_store ho' hd) rfl g1 (by rw [sz1]; exact g2) g3 fun h' es' ep' t' sb g' ok' l' p' => ?_)
        · unfold SetTable.fits
          rw [fill, p1.size, sz1, m1]
          have := ok.full
          simp
          omega
        · exact wpAny_pure (q2 tk _ _ _ t' htk none' ((Heap.SameBut.update _ _ _).trans sb) g' ok' (l'.trans l1) (p'.trans per'))
    cases hpl : (t.put j).1.plain with
    | true =>
      simp only [if_true]
      refine wpAny_bind (byValue_D _ _ 8 A { s with toks := tk } _ hx fun b => ?_)
      cases b with
      | true => exact fin _ pre rfl rfl
      | false => exact fin _ (SetOk.off pre) rfl rfl
    | false =>
      simp only [Bool.false_eq_true, if_false]
      refine wpAny_bind (wpAny_pure ?_)
      exact fin _ pre rfl rfl
end
end BF
namespace BF
open PySem PySem.Spec PyProof.Rows L2 PySem.SeqAt
def setObj (es : Array (Int × Value)) (ep : Nat) (t : SetTable) : Obj := { cls := .type "set", dict := none, data := .set es ep t }
def byText (w : World) : Bool := w.params.followText "set-order"
structure SetIs (w : World) (h0 h : Heap) (S : Addr) (vs : List Value) (ds : List Dt) (es : Array (Int × Value)) (ep : Nat) (t : SetTable) (dl : List Dt) : Prop where
  get : h.get? S = some (setObj es ep t)
  ok : SetOk t es
  led : t.led = !byText w
  ent : EntOk w h0 es
  dat : DatHs h0 (es.toList.map (·.2)) dl
  nodup : dl.Nodup
  mem : ∀ d, d ∈ dl ↔ d ∈ ds
  sub : ∀ e ∈ es.toList, e.2 ∈ vs
theorem EntOk.keep {w : World} {h h' : Heap} {es : Array (Int × Value)} (k : ∀ b o, h.get? b = some o → h'.get? b = some o) (en : EntOk w h es) : EntOk w h' es := fun e he => by
  obtain ⟨d, a1, a2⟩ := en e he
  exact ⟨d, a1.keep k, a2⟩
theorem datHs_mem {h : Heap} : ∀ {ds : List Dt} {vs : List Value}, DatHs h vs ds → (∀ d ∈ ds, ∃ v ∈ vs, DatH h v d) ∧ (∀ v ∈ vs, ∃ d ∈ ds, DatH h v d)
  | [], _, .nil => ⟨fun _ h => (nomatch h), fun _ h => (nomatch h)⟩
  | d :: ds, _, .cons q t => by
    obtain ⟨h1, h2⟩ := datHs_mem t
    refine ⟨fun d' hd => ?_, fun v hv => ?_⟩
    · rcases List.mem_cons.mp hd with rfl | hd
      · exact ⟨_, List.mem_cons_self, q⟩
      · obtain ⟨v, a, b⟩ := h1 d' hd
        exact ⟨v, List.mem_cons_of_mem _ a, b⟩
    · rcases List.mem_cons.mp hv with rfl | hv
      · exact ⟨_, List.mem_cons_self, q⟩
      · obtain ⟨v, a, b⟩ := h2 v hv
        exact ⟨v, List.mem_cons_of_mem _ a, b⟩
theorem datHs_perm {h : Heap} {ys zs : List Value} (p : ys.Perm zs) : ∀ {ds : List Dt}, DatHs h ys ds → ∃ es, DatHs h zs es ∧ ds.Perm es := by
  induction p with
  | nil => intro ds r; exact ⟨ds, r, .refl _⟩
  | cons x _ ih =>
    intro ds r
    cases r with
    | cons r1 r2 =>
      obtain ⟨es, a, b⟩ := ih r2
      exact ⟨_ :: es, .cons r1 a, b.cons _⟩
  | swap x y l =>
    intro ds r
    cases r with
    | cons r1 r2 =>
      cases r2 with
      | cons r3 r4 => exact ⟨_ :: _ :: _, .cons r3 (.cons r1 r4), .swap _ _ _⟩
  | trans _ _ ih1 ih2 =>
    intro ds r
    obtain ⟨es, a, b⟩ := ih1 r
    obtain ⟨fs, c, d⟩ := ih2 a
    exact ⟨fs, c, b.trans d⟩
theorem datHs_get {h : Heap} : ∀ {ds : List Dt} {vs : List Value}, DatHs h vs ds → ∀ (i : Nat) (v : Value), vs[i]? = some v → ∃ d, ds[i]? = some d ∧ DatH h v d
  | [], _, .nil, i, v, e => by simp at e
  | d :: ds, _, .cons q t, 0, v, e => by simp at e; subst e; exact ⟨d, rfl, q⟩
  | d :: ds, _, .cons q t, i + 1, v, e => by
    simp at e
    obtain ⟨d', a, b⟩ := datHs_get t i v e
    exact ⟨d', by simpa using a, b⟩
section
variable {prog : Program} {w : World} {A : Around} {R : Result → Shared → Prop} {I : Addr} {fp wr : List Addr} {G : Array GenState → Array GenState → Prop} {n : Nat} {P : Nat → Value → Prop} {St : Nat → Shared → Prop}
theorem update_loop_D (W : WalksS prog w A.in1 I fp wr G n P St) (h0 : Heap) (S : Addr) (hSf : S ∉ fp) (hS0 : h0.objs.size ≤ S) (hw0 : ∀ b ∈ wr, h0.objs.size ≤ b) (ds : List Dt) (hn : ds.length = n) (hb : n < 306) (vs : List Value) (hvs : ∀ i v, P i v → v ∈ vs)
    (hval : ∀ i v, P i v → ∃ d, ds[i]? = some d ∧ DatH h0 v d) (htup : ∀ d ∈ ds, ∃ l, d = .tup l ∧ d.dp ≤ 8) (hu : A.units + 9 < cLine) :
    ∀ (k i : Nat) (s : Shared), n - i = k → i ≤ n → St i s → (∀ b o, h0.get? b = some o → s.heap.get? b = some o) →
      (∃ es ep t dl, SetIs w h0 s.heap S vs (ds.take i) es ep t dl) →
      (∀ s', Moved (S :: wr) G s s' → (∀ b o, h0.get? b = some o → s'.heap.get? b = some o) → (∃ es ep t dl, SetIs w h0 s'.heap S vs ds es ep t dl) → R (.ok (.ret .none)) s') →
      codeAny (model prog w) A (.builtin "set.update.loop" ⟨[.ref S, .ref I], []⟩) R s := by
  have hSw : S ∉ wr := fun h => hSf (W.sub _ h)
  have hsub : ∀ b ∈ wr, b ∈ S :: wr := fun b hb => List.mem_cons_of_mem _ hb
  have old : ∀ {s s' : Shared}, Moved wr G s s' → (∀ b o, h0.get? b = some o → s.heap.get? b = some o) → (∀ b o, h0.get? b = some o → s'.heap.get? b = some o) := fun {s s'} hm hk b o e =>
    hm.heap b o (fun hb => absurd (Heap.lt_size e) (Nat.not_lt.mpr (hw0 b hb))) (hk b o e)
  intro k
  induction k with
  | zero =>
    intro i s hk hi hst ho hS hR
    have hin : i = n := by omega
    subst hin
    refine codeAny_builtin F.entry_set_update_loop ?_
    rw [Around.under_plainId F.plain_set_update_loop _]
    show wpAny _ A.in1 (pyNext (.ref I) >>= _) _ _ s
    refine wpAny_bind (W.done s _ _ hst fun s' hm => ?_)
    show wpAny _ A.in1 (ret Value.none) _ _ s'
    refine wpAny_pure (hR s' (hm.mono hsub) (old hm ho) ?_)
    obtain ⟨es, ep, t, dl, z⟩ := hS
    rw [List.take_of_length_le (by omega)] at z
    exact ⟨es, ep, t, dl, hm.heap S _ hSw z.get, z.ok, z.led, z.ent, z.dat, z.nodup, z.mem, z.sub⟩
  | succ k ih =>
    intro i s hk hi hst ho hS hR
    have hlt : i < n := by omega
    refine codeAny_builtin F.entry_set_update_loop ?_
    rw [Around.under_plainId F.plain_set_update_loop _]
    show wpAny _ A.in1 (pyNext (.ref I) >>= _) _ _ s
    refine wpAny_bind (W.item i s _ _ hlt hst fun v s' hP hst' hm => ?_)
    obtain ⟨d, ed, dv⟩ := hval i v hP
    obtain ⟨l, rfl, h8⟩ := htup d (List.mem_of_getElem? ed)
    obtain ⟨es, ep, t, dl, z⟩ := hS
    have ho' := old hm ho
    have hget' : s'.heap.get? S = some (setObj es ep t) := hm.heap S _ hSw z.get
    have tk1 : ds.take (i + 1) = ds.take i ++ [.tup l] := by
      rw [List.take_succ, ed]; rfl
    have hlen : es.size ≤ i := by
      have h1 : es.size = dl.length := by rw [← z.dat.length, List.length_map, Array.length_toList]
      have h2 : dl.length ≤ (ds.take i).length := by
        refine List.Nodup.length_le_of_subset z.nodup fun x hx => (z.mem x).mp hx
      rw [List.length_take] at h2
      omega
    show wpAny _ A.in1 (holding [v] (setAdd S v) >>= _) _ _ s'
    refine wpAny_bind (wpAny_holding ?_)
    have memIff : (∃ e ∈ es.toList, DatH s'.heap e.2 (.tup l)) ↔ Dt.tup l ∈ dl := by
      constructor
      · rintro ⟨e, he, q⟩
        obtain ⟨d', hd', q'⟩ := (datHs_mem z.dat).2 e.2 (List.mem_map.mpr ⟨e, he, rfl⟩)
        rw [DatH.inj q (q'.keep ho')]
        exact hd'
      · intro hd'
        obtain ⟨v', hv', q'⟩ := (datHs_mem z.dat).1 _ hd'
        obtain ⟨e, he, rfl⟩ := List.mem_map.mp hv'
        exact ⟨e, he, q'.keep ho'⟩
    refine add_D (A := A.in1) z.ok hget' rfl (z.ent.keep ho') (dv.keep ho') h8 (by show A.units + 1 + 8 < _; omega) (by omega) (fun tk htk he => ?_) fun tk h' es' ep' t' htk he sb g' ok' l' p' => ?_
    · refine wpAny_pure ⟨plainId_quiet F.plain_set_update_loop _, ih (i + 1) _ (by omega) hlt (W.frame _ s' _ _ hst' htk fun b hb o e => e) ho' ?_ fun s'' hm'' ho'' hS'' => ?_⟩
      · rw [tk1]
        refine ⟨es, ep, t, dl, hget', z.ok, z.led, z.ent, z.dat, z.nodup, fun d => ?_, z.sub⟩
        rw [List.mem_append, List.mem_singleton, z.mem]
        constructor
        · exact .inl
        · rintro (q | rfl)
          · exact q
          · exact (z.mem _).mp (memIff.mp he)
      · exact hR s'' (Moved.trans W.gtrans ((hm.mono hsub).then_heap htk fun b o hb e => e) hm'') ho'' hS''
    · refine wpAny_pure ⟨plainId_quiet F.plain_set_update_loop _, ih (i + 1) _ (by omega) hlt (W.frame _ s' _ _ hst' htk fun b hb o e => ?_) (fun b o e => ?_) ?_ fun s'' hm'' ho'' hS'' => ?_⟩
      · rw [sb.2 b (fun h : b = S => hSf (by rw [← h]; exact hb))]; exact e
      · rw [sb.2 b (fun h : b = S => absurd (Heap.lt_size e) (Nat.not_lt.mpr (by rw [h]; exact hS0)))]; exact ho' b o e
      · rw [tk1]
        have hl : dl.length = es.size := by rw [← z.dat.length, List.length_map, Array.length_toList]
        obtain ⟨dl', q1, q2⟩ := datHs_perm ((p'.map (·.2)).symm) (ds := .tup l :: dl) (.cons dv z.dat)
        refine ⟨es', ep', t', dl', g', ok', l'.trans z.led, fun e he => ?_, q1, ?_, fun d => ?_, fun e he => ?_⟩
        · rcases List.mem_cons.mp (p'.mem_iff.mp he) with rfl | he
          · exact ⟨.tup l, dv, h8, rfl, l, rfl⟩
          · exact z.ent e he
        · refine q2.nodup_iff.mp (List.nodup_cons.mpr ⟨fun hc => he (memIff.mpr hc), z.nodup⟩)
        · rw [← q2.mem_iff, List.mem_cons, List.mem_append, List.mem_singleton, z.mem, Or.comm]
        · rcases List.mem_cons.mp (p'.mem_iff.mp he) with rfl | he
          · exact hvs i v hP
          · exact z.sub e he
      · refine hR s'' (Moved.trans W.gtrans ((hm.mono hsub).then_heap htk fun b o hb e => ?_) hm'') ho'' hS''
        rw [sb.2 b (fun h : b = S => hb (by rw [h]; exact List.mem_cons_self))]; exact e
end
end BF
namespace BF
open PySem PySem.Spec PyProof.Rows L2 PySem.SeqAt
section
variable {prog : Program} {w : World} {A : Around} {E : Value → Shared → Prop} {s : Shared}
def set0 (w : World) : Obj := setObj #[] 0 (.fresh 0 0 (!byText w))
theorem setNew_D (v : Value) {Q : Value → Shared → Prop} (q : Q (.ref s.heap.objs.size) { s with heap := s.heap.push (set0 w) }) :
    codeAny (model prog w) A (.call (.builtin "set.__new__") ⟨[.type "set", v], []⟩) (wants Q E) s := by
  refine codeAny_of_tree (show wpAny _ A.in1 (do checkBuiltinCall "set.__new__" ⟨[.type "set", v], []⟩; again (.builtin "set.__new__" ⟨[.type "set", v], []⟩)) _ _ s from ?_)
  refine wpAny_bind (wpAny_of_eq (PySem.F.newCall_set_1 v) (wpAny_pure ⟨plainId_quiet PySem.F.plain_set_new _, codeAny_builtin PySem.F.entry_set_new ?_⟩))
  rw [Around.under_plainId PySem.F.plain_set_new _]; unfold Builtin.«set.__new__» Builtin.Frozenset.newClass
  have hss := sub_set_self
  obtain ⟨h1, h2, h3, h4, h5⟩ := s
  dsimp only; wp_walk
  refine wpAny_askSetting (wpAny_pure ?_); dsimp only; simp only [newObj]
  exact wpAny_bind (wpAny_alloc (wpAny_pure (wpAny_pure q)))
theorem set0_is (h0 h : Heap) (vs : List Value) {S : Addr} (e : h.get? S = some (set0 w)) : ∃ es ep t dl, SetIs w h0 h S vs [] es ep t dl := by
  refine ⟨#[], 0, .fresh 0 0 (!byText w), [], e, ⟨⟨.inl rfl, List.Pairwise.nil, rfl, rfl, fun j hj => ?_, fun i j e' hp => ?_⟩, ?_⟩, rfl, fun e' he => ?_, .nil, List.nodup_nil, fun d => Iff.rfl, fun e' he => ?_⟩
  · exact absurd hj (by simp [SetTable.fresh])
  · simp [SetTable.fresh] at hp
  · show 0 * 5 < 7 * 3; decide
  · simp at he
  · simp at he
set_option maxRecDepth 100000 in
set_option maxHeartbeats 3200000 in
theorem call_set_D {l : Addr} {its : Array Value} {ds : List Dt} {Q : Value → Shared → Prop} (hh : A.handled = none) (hl : s.heap.IsList l its) (hi : DatHs s.heap its.toList ds) (hb : its.size < 306)
    (htup : ∀ d ∈ ds, ∃ l, d = .tup l ∧ d.dp ≤ 8) (hu : A.units + 12 < cLine)
    (q : ∀ (h' : Heap) (tk : Nat) es ep t dl, SetIs w s.heap h' s.heap.objs.size its.toList ds es ep t dl → (∀ b o, s.heap.get? b = some o → h'.get? b = some o) → s.heap.objs.size < h'.objs.size → Q (.ref s.heap.objs.size) { s with heap := h', toks := tk }) :
    wpAny (model prog w) A (call (.type "set") [.ref l]) Q E s := by
  obtain ⟨c, tl, hmro⟩ := PySem.F.called_set.mro
  have hmd := PySem.F.called_set.made
  have hsb := PySem.F.called_set.sub
  have n1 := PySem.F.called_set.notType
  have n2 := PySem.F.called_set.canCreate
  have n3 := PySem.F.typeCall_set_1 (.ref l)
  refine wpAny_call (codeAny_of_tree (show wpAny _ _ (callAny (.type "set") _) _ _ _ from ?_))
  refine wpAny_pure ⟨Code.quiet_builtin _ (by decide +kernel), codeAny_builtin PySem.F.entry_type_call ?_⟩
  rw [Around.under_plain (weight_type_call_type "set" [.ref l] []) rfl]; repeat (any_goals (first | assumption | wp_step))
  refine codeAny_mono (setNew_D (.ref l) (E := E) (Q := fun r z => r = .ref s.heap.objs.size ∧ z = { s with heap := s.heap.push (set0 w) }) ⟨rfl, rfl⟩) fun res z hz => ?_
  cases res with
  | error e => exact hz
  | ok fl =>
    cases fl with
    | ret r =>
      obtain ⟨rfl, rfl⟩ := hz
      have g0 : (s.heap.push (set0 w)).get? s.heap.objs.size = some (set0 w) := Heap.get?_push_size _ rfl
      have hT : Shared.TypeIs { s with heap := s.heap.push (set0 w) } (.ref s.heap.objs.size) "set" := ⟨_, g0, rfl⟩
      have i1 := PySem.F.called_set.init.lookup
      have i2 := PySem.F.called_set.init.bind (.ref s.heap.objs.size)
      repeat (any_goals (first | assumption | wp_step))
      refine codeAny_mono (codeAny_call_builtin (R := wants (fun r z => r = .none ∧ ∃ h' tk es ep t dl, z = { s with heap := h', toks := tk } ∧ SetIs w s.heap h' s.heap.objs.size its.toList ds es ep t dl ∧ (∀ b o, s.heap.get? b = some o → h'.get? b = some o) ∧ s.heap.objs.size < h'.objs.size) E)
        PySem.F.called_set.init.plain PySem.F.entry_set_init (check_set_init_1 hT ?_)) fun res z hz => ?_
      · obtain ⟨ol, hol, hcl, nl, hdl⟩ := id hl
        obtain ⟨oc, od, oda, osl⟩ := ol
        simp only at hcl hdl
        subst hcl; subst hdl
        have hol' : (s.heap.push (set0 w)).get? l = some { cls := .type "list", dict := od, data := .seq its nl, slots := osl } := Heap.get?_push_of_some _ hol
        have j1 := PySem.F.sub_list_set
        have j2 := PySem.F.sub_list_frozenset
        have j3 : (Value.type "list" == Value.type "dict") = false := by decide
        have hl1 : (s.heap.push (set0 w)).IsList l its := ⟨_, hol', rfl, nl, rfl⟩
        unfold Builtin.«set.__init__» noKeywords Builtin.Frozenset.updateFrom
        generalize hPI : pyIter = PI
        wp_walk
        subst hPI
        refine wpAny_pyIter_list hl1 (wpAny_bind (wpAny_runValue ?_))
        have hlS : l < s.heap.objs.size := Heap.lt_size hol
        have hlI : l ≠ (s.heap.push (set0 w)).objs.size := by rw [Heap.size_push]; exact Nat.ne_of_lt (Nat.lt_succ_of_lt hlS)
        have hSf : s.heap.objs.size ∉ [(s.heap.push (set0 w)).objs.size, l] := by
          rw [Heap.size_push]; simp only [List.mem_cons, List.not_mem_nil, or_false, not_or]; exact ⟨Nat.ne_of_lt (Nat.lt_succ_self _), Nat.ne_of_gt hlS⟩
        have h3 : A.in1.in1.in1.handled = none := by simp [hh]
        refine update_loop_D ((Walks.list h3 _ l hlI its).toS) s.heap s.heap.objs.size hSf (Nat.le_refl _) (fun b hb => ?_) ds (by rw [← hi.length, Array.length_toList]) hb its.toList (fun i v hv => Array.mem_toList_iff.mpr (Array.mem_of_getElem? hv)) (fun i v hv => datHs_get hi i v (by rw [Array.getElem?_toList]; exact hv)) htup
          (by simp only [Around.in1_units]; omega) (its.size - 0) 0 _ (by omega) (Nat.zero_le _) ⟨⟨_, Heap.get?_push_size _ rfl, rfl, rfl⟩, hl1.push _⟩ (fun b o e => Heap.get?_push_of_some _ (Heap.get?_push_of_some _ e)) ?_ ?_
        · have : b = (s.heap.push (set0 w)).objs.size := by simpa using hb
          rw [this, Heap.size_push]; exact Nat.le_succ _
        · exact set0_is _ _ _ (Heap.get?_push_of_some _ g0)
        · intro z hm old hS
          obtain ⟨h', g', d', tk', os'⟩ := z
          have e1 : g' = s.gens := hm.gens
          have e2 : d' = s.drawn := hm.drawn
          have e3 : os' = s.os := hm.os
          subst e1; subst e2; subst e3
          obtain ⟨es, ep, t, dl, hS⟩ := hS
          show wpAny _ _ _ _ _ _
          refine wpAny_pure (show wpAny _ _ (ret Value.none) _ _ _ from ?_)
          exact wpAny_pure ⟨rfl, h', tk', es, ep, t, dl, rfl, hS, old, Heap.lt_size hS.get⟩
      · cases res with
        | error e => exact hz
        | ok fl =>
          cases fl with
          | ret r =>
            obtain ⟨rfl, h', tk, es, ep, t, dl, rfl, hS, old, hlt⟩ := hz
            repeat (any_goals (first | assumption | wp_step))
            exact q h' tk es ep t dl hS old hlt
          | _ => exact hz.elim
    | _ => exact hz.elim
end
end BF
namespace BF
open PySem PySem.Spec PyProof.Rows L2 PySem.SeqAt
theorem slotSI : Slot "set_iterator" "__next__" "set_iterator.__next__" :=
  .of (owner := "set_iterator") (n := "__next__") (by rw [typeLookup_type, builtinLookup_eq_fast]; kernel_rfl) (by decide +kernel) (by decide +kernel) (by decide +kernel) (by first | exact .inl (by decide +kernel) | exact .inr (by decide +kernel)) (by rw [isSubtype_type]; kernel_rfl)
theorem entrySI : entryFor table "set_iterator.__next__" = some Builtin.«set_iterator.__next__» := entryFor_of_tree (by kernel_rfl)
theorem ownSI : Manifest.owners.lookup (String.ofList ['r', 'o', 't', 'a', 'r', 'e', 't', 'i', '_', 't', 'e', 's'].reverse) = some Manifest.sig_set_iterator := by kernel_rfl
theorem argsSI (a : Value) : argsOk "set_iterator.__next__" ⟨[a], []⟩ := by
  unfold argsOk; rw [signature?_of (id := "set_iterator.__next__") (n := ['_', '_', 't', 'x', 'e', 'n', '_', '_']) (o := ['r', 'o', 't', 'a', 'r', 'e', 't', 'i', '_', 't', 'e', 's']) (by kernel_rfl) ownSI]; kernel_rfl
theorem entrySIter : entryFor table "set.__iter__" = some Builtin.«frozenset.__iter__» := entryFor_alias (id' := "frozenset.__iter__") (by kernel_rfl) rfl (by decide +kernel) (by kernel_rfl)
section
variable {M : Model} {A : Around} {E : Value → Shared → Prop} {s : Shared}
theorem choose_any {src : Source} {n : Nat} {Q : Nat → Shared → Prop} (hn : n ≠ 0) (q : ∀ i d, i < n → Q i { s with drawn := d }) : wpAny M A (choose src n) Q E s := fun Γ p hΓ => by
  show Sem.wp M Γ (.choose src n .pure) _ _ p s
  rw [Sem.wp_choose]
  exact ⟨hn, q _ _ (Nat.mod_lt _ (Nat.pos_of_ne_zero hn))⟩
theorem perm_erase {α : Type} {xs : List α} {i : Nat} {x : α} (h : xs[i]? = some x) : (x :: xs.eraseIdx i).Perm xs := by
  induction xs generalizing i with
  | nil => simp at h
  | cons y ys ih =>
    cases i with
    | zero => simp at h; subst h; simp
    | succ i =>
      simp at h
      rw [List.eraseIdx_cons_succ]
      exact (List.Perm.swap y x _).trans ((ih h).cons y)
theorem drawOrder_any {α : Type} : ∀ (n : Nat) (xs : List α) (s : Shared) {Q : List α → Shared → Prop}, n = xs.length → (∀ ys d, ys.Perm xs → Q ys { s with drawn := d }) → wpAny M A (drawOrder n xs) Q E s
  | 0, xs, s, Q, hn, q => by
    have : xs = [] := List.length_eq_zero_iff.mp hn.symm
    subst this
    exact wpAny_pure (q [] s.drawn (.refl _))
  | n + 1, [], s, Q, hn, q => by simp at hn
  | n + 1, x :: xs, s, Q, hn, q => by
    unfold drawOrder
    refine wpAny_bind (choose_any (by simp) fun i d hi => ?_)
    have e : (x :: xs)[i]? = some (x :: xs)[i] := List.getElem?_eq_getElem hi
    rw [e]
    dsimp only
    have hl : n = ((x :: xs).eraseIdx i).length := by
      have := List.length_eraseIdx_of_lt hi
      rw [this]; simp at hn; simp [hn]
    refine wpAny_bind (drawOrder_any n _ { s with drawn := d } hl fun ys d' hp => wpAny_pure ?_)
    exact q _ d' ((hp.cons _).trans (perm_erase e))
end
theorem pick_go {α : Type} (next : Nat → Nat) : ∀ (fuel k : Nat) (left : List α) (out : Array α), fuel = left.length → ∃ ys, ys.Perm left ∧ (pickOrder.go next fuel k left out).toList = out.toList ++ ys
  | 0, k, left, out, h => by
    have : left = [] := List.length_eq_zero_iff.mp h.symm
    subst this
    exact ⟨[], .refl _, by unfold pickOrder.go; simp⟩
  | fuel + 1, k, left, out, h => by
    unfold pickOrder.go
    have hp : next k % left.length < left.length := Nat.mod_lt _ (by omega)
    have e : left[next k % left.length]? = some left[next k % left.length] := List.getElem?_eq_getElem hp
    rw [e]
    dsimp only
    obtain ⟨ys, p1, p2⟩ := pick_go next fuel (k + 1) (left.eraseIdx (next k % left.length)) (out.push left[next k % left.length]) (by
      rw [List.length_eraseIdx_of_lt hp]; omega)
    exact ⟨_ :: ys, (p1.cons _).trans (perm_erase e), by rw [p2, Array.toList_push]; simp⟩
theorem pick_perm {α : Type} (next : Nat → Nat) (xs : Array α) : (pickOrder next xs).toList.Perm xs.toList := by
  obtain ⟨ys, p1, p2⟩ := pick_go next xs.size 0 xs.toList #[] (by simp)
  show (pickOrder.go next xs.size 0 xs.toList #[]).toList.Perm _
  rw [p2]
  simpa using p1
def itObj (first : Value) (i n : Nat) (S : Addr) (ep : Nat) : Obj := { cls := .type "set_iterator", data := .fields #[first, .int i 0, .ref S, .int n 0, .int ep 0] }
inductive ItF (w : World) (h : Heap) (S : Addr) (es : Array (Int × Value)) (ep : Nat) (t : SetTable) (ord : List Value) (i : Nat) : Value → List Addr → Prop where
  | text (hb : byText w = true) (ho : ord = (pickOrder (w.params.setOrder S ep) es).toList.map (·.2)) : ItF w h S es ep t ord i (.int 0 0) []
  | drawn {T : Addr} {o : Obj} {nn : Nat} {pl : List Nat} (hb : byText w = false) (hd : (!t.plain && decide (es.size > 1)) = true) (hT : h.get? T = some o) (hs : o.data = .seq (pl.map fun (k : Nat) => Value.int (k : Int) 0).toArray nn) (hp : pl.Perm (List.range es.size))
      (ho : ord = pl.map fun k => ((es[k]?).map (·.2)).getD .none) : ItF w h S es ep t ord i (.ref T) [T]
  | slots {sl : Nat} (hb : byText w = false) (hd : (!t.plain && decide (es.size > 1)) = false) (hs : SetTable.below t.place sl = i) (ho : ord = es.toList.map (·.2)) : ItF w h S es ep t ord i (.int sl 0) []
end BF
namespace BF
open PySem PySem.Spec PyProof.Rows L2 PySem.SeqAt
theorem it_set0 (first x : Value) (i n : Nat) (S : Addr) (ep : Nat) : Obj.mapFields (·.setIfInBounds 0 x) (itObj first i n S ep) = itObj x i n S ep := rfl
theorem it_set1 (first : Value) (i n : Nat) (S : Addr) (ep : Nat) : Obj.mapFields (·.setIfInBounds 1 (.int ((i : Int) + 1) 0)) (itObj first i n S ep) = itObj first (i + 1) n S ep := rfl
theorem ItF.keep {w : World} {h h' : Heap} {S : Addr} {es : Array (Int × Value)} {ep : Nat} {t : SetTable} {ord : List Value} {i : Nat} {first : Value} {fp : List Addr} (x : ItF w h S es ep t ord i first fp) (k : ∀ b ∈ fp, ∀ o, h.get? b = some o → h'.get? b = some o) : ItF w h' S es ep t ord i first fp := by
  cases x with
  | text a b => exact .text a b
  | drawn a b c d e f => exact .drawn a b (k _ (by simp) _ c) d e f
  | slots a b c d => exact .slots a b c d
section
variable {prog : Program} {w : World} {A : Around} {E : Value → Shared → Prop} {s : Shared} {I S : Addr} {es : Array (Int × Value)} {ep : Nat} {t : SetTable} {ord : List Value} {i : Nat} {first : Value} {fp : List Addr}
theorem byText_ask {α : Type} {f : Bool → Sem α} {Q : α → Shared → Prop} (q : wpAny (model prog w) A (f (byText w)) Q E s) : wpAny (model prog w) A (setsByText >>= f) Q E s := by
  unfold setsByText
  exact wpAny_bind (wpAny_bind (wpAny_askSetting (wpAny_pure q)))
set_option maxHeartbeats 1000000 in
theorem next_item (ok : SetOk t es) (hled : t.led = !byText w) (hS : s.heap.get? S = some (setObj es ep t)) (hI : s.heap.get? I = some (itObj first i es.size S ep)) (hf : ItF w s.heap S es ep t ord i first fp) (hne : S ≠ I) (hfp : ∀ b ∈ fp, b ≠ I)
    {v : Value} (hv : ord[i]? = some v) {Q : Option Value → Shared → Prop} (q : ∀ first' h', h'.get? I = some (itObj first' (i + 1) es.size S ep) → ItF w h' S es ep t ord (i + 1) first' fp → Heap.SameBut I s.heap h' → Q (some v) { s with heap := h' }) :
    wpAny (model prog w) A (pyNext (.ref I)) Q E s := by
  have hT : s.TypeIs (.ref I) "set_iterator" := ⟨_, hI, rfl⟩
  unfold pyNext
  refine wpAny_bind (wpAny_attempt (wpAny_callSpecial?_slot (name := Str.ofString "__next__") hT slotSI (wpAny_call_entry slotSI hT entrySI ?_ (argsSI _))))
  show wpAny _ _ (fieldsOf (.ref I) >>= _) _ _ s
  refine wpAny_bind (wpAny_fieldsOf hI rfl ?_)
  dsimp only
  refine wpAny_bind (wpAny_setEntries_of hS rfl ok.tab.fits ?_)
  rw [if_neg (by simp)]
  have upd2 : ∀ x : Value, ((s.heap.update I (Obj.mapFields (·.setIfInBounds 0 x))).get? I) = some (itObj x i es.size S ep) := fun x => by
    have := Heap.get?_update_self (Obj.mapFields (·.setIfInBounds 0 x)) hI rfl
    rw [it_set0] at this; exact this
  have upd3 : ∀ (f : Value) (h : Heap), h.get? I = some (itObj f i es.size S ep) → (h.update I (Obj.mapFields (·.setIfInBounds 1 (.int ((i : Int) + 1) 0)))).get? I = some (itObj f (i + 1) es.size S ep) := fun f h e => by
    have := Heap.get?_update_self (Obj.mapFields (·.setIfInBounds 1 (.int ((i : Int) + 1) 0))) e rfl
    rw [it_set1] at this; exact this
  cases hf with
  | text hb ho =>
    dsimp only
    refine wpAny_bind ?_
    unfold setNext
    refine wpAny_bind (wpAny_setState_of hS rfl ok.tab.fits ?_)
    refine byText_ask ?_
    rw [hb]
    simp only [if_true, Int.toNat_natCast]
    rw [if_neg (by simp)]
    unfold setWalk
    refine wpAny_bind (wpAny_bind (wpAny_setState_of hS rfl ok.tab.fits ?_))
    refine byText_ask ?_
    rw [hb]
    simp only [if_true]
    refine wpAny_bind (wpAny_askSetting (wpAny_pure ?_))
    rw [ho, List.getElem?_map, Array.getElem?_toList] at hv
    cases hx : (pickOrder (w.params.setOrder S ep) es)[i]? with
    | none => rw [hx] at hv; cases hv
    | some e =>
      rw [hx] at hv
      cases hv
      refine wpAny_pure ?_
      generalize hg : (pickOrder _ es)[i]? = g
      have : g = some e := hg.symm.trans hx
      subst this
      dsimp only [Option.map]
      refine wpAny_bind (wpAny_setField hI rfl (by simp) (wpAny_bind (wpAny_setField (upd2 _) rfl (by simp) (wpAny_pure ⟨_, rfl, wpAny_pure ?_⟩))))
      exact q _ _ (upd3 _ _ (upd2 _)) (.text hb ho) ((Heap.SameBut.update _ _ _).trans (Heap.SameBut.update _ _ _))
  | @drawn T o nn pl hb hd hT' hs hp ho =>
    dsimp only
    refine wpAny_bind (wpAny_seqItems hT' hs ?_)
    dsimp only
    rw [ho, List.getElem?_map] at hv
    cases hx : pl[i]? with
    | none => rw [hx] at hv; cases hv
    | some k =>
      rw [hx] at hv
      have hk : k < es.size := List.mem_range.mp (hp.mem_iff.mp (List.mem_of_getElem? hx))
      have hev : v = es[k].2 := by
        have := (Option.some.inj hv).symm
        rw [this]
        show ((es[k]?).map (·.2)).getD .none = _
        rw [Array.getElem?_eq_getElem hk]; rfl
      subst hev
      have e1 : (pl.map fun (k : Nat) => Value.int (k : Int) 0).toArray[((i : Int)).toNat]? = some (.int (k : Int) 0) := by
        rw [List.getElem?_toArray, List.getElem?_map, Int.toNat_natCast, hx]; rfl
      rw [e1]
      dsimp only
      refine wpAny_bind ?_
      unfold setNextDrawn
      refine wpAny_bind (wpAny_setState_of hS rfl ok.tab.fits ?_)
      dsimp only
      rw [if_neg (by simp)]
      rw [Int.toNat_natCast, Array.getElem?_eq_getElem hk]
      dsimp only
      refine wpAny_pure (wpAny_bind (wpAny_setField hI rfl (by simp) (wpAny_pure ⟨_, rfl, wpAny_pure ?_⟩)))
      refine q _ _ (upd3 _ _ hI) ?_ (Heap.SameBut.update _ _ _)
      refine ItF.keep (h := s.heap) (.drawn hb hd hT' hs hp ho) fun b hb' o' e => ?_
      rw [Heap.get?_update_other _ _ (fun z => hfp b hb' z.symm)]; exact e
  | @slots sl hb hd hs ho =>
    dsimp only
    refine wpAny_bind ?_
    unfold setNext
    refine wpAny_bind (wpAny_setState_of hS rfl ok.tab.fits ?_)
    refine byText_ask ?_
    rw [hb]
    simp only [Bool.false_eq_true, if_false, Int.toNat_natCast]
    have hlt : i < es.size := by
      rw [ho] at hv
      obtain ⟨h1, _⟩ := List.getElem?_eq_some_iff.mp hv
      simpa using h1
    have hpl : i < t.place.size := by rw [ok.size]; exact hlt
    have hev : v = es[i].2 := by
      rw [ho, List.getElem?_map, Array.getElem?_toList, Array.getElem?_eq_getElem hlt] at hv
      exact (Option.some.inj hv).symm
    subst hev
    split
    · rename_i hc
      exact absurd (show (!t.plain && decide (es.size > 1)) = true from hc) (by rw [hd]; simp)
    · have hl : t.led = true := by rw [hled, hb]; rfl
      refine wpAny_bind (m := (if (!t.led && !es.isEmpty) = true then unsupported "set:maker-not-led" else pure ())) ?_
      rw [hl]
      simp only [Bool.not_true, Bool.false_and, Bool.false_eq_true, if_false]
      refine wpAny_pure ?_
      rw [hs, Array.getElem?_eq_getElem hlt, Array.getElem?_eq_getElem hpl]
      dsimp only
      refine wpAny_pure ?_
      dsimp only
      refine wpAny_bind (wpAny_setField hI rfl (by simp) (wpAny_bind (wpAny_setField (upd2 _) rfl (by simp) (wpAny_pure ⟨_, rfl, wpAny_pure ?_⟩))))
      refine q _ _ (upd3 _ _ (upd2 _)) (.slots (sl := t.place[i] + 1) hb hd ?_ ho) ((Heap.SameBut.update _ _ _).trans (Heap.SameBut.update _ _ _))
      obtain ⟨b1, b2, b3⟩ := below_spec ok.rises (t.place[i] + 1)
      rcases Nat.lt_trichotomy (SetTable.below t.place (t.place[i] + 1)) (i + 1) with z | z | z
      · have := b3 i (by omega) _ (Array.getElem?_eq_getElem hpl)
        omega
      · exact z
      · have hb1 : i + 1 < t.place.size := by omega
        have h1 := b2 (i + 1) z _ (Array.getElem?_eq_getElem hb1)
        have h2 := List.pairwise_iff_getElem.mp ok.rises i (i + 1) (by simpa using hpl) (by simpa using hb1) (Nat.lt_succ_self i)
        simp only [Array.getElem_toList] at h2
        omega
end
end BF
namespace BF
open PySem PySem.Spec PyProof.Rows L2 PySem.SeqAt
section
variable {prog : Program} {w : World} {A : Around} {E : Value → Shared → Prop} {s : Shared}
theorem stop_any {α : Type} (hh : A.handled = none) {Q : α → Shared → Prop} (q : ∀ h' v, (∀ b o, s.heap.get? b = some o → h'.get? b = some o) → Shared.TypeIs { s with heap := h' } v "StopIteration" → E v { s with heap := h' }) :
    wpAny (model prog w) A (newExc (.type "StopIteration") [] >>= fun e => (raiseNew e : Sem α)) Q E s := by
  refine wpAny_bind ?_
  simp only [newExc, newTuple]
  refine wpAny_bind (wpAny_newObj_type ?_ (by size_fits))
  refine wpAny_bind (m := firstArgMember _ _) (wpAny_of_eq (a := Value.none) (by first | rfl | (simp only [firstArgMember]; rfl)) (wpAny_newObj_type ?_ (by size_fits)))
  simp only [raiseNew]
  refine wpAny_bind (wpAny_handled (by
    rw [hh]
    refine wpAny_bind (wpAny_pure (wpAny_throw (q _ _ (fun b o e => Heap.get?_push_of_some _ (Heap.get?_push_of_some _ e)) ?_)))
    exact ⟨_, Heap.get?_push_size _ rfl, rfl⟩))
variable {I S : Addr} {es : Array (Int × Value)} {ep : Nat} {t : SetTable} {ord : List Value} {i : Nat} {first : Value} {fp : List Addr}
set_option maxHeartbeats 1000000 in
theorem next_end (hh : A.handled = none) (ok : SetOk t es) (hled : t.led = !byText w) (hS : s.heap.get? S = some (setObj es ep t)) (hI : s.heap.get? I = some (itObj first i es.size S ep)) (hf : ItF w s.heap S es ep t ord i first fp)
    (hv : ord[i]? = none) {Q : Option Value → Shared → Prop} (q : ∀ h', (∀ b o, b ≠ I → s.heap.get? b = some o → h'.get? b = some o) → Q none { s with heap := h' }) :
    wpAny (model prog w) A (pyNext (.ref I)) Q E s := by
  have hT : s.TypeIs (.ref I) "set_iterator" := ⟨_, hI, rfl⟩
  unfold pyNext
  refine wpAny_bind (wpAny_attempt (wpAny_callSpecial?_slot (name := Str.ofString "__next__") hT slotSI (wpAny_call_entry slotSI hT entrySI ?_ (argsSI _))))
  show wpAny _ _ (fieldsOf (.ref I) >>= _) _ _ s
  refine wpAny_bind (wpAny_fieldsOf hI rfl ?_)
  dsimp only
  refine wpAny_bind (wpAny_setEntries_of hS rfl ok.tab.fits ?_)
  rw [if_neg (by simp)]
  have hh1 : A.in1.handled = none := hh
  have fin : ∀ (h1 : Heap), (∀ b o, b ≠ I → s.heap.get? b = some o → h1.get? b = some o) → ∀ (h' : Heap) (v : Value), (∀ b o, h1.get? b = some o → h'.get? b = some o) → Shared.TypeIs { s with heap := h' } v "StopIteration" →
      wpAny (model prog w) A (match (Except.error v : Except Value (Option Value)) with
        | .ok (some v) => pure (some v)
        | .ok none => unsupported "iter:the-iterator's-class-has-lost-its-__next__-amid-the-walk"
        | .error e => do if ← isInstance e (.type "StopIteration") then pure none else throw e) Q E { s with heap := h' } := fun h1 k1 h' v k2 ht => by
    dsimp only
    refine wpAny_bind (wpAny_isInstance (T := "StopIteration") (b := true) ht isSubtype_stop ?_)
    exact wpAny_pure (q h' fun b o hb e => k2 b o (k1 b o hb e))
  have up : ∀ (h : Heap) (f : Obj → Obj) (b : Addr) (o : Obj), b ≠ I → h.get? b = some o → (h.update I f).get? b = some o := fun h f b o hb e => by
    rw [Heap.get?_update_other _ _ (fun z => hb z.symm)]; exact e
  cases hf with
  | text hb ho =>
    dsimp only
    refine wpAny_bind ?_
    unfold setNext
    refine wpAny_bind (wpAny_setState_of hS rfl ok.tab.fits ?_)
    refine byText_ask ?_
    rw [hb]
    simp only [if_true, Int.toNat_natCast]
    rw [if_neg (by simp)]
    unfold setWalk
    refine wpAny_bind (wpAny_bind (wpAny_setState_of hS rfl ok.tab.fits ?_))
    refine byText_ask ?_
    rw [hb]
    simp only [if_true]
    refine wpAny_bind (wpAny_askSetting (wpAny_pure ?_))
    rw [ho, List.getElem?_map, Array.getElem?_toList] at hv
    have hx : (pickOrder (w.params.setOrder S ep) es)[i]? = none := by simpa using hv
    refine wpAny_pure ?_
    generalize hg : (pickOrder _ es)[i]? = g
    have : g = none := hg.symm.trans hx
    subst this
    dsimp only [Option.map]
    refine wpAny_bind (wpAny_setField hI rfl (by simp) ?_)
    exact stop_any hh1 (fin _ (up _ _))
  | @drawn T o nn pl hb hd hT' hs hp ho =>
    dsimp only
    refine wpAny_bind (wpAny_seqItems hT' hs ?_)
    dsimp only
    rw [ho, List.getElem?_map] at hv
    have hx : pl[i]? = none := by simpa using hv
    have e1 : (pl.map fun (k : Nat) => Value.int (k : Int) 0).toArray[((i : Int)).toNat]? = none := by
      rw [List.getElem?_toArray, List.getElem?_map, Int.toNat_natCast, hx]; rfl
    rw [e1]
    dsimp only
    have upd2 : ((s.heap.update I (Obj.mapFields (·.setIfInBounds 0 (.int 0 0)))).get? I) = some (itObj (.int 0 0) i es.size S ep) := by
      have := Heap.get?_update_self (Obj.mapFields (·.setIfInBounds 0 (.int 0 0))) hI rfl
      rw [it_set0] at this; exact this
    refine wpAny_bind (wpAny_setField hI rfl (by simp) (wpAny_bind (wpAny_setField upd2 rfl (by simp) ?_)))
    exact stop_any hh1 (fin _ fun b o hb e => up _ _ b o hb (up _ _ b o hb e))
  | @slots sl hb hd hs ho =>
    dsimp only
    refine wpAny_bind ?_
    unfold setNext
    refine wpAny_bind (wpAny_setState_of hS rfl ok.tab.fits ?_)
    refine byText_ask ?_
    rw [hb]
    simp only [Bool.false_eq_true, if_false, Int.toNat_natCast]
    have hge : es[i]? = none := by
      rw [ho, List.getElem?_map, Array.getElem?_toList] at hv
      simpa using hv
    split
    · rename_i hc
      exact absurd (show (!t.plain && decide (es.size > 1)) = true from hc) (by rw [hd]; simp)
    · have hl : t.led = true := by rw [hled, hb]; rfl
      refine wpAny_bind (m := (if (!t.led && !es.isEmpty) = true then unsupported "set:maker-not-led" else pure ())) ?_
      rw [hl]
      simp only [Bool.not_true, Bool.false_and, Bool.false_eq_true, if_false]
      refine wpAny_pure ?_
      rw [hs, hge]
      dsimp only
      refine wpAny_pure ?_
      dsimp only
      refine wpAny_bind (wpAny_setField hI rfl (by simp) ?_)
      exact stop_any hh1 (fin _ (up _ _))
end
end BF
namespace BF
open PySem PySem.Spec PyProof.Rows L2 PySem.SeqAt
theorem slotSII : Slot "set_iterator" "__iter__" "set_iterator.__iter__" :=
  .of (owner := "set_iterator") (n := "__iter__") (by rw [typeLookup_type, builtinLookup_eq_fast]; kernel_rfl) (by decide +kernel) (by decide +kernel) (by decide +kernel) (by first | exact .inl (by decide +kernel) | exact .inr (by decide +kernel)) (by rw [isSubtype_type]; kernel_rfl)
theorem entrySII : entryFor table "set_iterator.__iter__" = some Builtin.«dict_keyiterator.__iter__» := entryFor_alias (id' := "dict_keyiterator.__iter__") (by kernel_rfl) rfl (by decide +kernel) (by kernel_rfl)
theorem argsSII (a : Value) : argsOk "set_iterator.__iter__" ⟨[a], []⟩ := by
  unfold argsOk; rw [signature?_of (id := "set_iterator.__iter__") (n := ['_', '_', 'r', 'e', 't', 'i', '_', '_']) (o := ['r', 'o', 't', 'a', 'r', 'e', 't', 'i', '_', 't', 'e', 's']) (by kernel_rfl) ownSI]; kernel_rfl
section
variable {prog : Program} {w : World} {A : Around} {E : Value → Shared → Prop} {s : Shared} {S : Addr} {es : Array (Int × Value)} {ep : Nat} {t : SetTable}
theorem hint_set {Q : Bool → Shared → Prop} (hT : s.TypeIs (.ref S) "set") (h : Q false s) : wpAny (model prog w) A (Builtin.List.listLengthHint (.ref S)) Q E s := by
  unfold Builtin.List.listLengthHint
  refine wpAny_bind (wpAny_specialOf hT PySem.F.slot_set_len.lookup ?_)
  generalize hid : ("set.__len__" : String) = id0
  wp_delta
  rw [show splitId id0 = some ("set", "__len__") from by subst hid; decide +kernel]
  subst hid
  refine wpAny_bind (wpAny_isInstance (T := "set") (b := true) hT sub_set_self (wpAny_ite_split (fun hab => absurd hab (by decide)) (fun _ => ?_)))
  exact wpAny_ite_split (fun _ => wpAny_bind (wpAny_typeOf hT (wpAny_pure h))) (fun hab => absurd (by decide +kernel) hab)
theorem walks_set (hh : A.handled = none) (ok : SetOk t es) (hled : t.led = !byText w) (ord : List Value) (hord : ord.length = es.size) (I : Addr) (fp : List Addr) (hne : S ≠ I) (hfp : ∀ b ∈ fp, b ≠ I) :
    Walks prog w A I (I :: S :: fp) [I] es.size (fun i v => ord[i]? = some v) (fun i h => h.get? S = some (setObj es ep t) ∧ ∃ first, h.get? I = some (itObj first i es.size S ep) ∧ ItF w h S es ep t ord i first fp) where
  sub := fun b hb => by simp at hb; simp [hb]
  frame := fun i h h' st hk => by
    obtain ⟨a, first, b, c⟩ := st
    exact ⟨hk S (by simp) _ a, first, hk I (by simp) _ b, c.keep fun b hb o e => hk b (by simp [hb]) o e⟩
  item := fun i s Q E hi st hQ => by
    obtain ⟨a, first, b, c⟩ := st
    have hl : i < ord.length := by omega
    refine next_item ok hled a b c hne hfp (List.getElem?_eq_getElem hl) fun first' h' e1 e2 e3 => ?_
    exact hQ _ h' s.toks (List.getElem?_eq_getElem hl) ⟨by rw [e3.2 S hne]; exact a, first', e1, e2⟩ fun b o hb e => by
      rw [e3.2 b (fun z => hb (by simp [z]))]; exact e
  done := fun s Q E st hQ => by
    obtain ⟨a, first, b, c⟩ := st
    exact next_end hh ok hled a b c (List.getElem?_eq_none (by omega)) fun h' k => hQ h' s.toks fun b o hb e => k b o (fun z => hb (by simp [z])) e
  self := fun i s Q E st hQ => by
    obtain ⟨a, first, b, c⟩ := st
    have hT : s.TypeIs (.ref I) "set_iterator" := ⟨_, b, rfl⟩
    refine wpAny_pyIter_slot hT slotSII (wpAny_call_entry slotSII hT entrySII (show wpAny _ _ (ret (.ref I)) _ _ s from ?_) (argsSII _))
    exact wpAny_pure ⟨_, rfl, "set_iterator", _, hT, slotSI.lookup, hQ⟩
theorem iter_set (ok : SetOk t es) (hS : s.heap.get? S = some (setObj es ep t)) (h3 : es.size ≤ 400) {Q : Value → Shared → Prop}
    (q : ∀ (h' : Heap) d I fp first ord, (∀ b o, s.heap.get? b = some o → h'.get? b = some o) → s.heap.objs.size ≤ I → I < h'.objs.size → (∀ b ∈ fp, s.heap.objs.size ≤ b ∧ b ≠ I ∧ b < h'.objs.size) → h'.get? I = some (itObj first 0 es.size S ep) → ItF w h' S es ep t ord 0 first fp → ord.Perm (es.toList.map (·.2)) →
      Q (.ref I) { s with heap := h', drawn := d }) :
    wpAny (model prog w) A (pyIter (.ref S)) Q E s := by
  have hT : s.TypeIs (.ref S) "set" := ⟨_, hS, rfl⟩
  refine wpAny_pyIter_slot hT PySem.F.slot_set_iter (wpAny_call_entry PySem.F.slot_set_iter hT entrySIter ?_ (PySem.F.args_set_iter_1 _))
  unfold Builtin.«frozenset.__iter__»
  show wpAny _ _ (Builtin.Frozenset.sizeOf S >>= _) _ _ s
  unfold Builtin.Frozenset.sizeOf
  refine wpAny_bind (wpAny_bind (wpAny_setEntries_of hS rfl ok.tab.fits (wpAny_pure ?_)))
  unfold setDrawn
  refine wpAny_bind (wpAny_bind (wpAny_setState_of hS rfl ok.tab.fits ?_))
  refine byText_ask ?_
  dsimp only
  refine wpAny_pure ?_
  have tail : ∀ (first : Value) (h1 : Heap) (d : Drawn) (fp : List Addr) (ord : List Value), (∀ b o, s.heap.get? b = some o → h1.get? b = some o) → (∀ b ∈ fp, s.heap.objs.size ≤ b ∧ b < h1.objs.size) → s.heap.objs.size ≤ h1.objs.size →
      (∀ h' : Heap, (∀ b o, h1.get? b = some o → h'.get? b = some o) → ItF w h' S es ep t ord 0 first fp) → ord.Perm (es.toList.map (·.2)) →
      wpAny (model prog w) A.in1 (do
        let e ← setEpoch S
        let r ← newFields "set_iterator" [first, rawInt 0, .ref S, rawInt es.size, rawInt e]
        ret r) (fun fin s' => ∃ r, fin = .done (.ret r) ∧ ∃ T' r', s'.TypeIs r T' ∧ typeLookup (.type T') "__next__" = pure (some r') ∧ Q r s') E { s with heap := h1, drawn := d } := fun first h1 d fp ord k1 k2 k3 k4 k5 => by
    refine wpAny_bind (wpAny_setEpoch_of (s := { s with heap := h1, drawn := d }) (k1 _ _ hS) rfl ok.tab.fits ?_)
    refine wpAny_bind (wpAny_newObj_type ?_)
    refine wpAny_pure ⟨_, rfl, "set_iterator", _, ⟨_, Heap.get?_push_size _ rfl, rfl⟩, slotSI.lookup, ?_⟩
    refine q _ d h1.objs.size fp first ord (fun b o e => Heap.get?_push_of_some _ (k1 b o e)) k3 (by rw [Heap.size_push]; exact Nat.lt_succ_self _) (fun b hb => ⟨(k2 b hb).1, Nat.ne_of_lt (k2 b hb).2, by rw [Heap.size_push]; exact Nat.lt_succ_of_lt (k2 b hb).2⟩) (Heap.get?_push_size _ rfl) (k4 _ fun b o e => Heap.get?_push_of_some _ e) k5
  cases hb : byText w with
  | true =>
    simp only [Bool.not_true, Bool.false_and, Bool.false_eq_true, if_false]
    refine wpAny_bind (wpAny_pure ?_)
    exact tail _ s.heap s.drawn [] _ (fun b o e => e) (fun b hb => nomatch hb) (Nat.le_refl _) (fun h' k => .text hb rfl) ((pick_perm _ _).map _)
  | false =>
    split
    · rename_i hc
      have hd : (!t.plain && decide (es.size > 1)) = true := hc
      refine wpAny_bind (drawOrder_any es.size (List.range es.size) s (by simp) fun pl d hp => ?_)
      unfold newTuple
      refine wpAny_bind (wpAny_newObj_type ?_ ?_)
      · refine tail _ _ d [s.heap.objs.size] _ (fun b o e => Heap.get?_push_of_some _ e) (fun b hb => by simp at hb; rw [hb, Heap.size_push]; exact ⟨Nat.le_refl _, Nat.lt_succ_self _⟩) (by rw [Heap.size_push]; exact Nat.le_succ _)
          (fun h' k => .drawn hb hd (k _ _ (Heap.get?_push_size _ rfl)) rfl hp rfl) ?_
        refine (hp.map _).trans ?_
        have : (List.range es.size).map (fun k => ((es[k]?).map (·.2)).getD .none) = es.toList.map (·.2) := by
          refine List.ext_getElem (by simp) fun n h1 h2 => ?_
          have hn : n < es.size := by simpa using h1
          simp [hn]
        rw [this]
      · have : (pl.map fun (i : Nat) => rawInt (i : Int)).toArray.size ≤ sizeLine := by
          rw [List.size_toArray, List.length_map, hp.length_eq, List.length_range]; exact size512 (by omega)
        exact this
    · rename_i hc
      have hd : (!t.plain && decide (es.size > 1)) = false := by
        cases hx : (!t.plain && decide (es.size > 1)) with
        | false => rfl
        | true => exact absurd (show _ = true from hx) hc
      refine wpAny_bind (wpAny_pure ?_)
      refine tail _ s.heap s.drawn [] _ (fun b o e => e) (fun b hb => nomatch hb) (Nat.le_refl _) (fun h' k => .slots (sl := 0) hb hd ?_ rfl) (.refl _)
      obtain ⟨b1, b2, b3⟩ := below_spec ok.rises 0
      rcases Nat.eq_zero_or_pos (SetTable.below t.place 0) with z | z
      · exact z
      · have : 0 < t.place.size := by omega
        exact absurd (b2 0 z _ (Array.getElem?_eq_getElem this)) (Nat.not_lt_zero _)
end
end BF
namespace BF
open PySem PySem.Spec PyProof.Rows L2 PySem.SeqAt
section
variable {prog : Program} {w : World} {A : Around} {E : Value → Shared → Prop} {s : Shared} {S : Addr} {es : Array (Int × Value)} {ep : Nat} {t : SetTable}
set_option maxHeartbeats 1000000 in
theorem collect_set (hh : A.handled = none) (ok : SetOk t es) (hled : t.led = !byText w) (hS : s.heap.get? S = some (setObj es ep t)) (h3 : es.size ≤ 400) {Q : List Value → Shared → Prop}
    (q : ∀ (h' : Heap) d tk its, (∀ b o, s.heap.get? b = some o → h'.get? b = some o) → its.Perm (es.toList.map (·.2)) → Q its { s with heap := h', drawn := d, toks := tk }) :
    wpAny (model prog w) A (collect (.ref S)) Q E s := by
  unfold collect
  refine wpAny_bind (wpAny_runValue (codeAny_builtin PySem.F.entry_proto_collect ?_))
  rw [Around.under_plainId PySem.F.plain_proto_collect _]
  have hlt := Heap.lt_size hS
  have g0 : (s.heap.push (seqObj "list" #[] 0)).get? s.heap.objs.size = some (seqObj "list" #[] 0) := Heap.get?_push_size _ rfl
  have g1 : (s.heap.push (seqObj "list" #[] 0)).get? S = some (setObj es ep t) := Heap.get?_push_of_some _ hS
  show wpAny _ A.in1 (newList [] >>= fun b => again (.builtin "list.__iadd__" ⟨[b, .ref S], []⟩)) _ _ s
  refine wpAny_bind (wpAny_newList (wpAny_pure ⟨plainId_quiet PySem.F.plain_list_iadd _, codeAny_builtin PySem.F.entry_list_iadd ?_⟩))
  rw [Around.under_plainId PySem.F.plain_list_iadd _]
  show wpAny _ A.in1 (Builtin.List.listExtendWith (.ref s.heap.objs.size) (.ref S) (.ref s.heap.objs.size)) _ _ { s with heap := s.heap.push (seqObj "list" #[] 0) }
  unfold Builtin.List.listExtendWith
  refine wpAny_bind (wpAny_typeOf (T := "set") ⟨_, g1, rfl⟩ ?_)
  have b1 : Builtin.List.listSameRef (.ref s.heap.objs.size) (.ref S) = false := by
    show (s.heap.objs.size == S) = false
    exact beq_eq_false_iff_ne.mpr (Ne.symm (Nat.ne_of_lt hlt))
  have b2 : (Value.type "set" == Value.type "list") = false := by decide
  have b3 : (Value.type "set" == Value.type "tuple") = false := by decide
  simp only [b1, b2, b3, Bool.or_false, Bool.false_eq_true, if_false]
  refine wpAny_bind (iter_set ok g1 h3 fun h1 d I fp first ord k1 k2 k3 k4 k5 k6 k7 => ?_)
  have hlen : ord.length = es.size := by rw [k7.length_eq, List.length_map, Array.length_toList]
  have gS : h1.get? S = some (setObj es ep t) := k1 _ _ g1
  have gL : h1.get? s.heap.objs.size = some (seqObj "list" #[] 0) := k1 _ _ g0
  have nLI : s.heap.objs.size ≠ I := Nat.ne_of_lt (Nat.lt_of_lt_of_le (by rw [Heap.size_push]; exact Nat.lt_succ_self _) k2)
  have nSI : S ≠ I := Nat.ne_of_lt (Nat.lt_of_lt_of_le (by rw [Heap.size_push]; exact Nat.lt_succ_of_lt hlt) k2)
  have W := (walks_set (A := A.in1) (ep := ep) (S := S) (prog := prog) (by simp [hh]) ok hled ord hlen I fp nSI fun b hb => (k4 b hb).2.1).toS
  have hLf : s.heap.objs.size ∉ I :: S :: fp := by
    simp only [List.mem_cons, not_or]
    refine ⟨nLI, Ne.symm (Nat.ne_of_lt hlt), fun hb => ?_⟩
    have := (k4 _ hb).1
    rw [Heap.size_push] at this
    exact absurd this (Nat.not_le.mpr (Nat.lt_succ_self _))
  refine wpAny_bind (wpAny_holding (hint_set ⟨_, gS, rfl⟩ ?_))
  refine wpAny_ite_split (fun _ => ?_) (fun hab => absurd (by decide +kernel) hab)
  refine wpAny_bind (wpAny_rule (wpAny_bind ?_))
  show wpAny _ A.in1 (updateSeq s.heap.objs.size (·.push .none) >>= fun _ => updateSeq s.heap.objs.size (·.pop)) _ _ _
  refine wpAny_bind (wpAny_updateSeq gL rfl ?_)
  have gL2 := Heap.get?_update_self (Obj.mapSeq (·.push Value.none)) gL rfl
  refine wpAny_updateSeq (hz := by seq_fits) gL2 rfl ?_
  have gL3 := Heap.get?_update_self (Obj.mapSeq (·.pop)) gL2 rfl
  have oth : ∀ b o, b ≠ s.heap.objs.size → h1.get? b = some o → ((h1.update s.heap.objs.size (Obj.mapSeq (·.push Value.none))).update s.heap.objs.size (Obj.mapSeq (·.pop))).get? b = some o :=
    fun b o hb e => (Heap.get?_update_other _ _ (Ne.symm hb)).trans ((Heap.get?_update_other _ _ (Ne.symm hb)).trans e)
  refine wpAny_pure ⟨plainId_quiet PySem.F.plain_extend_loop _, codeAny_extend_loopS W (size512 (by omega)) _ hLf _ es.size 0 _ #[] _ rfl (Nat.zero_le _) ?_ gL3 (ItemsOf.nil _) fun z acc c hm gz hacc => ?_⟩
  · exact ⟨oth _ _ (Nat.ne_of_lt hlt) gS, first, oth _ _ (Ne.symm nLI) k5, k6.keep fun b hb o e => oth b o (fun zz => hLf (by simp [← zz, hb])) e⟩
  · show wpAny _ A (load s.heap.objs.size >>= _) _ _ z
    refine wpAny_bind (wpAny_load gz (wpAny_pure ?_))
    obtain ⟨hz, gz', dz, tz, oz⟩ := z
    have e1 : gz' = s.gens := hm.gens
    have e2 : dz = d := hm.drawn
    have e3 : oz = s.os := hm.os
    subst e1; subst e2; subst e3
    refine q hz dz tz acc.toList (fun b o e => ?_) ?_
    · have hb : b ≠ s.heap.objs.size := Nat.ne_of_lt (Heap.lt_size e)
      refine hm.heap b o (fun hmem => ?_) (oth b o hb (k1 b o (Heap.get?_push_of_some _ e)))
      rcases List.mem_cons.mp hmem with z1 | z1
      · exact hb z1
      · have : b = I := by simpa using z1
        rw [this] at e
        have k2' : s.heap.objs.size + 1 ≤ I := by have := k2; rwa [Heap.size_push] at this
        exact absurd (Nat.lt_of_lt_of_le (Heap.lt_size e) (Nat.le_trans (Nat.le_succ _) k2')) (Nat.lt_irrefl _)
    · have : acc.toList = ord := by
        refine List.ext_getElem? fun j => ?_
        cases hj : acc.toList[j]? with
        | none =>
          have : acc.toList.length ≤ j := List.getElem?_eq_none_iff.mp hj
          rw [Array.length_toList, hacc.1] at this
          exact (List.getElem?_eq_none (by omega)).symm
        | some v => exact (hacc.2 j v (by rw [← Array.getElem?_toList]; exact hj)).symm
      rw [this]
      exact k7
end
end BF
namespace BF
open PySem PySem.Spec PyProof.Rows L2 PySem.SeqAt
theorem Inv.drw {X : Cx} {pins : List (Addr × Obj)} {σ : L2.St} {H : Hp} {s : Shared} (I : Inv X pins σ H s) (d : Drawn) : Inv X pins σ H { s with drawn := d } :=
  ⟨I.ok, I.os, I.bare, I.base, I.loc, I.cell, I.free, I.freeC, I.pin, I.hok, I.len⟩
theorem mid_old1 {h : Heap} {vs : List Value} {c : Addr} {o : Obj} (e : h.get? c = some o) : (midHeap (h.push (seqObj "list" vs.toArray 0)) h.objs.size vs).get? c = some o := by
  have hc := Heap.lt_size e
  refine Heap.get?_push_of_some _ (Heap.get?_push_of_some _ ?_)
  rw [Heap.get?_update_other _ _ (Ne.symm (Nat.ne_of_lt hc))]
  exact Heap.get?_push_of_some _ e
section
variable {X : Cx}
theorem sort_tail {pins : List (Addr × Obj)} {σ : L2.St} {H : Hp} {s : Shared} (I : Inv X pins σ H s) {A : Around} {E : Value → Shared → Prop} {its : List Value} {ys : List V} {ds : List Dt} {T : String} (rv : Vals ys its) (hlen : its.length ≤ sizeLine) (hD : DtsIs H ys ds)
    (hT : ∀ d ∈ ds, ∃ e r, d = .tup (e :: r) ∧ e.tag = T) (hL : ∀ d ∈ ds, ∀ d' ∈ ds, Dt.like d d' = true) (hu : ∀ d ∈ ds, A.units + 4 + d.dp < cLine) {R : Fin → Shared → Prop}
    (q : ∀ l zs es h', zs.Perm ys → DtsIs H zs es → es.Perm ds → es.Pairwise (fun d d' => Dt.blt d' d = false) → H l = none → Inv X pins σ (upd H l (.lst zs)) { s with heap := h' } → R (.done (.ret (.ref l))) { s with heap := h' }) :
    wpAny (model X.prog X.w) A (do
      let l ← newList its
      let _ ← holding [l] (call (.builtin "list.sort") [l] [])
      ret l) R E s := by
  have I6 : Inv X pins σ H { s with heap := midHeap (s.heap.push (seqObj "list" its.toArray 0)) s.heap.objs.size its } := I.kept (t' := s.toks) fun b o e => mid_old1 e
  refine wpAny_bind (wpAny_newList ?_)
  have hb : (s.heap.push (seqObj "list" its.toArray 0)).get? s.heap.objs.size = some (seqObj "list" its.toArray 0) := Heap.get?_push_size _ rfl
  have o : Σ' o : Ord (model X.prog X.w) A.in1 E { s with heap := midHeap (s.heap.push (seqObj "list" its.toArray 0)) s.heap.objs.size its } (tupKind (Value.type T != Value.type "tuple")), o.all (pairsOf its) ∧ ∀ x y, o.le x y → Dt.blt (datKey H y) (datKey H x) = false := by
    refine ⟨ordT I6 X.prog X.w A.in1 E _ (fun d => d ∈ ds) fun d d' hd hd' => ?_, fun i x ex => ?_, fun x y hxy => hxy⟩
    · obtain ⟨e, l, rfl, et⟩ := hT d hd
      obtain ⟨e', l', rfl, et'⟩ := hT d' hd'
      refine ⟨_, _, rfl, rfl, by simpa only [Dt.like] using hL _ hd _ hd', ?_, fun hf b hb => ?_⟩
      · have := hu _ hd
        simp only [Dt.dp] at this
        show A.units + 1 + _ < _
        omega
      · have : e = b := by simpa using hb
        subst this
        cases e with
        | int _ => rfl
        | str _ => rfl
        | tup m => rw [← et] at hf; simp [Dt.tag] at hf
    · have hx : (pairsOf its).toList[i]? = some x := by simpa using ex
      rw [pairsOf_toList] at hx
      obtain ⟨d, e1, e2⟩ := dts_at hD rv i x.1 (by
        rw [List.getElem?_zip_eq_some] at hx
        exact hx.1)
      exact ⟨d, e2, List.mem_of_getElem? e1⟩
  obtain ⟨o, ga, hle⟩ := o
  refine wpAny_bind (wpAny_holding (wpAny_call_entry slot_list_sort ⟨_, hb, rfl⟩ entry_list_sort (list_sort_any (s := { s with heap := s.heap.push (seqObj "list" its.toArray 0) }) (kd := tupKind (Value.type T != Value.type "tuple")) hb hlen (fun h2 Q q' => ?_) o ga fun ks kp ku => ⟨_, rfl, ?_⟩) (args_list_sort _)))
  · obtain ⟨fs, k, lf, hf⟩ := katT I6 hD rv hT
    refine PySem.W.kat_kind (T := .type T) k (by omega) (fun v hv => ?_) (by simp) q'
    obtain ⟨e, he, et⟩ := hf v hv
    exact et ▸ looks_D I6 he
  · refine wpAny_pure ?_
    have kl : ks.toList.Perm (its.zip its) := by rw [← pairsOf_toList]; exact Array.perm_iff_toList_perm.mp kp
    have k2 : ((ks.map (·.2)).toList).Perm its := by
      rw [Array.toList_map]
      have := kl.map (·.2)
      rwa [List.map_snd_zip (by omega)] at this
    have k12 : ∀ x ∈ ks.toList, x.1 = x.2 := fun x hx => by
      have := kl.mem_iff.mp hx
      obtain ⟨i, e⟩ := List.mem_iff_getElem?.mp this
      rw [List.getElem?_zip_eq_some] at e
      exact Option.some.inj (e.1.symm.trans e.2)
    obtain ⟨zs, vz, pz⟩ := vals_perm k2.symm rv
    obtain ⟨es, de, pe⟩ := dts_perm pz hD
    refine q s.heap.objs.size zs es _ pz.symm de pe.symm ?_ (I.hok.fresh (Nat.le_refl _)) (I.laid (t' := s.toks) (fun b o e => ?_) (Nat.le_refl _) ?_)
    · have ku' := ku.imp fun {x y} z => hle x y z
      rw [List.pairwise_iff_getElem] at ku' ⊢
      intro i j hi hj hij
      have lks : ks.toList.length = es.length := by
        rw [kl.length_eq, List.length_zip, ← de.length, ← pz.length_eq, rv.length, Nat.min_self]
      have z := ku' i j (by omega) (by omega) hij
      have key : ∀ (i : Nat) (h1 : i < ks.toList.length) (h2 : i < es.length), datKey H ks.toList[i] = es[i] := fun i h1 h2 => by
        have e0 : ((ks.map (·.2)).toList)[i]? = some ks.toList[i].2 := by
          rw [Array.toList_map, List.getElem?_map, List.getElem?_eq_getElem h1]; rfl
        obtain ⟨d, e1, e2⟩ := dts_at de vz i _ e0
        rw [List.getElem?_eq_getElem h2] at e1
        cases e1
        refine datKey_eq ?_
        rw [k12 _ (List.getElem_mem h1)]
        exact e2
      rw [key i (by omega) hi, key j (by omega) hj] at z
      exact z
    · have hlt := Heap.lt_size e
      rw [sortedHeap_old (Nat.ne_of_lt hlt) (by rw [Heap.size_push]; exact Nat.lt_succ_of_lt hlt)]
      exact Heap.get?_push_of_some _ e
    · obtain ⟨n, e⟩ := sortedHeap_at (out := ks.map (·.2)) hb
      refine ⟨by rw [← pz.length_eq, rv.length]; exact hlen, (ks.map (·.2)).toList, n, vz, ?_⟩
      rw [e]
theorem pick_dts {H : Hp} {us : List Value} {ys : List V} {ds : List Dt} (hD : DtsIs H ys ds) (rv : Vals ys us) : ∀ its : List Value, (∀ u ∈ its, u ∈ us) → ∃ zs es, Vals zs its ∧ DtsIs H zs es
  | [], _ => ⟨[], [], .nil, .nil⟩
  | u :: its, h => by
    obtain ⟨zs, es, a, b⟩ := pick_dts hD rv its fun x hx => h x (List.mem_cons_of_mem _ hx)
    obtain ⟨i, ei⟩ := List.mem_iff_getElem?.mp (h u List.mem_cons_self)
    obtain ⟨d, _, v, r, q⟩ := dts_at hD rv i u ei
    exact ⟨v :: zs, d :: es, .cons r a, .cons q b⟩
def rSortSet (X : Cx) : List V → Hp → VK → Prop := fun xs H Q => ∃ a ys ds T, xs = [.ref a] ∧ SqL X.K H a ys ∧ DtsIs H ys ds ∧ ys.length < 306 ∧ (∀ d ∈ ds, ∃ e r, d = .tup (e :: r) ∧ e.tag = T) ∧
  (∀ d ∈ ds, ∀ d' ∈ ds, Dt.like d d' = true) ∧ (∀ d ∈ ds, d.dp ≤ 8) ∧
  ∀ l zs es, H l = none → DtsIs H zs es → es.Nodup → (∀ d, d ∈ es ↔ d ∈ ds) → es.Pairwise (fun d d' => Dt.blt d' d = false) → zs.length ≤ ys.length → Q (.ref l) (upd H l (.lst zs))
set_option maxHeartbeats 1000000 in
theorem pe_sortSet {e : Expr} {t : TA} {p p' pos pos' : Pos} {k : Nat} (hr : Room k X.A) (hg : Gl X "sorted") (hm : X.mg "sorted" = none) (hg' : Gl X "set") (hm' : X.mg "set" = none) (ha : PA X [e] t)
    (he : starEach [e] X.env = (false, eval e X.env) :: starEach [] X.env := by first | exact se_name | exact se_call | exact se_list | exact se_comp | exact se_bin | rfl) :
    PE X (.Call (.Name "sorted" p) [.Call (.Name "set" p') [e] [] pos'] [] pos) (tCB (rSortSet X) t) := by
  intro pins s σ H Q I h
  have hu := hr.units
  refine wpAny_Call_Name_kw (ld_blt I hg hm boot_sorted ?_)
  refine PyProof.Rows.callWith_builtin1 ?_ se_call rfl
  show wpAny _ _ (spliced ((false, eval (.Call (.Name "set" p') [e] [] pos') X.env) :: backTo pos (starEach [] X.env))) _ _ s
  refine Calls.spliced_cons ?_
  refine wpAny_Call_Name_kw (ld_blt I hg' hm' boot_set ?_)
  refine PyProof.Rows.callWith_type1 (thn (ha pos' pins s σ H _ I h) fun us s1 ⟨vs, H1, I1, r1, q1⟩ => ?_) he rfl
  obtain ⟨a, ys, ds, T, rfl, hS, hD, hn, hT, hL, h8, q⟩ := q1
  obtain ⟨u, rfl, r2⟩ := vals1 r1
  cases r2
  obtain ⟨its, rv, pl, hz⟩ := I1.list hS
  have hd0 := datHs_of I1 hD rv
  have tup : ∀ d ∈ ds, ∃ l, d = .tup l ∧ d.dp ≤ 8 := fun d hd => by
    obtain ⟨e', r', rfl, _⟩ := hT d hd
    exact ⟨_, rfl, h8 _ hd⟩
  refine call_set_D hr.hd pl.isList (by rw [List.toList_toArray]; exact hd0) (by rw [List.size_toArray, ← rv.length]; exact hn) tup (by omega) fun h' tk es ep tb dl hset old hlt => ?_
  refine Calls.spliced_nil ?_
  have I2 : Inv X pins σ H1 { s1 with heap := h', toks := tk } := I1.kept old
  have esn : es.size ≤ its.length := by
    have h1 : es.size = dl.length := by rw [← hset.dat.length, List.length_map, Array.length_toList]
    have h2 : dl.length ≤ ds.length := List.Nodup.length_le_of_subset hset.nodup fun x hx => (hset.mem x).mp hx
    rw [h1, rv.length.symm, hD.length]; exact h2
  have es3 : es.size ≤ 400 := by rw [← rv.length] at esn; omega
  show wpAny (model X.prog X.w) X.A (call (.builtin "sorted") [.ref s1.heap.objs.size]) _ _ { s1 with heap := h', toks := tk }
  refine Calls.call_function_entry kind_sorted plain_sorted entry_sorted (args_sorted1 _) ?_
  unfold Builtin.«sorted»
  refine wpAny_bind (m := checkCount "sorted" 1 1 _) (wpAny_pure (wpAny_bind (collect_set (A := X.A.in1) (s := { s1 with heap := h', toks := tk }) (show X.A.in1.handled = none from hr.hd) hset.ok hset.led hset.get es3 fun h2 d tk2 jts k2 pj => ?_)))
  have I3 : Inv X pins σ H1 { s1 with heap := h2, drawn := d, toks := tk2 } := Inv.drw (I2.kept (t' := tk2) k2) d
  have sub : ∀ u ∈ jts, u ∈ its := fun u hu' => by
    obtain ⟨e', he', rfl⟩ := List.mem_map.mp (pj.mem_iff.mp hu')
    have := hset.sub e' he'
    simpa using this
  obtain ⟨zs, es', vz, dz⟩ := pick_dts hD rv jts sub
  obtain ⟨dj, dj1, dj2⟩ := datHs_perm pj.symm (hset.dat.keep fun b o e' => k2 b o (old b o e'))
  have edj : es' = dj := DatHs.inj (datHs_of I3 dz vz) dj1
  subst edj
  have mem' : ∀ d', d' ∈ es' ↔ d' ∈ ds := fun d' => by rw [← dj2.mem_iff]; exact hset.mem d'
  have lenj : jts.length ≤ its.length := by rw [pj.length_eq, List.length_map, Array.length_toList]; exact esn
  refine sort_tail I3 vz ?_ dz (fun d' hd' => hT d' ((mem' d').mp hd')) (fun d1 h1 d2 h2' => hL d1 ((mem' d1).mp h1) d2 ((mem' d2).mp h2')) (fun d' hd' => ?_) fun l zz ez h3 pz dzz pe srt hl J => ?_
  · exact Nat.le_trans lenj (by rw [← rv.length]; exact hz)
  · have := h8 d' ((mem' d').mp hd')
    show X.A.units + 1 + 4 + _ < _
    omega
  · refine ⟨_, rfl, .ref l, upd H1 l (.lst zz), J, rfl, q l zz ez hl dzz ?_ (fun d' => by rw [pe.mem_iff]; exact mem' d') srt ?_⟩
    · exact pe.nodup_iff.mpr (dj2.nodup_iff.mp hset.nodup)
    · rw [pz.length_eq, vz.length, rv.length]; exact lenj
end
end BF
namespace BF
open PySem PySem.Spec PyProof.Rows L2 PySem.SeqAt
theorem dps_le : ∀ {ds : List Dt} {n : Nat}, (∀ d ∈ ds, d.dp ≤ n) → Dt.dps ds ≤ n
  | [], n, _ => by simp [Dt.dps]
  | d :: ds, n, h => by
    simp only [Dt.dps]
    have := h d List.mem_cons_self
    have := dps_le (ds := ds) fun x hx => h x (List.mem_cons_of_mem _ hx)
    omega
section
variable {X : Cx}
end
theorem Dt.beqs_self (l : List Dt) : Dt.beqs l l = true := (Dt.beqs_iff l l).mpr rfl
def hD (p : Int × Int) : Dt := .tup [.int p.1, .int p.2]
def hLt (p q : Int × Int) : Bool := HT.lexLt [p.1, p.2] [q.1, q.2]
theorem hLt_iff (p q : Int × Int) : hLt p q = true ↔ p.1 < q.1 ∨ (p.1 = q.1 ∧ p.2 < q.2) := by
  unfold hLt
  rw [lex2]
  simp
theorem rise_eq : ∀ {l m : List Dt}, l.Perm m → l.Pairwise (fun d d' => Dt.blt d' d = false) → m.Pairwise (fun d d' => Dt.blt d' d = false) → l = m
  | [], m, p, _, _ => (List.nil_perm.mp p).symm
  | a :: l, [], p, _, _ => (List.perm_nil.mp p)
  | a :: l, b :: m, p, h1, h2 => by
    rw [List.pairwise_cons] at h1 h2
    have e : a = b := by
      rcases List.mem_cons.mp (p.mem_iff.mp (List.mem_cons_self (a := a) (l := l))) with z | z
      · exact z
      · rcases List.mem_cons.mp (p.mem_iff.mpr (List.mem_cons_self (a := b) (l := m))) with y | y
        · exact y.symm
        · exact Dt.tot a b (h2.1 a z) (h1.1 b y)
    subst e
    rw [rise_eq ((List.perm_cons a).mp p) h1.2 h2.2]
mutual
theorem DtIs.updL {H : Hp} {a : Addr} {xs : List V} {o : HO} (ha : H a = some (.lst xs)) : ∀ {d : Dt} {v : V}, DtIs H v d → DtIs (upd H a o) v d
  | .int i, _, .int _ => .int i
  | .str x, _, .str _ => .str x
  | .tup ds, _, .tup (a := b) e q => .tup (by
      have : b ≠ a := fun z => by rw [z, ha] at e; cases e
      rw [upd_ne this]; exact e) (DtsIs.updL ha q)
theorem DtsIs.updL {H : Hp} {a : Addr} {xs : List V} {o : HO} (ha : H a = some (.lst xs)) : ∀ {ds : List Dt} {vs : List V}, DtsIs H vs ds → DtsIs (upd H a o) vs ds
  | [], _, .nil => .nil
  | d :: ds, _, .cons q t => .cons (DtIs.updL ha q) (DtsIs.updL ha t)
end
end BF
namespace BF
open PySem PySem.Spec PyProof.Rows L2
theorem laterS {G : Prop} {A : L2.St → Hp → Prop} (C : L2.St → Hp → Prop) (main : (∀ σ H', C σ H' → A σ H') → G) (last : ∀ σ H', C σ H' → A σ H') : G := main last
theorem ifC {c : Bool} {A B : Prop} (a : c = true → A) (b : c = false → B) : if c = true then A else B := by
  cases c with
  | true => exact a rfl
  | false => exact b rfl
theorem same_updN {H H2 : Hp} {L : Addr} {o : HO} (s : Same H H2) (n : H L = none) : Same H (upd H2 L o) := fun b u e => by
  rw [upd_ne (fun z => by rw [z, n] at e; cases e)]
  exact s b u e
theorem DtsIs.snoc {H : Hp} {v : V} {d : Dt} (q : DtIs H v d) : ∀ {ds : List Dt} {vs : List V}, DtsIs H vs ds → DtsIs H (vs ++ [v]) (ds ++ [d])
  | [], _, .nil => .cons q .nil
  | _ :: _, _, .cons a t => .cons a (DtsIs.snoc q t)
theorem hD_two {H : Hp} {x : Addr} {p : Int × Int} (h : DtIs H (.ref x) (hD p)) : two H x p := by
  cases h with
  | tup e q =>
    cases q with
    | cons a b =>
      cases a
      cases b with
      | cons c d =>
        cases c
        cases d
        exact e
theorem DtsIs.at {H : Hp} : ∀ {ds : List Dt} {vs : List V}, DtsIs H vs ds → ∀ (i : Nat) (v : V), vs[i]? = some v → ∃ d, ds[i]? = some d ∧ DtIs H v d
  | [], _, .nil, i, v, e => by simp at e
  | d :: ds, _, .cons q t, 0, v, e => by simp at e; subst e; exact ⟨d, rfl, q⟩
  | d :: ds, _, .cons q t, i + 1, v, e => by
    simp at e
    obtain ⟨d', a, b⟩ := DtsIs.at t i v e
    exact ⟨d', by simpa using a, b⟩
theorem none_same {H H' : Hp} {l : Addr} (s : Same H H') (n : H' l = none) : H l = none := by
  cases h : H l with
  | none => rfl
  | some u => rw [s _ _ h] at n; cases n
theorem eqv_two {p q : Int × Int} : hD p = hD q ↔ p = q := by
  obtain ⟨a, b⟩ := p
  obtain ⟨c, d⟩ := q
  simp [hD]
end BF
namespace BF
open PySem PySem.Spec PyProof.Rows L2 PySem.W
instance : DecidableEq Dt := fun a b => decidable_of_iff (Dt.beq a b = true) (Dt.beq_iff a b)
theorem Dt.dec_eq (a b : Dt) : decide (a = b) = Dt.beq a b := by
  cases h : Dt.beq a b with
  | true => exact decide_eq_true ((Dt.beq_iff a b).mp h)
  | false => exact decide_eq_false fun z => by rw [(Dt.beq_iff a b).mpr z] at h; cases h
mutual
def drawsD : Dt → Nat
  | .int _ => 1
  | .str _ => 1
  | .tup l => drawsDs l + 1
def drawsDs : List Dt → Nat
  | [] => 0
  | d :: l => drawsD d + drawsDs l
end
section
variable {prog : Program} {w : World} {E : Value → Shared → Prop}
set_option maxRecDepth 100000 in
mutual
theorem pyHash_X : ∀ (d : Dt) (v : Value) (A : Around) (s : Shared) (Q : Int → Shared → Prop), DatH s.heap v d → A.units + d.dp < cLine → Q (hashD w d) { s with toks := s.toks + drawsD d } → wpAny (model prog w) A (pyHash v) Q E s
  | .int i, _, A, s, Q, .int _ t, hu, h => wpAny_pyHash_int (by rw [hashD, drawsD] at h; exact h)
  | .str x, _, A, s, Q, .str _ t, hu, h => wpAny_pyHash_str (by rw [hashD, drawsD] at h; exact h)
  | .tup ds, _, A, s, Q, .tup (a := a) (items := items) ho hc hd r, hu, h => by
    have hu' : A.units + (Dt.dps ds + 1) < cLine := by simpa only [Dt.dp] using hu
    refine pyHash_slot (T := "tuple") ⟨_, ho, hc⟩ F.slot_tuple_hash F.entry_tuple_hash (F.args_tuple_hash_1 _) (beq_builtin_none _) (.inr (by omega)) ?_
    show wpAny _ _ (Builtin.Tuple.tupleItemsOf (.ref a) >>= _) _ _ s
    refine wpAny_bind (wpAny_tupleItemsOf ho hd ?_)
    refine wpAny_bind ?_
    rw [← Array.forIn_toList]
    refine hashLoop_X ds items.toList A.in1 s #[] _ r (by simp only [Around.in1_units]; omega) fun b hb => ?_
    show wpAny _ _ (retInt (Builtin.Tuple.tupleHashOf b.toList)) _ _ _
    rw [hb]
    exact wpAny_bind (wpAny_mkInt (wpAny_pure ⟨_, _, rfl, by rw [hashD, drawsD, ← Nat.add_assoc] at h; exact h⟩))
theorem hashLoop_X : ∀ (ds : List Dt) (vs : List Value) (A : Around) (s : Shared) (b : Array Int) (Q : Array Int → Shared → Prop), DatHs s.heap vs ds → A.units + Dt.dps ds < cLine →
    (∀ b', b'.toList = b.toList ++ hashDs w ds → Q b' { s with toks := s.toks + drawsDs ds }) →
    wpAny (model prog w) A (forIn vs b fun x r => do let h ← pyHash x; pure PUnit.unit; pure (ForInStep.yield (r.push h))) Q E s
  | [], _, A, s, b, Q, .nil, _, h => wpAny_pure (h b (by simp [hashDs]))
  | d :: ds, _, A, s, b, Q, .cons q t, hu, h => by
    simp only [Dt.dps] at hu
    rw [List.forIn_cons]
    refine wpAny_bind (wpAny_bind (pyHash_X d _ A s _ q (by omega) ?_))
    refine wpAny_bind (wpAny_pure (wpAny_pure ?_))
    refine hashLoop_X ds _ A _ _ Q t (by omega) fun b' hb => ?_
    have := h b' (by simp [hb, hashDs])
    rw [drawsDs, ← Nat.add_assoc] at this
    exact this
end
end
mutual
theorem DatH.but {h h' : Heap} {c : Addr} {o : Obj} {es : Array DictEntry} {ep : Nat} (ho : h.get? c = some o) (hd : o.data = .dict es ep) (k : Heap.SameBut c h h') : ∀ {d : Dt} {v : Value}, DatH h v d → DatH h' v d
  | _, _, .int i t => .int i t
  | _, _, .str x t => .str x t
  | .tup ds, _, .tup (a := a) ho' hc hd' r => .tup (k.extBut _ _ (fun z => by
      rw [z, ho] at ho'
      cases ho'
      rw [hd] at hd'
      cases hd') ho') hc hd' (DatHs.but ho hd k r)
theorem DatHs.but {h h' : Heap} {c : Addr} {o : Obj} {es : Array DictEntry} {ep : Nat} (ho : h.get? c = some o) (hd : o.data = .dict es ep) (k : Heap.SameBut c h h') : ∀ {ds : List Dt} {vs : List Value}, DatHs h vs ds → DatHs h' vs ds
  | [], _, .nil => .nil
  | d :: ds, _, .cons q t => .cons (DatH.but ho hd k q) (DatHs.but ho hd k t)
end
def dtKind (prog : Program) (w : World) : HeapKind prog w Dt where
  is := fun h d a => DatH h (.ref a) d ∧ d.dp ≤ 8
  hash := hashD w
  draws := drawsD
  room := fun A => A.units + 9 < cLine
  inj := fun hx hy => DatH.inj hx.1 hy.1
  keeps := fun x ho hd hs => ⟨x.1.but ho hd hs, x.2⟩
  pyHash := fun hu hk h => pyHash_X _ _ _ _ _ hk.1 (by have := hk.2; omega) h
  eqBool := fun {A E s x y a b Q} hu hx hy h => eqAt_H A hx.1 hy.1 (by have := hx.2; omega) _ _ _ _ (by rw [← Dt.dec_eq]; exact h)
  quiet := fun hk h => quiet_D _ _ 8 _ _ _ hk.1 hk.2 h
end BF
namespace BF
open PySem PySem.Spec PyProof.Rows L2
def DicPart (P : Program) (w : World) (h : Heap) (D : Addr) (xs : List (Dt × Addr × Value)) : Prop := ∃ o es ep, h.get? D = some o ∧ o.ExactDict ∧ o.data = .dict es ep ∧ es.toList = xs.map (entryOfKey (dtKind P w)) ∧ (xs.map (·.1)).Nodup
theorem DicPart.full {P : Program} {w : World} {h : Heap} {D : Addr} {xs : List (Dt × Addr × Value)} (p : DicPart P w h D xs) (k : ∀ x ∈ xs, DatH h (.ref x.2.1) x.1 ∧ x.1.dp ≤ 8) : h.DictOfH (dtKind P w) D xs := by
  obtain ⟨o, es, ep, a, b, c, d, e⟩ := p
  exact ⟨o, es, ep, a, b, c, d, k, e⟩
theorem DicPart.of {P : Program} {w : World} {h : Heap} {D : Addr} {xs : List (Dt × Addr × Value)} (p : h.DictOfH (dtKind P w) D xs) : DicPart P w h D xs := by
  obtain ⟨o, es, ep, a, b, c, d, _, e⟩ := p
  exact ⟨o, es, ep, a, b, c, d, e⟩
theorem DicPart.keep {P : Program} {w : World} {h h' : Heap} {D : Addr} {xs : List (Dt × Addr × Value)} (p : DicPart P w h D xs) (k : ∀ o, h.get? D = some o → h'.get? D = some o) : DicPart P w h' D xs := by
  obtain ⟨o, es, ep, a, b, c, d, e⟩ := p
  exact ⟨o, es, ep, k o a, b, c, d, e⟩
theorem storedH_len (xs : List (Dt × Addr × Value)) (k : Dt) (a : Addr) (v : Value) : (storedH xs k a v).length ≤ xs.length + 1 := by
  unfold storedH
  split
  · rw [List.length_map]; omega
  · rw [List.length_append]; exact Nat.le_refl _
theorem storedH_mem {xs : List (Dt × Addr × Value)} {k : Dt} {a : Addr} {v : Value} {x : Dt × Addr × Value} (h : x ∈ storedH xs k a v) : (x.1 = k ∧ x.2.1 = a) ∨ ∃ y ∈ xs, x.1 = y.1 ∧ x.2.1 = y.2.1 := by
  unfold storedH at h
  split at h
  · obtain ⟨y, hy, rfl⟩ := List.mem_map.mp h
    right
    refine ⟨y, hy, ?_⟩
    unfold putAt
    split <;> exact ⟨rfl, rfl⟩
  · rcases List.mem_append.mp h with h | h
    · exact .inr ⟨x, h, rfl, rfl⟩
    · rw [List.mem_singleton] at h
      rw [h]
      exact .inl ⟨rfl, rfl⟩
theorem atKey_mem (xs : List (Dt × Addr × Value)) (k : Dt) : (atKey xs k).isSome = true ↔ k ∈ xs.map (·.1) := by
  unfold atKey
  rw [Option.isSome_map, List.find?_isSome]
  constructor
  · rintro ⟨x, hx, h⟩
    exact List.mem_map.mpr ⟨x, hx, of_decide_eq_true h⟩
  · intro h
    obtain ⟨x, hx, rfl⟩ := List.mem_map.mp h
    exact ⟨x, hx, decide_eq_true rfl⟩
section
variable {prog : Program} {w : World} {A : Around} {R : Result → Shared → Prop} {I : Addr} {fp wr : List Addr} {St : Nat → Heap → Prop}
end
end BF
namespace BF
open PySem PySem.Spec PyProof.Rows L2
def dicO (P : Program) (w : World) (a : Addr) (xs : List (Dt × Addr × Value)) : HO := .ext fun h => DicPart P w h a xs
structure DicH (P : Program) (w : World) (H : Hp) (a : Addr) (xs : List (Dt × Addr × Value)) : Prop where
  at_ : H a = some (dicO P w a xs)
  sys : (a == sysModules) = false
  len : xs.length ≤ 1000
  key : ∀ x ∈ xs, DtIs H (.ref x.2.1) x.1 ∧ x.1.dp ≤ 8
theorem DicH.same {P : Program} {w : World} {H H' : Hp} {a : Addr} {xs : List (Dt × Addr × Value)} (d : DicH P w H a xs) (s : Same H H') : DicH P w H' a xs :=
  ⟨s _ _ d.at_, d.sys, d.len, fun x hx => ⟨(d.key x hx).1.same s, (d.key x hx).2⟩⟩
section
variable {X : Cx} {pins : List (Addr × Obj)} {σ : L2.St} {H : Hp} {s : Shared}
theorem dicH_of {a : Addr} {xs : List (Dt × Addr × Value)} (I : Inv X pins σ H s) (d : DicH X.prog X.w H a xs) : s.heap.DictOfH (dtKind X.prog X.w) a xs := by
  have ok := I.hok a _ d.at_
  exact DicPart.full ok.1 fun x hx => ⟨datH_of I (d.key x hx).1 rfl, (d.key x hx).2⟩
end
section
variable {X : Cx}
def rNotInD (P : Program) (w : World) : R2 := fun x y H Q => ∃ (b a : Addr) (d : Dt) (xs : List (Dt × Addr × Value)), x = .ref b ∧ y = .ref a ∧ DtIs H (.ref b) d ∧ d.dp ≤ 8 ∧ DicH P w H a xs ∧ Q (.bl (!decide (d ∈ xs.map (·.1)))) H
theorem op_notInD {k : Nat} (hr : Room k X.A) : OpR X (compareOp .NotIn) (rNotInD X.prog X.w) := by
  intro pins s σ H x y v u Q I rx ry h
  obtain ⟨b, a, d, xs, rfl, rfl, hd, h8, hdic, q⟩ := h
  have hu := hr.units
  cases rx
  cases ry
  refine wpAny_notIn_heap (knd := dtKind X.prog X.w) (k := d) (by show X.A.units + 1 + 9 < cLine; omega) ⟨datH_of I hd rfl, h8⟩ hdic.sys (dicH_of I hdic) ?_
  have e : (atKey xs d).isSome = decide (d ∈ xs.map (·.1)) := by
    cases hs : (atKey xs d).isSome with
    | true => exact (decide_eq_true ((atKey_mem xs d).mp hs)).symm
    | false => exact (decide_eq_false fun z => by rw [(atKey_mem xs d).mpr z] at hs; cases hs).symm
  rw [e]
  exact ⟨.bl _, H, I.tok _, rfl, q⟩
end
end BF
namespace BF
open PySem PySem.Spec PyProof.Rows L2
abbrev KD : List (Dt × V) → List (Dt × Addr × Value) → Prop := Paired fun (p : Dt × V) (q : Dt × Addr × Value) => p.1 = q.1 ∧ RelV p.2 q.2.2
theorem KD.val {kvs : List (Dt × V)} {xs : List (Dt × Addr × Value)} (r : KD kvs xs) (k : Dt) : RelO (valV kvs k) ((atKey xs k).map (·.2)) := by
  induction r with
  | nil => exact True.intro
  | @cons p q ps qs h t ih =>
    obtain ⟨h1, h2⟩ := h
    by_cases e : p.1 = k
    · have e' : q.1 = k := h1.symm.trans e
      have b : atKey (q :: qs) k = some q.2 := by simp [atKey, List.find?_cons, e']
      rw [valV_pos e, b]; exact h2
    · have e' : ¬ q.1 = k := fun z => e (h1.trans z)
      have b : atKey (q :: qs) k = atKey qs k := by simp [atKey, List.find?_cons, e']
      rw [valV_neg e, b]; exact ih
theorem KD.repl {kvs : List (Dt × V)} {xs : List (Dt × Addr × Value)} (r : KD kvs xs) (k : Dt) {y : V} {u : Value} (ry : RelV y u) : KD (kvs.map fun kv => if kv.1 = k then (kv.1, y) else kv) (xs.map (putAt k u)) := by
  induction r with
  | nil => exact .nil
  | @cons p q ps qs h t ih =>
    rw [List.map_cons, List.map_cons]
    refine .cons ?_ ih
    obtain ⟨h1, h3⟩ := h
    unfold putAt
    by_cases e : p.1 = k
    · rw [if_pos e, if_pos (h1.symm.trans e)]; exact ⟨h1, ry⟩
    · rw [if_neg e, if_neg (fun z => e (h1.trans z))]; exact ⟨h1, h3⟩
theorem KD.put {kvs : List (Dt × V)} {xs : List (Dt × Addr × Value)} (r : KD kvs xs) (k : Dt) {b : Addr} {y : V} {u : Value} (ry : RelV y u) : KD (putK kvs k y) (storedH xs k b u) := by
  have e : (kvs.any fun kv => decide (kv.1 = k)) = (atKey xs k).isSome := by
    rw [valV_any, (r.val k).isSome_eq, Option.isSome_map]
  unfold putK storedH
  rw [e]
  by_cases q : (atKey xs k).isSome = true
  · rw [if_pos q, if_pos q]; exact r.repl k ry
  · rw [if_neg q, if_neg q]; exact Paired.snoc r ⟨rfl, ry⟩
def DicV (P : Program) (w : World) (H : Hp) (a : Addr) (kvs : List (Dt × V)) : Prop := ∃ xs, DicH P w H a xs ∧ KD kvs xs
theorem DicV.same {P : Program} {w : World} {H H' : Hp} {a : Addr} {kvs : List (Dt × V)} (d : DicV P w H a kvs) (s : Same H H') : DicV P w H' a kvs := by
  obtain ⟨xs, h, r⟩ := d
  exact ⟨xs, h.same s, r⟩
theorem DicV.ext {P : Program} {w : World} {H : Hp} {a : Addr} {kvs : List (Dt × V)} (d : DicV P w H a kvs) : ∃ φ, H a = some (.ext φ) := by
  obtain ⟨xs, h, _⟩ := d
  exact ⟨_, h.at_⟩
mutual
theorem DtIs.updX {H : Hp} {a : Addr} {φ : Heap → Prop} {o : HO} (ha : H a = some (.ext φ)) : ∀ {d : Dt} {v : V}, DtIs H v d → DtIs (upd H a o) v d
  | .int i, _, .int _ => .int i
  | .str x, _, .str _ => .str x
  | .tup ds, _, .tup (a := b) e q => .tup (by
      have : b ≠ a := fun z => by rw [z, ha] at e; cases e
      rw [upd_ne this]; exact e) (DtsIs.updX ha q)
theorem DtsIs.updX {H : Hp} {a : Addr} {φ : Heap → Prop} {o : HO} (ha : H a = some (.ext φ)) : ∀ {ds : List Dt} {vs : List V}, DtsIs H vs ds → DtsIs (upd H a o) vs ds
  | [], _, .nil => .nil
  | d :: ds, _, .cons q t => .cons (DtIs.updX ha q) (DtsIs.updX ha t)
end
section
variable {X : Cx}
def tDNewD (P : Program) (w : World) : TE := fun _ H Q => ∀ a o, H a = none → DicV P w (upd H a o) a [] → Q (.ref a) (upd H a o)
theorem pe_dnewD {pos : Pos} : PE X (.Dict [] [] pos) (tDNewD X.prog X.w) := fun pins s σ H Q I h => by
  have fr := I.hok.fresh (Nat.le_refl s.heap.objs.size)
  have dp : DicPart X.prog X.w (s.heap.push { cls := .type "dict", data := .dict #[] }) s.heap.objs.size [] := .of (Heap.DictOfH.new s.heap)
  refine wpAny_Dict_empty ⟨.ref s.heap.objs.size, _, I.laid (a := s.heap.objs.size) (o := dicO X.prog X.w s.heap.objs.size []) (t' := s.toks) (fun _ _ q => Heap.get?_push_of_some _ q) (Nat.le_refl _) ⟨dp, ⟨_, Heap.get?_push_size _ rfl⟩, fun h1 h2 p1 k => p1.keep k⟩, rfl, h _ _ fr ⟨[], ⟨upd_same, ?_, Nat.zero_le _, fun _ hx => nomatch hx⟩, .nil⟩⟩
  exact beq_eq_false_iff_ne.mpr (Nat.ne_of_gt I.big)
def tDGetD (P : Program) (w : World) (td ty : TE) : TE := fun σ H Q => td σ H fun x H1 => ty σ H1 fun y H2 => ∃ a b d kvs v, x = .ref a ∧ y = .ref b ∧ DtIs H2 (.ref b) d ∧ d.dp ≤ 8 ∧ DicV P w H2 a kvs ∧ valV kvs d = some v ∧ Q v H2
theorem pe_dgetD {k : Nat} {o i : Expr} {td ty : TE} {pos : Pos} (hr : Room k X.A) (ho : PE X o td) (hi : PE X i ty) (hs : NoSl i) : PE X (.Subscript o i pos) (tDGetD X.prog X.w td ty) := by
  intro pins s σ H Q I h
  have hu := hr.units
  refine subD_of PySem.F.slot_dict_getitem.lookup hs (thn (ho pins s σ H _ I h) fun u s1 ⟨x, H1, I1, rx, q1⟩ => thn (hi pins s1 σ H1 _ I1 q1) fun iv s2 ⟨y, H2, I2, ry, a, b, d, kvs, v, ex, ey, hd, h8, ⟨xs, dic, r⟩, hv, q2⟩ => ?_)
  subst ex ey
  obtain rfl : u = Value.ref a := rx
  obtain rfl : iv = Value.ref b := ry
  have full := dicH_of I2 dic
  have rel := r.val d
  rw [hv] at rel
  cases hk : atKey xs d with
  | none => rw [hk] at rel; exact absurd rel id
  | some p =>
    rw [hk] at rel
    refine ⟨full.typeIs, wpAny_getItem_heap (knd := dtKind X.prog X.w) (by show X.A.units + 1 + 9 < cLine; omega) ⟨datH_of I2 hd rfl, h8⟩ full hk ⟨v, H2, I2.tok _, rel, q2⟩⟩
def sDPutD (P : Program) (w : World) (td ty tv : TE) : TS := fun D σ H => tv σ H fun v H1 => td σ H1 fun x H2 => ty σ H2 fun y H3 => ∃ a b d kvs, x = .ref a ∧ y = .ref b ∧ DtIs H3 (.ref b) d ∧ d.dp ≤ 8 ∧ DicV P w H3 a kvs ∧ kvs.length < 1000 ∧
  ∀ o, DicV P w (upd H3 a o) a (putK kvs d v) → D.nx σ (upd H3 a o)
theorem ps_dputD {k : Nat} {o i value : Expr} {td ty tv : TE} {pos' pos : Pos} (hr : Room k X.A) (ho : PE X o td) (hi : PE X i ty) (hv : PE X value tv) (hs : swapsWith value (some (.Subscript o i pos')) pos.line X.env = pure false) :
    PS X (.Assign [.Subscript o i pos'] value pos) (sDPutD X.prog X.w td ty tv) := by
  intro pins s σ H D I h
  have hu := hr.units
  refine wpAny_Assign_Subscript (thn (hv pins s σ H _ I h) fun r s1 ⟨v, H1, I1, rv, q1⟩ => thn (ho pins s1 σ H1 _ I1 q1) fun u s2 ⟨x, H2, I2, rx, q2⟩ => thn (hi pins s2 σ H2 _ I2 q2) fun iv s3 ⟨y, H3, I3, ry, a, b, d, kvs, ex, ey, hd, h8, ⟨xs, dic, rel⟩, hl, q3⟩ => ?_) hs
  subst ex ey
  obtain rfl : u = Value.ref a := rx
  obtain rfl : iv = Value.ref b := ry
  have full := dicH_of I3 dic
  have xl : xs.length < 1000 := by rw [← Paired.length rel]; exact hl
  refine wpAny_setItem_heap (knd := dtKind X.prog X.w) (k := d) (by show X.A.units + 1 + 9 < cLine; omega) ⟨datH_of I3 hd rfl, h8⟩ full (fun h' dd' hsb => ?_) (sz (by omega))
  have dp : DicPart X.prog X.w h' a (storedH xs d b r) := .of dd'
  refine ⟨σ, upd H3 a (dicO X.prog X.w a (storedH xs d b r)), d_write I3 (by rw [dic.at_]; exact True.intro) hsb (let ⟨q, _, _, hq, _⟩ := dd'; ⟨q, hq⟩) ⟨dp, (let ⟨q, _, _, hq, _⟩ := dd'; ⟨q, hq⟩), fun h1 h2 p1 k => p1.keep k⟩, q3 _ ⟨_, ⟨upd_same, dic.sys, ?_, fun z hz => ?_⟩, rel.put d rv⟩⟩
  · exact Nat.le_trans (storedH_len _ _ _ _) (by omega)
  · rcases storedH_mem hz with ⟨z1, z2⟩ | ⟨y, hy, z1, z2⟩
    · rw [z1, z2]; exact ⟨DtIs.updX dic.at_ hd, h8⟩
    · rw [z1, z2]; exact ⟨DtIs.updX dic.at_ (dic.key y hy).1, (dic.key y hy).2⟩
end
end BF
namespace BF
open PySem PySem.Spec PyProof.Rows L2 PySem.SeqAt
def Rows' (H : Hp) (xs : List V) (dss : List (List Dt)) : Prop := xs.length = dss.length ∧ ∀ (i : Nat) x ds, xs[i]? = some x → dss[i]? = some ds → ∃ a ys, x = .ref a ∧ H a = some (.lst ys) ∧ DtsIs H ys ds ∧ ∀ d ∈ ds, d.dp ≤ 40
section
variable {X : Cx} {pins : List (Addr × Obj)} {σ : L2.St} {H : Hp} {s : Shared}
theorem listEqAt (I : Inv X pins σ H s) (A : Around) {a b : Addr} {xs ys : List V} {ds es : List Dt} (hx : H a = some (.lst xs)) (hy : H b = some (.lst ys)) (hd : DtsIs H xs ds) (he : DtsIs H ys es) (h5 : ∀ d ∈ ds, d.dp ≤ 40) (hu : A.units + 45 < cLine) :
    EqAt A s (.ref a) (.ref b) (Dt.beqs ds es) := by
  by_cases hab : a = b
  · subst hab
    rw [hx] at hy
    cases hy
    have : ds = es := by
      obtain ⟨its, rv, _, _⟩ := I.list (SqL.of hx)
      exact DatHs.inj (datHs_of I hd rv) (datHs_of I he rv)
    rw [this, Dt.beqs_self]
    exact EqAt.same _
  · have h5' := dps_le h5
    obtain ⟨its, rv, p, _⟩ := I.list (SqL.of hx)
    obtain ⟨its', rv', p', _⟩ := I.list (SqL.of hy)
    have n1 : its.toArray.size = ds.length := by rw [List.size_toArray, ← rv.length, hd.length]
    have n2 : its'.toArray.size = es.length := by rw [List.size_toArray, ← rv'.length, he.length]
    have fin : ∀ c, c = Dt.beqs ds es → RcAt A s (.ref a) (.ref b) c → EqAt A s (.ref a) (.ref b) (Dt.beqs ds es) := fun c hc R => hc ▸ EqAt.of_refs hab R
    by_cases hl : ds.length = es.length
    · have R := RcAt.lists (A := A) (s := s) (e := itEq ds es) p.isList p'.isList (by rw [n1, n2, hl]) (by omega) (fun j j1 j2 => eqsAt_D I A.in1 hd rv he rv' (by show A.units + 1 + _ < _; omega) j _ _ (by simp) (by simp))
      refine fin _ ?_ R
      rw [n1, ← all_itEq, hl, Nat.min_self]
      simp
    · refine fin false ?_ (RcAt.lists_lengths p.isList p'.isList (by rw [n1, n2]; simpa using hl) (by omega))
      rw [← all_itEq]
      simp [hl]
end
section
variable {X : Cx}
end
end BF
namespace BF
open PySem PySem.Spec PyProof.Rows L2
def DRaw (h : Heap) (d : Addr) (ks : List Value) (ep : Nat) : Prop := ∃ o es, h.get? d = some o ∧ o.ExactDict ∧ o.data = .dict es ep ∧ es.toList.map (·.key) = ks
theorem DRaw.at' {h h' : Heap} {d : Addr} {ks : List Value} {ep : Nat} (q : DRaw h d ks ep) (k : ∀ o, h.get? d = some o → h'.get? d = some o) : DRaw h' d ks ep := let ⟨o, es, ho, r⟩ := q; ⟨o, es, k o ho, r⟩
theorem DRaw.lt {h : Heap} {d : Addr} {ks : List Value} {ep : Nat} (q : DRaw h d ks ep) : d < h.objs.size := let ⟨_, _, ho, _⟩ := q; Heap.lt_size ho
theorem DRaw.typeIs {s : Shared} {d : Addr} {ks : List Value} {ep : Nat} (q : DRaw s.heap d ks ep) : s.TypeIs (.ref d) "dict" := let ⟨o, _, ho, hc, _⟩ := q; ⟨o, ho, hc.1⟩
section
variable {P : Program} {w : World} {A : Around} {E : Value → Shared → Prop} {s : Shared} {d it : Addr} {ks : List Value} {ep n : Nat}
theorem drw_iter {Q : Value → Shared → Prop} (hd : (d == sysModules) = false) (q : DRaw s.heap d ks ep)
    (z : Q (.ref s.heap.objs.size) { s with heap := s.heap.push { cls := .type "dict_keyiterator", data := .fields #[.ref d, .int 0 0, .int ks.length 0, .int ep 0] } }) : wpAny (model P w) A (pyIter (.ref d)) Q E s := by
  obtain ⟨o, es, ho, hc, dat, ek⟩ := id q
  have ty := q.typeIs
  refine wpAny_pyIter_slot ty F.slot_dict_iter (wpAny_call_entry F.slot_dict_iter ty F.entry_dict_iter ?_ (F.args_dict_iter_1 _))
  unfold Builtin.«dict.__iter__»; refine wpAny_bind ?_; unfold Builtin.Dict.dictSlotNone; refine wpAny_bind (wpAny_notOrdered_dict ty ?_)
  show wpAny _ _ (pure (Value.ref d)) _ _ _
  refine wpAny_pure ?_; show wpAny _ _ (Builtin.Dict.showsAll d >>= _) _ _ _; unfold Builtin.Dict.showsAll
  rw [if_neg (fun e => by rw [hd] at e; cases e)]
  refine wpAny_bind (wpAny_pure (wpAny_bind (wpAny_dictEntries ho dat (wpAny_bind (wpAny_dictEpoch ho dat ?_)))))
  have hn : es.size = ks.length := by rw [← ek, List.length_map, Array.length_toList]
  refine wpAny_bind (wpAny_newObj_type (wpAny_pure ⟨_, rfl, "dict_keyiterator", _, ⟨_, Heap.get?_push_size _ rfl, rfl⟩, F.slot_dict_keyiterator_next.lookup, by simpa [rawInt, hn] using z⟩))
theorem drw_item {u : Value} {Q : Option Value → Shared → Prop} (ik : s.heap.IsKeyIter it d n ks.length ep) (q : DRaw s.heap d ks ep) (hu : ks[n]? = some u)
    (z : ∀ h', h'.IsKeyIter it d (n + 1) ks.length ep → Heap.SameBut it s.heap h' → Q (some u) { s with heap := h' }) : wpAny (model P w) A (pyNext (.ref it)) Q E s := by
  obtain ⟨o, ho, hc, dat⟩ := id ik
  obtain ⟨od, es, hod, hcd, dd, ek⟩ := id q
  have hn : es.size = ks.length := by rw [← ek, List.length_map, Array.length_toList]
  unfold pyNext
  refine wpAny_bind (wpAny_attempt (wpAny_callSpecial?_slot (name := Str.ofString "__next__") ik.typeIs F.slot_dict_keyiterator_next (wpAny_call_entry F.slot_dict_keyiterator_next ik.typeIs F.entry_dict_keyiterator_next ?_ (F.args_dict_keyiterator_next_1 _))))
  refine wpAny_bind (wpAny_pure (wpAny_bind (wpAny_bind ?_)))
  first | refine wpAny_bind (wpAny_typeNameOfWhole_keyiter ik.typeIs (wpAny_pure ?_)) | refine wpAny_bind (wpAny_typeNameOf_keyiter ik.typeIs (wpAny_pure ?_))
  refine wpAny_bind (wpAny_fieldsOf ho dat ?_)
  have own : Builtin.Dict_items.ownsTuple "dict_keyiterator" = false := by decide
  simp only [own, Bool.false_eq_true, if_false]
  show wpAny _ _ (if (Value.ref d == Value.none) = true then _ else _) _ _ _
  rw [if_neg (fun e : (Value.ref d == Value.none) = true => Bool.false_ne_true e)]
  refine wpAny_bind (wpAny_pure (wpAny_bind (wpAny_dictEntries hod dd ?_)))
  rw [if_neg (by rw [hn]; simp)]
  refine wpAny_bind (wpAny_pure (wpAny_bind (wpAny_dictEpoch hod dd ?_)))
  rw [if_neg (by simp)]; refine wpAny_pure ?_
  have lt : n < es.size := by rw [hn]; exact (List.getElem?_eq_some_iff.mp hu).1
  have key : es[n].key = u := by
    rw [← ek, List.getElem?_map, Array.getElem?_toList, Array.getElem?_eq_getElem lt] at hu
    exact Option.some.inj hu
  simp only [show ¬ ((n : Int) < 0) from by omega, if_false, Int.toNat_natCast, Array.getElem?_eq_getElem lt]
  refine wpAny_bind ?_; first | refine wpAny_bind (wpAny_typeNameOfWhole_keyiter ik.typeIs (wpAny_pure ?_)) | refine wpAny_bind (wpAny_typeNameOf_keyiter ik.typeIs (wpAny_pure ?_))
  refine wpAny_bind (wpAny_isOneOf_keyiter ik.typeIs ?_)
  show wpAny _ _ (setField (.ref it) 1 (rawInt ((n : Int) + 1)) >>= _) _ _ s
  refine wpAny_bind (wpAny_setField ho dat (by simp) ?_)
  have ik' : (s.heap.update it (Obj.mapFields (·.setIfInBounds 1 (rawInt ((n : Int) + 1))))).IsKeyIter it d (n + 1) ks.length ep :=
    ⟨_, Heap.get?_update_self _ ho (Obj.isFreed_of_fields (Obj.data_mapFields dat _)), (Obj.cls_mapFields ..).trans hc, by rw [Obj.data_mapFields dat]; simp [rawInt]⟩
  refine wpAny_bind (wpAny_holding (wpAny_bind (wpAny_isOneOf_keyiter (s := { s with heap := s.heap.update it (Obj.mapFields (·.setIfInBounds 1 (rawInt ((n : Int) + 1)))) }) ik'.typeIs ?_)))
  show wpAny _ _ (pure es[n].key) _ _ _
  rw [key]
  exact wpAny_pure (wpAny_pure ⟨_, rfl, wpAny_pure (z _ ik' (Heap.SameBut.update ..))⟩)
theorem drw_end {Q : Option Value → Shared → Prop} (hh : A.handled = none) (ik : s.heap.IsKeyIter it d n ks.length ep) (q : DRaw s.heap d ks ep) (hu : ks[n]? = none)
    (z : ∀ h', Heap.ExtBut it s.heap h' → Q none { s with heap := h' }) : wpAny (model P w) A (pyNext (.ref it)) Q E s := by
  obtain ⟨o, ho, hc, dat⟩ := id ik
  obtain ⟨od, es, hod, hcd, dd, ek⟩ := id q
  have hn : es.size = ks.length := by rw [← ek, List.length_map, Array.length_toList]
  unfold pyNext
  refine wpAny_bind (wpAny_attempt (wpAny_callSpecial?_slot (name := Str.ofString "__next__") ik.typeIs F.slot_dict_keyiterator_next (wpAny_call_entry F.slot_dict_keyiterator_next ik.typeIs F.entry_dict_keyiterator_next ?_ (F.args_dict_keyiterator_next_1 _))))
  refine wpAny_bind (wpAny_pure (wpAny_bind (wpAny_bind ?_)))
  first | refine wpAny_bind (wpAny_typeNameOfWhole_keyiter ik.typeIs (wpAny_pure ?_)) | refine wpAny_bind (wpAny_typeNameOf_keyiter ik.typeIs (wpAny_pure ?_))
  refine wpAny_bind (wpAny_fieldsOf ho dat ?_)
  have own : Builtin.Dict_items.ownsTuple "dict_keyiterator" = false := by decide
  simp only [own, Bool.false_eq_true, if_false]
  show wpAny _ _ (if (Value.ref d == Value.none) = true then _ else _) _ _ _
  rw [if_neg (fun e : (Value.ref d == Value.none) = true => Bool.false_ne_true e)]
  refine wpAny_bind (wpAny_pure (wpAny_bind (wpAny_dictEntries hod dd ?_)))
  rw [if_neg (by rw [hn]; simp)]
  refine wpAny_bind (wpAny_pure (wpAny_bind (wpAny_dictEpoch hod dd ?_)))
  rw [if_neg (by simp)]; refine wpAny_pure ?_
  have ge : es.size ≤ n := by rw [hn]; simpa using hu
  simp only [show ¬ ((n : Int) < 0) from by omega, if_false, Int.toNat_natCast, Array.getElem?_eq_none ge]
  refine wpAny_bind ?_; first | refine wpAny_bind (wpAny_typeNameOfWhole_keyiter ik.typeIs (wpAny_pure ?_)) | refine wpAny_bind (wpAny_typeNameOf_keyiter ik.typeIs (wpAny_pure ?_))
  show wpAny _ _ (setField (.ref it) 0 .none >>= _) _ _ s
  refine wpAny_bind (wpAny_setField ho dat (by simp) ?_)
  show wpAny _ _ (newExc (.type "StopIteration") [] >>= _) _ _ (_ : Shared)
  refine wpAny_bind ?_; simp only [newExc, newTuple]; refine wpAny_bind (wpAny_newObj_type ?_ (by size_fits)); refine wpAny_bind (m := firstArgMember _ _) (wpAny_of_eq (a := Value.none) (by first | rfl | (simp only [firstArgMember]; rfl)) ?_)
  refine wpAny_newObj_type ?_ (by size_fits); simp only [raiseNew]; refine wpAny_bind (wpAny_handled ?_)
  first | rw [show A.in1.handled = none from hh] | rw [hh]
  refine wpAny_bind (wpAny_pure (wpAny_throw ?_))
  exact wpAny_bind (wpAny_isInstance (T := "StopIteration") (b := true) ⟨_, Heap.get?_push_size _ rfl, rfl⟩ isSubtype_stop (wpAny_pure (z _ (((Heap.SameBut.update ..).extBut.push _).push _))))
theorem walks_drw (hh : A.handled = none) (I d : Addr) (ne : d ≠ I) (ks : List Value) (ep : Nat) :
    Walks P w A I [I, d] [I] ks.length (fun i v => ks[i]? = some v) (fun i h => h.IsKeyIter I d i ks.length ep ∧ DRaw h d ks ep) where
  sub := fun b hb => by simp at hb; simp [hb]
  frame := fun _ _ _ st k => ⟨st.1.at fun o e => k I (by simp) o e, st.2.at' fun o e => k d (by simp) o e⟩
  item := fun i s Q E hi st z => by
    refine drw_item st.1 st.2 (List.getElem?_eq_getElem hi) fun h' ik sb => ?_
    exact z _ h' s.toks (List.getElem?_eq_getElem hi) ⟨ik, st.2.at' fun o e => sb.extBut _ _ ne e⟩ fun b o hb e => sb.extBut b o (fun t => hb (by simp [t])) e
  done := fun s Q E st z => drw_end hh st.1 st.2 (by simp) fun h' sb => z h' s.toks fun b o hb e => sb b o (fun t => hb (by simp [t])) e
  self := fun _ _ _ _ st z => wpAny_pyIter_keyiter st.1 z
theorem src_drw (lo : (d == sysModules) = false) : PySem.W.KdlSrc P w "dict" d d ks.length (fun i v => ks[i]? = some v) (fun h => DRaw h d ks ep) where
  type := fun _ q => q.typeIs
  there := fun _ q => ⟨q.lt, q.lt⟩
  keep := fun _ _ q k => q.at' fun o e => k d (.inl rfl) o e
  notList := by decide
  notTuple := by decide
  hint := fun _ _ _ _ q z => PySem.W.kdl_hint_dict q.typeIs z
  iter := fun _ _ hh q => ⟨_, _, (fun _ _ z => drw_iter lo q z), walks_drw hh _ d (Nat.ne_of_lt q.lt) ks ep, ⟨⟨_, Heap.get?_push_size _ rfl, rfl, rfl⟩, q.at' fun o e => Heap.get?_push_of_some _ e⟩⟩
theorem items_eq {P' : Nat → Value → Prop} {acc : Array Value} (h : ItemsOf (fun i v => ks[i]? = some v) acc ks.length) : acc.toList = ks := by
  obtain ⟨h1, h2⟩ := h
  apply List.ext_getElem?
  intro i
  by_cases hi : i < ks.length
  · have := h2 i (acc[i]'(by omega)) (by simp [show i < acc.size by omega])
    rw [this, Array.getElem?_toList, Array.getElem?_eq_getElem (by omega)]
  · rw [List.getElem?_eq_none (by rw [Array.length_toList]; omega), List.getElem?_eq_none (by omega)]
theorem collect_drw (hh : A.handled = none) (lo : (d == sysModules) = false) (q : DRaw s.heap d ks ep) (hz : ks.length ≤ sizeLine) {Q : List Value → Shared → Prop}
    (k : ∀ (h' : Heap) tk, (∀ b o, s.heap.get? b = some o → h'.get? b = some o) → Q ks { s with heap := h', toks := tk }) : wpAny (model P w) A (collect (.ref d)) Q E s := by
  unfold collect
  refine wpAny_bind (wpAny_runValue (codeAny_builtin PySem.F.entry_proto_collect ?_))
  rw [Around.under_plainId PySem.F.plain_proto_collect _]
  have hlt := q.lt
  have g0 : (s.heap.push (seqObj "list" #[] 0)).get? s.heap.objs.size = some (seqObj "list" #[] 0) := Heap.get?_push_size _ rfl
  have q1 : DRaw (s.heap.push (seqObj "list" #[] 0)) d ks ep := q.at' fun o e => Heap.get?_push_of_some _ e
  show wpAny _ A.in1 (newList [] >>= fun b => again (.builtin "list.__iadd__" ⟨[b, .ref d], []⟩)) _ _ s
  refine wpAny_bind (wpAny_newList (wpAny_pure ⟨plainId_quiet PySem.F.plain_list_iadd _, codeAny_builtin PySem.F.entry_list_iadd ?_⟩))
  rw [Around.under_plainId PySem.F.plain_list_iadd _]
  show wpAny _ A.in1 (Builtin.List.listExtendWith (.ref s.heap.objs.size) (.ref d) (.ref s.heap.objs.size)) _ _ { s with heap := s.heap.push (seqObj "list" #[] 0) }
  have ne : s.heap.objs.size ≠ d := Ne.symm (Nat.ne_of_lt hlt)
  refine PySem.W.kdl_extend (R := fun r s' => match r with
    | .ok (.ret v) => wpAny (model P w) A (match v with
      | .ref a => do
        match (← load a).data with
        | .seq xs _ => pure xs.toList
        | _ => unsupported "internal:collect"
      | _ => unsupported "internal:collect") Q E s'
    | .ok _ => False
    | .error e => E e s') (s := { s with heap := s.heap.push (seqObj "list" #[] 0) }) (src_drw lo) hh q1 s.heap.objs.size ne ne (.ref s.heap.objs.size) 0 g0 (fun h' tk acc c kk gS it => ?_) hz
  show wpAny _ A (load s.heap.objs.size >>= _) _ _ _
  refine wpAny_bind (wpAny_load (s := { s with heap := h', toks := tk }) gS (wpAny_pure ?_))
  have e : acc.toList = ks := items_eq (P' := fun _ _ => True) it
  show Q acc.toList _
  rw [e]
  exact k h' tk fun b o eb => kk b o (fun t => by rw [t] at eb; exact absurd (Heap.lt_size eb) (Nat.lt_irrefl _)) (Heap.get?_push_of_some _ eb)
end
end BF
namespace BF
open PySem PySem.Spec PyProof.Rows L2 PySem.SeqAt
theorem KD.keys {kvs : List (Dt × V)} {xs : List (Dt × Addr × Value)} (r : KD kvs xs) : kvs.map (·.1) = xs.map (·.1) := by
  induction r with
  | nil => rfl
  | cons h _ ih => rw [List.map_cons, List.map_cons, ih, h.1]
theorem vals_refs (xs : List (Dt × Addr × Value)) : Vals (xs.map fun x => V.ref x.2.1) (xs.map fun x => Value.ref x.2.1) := by
  induction xs with
  | nil => exact .nil
  | cons x _ ih => exact .cons rfl ih
theorem dts_keys {P : Program} {w : World} {H : Hp} : ∀ {xs : List (Dt × Addr × Value)}, (∀ x ∈ xs, DtIs H (.ref x.2.1) x.1 ∧ x.1.dp ≤ 8) → DtsIs H (xs.map fun x => V.ref x.2.1) (xs.map (·.1))
  | [], _ => .nil
  | x :: xs, h => .cons (h x List.mem_cons_self).1 (dts_keys (P := P) (w := w) fun y hy => h y (List.mem_cons_of_mem _ hy))
section
variable {X : Cx}
theorem raw_of {pins : List (Addr × Obj)} {σ : L2.St} {H : Hp} {s : Shared} {a : Addr} {xs : List (Dt × Addr × Value)} (I : Inv X pins σ H s) (d : DicH X.prog X.w H a xs) : ∃ ep, DRaw s.heap a (xs.map fun x => Value.ref x.2.1) ep := by
  obtain ⟨o, es, ep, ho, hc, dat, ek, _⟩ := dicH_of I d
  refine ⟨ep, o, es, ho, hc, dat, ?_⟩
  rw [ek, List.map_map]
  rfl
theorem call_sortedD {k : Nat} (hr : Room k X.A) : CallR X (.builtin "sorted") (fun xs H Q => ∃ (a : Addr) (kvs : List (Dt × V)) (T : String), xs = [.ref a] ∧ DicV X.prog X.w H a kvs ∧ (∀ p ∈ kvs, ∃ e r, p.1 = .tup (e :: r) ∧ e.tag = T) ∧ (∀ p ∈ kvs, ∀ p' ∈ kvs, Dt.like p.1 p'.1 = true) ∧
    ∀ l zs es, H l = none → DtsIs H zs es → es.Perm (kvs.map (·.1)) → es.Pairwise (fun d d' => Dt.blt d' d = false) → Q (.ref l) (upd H l (.lst zs))) := by
  intro pins s σ H xs us Q I r h
  obtain ⟨a, kvs, T, rfl, ⟨ys, dic, kd⟩, hT, hL, q⟩ := h
  have hu := hr.units
  obtain ⟨u, rfl, rx⟩ := vals1 r
  cases rx
  obtain ⟨ep, raw⟩ := raw_of I dic
  have hk := kd.keys
  have kmem : ∀ d ∈ ys.map (·.1), ∃ p ∈ kvs, p.1 = d := fun d hd => by
    rw [← hk] at hd
    obtain ⟨p, hp, e⟩ := List.mem_map.mp hd
    exact ⟨p, hp, e⟩
  have dk := dts_keys (P := X.prog) (w := X.w) (H := H) dic.key
  refine Calls.call_function_entry kind_sorted plain_sorted entry_sorted (args_sorted1 _) ?_
  unfold Builtin.«sorted»
  refine wpAny_bind (m := checkCount "sorted" 1 1 _) (wpAny_pure (wpAny_bind (collect_drw (A := X.A.in1) (show X.A.in1.handled = none from hr.hd) dic.sys raw (by rw [List.length_map]; exact sz dic.len) fun h' tk kk => ?_)))
  have I2 : Inv X pins σ H { s with heap := h', toks := tk } := I.kept kk
  refine sort_tail (T := T) I2 (vals_refs ys) (by rw [List.length_map]; exact sz dic.len) dk (fun d hd => ?_) (fun d1 h1 d2 h2 => ?_) (fun d hd => ?_) fun l zz ez h3 pz dz pe srt hl J => ?_
  · obtain ⟨p, hp, rfl⟩ := kmem d hd
    exact hT p hp
  · obtain ⟨p1, hp1, rfl⟩ := kmem d1 h1
    obtain ⟨p2, hp2, rfl⟩ := kmem d2 h2
    exact hL p1 hp1 p2 hp2
  · obtain ⟨x, hx, rfl⟩ := List.mem_map.mp hd
    have := (dic.key x hx).2
    show X.A.units + 1 + 4 + _ < _
    omega
  · exact ⟨_, rfl, .ref l, upd H l (.lst zz), J, rfl, q l zz ez hl dz (by rw [hk]; exact pe) srt⟩
end
end BF
namespace BF
open PySem PySem.Spec PyProof.Rows L2
section
variable {X : Cx} {o e : Expr} {es : List Expr} {to : TE} {t : TA} {name : Str} {apos cpos : Pos} {id : String} {r : V → List V → Hp → VK → Prop}
def tBMD (P : Program) (w : World) (r : V → List V → Hp → VK → Prop) (to : TE) (t : TA) : TE := fun σ H Q => to σ H fun x H1 => (∃ a kvs, x = .ref a ∧ DicV P w H1 a kvs) ∧ t σ H1 fun xs H2 => r x xs H2 Q
theorem pe_bmD (slot : Slot "dict" name id) (hty : typeOf (.builtin id) = pure (.type "method_descriptor")) (hm : MtR X id r) (ho : PE X o to) (ha : PA X (e :: es) t)
    (hbase : attributeBase o name X.env (eval o X.env) = eval o X.env := by rfl)
    (hfew : ((backTo cpos (starEach (e :: es) X.env)).all (fun x => !x.1) && (backToKw cpos (keywordEach [] X.env)).all (fun x => x.1.isSome) && decide ((e :: es).length + ([] : List Keyword).length + (if ([] : List Keyword).isEmpty then 0 else 1) < 30)) = true := by rfl)
    (hline : (apos.endLine == cpos.line) = true := by rfl) (hs : starEach (e :: es) X.env = (false, eval e X.env) :: starEach es X.env := by rfl) (hplain : (backTo cpos (starEach es X.env)).any (·.1) = false := by rfl) :
    PE X (.Call (.Attribute o name apos) (e :: es) [] cpos) (tBMD X.prog X.w r to t) := by
  intro pins s σ H Q I h
  refine wpAny_Call_method_late hbase hfew hline rfl (thn (ho pins s σ H _ I h) fun v s1 ⟨x, H1, I1, r1, ⟨a, kvs, ex, ⟨xs, dic, _⟩⟩, q1⟩ => ?_)
  subst ex
  cases r1
  obtain ⟨ob, _, _, e1, ex, _⟩ := dicH_of I1 dic
  refine ⟨"dict", id, F.plainAttrs_dict, slot, hty, ⟨ob, e1, ex.1⟩, fun b e2 => by cases e2; exact ⟨ob, e1, ex.2.1⟩, ?_⟩
  have hA := ha cpos pins s1 σ H1 _ I1 q1
  rw [hs] at hA ⊢
  refine Calls.callWith_builtin (by show (false || (backTo cpos (starEach es X.env)).any (·.1)) = false; rw [hplain] <;> rfl) (Calls.evalArgs_plain (thn hA fun us s2 ⟨vs, H2, I2, r2, q2⟩ => hm pins s2 σ H2 (.ref a) vs (.ref a) us Q I2 rfl r2 q2))
end
section
variable {P : Program} {w : World} {A : Around} {E : Value → Shared → Prop} {s : Shared} {K : Type} [DecidableEq K] {knd : HeapKind P w K}
theorem setDef_heap {d a : Addr} {xs : List (K × Addr × Value)} {k : K} {v : Value} {Q : Value → Shared → Prop} (hu : knd.room A) (hkey : knd.is s.heap k a) (hm : s.heap.DictOfH knd d xs)
    (h1 : ∀ p, atKey xs k = some p → Q p.2 { s with toks := s.toks + knd.draws k })
    (h2 : atKey xs k = none → ∀ h', h'.DictOfH knd d (storedH xs k a v) → Heap.SameBut d s.heap h' → Q v { s with heap := h', toks := s.toks + knd.draws k }) (hsz : xs.length ≤ sizeLine) :
    wpAny (model P w) A (dictSetDefault d (.ref a) v) Q E s := by
  obtain ⟨o, es, ep, ho, hc, hd, he, his, hn⟩ := hm
  unfold dictSetDefault; try with_reducible refine wpAny_holding ?_
  refine wpAny_bind (knd.pyHash hu hkey (wpAny_bind (wpAny_dictFind_heap (s := { s with toks := s.toks + knd.draws k }) hu hkey ho hd he his hn (fun hno => ?_) fun j p hj => ?_)))
  · have hnot : k ∉ xs.map (·.1) := not_mem_keys_of_get hno
    refine wpAny_bind (wpAny_rule (wpAny_bind (wpAny_updateDictKeys (hz := by have e := size_of_entries he; omega) (s := { s with toks := s.toks + knd.draws k }) ho hd (wpAny_pure (h2 (atKey_none_of_get hno) _ ⟨_, _, ep + 1, Heap.get?_update_self _ ho (Obj.isFreed_of_dict (Obj.data_mapDictKeys hd _)), hc.mapDictKeys _, Obj.data_mapDictKeys hd _, ?_, fun x hx => ?_, ?_⟩ (Heap.SameBut.update ..))))))
    · rw [storedH_new (atKey_none_of_get hno)]; simp [he, entryOfKey]
    · rw [storedH_new (atKey_none_of_get hno)] at hx
      rcases List.mem_append.mp hx with hx | hx
      · exact knd.keeps (his x hx) ho hd (Heap.SameBut.update ..)
      · have e' := List.mem_singleton.mp hx
        subst e'
        exact knd.keeps hkey ho hd (Heap.SameBut.update ..)
    · rw [storedH_new (atKey_none_of_get hno), List.map_append, List.nodup_append]
      refine ⟨hn, by simp, fun x hx y hy e' => ?_⟩
      have ey := List.mem_singleton.mp hy
      rw [e', ey] at hx
      exact hnot hx
  · refine wpAny_bind (wpAny_dictEntries (s := { s with toks := s.toks + knd.draws k }) ho hd ?_)
    rw [entry_at he j, hj]
    exact wpAny_bind (wpAny_rule (wpAny_pure (h1 p (atKey_of_get hn hj))))
end
section
variable {X : Cx}
theorem mt_getD {k : Nat} (hr : Room k X.A) : MtR X "dict.get" (fun x vs H Q => ∃ (a b : Addr) (d : Dt) (kvs : List (Dt × V)) (v : V), x = .ref a ∧ vs = [.ref b, v] ∧ DtIs H (.ref b) d ∧ d.dp ≤ 8 ∧ DicV X.prog X.w H a kvs ∧ Q ((valV kvs d).getD v) H) := by
  intro pins s σ H x vs v us Q I rx rv h
  obtain ⟨a, b, d, kvs, y, rfl, rfl, hd, h8, ⟨xs, dic, kd⟩, q⟩ := h
  have hu := hr.units
  cases rx
  cases rv with
  | cons r1 r2 =>
    cases r2 with
    | cons r2 r3 =>
      cases r3
      cases r1
      rename_i dv
      have full := dicH_of I dic
      refine wpAny_call_entry F.slot_dict_get full.typeIs F.entry_dict_get ?_ (F.args_dict_get_3 _ _ _)
      show wpAny _ _ (dictGet a (.ref b) >>= _) _ _ s
      refine wpAny_bind (wpAny_dictGet_heap (knd := dtKind X.prog X.w) (k := d) (by show X.A.units + 1 + 9 < cLine; omega) ⟨datH_of I hd rfl, h8⟩ full ?_)
      have rel := kd.val d
      cases hk : (atKey xs d).map (·.2) with
      | some p =>
        rw [hk] at rel
        cases hv : valV kvs d with
        | none => rw [hv] at rel; exact absurd rel id
        | some u => rw [hv] at rel q; exact wpAny_pure ⟨p, rfl, u, H, I.tok _, rel, q⟩
      | none =>
        rw [hk] at rel
        cases hv : valV kvs d with
        | some u => rw [hv] at rel; exact absurd rel id
        | none =>
          rw [hv] at q
          show wpAny _ _ (Builtin.Dict.missed a (.ref b) >>= _) _ _ _
          exact wpAny_bind (wpAny_missed_other dic.sys (wpAny_pure ⟨dv, rfl, y, H, I.tok _, r2, q⟩))
theorem mt_setDef {k : Nat} (hr : Room k X.A) : MtR X "dict.setdefault" (fun x vs H Q => ∃ (a b : Addr) (d : Dt) (kvs : List (Dt × V)) (v : V), x = .ref a ∧ vs = [.ref b, v] ∧ DtIs H (.ref b) d ∧ d.dp ≤ 8 ∧ DicV X.prog X.w H a kvs ∧ kvs.length < 1000 ∧
    (∀ u, valV kvs d = some u → Q u H) ∧ (valV kvs d = none → ∀ o, DicV X.prog X.w (upd H a o) a (putK kvs d v) → Q v (upd H a o))) := by
  intro pins s σ H x vs v us Q I rx rv h
  obtain ⟨a, b, d, kvs, y, rfl, rfl, hd, h8, ⟨xs, dic, kd⟩, hl, q1, q2⟩ := h
  have hu := hr.units
  cases rx
  cases rv with
  | cons r1 r2 =>
    cases r2 with
    | cons r2 r3 =>
      cases r3
      cases r1
      rename_i dv
      have full := dicH_of I dic
      have xl : xs.length < 1000 := by rw [← Paired.length kd]; exact hl
      have rel := kd.val d
      refine wpAny_call_entry F.slot_dict_setdefault full.typeIs F.entry_dict_setdefault ?_ (F.args_dict_setdefault_3 _ _ _)
      unfold Builtin.«dict.setdefault»
      refine wpAny_bind ?_; unfold Builtin.Dict.keyAndDefault; refine wpAny_bind (wpAny_notOrdered_dict full.typeIs ?_)
      show wpAny _ _ (pure (a, Value.ref b, some dv)) _ _ s
      refine wpAny_pure ?_
      show wpAny _ _ (if (a == sysModules) = true then _ else (dictSetDefault a (.ref b) dv >>= _)) _ _ s
      rw [if_neg (fun e => by rw [dic.sys] at e; cases e)]
      refine wpAny_bind (setDef_heap (knd := dtKind X.prog X.w) (k := d) (by show X.A.units + 1 + 9 < cLine; omega) ⟨datH_of I hd rfl, h8⟩ full (fun p hp => ?_) (fun hno h' dd' hsb => ?_) (sz (by omega)))
      · rw [hp] at rel
        cases hv : valV kvs d with
        | none => rw [hv] at rel; exact absurd rel id
        | some u => rw [hv] at rel; exact wpAny_pure ⟨p.2, rfl, u, H, I.tok _, rel, q1 u hv⟩
      · rw [hno] at rel
        cases hv : valV kvs d with
        | some u => rw [hv] at rel; exact absurd rel id
        | none =>
          have dp : DicPart X.prog X.w h' a (storedH xs d b dv) := .of dd'
          refine wpAny_pure ⟨dv, rfl, y, upd H a (dicO X.prog X.w a (storedH xs d b dv)), d_write I (by rw [dic.at_]; exact True.intro) hsb (let ⟨q, _, _, hq, _⟩ := dd'; ⟨q, hq⟩) ⟨dp, (let ⟨q, _, _, hq, _⟩ := dd'; ⟨q, hq⟩), fun h1 h2 p1 k => p1.keep k⟩, r2, q2 hv _ ⟨_, ⟨upd_same, dic.sys, ?_, fun z hz => ?_⟩, kd.put d r2⟩⟩
          · exact Nat.le_trans (storedH_len _ _ _ _) (by omega)
          · rcases storedH_mem hz with ⟨z1, z2⟩ | ⟨y', hy, z1, z2⟩
            · rw [z1, z2]; exact ⟨DtIs.updX dic.at_ hd, h8⟩
            · rw [z1, z2]; exact ⟨DtIs.updX dic.at_ (dic.key y' hy).1, (dic.key y' hy).2⟩
end
end BF
namespace BF
open PySem PySem.Spec PyProof.Rows L2 PySem.SeqAt
theorem preSum_take (ns : List Int) : ∀ j, j ≤ ns.length → preSum (fun i => ns.getD i 0) j = (ns.take j).sum
  | 0, _ => by simp [preSum]
  | j + 1, h => by
    have e : ns.take (j + 1) = ns.take j ++ [ns[j]] := by simp
    rw [preSum, preSum_take ns j (by omega), e, List.sum_append]
    show _ + ns.getD j 0 = _
    rw [List.getD_eq_getElem?_getD, List.getElem?_eq_getElem (by omega)]
    simp
theorem preSum_small {ns : List Int} {m : Int} (hm : 0 ≤ m) (h : ∀ n ∈ ns, -m ≤ n ∧ n ≤ m) : ∀ j : Nat, j ≤ ns.length → -(m * j) ≤ preSum (fun i => ns.getD i 0) j ∧ preSum (fun i => ns.getD i 0) j ≤ m * j
  | 0, _ => by simp [preSum]
  | j + 1, hj => by
    have ih := preSum_small hm h j (by omega)
    have e : ns.getD j 0 = ns[j] := by rw [List.getD_eq_getElem?_getD, List.getElem?_eq_getElem (by omega)]; rfl
    have hn := h ns[j] (List.getElem_mem _)
    rw [preSum]
    show -(m * ((j : Int) + 1)) ≤ _ + ns.getD j 0 ∧ _ + ns.getD j 0 ≤ m * ((j : Int) + 1)
    rw [e, Int.mul_add, Int.mul_one]
    omega
section
variable {X : Cx}
theorem call_sumI (hc : X.calm = true) : CallR X (.builtin "sum") (fun xs H Q => ∃ p ns, xs = [.ref p] ∧ SqL X.K H p (List.map V.int ns) ∧ ns.length ≤ 1000 ∧ (∀ n ∈ ns, -1000 ≤ n ∧ n ≤ 1000) ∧ Q (.int ns.sum) H) := by
  intro pins s σ H xs us Q I r h
  obtain ⟨p, ns, rfl, hp, hl, hb, q⟩ := h
  obtain ⟨u, rfl, ru⟩ := vals1 r
  have e : u = Value.ref p := ru
  subst e
  obtain ⟨its, rv, pl, _⟩ := I.list hp
  have hlen := rv.length
  rw [List.length_map] at hlen
  have hpl : p < s.heap.objs.size := by
    obtain ⟨o, n, e, _⟩ := pl
    exact Heap.lt_size e
  have e1 : its.toArray.size = ns.length := by rw [List.size_toArray]; exact hlen.symm
  refine call_sum_walk (wpAny_pyIter_list pl.isList ⟨s.heap.objs.size, _, _, _, _, _, (fun i => ns.getD i 0), rfl, Walks.list (A := X.A.in1) (I.ok.hd hc) s.heap.objs.size p (Nat.ne_of_lt hpl) its.toArray,
    ⟨⟨_, Heap.get?_push_size _ rfl, rfl, rfl⟩, pl.isList.push _⟩, fun b hb' => ?_, fun i v hi => ?_, fun j hj => ?_, fun h' tk t' kk => ?_⟩)
  · simp only [List.mem_cons, List.not_mem_nil, or_false] at hb'
    show b < (s.heap.push _).objs.size
    rw [Heap.size_push]
    rcases hb' with rfl | rfl
    · exact Nat.lt_succ_self _
    · exact Nat.lt_succ_of_lt hpl
  · have hi' : its[i]? = some v := by simpa using hi
    have hlt : i < ns.length := by rw [hlen]; exact (List.getElem?_eq_some_iff.mp hi').1
    obtain ⟨w', hw, t, rw'⟩ := rv.get (i := i) (x := .int ns[i]) (by rw [List.getElem?_map, List.getElem?_eq_getElem hlt]; rfl)
    rw [hi'] at hw
    cases hw
    refine ⟨t, ?_⟩
    show v = .int (ns.getD i 0) t
    rw [rw', List.getD_eq_getElem?_getD, List.getElem?_eq_getElem hlt]
    rfl
  · have hj' : j < ns.length := by omega
    have h1 := preSum_small (m := 1000) (by decide) hb (j + 1) (by omega)
    have h2 := hb ns[j] (List.getElem_mem _)
    have e : ns.getD j 0 = ns[j] := by rw [List.getD_eq_getElem?_getD, List.getElem?_eq_getElem hj']; rfl
    have h3 : ((j + 1 : Nat) : Int) ≤ 1000 := by omega
    refine ⟨⟨?_, ?_⟩, ⟨?_, ?_⟩⟩
    · show -(2 ^ 63) ≤ ns.getD j 0; rw [e]; omega
    · show ns.getD j 0 < 2 ^ 63; rw [e]; omega
    · have := h1.1; omega
    · have := h1.2; omega
  · refine ⟨.int ns.sum, H, I.kept (t' := tk) fun b o e => kk b o (by simpa using Nat.ne_of_lt (Heap.lt_size e)) (Heap.get?_push_of_some _ e), ⟨t', ?_⟩, q⟩
    rw [e1, preSum_take ns _ (Nat.le_refl _), List.take_length]
theorem rows_at {pins : List (Addr × Obj)} {σ : L2.St} {H : Hp} {s : Shared} (I : Inv X pins σ H s) {A : Around} {xs ys : List V} {its its' : List Value} {dss : List (List Dt)} (rx : Rows' H xs dss) (ry : Rows' H ys dss) (rv : Vals xs its) (rv' : Vals ys its') (hu : A.units + 45 < cLine)
    (j : Nat) (j1 : j < its.toArray.size) (j2 : j < its'.toArray.size) : EqAt A s its.toArray[j] its'.toArray[j] true := by
  obtain ⟨lx, rx'⟩ := rx
  obtain ⟨ly, ry'⟩ := ry
  have j1' : j < its.length := by simpa using j1
  have j2' : j < its'.length := by simpa using j2
  have jx : j < xs.length := by rw [rv.length]; exact j1'
  have jy : j < ys.length := by rw [rv'.length]; exact j2'
  have jd : j < dss.length := by omega
  obtain ⟨u1, e1, r1⟩ := rv.get (List.getElem?_eq_getElem jx)
  obtain ⟨u2, e2, r2⟩ := rv'.get (List.getElem?_eq_getElem jy)
  obtain ⟨a1, ys1, ex1, h1, d1, k1⟩ := rx' j _ _ (List.getElem?_eq_getElem jx) (List.getElem?_eq_getElem jd)
  obtain ⟨a2, ys2, ex2, h2, d2, k2⟩ := ry' j _ _ (List.getElem?_eq_getElem jy) (List.getElem?_eq_getElem jd)
  rw [ex1] at r1
  rw [ex2] at r2
  cases r1
  cases r2
  have z1 : its.toArray[j] = .ref a1 := by
    have : its[j]? = some its[j] := List.getElem?_eq_getElem j1'
    rw [this] at e1
    simpa using Option.some.inj e1
  have z2 : its'.toArray[j] = .ref a2 := by
    have : its'[j]? = some its'[j] := List.getElem?_eq_getElem j2'
    rw [this] at e2
    simpa using Option.some.inj e2
  have E := listEqAt I A h1 h2 d1 d2 k1 hu
  rw [Dt.beqs_self] at E
  rw [z1, z2]
  exact E
theorem op_neTL {k : Nat} (hr : Room k X.A) : OpR X (compareOp .NotEq) (fun x y H Q => ∃ (a b : Addr) (xs ys : List V) (dss : List (List Dt)), x = .ref a ∧ y = .ref b ∧ SqT X.K H a xs ∧ SqT X.K H b ys ∧ Rows' H xs dss ∧ Rows' H ys dss ∧ Q (.bl false) H) := by
  intro pins s σ H x y v u Q I rx ry h
  obtain ⟨a, b, xs, ys, dss, rfl, rfl, hx, hy, rx', ry', q⟩ := h
  have hu := hr.units
  cases rx
  cases ry
  obtain ⟨its, rv, p, _⟩ := I.tuple hx
  obtain ⟨its', rv', p', _⟩ := I.tuple hy
  have n1 : its.toArray.size = dss.length := by rw [List.size_toArray, ← rv.length, rx'.1]
  have n2 : its'.toArray.size = dss.length := by rw [List.size_toArray, ← rv'.length, ry'.1]
  have R := RcNeAt.tuples (A := X.A) (s := s) (e := fun _ => true) p p' (by omega) (fun j j1 j2 => rows_at I (A := X.A.in1) rx' ry' rv rv' (by show X.A.units + 1 + 45 < cLine; omega) j j1 j2)
  have e : (!((List.range (min its.toArray.size its'.toArray.size)).all (fun _ => true) && its.toArray.size == its'.toArray.size)) = false := by rw [n1, n2]; simp
  rw [e] at R
  exact R X.prog X.w X.xe _ ⟨.bl _, H, I, rfl, q⟩
end
end BF
namespace BF
open PySem PySem.Spec PyProof.Rows L2
abbrev Ho := Int × Int
abbrev Ln := Ho × Ho
def lnD (a : Ln) : Dt := .tup [hD a.1, hD a.2]
theorem hD_inj {p q : Ho} (h : hD p = hD q) : p = q := eqv_two.mp h
theorem hD_like (p q : Ho) : Dt.like (hD p) (hD q) = true := by simp [hD, Dt.like, Dt.likes]
theorem lnD_like (a b : Ln) : Dt.like (lnD a) (lnD b) = true := by simp [lnD, hD, Dt.like, Dt.likes]
theorem lnD_dp (a : Ln) : (lnD a).dp = 2 := by simp [lnD, hD, Dt.dp, Dt.dps]
theorem hD_dp1 (p : Ho) : (hD p).dp = 1 := by simp [hD, Dt.dp, Dt.dps]
abbrev Ev := List (Ho × Int)
def sumAt (ev : Ev) (h : Ho) : Int := (ev.map fun e => if e.1 = h then e.2 else 0).sum
theorem sumAt_snoc (ev : Ev) (e : Ho × Int) (h : Ho) : sumAt (ev ++ [e]) h = sumAt ev h + (if e.1 = h then e.2 else 0) := by simp [sumAt]
theorem sumAt_app (ev ev' : Ev) (h : Ho) : sumAt (ev ++ ev') h = sumAt ev h + sumAt ev' h := by simp [sumAt]
def evL (s : Int) (ls : List Ln) : Ev := (ls.map fun a => [(a.1, s), (a.2, s)]).flatten
theorem evL_snoc (s : Int) (ls : List Ln) (a : Ln) : evL s (ls ++ [a]) = evL s ls ++ [(a.1, s)] ++ [(a.2, s)] := by simp [evL]
theorem sum_all : ∀ {ev : Ev} {hs : List Ho}, hs.Nodup → (∀ e ∈ ev, e.1 ∈ hs) → (hs.map (sumAt ev)).sum = (ev.map (·.2)).sum := by
  intro ev
  induction ev with
  | nil =>
    intro hs _ _
    induction hs with
    | nil => rfl
    | cons x l ih => rw [List.map_cons, List.sum_cons, ih (by simp_all) (by simp)]; rfl
  | cons e ev ih =>
    intro hs hn hm
    have ih' := ih hn fun x hx => hm x (List.mem_cons_of_mem _ hx)
    have key : ∀ l : List Ho, (l.map (sumAt (e :: ev))).sum = (l.map (sumAt ev)).sum + (l.map fun h => if e.1 = h then e.2 else 0).sum := by
      intro l
      induction l with
      | nil => simp
      | cons x l ihl =>
        simp only [List.map_cons, List.sum_cons, ihl]
        have : sumAt (e :: ev) x = (if e.1 = x then e.2 else 0) + sumAt ev x := by simp [sumAt]
        rw [this]
        omega
    have one : ∀ l : List Ho, l.Nodup → (l.map fun h => if e.1 = h then e.2 else 0).sum = if e.1 ∈ l then e.2 else 0 := by
      intro l
      induction l with
      | nil => intro _; simp
      | cons x l ihl =>
        intro hl
        rw [List.nodup_cons] at hl
        simp only [List.map_cons, List.sum_cons, ihl hl.2]
        by_cases hx : e.1 = x
        · subst hx
          rw [if_pos rfl, if_neg hl.1, if_pos (List.mem_cons_self ..)]
          omega
        · rw [if_neg hx]
          by_cases hm : e.1 ∈ l
          · rw [if_pos hm, if_pos (List.mem_cons_of_mem _ hm)]
            omega
          · rw [if_neg hm, if_neg (fun z => by rcases List.mem_cons.mp z with z | z; exact hx z; exact hm z)]
            rfl
    rw [key, ih', one hs hn, if_pos (hm e (List.mem_cons_self ..))]
    simp only [List.map_cons, List.sum_cons]
    omega
theorem evL_sum (s : Int) : ∀ ls : List Ln, ((evL s ls).map (·.2)).sum = s * (2 * (ls.length : Int))
  | [] => by simp [evL]
  | a :: ls => by
    have ih := evL_sum s ls
    have e : evL s (a :: ls) = [(a.1, s), (a.2, s)] ++ evL s ls := by simp [evL]
    rw [e, List.map_append, List.sum_append, ih, List.length_cons]
    simp
    have : s * (2 * ((ls.length : Int) + 1)) = s * (2 * (ls.length : Int)) + (s + s) := by
      rw [show (2 * ((ls.length : Int) + 1)) = 2 * (ls.length : Int) + 2 by omega, Int.mul_add]
      omega
    omega
theorem evL_mem {s : Int} {ls : List Ln} {h : Ho} : (∃ e ∈ evL s ls, e.1 = h) ↔ ∃ a ∈ ls, a.1 = h ∨ a.2 = h := by
  unfold evL
  constructor
  · rintro ⟨e, he, rfl⟩
    obtain ⟨l, hl, hel⟩ := List.mem_flatten.mp he
    obtain ⟨a, ha, rfl⟩ := List.mem_map.mp hl
    simp only [List.mem_cons, List.not_mem_nil, or_false] at hel
    rcases hel with rfl | rfl
    · exact ⟨a, ha, .inl rfl⟩
    · exact ⟨a, ha, .inr rfl⟩
  · rintro ⟨a, ha, h1 | h1⟩
    · exact ⟨(a.1, s), List.mem_flatten.mpr ⟨_, List.mem_map.mpr ⟨a, ha, rfl⟩, by simp⟩, h1⟩
    · exact ⟨(a.2, s), List.mem_flatten.mpr ⟨_, List.mem_map.mpr ⟨a, ha, rfl⟩, by simp⟩, h1⟩
structure DSum (kvs : List (Dt × V)) (ev : Ev) : Prop where
  nd : (kvs.map (·.1)).Nodup
  mem : ∀ d, d ∈ kvs.map (·.1) ↔ ∃ e ∈ ev, hD e.1 = d
  val : ∀ h : Ho, (∃ e ∈ ev, e.1 = h) → valV kvs (hD h) = some (.int (sumAt ev h))
theorem valV_no {kvs : List (Dt × V)} {d : Dt} (h : ¬ d ∈ kvs.map (·.1)) : valV kvs d = none := by
  cases hv : valV kvs d with
  | none => rfl
  | some v => exact absurd (valV_in hv) h
theorem putK_mem (kvs : List (Dt × V)) (k : Dt) (v : V) (d : Dt) : d ∈ (putK kvs k v).map (·.1) ↔ d = k ∨ d ∈ kvs.map (·.1) := by
  constructor
  · intro h
    by_cases e : d = k
    · exact .inl e
    · right
      cases hv : valV kvs d with
      | some u => exact valV_in hv
      | none =>
        have h2 := valV_put kvs k d v
        rw [if_neg e, hv] at h2
        exact absurd h (valV_not h2)
  · rintro (e | e)
    · have h2 := valV_put kvs k d v
      rw [if_pos e] at h2
      exact valV_in h2
    · by_cases e' : d = k
      · have h2 := valV_put kvs k d v
        rw [if_pos e'] at h2
        exact valV_in h2
      · have h2 := valV_put kvs k d v
        rw [if_neg e'] at h2
        cases hv : valV kvs d with
        | some u => rw [hv] at h2; exact valV_in h2
        | none => exact absurd e (valV_not hv)
theorem putK_nd (kvs : List (Dt × V)) (k : Dt) (v : V) (hn : (kvs.map (·.1)).Nodup) : ((putK kvs k v).map (·.1)).Nodup := by
  cases hv : valV kvs k with
  | none => exact nd_putK v hn hv
  | some u =>
    have e : (putK kvs k v).map (·.1) = kvs.map (·.1) := by
      unfold putK
      rw [if_pos (by rw [valV_any, hv]; rfl), List.map_map]
      apply List.map_congr_left
      intro p _
      show (if p.1 = k then (p.1, v) else p).1 = p.1
      split <;> rfl
    rw [e]
    exact hn
theorem putK_len (kvs : List (Dt × V)) (k : Dt) (v : V) : (putK kvs k v).length ≤ kvs.length + 1 := by
  unfold putK
  split
  · rw [List.length_map]; omega
  · simp
theorem DSum.nil : DSum [] [] := ⟨List.nodup_nil, fun d => by simp, fun h ⟨e, he, _⟩ => nomatch he⟩
theorem DSum.get {kvs : List (Dt × V)} {ev : Ev} (D : DSum kvs ev) (h : Ho) : (valV kvs (hD h)).getD (.int 0) = .int (sumAt ev h) := by
  by_cases hm : ∃ e ∈ ev, e.1 = h
  · rw [D.val h hm]; rfl
  · have : ¬ hD h ∈ kvs.map (·.1) := fun z => by
      obtain ⟨e, he, ee⟩ := (D.mem _).mp z
      exact hm ⟨e, he, hD_inj ee⟩
    rw [valV_no this]
    have z : sumAt ev h = 0 := by
      have key : ∀ l : Ev, (∀ e ∈ l, e.1 ≠ h) → sumAt l h = 0 := by
        intro l
        induction l with
        | nil => intro _; rfl
        | cons e l ih =>
          intro hl
          have h1 : sumAt (e :: l) h = (if e.1 = h then e.2 else 0) + sumAt l h := by simp [sumAt]
          rw [h1, if_neg (hl e (List.mem_cons_self ..)), ih fun x hx => hl x (List.mem_cons_of_mem _ hx)]
          rfl
      exact key ev fun e he z => hm ⟨e, he, z⟩
    rw [z]
    rfl
theorem DSum.put {kvs : List (Dt × V)} {ev : Ev} (D : DSum kvs ev) (h : Ho) (s : Int) : DSum (putK kvs (hD h) (.int (sumAt ev h + s))) (ev ++ [(h, s)]) := by
  refine ⟨putK_nd _ _ _ D.nd, fun d => ?_, fun g hg => ?_⟩
  · rw [putK_mem, D.mem]
    constructor
    · rintro (rfl | ⟨e, he, rfl⟩)
      · exact ⟨(h, s), by simp, rfl⟩
      · exact ⟨e, by simp [he], rfl⟩
    · rintro ⟨e, he, rfl⟩
      rcases List.mem_append.mp he with he | he
      · exact .inr ⟨e, he, rfl⟩
      · rw [List.mem_singleton.mp he]; exact .inl rfl
  · rw [valV_put, sumAt_snoc]
    by_cases e : hD g = hD h
    · have := hD_inj e
      subst this
      rw [if_pos rfl, if_pos rfl]
    · have e' : ¬ h = g := fun z => e (by rw [z])
      rw [if_neg e, if_neg e']
      rw [Int.add_zero]
      refine D.val g ?_
      obtain ⟨x, hx, rfl⟩ := hg
      rcases List.mem_append.mp hx with hx | hx
      · exact ⟨x, hx, rfl⟩
      · rw [List.mem_singleton.mp hx] at e
        exact absurd rfl e
end BF
namespace BF
open PySem PySem.Spec PyProof.Rows L2
section
variable {X : Cx} {pins : List (Addr × Obj)} {σ : L2.St} {H : Hp} {s : Shared} {h' : Heap}
theorem inv_turns {t' : Nat} {L : List Addr} (I : Inv X pins σ H s) (k : ∀ b o, b ∉ L → s.heap.get? b = some o → h'.get? b = some o) (f : ∀ b ∈ L, FpOk X pins H b) : Inv X pins σ H { s with heap := h', toks := t' } := by
  have nl : ∀ b u, H b = some u → b ∉ L := fun b u e z => by rw [(f b z).1] at e; cases e
  have hL : X.env.locals ∉ L := fun z => (f _ z).2.1 rfl
  refine I.step (g' := s.gens) (d' := s.drawn) (ch := L) (fun b hb => ?_) (fun b o _ _ hc e _ => k b o hc e) (fun b o _ _ hc e _ => ⟨o.slots, k b o hc e⟩) (fun _ _ _ _ n => n)
    (fun b o hc e => ⟨o, k b o hc e⟩) (fun _ _ e => e) (fun _ _ _ e => e) (fun b ps e => ⟨#[], by rw [e]; simp⟩) (fun m hm => ?_) (fun b u e => ?_) I.bare
  · obtain ⟨f0, f1, f2, f3, f4, f5⟩ := f b hb
    exact ⟨f3, f1, f4, f5⟩
  · obtain ⟨o, es, ep, ho, r⟩ := hm
    exact ⟨o, es, ep, k _ o hL ho, r⟩
  · refine (I.hok b u e).stay (fun c v hc q => k c v ?_ q) (fun _ q => q) fun _ _ q => q
    rcases hc with z | z
    · rw [z]; exact nl b u e
    · exact nl c _ z
end
end BF
namespace BF
open PySem PySem.Spec PyProof.Rows L2
def DtL (H : Hp) (l : Addr) (ds : List Dt) : Prop := ∃ vs, H l = some (.lst vs) ∧ DtsIs H vs ds
theorem DtL.same {H H' : Hp} {l : Addr} {ds : List Dt} (h : DtL H l ds) (s : Same H H') : DtL H' l ds := by
  obtain ⟨vs, e, d⟩ := h
  exact ⟨vs, s _ _ e, d.same s⟩
theorem th_at {H : Hp} {vs : List V} {hs : List (Int × Int)} (h : DtsIs H vs (hs.map hD)) {i : Nat} {v : V} (e : vs[i]? = some v) : ∃ q p, v = .ref q ∧ hs[i]? = some p ∧ two H q p := by
  obtain ⟨d, ed, dv⟩ := h.at i v e
  rw [List.getElem?_map] at ed
  cases hp : hs[i]? with
  | none => rw [hp] at ed; cases ed
  | some p =>
    rw [hp] at ed
    cases ed
    obtain ⟨q, rfl⟩ : ∃ q, v = .ref q := by cases dv; exact ⟨_, rfl⟩
    exact ⟨q, p, rfl, rfl, hD_two dv⟩
end BF
namespace BF
open PySem PySem.Spec PyProof.Rows L2
abbrev Ap := List (Ho × Dt)
def atH (ev : Ap) (h : Ho) : List Dt := (ev.filter fun e => decide (e.1 = h)).map (·.2)
theorem atH_snoc (ev : Ap) (e : Ho × Dt) (h : Ho) : atH (ev ++ [e]) h = atH ev h ++ (if e.1 = h then [e.2] else []) := by
  unfold atH
  rw [List.filter_append, List.map_append, List.filter_cons]
  by_cases z : e.1 = h
  · rw [if_pos z, if_pos (decide_eq_true z)]; rfl
  · rw [if_neg z, if_neg (by rw [decide_eq_false z]; exact Bool.false_ne_true)]; rfl
theorem atH_len (ev : Ap) (h : Ho) : (atH ev h).length ≤ ev.length := by
  unfold atH
  rw [List.length_map]
  exact List.length_filter_le _ _
theorem atH_no {ev : Ap} {h : Ho} (n : ∀ e ∈ ev, e.1 ≠ h) : atH ev h = [] := by
  unfold atH
  rw [List.filter_eq_nil_iff.mpr (fun e he => by rw [decide_eq_false (n e he)]; exact Bool.false_ne_true)]
  rfl
theorem DicV.updL {P : Program} {w : World} {H : Hp} {a r : Addr} {ys : List V} {o : HO} {kvs : List (Dt × V)} (d : DicV P w H a kvs) (er : H r = some (.lst ys)) : DicV P w (upd H r o) a kvs := by
  obtain ⟨xs, h, kd⟩ := d
  have ne : a ≠ r := fun z => by
    have := h.at_
    rw [z, er] at this
    cases this
  exact ⟨xs, ⟨by rw [upd_ne ne]; exact h.at_, h.sys, h.len, fun x hx => ⟨(h.key x hx).1.updL er, (h.key x hx).2⟩⟩, kd⟩
def SetD (P : Program) (w : World) (H : Hp) (a : Addr) (kvs : List (Dt × V)) (d : Dt) (v u : V) (H' : Hp) : Prop := (valV kvs d = some u ∧ H' = H) ∨ (valV kvs d = none ∧ u = v ∧ ∃ o, H' = upd H a o ∧ DicV P w (upd H a o) a (putK kvs d v))
theorem mt_setDefR {X : Cx} {k : Nat} (hr : Room k X.A) : MtR X "dict.setdefault" (fun x vs H Q => ∃ (a b : Addr) (d : Dt) (kvs : List (Dt × V)) (v : V), x = .ref a ∧ vs = [.ref b, v] ∧ DtIs H (.ref b) d ∧ d.dp ≤ 8 ∧ DicV X.prog X.w H a kvs ∧ kvs.length < 1000 ∧
    ∀ u H', SetD X.prog X.w H a kvs d v u H' → Q u H') := by
  intro pins s σ H x vs v us Q I rx rv h
  obtain ⟨a, b, d, kvs, y, e1, e2, h1, h2, h3, h4, q⟩ := h
  exact mt_setDef hr pins s σ H x vs v us Q I rx rv ⟨a, b, d, kvs, y, e1, e2, h1, h2, h3, h4, fun u e => q u H (.inl ⟨e, rfl⟩), fun e o d' => q _ _ (.inr ⟨e, rfl, o, rfl, d'⟩)⟩
structure DoL (P : Program) (w : World) (H0 H : Hp) (a : Addr) (ks : List Ho) (ev : Ap) (kvs : List (Dt × V)) : Prop where
  dic : DicV P w H a kvs
  nd : (kvs.map (·.1)).Nodup
  mem : ∀ d, d ∈ kvs.map (·.1) ↔ ∃ h ∈ ks, hD h = d
  evk : ∀ e ∈ ev, e.1 ∈ ks
  val : ∀ h ∈ ks, ∃ r, valV kvs (hD h) = some (.ref r) ∧ H0 r = none ∧ DtL H r (atH ev h)
  sep : ∀ h g r, valV kvs (hD h) = some (.ref r) → valV kvs (hD g) = some (.ref r) → h = g
section
variable {P : Program} {w : World} {H0 H : Hp} {a : Addr} {ks : List Ho} {ev : Ap} {kvs : List (Dt × V)}
theorem DoL.same {H' : Hp} (D : DoL P w H0 H a ks ev kvs) (s : Same H H') : DoL P w H0 H' a ks ev kvs :=
  ⟨D.dic.same s, D.nd, D.mem, D.evk, fun h hh => let ⟨r, e, n, d⟩ := D.val h hh; ⟨r, e, n, d.same s⟩, D.sep⟩
theorem DoL.start (d : DicV P w H a []) : DoL P w H0 H a [] [] [] :=
  ⟨d, List.nodup_nil, fun d => ⟨fun h => (nomatch h), fun ⟨_, h, _⟩ => (nomatch h)⟩, fun _ h => (nomatch h), fun _ h => (nomatch h), fun _ _ _ h => (nomatch h)⟩
theorem DoL.isIn {h : Ho} {u : V} (D : DoL P w H0 H a ks ev kvs) (e : valV kvs (hD h) = some u) : h ∈ ks := by
  obtain ⟨g, hg, e⟩ := (D.mem _).mp (valV_in e)
  exact hD_inj e ▸ hg
theorem DtL.updX {H : Hp} {r a : Addr} {φ : Heap → Prop} {o : HO} {ds : List Dt} (h : DtL H r ds) (ha : H a = some (.ext φ)) : DtL (upd H a o) r ds := by
  obtain ⟨vs, e, d⟩ := h
  have ne : r ≠ a := fun z => by rw [z, ha] at e; cases e
  exact ⟨vs, by rw [upd_ne ne]; exact e, d.updX ha⟩
theorem DtL.updL {H : Hp} {r q : Addr} {ys : List V} {o : HO} {ds : List Dt} (h : DtL H r ds) (hq : H q = some (.lst ys)) (ne : r ≠ q) : DtL (upd H q o) r ds := by
  obtain ⟨vs, e, d⟩ := h
  exact ⟨vs, by rw [upd_ne ne]; exact e, d.updL hq⟩
theorem DoL.key {h : Ho} {L : Addr} {o : HO} (D : DoL P w H0 H a ks ev kvs) (hn : h ∉ ks) (nL : H L = none) (n0 : H0 L = none) (d' : DicV P w (upd (upd H L (.lst [])) a o) a (putK kvs (hD h) (.ref L))) :
    DoL P w H0 (upd (upd H L (.lst [])) a o) a (h :: ks) ev (putK kvs (hD h) (.ref L)) := by
  have S := same_upd (o := HO.lst []) nL
  obtain ⟨φ, ext⟩ := (D.dic.same S).ext
  have fr : ∀ g r, valV kvs (hD g) = some (.ref r) → r ≠ L := fun g r e z => by
    obtain ⟨r', e', _, vs, el, _⟩ := D.val g (D.isIn e)
    rw [e] at e'
    cases e'
    rw [z, nL] at el
    cases el
  have neL : L ≠ a := fun z => by
    obtain ⟨φ', e'⟩ := D.dic.ext
    rw [← z, nL] at e'
    cases e'
  refine ⟨d', putK_nd _ _ _ D.nd, fun d => ?_, fun e he => List.mem_cons_of_mem _ (D.evk e he), fun g hg => ?_, fun g g' r e1 e2 => ?_⟩
  · rw [putK_mem, D.mem]
    constructor
    · rintro (rfl | ⟨g, hg, rfl⟩)
      · exact ⟨h, List.mem_cons_self .., rfl⟩
      · exact ⟨g, List.mem_cons_of_mem _ hg, rfl⟩
    · rintro ⟨g, hg, rfl⟩
      rcases List.mem_cons.mp hg with rfl | hg
      · exact .inl rfl
      · exact .inr ⟨g, hg, rfl⟩
  · rw [valV_put]
    by_cases e : hD g = hD h
    · have := hD_inj e
      subst this
      rw [if_pos rfl]
      refine ⟨L, rfl, n0, [], by rw [upd_ne neL]; exact upd_same, ?_⟩
      rw [atH_no fun x hx (z : x.1 = g) => hn (by rw [← z]; exact D.evk x hx)]
      exact .nil
    · rw [if_neg e]
      have hg' : g ∈ ks := by
        rcases List.mem_cons.mp hg with z | z
        · exact absurd (by rw [z]) e
        · exact z
      obtain ⟨r, e1, n1, d1⟩ := D.val g hg'
      exact ⟨r, e1, n1, (d1.same S).updX ext⟩
  · rw [valV_put] at e1 e2
    by_cases z1 : hD g = hD h
    · by_cases z2 : hD g' = hD h
      · exact hD_inj (z1.trans z2.symm)
      · rw [if_pos z1] at e1
        rw [if_neg z2] at e2
        cases e1
        exact absurd rfl (fr _ _ e2)
    · by_cases z2 : hD g' = hD h
      · rw [if_neg z1] at e1
        rw [if_pos z2] at e2
        cases e2
        exact absurd rfl (fr _ _ e1)
      · rw [if_neg z1] at e1
        rw [if_neg z2] at e2
        exact D.sep _ _ _ e1 e2
theorem DoL.app {h : Ho} {r : Addr} {ys : List V} {v : V} {x : Dt} (D : DoL P w H0 H a ks ev kvs) (hk : valV kvs (hD h) = some (.ref r)) (er : H r = some (.lst ys)) (dv : DtIs H v x) :
    DoL P w H0 (upd H r (.lst (ys ++ [v]))) a ks (ev ++ [(h, x)]) kvs := by
  refine ⟨D.dic.updL er, D.nd, D.mem, fun e he => ?_, fun g hg => ?_, D.sep⟩
  · rcases List.mem_append.mp he with he | he
    · exact D.evk e he
    · rw [List.mem_singleton.mp he]
      exact D.isIn hk
  · obtain ⟨q, e1, n1, d1⟩ := D.val g hg
    rw [atH_snoc]
    by_cases z : h = g
    · subst z
      rw [hk] at e1
      cases e1
      rw [if_pos rfl]
      obtain ⟨vs, ev', dv'⟩ := d1
      rw [er] at ev'
      cases ev'
      exact ⟨r, hk, n1, _, upd_same, (dv'.updL er).snoc (dv.updL er)⟩
    · rw [if_neg z, List.append_nil]
      refine ⟨q, e1, n1, d1.updL er fun z' => z ?_⟩
      rw [z'] at e1
      exact D.sep _ _ _ hk e1
theorem DoL.setDef {h : Ho} {L : Addr} {u : V} {H' : Hp} (D : DoL P w H0 H a ks ev kvs) (S : Same H0 H) (na : H0 a = none) (nL : H L = none) (sd : SetD P w (upd H L (.lst [])) a kvs (hD h) (.ref L) u H') :
    ∃ r ks' kvs' ys, u = .ref r ∧ DoL P w H0 H' a ks' ev kvs' ∧ Same H0 H' ∧ (∀ g, g ∈ ks' ↔ g = h ∨ g ∈ ks) ∧ valV kvs' (hD h) = some (.ref r) ∧ H0 r = none ∧ H' r = some (.lst ys) ∧ ys.length ≤ ev.length ∧ kvs'.length ≤ kvs.length + 1 ∧
      ∀ C cs, H C = some (.lst cs) → (∀ h r, valV kvs (hD h) = some (.ref r) → r ≠ C) → H' C = some (.lst cs) ∧ ∀ h r, valV kvs' (hD h) = some (.ref r) → r ≠ C := by
  have T := same_upd (o := HO.lst []) nL
  rcases sd with ⟨e, rfl⟩ | ⟨e, rfl, o, rfl, d'⟩
  · have hi := D.isIn e
    obtain ⟨r, e1, n1, vs, er, dr⟩ := D.val h hi
    rw [e] at e1
    cases e1
    refine ⟨r, ks, kvs, vs, rfl, D.same T, S.trans T, fun g => ⟨.inr, ?_⟩, e, n1, T _ _ er, by rw [dr.length]; exact atH_len _ _, by omega, fun C cs eC nc => ⟨T _ _ eC, nc⟩⟩
    rintro (rfl | z)
    · exact hi
    · exact z
  · have hn : h ∉ ks := fun z => by
      obtain ⟨r, e1, _⟩ := D.val h z
      rw [e] at e1
      cases e1
    have n0 := none_same S nL
    have D' := D.key hn nL n0 d'
    obtain ⟨r, e1, n1, vs, er, dr⟩ := D'.val h (List.mem_cons_self ..)
    have e2 : valV (putK kvs (hD h) (.ref L)) (hD h) = some (.ref L) := by rw [valV_put, if_pos rfl]
    rw [e2] at e1
    cases e1
    refine ⟨L, _, _, vs, rfl, D', same_updN (S.trans T) na, fun g => List.mem_cons, e2, n0, er, by rw [dr.length]; exact atH_len _ _, putK_len _ _ _, fun C cs eC nc => ⟨?_, fun g r' hg => ?_⟩⟩
    · obtain ⟨φ, ext⟩ := D.dic.ext
      rw [upd_ne (fun e => by rw [e, ext] at eC; cases eC)]
      exact T _ _ eC
    · rw [valV_put] at hg
      by_cases z : hD g = hD h
      · rw [if_pos z] at hg
        cases hg
        exact fun e => by rw [e, eC] at nL; cases nL
      · rw [if_neg z] at hg
        exact nc g r' hg
theorem DoL.get {h : Ho} (D : DoL P w H0 H a ks ev kvs) (hh : h ∈ ks) : ∃ r vs, valV kvs (hD h) = some (.ref r) ∧ H r = some (.lst vs) ∧ DtsIs H vs (atH ev h) := by
  obtain ⟨r, e, _, vs, er, d⟩ := D.val h hh
  exact ⟨r, vs, e, er, d⟩
end
end BF
namespace BF
open PySem PySem.Spec PyProof.Rows L2
def Adj (ls : List Ln) (k m : Ho) : Prop := ∃ a ∈ ls, (a.1 = k ∧ a.2 = m) ∨ (a.2 = k ∧ a.1 = m)
theorem Adj.symm {ls : List Ln} {k m : Ho} (h : Adj ls k m) : Adj ls m k := by
  obtain ⟨a, ha, h | h⟩ := h
  · exact ⟨a, ha, .inr ⟨h.2, h.1⟩⟩
  · exact ⟨a, ha, .inl ⟨h.2, h.1⟩⟩
inductive Cn (ls : List Ln) (h : Ho) : Ho → Prop where
  | refl : Cn ls h h
  | step {k m : Ho} : Cn ls h k → Adj ls k m → Cn ls h m
theorem Cn.trans {ls : List Ln} {x y z : Ho} (h : Cn ls x y) (g : Cn ls y z) : Cn ls x z := by
  induction g with
  | refl => exact h
  | step _ a ih => exact .step ih a
theorem Cn.symm {ls : List Ln} {x y : Ho} (h : Cn ls x y) : Cn ls y x := by
  induction h with
  | refl => exact .refl
  | step _ a ih => exact (Cn.step .refl a.symm).trans ih
theorem Cn.line {ls : List Ln} {a : Ln} (h : a ∈ ls) : Cn ls a.1 a.2 := .step .refl ⟨a, h, .inl ⟨rfl, rfl⟩⟩
theorem Cn.stay {ls : List Ln} {S : Ho → Prop} (cl : ∀ a ∈ ls, S a.1 ↔ S a.2) {x y : Ho} (h : Cn ls x y) (hx : S x) : S y := by
  induction h with
  | refl => exact hx
  | step _ a ih =>
    obtain ⟨l, hl, ⟨e1, e2⟩ | ⟨e1, e2⟩⟩ := a
    · rw [← e2]; exact (cl l hl).mp (by rw [e1]; exact ih)
    · rw [← e2]; exact (cl l hl).mpr (by rw [e1]; exact ih)
theorem perm_sum {l m : List Int} (p : l.Perm m) : l.sum = m.sum := by
  induction p with
  | nil => rfl
  | cons x _ ih => rw [List.sum_cons, List.sum_cons, ih]
  | swap x y l => rw [List.sum_cons, List.sum_cons, List.sum_cons, List.sum_cons]; omega
  | trans _ _ h1 h2 => exact h1.trans h2
end BF
namespace BF
open PySem PySem.Spec PyProof.Rows L2
def setL (L : Ho → Option Ho) (h f : Ho) : Ho → Option Ho := fun k => if k = h then some f else L k
theorem setL_same {L : Ho → Option Ho} {h f : Ho} : setL L h f h = some f := if_pos rfl
theorem setL_ne {L : Ho → Option Ho} {h f k : Ho} (e : k ≠ h) : setL L h f k = L k := if_neg e
structure Whole (ls : List Ln) (L : Ho → Option Ho) : Prop where
  con : ∀ h g, L h = some g → Cn ls g h
  cl : ∀ h g, L h = some g → ∀ k, Adj ls h k → L k = some g
  own : ∀ h g, L h = some g → L g = some g
structure Srch (ls : List Ln) (f : Ho) (L : Ho → Option Ho) (W : List Ho) : Prop where
  wc : ∀ h ∈ W, Cn ls f h
  con : ∀ h g, L h = some g → Cn ls g h
  cl : ∀ h g, L h = some g → g ≠ f → ∀ k, Adj ls h k → L k = some g
  op : ∀ h, L h = some f → ∀ k, Adj ls h k → L k = some f ∨ k ∈ W
  own : ∀ h g, L h = some g → L g = some g
  st : L f ≠ none ∨ W = [f]
theorem Srch.begin {ls : List Ln} {L : Ho → Option Ho} (w : Whole ls L) (f : Ho) : Srch ls f L [f] :=
  ⟨fun h hh => by rw [List.mem_singleton.mp hh]; exact .refl, w.con, fun h g e _ => w.cl h g e, fun h e k a => .inl (w.cl h f e k a), w.own, .inr rfl⟩
theorem Srch.done {ls : List Ln} {f : Ho} {L : Ho → Option Ho} (s : Srch ls f L []) : Whole ls L ∧ L f ≠ none := by
  refine ⟨⟨s.con, fun h g e k a => ?_, s.own⟩, ?_⟩
  · by_cases hg : g = f
    · subst hg
      rcases s.op h e k a with z | z
      · exact z
      · cases z
    · exact s.cl h g e hg k a
  · rcases s.st with z | z
    · exact z
    · cases z
theorem Srch.skip {ls : List Ln} {f h : Ho} {L : Ho → Option Ho} {W : List Ho} (s : Srch ls f L (W ++ [h])) (hh : L h ≠ none) : Srch ls f L W := by
  refine ⟨fun k hk => s.wc k (List.mem_append_left _ hk), s.con, s.cl, fun h' e k a => ?_, s.own, ?_⟩
  · rcases s.op h' e k a with z | z
    · exact .inl z
    · rcases List.mem_append.mp z with z | z
      · exact .inr z
      · rw [List.mem_singleton] at z
        subst z
        cases q : L k with
        | none => exact absurd q hh
        | some g =>
          by_cases hg : g = f
          · rw [hg]; exact .inl rfl
          · have := s.cl k g q hg h' a.symm
            rw [e] at this
            exact absurd (Option.some.inj this).symm hg
  · rcases s.st with z | z
    · exact .inl z
    · left
      have : h = f := by
        have z' : (W ++ [h]).getLast? = some f := by rw [z]; rfl
        rw [List.getLast?_append] at z'
        simpa using z'
      rw [← this]
      exact hh
theorem Srch.add {ls : List Ln} {f h : Ho} {L : Ho → Option Ho} {W N : List Ho} (s : Srch ls f L (W ++ [h])) (hh : L h = none) (hN : ∀ k, k ∈ N ↔ Adj ls h k) : Srch ls f (setL L h f) (W ++ N) := by
  have fh : Cn ls f h := s.wc h (by simp)
  have ff : setL L h f f = some f := by
    by_cases e : f = h
    · rw [e]; exact setL_same
    · rw [setL_ne e]
      rcases s.st with z | z
      · cases q : L f with
        | none => exact absurd q z
        | some g =>
          have hg := s.own f g q
          by_cases e2 : g = f
          · rw [e2]
          · have c := s.con f g q
            have hst : L h = some g := Cn.stay (S := fun k => L k = some g) (fun a ha => ⟨fun e1 => s.cl a.1 g e1 e2 a.2 ⟨a, ha, .inl ⟨rfl, rfl⟩⟩, fun e1 => s.cl a.2 g e1 e2 a.1 ⟨a, ha, .inr ⟨rfl, rfl⟩⟩⟩) fh q
            rw [hh] at hst
            cases hst
      · have : h = f := by
          have z' : (W ++ [h]).getLast? = some f := by rw [z]; rfl
          rw [List.getLast?_append] at z'
          simpa using z'
        exact absurd this.symm e
  have old : ∀ k g, L k = some g → setL L h f k = some g := fun k g e => by
    rw [setL_ne (fun z => by rw [z, hh] at e; cases e)]
    exact e
  refine ⟨fun k hk => ?_, fun k g e => ?_, fun k g e hg m a => ?_, fun k e m a => ?_, fun k g e => ?_, .inl (by rw [ff]; exact Option.some_ne_none _)⟩
  · rcases List.mem_append.mp hk with z | z
    · exact s.wc k (List.mem_append_left _ z)
    · exact .step fh ((hN k).mp z)
  · by_cases ek : k = h
    · rw [ek, setL_same] at e
      rw [ek, ← Option.some.inj e]
      exact fh
    · rw [setL_ne ek] at e
      exact s.con k g e
  · by_cases ek : k = h
    · rw [ek, setL_same] at e
      exact absurd (Option.some.inj e).symm hg
    · rw [setL_ne ek] at e
      exact old _ _ (s.cl k g e hg m a)
  · by_cases ek : k = h
    · subst ek
      exact .inr (List.mem_append_right _ ((hN m).mpr a))
    · rw [setL_ne ek] at e
      rcases s.op k e m a with z | z
      · exact .inl (old _ _ z)
      · rcases List.mem_append.mp z with z | z
        · exact .inr (List.mem_append_left _ z)
        · rw [List.mem_singleton] at z
          rw [z]
          exact .inl setL_same
  · by_cases ek : k = h
    · rw [ek, setL_same] at e
      rw [← Option.some.inj e]
      exact ff
    · rw [setL_ne ek] at e
      exact old _ _ (s.own k g e)
theorem Whole.same {ls : List Ln} {L : Ho → Option Ho} (w : Whole ls L) {h k g : Ho} (e : L h = some g) (c : Cn ls h k) : L k = some g :=
  Cn.stay (S := fun k => L k = some g) (fun a ha => ⟨fun e1 => w.cl a.1 g e1 a.2 ⟨a, ha, .inl ⟨rfl, rfl⟩⟩, fun e1 => w.cl a.2 g e1 a.1 ⟨a, ha, .inr ⟨rfl, rfl⟩⟩⟩) c e
theorem Whole.nil {ls : List Ln} : Whole ls (fun _ => none) := ⟨fun _ _ e => (nomatch e), fun _ _ e => (nomatch e), fun _ _ e => (nomatch e)⟩
end BF
namespace BF
open PySem PySem.Spec PyProof.Rows L2
section
variable {X : Cx} {pins : List (Addr × Obj)} {σ : L2.St} {H : Hp} {s : Shared}
theorem inv_thaw {a : Addr} {o : Obj} {φ : Heap → Prop} (I : Inv X pins σ H s) (ha : H a = some (.frz o (.ext φ))) (h0 : ∀ o' u', X.H₀ a ≠ some (.frz o' u')) : Inv X pins σ (upd H a (.ext φ)) s := by
  have nn : ∀ b, H b = none → b ≠ a := fun b n z => by rw [z, ha] at n; cases n
  have ntup : ∀ b xs, H b = some (.tup xs) → b ≠ a := fun b xs q z => by rw [z, ha] at q; cases q
  have nown : ∀ b c, H b = some (.own c) → b ≠ a := fun b c q z => by rw [z, ha] at q; cases q
  refine ⟨I.ok, I.os, I.bare, ⟨I.base.keep, I.base.slot, fun b ob q n hx => ?_, I.base.there, fun b xs q => ?_, fun b ob u q => ?_, fun b ps q => ?_⟩, I.loc, I.cell, ?_, fun x c e => ?_, fun p hp => ?_, fun b u q => ?_, I.len⟩
  · have := I.base.free b ob q n hx
    rw [upd_ne (nn b this)]
    exact this
  · have := I.base.tups b xs q
    rw [upd_ne (ntup b xs this)]
    exact this
  · have := I.base.frzs b ob u q
    rw [upd_ne (fun (z : b = a) => h0 ob u (by rw [← z]; exact q))]
    exact this
  · obtain ⟨m, e⟩ := I.base.tbls b ps q
    exact ⟨m, by rw [upd_ne (fun z => by rw [z, ha] at e; cases e)]; exact e⟩
  · rw [upd_ne (nn _ I.free)]; exact I.free
  · rw [upd_ne (nn _ (I.freeC x c e))]; exact I.freeC x c e
  · obtain ⟨p1, p2, p3⟩ := I.pin p hp
    exact ⟨p1, by rw [upd_ne (nn _ p2)]; exact p2, p3⟩
  · by_cases hb : b = a
    · subst hb
      rw [upd_same] at q
      cases q
      exact (show ObjOk X.prog X.w H s.heap b (.frz o (.ext φ)) from I.hok b _ ha).2
    · rw [upd_ne hb] at q
      exact (I.hok b u q).stay (fun c v _ r => r) (fun c r => by rw [upd_ne (nown c b r)]; exact r) fun c xs r => by rw [upd_ne (ntup c xs r)]; exact r
variable {tg : Expr}
def tForD (P : Program) (w : World) (td : TE) (g : TG) (tb : TS) : TS := fun D σ H => td σ H fun x H1 => ∃ (a : Addr) (kvs : List (Dt × V)), x = .ref a ∧ DicV P w H1 a kvs ∧ ∀ (zs : List V) (o : Obj) (φ : Heap → Prop), DtsIs H1 zs (kvs.map (·.1)) → H1 a = some (.ext φ) →
  ∃ Pv : Nat → L2.St → Hp → Prop, Pv 0 σ (upd H1 a (.frz o (.ext φ))) ∧ (∀ i σ' H', Pv i σ' H' → H' a = some (.frz o (.ext φ))) ∧
    (∀ i z σ' H', zs[i]? = some z → Pv i σ' H' → g z σ' H' fun σ2 H2 => tb { nx := Pv (i + 1), ct := Pv (i + 1), bk := fun _ _ => False, rt := fun _ _ => False } σ2 H2) ∧ (∀ σ' H', Pv zs.length σ' H' → D.nx σ' (upd H' a (.ext φ)))
theorem ps_forD {iter : Expr} {body : List Stmt} {td : TE} {g : TG} {tb : TS} {pos : Pos} (hp : PassesOwn (model X.prog X.w) X.A X.env X.xe) (hc : X.calm = true) (hd : PE X iter td) (hg : PG X tg g) (hb : PSs X body tb)
    (hs : ∀ x, foldedSetIterable iter X.env x = pure x := by intro _; rfl) : PS X (.For tg iter body [] pos) (tForD X.prog X.w td g tb) := by
  intro pins s σ H D I h
  refine wpAny_For (thn (hd pins s σ H _ I h) fun v s1 ⟨x, H1, I1, r1, a, kvs, ex, ⟨xs, dic, kd⟩, q⟩ => ?_) hs
  subst ex
  obtain rfl : v = Value.ref a := r1
  obtain ⟨ep, raw⟩ := raw_of I1 dic
  obtain ⟨o, es, ho, hex, dat, ek⟩ := id raw
  refine drw_iter dic.sys raw ?_
  have keys := kd.keys
  have dz : DtsIs H1 (xs.map fun x => V.ref x.2.1) (kvs.map (·.1)) := by rw [keys]; exact dts_keys (P := X.prog) (w := X.w) dic.key
  obtain ⟨Pv, p0, fr, step, fin⟩ := q _ o _ dz dic.at_
  have nit : H1 s1.heap.objs.size = none := I1.hok.fresh (Nat.le_refl _)
  have f2 : FpOk X pins H1 s1.heap.objs.size := I1.fpOk (Nat.le_refl _) nit
  have lt : a < s1.heap.objs.size := Heap.lt_size ho
  have ne : s1.heap.objs.size ≠ a := Nat.ne_of_gt lt
  have hl : (xs.map fun x => Value.ref x.2.1).length = xs.length := List.length_map ..
  have hzl : (xs.map fun x => V.ref x.2.1).length = xs.length := List.length_map ..
  have I2 : Inv X pins σ H1 { s1 with heap := s1.heap.push { cls := .type "dict_keyiterator", data := .fields #[.ref a, .int 0 0, .int (xs.map fun x => Value.ref x.2.1).length 0, .int ep 0] } } := I1.kept (t' := s1.toks) fun b o e => Heap.get?_push_of_some _ e
  have hok2 := (show ObjOk X.prog X.w H1 _ a (dicO X.prog X.w a xs) from I2.hok a _ dic.at_)
  have I3 := I2.write (x := a) (e := a) (o := .frz o (dicO X.prog X.w a xs)) (t' := s1.toks) (by rw [dic.at_]; exact True.intro) (.inl rfl) (fun b u _ hu => hu) ⟨o, Heap.get?_push_of_some _ ho⟩ ⟨Heap.get?_push_of_some _ ho, hok2⟩
  have h0 : ∀ o' u', X.H₀ a ≠ some (.frz o' u') := fun o' u' e => by
    have := I1.base.frzs a o' u' e
    rw [dic.at_] at this
    cases this
  refine codeAny_forLoop_any (fun n s' => ∃ i σ' H', Inv X pins σ' H' s' ∧ s'.heap.IsKeyIter s1.heap.objs.size a i (xs.map fun x => Value.ref x.2.1).length ep ∧ H' s1.heap.objs.size = none ∧ n = xs.length - i ∧ i ≤ xs.length ∧ Pv i σ' H') ?_ xs.length
    ⟨0, σ, _, I3, ⟨_, Heap.get?_push_size _ rfl, rfl, rfl⟩, by rw [upd_ne ne]; exact nit, by simp, Nat.zero_le _, p0⟩
  rintro n s3 ⟨i, σ3, H3, I3', ik, nit3, rfl, hi, p3⟩
  have fz := fr i σ3 H3 p3
  have ob := (show ObjOk X.prog X.w H3 s3.heap a (.frz o (dicO X.prog X.w a xs)) from I3'.hok a _ fz)
  have raw3 : DRaw s3.heap a (xs.map fun x => Value.ref x.2.1) ep := ⟨o, es, ob.1, hex, dat, ek⟩
  have stat : FpOk X pins H3 s1.heap.objs.size := ⟨nit3, f2.2⟩
  obtain ⟨f0, f1, _, f3, f4, f5⟩ := id stat
  by_cases hlt : i < xs.length
  · have hu : (xs.map fun x => Value.ref x.2.1)[i]? = some (Value.ref (xs[i]).2.1) := by rw [List.getElem?_map, List.getElem?_eq_getElem hlt]; rfl
    have hz : (xs.map fun x => V.ref x.2.1)[i]? = some (V.ref (xs[i]).2.1) := by rw [List.getElem?_map, List.getElem?_eq_getElem hlt]; rfl
    refine wpAny_passesOwn hp (drw_item ik raw3 hu fun h' ik' sb => ?_)
    have I4 : Inv X pins σ3 H3 { s3 with heap := h' } := I3'.turned (t' := s3.toks) (fun b o hb e => (sb.2 b hb).trans e) f0 f1 f3 f4 f5
    obtain ⟨o', e', c', d'⟩ := id ik'
    refine wpAny_passesOwn hp (go_of (s := { s3 with heap := h' }) e' c' d' (by decide) ?_)
    have I5 := I4.pinned (fp := [s1.heap.objs.size]) (fun b hb' => by rw [List.mem_singleton.mp hb']; exact stat) (fun b hb' => by rw [List.mem_singleton.mp hb']; exact ⟨o', e', fun v z => by rw [d'] at z; cases z⟩)
    refine wpAny_passesOwn hp (thn (hg _ { s3 with heap := h' } σ3 H3 (V.ref (xs[i]).2.1) (Value.ref (xs[i]).2.1) _ I5 rfl (step i _ σ3 H3 hz p3)) fun _ s6 ⟨σ6, H6, I6, q6⟩ => ?_)
    refine wpAny_passesOwn hp (thn (hb _ s6 σ6 H6 _ I6 q6) fun f s7 q7 => ?_)
    have again : ∀ {σ7 : L2.St} {H7 : Hp}, Inv X (pins ++ pinsAt [s1.heap.objs.size] h') σ7 H7 s7 → Pv (i + 1) σ7 H7 → ∃ m, m < xs.length - i ∧ ∃ i σ' H', Inv X pins σ' H' s7 ∧ s7.heap.IsKeyIter s1.heap.objs.size a i (xs.map fun x => Value.ref x.2.1).length ep ∧ H' s1.heap.objs.size = none ∧ m = xs.length - i ∧ i ≤ xs.length ∧ Pv i σ' H' := fun {σ7 H7} I7 n7 => by
      have pn := I7.pin (s1.heap.objs.size, o') (List.mem_append_right _ (List.mem_append_right _ (mem_pinsAt (List.mem_singleton.mpr rfl) e')))
      exact ⟨xs.length - (i + 1), by omega, i + 1, σ7, H7, I7.unpinned, ⟨o', pn.1, c', d'⟩, pn.2.1, rfl, hlt, n7⟩
    cases f with
    | next => obtain ⟨σ7, H7, I7, n7⟩ := q7; exact again I7 n7
    | cont => obtain ⟨σ7, H7, I7, n7⟩ := q7; exact again I7 n7
    | brk => obtain ⟨σ7, H7, I7, q7⟩ := q7; exact q7.elim
    | ret v => obtain ⟨x7, σ7, H7, I7, r7, q7⟩ := q7; exact q7.elim
  · have ei : i = xs.length := by omega
    subst ei
    refine wpAny_passesOwn hp (drw_end (I3'.ok.hd hc) ik raw3 (by rw [List.getElem?_eq_none]; rw [hl]; exact Nat.le_refl _) fun h' eb => ?_)
    have I4 : Inv X pins σ3 H3 { s3 with heap := h' } := I3'.turned (t' := s3.toks) (fun b o hb e => eb b o hb e) f0 f1 f3 f4 f5
    exact wpAny_execs_nil ⟨σ3, _, inv_thaw I4 fz h0, fin σ3 H3 (by rw [hzl]; exact p3)⟩
end
end BF
namespace BF
open PySem PySem.Spec PyProof.Rows L2
section
variable {X : Cx} {elt tg iter : Expr} {ifs : List Expr} {scope : Scope} {pos : Pos} {N' : List Str} {idx : List (Option Nat)} {wi : TI} {g : TG} {tt : TT} {te : TE}
theorem ps_setComp {k : Nat} {y : Str} {py spos : Pos} (hN : X.N.Nodup) (hk : X.N[k]? = some y) (hy : Loc X.env.scope y) (hf : X.fn y = true ∨ X.env.scope.names.lookup y = some .local) (hlc : X.env.scope.names.lookup y = some .local)
    (S : CompOk X scope N' idx) (hclos : closureFor scope X.env = pure (clOf X.env scope.names [])) (hc : X.calm = true) (hi : PI X tg iter wi)
    (hg : ∀ C s₀ H₀ fp pn, PG (compCx X N' scope C s₀ H₀ fp pn) tg g) (ht : ∀ C s₀ H₀ fp pn, PTs (compCx X N' scope C s₀ H₀ fp pn) ifs tt) (he : ∀ C s₀ H₀ fp pn, PE (compCx X N' scope C s₀ H₀ fp pn) elt te)
    (hsw : swapsWith (.ListComp elt [⟨tg, iter, ifs, 0⟩] scope pos) (some (.Name y py)) spos.line X.env = pure true := by rfl)
    (hs : ∀ x, foldedSetIterable iter X.env x = pure x := by intro _; rfl) : PS X (.Assign [.Name y py] (.ListComp elt [⟨tg, iter, ifs, 0⟩] scope pos) spos) (tAsg (tComp wi idx g tt te) (gName k)) := by
  intro pins s σ H E' I h
  rw [exec_Assign_Name_used _ _ _ _ hsw]
  refine wpAny_bind (wpAny_standAt (wpAny_bind ?_))
  refine (show wpAny _ _ (do let _ ← comprehension (.ListComp elt [⟨tg, iter, ifs, 0⟩] scope pos) scope X.env _ (newList []) false (eval iter X.env) (some (assign (.Name y py) X.env))) _ _ s from ?_)
  refine wpAny_bind (wpAny_mono (Q := fun _ s' => SP X pins E' .next s') ?_ (fun _ s' hq => wpAny_pure (wpAny_pure hq)) fun _ _ e => e)
  refine wpAny_comprehension_free (use := some (assign (.Name y py) X.env)) rfl hs hclos S.kind S.names (thn (hi pins s σ H _ I h) fun xv s₁ h₁ => thn h₁ fun itv s₂ h₂ => ?_)
  obtain ⟨it, fp, tn, J, H2, e, I2, T, st2, f2, hJ⟩ := h₂
  subst e
  obtain ⟨W, ⟨m0, w0⟩, turn⟩ := hJ s₂.heap.objs.size (I2.hok.fresh (Nat.le_refl _))
  have hlt : ∀ b ∈ fp, b < s₂.heap.objs.size := fun b hb => by
    obtain ⟨o, e, _⟩ := T.obj _ _ st2 b hb
    exact Heap.lt_size e
  refine wpAny_newObj_type (wpAny_newFunctionEnv S.cell (by intro y hy; simp at hy) (fun h₁ hns₁ hsb₁ => ?_) S.kind)
  dsimp only at hns₁ hsb₁ ⊢
  generalize hH2 : s₂.heap.push { cls := .type "list", dict := none, data := .seq ([] : List Value).toArray } = P2 at hns₁ hsb₁ ⊢
  have hC : P2.objs.size = s₂.heap.objs.size + 1 := by rw [← hH2, Heap.size_push]
  have neC : ∀ b : Addr, b < s₂.heap.objs.size → b ≠ P2.objs.size := fun b hb => Nat.ne_of_lt (by rw [hC]; exact Nat.lt_succ_of_lt hb)
  have neD : s₂.heap.objs.size ≠ P2.objs.size := Nat.ne_of_lt (by rw [hC]; exact Nat.lt_succ_self _)
  have old : ∀ b o, s₂.heap.get? b = some o → h₁.get? b = some o := fun b o e =>
    hsb₁.extBut b o (neC b (Heap.lt_size e)) (Heap.get?_push_of_some _ (hH2 ▸ Heap.get?_push_of_some _ e))
  have hacc : h₁.get? s₂.heap.objs.size = some { cls := .type "list", data := .seq ([] : List Value).toArray } :=
    hsb₁.extBut _ _ neD (Heap.get?_push_of_some _ (hH2 ▸ Heap.get?_push_size _ rfl))
  have nD : H2 s₂.heap.objs.size = none := I2.hok.fresh (Nat.le_refl _)
  have nC : H2 P2.objs.size = none := I2.hok.fresh (by omega)
  have ok := comp_ok (C := P2.objs.size) S I2 (by omega) f2 hlt (X.pn ++ pins)
  have pinlt : ∀ p ∈ X.pn ++ pins, p.1 < s₂.heap.objs.size := fun p hp => Heap.lt_size (I2.pin p hp).1
  have sub : ∀ x c, (clOf X.env scope.names []).lookup x = some c → X.env.cells.lookup x = some c := fun x c e => clOf_sub X.env scope.names [] (fun p hp => (nomatch hp)) (x, c) (PySem.mem_of_lookup e)
  have I3 : Inv (compCx X N' scope P2.objs.size s₂ H2 fp (X.pn ++ pins)) [] (pick idx σ) (upd H2 s₂.heap.objs.size (.lst [])) { s₂ with heap := h₁, toks := s₂.toks + ([] : List (Str × Value)).length } := by
    refine ⟨ok, rfl, I2.bare, ?_, ⟨_, hns₁, fun j x v h1 h2 h3 => ?_⟩, fun x c e => ?_, ?_, fun x c e => ?_, fun p hp => ?_, ?_, ?_⟩
    · exact Un.laid old (Nat.le_refl _) nD
    · have hj : j < idx.length := by
        have := (List.getElem?_eq_some_iff.mp h2).1
        unfold pick at this
        rwa [List.length_map] at this
      unfold pick at h2
      rw [List.getElem?_map, List.getElem?_eq_getElem hj] at h2
      have h2' := Option.some.inj h2
      cases q : idx[j] with
      | none => rw [q] at h2'; cases h2'
      | some i =>
        have h2' : (σ[i]?).getD none = some v := by rw [q] at h2'; exact h2'
        have hmem : (idx[j], x) ∈ idx.zip N' := by
          refine List.mem_iff_getElem?.mpr ⟨j, ?_⟩
          rw [List.getElem?_zip_eq_some]
          exact ⟨List.getElem?_eq_getElem hj, h1⟩
        obtain ⟨z1, z2, z3⟩ := S.idx _ hmem i q
        have hσ : σ[i]? = some (some v) := by
          cases r : σ[i]? with
          | none => rw [r] at h2'; cases h2'
          | some y => rw [r] at h2'; rw [show y = some v from h2']
        obtain ⟨m, hn, hl⟩ := I2.loc
        obtain ⟨u, ru, lk⟩ := hl i x v z1 hσ (.inr (.inl z2))
        refine ⟨u, ru, .inr ⟨.inl ?_, ?_⟩⟩
        · show (relabel scope X.env).names.lookup x = some .cell
          rw [relabel_names, relabel_lookup, z3, I2.ok.kind]
          simp [z2]
        · obtain ⟨c, hcl⟩ := clOf_has X.env scope.names [] x z3 (I2.ok.has x (.inl z2))
          rcases lk with ⟨k1, _⟩ | ⟨_, c', e1, e2⟩
          · rw [z2] at k1; cases k1
          · refine ⟨c, hcl, ?_⟩
            have e3 := sub x c hcl
            rw [e1] at e3
            cases e3
            obtain ⟨o, ho, hd⟩ := e2
            exact ⟨o, old _ _ ho, hd⟩
    · obtain ⟨v, o, ho, hd⟩ := I2.cell x c (sub x c e)
      exact ⟨v, o, old _ _ ho, hd⟩
    · show upd H2 _ _ P2.objs.size = none
      rw [upd_ne (Ne.symm neD)]; exact nC
    · obtain ⟨v, q⟩ := I2.cell x c (sub x c e)
      rw [upd_ne (Nat.ne_of_lt q.lt)]
      exact I2.freeC x c (sub x c e)
    · rw [List.append_nil] at hp
      obtain ⟨e, n, ne, nf, d⟩ := I2.pin p hp
      refine ⟨old _ _ e, ?_, ?_, fun z => ?_, d⟩
      · rw [upd_ne (Nat.ne_of_lt (pinlt p hp))]; exact n
      · exact neC _ (pinlt p hp)
      · rcases List.mem_cons.mp (I2.stkSub _ z) with z | z
        · exact ne z
        · exact nf z
    · exact I2.hok.laid old (Nat.le_refl _) ⟨Nat.zero_le _, [], 0, .nil, hacc⟩
    · show (pick idx σ).length = N'.length
      unfold pick
      rw [List.length_map]
      exact S.len
  have stat : ∀ {pl : List (Addr × Obj)} {H' : Hp}, (∀ b ∈ fp, H' b = none) → (∀ p ∈ pl, p.1 ∉ fp) → ∀ b ∈ fp, FpOk (compCx X N' scope P2.objs.size s₂ H2 fp (X.pn ++ pins)) pl H' b := fun {pl H'} hn hp b hb => by
    refine ⟨hn b hb, (ok.exf b hb).1, ok.exfs b hb, .inl hb, (ok.exf b hb).2, fun p hpp z => ?_⟩
    rcases List.mem_append.mp hpp with h1 | h1
    · exact (f2 b hb).2.2.2.2.2 p h1 z
    · exact hp p h1 (z ▸ hb)
  have loop : codeAny (model X.prog X.w) X.A (.compLoop (.ListComp elt [⟨tg, iter, ifs, 0⟩] scope pos) 0 (.ref it) (.ref s₂.heap.objs.size) (compEnvC scope (clOf X.env scope.names []) P2.objs.size X.env))
      (compPost (model X.prog X.w) X.A X.xe (some (assign (.Name y py) X.env)) (fun _ s' => SP X pins E' .next s') (.ref s₂.heap.objs.size) P2.objs.size) { s₂ with heap := h₁, toks := s₂.toks + ([] : List (Str × Value)).length } := by
    refine comp_loop (fun n s' => ∃ i σ' H', Inv (compCx X N' scope P2.objs.size s₂ H2 fp (X.pn ++ pins)) [] σ' H' s' ∧ tn i s'.heap ∧ (∀ b ∈ fp, H' b = none) ∧ W i n σ' H') ?_ m0
      ⟨0, _, _, I3, T.keep _ _ _ st2 fun b _ o e => old b o e, fun b hb => by rw [upd_ne (Nat.ne_of_lt (hlt b hb))]; exact (f2 b hb).1, w0⟩
    rintro n s3 ⟨i, σ3, H3, J3, st3, fr3, w3⟩
    rcases turn i n σ3 H3 w3 with ⟨stop, q⟩ | ⟨go, step⟩
    · refine wpAny_mono (T.done (compCx X N' scope P2.objs.size s₂ H2 fp (X.pn ++ pins)) rfl rfl rfl hc i [] s3 σ3 H3 (fun _ _ => False) J3 (stat fr3 (fun _ z => nomatch z)) st3 stop) (fun r s4 hr => ?_) fun _ _ z => z
      obtain ⟨rfl, J4⟩ := hr
      obtain ⟨m, hn, _⟩ := J4.loc
      have fC : H3 P2.objs.size = none := J4.free
      have un : Un (frs X.stack) fp H2 H3 s₂.heap s4.heap := J4.base
      have IO : Inv X pins σ H3 s4 := by
        refine I2.call' (s' := s4) (ch := fp) ?_ un J4.hok J4.bare fun b hb => ?_
        · exact J4.os
        · obtain ⟨f0, f1, f2', f3, f4, f5⟩ := f2 b hb
          exact ⟨f3, f1, f4, f5⟩
      have hCl : P2.objs.size ≠ X.env.locals := Ne.symm (neC _ I2.lt)
      have hCc : ∀ x c, X.env.cells.lookup x = some c → c ≠ P2.objs.size := fun x c e => by
        obtain ⟨v, q'⟩ := I2.cell x c e
        exact neC c q'.lt
      have hCp : ∀ p ∈ X.pn ++ pins, p.1 ≠ P2.objs.size := fun p hp => neC _ (pinlt p hp)
      refine (show wpAny _ _ (assign (.Name y py) X.env (.ref s₂.heap.objs.size)) _ _ s4 from wpAny_assign_Name ?_)
      refine store_ok2 (v := .ref s₂.heap.objs.size) IO hN hk hy rfl (fun s5 I5 hsb => ?_) hf
      obtain ⟨ad, hsb, had⟩ := hsb
      have hadC : P2.objs.size ≠ ad := by
        rcases had with z | z
        · rw [z]; exact hCl
        · exact Ne.symm (hCc _ _ z)
      refine ⟨m, hn.sameBut hsb hadC, fun h' hs' => ?_⟩
      refine ⟨_, H3, ?_, q⟩
      exact I5.turned (t' := s5.toks) (it := P2.objs.size) (fun b o hb e => hs'.extBut b o hb e) fC hCl (.inr (Nat.le_trans I2.sz (by omega))) hCc hCp
    · refine wpAny_mono (T.item (compCx X N' scope P2.objs.size s₂ H2 fp (X.pn ++ pins)) rfl rfl rfl hc i [] s3 σ3 H3 (fun _ _ => False) J3 (stat fr3 (fun _ z => nomatch z)) st3 go) (fun r s4 hr => ?_) fun _ _ z => z
      obtain ⟨u, rfl, h4⟩ := hr
      refine wpAny_mono h4 (fun _ s5 h5 => ?_) fun _ _ z => z
      obtain ⟨x, H5, J5, r5, y5, st5, fr5⟩ := h5
      have J5' := J5.pinned (stat fr5 (fun _ z => nomatch z)) (T.obj _ _ st5)
      refine wpAny_mono (hg _ _ _ _ _ _ s5 σ3 H5 x u _ J5' r5 (step x H5 y5)) (fun _ s6 h6 => ?_) fun _ _ z => z
      obtain ⟨σ6, H6, J6, q6⟩ := h6
      have again : ∀ {s9 : Shared} {σ9 : L2.St} {H9 : Hp}, Inv (compCx X N' scope P2.objs.size s₂ H2 fp (X.pn ++ pins)) ([] ++ pinsAt fp s5.heap) σ9 H9 s9 → (∃ m', m' < n ∧ W (i + 1) m' σ9 H9) →
          ∃ m, m < n ∧ ∃ i σ' H', Inv (compCx X N' scope P2.objs.size s₂ H2 fp (X.pn ++ pins)) [] σ' H' s9 ∧ tn i s9.heap ∧ (∀ b ∈ fp, H' b = none) ∧ W i m σ' H' := fun {s9 σ9 H9} J9 hw => by
        obtain ⟨m', hm, w9⟩ := hw
        refine ⟨m', hm, i + 1, σ9, H9, J9.unpinned, T.keep _ _ _ st5 fun b hb o e => (J9.pin (b, o) (List.mem_append_right _ (List.mem_append_right _ (mem_pinsAt hb e)))).1, fun b hb => ?_, w9⟩
        obtain ⟨o, e, d⟩ := T.obj _ _ st5 b hb
        exact (J9.pin (b, o) (List.mem_append_right _ (List.mem_append_right _ (mem_pinsAt hb e)))).2.1
      refine wpAny_mono (ht _ _ _ _ _ _ s6 σ6 H6 _ J6 q6) (fun ok' s7 h7 => ?_) fun _ _ z => z
      obtain ⟨H7, J7, q7⟩ := h7
      cases ok' with
      | false => exact again J7 q7
      | true =>
        refine wpAny_mono (he _ _ _ _ _ _ s7 σ6 H7 _ J7 q7) (fun xv2 s8 h8 => ?_) fun _ _ z => z
        obtain ⟨v, H8, J8, r8, ys, hD, hz, hw⟩ := h8
        refine wpAny_mono (mt_append (X := compCx X N' scope P2.objs.size s₂ H2 fp (X.pn ++ pins)) _ s8 σ6 H8 (.ref s₂.heap.objs.size) [v] (.ref s₂.heap.objs.size) [xv2] (fun _ H9 => ∃ m', m' < n ∧ W (i + 1) m' σ6 H9) J8 rfl (.cons r8 .nil) ⟨_, ys, v, rfl, rfl, hD, hz, hw⟩) (fun _ s9 h9 => ?_) fun _ _ z => z
        obtain ⟨_, H9, J9, _, q9⟩ := h9
        exact again J9 q9
  exact codeAny_compStart_list loop (T.self X.A 0 _ _ _ (T.keep _ _ _ st2 fun b _ o e => old b o e) loop)
end
end BF
namespace BF
open PySem PySem.Spec PyProof.Rows L2
def Ite (K : PySem.W.Frag) (a : Addr) : It :=
  ⟨fun i H => ∃ xs x, SqL K H a xs ∧ xs[i]? = some x, fun i H v H' => ∃ p x, v = .ref p ∧ H p = none ∧ H' = upd H p (.tup [.int i, x]) ∧ ∀ xs, SqL K H a xs → xs[i]? = some x, fun i H => ∃ xs, SqL K H a xs ∧ xs.length ≤ i⟩
theorem two_fits : 2 ≤ sizeLine := by decide
theorem enum_self {P : Program} {w : World} {A : Around} {E : Value → Shared → Prop} {s : Shared} {e it : Addr} {i : Int} {old : Value} {Q : Value → Shared → Prop} (he : IsEnum s.heap e it i old) (q : Q (.ref e) s) : wpAny (model P w) A (pyIter (.ref e)) Q E s := by
  have ty : s.TypeIs (.ref e) "enumerate" := ⟨_, he, rfl⟩
  refine wpAny_pyIter_slot ty F.slot_enumerate_iter (wpAny_call_entry F.slot_enumerate_iter ty F.entry_enumerate_iter ?_ (F.args_enumerate_iter_1 _))
  show wpAny _ _ (ret (.ref e)) _ _ s
  exact wpAny_pure ⟨_, rfl, "enumerate", _, ty, F.slot_enumerate_next.lookup, q⟩
theorem turn_enum {P : Program} {w : World} {K : PySem.W.Frag} {es : List Expr} {n : Nat} {p : Pos} {e it a : Addr} (ne : e ≠ it) :
    Turn P w K (.Tuple es n p) (Ite K a) [e, it] e (fun i h => (∃ old, IsEnum h e it (i : Int) old) ∧ h.IsListIter it a i) where
  mem := by simp
  obj := fun i h st c hc => by
    obtain ⟨⟨old, he⟩, hi⟩ := st
    simp only [List.mem_cons, List.not_mem_nil, or_false] at hc
    rcases hc with rfl | rfl
    · exact ⟨_, he, fun v t => by have t' : Data.fields _ = Data.cell v := t; cases t'⟩
    · obtain ⟨o, e', _, d⟩ := hi
      exact ⟨o, e', fun v z => by rw [d] at z; cases z⟩
  keep := fun i h h' st k => by
    obtain ⟨⟨old, he⟩, hi⟩ := st
    exact ⟨⟨old, k e (by simp) _ he⟩, hi.at fun o e' => k it (by simp) o e'⟩
  item := by
    intro X hP hw hK hc i pins s σ H E I hf st hg
    subst hP hw hK
    obtain ⟨xs, x, q, hx⟩ := hg
    obtain ⟨⟨old, he⟩, hi⟩ := st
    obtain ⟨us, ru, pu, _⟩ := I.list q
    obtain ⟨u, hu, eu⟩ := ru.get hx
    refine wpAny_pyNext_enum_item he hi pu.isList (x := u) (by simpa using hu) ne fun h1 he1 hi1 pr sz1 k1 => ?_
    refine ⟨_, rfl, wpAny_letOwnedTupleGo_enum (s := { s with heap := h1, toks := s.toks + 1 }) he1 fun h2 he2 sb => ?_⟩
    have hfr : H s.heap.objs.size = none := I.hok.fresh (Nat.le_refl _)
    have Im : Inv X pins σ (upd H s.heap.objs.size (.tup [.int (i : Int), x])) { s with heap := s.heap.push { cls := .type "tuple", data := .seq #[.int i s.toks, u] }, toks := s.toks + 1 } :=
      I.laid (fun b o e => Heap.get?_push_of_some _ e) (Nat.le_refl _) ⟨two_fits, [.int i s.toks, u], .cons ⟨_, rfl⟩ (.cons eu .nil), ⟨_, Heap.get?_push_size _ rfl, rfl, _, rfl⟩⟩
    have nfp : ∀ c ∈ [e, it], c ≠ s.heap.objs.size := fun c hc' t => by
      have lt : c < s.heap.objs.size := by
        simp only [List.mem_cons, List.not_mem_nil, or_false] at hc'
        rcases hc' with rfl | rfl
        · exact Heap.lt_size he
        · obtain ⟨o, e', _⟩ := hi; exact Heap.lt_size e'
      exact absurd lt (by rw [t]; exact Nat.lt_irrefl _)
    have ff : ∀ c ∈ [e, it], FpOk X pins (upd H s.heap.objs.size (.tup [.int (i : Int), x])) c := fun c hc' => by
      obtain ⟨f0, fr⟩ := hf c hc'
      exact ⟨by rw [upd_ne (nfp c hc')]; exact f0, fr⟩
    have kk : ∀ c o, c ∉ [e, it] → (s.heap.push { cls := .type "tuple", data := .seq #[.int i s.toks, u] }).get? c = some o → h2.get? c = some o := fun c o hc' e' => by
      have ce : c ≠ e := fun t => hc' (by simp [t])
      have ci : c ≠ it := fun t => hc' (by simp [t])
      rcases Heap.get?_push_cases e' with ⟨rfl, rfl⟩ | e'
      · exact sb.extBut _ _ ce pr
      · exact sb.extBut _ _ ce (k1 c o ce ci e')
    have I2 := inv_turns (h' := h2) (t' := s.toks + 1) Im kk ff
    refine ⟨.ref s.heap.objs.size, upd H s.heap.objs.size (.tup [.int (i : Int), x]), I2, rfl, ⟨_, x, rfl, hfr, rfl, fun xs' q' => ?_⟩, ?_, fun c hc' => (ff c hc').1⟩
    · rw [I.list_inj q' q]; exact hx
    · exact ⟨⟨u, he2⟩, hi1.at fun o e' => sb.extBut _ _ (Ne.symm ne) e'⟩
  done := by
    intro X hP hw hK hc i pins s σ H E I hf st hg
    subst hP hw hK
    obtain ⟨xs, q, hl⟩ := hg
    obtain ⟨⟨old, he⟩, hi⟩ := st
    obtain ⟨us, ru, pu, _⟩ := I.list q
    have l1 := ru.length
    exact wpAny_pyNext_enum_end (I.ok.hd hc) he hi pu.isList (by simp; omega) fun h1 k1 =>
      ⟨rfl, inv_turns (t' := s.toks) (L := [e, it]) I (fun c o hc' e' => k1 c o (fun t => hc' (by simp [t])) e') hf⟩
  self := fun _ _ _ _ _ st h => by
    obtain ⟨⟨old, he⟩, _⟩ := st
    exact enum_self he h
section
variable {X : Cx}
def iEnum (K : PySem.W.Frag) (ta : TA) : TI := fun σ H R => ta σ H fun vs H1 => ∃ a xs, vs = [.ref a] ∧ SqL K H1 a xs ∧ R (Ite K a) H1
theorem pi_enum {es : List Expr} {n : Nat} {pt : Pos} {a : Expr} {ta : TA} {p pos : Pos} (hg : Gl X "enumerate") (hm : X.mg "enumerate" = none) (ha : PA X [a] ta) (hs : starEach [a] X.env = [(false, eval a X.env)] := by rfl) :
    PI X (.Tuple es n pt) (.Call (.Name "enumerate" p) [a] [] pos) (iEnum X.K ta) := by
  intro pins s σ H R I h
  refine Call_ (ld_blt I hg hm boot_enumerate (PyProof.Rows.callWith_type1 (thn (ha pos pins s σ H _ I h) fun us s1 ⟨vs, H1, I1, r1, q1⟩ => ?_) hs rfl))
  obtain ⟨x, xs, e, q, qr⟩ := q1
  subst e
  cases r1 with
  | cons r rr =>
    cases rr
    cases r
    obtain ⟨us, ru, pu, _⟩ := I1.list q
    refine call_enumerate_list pu.isList fun h' he hi _ k => ?_
    refine enum_self (s := { s1 with heap := h' }) he ?_
    refine ⟨_, _, _, _, H1, rfl, I1.kept (t' := s1.toks) k, turn_enum (Ne.symm (Nat.ne_of_lt (Nat.lt_succ_self _))), ⟨⟨_, he⟩, hi⟩, fun c hc => ?_, qr⟩
    have hs : s1.heap.objs.size ≤ c := by
      simp only [List.mem_cons, List.not_mem_nil, or_false] at hc
      rcases hc with rfl | rfl
      · exact Nat.le_succ _
      · exact Nat.le_refl _
    exact I1.fpOk hs (I1.hok.fresh hs)
end
end BF
namespace BF
open PySem PySem.Spec PyProof.Rows L2
section
variable {X : Cx}
def CDivL (i j : Int) : Prop := 0 < j ∧ j < 2 ^ 90
theorem op_fdivL : OpR X (binaryOp .FloorDiv) (rI CDivL fun i j => .int (i / j)) := opI fun i j _ _ _ _ _ hc q => by
  have h1 : (0 : Int) < j := hc.1
  have h2 : j < 2 ^ 90 := hc.2
  refine floordiv_int (by omega) (by rw [Int.fdiv_eq_ediv_of_nonneg i (by omega)]; exact q) (.inl (PyProof.noPylong_of_log2 ?_))
  have h3 : j.natAbs < 2 ^ 90 := by omega
  have := (Nat.log2_lt (by omega)).mpr h3
  omega
end
theorem pe_p24 {X : Cx} {j1 j2 : Nat} {p1 p2 pos : Pos} : PE X (.BinOp (.Constant (.int 10) j1 p1) .Pow (.Constant (.int 24) j2 p2) pos) (tC (.int 1000000000000000000000000)) :=
  pe_imp (pe_op op_pow pe_int pe_int) fun σ H Q q => ⟨10, 24, rfl, rfl, ⟨by decide, by decide, by decide⟩, by
    have e : ((10 : Int) ^ (24 : Int).toNat) = 1000000000000000000000000 := by decide
    show Q (V.int _) H
    rw [e]; exact q⟩
theorem for_enum {K : PySem.W.Frag} {a : Addr} {xs : List V} {g : TG} {tb : TS} {D : Ends} {σ : L2.St} {H : Hp} (Pv : Nat → L2.St → Hp → Prop) (h0 : Pv 0 σ H) (hl : ∀ i σ H, i ≤ xs.length → Pv i σ H → SqL K H a xs)
    (hs : ∀ i x p σ H, xs[i]? = some x → Pv i σ H → H p = none → g (.ref p) σ (upd H p (.tup [.int i, x])) fun σ2 H2 => tb { D with nx := Pv (i + 1), ct := Pv (i + 1), bk := D.nx } σ2 H2) (hd : ∀ σ H, Pv xs.length σ H → D.nx σ H) :
    ∃ W : Nat → Nat → L2.St → Hp → Prop, (∃ m, W 0 m σ H) ∧ ∀ i m σ H, W i m σ H →
      ((Ite K a).stop i H ∧ D.nx σ H) ∨ ((Ite K a).go i H ∧ ∃ N : L2.St → Hp → Prop, (∀ σ' H', N σ' H' → ∃ m', m' < m ∧ W (i + 1) m' σ' H') ∧ ∀ x H', (Ite K a).yld i H x H' → g x σ H' fun σ2 H2 => tb { D with nx := N, ct := N, bk := D.nx } σ2 H2) := by
  refine ⟨fun i m σ H => m = xs.length - i ∧ i ≤ xs.length ∧ Pv i σ H, ⟨xs.length, by simp, Nat.zero_le _, h0⟩, ?_⟩
  rintro i m σ H ⟨rfl, hi, p⟩
  have q := hl i σ H hi p
  by_cases hlt : i < xs.length
  · refine .inr ⟨⟨xs, xs[i], q, by simp [hlt]⟩, Pv (i + 1), fun σ' H' p' => ⟨xs.length - (i + 1), by omega, rfl, hlt, p'⟩, fun v H' y => ?_⟩
    obtain ⟨r, x, rfl, hr, rfl, e1⟩ := y
    exact hs i x r σ H (e1 xs q) p hr
  · have e : i = xs.length := by omega
    subst e
    exact .inl ⟨⟨xs, q, Nat.le_refl _⟩, hd σ H p⟩
end BF
namespace BF
open PySem PySem.Spec PyProof.Rows L2
def FrzV (P : Program) (w : World) (H : Hp) (a : Addr) (kvs : List (Dt × V)) : Prop := ∃ o xs, H a = some (.frz o (dicO P w a xs)) ∧ (∀ x ∈ xs, DtIs H (.ref x.2.1) x.1 ∧ x.1.dp ≤ 8) ∧ KD kvs xs
theorem FrzV.same {P : Program} {w : World} {H H' : Hp} {a : Addr} {kvs : List (Dt × V)} (d : FrzV P w H a kvs) (s : Same H H') : FrzV P w H' a kvs := by
  obtain ⟨o, xs, e, k, kd⟩ := d
  exact ⟨o, xs, s _ _ e, fun x hx => ⟨(k x hx).1.same s, (k x hx).2⟩, kd⟩
theorem FrzV.of {P : Program} {w : World} {H : Hp} {a : Addr} {kvs : List (Dt × V)} {φ : Heap → Prop} (d : DicV P w H a kvs) (e : H a = some (.ext φ)) (o : Obj) : FrzV P w (upd H a (.frz o (.ext φ))) a kvs := by
  obtain ⟨xs, dic, kd⟩ := d
  have e2 := dic.at_
  rw [e] at e2
  refine ⟨o, xs, by rw [upd_same, Option.some.inj e2], fun x hx => ⟨DtIs.updX e (dic.key x hx).1, (dic.key x hx).2⟩, kd⟩
section
variable {X : Cx}
def tDGetF (P : Program) (w : World) (td ty : TE) : TE := fun σ H Q => td σ H fun x H1 => ty σ H1 fun y H2 => ∃ a b d kvs v, x = .ref a ∧ y = .ref b ∧ DtIs H2 (.ref b) d ∧ d.dp ≤ 8 ∧ FrzV P w H2 a kvs ∧ valV kvs d = some v ∧ Q v H2
theorem pe_dgetF {k : Nat} {o i : Expr} {td ty : TE} {pos : Pos} (hr : Room k X.A) (ho : PE X o td) (hi : PE X i ty) (hs : NoSl i) : PE X (.Subscript o i pos) (tDGetF X.prog X.w td ty) := by
  intro pins s σ H Q I h
  have hu := hr.units
  refine subD_of PySem.F.slot_dict_getitem.lookup hs (thn (ho pins s σ H _ I h) fun u s1 ⟨x, H1, I1, rx, q1⟩ => thn (hi pins s1 σ H1 _ I1 q1) fun iv s2 ⟨y, H2, I2, ry, a, b, d, kvs, v, ex, ey, hd, h8, ⟨o', xs, ea, ka, r⟩, hv, q2⟩ => ?_)
  subst ex ey
  obtain rfl : u = Value.ref a := rx
  obtain rfl : iv = Value.ref b := ry
  have ok := (show ObjOk X.prog X.w H2 s2.heap a (.frz o' (dicO X.prog X.w a xs)) from I2.hok a _ ea)
  have full : s2.heap.DictOfH (dtKind X.prog X.w) a xs := DicPart.full ok.2.1 fun x hx => ⟨datH_of I2 (ka x hx).1 rfl, (ka x hx).2⟩
  have rel := r.val d
  rw [hv] at rel
  cases hk : atKey xs d with
  | none => rw [hk] at rel; exact absurd rel id
  | some p =>
    rw [hk] at rel
    refine ⟨full.typeIs, wpAny_getItem_heap (knd := dtKind X.prog X.w) (by show X.A.units + 1 + 9 < cLine; omega) ⟨datH_of I2 hd rfl, h8⟩ full hk ⟨v, H2, I2.tok _, rel, q2⟩⟩
theorem call_listD {k : Nat} (hr : Room k X.A) : CallR X (.type "list") (fun xs H Q => ∃ (a : Addr) (kvs : List (Dt × V)), xs = [.ref a] ∧ DicV X.prog X.w H a kvs ∧ ∀ l zs, H l = none → DtsIs H zs (kvs.map (·.1)) → Q (.ref l) (upd H l (.lst zs))) := by
  intro pins s σ H xs us Q I r h
  obtain ⟨a, kvs, rfl, ⟨ys, dic, kd⟩, q⟩ := h
  obtain ⟨u, rfl, rx⟩ := vals1 r
  cases rx
  obtain ⟨ep, raw⟩ := raw_of I dic
  refine PySem.W.kdl_call (src_drw (ks := ys.map fun x => Value.ref x.2.1) (ep := ep) dic.sys) hr.hd raw (by rw [List.length_map]; exact sz dic.len) fun h' tk acc c kk gS it => ?_
  have e : acc.toList = ys.map fun x => Value.ref x.2.1 := items_eq (P' := fun _ _ => True) it
  have dk := dts_keys (P := X.prog) (w := X.w) (H := H) dic.key
  refine ⟨.ref s.heap.objs.size, _, I.laid (t' := tk) kk (Nat.le_refl _) (show ObjOk X.prog X.w _ h' _ (.lst (ys.map fun x => V.ref x.2.1)) from ⟨by rw [List.length_map]; exact sz dic.len, acc.toList, c, by rw [e]; exact vals_refs ys, by rw [Array.toArray_toList]; exact gS⟩), rfl, q _ _ (I.hok.fresh (Nat.le_refl _)) (by rw [kd.keys]; exact dk)⟩
end
end BF
namespace BF
open PySem PySem.Spec PyProof.Rows L2 PySem.SeqAt
abbrev Rw := Ho × List Dt × Int
def RwIs (H : Hp) (v : V) (r : Rw) : Prop := ∃ a q l, v = .ref a ∧ H a = some (.tup [.ref q, .ref l, .int r.2.2]) ∧ two H q r.1 ∧ DtL H l r.2.1 ∧ ∀ d ∈ r.2.1, d.dp ≤ 40
theorem RwIs.same {H H' : Hp} {v : V} {r : Rw} (h : RwIs H v r) (s : Same H H') : RwIs H' v r := let ⟨a, q, l, e, ea, t, d, k⟩ := h; ⟨a, q, l, e, s _ _ ea, s _ _ t, d.same s, k⟩
def RwsIs (H : Hp) (ps : List (V × Rw)) : Prop := ∀ p ∈ ps, RwIs H p.1 p.2
theorem RwsIs.same {H H' : Hp} {ps : List (V × Rw)} (h : RwsIs H ps) (s : Same H H') : RwsIs H' ps := fun p hp => (h p hp).same s
theorem perm_lift {α β : Type} {f : α → β} {zs ys : List β} (p : zs.Perm ys) : ∀ {ps : List α}, zs = ps.map f → ∃ ps' : List α, ps'.Perm ps ∧ ys = ps'.map f := by
  induction p with
  | nil => intro ps e; exact ⟨ps, .refl _, e⟩
  | cons x _ ih =>
    intro ps e
    cases ps with
    | nil => cases e
    | cons a ps =>
      rw [List.map_cons] at e
      injection e with e1 e2
      obtain ⟨ps', p', e'⟩ := ih e2
      exact ⟨a :: ps', p'.cons a, by rw [List.map_cons, e1, e']⟩
  | swap x y l =>
    intro ps e
    match ps, e with
    | a :: b :: ps, e =>
      rw [List.map_cons, List.map_cons] at e
      injection e with e1 e2
      injection e2 with e2 e3
      exact ⟨b :: a :: ps, .swap _ _ _, by rw [List.map_cons, List.map_cons, e1, e2, e3]⟩
  | trans _ _ ih1 ih2 =>
    intro ps e
    obtain ⟨ps1, p1, e1⟩ := ih1 e
    obtain ⟨ps2, p2, e2⟩ := ih2 e1
    exact ⟨ps2, p2.trans p1, e2⟩
section
variable {X : Cx} {pins : List (Addr × Obj)} {σ : L2.St} {H : Hp} {s : Shared}
theorem rowEqAt (I : Inv X pins σ H s) (A : Around) {v v' : V} {u u' : Value} {r : Rw} (h : RwIs H v r) (rv : RelV v u) (h' : RwIs H v' r) (rv' : RelV v' u') (hu : A.units + 50 < cLine) : EqAt A s u u' true := by
  obtain ⟨a, q, l, rfl, ea, t, ⟨lv, el, dl⟩, k⟩ := h
  obtain ⟨a', q', l', rfl, ea', t', ⟨lv', el', dl'⟩, k'⟩ := h'
  cases rv
  cases rv'
  by_cases hab : a = a'
  · subst hab
    exact EqAt.same _
  · obtain ⟨its, rv, p, _⟩ := I.tuple (SqT.of ea)
    obtain ⟨its', rv', p', _⟩ := I.tuple (SqT.of ea')
    cases rv with
    | cons r1 rs => cases rs with
      | cons r2 rs => cases rs with
        | cons r3 rs =>
          cases rs
          cases rv' with
          | cons r1' rs => cases rs with
            | cons r2' rs => cases rs with
              | cons r3' rs =>
                cases rs
                have d1 : DtIs H (.ref q) (hD r.1) := two_dt t
                have d1' : DtIs H (.ref q') (hD r.1) := two_dt t'
                have hol := eqAt_D I A.in1 d1 r1 d1' r1' (by show A.units + 1 + _ < _; rw [hD_dp1]; omega)
                rw [Dt.beq_self] at hol
                have lis : EqAt A.in1 s (.ref l) (.ref l') true := by
                  have := listEqAt I A.in1 el el' dl dl' k (by show A.units + 1 + 45 < _; omega)
                  rw [Dt.beqs_self] at this
                  exact this
                cases r2
                cases r2'
                obtain ⟨tk, rfl⟩ := r3
                obtain ⟨tk', rfl⟩ := r3'
                have num : EqAt A.in1 s (.int r.2.2 tk) (.int r.2.2 tk') true := by
                  have := EqAt.int_int (A := A.in1) (s := s) r.2.2 tk r.2.2 tk'
                  simpa using this
                have R := RcAt.tuples (A := A) (s := s) (e := fun _ => true) p p' (by omega) (fun j j1 j2 => by
                  match j, j1, j2 with
                  | 0, _, _ => exact hol
                  | 1, _, _ => exact lis
                  | 2, _, _ => exact num
                  | j + 3, j1, _ => exact absurd j1 (by simp))
                have R2 : RcAt A s (.ref a) (.ref a') ((List.range (min 3 3)).all (fun _ => true) && ((3 : Nat) == 3)) := R
                have e : ((List.range (min 3 3)).all (fun _ => true) && ((3 : Nat) == 3)) = true := by decide
                rw [e] at R2
                exact EqAt.of_refs hab R2
end
section
variable {X : Cx}
theorem op_eqRw {k : Nat} (hr : Room k X.A) : OpR X (compareOp .Eq) (fun x y H Q => ∃ (a b : Addr) (ps qs : List (V × Rw)), x = .ref a ∧ y = .ref b ∧ SqL X.K H a (ps.map (·.1)) ∧ SqL X.K H b (qs.map (·.1)) ∧ RwsIs H ps ∧ RwsIs H qs ∧ ps.map (·.2) = qs.map (·.2) ∧ Q (.bl true) H) := by
  intro pins s σ H x y v u Q I rx ry h
  obtain ⟨a, b, ps, qs, rfl, rfl, hx, hy, hp, hq, e, q⟩ := h
  have hu := hr.units
  cases rx
  cases ry
  obtain ⟨its, rv, p, _⟩ := I.list hx
  obtain ⟨its', rv', p', _⟩ := I.list hy
  have n0 : ps.length = qs.length := by
    have := congrArg List.length e
    simpa using this
  have n1 : its.length = ps.length := by rw [← rv.length, List.length_map]
  have n2 : its'.length = qs.length := by rw [← rv'.length, List.length_map]
  have R := RcAt.lists (A := X.A) (s := s) (e := fun _ => true) p.isList p'.isList (by rw [List.size_toArray, List.size_toArray, n1, n2, n0]) (by omega) (fun j j1 j2 => by
    have j1' : j < its.length := by simpa using j1
    have j2' : j < its'.length := by simpa using j2
    have jp : j < ps.length := by omega
    have jq : j < qs.length := by omega
    obtain ⟨u1, e1, r1⟩ := rv.get (i := j) (x := ps[j].1) (by rw [List.getElem?_map, List.getElem?_eq_getElem jp]; rfl)
    obtain ⟨u2, e2, r2⟩ := rv'.get (i := j) (x := qs[j].1) (by rw [List.getElem?_map, List.getElem?_eq_getElem jq]; rfl)
    rw [List.getElem?_eq_getElem j1'] at e1
    rw [List.getElem?_eq_getElem j2'] at e2
    have er : ps[j].2 = qs[j].2 := by
      have := congrArg (fun l => l[j]?) e
      simp only [List.getElem?_map, List.getElem?_eq_getElem jp, List.getElem?_eq_getElem jq, Option.map_some, Option.some.injEq] at this
      exact this
    have E := rowEqAt I X.A.in1 (hp _ (List.getElem_mem jp)) r1 (er ▸ hq _ (List.getElem_mem jq)) r2 (by show X.A.units + 1 + 50 < cLine; omega)
    rw [← Option.some.inj e1, ← Option.some.inj e2] at E
    simpa using E)
  have e : ((List.range its.toArray.size).all fun _ => true) = true := by simp
  rw [e] at R
  exact R X.prog X.w X.xe _ ⟨.bl _, H, I, rfl, q⟩
end
end BF
namespace BF
open PySem PySem.Spec PyProof.Rows L2
def RwM (H : Hp) (M : Addr) (p : V × Rw) : Prop := ∃ a q l, p.1 = .ref a ∧ a ≠ M ∧ l ≠ M ∧ H a = some (.tup [.ref q, .ref l, .int p.2.2.2]) ∧ two H q p.2.1 ∧ DtL H l p.2.2.1 ∧ ∀ d ∈ p.2.2.1, d.dp ≤ 40
theorem RwM.is {H : Hp} {M : Addr} {p : V × Rw} (h : RwM H M p) : RwIs H p.1 p.2 := let ⟨a, q, l, e, _, _, ea, t, d, k⟩ := h; ⟨a, q, l, e, ea, t, d, k⟩
theorem RwM.same {H H' : Hp} {M : Addr} {p : V × Rw} (h : RwM H M p) (s : Same H H') : RwM H' M p := let ⟨a, q, l, e, n1, n2, ea, t, d, k⟩ := h; ⟨a, q, l, e, n1, n2, s _ _ ea, s _ _ t, d.same s, k⟩
theorem RwM.upd {H : Hp} {M : Addr} {p : V × Rw} {ys : List V} {o : HO} (h : RwM H M p) (e : H M = some (.lst ys)) : RwM (upd H M o) M p := by
  obtain ⟨a, q, l, ep, n1, n2, ea, t, ⟨vs, el, dl⟩, k⟩ := h
  refine ⟨a, q, l, ep, n1, n2, by rw [upd_ne n1]; exact ea, ?_, ⟨vs, by rw [upd_ne n2]; exact el, dl.updL e⟩, k⟩
  show L2.upd H M o q = _
  rw [upd_ne (fun z => by
    rw [z] at t
    have := t.symm.trans e
    cases this)]
  exact t
end BF
namespace BF
open PySem PySem.Spec PyProof.Rows L2 PySem.SeqAt
section
variable {X : Cx} {pins : List (Addr × Obj)} {σ : L2.St} {H : Hp} {s : Shared}
def HeadOf (H : Hp) (u : Value) (p : Ho) : Prop := ∃ a q l n, u = Value.ref a ∧ H a = some (.tup [.ref q, .ref l, .int n]) ∧ two H q p
theorem HeadOf.inj {u : Value} {p q : Ho} (h : HeadOf H u p) (h' : HeadOf H u q) : p = q := by
  obtain ⟨a, x, l, n, rfl, e, t⟩ := h
  obtain ⟨a', x', l', n', e1, e', t'⟩ := h'
  cases e1
  rw [e] at e'
  cases e'
  have d := DtIs.inj (two_dt t) (two_dt t')
  exact hD_inj d
open Classical in
noncomputable def headKey (H : Hp) (p : Keyed) : Dt := if h : ∃ d, HeadOf H p.1 d then hD (Classical.choose h) else .int 0
theorem headKey_eq {p : Keyed} {d : Ho} (h : HeadOf H p.1 d) : headKey H p = hD d := by
  have hx : ∃ d, HeadOf H p.1 d := ⟨d, h⟩
  unfold headKey
  rw [dif_pos hx, HeadOf.inj (Classical.choose_spec hx) h]
theorem lk_R (I : Inv X pins σ H s) {A : Around} {prog : Program} {w : World} {f : Bool} (hf : f = false) (hu : A.units + 5 < cLine) {q l q' l' : Addr} {n n' : Int} {p p' : Ho} {us us' : List Value} (t : two H q p) (t' : two H q' p') (rv : Vals [.ref q, .ref l, .int n] us) (rv' : Vals [.ref q', .ref l', .int n'] us') (hne : p ≠ p') :
    Lk A s prog w f 0 us us' (Dt.blt (hD p) (hD p')) := by
  cases rv with
  | cons r1 rs => cases rv' with
    | cons r1' rs' =>
      have d1 : DtIs H (.ref q) (hD p) := two_dt t
      have d1' : DtIs H (.ref q') (hD p') := two_dt t'
      have hq := eqAt_D I A d1 r1 d1' r1' (by rw [hD_dp1]; omega)
      rw [show Dt.beq (hD p) (hD p') = false from Dt.beq_false.mpr fun e => hne (hD_inj e)] at hq
      exact .part _ _ hq fun E Q k => oneLt_D I d1 r1 d1' r1' (hD_like _ _) (by rw [hD_dp1]; omega) (fun hg => by rw [hf] at hg; exact absurd hg (by simp)) k
theorem lk_same {A : Around} {prog : Program} {w : World} {f : Bool} : ∀ (us : List Value) (i : Nat), Lk A s prog w f i us us false
  | [], i => .both i
  | u :: us, i => .like (EqAt.same _) (lk_same us (i + 1))
noncomputable def ordR (I : Inv X pins σ H s) (prog : Program) (w : World) (A : Around) (E : Value → Shared → Prop) (f : Bool) (hf : f = false) (us : List Value) (hd : ∀ u ∈ us, ∃ p, HeadOf H u p) (nd : ∀ u ∈ us, ∀ u' ∈ us, ∀ p, HeadOf H u p → HeadOf H u' p → u = u') (hu : A.units + 5 < cLine) :
    Ord (model prog w) A E s (tupKind f) where
  O := dtOrd
  key := headKey H
  G := fun p => p.1 ∈ us
  lt := fun {st x y Q} hk gx gy h => by
    obtain ⟨p, hp⟩ := hd _ gx
    obtain ⟨p', hp'⟩ := hd _ gy
    rw [headKey_eq hp, headKey_eq hp'] at h
    have h : Q (some (Dt.blt (hD p) (hD p'))) st := h
    obtain ⟨x1, x2⟩ := x
    obtain ⟨y1, y2⟩ := y
    have same := nd x1 gx y1 gy
    obtain ⟨a, q, l, n, e1, ea, t⟩ := id hp
    obtain ⟨a', q', l', n', e1', ea', t'⟩ := id hp'
    have e1 : x1 = .ref a := e1
    have e1' : y1 = .ref a' := e1'
    rw [lt'_eq]
    refine wpS_bind (wpS_get ?_)
    rw [hk]
    obtain ⟨its, rv, pt, _⟩ := I.tuple (SqT.of ea)
    obtain ⟨its', rv', pt', _⟩ := I.tuple (SqT.of ea')
    by_cases hab : p = p'
    · have e : x1 = y1 := same p hp (hab ▸ hp')
      subst e
      rw [hab, Dt.irr] at h
      subst e1
      refine wpS_bind (wpS_lift (wpAny_attempt (keyLt_lk pt pt (lk_same _ 0) ⟨rfl, ?_⟩)))
      exact wpS_pure h
    · subst e1 e1'
      refine wpS_bind (wpS_lift (wpAny_attempt (keyLt_lk pt pt' (lk_R I hf hu t t' rv rv' hab) ⟨rfl, ?_⟩)))
      exact wpS_pure h
theorem katR (I : Inv X pins σ H s) {ys : List V} {us : List Value} (rv : Vals ys us) (hs : ∀ v ∈ ys, ∃ a q l n p, v = .ref a ∧ H a = some (.tup [.ref q, .ref l, .int n]) ∧ two H q p) :
    ∃ fs, PySem.W.KatTups s.heap us fs ∧ fs.length = us.length ∧ ∀ f ∈ fs, ∃ e, DatOf H f e ∧ e.tag = "tuple" := by
  induction rv with
  | nil => exact ⟨[], trivial, rfl, fun _ z => nomatch z⟩
  | cons r rs ih =>
    obtain ⟨fs, k, lf, hf⟩ := ih fun v hv => hs v (List.mem_cons_of_mem _ hv)
    obtain ⟨a, q, l, n, p, rfl, ea, t⟩ := hs _ (List.mem_cons_self ..)
    cases r
    obtain ⟨its, rv, ⟨o, ho, hc, n', hd⟩, _⟩ := I.tuple (SqT.of ea)
    cases rv with
    | cons r1 r2 =>
      refine ⟨_ :: fs, PySem.W.KatTups.cons ho hc hd rfl k, by simp [lf], fun f hf' => ?_⟩
      rcases List.mem_cons.mp hf' with rfl | hf'
      · exact ⟨hD p, ⟨_, r1, two_dt t⟩, rfl⟩
      · exact hf f hf'
end
section
variable {X : Cx}
def rSortRw (X : Cx) : List V → Hp → VK → Prop := fun xs H Q => ∃ (a : Addr) (ps : List (V × Rw)), xs = [.ref a] ∧ SqL X.K H a (ps.map (·.1)) ∧ RwsIs H ps ∧ (ps.map fun p => p.2.1).Nodup ∧
  ∀ (l : Addr) (ps' : List (V × Rw)), H l = none → ps'.Perm ps → (ps'.map fun p => hD p.2.1).Pairwise (fun d d' => Dt.blt d' d = false) → Q (.ref l) (upd H l (.lst (ps'.map (·.1))))
theorem call_sortedRw {k : Nat} (hr : Room k X.A) : CallR X (.builtin "sorted") (rSortRw X) := by
  intro pins s σ H xs us Q I r h
  obtain ⟨a, ps, rfl, hS, hR, hN, q⟩ := h
  have hu := hr.units
  obtain ⟨u, rfl, r1⟩ := vals1 r
  cases r1
  obtain ⟨its, rv, p, hz⟩ := I.list hS
  have hlen : its.length ≤ sizeLine := by rw [← rv.length]; exact hz
  have ipl : its.length = ps.length := by rw [← rv.length, List.length_map]
  have I6 : Inv X pins σ H { s with heap := midHeap (bagHeap s.heap its) (s.heap.objs.size + 1) its } := I.kept (t' := s.toks) fun b o e => mid_old e
  have hat : ∀ (i : Nat) (u : Value), its[i]? = some u → ∃ pr : V × Rw, ps[i]? = some pr ∧ HeadOf H u pr.2.1 := fun i u e => by
    have hi : i < ps.length := by
      have := (List.getElem?_eq_some_iff.mp e).1
      omega
    obtain ⟨u', e', r'⟩ := rv.get (i := i) (x := ps[i].1) (by rw [List.getElem?_map, List.getElem?_eq_getElem hi]; rfl)
    rw [e] at e'
    cases e'
    obtain ⟨a, q, l, ev, ea, t, _⟩ := hR _ (List.getElem_mem hi)
    rw [ev] at r'
    cases r'
    exact ⟨ps[i], List.getElem?_eq_getElem hi, a, q, l, _, rfl, ea, t⟩
  have hd : ∀ u ∈ its, ∃ p, HeadOf H u p := fun u hu' => by
    obtain ⟨i, ei⟩ := List.mem_iff_getElem?.mp hu'
    obtain ⟨pr, _, h⟩ := hat i u ei
    exact ⟨_, h⟩
  have nd : ∀ u ∈ its, ∀ u' ∈ its, ∀ p, HeadOf H u p → HeadOf H u' p → u = u' := fun u h1 u' h2 p k1 k2 => by
    obtain ⟨i, ei⟩ := List.mem_iff_getElem?.mp h1
    obtain ⟨j, ej⟩ := List.mem_iff_getElem?.mp h2
    obtain ⟨pr, epr, m1⟩ := hat i u ei
    obtain ⟨pr', epr', m2⟩ := hat j u' ej
    have z1 := k1.inj m1
    have z2 := k2.inj m2
    have hi : i < ps.length := (List.getElem?_eq_some_iff.mp epr).1
    have hj : j < ps.length := (List.getElem?_eq_some_iff.mp epr').1
    have ne := List.pairwise_iff_getElem.mp hN
    have ai : (ps.map fun p => p.2.1)[i]'(by simpa using hi) = pr.2.1 := by
      rw [List.getElem_map]
      rw [List.getElem?_eq_getElem hi] at epr
      rw [Option.some.inj epr]
    have aj : (ps.map fun p => p.2.1)[j]'(by simpa using hj) = pr'.2.1 := by
      rw [List.getElem_map]
      rw [List.getElem?_eq_getElem hj] at epr'
      rw [Option.some.inj epr']
    have hij : i = j := by
      rcases Nat.lt_trichotomy i j with h | h | h
      · exact absurd (ai.trans (z1.symm.trans (z2.trans aj.symm))) (ne i j _ _ h)
      · exact h
      · exact absurd (aj.trans (z2.symm.trans (z1.trans ai.symm))) (ne j i _ _ h)
    subst hij
    rw [ei] at ej
    exact Option.some.inj ej
  have ff : (Value.type "tuple" != Value.type "tuple") = false := by simp
  refine sorted_any (kd := tupKind (Value.type "tuple" != Value.type "tuple")) p.isList hlen (fun x y => Dt.blt (headKey H y) (headKey H x) = false) (fun h2 A' E' Q' q' => ?_) (fun A' E' hA => ?_) fun ks kp ku => ?_
  · obtain ⟨fs, k, lf, hf⟩ := katR I6 rv fun v hv => by
      obtain ⟨pr, hpr, rfl⟩ := List.mem_map.mp hv
      obtain ⟨a, q, l, ev, ea, t, _⟩ := hR _ hpr
      exact ⟨a, q, l, _, _, ev, ea, t⟩
    refine PySem.W.kat_kind (T := .type "tuple") k (by omega) (fun v hv => ?_) (by simp) q'
    obtain ⟨e, he, et⟩ := hf v hv
    exact et ▸ looks_D I6 he
  · refine ⟨ordR I6 X.prog X.w A' E' _ ff its hd nd (by omega), fun i x ex => ?_, fun x y hxy => hxy⟩
    have hx : (pairsOf its).toList[i]? = some x := by simpa using ex
    rw [pairsOf_toList, List.getElem?_zip_eq_some] at hx
    exact List.mem_of_getElem? hx.1
  · have kl : ks.toList.Perm (its.zip its) := by rw [← pairsOf_toList]; exact Array.perm_iff_toList_perm.mp kp
    have k2 : ((ks.map (·.2)).toList).Perm its := by
      rw [Array.toList_map]
      have := kl.map (·.2)
      rwa [List.map_snd_zip (by omega)] at this
    have k12 : ∀ x ∈ ks.toList, x.1 = x.2 := fun x hx => by
      have := kl.mem_iff.mp hx
      obtain ⟨i, e⟩ := List.mem_iff_getElem?.mp this
      rw [List.getElem?_zip_eq_some] at e
      exact Option.some.inj (e.1.symm.trans e.2)
    obtain ⟨zs, vz, pz⟩ := vals_perm k2.symm rv
    obtain ⟨ps', pp, rfl⟩ := perm_lift pz rfl
    refine ⟨.ref (s.heap.objs.size + 1), upd H (s.heap.objs.size + 1) (.lst (ps'.map (·.1))), I.laid (t' := s.toks) (fun b o e => sortedAll_old e) (Nat.le_succ _) ?_, rfl, q _ ps' (I.hok.fresh (Nat.le_succ _)) pp ?_⟩
    · obtain ⟨n, e⟩ := sortedAll_at s.heap its (ks.map (·.2))
      refine ⟨by rw [← pz.length_eq]; exact hz, (ks.map (·.2)).toList, n, vz, ?_⟩
      rw [e]
    · rw [List.pairwise_iff_getElem] at ku ⊢
      intro i j hi hj hij
      have lks : ks.toList.length = ps'.length := by
        rw [kl.length_eq, List.length_zip, Nat.min_self, ipl, pp.length_eq]
      rw [List.length_map] at hi hj
      have z := ku i j (by omega) (by omega) hij
      have key : ∀ (i : Nat) (h1 : i < ks.toList.length) (h2 : i < ps'.length), headKey H ks.toList[i] = hD ps'[i].2.1 := fun i h1 h2 => by
        obtain ⟨u', e', r'⟩ := vz.get (i := i) (x := ps'[i].1) (by rw [List.getElem?_map, List.getElem?_eq_getElem h2]; rfl)
        rw [Array.toList_map, List.getElem?_map, List.getElem?_eq_getElem h1] at e'
        have e2 : ks.toList[i].2 = u' := Option.some.inj e'
        obtain ⟨a, q, l, ev, ea, t, _⟩ := hR _ (pp.mem_iff.mp (List.getElem_mem h2))
        rw [ev] at r'
        cases r'
        refine headKey_eq ⟨a, q, l, _, ?_, ea, t⟩
        rw [k12 _ (List.getElem_mem h1)]
        exact e2
      rw [key i (by omega) hi, key j (by omega) hj] at z
      rw [List.getElem_map, List.getElem_map]
      exact z
end
end BF
namespace K62
open PySem PySem.Spec PyProof.Rows L2 BF
def top (i : Nat) : Stmt := PySem.Challenge.pw_bothfaces_k62_papers.main.body.getD i (.Pass ⟨0, 0, 0, 0⟩)
abbrev sHolesOf : Stmt := top 1
abbrev sSur : Stmt := top 3
abbrev sNb : Stmt := top 5
abbrev sLeast : Stmt := top 6
abbrev sAtL : Stmt := top 7
abbrev sPieces : Stmt := top 8
abbrev sNeedP : Stmt := top 9
abbrev sPaper : Stmt := top 11
abbrev sCell : Stmt := top 13
abbrev sLWhole : Stmt := top 14
abbrev sLine : Stmt := top 15
abbrev sFar : Stmt := top 16
abbrev sMix : Stmt := top 17
abbrev sNums : Stmt := top 18
abbrev sAny : Stmt := top 19
abbrev sWork : Stmt := top 20
abbrev sSurL : Stmt := top 21
abbrev sGroups : Stmt := top 22
abbrev sDue : Stmt := top 23
abbrev sKinds : Stmt := top 24
abbrev sLaw : Stmt := top 25
end K62
namespace K62
open PySem PySem.Spec PyProof.Rows L2 BF
seal L2.PE L2.PA L2.PS L2.PSs L2.PT L2.PW L2.PG L2.PGs L2.PI BF.PTs L2.PO
section
variable {P : Program} {w : World} {K : PySem.W.Frag} {mg : Str → Option Value} {base : Heap}
def spCell (K : PySem.W.Frag) : Sp := fun vs H Q _ => ∃ (a : Addr) (ns : List Int) (k : Nat), vs = [.ref a, .int k] ∧ SqL K H a (ns.map V.int) ∧ ∀ c, Q (.int c) H
theorem scCell : FnScope ["_law_script", "_law_k"] ["_law_script", "_law_k"] (defScope sCell) := ⟨rfl, rfl, rfl, by decide +kernel, rfl, by decide +kernel, by decide +kernel⟩
theorem ok_cell {f : Addr} {fd : FuncData} (D : Df K mg "_law_cell_at" sCell f fd) (hlen : mg "len" = none) : FnOk P w K mg base CX0 1 f fd ["_law_script", "_law_k"] (spCell K) := by
  refine D.F.ok scCell (fun vs H Q E h => ?_) (fun cdv A outer s H vs Q E hr h => ?_)
  · obtain ⟨a, ns, k, rfl, _⟩ := h
    rfl
  · obtain ⟨a, ns, k, rfl, hS, q⟩ := h
    refine ⟨_, pss_cons (ps_if (pt_cmpR op_lt (pv 1) (pe_callB call_len_seq (by rfl) hlen PySem.boot_len (pac (pv 0) pa_nil)) (nomark _)) (pss_one (ps_ret (pe_ix ix_list (pv 0) (pv 1) (fun _ _ => rfl)))) pss_nil) (pss_one (ps_ret pe_int)), ?_⟩
    refine ⟨_, rfl, _, rfl, a, _, rfl, .inl hS, _, _, rfl, rfl, _, rfl, ?_⟩
    rw [List.length_map]
    by_cases hk : (k : Int) < (ns.length : Int)
    · refine ifD_pos hk ?_
      obtain ⟨c, hc, hm⟩ := atI_of (xs := ns.map V.int) (m := (k : Int)) (by omega) (by rw [List.length_map]; exact hk)
      obtain ⟨z, _, rfl⟩ := List.mem_map.mp hm
      exact ⟨_, rfl, _, rfl, a, _, _, _, rfl, rfl, hS, hc, q z⟩
    · exact ifD_neg hk (q 0)
theorem ten_pick {H' : Hp} {t0 t1 t2 t3 t4 t5 t6 t7 t8 t9 : Addr} (k : Int) (h0 : 0 ≤ k) (h1 : k < 10) (e0 : H' t0 = some (.tup [.int 1, .int 0])) (e1 : H' t1 = some (.tup [.int 0, .int 1])) (e2 : H' t2 = some (.tup [.int 1, .int 1])) (e3 : H' t3 = some (.tup [.int 1, .int (-1)])) (e4 : H' t4 = some (.tup [.int 1, .int 0]))
    (e5 : H' t5 = some (.tup [.int 0, .int 1])) (e6 : H' t6 = some (.tup [.int 2, .int 1])) (e7 : H' t7 = some (.tup [.int 9, .int (-9)])) (e8 : H' t8 = some (.tup [.int 0, .int 3])) (e9 : H' t9 = some (.tup [.int 4, .int 0])) :
    ∃ (r : Addr) (e o : Int), atI [V.ref t0, .ref t1, .ref t2, .ref t3, .ref t4, .ref t5, .ref t6, .ref t7, .ref t8, .ref t9] k = some (.ref r) ∧ H' r = some (.tup [.int e, .int o]) ∧ (0 < e ∨ e = 0 ∧ 0 < o) := by
  have h : k = 0 ∨ k = 1 ∨ k = 2 ∨ k = 3 ∨ k = 4 ∨ k = 5 ∨ k = 6 ∨ k = 7 ∨ k = 8 ∨ k = 9 := by omega
  rcases h with rfl | rfl | rfl | rfl | rfl | rfl | rfl | rfl | rfl | rfl
  · exact ⟨t0, _, _, rfl, e0, by decide⟩
  · exact ⟨t1, _, _, rfl, e1, by decide⟩
  · exact ⟨t2, _, _, rfl, e2, by decide⟩
  · exact ⟨t3, _, _, rfl, e3, by decide⟩
  · exact ⟨t4, _, _, rfl, e4, by decide⟩
  · exact ⟨t5, _, _, rfl, e5, by decide⟩
  · exact ⟨t6, _, _, rfl, e6, by decide⟩
  · exact ⟨t7, _, _, rfl, e7, by decide⟩
  · exact ⟨t8, _, _, rfl, e8, by decide⟩
  · exact ⟨t9, _, _, rfl, e9, by decide⟩
def spLine : Sp := fun vs H Q _ => ∃ (n x y : Int) (t : Addr), vs = [.int n, .ref t] ∧ H t = some (.tup [.int x, .int y]) ∧ ∀ (r : Addr) (a : Ln) H', Same H H' → hLt a.1 a.2 = true → DtIs H' (.ref r) (lnD a) → Q (.ref r) H'
theorem scLine : FnScope ["_law_number", "_law_far_here", "_law_x", "_law_y", "_law_east", "_law_north"] ["_law_number", "_law_far_here"] (defScope sLine) := ⟨rfl, rfl, rfl, by decide +kernel, rfl, by decide +kernel, by decide +kernel⟩
theorem ok_line {f : Addr} {fd : FuncData} (D : Df K mg "_law_line" sLine f fd) : FnOk P w K mg base CX0 1 f fd ["_law_number", "_law_far_here"] spLine := by
  refine D.F.ok scLine (fun vs H Q E h => ?_) (fun cdv A outer s H vs Q E hr h => ?_)
  · obtain ⟨n, x, y, t, rfl, _⟩ := h
    rfl
  · obtain ⟨n, x, y, t, rfl, et, z⟩ := h
    refine ⟨_, (pss_cons (ps_set (i := 2) scLine.nd rfl (Or.inl rfl) (pe_op op_add (pe_op op_mod (pv 0) pe_int) (pe_ix ix_tup (pv 1) pe_int (fun _ _ => rfl))))
      (pss_cons (ps_set (i := 3) scLine.nd rfl (Or.inl rfl) (pe_op op_add (pe_op op_mod (pe_op op_fdiv (pv 0) pe_int) pe_int) (pe_ix ix_tup (pv 1) pe_int (fun _ _ => rfl))))
      (pss_cons (ps_asg (pe_ix ix_list (pe_lst (pac (pe_tup (pac (pe_int) (pac (pe_int) pa_nil))) (pac (pe_tup (pac (pe_int) (pac (pe_int) pa_nil))) (pac (pe_tup (pac (pe_int) (pac (pe_int) pa_nil))) (pac (pe_tup (pac (pe_int) (pac (pe_un un_neg pe_int) pa_nil))) (pac (pe_tup (pac (pe_int) (pac (pe_int) pa_nil))) (pac (pe_tup (pac (pe_int) (pac (pe_int) pa_nil))) (pac (pe_tup (pac (pe_int) (pac (pe_int) pa_nil))) (pac (pe_tup (pac (pe_int) (pac (pe_un un_neg pe_int) pa_nil))) (pac (pe_tup (pac (pe_int) (pac (pe_int) pa_nil))) (pac (pe_tup (pac (pe_int) (pac (pe_int) pa_nil))) pa_nil))))))))))) (pe_op op_mod (pe_op op_fdiv (pv 0) pe_int) pe_int) (fun _ _ => rfl)) (pg_tup rfl (pgs_cons (pg_name (i := 4) scLine.nd rfl (Or.inl rfl)) (pgs_cons (pg_name (i := 5) scLine.nd rfl (Or.inl rfl)) pgs_nil))))
      (pss_one (ps_ret (pe_tup (pac (pe_tup (pac (pv 2) (pac (pv 3) pa_nil))) (pac (pe_tup (pac (pe_op op_add (pv 2) (pv 4)) (pac (pe_op op_add (pv 3) (pv 5)) pa_nil))) pa_nil)))))))), ?_⟩
    refine ⟨_, rfl, _, _, rfl, rfl, (by show (0 : Int) < _; decide), _, rfl, t, _, _, _, rfl, rfl, SqT.of et, rfl, _, _, rfl, rfl, ?_⟩
    refine ⟨_, rfl, _, _, rfl, rfl, ⟨by decide, by decide⟩, _, _, rfl, rfl, (by show (0 : Int) < _; decide), _, rfl, t, _, _, _, rfl, rfl, SqT.of et, rfl, _, _, rfl, rfl, ?_⟩
    refine ⟨szr rfl, fun t0 n0 => ⟨szr rfl, fun t1 n1 => ⟨szr rfl, fun t2 n2 => ⟨_, rfl, szr rfl, fun t3 n3 => ⟨szr rfl, fun t4 n4 => ⟨szr rfl, fun t5 n5 => ⟨szr rfl, fun t6 n6 => ⟨_, rfl, szr rfl, fun t7 n7 => ⟨szr rfl, fun t8 n8 => ⟨szr rfl, fun t9 n9 => ⟨szr rfl, fun l nl => ?_⟩⟩⟩⟩⟩⟩⟩⟩⟩⟩⟩
    have VV := same_upd (o := HO.lst [V.ref t0, .ref t1, .ref t2, .ref t3, .ref t4, .ref t5, .ref t6, .ref t7, .ref t8, .ref t9]) nl
    have U9 := (same_upd (o := HO.tup [V.int 4, .int 0]) n9).trans VV
    have U8 := (same_upd (o := HO.tup [V.int 0, .int 3]) n8).trans U9
    have U7 := (same_upd (o := HO.tup [V.int 9, .int (-9)]) n7).trans U8
    have U6 := (same_upd (o := HO.tup [V.int 2, .int 1]) n6).trans U7
    have U5 := (same_upd (o := HO.tup [V.int 0, .int 1]) n5).trans U6
    have U4 := (same_upd (o := HO.tup [V.int 1, .int 0]) n4).trans U5
    have U3 := (same_upd (o := HO.tup [V.int 1, .int (-1)]) n3).trans U4
    have U2 := (same_upd (o := HO.tup [V.int 1, .int 1]) n2).trans U3
    have U1 := (same_upd (o := HO.tup [V.int 0, .int 1]) n1).trans U2
    have U0 := (same_upd (o := HO.tup [V.int 1, .int 0]) n0).trans U1
    refine ⟨_, rfl, _, _, rfl, rfl, ⟨by decide, by decide⟩, _, _, rfl, rfl, (by show (0 : Int) < _; decide), ?_⟩
    obtain ⟨r, e, o, hr', er, ho⟩ := ten_pick (n / 25 % 10) (by omega) (by omega) (U1 t0 _ upd_same) (U2 t1 _ upd_same) (U3 t2 _ upd_same) (U4 t3 _ upd_same) (U5 t4 _ upd_same) (U6 t5 _ upd_same) (U7 t6 _ upd_same) (U8 t7 _ upd_same) (U9 t8 _ upd_same) (VV t9 _ upd_same)
    refine ⟨l, _, _, _, rfl, rfl, SqL.of upd_same, hr', ?_⟩
    refine ⟨r, _, rfl, SqT.of er, rfl, _, _, rfl, _, _, rfl, rfl, ?_⟩
    refine ⟨_, rfl, _, rfl, szr rfl, fun q1 m1 => ⟨_, rfl, _, rfl, _, _, rfl, rfl, _, rfl, _, rfl, _, _, rfl, rfl, szr rfl, fun q2 m2 => ⟨szr rfl, fun r' nr => ?_⟩⟩⟩
    have T1 := same_upd (o := HO.tup [V.int (n % 5 + x), .int (n / 5 % 5 + y)]) m1
    have T2 := same_upd (o := HO.tup [V.int (n % 5 + x + e), .int (n / 5 % 5 + y + o)]) m2
    have T3 := same_upd (o := HO.tup [V.ref q1, .ref q2]) nr
    exact z r' ((n % 5 + x, n / 5 % 5 + y), (n % 5 + x + e, n / 5 % 5 + y + o)) _ (((U0.trans T1).trans T2).trans T3) ((hLt_iff _ _).mpr (by show _ < _ ∨ (_ = _ ∧ _ < _); simp only []; omega)) (.tup upd_same (.cons (two_dt (T3 _ _ (T2 _ _ upd_same))) (.cons (two_dt (T3 _ _ upd_same)) .nil)))
def spFar (K : PySem.W.Frag) : Sp := fun vs H Q _ => ∃ (a : Addr) (ns : List Int), vs = [.ref a] ∧ SqL K H a (ns.map V.int) ∧ ∀ (t : Addr) (x y : Int) H', Same H H' → H' t = some (.tup [.int x, .int y]) → Q (.ref t) H'
theorem scFar : FnScope ["_law_script", "_law_number"] ["_law_script"] (defScope sFar) := ⟨rfl, rfl, rfl, by decide +kernel, rfl, by decide +kernel, by decide +kernel⟩
theorem ok_far {f fC : Addr} {fd fdC : FuncData} (D : Df K mg "_law_far" sFar f fd) (DC : Df K mg "_law_cell_at" sCell fC fdC) (bC : Binds K fdC ["_law_script", "_law_k"] []) (GC : FnOk P w K mg base CX0 1 fC fdC ["_law_script", "_law_k"] (spCell K)) : FnOk P w K mg base CX0 2 f fd ["_law_script"] (spFar K) := by
  refine D.F.ok scFar (fun vs H Q E h => ?_) (fun cdv A outer s H vs Q E hr h => ?_)
  · obtain ⟨a, ns, rfl, _⟩ := h
    rfl
  · obtain ⟨a, ns, rfl, hS, z⟩ := h
    refine ⟨_, (pss_cons (ps_set (i := 1) scFar.nd rfl (Or.inl rfl) (pec GC hr rfl DC.m DC.F.kp bC .nil pass0 (pac (pv 0) (pac (pe_int) pa_nil))))
      (pss_cons (ps_if (pt_cmpR op_eq (pe_op op_mod (pv 1) pe_int) pe_int (nomark _)) (pss_one (ps_ret (pe_tup (pac (pe_op op_mod (pe_op op_mul (pe_op op_fdiv (pv 1) pe_int) pe_int) (pe_op op_sub pe_p9 pe_int)) (pac (pe_op op_sub pe_int (pe_op op_mod (pe_op op_mul (pe_op op_fdiv (pv 1) pe_int) pe_int) (pe_op op_sub pe_p9 pe_int))) pa_nil))))) pss_nil)
      (pss_one (ps_ret (pe_tup (pac (pe_op op_sub (pe_op op_mod (pe_op op_fdiv (pv 1) pe_int) pe_int) pe_int) (pac (pe_op op_sub (pe_op op_mod (pe_op op_fdiv (pv 1) pe_int) pe_int) pe_int) pa_nil))))))), ?_⟩
    refine ⟨_, rfl, a, ns, 0, rfl, hS, fun c => ⟨_, rfl, _, _, rfl, rfl, (by show (0 : Int) < _; decide), rfl, _, rfl, ifC (fun _ => ?_) (fun _ => ?_)⟩⟩
    · refine ⟨_, rfl, _, _, rfl, rfl, ⟨by decide, by decide⟩, _, _, rfl, rfl, cmulR (by decide) (by decide), _, _, rfl, rfl, _, _, rfl, rfl, (by show (0 : Int) < _; decide), ?_⟩
      refine ⟨_, rfl, _, _, rfl, rfl, ⟨by decide, by decide⟩, _, _, rfl, rfl, cmulR (by decide) (by decide), _, _, rfl, rfl, _, _, rfl, rfl, (by show (0 : Int) < _; decide), _, _, rfl, rfl, szr rfl, fun t nt => ?_⟩
      exact z t _ _ _ (same_upd nt) upd_same
    · refine ⟨_, rfl, _, _, rfl, rfl, ⟨by decide, by decide⟩, _, _, rfl, rfl, (by show (0 : Int) < _; decide), _, _, rfl, rfl, ?_⟩
      refine ⟨_, rfl, _, _, rfl, rfl, ⟨by decide, by decide⟩, _, _, rfl, rfl, (by show (0 : Int) < _; decide), _, _, rfl, rfl, szr rfl, fun t nt => ?_⟩
      exact z t _ _ _ (same_upd nt) upd_same
def spMix : Sp := fun vs H Q _ => ∃ (c : Int) (k : Nat), vs = [.int c, .int k] ∧ k ≤ 63 ∧ ∀ m, Q (.int m) H
theorem scMix : FnScope ["_law_cell", "_law_k"] ["_law_cell", "_law_k"] (defScope sMix) := ⟨rfl, rfl, rfl, by decide +kernel, rfl, by decide +kernel, by decide +kernel⟩
theorem ok_mix {f : Addr} {fd : FuncData} (D : Df K mg "_law_mixed" sMix f fd) : FnOk P w K mg base CX0 1 f fd ["_law_cell", "_law_k"] spMix := by
  refine D.F.ok scMix (fun vs H Q E h => ?_) (fun cdv A outer s H vs Q E hr h => ?_)
  · obtain ⟨c, k, rfl, _⟩ := h
    rfl
  · obtain ⟨c, k, rfl, hk, z⟩ := h
    refine ⟨_, (pss_one (ps_ret (pe_op op_mod (pe_op op_add (pe_op op_add (pe_op op_mul (pe_op op_mod (pe_op op_mul (pv 0) pe_int) pe_int) pe_int) (pe_op op_mul (pe_op op_mul pe_int (pv 1)) (pv 1))) (pe_op op_mul pe_int (pv 1))) pe_int))), ?_⟩
    have ck : ∀ i : Int, CMul i (k : Int) := fun i => cmulR (by omega) (by omega)
    exact ⟨_, rfl, _, _, rfl, rfl, cmulR (by decide) (by decide), _, _, rfl, rfl, (by show (0 : Int) < _; decide), _, _, rfl, rfl, cmulR (by decide) (by decide), _, rfl, _, _, rfl, rfl, ck _, _, rfl, _, _, rfl, rfl, ck _, _, _, rfl, rfl, _, rfl, _, _, rfl, rfl, ck _, _, _, rfl, rfl, _, _, rfl, rfl, (by show (0 : Int) < _; decide), z _⟩
def spAny : Sp := fun vs H Q _ => ∃ n : Int, vs = [.int n] ∧ ∀ (r : Addr) (a : Ln) H', Same H H' → hLt a.1 a.2 = true → DtIs H' (.ref r) (lnD a) → Q (.ref r) H'
theorem scAny : FnScope ["_law_number", "_law_x", "_law_y", "_law_way", "_law_east", "_law_north"] ["_law_number"] (defScope sAny) := ⟨rfl, rfl, rfl, by decide +kernel, rfl, by decide +kernel, by decide +kernel⟩
theorem ok_any {f : Addr} {fd : FuncData} (D : Df K mg "_law_anywhere" sAny f fd) (hmin : mg "min" = none) (hmax : mg "max" = none) : FnOk P w K mg base CX0 1 f fd ["_law_number"] spAny := by
  refine D.F.ok scAny (fun vs H Q E h => ?_) (fun cdv A outer s H vs Q E hr h => ?_)
  · obtain ⟨n, rfl, _⟩ := h
    rfl
  · obtain ⟨n, rfl, z⟩ := h
    refine ⟨_, (pss_cons (ps_set (i := 1) scAny.nd rfl (Or.inl rfl) (pe_op op_sub (pe_op op_mod (pv 0) pe_int) pe_p9))
      (pss_cons (ps_set (i := 2) scAny.nd rfl (Or.inl rfl) (pe_op op_sub (pe_op op_mod (pe_op op_fdivL (pv 0) pe_int) pe_int) pe_p9))
      (pss_cons (ps_set (i := 3) scAny.nd rfl (Or.inl rfl) (pe_op op_mod (pe_op op_fdivL (pe_op op_fdivL (pv 0) pe_int) pe_int) pe_int))
      (pss_cons (ps_set (i := 4) scAny.nd rfl (Or.inl rfl) pe_int)
      (pss_cons (ps_set (i := 5) scAny.nd rfl (Or.inl rfl) (pe_op op_add (pv 3) pe_int))
      (pss_cons (ps_if (pt_cmpR op_gt (pv 3) pe_int (nomark _)) (pss_cons (ps_set (i := 4) scAny.nd rfl (Or.inl rfl) (pe_op op_add pe_int (pe_op op_fdiv (pe_op op_sub (pv 3) pe_int) pe_int)))
      (pss_one (ps_set (i := 5) scAny.nd rfl (Or.inl rfl) (pe_op op_sub (pe_op op_mod (pe_op op_sub (pv 3) pe_int) pe_int) pe_int)))) pss_nil)
      (pss_cons (ps_set (i := 1) scAny.nd rfl (Or.inl rfl) (pe_callB (call_min2 rfl) (by rfl) hmin boot_min (pac (pv 1) (pac (pe_op op_sub pe_p9 (pv 4)) pa_nil))))
      (pss_cons (ps_set (i := 2) scAny.nd rfl (Or.inl rfl) (pe_callB (call_max2 rfl) (by rfl) hmax boot_max (pac (pe_callB (call_min2 rfl) (by rfl) hmin boot_min (pac (pv 2) (pac (pe_op op_sub pe_p9 (pv 5)) pa_nil))) (pac (pe_op op_sub (pe_op op_sub pe_int pe_p9) (pv 5)) pa_nil))))
      (pss_one (ps_ret (pe_tup (pac (pe_tup (pac (pv 1) (pac (pv 2) pa_nil))) (pac (pe_tup (pac (pe_op op_add (pv 1) (pv 4)) (pac (pe_op op_add (pv 2) (pv 5)) pa_nil))) pa_nil))))))))))))), ?_⟩
    refine ⟨_, rfl, _, _, rfl, rfl, (by show (0 : Int) < _; decide), _, _, rfl, rfl, ?_⟩
    refine ⟨_, rfl, _, _, rfl, rfl, ⟨by decide, by decide⟩, _, _, rfl, rfl, (by show (0 : Int) < _; decide), _, _, rfl, rfl, ?_⟩
    refine ⟨_, rfl, _, _, rfl, rfl, ⟨by decide, by decide⟩, _, _, rfl, rfl, ⟨by decide, by decide⟩, _, _, rfl, rfl, (by show (0 : Int) < _; decide), ?_⟩
    refine ⟨_, rfl, _, _, rfl, rfl, ?_⟩
    refine' laterS (fun σ H1 => ∃ wy x y e o : Int, σ = [some (.int n), some (.int x), some (.int y), some (.int wy), some (.int e), some (.int o)] ∧ H1 = H ∧ (0 < e ∨ e = 0 ∧ 0 < o)) (fun fin => _) _
    rotate_left
    · refine ⟨_, rfl, _, _, rfl, rfl, _, rfl, ?_⟩
      by_cases h8 : 8 < n / 2000000001 / 2000000001 % 180
      · refine ifD_pos h8 ?_
        refine ⟨_, rfl, _, _, rfl, rfl, _, _, rfl, rfl, ⟨by decide, by decide⟩, _, _, rfl, rfl, ?_⟩
        refine ⟨_, rfl, _, _, rfl, rfl, _, _, rfl, rfl, (by show (0 : Int) < _; decide), _, _, rfl, rfl, ?_⟩
        exact fin _ _ ⟨_, _, _, _, _, rfl, rfl, .inl (by omega)⟩
      · refine ifD_neg h8 ?_
        exact fin _ _ ⟨_, _, _, _, _, rfl, rfl, .inr ⟨rfl, by omega⟩⟩
    rintro σ H1 ⟨wy, x, y, e, o, rfl, rfl, ho⟩
    refine ⟨_, rfl, _, rfl, _, _, rfl, rfl, _, _, rfl, ?_⟩
    refine ⟨_, rfl, _, rfl, _, _, rfl, rfl, _, _, rfl, _, _, rfl, rfl, _, rfl, _, _, rfl, rfl, _, _, rfl, ?_⟩
    generalize (if 1000000000 - e < x then 1000000000 - e else x) = x'
    generalize (if 0 - 1000000000 - o > _ then _ else _ : Int) = y'
    refine ⟨_, rfl, _, rfl, szr rfl, fun q1 m1 => ⟨_, rfl, _, rfl, _, _, rfl, rfl, _, rfl, _, rfl, _, _, rfl, rfl, szr rfl, fun q2 m2 => ⟨szr rfl, fun r' nr => ?_⟩⟩⟩
    have T1 := same_upd (o := HO.tup [V.int x', .int y']) m1
    have T2 := same_upd (o := HO.tup [V.int (x' + e), .int (y' + o)]) m2
    have T3 := same_upd (o := HO.tup [V.ref q1, .ref q2]) nr
    exact z r' ((x', y'), (x' + e, y' + o)) _ ((T1.trans T2).trans T3) ((hLt_iff _ _).mpr (by show _ < _ ∨ (_ = _ ∧ _ < _); simp only []; omega)) (.tup upd_same (.cons (two_dt (T3 _ _ (T2 _ _ upd_same))) (.cons (two_dt (T3 _ _ upd_same)) .nil)))
end
end K62
namespace K62
open PySem PySem.Spec PyProof.Rows L2 BF
seal L2.PE L2.PA L2.PS L2.PSs L2.PT L2.PW L2.PG L2.PGs L2.PI BF.PTs L2.PO
def NumAt (H : Hp) (r : Addr) : Prop := ∃ (n : Int) (b : Bool), H r = some (.tup [.int n, .bl b])
theorem NumAt.same {H H' : Hp} {r : Addr} (h : NumAt H r) (s : Same H H') : NumAt H' r := let ⟨n, b, e⟩ := h; ⟨n, b, s _ _ e⟩
theorem NumAt.updL {H : Hp} {r l : Addr} {ys : List V} {o : HO} (h : NumAt H r) (e : H l = some (.lst ys)) : NumAt (upd H l o) r := by
  obtain ⟨n, b, q⟩ := h
  exact ⟨n, b, by rw [upd_ne (fun z => by rw [z, e] at q; cases q)]; exact q⟩
section
variable {P : Program} {w : World} {K : PySem.W.Frag} {mg : Str → Option Value} {base : Heap}
def spNums (K : PySem.W.Frag) : Sp := fun vs H Q _ => ∃ (a : Addr) (ns : List Int) (mo : Nat), vs = [.ref a, .int mo] ∧ SqL K H a (ns.map V.int) ∧ ns.length ≤ 63 ∧ mo ≤ 60 ∧
  ∀ (l : Addr) (rs : List Addr) H', Same H H' → H l = none → H' l = some (.lst (rs.map V.ref)) → rs.length ≤ mo → (∀ r ∈ rs, NumAt H' r) → Q (.ref l) H'
def nuI (H : Hp) (a : Addr) (mo : Nat) (L : Addr) (m : Nat) (σ : L2.St) (H1 : Hp) : Prop := ∃ (c : Int) (v4 v5 v6 : Option V) (rs : List Addr), σ = [some (.ref a), some (.int mo), some (.ref L), some (.int c), v4, v5, v6] ∧ Same H H1 ∧ H1 L = some (.lst (rs.map V.ref)) ∧ rs.length ≤ mo ∧ (∀ r ∈ rs, NumAt H1 r) ∧ m = mo - rs.length
theorem scNums : FnScope ["_law_script", "_law_most", "_law_found", "_law_cell", "_law_start", "_law_k", "_law_one"] ["_law_script", "_law_most"] (defScope sNums) := ⟨rfl, rfl, rfl, by decide +kernel, rfl, by decide +kernel, by decide +kernel⟩
theorem ok_nums {f fC fM : Addr} {fd fdC fdM : FuncData} (D : Df K mg "_law_numbers" sNums f fd)
    (DC : Df K mg "_law_cell_at" sCell fC fdC) (bC : Binds K fdC ["_law_script", "_law_k"] []) (GC : FnOk P w K mg base CX0 1 fC fdC ["_law_script", "_law_k"] (spCell K))
    (DM : Df K mg "_law_mixed" sMix fM fdM) (bM : Binds K fdM ["_law_cell", "_law_k"] []) (GM : FnOk P w K mg base CX0 1 fM fdM ["_law_cell", "_law_k"] spMix)
    (hlen : mg "len" = none) (hint : mg "int" = none) (henum : mg "enumerate" = none) : FnOk P w K mg base CX0 2 f fd ["_law_script", "_law_most"] (spNums K) := by
  refine D.F.ok scNums (fun vs H Q E h => ?_) (fun cdv A outer s H vs Q E hr h => ?_)
  · obtain ⟨a, ns, mo, rfl, _⟩ := h
    rfl
  · obtain ⟨a, ns, mo, rfl, hS, hlen', hmo, z⟩ := h
    refine ⟨_, (pss_cons (ps_set (i := 2) scNums.nd rfl (Or.inl rfl) (pe_lst pa_nil))
      (pss_cons (ps_set (i := 3) scNums.nd rfl (Or.inl rfl) (pec GC hr rfl DC.m DC.F.kp bC .nil pass0 (pac (pv 0) (pac (pe_int) pa_nil))))
      (pss_cons (ps_while PassesOwn.never (PW.pt (pw_and (pt_cmpR op_eq (pe_op op_mod (pec GC hr rfl DC.m DC.F.kp bC .nil pass0 (pac (pv 0) (pac (pe_int) pa_nil))) pe_int) pe_int (nomark _)) (pw_and (pt_cmpR op_ne (pv 3) pe_int (nomark _)) (pw_and1 (pt_cmpR op_lt (pe_callB call_len_seq (by rfl) hlen PySem.boot_len (pac (pv 2) pa_nil)) (pv 1) (nomark _)))))) (pss_cons (ps_expr (pe_bm PySem.F.plainAttrs_list PySem.F.slot_list_append PySem.F.type_list_append mt_append (pv 2) (pac (pe_tup (pac (pe_op op_mod (pv 3) pe_p24) (pac (pe_bl) pa_nil))) pa_nil)))
      (pss_one (ps_set (i := 3) scNums.nd rfl (Or.inl rfl) (pe_op op_fdivL (pv 3) pe_p24)))))
      (pss_cons (ps_set (i := 4) scNums.nd rfl (Or.inl rfl) (pe_op op_add pe_int (pe_callTy call_int1 (by rfl) hint boot_int (pac (pe_cmpR op_eq (pe_op op_mod (pec GC hr rfl DC.m DC.F.kp bC .nil pass0 (pac (pv 0) (pac (pe_int) pa_nil))) pe_int) pe_int (nomark _)) pa_nil))))
      (pss_cons (ps_for PassesOwn.never rfl (pi_enum rfl henum (pac (pe_slice sl_list (pv 0) (po_some (pv 4)) (po_some (pe_op op_sub (pe_op op_add (pv 4) (pv 1)) (pe_callB call_len_seq (by rfl) hlen PySem.boot_len (pac (pv 2) pa_nil))))) pa_nil)) (pg_tup rfl (pgs_cons (pg_name (i := 5) scNums.nd rfl (Or.inl rfl)) (pgs_cons (pg_name (i := 6) scNums.nd rfl (Or.inl rfl)) pgs_nil))) (pss_one (ps_expr (pe_bm PySem.F.plainAttrs_list PySem.F.slot_list_append PySem.F.type_list_append mt_append (pv 2) (pac (pe_tup (pac (pec GM hr rfl DM.m DM.F.kp bM .nil pass0 (pac (pv 6) (pac (pv 5) pa_nil))) (pac (pe_bl) pa_nil))) pa_nil)))))
      (pss_one (ps_ret (pv 2)))))))), ?_⟩
    refine ⟨szr rfl, fun L nL => ?_⟩
    have S0 := same_upd (o := HO.lst []) nL
    have e0 : (upd H L (.lst [])) L = some (.lst []) := upd_same
    revert S0 e0
    generalize (upd H L (.lst [])) = H0
    intro S0 e0
    refine ⟨_, rfl, a, ns, 2, rfl, S0.seq hS, fun c2 => ?_⟩
    refine' laterS (fun σ H1 => ∃ m, nuI H a mo L m σ H1) (fun fin => _) _
    rotate_left
    · refine ⟨nuI H a mo L, ⟨mo, c2, _, _, _, [], rfl, S0, e0, Nat.zero_le _, (fun _ h => nomatch h), rfl⟩, ?_⟩
      rintro m σ H1 ⟨c, v4, v5, v6, rs, rfl, S1, e1, rl, rn, rfl⟩
      have out : nuI H a mo L (mo - rs.length) [some (.ref a), some (.int mo), some (.ref L), some (.int c), v4, v5, v6] H1 := ⟨c, v4, v5, v6, rs, rfl, S1, e1, rl, rn, rfl⟩
      refine ⟨_, rfl, a, ns, 0, rfl, S1.seq hS, fun c0 => ⟨_, _, rfl, rfl, (by show (0 : Int) < _; decide), rfl, _, rfl, ifC (fun _ => ?_) (fun _ => iteF (fin _ _ ⟨_, out⟩))⟩⟩
      refine ⟨_, rfl, rfl, _, rfl, ifC (fun _ => ?_) (fun _ => iteF (fin _ _ ⟨_, out⟩))⟩
      refine ⟨_, rfl, L, _, rfl, .inl (SqL.of e1), _, rfl, _, _, rfl, rfl, _, rfl, ?_⟩
      rw [List.length_map]
      by_cases hk : (rs.length : Int) < (mo : Int)
      rotate_left
      · exact ifD_neg hk (fin _ _ ⟨_, out⟩)
      · refine ifD_pos hk ?_
        refine ⟨fun σ H2 => ∃ m', m' < mo - rs.length ∧ nuI H a mo L m' σ H2, fun σ' H' n => n, ?_⟩
        refine ⟨_, rfl, .inl ⟨rfl, _, SqL.of e1⟩, _, rfl, _, _, rfl, rfl, (by show (0 : Int) < _; decide), szr rfl, fun t nt => ?_⟩
        have T := same_upd (o := HO.tup [V.int (c % 1000000000000000000000000), .bl true]) nt
        have e2 := T _ _ e1
        refine ⟨L, _, _, rfl, rfl, e2, small1000 (by rw [List.length_map]; omega), ?_⟩
        refine ⟨_, rfl, _, _, rfl, rfl, ⟨by decide, by decide⟩, ?_⟩
        refine ⟨mo - (rs ++ [t]).length, by rw [List.length_append]; show mo - (rs.length + 1) < _; omega, _, v4, v5, v6, rs ++ [t], rfl, same_updN (S1.trans T) nL, by rw [upd_same, List.map_append]; rfl, by rw [List.length_append]; show rs.length + 1 ≤ _; omega, fun r hr => ?_, rfl⟩
        rcases List.mem_append.mp hr with hr | hr
        · exact ((rn r hr).same T).updL e2
        · rw [List.mem_singleton.mp hr]
          exact NumAt.updL ⟨_, _, upd_same⟩ e2
    rintro σ H1 ⟨m, c, v4, v5, v6, rs, rfl, S1, e1, rl, rn, rfl⟩
    refine ⟨_, rfl, a, ns, 0, rfl, S1.seq hS, fun c0 => ⟨_, _, rfl, rfl, (by show (0 : Int) < _; decide), rfl, ?_⟩⟩
    refine .inr ⟨_, rfl, _, _, rfl, rfl, ?_⟩
    obtain ⟨st, hst, hst'⟩ : ∃ st : Nat, (2 : Int) + (if decide ((fun i j => V.int (i % j)) c0 2 = V.int 0) = true then 1 else 0) = (st : Int) ∧ st ≤ 3 := by
      split
      · exact ⟨3, rfl, by decide⟩
      · exact ⟨2, rfl, by decide⟩
    have e4 : (fun i j : Int => V.int (i + j)) 2 (if decide ((fun i j => V.int (i % j)) c0 2 = V.int 0) = true then 1 else 0) = V.int (st : Int) := congrArg V.int hst
    rw [e4]
    refine ⟨_, rfl, _, rfl, _, rfl, _, rfl, _, rfl, _, _, rfl, rfl, _, rfl, L, _, rfl, .inl (SqL.of e1), _, _, rfl, rfl, _, rfl, ?_⟩
    have hup : (st : Int) + (mo : Int) - ((rs.map V.ref).length : Int) = ((st + (mo - rs.length) : Nat) : Int) := by rw [List.length_map]; omega
    rw [hup]
    refine ⟨a, _, rfl, S1.seq hS, fun l1 m1 => ?_⟩
    have U1 := same_upd (o := HO.lst (cutV (ns.map V.int) (some (st : Int)) (some ((st + (mo - rs.length) : Nat) : Int)))) m1
    have cl : (cutV (ns.map V.int) (some (st : Int)) (some ((st + (mo - rs.length) : Nat) : Int))).length ≤ mo - rs.length := by
      unfold cutV
      rw [List.length_take]
      have q1 : HT.sIx (ns.map V.int).length 0 (some (st : Int)) = min st (ns.map V.int).length := HT.sIx_nat _ _ st
      have q2 : HT.sIx (ns.map V.int).length (ns.map V.int).length (some ((st + (mo - rs.length) : Nat) : Int)) = min (st + (mo - rs.length)) (ns.map V.int).length := HT.sIx_nat _ _ _
      rw [q1, q2, List.length_drop]
      omega
    have hint' : ∀ v ∈ cutV (ns.map V.int) (some (st : Int)) (some ((st + (mo - rs.length) : Nat) : Int)), ∃ i, v = .int i := fun v hv => by
      obtain ⟨i, _, rfl⟩ := List.mem_map.mp (cut_mem hv)
      exact ⟨i, rfl⟩
    refine ⟨l1, _, rfl, SqL.of upd_same, ?_⟩
    have S2 := S1.trans U1
    have e2 := U1 _ _ e1
    have el : (upd H1 l1 (.lst (cutV (ns.map V.int) (some (st : Int)) (some ((st + (mo - rs.length) : Nat) : Int))))) l1 = some (.lst (cutV (ns.map V.int) (some (st : Int)) (some ((st + (mo - rs.length) : Nat) : Int)))) := upd_same
    have rn2 : ∀ r ∈ rs, NumAt (upd H1 l1 (.lst (cutV (ns.map V.int) (some (st : Int)) (some ((st + (mo - rs.length) : Nat) : Int))))) r := fun r hr' => (rn r hr').same U1
    have neL : L ≠ l1 := fun e => by rw [← e, e1] at m1; cases m1
    revert S2 e2 el rn2 cl hint'
    generalize (upd H1 l1 (.lst (cutV (ns.map V.int) (some (st : Int)) (some ((st + (mo - rs.length) : Nat) : Int))))) = H2
    generalize cutV (ns.map V.int) (some (st : Int)) (some ((st + (mo - rs.length) : Nat) : Int)) = cs
    intro cl hint' S2 e2 el rn2
    refine for_enum (K := K) (a := l1) (xs := cs) (fun i σ H3 => (∃ v5 v6, σ = [some (.ref a), some (.int mo), some (.ref L), some (.int c), some (.int st), v5, v6]) ∧ Same H H3 ∧ H3 l1 = some (.lst cs) ∧ ∃ rs' : List Addr, H3 L = some (.lst (rs'.map V.ref)) ∧ rs'.length = rs.length + i ∧ ∀ r ∈ rs', NumAt H3 r)
      ⟨⟨_, _, rfl⟩, S2, el, rs, e2, rfl, rn2⟩ (fun i σ H3 _ ⟨_, _, e, _⟩ => SqL.of e) ?_ ?_
    · rintro i x p σ H3 hx ⟨⟨v5, v6, rfl⟩, S3, el3, rs', eL3, rl', rn'⟩ np
      obtain ⟨x, rfl⟩ := hint' x (List.mem_of_getElem? hx)
      have hi : i < cs.length := (List.getElem?_eq_some_iff.mp hx).1
      have Tp := same_upd (o := HO.tup [V.int (i : Int), .int x]) np
      refine ⟨p, _, rfl, SqT.of upd_same, rfl, _, _, rfl, _, _, rfl, rfl, ?_⟩
      have eL4 := Tp _ _ eL3
      refine ⟨_, rfl, .inl ⟨rfl, _, SqL.of eL4⟩, _, rfl, _, rfl, x, i, rfl, by omega, fun m => ⟨szr rfl, fun t nt => ?_⟩⟩
      have Tt := same_upd (o := HO.tup [V.int m, .bl false]) nt
      have eL5 := Tt _ _ eL4
      refine ⟨L, _, _, rfl, rfl, eL5, small1000 (by rw [List.length_map]; omega), ?_⟩
      refine ⟨⟨_, _, rfl⟩, same_updN (S3.trans (Tp.trans Tt)) nL, by rw [upd_ne (Ne.symm neL)]; exact Tt _ _ (Tp _ _ el3), rs' ++ [t], by rw [upd_same, List.map_append]; rfl, by rw [List.length_append, rl']; rfl, fun r hr' => ?_⟩
      rcases List.mem_append.mp hr' with hr' | hr'
      · exact (((rn' r hr').same Tp).same Tt).updL eL5
      · rw [List.mem_singleton.mp hr']
        exact NumAt.updL ⟨_, _, upd_same⟩ eL5
    · rintro σ H3 ⟨⟨v5, v6, rfl⟩, S3, el3, rs', eL3, rl', rn'⟩
      exact ⟨_, rfl, z L rs' H3 S3 nL eL3 (by omega) rn'⟩
def LsOk (ls : List Ln) : Prop := ls.length ≤ 60 ∧ ls.Nodup ∧ (ls.map lnD).Pairwise (fun d d' => Dt.blt d' d = false) ∧ ∀ a ∈ ls, hLt a.1 a.2 = true
def LnK (kvs : List (Dt × V)) : Prop := (kvs.map (·.1)).Nodup ∧ ∀ p ∈ kvs, ∃ a : Ln, p.1 = lnD a ∧ hLt a.1 a.2 = true
theorem LnK.put {kvs : List (Dt × V)} (h : LnK kvs) {a : Ln} (ne : hLt a.1 a.2 = true) (v : V) : LnK (putK kvs (lnD a) v) := ⟨putK_nd _ _ _ h.1, fun p hp => by
  have hm : p.1 ∈ (putK kvs (lnD a) v).map (·.1) := List.mem_map.mpr ⟨p, hp, rfl⟩
  rcases (putK_mem kvs (lnD a) v p.1).mp hm with e | e
  · exact ⟨a, e, ne⟩
  · obtain ⟨q, hq, e'⟩ := List.mem_map.mp e
    obtain ⟨b, hb, hn⟩ := h.2 q hq
    exact ⟨b, by rw [← e']; exact hb, hn⟩⟩
theorem as_lnD : ∀ {es : List Dt}, (∀ d ∈ es, ∃ a : Ln, d = lnD a ∧ hLt a.1 a.2 = true) → ∃ ls : List Ln, es = ls.map lnD ∧ ∀ a ∈ ls, hLt a.1 a.2 = true
  | [], _ => ⟨[], rfl, fun _ h => nomatch h⟩
  | d :: es, h => by
    obtain ⟨ls, e, k⟩ := as_lnD (es := es) fun x hx => h x (List.mem_cons_of_mem _ hx)
    obtain ⟨a, ha, hn⟩ := h d (List.mem_cons_self ..)
    refine ⟨a :: ls, by rw [e, ha]; rfl, fun b hb => ?_⟩
    rcases List.mem_cons.mp hb with rfl | hb
    · exact hn
    · exact k b hb
theorem ls_of {kvs : List (Dt × V)} {es : List Dt} (h : LnK kvs) (kl : kvs.length ≤ 60) (pe : es.Perm (kvs.map (·.1))) (srt : es.Pairwise (fun d d' => Dt.blt d' d = false)) : ∃ ls : List Ln, es = ls.map lnD ∧ LsOk ls := by
  obtain ⟨ls, rfl, k⟩ := as_lnD (es := es) fun d hd => by
    obtain ⟨p, hp, rfl⟩ := List.mem_map.mp (pe.mem_iff.mp hd)
    exact h.2 p hp
  refine ⟨ls, rfl, ?_, ?_, srt, k⟩
  · have := pe.length_eq
    rw [List.length_map, List.length_map] at this
    omega
  · exact (List.pairwise_map.mp (pe.nodup_iff.mpr h.1)).imp fun n e => n (by rw [e])
theorem dicv_updX {P : Program} {w : World} {H : Hp} {a b : Addr} {kvs : List (Dt × V)} {φ : Heap → Prop} {o : HO} (d : DicV P w H b kvs) (ha : H a = some (.ext φ)) (ne : b ≠ a) : DicV P w (upd H a o) b kvs := by
  obtain ⟨xs, dic, kd⟩ := d
  refine ⟨xs, ⟨by rw [upd_ne ne]; exact dic.at_, dic.sys, dic.len, fun x hx => ⟨DtIs.updX ha (dic.key x hx).1, (dic.key x hx).2⟩⟩, kd⟩
def spWork (K : PySem.W.Frag) : Sp := fun vs H Q _ => ∃ (a : Addr) (ns : List Int) (mo : Nat), vs = [.ref a, .int mo] ∧ SqL K H a (ns.map V.int) ∧ ns.length ≤ 63 ∧ mo ≤ 60 ∧
  ∀ (R F B : Addr) (fs bs : List Ln) H', Same H H' → H' R = some (.tup [.ref F, .ref B]) → DtL H' F (fs.map lnD) → DtL H' B (bs.map lnD) → LsOk fs → LsOk bs → Q (.ref R) H'
def wkS (a : Addr) (mo : Nat) (tf d0 d1 : Addr) (v5 v6 v7 v8 : Option V) : L2.St := [some (.ref a), some (.int mo), some (.ref tf), some (.ref d0), some (.ref d1), v5, v6, v7, v8]
def wkI (P : Program) (w : World) (H : Hp) (l : Addr) (rs : List Addr) (d0 d1 : Addr) (i : Nat) (H6 : Hp) : Prop := Same H H6 ∧ H6 l = some (.lst (rs.map V.ref)) ∧ ∃ k0 k1, DicV P w H6 d0 k0 ∧ DicV P w H6 d1 k1 ∧ LnK k0 ∧ LnK k1 ∧ k0.length ≤ i ∧ k1.length ≤ i
theorem scWork : FnScope ["_law_script", "_law_most", "_law_far_here", "_law_front", "_law_back", "_law_number", "_law_free", "_law_edge", "_law_both"] ["_law_script", "_law_most"] (defScope sWork) := ⟨rfl, rfl, rfl, by decide +kernel, rfl, by decide +kernel, by decide +kernel⟩
theorem ok_work {f fC fF fN fL fA : Addr} {fd fdC fdF fdN fdL fdA : FuncData} (D : Df K mg "_law_work" sWork f fd)
    (DC : Df K mg "_law_cell_at" sCell fC fdC) (bC : Binds K fdC ["_law_script", "_law_k"] []) (GC : FnOk P w K mg base CX0 1 fC fdC ["_law_script", "_law_k"] (spCell K))
    (DF : Df K mg "_law_far" sFar fF fdF) (bF : Binds K fdF ["_law_script"] []) (GF : FnOk P w K mg base CX0 2 fF fdF ["_law_script"] (spFar K))
    (DN : Df K mg "_law_numbers" sNums fN fdN) (bN : Binds K fdN ["_law_script", "_law_most"] []) (GN : FnOk P w K mg base CX0 2 fN fdN ["_law_script", "_law_most"] (spNums K))
    (DL : Df K mg "_law_line" sLine fL fdL) (bL : Binds K fdL ["_law_number", "_law_far_here"] []) (GL : FnOk P w K mg base CX0 1 fL fdL ["_law_number", "_law_far_here"] spLine)
    (DA : Df K mg "_law_anywhere" sAny fA fdA) (bA : Binds K fdA ["_law_number"] []) (GA : FnOk P w K mg base CX0 1 fA fdA ["_law_number"] spAny) (hsorted : mg "sorted" = none) : FnOk P w K mg base CX0 3 f fd ["_law_script", "_law_most"] (spWork K) := by
  refine D.F.ok scWork (fun vs H Q E h => ?_) (fun cdv A outer s H vs Q E hr h => ?_)
  · obtain ⟨a, ns, mo, rfl, _⟩ := h
    rfl
  · obtain ⟨a, ns, mo, rfl, hS, hlen, hmo, z⟩ := h
    have hr1 : Room 1 _ := hr.mono (by decide)
    refine ⟨_, (pss_cons (ps_set (i := 2) scWork.nd rfl (Or.inl rfl) (pec GF hr rfl DF.m DF.F.kp bF .nil pass0 (pac (pv 0) pa_nil)))
      (pss_cons (ps_set (i := 3) scWork.nd rfl (Or.inl rfl) pe_dnewD)
      (pss_cons (ps_set (i := 4) scWork.nd rfl (Or.inl rfl) pe_dnewD)
      (pss_cons (ps_for PassesOwn.never rfl (pi_list (pec GN hr rfl DN.m DN.F.kp bN .nil pass0 (pac (pv 0) (pac (pv 1) pa_nil)))) (pg_tup rfl (pgs_cons (pg_name (i := 5) scWork.nd rfl (Or.inl rfl)) (pgs_cons (pg_name (i := 6) scWork.nd rfl (Or.inl rfl)) pgs_nil))) (pss_cons (ps_set (i := 7) scWork.nd rfl (Or.inl rfl) (pec GL hr1 rfl DL.m DL.F.kp bL .nil pass0 (pac (pe_op op_fdiv (pv 5) pe_int) (pac (pv 2) pa_nil))))
      (pss_cons (ps_if (pt_val (pv 6)) (pss_one (ps_set (i := 7) scWork.nd rfl (Or.inl rfl) (pec GA hr1 rfl DA.m DA.F.kp bA .nil pass0 (pac (pe_op op_fdiv (pv 5) pe_int) pa_nil)))) pss_nil)
      (pss_cons (ps_set (i := 8) scWork.nd rfl (Or.inl rfl) (pe_cmpR op_eq (pe_op op_mod (pec GC hr1 rfl DC.m DC.F.kp bC .nil pass0 (pac (pv 0) (pac (pe_int) pa_nil))) pe_int) pe_int (nomark _)))
      (pss_cons (ps_if (PW.pt (pw_or (pt_val (pv 8)) (pw_or1 (pt_cmpR op_lt (pe_op op_mod (pv 5) pe_int) pe_int (nomark _))))) (pss_one (ps_dputD hr1 (pv 3) (pv 7) pe_bl rfl)) pss_nil)
      (pss_one (ps_if (PW.pt (pw_or (pt_val (pv 8)) (pw_or1 (pt_cmpR op_gt (pe_op op_mod (pv 5) pe_int) pe_int (nomark _))))) (pss_one (ps_dputD hr1 (pv 4) (pv 7) pe_bl rfl)) pss_nil)))))))
      (pss_one (ps_ret (pe_tup (pac (pe_callB (call_sortedD hr1) (by rfl) hsorted boot_sorted (pac (pv 3) pa_nil)) (pac (pe_callB (call_sortedD hr1) (by rfl) hsorted boot_sorted (pac (pv 4) pa_nil)) pa_nil))))))))), ?_⟩
    refine ⟨_, rfl, a, ns, rfl, hS, fun tf fx fy H1 S1 etf => ?_⟩
    refine fun d0 o0 n0 dic0 => ?_
    have T0 := same_upd (o := o0) n0
    refine fun d1 o1 n1 dic1 => ?_
    have T1 := same_upd (o := o1) n1
    have ne01 : d0 ≠ d1 := fun e => by
      obtain ⟨φ, ee⟩ := dic0.ext
      rw [← e, ee] at n1
      cases n1
    have S2 := S1.trans (T0.trans T1)
    have hd0 : H1 d0 = none := n0
    have hd1 : H1 d1 = none := none_same T0 n1
    refine ⟨_, rfl, _, rfl, a, ns, mo, rfl, S2.seq hS, hlen, hmo, fun l rs H3 S3 nl el rl hn => ?_⟩
    have S13 : Same H1 H3 := (T0.trans T1).trans S3
    have da := (dic0.same T1).same S3
    have db := dic1.same S3
    refine ⟨l, rfl, ⟨_, SqL.of el⟩, ?_⟩
    have keepX : ∀ {H' : Hp} {dd b : Addr} {kvs : List (Dt × V)} {o : HO} {v : HO}, DicV P w H' dd kvs → H' b = some v → (∀ φ, v ≠ .ext φ) → (upd H' dd o) b = some v := fun {H' dd b kvs o v} dd' hb hv => by
      obtain ⟨φ, ee⟩ := dd'.ext
      rw [upd_ne (fun e => by rw [e, ee] at hb; exact hv φ (Option.some.inj hb).symm)]
      exact hb
    have numK : ∀ {H' : Hp} {dd : Addr} {kvs : List (Dt × V)} {o : HO}, DicV P w H' dd kvs → (∀ r ∈ rs, NumAt H' r) → ∀ r ∈ rs, NumAt (upd H' dd o) r := fun {H' dd kvs o} dd' h r hr' => by
      obtain ⟨n, b, e⟩ := h r hr'
      exact ⟨n, b, keepX dd' e (fun _ zz => nomatch zz)⟩
    refine for_list (K := K) (a := l) (xs := rs.map V.ref) (fun i σ H6 => (∃ v5 v6 v7 v8, σ = wkS a mo tf d0 d1 v5 v6 v7 v8) ∧ wkI P w H1 l rs d0 d1 i H6 ∧ ∀ r ∈ rs, NumAt H6 r)
      ⟨⟨_, _, _, _, rfl⟩, ⟨S13, el, [], [], da, db, ⟨List.nodup_nil, fun _ h => nomatch h⟩, ⟨List.nodup_nil, fun _ h => nomatch h⟩, Nat.le_refl _, Nat.le_refl _⟩, hn⟩ (fun i σ H6 _ ⟨_, ⟨_, e, _⟩, _⟩ => SqL.of e) ?_ ?_
    · rintro i x σ H6 hx ⟨⟨v5, v6, v7, v8, rfl⟩, ⟨S6, el6, k0, k1, da6, db6, la, lb, ka, kb⟩, hn6⟩
      rw [List.getElem?_map] at hx
      cases hp : rs[i]? with
      | none => rw [hp] at hx; cases hx
      | some r =>
        rw [hp] at hx
        cases hx
        have hi : i < rs.length := (List.getElem?_eq_some_iff.mp hp).1
        obtain ⟨n, b, er⟩ := hn6 r (List.mem_of_getElem? hp)
        refine ⟨r, _, rfl, SqT.of er, rfl, _, _, rfl, _, _, rfl, rfl, ?_⟩
        refine ⟨_, rfl, _, _, rfl, rfl, ⟨by decide, by decide⟩, _, rfl, _, fx, fy, tf, rfl, S6 _ _ etf, fun e1 an H7 S7 hlt dt7 => ?_⟩
        refine' laterS (fun σ H8 => ∃ (e1 : Addr) (an : Ln), σ = wkS a mo tf d0 d1 (some (.int n)) (some (.bl b)) (some (.ref e1)) v8 ∧ Same H6 H8 ∧ hLt an.1 an.2 = true ∧ DtIs H8 (.ref e1) (lnD an)) (fun fin => _) _
        rotate_left
        · refine ⟨_, rfl, b, rfl, ifC (fun _ => ?_) (fun _ => fin _ _ ⟨e1, an, rfl, S7, hlt, dt7⟩)⟩
          refine ⟨_, rfl, _, _, rfl, rfl, ⟨by decide, by decide⟩, _, rfl, fun e2 bn H8 S8 hlt' dt8 => ?_⟩
          exact fin _ _ ⟨e2, bn, rfl, S7.trans S8, hlt', dt8⟩
        rintro σ H8 ⟨e1, an, rfl, S8, hlt, dt8⟩
        have h8 : (lnD an).dp ≤ 8 := by rw [lnD_dp]; decide
        refine ⟨_, rfl, a, ns, 1, rfl, ((S1.trans S6).trans S8).seq hS, fun c1 => ⟨_, _, rfl, rfl, (by show (0 : Int) < _; decide), rfl, ?_⟩⟩
        generalize hbo : decide ((fun i j => V.int (i % j)) c1 3 = V.int 1) = bo
        have da8 := da6.same S8
        have db8 := db6.same S8
        have hn8 : ∀ r ∈ rs, NumAt H8 r := fun r hr' => (hn6 r hr').same S8
        refine' laterS (fun σ H9 => σ = wkS a mo tf d0 d1 (some (.int n)) (some (.bl b)) (some (.ref e1)) (some (.bl bo)) ∧ Same H1 H9 ∧ H9 l = some (.lst (rs.map V.ref)) ∧ DtIs H9 (.ref e1) (lnD an) ∧ (∀ r ∈ rs, NumAt H9 r) ∧ ∃ k0, DicV P w H9 d0 k0 ∧ DicV P w H9 d1 k1 ∧ LnK k0 ∧ k0.length ≤ i + 1) (fun fin => _) _
        rotate_left
        · have put : ∀ D : Ends, (∀ H', (Same H1 H' ∧ H' l = some (.lst (rs.map V.ref)) ∧ DtIs H' (.ref e1) (lnD an) ∧ (∀ r ∈ rs, NumAt H' r) ∧ ∃ k0, DicV P w H' d0 k0 ∧ DicV P w H' d1 k1 ∧ LnK k0 ∧ k0.length ≤ i + 1) → D.nx (wkS a mo tf d0 d1 (some (.int n)) (some (.bl b)) (some (.ref e1)) (some (.bl bo))) H') → (sDPutD P w (tVar 3) (tVar 7) (tC (.bl true))) D (wkS a mo tf d0 d1 (some (.int n)) (some (.bl b)) (some (.ref e1)) (some (.bl bo))) H8 := fun D hD => by
            refine ⟨_, rfl, _, rfl, d0, e1, lnD an, k0, rfl, rfl, dt8, h8, da8, by omega, fun o dic' => hD _ ?_⟩
            obtain ⟨φ, ee⟩ := da8.ext
            exact ⟨same_updN (S6.trans S8) hd0, keepX da8 (S8 _ _ el6) (fun _ zz => nomatch zz), dt8.updX ee, numK da8 hn8, _, dic', dicv_updX db8 ee (Ne.symm ne01), la.put hlt _, Nat.le_trans (putK_len _ _ _) (Nat.succ_le_succ ka)⟩
          refine ⟨_, rfl, bo, rfl, ifC (fun _ => put _ fun H' h => fin _ _ ⟨rfl, h⟩) (fun _ => ?_)⟩
          refine ⟨_, rfl, _, _, rfl, rfl, (by show (0 : Int) < _; decide), _, _, rfl, rfl, _, rfl, ifC (fun _ => put _ fun H' h => fin _ _ ⟨rfl, h⟩) (fun _ => ?_)⟩
          exact fin _ _ ⟨rfl, S6.trans S8, S8 _ _ el6, dt8, hn8, k0, da8, db8, la, by omega⟩
        rintro σ H9 ⟨rfl, S9, el9, dt9, hn9, k0', da9, db9, la9, ka9⟩
        have put : ∀ D : Ends, (∀ H', (wkI P w H1 l rs d0 d1 (i + 1) H' ∧ ∀ r ∈ rs, NumAt H' r) → D.nx (wkS a mo tf d0 d1 (some (.int n)) (some (.bl b)) (some (.ref e1)) (some (.bl bo))) H') → (sDPutD P w (tVar 4) (tVar 7) (tC (.bl true))) D (wkS a mo tf d0 d1 (some (.int n)) (some (.bl b)) (some (.ref e1)) (some (.bl bo))) H9 := fun D hD => by
          refine ⟨_, rfl, _, rfl, d1, e1, lnD an, k1, rfl, rfl, dt9, h8, db9, by omega, fun o dic' => hD _ ?_⟩
          obtain ⟨φ, ee⟩ := db9.ext
          exact ⟨⟨same_updN S9 hd1, keepX db9 el9 (fun _ zz => nomatch zz), _, _, dicv_updX da9 ee ne01, dic', la9, lb.put hlt _, ka9, Nat.le_trans (putK_len _ _ _) (Nat.succ_le_succ kb)⟩, numK db9 hn9⟩
        refine ⟨_, rfl, bo, rfl, ifC (fun _ => put _ fun H' h => ⟨⟨_, _, _, _, rfl⟩, h⟩) (fun _ => ?_)⟩
        refine ⟨_, rfl, _, _, rfl, rfl, (by show (0 : Int) < _; decide), _, _, rfl, rfl, _, rfl, ifC (fun _ => put _ fun H' h => ⟨⟨_, _, _, _, rfl⟩, h⟩) (fun _ => ?_)⟩
        exact ⟨⟨_, _, _, _, rfl⟩, ⟨S9, el9, k0', k1, da9, db9, la9, lb, ka9, by omega⟩, hn9⟩
    · rintro σ H6 ⟨⟨v5, v6, v7, v8, rfl⟩, ⟨S6, el6, k0, k1, da6, db6, la, lb, ka, kb⟩, _⟩
      rw [List.length_map] at ka kb
      have sortOk : ∀ {kk : List (Dt × V)}, LnK kk → (∀ p ∈ kk, ∃ e r, p.1 = Dt.tup (e :: r) ∧ e.tag = "tuple") ∧ (∀ p ∈ kk, ∀ p' ∈ kk, Dt.like p.1 p'.1 = true) := fun {kk} lk => ⟨fun p hp => by
          obtain ⟨b, hb, _⟩ := lk.2 p hp
          exact ⟨_, _, hb, rfl⟩, fun p hp p' hp' => by
          obtain ⟨b, hb, _⟩ := lk.2 p hp
          obtain ⟨b', hb', _⟩ := lk.2 p' hp'
          rw [hb, hb']
          exact lnD_like b b'⟩
      refine ⟨_, rfl, d0, k0, "tuple", rfl, da6, (sortOk la).1, (sortOk la).2, fun F fv es nF dF pe srt => ?_⟩
      obtain ⟨fs, rfl, fok⟩ := ls_of la (by omega) pe srt
      have TF := same_upd (o := HO.lst fv) nF
      refine ⟨_, rfl, d1, k1, "tuple", rfl, db6.same TF, (sortOk lb).1, (sortOk lb).2, fun B bv es nB dB pe' srt' => ?_⟩
      obtain ⟨bs, rfl, bok⟩ := ls_of lb (by omega) pe' srt'
      have TB := same_upd (o := HO.lst bv) nB
      refine ⟨szr rfl, fun R nR => ?_⟩
      have TR := same_upd (o := HO.tup [V.ref F, .ref B]) nR
      exact z R F B fs bs _ ((S1.trans S6).trans ((TF.trans TB).trans TR)) upd_same ⟨fv, TR _ _ (TB _ _ upd_same), dF.same ((TF.trans TB).trans TR)⟩ ⟨bv, TR _ _ upd_same, dB.same (TB.trans TR)⟩ fok bok
end
end K62
namespace K62
open PySem PySem.Spec PyProof.Rows L2 BF
seal L2.PE L2.PA L2.PS L2.PSs L2.PT L2.PW L2.PG L2.PGs L2.PI BF.PTs L2.PO
theorem ln_two {H : Hp} {v : V} {a : Ln} (h : DtIs H v (lnD a)) : ∃ r x y, v = .ref r ∧ H r = some (.tup [.ref x, .ref y]) ∧ two H x a.1 ∧ two H y a.2 := by
  unfold lnD at h
  cases h with
  | tup e h1 =>
    cases h1 with
    | cons q1 t1 =>
      cases t1 with
      | cons q2 t2 =>
        cases t2
        cases q1 with
        | @tup x _ _ e1 k1 =>
          cases q2 with
          | @tup y _ _ e2 k2 => exact ⟨_, x, y, rfl, e, hD_two (.tup e1 k1), hD_two (.tup e2 k2)⟩
theorem as_hD : ∀ {es : List Dt}, (∀ d ∈ es, ∃ h : Ho, d = hD h) → ∃ hs : List Ho, es = hs.map hD
  | [], _ => ⟨[], rfl⟩
  | d :: es, h => by
    obtain ⟨hs, e⟩ := as_hD (es := es) fun x hx => h x (List.mem_cons_of_mem _ hx)
    obtain ⟨p, hp⟩ := h d (List.mem_cons_self ..)
    exact ⟨p :: hs, by rw [e, hp]; rfl⟩
theorem nodup_of_map {hs : List Ho} (h : (hs.map hD).Nodup) : hs.Nodup := (List.pairwise_map.mp h).imp fun n e => n (by rw [e])
def surD (ev : Ev) (h : Ho) : Dt := .tup [hD h, .int (sumAt ev h)]
def surR (ev : Ev) (hs : List Ho) : List Dt := (hs.filter fun h => decide (sumAt ev h ≠ 0)).map (surD ev)
section
variable {P : Program} {w : World} {K : PySem.W.Frag} {mg : Str → Option Value} {base : Heap}
def evs (fs bs : List Ln) : Nat → Ev
  | 0 => []
  | 1 => evL 1 fs
  | _ => evL 1 fs ++ evL (-1) bs
theorem evL_len (s : Int) (ls : List Ln) : (evL s ls).length = 2 * ls.length := by
  induction ls with
  | nil => rfl
  | cons a ls ih =>
    have e : evL s (a :: ls) = [(a.1, s), (a.2, s)] ++ evL s ls := by simp [evL]
    rw [e, List.length_append, ih]
    show 2 + 2 * ls.length = 2 * (ls.length + 1)
    omega
def spSur : Sp := fun vs H Q _ => ∃ (t F B : Addr) (fs bs : List Ln), vs = [.ref t] ∧ H t = some (.tup [.ref F, .ref B]) ∧ DtL H F (fs.map lnD) ∧ DtL H B (bs.map lnD) ∧ fs.length ≤ 70 ∧ bs.length ≤ 70 ∧
  ∀ l hs H', Same H H' → H l = none → (hs.map hD).Pairwise (fun d d' => Dt.blt d' d = false) → hs.Nodup → (∀ h, h ∈ hs ↔ ∃ e ∈ evL 1 fs ++ evL (-1) bs, e.1 = h) → DtL H' l (surR (evL 1 fs ++ evL (-1) bs) hs) → Q (.ref l) H'
theorem scSur : FnScope ["work", "by_hole", "lines", "sign", "line", "hole"] ["work"] (defScope sSur) := ⟨rfl, rfl, rfl, by decide +kernel, rfl, by decide +kernel, by decide +kernel⟩
theorem ok_sur {f : Addr} {fd : FuncData} (D : Df K mg "surplus" sSur f fd) (hsorted : mg "sorted" = none) : FnOk P w K mg base CX0 1 f fd ["work"] spSur := by
  refine D.F.ok scSur (fun vs H Q E h => ?_) (fun cdv A outer s H vs Q E hr h => ?_)
  · obtain ⟨t, F, B, fs, bs, rfl, _⟩ := h
    rfl
  · obtain ⟨t, F, B, fs, bs, rfl, et, hF, hB, lf, lb, z⟩ := h
    refine ⟨_, (pss_cons (ps_set (i := 1) scSur.nd rfl (Or.inr rfl) pe_dnewD)
      (pss_cons (ps_for PassesOwn.never rfl (pi_tup (pe_tup (pac (pe_tup (pac (pe_ix ix_tup (pv 0) pe_int (fun _ _ => rfl)) (pac (pe_int) pa_nil))) (pac (pe_tup (pac (pe_ix ix_tup (pv 0) pe_int (fun _ _ => rfl)) (pac (pe_un un_neg pe_int) pa_nil))) pa_nil)))) (pg_tup rfl (pgs_cons (pg_name (i := 2) scSur.nd rfl (Or.inl rfl)) (pgs_cons (pg_name (i := 3) scSur.nd rfl (Or.inl rfl)) pgs_nil)))
        (pss_one (ps_for PassesOwn.never rfl (pi_list (pv 2)) (pg_name (i := 4) scSur.nd rfl (Or.inl rfl))
          (pss_one (ps_for PassesOwn.never rfl (pi_tup (pv 4)) (pg_name (i := 5) scSur.nd rfl (Or.inl rfl))
            (pss_one (ps_dputD hr (pv 1) (pv 5) (pe_op op_add (pe_bmD PySem.F.slot_dict_get PySem.F.type_dict_get (mt_getD hr) (pv 1) (pac (pv 5) (pac (pe_int) pa_nil))) (pv 3)) rfl)))))))
      (pss_one (ps_ret (pe_comp (tt := tTest (tOp rNe (tDGetD P w (tVar 1) (tVar 0)) (tC (.int 0)))) (te := tTup (tCons (tVar 0) (tCons (tDGetD P w (tVar 1) (tVar 0)) tNil))) (N' := ["hole", "by_hole"]) (idx := [none, some 1]) (compOk_of (by kernel_rfl)) (by kernel_rfl) rfl (pi_list (pe_callB (call_sortedD hr) (by rfl) hsorted boot_sorted (pac (pv 1) pa_nil)))
          (fun _ _ _ _ _ => pg_name (i := 0) (show (["hole", "by_hole"] : List Str).Nodup by decide +kernel) rfl (Or.inl rfl))
          (fun _ _ _ _ _ => pts_one (pt_cmpR op_ne (pe_dgetD hr (pv 1) (pv 0) (fun _ _ => rfl)) pe_int (nomark _)))
          (fun _ _ _ _ _ => pe_tup (pac (pv 0) (pac (pe_dgetD hr (pv 1) (pv 0) (fun _ _ => rfl)) pa_nil)))))))), ?_⟩
    obtain ⟨fv, eF, dF⟩ := hF
    obtain ⟨bv, eB, dB⟩ := hB
    have fvl : fv.length = fs.length := by rw [dF.length, List.length_map]
    have bvl : bv.length = bs.length := by rw [dB.length, List.length_map]
    refine fun dA o0 ndA dic0 => ?_
    have S0 := same_upd (o := o0) ndA
    refine ⟨_, rfl, t, _, _, _, rfl, rfl, SqT.of (S0 _ _ et), rfl, szr rfl, fun t1 n1 => ?_⟩
    have T1 := same_upd (o := HO.tup [V.ref F, .int 1]) n1
    refine ⟨_, rfl, t, _, _, _, rfl, rfl, SqT.of (T1 _ _ (S0 _ _ et)), rfl, _, rfl, szr rfl, fun t2 n2 => ⟨szr rfl, fun t3 n3 => ?_⟩⟩
    have T2 := same_upd (o := HO.tup [V.ref B, .int (-1)]) n2
    have T3 := same_upd (o := HO.tup [V.ref t1, .ref t2]) n3
    have SA := S0.trans ((T1.trans T2).trans T3)
    have e1 : (upd (upd (upd (upd H dA o0) t1 (.tup [V.ref F, .int 1])) t2 (.tup [V.ref B, .int (-1)])) t3 (.tup [V.ref t1, .ref t2])) t1 = some (.tup [V.ref F, .int 1]) := T3 _ _ (T2 _ _ upd_same)
    have e2 : (upd (upd (upd (upd H dA o0) t1 (.tup [V.ref F, .int 1])) t2 (.tup [V.ref B, .int (-1)])) t3 (.tup [V.ref t1, .ref t2])) t2 = some (.tup [V.ref B, .int (-1)]) := T3 _ _ upd_same
    have e3 : (upd (upd (upd (upd H dA o0) t1 (.tup [V.ref F, .int 1])) t2 (.tup [V.ref B, .int (-1)])) t3 (.tup [V.ref t1, .ref t2])) t3 = some (.tup [V.ref t1, .ref t2]) := upd_same
    have dicA := dic0.same ((T1.trans T2).trans T3)
    refine ⟨t3, rfl, ⟨_, SqT.of upd_same⟩, ?_⟩
    revert SA e1 e2 e3 dicA
    generalize (upd (upd (upd (upd H dA o0) t1 (.tup [V.ref F, .int 1])) t2 (.tup [V.ref B, .int (-1)])) t3 (.tup [V.ref t1, .ref t2])) = H1
    intro SA e1 e2 e3 dicA
    refine for_tup (K := K) (a := t3) (xs := [V.ref t1, .ref t2]) (fun i σ H2 => (∃ v2 v3 v4 v5, σ = [some (.ref t), some (.ref dA), v2, v3, v4, v5]) ∧ Same H H2 ∧ H2 t1 = some (.tup [V.ref F, .int 1]) ∧ H2 t2 = some (.tup [V.ref B, .int (-1)]) ∧ H2 t3 = some (.tup [V.ref t1, .ref t2]) ∧
        ∃ kvs, DicV P w H2 dA kvs ∧ DSum kvs (evs fs bs i) ∧ kvs.length ≤ (evs fs bs i).length)
      ⟨⟨_, _, _, _, rfl⟩, SA, e1, e2, e3, [], dicA, .nil, Nat.le_refl _⟩ (fun i σ H2 _ ⟨_, _, _, _, q, _⟩ => SqT.of q) ?_ ?_
    · rintro i x σ H2 hx ⟨⟨v2, v3, v4, v5, rfl⟩, S2, q1, q2, q3, kvs, dic, ds, kl⟩
      obtain ⟨tt, M, mv, ms, sg, rfl, et2, eM, dM, hml, eev⟩ : ∃ (tt M : Addr) (mv : List V) (ms : List Ln) (sg : Int), x = .ref tt ∧ H2 tt = some (.tup [.ref M, .int sg]) ∧ H M = some (.lst mv) ∧ DtsIs H mv (ms.map lnD) ∧ (evs fs bs i).length + 2 * ms.length ≤ 280 ∧ evs fs bs (i + 1) = evs fs bs i ++ evL sg ms := by
        match i, hx with
        | 0, hx =>
          cases hx
          exact ⟨t1, F, fv, fs, 1, rfl, q1, eF, dF, by show 0 + _ ≤ _; omega, rfl⟩
        | 1, hx =>
          cases hx
          exact ⟨t2, B, bv, bs, -1, rfl, q2, eB, dB, by show (evL 1 fs).length + _ ≤ _; rw [evL_len]; omega, rfl⟩
        | i + 2, hx => simp at hx
      have mvl : mv.length = ms.length := by rw [dM.length, List.length_map]
      refine ⟨tt, _, rfl, SqT.of et2, rfl, _, _, rfl, _, _, rfl, rfl, ?_⟩
      refine ⟨_, rfl, M, rfl, ⟨_, SqL.of (S2 _ _ eM)⟩, ?_⟩
      refine for_list (K := K) (a := M) (xs := mv) (fun j σ H3 => (∃ v4 v5, σ = [some (.ref t), some (.ref dA), some (.ref M), some (.int sg), v4, v5]) ∧ Same H H3 ∧ H3 t1 = some (.tup [V.ref F, .int 1]) ∧ H3 t2 = some (.tup [V.ref B, .int (-1)]) ∧ H3 t3 = some (.tup [V.ref t1, .ref t2]) ∧
          ∃ kvs, DicV P w H3 dA kvs ∧ DSum kvs (evs fs bs i ++ evL sg (ms.take j)) ∧ kvs.length ≤ (evs fs bs i).length + 2 * j)
        ⟨⟨_, _, rfl⟩, S2, q1, q2, q3, kvs, dic, by rw [List.take_zero]; show DSum kvs (evs fs bs i ++ []); rw [List.append_nil]; exact ds, kl⟩ (fun j σ H3 _ ⟨_, s3, _⟩ => SqL.of (s3 _ _ eM)) ?_ ?_
      · rintro j y σ H3 hy ⟨⟨v4, v5, rfl⟩, S3, q1, q2, q3, kvs, dic, ds, kl⟩
        obtain ⟨d, ed, dy⟩ := (dM.same S3).at j y hy
        rw [List.getElem?_map] at ed
        cases ha : ms[j]? with
        | none => rw [ha] at ed; cases ed
        | some a =>
          rw [ha] at ed
          cases ed
          have hj : j < ms.length := (List.getElem?_eq_some_iff.mp ha).1
          obtain ⟨r, x1, y1, rfl, er, tx, ty⟩ := ln_two dy
          have hd0 := dM.at j (.ref r) hy
          obtain ⟨d', ed', dy'⟩ := hd0
          rw [List.getElem?_map, ha] at ed'
          cases ed'
          obtain ⟨r', x0, y0, er', er0, tx0, ty0⟩ := ln_two dy'
          cases er'
          have ex : x0 = x1 ∧ y0 = y1 := by
            have := (S3 _ _ er0).symm.trans er
            simp at this
            exact this
          obtain ⟨rfl, rfl⟩ := ex
          have tk : ms.take (j + 1) = ms.take j ++ [a] := by rw [List.take_add_one, ha]; rfl
          refine ⟨_, rfl, r, rfl, ⟨_, SqT.of er⟩, ?_⟩
          refine for_tup (K := K) (a := r) (xs := [V.ref x0, .ref y0]) (fun m σ H4 => (∃ v5, σ = [some (.ref t), some (.ref dA), some (.ref M), some (.int sg), some (.ref r), v5]) ∧ Same H H4 ∧ H4 t1 = some (.tup [V.ref F, .int 1]) ∧ H4 t2 = some (.tup [V.ref B, .int (-1)]) ∧ H4 t3 = some (.tup [V.ref t1, .ref t2]) ∧
              ∃ kvs, DicV P w H4 dA kvs ∧ DSum kvs (evs fs bs i ++ evL sg (ms.take j) ++ [(a.1, sg), (a.2, sg)].take m) ∧ kvs.length ≤ (evs fs bs i).length + 2 * j + m)
            ⟨⟨_, rfl⟩, S3, q1, q2, q3, kvs, dic, by rw [List.take_zero, List.append_nil]; exact ds, kl⟩ (fun m σ H4 _ ⟨_, s4, _⟩ => SqT.of (s4 _ _ er0)) ?_ ?_
          · rintro m u σ H4 hu ⟨⟨v5, rfl⟩, S4, q1, q2, q3, kvs, dic, ds, kl⟩
            obtain ⟨hq, hp, rfl, th, te, hm2⟩ : ∃ (hq : Addr) (hp : Ho), u = .ref hq ∧ two H hq hp ∧ [(a.1, sg), (a.2, sg)].take (m + 1) = [(a.1, sg), (a.2, sg)].take m ++ [(hp, sg)] ∧ m < 2 := by
              match m, hu with
              | 0, hu => cases hu; exact ⟨x0, a.1, rfl, tx0, rfl, by decide⟩
              | 1, hu => cases hu; exact ⟨y0, a.2, rfl, ty0, rfl, by decide⟩
              | m + 2, hu => simp at hu
            have dh : DtIs H4 (.ref hq) (hD hp) := two_dt (S4 _ _ th)
            obtain ⟨φ, ext⟩ := dic.ext
            refine ⟨_, rfl, ⟨dA, kvs, rfl, dic⟩, _, rfl, dA, hq, hD hp, kvs, .int 0, rfl, rfl, dh, by rw [hD_dp1]; decide, dic, ?_⟩
            rw [ds.get hp]
            refine ⟨_, rfl, _, _, rfl, rfl, _, rfl, _, rfl, dA, hq, hD hp, kvs, rfl, rfl, dh, by rw [hD_dp1]; decide, dic, by omega, fun o' dic' => ?_⟩
            have ne : ∀ {b : Addr} {v : HO}, H4 b = some v → (∀ φ', v ≠ .ext φ') → b ≠ dA := fun {b v} hb hv zz => by
              rw [zz, ext] at hb
              exact hv φ (Option.some.inj hb).symm
            refine ⟨⟨_, rfl⟩, same_updN S4 ndA, ?_, ?_, ?_, _, dic', ?_, ?_⟩
            · rw [upd_ne (ne q1 fun _ zz => nomatch zz)]; exact q1
            · rw [upd_ne (ne q2 fun _ zz => nomatch zz)]; exact q2
            · rw [upd_ne (ne q3 fun _ zz => nomatch zz)]; exact q3
            · rw [te, ← List.append_assoc]
              exact ds.put hp sg
            · exact Nat.le_trans (putK_len _ _ _) (by omega)
          · rintro σ H4 ⟨⟨v5, rfl⟩, S4, q1, q2, q3, kvs, dic, ds, kl⟩
            refine ⟨⟨_, _, rfl⟩, S4, q1, q2, q3, kvs, dic, ?_, ?_⟩
            · rw [tk, evL_snoc, ← List.append_assoc, ← List.append_assoc, List.append_assoc (evs fs bs i ++ evL sg (ms.take j))]
              exact ds
            · have : ([V.ref x0, .ref y0] : List V).length = 2 := rfl
              rw [this] at kl
              omega
      · rintro σ H3 ⟨⟨v4, v5, rfl⟩, S3, q1, q2, q3, kvs, dic, ds, kl⟩
        rw [List.take_of_length_le (by omega)] at ds
        refine ⟨⟨_, _, _, _, rfl⟩, S3, q1, q2, q3, kvs, dic, by rw [eev]; exact ds, ?_⟩
        rw [eev, List.length_append, evL_len]
        omega
    · rintro σ H2 ⟨⟨v2, v3, v4, v5, rfl⟩, S2, _, _, _, kvs, dic, ds, kl⟩
      have ds : DSum kvs (evL 1 fs ++ evL (-1) bs) := ds
      revert ds z
      generalize (evL 1 fs ++ evL (-1) bs) = ev
      intro z ds
      have hkey : ∀ p ∈ kvs, ∃ h : Ho, p.1 = hD h := fun p hp => by
        obtain ⟨e, _, ee⟩ := (ds.mem p.1).mp (List.mem_map.mpr ⟨p, hp, rfl⟩)
        exact ⟨e.1, ee.symm⟩
      refine ⟨_, rfl, dA, kvs, "int", rfl, dic, fun p hp => ?_, fun p hp p' hp' => ?_, fun l zs es nl dz pe srt => ?_⟩
      · obtain ⟨h, e⟩ := hkey p hp
        exact ⟨_, _, e, rfl⟩
      · obtain ⟨h, e⟩ := hkey p hp
        obtain ⟨h', e'⟩ := hkey p' hp'
        rw [e, e']
        exact hD_like h h'
      obtain ⟨hs, rfl⟩ := as_hD (es := es) fun d hd => by
        obtain ⟨p, hp, rfl⟩ := List.mem_map.mp (pe.mem_iff.mp hd)
        exact hkey p hp
      have hnd : hs.Nodup := nodup_of_map (pe.nodup_iff.mpr ds.nd)
      have hmem : ∀ h, h ∈ hs ↔ ∃ e ∈ ev, e.1 = h := fun h => by
        have h1 : h ∈ hs ↔ hD h ∈ hs.map hD := ⟨fun hh => List.mem_map.mpr ⟨h, hh, rfl⟩, fun hh => by
          obtain ⟨g, hg, e⟩ := List.mem_map.mp hh
          rw [← hD_inj e]; exact hg⟩
        rw [h1, pe.mem_iff, ds.mem]
        exact ⟨fun ⟨e, he, ee⟩ => ⟨e, he, hD_inj ee⟩, fun ⟨e, he, ee⟩ => ⟨e, he, by rw [ee]⟩⟩
      have zl : zs.length = hs.length := by rw [dz.length, List.length_map]
      have hle : hs.length ≤ 280 := by
        have e1 := pe.length_eq
        rw [List.length_map, List.length_map] at e1
        have e2 : (evs fs bs ([V.ref t1, .ref t2] : List V).length).length ≤ 280 := by
          show (evL 1 fs ++ evL (-1) bs).length ≤ 280
          rw [List.length_append, evL_len, evL_len]
          omega
        omega
      have T := same_upd (o := HO.lst zs) nl
      have el : (upd H2 l (.lst zs)) l = some (.lst zs) := upd_same
      have dz3 := dz.same T
      have dic3 := dic.same T
      have S3 := S2.trans T
      refine ⟨l, rfl, ⟨_, SqL.of upd_same⟩, fun L nL => ?_⟩
      revert el dz3 dic3 S3 nL
      generalize (upd H2 l (.lst zs)) = H3
      intro el dz3 dic3 S3 nL
      refine comp_n (J := Itl K l) (n := zs.length) (fun i σ2 H4 => (∃ v0, σ2 = [v0, some (.ref dA)]) ∧ Same H3 H4 ∧ ∃ ys, H4 L = some (.lst ys) ∧ DtsIs H4 ys (surR ev (hs.take i))) ?_ ?_ ?_ ?_
      · exact ⟨⟨_, rfl⟩, same_upd nL, [], upd_same, .nil⟩
      · rintro i σ2 H4 hi ⟨⟨v0, rfl⟩, S4, _⟩
        exact ⟨zs, _, SqL.of (S4 _ _ el), List.getElem?_eq_getElem hi⟩
      · rintro σ2 H4 ⟨⟨v0, rfl⟩, S4, ys, eL, dL⟩
        rw [List.take_of_length_le (by omega)] at dL
        exact ⟨⟨zs, SqL.of (S4 _ _ el), Nat.le_refl _⟩, z L hs H4 (S3.trans S4) (none_same S3 nL) srt hnd hmem ⟨ys, eL, dL⟩⟩
      · rintro i σ2 H4 hi ⟨⟨v0, rfl⟩, S4, ys, eL, dL⟩ x H5 ⟨rfl, hx⟩
        have hx := hx zs (SqL.of (S4 _ _ el))
        obtain ⟨q, h, rfl, hh, th⟩ := th_at (dz3.same S4) hx
        have hhm : h ∈ hs := List.mem_of_getElem? hh
        have hv := ds.val h ((hmem h).mp hhm)
        have dic4 := dic3.same S4
        have dh : DtIs _ (.ref q) (hD h) := two_dt th
        have h8 : (hD h).dp ≤ 8 := by rw [hD_dp1]; decide
        have tk : hs.take (i + 1) = hs.take i ++ [h] := by rw [List.take_add_one, hh]; rfl
        refine ⟨_, rfl, _, rfl, dA, q, hD h, kvs, _, rfl, rfl, dh, h8, dic4, hv, rfl, _, rfl, ?_⟩
        by_cases h0 : sumAt ev h = 0
        · refine ifB_neg (by rw [h0]; rfl) ?_
          refine ⟨⟨_, rfl⟩, S4, ys, eL, ?_⟩
          have e : surR ev (hs.take (i + 1)) = surR ev (hs.take i) := by
            unfold surR
            rw [tk, List.filter_append, List.filter_cons, if_neg (by simp [h0]), List.filter_nil, List.append_nil]
          rw [e]
          exact dL
        · refine ifB_pos (by simp [h0]) ?_
          refine ⟨_, rfl, _, rfl, _, rfl, dA, q, hD h, kvs, _, rfl, rfl, dh, h8, dic4, hv, szr rfl, fun tt nt => ?_⟩
          have Tt := same_upd (o := HO.tup [V.ref q, .int (sumAt ev h)]) nt
          have eL5 := Tt _ _ eL
          have e : surR ev (hs.take (i + 1)) = surR ev (hs.take i) ++ [surD ev h] := by
            unfold surR
            rw [tk, List.filter_append, List.filter_cons, if_pos (by simp [h0]), List.filter_nil, List.map_append]
            rfl
          refine ⟨ys, eL5, ?_, ⟨_, rfl⟩, same_updN (S4.trans Tt) nL, _, upd_same, ?_⟩
          · have : ys.length ≤ i := by
              rw [dL.length]
              unfold surR
              rw [List.length_map]
              refine Nat.le_trans (List.length_filter_le ..) ?_
              rw [List.length_take]
              omega
            exact small1000 (by omega)
          · rw [e]
            exact ((dL.same Tt).updL eL5).snoc ((DtIs.tup upd_same (.cons (dh.same Tt) (.cons (.int _) .nil)) : DtIs _ (.ref tt) (surD ev h)).updL eL5)
end
end K62
namespace K62
open PySem PySem.Spec PyProof.Rows L2 BF
seal L2.PE L2.PA L2.PS L2.PSs L2.PT L2.PW L2.PG L2.PGs L2.PI BF.PTs L2.PO
theorem ln_at {H : Hp} {vs : List V} {ls : List Ln} (h : DtsIs H vs (ls.map lnD)) {i : Nat} {v : V} (e : vs[i]? = some v) : ∃ r x y a, v = .ref r ∧ ls[i]? = some a ∧ H r = some (.tup [.ref x, .ref y]) ∧ two H x a.1 ∧ two H y a.2 := by
  obtain ⟨d, ed, dv⟩ := h.at i v e
  rw [List.getElem?_map] at ed
  cases ha : ls[i]? with
  | none => rw [ha] at ed; cases ed
  | some a =>
    rw [ha] at ed
    cases ed
    obtain ⟨r, x, y, rfl, er, tx, ty⟩ := ln_two dv
    exact ⟨r, x, y, a, rfl, rfl, er, tx, ty⟩
theorem ln_dt {H : Hp} {r x y : Addr} {a : Ln} (er : H r = some (.tup [.ref x, .ref y])) (tx : two H x a.1) (ty : two H y a.2) : DtIs H (.ref r) (lnD a) := .tup er (.cons (two_dt tx) (.cons (two_dt ty) .nil))
theorem dapp {H' : Hp} {us ws : List V} {ds es : List Dt} (h1 : DtsIs H' us ds) (h2 : DtsIs H' ws es) : DtsIs H' (us ++ ws) (ds ++ es) := by
  induction ds generalizing us with
  | nil => cases h1; exact h2
  | cons d ds ih => cases h1 with
    | cons q tl => exact .cons q (ih tl)
theorem dts_init {H : Hp} : ∀ {ds es : List Dt} {us ws : List V}, DtsIs H (us ++ ws) (ds ++ es) → us.length = ds.length → DtsIs H us ds
  | [], _, [], _, _, _ => .nil
  | d :: ds, _, u :: us, _, .cons q t, hl => .cons q (dts_init t (by simpa using hl))
  | [], _, _ :: _, _, _, hl => by simp at hl
  | _ :: _, _, [], _, _, hl => by simp at hl
theorem beq_hD (p q : Ho) : Dt.beq (hD p) (hD q) = decide (p = q) := by
  by_cases h : p = q
  · rw [h, Dt.beq_self, decide_eq_true rfl]
  · rw [decide_eq_false h]
    exact Dt.beq_false.mpr fun e => h (hD_inj e)
def nbP (ls : List Ln) : List (Ho × Ho) := (ls.map fun a => [(a.1, a.2), (a.2, a.1)]).flatten
def nbEv (ls : List Ln) : Ap := (nbP ls).map fun p => (p.1, hD p.2)
def nbOf (ls : List Ln) (h : Ho) : List Ho := ((nbP ls).filter fun p => decide (p.1 = h)).map (·.2)
theorem atH_nb (ls : List Ln) (h : Ho) : atH (nbEv ls) h = (nbOf ls h).map hD := by
  unfold atH nbEv nbOf
  rw [List.filter_map, List.map_map, List.map_map]
  rfl
theorem nbP_mem {ls : List Ln} {k m : Ho} : (k, m) ∈ nbP ls ↔ Adj ls k m := by
  unfold nbP
  constructor
  · intro h
    obtain ⟨l, hl, hm⟩ := List.mem_flatten.mp h
    obtain ⟨a, ha, rfl⟩ := List.mem_map.mp hl
    simp only [List.mem_cons, List.not_mem_nil, or_false, Prod.mk.injEq] at hm
    rcases hm with ⟨rfl, rfl⟩ | ⟨rfl, rfl⟩
    · exact ⟨a, ha, .inl ⟨rfl, rfl⟩⟩
    · exact ⟨a, ha, .inr ⟨rfl, rfl⟩⟩
  · rintro ⟨a, ha, ⟨rfl, rfl⟩ | ⟨rfl, rfl⟩⟩
    · exact List.mem_flatten.mpr ⟨_, List.mem_map.mpr ⟨a, ha, rfl⟩, by simp⟩
    · exact List.mem_flatten.mpr ⟨_, List.mem_map.mpr ⟨a, ha, rfl⟩, by simp⟩
theorem nbOf_mem {ls : List Ln} {h m : Ho} : m ∈ nbOf ls h ↔ Adj ls h m := by
  unfold nbOf
  rw [← nbP_mem]
  constructor
  · intro hm
    obtain ⟨p, hp, rfl⟩ := List.mem_map.mp hm
    obtain ⟨h1, h2⟩ := List.mem_filter.mp hp
    have e : p.1 = h := of_decide_eq_true h2
    rw [← e]
    exact h1
  · intro hm
    exact List.mem_map.mpr ⟨(h, m), List.mem_filter.mpr ⟨hm, decide_eq_true rfl⟩, rfl⟩
theorem nbEv_mem {ls : List Ln} {h : Ho} : (∃ e ∈ nbEv ls, e.1 = h) ↔ ∃ a ∈ ls, a.1 = h ∨ a.2 = h := by
  constructor
  · rintro ⟨e, he, rfl⟩
    obtain ⟨⟨k, m⟩, hp, rfl⟩ := List.mem_map.mp he
    obtain ⟨a, ha, ⟨h1, _⟩ | ⟨h1, _⟩⟩ := nbP_mem.mp hp
    · exact ⟨a, ha, .inl h1⟩
    · exact ⟨a, ha, .inr h1⟩
  · rintro ⟨a, ha, h1 | h1⟩
    · exact ⟨(h, hD a.2), List.mem_map.mpr ⟨(h, a.2), nbP_mem.mpr ⟨a, ha, .inl ⟨h1, rfl⟩⟩, rfl⟩, rfl⟩
    · exact ⟨(h, hD a.1), List.mem_map.mpr ⟨(h, a.1), nbP_mem.mpr ⟨a, ha, .inr ⟨h1, rfl⟩⟩, rfl⟩, rfl⟩
theorem nbEv_snoc (ls : List Ln) (a : Ln) : nbEv (ls ++ [a]) = nbEv ls ++ [(a.1, hD a.2)] ++ [(a.2, hD a.1)] := by simp [nbEv, nbP]
theorem nbP_len : ∀ ls : List Ln, (nbP ls).length = 2 * ls.length
  | [] => rfl
  | a :: ls => by
    have e : nbP (a :: ls) = [(a.1, a.2), (a.2, a.1)] ++ nbP ls := by simp [nbP]
    rw [e, List.length_append, nbP_len ls, List.length_cons]
    show 2 + 2 * ls.length = 2 * (ls.length + 1)
    omega
theorem nbEv_len (ls : List Ln) : (nbEv ls).length = 2 * ls.length := by unfold nbEv; rw [List.length_map, nbP_len]
theorem nbOf_len (ls : List Ln) (h : Ho) : (nbOf ls h).length ≤ 2 * ls.length := by
  unfold nbOf
  rw [List.length_map, ← nbP_len]
  exact List.length_filter_le _ _
section
variable {P : Program} {w : World} {K : PySem.W.Frag} {mg : Str → Option Value} {base : Heap}
structure WkIs (H : Hp) (t F B : Addr) (fs bs : List Ln) : Prop where
  t : H t = some (.tup [.ref F, .ref B])
  f : DtL H F (fs.map lnD)
  b : DtL H B (bs.map lnD)
  lf : fs.length ≤ 70
  lb : bs.length ≤ 70
theorem WkIs.same {H H' : Hp} {t F B : Addr} {fs bs : List Ln} (k : WkIs H t F B fs bs) (s : Same H H') : WkIs H' t F B fs bs := ⟨s _ _ k.t, k.f.same s, k.b.same s, k.lf, k.lb⟩
def spNb (P : Program) (w : World) : Sp := fun vs H Q _ => ∃ (t F B : Addr) (fs bs : List Ln), vs = [.ref t] ∧ WkIs H t F B fs bs ∧
  ∀ d ks kvs H', Same H H' → H d = none → DoL P w H H' d ks (nbEv (fs ++ bs)) kvs → (∀ h, h ∈ ks ↔ ∃ e ∈ nbEv (fs ++ bs), e.1 = h) → kvs.length ≤ 280 → Q (.ref d) H'
theorem scNb : FnScope ["work", "neighbours", "one", "other"] ["work"] (defScope sNb) := ⟨rfl, rfl, rfl, by decide +kernel, rfl, by decide +kernel, by decide +kernel⟩
theorem ok_nb {f : Addr} {fd : FuncData} (D : Df K mg "neighbours_by_hole" sNb f fd) : FnOk P w K mg base CX0 1 f fd ["work"] (spNb P w) := by
  refine D.F.ok scNb (fun vs H Q E h => ?_) (fun cdv A outer s H vs Q E hr h => ?_)
  · obtain ⟨t, F, B, fs, bs, rfl, _⟩ := h
    rfl
  · obtain ⟨t, F, B, fs, bs, rfl, wk, z⟩ := h
    refine ⟨_, (pss_cons (ps_set (i := 1) scNb.nd rfl (Or.inl rfl) pe_dnewD)
      (pss_cons (ps_for PassesOwn.never rfl (pi_list (pe_op op_cat (pe_ix ix_tup (pv 0) pe_int (fun _ _ => rfl)) (pe_ix ix_tup (pv 0) pe_int (fun _ _ => rfl)))) (pg_tup rfl (pgs_cons (pg_name (i := 2) scNb.nd rfl (Or.inl rfl)) (pgs_cons (pg_name (i := 3) scNb.nd rfl (Or.inl rfl)) pgs_nil))) (pss_cons (ps_expr (pe_bm PySem.F.plainAttrs_list PySem.F.slot_list_append PySem.F.type_list_append mt_append (pe_bmD PySem.F.slot_dict_setdefault PySem.F.type_dict_setdefault (mt_setDefR hr) (pv 1) (pac (pv 2) (pac (pe_lst pa_nil) pa_nil))) (pac (pv 3) pa_nil)))
      (pss_one (ps_expr (pe_bm PySem.F.plainAttrs_list PySem.F.slot_list_append PySem.F.type_list_append mt_append (pe_bmD PySem.F.slot_dict_setdefault PySem.F.type_dict_setdefault (mt_setDefR hr) (pv 1) (pac (pv 3) (pac (pe_lst pa_nil) pa_nil))) (pac (pv 2) pa_nil))))))
      (pss_one (ps_ret (pv 1))))), ?_⟩
    obtain ⟨et, ⟨fv, eF, dF⟩, ⟨bv, eB, dB⟩, lf, lb⟩ := wk
    have fvl : fv.length = fs.length := by rw [dF.length, List.length_map]
    have bvl : bv.length = bs.length := by rw [dB.length, List.length_map]
    refine fun dA o0 ndA dic0 => ?_
    have S0 := same_upd (o := o0) ndA
    refine ⟨_, rfl, t, _, _, _, rfl, rfl, SqT.of (S0 _ _ et), rfl, _, rfl, t, _, _, _, rfl, rfl, SqT.of (S0 _ _ et), rfl, F, B, fv, bv, rfl, rfl, S0 _ _ eF, S0 _ _ eB, sz (by omega), fun C nC => ?_⟩
    have T3 := same_upd (o := HO.lst (fv ++ bv)) nC
    have dC : DtsIs H (fv ++ bv) ((fs ++ bs).map lnD) := by rw [List.map_append]; exact dapp dF dB
    have S3 := S0.trans T3
    have dic3 := dic0.same T3
    have eC : (upd (upd H dA o0) C (.lst (fv ++ bv))) C = some (.lst (fv ++ bv)) := upd_same
    have nCH : H C = none := none_same S0 nC
    refine ⟨C, rfl, ⟨_, SqL.of upd_same⟩, ?_⟩
    have hl : (fs ++ bs).length ≤ 140 := by rw [List.length_append]; omega
    have xsl : (fv ++ bv).length = (fs ++ bs).length := by rw [dC.length, List.length_map]
    revert S3 dic3 eC
    generalize (upd (upd H dA o0) C (.lst (fv ++ bv))) = H3
    intro S3 dic3 eC
    generalize fv ++ bv = xs at *
    generalize hall : fs ++ bs = all at *
    refine for_list (K := K) (a := C) (xs := xs) (fun i σ H4 => (∃ v2 v3, σ = [some (.ref t), some (.ref dA), v2, v3]) ∧ Same H H4 ∧ H4 C = some (.lst xs) ∧ ∃ ks kvs, DoL P w H H4 dA ks (nbEv (all.take i)) kvs ∧ (∀ h, h ∈ ks ↔ ∃ e ∈ nbEv (all.take i), e.1 = h) ∧ kvs.length ≤ 2 * i ∧ ∀ h r, valV kvs (hD h) = some (.ref r) → r ≠ C)
      ⟨⟨_, _, rfl⟩, S3, eC, [], [], by rw [List.take_zero]; exact DoL.start dic3, by rw [List.take_zero]; exact fun h => ⟨fun z => (nomatch z), fun ⟨_, z, _⟩ => (nomatch z)⟩, Nat.le_refl _, fun h r e => (nomatch e)⟩ (fun i σ H4 _ ⟨_, _, e, _⟩ => SqL.of e) ?_ ?_
    · rintro i x σ H4 hx ⟨⟨v2, v3, rfl⟩, S4, eC4, ks, kvs, D4, mem4, kl, nc4⟩
      obtain ⟨r, x0, y0, a, rfl, ha, er, tx, ty⟩ := ln_at dC hx
      have hi : i < all.length := (List.getElem?_eq_some_iff.mp ha).1
      have tk : all.take (i + 1) = all.take i ++ [a] := by rw [List.take_add_one, ha]; rfl
      refine ⟨r, _, rfl, SqT.of (S4 _ _ er), rfl, _, _, rfl, _, _, rfl, rfl, ?_⟩
      refine ⟨_, rfl, ⟨dA, kvs, rfl, D4.dic⟩, _, rfl, szr rfl, fun L nL => ?_⟩
      have T := same_upd (o := HO.lst []) nL
      have neLC : L ≠ C := fun e => by rw [e, eC4] at nL; cases nL
      refine ⟨dA, x0, hD a.1, kvs, .ref L, rfl, rfl, two_dt (T _ _ (S4 _ _ tx)), by rw [hD_dp1]; decide, D4.dic.same T, by omega, fun u H5 sd => ?_⟩
      obtain ⟨r', ks', kvs', ys, rfl, D5, S5, hk', e5, n5, er5, yl, kl5, cc⟩ := D4.setDef S4 ndA nL sd
      obtain ⟨eC5, nc5⟩ := cc C xs eC4 nc4
      have yl2 : ys.length ≤ 300 := by
        rw [nbEv_len, List.length_take] at yl
        omega
      refine ⟨.inl ⟨rfl, _, SqL.of er5⟩, _, rfl, r', ys, _, rfl, rfl, er5, small1000 (by omega), ?_⟩
      have D6 := D5.app e5 er5 (two_dt (S5 _ _ ty))
      have S6 := same_updN (o := HO.lst (ys ++ [V.ref y0])) S5 n5
      have eC6 : (upd H5 r' (.lst (ys ++ [.ref y0]))) C = some (.lst xs) := by rw [upd_ne (fun e => nc5 _ _ e5 e.symm)]; exact eC5
      revert D6 S6 eC6
      generalize (upd H5 r' (.lst (ys ++ [.ref y0]))) = H6
      intro D6 S6 eC6
      refine ⟨_, rfl, ⟨dA, kvs', rfl, D6.dic⟩, _, rfl, szr rfl, fun M nM => ?_⟩
      have T' := same_upd (o := HO.lst []) nM
      refine ⟨dA, y0, hD a.2, kvs', .ref M, rfl, rfl, two_dt (T' _ _ (S6 _ _ ty)), by rw [hD_dp1]; decide, D6.dic.same T', by omega, fun u' H7 sd' => ?_⟩
      obtain ⟨r'', ks'', kvs'', ys', rfl, D7, S7, hk'', e7, n7, er7, yl', kl7, cc'⟩ := D6.setDef S6 ndA nM sd'
      obtain ⟨eC7, nc7⟩ := cc' C xs eC6 nc5
      have yl3 : ys'.length ≤ 400 := by
        rw [List.length_append, nbEv_len, List.length_take, List.length_singleton] at yl'
        omega
      refine ⟨.inl ⟨rfl, _, SqL.of er7⟩, _, rfl, r'', ys', _, rfl, rfl, er7, small1000 (by omega), ?_⟩
      refine ⟨⟨_, _, rfl⟩, same_updN S7 n7, by rw [upd_ne (fun e => nc7 _ _ e7 e.symm)]; exact eC7, ks'', kvs'', ?_, ?_, by omega, nc7⟩
      · rw [tk, nbEv_snoc]
        exact D7.app e7 er7 (two_dt (S7 _ _ tx))
      · intro g
        rw [hk'', hk', mem4, tk, nbEv_snoc]
        constructor
        · rintro (rfl | rfl | ⟨e, he, ze⟩)
          · exact ⟨_, List.mem_append_right _ (List.mem_singleton.mpr rfl), rfl⟩
          · exact ⟨_, List.mem_append_left _ (List.mem_append_right _ (List.mem_singleton.mpr rfl)), rfl⟩
          · exact ⟨e, List.mem_append_left _ (List.mem_append_left _ he), ze⟩
        · rintro ⟨e, he, ze⟩
          rcases List.mem_append.mp he with he | he
          · rcases List.mem_append.mp he with he | he
            · exact .inr (.inr ⟨e, he, ze⟩)
            · rw [List.mem_singleton.mp he] at ze
              exact .inr (.inl ze.symm)
          · rw [List.mem_singleton.mp he] at ze
            exact .inl ze.symm
    · rintro σ H4 ⟨⟨v2, v3, rfl⟩, S4, eC4, ks, kvs, D4, mem4, kl, _⟩
      rw [List.take_of_length_le (by omega)] at D4 mem4
      subst hall
      exact ⟨_, rfl, z dA ks kvs H4 S4 ndA D4 mem4 (by omega)⟩
end
end K62
namespace K62
open PySem PySem.Spec PyProof.Rows L2 BF
seal L2.PE L2.PA L2.PS L2.PSs L2.PT L2.PW L2.PG L2.PGs L2.PI BF.PTs L2.PO
structure LeOk (P : Program) (w : World) (H : Hp) (d : Addr) (kvs : List (Dt × V)) (L : Ho → Option Ho) : Prop where
  dic : DicV P w H d kvs
  nd : (kvs.map (·.1)).Nodup
  mem : ∀ e, e ∈ kvs.map (·.1) ↔ ∃ h, L h ≠ none ∧ hD h = e
  val : ∀ h f, L h = some f → ∃ q, valV kvs (hD h) = some (.ref q) ∧ two H q f
section
variable {P : Program} {w : World} {H : Hp} {d : Addr} {kvs : List (Dt × V)} {L : Ho → Option Ho}
theorem LeOk.start (h : DicV P w H d []) : LeOk P w H d [] (fun _ => none) := ⟨h, List.nodup_nil, fun e => ⟨fun z => (nomatch z), fun ⟨_, z, _⟩ => absurd rfl z⟩, fun _ _ z => (nomatch z)⟩
theorem LeOk.same {H' : Hp} (D : LeOk P w H d kvs L) (s : Same H H') : LeOk P w H' d kvs L := ⟨D.dic.same s, D.nd, D.mem, fun h f e => let ⟨q, v, t⟩ := D.val h f e; ⟨q, v, s _ _ t⟩⟩
theorem LeOk.updL {r : Addr} {ys : List V} {o : HO} (D : LeOk P w H d kvs L) (er : H r = some (.lst ys)) : LeOk P w (upd H r o) d kvs L :=
  ⟨D.dic.updL er, D.nd, D.mem, fun h f e => let ⟨q, v, t⟩ := D.val h f e; ⟨q, v, by
    have ne : q ≠ r := fun z => by
      rw [z] at t
      have := t.symm.trans er
      cases this
    show upd H r o q = _
    rw [upd_ne ne]
    exact t⟩⟩
theorem LeOk.isIn (D : LeOk P w H d kvs L) (h : Ho) : hD h ∈ kvs.map (·.1) ↔ L h ≠ none := by
  rw [D.mem]
  constructor
  · rintro ⟨g, n, e⟩
    rw [← hD_inj e]
    exact n
  · exact fun n => ⟨h, n, rfl⟩
theorem LeOk.put {h f : Ho} {q : Addr} {o : HO} (D : LeOk P w H d kvs L) (t : two H q f) (d' : DicV P w (upd H d o) d (putK kvs (hD h) (.ref q))) : LeOk P w (upd H d o) d (putK kvs (hD h) (.ref q)) (setL L h f) := by
  obtain ⟨φ, ext⟩ := D.dic.ext
  have keep : ∀ {q : Addr} {f : Ho}, two H q f → two (upd H d o) q f := fun {q f} t => by
    show upd H d o q = _
    rw [upd_ne (fun z => by
      rw [z] at t
      have := t.symm.trans ext
      cases this)]
    exact t
  refine ⟨d', putK_nd _ _ _ D.nd, fun e => ?_, fun g f' hg => ?_⟩
  · rw [putK_mem, D.mem]
    constructor
    · rintro (rfl | ⟨g, n, rfl⟩)
      · exact ⟨h, by rw [setL_same]; exact Option.some_ne_none _, rfl⟩
      · refine ⟨g, ?_, rfl⟩
        by_cases z : g = h
        · rw [z, setL_same]; exact Option.some_ne_none _
        · rw [setL_ne z]; exact n
    · rintro ⟨g, n, rfl⟩
      by_cases z : g = h
      · rw [z]; exact .inl rfl
      · rw [setL_ne z] at n
        exact .inr ⟨g, n, rfl⟩
  · rw [valV_put]
    by_cases z : g = h
    · subst z
      rw [setL_same] at hg
      rw [if_pos rfl, ← Option.some.inj hg]
      exact ⟨q, rfl, keep t⟩
    · rw [setL_ne z] at hg
      rw [if_neg (fun e => z (hD_inj e))]
      obtain ⟨q', v, t'⟩ := D.val g f' hg
      exact ⟨q', v, keep t'⟩
end
theorem valV_len {kvs : List (Dt × V)} {ks : List Ho} (nd : (kvs.map (·.1)).Nodup) (sub : ∀ e ∈ kvs.map (·.1), ∃ h ∈ ks, hD h = e) : kvs.length ≤ ks.length := by
  have : (kvs.map (·.1)).length ≤ (ks.map hD).length := List.Nodup.length_le_of_subset nd fun e he => by
    obtain ⟨h, hh, z⟩ := sub e he
    exact List.mem_map.mpr ⟨h, hh, z⟩
  rw [List.length_map, List.length_map] at this
  exact this
theorem low_of {hs : List Ho} (srt : (hs.map hD).Pairwise (fun d d' => Dt.blt d' d = false)) {i : Nat} {f g : Ho} (hf : hs[i]? = some f) (hg : g ∈ hs) (hn : g ∉ hs.take i) : Dt.blt (hD g) (hD f) = false := by
  obtain ⟨j, ej⟩ := List.mem_iff_getElem?.mp hg
  obtain ⟨hj, gj⟩ := List.getElem?_eq_some_iff.mp ej
  obtain ⟨hi, gi⟩ := List.getElem?_eq_some_iff.mp hf
  have hji : i ≤ j := by
    rcases Nat.lt_or_ge j i with h | h
    · exact absurd (List.mem_iff_getElem?.mpr ⟨j, by rw [List.getElem?_take, if_pos h]; exact ej⟩) hn
    · exact h
  rcases Nat.lt_or_eq_of_le hji with h | h
  · have := List.pairwise_iff_getElem.mp srt i j (by simpa using hi) (by simpa using hj) h
    rw [List.getElem_map, List.getElem_map, gi, gj] at this
    exact this
  · subst h
    rw [← gi, ← gj]
    exact Dt.irr _
section
variable {P : Program} {w : World} {K : PySem.W.Frag} {mg : Str → Option Value} {base : Heap}
def whI (P : Program) (w : World) (H2 : Hp) (ls : List Ln) (ks : List Ho) (L0 : Ho → Option Ho) (t dN dL wa G qf : Addr) (gv : List V) (f : Ho) (m : Nat) (σ : L2.St) (H5 : Hp) : Prop :=
  ∃ v5 kvs L ws, σ = [some (.ref t), some (.ref dN), some (.ref dL), some (.ref qf), some (.ref wa), v5] ∧ Same H2 H5 ∧ H5 G = some (.lst gv) ∧ LeOk P w H5 dL kvs L ∧ Srch ls f L ws ∧ DtL H5 wa (ws.map hD) ∧ (∀ h ∈ ws, h ∈ ks) ∧ (∀ h, L h ≠ none → h ∈ ks) ∧ (∀ h, L0 h ≠ none → L h ≠ none) ∧ (∀ h g, L h = some g → Dt.blt (hD h) (hD g) = false) ∧
    kvs.length ≤ ks.length ∧ ws.length ≤ 1 + kvs.length * 300 ∧ m = (ks.length - kvs.length) * 1000 + ws.length
def spLeast (P : Program) (w : World) : Sp := fun vs H Q _ => ∃ (t F B : Addr) (fs bs : List Ln), vs = [.ref t] ∧ WkIs H t F B fs bs ∧
  ∀ d kvs L H', Same H H' → H d = none → LeOk P w H' d kvs L → Whole (fs ++ bs) L → (∀ h, L h ≠ none ↔ ∃ a ∈ fs ++ bs, a.1 = h ∨ a.2 = h) → (∀ h g, L h = some g → Dt.blt (hD h) (hD g) = false) → kvs.length ≤ 280 → Q (.ref d) H'
theorem scLeast : FnScope ["work", "neighbours", "least", "first", "waiting", "hole"] ["work"] (defScope sLeast) := ⟨rfl, rfl, rfl, by decide +kernel, rfl, by decide +kernel, by decide +kernel⟩
theorem ok_least {f fN : Addr} {fd fdN : FuncData} (D : Df K mg "least_by_hole" sLeast f fd) (DN : Df K mg "neighbours_by_hole" sNb fN fdN) (bN : Binds K fdN ["work"] []) (GN : FnOk P w K mg base CX0 1 fN fdN ["work"] (spNb P w)) (hsorted : mg "sorted" = none) :
    FnOk P w K mg base CX0 2 f fd ["work"] (spLeast P w) := by
  refine D.F.ok scLeast (fun vs H Q E h => ?_) (fun cdv A outer s H vs Q E hr h => ?_)
  · obtain ⟨t, F, B, fs, bs, rfl, _⟩ := h
    rfl
  · obtain ⟨t, F, B, fs, bs, rfl, wk, z⟩ := h
    refine ⟨_, (pss_cons (ps_set (i := 1) scLeast.nd rfl (Or.inl rfl) (pec GN hr rfl DN.m DN.F.kp bN .nil pass0 (pac (pv 0) pa_nil)))
      (pss_cons (ps_set (i := 2) scLeast.nd rfl (Or.inl rfl) pe_dnewD)
      (pss_cons (ps_for PassesOwn.never rfl (pi_list (pe_callB (call_sortedD hr) (by rfl) hsorted boot_sorted (pac (pv 1) pa_nil))) (pg_name (i := 3) scLeast.nd rfl (Or.inl rfl)) (pss_cons (ps_set (i := 4) scLeast.nd rfl (Or.inl rfl) (pe_lst (pac (pv 3) pa_nil)))
      (pss_one (ps_while PassesOwn.never (pt_truth (pv 4) (fun _ => rfl)) (pss_cons (ps_set (i := 5) scLeast.nd rfl (Or.inl rfl) (pe_bm0 PySem.F.plainAttrs_list PySem.F.slot_list_pop PySem.F.type_list_pop mt_pop (pv 4)))
      (pss_one (ps_if (pt_cmpR (op_notInD hr) (pv 5) (pv 2) rfl) (pss_cons (ps_dputD hr (pv 2) (pv 5) (pv 3) rfl)
      (pss_one (ps_expr (pe_bm PySem.F.plainAttrs_list PySem.F.slot_list_extend PySem.F.type_list_extend mt_extend (pv 4) (pac (pe_dgetD hr (pv 1) (pv 5) (fun _ _ => rfl)) pa_nil))))) pss_nil)))))))
      (pss_one (ps_ret (pv 2)))))), ?_⟩
    have lf := wk.lf
    have lb := wk.lb
    refine ⟨_, rfl, t, F, B, fs, bs, rfl, wk, fun dN ks kvN H1 S1 nN DN1 memN knl => ?_⟩
    have hall : (fs ++ bs).length ≤ 140 := by rw [List.length_append]; omega
    revert DN1 memN z hall
    generalize fs ++ bs = ls
    intro z DN1 memN hall
    refine fun dL o0 ndL dic0 => ?_
    have T1 := same_upd (o := o0) ndL
    have nL0 : H dL = none := none_same S1 ndL
    refine ⟨_, rfl, dN, kvN, "int", rfl, DN1.dic.same T1, fun p hp => ?_, fun p hp p' hp' => ?_, fun G gv es nG dG pe srt => ?_⟩
    · obtain ⟨g, _, e⟩ := (DN1.mem p.1).mp (List.mem_map.mpr ⟨p, hp, rfl⟩)
      exact ⟨_, _, e.symm, rfl⟩
    · obtain ⟨g, _, e⟩ := (DN1.mem p.1).mp (List.mem_map.mpr ⟨p, hp, rfl⟩)
      obtain ⟨g', _, e'⟩ := (DN1.mem p'.1).mp (List.mem_map.mpr ⟨p', hp', rfl⟩)
      rw [← e, ← e']
      exact hD_like _ _
    obtain ⟨hs, rfl⟩ := as_hD (es := es) fun d hd => by
      obtain ⟨g, _, e⟩ := (DN1.mem d).mp (pe.mem_iff.mp hd)
      exact ⟨g, e.symm⟩
    have hnd : hs.Nodup := nodup_of_map (pe.nodup_iff.mpr DN1.nd)
    have hmem : ∀ h, h ∈ hs ↔ h ∈ ks := fun h => by
      constructor
      · intro hh
        obtain ⟨g, hg, e⟩ := (DN1.mem _).mp (pe.mem_iff.mp (List.mem_map.mpr ⟨h, hh, rfl⟩))
        exact hD_inj e ▸ hg
      · intro hh
        obtain ⟨g, hg, e⟩ := List.mem_map.mp (pe.mem_iff.mpr ((DN1.mem (hD h)).mpr ⟨h, hh, rfl⟩))
        exact hD_inj e ▸ hg
    have hsl : hs.length ≤ 280 := by
      have := pe.length_eq
      rw [List.length_map, List.length_map] at this
      omega
    have hadj : ∀ h m, Adj ls h m → m ∈ hs := fun h m ⟨a, ha, q⟩ => (hmem m).mpr ((memN m).mpr (nbEv_mem.mpr (by
      rcases q with ⟨_, q⟩ | ⟨_, q⟩
      · exact ⟨a, ha, .inr q⟩
      · exact ⟨a, ha, .inl q⟩)))
    have gvl : gv.length = hs.length := by rw [dG.length, List.length_map]
    have T2 := same_upd (o := HO.lst gv) nG
    have S2 : Same H1 (upd (upd H1 dL o0) G (.lst gv)) := T1.trans T2
    have eG : (upd (upd H1 dL o0) G (.lst gv)) G = some (.lst gv) := upd_same
    have dG2 := dG.same T2
    have dic2 := dic0.same T2
    have nG1 : H1 G = none := none_same T1 nG
    refine ⟨G, rfl, ⟨_, SqL.of upd_same⟩, ?_⟩
    revert S2 eG dG2 dic2
    generalize (upd (upd H1 dL o0) G (.lst gv)) = H2
    intro S2 eG dG2 dic2
    refine for_list (K := K) (a := G) (xs := gv) (fun i σ H3 => (∃ v3 v4 v5, σ = [some (.ref t), some (.ref dN), some (.ref dL), v3, v4, v5]) ∧ Same H1 H3 ∧ H3 G = some (.lst gv) ∧ DtsIs H3 gv (hs.map hD) ∧ ∃ kvs L, LeOk P w H3 dL kvs L ∧ Whole ls L ∧ (∀ h, L h ≠ none → h ∈ hs) ∧ (∀ h ∈ hs.take i, L h ≠ none) ∧ (∀ h g, L h = some g → Dt.blt (hD h) (hD g) = false) ∧ kvs.length ≤ hs.length)
      ⟨⟨_, _, _, rfl⟩, S2, eG, dG2, [], _, LeOk.start dic2, Whole.nil, fun _ z => absurd rfl z, by rw [List.take_zero]; exact fun _ z => (nomatch z), (fun _ _ z => nomatch z), Nat.zero_le _⟩ (fun i σ H3 _ ⟨_, _, e, _⟩ => SqL.of e) ?_ ?_
    · rintro i x σ H3 hx ⟨⟨v3, v4, v5, rfl⟩, S3, eG3, dG3, kvs, L, le, wh, sub, done, lst, kl⟩
      obtain ⟨q, f, rfl, hh, tq⟩ := th_at dG3 hx
      have hi : i < hs.length := (List.getElem?_eq_some_iff.mp hh).1
      have tk : hs.take (i + 1) = hs.take i ++ [f] := by rw [List.take_add_one, hh]; rfl
      have hf : f ∈ hs := List.mem_of_getElem? hh
      refine ⟨_, rfl, szr rfl, fun wa nw => ?_⟩
      have T3 := same_upd (o := HO.lst [V.ref q]) nw
      have S4 := S3.trans T3
      have nwa : H1 wa = none := none_same S3 nw
      have nGw : G ≠ wa := fun e => by rw [e, nw] at eG3; cases eG3
      have tqw : ∀ {H' : Hp}, Same (upd H3 wa (.lst [V.ref q])) H' → two H' q f := fun s' => s' _ _ (T3 _ _ tq)
      refine ⟨fun m σ H5 => whI P w H1 ls hs L t dN dL wa G q gv f m σ H5 ∧ two H5 q f ∧ DtsIs H5 gv (hs.map hD), ⟨(hs.length - kvs.length) * 1000 + 1, ⟨_, kvs, L, [f], rfl, S4, T3 _ _ eG3, le.same T3, Srch.begin wh f, ⟨_, upd_same, .cons (two_dt (T3 _ _ tq)) .nil⟩, fun h hh' => by rw [List.mem_singleton.mp hh']; exact hf, sub, fun _ n => n, lst, kl, by show 1 ≤ _; omega, rfl⟩, T3 _ _ tq, dG3.same T3⟩, ?_⟩
      rintro m σ H5 ⟨⟨v5, kvs, L', ws, rfl, S5, eG5, le5, sr, ⟨wv, ew, dw⟩, wks, sub5, old, lst5, kl5, wl, rfl⟩, tq5, dG5⟩
      have wvl : wv.length = ws.length := by rw [dw.length, List.length_map]
      refine ⟨_, rfl, _, .inl ⟨wv, SqL.of ew, rfl⟩, ?_⟩
      rcases List.eq_nil_or_concat ws with rfl | ⟨W, h, rfl⟩
      · -- none waits
        have : wv = [] := List.length_eq_zero_iff.mp wvl
        subst this
        refine ifB_neg rfl ?_
        obtain ⟨wh', hn⟩ := sr.done
        refine ⟨⟨_, _, _, rfl⟩, S5, eG5, dG5, kvs, L', le5, wh', sub5, fun g hg => ?_, lst5, kl5⟩
        rw [tk] at hg
        rcases List.mem_append.mp hg with hg | hg
        · exact old g (done g hg)
        · rw [List.mem_singleton.mp hg]
          exact hn
      · rw [List.concat_eq_append] at *
        obtain ⟨us, y, rfl⟩ : ∃ us y, wv = us ++ [y] := by
          rcases List.eq_nil_or_concat wv with rfl | ⟨us, y, rfl⟩
          · rw [List.length_append] at wvl
            exact absurd wvl (by show ¬ (0 = W.length + 1); omega)
          · exact ⟨us, y, List.concat_eq_append ..⟩
        have usl : us.length = W.length := by
          rw [List.length_append, List.length_append] at wvl
          have h1 : ([y] : List V).length = 1 := rfl
          have h2 : ([h] : List Ho).length = 1 := rfl
          omega
        have wl1 : (W ++ [h]).length = W.length + 1 := by rw [List.length_append]; rfl
        obtain ⟨p, g, ey, eg, th⟩ := th_at dw (i := us.length) (v := y) (by simp)
        subst ey
        have egh : g = h := by
          rw [usl] at eg
          simpa using eg.symm
        subst egh
        have dus : DtsIs H5 us (W.map hD) := by
          rw [List.map_append] at dw
          exact dts_init dw (by rw [List.length_map]; exact usl)
        refine ifB_pos (by simp) ?_
        refine ⟨fun σ H6 => ∃ m', m' < (hs.length - kvs.length) * 1000 + (W ++ [g]).length ∧ whI P w H1 ls hs L t dN dL wa G q gv f m' σ H6 ∧ two H6 q f ∧ DtsIs H6 gv (hs.map hD), fun σ' H' n => n, ?_⟩
        refine ⟨_, rfl, .inl ⟨rfl, _, SqL.of ew⟩, wa, _, .ref p, rfl, rfl, ew, by simp, ?_⟩
        rw [List.dropLast_concat]
        have upW : ∀ {c : Addr} {v : HO} {o : HO}, H5 c = some v → c ≠ wa → (upd H5 wa o) c = some v := fun {c v o} hc hne => by rw [upd_ne hne]; exact hc
        have neT : ∀ {c : Addr} {k : Ho}, two H5 c k → c ≠ wa := fun {c k} tc e => by
          rw [e] at tc
          have := tc.symm.trans ew
          cases this
        have le6 := le5.updL (o := .lst us) ew
        have S6 := same_updN (o := HO.lst us) S5 nwa
        have eG6 : (upd H5 wa (.lst us)) G = some (.lst gv) := upW eG5 nGw
        have th6 : two (upd H5 wa (.lst us)) p g := upW th (neT th)
        have tq6 : two (upd H5 wa (.lst us)) q f := upW tq5 (neT tq5)
        have dG6 := dG5.updL (o := .lst us) ew
        have ew6 : (upd H5 wa (.lst us)) wa = some (.lst us) := upd_same
        have dw6 := dus.updL (o := .lst us) ew
        revert le6 S6 eG6 th6 tq6 dG6 ew6 dw6
        generalize (upd H5 wa (.lst us)) = H6
        intro le6 S6 eG6 th6 tq6 dG6 ew6 dw6
        obtain ⟨xsL, dicL, kdL⟩ := id le6.dic
        refine ⟨_, rfl, _, rfl, p, dL, hD g, xsL, rfl, rfl, two_dt th6, by rw [hD_dp1]; decide, dicL, _, rfl, ?_⟩
        have key : decide (hD g ∈ xsL.map (·.1)) = decide (L' g ≠ none) := by
          rw [← kdL.keys]
          exact decide_eq_decide.mpr (le6.isIn g)
        rw [key]
        cases hL : L' g with
        | some c =>
          refine ifB_neg (by rw [decide_eq_true (Option.some_ne_none c)]; rfl) ?_
          refine ⟨(hs.length - kvs.length) * 1000 + W.length, by omega, ⟨_, kvs, L', W, rfl, S6, eG6, le6, sr.skip (by rw [hL]; exact Option.some_ne_none c), ⟨us, ew6, dw6⟩, fun h hh' => wks h (List.mem_append_left _ hh'), sub5, old, lst5, kl5, by omega, rfl⟩, tq6, dG6⟩
        | none =>
          refine ifB_pos (by rw [decide_eq_false (fun n => n rfl)]; rfl) ?_
          have gks : g ∈ hs := wks g (by simp)
          have kl6 : kvs.length + 1 ≤ hs.length := by
            have nd' := putK_nd kvs (hD g) (.ref q) le6.nd
            have := valV_len (kvs := putK kvs (hD g) (.ref q)) (ks := hs) nd' fun e he => by
              rcases (putK_mem _ _ _ e).mp he with rfl | he
              · exact ⟨g, gks, rfl⟩
              · obtain ⟨h', n', e'⟩ := (le6.mem e).mp he
                exact ⟨h', sub5 h' n', e'⟩
            have hv : valV kvs (hD g) = none := by
              cases hv : valV kvs (hD g) with
              | none => rfl
              | some u => exact absurd hL ((le6.isIn g).mp (valV_in hv))
            have pl : (putK kvs (hD g) (.ref q)).length = kvs.length + 1 := by
              unfold putK
              rw [if_neg (by rw [valV_any, hv]; exact Bool.false_ne_true), List.length_append]
              rfl
            omega
          refine ⟨_, rfl, _, rfl, _, rfl, dL, p, hD g, kvs, rfl, rfl, two_dt th6, by rw [hD_dp1]; decide, le6.dic, by omega, fun o' dic' => ?_⟩
          have le7 := le6.put tq6 dic'
          obtain ⟨φ, ext⟩ := le6.dic.ext
          have upX : ∀ {c : Addr} {v : HO}, H6 c = some v → (∀ ψ, v ≠ .ext ψ) → (upd H6 dL o') c = some v := fun {c v} hc hv => by
            rw [upd_ne (fun e => by rw [e, ext] at hc; exact hv φ (Option.some.inj hc).symm)]
            exact hc
          have S7 := same_updN (o := o') S6 ndL
          have eG7 := upX eG6 (fun _ zz => nomatch zz)
          have th7 : two (upd H6 dL o') p g := upX th6 (fun _ zz => nomatch zz)
          have tq7 : two (upd H6 dL o') q f := upX tq6 (fun _ zz => nomatch zz)
          have dG7 := dG6.updX (o := o') ext
          have ew7 := upX ew6 (fun _ zz => nomatch zz)
          have dw7 := dw6.updX (o := o') ext
          have pl : (putK kvs (hD g) (.ref q)).length = kvs.length + 1 := by
            have hv : valV kvs (hD g) = none := by
              cases hv : valV kvs (hD g) with
              | none => rfl
              | some u => exact absurd hL ((le6.isIn g).mp (valV_in hv))
            unfold putK
            rw [if_neg (by rw [valV_any, hv]; exact Bool.false_ne_true), List.length_append]
            rfl
          revert le7 S7 eG7 th7 tq7 dG7 ew7 dw7
          generalize (upd H6 dL o') = H7
          intro le7 S7 eG7 th7 tq7 dG7 ew7 dw7
          obtain ⟨r, nv, vN, eN, dNv⟩ := (DN1.same S7).get ((hmem g).mp gks)
          rw [atH_nb] at dNv
          have nvl : nv.length = (nbOf ls g).length := by rw [dNv.length, List.length_map]
          have nbl := nbOf_len ls g
          refine ⟨_, rfl, .inl ⟨rfl, _, SqL.of ew7⟩, _, rfl, _, rfl, dN, p, hD g, kvN, .ref r, rfl, rfl, two_dt th7, by rw [hD_dp1]; decide, (DN1.same S7).dic, vN, ?_⟩
          have kb : kvs.length * 300 ≤ 280 * 300 := Nat.mul_le_mul_right _ (by omega)
          have nrw : r ≠ wa := fun e => by
            obtain ⟨r', nv', vN', eN', _⟩ := DN1.get ((hmem g).mp gks)
            rw [vN] at vN'
            cases vN'
            rw [e, nwa] at eN'
            cases eN'
          refine ⟨wa, r, us, nv, rfl, rfl, ew7, eN, by rw [sizeLine_eq]; omega, ?_⟩
          have neT7 : ∀ {c : Addr} {k : Ho}, two H7 c k → c ≠ wa := fun {c k} tc e => by
            rw [e] at tc
            have := tc.symm.trans ew7
            cases this
          refine ⟨(hs.length - (putK kvs (hD g) (.ref q)).length) * 1000 + (W ++ nbOf ls g).length, ?_, ⟨_, _, _, W ++ nbOf ls g, rfl, same_updN S7 nwa, by rw [upd_ne nGw]; exact eG7, le7.updL ew7, sr.add hL (fun k => nbOf_mem), ⟨_, upd_same, ?_⟩, fun k hk => ?_, fun k hk => ?_, fun k hk => ?_, fun k g' hk => ?_, by omega, ?_, rfl⟩, ?_, dG7.updL ew7⟩
          · rw [List.length_append, wl1, pl]
            have : hs.length - kvs.length = (hs.length - (kvs.length + 1)) + 1 := by omega
            rw [this, Nat.add_mul]
            omega
          · rw [List.map_append]
            exact (dapp dw7 dNv).updL ew7
          · rcases List.mem_append.mp hk with hk | hk
            · exact wks k (List.mem_append_left _ hk)
            · exact hadj g k (nbOf_mem.mp hk)
          · by_cases zk : k = g
            · rw [zk]; exact gks
            · rw [setL_ne zk] at hk
              exact sub5 k hk
          · by_cases zk : k = g
            · rw [zk, setL_same]; exact Option.some_ne_none _
            · rw [setL_ne zk]
              exact old k hk
          · by_cases zk : k = g
            · rw [zk, setL_same] at hk
              rw [zk, ← Option.some.inj hk]
              exact low_of srt hh gks fun hm => absurd hL (old g (done g hm))
            · rw [setL_ne zk] at hk
              exact lst5 k g' hk
          · rw [List.length_append, pl, Nat.add_mul]
            omega
          · show upd H7 wa _ q = _
            rw [upd_ne (neT7 tq7)]
            exact tq7
    · rintro σ H3 ⟨⟨v3, v4, v5, rfl⟩, S3, eG3, dG3, kvs, L, le, wh, sub, done, lst, kl⟩
      rw [List.take_of_length_le (by omega)] at done
      refine ⟨_, rfl, z dL kvs L H3 (S1.trans S3) nL0 le wh (fun h => ?_) lst (by omega)⟩
      rw [← nbEv_mem, ← memN, ← hmem]
      exact ⟨sub h, done h⟩
end
end K62
namespace K62
open PySem PySem.Spec PyProof.Rows L2 BF
seal L2.PE L2.PA L2.PS L2.PSs L2.PT L2.PW L2.PG L2.PGs L2.PI BF.PTs L2.PO
def inC (L : Ho → Option Ho) (f : Ho) (ls : List Ln) : List Ln := ls.filter fun a => decide (L a.1 = some f)
theorem inC_snoc (L : Ho → Option Ho) (f : Ho) (ls : List Ln) (a : Ln) : inC L f (ls ++ [a]) = inC L f ls ++ (if L a.1 = some f then [a] else []) := by
  unfold inC
  rw [List.filter_append, List.filter_cons]
  by_cases z : L a.1 = some f
  · rw [if_pos z, if_pos (decide_eq_true z)]; rfl
  · rw [if_neg z, if_neg (by rw [decide_eq_false z]; exact Bool.false_ne_true)]; rfl
theorem inC_le (L : Ho → Option Ho) (f : Ho) (ls : List Ln) : (inC L f ls).length ≤ ls.length := List.length_filter_le ..
abbrev rEqD : R2 := fun x y H Q => ∃ d d', DtIs H x d ∧ DtIs H y d' ∧ d.dp ≤ 60 ∧ (∃ l, d = .tup l) ∧ (∃ l, d' = .tup l) ∧ Q (.bl (Dt.beq d d')) H
theorem h60 (p : Ho) : (hD p).dp ≤ 60 := by rw [hD_dp1]; decide
theorem h8 (p : Ho) : (hD p).dp ≤ 8 := by rw [hD_dp1]; decide
section
variable {P : Program} {w : World} {K : PySem.W.Frag} {mg : Str → Option Value} {base : Heap}
def spAtL (P : Program) (w : World) : Sp := fun vs H Q _ => ∃ (F d q : Addr) (ls : List Ln) (kvs : List (Dt × V)) (L : Ho → Option Ho) (f : Ho), vs = [.ref F, .ref d, .ref q] ∧ DtL H F (ls.map lnD) ∧ ls.length ≤ 70 ∧ LeOk P w H d kvs L ∧ two H q f ∧ (∀ a ∈ ls, L a.1 ≠ none) ∧
  ∀ l H', Same H H' → H l = none → DtL H' l ((inC L f ls).map lnD) → Q (.ref l) H'
theorem scAtL : FnScope ["lines", "least", "first"] ["lines", "least", "first"] (defScope sAtL) := ⟨rfl, rfl, rfl, by decide +kernel, rfl, by decide +kernel, by decide +kernel⟩
theorem ok_atL {f : Addr} {fd : FuncData} (D : Df K mg "lines_at" sAtL f fd) : FnOk P w K mg base CX0 1 f fd ["lines", "least", "first"] (spAtL P w) := by
  refine D.F.ok scAtL (fun vs H Q E h => ?_) (fun cdv A outer s H vs Q E hr h => ?_)
  · obtain ⟨F, d, q, ls, kvs, L, f, rfl, _⟩ := h
    rfl
  · obtain ⟨F, d, q, ls, kvs, L, f, rfl, ⟨fv, eF, dF⟩, ll, le, tq, hn, z⟩ := h
    have fvl : fv.length = ls.length := by rw [dF.length, List.length_map]
    refine ⟨_, (pss_one (ps_ret (pe_comp (tt := tTest (tOp rEqD (tDGetD P w (tVar 1) (tOp (rIxT K) (tVar 0) (tC (.int 0)))) (tVar 2))) (N' := ["line", "least", "first"]) (idx := [none, some 1, some 2]) (compOk_of (by kernel_rfl)) (by kernel_rfl) rfl (pi_list (pv 0))
        (fun _ _ _ _ _ => pg_name (i := 0) (show (["line", "least", "first"] : List Str).Nodup by decide +kernel) rfl (Or.inl rfl))
        (fun _ _ _ _ _ => pts_one (pt_cmpR (op_eqD hr) (pe_dgetD hr (pv 1) (pe_ix ix_tup (pv 0) pe_int (fun _ _ => rfl)) (fun _ _ => rfl)) (pv 2) (nomark _)))
        (fun _ _ _ _ _ => pv 0)))), ?_⟩
    refine ⟨_, rfl, F, rfl, ⟨_, SqL.of eF⟩, fun M nM => ?_⟩
    refine comp_n (J := Itl K F) (n := fv.length) (fun i σ2 H2 => (∃ v0, σ2 = [v0, some (.ref d), some (.ref q)]) ∧ Same H H2 ∧ DtL H2 M ((inC L f (ls.take i)).map lnD)) ?_ ?_ ?_ ?_
    · exact ⟨⟨_, rfl⟩, same_upd nM, [], upd_same, by rw [List.take_zero]; exact .nil⟩
    · rintro i σ2 H2 hi ⟨⟨v0, rfl⟩, S2, _⟩
      exact ⟨fv, _, SqL.of (S2 _ _ eF), List.getElem?_eq_getElem hi⟩
    · rintro σ2 H2 ⟨⟨v0, rfl⟩, S2, hM⟩
      rw [List.take_of_length_le (by omega)] at hM
      exact ⟨⟨fv, SqL.of (S2 _ _ eF), Nat.le_refl _⟩, z M H2 S2 nM hM⟩
    · rintro i σ2 H2 hi ⟨⟨v0, rfl⟩, S2, ys, eM, dM⟩ x H3 ⟨rfl, hx⟩
      have hx := hx fv (SqL.of (S2 _ _ eF))
      obtain ⟨r, x1, y1, a, rfl, ha, er, tx, ty⟩ := ln_at (dF.same S2) hx
      have tk : ls.take (i + 1) = ls.take i ++ [a] := by rw [List.take_add_one, ha]; rfl
      have sn := inC_snoc L f (ls.take i) a
      rw [← tk] at sn
      have yl : ys.length ≤ 70 := by
        rw [dM.length, List.length_map]
        refine Nat.le_trans (inC_le _ _ _) ?_
        rw [List.length_take]
        omega
      have le2 := le.same S2
      obtain ⟨g, hg⟩ : ∃ g, L a.1 = some g := by
        cases e : L a.1 with
        | none => exact absurd e (hn a (List.mem_of_getElem? ha))
        | some g => exact ⟨g, rfl⟩
      obtain ⟨qg, vg, tg⟩ := le2.val a.1 g hg
      refine ⟨_, rfl, _, rfl, r, _, _, _, rfl, rfl, SqT.of er, rfl, d, x1, hD a.1, kvs, .ref qg, rfl, rfl, two_dt tx, h8 _, le2.dic, vg, _, rfl, hD g, hD f, two_dt tg, two_dt (S2 _ _ tq), h60 _, ⟨_, rfl⟩, ⟨_, rfl⟩, _, rfl, ?_⟩
      rw [beq_hD]
      by_cases hc : g = f
      · rw [if_pos (by rw [hg, hc])] at sn
        refine ifD_pos hc ⟨_, rfl, ys, eM, small1000 (by omega), ⟨_, rfl⟩, same_updN S2 nM, _, upd_same, ?_⟩
        rw [sn, List.map_append]
        exact (dM.updL eM).snoc ((ln_dt er tx ty).updL eM)
      · rw [if_neg (by rw [hg]; exact fun e => hc (Option.some.inj e)), List.append_nil] at sn
        refine ifD_neg hc ⟨⟨_, rfl⟩, S2, ys, eM, ?_⟩
        rw [sn]
        exact dM
def PcsIs (H : Hp) (L : Ho → Option Ho) (fs bs : List Ln) (ps : List Addr) (fr : List Ho) : Prop := ps.length = fr.length ∧ ∀ (i : Nat) p f, ps[i]? = some p → fr[i]? = some f → ∃ A B, WkIs H p A B (inC L f fs) (inC L f bs)
def PcsR (H : Hp) (R : Addr) (L : Ho → Option Ho) (fs bs : List Ln) (ps : List Addr) (fr : List Ho) : Prop := ps.length = fr.length ∧ ∀ (i : Nat) p f, ps[i]? = some p → fr[i]? = some f → ∃ A B, p ≠ R ∧ A ≠ R ∧ B ≠ R ∧ WkIs H p A B (inC L f fs) (inC L f bs)
theorem PcsR.is {H : Hp} {R : Addr} {L : Ho → Option Ho} {fs bs : List Ln} {ps : List Addr} {fr : List Ho} (h : PcsR H R L fs bs ps fr) : PcsIs H L fs bs ps fr := ⟨h.1, fun i p f e1 e2 => let ⟨A, B, _, _, _, k⟩ := h.2 i p f e1 e2; ⟨A, B, k⟩⟩
def spPieces : Sp := fun vs H Q _ => ∃ (t F B : Addr) (fs bs : List Ln), vs = [.ref t] ∧ WkIs H t F B fs bs ∧
  ∀ l ps fr L H', Same H H' → H' l = some (.lst (List.map V.ref ps)) → PcsIs H' L fs bs ps fr → fr.Nodup → fr.length ≤ 280 → (∀ f, f ∈ fr ↔ L f = some f) → Whole (fs ++ bs) L → (∀ h, L h ≠ none ↔ ∃ a ∈ fs ++ bs, a.1 = h ∨ a.2 = h) → (∀ h g, L h = some g → Dt.blt (hD h) (hD g) = false) → (fr.map hD).Pairwise (fun d d' => Dt.blt d' d = false) → Q (.ref l) H'
theorem scPieces : FnScope ["work", "least", "firsts"] ["work"] (defScope sPieces) := ⟨rfl, rfl, rfl, by decide +kernel, rfl, by decide +kernel, by decide +kernel⟩
theorem ok_pieces {f fL fA : Addr} {fd fdL fdA : FuncData} (D : Df K mg "pieces" sPieces f fd) (DL : Df K mg "least_by_hole" sLeast fL fdL) (bL : Binds K fdL ["work"] []) (GL : FnOk P w K mg base CX0 2 fL fdL ["work"] (spLeast P w))
    (DA : Df K mg "lines_at" sAtL fA fdA) (bA : Binds K fdA ["lines", "least", "first"] []) (GA : FnOk P w K mg base CX0 1 fA fdA ["lines", "least", "first"] (spAtL P w)) (hsorted : mg "sorted" = none) : FnOk P w K mg base CX0 3 f fd ["work"] spPieces := by
  refine D.F.ok scPieces (fun vs H Q E h => ?_) (fun cdv A outer s H vs Q E hr h => ?_)
  · obtain ⟨t, F, B, fs, bs, rfl, _⟩ := h
    rfl
  · obtain ⟨t, F, B, fs, bs, rfl, wk, z⟩ := h
    have hr1 : Room 1 _ := hr.mono (by decide)
    refine ⟨_, (pss_cons (ps_set (i := 1) scPieces.nd rfl (Or.inr rfl) (pec GL hr rfl DL.m DL.F.kp bL .nil pass0 (pac (pv 0) pa_nil)))
      (pss_cons (ps_setComp (k := 2) (tt := tTest (tOp rEqD (tDGetD P w (tVar 1) (tVar 0)) (tVar 0))) (N' := ["hole", "least"]) (idx := [none, some 1]) scPieces.nd rfl (Or.inl rfl) (Or.inr rfl) rfl (compOk_of (by kernel_rfl)) (by kernel_rfl) rfl
          (pi_list (pe_callB (call_sortedD hr1) (by rfl) hsorted boot_sorted (pac (pv 1) pa_nil)))
          (fun _ _ _ _ _ => pg_name (i := 0) (show (["hole", "least"] : List Str).Nodup by decide +kernel) rfl (Or.inl rfl))
          (fun _ _ _ _ _ => pts_one (pt_cmpR (op_eqD hr1) (pe_dgetD hr1 (pv 1) (pv 0) (fun _ _ => rfl)) (pv 0) (nomark _)))
          (fun _ _ _ _ _ => pv 0))
      (pss_one (ps_ret (pe_comp (te := tTup (tCons (tCall (spAtL P w) [] _ (tCons (tOp (rIxT K) (tVar 1) (tC (.int 0))) (tCons (tVar 2) (tCons (tVar 0) tNil)))) (tCons (tCall (spAtL P w) [] _ (tCons (tOp (rIxT K) (tVar 1) (tC (.int 1))) (tCons (tVar 2) (tCons (tVar 0) tNil)))) tNil))) (N' := ["first", "work", "least"]) (idx := [none, some 0, some 1]) (compOk_of (by kernel_rfl)) (by kernel_rfl) rfl (pi_list (pv 2))
          (fun _ _ _ _ _ => pg_name (i := 0) (show (["first", "work", "least"] : List Str).Nodup by decide +kernel) rfl (Or.inl rfl)) (fun _ _ _ _ _ => pts_nil)
          (fun _ _ _ _ _ => pe_tup (pac (pec GA hr1 rfl DA.m DA.F.kp bA .nil pass0 (pac (pe_ix ix_tup (pv 1) pe_int (fun _ _ => rfl)) (pac (pv 2) (pac (pv 0) pa_nil)))) (pac (pec GA hr1 rfl DA.m DA.F.kp bA .nil pass0 (pac (pe_ix ix_tup (pv 1) pe_int (fun _ _ => rfl)) (pac (pv 2) (pac (pv 0) pa_nil)))) pa_nil)))))))), ?_⟩
    refine ⟨_, rfl, t, F, B, fs, bs, rfl, wk, fun d kvs L H1 S1 nd le wh ends lst kl => ?_⟩
    have wk1 := wk.same S1
    have hkey : ∀ p ∈ kvs, ∃ h : Ho, p.1 = hD h := fun p hp => by
      obtain ⟨h, _, e⟩ := (le.mem p.1).mp (List.mem_map.mpr ⟨p, hp, rfl⟩)
      exact ⟨h, e.symm⟩
    refine ⟨_, rfl, d, kvs, "int", rfl, le.dic, fun p hp => ?_, fun p hp p' hp' => ?_, fun G gv es nG dG pe srt => ?_⟩
    · obtain ⟨h, e⟩ := hkey p hp
      exact ⟨_, _, e, rfl⟩
    · obtain ⟨h, e⟩ := hkey p hp
      obtain ⟨h', e'⟩ := hkey p' hp'
      rw [e, e']
      exact hD_like h h'
    obtain ⟨hs, rfl⟩ := as_hD (es := es) fun d hd => by
      obtain ⟨p, hp, rfl⟩ := List.mem_map.mp (pe.mem_iff.mp hd)
      exact hkey p hp
    have hnd : hs.Nodup := nodup_of_map (pe.nodup_iff.mpr le.nd)
    have hmem : ∀ h, h ∈ hs ↔ L h ≠ none := fun h => by
      rw [← le.isIn h]
      constructor
      · exact fun hh => pe.mem_iff.mp (List.mem_map.mpr ⟨h, hh, rfl⟩)
      · intro hh
        obtain ⟨g, hg, e⟩ := List.mem_map.mp (pe.mem_iff.mpr hh)
        exact hD_inj e ▸ hg
    have hsl : hs.length ≤ 280 := by
      have := pe.length_eq
      rw [List.length_map, List.length_map] at this
      omega
    have gvl : gv.length = hs.length := by rw [dG.length, List.length_map]
    have T1 := same_upd (o := HO.lst gv) nG
    refine ⟨G, rfl, ⟨_, SqL.of upd_same⟩, fun M nM => ?_⟩
    have le2 := le.same T1
    have dG2 := dG.same T1
    have S2 := S1.trans T1
    have eG : (upd H1 G (.lst gv)) G = some (.lst gv) := upd_same
    have wk2 := wk1.same T1
    revert le2 dG2 S2 eG wk2 nM
    generalize (upd H1 G (.lst gv)) = H2
    intro nM le2 dG2 S2 eG wk2
    let fr : Nat → List Ho := fun i => (hs.take i).filter fun h => decide (L h = some h)
    have frS : ∀ i h, hs[i]? = some h → fr (i + 1) = fr i ++ (if L h = some h then [h] else []) := fun i h e => by
      show (hs.take (i + 1)).filter _ = _
      rw [List.take_add_one, e, List.filter_append]
      show _ ++ List.filter _ [h] = _
      rw [List.filter_cons]
      by_cases zc : L h = some h
      · rw [if_pos zc, if_pos (decide_eq_true zc)]; rfl
      · rw [if_neg zc, if_neg (by rw [decide_eq_false zc]; exact Bool.false_ne_true)]; rfl
    have frl : ∀ i, (fr i).length ≤ 280 := fun i => Nat.le_trans (List.length_filter_le _ _) (by rw [List.length_take]; omega)
    refine comp_n (J := Itl K G) (n := gv.length) (fun i σ2 H3 => (∃ v0, σ2 = [v0, some (.ref d)]) ∧ Same H2 H3 ∧ DtL H3 M ((fr i).map hD)) ?_ ?_ ?_ ?_
    · exact ⟨⟨_, rfl⟩, same_upd nM, [], upd_same, .nil⟩
    · rintro i σ2 H3 hi ⟨⟨v0, rfl⟩, S3, _⟩
      exact ⟨gv, _, SqL.of (S3 _ _ eG), List.getElem?_eq_getElem hi⟩
    · rintro σ2 H3 ⟨⟨v0, rfl⟩, S3, hM⟩
      refine ⟨⟨gv, SqL.of (S3 _ _ eG), Nat.le_refl _⟩, ?_⟩
      have efr : fr gv.length = hs.filter fun h => decide (L h = some h) := by
        show (hs.take gv.length).filter _ = _
        rw [List.take_of_length_le (by omega)]
      rw [efr] at hM
      have fnd : (hs.filter fun h => decide (L h = some h)).Nodup := hnd.filter _
      have fmem : ∀ g, g ∈ hs.filter (fun h => decide (L h = some h)) ↔ L g = some g := fun g => by
        rw [List.mem_filter, decide_eq_true_eq, hmem]
        constructor
        · exact fun q => q.2
        · exact fun q => ⟨by rw [q]; exact Option.some_ne_none _, q⟩
      have fsrt : ((hs.filter fun h => decide (L h = some h)).map hD).Pairwise (fun d d' => Dt.blt d' d = false) := List.pairwise_map.mpr ((List.pairwise_map.mp srt).filter _)
      have fll : (hs.filter fun h => decide (L h = some h)).length ≤ 280 := Nat.le_trans (List.length_filter_le _ _) hsl
      revert hM fnd fmem fsrt fll
      generalize (hs.filter fun h => decide (L h = some h)) = fs'
      intro hM fnd fmem fsrt fll
      obtain ⟨mv, eM, dM⟩ := hM
      have mvl : mv.length = fs'.length := by rw [dM.length, List.length_map]
      have le3 := le2.same S3
      have wk3 := wk2.same S3
      have S03 := S2.trans S3
      refine ⟨_, rfl, M, rfl, ⟨_, SqL.of eM⟩, fun R nR => ?_⟩
      refine comp_n (J := Itl K M) (n := mv.length) (fun i σ2 H4 => (∃ v0, σ2 = [v0, some (.ref t), some (.ref d)]) ∧ Same H3 H4 ∧ ∃ ps : List Addr, H4 R = some (.lst (List.map V.ref ps)) ∧ PcsR H4 R L fs bs ps (fs'.take i)) ?_ ?_ ?_ ?_
      · exact ⟨⟨_, rfl⟩, same_upd nR, [], upd_same, by rw [List.take_zero]; rfl, fun i p f e => by simp at e⟩
      · rintro i σ2 H4 hi ⟨⟨v0, rfl⟩, S4, _⟩
        exact ⟨mv, _, SqL.of (S4 _ _ eM), List.getElem?_eq_getElem hi⟩
      · rintro σ2 H4 ⟨⟨v0, rfl⟩, S4, ps, eR, pcs⟩
        rw [List.take_of_length_le (by omega)] at pcs
        exact ⟨⟨mv, SqL.of (S4 _ _ eM), Nat.le_refl _⟩, z R ps fs' L H4 (S03.trans S4) eR pcs.is fnd fll fmem wh ends lst fsrt⟩
      · rintro i σ2 H4 hi ⟨⟨v0, rfl⟩, S4, ps, eR, pcs⟩ x H5 ⟨rfl, hx⟩
        have hx := hx mv (SqL.of (S4 _ _ eM))
        obtain ⟨q, f, rfl, hf, tq⟩ := th_at (dM.same S4) hx
        have tk : fs'.take (i + 1) = fs'.take i ++ [f] := by rw [List.take_add_one, hf]; rfl
        have wk4 := wk3.same S4
        have le4 := le3.same S4
        have hnf : ∀ a ∈ fs, L a.1 ≠ none := fun a ha => (ends a.1).mpr ⟨a, List.mem_append_left _ ha, .inl rfl⟩
        have hnb : ∀ a ∈ bs, L a.1 ≠ none := fun a ha => (ends a.1).mpr ⟨a, List.mem_append_right _ ha, .inl rfl⟩
        refine ⟨_, rfl, t, _, _, _, rfl, rfl, SqT.of wk4.t, rfl, _, rfl, _, rfl, F, d, q, fs, kvs, L, f, rfl, wk4.f, wk4.lf, le4, tq, hnf, fun A1 H5 S5 nA hA => ?_⟩
        have wk5 := wk4.same S5
        refine ⟨_, rfl, t, _, _, _, rfl, rfl, SqT.of wk5.t, rfl, _, rfl, _, rfl, B, d, q, bs, kvs, L, f, rfl, wk5.b, wk5.lb, le4.same S5, S5 _ _ tq, hnb, fun B1 H6 S6 nB hB => ?_⟩
        refine ⟨szr rfl, fun u nu => ?_⟩
        have Tu := same_upd (o := HO.tup [V.ref A1, .ref B1]) nu
        have S46 := (S5.trans S6).trans Tu
        have eR6 := S46 _ _ eR
        have pl : ps.length ≤ 280 := by
          rw [pcs.1, List.length_take]
          omega
        have hA6 := (hA.same S6).same Tu
        have hB6 := hB.same Tu
        have neA : A1 ≠ R := fun e => by rw [e, eR] at nA; cases nA
        have neB : B1 ≠ R := fun e => by rw [e, S5 _ _ eR] at nB; cases nB
        have neU : u ≠ R := fun e => by rw [e, (S5.trans S6) _ _ eR] at nu; cases nu
        refine ⟨List.map V.ref ps, eR6, small1000 (by rw [List.length_map]; omega), ⟨_, rfl⟩, same_updN (S4.trans S46) nR, ps ++ [u], ?_, ?_, fun j p g e1 e2 => ?_⟩
        · rw [upd_same, List.map_append]
          rfl
        · rw [tk, List.length_append, List.length_append, pcs.1]
          rfl
        · rw [tk] at e2
          by_cases hj : j < ps.length
          · rw [List.getElem?_append_left hj] at e1
            rw [List.getElem?_append_left (by rw [← pcs.1]; exact hj)] at e2
            obtain ⟨A', B', n1, n2, n3, k⟩ := pcs.2 j p g e1 e2
            have k' := k.same S46
            exact ⟨A', B', n1, n2, n3, by rw [upd_ne n1]; exact k'.t, k'.f.updL eR6 n2, k'.b.updL eR6 n3, k'.lf, k'.lb⟩
          · have hj' : j = ps.length := by
              have := (List.getElem?_eq_some_iff.mp e1).1
              rw [List.length_append] at this
              have h1 : ([u] : List Addr).length = 1 := rfl
              omega
            subst hj'
            rw [List.getElem?_append_right (Nat.le_refl _), Nat.sub_self] at e1
            rw [List.getElem?_append_right (by rw [pcs.1]; exact Nat.le_refl _), pcs.1, Nat.sub_self] at e2
            cases e1
            cases e2
            refine ⟨A1, B1, neU, neA, neB, by rw [upd_ne neU]; exact upd_same, hA6.updL eR6 neA, hB6.updL eR6 neB, ?_, ?_⟩
            · exact Nat.le_trans (inC_le _ _ _) wk4.lf
            · exact Nat.le_trans (inC_le _ _ _) wk4.lb
    · rintro i σ2 H3 hi ⟨⟨v0, rfl⟩, S3, ys, eM, dM⟩ x H4 ⟨rfl, hx⟩
      have hx := hx gv (SqL.of (S3 _ _ eG))
      obtain ⟨q, h, rfl, hh, tq⟩ := th_at (dG2.same S3) hx
      have sn := frS i h hh
      have yl : ys.length ≤ 280 := by rw [dM.length, List.length_map]; exact frl i
      have le3 := le2.same S3
      obtain ⟨g, hg⟩ : ∃ g, L h = some g := by
        cases e : L h with
        | none => exact absurd e ((hmem h).mp (List.mem_of_getElem? hh))
        | some g => exact ⟨g, rfl⟩
      obtain ⟨qg, vg, tg⟩ := le3.val h g hg
      refine ⟨_, rfl, _, rfl, d, q, hD h, kvs, .ref qg, rfl, rfl, two_dt tq, h8 _, le3.dic, vg, _, rfl, hD g, hD h, two_dt tg, two_dt tq, h60 _, ⟨_, rfl⟩, ⟨_, rfl⟩, _, rfl, ?_⟩
      rw [beq_hD]
      by_cases hc : g = h
      · rw [if_pos (by rw [hg, hc])] at sn
        refine ifD_pos hc ⟨_, rfl, ys, eM, small1000 (by omega), ⟨_, rfl⟩, same_updN S3 nM, _, upd_same, ?_⟩
        rw [sn, List.map_append]
        exact (dM.updL eM).snoc ((two_dt tq).updL eM)
      · rw [if_neg (by rw [hg]; exact fun e => hc (Option.some.inj e)), List.append_nil] at sn
        refine ifD_neg hc ⟨⟨_, rfl⟩, S3, ys, eM, ?_⟩
        rw [sn]
        exact dM
end
end K62
namespace K62
open PySem PySem.Spec PyProof.Rows L2 BF
seal L2.PE L2.PA L2.PS L2.PSs L2.PT L2.PW L2.PG L2.PGs L2.PI BF.PTs L2.PO
def ab (i : Int) : Int := if i < 0 then -i else i
theorem ab_zero : ab 0 = 0 := rfl
theorem ab_nn (i : Int) : 0 ≤ ab i := by unfold ab; split <;> omega
theorem ab_add (i j : Int) : ab (i + j) ≤ ab i + ab j := by unfold ab; split <;> split <;> split <;> omega
def mx1 (s : Int) : Int := if 1 > s then 1 else s
def dd : List Ho → List Ho
  | [] => []
  | a :: l => if a ∈ dd l then dd l else a :: dd l
theorem dd_mem {h : Ho} : ∀ {l : List Ho}, h ∈ dd l ↔ h ∈ l
  | [] => Iff.rfl
  | a :: l => by
    have ih := dd_mem (h := h) (l := l)
    unfold dd
    split
    · rename_i ha
      rw [ih, List.mem_cons]
      constructor
      · exact .inr
      · rintro (rfl | z)
        · exact ih.mp ha
        · exact z
    · rw [List.mem_cons, List.mem_cons, ih]
theorem dd_nd : ∀ l : List Ho, (dd l).Nodup
  | [] => List.nodup_nil
  | a :: l => by
    unfold dd
    split
    · exact dd_nd l
    · rename_i ha
      exact List.nodup_cons.mpr ⟨ha, dd_nd l⟩
def evW (fs bs : List Ln) : Ev := evL 1 fs ++ evL (-1) bs
def csum (fs bs : List Ln) : Int := ((dd ((evW fs bs).map (·.1))).map fun h => ab (sumAt (evW fs bs) h)).sum
theorem sum_same {g : Ho → Int} {hs gs : List Ho} (n1 : hs.Nodup) (n2 : gs.Nodup) (m : ∀ h, h ∈ hs ↔ h ∈ gs) : (hs.map g).sum = (gs.map g).sum :=
  perm_sum (((List.perm_ext_iff_of_nodup n1 n2).mpr m).map g)
theorem ev1_mem {ev : Ev} {h : Ho} : h ∈ ev.map (·.1) ↔ ∃ e ∈ ev, e.1 = h := by
  constructor
  · intro hh
    obtain ⟨e, he, z⟩ := List.mem_map.mp hh
    exact ⟨e, he, z⟩
  · rintro ⟨e, he, z⟩
    exact List.mem_map.mpr ⟨e, he, z⟩
theorem csum_eq {fs bs : List Ln} {hs : List Ho} (nd : hs.Nodup) (mem : ∀ h, h ∈ hs ↔ ∃ e ∈ evW fs bs, e.1 = h) : (hs.map fun h => ab (sumAt (evW fs bs) h)).sum = csum fs bs :=
  sum_same nd (dd_nd _) fun h => by rw [mem, dd_mem, ev1_mem]
theorem sum_ab {ev : Ev} : ∀ hs : List Ho, ((hs.filter fun h => decide (sumAt ev h ≠ 0)).map fun h => ab (sumAt ev h)).sum = (hs.map fun h => ab (sumAt ev h)).sum
  | [] => rfl
  | x :: l => by
    rw [List.filter_cons]
    by_cases h : sumAt ev x = 0
    · rw [if_neg (by simp [h]), List.map_cons, List.sum_cons, sum_ab l, h, ab_zero]
      omega
    · rw [if_pos (by simp [h]), List.map_cons, List.map_cons, List.sum_cons, List.sum_cons, sum_ab l]
theorem ab_sumAt (h : Ho) : ∀ ev : Ev, ab (sumAt ev h) ≤ sumAt (ev.map fun e => (e.1, ab e.2)) h
  | [] => Int.le_refl _
  | e :: ev => by
    have ih := ab_sumAt h ev
    have e1 : sumAt (e :: ev) h = (if e.1 = h then e.2 else 0) + sumAt ev h := by simp [sumAt]
    have e2 : sumAt ((e :: ev).map fun e => (e.1, ab e.2)) h = (if e.1 = h then ab e.2 else 0) + sumAt (ev.map fun e => (e.1, ab e.2)) h := by simp [sumAt]
    rw [e1, e2]
    have := ab_add (if e.1 = h then e.2 else 0) (sumAt ev h)
    have h3 : ab (if e.1 = h then e.2 else 0) = if e.1 = h then ab e.2 else 0 := by split <;> rfl
    omega
theorem sum_le {f g : Ho → Int} (h : ∀ x, f x ≤ g x) : ∀ l : List Ho, (l.map f).sum ≤ (l.map g).sum
  | [] => Int.le_refl _
  | x :: l => by
    have := h x
    have ih := sum_le h l
    rw [List.map_cons, List.map_cons, List.sum_cons, List.sum_cons]
    omega
theorem sum_nn {f : Ho → Int} (h : ∀ x, 0 ≤ f x) : ∀ l : List Ho, 0 ≤ (l.map f).sum
  | [] => Int.le_refl _
  | x :: l => by
    have := h x
    have ih := sum_nn h l
    rw [List.map_cons, List.sum_cons]
    omega
theorem evL_ab {s : Int} (hs : ab s = 1) (ls : List Ln) : (evL s ls).map (fun e => (e.1, ab e.2)) = evL 1 ls := by
  induction ls with
  | nil => rfl
  | cons a ls ih =>
    have e : ∀ s, evL s (a :: ls) = [(a.1, s), (a.2, s)] ++ evL s ls := fun s => by simp [evL]
    rw [e, e, List.map_append, ih]
    simp [hs]
theorem csum_le (fs bs : List Ln) : 0 ≤ csum fs bs ∧ csum fs bs ≤ 2 * ((fs.length : Int) + bs.length) := by
  refine ⟨sum_nn (fun h => ab_nn _) _, ?_⟩
  unfold csum
  refine Int.le_trans (sum_le (fun h => ab_sumAt h (evW fs bs)) _) ?_
  have e : (evW fs bs).map (fun e => (e.1, ab e.2)) = evL 1 fs ++ evL 1 bs := by
    unfold evW
    rw [List.map_append, evL_ab rfl, evL_ab rfl]
  rw [e]
  have := sum_all (ev := evL 1 fs ++ evL 1 bs) (hs := dd ((evW fs bs).map (·.1))) (dd_nd _) fun x hx => by
    rw [dd_mem, ev1_mem]
    rcases List.mem_append.mp hx with hx | hx
    · exact ⟨x, List.mem_append_left _ hx, rfl⟩
    · obtain ⟨a, ha, q⟩ := evL_mem.mp ⟨x, hx, rfl⟩
      obtain ⟨e', he', z⟩ := evL_mem (s := -1).mpr ⟨a, ha, q⟩
      exact ⟨e', List.mem_append_right _ he', z⟩
  rw [show (List.map (sumAt (evL 1 fs ++ evL 1 bs)) (dd ((evW fs bs).map (·.1)))).sum = _ from this, List.map_append, List.sum_append, evL_sum, evL_sum]
  omega
def ndP (fs bs : List Ln) : Int := mx1 (csum fs bs / 2)
section
variable {P : Program} {w : World} {K : PySem.W.Frag} {mg : Str → Option Value} {base : Heap}
def spNeedP : Sp := fun vs H Q _ => ∃ (t F B : Addr) (fs bs : List Ln), vs = [.ref t] ∧ WkIs H t F B fs bs ∧ ∀ H', Same H H' → Q (.int (ndP fs bs)) H'
theorem scNeedP : FnScope ["piece", "half"] ["piece"] (defScope sNeedP) := ⟨rfl, rfl, rfl, by decide +kernel, rfl, by decide +kernel, by decide +kernel⟩
theorem ok_needP {f fS : Addr} {fd fdS : FuncData} (D : Df K mg "need_of_piece" sNeedP f fd) (DS : Df K mg "surplus" sSur fS fdS) (bS : Binds K fdS ["work"] []) (GS : FnOk P w K mg base CX0 1 fS fdS ["work"] spSur)
    (hsum : mg "sum" = none) (habs : mg "abs" = none) (hmax : mg "max" = none) : FnOk P w K mg base CX0 2 f fd ["piece"] spNeedP := by
  refine D.F.ok scNeedP (fun vs H Q E h => ?_) (fun cdv A outer s H vs Q E hr h => ?_)
  · obtain ⟨t, F, B, fs, bs, rfl, _⟩ := h
    rfl
  · obtain ⟨t, F, B, fs, bs, rfl, wk, z⟩ := h
    refine ⟨_, (pss_cons (ps_set (i := 1) scNeedP.nd rfl (Or.inl rfl) (pe_op op_fdiv (pe_callB (call_sumI rfl) (by rfl) hsum boot_sum (pac (pe_comp (g := gTup K 2 (gCons (gName 0) (gCons (gName 1) gNil))) (N' := ["hole", "much"]) (idx := [none, none]) (compOk_of (by kernel_rfl)) (by kernel_rfl) rfl
          (pi_list (pec GS hr rfl DS.m DS.F.kp bS .nil pass0 (pac (pv 0) pa_nil)))
          (fun _ _ _ _ _ => pg_tup (n := 2) rfl (pgs_cons (pg_name (i := 0) (show (["hole", "much"] : List Str).Nodup by decide +kernel) rfl (Or.inl rfl)) (pgs_cons (pg_name (i := 1) (show (["hole", "much"] : List Str).Nodup by decide +kernel) rfl (Or.inl rfl)) pgs_nil))) (fun _ _ _ _ _ => pts_nil)
          (fun _ _ _ _ _ => pe_callB call_abs (by rfl) habs boot_abs (pac (pv 1) pa_nil))) pa_nil)) pe_int))
      (pss_one (ps_ret (pe_callB (call_max2 rfl) (by rfl) hmax boot_max (pac (pv 1) (pac (pe_int) pa_nil)))))), ?_⟩
    have lf := wk.lf
    have lb := wk.lb
    refine ⟨_, rfl, t, F, B, fs, bs, rfl, wk.t, wk.f, wk.b, wk.lf, wk.lb, fun l hs H1 S1 nl srt nd mem hl => ?_⟩
    obtain ⟨lv, el, dl⟩ := hl
    refine ⟨l, rfl, ⟨_, SqL.of el⟩, fun M nM => ?_⟩
    have ce := csum_eq (fs := fs) (bs := bs) nd mem
    rw [← sum_ab] at ce
    have dl : DtsIs H1 lv ((hs.filter fun h => decide (sumAt (evW fs bs) h ≠ 0)).map (surD (evW fs bs))) := dl
    have hl2 : (hs.filter fun h => decide (sumAt (evW fs bs) h ≠ 0)).length ≤ 280 := by
      refine Nat.le_trans (List.length_filter_le _ _) ?_
      have : hs.length ≤ ((evW fs bs).map (·.1)).length := List.Nodup.length_le_of_subset nd fun h hh => ev1_mem.mpr ((mem h).mp hh)
      rw [List.length_map] at this
      unfold evW at this
      rw [List.length_append, evL_len, evL_len] at this
      omega
    have bnd : ∀ h, ab (sumAt (evW fs bs) h) ≤ 280 := fun h => by
      by_cases hh : h ∈ hs
      · have hm := csum_eq (fs := fs) (bs := bs) nd mem
        have h1 : ∀ l : List Ho, h ∈ l → ab (sumAt (evW fs bs) h) ≤ (l.map fun h => ab (sumAt (evW fs bs) h)).sum := by
          intro l
          induction l with
          | nil => intro z; cases z
          | cons x l ih =>
            intro z
            rw [List.map_cons, List.sum_cons]
            have n1 := ab_nn (sumAt (evW fs bs) x)
            have n2 := sum_nn (fun h => ab_nn (sumAt (evW fs bs) h)) l
            rcases List.mem_cons.mp z with rfl | z
            · omega
            · have := ih z
              omega
        have h2 := h1 hs hh
        have h3 := csum_le fs bs
        omega
      · have : sumAt (evW fs bs) h = 0 := by
          have key : ∀ l : Ev, (∀ e ∈ l, e.1 ≠ h) → sumAt l h = 0 := by
            intro l
            induction l with
            | nil => intro _; rfl
            | cons e l ih =>
              intro hl
              have h1 : sumAt (e :: l) h = (if e.1 = h then e.2 else 0) + sumAt l h := by simp [sumAt]
              rw [h1, if_neg (hl e (List.mem_cons_self ..)), ih fun x hx => hl x (List.mem_cons_of_mem _ hx)]
              rfl
          exact key _ fun e he zz => hh ((mem h).mpr ⟨e, he, zz⟩)
        rw [this]
        decide
    revert dl ce hl2
    generalize (hs.filter fun h => decide (sumAt (evW fs bs) h ≠ 0)) = gs
    intro ce dl hl2
    have lvl : lv.length = gs.length := by rw [dl.length, List.length_map]
    refine comp_n (J := Itl K l) (n := lv.length) (fun i σ2 H2 => (∃ v0 v1, σ2 = [v0, v1]) ∧ Same H1 H2 ∧ H2 M = some (.lst (List.map V.int ((gs.take i).map fun h => ab (sumAt (evW fs bs) h))))) ?_ ?_ ?_ ?_
    · exact ⟨⟨_, _, rfl⟩, same_upd nM, upd_same⟩
    · rintro i σ2 H2 hi ⟨⟨v0, v1, rfl⟩, S2, _⟩
      exact ⟨lv, _, SqL.of (S2 _ _ el), List.getElem?_eq_getElem hi⟩
    · rintro σ2 H2 ⟨⟨v0, v1, rfl⟩, S2, eM⟩
      rw [List.take_of_length_le (by omega)] at eM
      refine ⟨⟨lv, SqL.of (S2 _ _ el), Nat.le_refl _⟩, M, _, rfl, SqL.of eM, by rw [List.length_map]; omega, fun n hn => ?_, ?_⟩
      · obtain ⟨h, _, rfl⟩ := List.mem_map.mp hn
        have := bnd h
        have := ab_nn (sumAt (evW fs bs) h)
        omega
      · rw [ce]
        refine ⟨_, _, rfl, rfl, ⟨by decide, by decide⟩, ?_⟩
        exact ⟨_, rfl, _, _, rfl, z H2 (S1.trans S2)⟩
    · rintro i σ2 H2 hi ⟨⟨v0, v1, rfl⟩, S2, eM⟩ x H3 ⟨rfl, hx⟩
      have hx := hx lv (SqL.of (S2 _ _ el))
      obtain ⟨d, ed, dx⟩ := (dl.same S2).at i x hx
      rw [List.getElem?_map] at ed
      cases hg : gs[i]? with
      | none => rw [hg] at ed; cases ed
      | some h =>
        rw [hg] at ed
        cases ed
        have tk : gs.take (i + 1) = gs.take i ++ [h] := by rw [List.take_add_one, hg]; rfl
        obtain ⟨r, q, rfl, er⟩ : ∃ r q, x = .ref r ∧ H3 r = some (.tup [q, .int (sumAt (evW fs bs) h)]) := by
          unfold surD at dx
          cases dx with
          | tup e h1 =>
            cases h1 with
            | cons q1 t1 =>
              cases t1 with
              | cons q2 t2 =>
                cases t2
                cases q2
                exact ⟨_, _, rfl, e⟩
        refine ⟨r, _, rfl, SqT.of er, rfl, _, _, rfl, _, _, rfl, rfl, ?_⟩
        refine ⟨_, rfl, _, rfl, _, eM, ?_, ⟨_, _, rfl⟩, same_updN S2 nM, ?_⟩
        · rw [List.length_map, List.length_map, List.length_take]
          exact small1000 (by omega)
        · rw [upd_same, tk, List.map_append, List.map_append]
          rfl
end
end K62
namespace K62
open PySem PySem.Spec PyProof.Rows L2 BF
seal L2.PE L2.PA L2.PS L2.PSs L2.PT L2.PW L2.PG L2.PGs L2.PI BF.PTs L2.PO
section
variable {P : Program} {w : World} {K : PySem.W.Frag} {mg : Str → Option Value} {base : Heap}
theorem comp_end {H1 : Hp} {a D : Addr} {xs : List V} {ps : List Ln} (i : Int) (g : Ln → Ho) (hg : ∀ (x y : Addr) (b : Ln) (H : Hp), two H x b.1 → two H y b.2 → ∃ q : Addr, atI [V.ref x, .ref y] i = some (.ref q) ∧ two H q (g b))
    (ea : H1 a = some (.lst xs)) (hD' : DtsIs H1 xs (ps.map lnD)) (hlen : ps.length ≤ 150) (nD : H1 D = none) {σ : L2.St} {Q : VK} {X : PySem.W.Frag} (hX : X = K)
    (q : ∀ H2 ys, Same H1 H2 → H2 D = some (.lst ys) → DtsIs H2 ys ((ps.map g).map hD) → Q (.ref D) H2) :
    CompW (Itl X a) [none] (gName 0) tYes (tOp (rIxT X) (tVar 0) (tC (.int i))) σ H1 D Q := by
  subst hX
  have hxl : xs.length = ps.length := by rw [hD'.length, List.length_map]
  refine comp_n (J := Itl X a) (n := xs.length) (fun j σ2 H2 => (∃ v0, σ2 = [v0]) ∧ Same H1 H2 ∧ ∃ ys, H2 D = some (.lst ys) ∧ DtsIs H2 ys (((ps.map g).take j).map hD)) ?_ ?_ ?_ ?_
  · exact ⟨⟨_, rfl⟩, same_upd nD, [], upd_same, .nil⟩
  · rintro j σ2 H2 hj ⟨⟨v0, rfl⟩, S2, _⟩
    exact ⟨xs, _, SqL.of (S2 _ _ ea), List.getElem?_eq_getElem hj⟩
  · rintro σ2 H2 ⟨⟨v0, rfl⟩, S2, ys, eD, hy⟩
    refine ⟨⟨xs, SqL.of (S2 _ _ ea), Nat.le_refl _⟩, q H2 ys S2 eD ?_⟩
    rw [List.take_of_length_le (by rw [List.length_map]; omega)] at hy
    exact hy
  · rintro j σ2 H2 hj ⟨⟨v0, rfl⟩, S2, ys, eD, hy⟩ x H3 ⟨rfl, hx⟩
    have hx := hx xs (SqL.of (S2 _ _ ea))
    obtain ⟨r, x1, y1, b, rfl, hp, er, tx, ty⟩ := ln_at (hD'.same S2) hx
    obtain ⟨w', hat, dw⟩ := hg x1 y1 b _ tx ty
    refine ⟨_, rfl, r, _, _, .ref w', rfl, rfl, SqT.of er, hat, ys, eD, ?_, ⟨_, rfl⟩, same_updN S2 nD, ys ++ [.ref w'], upd_same, ?_⟩
    · have h1 : ys.length = (((ps.map g).take j).map hD).length := hy.length
      rw [List.length_map, List.length_take] at h1
      exact small1000 (by omega)
    · have tk : (ps.map g).take (j + 1) = (ps.map g).take j ++ [g b] := by rw [List.take_add_one, List.getElem?_map, hp]; rfl
      rw [tk, List.map_append]
      exact (hy.updL eD).snoc ((two_dt dw).updL eD)
def spHolesOf : Sp := fun vs H Q _ => ∃ (a : Addr) (ps : List Ln), vs = [.ref a] ∧ DtL H a (ps.map lnD) ∧ ps.length ≤ 150 ∧ ∀ (l : Addr) (hs : List Ho) H', Same H H' → H l = none → DtL H' l (hs.map hD) → hs.Nodup → (hs.map hD).Pairwise (fun d d' => Dt.blt d' d = false) → (∀ p, p ∈ hs ↔ ∃ b ∈ ps, b.1 = p ∨ b.2 = p) → Q (.ref l) H'
theorem scHolesOf : FnScope ["lines"] ["lines"] (defScope sHolesOf) := ⟨rfl, rfl, rfl, by decide +kernel, rfl, by decide +kernel, by decide +kernel⟩
theorem ok_holesOf {f : Addr} {fd : FuncData} (D : Df K mg "holes_of" sHolesOf f fd) (hsorted : mg "sorted" = none) (hset : mg "set" = none) : FnOk P w K mg base CX0 1 f fd ["lines"] spHolesOf := by
  refine D.F.ok scHolesOf (fun vs H Q E h => ?_) (fun cdv A outer s H vs Q E hr h => ?_)
  · obtain ⟨a, ps, rfl, _⟩ := h
    rfl
  · obtain ⟨a, ps, rfl, ⟨xs, ea, hD'⟩, hlen, z⟩ := h
    refine ⟨_, (pss_one (ps_ret (pe_sortSet hr rfl hsorted rfl hset (pac (pe_op op_cat
        (pe_comp (N' := ["line"]) (idx := [none]) (compOk_of (by kernel_rfl)) (by kernel_rfl) rfl (pi_list (pv 0)) (fun _ _ _ _ _ => pg_name (i := 0) (show (["line"] : List Str).Nodup by decide +kernel) rfl (Or.inl rfl)) (fun _ _ _ _ _ => pts_nil) (te := tOp (rIxT K) (tVar 0) (tC (.int 0))) (fun _ _ _ _ _ => pe_ix ix_tup (pv 0) pe_int (fun _ _ => rfl)))
        (pe_comp (N' := ["line"]) (idx := [none]) (compOk_of (by kernel_rfl)) (by kernel_rfl) rfl (pi_list (pv 0)) (fun _ _ _ _ _ => pg_name (i := 0) (show (["line"] : List Str).Nodup by decide +kernel) rfl (Or.inl rfl)) (fun _ _ _ _ _ => pts_nil) (te := tOp (rIxT K) (tVar 0) (tC (.int 1))) (fun _ _ _ _ _ => pe_ix ix_tup (pv 0) pe_int (fun _ _ => rfl)))) pa_nil)))), ?_⟩
    refine ⟨_, rfl, a, rfl, ⟨_, SqL.of ea⟩, fun D1 n1 => comp_end 0 (fun b => b.1) (fun x y b H tx ty => ⟨x, rfl, tx⟩) ea hD' hlen n1 rfl fun H2 ys S2 e2 h2 => ?_⟩
    refine ⟨_, rfl, a, rfl, ⟨_, SqL.of (S2 _ _ ea)⟩, fun D2 n2 => comp_end 1 (fun b => b.2) (fun x y b H tx ty => ⟨y, rfl, ty⟩) (S2 _ _ ea) (hD'.same S2) hlen n2 rfl fun H3 zs S3 e3 h3 => ?_⟩
    have l2 : ys.length = ps.length := by rw [h2.length, List.length_map, List.length_map]
    have l3 : zs.length = ps.length := by rw [h3.length, List.length_map, List.length_map]
    refine ⟨D1, D2, ys, zs, rfl, rfl, S3 _ _ e2, e3, sz (by omega), fun D3 n3 => ?_⟩
    have T3 := same_upd (o := .lst (ys ++ zs)) n3
    have all : DtsIs (upd H3 D3 (.lst (ys ++ zs))) (ys ++ zs) ((ps.map (fun b => b.1)).map hD ++ (ps.map (fun b => b.2)).map hD) := dapp ((h2.same S3).same T3) (h3.same T3)
    rw [← List.map_append] at all
    have hol : ∀ d ∈ List.map hD (ps.map (fun b => b.1) ++ ps.map (fun b => b.2)), ∃ p, d = hD p ∧ p ∈ (ps.map (fun b => b.1) ++ ps.map (fun b => b.2)) := fun d hd => by
      obtain ⟨p, hp, rfl⟩ := List.mem_map.mp hd
      exact ⟨p, rfl, hp⟩
    refine ⟨D3, ys ++ zs, _, "int", rfl, SqL.of upd_same, all, by rw [List.length_append]; omega, fun d hd => ?_, fun d hd d' hd' => ?_, fun d hd => ?_, fun l ws es nl dw nd mem srt wl => ?_⟩
    · obtain ⟨p, rfl, _⟩ := hol d hd
      exact ⟨_, _, rfl, rfl⟩
    · obtain ⟨p, rfl, _⟩ := hol d hd
      obtain ⟨p', rfl, _⟩ := hol d' hd'
      exact hD_like p p'
    · obtain ⟨p, rfl, _⟩ := hol d hd
      rw [hD_dp1]; decide
    · obtain ⟨hs, rfl⟩ := as_hD (es := es) fun d hd => by
        obtain ⟨p, rfl, _⟩ := hol d ((mem d).mp hd)
        exact ⟨p, rfl⟩
      have Tl := same_upd (o := HO.lst ws) nl
      refine z l hs _ (((S2.trans S3).trans T3).trans Tl) (none_same ((S2.trans S3).trans T3) nl) ⟨ws, upd_same, dw.same Tl⟩ (nodup_of_map nd) srt fun p => ?_
      have key : hD p ∈ List.map hD (ps.map (fun b => b.1) ++ ps.map (fun b => b.2)) ↔ ∃ b ∈ ps, b.1 = p ∨ b.2 = p := by
        constructor
        · intro hp
          obtain ⟨p', e', hp'⟩ := hol _ hp
          rw [hD_inj e']
          rcases List.mem_append.mp hp' with h | h
          · obtain ⟨b, hb, rfl⟩ := List.mem_map.mp h
            exact ⟨b, hb, .inl rfl⟩
          · obtain ⟨b, hb, rfl⟩ := List.mem_map.mp h
            exact ⟨b, hb, .inr rfl⟩
        · rintro ⟨b, hb, h⟩
          refine List.mem_map_of_mem (List.mem_append.mpr ?_)
          rcases h with rfl | rfl
          · exact .inl (List.mem_map.mpr ⟨b, hb, rfl⟩)
          · exact .inr (List.mem_map.mpr ⟨b, hb, rfl⟩)
      rw [← key, ← mem]
      constructor
      · exact fun hp => List.mem_map_of_mem hp
      · intro hp
        obtain ⟨p', hp', e'⟩ := List.mem_map.mp hp
        rw [← hD_inj e']
        exact hp'
structure PRow (L : Ho → Option Ho) (fs bs : List Ln) (f : Ho) (r : Rw) : Prop where
  h : r.1 = f
  n : r.2.2 = ndP (inC L f fs) (inC L f bs)
  s : ∃ c : List Ho, (c.map hD).Pairwise (fun d d' => Dt.blt d' d = false) ∧ c.Nodup ∧ (∀ h, h ∈ c ↔ ∃ e ∈ evW (inC L f fs) (inC L f bs), e.1 = h) ∧ r.2.1 = surR (evW (inC L f fs) (inC L f bs)) c
theorem surR_dp {ev : Ev} {hs : List Ho} : ∀ d ∈ surR ev hs, d.dp ≤ 40 := fun d hd => by
  obtain ⟨h, _, rfl⟩ := List.mem_map.mp hd
  simp [surD, hD, Dt.dp, Dt.dps]
theorem first_is {L : Ho → Option Ho} {fs bs : List Ln} {f : Ho} (hf : L f = some f) (wh : Whole (fs ++ bs) L) (ends : ∀ h, L h ≠ none ↔ ∃ a ∈ fs ++ bs, a.1 = h ∨ a.2 = h) (lst : ∀ h g, L h = some g → Dt.blt (hD h) (hD g) = false)
    {hs : List Ho} (srt : (hs.map hD).Pairwise (fun d d' => Dt.blt d' d = false)) (mem : ∀ p, p ∈ hs ↔ ∃ b ∈ inC L f fs ++ inC L f bs, b.1 = p ∨ b.2 = p) : hs[0]? = some f := by
  have inA : ∀ b, b ∈ inC L f fs ++ inC L f bs ↔ b ∈ fs ++ bs ∧ L b.1 = some f := fun b => by
    unfold inC
    rw [← List.filter_append, List.mem_filter, decide_eq_true_eq]
  have other : ∀ b ∈ fs ++ bs, L b.1 = L b.2 := fun b hb => by
    have hn : L b.1 ≠ none := (ends b.1).mpr ⟨b, hb, .inl rfl⟩
    cases e : L b.1 with
    | none => exact absurd e hn
    | some g => exact (wh.cl b.1 g e b.2 ⟨b, hb, .inl ⟨rfl, rfl⟩⟩).symm
  have hfm : f ∈ hs := (mem f).mpr (by
    obtain ⟨a, ha, q⟩ := (ends f).mp (by rw [hf]; exact Option.some_ne_none _)
    refine ⟨a, (inA a).mpr ⟨ha, ?_⟩, q⟩
    rcases q with q | q
    · rw [q]; exact hf
    · rw [other a ha, q]; exact hf)
  cases hs with
  | nil => cases hfm
  | cons g hs =>
    have hg : L g = some f := by
      obtain ⟨b, hb, q⟩ := (mem g).mp (List.mem_cons_self ..)
      obtain ⟨b1, b2⟩ := (inA b).mp hb
      rcases q with rfl | rfl
      · exact b2
      · rw [← other b b1]; exact b2
    rcases List.mem_cons.mp hfm with rfl | hfm
    · rfl
    · have h1 : Dt.blt (hD f) (hD g) = false := (List.pairwise_cons.mp srt).1 (hD f) (List.mem_map_of_mem hfm)
      have h2 := lst g f hg
      have := hD_inj (Dt.tot _ _ h1 h2)
      rw [this]
      rfl
def spPaper : Sp := fun vs H Q _ => ∃ (t F B : Addr) (fs bs : List Ln), vs = [.ref t] ∧ WkIs H t F B fs bs ∧
  ∀ (l : Addr) (ps : List (V × Rw)) (fr : List Ho) (L : Ho → Option Ho) H', Same H H' → H' l = some (.lst (ps.map (·.1))) → RwsIs H' ps → ps.length = fr.length → (∀ (i : Nat) p f, ps[i]? = some p → fr[i]? = some f → PRow L fs bs f p.2) → fr.length ≤ 280 →
    fr.Nodup → (fr.map hD).Pairwise (fun d d' => Dt.blt d' d = false) → (∀ f, f ∈ fr ↔ L f = some f) → Whole (fs ++ bs) L → (∀ h, L h ≠ none ↔ ∃ a ∈ fs ++ bs, a.1 = h ∨ a.2 = h) → (∀ h g, L h = some g → Dt.blt (hD h) (hD g) = false) → Q (.ref l) H'
theorem scPaper : FnScope ["work"] ["work"] (defScope sPaper) := ⟨rfl, rfl, rfl, by decide +kernel, rfl, by decide +kernel, by decide +kernel⟩
theorem ok_paper {f fP fQ fS fH : Addr} {fd fdP fdQ fdS fdH : FuncData} (D : Df K mg "paper" sPaper f fd) (DP : Df K mg "pieces" sPieces fP fdP) (bP : Binds K fdP ["work"] []) (GP : FnOk P w K mg base CX0 3 fP fdP ["work"] spPieces)
    (DQ : Df K mg "need_of_piece" sNeedP fQ fdQ) (bQ : Binds K fdQ ["piece"] []) (GQ : FnOk P w K mg base CX0 2 fQ fdQ ["piece"] spNeedP)
    (DS : Df K mg "surplus" sSur fS fdS) (bS : Binds K fdS ["work"] []) (GS : FnOk P w K mg base CX0 1 fS fdS ["work"] spSur)
    (DH : Df K mg "holes_of" sHolesOf fH fdH) (bH : Binds K fdH ["lines"] []) (GH : FnOk P w K mg base CX0 1 fH fdH ["lines"] spHolesOf) : FnOk P w K mg base CX0 4 f fd ["work"] spPaper := by
  refine D.F.ok scPaper (fun vs H Q E h => ?_) (fun cdv A outer s H vs Q E hr h => ?_)
  · obtain ⟨t, F, B, fs, bs, rfl, _⟩ := h
    rfl
  · obtain ⟨t, F, B, fs, bs, rfl, wk, z⟩ := h
    have hr2 : Room 2 _ := hr.mono (by decide)
    have hr1 : Room 1 _ := hr.mono (by decide)
    refine ⟨_, (pss_one (ps_ret (pe_comp (N' := ["piece"]) (idx := [none]) (compOk_of (by kernel_rfl)) (by kernel_rfl) rfl (pi_list (pec GP hr rfl DP.m DP.F.kp bP .nil pass0 (pac (pv 0) pa_nil)))
          (fun _ _ _ _ _ => pg_name (i := 0) (show (["piece"] : List Str).Nodup by decide +kernel) rfl (Or.inl rfl)) (fun _ _ _ _ _ => pts_nil)
          (te := tTup (tCons (tOp (rIxL K) (tCall spHolesOf [] _ (tCons (tOp rCat (tOp (rIxT K) (tVar 0) (tC (.int 0))) (tOp (rIxT K) (tVar 0) (tC (.int 1)))) tNil)) (tC (.int 0))) (tCons (tCall spSur [] _ (tCons (tVar 0) tNil)) (tCons (tCall spNeedP [] _ (tCons (tVar 0) tNil)) tNil))))
          (fun _ _ _ _ _ => pe_tup (pac (pe_ix ix_list (pec GH hr1 rfl DH.m DH.F.kp bH .nil pass0 (pac (pe_op op_cat (pe_ix ix_tup (pv 0) pe_int (fun _ _ => rfl)) (pe_ix ix_tup (pv 0) pe_int (fun _ _ => rfl))) pa_nil)) pe_int (fun _ _ => rfl)) (pac (pec GS hr1 rfl DS.m DS.F.kp bS .nil pass0 (pac (pv 0) pa_nil)) (pac (pec GQ hr2 rfl DQ.m DQ.F.kp bQ .nil pass0 (pac (pv 0) pa_nil)) pa_nil))))))), ?_⟩
    refine ⟨_, rfl, t, F, B, fs, bs, rfl, wk, fun l ps fr L H1 S1 el pcs fnd fll fmem wh ends lst fsrt => ?_⟩
    refine ⟨l, rfl, ⟨_, SqL.of el⟩, fun M nM => ?_⟩
    have pl := pcs.1
    refine comp_n (J := Itl K l) (n := ps.length) (fun i σ2 H2 => (∃ v0, σ2 = [v0]) ∧ Same H1 H2 ∧ ∃ rs : List (V × Rw), H2 M = some (.lst (rs.map (·.1))) ∧ rs.length = i ∧ (∀ p ∈ rs, RwM H2 M p) ∧ ∀ (j : Nat) p f, rs[j]? = some p → fr[j]? = some f → PRow L fs bs f p.2) ?_ ?_ ?_ ?_
    · exact ⟨⟨_, rfl⟩, same_upd nM, [], upd_same, rfl, (fun _ h => nomatch h), fun j p f e => by simp at e⟩
    · rintro i σ2 H2 hi ⟨⟨v0, rfl⟩, S2, _⟩
      exact ⟨_, _, SqL.of (S2 _ _ el), List.getElem?_eq_getElem (by rw [List.length_map]; exact hi)⟩
    · rintro σ2 H2 ⟨⟨v0, rfl⟩, S2, rs, eM, rl, rr, pr⟩
      exact ⟨⟨_, SqL.of (S2 _ _ el), by rw [List.length_map]; exact Nat.le_refl _⟩, z M rs fr L H2 (S1.trans S2) eM (fun p hp => (rr p hp).is) (by omega) pr fll fnd fsrt fmem wh ends lst⟩
    · rintro i σ2 H2 hi ⟨⟨v0, rfl⟩, S2, rs, eM, rl, rr, pr⟩ x H3 ⟨rfl, hx⟩
      have hx := hx _ (SqL.of (S2 _ _ el))
      rw [List.getElem?_map, List.getElem?_eq_getElem hi] at hx
      cases hx
      have hf : fr[i]? = some (fr[i]'(by omega)) := List.getElem?_eq_getElem (by omega)
      obtain ⟨A1, B1, k⟩ := pcs.2 i _ _ (List.getElem?_eq_getElem hi) hf
      generalize fr[i]'(by omega) = fi at *
      have hfi : L fi = some fi := (fmem fi).mp (List.mem_of_getElem? hf)
      have k2 := k.same S2
      obtain ⟨av, eA, dA⟩ := k2.f
      obtain ⟨bv, eB, dB⟩ := k2.b
      have avl : av.length = (inC L fi fs).length := by rw [dA.length, List.length_map]
      have bvl : bv.length = (inC L fi bs).length := by rw [dB.length, List.length_map]
      have lf := k2.lf
      have lb := k2.lb
      refine ⟨_, rfl, _, _, _, _, rfl, rfl, SqT.of k2.t, rfl, _, rfl, _, _, _, _, rfl, rfl, SqT.of k2.t, rfl, A1, B1, av, bv, rfl, rfl, eA, eB, sz (by omega), fun C nC => ?_⟩
      have T3 := same_upd (o := HO.lst (av ++ bv)) nC
      have dC : DtL (upd H3 C (.lst (av ++ bv))) C ((inC L fi fs ++ inC L fi bs).map lnD) := ⟨_, upd_same, by rw [List.map_append]; exact dapp (dA.same T3) (dB.same T3)⟩
      refine ⟨C, _, rfl, dC, by rw [List.length_append]; omega, fun g hs H4 S4 ng hG hnd hsrt hmem => ?_⟩
      have first := first_is hfi wh ends lst hsrt hmem
      obtain ⟨gv, eg, dg⟩ := hG
      obtain ⟨q, eq0, tq⟩ : ∃ q, gv[0]? = some (.ref q) ∧ two H4 q fi := by
        have hl : 0 < gv.length := by
          rw [dg.length, List.length_map]
          exact (List.getElem?_eq_some_iff.mp first).1
        obtain ⟨q, f', e1, e2, t'⟩ := th_at dg (i := 0) (v := gv[0]) (List.getElem?_eq_getElem hl)
        rw [first] at e2
        cases e2
        exact ⟨q, by rw [← e1]; exact List.getElem?_eq_getElem hl, t'⟩
      refine ⟨g, _, _, .ref q, rfl, rfl, SqL.of eg, atI_nat (j := 0) eq0, ?_⟩
      have S24 := T3.trans S4
      have k4 := k2.same S24
      refine ⟨_, rfl, _, A1, B1, _, _, rfl, k4.t, k4.f, k4.b, k4.lf, k4.lb, fun sl sh H5 S5 nsl ssrt snd smem hsl => ?_⟩
      have k5 := k4.same S5
      refine ⟨_, rfl, _, A1, B1, _, _, rfl, k5, fun H6 S6 => ?_⟩
      refine ⟨szr rfl, fun u nu => ?_⟩
      have Tu := same_upd (o := HO.tup [V.ref q, .ref sl, .int (ndP (inC L fi fs) (inC L fi bs))]) nu
      have S56 := (S5.trans S6).trans Tu
      have S26 := S24.trans S56
      have eM6 := S26 _ _ eM
      have neS : sl ≠ M := fun e => by rw [e, S24 _ _ eM] at nsl; cases nsl
      have neU : u ≠ M := fun e => by rw [e, ((S24.trans S5).trans S6) _ _ eM] at nu; cases nu
      have rwu : RwM (upd H6 u (.tup [V.ref q, .ref sl, .int (ndP (inC L fi fs) (inC L fi bs))])) M (.ref u, (fi, surR (evW (inC L fi fs) (inC L fi bs)) sh, ndP (inC L fi fs) (inC L fi bs))) :=
        ⟨u, q, sl, rfl, neU, neS, upd_same, S56 _ _ tq, (hsl.same S6).same Tu, surR_dp⟩
      refine ⟨rs.map (·.1), eM6, small1000 (by rw [List.length_map]; omega), ⟨_, rfl⟩, same_updN (S2.trans S26) nM, rs ++ [(.ref u, (fi, surR (evW (inC L fi fs) (inC L fi bs)) sh, ndP (inC L fi fs) (inC L fi bs)))], by rw [upd_same, List.map_append]; rfl, by rw [List.length_append, rl]; rfl, fun p hp => ?_, fun j p f' e1 e2 => ?_⟩
      · rcases List.mem_append.mp hp with hp | hp
        · exact ((rr p hp).same S26).upd eM6
        · rw [List.mem_singleton.mp hp]
          exact rwu.upd eM6
      · by_cases hj : j < rs.length
        · rw [List.getElem?_append_left hj] at e1
          exact pr j p f' e1 e2
        · have hj' : j = i := by
            have := (List.getElem?_eq_some_iff.mp e1).1
            rw [List.length_append] at this
            have h1 : ([((V.ref u, (fi, surR (evW (inC L fi fs) (inC L fi bs)) sh, ndP (inC L fi fs) (inC L fi bs))) : V × Rw)] : List (V × Rw)).length = 1 := rfl
            omega
          subst hj'
          rw [hf] at e2
          cases e2
          rw [List.getElem?_append_right (by omega), rl, Nat.sub_self] at e1
          cases e1
          exact ⟨rfl, rfl, sh, ssrt, snd, smem, rfl⟩
end
end K62
namespace K62
open PySem PySem.Spec PyProof.Rows L2 BF
seal L2.PE L2.PA L2.PS L2.PSs L2.PT L2.PW L2.PG L2.PGs L2.PI BF.PTs L2.PO
section
variable {P : Program} {w : World} {K : PySem.W.Frag} {mg : Str → Option Value} {base : Heap}
def spSurL (P : Program) (w : World) : Sp := fun vs H Q _ => ∃ (t F B : Addr) (fs bs : List Ln), vs = [.ref t] ∧ WkIs H t F B fs bs ∧ ∀ d kvs H', Same H H' → H d = none → DicV P w H' d kvs → DSum kvs (evW fs bs) → Q (.ref d) H'
theorem scSurL : FnScope ["_law_work_here", "_law_found", "_law_k", "_law_edge", "_law_hole"] ["_law_work_here"] (defScope sSurL) := ⟨rfl, rfl, rfl, by decide +kernel, rfl, by decide +kernel, by decide +kernel⟩
theorem ok_surL {f : Addr} {fd : FuncData} (D : Df K mg "_law_surplus" sSurL f fd) (hrange : mg "range" = none) : FnOk P w K mg base CX0 1 f fd ["_law_work_here"] (spSurL P w) := by
  refine D.F.ok scSurL (fun vs H Q E h => ?_) (fun cdv A outer s H vs Q E hr h => ?_)
  · obtain ⟨t, F, B, fs, bs, rfl, _⟩ := h
    rfl
  · obtain ⟨t, F, B, fs, bs, rfl, ⟨et, ⟨fv, eF, dF⟩, ⟨bv, eB, dB⟩, lf, lb⟩, z⟩ := h
    refine ⟨_, (pss_cons (ps_set (i := 1) scSurL.nd rfl (Or.inl rfl) pe_dnewD)
      (pss_cons (ps_for PassesOwn.never rfl (pi_range1 rfl hrange (pac (pe_int) pa_nil)) (pg_name (i := 2) scSurL.nd rfl (Or.inl rfl)) (pss_one (ps_for PassesOwn.never rfl (pi_list (pe_ix ix_tup (pv 0) (pv 2) (fun _ _ => rfl))) (pg_name (i := 3) scSurL.nd rfl (Or.inl rfl)) (pss_one (ps_for PassesOwn.never rfl (pi_tup (pv 3)) (pg_name (i := 4) scSurL.nd rfl (Or.inl rfl)) (pss_one (ps_dputD hr (pv 1) (pv 4) (pe_op op_sub (pe_op op_add (pe_bmD PySem.F.slot_dict_get PySem.F.type_dict_get (mt_getD hr) (pv 1) (pac (pv 4) (pac (pe_int) pa_nil))) pe_int) (pe_op op_mul pe_int (pv 2))) rfl)))))))
      (pss_one (ps_ret (pv 1))))), ?_⟩
    have fvl : fv.length = fs.length := by rw [dF.length, List.length_map]
    have bvl : bv.length = bs.length := by rw [dB.length, List.length_map]
    refine fun dA o0 ndA dic0 => ?_
    have S0 := same_upd (o := o0) ndA
    revert S0 dic0
    generalize (upd H dA o0) = H0
    intro dic0 S0
    refine ⟨_, rfl, by decide, by decide, ?_⟩
    refine for_range (fun i σ H1 => (∃ v2 v3 v4, σ = [some (.ref t), some (.ref dA), v2, v3, v4]) ∧ Same H H1 ∧ ∃ kvs, DicV P w H1 dA kvs ∧ DSum kvs (evs fs bs i) ∧ kvs.length ≤ (evs fs bs i).length)
      ⟨⟨_, _, _, rfl⟩, S0, [], dic0, .nil, Nat.le_refl _⟩ ?_ ?_
    · rintro i σ H1 hi ⟨⟨v2, v3, v4, rfl⟩, S1, kvs, dic, ds, kl⟩
      have hi2 : i < 2 := hi
      obtain ⟨M, mv, ms, sg, hat, eM, dM, hml, eev, hsg⟩ : ∃ (M : Addr) (mv : List V) (ms : List Ln) (sg : Int), atI [V.ref F, .ref B] (0 + (i : Int)) = some (.ref M) ∧ H M = some (.lst mv) ∧ DtsIs H mv (ms.map lnD) ∧ (evs fs bs i).length + 2 * ms.length ≤ 280 ∧ evs fs bs (i + 1) = evs fs bs i ++ evL sg ms ∧ sg = 1 - 2 * (0 + (i : Int)) := by
        have h2 : i = 0 ∨ i = 1 := by omega
        rcases h2 with rfl | rfl
        · exact ⟨F, fv, fs, 1, rfl, eF, dF, by show 0 + _ ≤ _; omega, rfl, rfl⟩
        · exact ⟨B, bv, bs, -1, rfl, eB, dB, by show (evL 1 fs).length + _ ≤ _; rw [evL_len]; omega, rfl, rfl⟩
      have mvl : mv.length = ms.length := by rw [dM.length, List.length_map]
      refine ⟨_, rfl, _, rfl, t, _, _, _, rfl, rfl, SqT.of (S1 _ _ et), hat, M, rfl, ⟨_, SqL.of (S1 _ _ eM)⟩, ?_⟩
      refine for_list (K := K) (a := M) (xs := mv) (fun j σ H3 => (∃ v3 v4, σ = [some (.ref t), some (.ref dA), some (.int (0 + (i : Int))), v3, v4]) ∧ Same H H3 ∧ ∃ kvs, DicV P w H3 dA kvs ∧ DSum kvs (evs fs bs i ++ evL sg (ms.take j)) ∧ kvs.length ≤ (evs fs bs i).length + 2 * j)
        ⟨⟨_, _, rfl⟩, S1, kvs, dic, by rw [List.take_zero]; show DSum kvs (evs fs bs i ++ []); rw [List.append_nil]; exact ds, kl⟩ (fun j σ H3 _ ⟨_, s3, _⟩ => SqL.of (s3 _ _ eM)) ?_ ?_
      · rintro j y σ H3 hy ⟨⟨v3, v4, rfl⟩, S3, kvs, dic, ds, kl⟩
        obtain ⟨r, x0, y0, a, rfl, ha, er0, tx0, ty0⟩ := ln_at dM hy
        have hj : j < ms.length := (List.getElem?_eq_some_iff.mp ha).1
        have tk : ms.take (j + 1) = ms.take j ++ [a] := by rw [List.take_add_one, ha]; rfl
        refine ⟨_, rfl, r, rfl, ⟨_, SqT.of (S3 _ _ er0)⟩, ?_⟩
        refine for_tup (K := K) (a := r) (xs := [V.ref x0, .ref y0]) (fun m σ H4 => (∃ v4, σ = [some (.ref t), some (.ref dA), some (.int (0 + (i : Int))), some (.ref r), v4]) ∧ Same H H4 ∧ ∃ kvs, DicV P w H4 dA kvs ∧ DSum kvs (evs fs bs i ++ evL sg (ms.take j) ++ [(a.1, sg), (a.2, sg)].take m) ∧ kvs.length ≤ (evs fs bs i).length + 2 * j + m)
          ⟨⟨_, rfl⟩, S3, kvs, dic, by rw [List.take_zero, List.append_nil]; exact ds, kl⟩ (fun m σ H4 _ ⟨_, s4, _⟩ => SqT.of (s4 _ _ er0)) ?_ ?_
        · rintro m u σ H4 hu ⟨⟨v4, rfl⟩, S4, kvs, dic, ds, kl⟩
          obtain ⟨hq, hp, rfl, th, te, hm2⟩ : ∃ (hq : Addr) (hp : Ho), u = .ref hq ∧ two H hq hp ∧ [(a.1, sg), (a.2, sg)].take (m + 1) = [(a.1, sg), (a.2, sg)].take m ++ [(hp, sg)] ∧ m < 2 := by
            match m, hu with
            | 0, hu => cases hu; exact ⟨x0, a.1, rfl, tx0, rfl, by decide⟩
            | 1, hu => cases hu; exact ⟨y0, a.2, rfl, ty0, rfl, by decide⟩
            | m + 2, hu => simp at hu
          have dh : DtIs H4 (.ref hq) (hD hp) := two_dt (S4 _ _ th)
          refine ⟨_, rfl, ⟨dA, kvs, rfl, dic⟩, _, rfl, dA, hq, hD hp, kvs, .int 0, rfl, rfl, dh, h8 _, dic, ?_⟩
          rw [ds.get hp]
          refine ⟨_, _, rfl, rfl, _, rfl, _, _, rfl, rfl, cmulR (by omega) (by omega), _, _, rfl, rfl, _, rfl, _, rfl, dA, hq, hD hp, kvs, rfl, rfl, dh, h8 _, dic, by omega, fun o' dic' => ?_⟩
          have ev' : sumAt (evs fs bs i ++ evL sg (ms.take j) ++ [(a.1, sg), (a.2, sg)].take m) hp + 1 - 2 * (0 + (i : Int)) = sumAt (evs fs bs i ++ evL sg (ms.take j) ++ [(a.1, sg), (a.2, sg)].take m) hp + sg := by omega
          have dic' : DicV P w (upd H4 dA o') dA (putK kvs (hD hp) (.int (sumAt (evs fs bs i ++ evL sg (ms.take j) ++ [(a.1, sg), (a.2, sg)].take m) hp + 1 - 2 * (0 + (i : Int))))) := dic'
          rw [ev'] at dic'
          refine ⟨⟨_, rfl⟩, same_updN S4 ndA, _, dic', ?_, ?_⟩
          · rw [te, ← List.append_assoc]
            exact ds.put hp sg
          · exact Nat.le_trans (putK_len _ _ _) (by omega)
        · rintro σ H4 ⟨⟨v4, rfl⟩, S4, kvs, dic, ds, kl⟩
          refine ⟨⟨_, _, rfl⟩, S4, kvs, dic, ?_, ?_⟩
          · rw [tk, evL_snoc, ← List.append_assoc, ← List.append_assoc, List.append_assoc (evs fs bs i ++ evL sg (ms.take j))]
            exact ds
          · have : ([V.ref x0, .ref y0] : List V).length = 2 := rfl
            rw [this] at kl
            omega
      · rintro σ H3 ⟨⟨v3, v4, rfl⟩, S3, kvs, dic, ds, kl⟩
        rw [List.take_of_length_le (by omega)] at ds
        refine ⟨⟨_, _, _, rfl⟩, S3, kvs, dic, by rw [eev]; exact ds, ?_⟩
        rw [eev, List.length_append, evL_len]
        omega
    · rintro σ H1 ⟨⟨v2, v3, v4, rfl⟩, S1, kvs, dic, ds, kl⟩
      exact ⟨_, rfl, z dA kvs H1 S1 ndA dic ds⟩
end
def defL (G : Ho → Option Ho) (h : Ho) : Ho → Option Ho := fun k => if k = h ∧ G h = none then some h else G k
def rlb (G : Ho → Option Ho) (o n : Ho) : Ho → Option Ho := fun k => if G k = some o then some n else G k
def relS (G : Ho → Option Ho) (o n : Ho) (S : List Ho) : Ho → Option Ho := fun k => if k ∈ S ∧ G k = some o then some n else G k
theorem defL_none {G : Ho → Option Ho} {h k : Ho} : defL G h k ≠ none ↔ k = h ∨ G k ≠ none := by
  unfold defL
  by_cases c : k = h ∧ G h = none
  · rw [if_pos c]
    exact ⟨fun _ => .inl c.1, fun _ => Option.some_ne_none _⟩
  · rw [if_neg c]
    constructor
    · exact .inr
    · rintro (rfl | z)
      · exact fun e => c ⟨rfl, e⟩
      · exact z
theorem defL_old {G : Ho → Option Ho} {h k : Ho} (n : G k ≠ none) : defL G h k = G k := by
  unfold defL
  rw [if_neg (fun c : k = h ∧ G h = none => n (by rw [c.1]; exact c.2))]
theorem defL_val {G : Ho → Option Ho} {h k g : Ho} (e : defL G h k = some g) : (k = h ∧ g = h) ∨ G k = some g := by
  unfold defL at e
  by_cases c : k = h ∧ G h = none
  · rw [if_pos c] at e
    exact .inl ⟨c.1, (Option.some.inj e).symm⟩
  · rw [if_neg c] at e
    exact .inr e
structure GrOk (all ls : List Ln) (G : Ho → Option Ho) : Prop where
  mem : ∀ h, G h ≠ none ↔ ∃ a ∈ ls, a.1 = h ∨ a.2 = h
  con : ∀ h g, G h = some g → Cn all g h
  cl : ∀ a ∈ ls, G a.1 = G a.2
theorem GrOk.nil (all : List Ln) : GrOk all [] (fun _ => none) := ⟨fun h => ⟨fun z => absurd rfl z, fun ⟨_, z, _⟩ => (nomatch z)⟩, fun _ _ z => (nomatch z), fun _ z => (nomatch z)⟩
theorem GrOk.step {all ls : List Ln} {G : Ho → Option Ho} {a : Ln} {o n : Ho} (k : GrOk all ls G) (ha : a ∈ all) (e1 : defL (defL G a.1) a.2 a.1 = some o) (e2 : defL (defL G a.1) a.2 a.2 = some n) : GrOk all (ls ++ [a]) (rlb (defL (defL G a.1) a.2) o n) := by
  have con2 : ∀ h g, defL (defL G a.1) a.2 h = some g → Cn all g h := fun h g e => by
    rcases defL_val e with ⟨e1, e2⟩ | e
    · rw [e1, e2]; exact .refl
    · rcases defL_val e with ⟨e1, e2⟩ | e
      · rw [e1, e2]; exact .refl
      · exact k.con h g e
  have nn : ∀ h, rlb (defL (defL G a.1) a.2) o n h ≠ none ↔ defL (defL G a.1) a.2 h ≠ none := fun h => by
    unfold rlb
    split
    · rename_i c
      rw [c]
      exact ⟨fun _ => Option.some_ne_none _, fun _ => Option.some_ne_none _⟩
    · exact Iff.rfl
  refine ⟨fun h => ?_, fun h g e => ?_, fun b hb => ?_⟩
  · rw [nn, defL_none, defL_none, k.mem]
    constructor
    · rintro (rfl | rfl | ⟨b, hb, q⟩)
      · exact ⟨a, List.mem_append_right _ (List.mem_singleton.mpr rfl), .inr rfl⟩
      · exact ⟨a, List.mem_append_right _ (List.mem_singleton.mpr rfl), .inl rfl⟩
      · exact ⟨b, List.mem_append_left _ hb, q⟩
    · rintro ⟨b, hb, q⟩
      rcases List.mem_append.mp hb with hb | hb
      · exact .inr (.inr ⟨b, hb, q⟩)
      · rw [List.mem_singleton.mp hb] at q
        rcases q with q | q
        · exact .inr (.inl q.symm)
        · exact .inl q.symm
  · unfold rlb at e
    split at e
    · rename_i c
      cases e
      exact ((con2 _ _ e2).trans (Cn.line ha).symm).trans ((con2 _ _ e1).symm.trans (con2 _ _ c))
    · exact con2 _ _ e
  · have key : defL (defL G a.1) a.2 b.1 = defL (defL G a.1) a.2 b.2 ∨ b = a := by
      rcases List.mem_append.mp hb with hb | hb
      · left
        have n1 : G b.1 ≠ none := (k.mem _).mpr ⟨b, hb, .inl rfl⟩
        have n2 : G b.2 ≠ none := (k.mem _).mpr ⟨b, hb, .inr rfl⟩
        rw [defL_old (defL_none.mpr (.inr n1)), defL_old n1, defL_old (defL_none.mpr (.inr n2)), defL_old n2]
        exact k.cl b hb
      · exact .inr (List.mem_singleton.mp hb)
    rcases key with e | rfl
    · unfold rlb
      rw [e]
    · unfold rlb
      rw [if_pos e1, e2]
      split <;> rfl
section
variable {P : Program} {w : World} {K : PySem.W.Frag} {mg : Str → Option Value} {base : Heap}
theorem LeOk.setDef {H H' : Hp} {d q : Addr} {kvs : List (Dt × V)} {G : Ho → Option Ho} {h : Ho} {u : V} (D : LeOk P w H d kvs G) (t : two H q h) (sd : SetD P w H d kvs (hD h) (.ref q) u H') :
    ∃ kvs', LeOk P w H' d kvs' (defL G h) ∧ kvs'.length ≤ kvs.length + 1 ∧ (∀ H0, Same H0 H → H0 d = none → Same H0 H') ∧ ∀ a v, H a = some v → (∀ φ, v ≠ .ext φ) → H' a = some v := by
  rcases sd with ⟨e, rfl⟩ | ⟨e, rfl, o, rfl, d'⟩
  · have hn : G h ≠ none := (D.isIn h).mp (valV_in e)
    have eq : defL G h = G := funext fun k => by
      unfold defL
      rw [if_neg (fun c => hn c.2)]
    rw [eq]
    exact ⟨kvs, D, by omega, fun _ s _ => s, fun _ _ e _ => e⟩
  · have hn : G h = none := by
      cases z : G h with
      | none => rfl
      | some f =>
        obtain ⟨q', v, _⟩ := D.val h f z
        rw [e] at v
        cases v
    have eq : defL G h = setL G h h := funext fun k => by
      unfold defL setL
      by_cases z : k = h
      · rw [if_pos ⟨z, hn⟩, if_pos z]
      · rw [if_neg (fun c => z c.1), if_neg z]
    rw [eq]
    obtain ⟨φ, ext⟩ := D.dic.ext
    exact ⟨_, D.put t d', putK_len _ _ _, fun _ s n => same_updN s n, fun a v ea hv => by rw [upd_ne (fun z => by rw [z, ext] at ea; exact hv φ (Option.some.inj ea).symm)]; exact ea⟩
def spGroups (P : Program) (w : World) : Sp := fun vs H Q _ => ∃ (t F B : Addr) (fs bs : List Ln), vs = [.ref t] ∧ WkIs H t F B fs bs ∧ ∀ d kvs G H', Same H H' → H d = none → LeOk P w H' d kvs G → kvs.length ≤ 280 → GrOk (fs ++ bs) (fs ++ bs) G → Q (.ref d) H'
theorem scGroups : FnScope ["_law_work_here", "_law_group", "_law_one", "_law_other", "_law_old", "_law_new", "_law_hole"] ["_law_work_here"] (defScope sGroups) := ⟨rfl, rfl, rfl, by decide +kernel, rfl, by decide +kernel, by decide +kernel⟩
theorem ok_groups {f : Addr} {fd : FuncData} (D : Df K mg "_law_groups" sGroups f fd) (hlist : mg "list" = none) : FnOk P w K mg base CX0 1 f fd ["_law_work_here"] (spGroups P w) := by
  refine D.F.ok scGroups (fun vs H Q E h => ?_) (fun cdv A outer s H vs Q E hr h => ?_)
  · obtain ⟨t, F, B, fs, bs, rfl, _⟩ := h
    rfl
  · obtain ⟨t, F, B, fs, bs, rfl, wk, z⟩ := h
    refine ⟨_, (pss_cons (ps_set (i := 1) scGroups.nd rfl (Or.inl rfl) pe_dnewD)
      (pss_cons (ps_for PassesOwn.never rfl (pi_list (pe_op op_cat (pe_ix ix_tup (pv 0) pe_int (fun _ _ => rfl)) (pe_ix ix_tup (pv 0) pe_int (fun _ _ => rfl)))) (pg_tup rfl (pgs_cons (pg_name (i := 2) scGroups.nd rfl (Or.inl rfl)) (pgs_cons (pg_name (i := 3) scGroups.nd rfl (Or.inl rfl)) pgs_nil))) (pss_cons (ps_expr (pe_bmD PySem.F.slot_dict_setdefault PySem.F.type_dict_setdefault (mt_setDefR hr) (pv 1) (pac (pv 2) (pac (pv 2) pa_nil))))
      (pss_cons (ps_expr (pe_bmD PySem.F.slot_dict_setdefault PySem.F.type_dict_setdefault (mt_setDefR hr) (pv 1) (pac (pv 3) (pac (pv 3) pa_nil))))
      (pss_cons (ps_set (i := 4) scGroups.nd rfl (Or.inl rfl) (pe_dgetD hr (pv 1) (pv 2) (fun _ _ => rfl)))
      (pss_cons (ps_set (i := 5) scGroups.nd rfl (Or.inl rfl) (pe_dgetD hr (pv 1) (pv 3) (fun _ _ => rfl)))
      (pss_one (ps_for PassesOwn.never rfl (pi_list (pe_callTy (call_listD hr) (by rfl) hlist boot_list (pac (pv 1) pa_nil))) (pg_name (i := 6) scGroups.nd rfl (Or.inl rfl)) (pss_one (ps_if (pt_cmpR (op_eqD hr) (pe_dgetD hr (pv 1) (pv 6) (fun _ _ => rfl)) (pv 4) (nomark _)) (pss_one (ps_dputD hr (pv 1) (pv 6) (pv 5) rfl)) pss_nil)))))))))
      (pss_one (ps_ret (pv 1))))), ?_⟩
    obtain ⟨et, ⟨fv, eF, dF⟩, ⟨bv, eB, dB⟩, lf, lb⟩ := wk
    have fvl : fv.length = fs.length := by rw [dF.length, List.length_map]
    have bvl : bv.length = bs.length := by rw [dB.length, List.length_map]
    refine fun dA o0 ndA dic0 => ?_
    have S0 := same_upd (o := o0) ndA
    refine ⟨_, rfl, t, _, _, _, rfl, rfl, SqT.of (S0 _ _ et), rfl, _, rfl, t, _, _, _, rfl, rfl, SqT.of (S0 _ _ et), rfl, F, B, fv, bv, rfl, rfl, S0 _ _ eF, S0 _ _ eB, sz (by omega), fun C nC => ?_⟩
    have T3 := same_upd (o := HO.lst (fv ++ bv)) nC
    have dC : DtsIs H (fv ++ bv) ((fs ++ bs).map lnD) := by rw [List.map_append]; exact dapp dF dB
    have S3 := S0.trans T3
    have dic3 := dic0.same T3
    have eC : (upd (upd H dA o0) C (.lst (fv ++ bv))) C = some (.lst (fv ++ bv)) := upd_same
    refine ⟨C, rfl, ⟨_, SqL.of upd_same⟩, ?_⟩
    have hl : (fs ++ bs).length ≤ 140 := by rw [List.length_append]; omega
    have xsl : (fv ++ bv).length = (fs ++ bs).length := by rw [dC.length, List.length_map]
    revert S3 dic3 eC
    generalize (upd (upd H dA o0) C (.lst (fv ++ bv))) = H3
    intro S3 dic3 eC
    revert z dC hl xsl
    generalize fs ++ bs = all
    generalize fv ++ bv = xs at *
    intro z dC hl xsl
    refine for_list (K := K) (a := C) (xs := xs) (fun i σ H4 => (∃ v2 v3 v4 v5 v6, σ = [some (.ref t), some (.ref dA), v2, v3, v4, v5, v6]) ∧ Same H H4 ∧ H4 C = some (.lst xs) ∧ ∃ kvs G, LeOk P w H4 dA kvs G ∧ GrOk all (all.take i) G ∧ kvs.length ≤ 2 * i)
      ⟨⟨_, _, _, _, _, rfl⟩, S3, eC, [], _, LeOk.start dic3, by rw [List.take_zero]; exact GrOk.nil _, Nat.le_refl _⟩ (fun i σ H4 _ ⟨_, _, e, _⟩ => SqL.of e) ?_ ?_
    · rintro i x σ H4 hx ⟨⟨v2, v3, v4, v5, v6, rfl⟩, S4, eC4, kvs, G, le4, gr, kl⟩
      obtain ⟨r, x0, y0, a, rfl, ha, er, tx, ty⟩ := ln_at dC hx
      have hi : i < all.length := (List.getElem?_eq_some_iff.mp ha).1
      have tk : all.take (i + 1) = all.take i ++ [a] := by rw [List.take_add_one, ha]; rfl
      refine ⟨r, _, rfl, SqT.of (S4 _ _ er), rfl, _, _, rfl, _, _, rfl, rfl, ?_⟩
      refine ⟨_, rfl, ⟨dA, kvs, rfl, le4.dic⟩, _, rfl, _, rfl, dA, x0, hD a.1, kvs, .ref x0, rfl, rfl, two_dt (S4 _ _ tx), h8 _, le4.dic, by omega, fun u H5 sd => ?_⟩
      obtain ⟨kvs1, le5, kl5, sm5, kp5⟩ := le4.setDef (S4 _ _ tx) sd
      have S5 := sm5 H S4 ndA
      have eC5 := kp5 _ _ eC4 (fun _ zz => nomatch zz)
      refine ⟨_, rfl, ⟨dA, kvs1, rfl, le5.dic⟩, _, rfl, _, rfl, dA, y0, hD a.2, kvs1, .ref y0, rfl, rfl, two_dt (S5 _ _ ty), h8 _, le5.dic, by omega, fun u' H6 sd' => ?_⟩
      obtain ⟨kvs2, le6, kl6, sm6, kp6⟩ := le5.setDef (S5 _ _ ty) sd'
      have S6 := sm6 H S5 ndA
      have eC6 := kp6 _ _ eC5 (fun _ zz => nomatch zz)
      obtain ⟨o, eo⟩ : ∃ o, defL (defL G a.1) a.2 a.1 = some o := Option.ne_none_iff_exists'.mp (defL_none.mpr (.inr (defL_none.mpr (.inl rfl))))
      obtain ⟨n, en⟩ : ∃ n, defL (defL G a.1) a.2 a.2 = some n := Option.ne_none_iff_exists'.mp (defL_none.mpr (.inl rfl))
      have fin := gr.step (List.mem_of_getElem? ha) eo en
      rw [← tk] at fin
      obtain ⟨qo, vo, to⟩ := le6.val a.1 o eo
      obtain ⟨qn, vn, tn⟩ := le6.val a.2 n en
      refine ⟨_, rfl, _, rfl, dA, x0, hD a.1, kvs2, .ref qo, rfl, rfl, two_dt (S6 _ _ tx), h8 _, le6.dic, vo, ?_⟩
      refine ⟨_, rfl, _, rfl, dA, y0, hD a.2, kvs2, .ref qn, rfl, rfl, two_dt (S6 _ _ ty), h8 _, le6.dic, vn, ?_⟩
      refine ⟨_, rfl, dA, kvs2, rfl, le6.dic, fun Z zs nZ dZ => ?_⟩
      have TZ := same_upd (o := HO.lst zs) nZ
      obtain ⟨hs, ehs⟩ := as_hD (es := kvs2.map (·.1)) fun d hd => by
        obtain ⟨g, _, e⟩ := (le6.mem d).mp hd
        exact ⟨g, e.symm⟩
      rw [ehs] at dZ
      have hsl : hs.length = kvs2.length := by
        have := congrArg List.length ehs
        rw [List.length_map, List.length_map] at this
        omega
      have hmem : ∀ h, defL (defL G a.1) a.2 h ≠ none → h ∈ hs := fun h n => by
        have := (le6.isIn h).mpr n
        rw [ehs] at this
        obtain ⟨g, hg, e⟩ := List.mem_map.mp this
        exact hD_inj e ▸ hg
      have hin : ∀ h ∈ hs, defL (defL G a.1) a.2 h ≠ none := fun h hh => (le6.isIn h).mp (by rw [ehs]; exact List.mem_map_of_mem hh)
      revert fin le6 eo en hmem hin
      generalize defL (defL G a.1) a.2 = G2
      intro le6 eo en fin hmem hin
      have S7 := S6.trans TZ
      have le7 := le6.same TZ
      have eC7 := TZ _ _ eC6
      have eZ : (upd H6 Z (.lst zs)) Z = some (.lst zs) := upd_same
      have dZ7 := dZ.same TZ
      have to7 := TZ _ _ to
      have tn7 := TZ _ _ tn
      refine ⟨Z, rfl, ⟨_, SqL.of upd_same⟩, ?_⟩
      revert S7 le7 eC7 eZ dZ7 to7 tn7
      generalize (upd H6 Z (.lst zs)) = H7
      intro S7 le7 eC7 eZ dZ7 to7 tn7
      have zsl : zs.length = hs.length := by rw [dZ7.length, List.length_map]
      refine for_list (K := K) (a := Z) (xs := zs) (fun j σ H8 => (∃ v6, σ = [some (.ref t), some (.ref dA), some (.ref x0), some (.ref y0), some (.ref qo), some (.ref qn), v6]) ∧ Same H H8 ∧ H8 C = some (.lst xs) ∧ H8 Z = some (.lst zs) ∧ DtsIs H8 zs (hs.map hD) ∧ two H8 qo o ∧ two H8 qn n ∧ ∃ kvs, LeOk P w H8 dA kvs (relS G2 o n (hs.take j)))
        ⟨⟨_, rfl⟩, S7, eC7, eZ, dZ7, to7, tn7, kvs2, by
          have : relS G2 o n (hs.take 0) = G2 := funext fun k => by
            unfold relS
            rw [List.take_zero, if_neg (fun c => nomatch c.1)]
          rw [this]; exact le7⟩ (fun j σ H8 _ ⟨_, _, _, e, _⟩ => SqL.of e) ?_ ?_
      · rintro j y σ H8 hy ⟨⟨v6, rfl⟩, S8, eC8, eZ8, dZ8, to8, tn8, kv8, le8⟩
        obtain ⟨q, k, rfl, hk, tq⟩ := th_at dZ8 hy
        have tkj : hs.take (j + 1) = hs.take j ++ [k] := by rw [List.take_add_one, hk]; rfl
        have hkh : k ∈ hs := List.mem_of_getElem? hk
        have kl8 : kv8.length ≤ hs.length := valV_len le8.nd fun e he => by
          obtain ⟨g, hg, e'⟩ := (le8.mem e).mp he
          refine ⟨g, hmem g fun zz => hg ?_, e'⟩
          unfold relS
          rw [if_neg (fun c => by rw [zz] at c; exact nomatch c.2)]
          exact zz
        obtain ⟨gk, egk⟩ : ∃ gk, G2 k = some gk := Option.ne_none_iff_exists'.mp (hin k hkh)
        obtain ⟨vk, evk, nok⟩ : ∃ vk, relS G2 o n (hs.take j) k = some vk ∧ (vk = o → G2 k = some o ∨ vk = n) := by
          unfold relS
          by_cases c : k ∈ hs.take j ∧ G2 k = some o
          · rw [if_pos c]; exact ⟨n, rfl, fun _ => .inr rfl⟩
          · rw [if_neg c]; exact ⟨gk, egk, fun e => .inl (by rw [egk, e])⟩
        obtain ⟨qk, vvk, tvk⟩ := le8.val k vk evk
        refine ⟨_, rfl, _, rfl, dA, q, hD k, kv8, .ref qk, rfl, rfl, two_dt tq, h8 _, le8.dic, vvk, _, rfl, hD vk, hD o, two_dt tvk, two_dt to8, h60 _, ⟨_, rfl⟩, ⟨_, rfl⟩, _, rfl, ?_⟩
        rw [beq_hD]
        by_cases hc : vk = o
        · refine ifD_pos hc ?_
          refine ⟨_, rfl, _, rfl, _, rfl, dA, q, hD k, kv8, rfl, rfl, two_dt tq, h8 _, le8.dic, by omega, fun o' dic' => ?_⟩
          have le9 := le8.put tn8 dic'
          have eq : setL (relS G2 o n (hs.take j)) k n = relS G2 o n (hs.take (j + 1)) := funext fun m => by
            unfold setL relS
            rw [tkj]
            by_cases zm : m = k
            · subst zm
              rw [if_pos rfl]
              by_cases c : G2 m = some o
              · rw [if_pos ⟨List.mem_append_right _ (List.mem_singleton.mpr rfl), c⟩]
              · rw [if_neg (fun c' => c c'.2)]
                rcases nok hc with c' | c'
                · exact absurd c' c
                · -- told already, or new by itself
                  have : relS G2 o n (hs.take j) m = G2 m := by
                    unfold relS
                    rw [if_neg (fun c' => c c'.2)]
                  rw [this] at evk
                  rw [evk, c']
            · rw [if_neg zm]
              by_cases c : m ∈ hs.take j ∧ G2 m = some o
              · rw [if_pos c, if_pos ⟨List.mem_append_left _ c.1, c.2⟩]
              · rw [if_neg c, if_neg (fun c' => by
                  rcases List.mem_append.mp c'.1 with h | h
                  · exact c ⟨h, c'.2⟩
                  · exact zm (List.mem_singleton.mp h))]
          rw [eq] at le9
          obtain ⟨φ, ext⟩ := le8.dic.ext
          have upX : ∀ {c : Addr} {v : HO}, H8 c = some v → (∀ ψ, v ≠ .ext ψ) → (upd H8 dA o') c = some v := fun {c v} hc hv => by
            rw [upd_ne (fun e => by rw [e, ext] at hc; exact hv φ (Option.some.inj hc).symm)]
            exact hc
          exact ⟨⟨_, rfl⟩, same_updN S8 ndA, upX eC8 (fun _ zz => nomatch zz), upX eZ8 (fun _ zz => nomatch zz), dZ8.updX ext, upX to8 (fun _ zz => nomatch zz), upX tn8 (fun _ zz => nomatch zz), _, le9⟩
        · refine ifD_neg hc ⟨⟨_, rfl⟩, S8, eC8, eZ8, dZ8, to8, tn8, kv8, ?_⟩
          have eq : relS G2 o n (hs.take (j + 1)) = relS G2 o n (hs.take j) := funext fun m => by
            unfold relS
            rw [tkj]
            by_cases c : m ∈ hs.take j ∧ G2 m = some o
            · rw [if_pos c, if_pos ⟨List.mem_append_left _ c.1, c.2⟩]
            · rw [if_neg c]
              by_cases zm : m = k ∧ G2 m = some o
              · obtain ⟨rfl, c2⟩ := zm
                have : relS G2 o n (hs.take j) m = G2 m := by
                  unfold relS
                  rw [if_neg c]
                rw [this, c2] at evk
                exact absurd (Option.some.inj evk).symm hc
              · rw [if_neg (fun c' => by
                  rcases List.mem_append.mp c'.1 with h | h
                  · exact c ⟨h, c'.2⟩
                  · exact zm ⟨List.mem_singleton.mp h, c'.2⟩)]
          rw [eq]
          exact le8
      · rintro σ H8 ⟨⟨v6, rfl⟩, S8, eC8, eZ8, dZ8, to8, tn8, kv8, le8⟩
        rw [List.take_of_length_le (by omega)] at le8
        have eq : relS G2 o n hs = rlb G2 o n := funext fun m => by
          unfold relS rlb
          by_cases c : G2 m = some o
          · rw [if_pos c, if_pos ⟨hmem m (by rw [c]; exact Option.some_ne_none _), c⟩]
          · rw [if_neg c, if_neg (fun c' => c c'.2)]
        have kl8 : kv8.length ≤ hs.length := valV_len le8.nd fun e he => by
          obtain ⟨g, hg, e'⟩ := (le8.mem e).mp he
          refine ⟨g, hmem g fun zz => hg ?_, e'⟩
          unfold relS
          rw [if_neg (fun c => by rw [zz] at c; exact nomatch c.2)]
          exact zz
        rw [eq] at le8
        exact ⟨⟨_, _, _, _, _, rfl⟩, S8, eC8, kv8, _, le8, fin, by omega⟩
    · rintro σ H4 ⟨⟨v2, v3, v4, v5, v6, rfl⟩, S4, eC4, kvs, G, le4, gr, kl⟩
      rw [List.take_of_length_le (by omega)] at gr
      exact ⟨_, rfl, z dA kvs G H4 S4 ndA le4 (by omega) gr⟩
end
end K62
namespace K62
open PySem PySem.Spec PyProof.Rows L2 BF
seal L2.PE L2.PA L2.PS L2.PSs L2.PT L2.PW L2.PG L2.PGs L2.PI BF.PTs L2.PO
def cls (hs : List Ho) (G : Ho → Option Ho) (g : Ho) : List Ho := hs.filter fun h => decide (G h = some g)
def sab (ev : Ev) (c : List Ho) : Int := (c.map fun h => ab (sumAt ev h)).sum
def mxr (s : Int) : Int := if s > 1 then s else 1
def lrow (fs bs : List Ln) (hs : List Ho) (G : Ho → Option Ho) (g : Ho) : Rw := ((cls hs G g).headD (0, 0), surR (evW fs bs) (cls hs G g), mxr (sab (evW fs bs) (cls hs G g) / 2))
theorem cls_mem {hs : List Ho} {G : Ho → Option Ho} {g h : Ho} : h ∈ cls hs G g ↔ h ∈ hs ∧ G h = some g := by
  unfold cls
  rw [List.mem_filter, decide_eq_true_eq]
theorem cls_head {hs : List Ho} {G : Ho → Option Ho} {g : Ho} (h : ∃ h ∈ hs, G h = some g) : (cls hs G g)[0]? = some ((cls hs G g).headD (0, 0)) ∧ G ((cls hs G g).headD (0, 0)) = some g ∧ (cls hs G g).headD (0, 0) ∈ hs := by
  obtain ⟨x, hx, e⟩ := h
  have hm : x ∈ cls hs G g := cls_mem.mpr ⟨hx, e⟩
  cases hc : cls hs G g with
  | nil => rw [hc] at hm; cases hm
  | cons y l =>
    have := cls_mem.mp (show y ∈ cls hs G g by rw [hc]; exact List.mem_cons_self ..)
    exact ⟨rfl, this.2, this.1⟩
mutual
theorem DtIs.updG {H : Hp} {a : Addr} {o : HO} (ha : ∀ xs, H a ≠ some (.tup xs)) : ∀ {d : Dt} {v : V}, DtIs H v d → DtIs (upd H a o) v d
  | .int i, _, .int _ => .int i
  | .str x, _, .str _ => .str x
  | .tup ds, _, .tup (a := b) e q => .tup (by
      have : b ≠ a := fun z => ha _ (by rw [← z]; exact e)
      rw [upd_ne this]; exact e) (DtsIs.updG ha q)
theorem DtsIs.updG {H : Hp} {a : Addr} {o : HO} (ha : ∀ xs, H a ≠ some (.tup xs)) : ∀ {ds : List Dt} {vs : List V}, DtsIs H vs ds → DtsIs (upd H a o) vs ds
  | [], _, .nil => .nil
  | d :: ds, _, .cons q t => .cons (DtIs.updG ha q) (DtsIs.updG ha t)
end
theorem RwIs.updF {H : Hp} {R : Addr} {v : V} {r : Rw} {o : HO} {ob : Obj} {u : HO} (h : RwIs H v r) (e : H R = some (.frz ob u)) : RwIs (upd H R o) v r := by
  obtain ⟨a, q, l, ev, ea, t, ⟨vs, el, dl⟩, k⟩ := h
  have nt : ∀ xs, H R ≠ some (.tup xs) := fun xs z => by rw [e] at z; cases z
  refine ⟨a, q, l, ev, by rw [upd_ne (fun z => by rw [z, e] at ea; cases ea)]; exact ea, ?_, ⟨vs, by rw [upd_ne (fun z => by rw [z, e] at el; cases el)]; exact el, DtsIs.updG nt dl⟩, k⟩
  show upd H R o q = _
  rw [upd_ne (fun z => by
    rw [z] at t
    exact nt _ t)]
  exact t
theorem upd_comm {H : Hp} {a b : Addr} {o o' : HO} (ne : a ≠ b) : upd (upd H a o) b o' = upd (upd H b o') a o := funext fun c => by
  by_cases h1 : c = a
  · subst h1
    rw [upd_ne ne, upd_same, upd_same]
  · by_cases h2 : c = b
    · subst h2
      rw [upd_same, upd_ne h1, upd_same]
    · rw [upd_ne h2, upd_ne h1, upd_ne h1, upd_ne h2]
mutual
theorem DtIs.down {H : Hp} {a : Addr} {o : HO} (ho : ∀ xs, o ≠ .tup xs) : ∀ {d : Dt} {v : V}, DtIs (upd H a o) v d → DtIs H v d
  | .int i, _, .int _ => .int i
  | .str x, _, .str _ => .str x
  | .tup ds, _, .tup (a := b) e q => .tup (by
      have : b ≠ a := fun z => by
        rw [z, upd_same] at e
        exact ho _ (Option.some.inj e)
      rw [upd_ne this] at e; exact e) (DtsIs.down ho q)
theorem DtsIs.down {H : Hp} {a : Addr} {o : HO} (ho : ∀ xs, o ≠ .tup xs) : ∀ {ds : List Dt} {vs : List V}, DtsIs (upd H a o) vs ds → DtsIs H vs ds
  | [], _, .nil => .nil
  | d :: ds, _, .cons q t => .cons (DtIs.down ho q) (DtsIs.down ho t)
end
theorem ab_len (h : Ho) : ∀ ev : Ev, (∀ e ∈ ev, ab e.2 ≤ 1) → ab (sumAt ev h) ≤ ev.length
  | [], _ => Int.le_refl _
  | e :: ev, he => by
    have ih := ab_len h ev fun x hx => he x (List.mem_cons_of_mem _ hx)
    have e1 : sumAt (e :: ev) h = (if e.1 = h then e.2 else 0) + sumAt ev h := by simp [sumAt]
    have h1 := he e (List.mem_cons_self ..)
    have h2 := ab_add (if e.1 = h then e.2 else 0) (sumAt ev h)
    have h3 : ab (if e.1 = h then e.2 else 0) ≤ 1 := by
      split
      · exact h1
      · decide
    rw [e1, List.length_cons]
    omega
theorem evL_val {s : Int} {ls : List Ln} : ∀ e ∈ evL s ls, e.2 = s := fun e he => by
  unfold evL at he
  obtain ⟨l, hl, hm⟩ := List.mem_flatten.mp he
  obtain ⟨a, _, rfl⟩ := List.mem_map.mp hl
  simp only [List.mem_cons, List.not_mem_nil, or_false] at hm
  rcases hm with rfl | rfl <;> rfl
theorem ab_bnd {fs bs : List Ln} (lf : fs.length ≤ 70) (lb : bs.length ≤ 70) (h : Ho) : ab (sumAt (evW fs bs) h) ≤ 280 := by
  have := ab_len h (evW fs bs) fun e he => by
    rcases List.mem_append.mp he with he | he
    · rw [evL_val e he]; decide
    · rw [evL_val e he]; decide
  have hl : (evW fs bs).length = 2 * fs.length + 2 * bs.length := by
    unfold evW
    rw [List.length_append, evL_len, evL_len]
  omega
theorem surR_snoc0 {ev : Ev} {c : List Ho} {h : Ho} (h0 : sumAt ev h = 0) : surR ev (c ++ [h]) = surR ev c := by
  unfold surR
  rw [List.filter_append, List.filter_cons, if_neg (by simp [h0]), List.filter_nil, List.append_nil]
theorem surR_snoc1 {ev : Ev} {c : List Ho} {h : Ho} (h0 : sumAt ev h ≠ 0) : surR ev (c ++ [h]) = surR ev c ++ [surD ev h] := by
  unfold surR
  rw [List.filter_append, List.filter_cons, if_pos (by simp [h0]), List.filter_nil, List.map_append]
  rfl
def lab (G : Ho → Option Ho) (h : Ho) : Ho := (G h).getD (0, 0)
def dueEv (G : Ho → Option Ho) (hs : List Ho) : Ap := hs.map fun h => (lab G h, hD h)
theorem dueEv_snoc (G : Ho → Option Ho) (hs : List Ho) (h : Ho) : dueEv G (hs ++ [h]) = dueEv G hs ++ [(lab G h, hD h)] := by simp [dueEv]
theorem dueEv_at {G : Ho → Option Ho} {g : Ho} : ∀ {hs : List Ho}, (∀ h ∈ hs, G h ≠ none) → atH (dueEv G hs) g = (cls hs G g).map hD
  | [], _ => rfl
  | h :: hs, hn => by
    have ih := dueEv_at (G := G) (g := g) (hs := hs) fun x hx => hn x (List.mem_cons_of_mem _ hx)
    obtain ⟨k, ek⟩ := Option.ne_none_iff_exists'.mp (hn h (List.mem_cons_self ..))
    have el : lab G h = k := by unfold lab; rw [ek]; rfl
    unfold atH dueEv cls at *
    rw [List.map_cons, List.filter_cons, List.filter_cons]
    by_cases c : k = g
    · rw [if_pos (by rw [el]; exact decide_eq_true c), if_pos (by rw [ek, c]; exact decide_eq_true rfl), List.map_cons, List.map_cons, ih]
    · rw [if_neg (by rw [el]; exact fun z => c (of_decide_eq_true z)), if_neg (by rw [ek]; exact fun z => c (Option.some.inj (of_decide_eq_true z))), ih]
theorem lrow_heads {fs bs : List Ln} {hs ks : List Ho} {G : Ho → Option Ho} (nd : ks.Nodup) (hk : ∀ g ∈ ks, ∃ h ∈ hs, G h = some g) : (ks.map fun g => (lrow fs bs hs G g).1).Nodup := by
  refine List.pairwise_map.mpr (nd.imp_of_mem fun {a b} ha hb ne e => ne ?_)
  have h1 := (cls_head (hk a ha)).2.1
  have h2 := (cls_head (hk b hb)).2.1
  have e : (cls hs G a).headD (0, 0) = (cls hs G b).headD (0, 0) := e
  rw [e, h2] at h1
  exact (Option.some.inj h1).symm
section
variable {P : Program} {w : World} {K : PySem.W.Frag} {mg : Str → Option Value} {base : Heap}
def spDue : Sp := fun vs H Q _ => ∃ (t F B : Addr) (fs bs : List Ln), vs = [.ref t] ∧ WkIs H t F B fs bs ∧
  ∀ (l : Addr) (ps : List (V × Rw)) (ks hs : List Ho) (G : Ho → Option Ho) H', Same H H' → H' l = some (.lst (ps.map (·.1))) → RwsIs H' ps → (ps.map fun p => hD p.2.1).Pairwise (fun d d' => Dt.blt d' d = false) → (ps.map (·.2)).Perm (ks.map (lrow fs bs hs G)) → ks.Nodup → (∀ g, g ∈ ks ↔ ∃ h ∈ hs, G h = some g) →
    hs.Nodup → (hs.map hD).Pairwise (fun d d' => Dt.blt d' d = false) → (∀ h, h ∈ hs ↔ G h ≠ none) → GrOk (fs ++ bs) (fs ++ bs) G → Q (.ref l) H'
theorem scDue : FnScope ["_law_work_here", "_law_excess", "_law_group", "_law_rows", "_law_hole", "_law_found", "_law_name", "_law_uneven"] ["_law_work_here"] (defScope sDue) := ⟨rfl, rfl, rfl, by decide +kernel, rfl, by decide +kernel, by decide +kernel⟩
theorem ok_due {f fS fG : Addr} {fd fdS fdG : FuncData} (D : Df K mg "_law_due" sDue f fd)
    (DS : Df K mg "_law_surplus" sSurL fS fdS) (bS : Binds K fdS ["_law_work_here"] []) (GS : FnOk P w K mg base CX0 1 fS fdS ["_law_work_here"] (spSurL P w))
    (DG : Df K mg "_law_groups" sGroups fG fdG) (bG : Binds K fdG ["_law_work_here"] []) (GG : FnOk P w K mg base CX0 1 fG fdG ["_law_work_here"] (spGroups P w))
    (hsorted : mg "sorted" = none) (hmax : mg "max" = none) (hsum : mg "sum" = none) (habs : mg "abs" = none) : FnOk P w K mg base CX0 2 f fd ["_law_work_here"] spDue := by
  refine D.F.ok scDue (fun vs H Q E h => ?_) (fun cdv A outer s H vs Q E hr h => ?_)
  · obtain ⟨t, F, B, fs, bs, rfl, _⟩ := h
    rfl
  · obtain ⟨t, F, B, fs, bs, rfl, wk, z⟩ := h
    have hr1 : Room 1 _ := hr.mono (by decide)
    refine ⟨_, (pss_cons (ps_set (i := 1) scDue.nd rfl (Or.inr rfl) (pec GS hr rfl DS.m DS.F.kp bS .nil pass0 (pac (pv 0) pa_nil)))
      (pss_cons (ps_set (i := 2) scDue.nd rfl (Or.inl rfl) (pec GG hr rfl DG.m DG.F.kp bG .nil pass0 (pac (pv 0) pa_nil)))
      (pss_cons (ps_set (i := 3) scDue.nd rfl (Or.inl rfl) pe_dnewD)
      (pss_cons (ps_for PassesOwn.never rfl (pi_list (pe_callB (call_sortedD hr1) (by rfl) hsorted boot_sorted (pac (pv 2) pa_nil))) (pg_name (i := 4) scDue.nd rfl (Or.inl rfl)) (pss_one (ps_expr (pe_bm PySem.F.plainAttrs_list PySem.F.slot_list_append PySem.F.type_list_append mt_append (pe_bmD PySem.F.slot_dict_setdefault PySem.F.type_dict_setdefault (mt_setDefR hr1) (pv 3) (pac (pe_dgetD hr1 (pv 2) (pv 4) (fun _ _ => rfl)) (pac (pe_lst pa_nil) pa_nil))) (pac (pv 4) pa_nil)))))
      (pss_cons (ps_set (i := 5) scDue.nd rfl (Or.inl rfl) (pe_lst pa_nil))
      (pss_cons (ps_forD PassesOwn.never rfl (pv 3) (pg_name (i := 6) scDue.nd rfl (Or.inl rfl)) (pss_cons (ps_setComp (k := 7) (tt := tTest (tOp rNe (tDGetD P w (tVar 1) (tVar 0)) (tC (.int 0)))) (te := tTup (tCons (tVar 0) (tCons (tDGetD P w (tVar 1) (tVar 0)) tNil))) (N' := ["_law_hole", "_law_excess"]) (idx := [none, some 1]) scDue.nd rfl (Or.inl rfl) (Or.inr rfl) rfl (compOk_of (by kernel_rfl)) (by kernel_rfl) rfl
            (pi_list (pe_dgetF hr1 (pv 3) (pv 6) (fun _ _ => rfl)))
            (fun _ _ _ _ _ => pg_name (i := 0) (show (["_law_hole", "_law_excess"] : List Str).Nodup by decide +kernel) rfl (Or.inl rfl))
            (fun _ _ _ _ _ => pts_one (pt_cmpR op_ne (pe_dgetD hr1 (pv 1) (pv 0) (fun _ _ => rfl)) pe_int (nomark _)))
            (fun _ _ _ _ _ => pe_tup (pac (pv 0) (pac (pe_dgetD hr1 (pv 1) (pv 0) (fun _ _ => rfl)) pa_nil))))
      (pss_one (ps_expr (pe_bm PySem.F.plainAttrs_list PySem.F.slot_list_append PySem.F.type_list_append mt_append (pv 5) (pac (pe_tup (pac (pe_ix ix_list (pe_dgetF hr1 (pv 3) (pv 6) (fun _ _ => rfl)) pe_int (fun _ _ => rfl)) (pac (pv 7) (pac (pe_callB (call_max2 rfl) (by rfl) hmax boot_max (pac (pe_int) (pac (pe_op op_fdiv (pe_callB (call_sumI rfl) (by rfl) hsum boot_sum (pac (pe_comp (N' := ["_law_one"]) (idx := [none]) (compOk_of (by kernel_rfl)) (by kernel_rfl) rfl (pi_list (pv 7))
              (fun _ _ _ _ _ => pg_name (i := 0) (show (["_law_one"] : List Str).Nodup by decide +kernel) rfl (Or.inl rfl)) (fun _ _ _ _ _ => pts_nil)
              (te := tCB (fun xs H Q => ∃ i, xs = [.int i] ∧ Q (.int (if i < 0 then -i else i)) H) (tCons (tOp (rIxT K) (tVar 0) (tC (.int 1))) tNil))
              (fun _ _ _ _ _ => pe_callB call_abs (by rfl) habs boot_abs (pac (pe_ix ix_tup (pv 0) pe_int (fun _ _ => rfl)) pa_nil))) pa_nil)) pe_int) pa_nil))) pa_nil)))) pa_nil))))))
      (pss_one (ps_ret (pe_callB (call_sortedRw hr1) (by rfl) hsorted boot_sorted (pac (pv 5) pa_nil)))))))))), ?_⟩
    have lf := wk.lf
    have lb := wk.lb
    refine ⟨_, rfl, t, F, B, fs, bs, rfl, wk, fun dE kvE H1 S1 nE dicE dsE => ?_⟩
    refine ⟨_, rfl, t, F, B, fs, bs, rfl, wk.same S1, fun dG kvG G H2 S2 nG leG kgl gr => ?_⟩
    refine fun dR o0 ndR dic0 => ?_
    have T3 := same_upd (o := o0) ndR
    obtain ⟨φ0, ext0⟩ := dic0.ext
    have eo0 : o0 = .ext φ0 := by rw [upd_same] at ext0; exact Option.some.inj ext0
    have leG3 := leG.same T3
    refine ⟨_, rfl, dG, kvG, "int", rfl, leG3.dic, fun p hp => ?_, fun p hp p' hp' => ?_, fun C cv es nC dC pe srt => ?_⟩
    · obtain ⟨g, _, e⟩ := (leG.mem p.1).mp (List.mem_map.mpr ⟨p, hp, rfl⟩)
      exact ⟨_, _, e.symm, rfl⟩
    · obtain ⟨g, _, e⟩ := (leG.mem p.1).mp (List.mem_map.mpr ⟨p, hp, rfl⟩)
      obtain ⟨g', _, e'⟩ := (leG.mem p'.1).mp (List.mem_map.mpr ⟨p', hp', rfl⟩)
      rw [← e, ← e']
      exact hD_like _ _
    obtain ⟨hs, rfl⟩ := as_hD (es := es) fun d hd => by
      obtain ⟨g, _, e⟩ := (leG.mem d).mp (pe.mem_iff.mp hd)
      exact ⟨g, e.symm⟩
    have hnd : hs.Nodup := nodup_of_map (pe.nodup_iff.mpr leG.nd)
    have hmem : ∀ h, h ∈ hs ↔ G h ≠ none := fun h => by
      rw [← leG.isIn h]
      constructor
      · exact fun hh => pe.mem_iff.mp (List.mem_map.mpr ⟨h, hh, rfl⟩)
      · intro hh
        obtain ⟨g, hg, e⟩ := List.mem_map.mp (pe.mem_iff.mpr hh)
        exact hD_inj e ▸ hg
    have hsl : hs.length ≤ 280 := by
      have := pe.length_eq
      rw [List.length_map, List.length_map] at this
      omega
    have dC2 : DtsIs H2 cv (hs.map hD) := DtsIs.down (by rw [eo0]; exact fun _ zz => nomatch zz) dC
    have cvl : cv.length = hs.length := by rw [dC.length, List.length_map]
    have TC := same_upd (o := HO.lst cv) nC
    have S4 : Same H2 (upd (upd H2 dR o0) C (.lst cv)) := T3.trans TC
    have eC : (upd (upd H2 dR o0) C (.lst cv)) C = some (.lst cv) := upd_same
    have dic4 := dic0.same TC
    refine ⟨C, rfl, ⟨_, SqL.of upd_same⟩, ?_⟩
    revert S4 eC dic4
    generalize (upd (upd H2 dR o0) C (.lst cv)) = H4
    intro S4 eC dic4
    refine for_list (K := K) (a := C) (xs := cv) (fun i σ H4 => (∃ v4 v5 v6 v7, σ = [some (.ref t), some (.ref dE), some (.ref dG), some (.ref dR), v4, v5, v6, v7]) ∧ Same H2 H4 ∧ H4 C = some (.lst cv) ∧ ∃ ks kvs, DoL P w H2 H4 dR ks (dueEv G (hs.take i)) kvs ∧ (∀ g, g ∈ ks ↔ ∃ h ∈ hs.take i, G h = some g) ∧ kvs.length ≤ i ∧ ∀ h r, valV kvs (hD h) = some (.ref r) → r ≠ C)
      ⟨⟨_, _, _, _, rfl⟩, S4, eC, [], [], by rw [List.take_zero]; exact DoL.start dic4, by rw [List.take_zero]; exact fun g => ⟨fun zz => (nomatch zz), fun ⟨_, zz, _⟩ => (nomatch zz)⟩, Nat.le_refl _, fun h r e => (nomatch e)⟩ (fun i σ H4 _ ⟨_, _, e, _⟩ => SqL.of e) ?_ ?_
    · rintro i x σ H4 hx ⟨⟨v4, v5, v6, v7, rfl⟩, S4, eC4, ks, kvs, D4, mem4, kl, nc4⟩
      obtain ⟨q, h, rfl, hh, tq⟩ := th_at dC2 hx
      have hi : i < hs.length := (List.getElem?_eq_some_iff.mp hh).1
      have tk : hs.take (i + 1) = hs.take i ++ [h] := by rw [List.take_add_one, hh]; rfl
      obtain ⟨g, hg⟩ := Option.ne_none_iff_exists'.mp ((hmem h).mp (List.mem_of_getElem? hh))
      have el : lab G h = g := by unfold lab; rw [hg]; rfl
      obtain ⟨qg, vg, tg⟩ := leG.val h g hg
      refine ⟨_, rfl, ⟨dR, kvs, rfl, D4.dic⟩, _, rfl, _, rfl, dG, q, hD h, kvG, .ref qg, rfl, rfl, two_dt (S4 _ _ tq), h8 _, (leG.same S4).dic, vg, szr rfl, fun L nL => ?_⟩
      have T := same_upd (o := HO.lst []) nL
      refine ⟨dR, qg, hD g, kvs, .ref L, rfl, rfl, two_dt (T _ _ (S4 _ _ tg)), h8 _, D4.dic.same T, by omega, fun u H5 sd => ?_⟩
      obtain ⟨r', ks', kvs', ys, rfl, D5, S5, hk', e5, n5, er5, yl, kl5, cc⟩ := D4.setDef S4 ndR nL sd
      obtain ⟨eC5, nc5⟩ := cc C cv eC4 nc4
      have yl2 : ys.length ≤ 300 := by
        unfold dueEv at yl
        rw [List.length_map, List.length_take] at yl
        omega
      refine ⟨.inl ⟨rfl, _, SqL.of er5⟩, _, rfl, r', ys, _, rfl, rfl, er5, small1000 (by omega), ?_⟩
      refine ⟨⟨_, _, _, _, rfl⟩, same_updN S5 n5, by rw [upd_ne (fun e => nc5 _ _ e5 e.symm)]; exact eC5, ks', kvs', ?_, fun k => ?_, by omega, nc5⟩
      · rw [tk, dueEv_snoc, el]
        exact D5.app e5 er5 (two_dt (S5 _ _ tq))
      · rw [hk', mem4, tk]
        constructor
        · rintro (rfl | ⟨x, hx, e⟩)
          · exact ⟨h, List.mem_append_right _ (List.mem_singleton.mpr rfl), hg⟩
          · exact ⟨x, List.mem_append_left _ hx, e⟩
        · rintro ⟨x, hx, e⟩
          rcases List.mem_append.mp hx with hx | hx
          · exact .inr ⟨x, hx, e⟩
          · rw [List.mem_singleton.mp hx, hg] at e
            exact .inl (Option.some.inj e).symm
    · rintro σ Hb ⟨⟨v4, v5, v6, v7, rfl⟩, Sb, eCb, ks, kvs, Db, memb, kl, _⟩
      rw [List.take_of_length_le (by omega)] at Db memb
      refine ⟨szr rfl, fun L nL => ?_⟩
      have TL := same_upd (o := HO.lst []) nL
      refine ⟨_, rfl, dR, kvs, rfl, Db.dic.same TL, fun zs ob φ dz ea => ?_⟩
      have neL : L ≠ dR := fun e => by
        obtain ⟨ψ, eψ⟩ := Db.dic.ext
        rw [e, eψ] at nL
        cases nL
      have eab : Hb dR = some (.ext φ) := by rw [upd_ne (Ne.symm neL)] at ea; exact ea
      obtain ⟨gs, egs⟩ := as_hD (es := kvs.map (·.1)) fun d hd => by
        obtain ⟨g, _, e⟩ := (Db.mem d).mp hd
        exact ⟨g, e.symm⟩
      rw [egs] at dz
      have gnd : gs.Nodup := nodup_of_map (by rw [← egs]; exact Db.nd)
      have gmem : ∀ g, g ∈ gs ↔ ∃ h ∈ hs, G h = some g := fun g => by
        rw [← memb]
        constructor
        · intro hg
          obtain ⟨k, hk, e⟩ := (Db.mem (hD g)).mp (by rw [egs]; exact List.mem_map_of_mem hg)
          exact hD_inj e ▸ hk
        · intro hg
          have := (Db.mem (hD g)).mpr ⟨g, hg, rfl⟩
          rw [egs] at this
          obtain ⟨k, hk, e⟩ := List.mem_map.mp this
          exact hD_inj e ▸ hk
      have gsl : gs.length ≤ 280 := by
        have := congrArg List.length egs
        rw [List.length_map, List.length_map] at this
        omega
      have dzb : DtsIs Hb zs (gs.map hD) := DtsIs.down (o := .lst []) (fun _ zz => nomatch zz) dz
      have zsl : zs.length = gs.length := by rw [dz.length, List.length_map]
      rw [upd_comm neL]
      have neE : dE ≠ dR := fun e => by
        obtain ⟨ψ, eψ⟩ := (dicE.same S2).ext
        rw [e, ndR] at eψ
        cases eψ
      have frz : FrzV P w (upd Hb dR (.frz ob (.ext φ))) dR kvs := FrzV.of Db.dic eab ob
      have dicEf : DicV P w (upd Hb dR (.frz ob (.ext φ))) dE kvE := dicv_updX ((dicE.same S2).same Sb) eab neE
      have dzf := dzb.updX (o := .frz ob (.ext φ)) eab
      have rowsf : ∀ g ∈ gs, ∃ r vs, valV kvs (hD g) = some (.ref r) ∧ (upd Hb dR (.frz ob (.ext φ))) r = some (.lst vs) ∧ DtsIs (upd Hb dR (.frz ob (.ext φ))) vs ((cls hs G g).map hD) := fun g hg => by
        obtain ⟨r, vs, e1, e2, d⟩ := Db.get ((memb g).mpr ((gmem g).mp hg))
        rw [dueEv_at fun h hh => (hmem h).mp hh] at d
        exact ⟨r, vs, e1, by rw [upd_ne (fun e => by rw [e, eab] at e2; cases e2)]; exact e2, d.updX eab⟩
      have eRf : (upd Hb dR (.frz ob (.ext φ))) dR = some (.frz ob (.ext φ)) := upd_same
      have nLf : (upd Hb dR (.frz ob (.ext φ))) L = none := by rw [upd_ne neL]; exact nL
      have S0f : ∀ H', Same (upd Hb dR (.frz ob (.ext φ))) H' → Same H (upd H' dR (.ext φ)) := fun H' s a v ha => by
        have e1 : Hb a = some v := (S1.trans (S2.trans Sb)) a v ha
        by_cases hz : a = dR
        · exact absurd ha (by rw [hz, none_same (S1.trans S2) ndR]; exact fun zz => nomatch zz)
        · rw [upd_ne hz]
          exact s a v (by rw [upd_ne hz]; exact e1)
      revert frz dicEf dzf rowsf eRf nLf S0f
      generalize (upd Hb dR (.frz ob (.ext φ))) = Hf
      intro frz dicEf dzf rowsf eRf nLf S0f
      have TLf := same_upd (o := HO.lst []) nLf
      refine ⟨fun i σ H' => (∃ v4 v6 v7, σ = [some (.ref t), some (.ref dE), some (.ref dG), some (.ref dR), v4, some (.ref L), v6, v7]) ∧ Same Hf H' ∧ ∃ ps : List (V × Rw), H' L = some (.lst (ps.map (·.1))) ∧ ps.map (·.2) = (gs.take i).map (lrow fs bs hs G) ∧ ∀ p ∈ ps, RwM H' L p, ⟨⟨_, _, _, rfl⟩, TLf, [], upd_same, rfl, fun _ h => nomatch h⟩, fun i σ' H' ⟨_, s', _⟩ => s' _ _ eRf, ?_, ?_⟩
      · rintro i x σ H5 hx ⟨⟨v4, v6, v7, rfl⟩, S5, ps, eL5, pse, prw⟩
        obtain ⟨q, g, rfl, hg, tq⟩ := th_at (dzf.same S5) hx
        have hgm : g ∈ gs := List.mem_of_getElem? hg
        have hi : i < gs.length := (List.getElem?_eq_some_iff.mp hg).1
        have psl : ps.length = i := by
          have := congrArg List.length pse
          rw [List.length_map, List.length_map, List.length_take] at this
          omega
        have tkg : gs.take (i + 1) = gs.take i ++ [g] := by rw [List.take_add_one, hg]; rfl
        obtain ⟨r, vs, vr, er, dr⟩ := rowsf g hgm
        have frz5 := frz.same S5
        have er5 := S5 _ _ er
        have dr5 := dr.same S5
        have clen : (cls hs G g).length ≤ 280 := Nat.le_trans (List.length_filter_le _ _) hsl
        have vsl : vs.length = (cls hs G g).length := by rw [dr.length, List.length_map]
        have hd := cls_head ((gmem g).mp hgm)
        have dicE5 := dicEf.same S5
        refine ⟨_, rfl, _, rfl, dR, q, hD g, kvs, .ref r, rfl, rfl, two_dt tq, h8 _, frz5, vr, r, rfl, ⟨_, SqL.of er5⟩, fun M nM => ?_⟩
        have hev : ∀ h ∈ cls hs G g, ∃ e ∈ evW fs bs, e.1 = h := fun h hh => by
          obtain ⟨a, ha, q'⟩ := (gr.mem h).mp ((hmem h).mp (cls_mem.mp hh).1)
          rcases List.mem_append.mp ha with ha | ha
          · obtain ⟨e, he, q2⟩ := (evL_mem (s := 1)).mpr ⟨a, ha, q'⟩
            exact ⟨e, List.mem_append_left _ he, q2⟩
          · obtain ⟨e, he, q2⟩ := (evL_mem (s := -1)).mpr ⟨a, ha, q'⟩
            exact ⟨e, List.mem_append_right _ he, q2⟩
        refine comp_n (J := Itl K r) (n := vs.length) (fun j σ2 H6 => (∃ v0, σ2 = [v0, some (.ref dE)]) ∧ Same H5 H6 ∧ ∃ ys, H6 M = some (.lst ys) ∧ DtsIs H6 ys (surR (evW fs bs) ((cls hs G g).take j))) ?_ ?_ ?_ ?_
        · exact ⟨⟨_, rfl⟩, same_upd nM, [], upd_same, .nil⟩
        · rintro j σ2 H6 hj ⟨⟨v0, rfl⟩, S6, _⟩
          exact ⟨vs, _, SqL.of (S6 _ _ er5), List.getElem?_eq_getElem hj⟩
        · rintro σ2 H6 ⟨⟨v0, rfl⟩, S6, ys, eM, dM⟩
          rw [List.take_of_length_le (by omega)] at dM
          refine ⟨⟨vs, SqL.of (S6 _ _ er5), Nat.le_refl _⟩, ?_⟩
          have eL6 := S6 _ _ eL5
          have er6 := S6 _ _ er5
          have neM : M ≠ L := fun e => by rw [e, eL5] at nM; cases nM
          obtain ⟨q0, eq0, tq0⟩ : ∃ q0, vs[0]? = some (.ref q0) ∧ two H5 q0 ((cls hs G g).headD (0, 0)) := by
            have hl : 0 < vs.length := by
              rw [vsl]
              exact (List.getElem?_eq_some_iff.mp hd.1).1
            obtain ⟨q0, f', e1, e2, t'⟩ := th_at dr5 (i := 0) (v := vs[0]) (List.getElem?_eq_getElem hl)
            rw [hd.1] at e2
            cases e2
            exact ⟨q0, by rw [← e1]; exact List.getElem?_eq_getElem hl, t'⟩
          refine ⟨_, rfl, .inl ⟨rfl, _, SqL.of eL6⟩, _, rfl, _, rfl, dR, q, hD g, kvs, .ref r, rfl, rfl, two_dt (S6 _ _ tq), h8 _, frz5.same S6, vr, r, _, _, .ref q0, rfl, rfl, SqL.of er6, atI_nat (j := 0) eq0, _, rfl, _, rfl, M, rfl, ⟨_, SqL.of eM⟩, fun M2 nM2 => ?_⟩
          have ysl : ys.length = ((cls hs G g).filter fun h => decide (sumAt (evW fs bs) h ≠ 0)).length := by
            rw [dM.length]
            unfold surR
            rw [List.length_map]
          have cfl : ((cls hs G g).filter fun h => decide (sumAt (evW fs bs) h ≠ 0)).length ≤ 280 := Nat.le_trans (List.length_filter_le _ _) clen
          have esum := sum_ab (ev := evW fs bs) (cls hs G g)
          have bnd := ab_bnd (fs := fs) (bs := bs) wk.lf wk.lb
          refine comp_n (J := Itl K M) (n := ys.length) (fun j σ2 H7 => (∃ v0, σ2 = [v0]) ∧ Same H6 H7 ∧ H7 M2 = some (.lst (List.map V.int ((((cls hs G g).filter fun h => decide (sumAt (evW fs bs) h ≠ 0)).take j).map fun h => ab (sumAt (evW fs bs) h))))) ?_ ?_ ?_ ?_
          · exact ⟨⟨_, rfl⟩, same_upd nM2, upd_same⟩
          · rintro j σ2 H7 hj ⟨⟨v0, rfl⟩, S7, _⟩
            exact ⟨ys, _, SqL.of (S7 _ _ eM), List.getElem?_eq_getElem hj⟩
          · rintro σ2 H7 ⟨⟨v0, rfl⟩, S7, eM2⟩
            rw [List.take_of_length_le (by omega)] at eM2
            refine ⟨⟨ys, SqL.of (S7 _ _ eM), Nat.le_refl _⟩, M2, _, rfl, SqL.of eM2, by rw [List.length_map]; omega, fun n hn => ?_, ?_⟩
            · obtain ⟨h, _, rfl⟩ := List.mem_map.mp hn
              have := bnd h
              have := ab_nn (sumAt (evW fs bs) h)
              omega
            · rw [esum]
              refine ⟨_, _, rfl, rfl, ⟨by decide, by decide⟩, _, _, rfl, szr rfl, fun u nu => ?_⟩
              have Tu := same_upd (o := HO.tup [V.ref q0, .ref M, .int (mxr (sab (evW fs bs) (cls hs G g) / 2))]) nu
              have S57 := (S6.trans S7).trans Tu
              have eL7 := S57 _ _ eL5
              have neU : u ≠ L := fun e => by rw [e, (S6.trans S7) _ _ eL5] at nu; cases nu
              refine ⟨L, _, _, rfl, rfl, eL7, small1000 (by rw [List.length_map]; omega), ?_⟩
              have rwu : RwM (upd H7 u (.tup [V.ref q0, .ref M, .int (mxr (sab (evW fs bs) (cls hs G g) / 2))])) L (.ref u, lrow fs bs hs G g) :=
                ⟨u, q0, M, rfl, neU, neM, upd_same, S57 _ _ tq0, ⟨ys, Tu _ _ (S7 _ _ eM), (dM.same S7).same Tu⟩, surR_dp⟩
              refine ⟨⟨_, _, _, rfl⟩, same_updN (S5.trans S57) nLf, ps ++ [(.ref u, lrow fs bs hs G g)], ?_, ?_, fun p hp => ?_⟩
              · rw [upd_same, List.map_append]
                rfl
              · rw [List.map_append, pse, tkg, List.map_append]
                rfl
              · rcases List.mem_append.mp hp with hp | hp
                · exact ((prw p hp).same S57).upd eL7
                · rw [List.mem_singleton.mp hp]
                  exact rwu.upd eL7
          · rintro j σ2 H7 hj ⟨⟨v0, rfl⟩, S7, eM2⟩ y H8 ⟨rfl, hy⟩
            have hy := hy ys (SqL.of (S7 _ _ eM))
            have dM' : DtsIs H6 ys (((cls hs G g).filter fun h => decide (sumAt (evW fs bs) h ≠ 0)).map (surD (evW fs bs))) := dM
            revert dM' eM2 ysl cfl
            generalize ((cls hs G g).filter fun h => decide (sumAt (evW fs bs) h ≠ 0)) = cf
            intro ysl cfl eM2 dM'
            obtain ⟨d, ed, dy⟩ := (dM'.same S7).at j y hy
            rw [List.getElem?_map] at ed
            cases hg' : cf[j]? with
            | none => rw [hg'] at ed; cases ed
            | some h =>
              rw [hg'] at ed
              cases ed
              have tk' : cf.take (j + 1) = cf.take j ++ [h] := by rw [List.take_add_one, hg']; rfl
              obtain ⟨r', u, rfl, er'⟩ : ∃ r u, y = .ref r ∧ H8 r = some (.tup [u, .int (sumAt (evW fs bs) h)]) := by
                unfold surD at dy
                cases dy with
                | tup e h1 =>
                  cases h1 with
                  | cons q1 t1 =>
                    cases t1 with
                    | cons q2 t2 =>
                      cases t2
                      cases q2
                      exact ⟨_, _, rfl, e⟩
              refine ⟨_, rfl, r', _, _, _, rfl, rfl, SqT.of er', rfl, _, rfl, _, eM2, ?_, ⟨_, rfl⟩, same_updN S7 nM2, ?_⟩
              · rw [List.length_map, List.length_map, List.length_take]
                exact small1000 (by omega)
              · rw [upd_same, tk', List.map_append, List.map_append]
                rfl
        · rintro j σ2 H6 hj ⟨⟨v0, rfl⟩, S6, ys, eM, dM⟩ x H7 ⟨rfl, hx'⟩
          have hx' := hx' vs (SqL.of (S6 _ _ er5))
          obtain ⟨qh, h, rfl, hh, th⟩ := th_at (dr5.same S6) hx'
          have hhm : h ∈ cls hs G g := List.mem_of_getElem? hh
          have hv := dsE.val h (hev h hhm)
          have dic6 := dicE5.same S6
          have dh : DtIs _ (.ref qh) (hD h) := two_dt th
          have tk : (cls hs G g).take (j + 1) = (cls hs G g).take j ++ [h] := by rw [List.take_add_one, hh]; rfl
          have ysl : ys.length ≤ 280 := by
            rw [dM.length]
            unfold surR
            rw [List.length_map]
            refine Nat.le_trans (List.length_filter_le ..) ?_
            rw [List.length_take]
            omega
          refine ⟨_, rfl, _, rfl, dE, qh, hD h, kvE, _, rfl, rfl, dh, h8 _, dic6, hv, rfl, _, rfl, ?_⟩
          by_cases h0 : sumAt (evW fs bs) h = 0
          · refine ifB_neg (by rw [h0]; rfl) ⟨⟨_, rfl⟩, S6, ys, eM, ?_⟩
            rw [tk, surR_snoc0 h0]
            exact dM
          · refine ifB_pos (by simp [h0]) ?_
            refine ⟨_, rfl, _, rfl, _, rfl, dE, qh, hD h, kvE, _, rfl, rfl, dh, h8 _, dic6, hv, szr rfl, fun tt nt => ?_⟩
            have Tt := same_upd (o := HO.tup [V.ref qh, .int (sumAt (evW fs bs) h)]) nt
            have eM5 := Tt _ _ eM
            refine ⟨ys, eM5, small1000 (by omega), ⟨_, rfl⟩, same_updN (S6.trans Tt) nM, _, upd_same, ?_⟩
            rw [tk, surR_snoc1 h0]
            exact ((dM.same Tt).updL eM5).snoc ((DtIs.tup upd_same (.cons (dh.same Tt) (.cons (.int _) .nil)) : DtIs _ (.ref tt) (surD (evW fs bs) h)).updL eM5)
      · rintro σ H5 ⟨⟨v4, v6, v7, rfl⟩, S5, ps, eL5, pse, prw⟩
        have eR5 := S5 _ _ eRf
        have eL6 : (upd H5 dR (.ext φ)) L = some (.lst (ps.map (·.1))) := by rw [upd_ne neL]; exact eL5
        have nR5 : Same H (upd H5 dR (.ext φ)) := S0f H5 S5
        rw [List.take_of_length_le (by omega)] at pse
        have rw6 : RwsIs (upd H5 dR (.ext φ)) ps := fun p hp => RwIs.updF (prw p hp).is eR5
        refine ⟨_, rfl, L, ps, rfl, SqL.of eL6, rw6, ?_, fun l ps' nl pp srt' => ?_⟩
        · have : (ps.map fun p => p.2.1) = (ps.map (·.2)).map fun r => r.1 := by rw [List.map_map]; rfl
          rw [this, pse, List.map_map]
          exact lrow_heads gnd fun g hg => (gmem g).mp hg
        · have Tl := same_upd (o := HO.lst (ps'.map (·.1))) nl
          refine z l ps' gs hs G _ (nR5.trans Tl) upd_same (fun p hp => (rw6 p (pp.mem_iff.mp hp)).same Tl) srt' ?_ gnd gmem hnd srt hmem gr
          rw [← pse]
          exact pp.map _
end
end K62
namespace K62
open PySem PySem.Spec PyProof.Rows L2 BF
def rowOf (fs bs : List Ln) (hs : List Ho) (L : Ho → Option Ho) (f : Ho) : Rw := (f, surR (evW fs bs) (cls hs L f), mxr (sab (evW fs bs) (cls hs L f) / 2))
theorem map_hD_inj : ∀ {l m : List Ho}, l.map hD = m.map hD → l = m
  | [], [], _ => rfl
  | [], _ :: _, e => by simp at e
  | _ :: _, [], e => by simp at e
  | a :: l, b :: m, e => by
    rw [List.map_cons, List.map_cons] at e
    injection e with e1 e2
    rw [hD_inj e1, map_hD_inj e2]
theorem rise_hs {l m : List Ho} (n1 : l.Nodup) (n2 : m.Nodup) (mem : ∀ h, h ∈ l ↔ h ∈ m) (s1 : (l.map hD).Pairwise (fun d d' => Dt.blt d' d = false)) (s2 : (m.map hD).Pairwise (fun d d' => Dt.blt d' d = false)) : l = m :=
  map_hD_inj (rise_eq (((List.perm_ext_iff_of_nodup n1 n2).mpr mem).map hD) s1 s2)
theorem surR_congr {ev ev' : Ev} {c : List Ho} (h : ∀ x ∈ c, sumAt ev x = sumAt ev' x) : surR ev c = surR ev' c := by
  induction c with
  | nil => rfl
  | cons x c ih =>
    have ih := ih fun y hy => h y (List.mem_cons_of_mem _ hy)
    have hx := h x (List.mem_cons_self ..)
    unfold surR at *
    rw [List.filter_cons, List.filter_cons, hx]
    split
    · rw [List.map_cons, List.map_cons, ih]
      unfold surD
      rw [hx]
    · exact ih
theorem sab_congr {ev ev' : Ev} {c : List Ho} (h : ∀ x ∈ c, sumAt ev x = sumAt ev' x) : sab ev c = sab ev' c := by
  unfold sab
  congr 1
  exact List.map_congr_left fun x hx => by rw [h x hx]
theorem sum_inC {L : Ho → Option Ho} {f h : Ho} (hL : L h = some f) (s : Int) : ∀ {ls : List Ln}, (∀ a ∈ ls, L a.1 = L a.2) → sumAt (evL s (inC L f ls)) h = sumAt (evL s ls) h
  | [], _ => rfl
  | a :: ls, cl => by
    have ih := sum_inC hL s (ls := ls) fun b hb => cl b (List.mem_cons_of_mem _ hb)
    have ha := cl a (List.mem_cons_self ..)
    have e : ∀ ls, evL s (a :: ls) = [(a.1, s), (a.2, s)] ++ evL s ls := fun ls => by simp [evL]
    unfold inC at *
    rw [List.filter_cons]
    by_cases c : L a.1 = some f
    · rw [if_pos (decide_eq_true c), e, e, sumAt_app, sumAt_app, ih]
    · rw [if_neg (fun z => c (of_decide_eq_true z)), e, sumAt_app, ih]
      have n1 : a.1 ≠ h := fun z => c (by rw [z]; exact hL)
      have n2 : a.2 ≠ h := fun z => c (by rw [ha, z]; exact hL)
      have : sumAt [(a.1, s), (a.2, s)] h = 0 := by simp [sumAt, n1, n2]
      rw [this]
      omega
theorem mx_eq (s : Int) : mx1 s = mxr s := by
  unfold mx1 mxr
  split <;> split <;> omega
section
variable {fs bs : List Ln} {L G : Ho → Option Ho} {hs fr ks : List Ho}
theorem gl_iff (wh : Whole (fs ++ bs) L) (ends : ∀ h, L h ≠ none ↔ ∃ a ∈ fs ++ bs, a.1 = h ∨ a.2 = h) (gr : GrOk (fs ++ bs) (fs ++ bs) G) {h k : Ho} (hh : G h ≠ none) (hk : G k ≠ none) : G h = G k ↔ L h = L k := by
  constructor
  · intro e
    obtain ⟨g, eg⟩ := Option.ne_none_iff_exists'.mp hh
    have c : Cn (fs ++ bs) h k := (gr.con h g eg).symm.trans (gr.con k g (by rw [← e]; exact eg))
    obtain ⟨f, ef⟩ := Option.ne_none_iff_exists'.mp ((ends h).mpr ((gr.mem h).mp hh))
    rw [ef, wh.same ef c]
  · intro e
    obtain ⟨f, ef⟩ := Option.ne_none_iff_exists'.mp ((ends h).mpr ((gr.mem h).mp hh))
    have c : Cn (fs ++ bs) h k := (wh.con h f ef).symm.trans (wh.con k f (by rw [← e]; exact ef))
    exact (Cn.stay (S := fun x => G x = G h) (fun a ha => by rw [gr.cl a ha]) c rfl).symm
variable (wh : Whole (fs ++ bs) L) (ends : ∀ h, L h ≠ none ↔ ∃ a ∈ fs ++ bs, a.1 = h ∨ a.2 = h) (lst : ∀ h g, L h = some g → Dt.blt (hD h) (hD g) = false)
include wh ends
theorem line_same {a : Ln} (ha : a ∈ fs ++ bs) : L a.1 = L a.2 := by
  obtain ⟨f, ef⟩ := Option.ne_none_iff_exists'.mp ((ends a.1).mpr ⟨a, ha, .inl rfl⟩)
  rw [ef, wh.cl a.1 f ef a.2 ⟨a, ha, .inl ⟨rfl, rfl⟩⟩]
theorem prow_is (hmem : ∀ h, h ∈ hs ↔ L h ≠ none) (hnd : hs.Nodup) (srt : (hs.map hD).Pairwise (fun d d' => Dt.blt d' d = false)) {f : Ho} {r : Rw} (pr : PRow L fs bs f r) : r = rowOf fs bs hs L f := by
  obtain ⟨h1, h2, c, cs, cn, cm, h3⟩ := pr
  have evm : ∀ h, (∃ e ∈ evW (inC L f fs) (inC L f bs), e.1 = h) ↔ L h = some f := fun h => by
    have key : (∃ e ∈ evW (inC L f fs) (inC L f bs), e.1 = h) ↔ ∃ a ∈ fs ++ bs, L a.1 = some f ∧ (a.1 = h ∨ a.2 = h) := by
      unfold evW
      constructor
      · rintro ⟨e, he, q⟩
        rcases List.mem_append.mp he with he | he
        · obtain ⟨a, ha, q'⟩ := evL_mem.mp ⟨e, he, q⟩
          unfold inC at ha
          obtain ⟨a1, a2⟩ := List.mem_filter.mp ha
          exact ⟨a, List.mem_append_left _ a1, of_decide_eq_true a2, q'⟩
        · obtain ⟨a, ha, q'⟩ := evL_mem.mp ⟨e, he, q⟩
          unfold inC at ha
          obtain ⟨a1, a2⟩ := List.mem_filter.mp ha
          exact ⟨a, List.mem_append_right _ a1, of_decide_eq_true a2, q'⟩
      · rintro ⟨a, ha, c', q⟩
        rcases List.mem_append.mp ha with ha | ha
        · obtain ⟨e, he, q'⟩ := (evL_mem (s := 1) (ls := inC L f fs) (h := h)).mpr ⟨a, List.mem_filter.mpr ⟨ha, decide_eq_true c'⟩, q⟩
          exact ⟨e, List.mem_append_left _ he, q'⟩
        · obtain ⟨e, he, q'⟩ := (evL_mem (s := -1) (ls := inC L f bs) (h := h)).mpr ⟨a, List.mem_filter.mpr ⟨ha, decide_eq_true c'⟩, q⟩
          exact ⟨e, List.mem_append_right _ he, q'⟩
    rw [key]
    constructor
    · rintro ⟨a, ha, c', rfl | rfl⟩
      · exact c'
      · rw [← line_same wh ends ha]; exact c'
    · intro e
      obtain ⟨a, ha, q⟩ := (ends h).mp (by rw [e]; exact Option.some_ne_none _)
      refine ⟨a, ha, ?_, q⟩
      rcases q with rfl | rfl
      · exact e
      · rw [line_same wh ends ha]; exact e
  have ec : c = cls hs L f := by
    refine rise_hs cn (hnd.filter _) (fun h => ?_) cs (List.pairwise_map.mpr ((List.pairwise_map.mp srt).filter _))
    rw [cm, evm, cls_mem, hmem]
    exact ⟨fun e => ⟨by rw [e]; exact Option.some_ne_none _, e⟩, fun q => q.2⟩
  have eqs : ∀ h ∈ c, sumAt (evW (inC L f fs) (inC L f bs)) h = sumAt (evW fs bs) h := fun h hh => by
    have hL : L h = some f := (evm h).mp ((cm h).mp hh)
    unfold evW
    rw [sumAt_app, sumAt_app, sum_inC hL 1 (fun a ha => line_same wh ends (List.mem_append_left _ ha)), sum_inC hL (-1) (fun a ha => line_same wh ends (List.mem_append_right _ ha))]
  obtain ⟨r1, r2, r3⟩ := r
  have h1 : r1 = f := h1
  have h2 : r3 = ndP (inC L f fs) (inC L f bs) := h2
  have h3 : r2 = surR (evW (inC L f fs) (inC L f bs)) c := h3
  have cs' : csum (inC L f fs) (inC L f bs) = sab (evW fs bs) c := by
    rw [← csum_eq cn cm]
    exact sab_congr eqs
  unfold rowOf
  rw [h1, h2, h3, surR_congr eqs]
  unfold ndP
  rw [cs', mx_eq, ec]
include lst
theorem head_own (hmem : ∀ h, h ∈ hs ↔ G h ≠ none) (srt : (hs.map hD).Pairwise (fun d d' => Dt.blt d' d = false)) (gr : GrOk (fs ++ bs) (fs ++ bs) G) {g : Ho} (hg : ∃ h ∈ hs, G h = some g) : L ((cls hs G g).headD (0, 0)) = some ((cls hs G g).headD (0, 0)) := by
  obtain ⟨h0, h1, h2⟩ := cls_head hg
  generalize (cls hs G g).headD (0, 0) = f at *
  have nf : G f ≠ none := (hmem f).mp h2
  obtain ⟨f', ef⟩ := Option.ne_none_iff_exists'.mp ((ends f).mpr ((gr.mem f).mp nf))
  have own := wh.own f f' ef
  have nf' : G f' ≠ none := (gr.mem f').mpr ((ends f').mp (by rw [own]; exact Option.some_ne_none _))
  have gf' : G f' = some g := by rw [← h1]; exact (gl_iff wh ends gr nf' nf).mpr (by rw [own, ef])
  have hin : f' ∈ cls hs G g := cls_mem.mpr ⟨(hmem f').mpr nf', gf'⟩
  have cs : ((cls hs G g).map hD).Pairwise (fun d d' => Dt.blt d' d = false) := List.pairwise_map.mpr ((List.pairwise_map.mp srt).filter _)
  have le1 := lst f f' ef
  revert h0 hin cs
  generalize cls hs G g = c
  intro h0 hin cs
  cases c with
  | nil => cases hin
  | cons y c =>
    have ey : y = f := by simpa using h0
    subst ey
    rcases List.mem_cons.mp hin with e | hin
    · rw [← e, own]
    · have le2 : Dt.blt (hD f') (hD y) = false := (List.pairwise_cons.mp cs).1 _ (List.mem_map_of_mem hin)
      have := hD_inj (Dt.tot _ _ le1 le2)
      rw [ef, ← this]
theorem lrow_is (hmem : ∀ h, h ∈ hs ↔ G h ≠ none) (srt : (hs.map hD).Pairwise (fun d d' => Dt.blt d' d = false)) (gr : GrOk (fs ++ bs) (fs ++ bs) G) {g : Ho} (hg : ∃ h ∈ hs, G h = some g) : lrow fs bs hs G g = rowOf fs bs hs L (lrow fs bs hs G g).1 := by
  have own := head_own wh ends lst hmem srt gr hg
  obtain ⟨h0, h1, h2⟩ := cls_head hg
  have e : cls hs G g = cls hs L ((cls hs G g).headD (0, 0)) := by
    generalize (cls hs G g).headD (0, 0) = f at *
    unfold cls
    refine List.filter_congr fun h hh => ?_
    have := gl_iff wh ends gr ((hmem h).mp hh) ((hmem f).mp h2)
    rw [h1, own] at this
    exact decide_eq_decide.mpr this
  show ((cls hs G g).headD (0, 0), _, _) = rowOf fs bs hs L ((cls hs G g).headD (0, 0))
  unfold rowOf
  rw [← e]
theorem rows_eq (fnd : fr.Nodup) (fsrt : (fr.map hD).Pairwise (fun d d' => Dt.blt d' d = false)) (fmem : ∀ f, f ∈ fr ↔ L f = some f) {ps qs : List Rw} (pl : ps.length = fr.length) (prow : ∀ (i : Nat) r f, ps[i]? = some r → fr[i]? = some f → PRow L fs bs f r)
    (hnd : hs.Nodup) (srt : (hs.map hD).Pairwise (fun d d' => Dt.blt d' d = false)) (hmem : ∀ h, h ∈ hs ↔ G h ≠ none) (gr : GrOk (fs ++ bs) (fs ++ bs) G) (knd : ks.Nodup) (kmem : ∀ g, g ∈ ks ↔ ∃ h ∈ hs, G h = some g)
    (qp : qs.Perm (ks.map (lrow fs bs hs G))) (qs' : (qs.map fun r => hD r.1).Pairwise (fun d d' => Dt.blt d' d = false)) : ps = qs := by
  have hmL : ∀ h, h ∈ hs ↔ L h ≠ none := fun h => by rw [hmem, gr.mem, ends]
  have e1 : ps = fr.map (rowOf fs bs hs L) := by
    refine List.ext_getElem (by rw [List.length_map, pl]) fun i h1 h2 => ?_
    have hi : i < fr.length := by omega
    rw [List.getElem_map]
    exact prow_is wh ends hmL hnd srt (prow i _ _ (List.getElem?_eq_getElem h1) (List.getElem?_eq_getElem hi))
  have eachq : ∀ r ∈ qs, r = rowOf fs bs hs L r.1 ∧ ∃ g, (∃ h ∈ hs, G h = some g) ∧ r = lrow fs bs hs G g := fun r hr => by
    obtain ⟨g, hg, rfl⟩ := List.mem_map.mp (qp.mem_iff.mp hr)
    have := (kmem g).mp hg
    exact ⟨lrow_is wh ends lst hmem srt gr this, g, this, rfl⟩
  have e2 : qs = (qs.map fun r => r.1).map (rowOf fs bs hs L) := by
    rw [List.map_map]
    refine List.ext_getElem (by rw [List.length_map]) fun i h1 h2 => ?_
    rw [List.getElem_map]
    exact (eachq _ (List.getElem_mem h1)).1
  have hn : (qs.map fun r => r.1).Nodup := by
    have := lrow_heads (fs := fs) (bs := bs) (hs := hs) (G := G) knd fun g hg => (kmem g).mp hg
    have p2 := qp.map fun r : Rw => r.1
    rw [List.map_map] at p2
    exact p2.nodup_iff.mpr this
  have heads : fr = qs.map fun r => r.1 := by
    refine rise_hs fnd hn (fun f => ?_) fsrt (by rw [List.map_map]; exact qs')
    rw [fmem]
    constructor
    · intro hf
      have nf : G f ≠ none := (gr.mem f).mpr ((ends f).mp (by rw [hf]; exact Option.some_ne_none _))
      obtain ⟨g, eg⟩ := Option.ne_none_iff_exists'.mp nf
      have hg : ∃ h ∈ hs, G h = some g := ⟨f, (hmem f).mpr nf, eg⟩
      have own := head_own wh ends lst hmem srt gr hg
      obtain ⟨_, h1, h2⟩ := cls_head hg
      have : L ((cls hs G g).headD (0, 0)) = L f := (gl_iff wh ends gr ((hmem _).mp h2) nf).mp (by rw [h1, eg])
      rw [own, hf] at this
      exact List.mem_map.mpr ⟨lrow fs bs hs G g, qp.mem_iff.mpr (List.mem_map_of_mem ((kmem g).mpr hg)), Option.some.inj this⟩
    · intro hf
      obtain ⟨r, hr, rfl⟩ := List.mem_map.mp hf
      obtain ⟨_, g, hg, rfl⟩ := eachq r hr
      exact head_own wh ends lst hmem srt gr hg
  rw [e1, e2, heads]
end
end K62
namespace K62
open PySem PySem.Spec PyProof.Rows L2 BF
seal L2.PE L2.PA L2.PS L2.PSs L2.PT L2.PW L2.PG L2.PGs L2.PI BF.PTs L2.PO
section
variable {P : Program} {w : World} {K : PySem.W.Frag} {mg : Str → Option Value} {base : Heap}
def spLWhole : Sp := fun vs H Q _ => ∃ u k, vs = [u] ∧ Knd H u k ∧ Q (.bl (wholeV u)) H
theorem scLWhole : FnScope ["_law_found"] ["_law_found"] (defScope sLWhole) := ⟨rfl, rfl, rfl, by decide +kernel, rfl, by decide +kernel, by decide +kernel⟩
theorem ok_lwhole {f : Addr} {fd : FuncData} (D : Df K mg "_law_whole" sLWhole f fd) (hisi : mg "isinstance" = none) (hint : mg "int" = none) (hbool : mg "bool" = none) : FnOk P w K mg base CX0 1 f fd ["_law_found"] spLWhole := by
  refine D.F.ok scLWhole (fun vs H Q E h => ?_) (fun cdv A outer s H vs Q E hr h => ?_)
  · obtain ⟨u, k, rfl, _⟩ := h
    rfl
  · obtain ⟨u, k, rfl, kd, q⟩ := h
    refine ⟨_, pss_one (ps_ret (pe_and (pe_callB call_isi (by rfl) hisi boot_isinstance (pa_cons (pv 0) (pa_cons (pe_bltn (v := .ty "int") (by rfl) hint boot_int rfl) pa_nil)))
      (pe_one (pe_not (pe_callB call_isi (by rfl) hisi boot_isinstance (pa_cons (pv 0) (pa_cons (pe_bltn (v := .ty "bool") (by rfl) hbool boot_bool rfl) pa_nil))))))), ?_⟩
    refine ⟨_, rfl, u, k, .int, rfl, kd, _, rfl, ?_⟩
    cases kd with
    | int i => exact iteT ⟨_, rfl, _, _, .bl, rfl, .int i, _, rfl, q⟩
    | bl b => exact iteT ⟨_, rfl, _, _, .bl, rfl, .bl b, _, rfl, q⟩
    | non => exact iteF q
    | str x => exact iteF q
    | lst e => exact iteF q
    | tup e => exact iteF q
    | dic e => exact iteF q
end
end K62
namespace K62
open PySem PySem.Spec PyProof.Rows L2 BF
seal L2.PE L2.PA L2.PS L2.PSs L2.PT L2.PW L2.PG L2.PGs L2.PI BF.PTs L2.PO
structure Blt (mg : Str → Option Value) : Prop where
  isi : mg "isinstance" = none
  int : mg "int" = none
  bool : mg "bool" = none
  list : mg "list" = none
  tuple : mg "tuple" = none
  len : mg "len" = none
  range : mg "range" = none
  sum : mg "sum" = none
  abs : mg "abs" = none
  min : mg "min" = none
  max : mg "max" = none
  sorted : mg "sorted" = none
  set : mg "set" = none
  enum : mg "enumerate" = none
theorem rows2 {H : Hp} {a b : Addr} {ds es : List Dt} (ha : DtL H a ds) (hb : DtL H b es) (h1 : ∀ d ∈ ds, d.dp ≤ 40) (h2 : ∀ d ∈ es, d.dp ≤ 40) : Rows' H [.ref a, .ref b] [ds, es] := by
  refine ⟨rfl, fun i x d hx hd => ?_⟩
  match i, hx, hd with
  | 0, hx, hd =>
    cases hx
    cases hd
    obtain ⟨vs, e, q⟩ := ha
    exact ⟨a, vs, rfl, e, q, h1⟩
  | 1, hx, hd =>
    cases hx
    cases hd
    obtain ⟨vs, e, q⟩ := hb
    exact ⟨b, vs, rfl, e, q, h2⟩
  | i + 2, hx, hd => simp at hx
section
variable {P : Program} {w : World} {K : PySem.W.Frag} {mg : Str → Option Value} {base : Heap}
def spKinds (K : PySem.W.Frag) : Sp := fun vs H Q _ => ∃ (l : Addr) (ps : List (V × Rw)), vs = [.ref l] ∧ H l = some (.lst (ps.map (·.1))) ∧ RwsIs H ps ∧ (∀ p ∈ ps, ∀ d ∈ p.2.2.1, ∃ (h : Ho) (n : Int), d = .tup [hD h, .int n]) ∧ Q (.bl true) H
theorem scKinds : FnScope ["_law_found", "_law_row", "_law_one"] ["_law_found"] (defScope sKinds) := ⟨rfl, rfl, rfl, by decide +kernel, rfl, by decide +kernel, by decide +kernel⟩
theorem ok_kinds {f fW : Addr} {fd fdW : FuncData} (D : Df K mg "_law_kinds" sKinds f fd) (DW : Df K mg "_law_whole" sLWhole fW fdW) (bW : Binds K fdW ["_law_found"] []) (GW : FnOk P w K mg base CX0 1 fW fdW ["_law_found"] spLWhole) (B : Blt mg) : FnOk P w K mg base CX0 2 f fd ["_law_found"] (spKinds K) := by
  refine D.F.ok scKinds (fun vs H Q E h => ?_) (fun cdv A outer s H vs Q E hr h => ?_)
  · obtain ⟨l, ps, rfl, _⟩ := h
    rfl
  · obtain ⟨l, ps, rfl, el, rws, sur, q⟩ := h
    refine ⟨_, (pss_cons (ps_for PassesOwn.never rfl (pi_list (pv 0)) (pg_name (i := 1) scKinds.nd rfl (Or.inl rfl)) (pss_cons (ps_if (PW.pt (pw_or (pt_not (pt_val (pe_callB call_isi (by rfl) B.isi boot_isinstance (pac (pv 1) (pac (pe_bltn (v := .ty "tuple") (by rfl) B.tuple boot_tuple rfl) pa_nil)))))
          (pw_or (pt_cmpR op_ne (pe_callB call_len_seq (by rfl) B.len PySem.boot_len (pac (pv 1) pa_nil)) pe_int (nomark _))
          (pw_or (pt_not (pt_val (pe_callB call_isi (by rfl) B.isi boot_isinstance (pac (pe_ix ix_tup (pv 1) pe_int (fun _ _ => rfl)) (pac (pe_bltn (v := .ty "tuple") (by rfl) B.tuple boot_tuple rfl) pa_nil)))))
          (pw_or1 (pt_not (pt_val (pec GW hr rfl DW.m DW.F.kp bW .nil pass0 (pac (pe_ix ix_tup (pv 1) pe_int (fun _ _ => rfl)) pa_nil))))))))) (pss_one (ps_ret pe_bl)) pss_nil)
      (pss_cons (ps_if (pt_not (pt_val (pe_callB call_isi (by rfl) B.isi boot_isinstance (pac (pe_ix ix_tup (pv 1) pe_int (fun _ _ => rfl)) (pac (pe_bltn (v := .ty "list") (by rfl) B.list PyProof.Rows.boot_list rfl) pa_nil))))) (pss_one (ps_ret pe_bl)) pss_nil)
      (pss_one (ps_for PassesOwn.never rfl (pi_list (pe_ix ix_tup (pv 1) pe_int (fun _ _ => rfl))) (pg_name (i := 2) scKinds.nd rfl (Or.inl rfl)) (pss_one (ps_if (PW.pt (pw_or (pt_not (pt_val (pe_callB call_isi (by rfl) B.isi boot_isinstance (pac (pv 2) (pac (pe_bltn (v := .ty "tuple") (by rfl) B.tuple boot_tuple rfl) pa_nil)))))
              (pw_or (pt_cmpR op_ne (pe_callB call_len_seq (by rfl) B.len PySem.boot_len (pac (pv 2) pa_nil)) pe_int (nomark _))
              (pw_or1 (pt_not (pt_val (pec GW hr rfl DW.m DW.F.kp bW .nil pass0 (pac (pe_ix ix_tup (pv 2) pe_int (fun _ _ => rfl)) pa_nil)))))))) (pss_one (ps_ret pe_bl)) pss_nil)))))))
      (pss_one (ps_ret pe_bl))), ?_⟩
    refine ⟨_, rfl, l, rfl, ⟨_, SqL.of el⟩, ?_⟩
    refine for_list (K := K) (a := l) (xs := ps.map (·.1)) (fun i σ H' => (∃ v1 v2, σ = [some (.ref l), v1, v2]) ∧ H' = H) ⟨⟨_, _, rfl⟩, rfl⟩ (fun i σ H' _ ⟨_, e⟩ => by rw [e]; exact SqL.of el) ?_ ?_
    · rintro i x σ H' hx ⟨⟨v1, v2, rfl⟩, rfl⟩
      rw [List.getElem?_map] at hx
      cases hp : ps[i]? with
      | none => rw [hp] at hx; cases hx
      | some p =>
        rw [hp] at hx
        cases hx
        have hpm := List.mem_of_getElem? hp
        have su := sur p hpm
        obtain ⟨a, qa, la, ev, ea, t, ⟨lv, ela, dl⟩, _⟩ := rws p hpm
        rw [show (fun x : V × Rw => x.1) p = .ref a from ev]
        refine ⟨_, rfl, _, .tup, .tup, rfl, .tup ea, _, rfl, iteF ?_⟩
        refine ⟨_, rfl, a, _, rfl, .inr (SqT.of ea), rfl, _, rfl, iteF ?_⟩
        refine ⟨_, rfl, a, _, _, _, rfl, rfl, SqT.of ea, rfl, _, .tup, .tup, rfl, .tup t, _, rfl, iteF ?_⟩
        refine ⟨_, rfl, a, _, _, _, rfl, rfl, SqT.of ea, rfl, _, _, rfl, .int _, _, rfl, iteF ?_⟩
        refine ⟨_, rfl, a, _, _, _, rfl, rfl, SqT.of ea, rfl, _, .lst, .lst, rfl, .lst ela, _, rfl, iteF ?_⟩
        refine ⟨_, rfl, a, _, _, _, rfl, rfl, SqT.of ea, rfl, la, rfl, ⟨_, SqL.of ela⟩, ?_⟩
        refine for_list (K := K) (a := la) (xs := lv) (fun i σ H'' => (∃ v2, σ = [some (.ref l), some (.ref a), v2]) ∧ H'' = H') ⟨⟨_, rfl⟩, rfl⟩ (fun i σ H'' _ ⟨_, e⟩ => by rw [e]; exact SqL.of ela) ?_ ?_
        · rintro j y σ H'' hy ⟨⟨v2, rfl⟩, rfl⟩
          obtain ⟨d, ed, dy⟩ := dl.at j y hy
          obtain ⟨h, n, rfl⟩ := su d (List.mem_of_getElem? ed)
          obtain ⟨r, u, rfl, er⟩ : ∃ r u, y = .ref r ∧ H'' r = some (.tup [u, .int n]) := by
            cases dy with
            | tup e h1 =>
              cases h1 with
              | cons q1 t1 =>
                cases t1 with
                | cons q2 t2 =>
                  cases t2
                  cases q2
                  exact ⟨_, _, rfl, e⟩
          refine ⟨_, rfl, _, .tup, .tup, rfl, .tup er, _, rfl, iteF ?_⟩
          refine ⟨_, rfl, r, _, rfl, .inr (SqT.of er), rfl, _, rfl, iteF ?_⟩
          refine ⟨_, rfl, r, _, _, _, rfl, rfl, SqT.of er, rfl, _, _, rfl, .int _, _, rfl, iteF ?_⟩
          exact ⟨⟨_, rfl⟩, rfl⟩
        · rintro σ H'' ⟨⟨v2, rfl⟩, rfl⟩
          exact ⟨⟨_, _, rfl⟩, rfl⟩
    · rintro σ H' ⟨⟨v1, v2, rfl⟩, rfl⟩
      exact q
def spLaw (K : PySem.W.Frag) : Sp := fun vs H Q _ => ∃ (a : Addr) (ns : List Int), vs = [.ref a] ∧ SqL K H a (ns.map V.int) ∧ ns.length ≤ 63 ∧ ∀ H', Q (.bl true) H'
theorem scLaw : FnScope ["_law_script", "_law_work_here", "_law_handed", "_law_found"] ["_law_script"] (defScope sLaw) := ⟨rfl, rfl, rfl, by decide +kernel, rfl, by decide +kernel, by decide +kernel⟩
theorem ok_law {f fW fP fK fD : Addr} {fd fdW fdP fdK fdD : FuncData} (D : Df K mg "law" sLaw f fd)
    (DW : Df K mg "_law_work" sWork fW fdW) (bW : Binds K fdW ["_law_script", "_law_most"] []) (GW : FnOk P w K mg base CX0 3 fW fdW ["_law_script", "_law_most"] (spWork K))
    (DP : Df K mg "paper" sPaper fP fdP) (bP : Binds K fdP ["work"] []) (GP : FnOk P w K mg base CX0 4 fP fdP ["work"] spPaper)
    (DK : Df K mg "_law_kinds" sKinds fK fdK) (bK : Binds K fdK ["_law_found"] []) (GK : FnOk P w K mg base CX0 2 fK fdK ["_law_found"] (spKinds K))
    (DD : Df K mg "_law_due" sDue fD fdD) (bD : Binds K fdD ["_law_work_here"] []) (GD : FnOk P w K mg base CX0 2 fD fdD ["_law_work_here"] spDue) (B : Blt mg) :
    FnOk P w K mg base CX0 5 f fd ["_law_script"] (spLaw K) := by
  refine D.F.ok scLaw (fun vs H Q E h => ?_) (fun cdv A outer s H vs Q E hr h => ?_)
  · obtain ⟨a, ns, rfl, _⟩ := h
    rfl
  · obtain ⟨a, ns, rfl, hS, hlen, k⟩ := h
    have hr1 : Room 1 _ := hr.mono (by decide)
    have hr2 : Room 2 _ := hr.mono (by decide)
    have hr3 : Room 3 _ := hr.mono (by decide)
    refine ⟨_, (pss_cons (ps_set (i := 1) scLaw.nd rfl (Or.inl rfl) (pec GW hr3 rfl DW.m DW.F.kp bW .nil pass0 (pac (pv 0) (pac (pe_int) pa_nil))))
      (pss_cons (ps_set (i := 2) scLaw.nd rfl (Or.inl rfl) (pe_tup (pac (pe_callTy call_list_of (by rfl) B.list boot_list (pac (pe_ix ix_tup (pv 1) pe_int (fun _ _ => rfl)) pa_nil)) (pac (pe_callTy call_list_of (by rfl) B.list boot_list (pac (pe_ix ix_tup (pv 1) pe_int (fun _ _ => rfl)) pa_nil)) pa_nil))))
      (pss_cons (ps_set (i := 3) scLaw.nd rfl (Or.inl rfl) (pec GP hr rfl DP.m DP.F.kp bP .nil pass0 (pac (pv 2) pa_nil)))
      (pss_cons (ps_if (PW.pt (pw_or (pt_cmpR (op_neTL hr1) (pv 2) (pv 1) (nomark _)) (pw_or (pt_not (pt_val (pe_callB call_isi (by rfl) B.isi boot_isinstance (pac (pv 3) (pac (pe_bltn (v := .ty "list") (by rfl) B.list PyProof.Rows.boot_list rfl) pa_nil)))))
          (pw_or1 (pt_not (pt_val (pec GK hr2 rfl DK.m DK.F.kp bK .nil pass0 (pac (pv 3) pa_nil)))))))) (pss_one (ps_ret pe_bl)) pss_nil)
      (pss_one (ps_ret (pe_cmpR (op_eqRw hr1) (pv 3) (pec GD hr2 rfl DD.m DD.F.kp bD .nil pass0 (pac (pv 1) pa_nil)) (nomark _)))))))), ?_⟩
    refine ⟨_, rfl, a, ns, 60, rfl, hS, hlen, by decide, fun R F Bk fs bs H1 S1 eR hF hB of ob => ?_⟩
    obtain ⟨fv, eF, dF⟩ := id hF
    obtain ⟨bv, eB, dB⟩ := id hB
    have lf := of.1
    have lb := ob.1
    refine ⟨_, rfl, R, _, _, _, rfl, rfl, SqT.of eR, rfl, F, fv, rfl, .inl (SqL.of eF), fun F2 nF2 => ?_⟩
    have T1 := same_upd (o := HO.lst fv) nF2
    refine ⟨_, rfl, R, _, _, _, rfl, rfl, SqT.of (T1 _ _ eR), rfl, Bk, bv, rfl, .inl (SqL.of (T1 _ _ eB)), fun B2 nB2 => ?_⟩
    have T2 := same_upd (o := HO.lst bv) nB2
    refine ⟨szr rfl, fun t nt => ?_⟩
    have T3 := same_upd (o := HO.tup [V.ref F2, .ref B2]) nt
    have T := (T1.trans T2).trans T3
    have et : (upd (upd (upd H1 F2 (.lst fv)) B2 (.lst bv)) t (.tup [V.ref F2, .ref B2])) t = some (.tup [V.ref F2, .ref B2]) := upd_same
    have hF2 : DtL (upd (upd (upd H1 F2 (.lst fv)) B2 (.lst bv)) t (.tup [V.ref F2, .ref B2])) F2 (fs.map lnD) := ⟨fv, T3 _ _ (T2 _ _ upd_same), dF.same T⟩
    have hB2 : DtL (upd (upd (upd H1 F2 (.lst fv)) B2 (.lst bv)) t (.tup [V.ref F2, .ref B2])) B2 (bs.map lnD) := ⟨bv, T3 _ _ upd_same, dB.same T⟩
    have hF1 := hF.same T
    have hB1 := hB.same T
    have eR1 := T _ _ eR
    revert et hF2 hB2 hF1 hB1 eR1
    generalize (upd (upd (upd H1 F2 (.lst fv)) B2 (.lst bv)) t (.tup [V.ref F2, .ref B2])) = H2
    intro et hF2 hB2 hF1 hB1 eR1
    have lnsdp : ∀ ls : List Ln, ∀ d ∈ ls.map lnD, d.dp ≤ 40 := fun ls d hd => by
      obtain ⟨a, _, rfl⟩ := List.mem_map.mp hd
      rw [lnD_dp]
      decide
    refine ⟨_, rfl, t, F2, B2, fs, bs, rfl, ⟨et, hF2, hB2, by omega, by omega⟩, fun l ps fr L H3 S3 el rws pl prow fll fnd fsrt fmem wh ends lst => ?_⟩
    refine ⟨_, rfl, _, rfl, t, R, _, _, _, rfl, rfl, SqT.of (S3 _ _ et), SqT.of (S3 _ _ eR1), rows2 (hF2.same S3) (hB2.same S3) (lnsdp _) (lnsdp _), rows2 (hF1.same S3) (hB1.same S3) (lnsdp _) (lnsdp _), _, rfl, iteF ?_⟩
    refine ⟨_, rfl, _, .lst, .lst, rfl, .lst el, _, rfl, iteF ?_⟩
    refine ⟨_, rfl, l, ps, rfl, el, rws, fun p hp d hd => ?_, _, rfl, iteF ?_⟩
    · obtain ⟨i, ei⟩ := List.mem_iff_getElem?.mp hp
      have hi : i < fr.length := by
        have := (List.getElem?_eq_some_iff.mp ei).1
        omega
      obtain ⟨c, _, _, _, e⟩ := (prow i p _ ei (List.getElem?_eq_getElem hi)).s
      rw [e] at hd
      obtain ⟨h, _, rfl⟩ := List.mem_map.mp hd
      exact ⟨h, _, rfl⟩
    refine ⟨_, rfl, _, rfl, R, F, Bk, fs, bs, rfl, ⟨S3 _ _ eR1, hF1.same S3, hB1.same S3, by omega, by omega⟩, fun l' qs ks hs G H4 S4 el' rws' srt' qp knd kmem hnd srt hmem gr => ?_⟩
    refine ⟨l, l', ps, qs, rfl, rfl, SqL.of (S4 _ _ el), SqL.of el', rws.same S4, rws', ?_, k _⟩
    refine rows_eq wh ends lst fnd fsrt fmem (by rw [List.length_map]; exact pl) (fun i r f e1 e2 => ?_) hnd srt hmem gr knd kmem qp (by rw [List.map_map]; exact srt')
    rw [List.getElem?_map] at e1
    cases hp : ps[i]? with
    | none => rw [hp] at e1; cases e1
    | some p =>
      rw [hp] at e1
      cases e1
      exact prow i p f hp e2
end
end K62
def PySem.W.Fast.tw12014655388065993699 : Nat := 0
theorem PySem.W.Fast.te12014655388065993699 : PySem.W.Fast.tw12014655388065993699 = 0 := rfl
namespace K62
open PySem PySem.Spec PyProof.Rows L2 BF
theorem ln1 {us : List Value} (h : us.length = 1) : ∃ a0, us = [a0] := match us, h with | [a0], _ => ⟨a0, rfl⟩
theorem ln2 {us : List Value} (h : us.length = 2) : ∃ a0 a1, us = [a0, a1] := match us, h with | [a0, a1], _ => ⟨a0, a1, rfl⟩
theorem ln3 {us : List Value} (h : us.length = 3) : ∃ a0 a1 a2, us = [a0, a1, a2] := match us, h with | [a0, a1, a2], _ => ⟨a0, a1, a2, rfl⟩
theorem all_mk {l : PySem.W.OpenLaw} {w : World} {K : PySem.W.Frag} {h : Heap} {mg : Str → Option Value} {fa fH fS fN fL fA fP fQ fR fC fV fI fF fM fU fY fW fT fG fD fX fZ : Addr} (X : K.In h) (G : h.Ns mainGlobals mg) (hfa : mg "law" = some (.ref fa))
    {odH anH odS anS odN anN odL anL odA anA odP anP odQ anQ odR anR odC anC odV anV odI anI odF anF odM anM odU anU odY anY odW anW odT anT odG anG odD anD odX anX odZ anZ : Option Addr} {slH slS slN slL slA slP slQ slR slC slV slI slF slM slU slY slW slT slG slD slX slZ : Array (Option Value)} {ocH kVH dcH pmH cdH ctH ocS kVS dcS pmS cdS ctS ocN kVN dcN pmN cdN ctN ocL kVL dcL pmL cdL ctL ocA kVA dcA pmA cdA ctA ocP kVP dcP pmP cdP ctP ocQ kVQ dcQ pmQ cdQ ctQ ocR kVR dcR pmR cdR ctR ocC kVC dcC pmC cdC ctC ocV kVV dcV pmV cdV ctV ocI kVI dcI pmI cdI ctI ocF kVF dcF pmF cdF ctF ocM kVM dcM pmM cdM ctM ocU kVU dcU pmU cdU ctU ocY kVY dcY pmY cdY ctY ocW kVW dcW pmW cdW ctW ocT kVT dcT pmT cdT ctT ocG kVG dcG pmG cdG ctG ocD kVD dcD pmD cdD ctD ocX kVX dcX pmX cdX ctX ocZ kVZ dcZ pmZ cdZ ctZ : Value}
    (aH : PySem.W.nsIn K mainGlobals "holes_of" = some (some (.ref fH))) (lH : K.lookup fH = some ⟨ocH, odH, .func (PySem.W.fnOf "holes_of" "holes_of" (defArgs sHolesOf) (defBody sHolesOf) (defScope sHolesOf) .none kVH dcH pmH anH cdH ctH), slH⟩) (cH : PySem.W.codeIn K cdH "holes_of" = true) (kH : PySem.W.keepIn K (.ref fH) = true)
    (aS : PySem.W.nsIn K mainGlobals "surplus" = some (some (.ref fS))) (lS : K.lookup fS = some ⟨ocS, odS, .func (PySem.W.fnOf "surplus" "surplus" (defArgs sSur) (defBody sSur) (defScope sSur) .none kVS dcS pmS anS cdS ctS), slS⟩) (cS : PySem.W.codeIn K cdS "surplus" = true) (kS : PySem.W.keepIn K (.ref fS) = true)
    (aN : PySem.W.nsIn K mainGlobals "neighbours_by_hole" = some (some (.ref fN))) (lN : K.lookup fN = some ⟨ocN, odN, .func (PySem.W.fnOf "neighbours_by_hole" "neighbours_by_hole" (defArgs sNb) (defBody sNb) (defScope sNb) .none kVN dcN pmN anN cdN ctN), slN⟩) (cN : PySem.W.codeIn K cdN "neighbours_by_hole" = true) (kN : PySem.W.keepIn K (.ref fN) = true)
    (aL : PySem.W.nsIn K mainGlobals "least_by_hole" = some (some (.ref fL))) (lL : K.lookup fL = some ⟨ocL, odL, .func (PySem.W.fnOf "least_by_hole" "least_by_hole" (defArgs sLeast) (defBody sLeast) (defScope sLeast) .none kVL dcL pmL anL cdL ctL), slL⟩) (cL : PySem.W.codeIn K cdL "least_by_hole" = true) (kL : PySem.W.keepIn K (.ref fL) = true)
    (aA : PySem.W.nsIn K mainGlobals "lines_at" = some (some (.ref fA))) (lA : K.lookup fA = some ⟨ocA, odA, .func (PySem.W.fnOf "lines_at" "lines_at" (defArgs sAtL) (defBody sAtL) (defScope sAtL) .none kVA dcA pmA anA cdA ctA), slA⟩) (cA : PySem.W.codeIn K cdA "lines_at" = true) (kA : PySem.W.keepIn K (.ref fA) = true)
    (aP : PySem.W.nsIn K mainGlobals "pieces" = some (some (.ref fP))) (lP : K.lookup fP = some ⟨ocP, odP, .func (PySem.W.fnOf "pieces" "pieces" (defArgs sPieces) (defBody sPieces) (defScope sPieces) .none kVP dcP pmP anP cdP ctP), slP⟩) (cP : PySem.W.codeIn K cdP "pieces" = true) (kP : PySem.W.keepIn K (.ref fP) = true)
    (aQ : PySem.W.nsIn K mainGlobals "need_of_piece" = some (some (.ref fQ))) (lQ : K.lookup fQ = some ⟨ocQ, odQ, .func (PySem.W.fnOf "need_of_piece" "need_of_piece" (defArgs sNeedP) (defBody sNeedP) (defScope sNeedP) .none kVQ dcQ pmQ anQ cdQ ctQ), slQ⟩) (cQ : PySem.W.codeIn K cdQ "need_of_piece" = true) (kQ : PySem.W.keepIn K (.ref fQ) = true)
    (aR : PySem.W.nsIn K mainGlobals "paper" = some (some (.ref fR))) (lR : K.lookup fR = some ⟨ocR, odR, .func (PySem.W.fnOf "paper" "paper" (defArgs sPaper) (defBody sPaper) (defScope sPaper) .none kVR dcR pmR anR cdR ctR), slR⟩) (cR : PySem.W.codeIn K cdR "paper" = true) (kR : PySem.W.keepIn K (.ref fR) = true)
    (aC : PySem.W.nsIn K mainGlobals "_law_cell_at" = some (some (.ref fC))) (lC : K.lookup fC = some ⟨ocC, odC, .func (PySem.W.fnOf "_law_cell_at" "_law_cell_at" (defArgs sCell) (defBody sCell) (defScope sCell) .none kVC dcC pmC anC cdC ctC), slC⟩) (cC : PySem.W.codeIn K cdC "_law_cell_at" = true) (kC : PySem.W.keepIn K (.ref fC) = true)
    (aV : PySem.W.nsIn K mainGlobals "_law_whole" = some (some (.ref fV))) (lV : K.lookup fV = some ⟨ocV, odV, .func (PySem.W.fnOf "_law_whole" "_law_whole" (defArgs sLWhole) (defBody sLWhole) (defScope sLWhole) .none kVV dcV pmV anV cdV ctV), slV⟩) (cV : PySem.W.codeIn K cdV "_law_whole" = true) (kV : PySem.W.keepIn K (.ref fV) = true)
    (aI : PySem.W.nsIn K mainGlobals "_law_line" = some (some (.ref fI))) (lI : K.lookup fI = some ⟨ocI, odI, .func (PySem.W.fnOf "_law_line" "_law_line" (defArgs sLine) (defBody sLine) (defScope sLine) .none kVI dcI pmI anI cdI ctI), slI⟩) (cI : PySem.W.codeIn K cdI "_law_line" = true) (kI : PySem.W.keepIn K (.ref fI) = true)
    (aF : PySem.W.nsIn K mainGlobals "_law_far" = some (some (.ref fF))) (lF : K.lookup fF = some ⟨ocF, odF, .func (PySem.W.fnOf "_law_far" "_law_far" (defArgs sFar) (defBody sFar) (defScope sFar) .none kVF dcF pmF anF cdF ctF), slF⟩) (cF : PySem.W.codeIn K cdF "_law_far" = true) (kF : PySem.W.keepIn K (.ref fF) = true)
    (aM : PySem.W.nsIn K mainGlobals "_law_mixed" = some (some (.ref fM))) (lM : K.lookup fM = some ⟨ocM, odM, .func (PySem.W.fnOf "_law_mixed" "_law_mixed" (defArgs sMix) (defBody sMix) (defScope sMix) .none kVM dcM pmM anM cdM ctM), slM⟩) (cM : PySem.W.codeIn K cdM "_law_mixed" = true) (kM : PySem.W.keepIn K (.ref fM) = true)
    (aU : PySem.W.nsIn K mainGlobals "_law_numbers" = some (some (.ref fU))) (lU : K.lookup fU = some ⟨ocU, odU, .func (PySem.W.fnOf "_law_numbers" "_law_numbers" (defArgs sNums) (defBody sNums) (defScope sNums) .none kVU dcU pmU anU cdU ctU), slU⟩) (cU : PySem.W.codeIn K cdU "_law_numbers" = true) (kU : PySem.W.keepIn K (.ref fU) = true)
    (aY : PySem.W.nsIn K mainGlobals "_law_anywhere" = some (some (.ref fY))) (lY : K.lookup fY = some ⟨ocY, odY, .func (PySem.W.fnOf "_law_anywhere" "_law_anywhere" (defArgs sAny) (defBody sAny) (defScope sAny) .none kVY dcY pmY anY cdY ctY), slY⟩) (cY : PySem.W.codeIn K cdY "_law_anywhere" = true) (kY : PySem.W.keepIn K (.ref fY) = true)
    (aW : PySem.W.nsIn K mainGlobals "_law_work" = some (some (.ref fW))) (lW : K.lookup fW = some ⟨ocW, odW, .func (PySem.W.fnOf "_law_work" "_law_work" (defArgs sWork) (defBody sWork) (defScope sWork) .none kVW dcW pmW anW cdW ctW), slW⟩) (cW : PySem.W.codeIn K cdW "_law_work" = true) (kW : PySem.W.keepIn K (.ref fW) = true)
    (aT : PySem.W.nsIn K mainGlobals "_law_surplus" = some (some (.ref fT))) (lT : K.lookup fT = some ⟨ocT, odT, .func (PySem.W.fnOf "_law_surplus" "_law_surplus" (defArgs sSurL) (defBody sSurL) (defScope sSurL) .none kVT dcT pmT anT cdT ctT), slT⟩) (cT : PySem.W.codeIn K cdT "_law_surplus" = true) (kT : PySem.W.keepIn K (.ref fT) = true)
    (aG : PySem.W.nsIn K mainGlobals "_law_groups" = some (some (.ref fG))) (lG : K.lookup fG = some ⟨ocG, odG, .func (PySem.W.fnOf "_law_groups" "_law_groups" (defArgs sGroups) (defBody sGroups) (defScope sGroups) .none kVG dcG pmG anG cdG ctG), slG⟩) (cG : PySem.W.codeIn K cdG "_law_groups" = true) (kG : PySem.W.keepIn K (.ref fG) = true)
    (aD : PySem.W.nsIn K mainGlobals "_law_due" = some (some (.ref fD))) (lD : K.lookup fD = some ⟨ocD, odD, .func (PySem.W.fnOf "_law_due" "_law_due" (defArgs sDue) (defBody sDue) (defScope sDue) .none kVD dcD pmD anD cdD ctD), slD⟩) (cD : PySem.W.codeIn K cdD "_law_due" = true) (kD : PySem.W.keepIn K (.ref fD) = true)
    (aX : PySem.W.nsIn K mainGlobals "_law_kinds" = some (some (.ref fX))) (lX : K.lookup fX = some ⟨ocX, odX, .func (PySem.W.fnOf "_law_kinds" "_law_kinds" (defArgs sKinds) (defBody sKinds) (defScope sKinds) .none kVX dcX pmX anX cdX ctX), slX⟩) (cX : PySem.W.codeIn K cdX "_law_kinds" = true) (kX : PySem.W.keepIn K (.ref fX) = true)
    (aZ : PySem.W.nsIn K mainGlobals "law" = some (some (.ref fZ))) (lZ : K.lookup fZ = some ⟨ocZ, odZ, .func (PySem.W.fnOf "law" "law" (defArgs sLaw) (defBody sLaw) (defScope sLaw) .none kVZ dcZ pmZ anZ cdZ ctZ), slZ⟩) (cZ : PySem.W.codeIn K cdZ "law" = true) (kZ : PySem.W.keepIn K (.ref fZ) = true)
    (z_isi : PySem.W.nsIn K mainGlobals "isinstance" = some none)
    (z_int : PySem.W.nsIn K mainGlobals "int" = some none)
    (z_bool : PySem.W.nsIn K mainGlobals "bool" = some none)
    (z_list : PySem.W.nsIn K mainGlobals "list" = some none)
    (z_tuple : PySem.W.nsIn K mainGlobals "tuple" = some none)
    (z_len : PySem.W.nsIn K mainGlobals "len" = some none)
    (z_range : PySem.W.nsIn K mainGlobals "range" = some none)
    (z_sum : PySem.W.nsIn K mainGlobals "sum" = some none)
    (z_abs : PySem.W.nsIn K mainGlobals "abs" = some none)
    (z_min : PySem.W.nsIn K mainGlobals "min" = some none)
    (z_max : PySem.W.nsIn K mainGlobals "max" = some none)
    (z_sorted : PySem.W.nsIn K mainGlobals "sorted" = some none)
    (z_set : PySem.W.nsIn K mainGlobals "set" = some none)
    (z_enum : PySem.W.nsIn K mainGlobals "enumerate" = some none) :
    ∃ fd : FuncData, (∀ (s : Shared) (v : Value), BindsTo s fd ⟨[v], []⟩ [("_law_script", v)]) ∧ ∀ base : Heap, K.In base → base.Ns mainGlobals mg → FnOk l.prog w K mg base CX0 5 fa fd ["_law_script"] (spLaw K) := by
  have e := hfa.symm.trans (PySem.W.mg_of X G aZ)
  cases e
  have DH := df_mk (st := sHolesOf) X G aH lH cH kH
  have DS := df_mk (st := sSur) X G aS lS cS kS
  have DN := df_mk (st := sNb) X G aN lN cN kN
  have DL := df_mk (st := sLeast) X G aL lL cL kL
  have DA := df_mk (st := sAtL) X G aA lA cA kA
  have DP := df_mk (st := sPieces) X G aP lP cP kP
  have DQ := df_mk (st := sNeedP) X G aQ lQ cQ kQ
  have DR := df_mk (st := sPaper) X G aR lR cR kR
  have DC := df_mk (st := sCell) X G aC lC cC kC
  have DV := df_mk (st := sLWhole) X G aV lV cV kV
  have DI := df_mk (st := sLine) X G aI lI cI kI
  have DF := df_mk (st := sFar) X G aF lF cF kF
  have DM := df_mk (st := sMix) X G aM lM cM kM
  have DU := df_mk (st := sNums) X G aU lU cU kU
  have DY := df_mk (st := sAny) X G aY lY cY kY
  have DW := df_mk (st := sWork) X G aW lW cW kW
  have DT := df_mk (st := sSurL) X G aT lT cT kT
  have DG := df_mk (st := sGroups) X G aG lG cG kG
  have DD := df_mk (st := sDue) X G aD lD cD kD
  have DX := df_mk (st := sKinds) X G aX lX cX kX
  have DZ := df_mk (st := sLaw) X G aZ lZ cZ kZ
  have B : Blt mg := ⟨PySem.W.mg_none_of X G z_isi, PySem.W.mg_none_of X G z_int, PySem.W.mg_none_of X G z_bool, PySem.W.mg_none_of X G z_list, PySem.W.mg_none_of X G z_tuple, PySem.W.mg_none_of X G z_len, PySem.W.mg_none_of X G z_range, PySem.W.mg_none_of X G z_sum, PySem.W.mg_none_of X G z_abs, PySem.W.mg_none_of X G z_min, PySem.W.mg_none_of X G z_max, PySem.W.mg_none_of X G z_sorted, PySem.W.mg_none_of X G z_set, PySem.W.mg_none_of X G z_enum⟩
  have bH := DH.F.binds (ps := ["lines"]) fun _ _ _ _ _ _ us hl => by obtain ⟨_, rfl⟩ := ln1 hl; rfl
  have bS := DS.F.binds (ps := ["work"]) fun _ _ _ _ _ _ us hl => by obtain ⟨_, rfl⟩ := ln1 hl; rfl
  have bN := DN.F.binds (ps := ["work"]) fun _ _ _ _ _ _ us hl => by obtain ⟨_, rfl⟩ := ln1 hl; rfl
  have bL := DL.F.binds (ps := ["work"]) fun _ _ _ _ _ _ us hl => by obtain ⟨_, rfl⟩ := ln1 hl; rfl
  have bA := DA.F.binds (ps := ["lines", "least", "first"]) fun _ _ _ _ _ _ us hl => by obtain ⟨_, _, _, rfl⟩ := ln3 hl; rfl
  have bP := DP.F.binds (ps := ["work"]) fun _ _ _ _ _ _ us hl => by obtain ⟨_, rfl⟩ := ln1 hl; rfl
  have bQ := DQ.F.binds (ps := ["piece"]) fun _ _ _ _ _ _ us hl => by obtain ⟨_, rfl⟩ := ln1 hl; rfl
  have bR := DR.F.binds (ps := ["work"]) fun _ _ _ _ _ _ us hl => by obtain ⟨_, rfl⟩ := ln1 hl; rfl
  have bC := DC.F.binds (ps := ["_law_script", "_law_k"]) fun _ _ _ _ _ _ us hl => by obtain ⟨_, _, rfl⟩ := ln2 hl; rfl
  have bV := DV.F.binds (ps := ["_law_found"]) fun _ _ _ _ _ _ us hl => by obtain ⟨_, rfl⟩ := ln1 hl; rfl
  have bI := DI.F.binds (ps := ["_law_number", "_law_far_here"]) fun _ _ _ _ _ _ us hl => by obtain ⟨_, _, rfl⟩ := ln2 hl; rfl
  have bF := DF.F.binds (ps := ["_law_script"]) fun _ _ _ _ _ _ us hl => by obtain ⟨_, rfl⟩ := ln1 hl; rfl
  have bM := DM.F.binds (ps := ["_law_cell", "_law_k"]) fun _ _ _ _ _ _ us hl => by obtain ⟨_, _, rfl⟩ := ln2 hl; rfl
  have bU := DU.F.binds (ps := ["_law_script", "_law_most"]) fun _ _ _ _ _ _ us hl => by obtain ⟨_, _, rfl⟩ := ln2 hl; rfl
  have bY := DY.F.binds (ps := ["_law_number"]) fun _ _ _ _ _ _ us hl => by obtain ⟨_, rfl⟩ := ln1 hl; rfl
  have bW := DW.F.binds (ps := ["_law_script", "_law_most"]) fun _ _ _ _ _ _ us hl => by obtain ⟨_, _, rfl⟩ := ln2 hl; rfl
  have bT := DT.F.binds (ps := ["_law_work_here"]) fun _ _ _ _ _ _ us hl => by obtain ⟨_, rfl⟩ := ln1 hl; rfl
  have bG := DG.F.binds (ps := ["_law_work_here"]) fun _ _ _ _ _ _ us hl => by obtain ⟨_, rfl⟩ := ln1 hl; rfl
  have bD := DD.F.binds (ps := ["_law_work_here"]) fun _ _ _ _ _ _ us hl => by obtain ⟨_, rfl⟩ := ln1 hl; rfl
  have bX := DX.F.binds (ps := ["_law_found"]) fun _ _ _ _ _ _ us hl => by obtain ⟨_, rfl⟩ := ln1 hl; rfl
  refine ⟨PySem.W.fnOf "law" "law" (defArgs sLaw) (defBody sLaw) (defScope sLaw) .none kVZ dcZ pmZ anZ cdZ ctZ, fun s v => .of_eq rfl, fun base _ _ => ?_⟩
  have GH : FnOk l.prog w K mg base CX0 1 fH _ ["lines"] spHolesOf := ok_holesOf DH B.sorted B.set
  have GS : FnOk l.prog w K mg base CX0 1 fS _ ["work"] spSur := ok_sur DS B.sorted
  have GN : FnOk l.prog w K mg base CX0 1 fN _ ["work"] (spNb l.prog w) := ok_nb DN
  have GL : FnOk l.prog w K mg base CX0 2 fL _ ["work"] (spLeast l.prog w) := ok_least DL DN bN GN B.sorted
  have GA : FnOk l.prog w K mg base CX0 1 fA _ ["lines", "least", "first"] (spAtL l.prog w) := ok_atL DA
  have GP : FnOk l.prog w K mg base CX0 3 fP _ ["work"] spPieces := ok_pieces DP DL bL GL DA bA GA B.sorted
  have GQ : FnOk l.prog w K mg base CX0 2 fQ _ ["piece"] spNeedP := ok_needP DQ DS bS GS B.sum B.abs B.max
  have GR : FnOk l.prog w K mg base CX0 4 fR _ ["work"] spPaper := ok_paper DR DP bP GP DQ bQ GQ DS bS GS DH bH GH
  have GC : FnOk l.prog w K mg base CX0 1 fC _ ["_law_script", "_law_k"] (spCell K) := ok_cell DC B.len
  have GF : FnOk l.prog w K mg base CX0 2 fF _ ["_law_script"] (spFar K) := ok_far DF DC bC GC
  have GU : FnOk l.prog w K mg base CX0 2 fU _ ["_law_script", "_law_most"] (spNums K) := ok_nums DU DC bC GC DM bM (ok_mix DM) B.len B.int B.enum
  have GW : FnOk l.prog w K mg base CX0 3 fW _ ["_law_script", "_law_most"] (spWork K) := ok_work DW DC bC GC DF bF GF DU bU GU DI bI (ok_line DI) DY bY (ok_any DY B.min B.max) B.sorted
  have GT : FnOk l.prog w K mg base CX0 1 fT _ ["_law_work_here"] (spSurL l.prog w) := ok_surL DT B.range
  have GG : FnOk l.prog w K mg base CX0 1 fG _ ["_law_work_here"] (spGroups l.prog w) := ok_groups DG B.list
  have GD : FnOk l.prog w K mg base CX0 2 fD _ ["_law_work_here"] spDue := ok_due DD DT bT GT DG bG GG B.sorted B.max B.sum B.abs
  have GV : FnOk l.prog w K mg base CX0 1 fV _ ["_law_found"] spLWhole := ok_lwhole DV B.isi B.int B.bool
  have GX : FnOk l.prog w K mg base CX0 2 fX _ ["_law_found"] (spKinds K) := ok_kinds DX DV bV GV B
  exact ok_law DZ DW bW GW DR bR GR DX bX GX DD bD GD B
theorem walk {l : PySem.W.OpenLaw} {q : Program} {loose : List Str} {XP : (Str → Option Value) → Heap → Prop} {YP : World → Heap → Prop} {d : DefRec} {K : Params → PySem.W.Frag} (hn : l.most = some 63) (hdf : d.params.defaults = [])
    (hY : ∀ (w : World) (h : Heap), YP w h → (K w.params).In h)
    (F : ∀ (w : World) (mg : Str → Option Value) (fa : Addr) (h : Heap), (K w.params).In h → h.Ns mainGlobals mg → mg d.name = some (.ref fa) →
      ∃ fd : FuncData, (∀ (s : Shared) (u : Value), BindsTo s fd ⟨[u], []⟩ [("_law_script", u)]) ∧ ∀ base : Heap, (K w.params).In base → base.Ns mainGlobals mg → FnOk l.prog w (K w.params) mg base CX0 5 fa fd ["_law_script"] (spLaw (K w.params))) :
    PySem.W.WalkO q loose XP YP l.row.toRowW d [] (fun f vs => PySem.call f vs) :=
  L2.walk_of (n := 63) (k := 5) (x := "_law_script") (CX := fun _ => CX0) (sp := fun w => spLaw (K w.params)) hn (by decide) hdf ⟨rfl, by decide, by decide⟩ hY F (fun _ _ a ns hl _ hS => ⟨a, ns, rfl, hS, hl, fun _ => rfl⟩) fun _ _ _ _ _ z => z
end K62
open PySem PySem.W PyProof.Rows
set_option maxRecDepth 100000 in
set_option maxHeartbeats 0 in
theorem PySem.Challenge.cw_bothfaces_k62_papers_holds : PySem.Challenge.rw_bothfaces_k62_papers.Holds := by
  w_on; o_law; k_head; (case hw => w_witness2)
  k_fill
  refine K62.walk (l := PySem.Challenge.rw_bothfaces_k62_papers) rfl rfl (fun w h Y => PySem.W.kIn_of Y) ?F
  case F =>
    intro w mg fa h KX G hmg
    refine' K62.all_mk KX G hmg ?aH ?lH ?cH ?kH ?aS ?lS ?cS ?kS ?aN ?lN ?cN ?kN ?aL ?lL ?cL ?kL ?aA ?lA ?cA ?kA ?aP ?lP ?cP ?kP ?aQ ?lQ ?cQ ?kQ ?aR ?lR ?cR ?kR ?aC ?lC ?cC ?kC ?aV ?lV ?cV ?kV ?aI ?lI ?cI ?kI ?aF ?lF ?cF ?kF ?aM ?lM ?cM ?kM ?aU ?lU ?cU ?kU ?aY ?lY ?cY ?kY ?aW ?lW ?cW ?kW ?aT ?lT ?cT ?kT ?aG ?lG ?cG ?kG ?aD ?lD ?cD ?kD ?aX ?lX ?cX ?kX ?aZ ?lZ ?cZ ?kZ ?z_isi ?z_int ?z_bool ?z_list ?z_tuple ?z_len ?z_range ?z_sum ?z_abs ?z_min ?z_max ?z_sorted ?z_set ?z_enum
    (case aH => k_is)
    (case lH => k_is)
    (case cH => k_is)
    (case kH => k_is)
    (case aS => k_is)
    (case lS => k_is)
    (case cS => k_is)
    (case kS => k_is)
    (case aN => k_is)
    (case lN => k_is)
    (case cN => k_is)
    (case kN => k_is)
    (case aL => k_is)
    (case lL => k_is)
    (case cL => k_is)
    (case kL => k_is)
    (case aA => k_is)
    (case lA => k_is)
    (case cA => k_is)
    (case kA => k_is)
    (case aP => k_is)
    (case lP => k_is)
    (case cP => k_is)
    (case kP => k_is)
    (case aQ => k_is)
    (case lQ => k_is)
    (case cQ => k_is)
    (case kQ => k_is)
    (case aR => k_is)
    (case lR => k_is)
    (case cR => k_is)
    (case kR => k_is)
    (case aC => k_is)
    (case lC => k_is)
    (case cC => k_is)
    (case kC => k_is)
    (case aV => k_is)
    (case lV => k_is)
    (case cV => k_is)
    (case kV => k_is)
    (case aI => k_is)
    (case lI => k_is)
    (case cI => k_is)
    (case kI => k_is)
    (case aF => k_is)
    (case lF => k_is)
    (case cF => k_is)
    (case kF => k_is)
    (case aM => k_is)
    (case lM => k_is)
    (case cM => k_is)
    (case kM => k_is)
    (case aU => k_is)
    (case lU => k_is)
    (case cU => k_is)
    (case kU => k_is)
    (case aY => k_is)
    (case lY => k_is)
    (case cY => k_is)
    (case kY => k_is)
    (case aW => k_is)
    (case lW => k_is)
    (case cW => k_is)
    (case kW => k_is)
    (case aT => k_is)
    (case lT => k_is)
    (case cT => k_is)
    (case kT => k_is)
    (case aG => k_is)
    (case lG => k_is)
    (case cG => k_is)
    (case kG => k_is)
    (case aD => k_is)
    (case lD => k_is)
    (case cD => k_is)
    (case kD => k_is)
    (case aX => k_is)
    (case lX => k_is)
    (case cX => k_is)
    (case kX => k_is)
    (case aZ => k_is)
    (case lZ => k_is)
    (case cZ => k_is)
    (case kZ => k_is)
    (case z_isi => k_is)
    (case z_int => k_is)
    (case z_bool => k_is)
    (case z_list => k_is)
    (case z_tuple => k_is)
    (case z_len => k_is)
    (case z_range => k_is)
    (case z_sum => k_is)
    (case z_abs => k_is)
    (case z_min => k_is)
    (case z_max => k_is)
    (case z_sorted => k_is)
    (case z_set => k_is)
    (case z_enum => k_is)
