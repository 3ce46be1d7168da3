import PyProof.Rows.All
import Wide.All
import OpenK.AllK
import Wide.FinOn
import Lean
import PyProof.EqAt
import PyProof.EqKinds
import PyProof.TupleCall
import PyProof.NeKinds
import Wide.Seal
import KE.KDictList
import KE.KSortTup
import KE.KDictOf
import KE.KTryMore
import PyProof.CompUse
import PyProof.AttrMissHeap
import PyProof.Rows.TupTab
import PyProof.ZipIter
import PyProof.Rows.ZipGen
import PyProof.LayNew
import KE.KRevSl
import PyProof.SumWalk
import PyProof.EnumMake
import PyProof.EnumFor
import PyProof.Rows.EnumRows
import PyProof.ListRange
import PyProof.Rows.Range3
import PyProof.Rows.TupDisplay
import PyProof.ListIndex
import PyProof.StrOps2
import PyProof.NoPylong
import PySem.Challenge.RW_bothfaces_k33_whole_pieces
set_option Elab.async false
set_option linter.all false
set_option maxRecDepth 100000
set_option maxHeartbeats 4000000
namespace L2
open PySem PySem.Spec PyProof.Rows
abbrev Key := Sum Int Str
def keyIs : Key → Value → Bool
  | .inl k, v => Value.isInt k v
  | .inr x, v => Value.isStrOf x v
def keyH (w : World) : Key → Int
  | .inl k => hashInt k
  | .inr x => hashStr w x
theorem keyIs_shape : ∀ {k : Key} {v : Value}, keyIs k v = true → (∃ i t, k = Sum.inl i ∧ v = Value.int i t) ∨ (∃ x t, k = Sum.inr x ∧ v = Value.str x t)
  | .inl i, v, h => by
    obtain ⟨t, e⟩ := Value.isInt_shape (k := i) (v := v) h
    exact .inl ⟨i, t, rfl, e⟩
  | .inr x, v, h => by
    obtain ⟨t, e⟩ := Value.isStrOf_shape (x := x) (v := v) h
    exact .inr ⟨x, t, rfl, e⟩
theorem keyIs_int (i : Int) (t : Tok) : keyIs (.inl i) (.int i t) = true := by simp [keyIs, Value.isInt]
theorem keyIs_str (x : Str) (t : Tok) : keyIs (.inr x) (.str x t) = true := by simp [keyIs, Value.isStrOf]
theorem key_ll (a b : Int) : decide ((Sum.inl a : Key) = Sum.inl b) = (a == b) := by
  by_cases e : a = b
  · subst e; simp
  · have h : ¬ (Sum.inl a : Key) = Sum.inl b := fun q => e (Sum.inl.inj q)
    rw [decide_eq_false h]
    exact (beq_eq_false_iff_ne.mpr e).symm
theorem key_rr (a b : Str) : decide ((Sum.inr a : Key) = Sum.inr b) = decide (a = b) := by
  by_cases e : a = b
  · subst e; simp
  · have h : ¬ (Sum.inr a : Key) = Sum.inr b := fun q => e (Sum.inr.inj q)
    rw [decide_eq_false h, decide_eq_false e]
theorem key_lr (a : Int) (b : Str) : decide ((Sum.inl a : Key) = Sum.inr b) = false := decide_eq_false (fun q => nomatch q)
theorem key_rl (a : Str) (b : Int) : decide ((Sum.inr a : Key) = Sum.inl b) = false := decide_eq_false (fun q => nomatch q)
def mixKind (prog : Program) (w : World) : PySem.KeyKind prog w Key where
  is := keyIs
  hash := keyH w
  inj := fun v a b ha hb => by
    rcases keyIs_shape ha with ⟨i, t, rfl, rfl⟩ | ⟨x, t, rfl, rfl⟩
    · rcases keyIs_shape hb with ⟨j, u, rfl, e⟩ | ⟨y, u, rfl, e⟩
      · injection e with e1 _; rw [e1]
      · exact nomatch e
    · rcases keyIs_shape hb with ⟨j, u, rfl, e⟩ | ⟨y, u, rfl, e⟩
      · exact nomatch e
      · injection e with e1 _; rw [e1]
  byValue := fun k v h => by
    rcases keyIs_shape h with ⟨i, t, rfl, rfl⟩ | ⟨x, t, rfl, rfl⟩ <;> rfl
  pyHash := fun hv h => by
    rcases keyIs_shape hv with ⟨i, t, rfl, rfl⟩ | ⟨x, t, rfl, rfl⟩
    · exact wpAny_pyHash_int h
    · exact wpAny_pyHash_str h
  eqBool := fun hu hv h => by
    rcases keyIs_shape hu with ⟨i, t, rfl, rfl⟩ | ⟨x, t, rfl, rfl⟩
    · rcases keyIs_shape hv with ⟨j, u, rfl, rfl⟩ | ⟨y, u, rfl, rfl⟩
      · rw [key_ll] at h; exact wpAny_eqBool_int h
      · rw [key_lr] at h; exact SeqAt.EqAt.int_str i t y u _ _ _ _ h
    · rcases keyIs_shape hv with ⟨j, u, rfl, rfl⟩ | ⟨y, u, rfl, rfl⟩
      · rw [key_rl] at h; exact SeqAt.EqAt.str_int x t j u _ _ _ _ h
      · rw [key_rr] at h; exact wpAny_eqBool_str h
  «strs» := fun k x t v h => by
    rcases keyIs_shape h with ⟨i, u, rfl, e⟩ | ⟨y, u, rfl, e⟩
    · exact nomatch e
    · injection e with e1 _
      subst e1
      cases v <;> rfl
theorem mixKind_int (prog : Program) (w : World) (i : Int) (t : Tok) : (mixKind prog w).is (.inl i) (.int i t) = true := keyIs_int i t
theorem mixKind_str (prog : Program) (w : World) (x : Str) (t : Tok) : (mixKind prog w).is (.inr x) (.str x t) = true := keyIs_str x t
end L2
namespace L2
open PySem PySem.Spec PyProof.Rows
inductive V where
  | non | bl (b : Bool) | int (i : Int) | str (x : Str) | byt (b : Array UInt8) | flt (b : UInt64) | ref (a : Addr) | ty (n : String)
  deriving DecidableEq
def RelV : V → Value → Prop
  | .non, u => u = Value.none
  | .bl b, u => u = Value.bool b
  | .int i, u => ∃ t, u = Value.int i t
  | .str x, u => ∃ t, u = Value.str x t
  | .byt b, u => ∃ t, u = Value.bytes b t
  | .flt b, u => ∃ t, u = Value.float b t
  | .ref a, u => u = Value.ref a
  | .ty n, u => u = Value.type n
abbrev Vals : List V → List Value → Prop := Paired RelV
theorem Vals.length {xs : List V} {us : List Value} (r : Vals xs us) : xs.length = us.length := Paired.length r
theorem Vals.get : ∀ {xs : List V} {us : List Value} {i : Nat} {x : V}, Vals xs us → xs[i]? = some x → ∃ u, us[i]? = some u ∧ RelV x u
  | _, _, _, _, .nil, e => by simp at e
  | _, _, 0, _, .cons r _, e => by simp at e; subst e; exact ⟨_, rfl, r⟩
  | _, _, i + 1, x, .cons _ t, e => by
    obtain ⟨u, h1, h2⟩ := Vals.get (i := i) (x := x) t (by simpa using e)
    exact ⟨u, by simpa using h1, h2⟩
theorem Vals.append : ∀ {xs ys : List V} {us ws : List Value}, Vals xs us → Vals ys ws → Vals (xs ++ ys) (us ++ ws)
  | _, _, _, _, .nil, s => s
  | _, _, _, _, .cons r t, s => .cons r (Vals.append t s)
def RelO : Option V → Option Value → Prop
  | some v, some u => RelV v u
  | none, none => True
  | _, _ => False
def KV {κ : Type} : List (κ × V) → List (κ × Value) → Prop := Paired fun (p : κ × V) (q : κ × Value) => p.1 = q.1 ∧ RelV p.2 q.2
def kV : Key → V
  | .inl i => .int i
  | .inr x => .str x
inductive HO where
  | lst (xs : List V)
  | tup (xs : List V)
  | dK (kvs : List (Key × V)) | dT (kvs : List (List Key × V))
  | set (S : Int → Bool) (n : Nat)
  | ins (C dx : Addr) (fs : List (Str × V))
  | own (x : Addr)
  | xd (fs : List (Str × V))
  | met (f x : Addr)
  | rng (lo hi : Int)
  | frz (o : Obj) (u : HO)
  | tbl (ps : Array Value)
  | ext (φ : Heap → Prop)
abbrev Hp := Addr → Option HO
def upd (H : Hp) (a : Addr) (o : HO) : Hp := fun b => if b = a then some o else H b
theorem upd_same {H : Hp} {a : Addr} {o : HO} : upd H a o a = some o := by unfold upd; rw [if_pos rfl]
theorem upd_ne {H : Hp} {a b : Addr} {o : HO} (h : b ≠ a) : upd H a o b = H b := by unfold upd; rw [if_neg h]
theorem ne_of {H : Hp} {a b : Addr} {o u : HO} (h : H a = some o) (h' : H b = some u) (d : o ≠ u) : a ≠ b := by
  intro e; subst e; rw [h] at h'; exact d (Option.some.inj h')
theorem ne_of_none {H : Hp} {a b : Addr} {o : HO} (h : H a = some o) (h' : H b = none) : a ≠ b := by
  intro e; subst e; rw [h] at h'; cases h'
section
variable (P : Program) (w : World)
def ObjOk (H : Hp) (h : Heap) (a : Addr) : HO → Prop
  | .lst xs => xs.length ≤ sizeLine ∧ ∃ (its : List Value) (n : Nat), Vals xs its ∧ h.get? a = some { cls := .type "list", data := .seq its.toArray n }
  | .tup xs => xs.length ≤ sizeLine ∧ ∃ its : List Value, Vals xs its ∧ IsTup h a its.toArray
  | .dK kvs => kvs.length ≤ sizeLine ∧ (a == sysModules) = false ∧ ∃ vs, KV kvs vs ∧ h.DictOf (mixKind P w) a vs
  | .dT kvs => kvs.length ≤ sizeLine ∧ (a == sysModules) = false ∧ ∃ xs : List (List Key × Addr × Value),
      Paired (fun (p : List Key × V) (q : List Key × Addr × Value) => p.1 = q.1 ∧ H q.2.1 = some (.tup (p.1.map kV)) ∧ RelV p.2 q.2.2) kvs xs ∧
      ∃ o es ep, h.get? a = some o ∧ o.ExactDict ∧ o.data = .dict es ep ∧ es.toList = xs.map (entryOfKey (tupleKind (mixKind P w))) ∧ (xs.map (·.1)).Nodup
  | .set S n => h.SetOf (intKind P w) a S n
  | .ins C dx fs => H dx = some (.own a) ∧ fs.length ≤ 1000 ∧ dx ≠ a ∧ h.get? a = some (PySem.W.instObj C dx) ∧
      ∃ mA, h.Ns1 dx mA ∧ (∀ f, RelO (fs.lookup f) (mA f)) ∧ PySem.Within mA (fs.map (·.1))
  | .own _ => ∃ o, h.get? a = some o
  | .xd fs => ∃ mA, h.Ns1 a mA ∧ ∀ f, RelO (fs.lookup f) (mA f)
  | .rng lo hi => ∃ t u v, h.get? a = some { cls := .type "range", data := .fields #[.int lo t, .int hi u, .int 1 v] }
  | .frz o u => h.get? a = some o ∧ ObjOk H h a u
  | .tbl ps => h.get? a = some { cls := .none, data := .fields ps }
  | .met f x => h.get? a = some (PySem.W.methodObj (.ref f) (.ref x))
  | .ext φ => φ h ∧ (∃ o, h.get? a = some o) ∧ ∀ h1 h2 : Heap, φ h1 → (∀ o, h1.get? a = some o → h2.get? a = some o) → φ h2
def HOk (H : Hp) (h : Heap) : Prop := ∀ a o, H a = some o → ObjOk P w H h a o
end
section
variable {P : Program} {w : World} {H H' : Hp} {h h' : Heap} {a : Addr} {o : HO}
theorem ObjOk.lt (x : ObjOk P w H h a o) : a < h.objs.size := by
  cases o with
  | lst xs => obtain ⟨_, _, _, _, e⟩ := x; exact Heap.lt_size e
  | tup xs => obtain ⟨_, _, _, p⟩ := x; exact p.lt
  | dK kvs => obtain ⟨_, _, _, _, o, _, _, e, _⟩ := x; exact Heap.lt_size e
  | dT kvs => obtain ⟨_, _, _, _, o, _, _, e, _⟩ := x; exact Heap.lt_size e
  | set S n => obtain ⟨o, _, _, _, e, _⟩ := x; exact Heap.lt_size e
  | ins C dx fs => obtain ⟨_, _, _, e, _⟩ := x; exact Heap.lt_size e
  | own y => obtain ⟨_, e⟩ := x; exact Heap.lt_size e
  | xd fs => obtain ⟨_, ⟨_, _, _, e, _⟩, _⟩ := x; exact Heap.lt_size e
  | rng lo hi => obtain ⟨_, _, _, e⟩ := x; exact Heap.lt_size e
  | frz ob u => obtain ⟨e, _⟩ := x; exact Heap.lt_size e
  | tbl ps => exact Heap.lt_size (show h.get? a = some _ from x)
  | met f y => exact Heap.lt_size (show h.get? a = some _ from x)
  | ext φ => obtain ⟨_, ⟨_, e⟩, _⟩ := x; exact Heap.lt_size e
theorem Paired.mapP {α β : Type} {F G : α → β → Prop} : ∀ {l₁ : List α} {l₂ : List β}, Paired F l₁ l₂ → (∀ a b, F a b → G a b) → Paired G l₁ l₂
  | _, _, .nil, _ => .nil
  | _, _, .cons r t, f => .cons (f _ _ r) (Paired.mapP t f)
theorem ObjOk.stay (x : ObjOk P w H h a o) (k : ∀ b u, (b = a ∨ H b = some (.own a)) → h.get? b = some u → h'.get? b = some u)
    (ho : ∀ b, H b = some (.own a) → H' b = some (.own a)) (ht : ∀ b xs, H b = some (.tup xs) → H' b = some (.tup xs)) : ObjOk P w H' h' a o := by
  induction o with
  | lst xs => obtain ⟨z, its, n, r, e⟩ := x; exact ⟨z, its, n, r, k _ _ (.inl rfl) e⟩
  | tup xs => obtain ⟨z, its, r, ob, e, c⟩ := x; exact ⟨z, its, r, ob, k _ _ (.inl rfl) e, c⟩
  | dK kvs => obtain ⟨z, y, vs, r, ob, es, ep, e, c⟩ := x; exact ⟨z, y, vs, r, ob, es, ep, k _ _ (.inl rfl) e, c⟩
  | dT kvs =>
    obtain ⟨z, y, xs, r, ob, es, ep, e, c⟩ := x
    exact ⟨z, y, xs, Paired.mapP r fun p q z => ⟨z.1, ht _ _ z.2.1, z.2.2⟩, ob, es, ep, k _ _ (.inl rfl) e, c⟩
  | set S n => obtain ⟨ob, es, ep, t, e, c⟩ := x; exact ⟨ob, es, ep, t, k _ _ (.inl rfl) e, c⟩
  | ins C dx fs =>
    obtain ⟨d, z, ne, e, mA, ⟨od, es, ep, e2, c⟩, r⟩ := x
    exact ⟨ho _ d, z, ne, k _ _ (.inl rfl) e, mA, ⟨od, es, ep, k _ _ (.inr d) e2, c⟩, r⟩
  | own y => obtain ⟨ob, e⟩ := x; exact ⟨ob, k _ _ (.inl rfl) e⟩
  | xd fs => obtain ⟨mA, ⟨od, es, ep, e, c⟩, r⟩ := x; exact ⟨mA, ⟨od, es, ep, k _ _ (.inl rfl) e, c⟩, r⟩
  | rng lo hi => obtain ⟨t, u, v, e⟩ := x; exact ⟨t, u, v, k _ _ (.inl rfl) e⟩
  | frz ob u ih => obtain ⟨e, q⟩ := x; exact ⟨k _ _ (.inl rfl) e, ih q⟩
  | tbl ps =>
    have e : h.get? a = some { cls := .none, data := .fields ps } := x
    show h'.get? a = some { cls := .none, data := .fields ps }
    exact k a _ (.inl rfl) e
  | met f y =>
    have e : h.get? a = some (PySem.W.methodObj (.ref f) (.ref y)) := x
    show h'.get? a = some (PySem.W.methodObj (.ref f) (.ref y))
    exact k a _ (.inl rfl) e
  | ext φ => obtain ⟨p, ⟨o, e⟩, st⟩ := x; exact ⟨st _ _ p fun o q => k _ _ (.inl rfl) q, ⟨o, k _ _ (.inl rfl) e⟩, st⟩
theorem HOk.lt (x : HOk P w H h) (e : H a = some o) : a < h.objs.size := (x a o e).lt
theorem HOk.fresh (x : HOk P w H h) (e : h.objs.size ≤ a) : H a = none := by
  cases q : H a with
  | none => rfl
  | some u => exact absurd (Nat.lt_of_lt_of_le (x.lt q) e) (Nat.lt_irrefl _)
theorem HOk.kept (x : HOk P w H h) (k : ∀ b u, h.get? b = some u → h'.get? b = some u) : HOk P w H h' := fun a o e =>
  (x a o e).stay (fun b u _ q => k b u q) (fun _ q => q) fun _ _ q => q
theorem HOk.laid (x : HOk P w H h) (k : ∀ b u, h.get? b = some u → h'.get? b = some u) (hp : h.objs.size ≤ a) (new : ObjOk P w (upd H a o) h' a o) : HOk P w (upd H a o) h' := fun b u e => by
  have hn := x.fresh hp
  by_cases hb : b = a
  · subst hb; rw [upd_same] at e; cases e; exact new
  · rw [upd_ne hb] at e
    exact (x b u e).stay (fun c v _ q => k c v q) (fun c q => by rw [upd_ne (ne_of_none q hn)]; exact q) fun c xs q => by rw [upd_ne (ne_of_none q hn)]; exact q
end
def Rd (H : Hp) (a : Addr) (u : HO) : Prop := H a = some u ∨ ∃ o, H a = some (.frz o u)
theorem Rd.ok {P : Program} {w : World} {H : Hp} {h : Heap} {a : Addr} {u : HO} (r : Rd H a u) (x : HOk P w H h) : ObjOk P w H h a u := by
  rcases r with r | ⟨o, r⟩
  · exact x a u r
  · obtain ⟨_, q⟩ := x a _ r
    exact q
def Mut : Option HO → Prop
  | some (.lst _) => True
  | some (.dK _) => True
  | some (.dT _) => True
  | some (.set _ _) => True
  | some (.ins _ _ _) => True
  | some (.ext _) => True
  | _ => False
section
variable {P : Program} {w : World} {H : Hp} {h h' : Heap} {x e : Addr} {o' : HO}
theorem HOk.write (ok : HOk P w H h) (mu : Mut (H x)) (he : e = x ∨ H e = some (.own x)) (k : ∀ b u, b ≠ e → h.get? b = some u → h'.get? b = some u) (heo : ∃ u, h'.get? e = some u)
    (new : ObjOk P w (upd H x o') h' x o') : HOk P w (upd H x o') h' := fun b u q => by
  have nown : ∀ c y, H c = some (.own y) → c ≠ x := fun c y r z => by subst z; rw [r] at mu; exact mu
  have ntup : ∀ c xs, H c = some (.tup xs) → c ≠ x := fun c xs r z => by subst z; rw [r] at mu; exact mu
  by_cases hb : b = x
  · subst hb; rw [upd_same] at q; cases q; exact new
  · rw [upd_ne hb] at q
    by_cases hbe : b = e
    · have q' : H b = some (.own x) := by
        rcases he with z | z
        · exact absurd (hbe.trans z) hb
        · rw [hbe]; exact z
      rw [q] at q'; cases q'
      obtain ⟨v, hv⟩ := heo
      exact ⟨v, by rw [hbe]; exact hv⟩
    · refine (ok b u q).stay (fun c v hc r => k c v ?_ r) (fun c r => by rw [upd_ne (nown c b r)]; exact r) fun c xs r => by rw [upd_ne (ntup c xs r)]; exact r
      rcases hc with rfl | hc
      · exact hbe
      · rintro rfl
        rcases he with z | z
        · exact nown c b hc z
        · rw [hc] at z; cases z; exact hb rfl
end
structure Un (fs ex : List Addr) (H H' : Hp) (h h' : Heap) : Prop where
  keep : ∀ b o, h.get? b = some o → H b = none → b ∉ fs → b ∉ ex → h'.get? b = some o
  slot : ∀ b o, h.get? b = some o → H b = none → b ∈ fs → b ∉ ex → ∃ sl, h'.get? b = some { o with slots := sl }
  free : ∀ b o, h.get? b = some o → H b = none → b ∉ ex → H' b = none
  there : ∀ b o, h.get? b = some o → b ∉ ex → ∃ o', h'.get? b = some o'
  tups : ∀ b xs, H b = some (.tup xs) → H' b = some (.tup xs)
  frzs : ∀ b o u, H b = some (.frz o u) → H' b = some (.frz o u)
  tbls : ∀ b ps, H b = some (.tbl ps) → ∃ more, H' b = some (.tbl (ps ++ more))
section
variable {fs fs' ex ex' : List Addr} {H H1 H2 : Hp} {h h1 h2 h' : Heap} {a x e : Addr} {o : HO}
theorem Un.any (u : Un fs ex H H1 h h1) {b : Addr} {ob : Obj} (q : h.get? b = some ob) (n : H b = none) (hx : b ∉ ex) : ∃ sl, h1.get? b = some { ob with slots := sl } := by
  by_cases hb : b ∈ fs
  · exact u.slot b ob q n hb hx
  · exact ⟨ob.slots, u.keep b ob q n hb hx⟩
theorem Un.kept (k : ∀ b u, h.get? b = some u → h'.get? b = some u) : Un fs ex H H h h' :=
  ⟨fun b ob q _ _ _ => k b ob q, fun b ob q _ _ _ => ⟨ob.slots, k b ob q⟩, fun _ _ _ n _ => n, fun b ob q _ => ⟨ob, k b ob q⟩, fun _ _ q => q, fun _ _ _ q => q, fun _ ps q => ⟨#[], by rw [q]; simp⟩⟩
theorem Un.refl : Un fs ex H H h h := Un.kept fun _ _ q => q
theorem Un.laid (k : ∀ b u, h.get? b = some u → h'.get? b = some u) (hp : h.objs.size ≤ a) (hn : H a = none) : Un fs ex H (upd H a o) h h' where
  keep := fun b u q _ _ _ => k b u q
  slot := fun b u q _ _ _ => ⟨u.slots, k b u q⟩
  free := fun b u q n _ => by rw [upd_ne (Nat.ne_of_lt (Nat.lt_of_lt_of_le (Heap.lt_size q) hp))]; exact n
  there := fun b u q _ => ⟨u, k b u q⟩
  tups := fun b xs q => by rw [upd_ne (ne_of_none q hn)]; exact q
  frzs := fun b u xs q => by rw [upd_ne (ne_of_none q hn)]; exact q
  tbls := fun b ps q => ⟨#[], by rw [upd_ne (ne_of_none q hn), q]; simp⟩
theorem Un.write (mu : Mut (H x)) (he : e = x ∨ H e = some (.own x)) (k : ∀ b u, b ≠ e → h.get? b = some u → h'.get? b = some u) (heo : ∃ u, h'.get? e = some u) : Un fs ex H (upd H x o) h h' := by
  have hx : ∀ b, H b = none → b ≠ x := fun b n z => by subst z; rw [n] at mu; exact mu
  have hb : ∀ b, H b = none → b ≠ e := fun b n z => by
    subst z
    rcases he with r | r
    · exact hx b n r
    · rw [n] at r; cases r
  have hm : ∀ b u, H b = some u → ¬ Mut (some u) → b ≠ x := fun b u q nm z => by subst z; rw [q] at mu; exact nm mu
  refine ⟨fun b u q n _ _ => k b u (hb b n) q, fun b u q n _ _ => ⟨u.slots, k b u (hb b n) q⟩, fun b u q n _ => by rw [upd_ne (hx b n)]; exact n, fun b u q _ => ?_,
    fun b xs q => by rw [upd_ne (hm b _ q fun z => z)]; exact q, fun b u xs q => by rw [upd_ne (hm b _ q fun z => z)]; exact q, fun b ps q => ⟨#[], by rw [upd_ne (hm b _ q fun z => z), q]; simp⟩⟩
  by_cases hbe : b = e
  · subst hbe; exact heo
  · exact ⟨u, k b u hbe q⟩
end
def trk (h : Heap) (H : Hp) : List Addr := (List.range h.objs.size).filter fun a => (H a).isSome
def hidT (h : Heap) (H : Hp) : Heap := PySem.W.hideAll h (trk h H)
theorem hidT_size (h : Heap) (H : Hp) : (hidT h H).objs.size = h.objs.size := PySem.W.hideAll_size _ _
theorem hidT_get {h : Heap} {H : Hp} {b : Addr} {o : Obj} (e : h.get? b = some o) (n : H b = none) : (hidT h H).get? b = some o :=
  PySem.W.hideAll_get _ e fun hm => by
    have q : (H b).isSome = true := (List.mem_filter.mp hm).2
    rw [n] at q; simp at q
theorem of_hidT {h : Heap} {H : Hp} {b : Addr} {o : Obj} (e : (hidT h H).get? b = some o) : h.get? b = some o ∧ H b = none := by
  have e' : h.get? b = some o := PySem.W.of_hideAll (trk h H) e
  refine ⟨e', ?_⟩
  cases q : H b with
  | none => rfl
  | some x =>
    have hm : b ∈ trk h H := List.mem_filter.mpr ⟨List.mem_range.mpr (Heap.lt_size e'), by simp [q]⟩
    have z : (hidT h H).get? b = none := PySem.W.hideAll_none (trk h H) hm
    rw [z] at e; cases e
end L2
namespace L2
open PySem PySem.Spec PyProof.Rows
structure Mod (K : PySem.W.Frag) (mg : Str → Option Value) (base : Heap) : Prop where
  kin : K.In base
  glob : base.Ns mainGlobals mg
  blt : ∃ mb, base.Ns builtinsNs mb ∧ ∀ x : Str, x ≠ "__name__" → mb x = bootBuiltins x
  nolimit : base.NoLimit
structure Cx where
  prog : Program
  w : World
  K : PySem.W.Frag
  mg : Str → Option Value
  base : Heap
  A : Around
  N : List Str
  s₀ : Shared
  H₀ : Hp
  env : Env
  outer : List Env
  stack : List Env
  ex : List Addr
  fn : Str → Bool
  calm : Bool
  pn : List (Addr × Obj)
  xe : Value → Shared → Prop
def frs (l : List Env) : List Addr := l.filterMap (·.frame)
abbrev Cx.fs (X : Cx) : List Addr := frs X.outer
def Vis (sc : Scope) (x : Str) : Prop := sc.names.lookup x = some .local ∨ sc.names.lookup x = some .cell ∨ sc.names.lookup x = some .free
def Loc (sc : Scope) (x : Str) : Prop := sc.names.lookup x = some .local ∨ sc.names.lookup x = some .cell
def Look (env : Env) (h : Heap) (m : Str → Option Value) (x : Str) (u : Value) : Prop :=
  (env.kindOf x = some .local ∧ m x = some u) ∨ ((env.kindOf x = some .cell ∨ env.kindOf x = some .free) ∧ ∃ c, env.cells.lookup x = some c ∧ h.IsCell c (some u))
structure Cx.Ok (X : Cx) : Prop where
  mod : Mod X.K X.mg X.base
  kind : X.env.scope.kind = .function
  glob : X.env.globals = mainGlobals
  blt : X.env.builtins = builtinsNs
  above : X.s₀.heap.objs.size ≤ X.env.locals
  inj : ∀ x y c, X.env.cells.lookup x = some c → X.env.cells.lookup y = some c → x = y
  has : ∀ x, (X.env.kindOf x = some .cell ∨ X.env.kindOf x = some .free) → ∃ c, X.env.cells.lookup x = some c
  cab : ∀ x c, X.fn x = true → X.env.cells.lookup x = some c → X.s₀.heap.objs.size ≤ c
  hd : X.calm = true → X.A.handled = none
  frames : X.A.frames = some X.stack
  stk : X.stack = X.outer ∨ (X.stack = X.env :: X.outer ∧ X.env.frame = some X.env.locals)
  exf : ∀ b ∈ X.ex, b ≠ X.env.locals ∧ ∀ x c, X.env.cells.lookup x = some c → c ≠ b
  bs : ∀ b o, X.base.get? b = some o → X.s₀.heap.get? b = some o ∧ X.H₀ b = none
  bsz : X.base.objs.size ≤ X.s₀.heap.objs.size
  noex : ∀ b o, X.base.get? b = some o → b ∉ X.ex
  exfs : ∀ b ∈ X.ex, b ∉ X.fs
  funs : X.s₀.heap.FunFrames X.base X.outer
  frf : ∀ b ∈ X.fs, X.H₀ b = none
structure Inv (X : Cx) (pins : List (Addr × Obj)) (σ : List (Option V)) (H : Hp) (s : Shared) : Prop where
  ok : X.Ok
  os : s.os = X.s₀.os
  bare : AllBare s.gens
  base : Un X.fs X.ex X.H₀ H X.s₀.heap s.heap
  loc : ∃ m, s.heap.Ns X.env.locals m ∧ ∀ (i : Nat) (x : Str) (v : V), X.N[i]? = some x → σ[i]? = some (some v) → Vis X.env.scope x → ∃ u, RelV v u ∧ Look X.env s.heap m x u
  cell : ∀ x c, X.env.cells.lookup x = some c → ∃ v, s.heap.IsCell c v
  free : H X.env.locals = none
  freeC : ∀ x c, X.env.cells.lookup x = some c → H c = none
  pin : ∀ p ∈ X.pn ++ pins, s.heap.get? p.1 = some p.2 ∧ H p.1 = none ∧ p.1 ≠ X.env.locals ∧ p.1 ∉ X.fs ∧ ∀ v, p.2.data ≠ .cell v
  hok : HOk X.prog X.w H s.heap
  len : σ.length = X.N.length
section
variable {X : Cx} {pins : List (Addr × Obj)} {σ : List (Option V)} {H H' : Hp} {s : Shared} {h' : Heap}
theorem Cx.Ok.nofr (ok : X.Ok) {b : Addr} {o : Obj} (e : X.base.get? b = some o) : b ∉ X.fs := fun hb => by
  have := (ok.funs.mem hb).1
  rw [e] at this; cases this
theorem Inv.bs (I : Inv X pins σ H s) : ∀ b o, X.base.get? b = some o → s.heap.get? b = some o ∧ H b = none := fun b o e =>
  ⟨I.base.keep b o (I.ok.bs b o e).1 (I.ok.bs b o e).2 (I.ok.nofr e) (I.ok.noex b o e), I.base.free b o (I.ok.bs b o e).1 (I.ok.bs b o e).2 (I.ok.noex b o e)⟩
theorem Inv.bk (I : Inv X pins σ H s) : ∀ b o, X.base.get? b = some o → s.heap.get? b = some o := fun b o e => (I.bs b o e).1
theorem Inv.mod (I : Inv X pins σ H s) : Mod X.K X.mg X.base := I.ok.mod
theorem Inv.kIn (I : Inv X pins σ H s) : X.K.In s.heap := I.ok.mod.kin.keeps I.bk
theorem Inv.lt (I : Inv X pins σ H s) : X.env.locals < s.heap.objs.size := let ⟨_, hn, _⟩ := I.loc; hn.lt
theorem Inv.sz (I : Inv X pins σ H s) : X.s₀.heap.objs.size ≤ s.heap.objs.size := Nat.le_trans I.ok.above (Nat.le_of_lt I.lt)
theorem Inv.nofs (I : Inv X pins σ H s) {a : Addr} (h : s.heap.objs.size ≤ a) : a ∉ X.fs := fun hb => by
  obtain ⟨_, o, ho, _⟩ := I.ok.funs.mem hb
  exact absurd (Nat.lt_of_lt_of_le (Heap.lt_size ho) (Nat.le_trans I.sz h)) (Nat.lt_irrefl _)
theorem Inv.cne (I : Inv X pins σ H s) : ∀ x c, X.env.cells.lookup x = some c → c ≠ X.env.locals := fun x c e z => by
  obtain ⟨v, o, ho, hd⟩ := I.cell x c e
  obtain ⟨m, ⟨o', es, ep, ho', hd', _⟩, _⟩ := I.loc
  rw [z, ho'] at ho; cases ho; rw [hd'] at hd; cases hd
theorem Inv.funs (I : Inv X pins σ H s) : s.heap.FunFrames X.base X.outer := by
  have all : ∀ (l : List Env), (∀ b ∈ frs l, b ∈ X.fs) → X.s₀.heap.FunFrames X.base l → s.heap.FunFrames X.base l := by
    intro l
    induction l with
    | nil => intro _ _; trivial
    | cons env r ih =>
      intro hs hl
      obtain ⟨hk, ⟨L, o, hf, hn, ho, hd⟩, hr⟩ := hl
      have hL : L ∈ X.fs := hs L (by unfold frs; rw [List.filterMap_cons, hf]; exact List.mem_cons_self)
      obtain ⟨sl, e⟩ := I.base.slot L o ho (I.ok.frf L hL) hL fun z => I.ok.exfs L z hL
      exact ⟨hk, ⟨L, _, hf, hn, e, hd⟩, ih (fun b hb => hs b (by unfold frs; rw [List.filterMap_cons, hf]; exact List.mem_cons_of_mem _ hb)) hr⟩
  exact all X.outer (fun _ hb => hb) I.ok.funs
theorem Inv.stack (I : Inv X pins σ H s) : s.heap.FunFrames X.base X.stack := by
  rcases I.ok.stk with e | ⟨e, hf⟩
  · rw [e]; exact I.funs
  · rw [e]
    obtain ⟨m, hn, _⟩ := I.loc
    refine .cons (by rw [I.ok.kind]; decide) hf hn ?_ I.funs
    exact Heap.get?_none_of_le (Nat.le_trans I.ok.bsz I.ok.above)
theorem Inv.stkSub (I : Inv X pins σ H s) : ∀ b ∈ frs X.stack, b ∈ X.env.locals :: X.fs := fun b hb => by
  rcases I.ok.stk with e | ⟨e, hf⟩
  · rw [e] at hb; exact List.mem_cons_of_mem _ hb
  · rw [e] at hb
    unfold frs at hb
    rw [List.filterMap_cons, hf] at hb
    exact hb
theorem Inv.stkFree (I : Inv X pins σ H s) : ∀ b ∈ frs X.stack, H b = none := fun b hb => by
  rcases List.mem_cons.mp (I.stkSub b hb) with e | hb
  · rw [e]; exact I.free
  · obtain ⟨_, o, ho, _⟩ := I.ok.funs.mem hb
    exact I.base.free b o ho (I.ok.frf b hb) fun z => I.ok.exfs b z hb
theorem Inv.step {g' : Array GenState} {t' : Nat} {d' : Drawn} {ch : List Addr} (I : Inv X pins σ H s)
    (hch : ∀ b ∈ ch, (b ∈ X.ex ∨ X.s₀.heap.objs.size ≤ b) ∧ b ≠ X.env.locals ∧ (∀ x c, X.env.cells.lookup x = some c → c ≠ b) ∧ ∀ p ∈ X.pn ++ pins, p.1 ≠ b)
    (keep : ∀ b o, b ≠ X.env.locals → b ∉ X.fs → b ∉ ch → s.heap.get? b = some o → H b = none → h'.get? b = some o)
    (slot : ∀ b o, b ≠ X.env.locals → b ∈ X.fs → b ∉ ch → s.heap.get? b = some o → H b = none → ∃ sl, h'.get? b = some { o with slots := sl }) (free : ∀ b o, b ∉ ch → s.heap.get? b = some o → H b = none → H' b = none)
    (there : ∀ b o, b ∉ ch → s.heap.get? b = some o → ∃ o', h'.get? b = some o')
    (tups : ∀ b xs, H b = some (.tup xs) → H' b = some (.tup xs)) (frzs : ∀ b o u, H b = some (.frz o u) → H' b = some (.frz o u)) (tbls : ∀ b ps, H b = some (.tbl ps) → ∃ more, H' b = some (.tbl (ps ++ more)))
    (ns : ∀ m, s.heap.Ns X.env.locals m → h'.Ns X.env.locals m) (hok : HOk X.prog X.w H' h') (hg : AllBare g') :
    Inv X pins σ H' { s with heap := h', gens := g', drawn := d', toks := t' } := by
  have neL : ∀ b o, X.s₀.heap.get? b = some o → b ≠ X.env.locals := fun b o e => Nat.ne_of_lt (Nat.lt_of_lt_of_le (Heap.lt_size e) I.ok.above)
  have neC : ∀ b o, X.s₀.heap.get? b = some o → b ∉ X.ex → b ∉ ch := fun b o e hx hb => by
    rcases (hch b hb).1 with z | z
    · exact hx z
    · exact absurd (Nat.lt_of_lt_of_le (Heap.lt_size e) z) (Nat.lt_irrefl _)
  have cellK : ∀ x c, X.env.cells.lookup x = some c → ∀ v, s.heap.IsCell c v → h'.IsCell c v := fun x c e v ⟨o, ho, hd⟩ => by
    have nch : c ∉ ch := fun z => (hch c z).2.2.1 x c e rfl
    by_cases hc : c ∈ X.fs
    · obtain ⟨sl, q⟩ := slot c o (I.cne x c e) hc nch ho (I.freeC x c e)
      exact ⟨_, q, hd⟩
    · exact ⟨o, keep c o (I.cne x c e) hc nch ho (I.freeC x c e), hd⟩
  refine ⟨I.ok, I.os, hg, ⟨fun b o e n hb hx => ?_, fun b o e n hb hx => ?_, fun b o e n hx => ?_, fun b o e hx => ?_, fun b xs e => tups b xs (I.base.tups b xs e), fun b o xs e => frzs b o xs (I.base.frzs b o xs e), fun b ps e => ?_⟩, ?_, fun x c e => ?_, ?_, fun x c e => ?_, fun p hp => ?_, hok, I.len⟩
  · exact keep b o (neL b o e) hb (neC b o e hx) (I.base.keep b o e n hb hx) (I.base.free b o e n hx)
  · obtain ⟨sl, e1⟩ := I.base.slot b o e n hb hx
    obtain ⟨sl', e2⟩ := slot b _ (neL b o e) hb (neC b o e hx) e1 (I.base.free b o e n hx)
    exact ⟨sl', e2⟩
  · obtain ⟨o', e1⟩ := I.base.there b o e hx
    exact free b o' (neC b o e hx) e1 (I.base.free b o e n hx)
  · obtain ⟨o', e1⟩ := I.base.there b o e hx
    exact there b o' (neC b o e hx) e1
  · obtain ⟨m1, e1⟩ := I.base.tbls b ps e
    obtain ⟨m2, e2⟩ := tbls b _ e1
    exact ⟨m1 ++ m2, by rw [e2, Array.append_assoc]⟩
  · obtain ⟨m, hn, hl⟩ := I.loc
    refine ⟨m, ns m hn, fun i x v e1 e2 e3 => ?_⟩
    obtain ⟨u, r, l⟩ := hl i x v e1 e2 e3
    refine ⟨u, r, ?_⟩
    rcases l with l | ⟨k, c, e, z⟩
    · exact .inl l
    · exact .inr ⟨k, c, e, cellK x c e _ z⟩
  · obtain ⟨v, z⟩ := I.cell x c e
    exact ⟨v, cellK x c e v z⟩
  · obtain ⟨m, ⟨o, _, _, ho, _⟩, _⟩ := I.loc
    exact free _ o (fun z => (hch _ z).2.1 rfl) ho I.free
  · obtain ⟨v, o, ho, hd⟩ := I.cell x c e
    exact free c o (fun z => (hch c z).2.2.1 x c e rfl) ho (I.freeC x c e)
  · obtain ⟨e, n, ne, nf, d⟩ := I.pin p hp
    have nch : p.1 ∉ ch := fun z => (hch p.1 z).2.2.2 p hp rfl
    exact ⟨keep p.1 p.2 ne nf nch e n, free p.1 p.2 nch e n, ne, nf, d⟩
theorem Inv.un {t' : Nat} (I : Inv X pins σ H s) (u : Un X.fs [] H H' s.heap h') (hok : HOk X.prog X.w H' h') : Inv X pins σ H' { s with heap := h', toks := t' } := by
  obtain ⟨m, ⟨o, es, ep, ho, r⟩, _⟩ := id I.loc
  obtain ⟨sl, hL⟩ := u.any ho I.free (by simp)
  exact I.step (g' := s.gens) (d' := s.drawn) (ch := []) (fun _ z => nomatch z) (fun b o _ hb _ e n => u.keep b o e n hb (by simp)) (fun b o _ hb _ e n => u.slot b o e n hb (by simp)) (fun b o _ e n => u.free b o e n (by simp)) (fun b o _ e => u.there b o e (by simp)) u.tups u.frzs u.tbls (fun m' hm => by
    obtain ⟨o', es', ep', ho', r'⟩ := hm
    rw [ho] at ho'; cases ho'
    exact ⟨_, es', ep', hL, r'⟩) hok I.bare
theorem Inv.call {g' : Array GenState} {t' : Nat} {d' : Drawn} {ch : List Addr} (I : Inv X pins σ H s) (u : Un (frs X.stack) ch H H' s.heap h') (hok : HOk X.prog X.w H' h') (hg : AllBare g')
    (hch : ∀ b ∈ ch, (b ∈ X.ex ∨ X.s₀.heap.objs.size ≤ b) ∧ b ≠ X.env.locals ∧ (∀ x c, X.env.cells.lookup x = some c → c ≠ b) ∧ ∀ p ∈ X.pn ++ pins, p.1 ≠ b) :
    Inv X pins σ H' { s with heap := h', gens := g', drawn := d', toks := t' } := by
  obtain ⟨m, ⟨o, es, ep, ho, r⟩, _⟩ := id I.loc
  obtain ⟨sl, hL⟩ := u.any ho I.free fun z => (hch _ z).2.1 rfl
  exact I.step (ch := ch) hch (fun b o hL hb hc e n => u.keep b o e n (fun z => (List.mem_cons.mp (I.stkSub b z)).elim hL hb) hc) (fun b o _ _ hc e n => u.any e n hc) (fun b o hc e n => u.free b o e n hc) (fun b o hc e => u.there b o e hc) u.tups u.frzs u.tbls (fun m' hm => by
    obtain ⟨o', es', ep', ho', r'⟩ := hm
    rw [ho] at ho'; cases ho'
    exact ⟨_, es', ep', hL, r'⟩) hok hg
theorem Inv.turned {t' : Nat} {it : Addr} (I : Inv X pins σ H s) (k : ∀ b o, b ≠ it → s.heap.get? b = some o → h'.get? b = some o) (hn : H it = none) (hL : it ≠ X.env.locals)
    (h1 : it ∈ X.ex ∨ X.s₀.heap.objs.size ≤ it) (h2 : ∀ x c, X.env.cells.lookup x = some c → c ≠ it) (h3 : ∀ p ∈ X.pn ++ pins, p.1 ≠ it) : Inv X pins σ H { s with heap := h', toks := t' } := by
  have nit : ∀ b u, H b = some u → b ≠ it := fun b u e z => by rw [z, hn] at e; cases e
  refine I.step (g' := s.gens) (d' := s.drawn) (ch := [it]) (fun b hb => ?_) (fun b o _ _ hc e _ => k b o (fun z => hc (by simp [z])) e) (fun b o _ _ hc e _ => ⟨o.slots, k b o (fun z => hc (by simp [z])) e⟩) (fun _ _ _ _ n => n)
    (fun b o hc e => ⟨o, k b o (fun z => hc (by simp [z])) e⟩) (fun _ _ e => e) (fun _ _ _ e => e) (fun b ps e => ⟨#[], by rw [e]; simp⟩) (fun m hm => ?_) (fun b u e => ?_) I.bare
  · have e : b = it := by simpa using hb
    subst e
    exact ⟨h1, hL, h2, h3⟩
  · obtain ⟨o, es, ep, ho, r⟩ := hm
    exact ⟨o, es, ep, k _ o (Ne.symm hL) ho, r⟩
  · refine (I.hok b u e).stay (fun c v hc q => k c v ?_ q) (fun _ q => q) fun _ _ q => q
    rcases hc with z | z
    · rw [z]; exact nit b u e
    · exact nit c _ z
theorem Inv.tok (I : Inv X pins σ H s) (t : Nat) : Inv X pins σ H { s with toks := t } := I.un (h' := s.heap) (t' := t) Un.refl I.hok
theorem Inv.kept {t' : Nat} (I : Inv X pins σ H s) (k : ∀ b u, s.heap.get? b = some u → h'.get? b = some u) : Inv X pins σ H { s with heap := h', toks := t' } := I.un (Un.kept k) (I.hok.kept k)
theorem Inv.laid {a : Addr} {o : HO} {t' : Nat} (I : Inv X pins σ H s) (k : ∀ b u, s.heap.get? b = some u → h'.get? b = some u) (hp : s.heap.objs.size ≤ a) (new : ObjOk X.prog X.w (upd H a o) h' a o) :
    Inv X pins σ (upd H a o) { s with heap := h', toks := t' } := I.un (Un.laid k hp (I.hok.fresh hp)) (I.hok.laid k hp new)
theorem Inv.write {x e : Addr} {o : HO} {t' : Nat} (I : Inv X pins σ H s) (mu : Mut (H x)) (he : e = x ∨ H e = some (.own x)) (k : ∀ b u, b ≠ e → s.heap.get? b = some u → h'.get? b = some u) (heo : ∃ u, h'.get? e = some u)
    (new : ObjOk X.prog X.w (upd H x o) h' x o) : Inv X pins σ (upd H x o) { s with heap := h', toks := t' } := I.un (Un.write mu he k heo) (I.hok.write mu he k heo new)
theorem Inv.pins_of {pins' : List (Addr × Obj)} (I : Inv X pins σ H s) (h : ∀ p ∈ pins', s.heap.get? p.1 = some p.2 ∧ H p.1 = none ∧ p.1 ≠ X.env.locals ∧ p.1 ∉ X.fs ∧ ∀ v, p.2.data ≠ .cell v) : Inv X pins' σ H s :=
  ⟨I.ok, I.os, I.bare, I.base, I.loc, I.cell, I.free, I.freeC, fun p hp => (List.mem_append.mp hp).elim (fun z => I.pin p (List.mem_append_left _ z)) (h p), I.hok, I.len⟩
theorem nodup_ix {N : List Str} (hN : N.Nodup) {i j : Nat} {x : Str} (a : N[i]? = some x) (b : N[j]? = some x) : i = j := by
  obtain ⟨h1, e1⟩ := List.getElem?_eq_some_iff.mp a
  obtain ⟨h2, e2⟩ := List.getElem?_eq_some_iff.mp b
  exact (List.getElem_inj hN).mp (e1.trans e2.symm)
theorem store_ok2 {M : Model} {A : Around} {E : Value → Shared → Prop} {i : Nat} {x : Str} {v : V} {u : Value} {Q : Unit → Shared → Prop} (I : Inv X pins σ H s) (hN : X.N.Nodup) (hi : X.N[i]? = some x) (hx : Loc X.env.scope x) (r : RelV v u)
    (h : ∀ s', Inv X pins (σ.set i (some v)) H s' → (∃ a, Heap.SameBut a s.heap s'.heap ∧ (a = X.env.locals ∨ X.env.cells.lookup x = some a)) → Q () s') (hf : X.fn x = true ∨ X.env.scope.names.lookup x = some .local := by first | exact .inl rfl | exact .inr rfl | assumption) : wpAny M A (storeName X.env x u) Q E s := by
  obtain ⟨m, hn, hl⟩ := id I.loc
  have hcls : (X.env.scope.kind == .class || (X.env.scope.kind == .module && X.env.locals != X.env.globals)) = false := by rw [I.ok.kind]; rfl
  have hiσ : i < σ.length := by rw [I.len]; exact (List.getElem?_eq_some_iff.mp hi).1
  have cne := I.cne
  have tracked : ∀ {a : Addr} {h' : Heap}, (∃ o, s.heap.get? a = some o ∧ H a = none) → Heap.SameBut a s.heap h' → HOk X.prog X.w H h' := fun {a h'} ha hs b ob e => by
    obtain ⟨_, _, hfree⟩ := ha
    refine (I.hok b ob e).stay (fun c w' hc q => (hs.2 c ?_).trans q) (fun _ q => q) fun _ _ q => q
    rintro rfl
    rcases hc with rfl | hc
    · rw [hfree] at e; cases e
    · rw [hfree] at hc; cases hc
  rcases hx with hk | hk
  · refine wpAny_storeName_local hk hn (fun h' hn' hs => ?_) hcls
    obtain ⟨oL, _, _, hoL, _⟩ := id hn
    refine h _ ⟨I.ok, I.os, I.bare, ⟨fun b o e n hb hx => ?_, fun b o e n hb hx => ?_, I.base.free, fun b o e hx => ?_, I.base.tups, I.base.frzs, I.base.tbls⟩, ⟨_, hn', fun j y v' e1 e2 e3 => ?_⟩, fun y c e => ?_, I.free, I.freeC, fun p hp => ?_, tracked ⟨oL, hoL, I.free⟩ hs, by simpa using I.len⟩ ⟨_, hs, .inl rfl⟩
    · exact (hs.2 b (Nat.ne_of_lt (Nat.lt_of_lt_of_le (Heap.lt_size e) I.ok.above))).trans (I.base.keep b o e n hb hx)
    · obtain ⟨sl, e1⟩ := I.base.slot b o e n hb hx
      exact ⟨sl, (hs.2 b (Nat.ne_of_lt (Nat.lt_of_lt_of_le (Heap.lt_size e) I.ok.above))).trans e1⟩
    · obtain ⟨o', e1⟩ := I.base.there b o e hx
      exact ⟨o', (hs.2 b (Nat.ne_of_lt (Nat.lt_of_lt_of_le (Heap.lt_size e) I.ok.above))).trans e1⟩
    · by_cases hj : j = i
      · subst hj
        rw [hi] at e1; cases e1
        rw [List.getElem?_set_self hiσ] at e2
        cases e2
        exact ⟨u, r, .inl ⟨hk, by simp⟩⟩
      · rw [List.getElem?_set_ne (Ne.symm hj)] at e2
        obtain ⟨u', r', q⟩ := hl j y v' e1 e2 e3
        refine ⟨u', r', ?_⟩
        rcases q with ⟨k, e⟩ | ⟨k, c, e, z⟩
        · refine .inl ⟨k, ?_⟩
          have : y ≠ x := fun e => hj (nodup_ix hN e1 (e ▸ hi))
          simp [this, e]
        · exact .inr ⟨k, c, e, z.sameBut hs (cne y c e)⟩
    · obtain ⟨w', z⟩ := I.cell y c e
      exact ⟨w', z.sameBut hs (cne y c e)⟩
    · obtain ⟨e, n, ne, nf, d⟩ := I.pin p hp
      exact ⟨(hs.2 p.1 ne).trans e, n, ne, nf, d⟩
  · have hfn : X.fn x = true := by
      rcases hf with z | z
      · exact z
      · rw [z] at hk; cases hk
    obtain ⟨c, hc⟩ := I.ok.has x (.inl hk)
    obtain ⟨w', z⟩ := I.cell x c hc
    refine wpAny_storeName_cell I.ok.kind hk hc z (fun h' hc' hs => ?_)
    obtain ⟨oc, hoc, hocd⟩ := id z
    refine h { s with heap := h' } ⟨I.ok, I.os, I.bare, ⟨fun b o e n hb hx => ?_, fun b o e n hb hx => ?_, I.base.free, fun b o e hx => ?_, I.base.tups, I.base.frzs, I.base.tbls⟩, ⟨m, hn.sameBut hs (Ne.symm (cne x c hc)), fun j y v' e1 e2 e3 => ?_⟩, fun y c' e => ?_, I.free, I.freeC, fun p hp => ?_, tracked ⟨oc, hoc, I.freeC x c hc⟩ hs, by simpa using I.len⟩ ⟨c, hs, .inr hc⟩
    · exact (hs.2 b (Nat.ne_of_lt (Nat.lt_of_lt_of_le (Heap.lt_size e) (I.ok.cab x c hfn hc)))).trans (I.base.keep b o e n hb hx)
    · obtain ⟨sl, e1⟩ := I.base.slot b o e n hb hx
      exact ⟨sl, (hs.2 b (Nat.ne_of_lt (Nat.lt_of_lt_of_le (Heap.lt_size e) (I.ok.cab x c hfn hc)))).trans e1⟩
    · obtain ⟨o', e1⟩ := I.base.there b o e hx
      exact ⟨o', (hs.2 b (Nat.ne_of_lt (Nat.lt_of_lt_of_le (Heap.lt_size e) (I.ok.cab x c hfn hc)))).trans e1⟩
    · by_cases hj : j = i
      · subst hj
        rw [hi] at e1; cases e1
        rw [List.getElem?_set_self hiσ] at e2
        cases e2
        exact ⟨u, r, .inr ⟨.inl hk, c, hc, hc'⟩⟩
      · rw [List.getElem?_set_ne (Ne.symm hj)] at e2
        obtain ⟨u', r', q⟩ := hl j y v' e1 e2 e3
        refine ⟨u', r', ?_⟩
        rcases q with q | ⟨k, c', e, z'⟩
        · exact .inl q
        · refine .inr ⟨k, c', e, z'.sameBut hs ?_⟩
          rintro rfl
          exact hj (nodup_ix hN e1 (I.ok.inj _ _ _ e hc ▸ hi))
    · by_cases hcc : c' = c
      · subst hcc; exact ⟨_, hc'⟩
      · obtain ⟨w2, z2⟩ := I.cell y c' e
        exact ⟨w2, z2.sameBut hs hcc⟩
    · obtain ⟨e, n, ne, nf, d⟩ := I.pin p hp
      refine ⟨(hs.2 p.1 ?_).trans e, n, ne, nf, d⟩
      intro q
      rw [q, hoc] at e
      have q' : oc = p.2 := Option.some.inj e
      exact d w' (by rw [← q']; exact hocd)
theorem store_ok {M : Model} {A : Around} {E : Value → Shared → Prop} {i : Nat} {x : Str} {v : V} {u : Value} {Q : Unit → Shared → Prop} (I : Inv X pins σ H s) (hN : X.N.Nodup) (hi : X.N[i]? = some x) (hx : Loc X.env.scope x) (r : RelV v u)
    (h : ∀ s', Inv X pins (σ.set i (some v)) H s' → Q () s') (hf : X.fn x = true ∨ X.env.scope.names.lookup x = some .local := by first | exact .inl rfl | exact .inr rfl | assumption) : wpAny M A (storeName X.env x u) Q E s :=
  store_ok2 I hN hi hx r (fun s' I' _ => h s' I') hf
theorem Inv.call' {s' : Shared} {ch : List Addr} (I : Inv X pins σ H s) (ho : s'.os = s.os) (u : Un (frs X.stack) ch H H' s.heap s'.heap) (hok : HOk X.prog X.w H' s'.heap) (hg : AllBare s'.gens)
    (hch : ∀ b ∈ ch, (b ∈ X.ex ∨ X.s₀.heap.objs.size ≤ b) ∧ b ≠ X.env.locals ∧ (∀ x c, X.env.cells.lookup x = some c → c ≠ b) ∧ ∀ p ∈ X.pn ++ pins, p.1 ≠ b) : Inv X pins σ H' s' := by
  obtain ⟨h', g', d', t', o'⟩ := s'
  have e : o' = s.os := ho
  subst e
  exact I.call (g' := g') (t' := t') (d' := d') u hok hg hch
end
abbrev XK := Value → Option Addr → Hp → Prop
abbrev St := List (Option V)
abbrev VK := V → Hp → Prop
abbrev TE := St → Hp → VK → Prop
abbrev TT := St → Hp → (Bool → Hp → Prop) → Prop
abbrev TA := St → Hp → (List V → Hp → Prop) → Prop
structure Ends where
  nx : St → Hp → Prop
  rt : VK
  bk : St → Hp → Prop := fun _ _ => False
  ct : St → Hp → Prop := fun _ _ => False
abbrev TS := Ends → St → Hp → Prop
def EP (X : Cx) (pins : List (Addr × Obj)) (σ : St) (Q : VK) (u : Value) (s' : Shared) : Prop := ∃ v H', Inv X pins σ H' s' ∧ RelV v u ∧ Q v H'
def TP (X : Cx) (pins : List (Addr × Obj)) (σ : St) (Q : Bool → Hp → Prop) (b : Bool) (s' : Shared) : Prop := ∃ H', Inv X pins σ H' s' ∧ Q b H'
def AP (X : Cx) (pins : List (Addr × Obj)) (σ : St) (Q : List V → Hp → Prop) (us : List Value) (s' : Shared) : Prop := ∃ vs H', Inv X pins σ H' s' ∧ Vals vs us ∧ Q vs H'
def SP (X : Cx) (pins : List (Addr × Obj)) (D : Ends) (f : Flow) (s' : Shared) : Prop :=
  match f with
  | .next => ∃ σ' H', Inv X pins σ' H' s' ∧ D.nx σ' H'
  | .brk => ∃ σ' H', Inv X pins σ' H' s' ∧ D.bk σ' H'
  | .cont => ∃ σ' H', Inv X pins σ' H' s' ∧ D.ct σ' H'
  | .ret u => ∃ v σ' H', Inv X pins σ' H' s' ∧ RelV v u ∧ D.rt v H'
def PE (X : Cx) (e : Expr) (t : TE) : Prop :=
  ∀ (pins : List (Addr × Obj)) (s : Shared) (σ : St) (H : Hp) (Q : VK), Inv X pins σ H s → t σ H Q → wpAny (model X.prog X.w) X.A (eval e X.env) (EP X pins σ Q) X.xe s
def PT (X : Cx) (e : Expr) (t : TT) : Prop :=
  ∀ (pins : List (Addr × Obj)) (s : Shared) (σ : St) (H : Hp) (Q : Bool → Hp → Prop), Inv X pins σ H s → t σ H Q → wpAny (model X.prog X.w) X.A (isTrue e X.env (eval e X.env)) (TP X pins σ Q) X.xe s
def PW (X : Cx) (e : Expr) (t : TT) : Prop :=
  ∀ (whole : Sem Value) (pins : List (Addr × Obj)) (s : Shared) (σ : St) (H : Hp) (Q : Bool → Hp → Prop), Inv X pins σ H s → t σ H Q → wpAny (model X.prog X.w) X.A (isTrue e X.env whole) (TP X pins σ Q) X.xe s
theorem PW.pt {X : Cx} {e : Expr} {t : TT} (h : PW X e t) : PT X e t := h _
def PA (X : Cx) (es : List Expr) (t : TA) : Prop :=
  ∀ (pos : Pos) (pins : List (Addr × Obj)) (s : Shared) (σ : St) (H : Hp) (Q : List V → Hp → Prop), Inv X pins σ H s → t σ H Q → wpAny (model X.prog X.w) X.A (spliced (backTo pos (starEach es X.env))) (AP X pins σ Q) X.xe s
def PS (X : Cx) (st : Stmt) (t : TS) : Prop :=
  ∀ (pins : List (Addr × Obj)) (s : Shared) (σ : St) (H : Hp) (D : Ends), Inv X pins σ H s → t D σ H → wpAny (model X.prog X.w) X.A (exec st X.env) (SP X pins D) X.xe s
def PSs (X : Cx) (st : List Stmt) (t : TS) : Prop :=
  ∀ (pins : List (Addr × Obj)) (s : Shared) (σ : St) (H : Hp) (D : Ends), Inv X pins σ H s → t D σ H → wpAny (model X.prog X.w) X.A (execs st X.env) (SP X pins D) X.xe s
theorem thn {α : Type} {t : Sem α} {Q Q' : α → Shared → Prop} {M : Model} {A : Around} {E : Value → Shared → Prop} {s : Shared} (h : wpAny M A t Q E s) (hQ : ∀ a s, Q a s → Q' a s) : wpAny M A t Q' E s := wpAny_mono h hQ fun _ _ x => x
end L2
namespace L2
open PySem PySem.Spec PyProof.Rows
section
variable {X : Cx}
def tVar (i : Nat) : TE := fun σ H Q => ∃ v, σ[i]? = some (some v) ∧ Q v H
def tC (v : V) : TE := fun _ H Q => Q v H
theorem pe_var {i : Nat} {x : Str} {pos : Pos} (hN : X.N[i]? = some x) (hv : Vis X.env.scope x) (hd : (x == ("__debug__" : Str)) = false := by decide) (hcd : (x == ("__classdict__" : Str)) = false := by decide) : PE X (.Name x pos) (tVar i) := by
  intro pins s σ H Q I h
  obtain ⟨v, e, h⟩ := h
  obtain ⟨m, hn, hl⟩ := I.loc
  obtain ⟨u, r, l⟩ := hl i x v hN e hv
  have fin : EP X pins σ Q u s := ⟨v, H, I, r, h⟩
  rcases l with ⟨hk, hm⟩ | ⟨hk, c, hc, hcell⟩
  · exact wpAny_Name (wpAny_loadName_local I.ok.kind hk hn hm fin) hd
  · rcases hk with hk | hk
    · exact wpAny_Name (wpAny_loadName_cell I.ok.kind hk hc hcell fin) hd
    · exact wpAny_Name (wpAny_loadName_free I.ok.kind hk hc hcell fin hcd) hd
theorem pe_int {i j pos} : PE X (.Constant (.int i) j pos) (tC (.int i)) := fun _ _ _ H _ I h => wpAny_Constant_int ⟨.int i, H, I.tok _, ⟨_, rfl⟩, h⟩
theorem pe_bl {b j pos} : PE X (.Constant (.bool b) j pos) (tC (.bl b)) := fun _ _ _ H _ I h => Constant_bool ⟨.bl b, H, I, rfl, h⟩
theorem pe_non {j pos} : PE X (.Constant .none j pos) (tC .non) := fun _ _ _ H _ I h => Constant_none ⟨.non, H, I, rfl, h⟩
theorem pe_str {x j pos} : PE X (.Constant (.str x) j pos) (tC (.str x)) := fun _ _ _ H _ I h => Calls.Constant_str ⟨.str x, H, I.tok _, ⟨_, rfl⟩, h⟩
def Gl (X : Cx) (x : Str) : Prop := X.env.kindOf x = some .globalImplicit
theorem ld_glob {E : Value → Shared → Prop} {pins : List (Addr × Obj)} {s : Shared} {σ : St} {H : Hp} {x : Str} {u : Value} {pos : Pos} {Q : Value → Shared → Prop} (I : Inv X pins σ H s) (hg : Gl X x) (hm : X.mg x = some u) (h : Q u s)
    (hd : (x == ("__debug__" : Str)) = false := by decide) : wpAny (model X.prog X.w) X.A (eval (.Name x pos) X.env) Q E s :=
  Calls.Name_function_global I.ok.kind hg (Calls.loadGlobal_global (by rw [I.ok.glob]; exact I.mod.glob.keeps I.bk) hm h) hd
theorem ld_blt {E : Value → Shared → Prop} {pins : List (Addr × Obj)} {s : Shared} {σ : St} {H : Hp} {x : Str} {u : Value} {pos : Pos} {Q : Value → Shared → Prop} (I : Inv X pins σ H s) (hg : Gl X x) (hm : X.mg x = none) (hv : bootBuiltins x = some u) (h : Q u s)
    (hn : x ≠ "__name__" := by decide) (hd : (x == ("__debug__" : Str)) = false := by decide) : wpAny (model X.prog X.w) X.A (eval (.Name x pos) X.env) Q E s := by
  obtain ⟨mb, h1, h2⟩ := I.mod.blt
  exact Calls.Name_function_global I.ok.kind hg (Calls.loadGlobal_builtin (by rw [I.ok.glob]; exact I.mod.glob.keeps I.bk) hm (by rw [I.ok.blt]; exact h1.keeps I.bk) ((h2 x hn).trans hv) h) hd
theorem pe_bltn {x : Str} {v : V} {u : Value} {pos : Pos} (hg : Gl X x) (hm : X.mg x = none) (hv : bootBuiltins x = some u) (r : RelV v u) (hn : x ≠ "__name__" := by decide) (hd : (x == ("__debug__" : Str)) = false := by decide) : PE X (.Name x pos) (tC v) :=
  fun _ _ _ H _ I h => ld_blt I hg hm hv ⟨v, H, I, r, h⟩ hn hd
variable {a b : Expr} {ta tb : TE} {pos : Pos}
def tB (t : TE) : TT := fun σ H Q => t σ H fun x H1 => ∃ c, x = .bl c ∧ Q c H1
theorem pt_val {e : Expr} {t : TE} (h : PE X e t) (he : ∀ whole, isTrue e X.env whole = (do let v ← whole; standAt e.pos; holding [v] (truthy v)) := by intro _; rfl) : PT X e (tB t) := by
  intro pins s σ H Q I hw
  refine isTrue_plain (thn (h pins s σ H _ I hw) fun v s1 ⟨x, H1, I1, r1, q1⟩ => ?_) (he _)
  obtain ⟨d, rfl, q⟩ := q1
  cases r1
  exact wpAny_truthy_bool ⟨H1, I1, q⟩
variable {tA tB' : TT} {rest : List Expr}
def tAnd (t u : TT) : TT := fun σ H Q => t σ H fun c H1 => if c = true then u σ H1 Q else Q false H1
def tOr (t u : TT) : TT := fun σ H Q => t σ H fun c H1 => if c = true then Q true H1 else u σ H1 Q
def tNot (t : TT) : TT := fun σ H Q => t σ H fun c H1 => Q (!c) H1
theorem pw_and1 (ha : PT X a tA) : PW X (.BoolOp .And [a] pos) tA := by
  intro wh pins s σ H Q I h
  refine isTrue_and (thn (ha pins s σ H Q I h) fun c s1 e => ?_)
  cases c with
  | true => exact isTrue_and_nil e
  | false => exact e
theorem pw_or1 (ha : PT X a tA) : PW X (.BoolOp .Or [a] pos) tA := by
  intro wh pins s σ H Q I h
  refine isTrue_or (thn (ha pins s σ H Q I h) fun c s1 e => ?_)
  cases c with
  | false => exact isTrue_or_nil e
  | true => exact e
theorem pw_and (ha : PT X a tA) (hb : PW X (.BoolOp .And (b :: rest) pos) tB') : PW X (.BoolOp .And (a :: b :: rest) pos) (tAnd tA tB') := by
  intro wh pins s σ H Q I h
  refine isTrue_and (thn (ha pins s σ H _ I h) fun c s1 ⟨H1, I1, q1⟩ => ?_)
  cases c with
  | true => exact hb wh pins s1 σ H1 Q I1 q1
  | false => exact ⟨H1, I1, q1⟩
theorem pw_or (ha : PT X a tA) (hb : PW X (.BoolOp .Or (b :: rest) pos) tB') : PW X (.BoolOp .Or (a :: b :: rest) pos) (tOr tA tB') := by
  intro wh pins s σ H Q I h
  refine isTrue_or (thn (ha pins s σ H _ I h) fun c s1 ⟨H1, I1, q1⟩ => ?_)
  cases c with
  | true => exact ⟨H1, I1, q1⟩
  | false => exact hb wh pins s1 σ H1 Q I1 q1
theorem pt_not (ha : PT X a tA) : PT X (.UnaryOp .Not a pos) (tNot tA) := by
  intro pins s σ H Q I h
  exact isTrue_not (ha pins s σ H (fun c H1 => Q (!c) H1) I h)
def tAndV (ta tb : TE) : TE := fun σ H Q => ta σ H fun x H1 => ∃ c, x = .bl c ∧ if c = true then tb σ H1 Q else Q (.bl false) H1
theorem pe_one {op} {t : TE} (h : PE X a t) : PE X (.BoolOp op [a] pos) t := fun pins s σ H Q I hw => BoolOp_one (h pins s σ H Q I hw)
theorem pe_and (ha : PE X a ta) (hb : PE X (.BoolOp .And (b :: rest) pos) tb) : PE X (.BoolOp .And (a :: b :: rest) pos) (tAndV ta tb) := by
  intro pins s σ H Q I h
  refine BoolOp_and (thn (ha pins s σ H _ I h) fun v s1 ⟨x, H1, I1, r1, q1⟩ => ?_)
  obtain ⟨c, rfl, q1⟩ := q1
  cases r1
  refine wpAny_truthy_bool ?_
  cases c with
  | true => exact hb pins s1 σ H1 Q I1 q1
  | false => exact ⟨.bl false, H1, I1, rfl, q1⟩
end
end L2
namespace L2
open PySem PySem.Spec PyProof.Rows
def SqL (K : PySem.W.Frag) (H : Hp) (a : Addr) (xs : List V) : Prop :=
  Rd H a (.lst xs) ∨
    ∃ (o : Obj) (its : Array Value) (n : Nat), K.lookup a = some o ∧ o.cls = .type "list" ∧ o.dict = none ∧ o.data = .seq its n ∧ its.size ≤ sizeLine ∧ Vals xs its.toList
def SqT (K : PySem.W.Frag) (H : Hp) (a : Addr) (xs : List V) : Prop :=
  Rd H a (.tup xs) ∨
    ∃ (o : Obj) (its : Array Value) (n : Nat), K.lookup a = some o ∧ o.cls = .type "tuple" ∧ o.data = .seq its n ∧ its.size ≤ sizeLine ∧ Vals xs its.toList
def absV : Value → Option V
  | .none => some .non
  | .bool b => some (.bl b)
  | .int i _ => some (.int i)
  | .str x _ => some (.str x)
  | .bytes b _ => some (.byt b)
  | .float b _ => some (.flt b)
  | .ref a => some (.ref a)
  | .type n => some (.ty n)
  | _ => none
theorem RelV.abs {x : V} {u : Value} (r : RelV x u) : absV u = some x := by
  cases x with
  | non => cases r; rfl
  | bl _ => cases r; rfl
  | int _ => obtain ⟨t, rfl⟩ := r; rfl
  | str _ => obtain ⟨t, rfl⟩ := r; rfl
  | byt _ => obtain ⟨t, rfl⟩ := r; rfl
  | flt _ => obtain ⟨t, rfl⟩ := r; rfl
  | ref _ => cases r; rfl
  | ty _ => cases r; rfl
theorem RelV.inj {x y : V} {u : Value} (r : RelV x u) (q : RelV y u) : x = y := Option.some.inj (r.abs.symm.trans q.abs)
theorem Vals.inj : ∀ {xs ys : List V} {us : List Value}, Vals xs us → Vals ys us → xs = ys
  | _, _, _, .nil, .nil => rfl
  | _, _, _, .cons r t, .cons r' t' => by rw [r.inj r', Vals.inj t t']
section
variable {X : Cx} {pins : List (Addr × Obj)} {σ : St} {H : Hp} {s : Shared} {a : Addr} {xs ys : List V}
theorem SqL.of {K : PySem.W.Frag} (h : H a = some (.lst xs)) : SqL K H a xs := .inl (.inl h)
theorem SqT.of {K : PySem.W.Frag} (h : H a = some (.tup xs)) : SqT K H a xs := .inl (.inl h)
theorem Inv.list (I : Inv X pins σ H s) (h : SqL X.K H a xs) : ∃ its : List Value, Vals xs its ∧ PlainL s.heap a its.toArray ∧ xs.length ≤ sizeLine := by
  rcases h with h | ⟨o, its, n, hk, hc, hd, hs, hz, r⟩
  · obtain ⟨z, its, n, r, e⟩ := h.ok I.hok
    exact ⟨its, r, ⟨_, n, e, rfl, rfl, rfl⟩, z⟩
  · refine ⟨its.toList, r, ⟨o, n, I.kIn a o hk, hc, hd, by simpa using hs⟩, ?_⟩
    have e := r.length
    simp only [Array.length_toList] at e
    omega
theorem Inv.tuple (I : Inv X pins σ H s) (h : SqT X.K H a xs) : ∃ its : List Value, Vals xs its ∧ IsTup s.heap a its.toArray ∧ xs.length ≤ sizeLine := by
  rcases h with h | ⟨o, its, n, hk, hc, hs, hz, r⟩
  · obtain ⟨z, its, r, p⟩ := h.ok I.hok
    exact ⟨its, r, p, z⟩
  · refine ⟨its.toList, r, ⟨o, I.kIn a o hk, hc, n, by simpa using hs⟩, ?_⟩
    have e := r.length
    simp only [Array.length_toList] at e
    omega
theorem Inv.list_inj (I : Inv X pins σ H s) (h : SqL X.K H a xs) (h' : SqL X.K H a ys) : xs = ys := by
  obtain ⟨its, r, ⟨o, n, e, _, _, d⟩, _⟩ := I.list h
  obtain ⟨its', r', ⟨o', n', e', _, _, d'⟩, _⟩ := I.list h'
  rw [e] at e'; cases e'
  rw [d] at d'
  injection d' with d1 _
  have : its = its' := by simpa using congrArg Array.toList d1
  subst this
  exact r.inj r'
theorem Inv.tuple_inj (I : Inv X pins σ H s) (h : SqT X.K H a xs) (h' : SqT X.K H a ys) : xs = ys := by
  obtain ⟨its, r, ⟨o, e, _, n, d⟩, _⟩ := I.tuple h
  obtain ⟨its', r', ⟨o', e', _, n', d'⟩, _⟩ := I.tuple h'
  rw [e] at e'; cases e'
  rw [d] at d'
  injection d' with d1 _
  have : its = its' := by simpa using congrArg Array.toList d1
  subst this
  exact r.inj r'
end
abbrev Cx.wish (X : Cx) (E : Value → Shared → Prop) : Cx := { X with xe := E }
abbrev Cx.nox (X : Cx) : Cx := X.wish fun _ _ => False
theorem Cx.Ok.wish {X : Cx} (ok : X.Ok) (E : Value → Shared → Prop) : (X.wish E).Ok :=
  ⟨ok.mod, ok.kind, ok.glob, ok.blt, ok.above, ok.inj, ok.has, ok.cab, ok.hd, ok.frames, ok.stk, ok.exf, ok.bs, ok.bsz, ok.noex, ok.exfs, ok.funs, ok.frf⟩
theorem Cx.Ok.unwish {X : Cx} {E : Value → Shared → Prop} (ok : (X.wish E).Ok) : X.Ok :=
  ⟨ok.mod, ok.kind, ok.glob, ok.blt, ok.above, ok.inj, ok.has, ok.cab, ok.hd, ok.frames, ok.stk, ok.exf, ok.bs, ok.bsz, ok.noex, ok.exfs, ok.funs, ok.frf⟩
section
variable {X : Cx} {pins : List (Addr × Obj)} {σ : St} {H : Hp} {s : Shared} {E : Value → Shared → Prop}
theorem Inv.wish (I : Inv X pins σ H s) (E : Value → Shared → Prop) : Inv (X.wish E) pins σ H s := ⟨I.ok.wish E, I.os, I.bare, I.base, I.loc, I.cell, I.free, I.freeC, I.pin, I.hok, I.len⟩
theorem Inv.unwish (I : Inv (X.wish E) pins σ H s) : Inv X pins σ H s := ⟨I.ok.unwish, I.os, I.bare, I.base, I.loc, I.cell, I.free, I.freeC, I.pin, I.hok, I.len⟩
theorem SP.unwish {D : Ends} {f : Flow} {s' : Shared} (h : SP (X.wish E) pins D f s') : SP X pins D f s' := by
  cases f with
  | next => obtain ⟨σ', H', I, q⟩ := h; exact ⟨σ', H', I.unwish, q⟩
  | brk => obtain ⟨σ', H', I, q⟩ := h; exact ⟨σ', H', I.unwish, q⟩
  | cont => obtain ⟨σ', H', I, q⟩ := h; exact ⟨σ', H', I.unwish, q⟩
  | ret u => obtain ⟨v, σ', H', I, r, q⟩ := h; exact ⟨v, σ', H', I.unwish, r, q⟩
theorem PSs.nox {st : List Stmt} {t : TS} (h : PSs X.nox st t) : PSs X st t := fun pins s σ H D I hw =>
  wpAny_mono (h pins s σ H D (I.wish _) hw) (fun _ _ q => q.unwish) fun _ _ z => False.elim z
end
section
variable {X : Cx} {st : Stmt} {rest : List Stmt} {t u : TS} {e : Expr} {te : TE} {pos : Pos}
def tNext : TS := fun D σ H => D.nx σ H
def tSeq (t u : TS) : TS := fun D σ H => t { D with nx := u D } σ H
theorem pss_nil : PSs X [] tNext := fun _ _ σ H _ I h => wpAny_execs_nil ⟨σ, H, I, h⟩
theorem pss_cons (h1 : PS X st t) (h2 : PSs X rest u) : PSs X (st :: rest) (tSeq t u) := by
  intro pins s σ H D I h
  refine wpAny_execs_cons (thn (h1 pins s σ H { D with nx := u D } I h) fun f s1 q => ?_)
  cases f with
  | next =>
    obtain ⟨σ', H', I', q⟩ := q
    exact h2 pins s1 σ' H' D I' q
  | ret v => exact q
  | brk => exact q
  | cont => exact q
theorem pss_one (h1 : PS X st t) : PSs X [st] t := by
  intro pins s σ H D I h
  refine wpAny_execs_cons (thn (h1 pins s σ H D I h) fun f s1 q => ?_)
  cases f with
  | next => exact wpAny_execs_nil q
  | ret v => exact q
  | brk => exact q
  | cont => exact q
theorem Inv.quiet {pins : List (Addr × Obj)} {σ : St} {H : Hp} {s : Shared} (I : Inv X pins σ H s) : interactive X.env = false := by simp [interactive, I.ok.kind]
def tDrop (te : TE) : TS := fun D σ H => te σ H fun _ H1 => D.nx σ H1
theorem ps_expr (he : PE X e te) (hs : swapsWith e none pos.line X.env = pure false := by rfl) : PS X (.Expr e pos) (tDrop te) := by
  intro pins s σ H D I h
  exact wpAny_Expr_any (thn (he pins s σ H _ I h) fun v s1 ⟨x, H1, I1, r1, q1⟩ => ⟨σ, H1, I1, q1⟩) I.quiet hs
def tRet (te : TE) : TS := fun D σ H => te σ H D.rt
theorem ps_ret (he : PE X e te) : PS X (.Return (some e) pos) (tRet te) := by
  intro pins s σ H D I h
  exact wpAny_Return_some (thn (he pins s σ H _ I h) fun v s1 ⟨x, H1, I1, r1, q1⟩ => ⟨x, σ, H1, I1, r1, q1⟩)
def tIfS (c : TT) (t u : TS) : TS := fun D σ H => c σ H fun b H1 => if b = true then t D σ H1 else u D σ H1
theorem ps_if {c : Expr} {a b : List Stmt} {tc : TT} (hc : PT X c tc) (ha : PSs X a t) (hb : PSs X b u) : PS X (.If c a b pos) (tIfS tc t u) := by
  intro pins s σ H D I h
  refine wpAny_If (thn (hc pins s σ H _ I h) fun d s1 ⟨H1, I1, q1⟩ => ?_)
  cases d with
  | true => exact ha pins s1 σ H1 D I1 q1
  | false => exact hb pins s1 σ H1 D I1 q1
end
abbrev TG := V → St → Hp → (St → Hp → Prop) → Prop
abbrev TGs := List V → St → Hp → (St → Hp → Prop) → Prop
def PG (X : Cx) (target : Expr) (t : TG) : Prop :=
  ∀ (pins : List (Addr × Obj)) (s : Shared) (σ : St) (H : Hp) (v : V) (u : Value) (Q : St → Hp → Prop), Inv X pins σ H s → RelV v u → t v σ H Q →
    wpAny (model X.prog X.w) X.A (assign target X.env u) (fun _ s' => ∃ σ' H', Inv X pins σ' H' s' ∧ Q σ' H') X.xe s
def PGs (X : Cx) (ts : List Expr) (t : TGs) : Prop :=
  ∀ (pins : List (Addr × Obj)) (s : Shared) (σ : St) (H : Hp) (vs : List V) (us : List Value) (Q : St → Hp → Prop), Inv X pins σ H s → Vals vs us → t vs σ H Q →
    wpAny (model X.prog X.w) X.A (assignInOrder ((assignEach ts X.env).map (·.2)) us) (fun _ s' => ∃ σ' H', Inv X pins σ' H' s' ∧ Q σ' H') X.xe s
section
variable {X : Cx} {pos : Pos}
def gName (i : Nat) : TG := fun v σ H Q => Q (σ.set i (some v)) H
theorem pg_name {i : Nat} {x : Str} (hN : X.N.Nodup) (hi : X.N[i]? = some x) (hx : Loc X.env.scope x) (hf : X.fn x = true ∨ X.env.scope.names.lookup x = some .local := by first | exact .inl rfl | exact .inr rfl | assumption) : PG X (.Name x pos) (gName i) := by
  intro pins s σ H v u Q I r h
  exact wpAny_assign_Name (store_ok I hN hi hx r (fun s' I' => ⟨_, H, I', h⟩) hf)
def gNil : TGs := fun vs σ H Q => vs = [] ∧ Q σ H
def gCons (t : TG) (u : TGs) : TGs := fun vs σ H Q => ∃ v r, vs = v :: r ∧ t v σ H fun σ' H' => u r σ' H' Q
theorem pgs_nil : PGs X [] gNil := by
  intro pins s σ H vs us Q I r h
  obtain ⟨e, h⟩ := h
  subst e
  cases r
  exact assignInOrder_nil ⟨σ, H, I, h⟩
theorem pgs_cons {e : Expr} {es : List Expr} {t : TG} {u : TGs} (h1 : PG X e t) (h2 : PGs X es u)
    (hs : (assignEach (e :: es) X.env).map (·.2) = assign e X.env :: (assignEach es X.env).map (·.2) := by rfl) : PGs X (e :: es) (gCons t u) := by
  intro pins s σ H vs us Q I r h
  obtain ⟨v, vr, e1, h⟩ := h
  subst e1
  cases r with
  | cons r rr =>
    rw [hs]
    refine assignInOrder_cons (thn (h1 pins s σ H _ _ _ I r h) fun _ s1 ⟨σ1, H1, I1, q1⟩ => ?_)
    exact h2 pins s1 σ1 H1 _ _ Q I1 rr q1
def gTup (K : PySem.W.Frag) (n : Nat) (t : TGs) : TG := fun v σ H Q => ∃ a xs, v = .ref a ∧ SqT K H a xs ∧ xs.length = n ∧ t xs σ H Q
theorem pg_tup {es : List Expr} {k : Nat} {t : TGs} {n : Nat} (hc : X.calm = true) (h : PGs X es t)
    (hn : (assignEach es X.env).length = n := by rfl) (hst : (assignEach es X.env).findIdx? (·.1) = none := by rfl) : PG X (.Tuple es k pos) (gTup X.K n t) := by
  intro pins s σ H v u Q I r hw
  obtain ⟨a, xs, e1, hq, hl, hw⟩ := hw
  subst e1
  cases r
  obtain ⟨its, rv, ht, hz⟩ := I.tuple hq
  refine assign_Tuple_tuple (I.ok.hd hc) ht (by simp [hn, ← hl, rv.length]) hst fun h' hx => ?_
  have I1 : Inv X pins σ H { s with heap := h' } := I.kept (t' := s.toks) fun b o e => hx b o (Nat.ne_of_lt (Heap.lt_size e)) e
  exact h pins _ σ H xs _ Q I1 (by simpa using rv) hw
def tAsg (te : TE) (g : TG) : TS := fun D σ H => te σ H fun x H1 => g x σ H1 D.nx
theorem ps_asg {tg e : Expr} {te : TE} {g : TG} (he : PE X e te) (hg : PG X tg g) (hs : swapsWithSole [tg] e pos.line X.env = pure false := by rfl) (hw : swappedStores [tg] e X.env = pure none := by rfl)
    (h1 : (assignEach [tg] X.env).map (·.2) = [assign tg X.env] := by rfl) : PS X (.Assign [tg] e pos) (tAsg te g) := by
  intro pins s σ H D I h
  refine wpAny_Assign_stores (thn (he pins s σ H _ I h) fun v s1 ⟨x, H1, I1, r1, q1⟩ => ?_) hs hw
  rw [h1]
  exact thn (hg pins s1 σ H1 x v _ I1 r1 q1) fun _ s2 q => q
theorem ps_set {i : Nat} {x : Str} {e : Expr} {te : TE} {pos' : Pos} (hN : X.N.Nodup) (hi : X.N[i]? = some x) (hx : Loc X.env.scope x) (he : PE X e te) (hs : swapsWith e (some (.Name x pos')) pos.line X.env = pure false := by rfl) (hf : X.fn x = true ∨ X.env.scope.names.lookup x = some .local := by first | exact .inl rfl | exact .inr rfl | assumption) :
    PS X (.Assign [.Name x pos'] e pos) (tAsg te (gName i)) := by
  intro pins s σ H D I h
  refine wpAny_Assign_Name (thn (he pins s σ H _ I h) fun v s1 ⟨y, H1, I1, r1, q1⟩ => ?_) hs
  exact store_ok I1 hN hi hx r1 (fun s2 I2 => ⟨_, H1, I2, q1⟩) hf
end
section
variable {X : Cx} {pos : Pos}
def tWhile (c : TT) (tb : TS) : TS := fun D σ H => ∃ W : Nat → St → Hp → Prop, (∃ m, W m σ H) ∧ ∀ m σ H, W m σ H →
  c σ H fun b H1 => if b = true then ∃ N : St → Hp → Prop, (∀ σ' H', N σ' H' → ∃ m', m' < m ∧ W m' σ' H') ∧ tb { D with nx := N, ct := N, bk := D.nx } σ H1 else D.nx σ H1
theorem ps_while {c : Expr} {body : List Stmt} {tc : TT} {tb : TS} (hp : PassesOwn (model X.prog X.w) X.A X.env X.xe) (hc : PT X c tc) (hb : PSs X body tb) : PS X (.While c body [] pos) (tWhile tc tb) := by
  intro pins s σ H D I h
  obtain ⟨W, ⟨m0, w0⟩, turn⟩ := h
  refine wpAny_While (codeAny_whileLoop (fun n s' => ∃ σ' H', Inv X pins σ' H' s' ∧ W n σ' H') ?_ m0 ⟨σ, H, I, w0⟩)
  rintro n s1 ⟨σ1, H1, I1, w1⟩
  refine wpAny_passesOwn hp (thn (hc pins s1 σ1 H1 _ I1 (turn n σ1 H1 w1)) fun b s2 ⟨H2, I2, q2⟩ => ?_)
  cases b with
  | true =>
    obtain ⟨N, hN, q2⟩ := q2
    rw [if_pos rfl]
    refine wpAny_passesOwn hp (thn (hb pins s2 σ1 H2 _ I2 q2) fun f s3 q3 => ?_)
    cases f with
    | next =>
      obtain ⟨σ3, H3, I3, n3⟩ := q3
      obtain ⟨m', hm, w3⟩ := hN σ3 H3 n3
      exact ⟨m', hm, σ3, H3, I3, w3⟩
    | cont =>
      obtain ⟨σ3, H3, I3, n3⟩ := q3
      obtain ⟨m', hm, w3⟩ := hN σ3 H3 n3
      exact ⟨m', hm, σ3, H3, I3, w3⟩
    | brk => exact q3
    | ret v => exact q3
  | false =>
    rw [if_neg Bool.false_ne_true]
    exact wpAny_execs_nil ⟨σ1, H2, I2, q2⟩
end
structure It where
  go : Nat → Hp → Prop
  yld : Nat → Hp → V → Hp → Prop
  stop : Nat → Hp → Prop
def FpOk (X : Cx) (pins : List (Addr × Obj)) (H : Hp) (b : Addr) : Prop :=
  H b = none ∧ b ≠ X.env.locals ∧ b ∉ X.fs ∧ (b ∈ X.ex ∨ X.s₀.heap.objs.size ≤ b) ∧ (∀ x c, X.env.cells.lookup x = some c → c ≠ b) ∧ ∀ p ∈ X.pn ++ pins, p.1 ≠ b
theorem Inv.fpOk {X : Cx} {pins : List (Addr × Obj)} {σ : St} {H H' : Hp} {s : Shared} {b : Addr} (I : Inv X pins σ H s) (hb : s.heap.objs.size ≤ b) (hn : H' b = none) : FpOk X pins H' b := by
  refine ⟨hn, Nat.ne_of_gt (Nat.lt_of_lt_of_le I.lt hb), I.nofs hb, .inr (Nat.le_trans I.sz hb), fun x c e z => ?_, fun p hp z => ?_⟩
  · obtain ⟨v, q⟩ := I.cell x c e
    exact absurd (Nat.lt_of_lt_of_le q.lt (by rw [z]; exact hb)) (Nat.lt_irrefl _)
  · exact absurd (Nat.lt_of_lt_of_le (Heap.lt_size (I.pin p hp).1) (by rw [z]; exact hb)) (Nat.lt_irrefl _)
structure Turn (P : Program) (w : World) (K : PySem.W.Frag) (tg : Expr) (J : It) (fp : List Addr) (it : Addr) (tn : Nat → Heap → Prop) : Prop where
  mem : it ∈ fp
  obj : ∀ i h, tn i h → ∀ b ∈ fp, ∃ o, h.get? b = some o ∧ ∀ v, o.data ≠ .cell v
  keep : ∀ i h h', tn i h → (∀ b ∈ fp, ∀ o, h.get? b = some o → h'.get? b = some o) → tn i h'
  item : ∀ (X : Cx), X.prog = P → X.w = w → X.K = K → X.calm = true → ∀ (i : Nat) (pins : List (Addr × Obj)) (s : Shared) (σ : St) (H : Hp) (E : Value → Shared → Prop), Inv X pins σ H s → (∀ b ∈ fp, FpOk X pins H b) → tn i s.heap → J.go i H →
    wpAny (model P w) X.A (pyNext (.ref it)) (fun r s1 => ∃ u, r = some u ∧
      wpAny (model P w) X.A (letOwnedTupleGo tg (.ref it) u) (fun _ s2 => ∃ x H', Inv X pins σ H' s2 ∧ RelV x u ∧ J.yld i H x H' ∧ tn (i + 1) s2.heap ∧ ∀ b ∈ fp, H' b = none) E s1) E s
  done : ∀ (X : Cx), X.prog = P → X.w = w → X.K = K → X.calm = true → ∀ (i : Nat) (pins : List (Addr × Obj)) (s : Shared) (σ : St) (H : Hp) (E : Value → Shared → Prop), Inv X pins σ H s → (∀ b ∈ fp, FpOk X pins H b) → tn i s.heap → J.stop i H →
    wpAny (model P w) X.A (pyNext (.ref it)) (fun r s1 => r = none ∧ Inv X pins σ H s1) E s
  self : ∀ (A : Around) (i : Nat) (s : Shared) (Q : Value → Shared → Prop) (E : Value → Shared → Prop), tn i s.heap → Q (.ref it) s → wpAny (model P w) A (pyIter (.ref it)) Q E s
abbrev TI := St → Hp → (It → Hp → Prop) → Prop
def PIE (X : Cx) (pins : List (Addr × Obj)) (σ : St) (tg : Expr) (R : It → Hp → Prop) (itv : Value) (s2 : Shared) : Prop :=
  ∃ (it : Addr) (fp : List Addr) (tn : Nat → Heap → Prop) (J : It) (H' : Hp), itv = .ref it ∧ Inv X pins σ H' s2 ∧ Turn X.prog X.w X.K tg J fp it tn ∧ tn 0 s2.heap ∧ (∀ b ∈ fp, FpOk X pins H' b) ∧ R J H'
def PI (X : Cx) (tg iter : Expr) (wi : TI) : Prop :=
  ∀ (pins : List (Addr × Obj)) (s : Shared) (σ : St) (H : Hp) (R : It → Hp → Prop), Inv X pins σ H s → wi σ H R →
    wpAny (model X.prog X.w) X.A (eval iter X.env) (fun v s1 => wpAny (model X.prog X.w) X.A (pyIter v) (PIE X pins σ tg R) X.xe s1) X.xe s
theorem go_of {M : Model} {A : Around} {E : Value → Shared → Prop} {s : Shared} {tg : Expr} {it : Addr} {u : Value} {o : Obj} {n : String} {vs : Array Value} {Q : Unit → Shared → Prop} (ho : s.heap.get? it = some o) (hc : o.cls = .type n) (hd : o.data = .fields vs)
    (hn : ["enumerate", "zip", "dict_itemiterator", "dict_reverseitemiterator", "odict_iterator", "itertools.zip_longest", "itertools.pairwise"].contains n = false) (hQ : Q () s) : wpAny M A (letOwnedTupleGo tg (.ref it) u) Q E s := by
  unfold letOwnedTupleGo
  cases tg <;> first
    | exact wpAny_pure hQ
    | (cases u <;> first
        | exact wpAny_pure hQ
        | (refine wpAny_bind (wpAny_load ho ?_)
           rw [hc, hd]
           show wpAny M A (if (["enumerate", "zip", "dict_itemiterator", "dict_reverseitemiterator", "odict_iterator", "itertools.zip_longest", "itertools.pairwise"].contains n && vs[0]? == some (rawInt _)) = true then _ else _) Q E s
           rw [if_neg (by intro h; rw [hn, Bool.false_and] at h; cases h)]
           exact wpAny_pure hQ))
def Itl (K : PySem.W.Frag) (a : Addr) : It :=
  ⟨fun i H => ∃ xs x, SqL K H a xs ∧ xs[i]? = some x, fun i H x H' => H' = H ∧ ∀ xs, SqL K H a xs → xs[i]? = some x, fun i H => ∃ xs, SqL K H a xs ∧ xs.length ≤ i⟩
def Itt (K : PySem.W.Frag) (a : Addr) : It :=
  ⟨fun i H => ∃ xs x, SqT K H a xs ∧ xs[i]? = some x, fun i H x H' => H' = H ∧ ∀ xs, SqT K H a xs → xs[i]? = some x, fun i H => ∃ xs, SqT K H a xs ∧ xs.length ≤ i⟩
def Itr (lo : Int) (n : Nat) : It := ⟨fun i _ => i < n, fun i H x H' => H' = H ∧ x = .int (lo + i), fun i _ => n ≤ i⟩
theorem turn_list {P : Program} {w : World} {K : PySem.W.Frag} {tg : Expr} (a it : Addr) : Turn P w K tg (Itl K a) [it] it (fun i h => h.IsListIter it a i) where
  mem := by simp
  obj := fun i h st b hb => by
    have e : b = it := by simpa using hb
    subst e
    obtain ⟨o, e, c, d⟩ := st
    exact ⟨o, e, fun v z => by rw [d] at z; cases z⟩
  keep := fun i h h' st k => st.at fun o e => k it (by simp) o e
  item := by
    intro X hP hw hK hc i pins s σ H E I hf st hg
    subst hP hw hK
    obtain ⟨xs, x, hq, hx⟩ := hg
    obtain ⟨its, rv, p, hz⟩ := I.list hq
    obtain ⟨u, hu, ru⟩ := rv.get hx
    obtain ⟨f0, f1, f2, f3, f4, f5⟩ := hf it (by simp)
    refine wpAny_pyNext_list_item st p.isList (x := u) (by simpa using hu) fun h' st' sb => ?_
    have I1 : Inv X pins σ H { s with heap := h' } := I.turned (t' := s.toks) (fun b o hb e => (sb.2 b hb).trans e) f0 f1 f3 f4 f5
    obtain ⟨o, e, c, d⟩ := id st'
    exact ⟨u, rfl, go_of (s := { s with heap := h' }) e c d (by decide) ⟨x, H, I1, ru, ⟨rfl, fun ys hy => by rw [I.list_inj hy hq]; exact hx⟩, st', fun b hb => (hf b hb).1⟩⟩
  done := by
    intro X hP hw hK hc i pins s σ H E I hf st hg
    subst hP hw hK
    obtain ⟨xs, hq, hx⟩ := hg
    obtain ⟨its, rv, p, hz⟩ := I.list hq
    obtain ⟨f0, f1, f2, f3, f4, f5⟩ := hf it (by simp)
    have hl := rv.length
    exact wpAny_pyNext_list_end (I.ok.hd hc) st p.isList (by simp; omega) fun h' eb => ⟨rfl, I.turned (t' := s.toks) (fun b o hb e => eb b o hb e) f0 f1 f3 f4 f5⟩
  self := fun _ _ _ _ _ st h => wpAny_pyIter_listiter st h
theorem turn_tuple {P : Program} {w : World} {K : PySem.W.Frag} {tg : Expr} (a it : Addr) : Turn P w K tg (Itt K a) [it] it (fun i h => h.IsTupleIter it a i) where
  mem := by simp
  obj := fun i h st b hb => by
    have e : b = it := by simpa using hb
    subst e
    obtain ⟨o, e, c, d⟩ := st
    exact ⟨o, e, fun v z => by rw [d] at z; cases z⟩
  keep := fun i h h' st k => st.at fun o e => k it (by simp) o e
  item := by
    intro X hP hw hK hc i pins s σ H E I hf st hg
    subst hP hw hK
    obtain ⟨xs, x, hq, hx⟩ := hg
    obtain ⟨its, rv, p, hz⟩ := I.tuple hq
    obtain ⟨u, hu, ru⟩ := rv.get hx
    obtain ⟨f0, f1, f2, f3, f4, f5⟩ := hf it (by simp)
    refine wpAny_pyNext_tuple_item st (show s.heap.IsTuple a its.toArray from p) (x := u) (by simpa using hu) fun h' st' sb => ?_
    have I1 : Inv X pins σ H { s with heap := h' } := I.turned (t' := s.toks) (fun b o hb e => (sb.2 b hb).trans e) f0 f1 f3 f4 f5
    obtain ⟨o, e, c, d⟩ := id st'
    exact ⟨u, rfl, go_of (s := { s with heap := h' }) e c d (by decide) ⟨x, H, I1, ru, ⟨rfl, fun ys hy => by rw [I.tuple_inj hy hq]; exact hx⟩, st', fun b hb => (hf b hb).1⟩⟩
  done := by
    intro X hP hw hK hc i pins s σ H E I hf st hg
    subst hP hw hK
    obtain ⟨xs, hq, hx⟩ := hg
    obtain ⟨its, rv, p, hz⟩ := I.tuple hq
    obtain ⟨f0, f1, f2, f3, f4, f5⟩ := hf it (by simp)
    have hl := rv.length
    exact wpAny_pyNext_tuple_end (I.ok.hd hc) st (show s.heap.IsTuple a its.toArray from p) (by simp; omega) fun h' eb => ⟨rfl, I.turned (t' := s.toks) (fun b o hb e => eb b o hb e) f0 f1 f3 f4 f5⟩
  self := fun _ _ _ _ _ st h => wpAny_pyIter_tupleiter st h
theorem turn_range {P : Program} {w : World} {K : PySem.W.Frag} {tg : Expr} (it : Addr) (lo : Int) (n : Nat) : Turn P w K tg (Itr lo n) [it] it (fun i h => IsRangeIter h it (lo + (i : Nat) * 1) ((n : Int) - (i : Nat)) 1) where
  mem := by simp
  obj := fun i h st b hb => by
    have e : b = it := by simpa using hb
    subst e
    exact ⟨_, st, fun v z => by
      have z' : Data.fields _ = Data.cell v := z
      cases z'⟩
  keep := fun i h h' st k => k it (by simp) _ st
  item := by
    intro X hP hw hK hc i pins s σ H E I hf st hg
    subst hP hw hK
    obtain ⟨f0, f1, f2, f3, f4, f5⟩ := hf it (by simp)
    have W := Walks.range (prog := X.prog) (w := X.w) (I.ok.hd hc) it lo 1 n
    refine W.item i s _ _ hg st fun v h' tk hv st' kk => ?_
    obtain ⟨t, rfl⟩ := hv
    have I1 : Inv X pins σ H { s with heap := h', toks := tk } := I.turned (fun b o hb e => kk b o (by simpa using hb) e) f0 f1 f3 f4 f5
    refine ⟨_, rfl, go_of (s := { s with heap := h', toks := tk }) (n := "range_iterator") st' rfl rfl (by decide) ⟨.int (lo + i), H, I1, ⟨t, ?_⟩, ⟨rfl, rfl⟩, st', fun b hb => (hf b hb).1⟩⟩
    rw [Int.mul_one]
  done := by
    intro X hP hw hK hc i pins s σ H E I hf st hg
    subst hP hw hK
    obtain ⟨f0, f1, f2, f3, f4, f5⟩ := hf it (by simp)
    exact wpAny_pyNext_range_end (I.ok.hd hc) st (by have : n ≤ i := hg; omega) fun h' eb => ⟨rfl, I.turned (t' := s.toks) (fun b o hb e => eb b o hb e) f0 f1 f3 f4 f5⟩
  self := fun _ _ _ _ _ st h => wpAny_pyIter_rangeiter st h
end L2
namespace L2
open PySem PySem.Spec PyProof.Rows
section
variable {X : Cx} {tg : Expr}
def iList (K : PySem.W.Frag) (tl : TE) : TI := fun σ H R => tl σ H fun x H1 => ∃ a, x = .ref a ∧ (∃ xs, SqL K H1 a xs) ∧ R (Itl K a) H1
def iTup (K : PySem.W.Frag) (tl : TE) : TI := fun σ H R => tl σ H fun x H1 => ∃ a, x = .ref a ∧ (∃ xs, SqT K H1 a xs) ∧ R (Itt K a) H1
theorem pi_list {l : Expr} {tl : TE} (hl : PE X l tl) : PI X tg l (iList X.K tl) := by
  intro pins s σ H R I h
  refine thn (hl pins s σ H _ I h) fun v s1 ⟨x, H1, I1, r1, q1⟩ => ?_
  obtain ⟨a, e, ⟨xs, hq⟩, q⟩ := q1
  subst e
  cases r1
  obtain ⟨its, rv, p, hz⟩ := I1.list hq
  refine wpAny_pyIter_list p.isList ?_
  refine ⟨s1.heap.objs.size, [s1.heap.objs.size], _, _, H1, rfl, I1.kept (t' := s1.toks) fun b o e => Heap.get?_push_of_some _ e, turn_list a _, ⟨_, Heap.get?_push_size _ rfl, rfl, rfl⟩, fun b hb => ?_, q⟩
  have e : b = s1.heap.objs.size := by simpa using hb
  subst e
  exact I1.fpOk (Nat.le_refl _) (I1.hok.fresh (Nat.le_refl _))
theorem pi_tup {l : Expr} {tl : TE} (hl : PE X l tl) : PI X tg l (iTup X.K tl) := by
  intro pins s σ H R I h
  refine thn (hl pins s σ H _ I h) fun v s1 ⟨x, H1, I1, r1, q1⟩ => ?_
  obtain ⟨a, e, ⟨xs, hq⟩, q⟩ := q1
  subst e
  cases r1
  obtain ⟨its, rv, p, hz⟩ := I1.tuple hq
  refine wpAny_pyIter_tuple (show s1.heap.IsTuple a its.toArray from p) ?_
  refine ⟨s1.heap.objs.size, [s1.heap.objs.size], _, _, H1, rfl, I1.kept (t' := s1.toks) fun b o e => Heap.get?_push_of_some _ e, turn_tuple a _, ⟨_, Heap.get?_push_size _ rfl, rfl, rfl⟩, fun b hb => ?_, q⟩
  have e : b = s1.heap.objs.size := by simpa using hb
  subst e
  exact I1.fpOk (Nat.le_refl _) (I1.hok.fresh (Nat.le_refl _))
theorem range_it {pins : List (Addr × Obj)} {σ : St} {H : Hp} {s : Shared} {R : It → Hp → Prop} {E : Value → Shared → Prop} {lo hi : Int} {t u v : Tok} {tk : Nat} (I : Inv X pins σ H s) (h1 : -(2 ^ 62) ≤ lo) (h2 : lo < 2 ^ 62) (h3 : -(2 ^ 62) ≤ hi) (h4 : hi < 2 ^ 62)
    (q : R (Itr lo (hi - lo).toNat) H) : wpAny (model X.prog X.w) X.A (pyIter (.ref s.heap.objs.size)) (PIE X pins σ tg R) E { s with heap := s.heap.push { cls := .type "range", data := .fields #[.int lo t, .int hi u, .int 1 v] }, toks := tk } := by
  refine wpAny_pyIter_range (IsRange.new ..) (small_one h1 h2 h3 h4) ?_
  have I1 : Inv X pins σ H { s with heap := s.heap.push { cls := .type "range", data := .fields #[.int lo t, .int hi u, .int 1 v] }, toks := tk } := I.kept fun b o e => Heap.get?_push_of_some _ e
  refine ⟨(s.heap.push { cls := .type "range", data := .fields #[.int lo t, .int hi u, .int 1 v] }).objs.size, [(s.heap.push { cls := .type "range", data := .fields #[.int lo t, .int hi u, .int 1 v] }).objs.size], _, _, H, rfl,
    I1.kept (t' := tk) fun b o e => Heap.get?_push_of_some _ e, turn_range _ lo (hi - lo).toNat, ?_, fun b hb => ?_, q⟩
  · have e1 : lo + ((0 : Nat) : Int) * 1 = lo := by simp
    have e2 : (((hi - lo).toNat : Nat) : Int) - ((0 : Nat) : Int) = Builtin.Range.rangeSize lo hi 1 := by rw [rangeSize_one]; split <;> omega
    show IsRangeIter _ _ (lo + ((0 : Nat) : Int) * 1) ((((hi - lo).toNat : Nat) : Int) - ((0 : Nat) : Int)) 1
    rw [e1, e2]
    exact Heap.get?_push_size _ rfl
  · have e : b = (s.heap.push { cls := .type "range", data := .fields #[.int lo t, .int hi u, .int 1 v] }).objs.size := by simpa using hb
    subst e
    exact I1.fpOk (Nat.le_refl _) (I1.hok.fresh (Nat.le_refl _))
def iRng1 (ta : TA) : TI := fun σ H R => ta σ H fun vs H1 => ∃ j : Int, vs = [.int j] ∧ -(2 ^ 62) ≤ j ∧ j < 2 ^ 62 ∧ R (Itr 0 j.toNat) H1
theorem pi_range1 {a : Expr} {ta : TA} {p pos : Pos} (hg : Gl X "range") (hm : X.mg "range" = none) (ha : PA X [a] ta) (hs : starEach [a] X.env = [(false, eval a X.env)] := by rfl) : PI X tg (.Call (.Name "range" p) [a] [] pos) (iRng1 ta) := by
  intro pins s σ H R I h
  refine Call_ (ld_blt I hg hm boot_range (PyProof.Rows.callWith_type1 (thn (ha pos pins s σ H _ I h) fun us s1 ⟨vs, H1, I1, r1, q1⟩ => ?_) hs rfl))
  obtain ⟨j, e, q1, q2, q⟩ := q1
  subst e
  cases r1 with
  | cons r rr =>
    cases rr
    obtain ⟨t, rfl⟩ := r
    exact call_range_1 (range_it I1 (by omega) (by omega) q1 q2 (by simpa using q))
def tFor (wi : TI) (g : TG) (tb : TS) : TS := fun D σ H => wi σ H fun J H1 => ∃ W : Nat → Nat → St → Hp → Prop, (∃ m, W 0 m σ H1) ∧ ∀ i m σ H, W i m σ H →
  (J.stop i H ∧ D.nx σ H) ∨ (J.go i H ∧ ∃ N : St → Hp → Prop, (∀ σ' H', N σ' H' → ∃ m', m' < m ∧ W (i + 1) m' σ' H') ∧ ∀ x H', J.yld i H x H' → g x σ H' fun σ2 H2 => tb { D with nx := N, ct := N, bk := D.nx } σ2 H2)
def pinsAt (fp : List Addr) (h : Heap) : List (Addr × Obj) := fp.filterMap fun b => (h.get? b).map fun o => (b, o)
theorem mem_pinsAt {fp : List Addr} {h : Heap} {b : Addr} {o : Obj} (hb : b ∈ fp) (e : h.get? b = some o) : (b, o) ∈ pinsAt fp h := List.mem_filterMap.mpr ⟨b, hb, by rw [e]; rfl⟩
theorem of_pinsAt {fp : List Addr} {h : Heap} {p : Addr × Obj} (hp : p ∈ pinsAt fp h) : p.1 ∈ fp ∧ h.get? p.1 = some p.2 := by
  obtain ⟨b, hb, e⟩ := List.mem_filterMap.mp hp
  cases q : h.get? b with
  | none => rw [q] at e; cases e
  | some o =>
    rw [q] at e
    have e' : (b, o) = p := Option.some.inj e
    subst e'
    exact ⟨hb, q⟩
theorem Inv.pinned {pins : List (Addr × Obj)} {σ : St} {H : Hp} {s : Shared} {fp : List Addr} (I : Inv X pins σ H s) (hf : ∀ b ∈ fp, FpOk X pins H b) (ho : ∀ b ∈ fp, ∃ o, s.heap.get? b = some o ∧ ∀ v, o.data ≠ .cell v) : Inv X (pins ++ pinsAt fp s.heap) σ H s :=
  I.pins_of fun p hp => (List.mem_append.mp hp).elim (fun z => I.pin p (List.mem_append_right _ z)) fun z => by
    obtain ⟨hb, e⟩ := of_pinsAt z
    obtain ⟨f0, f1, f2, _⟩ := hf p.1 hb
    obtain ⟨o, e', d⟩ := ho p.1 hb
    rw [e] at e'; cases e'
    exact ⟨e, f0, f1, f2, d⟩
theorem Inv.unpinned {pins pl : List (Addr × Obj)} {σ : St} {H : Hp} {s : Shared} (I : Inv X (pins ++ pl) σ H s) : Inv X pins σ H s := I.pins_of fun p hp => I.pin p (List.mem_append_right _ (List.mem_append_left _ hp))
theorem ps_for {iter : Expr} {body : List Stmt} {wi : TI} {g : TG} {tb : TS} {pos : Pos} (hp : PassesOwn (model X.prog X.w) X.A X.env X.xe) (hc : X.calm = true) (hi : PI X tg iter wi) (hg : PG X tg g) (hb : PSs X body tb)
    (hs : ∀ x, foldedSetIterable iter X.env x = pure x := by intro _; rfl) : PS X (.For tg iter body [] pos) (tFor wi g tb) := by
  intro pins s σ H D I h
  refine wpAny_For (thn (hi pins s σ H _ I h) fun v s1 h1 => thn h1 fun itv s2 h2 => ?_) hs
  obtain ⟨it, fp, tn, J, H2, e, I2, T, st2, f2, W, ⟨m0, w0⟩, turn⟩ := h2
  subst e
  have stat : ∀ {H' : Hp}, (∀ b ∈ fp, H' b = none) → ∀ b ∈ fp, FpOk X pins H' b := fun hn b hb => ⟨hn b hb, (f2 b hb).2⟩
  refine codeAny_forLoop_any (fun n s' => ∃ i σ' H', Inv X pins σ' H' s' ∧ tn i s'.heap ∧ (∀ b ∈ fp, H' b = none) ∧ W i n σ' H') ?_ m0 ⟨0, σ, H2, I2, st2, fun b hb => (f2 b hb).1, w0⟩
  rintro n s3 ⟨i, σ3, H3, I3, st3, fr3, w3⟩
  rcases turn i n σ3 H3 w3 with ⟨stop, qn⟩ | ⟨go, N, hN, step⟩
  · refine wpAny_passesOwn hp (thn (T.done X rfl rfl rfl hc i pins s3 σ3 H3 X.xe I3 (stat fr3) st3 stop) fun r s4 ⟨hr, I4⟩ => ?_)
    subst hr
    exact wpAny_execs_nil ⟨σ3, H3, I4, qn⟩
  · refine wpAny_passesOwn hp (thn (T.item X rfl rfl rfl hc i pins s3 σ3 H3 X.xe I3 (stat fr3) st3 go) fun r s4 ⟨u, hr, h4⟩ => ?_)
    subst hr
    refine wpAny_passesOwn hp (thn h4 fun _ s5 ⟨x, H5, I5, r5, y5, st5, fr5⟩ => ?_)
    have I5' := I5.pinned (stat fr5) (T.obj _ _ st5)
    refine wpAny_passesOwn hp (thn (hg _ s5 σ3 H5 x u _ I5' r5 (step x H5 y5)) fun _ s6 ⟨σ6, H6, I6, q6⟩ => ?_)
    refine wpAny_passesOwn hp (thn (hb _ s6 σ6 H6 _ I6 q6) fun f s7 q7 => ?_)
    have again : ∀ {σ7 : St} {H7 : Hp}, Inv X (pins ++ pinsAt fp s5.heap) σ7 H7 s7 → N σ7 H7 → ∃ m, m < n ∧ ∃ i σ' H', Inv X pins σ' H' s7 ∧ tn i s7.heap ∧ (∀ b ∈ fp, H' b = none) ∧ W i m σ' H' := fun {σ7 H7} I7 n7 => by
      obtain ⟨m', hm, w7⟩ := hN σ7 H7 n7
      refine ⟨m', hm, i + 1, σ7, H7, I7.unpinned, T.keep _ _ _ st5 fun b hb o e => (I7.pin (b, o) (List.mem_append_right _ (List.mem_append_right _ (mem_pinsAt hb e)))).1, fun b hb => ?_, w7⟩
      obtain ⟨o, e, d⟩ := T.obj _ _ st5 b hb
      exact (I7.pin (b, o) (List.mem_append_right _ (List.mem_append_right _ (mem_pinsAt hb e)))).2.1
    cases f with
    | next => obtain ⟨σ7, H7, I7, n7⟩ := q7; exact again I7 n7
    | cont => obtain ⟨σ7, H7, I7, n7⟩ := q7; exact again I7 n7
    | brk => obtain ⟨σ7, H7, I7, q7⟩ := q7; exact ⟨σ7, H7, I7.unpinned, q7⟩
    | ret v => obtain ⟨x7, σ7, H7, I7, r7, q7⟩ := q7; exact ⟨x7, σ7, H7, I7.unpinned, r7, q7⟩
end
theorem for_list {K : PySem.W.Frag} {a : Addr} {xs : List V} {g : TG} {tb : TS} {D : Ends} {σ : St} {H : Hp} (Pv : Nat → St → Hp → Prop) (h0 : Pv 0 σ H) (hl : ∀ i σ H, i ≤ xs.length → Pv i σ H → SqL K H a xs)
    (hs : ∀ i x σ H, xs[i]? = some x → Pv i σ H → g x σ H fun σ2 H2 => tb { D with nx := Pv (i + 1), ct := Pv (i + 1), bk := D.nx } σ2 H2) (hd : ∀ σ H, Pv xs.length σ H → D.nx σ H) :
    ∃ W : Nat → Nat → St → Hp → Prop, (∃ m, W 0 m σ H) ∧ ∀ i m σ H, W i m σ H →
      ((Itl K a).stop i H ∧ D.nx σ H) ∨ ((Itl K a).go i H ∧ ∃ N : St → Hp → Prop, (∀ σ' H', N σ' H' → ∃ m', m' < m ∧ W (i + 1) m' σ' H') ∧ ∀ x H', (Itl K a).yld i H x H' → g x σ H' fun σ2 H2 => tb { D with nx := N, ct := N, bk := D.nx } σ2 H2) := by
  refine ⟨fun i m σ H => m = xs.length - i ∧ i ≤ xs.length ∧ Pv i σ H, ⟨xs.length, by simp, Nat.zero_le _, h0⟩, ?_⟩
  rintro i m σ H ⟨rfl, hi, p⟩
  have q := hl i σ H hi p
  by_cases hlt : i < xs.length
  · refine .inr ⟨⟨xs, xs[i], q, by simp [hlt]⟩, Pv (i + 1), fun σ' H' p' => ⟨xs.length - (i + 1), by omega, rfl, hlt, p'⟩, fun x H' y => ?_⟩
    obtain ⟨e, y⟩ := y
    subst e
    exact hs i x σ _ (y xs q) p
  · have e : i = xs.length := by omega
    subst e
    exact .inl ⟨⟨xs, q, Nat.le_refl _⟩, hd σ H p⟩
theorem for_tup {K : PySem.W.Frag} {a : Addr} {xs : List V} {g : TG} {tb : TS} {D : Ends} {σ : St} {H : Hp} (Pv : Nat → St → Hp → Prop) (h0 : Pv 0 σ H) (hl : ∀ i σ H, i ≤ xs.length → Pv i σ H → SqT K H a xs)
    (hs : ∀ i x σ H, xs[i]? = some x → Pv i σ H → g x σ H fun σ2 H2 => tb { D with nx := Pv (i + 1), ct := Pv (i + 1), bk := D.nx } σ2 H2) (hd : ∀ σ H, Pv xs.length σ H → D.nx σ H) :
    ∃ W : Nat → Nat → St → Hp → Prop, (∃ m, W 0 m σ H) ∧ ∀ i m σ H, W i m σ H →
      ((Itt K a).stop i H ∧ D.nx σ H) ∨ ((Itt K a).go i H ∧ ∃ N : St → Hp → Prop, (∀ σ' H', N σ' H' → ∃ m', m' < m ∧ W (i + 1) m' σ' H') ∧ ∀ x H', (Itt K a).yld i H x H' → g x σ H' fun σ2 H2 => tb { D with nx := N, ct := N, bk := D.nx } σ2 H2) := by
  refine ⟨fun i m σ H => m = xs.length - i ∧ i ≤ xs.length ∧ Pv i σ H, ⟨xs.length, by simp, Nat.zero_le _, h0⟩, ?_⟩
  rintro i m σ H ⟨rfl, hi, p⟩
  have q := hl i σ H hi p
  by_cases hlt : i < xs.length
  · refine .inr ⟨⟨xs, xs[i], q, by simp [hlt]⟩, Pv (i + 1), fun σ' H' p' => ⟨xs.length - (i + 1), by omega, rfl, hlt, p'⟩, fun x H' y => ?_⟩
    obtain ⟨e, y⟩ := y
    subst e
    exact hs i x σ _ (y xs q) p
  · have e : i = xs.length := by omega
    subst e
    exact .inl ⟨⟨xs, q, Nat.le_refl _⟩, hd σ H p⟩
theorem for_range {lo : Int} {n : Nat} {g : TG} {tb : TS} {D : Ends} {σ : St} {H : Hp} (Pv : Nat → St → Hp → Prop) (h0 : Pv 0 σ H)
    (hs : ∀ i σ H, i < n → Pv i σ H → g (.int (lo + i)) σ H fun σ2 H2 => tb { D with nx := Pv (i + 1), ct := Pv (i + 1), bk := D.nx } σ2 H2) (hd : ∀ σ H, Pv n σ H → D.nx σ H) :
    ∃ W : Nat → Nat → St → Hp → Prop, (∃ m, W 0 m σ H) ∧ ∀ i m σ H, W i m σ H →
      ((Itr lo n).stop i H ∧ D.nx σ H) ∨ ((Itr lo n).go i H ∧ ∃ N : St → Hp → Prop, (∀ σ' H', N σ' H' → ∃ m', m' < m ∧ W (i + 1) m' σ' H') ∧ ∀ x H', (Itr lo n).yld i H x H' → g x σ H' fun σ2 H2 => tb { D with nx := N, ct := N, bk := D.nx } σ2 H2) := by
  refine ⟨fun i m σ H => m = n - i ∧ i ≤ n ∧ Pv i σ H, ⟨n, by simp, Nat.zero_le _, h0⟩, ?_⟩
  rintro i m σ H ⟨rfl, hi, p⟩
  by_cases hlt : i < n
  · refine .inr ⟨hlt, Pv (i + 1), fun σ' H' p' => ⟨n - (i + 1), by omega, rfl, hlt, p'⟩, fun x H' y => ?_⟩
    obtain ⟨e, y⟩ := y
    subst e y
    exact hs i σ _ hlt p
  · have e : i = n := by omega
    subst e
    exact .inl ⟨Nat.le_refl _, hd σ H p⟩
end L2
namespace L2
open PySem PySem.Spec PyProof.Rows
abbrev R2 := V → V → Hp → VK → Prop
def OpR (X : Cx) (f : Value → Value → Sem Value) (r : R2) : Prop :=
  ∀ (pins : List (Addr × Obj)) (s : Shared) (σ : St) (H : Hp) (x y : V) (v u : Value) (Q : VK), Inv X pins σ H s → RelV x v → RelV y u → r x y H Q →
    wpAny (model X.prog X.w) X.A (f v u) (EP X pins σ Q) X.xe s
def UnR (X : Cx) (f : Value → Sem Value) (r : V → Hp → VK → Prop) : Prop :=
  ∀ (pins : List (Addr × Obj)) (s : Shared) (σ : St) (H : Hp) (x : V) (v : Value) (Q : VK), Inv X pins σ H s → RelV x v → r x H Q →
    wpAny (model X.prog X.w) X.A (f v) (EP X pins σ Q) X.xe s
def CallR (X : Cx) (f : Value) (r : List V → Hp → VK → Prop) : Prop :=
  ∀ (pins : List (Addr × Obj)) (s : Shared) (σ : St) (H : Hp) (xs : List V) (us : List Value) (Q : VK), Inv X pins σ H s → Vals xs us → r xs H Q →
    wpAny (model X.prog X.w) X.A (call f us) (EP X pins σ Q) X.xe s
def TruR (X : Cx) (r : V → Hp → (Bool → Hp → Prop) → Prop) : Prop :=
  ∀ (pins : List (Addr × Obj)) (s : Shared) (σ : St) (H : Hp) (x : V) (v : Value) (Q : Bool → Hp → Prop), Inv X pins σ H s → RelV x v → r x H Q →
    wpAny (model X.prog X.w) X.A (truthy v) (TP X pins σ Q) X.xe s
def tOp (r : R2) (ta tb : TE) : TE := fun σ H Q => ta σ H fun x H1 => tb σ H1 fun y H2 => r x y H2 Q
def tUn (r : V → Hp → VK → Prop) (ta : TE) : TE := fun σ H Q => ta σ H fun x H1 => r x H1 Q
def rI (C : Int → Int → Prop) (g : Int → Int → V) : R2 := fun x y H Q => ∃ i j, x = .int i ∧ y = .int j ∧ C i j ∧ Q (g i j) H
def rI0 (g : Int → Int → V) : R2 := fun x y H Q => ∃ i j, x = .int i ∧ y = .int j ∧ Q (g i j) H
def rU (g : Int → V) : V → Hp → VK → Prop := fun x H Q => ∃ i, x = .int i ∧ Q (g i) H
section
variable {X : Cx} {a b c : Expr} {ta tb tc : TE} {pos : Pos}
theorem binT (ha : PE X a ta) (hb : PE X b tb) {pins : List (Addr × Obj)} {s : Shared} {σ : St} {H : Hp} {R : V → V → Hp → Prop} (I : Inv X pins σ H s)
    (h : ta σ H fun x H1 => tb σ H1 fun y H2 => R x y H2) {Q : Value → Shared → Prop} {f : Value → Value → Sem Value}
    (hf : ∀ v u s2 x y H2, Inv X pins σ H2 s2 → RelV x v → RelV y u → R x y H2 → wpAny (model X.prog X.w) X.A (f v u) Q X.xe s2) :
    wpAny (model X.prog X.w) X.A (eval a X.env) (fun v s₁ => wpAny (model X.prog X.w) X.A (eval b X.env) (fun u s₂ => wpAny (model X.prog X.w) X.A (f v u) Q X.xe s₂) X.xe s₁) X.xe s := by
  refine thn (ha pins s σ H _ I h) fun v s1 ⟨x, H1, I1, r1, q1⟩ => ?_
  refine thn (hb pins s1 σ H1 _ I1 q1) fun u s2 ⟨y, H2, I2, r2, q2⟩ => ?_
  exact hf v u s2 x y H2 I2 r1 r2 q2
theorem pe_op {op : Operator} {r : R2} (ho : OpR X (binaryOp op) r) (ha : PE X a ta) (hb : PE X b tb) : PE X (.BinOp a op b pos) (tOp r ta tb) := by
  intro pins s σ H Q I h
  exact wpAny_BinOp (binT ha hb I h fun v u s2 x y H2 I2 rx ry q => ho pins s2 σ H2 x y v u Q I2 rx ry q)
theorem pe_un {op : UnaryOp} {r : V → Hp → VK → Prop} (ho : UnR X (unaryOp op) r) (ha : PE X a ta) : PE X (.UnaryOp op a pos) (tUn r ta) := by
  intro pins s σ H Q I h
  exact UnaryOp_ (thn (ha pins s σ H _ I h) fun v s1 ⟨x, H1, I1, r1, q1⟩ => ho pins s1 σ H1 x v Q I1 r1 q1)
theorem opI {f : Value → Value → Sem Value} {C : Int → Int → Prop} {g : Int → Int → Int}
    (rule : ∀ (i j : Int) (t u : Tok) (s : Shared) (Q : Value → Shared → Prop) (E : Value → Shared → Prop), C i j → Q (.int (g i j) s.toks) { s with toks := s.toks + 1 } → wpAny (model X.prog X.w) X.A (f (.int i t) (.int j u)) Q E s) :
    OpR X f (rI C fun i j => .int (g i j)) := by
  intro pins s σ H x y v u Q I rx ry h
  obtain ⟨i, j, rfl, rfl, hc, q⟩ := h
  obtain ⟨t, rfl⟩ := rx
  obtain ⟨t', rfl⟩ := ry
  exact rule i j t t' s _ _ hc ⟨.int (g i j), H, I.tok _, ⟨_, rfl⟩, q⟩
theorem opI0 {f : Value → Value → Sem Value} {g : Int → Int → Int}
    (rule : ∀ (i j : Int) (t u : Tok) (s : Shared) (Q : Value → Shared → Prop) (E : Value → Shared → Prop), Q (.int (g i j) s.toks) { s with toks := s.toks + 1 } → wpAny (model X.prog X.w) X.A (f (.int i t) (.int j u)) Q E s) :
    OpR X f (rI0 fun i j => .int (g i j)) := by
  intro pins s σ H x y v u Q I rx ry h
  obtain ⟨i, j, rfl, rfl, q⟩ := h
  obtain ⟨t, rfl⟩ := rx
  obtain ⟨t', rfl⟩ := ry
  exact rule i j t t' s _ _ ⟨.int (g i j), H, I.tok _, ⟨_, rfl⟩, q⟩
theorem opB0 {f : Value → Value → Sem Value} {g : Int → Int → Bool}
    (rule : ∀ (i j : Int) (t u : Tok) (s : Shared) (Q : Value → Shared → Prop) (E : Value → Shared → Prop), Q (.bool (g i j)) s → wpAny (model X.prog X.w) X.A (f (.int i t) (.int j u)) Q E s) :
    OpR X f (rI0 fun i j => .bl (g i j)) := by
  intro pins s σ H x y v u Q I rx ry h
  obtain ⟨i, j, rfl, rfl, q⟩ := h
  obtain ⟨t, rfl⟩ := rx
  obtain ⟨t', rfl⟩ := ry
  exact rule i j t t' s _ _ ⟨.bl (g i j), H, I, rfl, q⟩
def CDiv (i j : Int) : Prop := 0 < j ∧ j < 1073741824
def CPow (i j : Int) : Prop := 0 ≤ j ∧ j ≤ 1000000 ∧ i.natAbs < 2 ^ 64
def CMul (i j : Int) : Prop := (-(2 ^ 64) < i ∧ i < 2 ^ 64) ∨ (-(2 ^ 64) < j ∧ j < 2 ^ 64)
theorem CMul.ok {i j : Int} (h : CMul i j) : IntMulOk i j := by
  rcases h with ⟨h1, h2⟩ | ⟨h1, h2⟩
  · exact .of_left (intBits_le_64 h1 h2)
  · exact .of_right (intBits_le_64 h1 h2)
theorem op_add : OpR X (binaryOp .Add) (rI0 fun i j => .int (i + j)) := opI0 fun _ _ _ _ _ _ _ q => add_int q
theorem op_sub : OpR X (binaryOp .Sub) (rI0 fun i j => .int (i - j)) := opI0 fun _ _ _ _ _ _ _ q => sub_int q
theorem op_mul : OpR X (binaryOp .Mult) (rI CMul fun i j => .int (i * j)) := opI fun _ _ _ _ _ _ _ hc q => mul_int q hc.ok
theorem op_fdiv : OpR X (binaryOp .FloorDiv) (rI CDiv fun i j => .int (i / j)) := opI fun i j _ _ _ _ _ hc q => by
  have h1 : (0 : Int) < j := hc.1
  have h2 : j < 1073741824 := hc.2
  exact floordiv_int (by omega) (by rw [Int.fdiv_eq_ediv_of_nonneg i (by omega)]; exact q) (.inl (PyProof.noPylong_small (by omega)))
theorem op_mod : OpR X (binaryOp .Mod) (rI (fun _ j => 0 < j) fun i j => .int (i % j)) := opI fun i j _ _ _ _ _ hc q => by
  have h1 : (0 : Int) < j := hc
  exact mod_int' (by omega) (by rw [Int.fmod_eq_emod_of_nonneg i (by omega)]; exact q)
theorem op_pow : OpR X (binaryOp .Pow) (rI CPow fun i j => .int (i ^ j.toNat)) := opI fun _ _ _ _ _ _ _ hc q => pow_int_small hc.1 hc.2.1 hc.2.2 q
theorem unI {f : Value → Sem Value} {g : Int → Int}
    (rule : ∀ (i : Int) (t : Tok) (s : Shared) (Q : Value → Shared → Prop) (E : Value → Shared → Prop), Q (.int (g i) s.toks) { s with toks := s.toks + 1 } → wpAny (model X.prog X.w) X.A (f (.int i t)) Q E s) :
    UnR X f (rU fun i => .int (g i)) := by
  intro pins s σ H x v Q I rx h
  obtain ⟨i, rfl, q⟩ := h
  obtain ⟨t, rfl⟩ := rx
  exact rule i t s _ _ ⟨.int (g i), H, I.tok _, ⟨_, rfl⟩, q⟩
theorem un_neg : UnR X (unaryOp .USub) (rU fun i => .int (-i)) := unI fun _ _ _ _ _ q => neg_int q
end
def scal : V → V → Bool
  | .non, .non => true | .non, .int _ => true | .int _, .non => true | .non, .bl _ => true | .bl _, .non => true | .non, .str _ => true | .str _, .non => true
  | .int _, .int _ => true | .bl _, .bl _ => true | .str _, .str _ => true | .byt _, .byt _ => true
  | .int _, .str _ => true | .str _, .int _ => true | .bl _, .str _ => true | .str _, .bl _ => true
  | _, _ => false
def rEq : R2 := fun x y H Q => scal x y = true ∧ Q (.bl (decide (x = y))) H
def rNe : R2 := fun x y H Q => scal x y = true ∧ Q (.bl (!decide (x = y))) H
theorem dec_int {i j : Int} : decide (V.int i = V.int j) = (i == j) := by
  rw [Bool.eq_iff_iff]
  simp
theorem dec_bl {i j : Bool} : decide (V.bl i = V.bl j) = (i == j) := by
  rw [Bool.eq_iff_iff]
  simp
theorem dec_str {i j : Str} : decide (V.str i = V.str j) = (i == j) := by
  rw [Bool.eq_iff_iff]
  simp
theorem dec_byt {i j : Array UInt8} : decide (V.byt i = V.byt j) = (i.toList == j.toList) := by
  rw [Bool.eq_iff_iff]
  cases i
  cases j
  simp
section
variable {X : Cx} {a b c : Expr} {ta tb tc : TE} {pos : Pos}
theorem fin_bl {pins : List (Addr × Obj)} {σ : St} {H : Hp} {s : Shared} {Q : VK} {k k' : Bool} (I : Inv X pins σ H s) (q : Q (.bl k) H) (e : k = k') : EP X pins σ Q (.bool k') s := by
  subst e
  exact ⟨.bl k, H, I, rfl, q⟩
theorem op_eq : OpR X (compareOp .Eq) rEq := by
  intro pins s σ H x y v u Q I rx ry h
  obtain ⟨hs, q⟩ := h
  cases x with
  | non =>
    cases rx
    cases y with
    | non => cases ry; exact PySem.EqNone.eq_none_none (fin_bl I q (by simp))
    | bl j => cases ry; exact PySem.EqNone.eq_none_bool (fin_bl I q (by simp))
    | int j => obtain ⟨t', rfl⟩ := ry; exact PySem.EqNone.eq_none_int (fin_bl I q (by simp))
    | str j => obtain ⟨t', rfl⟩ := ry; exact PySem.EqNone.eq_none_str (fin_bl I q (by simp))
    | _ => exact absurd (show false = true from hs) Bool.false_ne_true
  | bl i =>
    cases rx
    cases y with
    | non => cases ry; exact PySem.EqNone.eq_bool_none (fin_bl I q (by simp))
    | bl j => cases ry; exact eq_bool (fin_bl I q dec_bl)
    | str j => obtain ⟨t', rfl⟩ := ry; exact PySem.EqMixed.eq_bool_str (fin_bl I q (by simp))
    | _ => exact absurd (show false = true from hs) Bool.false_ne_true
  | int i =>
    obtain ⟨t, rfl⟩ := rx
    cases y with
    | non => cases ry; exact PySem.EqNone.eq_int_none (fin_bl I q (by simp))
    | int j => obtain ⟨t', rfl⟩ := ry; exact eq_int (fin_bl I q dec_int)
    | str j => obtain ⟨t', rfl⟩ := ry; exact PySem.EqMixed.eq_int_str (fin_bl I q (by simp))
    | _ => exact absurd (show false = true from hs) Bool.false_ne_true
  | str i =>
    obtain ⟨t, rfl⟩ := rx
    cases y with
    | non => cases ry; exact PySem.EqNone.eq_str_none (fin_bl I q (by simp))
    | bl j => cases ry; exact PySem.EqMixed.eq_str_bool (fin_bl I q (by simp))
    | int j => obtain ⟨t', rfl⟩ := ry; exact PySem.EqMixed.eq_str_int (fin_bl I q (by simp))
    | str j => obtain ⟨t', rfl⟩ := ry; exact eq_str (fin_bl I q dec_str)
    | _ => exact absurd (show false = true from hs) Bool.false_ne_true
  | byt i =>
    obtain ⟨t, rfl⟩ := rx
    cases y with
    | byt j => obtain ⟨t', rfl⟩ := ry; exact PySem.W.eq_bytes (fin_bl I q dec_byt)
    | _ => exact absurd (show false = true from hs) Bool.false_ne_true
  | _ => cases y <;> exact absurd (show false = true from hs) Bool.false_ne_true
theorem op_ne : OpR X (compareOp .NotEq) rNe := by
  intro pins s σ H x y v u Q I rx ry h
  obtain ⟨hs, q⟩ := h
  cases x with
  | non =>
    cases rx
    cases y with
    | non => cases ry; exact PySem.EqNone.ne_none_none (fin_bl I q (by simp))
    | bl j => cases ry; exact PySem.EqNone.ne_none_bool (fin_bl I q (by simp))
    | int j => obtain ⟨t', rfl⟩ := ry; exact PySem.EqNone.ne_none_int (fin_bl I q (by simp))
    | str j => obtain ⟨t', rfl⟩ := ry; exact PySem.EqNone.ne_none_str (fin_bl I q (by simp))
    | _ => exact absurd (show false = true from hs) Bool.false_ne_true
  | bl i =>
    cases rx
    cases y with
    | non => cases ry; exact PySem.EqNone.ne_bool_none (fin_bl I q (by simp))
    | bl j => cases ry; exact ne_bool (fin_bl I q (congrArg not dec_bl))
    | str j => obtain ⟨t', rfl⟩ := ry; exact PySem.EqMixed.ne_bool_str (fin_bl I q (by simp))
    | _ => exact absurd (show false = true from hs) Bool.false_ne_true
  | int i =>
    obtain ⟨t, rfl⟩ := rx
    cases y with
    | non => cases ry; exact PySem.EqNone.ne_int_none (fin_bl I q (by simp))
    | int j => obtain ⟨t', rfl⟩ := ry; exact ne_int (fin_bl I q (congrArg not dec_int))
    | str j => obtain ⟨t', rfl⟩ := ry; exact PySem.EqMixed.ne_int_str (fin_bl I q (by simp))
    | _ => exact absurd (show false = true from hs) Bool.false_ne_true
  | str i =>
    obtain ⟨t, rfl⟩ := rx
    cases y with
    | non => cases ry; exact PySem.EqNone.ne_str_none (fin_bl I q (by simp))
    | bl j => cases ry; exact PySem.EqMixed.ne_str_bool (fin_bl I q (by simp))
    | int j => obtain ⟨t', rfl⟩ := ry; exact PySem.EqMixed.ne_str_int (fin_bl I q (by simp))
    | str j => obtain ⟨t', rfl⟩ := ry; exact ne_str (fin_bl I q (congrArg not dec_str))
    | _ => exact absurd (show false = true from hs) Bool.false_ne_true
  | byt i =>
    obtain ⟨t, rfl⟩ := rx
    cases y with
    | byt j => obtain ⟨t', rfl⟩ := ry; exact PySem.W.ne_bytes (fin_bl I q (congrArg not dec_byt))
    | _ => exact absurd (show false = true from hs) Bool.false_ne_true
  | _ => cases y <;> exact absurd (show false = true from hs) Bool.false_ne_true
theorem op_lt : OpR X (compareOp .Lt) (rI0 fun i j => .bl (decide (i < j))) := opB0 fun _ _ _ _ _ _ _ q => lt_int q
theorem op_gt : OpR X (compareOp .Gt) (rI0 fun i j => .bl (decide (j < i))) := opB0 fun _ _ _ _ _ _ _ q => gt_int q
theorem op_ge : OpR X (compareOp .GtE) (rI0 fun i j => .bl (decide (j ≤ i))) := opB0 fun _ _ _ _ _ _ _ q => ge_int q
theorem op_notN : OpR X (compareOp .IsNot) (fun x y H Q => y = .non ∧ Q (.bl (!decide (x = .non))) H) := by
  intro pins s σ H x y v u Q I rx ry h
  obtain ⟨rfl, q⟩ := h
  cases ry
  refine isnot_none_gen (fin_bl I q ?_)
  cases x <;> first
    | (cases rx; rfl)
    | (obtain ⟨t, rfl⟩ := rx; rfl)
theorem nomark (b : Expr) {op : CmpOp} (h : op ≠ .In := by decide) (h2 : op ≠ .NotIn := by decide) : behindInMarks op b = false := by
  have e1 : (op == CmpOp.In) = false := by cases op <;> first | rfl | exact absurd rfl h
  have e2 : (op == CmpOp.NotIn) = false := by cases op <;> first | rfl | exact absurd rfl h2
  cases b <;> simp [behindInMarks, e1, e2]
theorem pe_cmpR {op : CmpOp} {r : R2} (ho : OpR X (compareOp op) r) (ha : PE X a ta) (hb : PE X b tb) (hm : behindInMarks op b = false) : PE X (.Compare a [op] [b] pos) (tOp r ta tb) := by
  intro pins s σ H Q I h
  exact wpAny_Compare1 (binT ha hb I h fun v u s2 x y H2 I2 rx ry q => ho pins s2 σ H2 x y v u Q I2 rx ry q) hm
def tTest (t : TE) : TT := fun σ H Q => t σ H fun x H' => ∃ k, x = .bl k ∧ Q k H'
theorem pt_cmpR {op : CmpOp} {r : R2} (ho : OpR X (compareOp op) r) (ha : PE X a ta) (hb : PE X b tb) (hm : behindInMarks op b = false) : PT X (.Compare a [op] [b] pos) (tTest (tOp r ta tb)) := by
  intro pins s σ H Q I h
  refine wpAny_isTrue_Compare1 (thn (ha pins s σ H _ I h) fun v s1 ⟨x, H1, I1, r1, q1⟩ => thn (hb pins s1 σ H1 _ I1 q1) fun u s2 ⟨y, H2, I2, r2, q2⟩ =>
    thn (ho pins s2 σ H2 x y v u _ I2 r1 r2 q2) fun c s3 ⟨z, H3, I3, r3, k, e, q3⟩ => ?_) hm
  subst e
  cases r3
  exact wpAny_truthy_bool ⟨H3, I3, q3⟩
def TruV (K : PySem.W.Frag) (x : V) (H : Hp) (k : Bool) : Prop :=
  match x with
  | .non => k = false
  | .bl b => k = b
  | .int i => k = (i != 0)
  | .str y => y.length ≤ sizeLine ∧ k = ((y.length : Int) != 0)
  | .byt y => y.size ≤ sizeLine ∧ k = ((y.size : Int) != 0)
  | .ref p => (∃ xs, SqL K H p xs ∧ k = !xs.isEmpty) ∨ (∃ xs, SqT K H p xs ∧ k = !xs.isEmpty) ∨ ∃ kvs, H p = some (.dK kvs) ∧ k = !kvs.isEmpty
  | _ => False
theorem isEmpty_kv {κ : Type} {kvs : List (κ × V)} {vs : List (κ × Value)} (r : KV kvs vs) : (!vs.isEmpty) = !kvs.isEmpty := by
  cases r <;> rfl
theorem isEmpty_of {xs : List V} {its : List Value} (r : Vals xs its) : (!its.toArray.isEmpty) = !xs.isEmpty := by
  cases r <;> simp
theorem line63 : (sizeLine : Nat) < 2 ^ 63 := by rw [sizeLine_eq]; decide
theorem tru_ok : TruR X (fun x H Q => ∃ k, TruV X.K x H k ∧ Q k H) := by
  intro pins s σ H x v Q I rx h
  obtain ⟨k, e, q⟩ := h
  have hl := line63
  have hs : sizeLine = 16777216 := sizeLine_eq
  cases x with
  | non =>
    cases rx
    have e' : k = false := e
    subst e'
    exact truthy_none ⟨H, I, q⟩
  | bl b =>
    cases rx
    have e' : k = b := e
    subst e'
    exact wpAny_truthy_bool ⟨H, I, q⟩
  | int i =>
    obtain ⟨t, rfl⟩ := rx
    have e' : k = (i != 0) := e
    subst e'
    exact PySem.P.truthy_int ⟨H, I, q⟩
  | str y =>
    obtain ⟨t, rfl⟩ := rx
    obtain ⟨hy, e'⟩ : y.length ≤ sizeLine ∧ k = ((y.length : Int) != 0) := e
    subst e'
    exact PySem.P.truthy_str (by omega) ⟨H, I.tok _, q⟩
  | byt y =>
    obtain ⟨t, rfl⟩ := rx
    obtain ⟨hy, e'⟩ : y.size ≤ sizeLine ∧ k = ((y.size : Int) != 0) := e
    subst e'
    exact PySem.W.truthy_bytes (by omega) ⟨H, I.tok _, q⟩
  | ref p =>
    cases rx
    have e' : (∃ xs, SqL X.K H p xs ∧ k = !xs.isEmpty) ∨ (∃ xs, SqT X.K H p xs ∧ k = !xs.isEmpty) ∨ ∃ kvs, H p = some (.dK kvs) ∧ k = !kvs.isEmpty := e
    rcases e' with ⟨xs, hx, e'⟩ | ⟨xs, hx, e'⟩ | ⟨kvs, hx, e'⟩
    · subst e'
      obtain ⟨its, r, pl, hz⟩ := I.list hx
      have hlen := r.length
      exact wpAny_truthy_list pl.isList (by simp only [List.size_toArray]; omega) ⟨H, I.tok _, by rw [isEmpty_of r]; exact q⟩
    · subst e'
      obtain ⟨its, r, pl, hz⟩ := I.tuple hx
      have hlen := r.length
      exact truthy_tuple pl (by simp only [List.size_toArray]; omega) ⟨H, I.tok _, by rw [isEmpty_of r]; exact q⟩
    · subst e'
      obtain ⟨hz, hS, vs, r, m⟩ : kvs.length ≤ sizeLine ∧ (p == sysModules) = false ∧ ∃ vs, KV kvs vs ∧ s.heap.DictOf (mixKind X.prog X.w) p vs := I.hok p _ hx
      have hlen : kvs.length = vs.length := Paired.length r
      exact wpAny_truthy_dict hS m (by omega) ⟨H, I.tok _, by rw [isEmpty_kv r]; exact q⟩
  | _ => exact (show False from e).elim
theorem pt_truth (ha : PE X a ta) (he : ∀ whole, isTrue a X.env whole = (do let v ← whole; standAt a.pos; holding [v] (truthy v))) :
    PT X a (fun σ H Q => ta σ H fun x H' => ∃ k, TruV X.K x H' k ∧ Q k H') := by
  intro pins s σ H Q I h
  exact isTrue_plain (thn (ha pins s σ H _ I h) fun v s1 ⟨x, H1, I1, r1, q1⟩ => tru_ok pins s1 σ H1 x v Q I1 r1 q1) (he _)
theorem vals1 {x : V} {us : List Value} (r : Vals [x] us) : ∃ u, us = [u] ∧ RelV x u := by
  cases r with
  | cons r1 r2 => cases r2; exact ⟨_, rfl, r1⟩
theorem vals2 {x y : V} {us : List Value} (r : Vals [x, y] us) : ∃ u w', us = [u, w'] ∧ RelV x u ∧ RelV y w' := by
  cases r with
  | cons r1 r2 =>
    cases r2 with
    | cons r3 r4 => cases r4; exact ⟨_, _, rfl, r1, r3⟩
theorem call_abs : CallR X (.builtin "abs") (fun xs H Q => ∃ i, xs = [.int i] ∧ Q (.int (if i < 0 then -i else i)) H) := by
  intro pins s σ H xs us Q I r h
  obtain ⟨i, rfl, q⟩ := h
  obtain ⟨u, rfl, t, rfl⟩ := vals1 r
  exact call_abs_int fun u tk => ⟨.int (if i < 0 then -i else i), H, I.tok _, ⟨_, rfl⟩, q⟩
theorem call_int1 : CallR X (.type "int") (fun xs H Q => (∃ i, xs = [.int i] ∧ Q (.int i) H) ∨ ∃ k, xs = [.bl k] ∧ Q (.int (if k then 1 else 0)) H) := by
  intro pins s σ H xs us Q I r h
  rcases h with ⟨i, rfl, q⟩ | ⟨k, rfl, q⟩
  · obtain ⟨u, rfl, t, rfl⟩ := vals1 r
    exact call_int_int ⟨.int i, H, I, ⟨_, rfl⟩, q⟩
  · obtain ⟨u, rfl, r1⟩ := vals1 r
    cases r1
    exact call_int_bool ⟨.int (if k then 1 else 0), H, I.tok _, ⟨_, rfl⟩, q⟩
end
end L2
namespace L2
open PySem PySem.Spec PyProof.Rows
structure ObjM (h : Heap) (x dx C : Addr) (mA : Str → Option Value) : Prop where
  obj : h.get? x = some (PySem.W.instObj C dx)
  ns : h.Ns1 dx mA
  ne : dx ≠ x
theorem lookIn_ns {h : Heap} {dx : Addr} {mA : Str → Option Value} (n : h.Ns1 dx mA) : ∃ od, h.get? dx = some od ∧ ∀ name, PySem.W.lookIn name od = some (mA name) := by
  obtain ⟨o, es, ep, ho, hd, hk, _, hm⟩ := n
  refine ⟨o, ho, fun name => ?_⟩
  have e := hm name
  unfold nsFind findBy at e
  rw [← Array.find?_toList] at e
  unfold PySem.W.lookIn
  rw [hd]
  dsimp only
  split
  · rename_i y q
    rw [q] at e
    exact congrArg some e
  · rename_i q
    rw [q] at e
    have a : es.toList.any (·.refKey) = false := by
      rw [List.any_eq_false]
      intro y hy
      obtain ⟨z, t, hkey⟩ := hk y (Array.mem_toList_iff.mp hy)
      simp [DictEntry.refKey, hkey]
    have a' : ¬ es.toList.any (·.refKey) = true := by rw [a]; exact Bool.false_ne_true
    rw [if_neg a']
    exact congrArg some e
theorem ObjM.look {h : Heap} {x dx C : Addr} {mA : Str → Option Value} (I : ObjM h x dx C mA) : ∃ od, PySem.W.InstAt h x (PySem.W.instObj C dx) C (some od) ∧ ∀ name, PySem.W.lookIn name od = some (mA name) :=
  let ⟨od, ho, hl⟩ := lookIn_ns I.ns
  ⟨od, ⟨I.obj, rfl, rfl, ho⟩, hl⟩
section
variable {prog : Program} {w : World} {A : Around} {E : Value → Shared → Prop} {s : Shared} {K : PySem.W.Frag} {x dx C f : Addr} {mA : Str → Option Value} {name : Str} {v : Value}
end
theorem RelO.some_of {v : V} {o : Option Value} (r : RelO (some v) o) : ∃ u, o = some u ∧ RelV v u := by
  cases o with
  | none => exact (show False from r).elim
  | some u => exact ⟨u, rfl, r⟩
section
variable {P : Program} {w : World} {H H' : Hp} {h h' : Heap} {a C dx : Addr} {fs fs' : List (Str × V)}
theorem ins_get (hok : HOk P w H h) (e : H a = some (.ins C dx fs)) : ∃ mA, ObjM h a dx C mA ∧ (∀ f, RelO (fs.lookup f) (mA f)) ∧ PySem.Within mA (fs.map (·.1)) ∧ fs.length ≤ 1000 ∧ H dx = some (.own a) := by
  obtain ⟨d, z, ne, ob, mA, n, r, q⟩ := (show ObjOk P w H h a (.ins C dx fs) from hok a _ e)
  exact ⟨mA, ⟨ob, n, ne⟩, r, q, z, d⟩
end
structure Cls (K : PySem.W.Frag) (C : Addr) : Prop where
  pg : PySem.W.plainGet K C Str.empty = true
  hd : PySem.W.hasDictIn K C = true
  po : PySem.W.plainOver K C = true
  sa : PySem.W.findIn K (.ref C) "__setattr__" = some (some (.builtin "object.__setattr__"))
theorem Cls.get {K : PySem.W.Frag} {C : Addr} (c : Cls K C) (f : Str) : PySem.W.plainGet K C f = true := c.pg
section
variable {X : Cx} {pins : List (Addr × Obj)} {σ : St} {H : Hp} {s : Shared} {a C dx : Addr} {fs : List (Str × V)} {f : Str} {v : V} {A : Around} {E : Value → Shared → Prop}
end
section
variable {X : Cx} {o e value : Expr} {f : Str} {pos pos' tpos : Pos} {ta tv : TE}
end
section
variable {X : Cx} {pins : List (Addr × Obj)} {σ : St} {H : Hp} {s : Shared} {A : Around} {E : Value → Shared → Prop} {Q : Value → Shared → Prop} {c : Value} {b : Bool}
inductive TyOf (K : PySem.W.Frag) (H : Hp) : V → Value → Prop where
  | non : TyOf K H .non (.type "NoneType")
  | bl (x : Bool) : TyOf K H (.bl x) (.type "bool")
  | int (i : Int) : TyOf K H (.int i) (.type "int")
  | str (x : Str) : TyOf K H (.str x) (.type "str")
  | flt (x : UInt64) : TyOf K H (.flt x) (.type "float")
  | lst {a : Addr} {xs : List V} (e : H a = some (.lst xs)) : TyOf K H (.ref a) (.type "list")
  | frz {a : Addr} {o : Obj} {xs : List V} (e : H a = some (.frz o (.lst xs))) : TyOf K H (.ref a) (.type "list")
  | tup {a : Addr} {xs : List V} (e : H a = some (.tup xs)) : TyOf K H (.ref a) (.type "tuple")
  | dK {a : Addr} {kvs : List (Key × V)} (e : H a = some (.dK kvs)) : TyOf K H (.ref a) (.type "dict")
  | dT {a : Addr} {kvs : List (List Key × V)} (e : H a = some (.dT kvs)) : TyOf K H (.ref a) (.type "dict")
  | ins {a C dx : Addr} {fs : List (Str × V)} (e : H a = some (.ins C dx fs)) (cl : Cls K C) (ha : PySem.W.findIn K (.ref C) "__class__" = some (some (.builtin "object.__class__")))
      (hn : PySem.W.specialIn K (.builtin "object.__class__") "__get__" = some (some (.builtin "getset_descriptor.__get__"))) (htk : PySem.W.takesIn K (.builtin "object.__class__") = some true)
      (hm : PySem.W.mroIn K C (.type "object") = some true) : TyOf K H (.ref a) (.ref C)
theorem isinst_ok {x : V} {u t : Value} (I : Inv X pins σ H s) (rx : RelV x u) (ty : TyOf X.K H x t) (e : PySem.W.kitOne X.K t c = some b) (h : ∀ tk, Q (.bool b) { s with toks := tk }) :
    wpAny (model X.prog X.w) A (call (.builtin "isinstance") [u, c]) Q E s := by
  cases ty with
  | non => cases (show u = Value.none from rx); exact PySem.W.kia_one PySem.W.kitx_none I.kIn True.intro e (fun z => nomatch z) h
  | bl y => cases (show u = Value.bool y from rx); exact PySem.W.kia_one PySem.W.kitx_bool I.kIn True.intro e (fun z => nomatch z) h
  | int i => obtain ⟨t, q⟩ := (show ∃ t, u = Value.int i t from rx); cases q; exact PySem.W.kia_one PySem.W.kitx_int I.kIn True.intro e (fun z => nomatch z) h
  | str y => obtain ⟨t, q⟩ := (show ∃ t, u = Value.str y t from rx); cases q; exact PySem.W.kia_one PySem.W.kitx_str I.kIn True.intro e (fun z => nomatch z) h
  | flt y => obtain ⟨t, q⟩ := (show ∃ t, u = Value.float y t from rx); cases q; exact PySem.W.kia_one PySem.W.kitx_float I.kIn True.intro e (fun z => nomatch z) h
  | @lst a xs ea =>
    cases (show u = Value.ref a from rx)
    obtain ⟨_, _, n, _, h1⟩ := (show ObjOk X.prog X.w H s.heap a (.lst xs) from I.hok a _ ea)
    exact PySem.W.kia_one PySem.W.kitx_list I.kIn ⟨_, h1, rfl⟩ e (fun z => nomatch z) h
  | @frz a ob xs ea =>
    cases (show u = Value.ref a from rx)
    obtain ⟨_, _, _, n, _, h1⟩ := (show ObjOk X.prog X.w H s.heap a (.frz ob (.lst xs)) from I.hok a _ ea)
    exact PySem.W.kia_one PySem.W.kitx_list I.kIn ⟨_, h1, rfl⟩ e (fun z => nomatch z) h
  | @tup a xs ea =>
    cases (show u = Value.ref a from rx)
    obtain ⟨_, _, _, p⟩ := (show ObjOk X.prog X.w H s.heap a (.tup xs) from I.hok a _ ea)
    obtain ⟨o, h1, h2, _⟩ := p
    exact PySem.W.kia_one PySem.W.kitx_tuple I.kIn ⟨o, h1, h2⟩ e (fun z => nomatch z) h
  | @dK a kvs ea =>
    cases (show u = Value.ref a from rx)
    obtain ⟨_, _, vs, _, p⟩ := (show ObjOk X.prog X.w H s.heap a (.dK kvs) from I.hok a _ ea)
    obtain ⟨o, es, ep, h1, h2, _⟩ := p
    exact PySem.W.kia_one PySem.W.kitx_dict I.kIn ⟨o, h1, h2.1⟩ e (fun z => nomatch z) h
  | @dT a kvs ea =>
    cases (show u = Value.ref a from rx)
    obtain ⟨_, _, xs, _, o, es, ep, h1, h2, _⟩ := (show ObjOk X.prog X.w H s.heap a (.dT kvs) from I.hok a _ ea)
    exact PySem.W.kia_one PySem.W.kitx_dict I.kIn ⟨o, h1, h2.1⟩ e (fun z => nomatch z) h
  | @ins a C dx fs ea cl ha hn htk hm =>
    cases (show u = Value.ref a from rx)
    obtain ⟨mA, O, _⟩ := ins_get I.hok ea
    obtain ⟨od, J, _⟩ := O.look
    exact PySem.W.kia_one (PySem.W.kitx_own (cl.get _) cl.hd ha hn htk hm) I.kIn J e (fun z => nomatch z) h
end
end L2
namespace L2
open PySem PySem.Spec PyProof.Rows
structure Room (k : Nat) (A : Around) : Prop where
  hd : A.handled = none
  dp : A.depth + 3 * k + 5 < recursionLimit
  un : A.units + 16 * k + 200 < cLine
theorem Room.mono {j k : Nat} {A : Around} (r : Room k A) (h : j ≤ k) : Room j A := ⟨r.hd, by have := r.dp; omega, by have := r.un; omega⟩
theorem Room.deeper {k : Nat} {A : Around} (r : Room (k + 1) A) (env : Env) : Room k (A.deeper env) :=
  ⟨r.hd, by have := r.dp; show A.depth + 1 + 3 * k + 5 < _; omega, by have := r.un; show A.units + 3 + 16 * k + 200 < _; omega⟩
theorem Room.depth {k : Nat} {A : Around} (r : Room k A) : A.depth < recursionLimit := by have := r.dp; omega
theorem Room.units {k : Nat} {A : Around} (r : Room k A) : A.units + 64 < cLine := by have := r.un; omega
def tNil : TA := fun _ H Q => Q [] H
def tCons (ta : TE) (tr : TA) : TA := fun σ H Q => ta σ H fun x H1 => tr σ H1 fun xs H2 => Q (x :: xs) H2
section
variable {X : Cx} {e : Expr} {es : List Expr} {te : TE} {t : TA} {pos : Pos}
theorem pa_nil : PA X [] tNil := fun _ _ _ _ H Q I h => Calls.spliced_nil ⟨[], H, I, .nil, h⟩
theorem pa_cons (ha : PE X e te) (hr : PA X es t) (hs : starEach (e :: es) X.env = (false, eval e X.env) :: starEach es X.env := by rfl) : PA X (e :: es) (tCons te t) := by
  intro pos pins s σ H Q I h
  rw [hs]
  show wpAny _ _ (spliced ((false, eval e X.env) :: backTo pos (starEach es X.env))) _ _ s
  refine Calls.spliced_cons (thn (ha pins s σ H _ I h) fun u s1 ⟨x, H1, I1, r1, q1⟩ => ?_)
  exact thn (hr pos pins s1 σ H1 _ I1 q1) fun us s2 ⟨xs, H2, I2, r2, q2⟩ => ⟨x :: xs, H2, I2, .cons r1 r2, q2⟩
def tTup (t : TA) : TE := fun σ H Q => t σ H fun xs H1 => xs.length ≤ sizeLine ∧ ∀ p, H1 p = none → Q (.ref p) (upd H1 p (.tup xs))
def tLst (t : TA) : TE := fun σ H Q => t σ H fun xs H1 => xs.length ≤ sizeLine ∧ ∀ p, H1 p = none → Q (.ref p) (upd H1 p (.lst xs))
theorem pe_tup {x1} (h : PA X es t) : PE X (.Tuple es x1 pos) (tTup t) := by
  intro pins s σ H Q I hq
  refine wpAny_Tuple_spliced (thn (h pos pins s σ H _ I hq) fun us s1 ⟨xs, H1, I1, r, z, q⟩ => ⟨by rw [← r.length]; exact z, ?_⟩)
  have hf : H1 s1.heap.objs.size = none := I1.hok.fresh (Nat.le_refl _)
  refine ⟨.ref s1.heap.objs.size, upd H1 s1.heap.objs.size (.tup xs), I1.laid (t' := s1.toks) (fun b u e => Heap.get?_push_of_some _ e) (Nat.le_refl _) ?_, rfl, q _ hf⟩
  exact ⟨z, us, r, ⟨_, Heap.get?_push_size _ rfl, rfl, _, rfl⟩⟩
theorem pe_lst (h : PA X es t) : PE X (.List es pos) (tLst t) := by
  intro pins s σ H Q I hq
  refine wpAny_List_spliced (thn (h pos pins s σ H _ I hq) fun us s1 ⟨xs, H1, I1, r, z, q⟩ => ⟨by rw [← r.length]; exact z, ?_⟩)
  have hf : H1 s1.heap.objs.size = none := I1.hok.fresh (Nat.le_refl _)
  refine ⟨.ref s1.heap.objs.size, upd H1 s1.heap.objs.size (.lst xs), I1.laid (t' := s1.toks) (fun b u e => Heap.get?_push_of_some _ e) (Nat.le_refl _) ?_, rfl, q _ hf⟩
  exact ⟨z, us, 0, r, Heap.get?_push_size _ rfl⟩
end
abbrev Sp := List V → Hp → VK → XK → Prop
abbrev CXT := List Env → Hp → Shared → XK → Value → Shared → Prop
structure Env0 (P : Program) (w : World) (K : PySem.W.Frag) (mg : Str → Option Value) (base : Heap) (A : Around) (outer : List Env) (s : Shared) (H : Hp) : Prop where
  frames : A.frames = some outer
  mod : Mod K mg base
  bs : ∀ b o, base.get? b = some o → s.heap.get? b = some o ∧ H b = none
  bsz : base.objs.size ≤ s.heap.objs.size
  funs : s.heap.FunFrames base outer
  frf : ∀ b ∈ frs outer, H b = none
  hok : HOk P w H s.heap
  bare : AllBare s.gens
def CE (outer : List Env) (P : Program) (w : World) (H : Hp) (s : Shared) (Q : VK) (u : Value) (s' : Shared) : Prop :=
  ∃ v H', s'.os = s.os ∧ AllBare s'.gens ∧ Un (frs outer) [] H H' s.heap s'.heap ∧ HOk P w H' s'.heap ∧ RelV v u ∧ Q v H'
def CR (CX : CXT) (outer : List Env) (P : Program) (w : World) (H : Hp) (s : Shared) (Q : VK) (E : XK) (r : Result) (s' : Shared) : Prop :=
  match r with
  | .ok (.ret u) => CE outer P w H s Q u s'
  | .ok _ => False
  | .error e => CX outer H s E e s'
structure FnOk (P : Program) (w : World) (K : PySem.W.Frag) (mg : Str → Option Value) (base : Heap) (CX : CXT) (k : Nat) (f : Addr) (fd : FuncData) (ps : List Str) (sp : Sp) : Prop where
  len : ∀ vs H Q E, sp vs H Q E → vs.length = ps.length
  run : ∀ (A : Around) (outer : List Env) (s : Shared) (H : Hp) (args : Args) (us : List Value) (vs : List V) (Q : VK) (E : XK), Room k A → Env0 P w K mg base A outer s H → BindsTo s fd args (ps.zip us) → Vals vs us → sp vs H Q E →
    codeAny (model P w) A (.call (.ref f) args) (CR CX outer P w H s Q E) s
section
variable {X : Cx} {pins : List (Addr × Obj)} {σ : St} {H : Hp} {s s' : Shared}
theorem Inv.env0 (I : Inv X pins σ H s) : Env0 X.prog X.w X.K X.mg X.base X.A X.stack s H :=
  ⟨I.ok.frames, I.ok.mod, I.bs, Nat.le_trans I.ok.bsz I.sz, I.stack, I.stkFree, I.hok, I.bare⟩
theorem Inv.after {Q : VK} {u : Value} (I : Inv X pins σ H s) (h : CE X.stack X.prog X.w H s Q u s') : EP X pins σ Q u s' := by
  obtain ⟨v, H', os, bare, un, hok, r, q⟩ := h
  obtain ⟨hh, g, d, t, os'⟩ := s'
  obtain rfl : os' = s.os := os
  exact ⟨v, H', I.call (h' := hh) (g' := g) (d' := d) (t' := t) (ch := []) un hok bare (fun b z => absurd z (by simp)), r, q⟩
end
def tCall (sp : Sp) (dvs : List V) (E : XK) (t : TA) : TE := fun σ H Q => t σ H fun vs H1 => sp (vs ++ dvs) H1 Q E
def Binds (K : PySem.W.Frag) (fd : FuncData) (ps : List Str) (ds : List Value) : Prop :=
  ∀ (s : Shared) (us : List Value), K.In s.heap → (us ++ ds).length = ps.length → BindsTo s fd ⟨us, []⟩ (ps.zip (us ++ ds))
theorem Binds.all {K : PySem.W.Frag} {fd : FuncData} {ps : List Str} (h : ∀ us : List Value, us.length = ps.length → bindArgs fd ⟨us, []⟩ = pure (ps.zip us)) : Binds K fd ps [] := fun s us _ hl => by
  rw [List.append_nil] at hl ⊢
  exact .of_eq (h us hl)
def Passes (CX : CXT) (X : Cx) (E : XK) : Prop := ∀ (pins : List (Addr × Obj)) (σ : St) (H : Hp) (s : Shared) (e : Value) (s' : Shared), Inv X pins σ H s → CX X.stack H s E e s' → X.xe e s'
section
variable {X : Cx} {CX : CXT} {k : Nat} {f C : Addr} {fd : FuncData} {ps : List Str} {sp : Sp} {dvs : List V} {ds : List Value} {E : XK} {x m : Str} {p pos apos : Pos} {e o : Expr} {es : List Expr} {ta : TE} {t : TA}
theorem run_fn {pins : List (Addr × Obj)} {σ : St} {H : Hp} {s : Shared} {Q : VK} {us : List Value} {vs : List V} (F : FnOk X.prog X.w X.K X.mg X.base CX k f fd ps sp) (hr : Room k X.A) (hb : Binds X.K fd ps ds) (hd : Vals dvs ds) (hx : Passes CX X E)
    (I : Inv X pins σ H s) (r : Vals vs us) (h : sp (vs ++ dvs) H Q E) : wpAny (model X.prog X.w) X.A (call (.ref f) us) (EP X pins σ Q) X.xe s := by
  have r2 : Vals (vs ++ dvs) (us ++ ds) := r.append hd
  have hl : (us ++ ds).length = ps.length := by rw [← r2.length]; exact F.len _ _ _ _ h
  refine wpAny_call (codeAny_mono (F.run X.A X.stack s H ⟨us, []⟩ (us ++ ds) (vs ++ dvs) Q E hr I.env0 (hb s us I.kIn hl) r2 h) fun r s' hq => ?_)
  cases r with
  | error e => exact hx pins σ H s e s' I hq
  | ok fl =>
    cases fl with
    | ret u => exact I.after hq
    | next => exact False.elim hq
    | brk => exact False.elim hq
    | cont => exact False.elim hq
theorem pe_call (F : FnOk X.prog X.w X.K X.mg X.base CX k f fd ps sp) (hr : Room k X.A) (hg : Gl X x) (hm : X.mg x = some (.ref f)) (hk : PySem.W.keepIn X.K (.ref f) = true) (hb : Binds X.K fd ps ds) (hd : Vals dvs ds) (hx : Passes CX X E)
    (ha : PA X (e :: es) t) (hdb : (x == ("__debug__" : Str)) = false := by decide) (he : starEach (e :: es) X.env = (false, eval e X.env) :: starEach es X.env := by rfl) (hpl : (backTo pos (starEach es X.env)).any (·.1) = false := by rfl) :
    PE X (.Call (.Name x p) (e :: es) [] pos) (tCall sp dvs E t) := by
  intro pins s σ H Q I h
  refine wpAny_Call_Name_kw (ld_glob I hg hm ?_ hdb)
  refine PySem.W.callWith_K (h₀ := X.base) I.ok.mod.kin hk (thn (ha pos pins s σ H _ I h) fun us s1 ⟨vs, H1, I1, r, q⟩ => ⟨I1.kIn, ?_⟩) he hpl
  exact run_fn F hr hb hd hx I1 r q
end
section
variable {X : Cx} {CX : CXT} {k : Nat} {f C : Addr} {fd : FuncData} {ps ks : List Str} {sp : Sp} {E : XK} {x m : Str} {p pos apos kpos : Pos} {e o : Expr} {es : List Expr} {kws : List Keyword} {te ta : TE} {t tk : TA} {nm : Option Str}
variable {g : List Value → List Value → List Value} {gV : List V → List V → List V}
end
structure FnScope (N P : List Str) (sc : Scope) : Prop where
  kind : sc.kind = .function
  co : sc.isCoroutine = false
  gen : sc.isGenerator = false
  nd : N.Nodup
  pre : N.take P.length = P
  par : ∀ x ∈ P, sc.names.lookup x = some .local ∨ sc.names.lookup x = some .cell
  nofree : ∀ y ∈ sc.names, y.2 ≠ .free
theorem bindL_out {kindOf : Str → Option NameKind} {x : Str} : ∀ {binds : List (Str × Value)} {m : Str → Option Value}, (∀ v, (x, v) ∉ binds) → bindL kindOf binds m x = m x
  | [], _, _ => rfl
  | (n, v) :: r, m, h => by
    unfold bindL
    rw [bindL_out fun w hw => h w (List.mem_cons_of_mem _ hw)]
    split
    · have : x ≠ n := by rintro rfl; exact h v List.mem_cons_self
      simp [this]
    · rfl
theorem bindC_out {kindOf : Str → Option NameKind} {x : Str} : ∀ {binds : List (Str × Value)} {m : Str → Option Value}, (∀ v, (x, v) ∉ binds) → bindC kindOf binds m x = m x
  | [], _, _ => rfl
  | (n, v) :: r, m, h => by
    unfold bindC
    rw [bindC_out fun w hw => h w (List.mem_cons_of_mem _ hw)]
    split
    · rfl
    · have : x ≠ n := by rintro rfl; exact h v List.mem_cons_self
      simp [this]
theorem bindL_get {kindOf : Str → Option NameKind} {x : Str} {v : Value} : ∀ {P : List Str} {vs : List Value} {i : Nat} {m : Str → Option Value}, P.Nodup → P[i]? = some x → vs[i]? = some v → kindOf x = some .local →
    bindL kindOf (P.zip vs) m x = some v
  | [], _, _, _, _, h, _, _ => by simp at h
  | _ :: _, [], _, _, _, _, h, _ => by simp at h
  | p :: P, w :: vs, 0, m, nd, h1, h2, hk => by
    simp at h1 h2; subst h1; subst h2
    show bindL kindOf ((p, w) :: P.zip vs) m p = _
    unfold bindL
    rw [bindL_out fun v hv => (List.nodup_cons.mp nd).1 (List.of_mem_zip hv).1, if_pos hk]
    simp
  | p :: P, w :: vs, i + 1, m, nd, h1, h2, hk => by
    show bindL kindOf ((p, w) :: P.zip vs) m x = _
    unfold bindL
    exact bindL_get (i := i) (List.nodup_cons.mp nd).2 (by simpa using h1) (by simpa using h2) hk
theorem bindC_get {kindOf : Str → Option NameKind} {x : Str} {v : Value} : ∀ {P : List Str} {vs : List Value} {i : Nat} {m : Str → Option Value}, P.Nodup → P[i]? = some x → vs[i]? = some v → kindOf x ≠ some .local →
    bindC kindOf (P.zip vs) m x = some v
  | [], _, _, _, _, h, _, _ => by simp at h
  | _ :: _, [], _, _, _, _, h, _ => by simp at h
  | p :: P, w :: vs, 0, m, nd, h1, h2, hk => by
    simp at h1 h2; subst h1; subst h2
    show bindC kindOf ((p, w) :: P.zip vs) m p = _
    unfold bindC
    rw [bindC_out fun v hv => (List.nodup_cons.mp nd).1 (List.of_mem_zip hv).1, if_neg hk]
    simp
  | p :: P, w :: vs, i + 1, m, nd, h1, h2, hk => by
    show bindC kindOf ((p, w) :: P.zip vs) m x = _
    unfold bindC
    exact bindC_get (i := i) (List.nodup_cons.mp nd).2 (by simpa using h1) (by simpa using h2) hk
def start (N : List Str) (vs : List V) : St := vs.map some ++ List.replicate (N.length - vs.length) none
def cxOf (CX : CXT) (P : Program) (w : World) (K : PySem.W.Frag) (mg : Str → Option Value) (base : Heap) (N : List Str) (qual : Str) (scope : Scope) (f : Addr) (cd : Value) (A : Around) (outer : List Env) (s : Shared) (H : Hp) (E : XK) : Cx where
  prog := P
  w := w
  K := K
  mg := mg
  base := base
  A := A.deeper (envOfC qual scope s.heap.objs.size f cd)
  N := N
  s₀ := s
  H₀ := H
  env := envOfC qual scope s.heap.objs.size f cd
  outer := outer
  stack := envOfC qual scope s.heap.objs.size f cd :: outer
  ex := []
  calm := true
  fn := fun _ => true
  pn := []
  xe := fun e s' => wpAny (model P w) (A.deeper (envOfC qual scope s.heap.objs.size f cd)) (leaving (envOfC qual scope s.heap.objs.size f cd) e) (fun _ s'' => CX outer H s E e s'') (fun e' s'' => CX outer H s E e' s'') s'
theorem cell_has {sc : Scope} {n : Nat} {x : Str} (h : sc.names.lookup x = some .cell) : ∃ c, (cellsFrom n sc.names []).lookup x = some c := by
  have q := PySem.W.cellsFrom_some sc.names n [] (.inl h)
  exact Option.isSome_iff_exists.mp q
theorem inv_start {CX : CXT} {P : Program} {w : World} {K : PySem.W.Frag} {mg : Str → Option Value} {base : Heap} {N ps : List Str} {qual : Str} {scope : Scope} {f : Addr} {cd : Value} {A : Around} {outer : List Env} {s s1 : Shared} {H : Hp} {E : XK} {us : List Value} {vs : List V}
    (S : FnScope N ps scope) (hd : A.handled = none) (e0 : Env0 P w K mg base A outer s H) (hl : vs.length = ps.length) (r : Vals vs us)
    (x : InCallC s s.heap.objs.size (bindL (envOfC qual scope s.heap.objs.size f cd).kindOf (ps.zip us) fun _ => none) (cellsFrom (s.heap.objs.size + 1) scope.names []) (bindC (envOfC qual scope s.heap.objs.size f cd).kindOf (ps.zip us) fun _ => none) s1) :
    Inv (cxOf CX P w K mg base N qual scope f cd A outer s H E) [] (start N vs) H s1 := by
  have hpl : ps.length ≤ N.length := by have := congrArg List.length S.pre; rw [List.length_take] at this; omega
  obtain ⟨h1, tk, rfl, hk⟩ := x.done
  have noA : ∀ b : Addr, b ∉ (cxOf CX P w K mg base N qual scope f cd A outer s H E).ex := fun b z => absurd (show b ∈ ([] : List Addr) from z) (by simp)
  refine ⟨⟨e0.mod, S.kind, rfl, rfl, Nat.le_refl _, fun y z c h1 h2 => ?_, fun y hy => ?_, fun y c _ h => ?_, fun _ => hd, Around.frames_deeper e0.frames, .inr ⟨rfl, rfl⟩, fun b z => absurd z (noA b), e0.bs, e0.bsz, fun b _ _ => noA b, fun b z => absurd z (noA b), e0.funs, e0.frf⟩,
    rfl, e0.bare, Un.kept hk, ⟨_, x.toInCall.ns, fun i y v h1 h2 h3 => ?_⟩, fun y c h => ⟨_, x.cell y c h⟩, e0.hok.fresh (Nat.le_refl _), fun y c h => ?_, fun p hp => absurd (show p ∈ ([] : List (Addr × Obj)) from hp) (by simp), e0.hok.kept hk, ?_⟩
  · exact name_of_addr x.apart (PySem.mem_of_lookup h1) (PySem.mem_of_lookup h2)
  · have hy : scope.names.lookup y = some .cell ∨ scope.names.lookup y = some .free := hy
    rcases hy with hy | hy
    · exact cell_has hy
    · exact absurd rfl (S.nofree _ (PySem.mem_of_lookup hy))
  · exact Nat.le_of_lt (x.above y c (PySem.mem_of_lookup h))
  · have hi : i < vs.length := by
      unfold start at h2
      by_cases hi : i < vs.length
      · exact hi
      · rw [List.getElem?_append_right (by simpa using hi)] at h2
        rw [List.getElem?_replicate] at h2
        split at h2 <;> cases h2
    have ha : vs[i]? = some v := by
      unfold start at h2
      rw [List.getElem?_append_left (by simpa using hi), List.getElem?_map] at h2
      cases e : vs[i]? with
      | none => rw [e] at h2; cases h2
      | some a => rw [e] at h2; cases h2; rfl
    obtain ⟨u, hu, rv⟩ := r.get ha
    have hp : ps[i]? = some y := by
      rw [← S.pre, List.getElem?_take_of_lt (by omega)]; exact h1
    have ndP : ps.Nodup := by rw [← S.pre]; exact S.nd.sublist (List.take_sublist _ _)
    refine ⟨u, rv, ?_⟩
    rcases S.par y (List.mem_of_getElem? hp) with k | k
    · exact .inl ⟨k, bindL_get ndP hp hu k⟩
    · obtain ⟨c, e⟩ := cell_has (n := s.heap.objs.size + 1) k
      refine .inr ⟨.inl k, c, e, ?_⟩
      have q := x.cell y c e
      rw [bindC_get ndP hp hu (by show scope.names.lookup y ≠ _; rw [k]; decide)] at q
      exact q
  · exact e0.hok.fresh (Nat.le_of_lt (x.above y c (PySem.mem_of_lookup h)))
  · unfold start
    show _ = N.length
    rw [List.length_append, List.length_map, List.length_replicate]
    omega
theorem fn_of {CX : CXT} {P : Program} {w : World} {K : PySem.W.Frag} {mg : Str → Option Value} {base : Heap} {k : Nat} {f : Addr} {name qual : Str} {params : Arguments} {body : List Stmt} {scope : Scope} {dV kV doc pm cdv ct oc : Value} {an od : Option Addr}
    {osl : Array (Option Value)} {N ps : List Str} {sp : Sp} (lk : K.lookup f = some ⟨oc, od, .func (PySem.W.fnOf name qual params body scope dV kV doc pm an cdv ct), osl⟩) (hcd : PySem.W.codeIn K cdv qual = true) (S : FnScope N ps scope)
    (len : ∀ vs H Q E, sp vs H Q E → vs.length = ps.length)
    (hbody : ∀ (A : Around) (outer : List Env) (s : Shared) (H : Hp) (vs : List V) (Q : VK) (E : XK), Room k (A.deeper (envOfC qual scope s.heap.objs.size f cdv)) → sp vs H Q E →
      ∃ t, PSs (cxOf CX P w K mg base N qual scope f cdv A outer s H E) body t ∧ t { nx := fun _ H' => Q .non H', rt := Q } (start N vs) H) :
    FnOk P w K mg base CX (k + 1) f (PySem.W.fnOf name qual params body scope dV kV doc pm an cdv ct) ps sp := by
  refine ⟨len, fun A outer s H args us vs Q E hr e0 hb r hsp => ?_⟩
  have hl := len _ _ _ _ hsp
  have KX : K.In s.heap := e0.mod.kin.keeps fun b o e => (e0.bs b o e).1
  have lim : s.heap.NoLimit := e0.mod.nolimit.keeps fun b o e => (e0.bs b o e).1
  have hkind : ∀ y ∈ ps.zip us, scope.names.lookup y.1 = some .local ∨ (scope.names.lookup y.1 = some .cell ∧ ((cellsFrom (s.heap.objs.size + 1) scope.names []).lookup y.1).isSome = true) := fun ⟨n, v⟩ hy => by
    rcases S.par n (List.of_mem_zip hy).1 with q | q
    · exact .inl q
    · exact .inr ⟨q, PySem.W.cellsFrom_some _ _ _ (.inl q)⟩
  refine codeAny_call_function hr.depth (KX _ _ lk) rfl S.co S.gen rfl (PySem.W.codeRec_of KX hcd) (hb _ _ _ _ ?_)
  refine wpAny_newFunctionEnv_cells S.kind hkind fun env he s1 x => ?_
  subst he
  refine ⟨lim.keeps x.toInCall.keep, codeAny_func ?_⟩
  obtain ⟨t, ht, hq⟩ := hbody A outer s H vs Q E (hr.deeper _) hsp
  have I : Inv (cxOf CX P w K mg base N qual scope f cdv A outer s H E) [] (start N vs) H s1 := inv_start S hr.hd e0 hl r x
  refine wpAny_mono (ht [] s1 (start N vs) H _ I hq) (fun fl s' hs => ?_) fun e s' hs => hs
  have fin : ∀ {σ' : St} {H' : Hp} {v : V} {u : Value}, Inv (cxOf CX P w K mg base N qual scope f cdv A outer s H E) [] σ' H' s' → RelV v u → Q v H' → CE outer P w H s Q u s' :=
    fun {σ' H' v u} J rv q => ⟨v, H', J.os, J.bare, J.base, J.hok, rv, q⟩
  cases fl with
  | ret u =>
    obtain ⟨v, σ', H', J, rv, q⟩ := hs
    exact fin J rv q
  | next =>
    obtain ⟨σ', H', J, q⟩ := hs
    exact fin (v := V.non) (u := Value.none) J rfl q
  | brk =>
    obtain ⟨_, _, _, q⟩ := hs
    exact False.elim q
  | cont =>
    obtain ⟨_, _, _, q⟩ := hs
    exact False.elim q
end L2
namespace L2
open PySem PySem.Spec PyProof.Rows
section
variable {X : Cx} {x : Str} {p pos : Pos} {e : Expr} {es : List Expr} {t : TA} {id T : String} {r : List V → Hp → VK → Prop}
def tCB (r : List V → Hp → VK → Prop) (t : TA) : TE := fun σ H Q => t σ H fun vs H1 => r vs H1 Q
theorem pe_callB (hc : CallR X (.builtin id) r) (hg : Gl X x) (hm : X.mg x = none) (hv : bootBuiltins x = some (.builtin id)) (ha : PA X (e :: es) t) (hn : x ≠ "__name__" := by decide) (hdb : (x == ("__debug__" : Str)) = false := by decide)
    (he : starEach (e :: es) X.env = (false, eval e X.env) :: starEach es X.env := by rfl) (hpl : (backTo pos (starEach es X.env)).any (·.1) = false := by rfl) : PE X (.Call (.Name x p) (e :: es) [] pos) (tCB r t) := by
  intro pins s σ H Q I h
  refine wpAny_Call_Name_kw (ld_blt I hg hm hv ?_ hn hdb)
  exact PyProof.Rows.callWith_builtin1 (thn (ha pos pins s σ H _ I h) fun us s1 ⟨vs, H1, I1, r1, q1⟩ => hc pins s1 σ H1 vs us Q I1 r1 q1) he hpl
theorem pe_callTy (hc : CallR X (.type T) r) (hg : Gl X x) (hm : X.mg x = none) (hv : bootBuiltins x = some (.type T)) (ha : PA X (e :: es) t) (hn : x ≠ "__name__" := by decide) (hdb : (x == ("__debug__" : Str)) = false := by decide)
    (he : starEach (e :: es) X.env = (false, eval e X.env) :: starEach es X.env := by rfl) (hpl : (backTo pos (starEach es X.env)).any (·.1) = false := by rfl) : PE X (.Call (.Name x p) (e :: es) [] pos) (tCB r t) := by
  intro pins s σ H Q I h
  refine wpAny_Call_Name_kw (ld_blt I hg hm hv ?_ hn hdb)
  exact PyProof.Rows.callWith_type1 (thn (ha pos pins s σ H _ I h) fun us s1 ⟨vs, H1, I1, r1, q1⟩ => hc pins s1 σ H1 vs us Q I1 r1 q1) he hpl
end
end L2
namespace HT
open PySem PyProof.Rows
def lexLt : List Int → List Int → Bool
  | [], [] => false
  | [], _ :: _ => true
  | _ :: _, [] => false
  | x :: xs, y :: ys => if x = y then lexLt xs ys else decide (x < y)
section
open PySem.SeqAt
open PySem.AutoSeq1 (wpAny_loadPart')
open PySem.MeetsSeq PySem.MeetsSeq2 PySem.MeetsSeq3
end
section
variable {prog : Program} {w : World} {A : Around} {E : Value → Shared → Prop} {s : Shared}
end
end HT
namespace L2
open PySem PySem.Spec PyProof.Rows
section
variable {X : Cx} {e : Expr} {te : TE} {lo hi : Option Expr} {tl th : TO} {pos p2 : Pos}
end
end L2
namespace L2
open PySem PySem.Spec PyProof.Rows
def ixN (n : Nat) (i : Int) : Option Nat := if 0 ≤ i then (if i < n then some i.toNat else none) else if -(n : Int) ≤ i then some (i + n).toNat else none
def atI {α : Type} (xs : List α) (i : Int) : Option α := (ixN xs.length i).bind fun j => xs[j]?
theorem ixN_seq {n : Nat} {i : Int} {j : Nat} (h : ixN n i = some j) : seqIndex? i n = some j ∧ j < n ∧ -(n : Int) ≤ i ∧ i < n := by
  unfold ixN at h
  by_cases h0 : 0 ≤ i
  · rw [if_pos h0] at h
    by_cases h1 : i < n
    · rw [if_pos h1] at h
      have e : i.toNat = j := Option.some.inj h
      exact ⟨by rw [seqIndex_of h0 h1, e], by omega, by omega, h1⟩
    · rw [if_neg h1] at h; cases h
  · rw [if_neg h0] at h
    by_cases h1 : -(n : Int) ≤ i
    · rw [if_pos h1] at h
      have e : (i + n).toNat = j := Option.some.inj h
      exact ⟨by rw [seqIndex_neg (by omega) h1, e], by omega, h1, by omega⟩
    · rw [if_neg h1] at h; cases h
theorem atI_get {α : Type} {xs : List α} {i : Int} {v : α} (h : atI xs i = some v) : ∃ j, seqIndex? i xs.length = some j ∧ xs[j]? = some v ∧ j < xs.length ∧ -(xs.length : Int) ≤ i ∧ i < xs.length := by
  unfold atI at h
  cases e : ixN xs.length i with
  | none => rw [e] at h; cases h
  | some j =>
    rw [e] at h
    obtain ⟨h1, h2, h3, h4⟩ := ixN_seq e
    exact ⟨j, h1, h, h2, h3, h4⟩
theorem atI_nat {α : Type} {xs : List α} {j : Nat} {v : α} (h : xs[j]? = some v) : atI xs (j : Int) = some v := by
  have hj : j < xs.length := (List.getElem?_eq_some_iff.mp h).1
  have e : ixN xs.length (j : Int) = some j := by
    unfold ixN
    rw [if_pos (by omega), if_pos (by omega)]; simp
  unfold atI; rw [e]; exact h
def PlainIx (b : Expr) : Prop := ∀ o i, subscripted b false o i = operate [o, i] (getItem o i)
def IxR (X : Cx) (r : R2) : Prop :=
  ∀ (value slice : Expr) (pins : List (Addr × Obj)) (s : Shared) (σ : St) (H : Hp) (x y : V) (v u : Value) (Q : VK), Inv X pins σ H s → RelV x v → RelV y u → r x y H Q →
    subscripted slice false v u = operate [v, u] (getItem v u) → wpAny (model X.prog X.w) X.A (subscriptTail value slice v u) (EP X pins σ Q) X.xe s
def MtR (X : Cx) (id : String) (r : V → List V → Hp → VK → Prop) : Prop :=
  ∀ (pins : List (Addr × Obj)) (s : Shared) (σ : St) (H : Hp) (x : V) (xs : List V) (v : Value) (us : List Value) (Q : VK), Inv X pins σ H s → RelV x v → Vals xs us → r x xs H Q →
    wpAny (model X.prog X.w) X.A (call (.builtin id) (v :: us)) (EP X pins σ Q) X.xe s
section
variable {X : Cx} {a b : Expr} {ta tb : TE} {pos : Pos}
theorem pe_ix {r : R2} (hr : IxR X r) (ha : PE X a ta) (hb : PE X b tb) (hs : PlainIx b) : PE X (.Subscript a b pos) (tOp r ta tb) := by
  intro pins s σ H Q I h
  exact Subscript_ (binT ha hb I h fun v u s2 x y H2 I2 rx ry q => hr a b pins s2 σ H2 x y v u Q I2 rx ry q (hs _ _))
def rIxL (K : PySem.W.Frag) : R2 := fun x y H Q => ∃ p xs i v, x = .ref p ∧ y = .int i ∧ SqL K H p xs ∧ atI xs i = some v ∧ Q v H
def rIxT (K : PySem.W.Frag) : R2 := fun x y H Q => ∃ p xs i v, x = .ref p ∧ y = .int i ∧ SqT K H p xs ∧ atI xs i = some v ∧ Q v H
theorem ix_list : IxR X (rIxL X.K) := by
  intro value slice pins s σ H x y v u Q I rx ry h hs
  obtain ⟨p, xs, i, z, rfl, rfl, hq, he, q⟩ := h
  cases rx
  obtain ⟨t, rfl⟩ := ry
  obtain ⟨its, r, pl, hz⟩ := I.list hq
  obtain ⟨j, h1, h2, h3, h4, h5⟩ := atI_get he
  obtain ⟨w, ew, rw'⟩ := r.get h2
  have hl := r.length
  have hn := line63
  have fin : EP X pins σ Q w s := ⟨z, H, I, rw', q⟩
  by_cases h0 : 0 ≤ i
  · have hj : i.toNat = j := by
      rw [seqIndex_of h0 h5] at h1
      exact Option.some.inj h1
    exact item_listR pl.isList h0 (by omega) (by rw [hj]; simpa using ew) fin hs
  · have hj : (i + (its.toArray.size : Int)).toNat = j := by
      rw [seqIndex_neg (by omega) h4] at h1
      rw [List.size_toArray, ← hl]
      exact Option.some.inj h1
    exact subscriptTail_builtinR (x := w) pl.isList.typeIs slot_list_getitem.lookup
      (wpAny_getItem_list_neg (Q := fun r s' => r = w ∧ EP X pins σ Q r s') pl.isList (by omega) (by rw [List.size_toArray] <;> omega) (by omega) (by rw [hj]; simpa using ew) ⟨rfl, fin⟩) hs
theorem ix_tup : IxR X (rIxT X.K) := by
  intro value slice pins s σ H x y v u Q I rx ry h hs
  obtain ⟨p, xs, i, z, rfl, rfl, hq, he, q⟩ := h
  cases rx
  obtain ⟨t, rfl⟩ := ry
  obtain ⟨its, r, pl, hz⟩ := I.tuple hq
  obtain ⟨j, h1, h2, h3, h4, h5⟩ := atI_get he
  obtain ⟨w, ew, rw'⟩ := r.get h2
  have hl := r.length
  have hn := line63
  have fin : EP X pins σ Q w s := ⟨z, H, I, rw', q⟩
  exact subscriptTail_builtinR (x := w) pl.typeIs slot_tuple_getitem.lookup
    (getItem_tuple (j := j) (Q := fun r s' => r = w ∧ EP X pins σ Q r s') pl (by omega) (by omega) (by rw [List.size_toArray, ← hl]; exact h1) (by simpa using ew) ⟨rfl, fin⟩) hs
theorem call_len_seq : CallR X (.builtin "len") (fun xs H Q => ∃ p ys, xs = [.ref p] ∧ (SqL X.K H p ys ∨ SqT X.K H p ys) ∧ Q (.int ys.length) H) := by
  intro pins s σ H xs us Q I r h
  obtain ⟨p, ys, rfl, hq, q⟩ := h
  obtain ⟨u, rfl, rx⟩ := vals1 r
  cases rx
  have hn := line63
  rcases hq with hq | hq
  · obtain ⟨its, r', pl, hz⟩ := I.list hq
    have hlen := r'.length
    exact Calls.call_len_list pl.isList (by simp only [List.size_toArray] <;> omega) ⟨.int ys.length, H, I.tok _, ⟨s.toks + 1, by rw [List.size_toArray, hlen]⟩, q⟩
  · obtain ⟨its, r', pl, hz⟩ := I.tuple hq
    have hlen := r'.length
    exact len_tuple pl (by simp only [List.size_toArray] <;> omega) ⟨.int ys.length, H, I.tok _, ⟨s.toks + 1, by rw [List.size_toArray, hlen]⟩, q⟩
theorem call_list_of : CallR X (.type "list") (fun xs H Q => ∃ p ys, xs = [.ref p] ∧ (SqL X.K H p ys ∨ SqT X.K H p ys) ∧ ∀ l, H l = none → Q (.ref l) (upd H l (.lst ys))) := by
  intro pins s σ H xs us Q I r h
  obtain ⟨p, ys, rfl, hq, q⟩ := h
  obtain ⟨u, rfl, rx⟩ := vals1 r
  cases rx
  have fin : ∀ (its : List Value), Vals ys its → ys.length ≤ sizeLine → ∀ (h' : Heap) (c' : Nat), (∀ b o', s.heap.get? b = some o' → h'.get? b = some o') →
      h'.get? s.heap.objs.size = some { cls := .type "list", dict := none, data := .seq its.toArray c', slots := #[] } → EP X pins σ Q (.ref s.heap.objs.size) { s with heap := h' } := fun its r' hz h' c' kp e =>
    ⟨.ref s.heap.objs.size, _, I.laid (t' := s.toks) kp (Nat.le_refl _) (show ObjOk X.prog X.w _ h' _ (.lst ys) from ⟨hz, its, c', r', e⟩), rfl, q _ (I.hok.fresh (Nat.le_refl _))⟩
  rcases hq with hq | hq
  · obtain ⟨its, r', pl, hz⟩ := I.list hq
    have hlen := r'.length
    obtain ⟨o, ho, hc, n, hd⟩ := pl.isList
    exact call_list_seq p (.inl rfl) ho hc hd (fun h' c' kp e => fin its r' hz h' c' kp e) (by simp only [List.size_toArray] <;> omega)
  · obtain ⟨its, r', pl, hz⟩ := I.tuple hq
    have hlen := r'.length
    obtain ⟨o, ho, hc, n, hd⟩ := pl
    exact call_list_seq p (.inr rfl) ho hc hd (fun h' c' kp e => fin its r' hz h' c' kp e) (by simp only [List.size_toArray] <;> omega)
def tyV (K : PySem.W.Frag) (T : String) (x : V) (H : Hp) : Prop := match x with
  | .str _ => T = "str"
  | .int _ => T = "int"
  | .ref p => (T = "list" ∧ ∃ xs, SqL K H p xs) ∨ (T = "tuple" ∧ ∃ o, K.lookup p = some o ∧ o.cls = .type "tuple" ∧ o.dict = none) ∨
      (T = "dict" ∧ ((∃ kvs, H p = some (.dK kvs)) ∨ ∃ kvs, H p = some (.dT kvs))) ∨ (T = "set" ∧ ∃ S n, H p = some (.set S n))
  | _ => False
theorem tyV_is {pins : List (Addr × Obj)} {σ : St} {H : Hp} {s : Shared} {T : String} {x : V} {v : Value} (I : Inv X pins σ H s) (r : RelV x v) (ty : tyV X.K T x H) :
    s.TypeIs v T ∧ ∀ a, v = .ref a → ∃ ob, s.heap.get? a = some ob ∧ ob.dict = none := by
  cases x with
  | str z =>
    obtain ⟨t, rfl⟩ := r
    cases (show T = "str" from ty)
    exact ⟨typeIs_str s z t, fun _ e => nomatch e⟩
  | int i =>
    obtain ⟨t, rfl⟩ := r
    cases (show T = "int" from ty)
    exact ⟨typeIs_int s i t, fun _ e => nomatch e⟩
  | ref p =>
    cases r
    rcases ty with ⟨rfl, xs, hq⟩ | ⟨rfl, o, hk, hc, hd⟩ | ⟨rfl, hk⟩ | ⟨rfl, S, n, hk⟩
    · obtain ⟨its, _, pl, _⟩ := I.list hq
      refine ⟨pl.isList.typeIs, fun a e => ?_⟩
      cases e
      obtain ⟨o, n, e, c, hd, _⟩ := pl
      exact ⟨o, e, hd⟩
    · refine ⟨⟨o, I.kIn p o hk, hc⟩, fun a e => ?_⟩
      cases e
      exact ⟨o, I.kIn _ o hk, hd⟩
    · have z : ∃ o, s.heap.get? p = some o ∧ o.ExactDict := by
        rcases hk with ⟨kvs, hk⟩ | ⟨kvs, hk⟩
        · obtain ⟨_, _, _, _, o, _, _, e, ex, _⟩ := I.hok p _ hk
          exact ⟨o, e, ex⟩
        · obtain ⟨_, _, _, _, o, _, _, e, ex, _⟩ := I.hok p _ hk
          exact ⟨o, e, ex⟩
      obtain ⟨o, e, ex⟩ := z
      refine ⟨⟨o, e, ex.1⟩, fun a e2 => ?_⟩
      cases e2
      exact ⟨o, e, ex.2.1⟩
    · obtain ⟨o, _, _, _, e, ex, _⟩ := I.hok p _ hk
      refine ⟨⟨o, e, ex.1⟩, fun a e2 => ?_⟩
      cases e2
      exact ⟨o, e, ex.2.1⟩
  | _ => exact False.elim ty
def tBM0 (K : PySem.W.Frag) (T : String) (r : V → List V → Hp → VK → Prop) (to : TE) : TE := fun σ H Q => to σ H fun x H1 => tyV K T x H1 ∧ r x [] H1 Q
def tBM (K : PySem.W.Frag) (T : String) (r : V → List V → Hp → VK → Prop) (to : TE) (t : TA) : TE := fun σ H Q => to σ H fun x H1 => tyV K T x H1 ∧ t σ H1 fun xs H2 => r x xs H2 Q
variable {o e : Expr} {es : List Expr} {to : TE} {t : TA} {name : Str} {apos cpos : Pos} {T id : String} {r : V → List V → Hp → VK → Prop}
theorem pe_bm0 (pa : PlainAttrs T) (slot : Slot T name id) (hty : typeOf (.builtin id) = pure (.type "method_descriptor")) (hm : MtR X id r) (ho : PE X o to)
    (hbase : attributeBase o name X.env (eval o X.env) = eval o X.env := by rfl) (hline : (apos.endLine == cpos.line) = true := by rfl) : PE X (.Call (.Attribute o name apos) [] [] cpos) (tBM0 X.K T r to) := by
  intro pins s σ H Q I h
  refine wpAny_Call_method0_late hbase hline (thn (ho pins s σ H _ I h) fun v s1 ⟨x, H1, I1, r1, ty, q1⟩ => ?_)
  obtain ⟨h1, h2⟩ := tyV_is I1 r1 ty
  exact ⟨T, id, pa, slot, hty, h1, h2, Calls.callWith_builtin rfl (PySem.evalArgs_none (hm pins s1 σ H1 x [] v [] Q I1 r1 .nil q1))⟩
theorem pe_bm (pa : PlainAttrs T) (slot : Slot T name id) (hty : typeOf (.builtin id) = pure (.type "method_descriptor")) (hm : MtR X id r) (ho : PE X o to) (ha : PA X (e :: es) t)
    (hbase : attributeBase o name X.env (eval o X.env) = eval o X.env := by rfl)
    (hfew : ((backTo cpos (starEach (e :: es) X.env)).all (fun x => !x.1) && (backToKw cpos (keywordEach [] X.env)).all (fun x => x.1.isSome)
      && decide ((e :: es).length + ([] : List Keyword).length + (if ([] : List Keyword).isEmpty then 0 else 1) < 30)) = true := by rfl)
    (hline : (apos.endLine == cpos.line) = true := by rfl) (hs : starEach (e :: es) X.env = (false, eval e X.env) :: starEach es X.env := by rfl) (hplain : (backTo cpos (starEach es X.env)).any (·.1) = false := by rfl) :
    PE X (.Call (.Attribute o name apos) (e :: es) [] cpos) (tBM X.K T r to t) := by
  intro pins s σ H Q I h
  refine wpAny_Call_method_late hbase hfew hline rfl (thn (ho pins s σ H _ I h) fun v s1 ⟨x, H1, I1, r1, ty, q1⟩ => ?_)
  obtain ⟨h1, h2⟩ := tyV_is I1 r1 ty
  refine ⟨T, id, pa, slot, hty, h1, h2, ?_⟩
  have hA := ha cpos pins s1 σ H1 _ I1 q1
  rw [hs] at hA ⊢
  refine Calls.callWith_builtin (by show (false || (backTo cpos (starEach es X.env)).any (·.1)) = false; rw [hplain] <;> rfl) (Calls.evalArgs_plain ?_)
  exact thn hA fun us s2 ⟨vs, H2, I2, r2, q2⟩ => hm pins s2 σ H2 x vs v us Q I2 r1 r2 q2
/- xs.append(e), list.index on a module's tuple .. are MtR facts of 06m -/
end
end L2
namespace L2
open PySem PySem.Spec PyProof.Rows
def MtM (X : Cx) (id : String) (r : V → List V → Hp → VK → Prop) : Prop :=
  ∀ (pins : List (Addr × Obj)) (s : Shared) (σ : St) (H : Hp) (x : V) (xs : List V) (v : Value) (us : List Value) (Q : VK), Inv X pins σ H s → RelV x v → Vals xs us → r x xs H Q →
    wpAny (model X.prog X.w) X.A (call (.builtin id) (v :: us)) (EP X pins σ Q) X.xe s
theorem Vals.one : ∀ {x : V} {us : List Value}, Vals [x] us → ∃ u, us = [u] ∧ RelV x u
  | _, _, .cons r .nil => ⟨_, rfl, r⟩
theorem Vals.zero : ∀ {us : List Value}, Vals [] us → us = []
  | _, .nil => rfl
theorem Vals.dropLast {xs : List V} {us : List Value} (h : Vals xs us) : Vals xs.dropLast us.dropLast := by
  induction h with
  | nil => exact .nil
  | cons r t ih =>
    cases t with
    | nil => exact .nil
    | cons q t' => exact .cons r ih
theorem erase_last {α : Type} (l : List α) : l.eraseIdx (l.length - 1) = l.dropLast := by
  induction l with
  | nil => rfl
  | cons a r ih =>
    cases r with
    | nil => rfl
    | cons b r =>
      have e : (a :: b :: r).length - 1 = ((b :: r).length - 1) + 1 := by
        have h1 : (a :: b :: r).length = r.length + 2 := rfl
        have h2 : (b :: r).length = r.length + 1 := rfl
        omega
      rw [e, List.eraseIdx_cons_succ, ih]
      all_goals rfl
section
variable {X : Cx} {pins : List (Addr × Obj)} {σ : St} {H : Hp} {s : Shared} {l b : Addr} {xs ys zs : List V}
theorem Inv.lset {its its' : List Value} {n : Nat} {f : Array Value → Array Value} {t' : Nat} (I : Inv X pins σ H s) (hH : H l = some (.lst xs))
    (e : s.heap.get? l = some { cls := .type "list", data := .seq its.toArray n }) (hf : f its.toArray = its'.toArray) (hv : Vals ys its') (hz : ys.length ≤ sizeLine) :
    Inv X pins σ (upd H l (.lst ys)) { s with heap := s.heap.update l (Obj.mapSeq f), toks := t' } := by
  have q := PySem.IsL.update e f
  rw [hf] at q
  refine I.write (x := l) (e := l) (by rw [hH]; exact trivial) (.inl rfl) (fun b' u hb hu => (Heap.get?_update_other s.heap (Obj.mapSeq f) (Ne.symm hb)).trans hu) ⟨_, q⟩ ?_
  exact ⟨hz, its', _, hv, q⟩
theorem Inv.lnew {its : List Value} {t' : Nat} (I : Inv X pins σ H s) (hv : Vals ys its) (hz : ys.length ≤ sizeLine) :
    Inv X pins σ (upd H s.heap.objs.size (.lst ys)) { s with heap := s.heap.push { cls := .type "list", data := .seq its.toArray }, toks := t' } :=
  I.laid (fun _ _ q => Heap.get?_push_of_some _ q) (Nat.le_refl _) ⟨hz, its, 0, hv, Heap.get?_push_size _ rfl⟩
theorem Inv.fresh (I : Inv X pins σ H s) : H s.heap.objs.size = none := I.hok.fresh (Nat.le_refl _)
theorem Inv.lstM (I : Inv X pins σ H s) (hH : H l = some (.lst xs)) : xs.length ≤ sizeLine ∧ ∃ (its : List Value) (n : Nat), Vals xs its ∧ xs.length = its.length ∧ s.heap.get? l = some { cls := .type "list", data := .seq its.toArray n } := by
  obtain ⟨z, its, n, r, e⟩ := I.hok l _ hH
  exact ⟨z, its, n, r, r.length, e⟩
theorem notLongL {n : Nat} (h : n ≤ sizeLine) : Builtin.List.listTooLong n = false := by
  unfold Builtin.List.listTooLong
  exact decide_eq_false (by omega)
end
section
variable {X : Cx}
def rAppend : V → List V → Hp → VK → Prop := fun x vs H Q => ∃ l xs y, x = .ref l ∧ vs = [y] ∧ H l = some (.lst xs) ∧ xs.length < sizeLine ∧ Q .non (upd H l (.lst (xs ++ [y])))
theorem mt_append : MtM X "list.append" rAppend := by
  intro pins s σ H x vs v us Q I rx rv h
  obtain ⟨l, xs, y, rfl, rfl, hH, hz, q⟩ := h
  cases rx
  obtain ⟨u, rfl, ru⟩ := rv.one
  obtain ⟨z, its, n, r, hl, e⟩ := I.lstM hH
  refine call_meets F.slot_list_append ⟨_, e, rfl⟩ F.entry_list_append (F.args_list_append_2 _ _) (PySem.list_append l its.toArray n u (by rw [List.size_toArray]; omega)) ⟨e, ?_⟩
  refine ⟨.non, _, I.lset (its' := its ++ [u]) hH e (by simp) (r.append (.cons ru .nil)) ?_, rfl, q⟩
  rw [List.length_append, List.length_singleton]
  omega
def rExtend : V → List V → Hp → VK → Prop := fun x vs H Q => ∃ l b xs zs, x = .ref l ∧ vs = [.ref b] ∧ H l = some (.lst xs) ∧ H b = some (.lst zs) ∧ xs.length + zs.length ≤ sizeLine ∧ Q .non (upd H l (.lst (xs ++ zs)))
theorem mt_extend : MtM X "list.extend" rExtend := by
  intro pins s σ H x vs v us Q I rx rv h
  obtain ⟨l, b, xs, zs, rfl, rfl, hH, hB, hz, q⟩ := h
  cases rx
  obtain ⟨u, rfl, ru⟩ := rv.one
  cases ru
  obtain ⟨z, its, n, r, hl, e⟩ := I.lstM hH
  obtain ⟨z2, its2, n2, r2, hl2, e2⟩ := I.lstM hB
  have hsz : its.toArray.size + its2.toArray.size ≤ sizeLine := by rw [List.size_toArray, List.size_toArray]; omega
  have hlong : ¬ (!its.toArray.isEmpty && Builtin.List.listTooLong (its.toArray.size + its2.toArray.size)) = true := by
    rw [notLongL hsz, Bool.and_false]
    exact Bool.false_ne_true
  refine call_meets F.slot_list_extend ⟨_, e, rfl⟩ F.entry_list_extend (F.args_list_extend_2 _ _)
    (AutoSeq1.list_extend_list_list_0 l its.toArray n b its2.toArray n2 hlong (by rw [List.size_toArray]; omega) (by omega)) ⟨e, e2, ?_⟩
  refine ⟨.non, _, I.lset (its' := its ++ its2) hH e (by simp) (r.append r2) ?_, rfl, q⟩
  rw [List.length_append]
  omega
def rPop : V → List V → Hp → VK → Prop := fun x vs H Q => ∃ l xs y, x = .ref l ∧ vs = [] ∧ H l = some (.lst xs) ∧ xs[xs.length - 1]? = some y ∧ Q y (upd H l (.lst xs.dropLast))
theorem mt_pop : MtM X "list.pop" rPop := by
  intro pins s σ H x vs v us Q I rx rv h
  obtain ⟨l, xs, y, rfl, rfl, hH, hy, q⟩ := h
  cases rx
  have hus := rv.zero
  subst hus
  obtain ⟨z, its, n, r, hl, e⟩ := I.lstM hH
  obtain ⟨u, hu, ru⟩ := r.get hy
  have hy' : its.toArray[its.toArray.size - 1]? = some u := by
    show its.toArray[its.length - 1]? = some u
    rw [← Array.getElem?_toList, ← hl]
    exact hu
  refine call_meets F.slot_list_pop ⟨_, e, rfl⟩ F.entry_list_pop (F.args_list_pop_1 _) (MeetsSeq.list_pop_last l its.toArray n u hy' (by rw [List.size_toArray]; omega)) ⟨e, ?_⟩
  refine ⟨y, _, I.lset (its' := its.dropLast) hH e ?_ r.dropLast ?_, ru, q⟩
  · show its.toArray.eraseIdxIfInBounds (its.toArray.size - 1) = its.dropLast.toArray
    rw [List.size_toArray, List.eraseIdxIfInBounds_toArray, erase_last]
  · rw [List.length_dropLast]
    omega
def rClear : V → List V → Hp → VK → Prop := fun x vs H Q => ∃ l xs, x = .ref l ∧ vs = [] ∧ H l = some (.lst xs) ∧ Q .non (upd H l (.lst []))
theorem mt_clear : MtM X "list.clear" rClear := by
  intro pins s σ H x vs v us Q I rx rv h
  obtain ⟨l, xs, rfl, rfl, hH, q⟩ := h
  cases rx
  have hus := rv.zero
  subst hus
  obtain ⟨z, its, n, r, hl, e⟩ := I.lstM hH
  refine call_meets F.slot_list_clear ⟨_, e, rfl⟩ F.entry_list_clear (F.args_list_clear_1 _) (AutoSeq1.list_clear_list_0 l its.toArray n (by rw [List.size_toArray]; omega)) ⟨e, ?_⟩
  exact ⟨.non, _, I.lset (its' := []) (ys := []) hH e rfl .nil (Nat.zero_le _), rfl, q⟩
def rCat : R2 := fun x y H Q => ∃ l b xs zs, x = .ref l ∧ y = .ref b ∧ H l = some (.lst xs) ∧ H b = some (.lst zs) ∧ xs.length + zs.length ≤ sizeLine ∧ ∀ p, H p = none → Q (.ref p) (upd H p (.lst (xs ++ zs)))
theorem op_cat : OpR X (binaryOp .Add) rCat := by
  intro pins s σ H x y v u Q I rx ry h
  obtain ⟨l, b, xs, zs, rfl, rfl, hH, hB, hz, q⟩ := h
  cases rx
  cases ry
  obtain ⟨z, its, n, r, hl, e⟩ := I.lstM hH
  obtain ⟨z2, its2, n2, r2, hl2, e2⟩ := I.lstM hB
  refine PySem.P.add_list e e2 ?_ (by rw [List.size_toArray, List.size_toArray]; omega)
  have ea : its.toArray ++ its2.toArray = (its ++ its2).toArray := by simp
  rw [ea]
  exact ⟨.ref _, _, I.lnew (t' := s.toks) (r.append r2) (by rw [List.length_append]; omega), rfl, q _ I.fresh⟩
end
section
variable {prog : Program} {w : World} {A : Around} {E : Value → Shared → Prop} {s : Shared}
end
section
variable {X : Cx}
end
end L2
namespace Att
open PySem PySem.W PySem.Calls PyProof.Rows
theorem ints_of_wellAll {P : Params} {h : Heap} : ∀ (ns : List Int) (vs : List Value), WellAll P h vs (ns.map WData.int) → IntsAre vs ns := by
  intro ns
  induction ns with
  | nil =>
    intro vs w
    rw [List.map_nil] at w
    cases w
    exact .nil
  | cons n ns ih =>
    intro vs w
    rw [List.map_cons] at w
    cases w with
    | cons a b =>
      cases a
      exact .cons _ _ (ih _ b)
theorem script_of {l : OpenLaw} {n : Nat} (hn : l.most = some n) {P : Params} {h : Heap} {args : List WData} {vals : List Value}
    (hpre : l.row.toRowW.claim.pre args = true) (hwl : WellAll P h vals args) :
    ∃ a vs ns, vals = [Value.ref a] ∧ args = [WData.list (ns.map WData.int)] ∧ h.get? a = some { cls := .type "list", data := .seq vs.toArray } ∧ IntsAre vs ns ∧ ns.length ≤ n := by
  have hsh : WShape.hasAll [] args [.list .int] = true := (pre_splitW hpre).1
  have hc : l.pre.holds [] { args := args } = true := (pre_splitW hpre).2
  obtain ⟨d, r, rfl, h1, h2⟩ := hasAllW_cons hsh
  obtain rfl := hasAllW_nil h2
  obtain ⟨xs, rfl, h3⟩ := hasW_list h1
  obtain ⟨ns, rfl⟩ := items_int h3
  have hlen : ns.length ≤ n := by
    unfold OpenLaw.pre at hc
    have h4 : (WTm.not (.lt (.lit (.int (n : Int))) (.len (.arg 0)))).holds [] { args := [.list (ns.map .int)] } = true := by
      have h4 := (holds_andW hc).1
      rw [hn] at h4
      exact h4
    have h5 := condW_of h4 (w_not (w_lt w_lit (w_len_list (w_arg rfl))))
    rw [List.length_map] at h5
    refine Nat.le_of_not_lt fun q => ?_
    have q' : (n : Int) < ((ns.length : Nat) : Int) := by omega
    first
      | (rw [decide_eq_true q'] at h5; exact absurd h5 (by decide))
      | (simp at h5; omega)
  cases hwl with
  | cons w1 w2 =>
    cases w2
    cases w1 with
    | list ho hall => exact ⟨_, _, ns, rfl, rfl, ho, ints_of_wellAll ns _ hall, hlen⟩
theorem post_true (l : OpenLaw) (args : List WData) : l.row.toRowW.claim.post args (.bool true) args = true :=
  postW_of (r := l.row.toRowW) (X := (true == true))
    (show WShape.has [] (.bool true) .bool = true by first | rfl | decide | simp [WShape.has, WShape.arms, WShape.armsAll])
    (show (WTm.eq .res (.lit (.bool true))).value [] { args := args, res := some (.bool true), after := args } = some (.bool (true == true)) from w_eq_bool (w_res rfl) w_lit) rfl
theorem attach_call {l : OpenLaw} {n : Nat} {q : Program} {loose : List Str} {XP : (Str → Option Value) → Heap → Prop} {YP : World → Heap → Prop} {d : DefRec}
    (hn : l.most = some n) (hdf : d.params.defaults = [])
    (call : ∀ (w : World) (s₀ s₁ : Shared) (mg mb : Str → Option Value) (fa : Addr) (o : Obj) (pm cd doc : Value) (a : Addr) (vs : List Value) (ns : List Int),
      Ground q loose [] XP w s₀ mg mb s₁.heap → YP w s₁.heap →
      s₁.heap.get? fa = some o → o.data = .func (docDef d.name d.params d.body d.scope pm cd doc) → s₁.heap.CodeRec cd d.name → mg d.name = some (.ref fa) →
      s₁.heap.get? a = some { cls := .type "list", data := .seq vs.toArray } → IntsAre vs ns → ns.length ≤ n → s₁.gens = #[] →
      codeAny (model l.prog w) callerA (.call (.ref fa) ⟨[.ref a], []⟩) (fun r s' => r = .ok (.ret (.bool true)) ∧ OldK s₁.heap s'.heap ∧ s'.os = s₁.os ∧ AllBare s'.gens) s₁) :
    WalkO q loose XP YP l.row.toRowW d [] (fun f vs => PySem.call f vs) := by
  intro w s₀ s₁ mg mb G Y fa o pm cd doc dV kV ho hd hcd hD hmg hg args vals as hpre hlay hrd hwl hlo
  obtain rfl : dV = .none := Dflts.none hD hdf
  obtain rfl : kV = .none := Dflts.noKw hD
  obtain ⟨a, vs, ns, rfl, rfl, hobj, hints, hlen⟩ := script_of hn hpre hwl
  refine enter_call (codeAny_mono (call w s₀ s₁ mg mb fa o pm cd doc a vs ns G Y ho (fd_plain hd) hcd hmg hobj hints hlen hg) fun r s' hq => ?_)
  obtain ⟨rfl, h2, h3, h4⟩ := hq
  exact ⟨.inl ⟨.bool true, .bool true, [], rfl, fun _ => rfl, .bool true, post_true l _, fun _ => ⟨List.Pairwise.nil, fun _ hm => (nomatch hm)⟩⟩, h2, h3, h4⟩
section
variable {prog : Program} {w : World} {A : Around} {E : Value → Shared → Prop} {s : Shared} {K : Frag}
end
end Att
namespace L2
open PySem PySem.Spec PyProof.Rows
theorem vals_ints : ∀ {vs : List Value} {ns : List Int}, IntsAre vs ns → Vals (ns.map V.int) vs
  | _, _, .nil => .nil
  | _, _, .cons n t h => .cons ⟨t, rfl⟩ (vals_ints h)
def Only (H : Hp) : Prop := ∀ b, H b = none ∨ ∃ o xs, H b = some (.frz o (.lst xs))
theorem law_call {P : Program} {w : World} {K : PySem.W.Frag} {mg mb : Str → Option Value} {CX : CXT} {k : Nat} {fa a : Addr} {fd : FuncData} {x : Str} {sp : Sp} {s₁ : Shared} {vs : List Value} {ns : List Int}
    (KX : K.In s₁.heap) (hns : s₁.heap.Ns mainGlobals mg) (hb : s₁.heap.Ns builtinsNs mb) (hbb : ∀ x : Str, x ≠ "__name__" → mb x = bootBuiltins x) (hlim : s₁.heap.NoLimit) (hg : s₁.gens = #[])
    (ha : s₁.heap.get? a = some { cls := .type "list", data := .seq vs.toArray }) (hi : IntsAre vs ns) (hl : ns.length ≤ sizeLine) (hr : Room k callerA)
    (F : ∀ base : Heap, K.In base → base.Ns mainGlobals mg → FnOk P w K mg base CX k fa fd [x] sp) (hbind : ∀ (s : Shared) (u : Value), BindsTo s fd ⟨[u], []⟩ [(x, u)])
    (hsp : ∀ H : Hp, Only H → SqL K H a (ns.map V.int) → sp [.ref a] H (fun v _ => v = .bl true) fun _ _ _ => False)
    (hCX : ∀ H e s', CX [] H s₁ (fun _ _ _ => False) e s' → False) :
    codeAny (model P w) callerA (.call (.ref fa) ⟨[.ref a], []⟩) (fun r s' => r = .ok (.ret (.bool true)) ∧ OldK s₁.heap s'.heap ∧ s'.os = s₁.os ∧ AllBare s'.gens) s₁ := by
  have rv := vals_ints hi
  have lenV := hi.length
  have core : ∀ H : Hp, Only H → SqL K H a (ns.map V.int) → HOk P w H s₁.heap → (∀ b, H b ≠ none → b = a) → (H a ≠ none → K.lookup a = none) →
      codeAny (model P w) callerA (.call (.ref fa) ⟨[.ref a], []⟩) (fun r s' => r = .ok (.ret (.bool true)) ∧ OldK s₁.heap s'.heap ∧ s'.os = s₁.os ∧ AllBare s'.gens) s₁ := by
    intro H hO hS hok hA hK
    have base_of : ∀ {b : Addr} {o : Obj}, s₁.heap.get? b = some o → H b = none → (hidT s₁.heap H).get? b = some o := fun e n => hidT_get e n
    have noA : ∀ {b : Addr} {o : Obj} {es : Array DictEntry} {ep : Nat}, s₁.heap.get? b = some o → o.data = .dict es ep → H b = none := fun {b o es ep} e d => by
      cases q : H b with
      | none => rfl
      | some u =>
        have e' : b = a := hA b (by rw [q]; simp)
        subst e'
        rw [ha] at e; cases e
        have d' : Data.seq vs.toArray _ = Data.dict es ep := d
        cases d'
    have nsK : ∀ {b : Addr} {m : Str → Option Value}, s₁.heap.Ns b m → (hidT s₁.heap H).Ns b m := fun {b m} ⟨o, es, ep, e, d, r⟩ => ⟨o, es, ep, base_of e (noA e d), d, r⟩
    have hKb : K.In (hidT s₁.heap H) := fun b o e => base_of (KX b o e) (by
      cases q : H b with
      | none => rfl
      | some u =>
        have e' : b = a := hA b (by rw [q]; simp)
        subst e'
        rw [hK (by rw [q]; simp)] at e; cases e)
    have hM : Mod K mg (hidT s₁.heap H) := ⟨hKb, nsK hns, ⟨mb, nsK hb, hbb⟩, let ⟨mc, h1, h2⟩ := hlim; ⟨mc, nsK h1, h2⟩⟩
    have e0 : Env0 P w K mg (hidT s₁.heap H) callerA [] s₁ H := ⟨rfl, hM, fun b o e => of_hidT e, Nat.le_of_eq (hidT_size _ _), trivial, fun b hb => absurd (show b ∈ ([] : List Addr) from hb) (by simp), hok, .of_eq hg⟩
    refine codeAny_mono ((F _ hKb (nsK hns)).run callerA [] s₁ H ⟨[.ref a], []⟩ [.ref a] [.ref a] _ _ hr e0 (hbind s₁ (.ref a)) (.cons rfl .nil) (hsp H hO hS)) fun r s' h => ?_
    cases r with
    | error e => exact (hCX H e s' h).elim
    | ok fl =>
      cases fl with
      | next => exact False.elim h
      | brk => exact False.elim h
      | cont => exact False.elim h
      | ret u =>
        obtain ⟨v, H', os, bare, un, hok', r', q⟩ := h
        have q' : v = .bl true := q
        subst q'
        obtain rfl : u = Value.bool true := r'
        refine ⟨rfl, OldK.of_keep fun b o e => ?_, os, bare⟩
        cases q : H b with
        | none => exact un.keep b o e q (by intro z; exact absurd (show b ∈ ([] : List Addr) from z) (by simp)) (by simp)
        | some u =>
          rcases hO b with z | ⟨ob, xs, z⟩
          · rw [q] at z; cases z
          · have z2 := un.frzs b ob _ z
            obtain ⟨e1, _⟩ := hok b _ z
            obtain ⟨e2, _⟩ := hok' b _ z2
            rw [e] at e1; cases e1
            exact e2
  cases hk : K.lookup a with
  | some o =>
    have e := KX a o hk
    rw [ha] at e
    cases e
    refine core (fun _ => none) (fun _ => .inl rfl) (.inr ⟨_, vs.toArray, _, hk, rfl, rfl, rfl, by rw [List.size_toArray, lenV]; exact hl, by simpa using rv⟩) (fun b u z => by have z' : (none : Option HO) = some u := z; cases z') (fun b z => absurd rfl z) fun z => absurd rfl z
  | none =>
    refine core (fun b => if b = a then some (.frz { cls := .type "list", data := .seq vs.toArray } (.lst (ns.map V.int))) else none) (fun b => ?_) (.inl (.inr ⟨{ cls := .type "list", data := .seq vs.toArray }, if_pos rfl⟩)) (fun b u z => ?_) (fun b z => ?_) fun _ => hk
    · by_cases hb : b = a
      · exact .inr ⟨_, _, if_pos hb⟩
      · exact .inl (if_neg hb)
    · by_cases hb : b = a
      · have z' := (if_pos hb).symm.trans z
        cases z'
        subst hb
        exact ⟨ha, by rw [List.length_map]; exact hl, vs, _, rv, ha⟩
      · have z' := (if_neg hb).symm.trans z
        cases z'
    · by_cases hb : b = a
      · exact hb
      · exact absurd (if_neg hb) z
end L2
namespace L2
open PySem PySem.Spec PyProof.Rows
theorem walk_of {l : PySem.W.OpenLaw} {n k : Nat} {q : Program} {loose : List Str} {XP : (Str → Option Value) → Heap → Prop} {YP : World → Heap → Prop} {d : DefRec} {K : Params → PySem.W.Frag} {CX : World → CXT} {sp : World → Sp} {x : Str}
    (hn : l.most = some n) (hn2 : n ≤ sizeLine) (hdf : d.params.defaults = []) (hr : Room k callerA)
    (hY : ∀ (w : World) (h : Heap), YP w h → (K w.params).In h)
    (F : ∀ (w : World) (mg : Str → Option Value) (fa : Addr) (h : Heap), (K w.params).In h → h.Ns mainGlobals mg → mg d.name = some (.ref fa) →
      ∃ fd : FuncData, (∀ (s : Shared) (u : Value), BindsTo s fd ⟨[u], []⟩ [(x, u)]) ∧
        ∀ base : Heap, (K w.params).In base → base.Ns mainGlobals mg → FnOk l.prog w (K w.params) mg base (CX w) k fa fd [x] (sp w))
    (hsp : ∀ (w : World) (H : Hp) (a : Addr) (ns : List Int), ns.length ≤ n → Only H → SqL (K w.params) H a (ns.map V.int) → sp w [.ref a] H (fun v _ => v = .bl true) fun _ _ _ => False)
    (hCX : ∀ (w : World) (H : Hp) (s : Shared) (e : Value) (s' : Shared), CX w [] H s (fun _ _ _ => False) e s' → False) :
    PySem.W.WalkO q loose XP YP l.row.toRowW d [] (fun f vs => PySem.call f vs) := by
  refine Att.attach_call hn hdf fun w s₀ s₁ mg mb fa o pm cd doc a vs ns G Y ho hd hcd hmg hobj hints hlen hg => ?_
  have KX := hY w _ Y
  obtain ⟨fd, hb, hF⟩ := F w mg fa _ KX G.T.g hmg
  exact law_call KX G.T.g G.T.b G.T.builtins G.T.nolimit hg hobj hints (Nat.le_trans hlen hn2) hr hF hb (fun H hO hS => hsp w H a ns hlen hO hS) fun H e s' => hCX w H s₁ e s'
end L2
/- THE LAST THEOREM (shape; LID, My.* are yours):
   My.Adr: a structure of the addresses that your layer names (classes, functions); My.Txt K t: a structure (Prop) of the equations over K;
   My.txt_mk : {K} {implicit addresses ..} (e1 : nsIn K mainGlobals "law" = some (some (.ref f))) (e2 : K.lookup f = some ⟨oc, od, .func (fnOf "law" "law" params body scope dV kV doc pm an cdv ct), sl⟩) (e3 : codeIn K cdv "law" = true) .. : ∃ t, My.Txt K t
set_option maxRecDepth 100000 in
set_option maxHeartbeats 0 in
theorem PySem.Challenge.cw_LID_holds : PySem.Challenge.rw_LID.Holds := by
  w_on; o_law; k_head; (case hw => w_witness2)
  k_fill
  refine L2.walk_of (l := PySem.Challenge.rw_LID) (n := 63) (k := 40) (x := "script") (CX := fun w => ..) (sp := fun _ => My.sp_law) rfl (by decide) rfl ⟨rfl, by decide, by decide⟩ (fun w h Y => PySem.W.kIn_of Y) ?F ?S ?C
  case F =>
    intro w mg fa h KX G hmg
    have T : ∃ t, My.Txt (L2.KOf KX) t := by
      dsimp only [L2.KOf]                          -- K must stand as «<heap const> w.params» for k_is
      refine' My.txt_mk ?e1 ?e2 ?e3 ..
      (case e1 => PySem.W.k_is)                    -- in the order: a name -> its address -> its object -> its parts
      (case e2 => PySem.W.k_is)
      ..
    obtain ⟨t, T⟩ := T
    have e0 := hmg.symm.trans (PySem.W.mg_of KX G T.law)
    cases e0                                       -- fa is the law's own address
    exact ⟨_, fun s u => .of_eq rfl, fun base kb nb => My.law_fn T kb nb⟩     -- if «.of_eq rfl» comes too early: refine' ⟨_, ?b, fun base kb nb => My.law_fn T kb nb⟩; exact fun s u => .of_eq rfl
  case S => exact fun w H a ns hl hO hS => ..
  case C => exact ..
(the tactic k_is has no namespace: write k_is) -/
namespace L2
open PySem PySem.Spec PyProof.Rows
def defArgs (s : Stmt) : Arguments := match s with
  | .FunctionDef _ a _ _ _ _ _ _ _ _ => a
  | _ => { posonlyargs := [], args := [], vararg := none, kwonlyargs := [], kw_defaults := [], kwarg := none, defaults := [] }
def defBody (s : Stmt) : List Stmt := match s with
  | .FunctionDef _ _ b _ _ _ _ _ _ _ => b
  | _ => []
def defScope (s : Stmt) : Scope := match s with
  | .FunctionDef _ _ _ _ _ _ sc _ _ _ => sc
  | _ => { kind := .function, names := [], isGenerator := false, isCoroutine := false }
abbrev CX0 : CXT := fun _ _ _ _ _ _ => False
abbrev E0 : XK := fun _ _ _ => False
theorem pass0 {X : Cx} : Passes CX0 X E0 := fun _ _ _ _ _ _ _ h => h.elim
structure Fun (K : PySem.W.Frag) (x qual : Str) (st : Stmt) (f : Addr) (fd : FuncData) : Prop where
  ex : ∃ (oc : Value) (od : Option Addr) (kV doc pm : Value) (an : Option Addr) (cdv ct : Value) (osl : Array (Option Value)),
    fd = PySem.W.fnOf x qual (defArgs st) (defBody st) (defScope st) .none kV doc pm an cdv ct ∧ K.lookup f = some ⟨oc, od, .func fd, osl⟩ ∧ PySem.W.codeIn K cdv qual = true
  kp : PySem.W.keepIn K (.ref f) = true
section
variable {P : Program} {w : World} {K : PySem.W.Frag} {mg : Str → Option Value} {base : Heap}
theorem Fun.ok {x qual : Str} {st : Stmt} {f : Addr} {fd : FuncData} {N ps : List Str} {k : Nat} {sp : Sp} (F : Fun K x qual st f fd) (S : FnScope N ps (defScope st)) (len : ∀ vs H Q E, sp vs H Q E → vs.length = ps.length)
    (hbody : ∀ (cdv : Value) (A : Around) (outer : List Env) (s : Shared) (H : Hp) (vs : List V) (Q : VK) (E : XK), Room k (A.deeper (envOfC qual (defScope st) s.heap.objs.size f cdv)) → sp vs H Q E →
      ∃ t, PSs (cxOf CX0 P w K mg base N qual (defScope st) f cdv A outer s H E).nox (defBody st) t ∧ t { nx := fun _ H' => Q .non H', rt := Q } (start N vs) H) : FnOk P w K mg base CX0 (k + 1) f fd ps sp := by
  obtain ⟨oc, od, kV, doc, pm, an, cdv, ct, osl, rfl, lk, hcd⟩ := F.ex
  refine fn_of lk hcd S len fun A outer s H vs Q E hr hsp => ?_
  obtain ⟨t, h, q⟩ := hbody cdv A outer s H vs Q E hr hsp
  exact ⟨t, h.nox, q⟩
theorem Fun.binds {x qual : Str} {st : Stmt} {f : Addr} {fd : FuncData} {ps : List Str} (F : Fun K x qual st f fd)
    (h : ∀ (kV doc pm : Value) (an : Option Addr) (cdv ct : Value) (us : List Value), us.length = ps.length → bindArgs (PySem.W.fnOf x qual (defArgs st) (defBody st) (defScope st) .none kV doc pm an cdv ct) ⟨us, []⟩ = pure (ps.zip us)) : Binds K fd ps [] := by
  obtain ⟨oc, od, kV, doc, pm, an, cdv, ct, osl, rfl, lk, hcd⟩ := F.ex
  exact .all (h kV doc pm an cdv ct)
theorem fun_mk {x qual : Str} {st : Stmt} {f : Addr} {oc : Value} {od an : Option Addr} {osl : Array (Option Value)} {kV doc pm cdv ct : Value} (l : K.lookup f = some ⟨oc, od, .func (PySem.W.fnOf x qual (defArgs st) (defBody st) (defScope st) .none kV doc pm an cdv ct), osl⟩)
    (c : PySem.W.codeIn K cdv qual = true) (k : PySem.W.keepIn K (.ref f) = true) : Fun K x qual st f (PySem.W.fnOf x qual (defArgs st) (defBody st) (defScope st) .none kV doc pm an cdv ct) := ⟨⟨oc, od, kV, doc, pm, an, cdv, ct, osl, rfl, l, c⟩, k⟩
end
theorem small1000 {n : Nat} (h : n ≤ 1000) : n < sizeLine := Nat.lt_of_le_of_lt h (by decide)
section
variable {X : Cx}
theorem pv (i : Nat) {x : Str} {pos : Pos} (hN : X.N[i]? = some x := by rfl) (hv : Vis X.env.scope x := by first | exact Or.inl rfl | exact Or.inr (Or.inl rfl) | exact Or.inr (Or.inr rfl)) (hd : (x == ("__debug__" : Str)) = false := by decide)
    (hcd : (x == ("__classdict__" : Str)) = false := by decide) : PE X (.Name x pos) (tVar i) := pe_var hN hv hd hcd
end
theorem iteF {A B : Prop} (h : B) : if false = true then A else B := by
  rw [if_neg Bool.false_ne_true]
  exact h
theorem iteT {A B : Prop} (h : A) : if true = true then A else B := by
  rw [if_pos rfl]
  exact h
def Same (H H' : Hp) : Prop := ∀ b o, H b = some o → H' b = some o
theorem Same.trans {H H1 H2 : Hp} (a : Same H H1) (b : Same H1 H2) : Same H H2 := fun c o h => b c o (a c o h)
theorem Same.seq {K : PySem.W.Frag} {H H' : Hp} {a : Addr} {xs : List V} (e : Same H H') (h : SqL K H a xs) : SqL K H' a xs := by
  rcases h with (h | ⟨o, h⟩) | h
  · exact .inl (.inl (e _ _ h))
  · exact .inl (.inr ⟨o, e _ _ h⟩)
  · exact .inr h
end L2
namespace L2
open PySem PySem.Spec PyProof.Rows
section
variable {κ : Type} [DecidableEq κ]
def valV (kvs : List (κ × V)) (k : κ) : Option V := (kvs.find? fun kv => decide (kv.1 = k)).map (·.2)
def putK (kvs : List (κ × V)) (k : κ) (v : V) : List (κ × V) :=
  if (kvs.any fun kv => decide (kv.1 = k)) = true then kvs.map (fun kv => if kv.1 = k then (kv.1, v) else kv) else kvs ++ [(k, v)]
theorem valV_pos {p : κ × V} {r : List (κ × V)} {k : κ} (e : p.1 = k) : valV (p :: r) k = some p.2 := by simp [valV, List.find?_cons, e]
theorem valV_neg {p : κ × V} {r : List (κ × V)} {k : κ} (e : ¬ p.1 = k) : valV (p :: r) k = valV r k := by simp [valV, List.find?_cons, e]
theorem valV_any (k : κ) : ∀ kvs : List (κ × V), (kvs.any fun kv => decide (kv.1 = k)) = (valV kvs k).isSome
  | [] => rfl
  | p :: r => by
    rw [List.any_cons]
    by_cases e : p.1 = k
    · simp only [valV_pos e, decide_eq_true e, Bool.true_or, Option.isSome_some]
    · rw [valV_neg e, decide_eq_false e, Bool.false_or]; exact valV_any k r
theorem valV_map (k j : κ) (y : V) : ∀ kvs : List (κ × V), valV (kvs.map fun kv => if kv.1 = k then (kv.1, y) else kv) j = (valV kvs j).map fun x => if j = k then y else x
  | [] => rfl
  | p :: r => by
    have ih := valV_map k j y r
    rw [List.map_cons]
    by_cases h : p.1 = k
    · rw [if_pos h]
      by_cases e : p.1 = j
      · rw [valV_pos (p := (p.1, y)) e, valV_pos e, Option.map_some, if_pos (e.symm.trans h)]
      · rw [valV_neg (p := (p.1, y)) e, valV_neg e, ih]
    · rw [if_neg h]
      by_cases e : p.1 = j
      · rw [valV_pos (p := p) e, valV_pos e, Option.map_some, if_neg (fun z => h (e.trans z))]
      · rw [valV_neg (p := p) e, valV_neg e, ih]
theorem valV_snoc (k j : κ) (y : V) : ∀ kvs : List (κ × V), valV kvs k = none → valV (kvs ++ [(k, y)]) j = if j = k then some y else valV kvs j
  | [], _ => by
    by_cases e : k = j
    · rw [if_pos e.symm]; exact valV_pos (p := (k, y)) e
    · rw [if_neg (fun z => e z.symm)]; exact valV_neg (p := (k, y)) e
  | p :: r, hn => by
    rw [List.cons_append]
    have hk : ¬ p.1 = k := fun z => by rw [valV_pos z] at hn; cases hn
    rw [valV_neg hk] at hn
    have ih := valV_snoc k j y r hn
    by_cases e : p.1 = j
    · rw [valV_pos e, valV_pos e, if_neg (fun z => hk (e.trans z))]
    · rw [valV_neg e, valV_neg e, ih]
theorem valV_put (kvs : List (κ × V)) (k j : κ) (y : V) : valV (putK kvs k y) j = if j = k then some y else valV kvs j := by
  unfold putK
  by_cases a : (kvs.any fun kv => decide (kv.1 = k)) = true
  · rw [if_pos a, valV_map]
    rw [valV_any] at a
    by_cases e : j = k
    · obtain ⟨x, hx⟩ := Option.isSome_iff_exists.mp a
      rw [if_pos e, e, hx, Option.map_some, if_pos rfl]
    · rw [if_neg e]
      cases valV kvs j with
      | none => rfl
      | some x => rw [Option.map_some, if_neg e]
  · rw [if_neg a]
    refine valV_snoc k j y kvs ?_
    rw [valV_any] at a
    cases q : valV kvs k with
    | none => rfl
    | some x => rw [q] at a; exact (a rfl).elim
theorem length_putK (kvs : List (κ × V)) (k : κ) (v : V) : (putK kvs k v).length ≤ kvs.length + 1 := by
  unfold putK
  split
  · rw [List.length_map]; omega
  · rw [List.length_append, List.length_cons, List.length_nil]; omega
theorem putK_new {kvs : List (κ × V)} {k : κ} (v : V) (h : valV kvs k = none) : putK kvs k v = kvs ++ [(k, v)] := by
  unfold putK
  rw [valV_any, h]
  exact if_neg (by decide)
theorem RelO.isSome_eq {o : Option V} {u : Option Value} (r : RelO o u) : o.isSome = u.isSome := by
  cases o with
  | none => cases u with
    | none => rfl
    | some _ => exact (show False from r).elim
  | some _ => cases u with
    | none => exact (show False from r).elim
    | some _ => rfl
theorem KV.val {kvs : List (κ × V)} {vs : List (κ × Value)} (r : KV kvs vs) (k : κ) : RelO (valV kvs k) (valueAt vs k) := by
  unfold KV at r
  induction r with
  | nil => exact True.intro
  | @cons p q ps qs h t ih =>
    obtain ⟨h1, h2⟩ := h
    by_cases e : p.1 = k
    · have e' : q.1 = k := h1.symm.trans e
      have b : valueAt (q :: qs) k = some q.2 := by simp [valueAt, List.find?_cons, e']
      rw [valV_pos e, b]; exact h2
    · have e' : ¬ q.1 = k := fun z => e (h1.trans z)
      have b : valueAt (q :: qs) k = valueAt qs k := by simp [valueAt, List.find?_cons, e']
      rw [valV_neg e, b]; exact ih
theorem KV.any {kvs : List (κ × V)} {vs : List (κ × Value)} (r : KV kvs vs) (k : κ) : (kvs.any fun kv => decide (kv.1 = k)) = vs.any fun kv => decide (kv.1 = k) := by
  unfold KV at r
  induction r with
  | nil => rfl
  | cons h t ih => rw [List.any_cons, List.any_cons, ih, h.1]
theorem KV.repl {kvs : List (κ × V)} {vs : List (κ × Value)} (r : KV kvs vs) (k : κ) {y : V} {u : Value} (ry : RelV y u) :
    KV (kvs.map fun kv => if kv.1 = k then (kv.1, y) else kv) (vs.map fun kv => if kv.1 = k then (kv.1, u) else kv) := by
  unfold KV at r ⊢
  induction r with
  | nil => exact .nil
  | @cons p q ps qs h t ih =>
    rw [List.map_cons, List.map_cons]
    refine .cons ?_ ih
    obtain ⟨h1, h2⟩ := h
    by_cases e : p.1 = k
    · rw [if_pos e, if_pos (h1.symm.trans e)]; exact ⟨h1, ry⟩
    · rw [if_neg e, if_neg (fun z => e (h1.trans z))]; exact ⟨h1, h2⟩
theorem KV.put {kvs : List (κ × V)} {vs : List (κ × Value)} (r : KV kvs vs) (k : κ) {y : V} {u : Value} (ry : RelV y u) : KV (putK kvs k y) (stored vs k u) := by
  unfold putK stored
  rw [r.any k]
  by_cases e : (vs.any fun kv => decide (kv.1 = k)) = true
  · rw [if_pos e, if_pos e]; exact r.repl k ry
  · rw [if_neg e, if_neg e]; exact Paired.snoc r ⟨rfl, ry⟩
theorem KV.length {kvs : List (κ × V)} {vs : List (κ × Value)} (r : KV kvs vs) : kvs.length = vs.length := Paired.length r
end
theorem kV_is {P : Program} {w : World} {k : Key} {u : Value} (r : RelV (kV k) u) : (mixKind P w).is k u = true := by
  cases k with
  | inl i => obtain ⟨t, e⟩ := (show ∃ t, u = Value.int i t from r); subst e; exact mixKind_int P w i t
  | inr x => obtain ⟨t, e⟩ := (show ∃ t, u = Value.str x t from r); subst e; exact mixKind_str P w x t
theorem items_are {P : Program} {w : World} : ∀ {ks : List Key} {us : List Value}, Vals (ks.map kV) us → ItemsAre (mixKind P w) ks us
  | [], _, r => by rw [List.map_nil] at r; cases r; exact .nil
  | k :: ks, _, r => by
    rw [List.map_cons] at r
    cases r with
    | cons h t => exact .cons (kV_is h) (items_are t)
abbrev KT (H : Hp) : List (List Key × V) → List (List Key × Addr × Value) → Prop := Paired fun p q => p.1 = q.1 ∧ H q.2.1 = some (.tup (p.1.map kV)) ∧ RelV p.2 q.2.2
theorem KT.val {H : Hp} {kvs : List (List Key × V)} {xs : List (List Key × Addr × Value)} (r : KT H kvs xs) (k : List Key) : RelO (valV kvs k) ((atKey xs k).map (·.2)) := by
  induction r with
  | nil => exact True.intro
  | @cons p q ps qs h t ih =>
    obtain ⟨h1, _, h2⟩ := h
    by_cases e : p.1 = k
    · have e' : q.1 = k := h1.symm.trans e
      have b : atKey (q :: qs) k = some q.2 := by simp [atKey, List.find?_cons, e']
      rw [valV_pos e, b]; exact h2
    · have e' : ¬ q.1 = k := fun z => e (h1.trans z)
      have b : atKey (q :: qs) k = atKey qs k := by simp [atKey, List.find?_cons, e']
      rw [valV_neg e, b]; exact ih
theorem KT.repl {H : Hp} {kvs : List (List Key × V)} {xs : List (List Key × Addr × Value)} (r : KT H kvs xs) (k : List Key) {y : V} {u : Value} (ry : RelV y u) :
    KT H (kvs.map fun kv => if kv.1 = k then (kv.1, y) else kv) (xs.map (putAt k u)) := by
  induction r with
  | nil => exact .nil
  | @cons p q ps qs h t ih =>
    rw [List.map_cons, List.map_cons]
    refine .cons ?_ ih
    obtain ⟨h1, h2, h3⟩ := h
    unfold putAt
    by_cases e : p.1 = k
    · rw [if_pos e, if_pos (h1.symm.trans e)]; exact ⟨h1, h2, ry⟩
    · rw [if_neg e, if_neg (fun z => e (h1.trans z))]; exact ⟨h1, h2, h3⟩
theorem KT.put {H : Hp} {kvs : List (List Key × V)} {xs : List (List Key × Addr × Value)} (r : KT H kvs xs) (k : List Key) {b : Addr} {y : V} {u : Value} (hb : H b = some (.tup (k.map kV))) (ry : RelV y u) :
    KT H (putK kvs k y) (storedH xs k b u) := by
  have e : (kvs.any fun kv => decide (kv.1 = k)) = (atKey xs k).isSome := by
    rw [valV_any, (r.val k).isSome_eq, Option.isSome_map]
  unfold putK storedH
  rw [e]
  by_cases q : (atKey xs k).isSome = true
  · rw [if_pos q, if_pos q]; exact r.repl k ry
  · rw [if_neg q, if_neg q]; exact Paired.snoc r ⟨rfl, hb, ry⟩
theorem KT.keeps {H H' : Hp} {kvs : List (List Key × V)} {xs : List (List Key × Addr × Value)} (r : KT H kvs xs) (ht : ∀ b ys, H b = some (.tup ys) → H' b = some (.tup ys)) : KT H' kvs xs :=
  Paired.mapP r fun _ _ z => ⟨z.1, ht _ _ z.2.1, z.2.2⟩
section
variable {P : Program} {w : World} {H : Hp} {h : Heap} {a : Addr}
theorem rd_of {u : HO} (ok : HOk P w H h) (e : Rd H a u) : ObjOk P w H h a u := e.ok ok
theorem dk_rd {kvs : List (Key × V)} (ok : HOk P w H h) (e : Rd H a (.dK kvs)) : kvs.length ≤ sizeLine ∧ (a == sysModules) = false ∧ ∃ vs, KV kvs vs ∧ h.DictOf (mixKind P w) a vs :=
  show ObjOk P w H h a (.dK kvs) from rd_of ok e
theorem dk_of {kvs : List (Key × V)} (ok : HOk P w H h) (e : H a = some (.dK kvs)) : kvs.length ≤ sizeLine ∧ (a == sysModules) = false ∧ ∃ vs, KV kvs vs ∧ h.DictOf (mixKind P w) a vs := dk_rd ok (.inl e)
theorem key_of {ks : List Key} (ok : HOk P w H h) (e : H a = some (.tup (ks.map kV))) : (tupleKind (mixKind P w)).is h ks a := by
  obtain ⟨_, its, r, o, h1, h2, n, h3⟩ := (show ObjOk P w H h a (.tup (ks.map kV)) from ok a _ e)
  exact ⟨o, its.toArray, n, h1, h2, h3, by simpa using items_are r⟩
theorem dt_rd {kvs : List (List Key × V)} (ok : HOk P w H h) (e : Rd H a (.dT kvs)) : kvs.length ≤ sizeLine ∧ (a == sysModules) = false ∧
    ∃ xs, KT H kvs xs ∧ h.DictOfH (tupleKind (mixKind P w)) a xs := by
  obtain ⟨z, y, xs, r, o, es, ep, h1, h2, h3, h4, h5⟩ := (show ObjOk P w H h a (.dT kvs) from rd_of ok e)
  refine ⟨z, y, xs, r, o, es, ep, h1, h2, h3, h4, fun x hx => ?_, h5⟩
  have all : ∀ {l : List (List Key × V)} {m : List (List Key × Addr × Value)}, KT H l m → ∀ x ∈ m, (tupleKind (mixKind P w)).is h x.1 x.2.1 := by
    intro l m q
    induction q with
    | nil => intro x hx; exact nomatch hx
    | @cons p q ps qs hq t ih =>
      intro x hx
      rcases List.mem_cons.mp hx with e | hx
      · subst e
        exact key_of ok (by rw [← hq.1]; exact hq.2.1)
      · exact ih x hx
  exact all r x hx
theorem dt_of {kvs : List (List Key × V)} (ok : HOk P w H h) (e : H a = some (.dT kvs)) : kvs.length ≤ sizeLine ∧ (a == sysModules) = false ∧
    ∃ xs, KT H kvs xs ∧ h.DictOfH (tupleKind (mixKind P w)) a xs := dt_rd ok (.inl e)
end
def DGet (H : Hp) (a : Addr) (y : V) (r : Option V) : Prop :=
  (∃ kvs k, Rd H a (.dK kvs) ∧ y = kV k ∧ r = valV kvs k) ∨ ∃ kvs k b, Rd H a (.dT kvs) ∧ y = .ref b ∧ H b = some (.tup (k.map kV)) ∧ r = valV kvs k
def DPut (H : Hp) (a : Addr) (y v : V) (H' : Hp) : Prop :=
  (∃ kvs k, H a = some (.dK kvs) ∧ y = kV k ∧ kvs.length < sizeLine ∧ H' = upd H a (.dK (putK kvs k v))) ∨
  ∃ kvs k b, H a = some (.dT kvs) ∧ y = .ref b ∧ H b = some (.tup (k.map kV)) ∧ kvs.length < sizeLine ∧ H' = upd H a (.dT (putK kvs k v))
theorem DGet.k {H : Hp} {a : Addr} {kvs : List (Key × V)} {k : Key} (e : H a = some (.dK kvs)) : DGet H a (kV k) (valV kvs k) := .inl ⟨kvs, k, .inl e, rfl, rfl⟩
theorem DPut.k {H : Hp} {a : Addr} {kvs : List (Key × V)} {k : Key} {v : V} (e : H a = some (.dK kvs)) (hl : kvs.length < sizeLine) : DPut H a (kV k) v (upd H a (.dK (putK kvs k v))) := .inl ⟨kvs, k, e, rfl, hl, rfl⟩
section
variable {X : Cx} {pins : List (Addr × Obj)} {σ : St} {H : Hp} {s : Shared} {a : Addr} {y v : V} {u r : Value} {o : Option V} {A : Around} {E : Value → Shared → Prop}
theorem Inv.big (I : Inv X pins σ H s) : sysModules < s.heap.objs.size := by
  have h : mainGlobals < s.heap.objs.size := (I.mod.glob.keeps I.bk).lt
  exact Nat.lt_trans (by decide) h
theorem d_getItem {Q : Value → Shared → Prop} (hu : A.units + 1 < cLine) (I : Inv X pins σ H s) (g : DGet H a y (some v)) (ry : RelV y u) (h : ∀ w' s', Inv X pins σ H s' → RelV v w' → Q w' s') :
    wpAny (model X.prog X.w) A (getItem (.ref a) u) Q E s := by
  rcases g with ⟨kvs, k, e, ey, l⟩ | ⟨kvs, k, b, e, ey, eb, l⟩
  · subst ey
    obtain ⟨z, hd, vs, rel, dd⟩ := dk_rd I.hok e
    obtain ⟨w', hw, rw'⟩ := RelO.some_of (v := v) (o := valueAt vs k) (by rw [l]; exact rel.val k)
    exact wpAny_getItem_of (kV_is ry) dd.mapOf hw (h w' _ (I.tok _) rw')
  · subst ey
    cases (show u = Value.ref b from ry)
    obtain ⟨z, hd, xs, rel, dd⟩ := dt_rd I.hok e
    obtain ⟨w', hw, rw'⟩ := RelO.some_of (v := v) (o := (atKey xs k).map (·.2)) (by rw [l]; exact rel.val k)
    obtain ⟨p, hp, hp2⟩ := Option.map_eq_some_iff.mp hw
    refine wpAny_getItem_heap (tupleKind_room_in1 hu) (key_of I.hok eb) dd hp ?_
    rw [hp2]
    exact h w' _ (I.tok _) rw'
theorem d_write {h' : Heap} {t' : Nat} {ob : HO} (I : Inv X pins σ H s) (mu : Mut (H a)) (hs : Heap.SameBut a s.heap h') (he : ∃ q, h'.get? a = some q) (new : ObjOk X.prog X.w (upd H a ob) h' a ob) :
    Inv X pins σ (upd H a ob) { s with heap := h', toks := t' } :=
  I.write (x := a) (e := a) mu (.inl rfl) (fun b q hb z => (hs.2 b hb).trans z) he new
theorem dk_new {P : Program} {w : World} {H' : Hp} {h' : Heap} {kvs : List (Key × V)} {vs : List (Key × Value)} (z : kvs.length ≤ sizeLine) (hd : (a == sysModules) = false) (rel : KV kvs vs) (dd : h'.DictOf (mixKind P w) a vs) :
    ObjOk P w H' h' a (.dK kvs) := ⟨z, hd, vs, rel, dd⟩
theorem d_setItem {H' : Hp} {Q : Unit → Shared → Prop} (hu : A.units + 1 < cLine) (I : Inv X pins σ H s) (g : DPut H a y v H') (ry : RelV y u) (rv : RelV v r) (h : ∀ s', Inv X pins σ H' s' → Q () s') :
    wpAny (model X.prog X.w) A (setItem (.ref a) u r) Q E s := by
  rcases g with ⟨kvs, k, e, ey, l, eH⟩ | ⟨kvs, k, b, e, ey, eb, l, eH⟩
  · subst ey eH
    obtain ⟨z, hd, vs, rel, dd⟩ := dk_of I.hok e
    have hz : vs.length ≤ sizeLine := by rw [← rel.length]; exact z
    have hl : (putK kvs k v).length ≤ sizeLine := by have := length_putK kvs k v; omega
    refine wpAny_setItem_pairs (hsz := hz) (kV_is ry) dd fun h' dd' hs => h _ ?_
    have he : ∃ q, h'.get? a = some q := let ⟨q, _, _, hq, _⟩ := dd'; ⟨q, hq⟩
    exact d_write I (by rw [e]; exact True.intro) hs he (dk_new hl hd (rel.put k rv) dd')
  · subst ey eH
    cases (show u = Value.ref b from ry)
    obtain ⟨z, hd, xs, rel, dd⟩ := dt_of I.hok e
    have hz : xs.length ≤ sizeLine := by rw [← Paired.length rel]; exact z
    have hl : (putK kvs k v).length ≤ sizeLine := by have := length_putK kvs k v; omega
    refine wpAny_setItem_heap (hsz := hz) (tupleKind_room_in1 hu) (key_of I.hok eb) dd fun h' dd' hs => h _ ?_
    obtain ⟨q, es, ep, hq, h2, h3, h4, _, h5⟩ := dd'
    refine d_write I (by rw [e]; exact True.intro) hs ⟨q, hq⟩ ⟨hl, hd, _, (rel.put k eb rv).keeps fun c ys ec => ?_, q, es, ep, hq, h2, h3, h4, h5⟩
    rw [upd_ne (ne_of ec e (fun z => nomatch z))]
    exact ec
end
section
variable {X : Cx} {pins : List (Addr × Obj)} {σ : St} {H : Hp} {s : Shared} {a : Addr} {kvs : List (Key × V)} {k : Key} {u : Value} {A : Around} {E : Value → Shared → Prop}
end
def NoSl (i : Expr) : Prop := ∀ ov iv, subscripted i false ov iv = operate [ov, iv] (getItem ov iv)
theorem subD_of {prog : Program} {w : World} {A : Around} {E : Value → Shared → Prop} {s : Shared} {env : Env} {value slice : Expr} {pos : Pos} {T id : String} {Q : Value → Shared → Prop}
    (hl : typeLookup (.type T) "__getitem__" = pure (some (.builtin id))) (hs : NoSl slice)
    (h : wpAny (model prog w) A (eval value env) (fun o s₁ => wpAny (model prog w) A (eval slice env) (fun i s₂ => s₂.TypeIs o T ∧ wpAny (model prog w) A (getItem o i) Q E s₂) E s₁) E s) :
    wpAny (model prog w) A (eval (.Subscript value slice pos) env) Q E s := by
  refine Subscript_ (wpAny_mono h (fun o s₁ h₁ => wpAny_mono h₁ (fun i s₂ h₂ => ?_) fun _ _ x => x) fun _ _ x => x)
  obtain ⟨hT, h₂⟩ := h₂
  unfold subscriptTail
  refine wpAny_bind ?_
  rw [getitemInPython_of_ne hT.not_modules]
  refine wpAny_bind (wpAny_specialOf hT hl ?_)
  have fin : wpAny (model prog w) A (subscripted slice false o i) (fun r s₃ => wpAny (model prog w) A (letTemporaryGo value o r >>= fun _ => pure r) Q E s₃) E s₂ := by
    rw [hs o i]
    exact wpAny_operating (wpAny_mono h₂ (fun r s₃ h₃ => wpAny_bind (wpAny_letTemporaryGo (wpAny_pure h₃))) fun _ _ x => x)
  first
    | exact wpAny_pure (wpAny_bind fin)
    | exact wpAny_bind (wpAny_pure (wpAny_bind fin))
    | exact wpAny_bind fin
theorem dict_typeIs {X : Cx} {pins : List (Addr × Obj)} {σ : St} {H : Hp} {s : Shared} {a : Addr} {y : V} {o : Option V} (I : Inv X pins σ H s) (g : DGet H a y o) : s.TypeIs (.ref a) "dict" := by
  rcases g with ⟨kvs, k, e, _, _⟩ | ⟨kvs, k, b, e, _, _, _⟩
  · obtain ⟨_, _, vs, _, dd⟩ := dk_rd I.hok e
    exact dd.typeIs
  · obtain ⟨_, _, xs, _, dd⟩ := dt_rd I.hok e
    exact dd.typeIs
def tDGet (td ty : TE) : TE := fun σ H Q => td σ H fun x H1 => ty σ H1 fun y H2 => ∃ a v, x = .ref a ∧ DGet H2 a y (some v) ∧ Q v H2
def sDPut (td ty tv : TE) : TS := fun D σ H => tv σ H fun v H1 => td σ H1 fun x H2 => ty σ H2 fun y H3 => ∃ a H4, x = .ref a ∧ DPut H3 a y v H4 ∧ D.nx σ H4
section
variable {X : Cx} {o i e value : Expr} {pos pos' tpos : Pos} {td ty tv : TE}
theorem pe_dget (hu : X.A.units + 1 < cLine) (ho : PE X o td) (hi : PE X i ty) (hs : NoSl i) : PE X (.Subscript o i pos) (tDGet td ty) := by
  intro pins s σ H Q I h
  refine subD_of PySem.F.slot_dict_getitem.lookup hs (thn (ho pins s σ H _ I h) fun u s1 ⟨x, H1, I1, rx, q1⟩ => thn (hi pins s1 σ H1 _ I1 q1) fun iv s2 ⟨y, H2, I2, ry, a, v, ex, g, q2⟩ => ?_)
  subst ex
  obtain rfl : u = Value.ref a := rx
  exact ⟨dict_typeIs I2 g, d_getItem hu I2 g ry fun w' s3 I3 rw' => ⟨v, H2, I3, rw', q2⟩⟩
theorem ps_dput (hu : X.A.units + 1 < cLine) (ho : PE X o td) (hi : PE X i ty) (hv : PE X value tv) (hs : swapsWith value (some (.Subscript o i pos')) pos.line X.env = pure false) :
    PS X (.Assign [.Subscript o i pos'] value pos) (sDPut td ty tv) := by
  intro pins s σ H D I h
  refine wpAny_Assign_Subscript (thn (hv pins s σ H _ I h) fun r s1 ⟨v, H1, I1, rv, q1⟩ => thn (ho pins s1 σ H1 _ I1 q1) fun u s2 ⟨x, H2, I2, rx, q2⟩ => thn (hi pins s2 σ H2 _ I2 q2) fun iv s3 ⟨y, H3, I3, ry, a, H4, ex, g, q3⟩ => ?_) hs
  subst ex
  obtain rfl : u = Value.ref a := rx
  exact d_setItem hu I3 g ry rv fun s4 I4 => ⟨σ, H4, I4, q3⟩
end
theorem dk_empty {P : Program} {w : World} {H : Hp} (h : Heap) (hb : sysModules < h.objs.size) : ObjOk P w H (h.push { cls := .type "dict", data := .dict #[] }) h.objs.size (.dK []) :=
  ⟨Nat.zero_le _, beq_eq_false_iff_ne.mpr (Ne.symm (Nat.ne_of_lt hb)), [], .nil, Heap.DictOf.new h⟩
section
variable {X : Cx} {pos : Pos}
end
def tPairs : List (TE × TE) → St → Hp → (List (V × V) → Hp → Prop) → Prop
  | [], _, H, Q => Q [] H
  | (tk, tv) :: r, σ, H, Q => tk σ H fun x H1 => tv σ H1 fun y H2 => tPairs r σ H2 fun ps H3 => Q ((x, y) :: ps) H3
abbrev VV : List (V × V) → List (Value × Value) → Prop := Paired fun p q => RelV p.1 q.1 ∧ RelV p.2 q.2
def PPs (X : Cx) (pos : Pos) (keys : List (Option Expr)) (values : List Expr) (trs : List (TE × TE)) : Prop :=
  ∀ (pins : List (Addr × Obj)) (s : Shared) (σ : St) (H : Hp) (Q : List (V × V) → Hp → Prop), Inv X pins σ H s → tPairs trs σ H Q →
    wpAny (model X.prog X.w) X.A (evalPairs (pairTrees keys values X.env pos)) (fun vs s' => ∃ ps H', Inv X pins σ H' s' ∧ VV ps vs ∧ Q ps H') X.xe s
theorem pps_nil {X : Cx} {pos : Pos} : PPs X pos [] [] [] := fun pins s σ H Q I h => pairTrees_nil_walk ⟨[], H, I, .nil, h⟩
theorem pps_cons {X : Cx} {pos : Pos} {k v : Expr} {ks : List (Option Expr)} {vs : List Expr} {tk tv : TE} {trs : List (TE × TE)} (hk : PE X k tk) (hv : PE X v tv) (hr : PPs X pos ks vs trs) :
    PPs X pos (some k :: ks) (v :: vs) ((tk, tv) :: trs) := fun pins s σ H Q I h =>
  pairTrees_cons_walk (thn (hk pins s σ H _ I h) fun u s1 ⟨x, H1, I1, rx, q1⟩ => thn (hv pins s1 σ H1 _ I1 q1) fun w2 s2 ⟨y, H2, I2, ry, q2⟩ =>
    thn (hr pins s2 σ H2 _ I2 q2) fun ws s3 ⟨ps, H3, I3, rel, q3⟩ => ⟨(x, y) :: ps, H3, I3, .cons ⟨rx, ry⟩ rel, q3⟩)
def mergeK (kvs more : List (Key × V)) : List (Key × V) := more.foldl (fun acc kv => putK acc kv.1 kv.2) kvs
theorem KV.merge : ∀ {more : List (Key × V)} {rs : List (Key × Value)} {kvs : List (Key × V)} {vs : List (Key × Value)}, KV more rs → KV kvs vs → KV (mergeK kvs more) (merged vs rs) := by
  intro more rs kvs vs r
  unfold KV at r
  induction r generalizing kvs vs with
  | nil => intro q; exact q
  | @cons p q ps qs h t ih =>
    intro r0
    have e : KV (putK kvs p.1 p.2) (stored vs q.1 q.2) := by
      have := r0.put p.1 h.2
      rw [← h.1]; exact this
    exact ih e
theorem length_mergeK : ∀ (more kvs : List (Key × V)), (mergeK kvs more).length ≤ kvs.length + more.length
  | [], kvs => by show kvs.length ≤ kvs.length + 0; omega
  | p :: r, kvs => by
    have h1 := length_mergeK r (putK kvs p.1 p.2)
    have h2 := length_putK kvs p.1 p.2
    show (mergeK (putK kvs p.1 p.2) r).length ≤ _
    rw [List.length_cons]; omega
theorem carries_of {P : Program} {w : World} : ∀ {kvs : List (Key × V)} {ws : List (Value × Value)}, VV (kvs.map fun kv => (kV kv.1, kv.2)) ws → ∃ rs, Carries (mixKind P w) ws rs ∧ KV kvs rs
  | [], _, r => by rw [List.map_nil] at r; cases r; exact ⟨[], True.intro, .nil⟩
  | p :: kvs, _, r => by
    rw [List.map_cons] at r
    cases r with
    | @cons a b as bs h t =>
      obtain ⟨rs, c, q⟩ := carries_of (P := P) (w := w) t
      obtain ⟨b1, b2⟩ := b
      exact ⟨(p.1, b2) :: rs, ⟨kV_is h.1, rfl, c⟩, .cons ⟨rfl, h.2⟩ q⟩
def tDisp (trs : List (TE × TE)) : TE := fun σ H Q => ∀ p, H p = none → tPairs trs σ (upd H p (.dK [])) fun ps H2 => H2 p = some (.dK []) ∧ ∃ kvs : List (Key × V), ps = kvs.map (fun kv => (kV kv.1, kv.2)) ∧ kvs.length ≤ 15 ∧ Q (.ref p) (upd H2 p (.dK (mergeK [] kvs)))
theorem pe_disp {X : Cx} {pos : Pos} {keys : List (Option Expr)} {values : List Expr} {trs : List (TE × TE)} (h : PPs X pos keys values trs) (hall : keys.all (·.isSome) = true) (hl : keys.length = values.length) (h0 : keys ≠ [])
    (h15 : keys.length ≤ 15) : PE X (.Dict keys values pos) (tDisp trs) := by
  intro pins s σ H Q I q
  have hn := I.hok.fresh (Nat.le_refl s.heap.objs.size)
  have I1 := I.laid (a := s.heap.objs.size) (o := .dK []) (h' := s.heap.push { cls := .type "dict", data := .dict #[] }) (t' := s.toks) (fun _ _ q => Heap.get?_push_of_some _ q) (Nat.le_refl _) (dk_empty s.heap I.big)
  refine wpAny_Dict_walk (knd := mixKind X.prog X.w) hall hl h0 h15 (thn (h pins _ σ _ _ I1 (q _ hn)) fun ws s2 ⟨ps, H2, I2, rel, e, kvs, ep, lk, q2⟩ => ?_)
  subst ep
  obtain ⟨rs, c, rk⟩ := carries_of (P := X.prog) (w := X.w) rel
  obtain ⟨z, hd, vs0, r0, dd⟩ := dk_of I2.hok e
  cases r0
  refine ⟨rs, c, dd, fun h' dd' hs => ⟨.ref s.heap.objs.size, _, ?_, rfl, q2⟩⟩
  have hz : (mergeK [] kvs).length ≤ sizeLine := by
    have h1 := length_mergeK kvs []
    rw [List.length_nil] at h1
    rw [sizeLine_eq]; omega
  have he : ∃ q, h'.get? s.heap.objs.size = some q := let ⟨q, _, _, hq, _⟩ := dd'; ⟨q, hq⟩
  exact d_write I2 (by rw [e]; exact True.intro) hs he (dk_new hz hd (rk.merge .nil) dd')
section
variable {X : Cx} {pins : List (Addr × Obj)} {σ : St} {H : Hp} {s : Shared} {a : Addr} {y d : V} {u r : Value} {o : Option V} {A : Around} {E : Value → Shared → Prop}
end
section
variable {X : Cx} {o e f : Expr} {apos cpos : Pos} {td ty tx : TE}
end
section
variable {X : Cx} {pins : List (Addr × Obj)} {σ : St} {H : Hp} {s : Shared} {a : Addr} {kvs : List (Key × V)} {A : Around} {E : Value → Shared → Prop}
end
section
variable {X : Cx} {pins : List (Addr × Obj)} {σ : St} {H : Hp} {s : Shared} {a : Addr} {y : V} {u : Value} {A : Around} {E : Value → Shared → Prop}
end
end L2
namespace L2
open PySem PySem.Spec PyProof.Rows
section
variable {X : Cx}
end
end L2
namespace L2
open PySem PySem.Spec PyProof.Rows
section
variable {κ : Type} [DecidableEq κ]
theorem valV_not {kvs : List (κ × V)} {k : κ} (h : valV kvs k = none) : ¬ k ∈ kvs.map (·.1) := by
  intro m
  obtain ⟨p, hp, e⟩ := List.mem_map.mp m
  have q : (kvs.any fun kv => decide (kv.1 = k)) = true := List.any_eq_true.mpr ⟨p, hp, decide_eq_true e⟩
  rw [valV_any, h] at q
  exact absurd q (by simp)
theorem valV_in {kvs : List (κ × V)} {k : κ} {v : V} (h : valV kvs k = some v) : k ∈ kvs.map (·.1) := by
  have q : (kvs.any fun kv => decide (kv.1 = k)) = true := by
    rw [valV_any, h]
    all_goals rfl
  obtain ⟨p, hp, e⟩ := List.any_eq_true.mp q
  exact List.mem_map.mpr ⟨p, hp, of_decide_eq_true e⟩
theorem nd_snoc : ∀ {l : List κ} {k : κ}, l.Nodup → ¬ k ∈ l → (l ++ [k]).Nodup
  | [], k, _, _ => by simp
  | a :: r, k, h, hk => by
    obtain ⟨h1, h2⟩ := List.nodup_cons.mp h
    show (a :: (r ++ [k])).Nodup
    refine List.nodup_cons.mpr ⟨fun m => ?_, nd_snoc h2 fun m => hk (List.mem_cons.mpr (Or.inr m))⟩
    rcases List.mem_append.mp m with q | q
    · exact h1 q
    · exact hk (List.mem_cons.mpr (Or.inl (List.mem_singleton.mp q).symm))
theorem nd_putK {kvs : List (κ × V)} {k : κ} (v : V) (hn : (kvs.map (·.1)).Nodup) (h : valV kvs k = none) : ((putK kvs k v).map (·.1)).Nodup := by
  rw [putK_new v h, List.map_append]
  exact nd_snoc hn (valV_not h)
end
end L2
namespace BF
open PySem PySem.Spec PyProof.Rows L2
theorem pe_imp {X : Cx} {e : Expr} {t t' : TE} (h : PE X e t) (k : ∀ σ H Q, t' σ H Q → t σ H Q) : PE X e t' :=
  fun pins s σ H Q I hw => h pins s σ H Q I (k σ H Q hw)
inductive Kn where
  | non | bl | int | str | lst | tup | dic
def Kn.nm : Kn → String
  | .non => "NoneType" | .bl => "bool" | .int => "int" | .str => "str" | .lst => "list" | .tup => "tuple" | .dic => "dict"
inductive Knd (H : Hp) : V → Kn → Prop where
  | non : Knd H .non .non
  | bl (b : Bool) : Knd H (.bl b) .bl
  | int (i : Int) : Knd H (.int i) .int
  | str (x : Str) : Knd H (.str x) .str
  | lst {a : Addr} {xs : List V} (e : H a = some (.lst xs)) : Knd H (.ref a) .lst
  | tup {a : Addr} {xs : List V} (e : H a = some (.tup xs)) : Knd H (.ref a) .tup
  | dic {a : Addr} {kvs : List (Key × V)} (e : H a = some (.dK kvs)) : Knd H (.ref a) .dic
theorem Knd.ty {K : PySem.W.Frag} {H : Hp} {v : V} {k : Kn} (h : Knd H v k) : TyOf K H v (.type k.nm) := by
  cases h with
  | non => exact .non
  | bl b => exact .bl b
  | int i => exact .int i
  | str x => exact .str x
  | lst e => exact .lst e
  | tup e => exact .tup e
  | dic e => exact .dK e
def isaK : Kn → Kn → Bool
  | .non, .non => true
  | .bl, .bl => true
  | .bl, .int => true
  | .int, .int => true
  | .str, .str => true
  | .lst, .lst => true
  | .tup, .tup => true
  | .dic, .dic => true
  | _, _ => false
theorem kit_of (K : PySem.W.Frag) (k c : Kn) : PySem.W.kitOne K (.type k.nm) (.type c.nm) = some (isaK k c) := by
  cases k <;> cases c <;> kernel_rfl
theorem call_isi {X : Cx} : CallR X (.builtin "isinstance") (fun xs H Q => ∃ x k c, xs = [x, .ty (Kn.nm c)] ∧ Knd H x k ∧ Q (.bl (isaK k c)) H) := by
  intro pins s σ H xs us Q I r h
  obtain ⟨x, k, c, rfl, kd, q⟩ := h
  obtain ⟨u, w', rfl, r1, r2⟩ := vals2 r
  have e : w' = Value.type (Kn.nm c) := r2
  subst e
  exact isinst_ok I r1 kd.ty (kit_of X.K k c) fun tk => ⟨.bl (isaK k c), H, I.tok tk, rfl, q⟩
theorem pe_p9 {X : Cx} {j1 j2 : Nat} {p1 p2 pos : Pos} : PE X (.BinOp (.Constant (.int 10) j1 p1) .Pow (.Constant (.int 9) j2 p2) pos) (tC (.int 1000000000)) :=
  pe_imp (pe_op op_pow pe_int pe_int) fun σ H Q q => ⟨10, 9, rfl, rfl, ⟨by decide, by decide, by decide⟩, by
    have e : ((10 : Int) ^ (9 : Int).toNat) = 1000000000 := by decide
    show Q (V.int _) H
    rw [e]; exact q⟩
theorem ifD_pos {p : Prop} [Decidable p] {A B : Prop} (h : p) (a : A) : if decide p = true then A else B := by
  rw [if_pos (decide_eq_true h)]; exact a
theorem ifD_neg {p : Prop} [Decidable p] {A B : Prop} (h : ¬ p) (b : B) : if decide p = true then A else B := by
  rw [if_neg (by intro z; exact h (of_decide_eq_true z))]; exact b
theorem ifB_pos {c : Bool} {A B : Prop} (h : c = true) (a : A) : if c = true then A else B := by
  rw [if_pos h]; exact a
theorem ifB_neg {c : Bool} {A B : Prop} (h : c = false) (b : B) : if c = true then A else B := by
  rw [if_neg (by rw [h]; exact Bool.false_ne_true)]; exact b
theorem same_upd {H : Hp} {p : Addr} {o : HO} (h : H p = none) : Same H (upd H p o) := fun b u e => by
  rw [upd_ne (ne_of_none e h)]; exact e
theorem sz {n : Nat} (h : n ≤ 1000) : n ≤ sizeLine := Nat.le_of_lt (small1000 h)
theorem szr {n : Nat} (h : Nat.ble n 1000 = true) : n ≤ sizeLine := sz (Nat.le_of_ble_eq_true h)
structure Df (K : PySem.W.Frag) (mg : Str → Option Value) (x : Str) (st : Stmt) (f : Addr) (fd : FuncData) : Prop where
  F : Fun K x x st f fd
  m : mg x = some (.ref f)
theorem df_mk {K : PySem.W.Frag} {mg : Str → Option Value} {h : Heap} (X : K.In h) (G : h.Ns mainGlobals mg) {x : Str} {st : Stmt} {f : Addr} {oc : Value} {od an : Option Addr} {osl : Array (Option Value)} {kV doc pm cdv ct : Value}
    (a : PySem.W.nsIn K mainGlobals x = some (some (.ref f))) (l : K.lookup f = some ⟨oc, od, .func (PySem.W.fnOf x x (defArgs st) (defBody st) (defScope st) .none kV doc pm an cdv ct), osl⟩)
    (c : PySem.W.codeIn K cdv x = true) (k : PySem.W.keepIn K (.ref f) = true) : Df K mg x st f (PySem.W.fnOf x x (defArgs st) (defBody st) (defScope st) .none kV doc pm an cdv ct) :=
  ⟨fun_mk l c k, PySem.W.mg_of X G a⟩
end BF
namespace BF
open PySem PySem.Spec PyProof.Rows L2
def clOf (env : Env) : List (Str × NameKind) → List (Str × Addr) → List (Str × Addr)
  | [], acc => acc
  | (n, k) :: r, acc => if (k == NameKind.free) = true then (match env.cells.lookup n with | some a => clOf env r ((n, a) :: acc) | none => clOf env r acc) else clOf env r acc
theorem clOf_sub (env : Env) : ∀ (l : List (Str × NameKind)) (acc : List (Str × Addr)), (∀ p ∈ acc, env.cells.lookup p.1 = some p.2) → ∀ p ∈ clOf env l acc, env.cells.lookup p.1 = some p.2
  | [], _, h => h
  | (n, k) :: r, acc, h => by
    unfold clOf
    split
    · split
      · rename_i a e
        refine clOf_sub env r _ fun p hp => ?_
        rcases List.mem_cons.mp hp with rfl | hp
        · exact e
        · exact h p hp
      · exact clOf_sub env r acc h
    · exact clOf_sub env r acc h
theorem clOf_acc (env : Env) : ∀ (l : List (Str × NameKind)) (acc : List (Str × Addr)) (x : Str), (∃ c, acc.lookup x = some c) → ∃ c, (clOf env l acc).lookup x = some c
  | [], _, _, h => h
  | (n, k) :: r, acc, x, h => by
    unfold clOf
    split
    · split
      · rename_i a e
        refine clOf_acc env r _ x ?_
        rw [List.lookup_cons]
        cases q : x == n with
        | true => exact ⟨a, rfl⟩
        | false => exact h
      · exact clOf_acc env r acc x h
    · exact clOf_acc env r acc x h
theorem clOf_has (env : Env) : ∀ (l : List (Str × NameKind)) (acc : List (Str × Addr)) (x : Str), l.lookup x = some NameKind.free → (∃ c, env.cells.lookup x = some c) → ∃ c, (clOf env l acc).lookup x = some c
  | [], _, _, h, _ => by simp at h
  | (n, k) :: r, acc, x, h, hc => by
    rw [List.lookup_cons] at h
    cases q : x == n with
    | true =>
      rw [q] at h
      have ek : k = NameKind.free := Option.some.inj h
      have en : x = n := eq_of_beq q
      subst ek en
      obtain ⟨c, e⟩ := hc
      unfold clOf
      rw [if_pos (by decide : (NameKind.free == NameKind.free) = true), e]
      refine clOf_acc env r _ x ⟨c, ?_⟩
      rw [List.lookup_cons, q]
    | false =>
      rw [q] at h
      unfold clOf
      split
      · split
        · exact clOf_has env r _ x h hc
        · exact clOf_has env r _ x h hc
      · exact clOf_has env r _ x h hc
def lab (env : Env) (p : Str × NameKind) : Str × NameKind := if (p.2 == NameKind.free && env.scope.kind == .function && env.kindOf p.1 == some .cell) then (p.1, NameKind.cell) else (p.1, p.2)
theorem lab_eq (env : Env) (n : Str) (k : NameKind) : lab env (n, k) = (n, if (k == NameKind.free && env.scope.kind == .function && env.kindOf n == some .cell) then NameKind.cell else k) := by
  unfold lab
  split <;> rfl
theorem relabel_names (scope : Scope) (env : Env) : (relabel scope env).names = scope.names.map (lab env) := rfl
theorem relabel_lookup (env : Env) : ∀ (l : List (Str × NameKind)) (x : Str),
    (l.map (lab env)).lookup x = (l.lookup x).map fun k => if (k == NameKind.free && env.scope.kind == .function && env.kindOf x == some .cell) then NameKind.cell else k
  | [], _ => rfl
  | (n, k) :: r, x => by
    have ih := relabel_lookup env r x
    rw [List.map_cons, lab_eq, List.lookup_cons, List.lookup_cons]
    cases q : x == n with
    | true =>
      have en : x = n := eq_of_beq q
      subst en
      rfl
    | false => exact ih
def compCx (X : Cx) (N' : List Str) (scope : Scope) (C : Addr) (s₀ : Shared) (H₀ : Hp) (fp : List Addr) (pn : List (Addr × Obj)) : Cx where
  prog := X.prog
  w := X.w
  K := X.K
  mg := X.mg
  base := X.base
  A := X.A
  N := N'
  s₀ := s₀
  H₀ := H₀
  env := compEnvC scope (clOf X.env scope.names []) C X.env
  outer := X.stack
  stack := X.stack
  ex := fp
  fn := fun _ => false
  calm := X.calm
  pn := pn
  xe := fun _ _ => False
def pick (idx : List (Option Nat)) (σ : L2.St) : L2.St := idx.map fun o => match o with | none => none | some i => (σ[i]?).getD none
structure CompOk (X : Cx) (scope : Scope) (N' : List Str) (idx : List (Option Nat)) : Prop where
  kind : scope.kind = .function
  cell : ∀ y ∈ scope.names, y.2 ≠ .cell
  names : ∀ y ∈ scope.names, y.2 = .local → scope.names.lookup y.1 = some .local
  free : ∀ y ∈ scope.names, y.2 = .free → X.env.kindOf y.1 = some .cell
  len : idx.length = N'.length
  idx : ∀ p ∈ idx.zip N', ∀ i, p.1 = some i → X.N[i]? = some p.2 ∧ X.env.kindOf p.2 = some .cell ∧ scope.names.lookup p.2 = some .free
def compB (osc scope : Scope) (ON N' : List Str) (idx : List (Option Nat)) : Bool :=
  (scope.kind == .function) && scope.names.all (fun y => y.2 != .cell) && scope.names.all (fun y => y.2 != .local || scope.names.lookup y.1 == some .local) &&
    scope.names.all (fun y => y.2 != .free || osc.names.lookup y.1 == some .cell) && (idx.length == N'.length) &&
    (idx.zip N').all fun p => match p.1 with | none => true | some i => (ON[i]? == some p.2) && (osc.names.lookup p.2 == some .cell) && (scope.names.lookup p.2 == some .free)
theorem compOk_of {X : Cx} {scope : Scope} {N' : List Str} {idx : List (Option Nat)} (h : compB X.env.scope scope X.N N' idx = true) : CompOk X scope N' idx := by
  unfold compB at h
  simp only [Bool.and_eq_true, List.all_eq_true] at h
  obtain ⟨⟨⟨⟨⟨h1, h2⟩, h3⟩, h4⟩, h5⟩, h6⟩ := h
  refine ⟨by simpa using h1, fun y hy => by simpa using h2 y hy, fun y hy e => ?_, fun y hy e => ?_, by simpa using h5, fun p hp i e => ?_⟩
  · have := h3 y hy
    rw [e] at this
    simpa using this
  · have := h4 y hy
    rw [e] at this
    show X.env.scope.names.lookup y.1 = some .cell
    simpa using this
  · have := h6 p hp
    rw [e] at this
    simp only [Bool.and_eq_true] at this
    obtain ⟨⟨g1, g2⟩, g3⟩ := this
    exact ⟨by simpa using g1, by show X.env.scope.names.lookup p.2 = some .cell; simpa using g2, by simpa using g3⟩
def CompW (J : It) (idx : List (Option Nat)) (g : TG) (tt : TT) (te : TE) (σ : L2.St) (H1 : Hp) (D : Addr) (Q : VK) : Prop :=
  ∃ W : Nat → Nat → L2.St → Hp → Prop, (∃ m, W 0 m (pick idx σ) (upd H1 D (.lst []))) ∧ ∀ i m σ2 H2, W i m σ2 H2 →
    (J.stop i H2 ∧ Q (.ref D) H2) ∨
    (J.go i H2 ∧ ∀ x H3, J.yld i H2 x H3 → g x σ2 H3 fun σ4 H4 => tt σ4 H4 fun b H5 =>
      if b = true then te σ4 H5 fun v H6 => ∃ ys, H6 D = some (.lst ys) ∧ ys.length < sizeLine ∧ ∃ m', m' < m ∧ W (i + 1) m' σ4 (upd H6 D (.lst (ys ++ [v])))
      else ∃ m', m' < m ∧ W (i + 1) m' σ4 H5)
def tComp (wi : TI) (idx : List (Option Nat)) (g : TG) (tt : TT) (te : TE) : TE := fun σ H Q => wi σ H fun J H1 => ∀ D, H1 D = none → CompW J idx g tt te σ H1 D Q
def PTs (X : Cx) (ifs : List Expr) (t : TT) : Prop :=
  ∀ (pins : List (Addr × Obj)) (s : Shared) (σ : L2.St) (H : Hp) (Q : Bool → Hp → Prop), Inv X pins σ H s → t σ H Q →
    wpAny (model X.prog X.w) X.A (forIn ifs true fun c r => if r = true then do let ok ← isTrue c X.env (eval c X.env); pure (ForInStep.yield ok) else pure (ForInStep.yield r)) (TP X pins σ Q) X.xe s
def tYes : TT := fun _ H Q => Q true H
theorem pts_nil {X : Cx} : PTs X [] tYes := fun pins s σ H Q I h => wpAny_tests_nil ⟨H, I, h⟩
theorem pts_one {X : Cx} {c : Expr} {t : TT} (h : PT X c t) : PTs X [c] t := fun pins s σ H Q I hw => wpAny_tests_one (h pins s σ H Q I hw)
theorem comp_loop {prog : Program} {w : World} {A : Around} {elt target iter : Expr} {ifs : List Expr} {scope : Scope} {pos : Pos} {it acc : Value} {env : Env} {R : Result → Shared → Prop} {s : Shared} (I : Nat → Shared → Prop)
    (turn : ∀ n s, I n s → wpAny (model prog w) A (pyNext it) (fun r s₁ => match r with
      | none => R (.ok .next) s₁
      | some v => wpAny (model prog w) A (letOwnedTupleGo target it v) (fun _ s₀ => wpAny (model prog w) A (assign target env v) (fun _ s₂ =>
          wpAny (model prog w) A (forIn ifs true fun c r => if r = true then do let ok ← isTrue c env (eval c env); pure (ForInStep.yield ok) else pure (ForInStep.yield r)) (fun ok s₃ =>
            if ok = true then wpAny (model prog w) A (eval elt env) (fun x s₄ =>
              wpAny (model prog w) A (call (.builtin "list.append") [acc, x]) (fun _ s₅ => ∃ m, m < n ∧ I m s₅) (fun _ _ => False) s₄) (fun _ _ => False) s₃
            else ∃ m, m < n ∧ I m s₃) (fun _ _ => False) s₂) (fun _ _ => False) s₀) (fun _ _ => False) s₁) (fun _ _ => False) s)
    (n : Nat) (h : I n s) : codeAny (model prog w) A (.compLoop (.ListComp elt [⟨target, iter, ifs, 0⟩] scope pos) 0 it acc env) R s := by
  refine codeAny_loop rfl I (fun n s hI => ?_) n h
  show wpAny _ A ((compTurn (.ListComp elt [⟨target, iter, ifs, 0⟩] scope pos) 0 it acc env).onRaise (fun x => do noteFrame x env; theTreesLotGoes x)) _ _ s
  refine wpAny_noted (wpAny_mono (E := fun _ _ => False) ?_ (fun _ _ q => q) fun _ _ z => z.elim)
  rw [compTurn_list]
  refine wpAny_bind (wpAny_standAt (wpAny_bind (wpAny_mono (turn n s hI) (fun r s₁ h₁ => ?_) fun _ _ h' => h')))
  cases r with
  | none => exact wpAny_pure h₁
  | some v =>
    refine wpAny_bind (wpAny_mono h₁ (fun _ s₀ h₀' => ?_) fun _ _ h' => h')
    refine wpAny_bind (wpAny_mono h₀' (fun _ s₂ h₂ => ?_) fun _ _ h' => h')
    refine wpAny_bind (wpAny_mono h₂ (fun ok s₃ h₃ => ?_) fun _ _ h' => h')
    cases ok with
    | false => exact wpAny_pure ⟨rfl, h₃⟩
    | true =>
      exact wpAny_bind (wpAny_bind (wpAny_mono h₃ (fun x s₄ h₄ => wpAny_bind (wpAny_mono h₄ (fun _ s₅ h₅ => wpAny_pure (wpAny_pure ⟨rfl, h₅⟩)) fun _ _ h' => h')) fun _ _ h' => h'))
section
variable {X : Cx} {elt tg iter : Expr} {ifs : List Expr} {scope : Scope} {pos : Pos} {N' : List Str} {idx : List (Option Nat)} {wi : TI} {g : TG} {tt : TT} {te : TE}
theorem comp_ok {pins : List (Addr × Obj)} {σ : L2.St} {H : Hp} {s : Shared} {C : Addr} {fp : List Addr} (S : CompOk X scope N' idx) (I : Inv X pins σ H s) (hC : s.heap.objs.size ≤ C) (hf : ∀ b ∈ fp, FpOk X pins H b) (hlt : ∀ b ∈ fp, b < s.heap.objs.size) (pn : List (Addr × Obj)) :
    (compCx X N' scope C s H fp pn).Ok := by
  have sub : ∀ x c, (clOf X.env scope.names []).lookup x = some c → X.env.cells.lookup x = some c := fun x c e => clOf_sub X.env scope.names [] (fun p hp => (nomatch hp)) (x, c) (PySem.mem_of_lookup e)
  have cne : ∀ x c, (clOf X.env scope.names []).lookup x = some c → c < s.heap.objs.size := fun x c e => by
    obtain ⟨v, q⟩ := I.cell x c (sub x c e)
    exact q.lt
  refine ⟨I.ok.mod, S.kind, I.ok.glob, I.ok.blt, hC, fun x y c h1 h2 => I.ok.inj x y c (sub _ _ h1) (sub _ _ h2), fun x hx => ?_, fun x c h _ => absurd h Bool.false_ne_true, I.ok.hd, I.ok.frames, .inl rfl, fun b hb => ⟨?_, fun x c e z => ?_⟩, I.bs, Nat.le_trans I.ok.bsz I.sz, fun b o e hb => ?_, fun b hb z => ?_, I.stack, I.stkFree⟩
  · have hx' : ((relabel scope X.env).names.lookup x = some .cell) ∨ ((relabel scope X.env).names.lookup x = some .free) := hx
    rw [relabel_names, relabel_lookup] at hx'
    have hfr : scope.names.lookup x = some .free := by
      cases q : scope.names.lookup x with
      | none => rw [q] at hx'; rcases hx' with z | z <;> cases z
      | some k =>
        rw [q] at hx'
        simp only [Option.map_some, Option.some.injEq] at hx'
        cases k with
        | free => rfl
        | cell => exact absurd rfl (S.cell _ (PySem.mem_of_lookup q))
        | _ => exfalso; rcases hx' with z | z <;> simp at z
    exact clOf_has X.env scope.names [] x hfr (I.ok.has x (.inl (S.free _ (PySem.mem_of_lookup hfr) rfl)))
  · exact Nat.ne_of_lt (Nat.lt_of_lt_of_le (hlt b hb) hC)
  · exact (hf b hb).2.2.2.2.1 x c (sub x c e) z
  · rcases (hf b hb).2.2.2.1 with z | z
    · exact I.ok.noex b o e z
    · exact absurd (Nat.lt_of_lt_of_le (Heap.lt_size (I.ok.bs b o e).1) z) (Nat.lt_irrefl _)
  · rcases List.mem_cons.mp (I.stkSub b z) with e | e
    · exact (hf b hb).2.1 e
    · exact (hf b hb).2.2.1 e
theorem pe_comp (S : CompOk X scope N' idx) (hclos : closureFor scope X.env = pure (clOf X.env scope.names [])) (hc : X.calm = true) (hi : PI X tg iter wi)
    (hg : ∀ C s₀ H₀ fp pn, PG (compCx X N' scope C s₀ H₀ fp pn) tg g) (ht : ∀ C s₀ H₀ fp pn, PTs (compCx X N' scope C s₀ H₀ fp pn) ifs tt) (he : ∀ C s₀ H₀ fp pn, PE (compCx X N' scope C s₀ H₀ fp pn) elt te)
    (hs : ∀ x, foldedSetIterable iter X.env x = pure x := by intro _; rfl) : PE X (.ListComp elt [⟨tg, iter, ifs, 0⟩] scope pos) (tComp wi idx g tt te) := by
  intro pins s σ H Q I h
  rw [eval_ListComp]
  refine wpAny_comprehension_free (use := none) rfl hs hclos S.kind S.names (thn (hi pins s σ H _ I h) fun xv s₁ h₁ => thn h₁ fun itv s₂ h₂ => ?_)
  obtain ⟨it, fp, tn, J, H2, e, I2, T, st2, f2, hJ⟩ := h₂
  subst e
  obtain ⟨W, ⟨m0, w0⟩, turn⟩ := hJ s₂.heap.objs.size (I2.hok.fresh (Nat.le_refl _))
  have hlt : ∀ b ∈ fp, b < s₂.heap.objs.size := fun b hb => by
    obtain ⟨o, e, _⟩ := T.obj _ _ st2 b hb
    exact Heap.lt_size e
  refine wpAny_newObj_type (wpAny_newFunctionEnv S.cell (by intro y hy; simp at hy) (fun h₁ hns₁ hsb₁ => ?_) S.kind)
  dsimp only at hns₁ hsb₁ ⊢
  generalize hH2 : s₂.heap.push { cls := .type "list", dict := none, data := .seq ([] : List Value).toArray } = P2 at hns₁ hsb₁ ⊢
  have hC : P2.objs.size = s₂.heap.objs.size + 1 := by rw [← hH2, Heap.size_push]
  have neC : ∀ b : Addr, b < s₂.heap.objs.size → b ≠ P2.objs.size := fun b hb => Nat.ne_of_lt (by rw [hC]; exact Nat.lt_succ_of_lt hb)
  have neD : s₂.heap.objs.size ≠ P2.objs.size := Nat.ne_of_lt (by rw [hC]; exact Nat.lt_succ_self _)
  have old : ∀ b o, s₂.heap.get? b = some o → h₁.get? b = some o := fun b o e =>
    hsb₁.extBut b o (neC b (Heap.lt_size e)) (Heap.get?_push_of_some _ (hH2 ▸ Heap.get?_push_of_some _ e))
  have hacc : h₁.get? s₂.heap.objs.size = some { cls := .type "list", data := .seq ([] : List Value).toArray } :=
    hsb₁.extBut _ _ neD (Heap.get?_push_of_some _ (hH2 ▸ Heap.get?_push_size _ rfl))
  have nD : H2 s₂.heap.objs.size = none := I2.hok.fresh (Nat.le_refl _)
  have nC : H2 P2.objs.size = none := I2.hok.fresh (by omega)
  have ok := comp_ok (C := P2.objs.size) S I2 (by omega) f2 hlt (X.pn ++ pins)
  have pinlt : ∀ p ∈ X.pn ++ pins, p.1 < s₂.heap.objs.size := fun p hp => Heap.lt_size (I2.pin p hp).1
  have sub : ∀ x c, (clOf X.env scope.names []).lookup x = some c → X.env.cells.lookup x = some c := fun x c e => clOf_sub X.env scope.names [] (fun p hp => (nomatch hp)) (x, c) (PySem.mem_of_lookup e)
  have I3 : Inv (compCx X N' scope P2.objs.size s₂ H2 fp (X.pn ++ pins)) [] (pick idx σ) (upd H2 s₂.heap.objs.size (.lst [])) { s₂ with heap := h₁, toks := s₂.toks + ([] : List (Str × Value)).length } := by
    refine ⟨ok, rfl, I2.bare, ?_, ⟨_, hns₁, fun j x v h1 h2 h3 => ?_⟩, fun x c e => ?_, ?_, fun x c e => ?_, fun p hp => ?_, ?_, ?_⟩
    · exact Un.laid old (Nat.le_refl _) nD
    · have hj : j < idx.length := by
        have := (List.getElem?_eq_some_iff.mp h2).1
        unfold pick at this
        rwa [List.length_map] at this
      unfold pick at h2
      rw [List.getElem?_map, List.getElem?_eq_getElem hj] at h2
      have h2' := Option.some.inj h2
      cases q : idx[j] with
      | none => rw [q] at h2'; cases h2'
      | some i =>
        have h2' : (σ[i]?).getD none = some v := by rw [q] at h2'; exact h2'
        have hmem : (idx[j], x) ∈ idx.zip N' := by
          refine List.mem_iff_getElem?.mpr ⟨j, ?_⟩
          rw [List.getElem?_zip_eq_some]
          exact ⟨List.getElem?_eq_getElem hj, h1⟩
        obtain ⟨z1, z2, z3⟩ := S.idx _ hmem i q
        have hσ : σ[i]? = some (some v) := by
          cases r : σ[i]? with
          | none => rw [r] at h2'; cases h2'
          | some y => rw [r] at h2'; rw [show y = some v from h2']
        obtain ⟨m, hn, hl⟩ := I2.loc
        obtain ⟨u, ru, lk⟩ := hl i x v z1 hσ (.inr (.inl z2))
        refine ⟨u, ru, .inr ⟨.inl ?_, ?_⟩⟩
        · show (relabel scope X.env).names.lookup x = some .cell
          rw [relabel_names, relabel_lookup, z3, I2.ok.kind]
          simp [z2]
        · obtain ⟨c, hcl⟩ := clOf_has X.env scope.names [] x z3 (I2.ok.has x (.inl z2))
          rcases lk with ⟨k1, _⟩ | ⟨_, c', e1, e2⟩
          · rw [z2] at k1; cases k1
          · refine ⟨c, hcl, ?_⟩
            have e3 := sub x c hcl
            rw [e1] at e3
            cases e3
            obtain ⟨o, ho, hd⟩ := e2
            exact ⟨o, old _ _ ho, hd⟩
    · obtain ⟨v, o, ho, hd⟩ := I2.cell x c (sub x c e)
      exact ⟨v, o, old _ _ ho, hd⟩
    · show upd H2 _ _ P2.objs.size = none
      rw [upd_ne (Ne.symm neD)]; exact nC
    · obtain ⟨v, q⟩ := I2.cell x c (sub x c e)
      rw [upd_ne (Nat.ne_of_lt q.lt)]
      exact I2.freeC x c (sub x c e)
    · rw [List.append_nil] at hp
      obtain ⟨e, n, ne, nf, d⟩ := I2.pin p hp
      refine ⟨old _ _ e, ?_, ?_, fun z => ?_, d⟩
      · rw [upd_ne (Nat.ne_of_lt (pinlt p hp))]; exact n
      · exact neC _ (pinlt p hp)
      · rcases List.mem_cons.mp (I2.stkSub _ z) with z | z
        · exact ne z
        · exact nf z
    · exact I2.hok.laid old (Nat.le_refl _) ⟨Nat.zero_le _, [], 0, .nil, hacc⟩
    · show (pick idx σ).length = N'.length
      unfold pick
      rw [List.length_map]
      exact S.len
  have stat : ∀ {pl : List (Addr × Obj)} {H' : Hp}, (∀ b ∈ fp, H' b = none) → (∀ p ∈ pl, p.1 ∉ fp) → ∀ b ∈ fp, FpOk (compCx X N' scope P2.objs.size s₂ H2 fp (X.pn ++ pins)) pl H' b := fun {pl H'} hn hp b hb => by
    refine ⟨hn b hb, (ok.exf b hb).1, ok.exfs b hb, .inl hb, (ok.exf b hb).2, fun p hpp z => ?_⟩
    rcases List.mem_append.mp hpp with h1 | h1
    · exact (f2 b hb).2.2.2.2.2 p h1 z
    · exact hp p h1 (z ▸ hb)
  have loop : codeAny (model X.prog X.w) X.A (.compLoop (.ListComp elt [⟨tg, iter, ifs, 0⟩] scope pos) 0 (.ref it) (.ref s₂.heap.objs.size) (compEnvC scope (clOf X.env scope.names []) P2.objs.size X.env))
      (compPost (model X.prog X.w) X.A X.xe none (EP X pins σ Q) (.ref s₂.heap.objs.size) P2.objs.size) { s₂ with heap := h₁, toks := s₂.toks + ([] : List (Str × Value)).length } := by
    refine comp_loop (fun n s' => ∃ i σ' H', Inv (compCx X N' scope P2.objs.size s₂ H2 fp (X.pn ++ pins)) [] σ' H' s' ∧ tn i s'.heap ∧ (∀ b ∈ fp, H' b = none) ∧ W i n σ' H') ?_ m0
      ⟨0, _, _, I3, T.keep _ _ _ st2 fun b _ o e => old b o e, fun b hb => by rw [upd_ne (Nat.ne_of_lt (hlt b hb))]; exact (f2 b hb).1, w0⟩
    rintro n s3 ⟨i, σ3, H3, J3, st3, fr3, w3⟩
    rcases turn i n σ3 H3 w3 with ⟨stop, q⟩ | ⟨go, step⟩
    · refine wpAny_mono (T.done (compCx X N' scope P2.objs.size s₂ H2 fp (X.pn ++ pins)) rfl rfl rfl hc i [] s3 σ3 H3 (fun _ _ => False) J3 (stat fr3 (fun _ z => nomatch z)) st3 stop) (fun r s4 hr => ?_) fun _ _ z => z
      obtain ⟨rfl, J4⟩ := hr
      obtain ⟨m, hn, _⟩ := J4.loc
      refine ⟨m, hn, fun h' hs' => ?_⟩
      have fC : H3 P2.objs.size = none := J4.free
      have up : ∀ b o, b ≠ P2.objs.size → s4.heap.get? b = some o → h'.get? b = some o := fun b o hb e => hs'.extBut b o hb e
      have un : Un (frs X.stack) fp H2 H3 s₂.heap h' := by
        have u := J4.base
        refine ⟨fun b o e n1 h1 h2 => ?_, fun b o e n1 h1 h2 => ?_, u.free, fun b o e h2 => ?_, u.tups, u.frzs, u.tbls⟩
        · exact up b o (neC b (Heap.lt_size e)) (u.keep b o e n1 h1 h2)
        · obtain ⟨sl, e1⟩ := u.slot b o e n1 h1 h2
          exact ⟨sl, up b _ (neC b (Heap.lt_size e)) e1⟩
        · obtain ⟨o', e1⟩ := u.there b o e h2
          exact ⟨o', up b _ (neC b (Heap.lt_size e)) e1⟩
      have hok : HOk X.prog X.w H3 h' := fun b o e => (J4.hok b o e).stay (fun c v hcc e1 => up c v (fun z => by
        subst z
        rcases hcc with z | z
        · subst z; rw [fC] at e; cases e
        · rw [fC] at z; cases z) e1) (fun _ z => z) fun _ _ z => z
      refine ⟨.ref s₂.heap.objs.size, H3, ?_, rfl, q⟩
      refine I2.call' (s' := { s4 with heap := h' }) (ch := fp) ?_ un hok J4.bare fun b hb => ?_
      · exact J4.os
      · obtain ⟨f0, f1, f2', f3, f4, f5⟩ := f2 b hb
        exact ⟨f3, f1, f4, f5⟩
    · refine wpAny_mono (T.item (compCx X N' scope P2.objs.size s₂ H2 fp (X.pn ++ pins)) rfl rfl rfl hc i [] s3 σ3 H3 (fun _ _ => False) J3 (stat fr3 (fun _ z => nomatch z)) st3 go) (fun r s4 hr => ?_) fun _ _ z => z
      obtain ⟨u, rfl, h4⟩ := hr
      refine wpAny_mono h4 (fun _ s5 h5 => ?_) fun _ _ z => z
      obtain ⟨x, H5, J5, r5, y5, st5, fr5⟩ := h5
      have J5' := J5.pinned (stat fr5 (fun _ z => nomatch z)) (T.obj _ _ st5)
      refine wpAny_mono (hg _ _ _ _ _ _ s5 σ3 H5 x u _ J5' r5 (step x H5 y5)) (fun _ s6 h6 => ?_) fun _ _ z => z
      obtain ⟨σ6, H6, J6, q6⟩ := h6
      have again : ∀ {s9 : Shared} {σ9 : L2.St} {H9 : Hp}, Inv (compCx X N' scope P2.objs.size s₂ H2 fp (X.pn ++ pins)) ([] ++ pinsAt fp s5.heap) σ9 H9 s9 → (∃ m', m' < n ∧ W (i + 1) m' σ9 H9) →
          ∃ m, m < n ∧ ∃ i σ' H', Inv (compCx X N' scope P2.objs.size s₂ H2 fp (X.pn ++ pins)) [] σ' H' s9 ∧ tn i s9.heap ∧ (∀ b ∈ fp, H' b = none) ∧ W i m σ' H' := fun {s9 σ9 H9} J9 hw => by
        obtain ⟨m', hm, w9⟩ := hw
        refine ⟨m', hm, i + 1, σ9, H9, J9.unpinned, T.keep _ _ _ st5 fun b hb o e => (J9.pin (b, o) (List.mem_append_right _ (List.mem_append_right _ (mem_pinsAt hb e)))).1, fun b hb => ?_, w9⟩
        obtain ⟨o, e, d⟩ := T.obj _ _ st5 b hb
        exact (J9.pin (b, o) (List.mem_append_right _ (List.mem_append_right _ (mem_pinsAt hb e)))).2.1
      refine wpAny_mono (ht _ _ _ _ _ _ s6 σ6 H6 _ J6 q6) (fun ok' s7 h7 => ?_) fun _ _ z => z
      obtain ⟨H7, J7, q7⟩ := h7
      cases ok' with
      | false => exact again J7 q7
      | true =>
        refine wpAny_mono (he _ _ _ _ _ _ s7 σ6 H7 _ J7 q7) (fun xv2 s8 h8 => ?_) fun _ _ z => z
        obtain ⟨v, H8, J8, r8, ys, hD, hz, hw⟩ := h8
        refine wpAny_mono (mt_append (X := compCx X N' scope P2.objs.size s₂ H2 fp (X.pn ++ pins)) _ s8 σ6 H8 (.ref s₂.heap.objs.size) [v] (.ref s₂.heap.objs.size) [xv2] (fun _ H9 => ∃ m', m' < n ∧ W (i + 1) m' σ6 H9) J8 rfl (.cons r8 .nil) ⟨_, ys, v, rfl, rfl, hD, hz, hw⟩) (fun _ s9 h9 => ?_) fun _ _ z => z
        obtain ⟨_, H9, J9, _, q9⟩ := h9
        exact again J9 q9
  exact codeAny_compStart_list loop (T.self X.A 0 _ _ _ (T.keep _ _ _ st2 fun b _ o e => old b o e) loop)
end
end BF
namespace BF
open PySem PySem.Spec PyProof.Rows L2
theorem comp_n {J : It} {n : Nat} {idx : List (Option Nat)} {g : TG} {tt : TT} {te : TE} {σ : L2.St} {H1 : Hp} {D : Addr} {Q : VK} (Pv : Nat → L2.St → Hp → Prop)
    (h0 : Pv 0 (pick idx σ) (upd H1 D (.lst []))) (hgo : ∀ i σ2 H2, i < n → Pv i σ2 H2 → J.go i H2) (hstop : ∀ σ2 H2, Pv n σ2 H2 → J.stop n H2 ∧ Q (.ref D) H2)
    (hs : ∀ i σ2 H2, i < n → Pv i σ2 H2 → ∀ x H3, J.yld i H2 x H3 → g x σ2 H3 fun σ4 H4 => tt σ4 H4 fun b H5 =>
      if b = true then te σ4 H5 fun v H6 => ∃ ys, H6 D = some (.lst ys) ∧ ys.length < sizeLine ∧ Pv (i + 1) σ4 (upd H6 D (.lst (ys ++ [v]))) else Pv (i + 1) σ4 H5) :
    CompW J idx g tt te σ H1 D Q := by
  refine ⟨fun i m σ H => m = n - i ∧ i ≤ n ∧ Pv i σ H, ⟨n, by simp, Nat.zero_le _, h0⟩, ?_⟩
  rintro i m σ2 H2 ⟨rfl, hi, p⟩
  by_cases hlt : i < n
  · refine .inr ⟨hgo i σ2 H2 hlt p, fun x H3 y => ?_⟩
    have key : ∀ (σ' : L2.St) (H' : Hp), (∃ m', m' < n - i ∧ m' = n - (i + 1) ∧ i + 1 ≤ n ∧ Pv (i + 1) σ' H') = Pv (i + 1) σ' H' := fun σ' H' =>
      propext ⟨fun ⟨_, _, _, _, q⟩ => q, fun q => ⟨n - (i + 1), by omega, rfl, hlt, q⟩⟩
    simp only [key]
    exact hs i σ2 H2 hlt p x H3 y
  · have e : i = n := by omega
    subst e
    exact .inl (hstop σ2 H2 p)
theorem atI_of {α : Type} {xs : List α} {m : Int} (h0 : 0 ≤ m) (h1 : m < xs.length) : ∃ c, atI xs m = some c ∧ c ∈ xs := by
  obtain ⟨j, rfl⟩ := Int.eq_ofNat_of_zero_le h0
  have hj : j < xs.length := by omega
  exact ⟨xs[j], atI_nat (List.getElem?_eq_getElem hj), List.getElem_mem hj⟩
theorem cmulR {i j : Int} (h1 : -(2 ^ 64) < j) (h2 : j < 2 ^ 64) : CMul i j := Or.inr ⟨h1, h2⟩
end BF
namespace BF
open PySem PySem.Spec PyProof.Rows L2
section
variable {rest : List Expr} {env : Env}
theorem se_name {x p} : starEach (.Name x p :: rest) env = (false, eval (.Name x p) env) :: starEach rest env := rfl
theorem se_const {c k p} : starEach (.Constant c k p :: rest) env = (false, eval (.Constant c k p) env) :: starEach rest env := rfl
theorem se_sub {a b p} : starEach (.Subscript a b p :: rest) env = (false, eval (.Subscript a b p) env) :: starEach rest env := rfl
theorem se_call {f a k p} : starEach (.Call f a k p :: rest) env = (false, eval (.Call f a k p) env) :: starEach rest env := rfl
theorem se_bin {a o b p} : starEach (.BinOp a o b p :: rest) env = (false, eval (.BinOp a o b p) env) :: starEach rest env := rfl
theorem se_tup {l k p} : starEach (.Tuple l k p :: rest) env = (false, eval (.Tuple l k p) env) :: starEach rest env := rfl
theorem se_list {l p} : starEach (.List l p :: rest) env = (false, eval (.List l p) env) :: starEach rest env := rfl
theorem se_dict {l m p} : starEach (.Dict l m p :: rest) env = (false, eval (.Dict l m p) env) :: starEach rest env := rfl
theorem se_cmp {a o b p} : starEach (.Compare a o b p :: rest) env = (false, eval (.Compare a o b p) env) :: starEach rest env := rfl
theorem se_un {o a p} : starEach (.UnaryOp o a p :: rest) env = (false, eval (.UnaryOp o a p) env) :: starEach rest env := rfl
end
section
variable {X : Cx} {e : Expr} {es : List Expr} {te : TE} {t : TA} {pos : Pos}
theorem pac (ha : PE X e te) (hr : PA X es t) (hs : starEach (e :: es) X.env = (false, eval e X.env) :: starEach es X.env := by
    first | exact se_name | exact se_const | exact se_sub | exact se_call | exact se_bin | exact se_tup | exact se_list | exact se_dict | exact se_comp | exact se_attr | exact se_cmp | exact se_bool | exact se_un | exact se_if) :
    PA X (e :: es) (tCons te t) := pa_cons ha hr hs
variable {CX : CXT} {k : Nat} {f : Addr} {fd : FuncData} {ps : List Str} {sp : Sp} {dvs : List V} {ds : List Value} {E : XK} {x : Str} {p : Pos}
theorem pec (F : FnOk X.prog X.w X.K X.mg X.base CX k f fd ps sp) (hr : Room k X.A) (hg : Gl X x) (hm : X.mg x = some (.ref f)) (hk : PySem.W.keepIn X.K (.ref f) = true) (hb : Binds X.K fd ps ds) (hd : Vals dvs ds) (hx : Passes CX X E)
    (ha : PA X (e :: es) t) (hdb : (x == ("__debug__" : Str)) = false := by decide)
    (he : starEach (e :: es) X.env = (false, eval e X.env) :: starEach es X.env := by
      first | exact se_name | exact se_const | exact se_sub | exact se_call | exact se_bin | exact se_tup | exact se_list | exact se_dict | exact se_comp | exact se_attr | exact se_cmp | exact se_bool | exact se_un | exact se_if)
    (hpl : (backTo pos (starEach es X.env)).any (·.1) = false := by rfl) : PE X (.Call (.Name x p) (e :: es) [] pos) (tCall sp dvs E t) := pe_call F hr hg hm hk hb hd hx ha hdb he hpl
end
end BF
namespace BF
open PySem PySem.Spec PyProof.Rows L2 PySem.SeqAt
inductive Dt where
  | int (i : Int)
  | str (x : Str)
  | tup (l : List Dt)
mutual
def Dt.beq : Dt → Dt → Bool
  | .int i, .int j => i == j
  | .str x, .str y => x == y
  | .tup l, .tup m => Dt.beqs l m
  | _, _ => false
def Dt.beqs : List Dt → List Dt → Bool
  | [], [] => true
  | a :: l, b :: m => Dt.beq a b && Dt.beqs l m
  | _, _ => false
end
mutual
theorem Dt.beq_iff : ∀ a b : Dt, Dt.beq a b = true ↔ a = b
  | .int i, .int j => by simp [Dt.beq]
  | .str x, .str y => by simp [Dt.beq]
  | .tup l, .tup m => by simp [Dt.beq, Dt.beqs_iff l m]
  | .int i, .str y => by simp [Dt.beq]
  | .int i, .tup m => by simp [Dt.beq]
  | .str x, .int j => by simp [Dt.beq]
  | .str x, .tup m => by simp [Dt.beq]
  | .tup l, .int j => by simp [Dt.beq]
  | .tup l, .str y => by simp [Dt.beq]
theorem Dt.beqs_iff : ∀ l m : List Dt, Dt.beqs l m = true ↔ l = m
  | [], [] => by simp [Dt.beqs]
  | a :: l, b :: m => by simp [Dt.beqs, Dt.beq_iff a b, Dt.beqs_iff l m]
  | [], b :: m => by simp [Dt.beqs]
  | a :: l, [] => by simp [Dt.beqs]
end
theorem Dt.beq_self (a : Dt) : Dt.beq a a = true := (Dt.beq_iff a a).mpr rfl
mutual
def Dt.dp : Dt → Nat
  | .int _ => 0
  | .str _ => 0
  | .tup l => Dt.dps l + 1
def Dt.dps : List Dt → Nat
  | [] => 0
  | a :: l => max (Dt.dp a) (Dt.dps l)
end
mutual
inductive DtIs (H : Hp) : V → Dt → Prop where
  | int (i : Int) : DtIs H (.int i) (.int i)
  | str (x : Str) : DtIs H (.str x) (.str x)
  | tup {a : Addr} {xs : List V} {ds : List Dt} (e : H a = some (.tup xs)) (h : DtsIs H xs ds) : DtIs H (.ref a) (.tup ds)
inductive DtsIs (H : Hp) : List V → List Dt → Prop where
  | nil : DtsIs H [] []
  | cons {v : V} {d : Dt} {vs : List V} {ds : List Dt} (h : DtIs H v d) (t : DtsIs H vs ds) : DtsIs H (v :: vs) (d :: ds)
end
mutual
theorem DtIs.inj {H : Hp} : ∀ {d : Dt} {v : V} {d' : Dt}, DtIs H v d → DtIs H v d' → d = d'
  | .int i, _, d', .int _, h => by cases h; rfl
  | .str x, _, d', .str _, h => by cases h; rfl
  | .tup ds, _, d', .tup e q, h => by
    cases h with
    | tup e2 q2 =>
      rw [e] at e2
      cases e2
      rw [DtsIs.inj q q2]
theorem DtsIs.inj {H : Hp} : ∀ {ds : List Dt} {vs : List V} {ds' : List Dt}, DtsIs H vs ds → DtsIs H vs ds' → ds = ds'
  | [], _, _, .nil, h => by cases h; rfl
  | d :: ds, _, _, .cons q t, h => by
    cases h with
    | cons q2 t2 => rw [DtIs.inj q q2, DtsIs.inj t t2]
end
mutual
theorem DtIs.same {H H' : Hp} (S : Same H H') : ∀ {d : Dt} {v : V}, DtIs H v d → DtIs H' v d
  | .int i, _, .int _ => .int i
  | .str x, _, .str _ => .str x
  | .tup ds, _, .tup e q => .tup (S _ _ e) (DtsIs.same S q)
theorem DtsIs.same {H H' : Hp} (S : Same H H') : ∀ {ds : List Dt} {vs : List V}, DtsIs H vs ds → DtsIs H' vs ds
  | [], _, .nil => .nil
  | d :: ds, _, .cons q t => .cons (DtIs.same S q) (DtsIs.same S t)
end
theorem DtsIs.length {H : Hp} : ∀ {ds : List Dt} {vs : List V}, DtsIs H vs ds → vs.length = ds.length
  | [], _, .nil => rfl
  | d :: ds, _, .cons q t => by rw [List.length_cons, List.length_cons, DtsIs.length t]
def itEq (ds ds' : List Dt) (j : Nat) : Bool := match ds[j]?, ds'[j]? with
  | some a, some b => Dt.beq a b
  | _, _ => true
theorem all_itEq : ∀ ds ds' : List Dt, ((List.range (min ds.length ds'.length)).all (itEq ds ds') && ds.length == ds'.length) = Dt.beqs ds ds'
  | [], [] => rfl
  | [], b :: m => by simp [Dt.beqs]
  | a :: l, [] => by simp [Dt.beqs]
  | a :: l, b :: m => by
    have ih := all_itEq l m
    rw [List.length_cons, List.length_cons, Nat.succ_min_succ, List.range_succ_eq_map, List.all_cons, List.all_map]
    have e0 : itEq (a :: l) (b :: m) 0 = Dt.beq a b := rfl
    have e1 : (itEq (a :: l) (b :: m) ∘ Nat.succ) = itEq l m := by
      funext j
      simp [itEq]
    rw [e0, e1]
    show _ = (Dt.beq a b && Dt.beqs l m)
    rw [← ih, Bool.and_assoc]
    simp
section
variable {X : Cx} {pins : List (Addr × Obj)} {σ : L2.St} {H : Hp} {s : Shared}
theorem dp_at : ∀ {ds : List Dt} {j : Nat} {d : Dt}, ds[j]? = some d → d.dp ≤ Dt.dps ds
  | [], j, d, e => by simp at e
  | a :: l, 0, d, e => by
    have e' := Option.some.inj e
    subst e'
    simp only [Dt.dps]
    omega
  | a :: l, j + 1, d, e => by
    have := dp_at (ds := l) (j := j) (d := d) (by simpa using e)
    simp only [Dt.dps]
    omega
theorem rel_at : ∀ {ds : List Dt} {vs : List V} {us : List Value}, DtsIs H vs ds → Vals vs us → ∀ {j : Nat} {u : Value}, us[j]? = some u → ∃ v d, ds[j]? = some d ∧ DtIs H v d ∧ RelV v u
  | _, _, _, .nil, .nil, j, u, e => by simp at e
  | _, _, _, .cons h t, .cons r rs, 0, u, e => by
    have e' := Option.some.inj e
    subst e'
    exact ⟨_, _, rfl, h, r⟩
  | _, _, _, .cons h t, .cons r rs, j + 1, u, e => by
    obtain ⟨v, d, a, b, c⟩ := rel_at t rs (j := j) (u := u) (by simpa using e)
    exact ⟨v, d, by simpa using a, b, c⟩
theorem eqAt_n (I : Inv X pins σ H s) (n : Nat) : ∀ {d d' : Dt} {v v' : V} {u u' : Value} (A : Around), d.dp ≤ n → DtIs H v d → RelV v u → DtIs H v' d' → RelV v' u' → A.units + n < cLine → EqAt A s u u' (Dt.beq d d') := by
  induction n with
  | zero =>
    intro d d' v v' u u' A hn h r h' r' hu
    cases h with
    | int i =>
      obtain ⟨t, rfl⟩ := r
      cases h' with
      | int j => obtain ⟨t', rfl⟩ := r'; exact EqAt.int_int i t j t'
      | str y => obtain ⟨t', rfl⟩ := r'; exact EqAt.int_str i t y t'
      | tup e q => cases r'; obtain ⟨its, _, p, _⟩ := I.tuple (SqT.of e); exact EqAt.int_tuple i t p hu
    | str x =>
      obtain ⟨t, rfl⟩ := r
      cases h' with
      | int j => obtain ⟨t', rfl⟩ := r'; exact EqAt.str_int x t j t'
      | str y => obtain ⟨t', rfl⟩ := r'; exact EqAt.str_str x t y t'
      | tup e q => cases r'; obtain ⟨its, _, p, _⟩ := I.tuple (SqT.of e); exact EqAt.str_tuple x t p hu
    | tup e q => simp only [Dt.dp] at hn; omega
  | succ n ih =>
    intro d d' v v' u u' A hn h r h' r' hu
    by_cases h0 : d.dp ≤ n
    · exact ih A h0 h r h' r' (by omega)
    cases h with
    | int i => simp only [Dt.dp] at h0; omega
    | str x => simp only [Dt.dp] at h0; omega
    | @tup a xs l e q =>
      cases r
      cases h' with
      | int j => obtain ⟨t', rfl⟩ := r'; obtain ⟨its, _, p, _⟩ := I.tuple (SqT.of e); exact EqAt.tuple_int j t' p (by omega)
      | str y => obtain ⟨t', rfl⟩ := r'; obtain ⟨its, _, p, _⟩ := I.tuple (SqT.of e); exact EqAt.tuple_str y t' p (by omega)
      | @tup b ys m e' q' =>
        cases r'
        by_cases hab : a = b
        · subst hab
          have z := DtIs.inj (DtIs.tup e q) (DtIs.tup e' q')
          rw [z, Dt.beq_self]
          exact EqAt.same _
        · obtain ⟨its, rv, p, _⟩ := I.tuple (SqT.of e)
          obtain ⟨its', rv', p', _⟩ := I.tuple (SqT.of e')
          have n1 : its.toArray.size = l.length := by rw [List.size_toArray, ← rv.length, q.length]
          have n2 : its'.toArray.size = m.length := by rw [List.size_toArray, ← rv'.length, q'.length]
          simp only [Dt.dp] at hn
          have R := RcAt.tuples (A := A) (s := s) (e := itEq l m) p p' (by omega) (fun j h1 h2 => by
            obtain ⟨v1, d1, a1, b1, c1⟩ := rel_at q rv (j := j) (u := its.toArray[j]) (by simp)
            obtain ⟨v2, d2, a2, b2, c2⟩ := rel_at q' rv' (j := j) (u := its'.toArray[j]) (by simp)
            have z : itEq l m j = Dt.beq d1 d2 := by unfold itEq; rw [a1, a2]
            rw [z]
            exact ih A.in1 (by have := dp_at a1; omega) b1 c1 b2 c2 (by show A.units + 1 + _ < _; omega))
          rw [n1, n2, all_itEq] at R
          exact EqAt.of_refs hab R
theorem eqAt_D (I : Inv X pins σ H s) {d d' : Dt} {v v' : V} {u u' : Value} (A : Around) (h : DtIs H v d) (r : RelV v u) (h' : DtIs H v' d') (r' : RelV v' u') (hu : A.units + d.dp < cLine) : EqAt A s u u' (Dt.beq d d') := eqAt_n I _ A (Nat.le_refl _) h r h' r' hu
theorem eqsAt_D (I : Inv X pins σ H s) {ds ds' : List Dt} {vs vs' : List V} {us us' : List Value} (A : Around) (q : DtsIs H vs ds) (rv : Vals vs us) (q' : DtsIs H vs' ds') (rv' : Vals vs' us') (hu : A.units + Dt.dps ds < cLine)
    (j : Nat) (u u' : Value) (e : us[j]? = some u) (e' : us'[j]? = some u') : EqAt A s u u' (itEq ds ds' j) := by
  obtain ⟨v1, d1, a1, b1, c1⟩ := rel_at q rv e
  obtain ⟨v2, d2, a2, b2, c2⟩ := rel_at q' rv' e'
  have z : itEq ds ds' j = Dt.beq d1 d2 := by unfold itEq; rw [a1, a2]
  rw [z]
  exact eqAt_n I _ A (dp_at a1) b1 c1 b2 c2 hu
theorem op_eqD {k : Nat} (hr : Room k X.A) : OpR X (compareOp .Eq) (fun x y H Q => ∃ d d', DtIs H x d ∧ DtIs H y d' ∧ d.dp ≤ 60 ∧ (∃ l, d = .tup l) ∧ (∃ l, d' = .tup l) ∧ Q (.bl (Dt.beq d d')) H) := by
  intro pins s σ H x y v u Q I rx ry h
  obtain ⟨d, d', hd, hd', h60, ⟨l, rfl⟩, ⟨m, rfl⟩, q⟩ := h
  have hu := hr.units
  cases hd with
  | @tup a xs _ e h1 =>
    cases hd' with
    | @tup b ys _ e' h2 =>
      cases rx
      cases ry
      obtain ⟨its, rv, p, _⟩ := I.tuple (SqT.of e)
      obtain ⟨its', rv', p', _⟩ := I.tuple (SqT.of e')
      have n1 : its.toArray.size = l.length := by rw [List.size_toArray, ← rv.length, h1.length]
      have n2 : its'.toArray.size = m.length := by rw [List.size_toArray, ← rv'.length, h2.length]
      have hd : Dt.dps l + 1 ≤ 60 := by simpa only [Dt.dp] using h60
      have R := RcAt.tuples (A := X.A) (s := s) (e := itEq l m) p p' (by omega) (fun j j1 j2 => eqsAt_D I X.A.in1 h1 rv h2 rv' (by show X.A.units + 1 + _ < _; omega) j _ _ (by simp) (by simp))
      rw [n1, n2, all_itEq] at R
      exact R X.prog X.w X.xe _ ⟨.bl _, H, I, rfl, q⟩
end
end BF
namespace BF
open PySem PySem.Spec PyProof.Rows L2
theorem lex2 (x y z w : Int) : HT.lexLt [x, y] [z, w] = (decide (x < z) || (decide (x = z) && decide (y < w))) := by
  show (if x = z then (if y = w then false else decide (y < w)) else decide (x < z)) = _
  by_cases h : x = z
  · rw [if_pos h, decide_eq_true h, decide_eq_false (by omega : ¬ x < z)]
    by_cases k : y = w
    · rw [if_pos k, decide_eq_false (by omega : ¬ y < w)]; rfl
    · rw [if_neg k]; simp
  · rw [if_neg h, decide_eq_false h]; simp
end BF
namespace BF
open PySem PySem.Spec PyProof.Rows L2
def two (H : Hp) (q : Addr) (p : Int × Int) : Prop := H q = some (.tup [.int p.1, .int p.2])
theorem two_dt {H : Hp} {q : Addr} {p : Int × Int} (h : two H q p) : DtIs H (.ref q) (.tup [.int p.1, .int p.2]) := .tup h (.cons (.int _) (.cons (.int _) .nil))
end BF
namespace BF
open PySem PyProof.Rows
structure Ord (M : Model) (A : Around) (E : Value → Shared → Prop) (s : Shared) (kd : SortKind) where
  O : KeyOrd
  key : Keyed → O.α
  G : Keyed → Prop
  lt : ∀ {st : SortSt} {x y : Keyed} {Q : Option Bool → SortSt → Prop}, kindOf st = kd → G x → G y → Q (some (O.blt (key x) (key y))) st → wpS M A E s (lt' x y) Q st
section
variable {M : Model} {A : Around} {E : Value → Shared → Prop} {s : Shared} {kd : SortKind}
def Ord.le (o : Ord M A E s kd) (x y : Keyed) : Prop := o.O.kle (o.key x) (o.key y)
def Ord.b (o : Ord M A E s kd) (x y : Keyed) : Bool := o.O.blt (o.key x) (o.key y)
theorem Ord.le_refl (o : Ord M A E s kd) (x : Keyed) : o.le x x := KeyOrd.kle_refl _
theorem Ord.le_trans (o : Ord M A E s kd) {x y z : Keyed} (h : o.le x y) (k : o.le y z) : o.le x z := KeyOrd.kle_trans h k
theorem Ord.le_of_b (o : Ord M A E s kd) {x y : Keyed} (h : o.b x y = true) : o.le x y := KeyOrd.kle_of_klt h
theorem Ord.le_of_nb (o : Ord M A E s kd) {x y : Keyed} (h : o.b x y = false) : o.le y x := h
theorem Ord.b_le (o : Ord M A E s kd) {x y z : Keyed} (h : o.b x y = true) (k : o.le y z) : o.b x z = true := KeyOrd.klt_of_klt_of_kle h k
theorem Ord.le_b (o : Ord M A E s kd) {x y z : Keyed} (h : o.le x y) (k : o.b y z = true) : o.b x z = true := KeyOrd.klt_of_kle_of_klt h k
theorem Ord.nb_of_le (o : Ord M A E s kd) {x y : Keyed} (h : o.le x y) : o.b y x = false := h
def Ord.up (o : Ord M A E s kd) (xs : Array Keyed) (lo hi : Nat) : Prop := ∀ i j x y, lo ≤ i → i ≤ j → j < hi → xs[i]? = some x → xs[j]? = some y → o.le x y
def Ord.all (o : Ord M A E s kd) (xs : Array Keyed) : Prop := ∀ (i : Nat) x, xs[i]? = some x → o.G x
theorem wpS_elem {xs : Array Keyed} {i : Nat} {x : Keyed} {Q : Keyed → SortSt → Prop} {st : SortSt} (e : xs[i]? = some x) (h : Q x st) : wpS M A E s (elem' xs i) Q st := by
  rw [elem'_eq, e]; exact wpS_pure h
def gal : Bool → Keyed → Array Keyed → Nat → Nat → Nat → StateT SortSt Sem (Option Nat) := sortPriv% PySem.Builtin.gallop
def byd (left : Bool) (key : Keyed) (xs : Array Keyed) (base i : Nat) : StateT SortSt Sem (Option Bool) := do
  let x ← elem' xs (base + i)
  if left then lt' x key else return (← lt' key x).map (!·)
def galEnd (left : Bool) (key : Keyed) (xs : Array Keyed) (base n l r : Nat) : StateT SortSt Sem (Option Nat) := do
  let mut l := l
  let mut r := r
  for _ in [0:n] do
    if l ≥ r then break
    let some more ← byd left key xs base (l + (r - l) / 2) | return none
    if more then l := l + (r - l) / 2 + 1 else r := l + (r - l) / 2
  return some r
def galUp (left : Bool) (key : Keyed) (xs : Array Keyed) (base n hint : Nat) : StateT SortSt Sem (Option Nat) := do
  let mut p := 0
  let mut q := 1
  for _ in [0:n] do
    if q ≥ n - hint then break
    let some more ← byd left key xs base (hint + q) | return none
    if !more then break
    p := q
    q := 2 * q + 1
  galEnd left key xs base n (hint + p + 1) (hint + min q (n - hint))
def galDn (left : Bool) (key : Keyed) (xs : Array Keyed) (base n hint : Nat) : StateT SortSt Sem (Option Nat) := do
  let mut p := 0
  let mut q := 1
  for _ in [0:n] do
    if q ≥ hint + 1 then break
    let some more ← byd left key xs base (hint - q) | return none
    if more then break
    p := q
    q := 2 * q + 1
  galEnd left key xs base n (hint + 1 - min q (hint + 1)) (hint - p)
theorem gal_eq (left : Bool) (key : Keyed) (xs : Array Keyed) (base n hint : Nat) : gal left key xs base n hint = (do
    let some right ← byd left key xs base hint | return none
    if right then galUp left key xs base n hint else galDn left key xs base n hint) := rfl
def Ord.byB (o : Ord M A E s kd) (left : Bool) (key x : Keyed) : Bool := if left then o.b x key else !o.b key x
theorem wpS_byd (o : Ord M A E s kd) {left : Bool} {key x : Keyed} {xs : Array Keyed} {base i : Nat} {Q : Option Bool → SortSt → Prop} {st : SortSt} (hk : kindOf st = kd) (gk : o.G key) (gx : o.G x) (e : xs[base + i]? = some x)
    (h : Q (some (o.byB left key x)) st) : wpS M A E s (byd left key xs base i) Q st := by
  unfold byd
  refine wpS_bind (wpS_elem e ?_)
  cases left with
  | true => exact o.lt hk gx gk h
  | false => exact wpS_bind (o.lt hk gk gx (wpS_pure h))
end
end BF
namespace BF
open PySem PyProof.Rows
section
variable {M : Model} {A : Around} {E : Value → Shared → Prop} {s : Shared} {kd : SortKind}
theorem wpS_gal (o : Ord M A E s kd) {left : Bool} {key : Keyed} {xs : Array Keyed} {base n hint : Nat} {Q : Option Nat → SortSt → Prop} {st : SortSt} (hk : kindOf st = kd) (gk : o.G key) (ga : o.all xs) (hsz : base + n ≤ xs.size) (hh : hint < n)
    (up : o.up xs base (base + n)) (h : ∀ k, k ≤ n → (∀ i x, i < k → xs[base + i]? = some x → o.byB left key x = true) → (∀ i x, k ≤ i → i < n → xs[base + i]? = some x → o.byB left key x = false) → Q (some k) st) :
    wpS M A E s (gal left key xs base n hint) Q st := by
  rw [gal_eq]
  have at' : ∀ i, i < n → ∃ x, xs[base + i]? = some x := fun i hi => ⟨_, getElem?_pos _ _ (by omega)⟩
  have mono : ∀ i j x y, i ≤ j → j < n → xs[base + i]? = some x → xs[base + j]? = some y → o.byB left key y = true → o.byB left key x = true := fun i j x y hij hj ex ey hb => by
    have le := up (base + i) (base + j) x y (by omega) (by omega) (by omega) ex ey
    unfold Ord.byB at hb ⊢
    cases left with
    | true => exact o.le_b le hb
    | false =>
      have hb' : o.b key y = false := by simpa using hb
      have : o.b key x = false := o.nb_of_le (o.le_trans le hb')
      simp [this]
  have down : ∀ m, m < n → (∃ x, xs[base + m]? = some x ∧ o.byB left key x = true) → ∀ i x, i < m + 1 → xs[base + i]? = some x → o.byB left key x = true := fun m hm ⟨y, ey, hy⟩ i x hi ex => mono i m x y (by omega) hm ex ey hy
  have upp : ∀ m, (∃ x, xs[base + m]? = some x ∧ o.byB left key x = false) → ∀ i x, m ≤ i → i < n → xs[base + i]? = some x → o.byB left key x = false := fun m ⟨y, ey, hy⟩ i x hi hn ex => by
    cases hb : o.byB left key x with
    | false => rfl
    | true => rw [mono m i y x hi hn ey ex hb] at hy; cases hy
  have fin : ∀ l r, l ≤ r → r ≤ n → (∀ i x, i < l → xs[base + i]? = some x → o.byB left key x = true) → (∀ i x, r ≤ i → i < n → xs[base + i]? = some x → o.byB left key x = false) → wpS M A E s (galEnd left key xs base n l r) Q st := fun l r hlr hrn h1 h2 => by
    unfold galEnd
    refine wpS_bind (wpS_mono (wpS_forRange (I := fun t c st' => st' = st ∧ ∃ l r, c = (none, l, r) ∧ l ≤ r ∧ r ≤ n ∧ r - l ≤ n - t ∧ (∀ i x, i < l → xs[base + i]? = some x → o.byB left key x = true) ∧ (∀ i x, r ≤ i → i < n → xs[base + i]? = some x → o.byB left key x = false))
      (Q := fun c st' => st' = st ∧ ∃ l, c = (none, l, l) ∧ l ≤ n ∧ (∀ i x, i < l → xs[base + i]? = some x → o.byB left key x = true) ∧ (∀ i x, l ≤ i → i < n → xs[base + i]? = some x → o.byB left key x = false)) ?step ?fin ⟨rfl, l, r, rfl, hlr, hrn, by omega, h1, h2⟩) ?post)
    case post =>
      rintro c st' ⟨rfl, l, rfl, hl, a1, a2⟩
      exact wpS_pure (h l hl a1 a2)
    case fin =>
      rintro c st' ⟨rfl, l, r, rfl, h3, h4, h5, a1, a2⟩
      have : l = r := by omega
      subst this
      exact ⟨rfl, l, rfl, h4, a1, a2⟩
    case step =>
      rintro t c st' _ ht ⟨rfl, l, r, rfl, h3, h4, h5, a1, a2⟩
      dsimp only
      by_cases hge : l ≥ r
      · rw [if_pos hge]
        have : l = r := by omega
        subst this
        exact wpS_pure ⟨rfl, l, rfl, h4, a1, a2⟩
      · rw [if_neg hge]
        obtain ⟨y, ey⟩ := at' (l + (r - l) / 2) (by omega)
        refine wpS_bind (wpS_byd o hk gk (ga _ _ ey) ey ?_)
        cases hb : o.byB left key y with
        | true =>
          refine wpS_pure ⟨rfl, l + (r - l) / 2 + 1, r, rfl, by omega, h4, by omega, fun i x hi ex => down _ (by omega) ⟨y, ey, hb⟩ i x hi ex, a2⟩
        | false =>
          refine wpS_pure ⟨rfl, l, l + (r - l) / 2, rfl, by omega, by omega, by omega, a1, fun i x hi hn ex => upp _ ⟨y, ey, hb⟩ i x hi hn ex⟩
  obtain ⟨xh, eh⟩ := at' hint hh
  refine wpS_bind (wpS_byd o hk gk (ga _ _ eh) eh ?_)
  cases hb : o.byB left key xh with
  | true =>
    show wpS M A E s (galUp left key xs base n hint) Q st
    unfold galUp
    refine wpS_bind (wpS_mono (wpS_forRange (I := fun t c st' => st' = st ∧ ∃ p q, c = (none, p, q) ∧ p < q ∧ t < q ∧ hint + p < n ∧ ∃ x, xs[base + (hint + p)]? = some x ∧ o.byB left key x = true)
      (Q := fun c st' => st' = st ∧ ∃ p q, c = (none, p, q) ∧ p < q ∧ hint + p < n ∧ (∃ x, xs[base + (hint + p)]? = some x ∧ o.byB left key x = true) ∧ (n - hint ≤ q ∨ (hint + q < n ∧ ∃ x, xs[base + (hint + q)]? = some x ∧ o.byB left key x = false))) ?step ?fin ⟨rfl, 0, 1, rfl, by omega, by omega, by omega, xh, eh, hb⟩) ?post)
    case post =>
      rintro c st' ⟨rfl, p, q, rfl, h1, h2, a1, a2⟩
      show wpS M A E s (galEnd left key xs base n (hint + p + 1) (hint + min q (n - hint))) Q _
      refine fin _ _ ?_ ?_ (fun i x hi ex => down _ h2 a1 i x hi ex) fun i x hi hn ex => ?_
      · rcases a2 with z | ⟨z, _⟩ <;> omega
      · omega
      · rcases a2 with z | ⟨z, y⟩
        · omega
        · exact upp _ y i x (by omega) hn ex
    case fin =>
      rintro c st' ⟨rfl, p, q, rfl, h1, h2, h3, a1⟩
      exact ⟨rfl, p, q, rfl, h1, h3, a1, .inl (by omega)⟩
    case step =>
      rintro t c st' _ ht ⟨rfl, p, q, rfl, h1, h2, h3, a1⟩
      dsimp only
      by_cases hge : q ≥ n - hint
      · rw [if_pos hge]
        exact wpS_pure ⟨rfl, p, q, rfl, h1, h3, a1, .inl hge⟩
      · rw [if_neg hge]
        obtain ⟨y, ey⟩ := at' (hint + q) (by omega)
        refine wpS_bind (wpS_byd o hk gk (ga _ _ ey) ey ?_)
        cases hy : o.byB left key y with
        | true => exact wpS_pure ⟨rfl, q, 2 * q + 1, rfl, by omega, by omega, by omega, y, ey, hy⟩
        | false => exact wpS_pure ⟨rfl, p, q, rfl, h1, h3, a1, .inr ⟨by omega, y, ey, hy⟩⟩
  | false =>
    show wpS M A E s (galDn left key xs base n hint) Q st
    unfold galDn
    refine wpS_bind (wpS_mono (wpS_forRange (I := fun t c st' => st' = st ∧ ∃ p q, c = (none, p, q) ∧ p < q ∧ t < q ∧ p ≤ hint ∧ ∃ x, xs[base + (hint - p)]? = some x ∧ o.byB left key x = false)
      (Q := fun c st' => st' = st ∧ ∃ p q, c = (none, p, q) ∧ p < q ∧ p ≤ hint ∧ (∃ x, xs[base + (hint - p)]? = some x ∧ o.byB left key x = false) ∧ (hint + 1 ≤ q ∨ (q ≤ hint ∧ ∃ x, xs[base + (hint - q)]? = some x ∧ o.byB left key x = true))) ?step ?fin ⟨rfl, 0, 1, rfl, by omega, by omega, by omega, xh, eh, hb⟩) ?post)
    case post =>
      rintro c st' ⟨rfl, p, q, rfl, h1, h2, a1, a2⟩
      show wpS M A E s (galEnd left key xs base n (hint + 1 - min q (hint + 1)) (hint - p)) Q _
      refine fin _ _ ?_ ?_ (fun i x hi ex => ?_) fun i x hi hn ex => upp _ a1 i x hi hn ex
      · rcases a2 with z | ⟨z, _⟩ <;> omega
      · omega
      · rcases a2 with z | ⟨z, y⟩
        · omega
        · exact down _ (by omega) y i x (by omega) ex
    case fin =>
      rintro c st' ⟨rfl, p, q, rfl, h1, h2, h3, a1⟩
      exact ⟨rfl, p, q, rfl, h1, h3, a1, .inl (by omega)⟩
    case step =>
      rintro t c st' _ ht ⟨rfl, p, q, rfl, h1, h2, h3, a1⟩
      dsimp only
      by_cases hge : q ≥ hint + 1
      · rw [if_pos hge]
        exact wpS_pure ⟨rfl, p, q, rfl, h1, h3, a1, .inl hge⟩
      · rw [if_neg hge]
        obtain ⟨y, ey⟩ := at' (hint - q) (by omega)
        refine wpS_bind (wpS_byd o hk gk (ga _ _ ey) ey ?_)
        cases hy : o.byB left key y with
        | false => exact wpS_pure ⟨rfl, q, 2 * q + 1, rfl, by omega, by omega, by omega, y, ey, hy⟩
        | true => exact wpS_pure ⟨rfl, p, q, rfl, h1, h3, a1, .inr ⟨by omega, y, ey, hy⟩⟩
end
end BF
namespace BF
open PySem PyProof.Rows
section
variable {M : Model} {A : Around} {E : Value → Shared → Prop} {s : Shared} {kd : SortKind}
structure Ord.Mg (o : Ord M A E s kd) (la lb out : List Keyed) (i j : Nat) : Prop where
  perm : out.Perm (la.take i ++ lb.take j)
  up : out.Pairwise o.le
  la : ∀ x ∈ out, ∀ y ∈ la.drop i, o.le x y
  lb : ∀ x ∈ out, ∀ y ∈ lb.drop j, o.le x y
def Ord.Merged (o : Ord M A E s kd) (la lb out : List Keyed) : Prop := out.Perm (la ++ lb) ∧ out.Pairwise o.le
variable {o : Ord M A E s kd} {la lb out : List Keyed} {i j k : Nat}
theorem Ord.Mg.zero : o.Mg la lb [] 0 0 := ⟨by simp, .nil, by simp, by simp⟩
theorem mem_take_drop {x : Keyed} {l : List Keyed} {i k : Nat} (h : x ∈ (l.drop i).take k) : x ∈ l.drop i := List.mem_of_mem_take h
theorem Ord.Mg.manyA (m : o.Mg la lb out i j) (ua : la.Pairwise o.le) (h : ∀ x ∈ (la.drop i).take k, ∀ y ∈ lb.drop j, o.le x y) : o.Mg la lb (out ++ (la.drop i).take k) (i + k) j := by
  have e : la.take (i + k) = la.take i ++ (la.drop i).take k := List.take_add
  have ud : (la.drop i).Pairwise o.le := ua.sublist (List.drop_sublist _ _)
  have ed : (la.drop i).take k ++ la.drop (i + k) = la.drop i := by rw [← List.drop_drop]; exact List.take_append_drop k _
  refine ⟨?_, ?_, ?_, ?_⟩
  · rw [e]
    refine (m.perm.append_right _).trans ?_
    rw [List.append_assoc, List.append_assoc]
    exact List.Perm.append_left _ List.perm_append_comm
  · exact List.pairwise_append.mpr ⟨m.up, ud.sublist (List.take_sublist _ _), fun x hx y hy => m.la x hx y (mem_take_drop hy)⟩
  · intro x hx y hy
    rcases List.mem_append.mp hx with hx | hx
    · exact m.la x hx y (by rw [← ed]; exact List.mem_append_right _ hy)
    · rw [← ed] at ud
      exact (List.pairwise_append.mp ud).2.2 x hx y hy
  · intro x hx y hy
    rcases List.mem_append.mp hx with hx | hx
    · exact m.lb x hx y hy
    · exact h x hx y hy
theorem Ord.Mg.swap (m : o.Mg la lb out i j) : o.Mg lb la out j i := ⟨m.perm.trans List.perm_append_comm, m.up, m.lb, m.la⟩
theorem Ord.Mg.manyB (m : o.Mg la lb out i j) (ub : lb.Pairwise o.le) (h : ∀ x ∈ (lb.drop j).take k, ∀ y ∈ la.drop i, o.le x y) : o.Mg la lb (out ++ (lb.drop j).take k) i (j + k) := (m.swap.manyA ub h).swap
theorem Ord.Mg.endB (m : o.Mg la lb out i j) (ua : la.Pairwise o.le) (ub : lb.Pairwise o.le) (h : ∀ x ∈ lb.drop j, ∀ y ∈ la.drop i, o.le x y) : o.Merged la lb (out ++ lb.drop j ++ la.drop i) := by
  refine ⟨?_, ?_⟩
  · refine ((m.perm.append_right _).append_right _).trans ?_
    have e1 : la = la.take i ++ la.drop i := (List.take_append_drop _ _).symm
    have e2 : lb = lb.take j ++ lb.drop j := (List.take_append_drop _ _).symm
    refine List.Perm.trans ?_ (show (la.take i ++ la.drop i ++ (lb.take j ++ lb.drop j)).Perm (la ++ lb) by rw [← e1, ← e2])
    simp only [List.append_assoc]
    refine List.Perm.append_left _ ?_
    rw [← List.append_assoc]
    exact List.perm_append_comm
  · have ua' : (la.drop i).Pairwise o.le := ua.sublist (List.drop_sublist _ _)
    have ub' : (lb.drop j).Pairwise o.le := ub.sublist (List.drop_sublist _ _)
    refine List.pairwise_append.mpr ⟨List.pairwise_append.mpr ⟨m.up, ub', m.lb⟩, ua', fun x hx y hy => ?_⟩
    rcases List.mem_append.mp hx with hx | hx
    · exact m.la x hx y hy
    · exact h x hx y hy
theorem Ord.Merged.swap (m : o.Merged la lb out) : o.Merged lb la out := ⟨m.1.trans List.perm_append_comm, m.2⟩
theorem Ord.Mg.endA (m : o.Mg la lb out i j) (ua : la.Pairwise o.le) (ub : lb.Pairwise o.le) (h : ∀ x ∈ la.drop i, ∀ y ∈ lb.drop j, o.le x y) : o.Merged la lb (out ++ la.drop i ++ lb.drop j) := (m.swap.endB ub ua h).swap
end
theorem bind2 {α β : Type} {m m' : StateT SortSt Sem α} {f f' : α → StateT SortSt Sem β} (h : m = m') (k : f = f') : m >>= f = m' >>= f' := by rw [h, k]
def setG (g : Nat) : StateT SortSt Sem Unit := modify fun st => SortSt.mk' (kindOf st) (arrOf st) (pendingOf st) g (failedOf st)
section
abbrev MT1 := Option (Array Keyed) × Array Keyed × Nat × Nat × Nat × Nat
abbrev MT2 := Option (Array Keyed) × Array Keyed × Nat × Nat × Nat × Nat × Nat
abbrev MT0 := Option (Array Keyed) × Array Keyed × Nat × Nat × Nat
variable (u v : Array Keyed)
def loU (r : Array Keyed) (p q : Nat) : Array Keyed := r ++ u.extract p u.size ++ v.extract q v.size
def loV (r : Array Keyed) (p q : Nat) : Array Keyed := r ++ v.extract q v.size ++ u.extract p u.size
def loLin (g : Nat) (t : MT1) : StateT SortSt Sem (ForInStep MT1) := do
  let y ← elem' v t.2.2.2.1
  let x ← elem' u t.2.2.1
  match ← lt' y x with
  | some less =>
    if less then do
      let y ← elem' v t.2.2.2.1
      if t.2.2.2.1 + 1 == v.size then pure (.done (some (loU u v (t.2.1.push y) t.2.2.1 (t.2.2.2.1 + 1)), t.2.1.push y, t.2.2.1, t.2.2.2.1 + 1, 0, t.2.2.2.2.2 + 1))
      else if t.2.2.2.2.2 + 1 ≥ g then pure (.done (none, t.2.1.push y, t.2.2.1, t.2.2.2.1 + 1, 0, t.2.2.2.2.2 + 1))
      else pure (.yield (none, t.2.1.push y, t.2.2.1, t.2.2.2.1 + 1, 0, t.2.2.2.2.2 + 1))
    else do
      let x ← elem' u t.2.2.1
      if t.2.2.1 + 1 + 1 == u.size then pure (.done (some (loV u v (t.2.1.push x) (t.2.2.1 + 1) t.2.2.2.1), t.2.1.push x, t.2.2.1 + 1, t.2.2.2.1, t.2.2.2.2.1 + 1, 0))
      else if t.2.2.2.2.1 + 1 ≥ g then pure (.done (none, t.2.1.push x, t.2.2.1 + 1, t.2.2.2.1, t.2.2.2.2.1 + 1, 0))
      else pure (.yield (none, t.2.1.push x, t.2.2.1 + 1, t.2.2.2.1, t.2.2.2.2.1 + 1, 0))
  | _ => pure (.done (some (loU u v t.2.1 t.2.2.1 t.2.2.2.1), t.2.1, t.2.2.1, t.2.2.2.1, t.2.2.2.2.1, t.2.2.2.2.2))
def lo4 (r : Array Keyed) (p q g cu cv : Nat) : StateT SortSt Sem (ForInStep MT2) := do
  let x ← elem' u p
  if p + 1 + 1 == u.size then pure (.done (some (loV u v (r.push x) (p + 1) q), r.push x, p + 1, q, g, cu, cv))
  else if cu < 7 && cv < 7 then pure (.done (none, r.push x, p + 1, q, g, cu, cv))
  else pure (.yield (none, r.push x, p + 1, q, g, cu, cv))
def lo3 (r : Array Keyed) (p q g cu cv : Nat) : StateT SortSt Sem (ForInStep MT2) := do
  let x ← elem' u p
  match ← gal true x v q (v.size - q) 0 with
  | some k =>
    if k > 0 then
      if q + k == v.size then pure (.done (some (loU u v (r ++ v.extract q (q + k)) p (q + k)), r ++ v.extract q (q + k), p, q + k, g, cu, k))
      else lo4 u v (r ++ v.extract q (q + k)) p (q + k) g cu k
    else lo4 u v r p q g cu k
  | _ => pure (.done (some (loU u v r p q), r, p, q, g, cu, cv))
def lo2 (r : Array Keyed) (p q g cu cv : Nat) : StateT SortSt Sem (ForInStep MT2) := do
  let y ← elem' v q
  if q + 1 == v.size then pure (.done (some (loU u v (r.push y) p (q + 1)), r.push y, p, q + 1, g, cu, cv))
  else lo3 u v (r.push y) p (q + 1) g cu cv
def lo1 (r : Array Keyed) (p q g cu cv : Nat) : StateT SortSt Sem (ForInStep MT2) := do
  setG g
  let y ← elem' v q
  match ← gal false y u p (u.size - p) 0 with
  | some k =>
    if k > 0 then
      if p + k + 1 == u.size then pure (.done (some (loV u v (r ++ u.extract p (p + k)) (p + k) q), r ++ u.extract p (p + k), p + k, q, g, k, cv))
      else if p + k == u.size then pure (.done (some (loU u v (r ++ u.extract p (p + k)) (p + k) q), r ++ u.extract p (p + k), p + k, q, g, k, cv))
      else lo2 u v (r ++ u.extract p (p + k)) (p + k) q g k cv
    else lo2 u v r p q g k cv
  | _ => pure (.done (some (loU u v r p q), r, p, q, g, cu, cv))
def lo0 (t : MT2) : StateT SortSt Sem (ForInStep MT2) :=
  if t.2.2.2.2.1 > 1 then lo1 u v t.2.1 t.2.2.1 t.2.2.2.1 (t.2.2.2.2.1 - 1) t.2.2.2.2.2.1 t.2.2.2.2.2.2 else lo1 u v t.2.1 t.2.2.1 t.2.2.2.1 t.2.2.2.2.1 t.2.2.2.2.2.1 t.2.2.2.2.2.2
def loOut (t : MT0) : StateT SortSt Sem (ForInStep MT0) := do
  let t1 ← forIn [0:u.size + v.size] ((none, t.2.1, t.2.2.1, t.2.2.2.1, 0, 0) : MT1) (fun _ t1 => loLin u v t.2.2.2.2 t1)
  match t1.1 with
  | some z => pure (.done (some z, t1.2.1, t1.2.2.1, t1.2.2.2.1, t.2.2.2.2))
  | none => do
    rule "list.sort.gallop"
    let t2 ← forIn [0:u.size + v.size] ((none, t1.2.1, t1.2.2.1, t1.2.2.2.1, t.2.2.2.2 + 1, t1.2.2.2.2.1, t1.2.2.2.2.2) : MT2) (fun _ t2 => lo0 u v t2)
    match t2.1 with
    | some z => pure (.done (some z, t2.2.1, t2.2.2.1, t2.2.2.2.1, t2.2.2.2.2.1))
    | none => do
      setG (t2.2.2.2.2.1 + 1)
      pure (.yield (none, t2.2.1, t2.2.2.1, t2.2.2.2.1, t2.2.2.2.2.1 + 1))
def mlo : Array Keyed → Array Keyed → StateT SortSt Sem (Array Keyed) := sortPriv% PySem.Builtin.mergeLo
theorem mlo_eq0 (u v : Array Keyed) : mlo u v = (do
    rule "list.sort.merge-lo"
    let fullEnd (r : Array Keyed) (p q : Nat) := r ++ u.extract p u.size ++ v.extract q v.size
    let lastU (r : Array Keyed) (p q : Nat) := r ++ v.extract q v.size ++ u.extract p u.size
    let mut r : Array Keyed := #[← elem' v 0]
    let mut p := 0
    let mut q := 1
    if q == v.size then return fullEnd r p q
    if p + 1 == u.size then return lastU r p q
    let mut g := gallopOf (← get)
    for _ in [0:u.size + v.size] do
      let mut cu := 0
      let mut cv := 0
      for _ in [0:u.size + v.size] do
        let some less ← lt' (← elem' v q) (← elem' u p) | return fullEnd r p q
        if less then
          r := r.push (← elem' v q); q := q + 1; cv := cv + 1; cu := 0
          if q == v.size then return fullEnd r p q
          if cv ≥ g then break
        else
          r := r.push (← elem' u p); p := p + 1; cu := cu + 1; cv := 0
          if p + 1 == u.size then return lastU r p q
          if cu ≥ g then break
      rule "list.sort.gallop"
      g := g + 1
      for _ in [0:u.size + v.size] do
        if g > 1 then g := g - 1
        setG g
        let some k ← gal false (← elem' v q) u p (u.size - p) 0 | return fullEnd r p q
        cu := k
        if k > 0 then
          r := r ++ u.extract p (p + k); p := p + k
          if p + 1 == u.size then return lastU r p q
          if p == u.size then return fullEnd r p q
        r := r.push (← elem' v q); q := q + 1
        if q == v.size then return fullEnd r p q
        let some k ← gal true (← elem' u p) v q (v.size - q) 0 | return fullEnd r p q
        cv := k
        if k > 0 then
          r := r ++ v.extract q (q + k); q := q + k
          if q == v.size then return fullEnd r p q
        r := r.push (← elem' u p); p := p + 1
        if p + 1 == u.size then return lastU r p q
        if cu < 7 && cv < 7 then break
      g := g + 1
      setG g
    unsupported "internal:list.sort.merge-bound") := rfl
theorem mlo_eq : mlo u v = (do
    rule "list.sort.merge-lo"
    let y ← elem' v 0
    if 1 == v.size then pure (loU u v #[y] 0 1)
    else if 0 + 1 == u.size then pure (loV u v #[y] 0 1)
    else do
      let st ← get
      let t ← forIn [0:u.size + v.size] ((none, #[y], 0, 1, gallopOf st) : MT0) (fun _ t => loOut u v t)
      match t.1 with
      | some z => pure z
      | none => unsupported "internal:list.sort.merge-bound") := by
  rw [mlo_eq0]
  dsimp only [loOut, lo0, lo1, lo2, lo3, lo4, loLin, loU, loV]
  refine bind_congr fun _ => bind_congr fun y => ?_
  refine ite_congr rfl (fun _ => rfl) fun _ => ite_congr rfl (fun _ => rfl) fun _ => ?_
  refine bind_congr fun st => ?_
  refine bind2 (congrArg (forIn _ _) (funext fun x => funext fun t => ?_)) ?_
  · refine bind2 (congrArg (forIn _ _) (funext fun x => funext fun t1 => ?_)) (funext fun t1 => ?_)
    · refine bind_congr fun y => bind_congr fun x => bind_congr fun z => ?_
      cases z with
      | none => with_reducible rfl
      | some z => cases z <;> with_reducible rfl
    · obtain ⟨z, t1⟩ := t1
      cases z with
      | some z => with_reducible rfl
      | none =>
        dsimp only
        refine bind_congr fun _ => ?_
        refine bind2 (congrArg (forIn _ _) (funext fun x => funext fun t2 => ?_)) (funext fun t2 => ?_)
        · refine ite_congr rfl (fun _ => ?_) (fun _ => ?_)
          all_goals (refine bind_congr fun _ => bind_congr fun y => bind_congr fun k => ?_)
          all_goals cases k
          · with_reducible rfl
          · refine ite_congr rfl (fun _ => ite_congr rfl (fun _ => rfl) fun _ => ite_congr rfl (fun _ => rfl) fun _ => ?_) (fun _ => ?_)
            all_goals (refine bind_congr fun _ => ite_congr rfl (fun _ => rfl) fun _ => bind_congr fun _ => bind_congr fun k => ?_)
            all_goals cases k <;> with_reducible rfl
          · with_reducible rfl
          · refine ite_congr rfl (fun _ => ite_congr rfl (fun _ => rfl) fun _ => ite_congr rfl (fun _ => rfl) fun _ => ?_) (fun _ => ?_)
            all_goals (refine bind_congr fun _ => ite_congr rfl (fun _ => rfl) fun _ => bind_congr fun _ => bind_congr fun k => ?_)
            all_goals cases k <;> with_reducible rfl
        · obtain ⟨z, t2⟩ := t2
          cases z <;> with_reducible rfl
  · funext t
    obtain ⟨z, t⟩ := t
    cases z <;> with_reducible rfl
end
end BF
namespace BF
open PySem PyProof.Rows
section
variable {M : Model} {A : Around} {E : Value → Shared → Prop} {s : Shared} {kd : SortKind}
structure Gs (st st' : SortSt) : Prop where
  k : kindOf st' = kindOf st
  a : arrOf st' = arrOf st
  p : pendingOf st' = pendingOf st
  f : failedOf st' = failedOf st
theorem Gs.refl (st : SortSt) : Gs st st := ⟨rfl, rfl, rfl, rfl⟩
theorem wpS_setG {st st' : SortSt} {g : Nat} {Q : Unit → SortSt → Prop} (h : Gs st st') (k : ∀ st2, Gs st st2 → Q () st2) : wpS M A E s (setG g) Q st' :=
  wpS_modify (k _ ⟨h.k, h.a, h.p, h.f⟩)
theorem xt {u : Array Keyed} {p : Nat} : (u.extract p u.size).toList = u.toList.drop p := by
  rw [Array.toList_extract]
  show (u.toList.drop p).take (u.size - p) = _
  exact List.take_of_length_le (by simp)
theorem xk {u : Array Keyed} {p k : Nat} : (u.extract p (p + k)).toList = (u.toList.drop p).take k := by simp [Array.toList_extract, List.extract]
theorem at_lt {u : Array Keyed} {p : Nat} (h : p < u.size) : ∃ x, u[p]? = some x := ⟨u[p], getElem?_pos u p h⟩
theorem drop1 {u : Array Keyed} {p : Nat} {x : Keyed} (e : u[p]? = some x) : (u.toList.drop p).take 1 = [x] := by
  have e' : u.toList[p]? = some x := by simpa using e
  obtain ⟨h, rfl⟩ := List.getElem?_eq_some_iff.mp e'
  rw [List.drop_eq_getElem_cons h]
  rfl
theorem mem_drop_iff {u : Array Keyed} {p : Nat} {y : Keyed} : y ∈ u.toList.drop p ↔ ∃ i, p ≤ i ∧ u[i]? = some y := by
  rw [List.mem_iff_getElem?]
  constructor
  · rintro ⟨n, e⟩
    rw [List.getElem?_drop] at e
    exact ⟨p + n, by omega, by simpa using e⟩
  · rintro ⟨i, hi, e⟩
    exact ⟨i - p, by rw [List.getElem?_drop, show p + (i - p) = i by omega]; simpa using e⟩
theorem up_at {o : Ord M A E s kd} {u : Array Keyed} (uu : u.toList.Pairwise o.le) {i j : Nat} {x y : Keyed} (hij : i ≤ j) (ex : u[i]? = some x) (ey : u[j]? = some y) : o.le x y := by
  have ex' : u.toList[i]? = some x := by simpa using ex
  have ey' : u.toList[j]? = some y := by simpa using ey
  obtain ⟨h1, rfl⟩ := List.getElem?_eq_some_iff.mp ex'
  obtain ⟨h2, rfl⟩ := List.getElem?_eq_some_iff.mp ey'
  rcases Nat.lt_or_eq_of_le hij with h | h
  · exact List.pairwise_iff_getElem.mp uu i j h1 h2 h
  · subst h; exact o.le_refl _
theorem up_of {o : Ord M A E s kd} {u : Array Keyed} (uu : u.toList.Pairwise o.le) (lo hi : Nat) : o.up u lo hi := fun i j x y _ h _ ex ey => up_at uu h ex ey
theorem head_le {o : Ord M A E s kd} {u : Array Keyed} (uu : u.toList.Pairwise o.le) {p : Nat} {x : Keyed} (e : u[p]? = some x) : ∀ y ∈ u.toList.drop p, o.le x y := fun y hy => by
  obtain ⟨i, hi, ey⟩ := mem_drop_iff.mp hy
  exact up_at uu hi e ey
section
variable (o : Ord M A E s kd) (u v : Array Keyed)
structure LoPre : Prop where
  gu : o.all u
  gv : o.all v
  uu : u.toList.Pairwise o.le
  uv : v.toList.Pairwise o.le
  h2 : ∀ x y, x ∈ v.toList → u[u.size - 1]? = some y → o.le x y
def Live (r : Array Keyed) (p q : Nat) : Prop := o.Mg u.toList v.toList r.toList p q ∧ p + 1 < u.size ∧ q < v.size
def Res (z : Array Keyed) : Prop := o.Merged u.toList v.toList z.toList
end
variable {o : Ord M A E s kd} {u v : Array Keyed} {r : Array Keyed} {p q : Nat}
theorem Ord.Mg.pushA (m : o.Mg u.toList v.toList r.toList p q) (uu : u.toList.Pairwise o.le) {x : Keyed} (e : u[p]? = some x) (h : ∀ y ∈ v.toList.drop q, o.le x y) : o.Mg u.toList v.toList (r.push x).toList (p + 1) q := by
  have := m.manyA (k := 1) uu (by rw [drop1 e]; intro a ha y hy; rw [List.mem_singleton.mp ha]; exact h y hy)
  rw [drop1 e] at this
  simpa using this
theorem Ord.Mg.pushB (m : o.Mg u.toList v.toList r.toList p q) (uv : v.toList.Pairwise o.le) {y : Keyed} (e : v[q]? = some y) (h : ∀ x ∈ u.toList.drop p, o.le y x) : o.Mg u.toList v.toList (r.push y).toList p (q + 1) := by
  have := m.manyB (k := 1) uv (by rw [drop1 e]; intro a ha y hy; rw [List.mem_singleton.mp ha]; exact h y hy)
  rw [drop1 e] at this
  simpa using this
theorem resU (m : o.Mg u.toList v.toList r.toList p q) (uu : u.toList.Pairwise o.le) (uv : v.toList.Pairwise o.le) (h : u.size ≤ p ∨ v.size ≤ q) : Res o u v (loU u v r p q) := by
  unfold Res loU
  rw [Array.toList_append, Array.toList_append, xt, xt]
  refine m.endA uu uv fun x hx y hy => ?_
  rcases h with h | h
  · rw [List.drop_eq_nil_of_le (by simpa using h)] at hx; cases hx
  · rw [List.drop_eq_nil_of_le (by simpa using h)] at hy; cases hy
theorem resV (L : LoPre o u v) (m : o.Mg u.toList v.toList r.toList p q) (h : p + 1 = u.size) : Res o u v (loV u v r p q) := by
  unfold Res loV
  rw [Array.toList_append, Array.toList_append, xt, xt]
  refine m.endB L.uu L.uv fun x hx y hy => ?_
  obtain ⟨i, hi, ey⟩ := mem_drop_iff.mp hy
  have hi' : i < u.size := by
    rcases Nat.lt_or_ge i u.size with z | z
    · exact z
    · rw [getElem?_neg _ _ (by omega)] at ey; cases ey
  have : i = u.size - 1 := by omega
  subst this
  exact L.h2 x y (List.mem_of_mem_drop hx) ey
def lp (u v : Array Keyed) (o : Ord M A E s kd) (c : Nat) : ForInStep MT1 → Prop
  | .done (some z, _) => Res o u v z
  | .done (none, r, p, q, _) => Live o u v r p q ∧ c < p + q
  | .yield (some _, _) => False
  | .yield (none, r, p, q, _) => Live o u v r p q ∧ c < p + q
theorem wpS_loLin (L : LoPre o u v) {g a b : Nat} {st : SortSt} (hk : kindOf st = kd) (l : Live o u v r p q) : wpS M A E s (loLin u v g (none, r, p, q, a, b)) (fun t st' => st' = st ∧ lp u v o (p + q) t) st := by
  obtain ⟨m, hp, hq⟩ := l
  obtain ⟨x, ex⟩ := at_lt (u := u) (p := p) (by omega)
  obtain ⟨y, ey⟩ := at_lt hq
  unfold loLin
  refine wpS_bind (wpS_elem ey (wpS_bind (wpS_elem ex (wpS_bind (o.lt hk (L.gv _ _ ey) (L.gu _ _ ex) ?_)))))
  dsimp only
  cases hb : o.O.blt (o.key y) (o.key x) with
  | true =>
    refine wpS_bind (wpS_elem ey ?_)
    have m' := m.pushB L.uv ey fun z hz => o.le_trans (o.le_of_b hb) (head_le L.uu ex z hz)
    by_cases h1 : q + 1 = v.size
    · rw [if_pos (by simpa using h1)]
      exact wpS_pure ⟨rfl, resU m' L.uu L.uv (.inr (by omega))⟩
    · rw [if_neg (by simpa using h1)]
      split
      · exact wpS_pure ⟨rfl, ⟨m', hp, by omega⟩, by omega⟩
      · exact wpS_pure ⟨rfl, ⟨m', hp, by omega⟩, by omega⟩
  | false =>
    refine wpS_bind (wpS_elem ex ?_)
    have m' := m.pushA L.uu ex fun z hz => o.le_trans (o.le_of_nb hb) (head_le L.uv ey z hz)
    by_cases h1 : p + 1 + 1 = u.size
    · rw [if_pos (by simpa using h1)]
      exact wpS_pure ⟨rfl, resV L m' h1⟩
    · rw [if_neg (by simpa using h1)]
      split
      · exact wpS_pure ⟨rfl, ⟨m', by omega, hq⟩, by omega⟩
      · exact wpS_pure ⟨rfl, ⟨m', by omega, hq⟩, by omega⟩
end
end BF
namespace BF
open PySem PyProof.Rows
section
variable {M : Model} {A : Around} {E : Value → Shared → Prop} {s : Shared} {kd : SortKind} {o : Ord M A E s kd} {u v : Array Keyed} {r : Array Keyed} {p q g cu cv c : Nat} {st : SortSt}
theorem mem_take_iff {u : Array Keyed} {p k : Nat} {y : Keyed} (h : y ∈ (u.toList.drop p).take k) : ∃ i, i < k ∧ u[p + i]? = some y := by
  obtain ⟨n, e⟩ := List.mem_iff_getElem?.mp h
  rw [List.getElem?_take] at e
  split at e
  · rw [List.getElem?_drop] at e
    exact ⟨n, by assumption, by simpa using e⟩
  · cases e
theorem lt_of_at {u : Array Keyed} {i : Nat} {y : Keyed} (e : u[i]? = some y) : i < u.size := by
  rcases Nat.lt_or_ge i u.size with z | z
  · exact z
  · rw [getElem?_neg u i (by omega)] at e; cases e
def gp (u v : Array Keyed) (o : Ord M A E s kd) (c : Nat) : ForInStep MT2 → Prop
  | .done (some z, _) => Res o u v z
  | .done (none, r, p, q, _) => Live o u v r p q ∧ c < p + q
  | .yield (some _, _) => False
  | .yield (none, r, p, q, _) => Live o u v r p q ∧ c < p + q
theorem wpS_lo4 (L : LoPre o u v) (m : o.Mg u.toList v.toList r.toList p q) (hp : p + 1 < u.size) (hq : q < v.size) (hc : c ≤ p + q) {x : Keyed} (ex : u[p]? = some x) (hx : ∀ y ∈ v.toList.drop q, o.le x y) :
    wpS M A E s (lo4 u v r p q g cu cv) (fun t st' => st' = st ∧ gp u v o c t) st := by
  unfold lo4
  refine wpS_bind (wpS_elem ex ?_)
  have m' := m.pushA L.uu ex hx
  by_cases h1 : p + 1 + 1 = u.size
  · rw [if_pos (by simpa using h1)]
    exact wpS_pure ⟨rfl, resV L m' h1⟩
  · rw [if_neg (by simpa using h1)]
    split
    · exact wpS_pure ⟨rfl, ⟨m', by omega, hq⟩, by omega⟩
    · exact wpS_pure ⟨rfl, ⟨m', by omega, hq⟩, by omega⟩
theorem wpS_lo3 (L : LoPre o u v) (hk : kindOf st = kd) (m : o.Mg u.toList v.toList r.toList p q) (hp : p + 1 < u.size) (hq : q < v.size) (hc : c ≤ p + q) :
    wpS M A E s (lo3 u v r p q g cu cv) (fun t st' => st' = st ∧ gp u v o c t) st := by
  unfold lo3
  obtain ⟨x, ex⟩ := at_lt (u := u) (p := p) (by omega)
  refine wpS_bind (wpS_elem ex ?_)
  refine wpS_bind (wpS_gal o hk (L.gu _ _ ex) L.gv (by omega) (by omega) (up_of L.uv _ _) fun k hkn h1 h2 => ?_)
  have rest : ∀ y ∈ v.toList.drop (q + k), o.le x y := fun y hy => by
    obtain ⟨i, hi, ey⟩ := mem_drop_iff.mp hy
    have := lt_of_at ey
    exact o.le_of_nb (h2 (i - q) y (by omega) (by omega) (by rw [show q + (i - q) = i by omega]; exact ey))
  dsimp only
  split
  · have m' := m.manyB (k := k) L.uv fun a ha y hy => by
      obtain ⟨i, hi, ea⟩ := mem_take_iff ha
      exact o.le_trans (o.le_of_b (h1 i a hi ea)) (head_le L.uu ex y hy)
    have m'' : o.Mg u.toList v.toList (r ++ v.extract q (q + k)).toList p (q + k) := by rw [Array.toList_append, xk]; exact m'
    by_cases h3 : q + k = v.size
    · rw [if_pos (by simpa using h3)]
      exact wpS_pure ⟨rfl, resU m'' L.uu L.uv (.inr (by omega))⟩
    · rw [if_neg (by simpa using h3)]
      exact wpS_lo4 L m'' hp (by omega) (by omega) ex rest
  · have : k = 0 := by omega
    subst this
    exact wpS_lo4 L m hp hq hc ex rest
theorem wpS_lo2 (L : LoPre o u v) (hk : kindOf st = kd) (m : o.Mg u.toList v.toList r.toList p q) (hp : p + 1 < u.size) (hq : q < v.size) (hc : c ≤ p + q) {y : Keyed} (ey : v[q]? = some y) (hy : ∀ x ∈ u.toList.drop p, o.le y x) :
    wpS M A E s (lo2 u v r p q g cu cv) (fun t st' => st' = st ∧ gp u v o c t) st := by
  unfold lo2
  refine wpS_bind (wpS_elem ey ?_)
  have m' := m.pushB L.uv ey hy
  by_cases h1 : q + 1 = v.size
  · rw [if_pos (by simpa using h1)]
    exact wpS_pure ⟨rfl, resU m' L.uu L.uv (.inr (by omega))⟩
  · rw [if_neg (by simpa using h1)]
    exact wpS_lo3 L hk m' hp (by omega) (by omega)
theorem wpS_lo1 (L : LoPre o u v) {st0 : SortSt} (hs : Gs st0 st) (hk : kindOf st0 = kd) (l : Live o u v r p q) :
    wpS M A E s (lo1 u v r p q g cu cv) (fun t st' => Gs st0 st' ∧ gp u v o (p + q) t) st := by
  obtain ⟨m, hp, hq⟩ := l
  unfold lo1
  refine wpS_bind (wpS_setG hs fun st2 hs2 => ?_)
  have hk2 : kindOf st2 = kd := hs2.k.trans hk
  obtain ⟨y, ey⟩ := at_lt hq
  refine wpS_bind (wpS_elem ey ?_)
  refine wpS_bind (wpS_gal o hk2 (L.gv _ _ ey) L.gu (by omega) (by omega) (up_of L.uu _ _) fun k hkn h1 h2 => ?_)
  have rest : ∀ x ∈ u.toList.drop (p + k), o.le y x := fun x hx => by
    obtain ⟨i, hi, ex⟩ := mem_drop_iff.mp hx
    have := lt_of_at ex
    have z := h2 (i - p) x (by omega) (by omega) (by rw [show p + (i - p) = i by omega]; exact ex)
    exact o.le_of_b (by simpa [Ord.byB] using z)
  dsimp only
  split
  · have m' := m.manyA (k := k) L.uu fun a ha b hb => by
      obtain ⟨i, hi, ea⟩ := mem_take_iff ha
      have z := h1 i a hi ea
      have z' : o.b y a = false := by simpa [Ord.byB] using z
      exact o.le_trans (o.le_of_nb z') (head_le L.uv ey b hb)
    have m'' : o.Mg u.toList v.toList (r ++ u.extract p (p + k)).toList (p + k) q := by rw [Array.toList_append, xk]; exact m'
    by_cases h3 : p + k + 1 = u.size
    · rw [if_pos (by simpa using h3)]
      exact wpS_pure ⟨hs2, resV L m'' h3⟩
    · rw [if_neg (by simpa using h3)]
      by_cases h4 : p + k = u.size
      · rw [if_pos (by simpa using h4)]
        exact wpS_pure ⟨hs2, resU m'' L.uu L.uv (.inl (by omega))⟩
      · rw [if_neg (by simpa using h4)]
        exact wpS_mono (wpS_lo2 L hk2 m'' (by omega) hq (by omega) ey rest) fun t st' ⟨e, z⟩ => ⟨e ▸ hs2, z⟩
  · have : k = 0 := by omega
    subst this
    exact wpS_mono (wpS_lo2 L hk2 m hp hq (by omega) ey rest) fun t st' ⟨e, z⟩ => ⟨e ▸ hs2, z⟩
theorem wpS_lo0 (L : LoPre o u v) {st0 : SortSt} (hs : Gs st0 st) (hk : kindOf st0 = kd) (l : Live o u v r p q) :
    wpS M A E s (lo0 u v (none, r, p, q, g, cu, cv)) (fun t st' => Gs st0 st' ∧ gp u v o (p + q) t) st := by
  unfold lo0
  split
  · exact wpS_lo1 L hs hk l
  · exact wpS_lo1 L hs hk l
def op0 (u v : Array Keyed) (o : Ord M A E s kd) (c : Nat) : ForInStep MT0 → Prop
  | .done (some z, _) => Res o u v z
  | .done (none, _) => False
  | .yield (some _, _) => False
  | .yield (none, r, p, q, _) => Live o u v r p q ∧ c < p + q
theorem wpS_loOut (L : LoPre o u v) {st0 : SortSt} (hs : Gs st0 st) (hk : kindOf st0 = kd) (l : Live o u v r p q) :
    wpS M A E s (loOut u v (none, r, p, q, g)) (fun t st' => Gs st0 st' ∧ op0 u v o (p + q) t) st := by
  unfold loOut
  have hk1 : kindOf st = kd := hs.k.trans hk
  have hpos : 0 < u.size + v.size := by have := l.2.1; omega
  refine wpS_bind (wpS_mono (wpS_forRange (I := fun i t st' => st' = st ∧ ∃ r1 p1 q1 a b, t = (none, r1, p1, q1, a, b) ∧ Live o u v r1 p1 q1 ∧ p + q + i ≤ p1 + q1)
    (Q := fun t st' => st' = st ∧ ((∃ z t', t = (some z, t') ∧ Res o u v z) ∨ ∃ r1 p1 q1 a b, t = (none, r1, p1, q1, a, b) ∧ Live o u v r1 p1 q1 ∧ p + q < p1 + q1)) ?step ?fin ⟨rfl, r, p, q, 0, 0, rfl, l, by omega⟩) ?post)
  case fin =>
    rintro t st' ⟨rfl, r1, p1, q1, a, b, rfl, l1, hc⟩
    exact ⟨rfl, .inr ⟨r1, p1, q1, a, b, rfl, l1, by omega⟩⟩
  case step =>
    rintro i t st' _ hi ⟨rfl, r1, p1, q1, a, b, rfl, l1, hc⟩
    refine wpS_mono (wpS_loLin L hk1 l1) fun t st'' ⟨e, z⟩ => ?_
    subst e
    match t, z with
    | .done (some z, t'), hz => exact ⟨rfl, .inl ⟨z, t', rfl, hz⟩⟩
    | .done (none, r2, p2, q2, a2, b2), hz => exact ⟨rfl, .inr ⟨r2, p2, q2, a2, b2, rfl, hz.1, by have := hz.2; omega⟩⟩
    | .yield (none, r2, p2, q2, a2, b2), hz => exact ⟨rfl, r2, p2, q2, a2, b2, rfl, hz.1, by have := hz.2; omega⟩
  case post =>
    rintro t st' ⟨rfl, ⟨z, t', rfl, hz⟩ | ⟨r1, p1, q1, a, b, rfl, l1, hc⟩⟩
    · exact wpS_pure ⟨hs, hz⟩
    · dsimp only
      refine wpS_bind (wpS_lift (wpAny_rule ⟨rfl, ?_⟩))
      refine wpS_bind (wpS_mono (wpS_forRange (I := fun i t st2 => Gs st0 st2 ∧ ∃ r2 p2 q2 g2 a b, t = (none, r2, p2, q2, g2, a, b) ∧ Live o u v r2 p2 q2 ∧ p + q < p2 + q2)
        (Q := fun t st2 => Gs st0 st2 ∧ ((∃ z t', t = (some z, t') ∧ Res o u v z) ∨ ∃ r2 p2 q2 g2 a b, t = (none, r2, p2, q2, g2, a, b) ∧ Live o u v r2 p2 q2 ∧ p + q < p2 + q2)) ?step2 ?fin2 ⟨hs, r1, p1, q1, _, _, _, rfl, l1, hc⟩) ?post2)
      case fin2 =>
        rintro t st2 ⟨hs2, r2, p2, q2, g2, a, b, rfl, l2, hc2⟩
        exact ⟨hs2, .inr ⟨r2, p2, q2, g2, a, b, rfl, l2, hc2⟩⟩
      case step2 =>
        rintro i t st2 _ hi ⟨hs2, r2, p2, q2, g2, a, b, rfl, l2, hc2⟩
        refine wpS_mono (wpS_lo0 L hs2 hk l2) fun t st3 ⟨hs3, z⟩ => ?_
        match t, z with
        | .done (some z, t'), hz => exact ⟨hs3, .inl ⟨z, t', rfl, hz⟩⟩
        | .done (none, r3, p3, q3, g3, a3, b3), hz => exact ⟨hs3, .inr ⟨r3, p3, q3, g3, a3, b3, rfl, hz.1, by have := hz.2; omega⟩⟩
        | .yield (none, r3, p3, q3, g3, a3, b3), hz => exact ⟨hs3, r3, p3, q3, g3, a3, b3, rfl, hz.1, by have := hz.2; omega⟩
      case post2 =>
        rintro t st2 ⟨hs2, ⟨z, t', rfl, hz⟩ | ⟨r2, p2, q2, g2, a, b, rfl, l2, hc2⟩⟩
        · exact wpS_pure ⟨hs2, hz⟩
        · exact wpS_bind (wpS_setG hs2 fun st3 hs3 => wpS_pure ⟨hs3, l2, hc2⟩)
theorem wpS_mlo (L : LoPre o u v) {Q : Array Keyed → SortSt → Prop} (hk : kindOf st = kd) (hu : 0 < u.size) (hv : 0 < v.size)
    (h1 : ∀ x y, v[0]? = some x → y ∈ u.toList → o.le x y) (h : ∀ st' out, Gs st st' → o.Merged u.toList v.toList out.toList → Q out st') : wpS M A E s (mlo u v) Q st := by
  rw [mlo_eq]
  refine wpS_bind (wpS_lift (wpAny_rule ⟨rfl, ?_⟩))
  obtain ⟨y, ey⟩ := at_lt hv
  refine wpS_bind (wpS_elem ey ?_)
  have m : o.Mg u.toList v.toList (#[y] : Array Keyed).toList 0 1 := by
    have := (Ord.Mg.zero (o := o) (la := u.toList) (lb := v.toList)).pushB (r := #[]) L.uv ey (fun x hx => h1 y x ey (by simpa using hx))
    simpa using this
  by_cases h3 : 1 = v.size
  · rw [if_pos (by simpa using h3)]
    exact wpS_pure (h _ _ (.refl _) (resU m L.uu L.uv (.inr (by omega))))
  · rw [if_neg (by simpa using h3)]
    by_cases h4 : 0 + 1 = u.size
    · rw [if_pos (by simpa using h4)]
      exact wpS_pure (h _ _ (.refl _) (resV L m h4))
    · rw [if_neg (by simpa using h4)]
      refine wpS_bind (wpS_get ?_)
      refine wpS_bind (wpS_mono (wpS_forRange (I := fun i t st2 => Gs st st2 ∧ ∃ r2 p2 q2 g2, t = (none, r2, p2, q2, g2) ∧ Live o u v r2 p2 q2 ∧ i < p2 + q2)
        (Q := fun t st2 => Gs st st2 ∧ ∃ z t', t = (some z, t') ∧ Res o u v z) ?step ?fin ⟨.refl _, _, 0, 1, _, rfl, ⟨m, by omega, by omega⟩, by omega⟩) ?post)
      case fin =>
        rintro t st2 ⟨hs2, r2, p2, q2, g2, rfl, l2, hc⟩
        have := l2.2.1
        have := l2.2.2
        omega
      case step =>
        rintro i t st2 _ hi ⟨hs2, r2, p2, q2, g2, rfl, l2, hc⟩
        refine wpS_mono (wpS_loOut L hs2 hk l2) fun t st3 ⟨hs3, z⟩ => ?_
        match t, z with
        | .done (some z, t'), hz => exact ⟨hs3, z, t', rfl, hz⟩
        | .yield (none, r3, p3, q3, g3), hz => exact ⟨hs3, r3, p3, q3, g3, rfl, hz.1, by have := hz.2; omega⟩
      case post =>
        rintro t st2 ⟨hs2, z, t', rfl, hz⟩
        exact wpS_pure (h _ _ hs2 hz)
end
end BF
namespace BF
open PySem PyProof.Rows
section
abbrev NT1 := Option (Array Keyed) × Nat × Nat × Array Keyed × Nat × Nat
abbrev NT2 := Option (Array Keyed) × Nat × Nat × Array Keyed × Nat × Nat × Nat
abbrev NT0 := Option (Array Keyed) × Nat × Nat × Array Keyed × Nat
variable (u v : Array Keyed)
def hiU (p q : Nat) (r : Array Keyed) : Array Keyed := u.extract 0 p ++ v.extract 0 q ++ r.reverse
def hiV (p q : Nat) (r : Array Keyed) : Array Keyed := v.extract 0 q ++ u.extract 0 p ++ r.reverse
def hiLin (g : Nat) (t : NT1) : StateT SortSt Sem (ForInStep NT1) := do
  let y ← elem' v (t.2.2.1 - 1)
  let x ← elem' u (t.2.1 - 1)
  match ← lt' y x with
  | some less =>
    if less then do
      let x ← elem' u (t.2.1 - 1)
      if t.2.1 - 1 == 0 then pure (.done (some (hiU u v (t.2.1 - 1) t.2.2.1 (t.2.2.2.1.push x)), t.2.1 - 1, t.2.2.1, t.2.2.2.1.push x, t.2.2.2.2.1 + 1, 0))
      else if t.2.2.2.2.1 + 1 ≥ g then pure (.done (none, t.2.1 - 1, t.2.2.1, t.2.2.2.1.push x, t.2.2.2.2.1 + 1, 0))
      else pure (.yield (none, t.2.1 - 1, t.2.2.1, t.2.2.2.1.push x, t.2.2.2.2.1 + 1, 0))
    else do
      let y ← elem' v (t.2.2.1 - 1)
      if t.2.2.1 - 1 == 1 then pure (.done (some (hiV u v t.2.1 (t.2.2.1 - 1) (t.2.2.2.1.push y)), t.2.1, t.2.2.1 - 1, t.2.2.2.1.push y, 0, t.2.2.2.2.2 + 1))
      else if t.2.2.2.2.2 + 1 ≥ g then pure (.done (none, t.2.1, t.2.2.1 - 1, t.2.2.2.1.push y, 0, t.2.2.2.2.2 + 1))
      else pure (.yield (none, t.2.1, t.2.2.1 - 1, t.2.2.2.1.push y, 0, t.2.2.2.2.2 + 1))
  | _ => pure (.done (some (hiU u v t.2.1 t.2.2.1 t.2.2.2.1), t.2.1, t.2.2.1, t.2.2.2.1, t.2.2.2.2.1, t.2.2.2.2.2))
def hi4 (p q : Nat) (r : Array Keyed) (g cu cv : Nat) : StateT SortSt Sem (ForInStep NT2) := do
  let x ← elem' u (p - 1)
  if p - 1 == 0 then pure (.done (some (hiU u v (p - 1) q (r.push x)), p - 1, q, r.push x, g, cu, cv))
  else if cu < 7 && cv < 7 then pure (.done (none, p - 1, q, r.push x, g, cu, cv))
  else pure (.yield (none, p - 1, q, r.push x, g, cu, cv))
def hi3 (p q : Nat) (r : Array Keyed) (g cu cv : Nat) : StateT SortSt Sem (ForInStep NT2) := do
  let x ← elem' u (p - 1)
  match ← gal true x v 0 q (q - 1) with
  | some k =>
    if q - k > 0 then
      if k == 1 then pure (.done (some (hiV u v p k (r ++ (v.extract k q).reverse)), p, k, r ++ (v.extract k q).reverse, g, cu, q - k))
      else if k == 0 then pure (.done (some (hiU u v p k (r ++ (v.extract k q).reverse)), p, k, r ++ (v.extract k q).reverse, g, cu, q - k))
      else hi4 u v p k (r ++ (v.extract k q).reverse) g cu (q - k)
    else hi4 u v p q r g cu (q - k)
  | _ => pure (.done (some (hiU u v p q r), p, q, r, g, cu, cv))
def hi2 (p q : Nat) (r : Array Keyed) (g cu cv : Nat) : StateT SortSt Sem (ForInStep NT2) := do
  let y ← elem' v (q - 1)
  if q - 1 == 1 then pure (.done (some (hiV u v p (q - 1) (r.push y)), p, q - 1, r.push y, g, cu, cv))
  else hi3 u v p (q - 1) (r.push y) g cu cv
def hi1 (p q : Nat) (r : Array Keyed) (g cu cv : Nat) : StateT SortSt Sem (ForInStep NT2) := do
  setG g
  let y ← elem' v (q - 1)
  match ← gal false y u 0 p (p - 1) with
  | some k =>
    if p - k > 0 then
      if k == 0 then pure (.done (some (hiU u v k q (r ++ (u.extract k p).reverse)), k, q, r ++ (u.extract k p).reverse, g, p - k, cv))
      else hi2 u v k q (r ++ (u.extract k p).reverse) g (p - k) cv
    else hi2 u v p q r g (p - k) cv
  | _ => pure (.done (some (hiU u v p q r), p, q, r, g, cu, cv))
def hi0 (t : NT2) : StateT SortSt Sem (ForInStep NT2) :=
  if t.2.2.2.2.1 > 1 then hi1 u v t.2.1 t.2.2.1 t.2.2.2.1 (t.2.2.2.2.1 - 1) t.2.2.2.2.2.1 t.2.2.2.2.2.2 else hi1 u v t.2.1 t.2.2.1 t.2.2.2.1 t.2.2.2.2.1 t.2.2.2.2.2.1 t.2.2.2.2.2.2
def hiOut (t : NT0) : StateT SortSt Sem (ForInStep NT0) := do
  let t1 ← forIn [0:u.size + v.size] ((none, t.2.1, t.2.2.1, t.2.2.2.1, 0, 0) : NT1) (fun _ t1 => hiLin u v t.2.2.2.2 t1)
  match t1.1 with
  | some z => pure (.done (some z, t1.2.1, t1.2.2.1, t1.2.2.2.1, t.2.2.2.2))
  | none => do
    rule "list.sort.gallop"
    let t2 ← forIn [0:u.size + v.size] ((none, t1.2.1, t1.2.2.1, t1.2.2.2.1, t.2.2.2.2 + 1, t1.2.2.2.2.1, t1.2.2.2.2.2) : NT2) (fun _ t2 => hi0 u v t2)
    match t2.1 with
    | some z => pure (.done (some z, t2.2.1, t2.2.2.1, t2.2.2.2.1, t2.2.2.2.2.1))
    | none => do
      setG (t2.2.2.2.2.1 + 1)
      pure (.yield (none, t2.2.1, t2.2.2.1, t2.2.2.2.1, t2.2.2.2.2.1 + 1))
def mhi : Array Keyed → Array Keyed → StateT SortSt Sem (Array Keyed) := sortPriv% PySem.Builtin.mergeHi
theorem mhi_eq0 : mhi u v = (do
    rule "list.sort.merge-hi"
    let fullEnd (r : Array Keyed) (p q : Nat) := u.extract 0 p ++ v.extract 0 q ++ r.reverse
    let firstV (r : Array Keyed) (p q : Nat) := v.extract 0 q ++ u.extract 0 p ++ r.reverse
    let mut p := u.size - 1
    let mut q := v.size
    let mut r : Array Keyed := #[← elem' u p]
    if p == 0 then return fullEnd r p q
    if q == 1 then return firstV r p q
    let mut g := gallopOf (← get)
    for _ in [0:u.size + v.size] do
      let mut cu := 0
      let mut cv := 0
      for _ in [0:u.size + v.size] do
        let some less ← lt' (← elem' v (q - 1)) (← elem' u (p - 1)) | return fullEnd r p q
        if less then
          p := p - 1; r := r.push (← elem' u p); cu := cu + 1; cv := 0
          if p == 0 then return fullEnd r p q
          if cu ≥ g then break
        else
          q := q - 1; r := r.push (← elem' v q); cv := cv + 1; cu := 0
          if q == 1 then return firstV r p q
          if cv ≥ g then break
      rule "list.sort.gallop"
      g := g + 1
      for _ in [0:u.size + v.size] do
        if g > 1 then g := g - 1
        setG g
        let some m ← gal false (← elem' v (q - 1)) u 0 p (p - 1) | return fullEnd r p q
        let k := p - m
        cu := k
        if k > 0 then
          r := r ++ (u.extract m p).reverse; p := m
          if p == 0 then return fullEnd r p q
        q := q - 1; r := r.push (← elem' v q)
        if q == 1 then return firstV r p q
        let some m ← gal true (← elem' u (p - 1)) v 0 q (q - 1) | return fullEnd r p q
        let k := q - m
        cv := k
        if k > 0 then
          r := r ++ (v.extract m q).reverse; q := m
          if q == 1 then return firstV r p q
          if q == 0 then return fullEnd r p q
        p := p - 1; r := r.push (← elem' u p)
        if p == 0 then return fullEnd r p q
        if cu < 7 && cv < 7 then break
      g := g + 1
      setG g
    unsupported "internal:list.sort.merge-bound") := rfl
theorem mhi_eq : mhi u v = (do
    rule "list.sort.merge-hi"
    let x ← elem' u (u.size - 1)
    if u.size - 1 == 0 then pure (hiU u v (u.size - 1) v.size #[x])
    else if v.size == 1 then pure (hiV u v (u.size - 1) v.size #[x])
    else do
      let st ← get
      let t ← forIn [0:u.size + v.size] ((none, u.size - 1, v.size, #[x], gallopOf st) : NT0) (fun _ t => hiOut u v t)
      match t.1 with
      | some z => pure z
      | none => unsupported "internal:list.sort.merge-bound") := by
  rw [mhi_eq0]
  dsimp only [hiOut, hi0, hi1, hi2, hi3, hi4, hiLin, hiU, hiV]
  refine bind_congr fun _ => bind_congr fun y => ?_
  refine ite_congr rfl (fun _ => rfl) fun _ => ite_congr rfl (fun _ => rfl) fun _ => ?_
  refine bind_congr fun st => ?_
  refine bind2 (congrArg (forIn _ _) (funext fun x => funext fun t => ?_)) ?_
  · refine bind2 (congrArg (forIn _ _) (funext fun x => funext fun t1 => ?_)) (funext fun t1 => ?_)
    · refine bind_congr fun y => bind_congr fun x => bind_congr fun z => ?_
      cases z with
      | none => with_reducible rfl
      | some z => cases z <;> with_reducible rfl
    · obtain ⟨z, t1⟩ := t1
      cases z with
      | some z => with_reducible rfl
      | none =>
        dsimp only
        refine bind_congr fun _ => ?_
        refine bind2 (congrArg (forIn _ _) (funext fun x => funext fun t2 => ?_)) (funext fun t2 => ?_)
        · refine ite_congr rfl (fun _ => ?_) (fun _ => ?_)
          all_goals (refine bind_congr fun _ => bind_congr fun y => bind_congr fun k => ?_)
          all_goals cases k
          · with_reducible rfl
          · refine ite_congr rfl (fun _ => ite_congr rfl (fun _ => rfl) fun _ => ?_) (fun _ => ?_)
            all_goals (refine bind_congr fun _ => ite_congr rfl (fun _ => rfl) fun _ => bind_congr fun _ => bind_congr fun k => ?_)
            all_goals cases k <;> with_reducible rfl
          · with_reducible rfl
          · refine ite_congr rfl (fun _ => ite_congr rfl (fun _ => rfl) fun _ => ?_) (fun _ => ?_)
            all_goals (refine bind_congr fun _ => ite_congr rfl (fun _ => rfl) fun _ => bind_congr fun _ => bind_congr fun k => ?_)
            all_goals cases k <;> with_reducible rfl
        · obtain ⟨z, t2⟩ := t2
          cases z <;> with_reducible rfl
  · funext t
    obtain ⟨z, t⟩ := t
    cases z <;> with_reducible rfl
end
end BF
namespace BF
open PySem PyProof.Rows
section
variable {M : Model} {A : Around} {E : Value → Shared → Prop} {s : Shared} {kd : SortKind}
structure Ord.Hg (o : Ord M A E s kd) (la lb out : List Keyed) (i j : Nat) : Prop where
  perm : out.Perm (la.drop i ++ lb.drop j)
  up : out.Pairwise o.le
  la : ∀ x ∈ out, ∀ y ∈ la.take i, o.le y x
  lb : ∀ x ∈ out, ∀ y ∈ lb.take j, o.le y x
section
variable {o : Ord M A E s kd} {la lb out : List Keyed} {i j k : Nat}
theorem Ord.Hg.manyA (m : o.Hg la lb out i j) (ua : la.Pairwise o.le) (hk : k ≤ i) (h : ∀ x ∈ (la.take i).drop k, ∀ y ∈ lb.take j, o.le y x) : o.Hg la lb ((la.take i).drop k ++ out) k j := by
  have ut : (la.take i).Pairwise o.le := ua.sublist (List.take_sublist _ _)
  have et : la.take k ++ (la.take i).drop k = la.take i := by
    have := List.take_append_drop k (la.take i)
    rwa [List.take_take, Nat.min_eq_left hk] at this
  have ed : (la.take i).drop k ++ la.drop i = la.drop k := by
    have : (la.take i ++ la.drop i).drop k = la.drop k := by rw [List.take_append_drop]
    rw [← this, List.drop_append]
    by_cases hl : k ≤ (la.take i).length
    · rw [Nat.sub_eq_zero_of_le hl, List.drop_zero]
    · have hl' : la.length < k := by
        rw [List.length_take] at hl
        omega
      rw [List.drop_eq_nil_of_le (show (la.take i).length ≤ k by rw [List.length_take]; omega), List.drop_eq_nil_of_le (show la.length ≤ i by omega)]
      simp
  refine ⟨?_, ?_, ?_, ?_⟩
  · rw [← ed, List.append_assoc]
    exact List.Perm.append_left _ m.perm
  · exact List.pairwise_append.mpr ⟨ut.sublist (List.drop_sublist _ _), m.up, fun x hx y hy => m.la y hy x (List.mem_of_mem_drop hx)⟩
  · intro x hx y hy
    rcases List.mem_append.mp hx with hx | hx
    · rw [← et] at ut
      exact (List.pairwise_append.mp ut).2.2 y hy x hx
    · exact m.la x hx y (by rw [← et]; exact List.mem_append_left _ hy)
  · intro x hx y hy
    rcases List.mem_append.mp hx with hx | hx
    · exact h x hx y hy
    · exact m.lb x hx y hy
theorem Ord.Hg.swap (m : o.Hg la lb out i j) : o.Hg lb la out j i := ⟨m.perm.trans List.perm_append_comm, m.up, m.lb, m.la⟩
theorem Ord.Hg.manyB (m : o.Hg la lb out i j) (ub : lb.Pairwise o.le) (hk : k ≤ j) (h : ∀ x ∈ (lb.take j).drop k, ∀ y ∈ la.take i, o.le y x) : o.Hg la lb ((lb.take j).drop k ++ out) i k := (m.swap.manyA ub hk h).swap
theorem Ord.Hg.endA (m : o.Hg la lb out i j) (ua : la.Pairwise o.le) (ub : lb.Pairwise o.le) (h : ∀ x ∈ la.take i, ∀ y ∈ lb.take j, o.le x y) : o.Merged la lb (la.take i ++ lb.take j ++ out) := by
  refine ⟨?_, ?_⟩
  · refine (List.Perm.append_left _ m.perm).trans ?_
    have e1 : la = la.take i ++ la.drop i := (List.take_append_drop _ _).symm
    have e2 : lb = lb.take j ++ lb.drop j := (List.take_append_drop _ _).symm
    refine List.Perm.trans ?_ (show (la.take i ++ la.drop i ++ (lb.take j ++ lb.drop j)).Perm (la ++ lb) by rw [← e1, ← e2])
    simp only [List.append_assoc]
    refine List.Perm.append_left _ ?_
    rw [← List.append_assoc, ← List.append_assoc]
    exact List.Perm.append_right _ List.perm_append_comm
  · refine List.pairwise_append.mpr ⟨List.pairwise_append.mpr ⟨ua.sublist (List.take_sublist _ _), ub.sublist (List.take_sublist _ _), h⟩, m.up, fun x hx y hy => ?_⟩
    rcases List.mem_append.mp hx with hx | hx
    · exact m.la y hy x hx
    · exact m.lb y hy x hx
theorem Ord.Hg.endB (m : o.Hg la lb out i j) (ua : la.Pairwise o.le) (ub : lb.Pairwise o.le) (h : ∀ x ∈ lb.take j, ∀ y ∈ la.take i, o.le x y) : o.Merged la lb (lb.take j ++ la.take i ++ out) := (m.swap.endA ub ua h).swap
end
theorem x0 {u : Array Keyed} {p : Nat} : (u.extract 0 p).toList = u.toList.take p := by
  rw [Array.toList_extract]
  show (u.toList.drop 0).take (p - 0) = _
  simp
theorem xd {u : Array Keyed} {k p : Nat} : (u.extract k p).toList = (u.toList.take p).drop k := by
  rw [Array.toList_extract, List.drop_take]
theorem mem_upto {u : Array Keyed} {p : Nat} {y : Keyed} (h : y ∈ u.toList.take p) : ∃ i, i < p ∧ u[i]? = some y := by
  obtain ⟨i, hi, e⟩ := mem_take_iff (u := u) (p := 0) (k := p) (by simpa using h)
  exact ⟨i, hi, by simpa using e⟩
theorem mem_seg {u : Array Keyed} {k p : Nat} {y : Keyed} (h : y ∈ (u.toList.take p).drop k) : ∃ i, k ≤ i ∧ i < p ∧ u[i]? = some y := by
  obtain ⟨n, e⟩ := List.mem_iff_getElem?.mp h
  rw [List.getElem?_drop, List.getElem?_take] at e
  split at e
  · exact ⟨k + n, by omega, by assumption, by simpa using e⟩
  · cases e
theorem seg1 {u : Array Keyed} {p : Nat} {x : Keyed} (h0 : 0 < p) (e : u[p - 1]? = some x) : (u.toList.take p).drop (p - 1) = [x] := by
  rw [List.drop_take, show p - (p - 1) = 1 by omega]
  exact drop1 e
theorem last_ge {o : Ord M A E s kd} {u : Array Keyed} (uu : u.toList.Pairwise o.le) {p : Nat} {x : Keyed} (e : u[p - 1]? = some x) : ∀ y ∈ u.toList.take p, o.le y x := fun y hy => by
  obtain ⟨i, hi, ey⟩ := mem_upto hy
  exact up_at uu (by omega) ey e
section
variable (o : Ord M A E s kd) (u v : Array Keyed)
structure HiPre : Prop where
  gu : o.all u
  gv : o.all v
  uu : u.toList.Pairwise o.le
  uv : v.toList.Pairwise o.le
  h1 : ∀ x y, v[0]? = some x → y ∈ u.toList → o.le x y
def LiveH (p q : Nat) (r : Array Keyed) : Prop := o.Hg u.toList v.toList r.toList.reverse p q ∧ 0 < p ∧ 1 < q ∧ p ≤ u.size ∧ q ≤ v.size
end
variable {o : Ord M A E s kd} {u v : Array Keyed} {r : Array Keyed} {p q g cu cv c : Nat} {st : SortSt}
theorem Ord.Hg.pushA (m : o.Hg u.toList v.toList r.toList.reverse p q) (uu : u.toList.Pairwise o.le) (h0 : 0 < p) {x : Keyed} (e : u[p - 1]? = some x) (h : ∀ y ∈ v.toList.take q, o.le y x) : o.Hg u.toList v.toList (r.push x).toList.reverse (p - 1) q := by
  have := m.manyA (k := p - 1) uu (by omega) (by rw [seg1 h0 e]; intro a ha y hy; rw [List.mem_singleton.mp ha]; exact h y hy)
  rw [seg1 h0 e] at this
  simpa using this
theorem Ord.Hg.pushB (m : o.Hg u.toList v.toList r.toList.reverse p q) (uv : v.toList.Pairwise o.le) (h0 : 0 < q) {y : Keyed} (e : v[q - 1]? = some y) (h : ∀ x ∈ u.toList.take p, o.le x y) : o.Hg u.toList v.toList (r.push y).toList.reverse p (q - 1) := by
  have := m.manyB (k := q - 1) uv (by omega) (by rw [seg1 h0 e]; intro a ha y hy; rw [List.mem_singleton.mp ha]; exact h y hy)
  rw [seg1 h0 e] at this
  simpa using this
theorem resHU (m : o.Hg u.toList v.toList r.toList.reverse p q) (uu : u.toList.Pairwise o.le) (uv : v.toList.Pairwise o.le) (h : p = 0 ∨ q = 0) : Res o u v (hiU u v p q r) := by
  unfold Res hiU
  rw [Array.toList_append, Array.toList_append, x0, x0, Array.toList_reverse]
  refine m.endA uu uv fun x hx y hy => ?_
  rcases h with rfl | rfl
  · rw [List.take_zero] at hx; cases hx
  · rw [List.take_zero] at hy; cases hy
theorem resHV (L : HiPre o u v) (m : o.Hg u.toList v.toList r.toList.reverse p q) (h : q = 1) : Res o u v (hiV u v p q r) := by
  unfold Res hiV
  rw [Array.toList_append, Array.toList_append, x0, x0, Array.toList_reverse]
  refine m.endB L.uu L.uv fun x hx y hy => ?_
  subst h
  obtain ⟨i, hi, ex⟩ := mem_upto hx
  have : i = 0 := by omega
  subst this
  exact L.h1 x y ex (List.mem_of_mem_take hy)
def hlp (u v : Array Keyed) (o : Ord M A E s kd) (c : Nat) : ForInStep NT1 → Prop
  | .done (some z, _) => Res o u v z
  | .done (none, p, q, r, _) => LiveH o u v p q r ∧ p + q < c
  | .yield (some _, _) => False
  | .yield (none, p, q, r, _) => LiveH o u v p q r ∧ p + q < c
theorem wpS_hiLin (L : HiPre o u v) {a b : Nat} (hk : kindOf st = kd) (l : LiveH o u v p q r) : wpS M A E s (hiLin u v g (none, p, q, r, a, b)) (fun t st' => st' = st ∧ hlp u v o (p + q) t) st := by
  obtain ⟨m, hp, hq, hpu, hqv⟩ := l
  obtain ⟨x, ex⟩ := at_lt (u := u) (p := p - 1) (by omega)
  obtain ⟨y, ey⟩ := at_lt (u := v) (p := q - 1) (by omega)
  unfold hiLin
  refine wpS_bind (wpS_elem ey (wpS_bind (wpS_elem ex (wpS_bind (o.lt hk (L.gv _ _ ey) (L.gu _ _ ex) ?_)))))
  dsimp only
  cases hb : o.O.blt (o.key y) (o.key x) with
  | true =>
    refine wpS_bind (wpS_elem ex ?_)
    have m' := m.pushA L.uu hp ex fun z hz => o.le_trans (last_ge L.uv ey z hz) (o.le_of_b hb)
    by_cases h1 : p - 1 = 0
    · rw [if_pos (by simpa using h1)]
      exact wpS_pure ⟨rfl, resHU m' L.uu L.uv (.inl h1)⟩
    · rw [if_neg (by simpa using h1)]
      split
      · exact wpS_pure ⟨rfl, ⟨m', by omega, hq, by omega, hqv⟩, by omega⟩
      · exact wpS_pure ⟨rfl, ⟨m', by omega, hq, by omega, hqv⟩, by omega⟩
  | false =>
    refine wpS_bind (wpS_elem ey ?_)
    have m' := m.pushB L.uv (by omega) ey fun z hz => o.le_trans (last_ge L.uu ex z hz) (o.le_of_nb hb)
    by_cases h1 : q - 1 = 1
    · rw [if_pos (by simpa using h1)]
      exact wpS_pure ⟨rfl, resHV L m' h1⟩
    · rw [if_neg (by simpa using h1)]
      split
      · exact wpS_pure ⟨rfl, ⟨m', hp, by omega, hpu, by omega⟩, by omega⟩
      · exact wpS_pure ⟨rfl, ⟨m', hp, by omega, hpu, by omega⟩, by omega⟩
def hgp (u v : Array Keyed) (o : Ord M A E s kd) (c : Nat) : ForInStep NT2 → Prop
  | .done (some z, _) => Res o u v z
  | .done (none, p, q, r, _) => LiveH o u v p q r ∧ p + q < c
  | .yield (some _, _) => False
  | .yield (none, p, q, r, _) => LiveH o u v p q r ∧ p + q < c
theorem wpS_hi4 (L : HiPre o u v) (l : LiveH o u v p q r) (hc : p + q ≤ c) {x : Keyed} (ex : u[p - 1]? = some x) (hx : ∀ y ∈ v.toList.take q, o.le y x) :
    wpS M A E s (hi4 u v p q r g cu cv) (fun t st' => st' = st ∧ hgp u v o c t) st := by
  obtain ⟨m, hp, hq, hpu, hqv⟩ := l
  unfold hi4
  refine wpS_bind (wpS_elem ex ?_)
  have m' := m.pushA L.uu hp ex hx
  by_cases h1 : p - 1 = 0
  · rw [if_pos (by simpa using h1)]
    exact wpS_pure ⟨rfl, resHU m' L.uu L.uv (.inl h1)⟩
  · rw [if_neg (by simpa using h1)]
    split
    · exact wpS_pure ⟨rfl, ⟨m', by omega, hq, by omega, hqv⟩, by omega⟩
    · exact wpS_pure ⟨rfl, ⟨m', by omega, hq, by omega, hqv⟩, by omega⟩
theorem wpS_hi3 (L : HiPre o u v) (hk : kindOf st = kd) (l : LiveH o u v p q r) (hc : p + q ≤ c) :
    wpS M A E s (hi3 u v p q r g cu cv) (fun t st' => st' = st ∧ hgp u v o c t) st := by
  obtain ⟨m, hp, hq, hpu, hqv⟩ := l
  unfold hi3
  obtain ⟨x, ex⟩ := at_lt (u := u) (p := p - 1) (by omega)
  refine wpS_bind (wpS_elem ex ?_)
  refine wpS_bind (wpS_gal o hk (L.gu _ _ ex) L.gv (by omega) (by omega) (up_of L.uv _ _) fun k hkn h1 h2 => ?_)
  have rest : ∀ y ∈ v.toList.take k, o.le y x := fun y hy => by
    obtain ⟨i, hi, ey⟩ := mem_upto hy
    exact o.le_of_b (h1 i y hi (by rw [Nat.zero_add]; exact ey))
  dsimp only
  split
  · have m' := m.manyB (k := k) L.uv hkn fun b hb a ha => by
      obtain ⟨i, hi, hi2, eb⟩ := mem_seg hb
      exact o.le_trans (last_ge L.uu ex a ha) (o.le_of_nb (h2 i b hi hi2 (by rw [Nat.zero_add]; exact eb)))
    have m'' : o.Hg u.toList v.toList (r ++ (v.extract k q).reverse).toList.reverse p k := by
      rw [Array.toList_append, List.reverse_append, Array.toList_reverse, List.reverse_reverse, xd]; exact m'
    by_cases h3 : k = 1
    · rw [if_pos (by simpa using h3)]
      exact wpS_pure ⟨rfl, resHV L m'' h3⟩
    · rw [if_neg (by simpa using h3)]
      by_cases h4 : k = 0
      · rw [if_pos (by simpa using h4)]
        exact wpS_pure ⟨rfl, resHU m'' L.uu L.uv (.inr h4)⟩
      · rw [if_neg (by simpa using h4)]
        exact wpS_hi4 L ⟨m'', hp, by omega, hpu, by omega⟩ (by omega) ex rest
  · have : k = q := by omega
    subst this
    exact wpS_hi4 L ⟨m, hp, hq, hpu, hqv⟩ hc ex rest
theorem wpS_hi2 (L : HiPre o u v) (hk : kindOf st = kd) (l : LiveH o u v p q r) (hc : p + q ≤ c) {y : Keyed} (ey : v[q - 1]? = some y) (hy : ∀ x ∈ u.toList.take p, o.le x y) :
    wpS M A E s (hi2 u v p q r g cu cv) (fun t st' => st' = st ∧ hgp u v o c t) st := by
  obtain ⟨m, hp, hq, hpu, hqv⟩ := l
  unfold hi2
  refine wpS_bind (wpS_elem ey ?_)
  have m' := m.pushB L.uv (by omega) ey hy
  by_cases h1 : q - 1 = 1
  · rw [if_pos (by simpa using h1)]
    exact wpS_pure ⟨rfl, resHV L m' h1⟩
  · rw [if_neg (by simpa using h1)]
    exact wpS_hi3 L hk ⟨m', hp, by omega, hpu, by omega⟩ (by omega)
theorem wpS_hi1 (L : HiPre o u v) {st0 : SortSt} (hs : Gs st0 st) (hk : kindOf st0 = kd) (l : LiveH o u v p q r) :
    wpS M A E s (hi1 u v p q r g cu cv) (fun t st' => Gs st0 st' ∧ hgp u v o (p + q) t) st := by
  obtain ⟨m, hp, hq, hpu, hqv⟩ := id l
  unfold hi1
  refine wpS_bind (wpS_setG hs fun st2 hs2 => ?_)
  have hk2 : kindOf st2 = kd := hs2.k.trans hk
  obtain ⟨y, ey⟩ := at_lt (u := v) (p := q - 1) (by omega)
  refine wpS_bind (wpS_elem ey ?_)
  refine wpS_bind (wpS_gal o hk2 (L.gv _ _ ey) L.gu (by omega) (by omega) (up_of L.uu _ _) fun k hkn h1 h2 => ?_)
  have rest : ∀ x ∈ u.toList.take k, o.le x y := fun x hx => by
    obtain ⟨i, hi, ex⟩ := mem_upto hx
    have z := h1 i x hi (by rw [Nat.zero_add]; exact ex)
    have z' : o.b y x = false := by simpa [Ord.byB] using z
    exact o.le_of_nb z'
  dsimp only
  split
  · have m' := m.manyA (k := k) L.uu hkn fun a ha b hb => by
      obtain ⟨i, hi, hi2, ea⟩ := mem_seg ha
      have z := h2 i a hi hi2 (by rw [Nat.zero_add]; exact ea)
      have z' : o.b y a = true := by simpa [Ord.byB] using z
      exact o.le_trans (last_ge L.uv ey b hb) (o.le_of_b z')
    have m'' : o.Hg u.toList v.toList (r ++ (u.extract k p).reverse).toList.reverse k q := by
      rw [Array.toList_append, List.reverse_append, Array.toList_reverse, List.reverse_reverse, xd]; exact m'
    by_cases h4 : k = 0
    · rw [if_pos (by simpa using h4)]
      exact wpS_pure ⟨hs2, resHU m'' L.uu L.uv (.inl h4)⟩
    · rw [if_neg (by simpa using h4)]
      exact wpS_mono (wpS_hi2 L hk2 ⟨m'', by omega, hq, by omega, hqv⟩ (by omega) ey rest) fun t st' ⟨e, z⟩ => ⟨e ▸ hs2, z⟩
  · have : k = p := by omega
    subst this
    exact wpS_mono (wpS_hi2 L hk2 l (by omega) ey rest) fun t st' ⟨e, z⟩ => ⟨e ▸ hs2, z⟩
theorem wpS_hi0 (L : HiPre o u v) {st0 : SortSt} (hs : Gs st0 st) (hk : kindOf st0 = kd) (l : LiveH o u v p q r) :
    wpS M A E s (hi0 u v (none, p, q, r, g, cu, cv)) (fun t st' => Gs st0 st' ∧ hgp u v o (p + q) t) st := by
  unfold hi0
  split
  · exact wpS_hi1 L hs hk l
  · exact wpS_hi1 L hs hk l
def hop (u v : Array Keyed) (o : Ord M A E s kd) (c : Nat) : ForInStep NT0 → Prop
  | .done (some z, _) => Res o u v z
  | .done (none, _) => False
  | .yield (some _, _) => False
  | .yield (none, p, q, r, _) => LiveH o u v p q r ∧ p + q < c
theorem wpS_hiOut (L : HiPre o u v) {st0 : SortSt} (hs : Gs st0 st) (hk : kindOf st0 = kd) (l : LiveH o u v p q r) :
    wpS M A E s (hiOut u v (none, p, q, r, g)) (fun t st' => Gs st0 st' ∧ hop u v o (p + q) t) st := by
  unfold hiOut
  have hk1 : kindOf st = kd := hs.k.trans hk
  have hpos : 0 < u.size + v.size := by have := l.2.2.2.1; have := l.2.1; omega
  refine wpS_bind (wpS_mono (wpS_forRange (I := fun i t st' => st' = st ∧ ∃ p1 q1 r1 a b, t = (none, p1, q1, r1, a, b) ∧ LiveH o u v p1 q1 r1 ∧ p1 + q1 + i ≤ p + q)
    (Q := fun t st' => st' = st ∧ ((∃ z t', t = (some z, t') ∧ Res o u v z) ∨ ∃ p1 q1 r1 a b, t = (none, p1, q1, r1, a, b) ∧ LiveH o u v p1 q1 r1 ∧ p1 + q1 < p + q)) ?step ?fin ⟨rfl, p, q, r, 0, 0, rfl, l, by omega⟩) ?post)
  case fin =>
    rintro t st' ⟨rfl, p1, q1, r1, a, b, rfl, l1, hc⟩
    exact ⟨rfl, .inr ⟨p1, q1, r1, a, b, rfl, l1, by omega⟩⟩
  case step =>
    rintro i t st' _ hi ⟨rfl, p1, q1, r1, a, b, rfl, l1, hc⟩
    refine wpS_mono (wpS_hiLin L hk1 l1) fun t st'' ⟨e, z⟩ => ?_
    subst e
    match t, z with
    | .done (some z, t'), hz => exact ⟨rfl, .inl ⟨z, t', rfl, hz⟩⟩
    | .done (none, p2, q2, r2, a2, b2), hz => exact ⟨rfl, .inr ⟨p2, q2, r2, a2, b2, rfl, hz.1, by have := hz.2; omega⟩⟩
    | .yield (none, p2, q2, r2, a2, b2), hz => exact ⟨rfl, p2, q2, r2, a2, b2, rfl, hz.1, by have := hz.2; omega⟩
  case post =>
    rintro t st' ⟨rfl, ⟨z, t', rfl, hz⟩ | ⟨p1, q1, r1, a, b, rfl, l1, hc⟩⟩
    · exact wpS_pure ⟨hs, hz⟩
    · dsimp only
      refine wpS_bind (wpS_lift (wpAny_rule ⟨rfl, ?_⟩))
      refine wpS_bind (wpS_mono (wpS_forRange (I := fun i t st2 => Gs st0 st2 ∧ ∃ p2 q2 r2 g2 a b, t = (none, p2, q2, r2, g2, a, b) ∧ LiveH o u v p2 q2 r2 ∧ p2 + q2 < p + q)
        (Q := fun t st2 => Gs st0 st2 ∧ ((∃ z t', t = (some z, t') ∧ Res o u v z) ∨ ∃ p2 q2 r2 g2 a b, t = (none, p2, q2, r2, g2, a, b) ∧ LiveH o u v p2 q2 r2 ∧ p2 + q2 < p + q)) ?step2 ?fin2 ⟨hs, p1, q1, r1, _, _, _, rfl, l1, hc⟩) ?post2)
      case fin2 =>
        rintro t st2 ⟨hs2, p2, q2, r2, g2, a, b, rfl, l2, hc2⟩
        exact ⟨hs2, .inr ⟨p2, q2, r2, g2, a, b, rfl, l2, hc2⟩⟩
      case step2 =>
        rintro i t st2 _ hi ⟨hs2, p2, q2, r2, g2, a, b, rfl, l2, hc2⟩
        refine wpS_mono (wpS_hi0 L hs2 hk l2) fun t st3 ⟨hs3, z⟩ => ?_
        match t, z with
        | .done (some z, t'), hz => exact ⟨hs3, .inl ⟨z, t', rfl, hz⟩⟩
        | .done (none, p3, q3, r3, g3, a3, b3), hz => exact ⟨hs3, .inr ⟨p3, q3, r3, g3, a3, b3, rfl, hz.1, by have := hz.2; omega⟩⟩
        | .yield (none, p3, q3, r3, g3, a3, b3), hz => exact ⟨hs3, p3, q3, r3, g3, a3, b3, rfl, hz.1, by have := hz.2; omega⟩
      case post2 =>
        rintro t st2 ⟨hs2, ⟨z, t', rfl, hz⟩ | ⟨p2, q2, r2, g2, a, b, rfl, l2, hc2⟩⟩
        · exact wpS_pure ⟨hs2, hz⟩
        · exact wpS_bind (wpS_setG hs2 fun st3 hs3 => wpS_pure ⟨hs3, l2, hc2⟩)
theorem wpS_mhi (L : HiPre o u v) {Q : Array Keyed → SortSt → Prop} (hk : kindOf st = kd) (hu : 0 < u.size) (hv : 0 < v.size)
    (h2 : ∀ x y, x ∈ v.toList → u[u.size - 1]? = some y → o.le x y) (h : ∀ st' out, Gs st st' → o.Merged u.toList v.toList out.toList → Q out st') : wpS M A E s (mhi u v) Q st := by
  rw [mhi_eq]
  refine wpS_bind (wpS_lift (wpAny_rule ⟨rfl, ?_⟩))
  obtain ⟨x, ex⟩ := at_lt (u := u) (p := u.size - 1) (by omega)
  refine wpS_bind (wpS_elem ex ?_)
  have m0 : o.Hg u.toList v.toList (#[] : Array Keyed).toList.reverse u.size v.size := ⟨by simp, by simp, by simp, by simp⟩
  have m : o.Hg u.toList v.toList (#[x] : Array Keyed).toList.reverse (u.size - 1) v.size := by
    have := m0.pushA L.uu hu ex (fun y hy => h2 y x (List.mem_of_mem_take hy) ex)
    simpa using this
  by_cases h3 : u.size - 1 = 0
  · rw [if_pos (by simpa using h3)]
    exact wpS_pure (h _ _ (.refl _) (resHU m L.uu L.uv (.inl h3)))
  · rw [if_neg (by simpa using h3)]
    by_cases h4 : v.size = 1
    · rw [if_pos (by simpa using h4)]
      exact wpS_pure (h _ _ (.refl _) (resHV L m h4))
    · rw [if_neg (by simpa using h4)]
      refine wpS_bind (wpS_get ?_)
      refine wpS_bind (wpS_mono (wpS_forRange (I := fun i t st2 => Gs st st2 ∧ ∃ p2 q2 r2 g2, t = (none, p2, q2, r2, g2) ∧ LiveH o u v p2 q2 r2 ∧ p2 + q2 + i < u.size + v.size)
        (Q := fun t st2 => Gs st st2 ∧ ∃ z t', t = (some z, t') ∧ Res o u v z) ?step ?fin ⟨.refl _, u.size - 1, v.size, _, _, rfl, ⟨m, by omega, by omega, by omega, by omega⟩, by omega⟩) ?post)
      case fin =>
        rintro t st2 ⟨hs2, p2, q2, r2, g2, rfl, l2, hc⟩
        omega
      case step =>
        rintro i t st2 _ hi ⟨hs2, p2, q2, r2, g2, rfl, l2, hc⟩
        refine wpS_mono (wpS_hiOut L hs2 hk l2) fun t st3 ⟨hs3, z⟩ => ?_
        match t, z with
        | .done (some z, t'), hz => exact ⟨hs3, z, t', rfl, hz⟩
        | .yield (none, p3, q3, r3, g3), hz => exact ⟨hs3, p3, q3, r3, g3, rfl, hz.1, by have := hz.2; omega⟩
      case post =>
        rintro t st2 ⟨hs2, z, t', rfl, hz⟩
        exact wpS_pure (h _ _ hs2 hz)
end
end BF
namespace BF
open PySem PyProof.Rows
section
theorem splice_go : ∀ (zs : List Keyed) (n L : Nat) (xs : Array Keyed), L + n + zs.length ≤ xs.size →
    ((zs.zipIdx n).foldl (fun a (pj : Keyed × Nat) => a.setIfInBounds (L + pj.2) pj.1) xs).toList = xs.toList.take (L + n) ++ zs ++ xs.toList.drop (L + n + zs.length)
  | [], n, L, xs, h => by simp
  | z :: zs, n, L, xs, h => by
    rw [List.zipIdx_cons, List.foldl_cons]
    simp only [List.length_cons] at h
    rw [splice_go zs (n + 1) L (xs.setIfInBounds (L + n) z) (by rw [Array.size_setIfInBounds]; omega)]
    have hlt : L + n < xs.toList.length := by rw [Array.length_toList]; omega
    rw [Array.toList_setIfInBounds]
    have e1 : (xs.toList.set (L + n) z).take (L + (n + 1)) = xs.toList.take (L + n) ++ [z] := by
      rw [show L + (n + 1) = (L + n) + 1 by omega, List.take_succ, List.take_set, List.getElem?_set_self hlt]
      congr 1
      exact List.set_eq_of_length_le (by rw [List.length_take]; omega)
    have e2 : (xs.toList.set (L + n) z).drop (L + (n + 1) + zs.length) = xs.toList.drop (L + n + (z :: zs).length) := by
      rw [List.drop_set_of_lt (by omega), List.length_cons]
      congr 1
      omega
    rw [e1, e2]
    simp
theorem splice (zs xs : Array Keyed) (L : Nat) (h : L + zs.size ≤ xs.size) :
    (zs.toList.zipIdx.foldl (fun a (pj : Keyed × Nat) => a.setIfInBounds (L + pj.2) pj.1) xs).toList = xs.toList.take L ++ zs.toList ++ xs.toList.drop (L + zs.size) := by
  have := splice_go zs.toList 0 L xs (by rw [Array.length_toList]; omega)
  simpa using this
end
section
variable {M : Model} {A : Around} {E : Value → Shared → Prop} {s : Shared} {kd : SortKind} {o : Ord M A E s kd}
theorem at_mid {xs : Array Keyed} {pre B post : List Keyed} (e : xs.toList = pre ++ B ++ post) {i : Nat} (hi : i < B.length) : xs[pre.length + i]? = B[i]? := by
  have : xs.toList[pre.length + i]? = B[i]? := by
    rw [e, List.append_assoc, List.getElem?_append_right (by omega), Nat.add_sub_cancel_left, List.getElem?_append_left hi]
  rw [← this]; simp
theorem size_mid {xs : Array Keyed} {l : List Keyed} (e : xs.toList = l) : xs.size = l.length := by rw [← e]; simp
theorem up_mid {xs : Array Keyed} {pre B post : List Keyed} (e : xs.toList = pre ++ B ++ post) (ub : B.Pairwise o.le) : o.up xs pre.length (pre.length + B.length) := fun i j x y h1 h2 h3 ex ey => by
  have ex' := at_mid e (i := i - pre.length) (by omega)
  have ey' := at_mid e (i := j - pre.length) (by omega)
  rw [show pre.length + (i - pre.length) = i by omega, ex] at ex'
  rw [show pre.length + (j - pre.length) = j by omega, ey] at ey'
  have bu : (B.toArray).toList.Pairwise o.le := by simpa using ub
  exact up_at (u := B.toArray) bu (i := i - pre.length) (j := j - pre.length) (by omega) (by simpa using ex'.symm) (by simpa using ey'.symm)
def mAt : Nat → StateT SortSt Sem Bool := sortPriv% PySem.Builtin.mergeAt
theorem mAt_eq (i : Nat) : mAt i = (do
    let st ← get
    let (some (p, n, pw), some (q, m, _)) := ((pendingOf st)[i]?, (pendingOf st)[i + 1]?) | unsupported "internal:list.sort.pending"
    set (SortSt.mk' (kindOf st) (arrOf st) (((pendingOf st).setIfInBounds i (p, n + m, pw)).eraseIdxIfInBounds (i + 1)) (gallopOf st) (failedOf st))
    let some k ← gal false (← elem' (arrOf st) q) (arrOf st) p n 0 | return false
    let (p, n) := (p + k, n - k)
    if n == 0 then return true
    let some m ← gal true (← elem' (arrOf st) (p + n - 1)) (arrOf st) q m (m - 1) | return false
    if m == 0 then return true
    let x := (arrOf st).extract p q
    let y := (arrOf st).extract q (q + m)
    let z ← if n ≤ m then mlo x y else mhi x y
    modify fun st => setArr st (z.toList.zipIdx.foldl (fun a (pj : Keyed × Nat) => a.setIfInBounds (p + pj.2) pj.1) (arrOf st))
    return (failedOf (← get)).isNone) := rfl
end
end BF
namespace BF
open PySem PyProof.Rows
section
variable {M : Model} {A : Around} {E : Value → Shared → Prop} {s : Shared} {kd : SortKind} {o : Ord M A E s kd}
theorem wpS_set {σ : Type} {st st2 : σ} {Q : PUnit → σ → Prop} (h : Q ⟨⟩ st2) : wpS M A E s (set st2 : StateT σ Sem PUnit) Q st := by
  unfold wpS; rw [StateT.run_set]; exact wpAny_pure ⟨rfl, h⟩
theorem mem_ix {l : List Keyed} {x : Keyed} (h : x ∈ l) : ∃ i, i < l.length ∧ l[i]? = some x := by
  obtain ⟨i, e⟩ := List.mem_iff_getElem?.mp h
  exact ⟨i, (List.getElem?_eq_some_iff.mp e).1, e⟩
theorem wpS_mAt {st : SortSt} {i : Nat} {Q : Bool → SortSt → Prop} {pre B C post : List Keyed} {P1 P2 : List (Nat × Nat × Nat)} {pw pw2 : Nat} (hk : kindOf st = kd) (hf : failedOf st = none) (ga : o.all (arrOf st))
    (e : (arrOf st).toList = pre ++ B ++ C ++ post) (uB : B.Pairwise o.le) (uC : C.Pairwise o.le) (hB : 0 < B.length) (hC : 0 < C.length)
    (ep : (pendingOf st).toList = P1 ++ (pre.length, B.length, pw) :: (pre.length + B.length, C.length, pw2) :: P2) (hi : i = P1.length)
    (h : ∀ st' D, kindOf st' = kd → failedOf st' = none → (arrOf st').toList = pre ++ D ++ post → D.Pairwise o.le → D.Perm (B ++ C) → (pendingOf st').toList = P1 ++ (pre.length, B.length + C.length, pw) :: P2 → Q true st') :
    wpS M A E s (mAt i) Q st := by
  subst hi
  have g1 : (pendingOf st)[P1.length]? = some (pre.length, B.length, pw) := by
    rw [← Array.getElem?_toList, ep]; simp
  have g2 : (pendingOf st)[P1.length + 1]? = some (pre.length + B.length, C.length, pw2) := by
    rw [← Array.getElem?_toList, ep, List.getElem?_append_right (by omega)]; simp
  rw [mAt_eq]
  refine wpS_bind (wpS_get ?_)
  rw [g1, g2]
  dsimp only
  refine wpS_bind (wpS_set ?_)
  have pp : (((pendingOf st).setIfInBounds P1.length (pre.length, B.length + C.length, pw)).eraseIdxIfInBounds (P1.length + 1)).toList = P1 ++ (pre.length, B.length + C.length, pw) :: P2 := by
    rw [Array.toList_eraseIdxIfInBounds, Array.toList_setIfInBounds, ep, List.set_append_right _ _ (Nat.le_refl _), Nat.sub_self, List.set_cons_zero, List.eraseIdx_append_of_length_le (by omega), Nat.add_sub_cancel_left]
    rfl
  have eB : (arrOf st).toList = pre ++ B ++ (C ++ post) := by rw [e]; simp
  have eC : (arrOf st).toList = (pre ++ B) ++ C ++ post := e
  have lB : (pre ++ B).length = pre.length + B.length := by simp
  have sz := size_mid e
  simp only [List.length_append] at sz
  have aB : ∀ j, j < B.length → (arrOf st)[pre.length + j]? = B[j]? := fun j hj => at_mid eB hj
  have aC : ∀ j, j < C.length → (arrOf st)[pre.length + B.length + j]? = C[j]? := fun j hj => by have := at_mid eC hj; rwa [lB] at this
  have gB : ∀ x ∈ B, o.G x := fun x hx => by
    obtain ⟨j, hj, ej⟩ := mem_ix hx
    exact ga _ x ((aB j hj).trans ej)
  have gC : ∀ x ∈ C, o.G x := fun x hx => by
    obtain ⟨j, hj, ej⟩ := mem_ix hx
    exact ga _ x ((aC j hj).trans ej)
  obtain ⟨c0, ec0⟩ : ∃ c, C[0]? = some c := ⟨C[0], List.getElem?_eq_getElem hC⟩
  have ac0 : (arrOf st)[pre.length + B.length]? = some c0 := by have := aC 0 hC; rw [Nat.add_zero] at this; rw [this, ec0]
  have c0C : ∀ c ∈ C, o.le c0 c := fun c hc => head_le (u := C.toArray) (by simpa using uC) (p := 0) (x := c0) (by simpa using ec0) c (by simpa using hc)
  refine wpS_bind (wpS_elem ac0 ?_)
  refine wpS_bind (wpS_gal o (by exact hk) (gC _ (List.mem_of_getElem? ec0)) ga (by omega) hB (up_mid eB uB) fun k hkn k1 k2 => ?_)
  have lo1 : ∀ x ∈ B.take k, o.le x c0 := fun x hx => by
    obtain ⟨j, hj, ej⟩ := mem_ix hx
    rw [List.length_take] at hj
    rw [List.getElem?_take, if_pos (by omega)] at ej
    have z := k1 j x (by omega) ((aB j (by omega)).trans ej)
    have z' : o.b c0 x = false := by simpa [Ord.byB] using z
    exact o.le_of_nb z'
  have hi1 : ∀ x ∈ B.drop k, o.le c0 x := fun x hx => by
    obtain ⟨j, hj, ej⟩ := mem_ix hx
    rw [List.length_drop] at hj
    rw [List.getElem?_drop] at ej
    have z := k2 (k + j) x (by omega) (by omega) ((aB (k + j) (by omega)).trans ej)
    exact o.le_of_b (by simpa [Ord.byB] using z)
  dsimp only
  by_cases hn : B.length - k = 0
  · rw [if_pos (by simpa using hn)]
    refine wpS_pure (h _ (B ++ C) hk hf (by rw [e]; simp) (List.pairwise_append.mpr ⟨uB, uC, fun x hx y hy => ?_⟩) (List.Perm.refl _) pp)
    rw [← List.take_of_length_le (show B.length ≤ k by omega)] at hx
    exact o.le_trans (lo1 x hx) (c0C y hy)
  · rw [if_neg (by simpa using hn)]
    obtain ⟨bl, ebl⟩ : ∃ b, B[B.length - 1]? = some b := ⟨B[B.length - 1], List.getElem?_eq_getElem (by omega)⟩
    have abl : (arrOf st)[pre.length + k + (B.length - k) - 1]? = some bl := by
      rw [show pre.length + k + (B.length - k) - 1 = pre.length + (B.length - 1) by omega, aB _ (by omega), ebl]
    have Bbl : ∀ b ∈ B, o.le b bl := fun b hb => last_ge (u := B.toArray) (by simpa using uB) (p := B.length) (x := bl) (by simpa using ebl) b (by simpa using hb)
    refine wpS_bind (wpS_elem abl ?_)
    have upC := up_mid eC uC
    rw [lB] at upC
    refine wpS_bind (wpS_gal o (by exact hk) (gB _ (List.mem_of_getElem? ebl)) ga (by omega) (by omega) upC fun m hmn m1 m2 => ?_)
    have lo2 : ∀ x ∈ C.take m, o.le x bl := fun x hx => by
      obtain ⟨j, hj, ej⟩ := mem_ix hx
      rw [List.length_take] at hj
      rw [List.getElem?_take, if_pos (by omega)] at ej
      exact o.le_of_b (m1 j x (by omega) ((aC j (by omega)).trans ej))
    have hi2 : ∀ x ∈ C.drop m, o.le bl x := fun x hx => by
      obtain ⟨j, hj, ej⟩ := mem_ix hx
      rw [List.length_drop] at hj
      rw [List.getElem?_drop] at ej
      exact o.le_of_nb (m2 (m + j) x (by omega) (by omega) ((aC (m + j) (by omega)).trans ej))
    dsimp only
    by_cases hm : m = 0
    · rw [if_pos (by simpa using hm)]
      subst hm
      refine wpS_pure (h _ (B ++ C) hk hf (by rw [e]; simp) (List.pairwise_append.mpr ⟨uB, uC, fun x hx y hy => ?_⟩) (List.Perm.refl _) pp)
      exact o.le_trans (Bbl x hx) (hi2 y (by simpa using hy))
    · rw [if_neg (by simpa using hm)]
      generalize hX : (arrOf st).extract (pre.length + k) (pre.length + B.length) = X
      generalize hY : (arrOf st).extract (pre.length + B.length) (pre.length + B.length + m) = Y
      have lX : X.toList = B.drop k := by
        rw [← hX, xd, eB, ← lB, List.take_left, List.drop_append, List.drop_eq_nil_of_le (by omega), Nat.add_sub_cancel_left, List.nil_append]
      have lY : Y.toList = C.take m := by
        rw [← hY, xk, eC, ← lB, List.append_assoc, List.drop_left, List.take_append_of_le_length (by omega)]
      have szX : X.size = B.length - k := by rw [size_mid lX, List.length_drop]
      have szY : Y.size = m := by rw [size_mid lY, List.length_take]; omega
      have gX : o.all X := fun i x ex => gB x (List.mem_of_mem_drop (by rw [← lX]; exact Array.mem_toList_iff.mpr (Array.mem_of_getElem? ex)))
      have gY : o.all Y := fun i x ex => gC x (List.mem_of_mem_take (by rw [← lY]; exact Array.mem_toList_iff.mpr (Array.mem_of_getElem? ex)))
      have uX : X.toList.Pairwise o.le := by rw [lX]; exact uB.sublist (List.drop_sublist _ _)
      have uY : Y.toList.Pairwise o.le := by rw [lY]; exact uC.sublist (List.take_sublist _ _)
      have p1 : ∀ x y, Y[0]? = some x → y ∈ X.toList → o.le x y := fun x y ex hy => by
        have : x = c0 := by
          have e1 : Y.toList[0]? = some x := by simpa using ex
          rw [lY, List.getElem?_take, if_pos (by omega), ec0] at e1
          exact (Option.some.inj e1).symm
        rw [this]
        exact hi1 y (by rw [← lX]; exact hy)
      have p2 : ∀ x y, x ∈ Y.toList → X[X.size - 1]? = some y → o.le x y := fun x y hx ey => by
        have : y = bl := by
          have e1 : X.toList[X.size - 1]? = some y := by simpa using ey
          rw [lX, List.getElem?_drop, szX, show k + (B.length - k - 1) = B.length - 1 by omega, ebl] at e1
          exact (Option.some.inj e1).symm
        rw [this]
        exact lo2 x (by rw [← lY]; exact hx)
      have fin : ∀ (st' : SortSt) (out : Array Keyed), kindOf st' = kd → arrOf st' = arrOf st → (pendingOf st').toList = P1 ++ (pre.length, B.length + C.length, pw) :: P2 → failedOf st' = none → o.Merged X.toList Y.toList out.toList →
          wpS M A E s (do modify fun st => setArr st (out.toList.zipIdx.foldl (fun a (pj : Keyed × Nat) => a.setIfInBounds (pre.length + k + pj.2) pj.1) (arrOf st)); return (failedOf (← get)).isNone) Q st' := fun st' out hk' ha' hp' hf' hm' => by
        refine wpS_bind (wpS_modify (wpS_bind (wpS_get ?_)))
        have hm1 := hm'.1
        rw [lX, lY] at hm1
        have szO : out.size = B.length - k + m := by
          have := hm1.length_eq
          rw [Array.length_toList, List.length_append, List.length_drop, List.length_take] at this
          omega
        have ef : (failedOf (setArr st' (out.toList.zipIdx.foldl (fun a (pj : Keyed × Nat) => a.setIfInBounds (pre.length + k + pj.2) pj.1) (arrOf st')))).isNone = true := by
          show (failedOf st').isNone = true
          rw [hf']; rfl
        rw [ef]
        refine wpS_pure (h _ (B.take k ++ out.toList ++ C.drop m) hk' hf' ?_ ?_ ?_ hp')
        · show (out.toList.zipIdx.foldl (fun a (pj : Keyed × Nat) => a.setIfInBounds (pre.length + k + pj.2) pj.1) (arrOf st')).toList = _
          rw [ha', splice _ _ _ (by rw [szO]; omega), szO]
          have t1 : (arrOf st).toList.take (pre.length + k) = pre ++ B.take k := by
            rw [eB, List.append_assoc, List.take_append, List.take_of_length_le (by omega), Nat.add_sub_cancel_left, List.take_append_of_le_length (by omega)]
          have t2 : (arrOf st).toList.drop (pre.length + k + (B.length - k + m)) = C.drop m ++ post := by
            rw [eC, List.append_assoc, List.drop_append, List.drop_eq_nil_of_le (by omega), lB, show pre.length + k + (B.length - k + m) - (pre.length + B.length) = m by omega, List.nil_append, List.drop_append_of_le_length (by omega)]
          rw [t1, t2]
          simp
        · have inO : ∀ x ∈ out.toList, x ∈ B.drop k ∨ x ∈ C.take m := fun x hx => List.mem_append.mp (hm1.mem_iff.mp hx)
          have uB' := uB
          rw [← List.take_append_drop k B] at uB'
          have uC' := uC
          rw [← List.take_append_drop m C] at uC'
          refine List.pairwise_append.mpr ⟨List.pairwise_append.mpr ⟨uB.sublist (List.take_sublist _ _), hm'.2, fun x hx y hy => ?_⟩, uC.sublist (List.drop_sublist _ _), fun x hx y hy => ?_⟩
          · rcases inO y hy with z | z
            · exact (List.pairwise_append.mp uB').2.2 x hx y z
            · exact o.le_trans (lo1 x hx) (c0C y (List.mem_of_mem_take z))
          · rcases List.mem_append.mp hx with hx | hx
            · exact o.le_trans (Bbl x (List.mem_of_mem_take hx)) (hi2 y hy)
            · rcases inO x hx with z | z
              · exact o.le_trans (Bbl x (List.mem_of_mem_drop z)) (hi2 y hy)
              · exact (List.pairwise_append.mp uC').2.2 x z y hy
        · refine ((List.Perm.append_left _ hm1).append_right _).trans ?_
          rw [← List.append_assoc, List.take_append_drop, List.append_assoc, List.take_append_drop]
      by_cases hnm : B.length - k ≤ m
      · rw [if_pos hnm]
        refine wpS_bind (wpS_mlo ⟨gX, gY, uX, uY, p2⟩ (by exact hk) (by omega) (by omega) p1 fun st' out gs mg => ?_)
        exact fin st' out (gs.k.trans hk) gs.a (by rw [gs.p]; exact pp) (gs.f.trans hf) mg
      · rw [if_neg hnm]
        refine wpS_bind (wpS_mhi ⟨gX, gY, uX, uY, p1⟩ (by exact hk) (by omega) (by omega) p2 fun st' out gs mg => ?_)
        exact fin st' out (gs.k.trans hk) gs.a (by rw [gs.p]; exact pp) (gs.f.trans hf) mg
end
end BF
namespace BF
open PySem PyProof.Rows
section
variable {M : Model} {A : Around} {E : Value → Shared → Prop} {s : Shared} {kd : SortKind} {o : Ord M A E s kd}
structure As (lo : Nat) (st st' : SortSt) : Prop where
  k : kindOf st' = kindOf st
  p : pendingOf st' = pendingOf st
  f : failedOf st' = failedOf st
  perm : (arrOf st').Perm (arrOf st)
  pre : ∀ j, j < lo → (arrOf st')[j]? = (arrOf st)[j]?
theorem As.refl (lo : Nat) (st : SortSt) : As lo st st := ⟨rfl, rfl, rfl, .refl _, fun _ _ => rfl⟩
theorem As.arr {lo : Nat} {st st' : SortSt} (h : As lo st st') {xs : Array Keyed} (hp : xs.Perm (arrOf st')) (hq : ∀ j, j < lo → xs[j]? = (arrOf st')[j]?) : As lo st (setArr st' xs) :=
  ⟨h.k, h.p, h.f, hp.trans h.perm, fun j hj => (hq j hj).trans (h.pre j hj)⟩
theorem As.all {lo : Nat} {st st' : SortSt} (h : As lo st st') (ga : o.all (arrOf st)) : o.all (arrOf st') := fun i x e => by
  have : x ∈ (arrOf st') := Array.mem_of_getElem? e
  have : x ∈ (arrOf st) := h.perm.mem_iff.mp this
  obtain ⟨j, e2⟩ := Array.getElem?_of_mem this
  exact ga j x e2
theorem As.size {lo : Nat} {st st' : SortSt} (h : As lo st st') : (arrOf st').size = (arrOf st).size := h.perm.size_eq
theorem wpS_ltA {st : SortSt} {i j : Nat} {x y : Keyed} {Q : Option Bool → SortSt → Prop} (hk : kindOf st = kd) (ga : o.all (arrOf st)) (ex : (arrOf st)[i]? = some x) (ey : (arrOf st)[j]? = some y) (h : Q (some (o.b x y)) st) : wpS M A E s (ltAt' i j) Q st := by
  rw [ltAt'_eq]
  refine wpS_bind (wpS_get ?_)
  exact wpS_bind (wpS_elem ex (wpS_bind (wpS_elem ey (o.lt hk (ga _ _ ex) (ga _ _ ey) h))))
def bsort : Nat → Nat → Nat → StateT SortSt Sem Bool := sortPriv% PySem.Builtin.binarySort
theorem bsort_eq (lo n ok : Nat) : bsort lo n ok = (do
    for t in [max ok 1 : n] do
      let mut a := 0
      let mut b := t
      for _ in [0:t] do
        if a ≥ b then break
        let some less ← ltAt' (lo + t) (lo + (a + b) / 2) | return false
        if less then b := (a + b) / 2 else a := (a + b) / 2 + 1
      moveDown' (lo + t) (lo + a)
    return true) := rfl
theorem wpS_bsort {st : SortSt} {lo n ok : Nat} {Q : Bool → SortSt → Prop} (hk : kindOf st = kd) (ga : o.all (arrOf st)) (hn : lo + n ≤ (arrOf st).size) (hok : ok ≤ n) (hs : o.up (arrOf st) lo (lo + ok))
    (h : ∀ st', As lo st st' → o.up (arrOf st') lo (lo + n) → Q true st') : wpS M A E s (bsort lo n ok) Q st := by
  rw [bsort_eq]
  refine wpS_bind (wpS_mono (wpS_forRange (I := fun t c st' => c = (none, ()) ∧ As lo st st' ∧ o.up (arrOf st') lo (lo + min t n)) (Q := fun c st' => c = (none, ()) ∧ As lo st st' ∧ o.up (arrOf st') lo (lo + n)) ?step ?fin ?init) ?post)
  case post =>
    rintro c st' ⟨rfl, h1, h2⟩
    exact wpS_pure (h st' h1 h2)
  case init =>
    refine ⟨rfl, .refl _ _, fun i j x y h1 h2 h3 ex ey => ?_⟩
    by_cases hz : ok = 0
    · have : i = j := by omega
      subst this
      rw [ex] at ey
      cases ey
      exact o.le_refl _
    · exact hs i j x y h1 h2 (by omega) ex ey
  case fin =>
    rintro c st' ⟨hc, h1, h2⟩
    refine ⟨hc, h1, ?_⟩
    rwa [show min (max (max ok 1) n) n = n by omega] at h2
  case step =>
    rintro t c st' h1 h2 ⟨rfl, hA, hU⟩
    rw [show min t n = t by omega] at hU
    have hk' : kindOf st' = kd := hA.k.trans hk
    have ga' := hA.all ga
    have hsz := hA.size
    obtain ⟨x, ex⟩ := at_lt (u := arrOf st') (p := lo + t) (by omega)
    refine wpS_bind (wpS_mono (wpS_forRange (I := fun z c st'' => st'' = st' ∧ ∃ a b, c = (none, a, b) ∧ a ≤ b ∧ b ≤ t ∧ b - a ≤ t - z ∧ (∀ i y, i < a → (arrOf st')[lo + i]? = some y → o.le y x) ∧ (∀ i y, b ≤ i → i < t → (arrOf st')[lo + i]? = some y → o.b x y = true))
      (Q := fun c st'' => st'' = st' ∧ ∃ a, c = (none, a, a) ∧ a ≤ t ∧ (∀ i y, i < a → (arrOf st')[lo + i]? = some y → o.le y x) ∧ (∀ i y, a ≤ i → i < t → (arrOf st')[lo + i]? = some y → o.b x y = true)) ?istep ?ifin ⟨rfl, 0, t, rfl, by omega, by omega, by omega, fun i y hi => by omega, fun i y p q => by omega⟩) ?ipost)
    case ifin =>
      rintro c st'' ⟨rfl, a, b, rfl, h3, h4, h5, a1, a2⟩
      have : a = b := by omega
      subst this
      exact ⟨rfl, a, rfl, h4, a1, a2⟩
    case istep =>
      rintro z c st'' _ hz ⟨rfl, a, b, rfl, h3, h4, h5, a1, a2⟩
      dsimp only
      by_cases hge : a ≥ b
      · rw [if_pos hge]
        have : a = b := by omega
        subst this
        exact wpS_pure ⟨rfl, a, rfl, h4, a1, a2⟩
      · rw [if_neg hge]
        obtain ⟨y, ey⟩ := at_lt (u := arrOf st'') (p := lo + (a + b) / 2) (by omega)
        refine wpS_bind (wpS_ltA hk' ga' ex ey ?_)
        cases hb : o.b x y with
        | true =>
          refine wpS_pure ⟨rfl, a, (a + b) / 2, rfl, by omega, by omega, by omega, a1, fun i y' hi hi2 ey' => ?_⟩
          exact o.b_le hb (hU _ _ y y' (by omega) (by omega) (by omega) ey ey')
        | false =>
          refine wpS_pure ⟨rfl, (a + b) / 2 + 1, b, rfl, by omega, by omega, by omega, fun i y' hi ey' => ?_, a2⟩
          exact o.le_trans (hU _ _ y' y (by omega) (by omega) (by omega) ey' ey) (o.le_of_nb hb)
    case ipost =>
      rintro c st'' ⟨rfl, a, rfl, h3, a1, a2⟩
      show wpS _ _ _ _ (do moveDown' (lo + t) (lo + a); pure (ForInStep.yield (none, ()))) _ _
      rw [moveDown'_eq]
      have hb := getElem?_bubble (xs := arrOf st'') (src := lo + t) (by omega) (lo + t - (lo + a)) (by omega)
      rw [show lo + t - (lo + t - (lo + a)) = lo + a by omega] at hb
      refine wpS_bind (wpS_modify (wpS_pure ⟨rfl, hA.arr (bubble_perm _ _ _) fun j hj => ?_, ?_⟩))
      · rw [hb j, if_neg (by omega), if_neg (by omega)]
      · rw [show min (t + 1) n = t + 1 by omega]
        intro i j p q h5 h6 h7 ep eq
        have ep' : (bubble (arrOf st'') (lo + t) (lo + t - (lo + a)))[i]? = some p := ep
        have eq' : (bubble (arrOf st'') (lo + t) (lo + t - (lo + a)))[j]? = some q := eq
        rw [hb i] at ep'
        rw [hb j] at eq'
        by_cases c1 : i = lo + a
        · rw [if_pos c1] at ep'
          rw [ex] at ep'
          cases ep'
          by_cases c2 : j = lo + a
          · rw [if_pos c2, ex] at eq'
            cases eq'
            exact o.le_refl _
          · rw [if_neg c2, if_pos (by omega)] at eq'
            exact o.le_of_b (a2 (j - 1 - lo) q (by omega) (by omega) (by rw [show lo + (j - 1 - lo) = j - 1 by omega]; exact eq'))
        · rw [if_neg c1] at ep'
          by_cases c3 : lo + a < i ∧ i ≤ lo + t
          · rw [if_pos c3] at ep'
            rw [if_neg (by omega), if_pos (by omega)] at eq'
            exact hU _ _ p q (by omega) (by omega) (by omega) ep' eq'
          · rw [if_neg c3] at ep'
            by_cases c2 : j = lo + a
            · rw [if_pos c2, ex] at eq'
              cases eq'
              exact a1 (i - lo) p (by omega) (by rw [show lo + (i - lo) = i by omega]; exact ep')
            · rw [if_neg c2] at eq'
              by_cases c4 : lo + a < j ∧ j ≤ lo + t
              · rw [if_pos c4] at eq'
                exact hU _ _ p q (by omega) (by omega) (by omega) ep' eq'
              · rw [if_neg c4] at eq'
                exact hU _ _ p q (by omega) (by omega) (by omega) ep' eq'
def crun : Nat → Nat → StateT SortSt Sem (Option Nat) := sortPriv% PySem.Builtin.countRun
theorem crun_eq (lo left : Nat) : crun lo left = (do
    let mut n := 1
    for _ in [1:left] do
      let some less ← ltAt' (lo + n) (lo + n - 1) | return none
      if less then break
      n := n + 1
    if n == left then return some n
    if n > 1 then
      let some rose ← ltAt' lo (lo + n - 1) | return none
      if rose then return some n
      reverseSlice' lo (lo + n)
    rule "list.sort.descending-run"
    n := n + 1
    let mut same := 0
    for _ in [n:left] do
      let some less ← ltAt' (lo + n) (lo + n - 1) | return none
      if less then
        if same > 0 then reverseSlice' (lo + n - (same + 1)) (lo + n)
        same := 0
      else
        let some more ← ltAt' (lo + n - 1) (lo + n) | return none
        if more then break
        same := same + 1
      n := n + 1
    if same > 0 then reverseSlice' (lo + n - (same + 1)) (lo + n)
    reverseSlice' lo (lo + n)
    for _ in [n:left] do
      let some less ← ltAt' (lo + n) (lo + n - 1) | return none
      if less then break
      n := n + 1
    return some n) := rfl
end
end BF
namespace BF
open PySem PyProof.Rows
section
def cr3 (lo left n : Nat) : StateT SortSt Sem (Option Nat) := do
  let mut n := n
  for _ in [n:left] do
    let some less ← ltAt' (lo + n) (lo + n - 1) | return none
    if less then break
    n := n + 1
  return some n
def cr2b (lo left n : Nat) : StateT SortSt Sem (Option Nat) := do
  reverseSlice' lo (lo + n)
  cr3 lo left n
def cr2a (lo left n same : Nat) : StateT SortSt Sem (Option Nat) :=
  if same > 0 then do
    reverseSlice' (lo + n - (same + 1)) (lo + n)
    cr2b lo left n
  else cr2b lo left n
abbrev CT := Option (Option Nat) × Nat × Nat
def cr2s (lo : Nat) (t : CT) : StateT SortSt Sem (ForInStep CT) := do
  match ← ltAt' (lo + t.2.1) (lo + t.2.1 - 1) with
  | some less =>
    if less then
      if t.2.2 > 0 then do
        reverseSlice' (lo + t.2.1 - (t.2.2 + 1)) (lo + t.2.1)
        pure (.yield (none, t.2.1 + 1, 0))
      else pure (.yield (none, t.2.1 + 1, 0))
    else do
      match ← ltAt' (lo + t.2.1 - 1) (lo + t.2.1) with
      | some more => if more then pure (.done (none, t.2.1, t.2.2)) else pure (.yield (none, t.2.1 + 1, t.2.2 + 1))
      | _ => pure (.done (some none, t.2.1, t.2.2))
  | _ => pure (.done (some none, t.2.1, t.2.2))
def cr2 (lo left n : Nat) : StateT SortSt Sem (Option Nat) := do
  rule "list.sort.descending-run"
  let t ← forIn [n + 1:left] ((none, n + 1, 0) : CT) (fun _ t => cr2s lo t)
  match t.1 with
  | some z => pure z
  | none => cr2a lo left t.2.1 t.2.2
def cr1 (lo left n : Nat) : StateT SortSt Sem (Option Nat) :=
  if n == left then pure (some n)
  else if n > 1 then do
    match ← ltAt' lo (lo + n - 1) with
    | some rose => if rose then pure (some n) else do
      reverseSlice' lo (lo + n)
      cr2 lo left n
    | _ => pure none
  else cr2 lo left n
theorem crun_fac (lo left : Nat) : crun lo left = (do
    let t ← forIn [1:left] ((none, 1) : Option (Option Nat) × Nat) (fun _ t => do
      match ← ltAt' (lo + t.2) (lo + t.2 - 1) with
      | some less => if less then pure (.done (none, t.2)) else pure (.yield (none, t.2 + 1))
      | _ => pure (.done (some none, t.2)))
    match t.1 with
    | some z => pure z
    | none => cr1 lo left t.2) := by
  rw [crun_eq]
  dsimp only [cr1, cr2, cr2s, cr2a, cr2b, cr3]
  refine bind2 (congrArg (forIn _ _) (funext fun x => funext fun t => ?_)) (funext fun t => ?_)
  · refine bind_congr fun z => ?_
    cases z <;> with_reducible rfl
  · obtain ⟨z, n⟩ := t
    cases z with
    | some z => with_reducible rfl
    | none =>
      dsimp only
      refine ite_congr rfl (fun _ => rfl) fun _ => ite_congr rfl (fun _ => ?_) (fun _ => ?_)
      · refine bind_congr fun z => ?_
        cases z with
        | none => with_reducible rfl
        | some z =>
          dsimp only
          refine ite_congr rfl (fun _ => rfl) fun _ => bind_congr fun _ => bind_congr fun _ => ?_
          refine bind2 (congrArg (forIn _ _) (funext fun x => funext fun t => ?_)) (funext fun t => ?_)
          · refine bind_congr fun z => ?_
            cases z with
            | none => with_reducible rfl
            | some z =>
              first
                | (dsimp only; done)
                | (dsimp only; refine ite_congr rfl (fun _ => rfl) fun _ => bind_congr fun z => ?_; cases z <;> first | with_reducible rfl | rfl)
          · obtain ⟨z, t⟩ := t
            cases z <;> first | with_reducible rfl | rfl
      · refine bind_congr fun _ => ?_
        refine bind2 (congrArg (forIn _ _) (funext fun x => funext fun t => ?_)) (funext fun t => ?_)
        · refine bind_congr fun z => ?_
          cases z with
          | none => with_reducible rfl
          | some z =>
            first
              | (dsimp only; done)
              | (dsimp only; refine ite_congr rfl (fun _ => rfl) fun _ => bind_congr fun z => ?_; cases z <;> first | with_reducible rfl | rfl)
        · obtain ⟨z, t⟩ := t
          cases z <;> first | with_reducible rfl | rfl
end
end BF
namespace BF
open PySem PyProof.Rows
section
variable {M : Model} {A : Around} {E : Value → Shared → Prop} {s : Shared} {kd : SortKind} {o : Ord M A E s kd}
def Ord.dn (o : Ord M A E s kd) (xs : Array Keyed) (lo hi : Nat) : Prop := ∀ i j x y, lo ≤ i → i ≤ j → j < hi → xs[i]? = some x → xs[j]? = some y → o.le y x
def Ord.eqs (o : Ord M A E s kd) (xs : Array Keyed) (a b : Nat) : Prop := ∀ i j x y, a ≤ i → i < b → a ≤ j → j < b → xs[i]? = some x → xs[j]? = some y → o.le x y
abbrev rv (xs : Array Keyed) (i j : Nat) : Array Keyed := mirror xs i j ((j - i) / 2)
theorem rv_at {xs : Array Keyed} {i j : Nat} (h : j ≤ xs.size) (k : Nat) : (rv xs i j)[k]? = if i ≤ k ∧ k < j then xs[i + j - 1 - k]? else xs[k]? := getElem?_mirror_all h k
theorem up_rv {xs : Array Keyed} {lo hi : Nat} (h : hi ≤ xs.size) (d : o.dn xs lo hi) : o.up (rv xs lo hi) lo hi := fun i j x y h1 h2 h3 ex ey => by
  rw [rv_at h, if_pos (by omega)] at ex ey
  exact d _ _ y x (by omega) (by omega) (by omega) ey ex
theorem dn_rv {xs : Array Keyed} {lo a hi : Nat} (h : hi ≤ xs.size) (ha : lo ≤ a) (d : o.dn xs lo hi) (q : o.eqs xs a hi) : o.dn (rv xs a hi) lo hi := fun i j x y h1 h2 h3 ex ey => by
  rw [rv_at h] at ex ey
  by_cases c1 : a ≤ i
  · rw [if_pos (by omega)] at ex ey
    exact q _ _ y x (by omega) (by omega) (by omega) (by omega) ey ex
  · rw [if_neg (by omega)] at ex
    by_cases c2 : a ≤ j
    · rw [if_pos (by omega)] at ey
      exact d _ _ x y h1 (by omega) (by omega) ex ey
    · rw [if_neg (by omega)] at ey
      exact d _ _ x y h1 h2 h3 ex ey
theorem wpS_rev {st : SortSt} {i j : Nat} {Q : Unit → SortSt → Prop} (h : Q () (setArr st (rv (arrOf st) i j))) : wpS M A E s (reverseSlice' i j) Q st := by
  rw [reverseSlice'_eq]; exact wpS_modify h
theorem As.rv {lo a b : Nat} {st st' : SortSt} (h : As lo st st') (hb : b ≤ (arrOf st').size) (ha : lo ≤ a) : As lo st (setArr st' (BF.rv (arrOf st') a b)) :=
  h.arr (mirror_perm _ _ _ _) fun j hj => by rw [rv_at hb, if_neg (by omega)]
variable {st st' : SortSt} {lo left n : Nat} {Q : Option Nat → SortSt → Prop}
theorem up_more {xs : Array Keyed} (h1 : 1 ≤ n) (u : o.up xs lo (lo + n)) {x y : Keyed} (ex : xs[lo + n]? = some x) (ey : xs[lo + n - 1]? = some y) (hle : o.le y x) : o.up xs lo (lo + (n + 1)) := fun i j a b h2 h3 h4 ea eb => by
  by_cases c : j = lo + n
  · subst c
    rw [ex] at eb
    cases eb
    by_cases c2 : i = lo + n
    · subst c2
      rw [ex] at ea
      cases ea
      exact o.le_refl _
    · exact o.le_trans (u i (lo + n - 1) a y h2 (by omega) (by omega) ea ey) hle
  · exact u i j a b h2 h3 (by omega) ea eb
theorem wpS_cr3 (hk : kindOf st = kd) (ga : o.all (arrOf st)) (hA : As lo st st') (hsz : lo + left ≤ (arrOf st).size) (h1 : 1 ≤ n) (hn : n ≤ left) (u : o.up (arrOf st') lo (lo + n))
    (h : ∀ m st2, As lo st st2 → 1 ≤ m → m ≤ left → o.up (arrOf st2) lo (lo + m) → Q (some m) st2) : wpS M A E s (cr3 lo left n) Q st' := by
  unfold cr3
  have sz := hA.size
  refine wpS_bind (wpS_mono (wpS_forRange (I := fun t c st2 => st2 = st' ∧ c = (none, t) ∧ t ≤ left ∧ 1 ≤ t ∧ o.up (arrOf st') lo (lo + t)) (Q := fun c st2 => st2 = st' ∧ ∃ t, c = (none, t) ∧ t ≤ left ∧ 1 ≤ t ∧ o.up (arrOf st') lo (lo + t)) ?step ?fin ⟨rfl, rfl, hn, h1, u⟩) ?post)
  case fin =>
    rintro c st2 ⟨rfl, rfl, h2, h3, h4⟩
    exact ⟨rfl, _, rfl, h2, h3, h4⟩
  case post =>
    rintro c st2 ⟨rfl, t, rfl, h2, h3, h4⟩
    exact wpS_pure (h t _ hA h3 h2 h4)
  case step =>
    rintro t c st2 _ ht ⟨rfl, rfl, h2, h3, h4⟩
    obtain ⟨x, ex⟩ := at_lt (u := arrOf st2) (p := lo + t) (by omega)
    obtain ⟨y, ey⟩ := at_lt (u := arrOf st2) (p := lo + t - 1) (by omega)
    dsimp only
    refine wpS_bind (wpS_ltA (hA.k.trans hk) (hA.all ga) ex ey ?_)
    cases hb : o.b x y with
    | true => exact wpS_pure ⟨rfl, t, rfl, h2, h3, h4⟩
    | false => exact wpS_pure ⟨rfl, rfl, by omega, by omega, up_more h3 h4 ex ey (o.le_of_nb hb)⟩
theorem wpS_cr2b (hk : kindOf st = kd) (ga : o.all (arrOf st)) (hA : As lo st st') (hsz : lo + left ≤ (arrOf st).size) (h1 : 1 ≤ n) (hn : n ≤ left) (d : o.dn (arrOf st') lo (lo + n))
    (h : ∀ m st2, As lo st st2 → 1 ≤ m → m ≤ left → o.up (arrOf st2) lo (lo + m) → Q (some m) st2) : wpS M A E s (cr2b lo left n) Q st' := by
  unfold cr2b
  have sz := hA.size
  exact wpS_bind (wpS_rev (wpS_cr3 hk ga (hA.rv (by omega) (Nat.le_refl _)) hsz h1 hn (up_rv (by omega) d) h))
theorem wpS_cr2a {same : Nat} (hk : kindOf st = kd) (ga : o.all (arrOf st)) (hA : As lo st st') (hsz : lo + left ≤ (arrOf st).size) (hs : same + 1 ≤ n) (hn : n ≤ left) (d : o.dn (arrOf st') lo (lo + n)) (q : o.eqs (arrOf st') (lo + n - (same + 1)) (lo + n))
    (h : ∀ m st2, As lo st st2 → 1 ≤ m → m ≤ left → o.up (arrOf st2) lo (lo + m) → Q (some m) st2) : wpS M A E s (cr2a lo left n same) Q st' := by
  unfold cr2a
  have sz := hA.size
  split
  · exact wpS_bind (wpS_rev (wpS_cr2b hk ga (hA.rv (by omega) (by omega)) hsz (by omega) hn (dn_rv (by omega) (by omega) d q) h))
  · exact wpS_cr2b hk ga hA hsz (by omega) hn d h
theorem dn_more {xs : Array Keyed} (h1 : 1 ≤ n) (d : o.dn xs lo (lo + n)) {x y : Keyed} (ex : xs[lo + n]? = some x) (ey : xs[lo + n - 1]? = some y) (hle : o.le x y) : o.dn xs lo (lo + (n + 1)) := fun i j a b h2 h3 h4 ea eb => by
  by_cases c : j = lo + n
  · subst c
    rw [ex] at eb
    cases eb
    by_cases c2 : i = lo + n
    · subst c2
      rw [ex] at ea
      cases ea
      exact o.le_refl _
    · exact o.le_trans hle (d i (lo + n - 1) a y h2 (by omega) (by omega) ea ey)
  · exact d i j a b h2 h3 (by omega) ea eb
theorem wpS_cr2 (hk : kindOf st = kd) (ga : o.all (arrOf st)) (hA : As lo st st') (hsz : lo + left ≤ (arrOf st).size) (h1 : 1 ≤ n) (hn : n + 1 ≤ left) (d : o.dn (arrOf st') lo (lo + (n + 1)))
    (h : ∀ m st2, As lo st st2 → 1 ≤ m → m ≤ left → o.up (arrOf st2) lo (lo + m) → Q (some m) st2) : wpS M A E s (cr2 lo left n) Q st' := by
  unfold cr2
  refine wpS_bind (wpS_lift (wpAny_rule ⟨rfl, ?_⟩))
  refine wpS_bind (wpS_mono (wpS_forRange (I := fun t c st2 => As lo st st2 ∧ ∃ same, c = (none, t, same) ∧ t ≤ left ∧ same + 1 ≤ t ∧ o.dn (arrOf st2) lo (lo + t) ∧ o.eqs (arrOf st2) (lo + t - (same + 1)) (lo + t))
    (Q := fun c st2 => As lo st st2 ∧ ∃ t same, c = (none, t, same) ∧ t ≤ left ∧ same + 1 ≤ t ∧ o.dn (arrOf st2) lo (lo + t) ∧ o.eqs (arrOf st2) (lo + t - (same + 1)) (lo + t)) ?step ?fin ⟨hA, 0, rfl, hn, by omega, d, ?init⟩) ?post)
  case init =>
    intro i j x y h2 h3 h4 h5 ex ey
    have : i = j := by omega
    subst this
    rw [ex] at ey
    cases ey
    exact o.le_refl _
  case fin =>
    rintro c st2 ⟨hA2, same, rfl, h2, h3, h4, h5⟩
    exact ⟨hA2, _, same, rfl, h2, h3, h4, h5⟩
  case post =>
    rintro c st2 ⟨hA2, t, same, rfl, h2, h3, h4, h5⟩
    exact wpS_cr2a hk ga hA2 hsz h3 h2 h4 h5 h
  case step =>
    rintro t c st2 ht0 ht ⟨hA2, same, rfl, h2, h3, h4, h5⟩
    have sz := hA2.size
    obtain ⟨x, ex⟩ := at_lt (u := arrOf st2) (p := lo + t) (by omega)
    obtain ⟨y, ey⟩ := at_lt (u := arrOf st2) (p := lo + t - 1) (by omega)
    unfold cr2s
    dsimp only
    refine wpS_bind (wpS_ltA (hA2.k.trans hk) (hA2.all ga) ex ey ?_)
    have one : ∀ (zs : Array Keyed), o.eqs zs (lo + (t + 1) - (0 + 1)) (lo + (t + 1)) := fun zs i j p q a1 a2 a3 a4 ep eq => by
      have : i = j := by omega
      subst this
      rw [ep] at eq
      cases eq
      exact o.le_refl _
    cases hb : o.b x y with
    | true =>
      dsimp only
      rw [if_pos rfl]
      split
      · refine wpS_bind (wpS_rev (wpS_pure ⟨hA2.rv (by omega) (by omega), 0, rfl, by omega, by omega, ?_, one _⟩))
        have ex' : (rv (arrOf st2) (lo + t - (same + 1)) (lo + t))[lo + t]? = some x := by rw [rv_at (by omega), if_neg (by omega)]; exact ex
        obtain ⟨y', ey'⟩ := at_lt (u := rv (arrOf st2) (lo + t - (same + 1)) (lo + t)) (p := lo + t - 1) (by rw [mirror_size]; omega)
        refine dn_more (by omega) (dn_rv (by omega) (by omega) h4 h5) ex' ey' ?_
        rw [rv_at (by omega), if_pos (by omega)] at ey'
        exact o.le_trans (o.le_of_b hb) (h5 _ _ y y' (by omega) (by omega) (by omega) (by omega) ey ey')
      · exact wpS_pure ⟨hA2, 0, rfl, by omega, by omega, dn_more (by omega) h4 ex ey (o.le_of_b hb), one _⟩
    | false =>
      dsimp only
      rw [if_neg Bool.false_ne_true]
      refine wpS_bind (wpS_ltA (hA2.k.trans hk) (hA2.all ga) ey ex ?_)
      cases hc : o.b y x with
      | true => exact wpS_pure ⟨hA2, t, same, rfl, h2, h3, h4, h5⟩
      | false =>
        refine wpS_pure ⟨hA2, same + 1, rfl, by omega, by omega, dn_more (by omega) h4 ex ey (o.le_of_nb hc), fun i j p q a1 a2 a3 a4 ep eq => ?_⟩
        have lx : ∀ i p, lo + t - (same + 1) ≤ i → i < lo + (t + 1) → (arrOf st2)[i]? = some p → o.le p x ∧ o.le x p := fun i p b1 b2 e => by
          by_cases c : i = lo + t
          · subst c
            rw [ex] at e
            cases e
            exact ⟨o.le_refl _, o.le_refl _⟩
          · exact ⟨o.le_trans (h5 _ _ p y b1 (by omega) (by omega) (by omega) e ey) (o.le_of_nb hb), o.le_trans (o.le_of_nb hc) (h5 _ _ y p (by omega) (by omega) b1 (by omega) ey e)⟩
        exact o.le_trans (lx i p (by omega) (by omega) ep).1 (lx j q (by omega) (by omega) eq).2
theorem wpS_crun (hk : kindOf st = kd) (ga : o.all (arrOf st)) (hsz : lo + left ≤ (arrOf st).size) (hl : 1 ≤ left)
    (h : ∀ m st2, As lo st st2 → 1 ≤ m → m ≤ left → o.up (arrOf st2) lo (lo + m) → Q (some m) st2) : wpS M A E s (crun lo left) Q st := by
  rw [crun_fac]
  have at0 : ∀ zs : Array Keyed, o.up zs lo (lo + 1) := fun zs i j p q a1 a2 a3 ep eq => by
    have : i = j := by omega
    subst this
    rw [ep] at eq
    cases eq
    exact o.le_refl _
  refine wpS_bind (wpS_mono (wpS_forRange (I := fun t c st2 => st2 = st ∧ c = (none, t) ∧ t ≤ left ∧ 1 ≤ t ∧ o.up (arrOf st) lo (lo + t))
    (Q := fun c st2 => st2 = st ∧ ∃ t, c = (none, t) ∧ t ≤ left ∧ 1 ≤ t ∧ o.up (arrOf st) lo (lo + t) ∧ (t = left ∨ ∃ x y, (arrOf st)[lo + t]? = some x ∧ (arrOf st)[lo + t - 1]? = some y ∧ o.b x y = true)) ?step ?fin ⟨rfl, rfl, hl, by omega, at0 _⟩) ?post)
  case fin =>
    rintro c st2 ⟨rfl, rfl, h2, h3, h4⟩
    exact ⟨rfl, _, rfl, h2, h3, h4, .inl (by omega)⟩
  case step =>
    rintro t c st2 _ ht ⟨rfl, rfl, h2, h3, h4⟩
    obtain ⟨x, ex⟩ := at_lt (u := arrOf st2) (p := lo + t) (by omega)
    obtain ⟨y, ey⟩ := at_lt (u := arrOf st2) (p := lo + t - 1) (by omega)
    dsimp only
    refine wpS_bind (wpS_ltA hk ga ex ey ?_)
    cases hb : o.b x y with
    | true => exact wpS_pure ⟨rfl, t, rfl, h2, h3, h4, .inr ⟨x, y, ex, ey, hb⟩⟩
    | false => exact wpS_pure ⟨rfl, rfl, by omega, by omega, up_more h3 h4 ex ey (o.le_of_nb hb)⟩
  case post =>
    rintro c st2 ⟨rfl, t, rfl, h2, h3, h4, h5⟩
    dsimp only
    unfold cr1
    by_cases c1 : t = left
    · rw [if_pos (by simpa using c1)]
      exact wpS_pure (h t _ (.refl _ _) h3 h2 h4)
    · rw [if_neg (by simpa using c1)]
      rcases h5 with h5 | ⟨x, y, ex, ey, hb⟩
      · exact absurd h5 c1
      · split
        · obtain ⟨z, ez⟩ := at_lt (u := arrOf st2) (p := lo) (by omega)
          refine wpS_bind (wpS_ltA hk ga ez ey ?_)
          cases hr : o.b z y with
          | true => exact wpS_pure (h t _ (.refl _ _) h3 h2 h4)
          | false =>
            refine wpS_bind (wpS_rev (wpS_cr2 hk ga ((As.refl lo st2).rv (by omega) (Nat.le_refl _)) hsz h3 (by omega) ?_ h))
            have all : ∀ i p, lo ≤ i → i < lo + t → (arrOf st2)[i]? = some p → o.le p y ∧ o.le y p := fun i p b1 b2 e =>
              ⟨h4 i (lo + t - 1) p y b1 (by omega) (by omega) e ey, o.le_trans (o.le_of_nb hr) (h4 lo i z p (Nat.le_refl _) b1 b2 ez e)⟩
            have q : o.dn (rv (arrOf st2) lo (lo + t)) lo (lo + t) := fun i j p q a1 a2 a3 ep eq => by
              rw [rv_at (by omega), if_pos (by omega)] at ep eq
              exact o.le_trans (all _ q (by omega) (by omega) eq).1 (all _ p (by omega) (by omega) ep).2
            have ex' : (rv (arrOf st2) lo (lo + t))[lo + t]? = some x := by rw [rv_at (by omega), if_neg (by omega)]; exact ex
            obtain ⟨y', ey'⟩ := at_lt (u := rv (arrOf st2) lo (lo + t)) (p := lo + t - 1) (by rw [mirror_size]; omega)
            refine dn_more h3 q ex' ey' ?_
            rw [rv_at (by omega), if_pos (by omega)] at ey'
            exact o.le_trans (o.le_of_b hb) (all _ y' (by omega) (by omega) ey').2
        · have : t = 1 := by omega
          subst this
          refine wpS_cr2 hk ga (.refl _ _) hsz (Nat.le_refl _) (by omega) (dn_more (Nat.le_refl _) ?_ ex ey (o.le_of_b hb)) h
          intro i j p q a1 a2 a3 ep eq
          have : i = j := by omega
          subst this
          rw [ep] at eq
          cases eq
          exact o.le_refl _
end
end BF
namespace BF
open PySem PyProof.Rows
section
def mrun : Nat → Nat → Nat → Nat := sortPriv% PySem.Builtin.minRun
def pwr : Nat → Nat → Nat → Nat → Nat := sortPriv% PySem.Builtin.power
def sruns : StateT SortSt Sem Unit := sortPriv% PySem.Builtin.sortRuns
abbrev setPend (st : SortSt) (p : Array (Nat × Nat × Nat)) : SortSt := SortSt.mk' (kindOf st) (arrOf st) p (gallopOf st) (failedOf st)
theorem sruns_eq : sruns = (do
    let all := (arrOf (← get)).size
    let least := mrun all all 0
    let mut at_ := 0
    for _ in [0:all] do
      if at_ ≥ all then break
      let some met ← crun at_ (all - at_) | return
      let mut n := met
      if n < least then
        rule "list.sort.binary-insertion"
        let most := min (all - at_) least
        if !(← bsort at_ most n) then return
        n := most
      if let some (s1, n1, _) := (pendingOf (← get)).back? then
        let w := pwr all (2 * s1 + n1) (2 * s1 + n1 + n1 + n) all
        for _ in [0:all] do
          let p := pendingOf (← get)
          let some (_, _, older) := (if p.size > 1 then p[p.size - 2]? else none) | break
          if older ≤ w then break
          if !(← mAt (p.size - 2)) then return
        modify fun st => setPend st ((pendingOf st).modify ((pendingOf st).size - 1) fun (x, y, _) => (x, y, w))
      modify fun st => setPend st ((pendingOf st).push (at_, n, 0))
      at_ := at_ + n
    for _ in [0:all] do
      let p := pendingOf (← get)
      if p.size ≤ 1 then break
      let i := p.size - 2
      let before := if i > 0 then p[i - 1]?.map (·.2.1) else none
      let i := if before.any (· < (p[i + 1]?.elim 0 (·.2.1))) then i - 1 else i
      if !(← mAt i) then return) := rfl
def srM (w : Nat) : StateT SortSt Sem (ForInStep (Option Unit × Unit)) := do
  let st ← get
  match (if (pendingOf st).size > 1 then (pendingOf st)[(pendingOf st).size - 2]? else none) with
  | some (_, _, older) =>
    if older ≤ w then pure (.done (none, ()))
    else do
      let b ← mAt ((pendingOf st).size - 2)
      if !b then pure (.done (some (), ())) else pure (.yield (none, ()))
  | _ => pure (.done (none, ()))
def srP (lo n : Nat) : StateT SortSt Sem (ForInStep (Option Unit × Nat)) := do
  modify fun st => setPend st ((pendingOf st).push (lo, n, 0))
  pure (.yield (none, lo + n))
def srT (all lo n : Nat) : StateT SortSt Sem (ForInStep (Option Unit × Nat)) := do
  let st ← get
  match (pendingOf st).back? with
  | some (s1, n1, _) => do
    let t ← forIn [0:all] ((none, ()) : Option Unit × Unit) (fun _ _ => srM (pwr all (2 * s1 + n1) (2 * s1 + n1 + n1 + n) all))
    match t.1 with
    | some r => pure (.done (some r, lo))
    | none => do
      modify fun st => setPend st ((pendingOf st).modify ((pendingOf st).size - 1) fun x => (x.1, x.2.1, pwr all (2 * s1 + n1) (2 * s1 + n1 + n1 + n) all))
      srP lo n
  | _ => srP lo n
end
section
variable {M : Model} {A : Around} {E : Value → Shared → Prop} {s : Shared} {kd : SortKind}
inductive Pend (o : Ord M A E s kd) : Nat → List (Nat × Nat × Nat) → List (List Keyed) → Prop where
  | nil (n : Nat) : Pend o n [] []
  | cons {n w : Nat} {R : List Keyed} {ps : List (Nat × Nat × Nat)} {Rs : List (List Keyed)} (u : R.Pairwise o.le) (h : 0 < R.length) (t : Pend o (n + R.length) ps Rs) : Pend o n ((n, R.length, w) :: ps) (R :: Rs)
variable {o : Ord M A E s kd}
theorem Pend.length {n : Nat} {ps : List (Nat × Nat × Nat)} {Rs : List (List Keyed)} (p : Pend o n ps Rs) : ps.length = Rs.length := by
  induction p with
  | nil => rfl
  | cons u h t ih => simp [ih]
theorem Pend.le {n : Nat} {ps : List (Nat × Nat × Nat)} {Rs : List (List Keyed)} (p : Pend o n ps Rs) : ps.length ≤ Rs.flatten.length := by
  induction p with
  | nil => simp
  | cons u h t ih => simp only [List.length_cons, List.flatten_cons, List.length_append]; omega
theorem Pend.snoc {n w : Nat} {ps : List (Nat × Nat × Nat)} {Rs : List (List Keyed)} (p : Pend o n ps Rs) {R : List Keyed} (u : R.Pairwise o.le) (h : 0 < R.length) : Pend o n (ps ++ [(n + Rs.flatten.length, R.length, w)]) (Rs ++ [R]) := by
  induction p with
  | nil n => exact .cons u h (.nil _)
  | @cons n w' R' ps Rs u' h' t ih =>
    refine .cons u' h' ?_
    have : n + (R' :: Rs).flatten.length = n + R'.length + Rs.flatten.length := by simp; omega
    rw [this]
    exact ih
theorem Pend.other {n : Nat} {ps : List (Nat × Nat × Nat)} {Rs : List (List Keyed)} (p : Pend o n ps Rs) : ∀ {ps' : List (Nat × Nat × Nat)}, ps'.map (fun x => (x.1, x.2.1)) = ps.map (fun x => (x.1, x.2.1)) → Pend o n ps' Rs := by
  induction p with
  | nil n =>
    intro ps' e
    cases ps' with
    | nil => exact .nil n
    | cons a l => simp at e
  | @cons n w R ps Rs u h t ih =>
    intro ps' e
    cases ps' with
    | nil => simp at e
    | cons a l =>
      obtain ⟨a1, a2, a3⟩ := a
      simp only [List.map_cons, List.cons.injEq, Prod.mk.injEq] at e
      obtain ⟨⟨rfl, rfl⟩, e2⟩ := e
      exact .cons u h (ih e2)
theorem Pend.pick {n : Nat} {ps : List (Nat × Nat × Nat)} {Rs : List (List Keyed)} (p : Pend o n ps Rs) : ∀ (i : Nat), i + 1 < ps.length → ∃ P1 P2 Rs1 Rs2 B C w w2, P1.length = i ∧ ps = P1 ++ (n + Rs1.flatten.length, B.length, w) :: (n + Rs1.flatten.length + B.length, C.length, w2) :: P2 ∧
    Rs = Rs1 ++ B :: C :: Rs2 ∧ B.Pairwise o.le ∧ C.Pairwise o.le ∧ 0 < B.length ∧ 0 < C.length ∧ ∀ D : List Keyed, D.Pairwise o.le → D.length = B.length + C.length → Pend o n (P1 ++ (n + Rs1.flatten.length, B.length + C.length, w) :: P2) (Rs1 ++ D :: Rs2) := by
  induction p with
  | nil n => intro i hi; simp at hi
  | @cons n w R ps Rs u h t ih =>
    intro i hi
    cases i with
    | zero =>
      cases t with
      | nil => simp at hi
      | @cons _ w2 R2 ps2 Rs2 u2 h2 t2 =>
        refine ⟨[], ps2, [], Rs2, R, R2, w, w2, rfl, by simp, rfl, u, u2, h, h2, fun D uD lD => ?_⟩
        have t3 : Pend o (n + D.length) ps2 Rs2 := by rw [lD, ← Nat.add_assoc]; exact t2
        have := Pend.cons (w := w) uD (by omega) t3
        rw [lD] at this
        simpa using this
    | succ i =>
      simp only [List.length_cons] at hi
      obtain ⟨P1, P2, Rs1, Rs2, B, C, v, v2, e1, e2, e3, uB, uC, hB, hC, k⟩ := ih i (by omega)
      have e : n + (R :: Rs1).flatten.length = n + R.length + Rs1.flatten.length := by simp; omega
      refine ⟨(n, R.length, w) :: P1, P2, R :: Rs1, Rs2, B, C, v, v2, by simp [e1], ?_, by simp [e3], uB, uC, hB, hC, fun D uD lD => ?_⟩
      · rw [e, e2]; rfl
      · rw [e]
        exact .cons u h (k D uD lD)
structure SRun (o : Ord M A E s kd) (a₀ : Array Keyed) (lo : Nat) (rest : List Keyed) (st : SortSt) : Prop where
  k : kindOf st = kd
  f : failedOf st = none
  perm : (arrOf st).Perm a₀
  ex : ∃ Rs, (arrOf st).toList = Rs.flatten ++ rest ∧ Rs.flatten.length = lo ∧ Pend o 0 (pendingOf st).toList Rs
variable {a₀ : Array Keyed} {lo : Nat} {rest : List Keyed} {st : SortSt}
theorem all_perm {xs ys : Array Keyed} (p : ys.Perm xs) (ga : o.all xs) : o.all ys := fun i x e => by
  obtain ⟨j, e2⟩ := Array.getElem?_of_mem (p.mem_iff.mp (Array.mem_of_getElem? e))
  exact ga j x e2
theorem SRun.merge (S : SRun o a₀ lo rest st) (ga : o.all a₀) {i : Nat} (hi : i + 1 < (pendingOf st).size) {Q : Bool → SortSt → Prop} (h : ∀ st', SRun o a₀ lo rest st' → (pendingOf st').size + 1 = (pendingOf st).size → Q true st') : wpS M A E s (mAt i) Q st := by
  obtain ⟨Rs, e, el, p⟩ := S.ex
  obtain ⟨P1, P2, Rs1, Rs2, B, C, w, w2, e1, e2, e3, uB, uC, hB, hC, k⟩ := p.pick i (by simpa using hi)
  simp only [Nat.zero_add] at e2 k
  have ea : (arrOf st).toList = Rs1.flatten ++ B ++ C ++ (Rs2.flatten ++ rest) := by rw [e, e3]; simp
  refine wpS_mAt S.k S.f (all_perm S.perm ga) ea uB uC hB hC e2 e1.symm fun st' D hk' hf' ha' uD pD hp' => ?_
  have lD : D.length = B.length + C.length := by rw [pD.length_eq, List.length_append]
  refine h st' ⟨hk', hf', ?_, Rs1 ++ D :: Rs2, by rw [ha']; simp, ?_, by rw [hp']; exact k D uD lD⟩ ?_
  · refine Array.Perm.trans ?_ S.perm
    rw [Array.perm_iff_toList_perm, ha', ea]
    refine List.Perm.append_right _ ?_
    rw [List.append_assoc]
    exact List.Perm.append_left _ pD
  · rw [← el, e3]
    simp [lD]
    omega
  · have a1 := congrArg List.length hp'
    have a2 := congrArg List.length e2
    simp at a1 a2
    omega
theorem wpS_srM (S : SRun o a₀ lo rest st) (ga : o.all a₀) {w : Nat} : wpS M A E s (srM w) (fun t st' => SRun o a₀ lo rest st' ∧ (t = .done (none, ()) ∨ t = .yield (none, ()))) st := by
  unfold srM
  refine wpS_bind (wpS_get ?_)
  by_cases h1 : (pendingOf st).size > 1
  · rw [if_pos h1]
    obtain ⟨x, ex⟩ : ∃ x, (pendingOf st)[(pendingOf st).size - 2]? = some x := ⟨(pendingOf st)[(pendingOf st).size - 2], getElem?_pos _ _ (by omega)⟩
    rw [ex]
    obtain ⟨x1, x2, x3⟩ := x
    dsimp only
    split
    · exact wpS_pure ⟨S, .inl rfl⟩
    · exact wpS_bind (S.merge ga (by omega) fun st' S' _ => wpS_pure ⟨S', .inr rfl⟩)
  · rw [if_neg h1]
    exact wpS_pure ⟨S, .inl rfl⟩
theorem wpS_srP (S : SRun o a₀ lo rest st) {n : Nat} (hn : 0 < n) (hr : n ≤ rest.length) (u : (rest.take n).Pairwise o.le) : wpS M A E s (srP lo n) (fun t st' => t = .yield (none, lo + n) ∧ SRun o a₀ (lo + n) (rest.drop n) st') st := by
  unfold srP
  refine wpS_bind (wpS_modify (wpS_pure ⟨rfl, S.k, S.f, S.perm, ?_⟩))
  obtain ⟨Rs, e, el, p⟩ := S.ex
  have ln : (rest.take n).length = n := by rw [List.length_take]; omega
  refine ⟨Rs ++ [rest.take n], ?_, by simp [el]; omega, ?_⟩
  · show (arrOf st).toList = _
    rw [e]
    simp
  · have := p.snoc (w := 0) u (by omega)
    rw [Nat.zero_add, el, ln] at this
    show Pend o 0 ((pendingOf st).push (lo, n, 0)).toList _
    rw [Array.toList_push]
    exact this
theorem wpS_srT (S : SRun o a₀ lo rest st) (ga : o.all a₀) {all n : Nat} (hn : 0 < n) (hr : n ≤ rest.length) (u : (rest.take n).Pairwise o.le) : wpS M A E s (srT all lo n) (fun t st' => t = .yield (none, lo + n) ∧ SRun o a₀ (lo + n) (rest.drop n) st') st := by
  unfold srT
  refine wpS_bind (wpS_get ?_)
  cases hb : (pendingOf st).back? with
  | none => exact wpS_srP S hn hr u
  | some x =>
    obtain ⟨s1, n1, w1⟩ := x
    dsimp only
    refine wpS_bind (wpS_mono (wpS_forRange (I := fun t c st2 => c = (none, ()) ∧ SRun o a₀ lo rest st2) (Q := fun c st2 => c = (none, ()) ∧ SRun o a₀ lo rest st2) ?step (fun c st2 hh => hh) ⟨rfl, S⟩) ?post)
    case step =>
      rintro t c st2 _ _ ⟨rfl, S2⟩
      refine wpS_mono (wpS_srM S2 ga) fun t st3 ⟨S3, ht⟩ => ?_
      rcases ht with rfl | rfl
      · exact ⟨rfl, S3⟩
      · exact ⟨rfl, S3⟩
    case post =>
      rintro c st2 ⟨rfl, S2⟩
      dsimp only
      refine wpS_bind (wpS_modify ?_)
      refine wpS_srP (lo := lo) (rest := rest) (SRun.mk (by exact S2.k) (by exact S2.f) (by exact S2.perm) ?_) hn hr u
      obtain ⟨Rs, e, el, p⟩ := S2.ex
      refine ⟨Rs, e, el, p.other ?_⟩
      show (((pendingOf st2).modify ((pendingOf st2).size - 1) _).toList).map _ = _
      rw [Array.toList_modify]
      refine List.ext_getElem? fun i => ?_
      rw [List.getElem?_map, List.getElem?_map, List.getElem?_modify]
      split
      · cases (pendingOf st2).toList[i]? <;> rfl
      · cases (pendingOf st2).toList[i]? <;> rfl
end
end BF
namespace BF
open PySem PyProof.Rows
section
variable {M : Model} {A : Around} {E : Value → Shared → Prop} {s : Shared} {kd : SortKind} {o : Ord M A E s kd} {a₀ : Array Keyed} {lo : Nat} {rest : List Keyed} {st st' : SortSt}
theorem SRun.as (S : SRun o a₀ lo rest st) (h : As lo st st') : SRun o a₀ lo ((arrOf st').toList.drop lo) st' ∧ lo + ((arrOf st').toList.drop lo).length = a₀.size := by
  obtain ⟨Rs, e, el, p⟩ := S.ex
  have sz : (arrOf st').size = a₀.size := (h.perm.trans S.perm).size_eq
  have sz0 : (arrOf st).size = a₀.size := S.perm.size_eq
  have le : lo ≤ a₀.size := by
    have := size_mid e
    rw [List.length_append] at this
    omega
  have et : (arrOf st').toList.take lo = Rs.flatten := by
    have : (arrOf st').toList.take lo = (arrOf st).toList.take lo := by
      refine List.ext_getElem? fun i => ?_
      rw [List.getElem?_take, List.getElem?_take]
      split
      · have := h.pre i (by assumption)
        simpa using this
      · rfl
    rw [this, e, ← el, List.take_left]
  refine ⟨⟨h.k.trans S.k, h.f.trans S.f, h.perm.trans S.perm, Rs, ?_, el, by rw [h.p]; exact p⟩, ?_⟩
  · rw [← et, List.take_append_drop]
  · rw [List.length_drop, Array.length_toList, sz]; omega
theorem up_take {xs : Array Keyed} {m : Nat} (h : o.up xs lo (lo + m)) : ((xs.toList.drop lo).take m).Pairwise o.le := by
  rw [List.pairwise_iff_getElem]
  intro i j hi hj hij
  have bi : i < m := by rw [List.length_take] at hi; omega
  have bj : j < m := by rw [List.length_take] at hj; omega
  have ei : xs[lo + i]? = some ((xs.toList.drop lo).take m)[i] := by
    have := List.getElem?_eq_getElem hi
    rw [List.getElem?_take, if_pos bi, List.getElem?_drop] at this
    simpa using this
  have ej : xs[lo + j]? = some ((xs.toList.drop lo).take m)[j] := by
    have := List.getElem?_eq_getElem hj
    rw [List.getElem?_take, if_pos bj, List.getElem?_drop] at this
    simpa using this
  exact h _ _ _ _ (by omega) (by omega) (by omega) ei ej
theorem pick_ok (c : Prop) [Decidable c] (k : Nat) (h : 1 < k) : (if c then k - 2 - 1 else k - 2) + 1 < k := by split <;> omega
theorem wpS_conv {α : Type} {m m' : StateT SortSt Sem α} {Q : α → SortSt → Prop} (e : m = m') (h : wpS M A E s m Q st) : wpS M A E s m' Q st := e ▸ h
theorem wpS_sruns {Q : Unit → SortSt → Prop} (hk : kindOf st = kd) (hf : failedOf st = none) (ga : o.all (arrOf st)) (hp : pendingOf st = #[])
    (h : ∀ st', failedOf st' = none → (arrOf st').Perm (arrOf st) → (arrOf st').toList.Pairwise o.le → Q () st') : wpS M A E s sruns Q st := by
  rw [sruns_eq]
  refine wpS_bind (wpS_get ?_)
  dsimp only
  have S0 : SRun o (arrOf st) 0 (arrOf st).toList st := ⟨hk, hf, .refl _, [], rfl, rfl, by rw [hp]; exact .nil 0⟩
  have z0 : 0 + (arrOf st).toList.length = (arrOf st).size := by simp
  refine wpS_bind (wpS_mono (wpS_forRange (I := fun t c st2 => ∃ lo rest, c = (none, lo) ∧ SRun o (arrOf st) lo rest st2 ∧ t ≤ lo ∧ lo + rest.length = (arrOf st).size)
    (Q := fun c st2 => c = (none, (arrOf st).size) ∧ SRun o (arrOf st) (arrOf st).size [] st2) ?step ?fin ⟨0, _, rfl, S0, Nat.le_refl _, z0⟩) ?post)
  case fin =>
    rintro c st2 ⟨lo, rest, rfl, S, h1, h2⟩
    have h3 : rest.length = 0 := by omega
    have e1 : rest = [] := List.eq_nil_of_length_eq_zero h3
    subst e1
    have e2 : lo = (arrOf st).size := by simpa using h2
    subst e2
    exact ⟨rfl, S⟩
  case step =>
    rintro t c st2 _ ht ⟨lo, rest, rfl, S, h1, h2⟩
    dsimp only
    by_cases hge : lo ≥ (arrOf st).size
    · rw [if_pos hge]
      have h3 : rest.length = 0 := by omega
      have e1 : rest = [] := List.eq_nil_of_length_eq_zero h3
      subst e1
      have e2 : lo = (arrOf st).size := by simpa using h2
      subst e2
      exact wpS_pure ⟨rfl, S⟩
    · rw [if_neg hge]
      have ga2 := all_perm S.perm ga
      have sz2 : (arrOf st2).size = (arrOf st).size := S.perm.size_eq
      refine wpS_bind (wpS_crun S.k ga2 (by omega) (by omega) fun m st3 A3 m1 m2 u3 => ?_)
      obtain ⟨S3, l3⟩ := S.as A3
      have ga3 := all_perm S3.perm ga
      have sz3 : (arrOf st3).size = (arrOf st).size := S3.perm.size_eq
      have tail : ∀ (n : Nat) (st4 : SortSt) (Q' : ForInStep (Option Unit × Nat) → SortSt → Prop), SRun o (arrOf st) lo ((arrOf st4).toList.drop lo) st4 → lo + ((arrOf st4).toList.drop lo).length = (arrOf st).size → 0 < n → n ≤ (arrOf st).size - lo → o.up (arrOf st4) lo (lo + n) →
          (∀ st', (∃ lo' rest, ((none, lo + n) : Option Unit × Nat) = (none, lo') ∧ SRun o (arrOf st) lo' rest st' ∧ t + 1 ≤ lo' ∧ lo' + rest.length = (arrOf st).size) → Q' (.yield (none, lo + n)) st') → wpS M A E s (srT (arrOf st).size lo n) Q' st4 := fun n st4 Q' S4 l4 n0 n1 u4 hq => by
        refine wpS_mono (wpS_srT S4 ga n0 (by omega) (up_take u4)) fun r st5 ⟨er, S5⟩ => ?_
        subst er
        exact hq st5 ⟨lo + n, _, rfl, S5, by omega, by rw [List.length_drop]; omega⟩
      dsimp only
      split
      · refine wpS_bind (wpS_lift (wpAny_rule ⟨rfl, ?_⟩))
        refine wpS_bind (wpS_bsort S3.k ga3 (by omega) (by omega) u3 fun st4 A4 u4 => ?_)
        obtain ⟨S4, l4⟩ := S3.as A4
        rw [if_neg (by decide)]
        refine wpS_conv (m := srT (arrOf st).size lo (min ((arrOf st).size - lo) (mrun (arrOf st).size (arrOf st).size 0))) ?_ (tail _ st4 _ S4 l4 (by omega) (by omega) u4 fun st' hh => hh)
        · dsimp only [srT, srM, srP]
          refine bind_congr fun sx => ?_
          cases (pendingOf sx).back? with
          | none => rfl
          | some x =>
            obtain ⟨s1, n1, w1⟩ := x
            refine bind2 (congrArg (forIn _ _) (funext fun _ => funext fun _ => bind_congr fun sy => ?_)) (funext fun tt => ?_)
            · generalize (if (pendingOf sy).size > 1 then (pendingOf sy)[(pendingOf sy).size - 2]? else none) = zz
              rcases zz with _ | ⟨_, _, _⟩ <;> rfl
            · obtain ⟨z, _⟩ := tt
              cases z <;> rfl
      · refine wpS_conv (m := srT (arrOf st).size lo m) ?_ (tail m st3 _ S3 l3 (by omega) m2 u3 fun st' hh => hh)
        · dsimp only [srT, srM, srP]
          refine bind_congr fun sx => ?_
          cases (pendingOf sx).back? with
          | none => rfl
          | some x =>
            obtain ⟨s1, n1, w1⟩ := x
            refine bind2 (congrArg (forIn _ _) (funext fun _ => funext fun _ => bind_congr fun sy => ?_)) (funext fun tt => ?_)
            · generalize (if (pendingOf sy).size > 1 then (pendingOf sy)[(pendingOf sy).size - 2]? else none) = zz
              rcases zz with _ | ⟨_, _, _⟩ <;> rfl
            · obtain ⟨z, _⟩ := tt
              cases z <;> rfl
  case post =>
    rintro c st2 ⟨rfl, S⟩
    dsimp only
    have p2 : (pendingOf st2).size ≤ (arrOf st).size := by
      obtain ⟨Rs, e, el, p⟩ := S.ex
      have := p.le
      rw [el] at this
      simpa using this
    refine wpS_bind (wpS_mono (wpS_forRange (I := fun t c st2 => c = (none, ()) ∧ SRun o (arrOf st) (arrOf st).size [] st2 ∧ ((pendingOf st2).size + t ≤ (arrOf st).size ∨ (pendingOf st2).size ≤ 1))
      (Q := fun c st2 => c = (none, ()) ∧ SRun o (arrOf st) (arrOf st).size [] st2 ∧ (pendingOf st2).size ≤ 1) ?step2 ?fin2 ⟨rfl, S, .inl (by omega)⟩) ?post2)
    case fin2 =>
      rintro c st3 ⟨rfl, S3, h3⟩
      exact ⟨rfl, S3, by omega⟩
    case step2 =>
      rintro t c st3 _ ht ⟨rfl, S3, h3⟩
      refine wpS_bind (wpS_get ?_)
      by_cases h4 : (pendingOf st3).size ≤ 1
      · rw [if_pos h4]
        exact wpS_pure ⟨rfl, S3, h4⟩
      · rw [if_neg h4]
        refine wpS_bind (S3.merge ga ?_ fun st4 S4 e4 => ?_)
        · exact pick_ok _ _ (by omega)
        · exact wpS_pure ⟨rfl, S4, .inl (by omega)⟩
    case post2 =>
      rintro c st3 ⟨rfl, S3, h3⟩
      refine wpS_pure (h st3 S3.f S3.perm ?_)
      obtain ⟨Rs, e, el, p⟩ := S3.ex
      rw [e, List.append_nil]
      have hl := p.length
      have hl2 : Rs.length ≤ 1 := by rw [← hl]; simpa using h3
      cases Rs with
      | nil => exact List.Pairwise.nil
      | cons R Rs' =>
        cases Rs' with
        | cons R2 Rs2 => simp at hl2
        | nil =>
          generalize (pendingOf st3).toList = ps at p
          cases p with
          | cons u _ _ => simpa using u
end
end BF
namespace BF
open PySem PyProof.Rows
section
variable {prog : Program} {w : World} {A : Around} {E : Value → Shared → Prop} {s : Shared}
abbrev midHeap (h : Heap) (a : Addr) (vs : List Value) : Heap := ((h.update a (Obj.mapSeq fun _ => #[])).push (seqObj "tuple" vs.toArray 0)).push (seqObj "list" #[] 0)
theorem pw_short {α : Type} {R : α → α → Prop} : ∀ {L : List α}, L.length < 2 → L.Pairwise R
  | [], _ => .nil
  | [_], _ => List.pairwise_singleton _ _
  | _ :: _ :: _, h => absurd h (by simp)
theorem list_sort_any {a : Addr} {vs : List Value} {n : Nat} {P : Fin → Shared → Prop} {kd : SortKind} (ho : s.heap.get? a = some (seqObj "list" vs.toArray n)) (hle : vs.length ≤ sizeLine)
    (hkk : 2 ≤ vs.length → ∀ Q : SortKind → Shared → Prop, Q kd { s with heap := midHeap s.heap a vs } → wpAny (model prog w) A (keyKind' vs.toArray) Q E { s with heap := midHeap s.heap a vs })
    (o : Ord (model prog w) A E { s with heap := midHeap s.heap a vs } kd) (ga : o.all (pairsOf vs))
    (h : ∀ ks : Array Keyed, ks.Perm (pairsOf vs) → ks.toList.Pairwise o.le → P (.done (.ret .none)) { s with heap := sortedHeap s.heap a vs (ks.map (·.2)) }) :
    wpAny (model prog w) A (Builtin.«list.sort» ⟨[.ref a], []⟩) P E s := by
  rw [list_sort_plain]
  have ha := Heap.lt_size ho
  refine wpAny_bind (listItems_at ho rfl (wpAny_bind (listUpdate_at ho rfl ?_)))
  obtain ⟨e1, h1⟩ : ∃ e1, (s.heap.update a (Obj.mapSeq fun _ => #[])).get? a = some (seqObj "list" #[] e1) := ⟨_, get?_update_seq ho (fun _ => #[])⟩
  refine wpAny_bind (seqEpoch_at h1 rfl (wpAny_bind (wpAny_newTuple (wpAny_bind (wpAny_newList (wpAny_holding ?_))))))
  have h6 : (midHeap s.heap a vs).get? a = some (seqObj "list" #[] e1) := by
    have n1 : a ≠ (s.heap.update a (Obj.mapSeq fun _ => #[])).objs.size := Nat.ne_of_lt (by rw [Heap.size_update]; exact ha)
    have n2 : a ≠ ((s.heap.update a (Obj.mapSeq fun _ => #[])).push (seqObj "tuple" vs.toArray 0)).objs.size := Nat.ne_of_lt (by rw [size_push', Heap.size_update]; exact Nat.lt_succ_of_lt ha)
    rw [Heap.get?_push_ne _ _ _ n2, Heap.get?_push_ne _ _ _ n1]
    exact h1
  show wpAny (model prog w) A _ P E { s with heap := midHeap s.heap a vs }
  dsimp only
  by_cases h2 : vs.toArray.size < 2
  · rw [if_pos h2, if_pos h2]
    refine wpAny_bind (wpAny_pure ?_)
    rw [StateT.run_pure]
    refine wpAny_bind (wpAny_pure (wpAny_bind (seqEpoch_at h6 rfl (wpAny_bind (listUpdate_at h6 rfl ?_ (hsz2 := ?_))))))
    · simp only [bne_self_eq_false, Bool.false_eq_true, if_false]
      refine wpAny_pure (h (pairsOf vs) (Array.Perm.refl _) ?_)
      have hl : (pairsOf vs).toList.length < 2 := by rw [Array.length_toList, pairsOf_size]; simpa using h2
      exact pw_short hl
    · rw [Array.size_map]
      show (pairsOf vs).size ≤ _
      rw [pairsOf_size]
      omega
  · rw [if_neg h2, if_neg h2]
    have h3 : 2 ≤ vs.length := by simpa using h2
    refine wpAny_bind (hkk h3 _ ?_)
    refine wpAny_bind (wpAny_mono (wpS_sruns (o := o) (st := SortSt.mk' kd (pairsOf vs) #[] 7 none) (Q := fun _ st' => failedOf st' = none ∧ (arrOf st').Perm (pairsOf vs) ∧ (arrOf st').toList.Pairwise o.le) rfl rfl ga rfl fun st' a1 a2 a3 => ⟨a1, a2, a3⟩) ?_ fun _ _ e => e)
    rintro ⟨⟨⟩, st'⟩ s' ⟨rfl, hf, hp, hs⟩
    refine wpAny_bind (seqEpoch_at h6 rfl (wpAny_bind (listUpdate_at h6 rfl ?_ (hsz2 := ?_))))
    · dsimp only at hf ⊢
      rw [hf]
      simp only [bne_self_eq_false, Bool.false_eq_true, if_false]
      exact wpAny_pure (h _ hp hs)
    · refine Nat.le_trans (Nat.le_of_eq ((Array.size_map ..).trans (hp.size_eq.trans (pairsOf_size _)))) ?_
      omega
end
end BF
namespace BF
open PySem PyProof.Rows
section
variable {prog : Program} {w : World} {A : Around} {E : Value → Shared → Prop} {s : Shared}
abbrev bagHeap (h : Heap) (vs : List Value) : Heap := ((h.push (seqObj "list" #[] 0)).update h.objs.size (Obj.mapSeq (· ++ vs.toArray))).push (seqObj "list" vs.toArray 0)
theorem sorted_any {l : Addr} {vs : List Value} {Q : Value → Shared → Prop} {kd : SortKind} (hl : s.heap.IsList l vs.toArray) (hle : vs.length ≤ sizeLine) (le : Keyed → Keyed → Prop)
    (hkk : 2 ≤ vs.length → ∀ (A' : Around) (E' : Value → Shared → Prop) (Q : SortKind → Shared → Prop), Q kd { s with heap := midHeap (bagHeap s.heap vs) (s.heap.objs.size + 1) vs } → wpAny (model prog w) A' (keyKind' vs.toArray) Q E' { s with heap := midHeap (bagHeap s.heap vs) (s.heap.objs.size + 1) vs })
    (ord : ∀ (A' : Around) (E' : Value → Shared → Prop), A'.units ≤ A.units + 4 → ∃ o : Ord (model prog w) A' E' { s with heap := midHeap (bagHeap s.heap vs) (s.heap.objs.size + 1) vs } kd, o.all (pairsOf vs) ∧ ∀ x y, o.le x y → le x y)
    (h : ∀ ks : Array Keyed, ks.Perm (pairsOf vs) → ks.toList.Pairwise le → Q (.ref (s.heap.objs.size + 1)) { s with heap := sortedAll s.heap vs (ks.map (·.2)) }) :
    wpAny (model prog w) A (call (.builtin "sorted") [.ref l]) Q E s := by
  refine Calls.call_function_entry kind_sorted plain_sorted entry_sorted (args_sorted1 _) ?_
  unfold Builtin.«sorted»
  refine wpAny_bind (m := checkCount "sorted" 1 1 _) (wpAny_pure (wpAny_bind (collect_list hl (wpAny_bind (wpAny_newList ?_)) hle)))
  have hsz : ((s.heap.push (seqObj "list" #[] 0)).update s.heap.objs.size (Obj.mapSeq (· ++ vs.toArray))).objs.size = s.heap.objs.size + 1 := by
    rw [Heap.size_update, size_push']
  have hb : (bagHeap s.heap vs).get? (s.heap.objs.size + 1) = some (seqObj "list" vs.toArray 0) := by
    rw [← hsz]; exact Heap.get?_push_size _ rfl
  show wpAny _ _ _ _ _ { s with heap := bagHeap s.heap vs }
  rw [hsz]
  obtain ⟨o, ga, ho⟩ := ord A.in1.in1 E (by show A.units + 1 + 1 ≤ _; omega)
  refine wpAny_bind (wpAny_holding (wpAny_call_entry slot_list_sort ⟨_, hb, rfl⟩ entry_list_sort (list_sort_any (s := { s with heap := bagHeap s.heap vs }) (kd := kd) hb hle (fun h2 Q q => hkk h2 _ _ Q q) o ga fun ks kp ku => ⟨_, rfl, ?_⟩) (args_list_sort _)))
  exact wpAny_pure ⟨_, rfl, h ks kp (ku.imp fun {x y} z => ho x y z)⟩
end
end BF
namespace BF
open PySem PyProof.Rows
mutual
def Dt.blt : Dt → Dt → Bool
  | .int i, .int j => decide (i < j)
  | .int _, .str _ => true
  | .int _, .tup _ => true
  | .str _, .int _ => false
  | .str x, .str y => decide (x.cps.toList < y.cps.toList)
  | .str _, .tup _ => true
  | .tup _, .int _ => false
  | .tup _, .str _ => false
  | .tup l, .tup m => Dt.blts l m
def Dt.blts : List Dt → List Dt → Bool
  | [], [] => false
  | [], _ :: _ => true
  | _ :: _, [] => false
  | a :: l, b :: m => if Dt.beq a b = true then Dt.blts l m else Dt.blt a b
end
theorem Dt.beq_false {a b : Dt} : Dt.beq a b = false ↔ a ≠ b := by
  rw [← Bool.not_eq_true, Dt.beq_iff]
mutual
theorem Dt.irr : ∀ a : Dt, Dt.blt a a = false
  | .int i => by simp [Dt.blt]
  | .str x => by simp only [Dt.blt, decide_eq_false_iff_not]; exact List.lt_irrefl _
  | .tup l => by simp only [Dt.blt]; exact Dt.irrs l
theorem Dt.irrs : ∀ l : List Dt, Dt.blts l l = false
  | [] => by simp [Dt.blts]
  | a :: l => by simp only [Dt.blts, Dt.beq_self, if_true]; exact Dt.irrs l
end
mutual
theorem Dt.tot : ∀ a b : Dt, Dt.blt a b = false → Dt.blt b a = false → a = b
  | .int i, .int j => by simp only [Dt.blt, decide_eq_false_iff_not]; intro h1 h2; congr 1; omega
  | .int i, .str y => by simp [Dt.blt]
  | .int i, .tup m => by simp [Dt.blt]
  | .str x, .int j => by simp [Dt.blt]
  | .str x, .str y => by
    simp only [Dt.blt, decide_eq_false_iff_not]
    intro h1 h2
    have : x.cps.toList = y.cps.toList := List.le_antisymm (List.not_lt.mp h2) (List.not_lt.mp h1)
    cases x with | mk cx =>
    cases y with | mk cy =>
    have : cx = cy := Array.toList_inj.mp this
    rw [this]
  | .str x, .tup m => by simp [Dt.blt]
  | .tup l, .int j => by simp [Dt.blt]
  | .tup l, .str y => by simp [Dt.blt]
  | .tup l, .tup m => by simp only [Dt.blt]; intro h1 h2; rw [Dt.tots l m h1 h2]
theorem Dt.tots : ∀ l m : List Dt, Dt.blts l m = false → Dt.blts m l = false → l = m
  | [], [] => by simp
  | [], b :: m => by simp [Dt.blts]
  | a :: l, [] => by simp [Dt.blts]
  | a :: l, b :: m => by
    simp only [Dt.blts]
    intro h1 h2
    by_cases e : a = b
    · subst e
      rw [if_pos (Dt.beq_self a)] at h1 h2
      rw [Dt.tots l m h1 h2]
    · rw [if_neg (by rw [Dt.beq_iff]; exact e)] at h1
      rw [if_neg (by rw [Dt.beq_iff]; exact fun z => e z.symm)] at h2
      exact absurd (Dt.tot a b h1 h2) e
end
mutual
theorem Dt.trn : ∀ a b c : Dt, Dt.blt a b = true → Dt.blt b c = true → Dt.blt a c = true
  | .int i, .int j, .int k => by simp only [Dt.blt, decide_eq_true_eq]; omega
  | .int i, .int j, .str z => by simp [Dt.blt]
  | .int i, .int j, .tup n => by simp [Dt.blt]
  | .int i, .str y, .int k => by simp [Dt.blt]
  | .int i, .str y, .str z => by simp [Dt.blt]
  | .int i, .str y, .tup n => by simp [Dt.blt]
  | .int i, .tup m, .int k => by simp [Dt.blt]
  | .int i, .tup m, .str z => by simp [Dt.blt]
  | .int i, .tup m, .tup n => by simp [Dt.blt]
  | .str x, .int j, c => by intro h; simp only [Dt.blt, Bool.false_eq_true] at h
  | .str x, .str y, .int k => by simp [Dt.blt]
  | .str x, .str y, .str z => by simp only [Dt.blt, decide_eq_true_eq]; exact List.lt_trans
  | .str x, .str y, .tup n => by simp [Dt.blt]
  | .str x, .tup m, .int k => by simp [Dt.blt]
  | .str x, .tup m, .str z => by simp [Dt.blt]
  | .str x, .tup m, .tup n => by simp [Dt.blt]
  | .tup l, .int j, c => by intro h; simp only [Dt.blt, Bool.false_eq_true] at h
  | .tup l, .str y, c => by intro h; simp only [Dt.blt, Bool.false_eq_true] at h
  | .tup l, .tup m, .int k => by simp [Dt.blt]
  | .tup l, .tup m, .str z => by simp [Dt.blt]
  | .tup l, .tup m, .tup n => by simp only [Dt.blt]; exact Dt.trns l m n
theorem Dt.trns : ∀ l m n : List Dt, Dt.blts l m = true → Dt.blts m n = true → Dt.blts l n = true
  | [], [], n => by intro h; simp only [Dt.blts, Bool.false_eq_true] at h
  | [], b :: m, [] => by simp [Dt.blts]
  | [], b :: m, c :: n => by simp [Dt.blts]
  | a :: l, [], n => by intro h; simp only [Dt.blts, Bool.false_eq_true] at h
  | a :: l, b :: m, [] => by simp [Dt.blts]
  | a :: l, b :: m, c :: n => by
    simp only [Dt.blts]
    intro h1 h2
    by_cases e1 : a = b
    · subst e1
      rw [if_pos (Dt.beq_self a)] at h1
      by_cases e2 : a = c
      · subst e2
        rw [if_pos (Dt.beq_self a)] at h2 ⊢
        exact Dt.trns l m n h1 h2
      · have ne : ¬ Dt.beq a c = true := by rw [Dt.beq_iff]; exact e2
        rw [if_neg ne] at h2 ⊢
        exact h2
    · rw [if_neg (by rw [Dt.beq_iff]; exact e1)] at h1
      by_cases e2 : b = c
      · subst e2
        rw [if_neg (by rw [Dt.beq_iff]; exact e1)]
        exact h1
      · rw [if_neg (by rw [Dt.beq_iff]; exact e2)] at h2
        have t := Dt.trn a b c h1 h2
        by_cases e3 : a = c
        · subst e3
          rw [Dt.irr] at t
          cases t
        · rw [if_neg (by rw [Dt.beq_iff]; exact e3)]
          exact t
end
def dtOrd : KeyOrd where
  α := Dt
  blt := Dt.blt
  irrefl := Dt.irr
  trans := Dt.trn
  negTrans a b c h := by
    cases hb : Dt.blt a b with
    | true => exact .inl rfl
    | false =>
      cases hc : Dt.blt b a with
      | true => exact .inr (Dt.trn _ _ _ hc h)
      | false => rw [← Dt.tot a b hb hc]; exact .inr h
  total := Dt.tot
end BF
namespace BF
open PySem PySem.Spec PyProof.Rows L2 PySem.SeqAt
def LtAt (A : Around) (s : Shared) (x y : Value) (b : Bool) : Prop := ∀ (prog : Program) (w : World) (Q E : Value → Shared → Prop), Q (.bool b) s → wpAny (model prog w) A (richCompare .Lt x y) Q E s
inductive Lx (A : Around) (s : Shared) : List Value → List Value → Bool → Prop where
  | both : Lx A s [] [] false
  | left (y : Value) (ys : List Value) : Lx A s [] (y :: ys) true
  | right (x : Value) (xs : List Value) : Lx A s (x :: xs) [] false
  | like {x y : Value} {xs ys : List Value} {r : Bool} (h : EqAt A s x y true) (t : Lx A s xs ys r) : Lx A s (x :: xs) (y :: ys) r
  | part {x y : Value} {r : Bool} (xs ys : List Value) (h : EqAt A s x y false) (k : LtAt A s x y r) : Lx A s (x :: xs) (y :: ys) r
section
open PySem.AutoSeq1 (wpAny_loadPart')
open PySem.MeetsSeq PySem.MeetsSeq2 PySem.MeetsSeq3
theorem tuple_lt_lx (l b : Addr) (pa pb : Array Value) (n n2 : Nat) (dd dd2 : Option Addr) (sl sl2 : Array (Option Value)) (r : Bool) :
    Meets (Builtin.«tuple.__lt__» ⟨[.ref l, .ref b], []⟩)
      (fun A R s => Lx A.in1 s pa.toList pb.toList r ∧ s.heap.get? l = some { cls := .type "tuple", dict := dd, data := .seq pa n, slots := sl } ∧ s.heap.get? b = some { cls := .type "tuple", dict := dd2, data := .seq pb n2, slots := sl2 } ∧
        R (.ok (.ret (.bool r))) s) :=
  .of_wp fun prog w A R s h => by
    obtain ⟨hp, g, d, tk, os⟩ := s
    obtain ⟨lx, hl, hb, h⟩ := h
    have f2 := AutoSeq1.sub_tuple_tuple
    wp_walk using wpAny_loadPart' hl, wpAny_loadPart' hb, wpAny_forIn_list _ (fun rest q s' => q.1 = none ∧ s' = ⟨hp, g, d, tk, os⟩ ∧ ∃ (vs ws : List Value), rest = vs.zip ws ∧
      Lx A.in1 ⟨hp, g, d, tk, os⟩ vs ws r ∧ vs.length + pb.size = ws.length + pa.size) _
    case turn =>
      rintro ⟨y, x⟩ rest q s' ⟨hq, rfl, vs, ws, hz, lx, hlen⟩
      cases lx with
      | both => rw [List.zip_nil_left] at hz; cases hz
      | left => rw [List.zip_nil_left] at hz; cases hz
      | right => rw [List.zip_nil_right] at hz; cases hz
      | @like x' y' xs ys _ he t =>
        rw [List.zip_cons_cons] at hz
        injection hz with e1 e2
        injection e1 with e3 e4
        subst e3 e4
        simp only [List.length_cons] at hlen
        refine wpAny_bind (he prog w _ _ ?_)
        wp_walk
        exact ⟨rfl, rfl, _, _, e2, t, by omega⟩
      | @part x' y' _ xs ys he k =>
        rw [List.zip_cons_cons] at hz
        injection hz with e1 e2
        injection e1 with e3 e4
        subst e3 e4
        refine wpAny_bind (he prog w _ _ ?_)
        have kk : ∀ (E : Value → Shared → Prop) (Q : Value → Shared → Prop), Q (.bool r) ⟨hp, g, d, tk, os⟩ → wpAny (model prog w) A.in1 (richCompare .Lt y x) Q E ⟨hp, g, d, tk, os⟩ := fun E Q z => k prog w Q E z
        wp_walk using kk
        exact ⟨_, rfl, by simpa using h⟩
    case fin =>
      rintro ⟨b1, b2⟩ s' ⟨hq, rfl, vs, ws, hz, lx, hlen⟩
      simp only at hq
      subst hq
      have hv : r = decide (pa.size < pb.size) := by
        cases lx with
        | both => simp only [List.length_nil] at hlen; exact (decide_eq_false (by omega)).symm
        | left => simp only [List.length_nil, List.length_cons] at hlen; exact (decide_eq_true (by omega)).symm
        | right => simp only [List.length_nil, List.length_cons] at hlen; exact (decide_eq_false (by omega)).symm
        | like => rw [List.zip_cons_cons] at hz; cases hz
        | part => rw [List.zip_cons_cons] at hz; cases hz
      subst hv
      wp_walk
      exact ⟨_, rfl, by simpa [Builtin.Tuple.tupleCompareSizes] using h⟩
    case h =>
      exact ⟨rfl, rfl, pa.toList, pb.toList, rfl, lx, by simp; omega⟩
end
theorem ltAt_tuples {A : Around} {s : Shared} {l b : Addr} {pa pb : Array Value} {r : Bool} (hl : IsTup s.heap l pa) (hb : IsTup s.heap b pb) (lx : Lx A.in1 s pa.toList pb.toList r) (hu : A.units < cLine) : LtAt A s (.ref l) (.ref b) r := by
  intro prog w Q E h
  obtain ⟨⟨cls, dd, data, sl⟩, ho, hc, n, hd⟩ := id hl
  obtain ⟨⟨cls2, dd2, data2, sl2⟩, ho2, hc2, n2, hd2⟩ := id hb
  simp only at hc hd hc2 hd2
  subst hc hd hc2 hd2
  exact richCompare_meets_room (op := .Lt) ⟨_, ho, rfl⟩ ⟨_, ho2, rfl⟩ PySem.F.slot_tuple_lt PySem.F.entry_tuple_lt (PySem.F.args_tuple_lt_2 _ _) (tuple_lt_lx l b pa pb n n2 dd dd2 sl sl2 r)
    ⟨lx, ho, ho2, show Value.bool r ≠ Value.notImplemented ∧ Q (.bool r) s from ⟨(fun x => nomatch x), h⟩⟩ hu
mutual
def Dt.like : Dt → Dt → Bool
  | .int _, .int _ => true
  | .str _, .str _ => true
  | .tup l, .tup m => Dt.likes l m
  | _, _ => false
def Dt.likes : List Dt → List Dt → Bool
  | a :: l, b :: m => Dt.like a b && Dt.likes l m
  | _, _ => true
end
section
variable {X : Cx} {pins : List (Addr × Obj)} {σ : L2.St} {H : Hp} {s : Shared}
mutual
theorem ltAt_D (I : Inv X pins σ H s) : ∀ {d d' : Dt} {v v' : V} {u u' : Value} (A : Around), DtIs H v d → RelV v u → DtIs H v' d' → RelV v' u' → Dt.like d d' = true → A.units + d.dp < cLine → LtAt A s u u' (Dt.blt d d')
  | .int i, .int j => by
    intro A h r h' r' hk hu
    cases h
    cases h'
    obtain ⟨t, rfl⟩ := r
    obtain ⟨t', rfl⟩ := r'
    intro prog w Q E h
    rw [show Dt.blt (.int i) (.int j) = decide (i < j) by simp only [Dt.blt]] at h
    exact (PyProof.Rows.lt_int h : wpAny (model prog w) A (compareOp .Lt (.int i t) (.int j t')) Q E s)
  | .str x, .str y => by
    intro A h r h' r' hk hu
    cases h
    cases h'
    obtain ⟨t, rfl⟩ := r
    obtain ⟨t', rfl⟩ := r'
    intro prog w Q E h
    rw [show Dt.blt (.str x) (.str y) = decide (x.cps.toList < y.cps.toList) by simp only [Dt.blt]] at h
    exact (PyProof.Rows.lt_str h : wpAny (model prog w) A (compareOp .Lt (.str x t) (.str y t')) Q E s)
  | .tup l, .tup m => by
    intro A h r h' r' hk hu
    cases h with
    | tup e q =>
    cases h' with
    | tup e' q' =>
    cases r
    cases r'
    obtain ⟨its, rv, p, _⟩ := I.tuple (SqT.of e)
    obtain ⟨its', rv', p', _⟩ := I.tuple (SqT.of e')
    have hd : A.units + (Dt.dps l + 1) < cLine := by simpa only [Dt.dp] using hu
    have hk' : Dt.likes l m = true := by simpa only [Dt.like] using hk
    rw [show Dt.blt (.tup l) (.tup m) = Dt.blts l m by simp only [Dt.blt]]
    exact ltAt_tuples p p' (lx_D I A.in1 q rv q' rv' hk' (by show A.units + 1 + _ < _; omega)) (by omega)
  | .int _, .str _ => by
    intro A h r h' r' hk hu
    simp only [Dt.like, Bool.false_eq_true] at hk
  | .int _, .tup _ => by
    intro A h r h' r' hk hu
    simp only [Dt.like, Bool.false_eq_true] at hk
  | .str _, .int _ => by
    intro A h r h' r' hk hu
    simp only [Dt.like, Bool.false_eq_true] at hk
  | .str _, .tup _ => by
    intro A h r h' r' hk hu
    simp only [Dt.like, Bool.false_eq_true] at hk
  | .tup _, .int _ => by
    intro A h r h' r' hk hu
    simp only [Dt.like, Bool.false_eq_true] at hk
  | .tup _, .str _ => by
    intro A h r h' r' hk hu
    simp only [Dt.like, Bool.false_eq_true] at hk
theorem lx_D (I : Inv X pins σ H s) : ∀ {ds ds' : List Dt} {vs vs' : List V} {us us' : List Value} (A : Around), DtsIs H vs ds → Vals vs us → DtsIs H vs' ds' → Vals vs' us' → Dt.likes ds ds' = true → A.units + Dt.dps ds < cLine → Lx A s us us' (Dt.blts ds ds')
  | [], [] => by
    intro A h r h' r' hk hu
    cases h
    cases r
    cases h'
    cases r'
    rw [show Dt.blts [] [] = false by simp only [Dt.blts]]; exact .both
  | [], _ :: _ => by
    intro A h r h' r' hk hu
    cases h
    cases r
    cases h'
    cases r'
    rw [show ∀ a l, Dt.blts [] (a :: l) = true from fun a l => by simp only [Dt.blts]]; exact .left _ _
  | _ :: _, [] => by
    intro A h r h' r' hk hu
    cases h
    cases r
    cases h'
    cases r'
    rw [show ∀ a l, Dt.blts (a :: l) [] = false from fun a l => by simp only [Dt.blts]]; exact .right _ _
  | d :: ds, d' :: ds' => by
    intro A h r h' r' hk hu
    cases h with
    | cons h t =>
    cases r with
    | cons r rs =>
    cases h' with
    | cons h' t' =>
    cases r' with
    | cons r' rs' =>
    have hk' : Dt.like d d' = true ∧ Dt.likes ds ds' = true := by simpa only [Dt.likes, Bool.and_eq_true] using hk
    have hu' : A.units + max d.dp (Dt.dps ds) < cLine := by simpa only [Dt.dps] using hu
    have hq := eqAt_D I A h r h' r' (by omega)
    rw [show Dt.blts (d :: ds) (d' :: ds') = if Dt.beq d d' = true then Dt.blts ds ds' else Dt.blt d d' by simp only [Dt.blts]]
    cases hb : Dt.beq d d' with
    | true =>
      rw [hb] at hq
      rw [if_pos rfl]
      exact .like hq (lx_D I A t rs t' rs' hk'.2 (by omega))
    | false =>
      rw [hb] at hq
      rw [if_neg Bool.false_ne_true]
      exact .part _ _ hq (ltAt_D I A h r h' r' hk'.1 (by omega))
end
end
end BF
namespace BF
open PySem PySem.Spec PyProof.Rows L2 PySem.SeqAt
abbrev tupKind (f : Bool) : SortKind := (sortPriv% PySem.Builtin.KeyKind.tuples) f
theorem keyLt_tuples (f : Bool) (x y : Value) : keyLt' (tupKind f) x y = (do
    let a ← Builtin.List.listItems x
    let b ← Builtin.List.listItems y
    for ((p, q), i) in (a.toList.zip b.toList).zipIdx do
      if !(← eqBool p q) then return ← oneLt' (f && i == 0) p q
    return a.size < b.size) := rfl
theorem oneLt_false (x y : Value) : oneLt' false x y = (do truthOfDropped (← richCompare .Lt x y)) := rfl
inductive Lk (A : Around) (s : Shared) (prog : Program) (w : World) (f : Bool) : Nat → List Value → List Value → Bool → Prop where
  | both (i : Nat) : Lk A s prog w f i [] [] false
  | left (i : Nat) (y : Value) (ys : List Value) : Lk A s prog w f i [] (y :: ys) true
  | right (i : Nat) (x : Value) (xs : List Value) : Lk A s prog w f i (x :: xs) [] false
  | like {i : Nat} {x y : Value} {xs ys : List Value} {r : Bool} (h : EqAt A s x y true) (t : Lk A s prog w f (i + 1) xs ys r) : Lk A s prog w f i (x :: xs) (y :: ys) r
  | part {i : Nat} {x y : Value} {r : Bool} (xs ys : List Value) (h : EqAt A s x y false) (k : ∀ (E : Value → Shared → Prop) (Q : Bool → Shared → Prop), Q r s → wpAny (model prog w) A (oneLt' (f && i == 0) x y) Q E s) : Lk A s prog w f i (x :: xs) (y :: ys) r
theorem keyLt_lk {A : Around} {s : Shared} {prog : Program} {w : World} {f : Bool} {l b : Addr} {pa pb : Array Value} {r : Bool} {Q : Bool → Shared → Prop} {E : Value → Shared → Prop} (hl : IsTup s.heap l pa) (hb : IsTup s.heap b pb) (lk : Lk A s prog w f 0 pa.toList pb.toList r) (h : Q r s) :
    wpAny (model prog w) A (keyLt' (tupKind f) (.ref l) (.ref b)) Q E s := by
  obtain ⟨o1, ho, hc, n, hd⟩ := id hl
  obtain ⟨o2, ho2, hc2, n2, hd2⟩ := id hb
  rw [keyLt_tuples]
  refine wpAny_bind (listItems_at ho hd ?_)
  refine wpAny_bind (listItems_at ho2 hd2 ?_)
  refine wpAny_bind (wpAny_forIn_list _ (fun rest c s' => c = (none, ()) ∧ s' = s ∧ ∃ (i : Nat) (vs ws : List Value), rest = (vs.zip ws).zipIdx i ∧ Lk A s prog w f i vs ws r ∧ vs.length + pb.size = ws.length + pa.size)
    (fun c s' => s' = s ∧ (c = (some r, ()) ∨ (c = (none, ()) ∧ r = decide (pa.size < pb.size)))) ?turn ?fin _ _ ⟨rfl, rfl, 0, _, _, rfl, lk, by simp; omega⟩ |> fun z => wpAny_mono z ?post fun _ _ e => e)
  case turn =>
    rintro ⟨⟨p, q⟩, j⟩ rest c s' ⟨rfl, rfl, i, vs, ws, hz, lk, hlen⟩
    cases lk with
    | both => simp at hz
    | left => simp at hz
    | right => simp at hz
    | @like _ x y xs ys _ he t =>
      rw [List.zip_cons_cons, List.zipIdx_cons] at hz
      injection hz with e1 e2
      injection e1 with e3 e4
      injection e3 with e5 e6
      subst e5 e6 e4
      simp only [List.length_cons] at hlen
      refine wpAny_bind (he prog w _ _ ?_)
      exact wpAny_pure ⟨rfl, rfl, _, _, _, e2, t, by omega⟩
    | @part _ x y _ xs ys he k =>
      rw [List.zip_cons_cons, List.zipIdx_cons] at hz
      injection hz with e1 e2
      injection e1 with e3 e4
      injection e3 with e5 e6
      subst e5 e6 e4
      refine wpAny_bind (he prog w _ _ ?_)
      exact wpAny_bind (k _ _ (wpAny_pure ⟨rfl, .inl rfl⟩))
  case fin =>
    rintro c s' ⟨rfl, rfl, i, vs, ws, hz, lk, hlen⟩
    refine ⟨rfl, .inr ⟨rfl, ?_⟩⟩
    cases lk with
    | both => simp only [List.length_nil] at hlen; exact (decide_eq_false (by omega)).symm
    | left => simp only [List.length_nil, List.length_cons] at hlen; exact (decide_eq_true (by omega)).symm
    | right => simp only [List.length_nil, List.length_cons] at hlen; exact (decide_eq_false (by omega)).symm
    | like => simp at hz
    | part => simp at hz
  case post =>
    rintro c s' ⟨rfl, rfl | ⟨rfl, hr⟩⟩
    · exact wpAny_pure h
    · subst hr
      exact wpAny_pure h
section
variable {X : Cx} {pins : List (Addr × Obj)} {σ : L2.St} {H : Hp} {s : Shared}
def Dt.flat : Dt → Bool
  | .tup _ => false
  | _ => true
theorem oneLt_D (I : Inv X pins σ H s) {d d' : Dt} {v v' : V} {u u' : Value} {A : Around} {g : Bool} (h : DtIs H v d) (r : RelV v u) (h' : DtIs H v' d') (r' : RelV v' u') (hk : Dt.like d d' = true) (hu : A.units + d.dp < cLine) (hg : g = true → Dt.flat d = true)
    {prog : Program} {w : World} {E : Value → Shared → Prop} {Q : Bool → Shared → Prop} (q : Q (Dt.blt d d') s) : wpAny (model prog w) A (oneLt' g u u') Q E s := by
  cases g with
  | false =>
    rw [oneLt_false]
    exact wpAny_bind (ltAt_D I A h r h' r' hk hu prog w _ _ (wpAny_truthy_bool q))
  | true =>
    have hf := hg rfl
    cases h with
    | int i =>
      cases h' with
      | int j =>
        obtain ⟨t, rfl⟩ := r
        obtain ⟨t', rfl⟩ := r'
        exact oneLt_int (by simpa only [Dt.blt] using q)
      | str y => simp only [Dt.like, Bool.false_eq_true] at hk
      | tup _ _ => simp only [Dt.like, Bool.false_eq_true] at hk
    | str x =>
      cases h' with
      | str y =>
        obtain ⟨t, rfl⟩ := r
        obtain ⟨t', rfl⟩ := r'
        exact oneLt_str (by simpa only [Dt.blt] using q)
      | int j => simp only [Dt.like, Bool.false_eq_true] at hk
      | tup _ _ => simp only [Dt.like, Bool.false_eq_true] at hk
    | tup _ _ => simp only [Dt.flat, Bool.false_eq_true] at hf
theorem lk_D (I : Inv X pins σ H s) {f : Bool} {prog : Program} {w : World} : ∀ {ds ds' : List Dt} {vs vs' : List V} {us us' : List Value} (A : Around) (i : Nat), DtsIs H vs ds → Vals vs us → DtsIs H vs' ds' → Vals vs' us' → Dt.likes ds ds' = true → A.units + Dt.dps ds < cLine →
    (f = true → i = 0 → ∀ d, ds.head? = some d → Dt.flat d = true) → Lk A s prog w f i us us' (Dt.blts ds ds')
  | [], [] => by
    intro A i h r h' r' hk hu hf
    cases h
    cases r
    cases h'
    cases r'
    rw [show Dt.blts [] [] = false by simp only [Dt.blts]]; exact .both _
  | [], _ :: _ => by
    intro A i h r h' r' hk hu hf
    cases h
    cases r
    cases h'
    cases r'
    rw [show ∀ a l, Dt.blts [] (a :: l) = true from fun a l => by simp only [Dt.blts]]; exact .left _ _ _
  | _ :: _, [] => by
    intro A i h r h' r' hk hu hf
    cases h
    cases r
    cases h'
    cases r'
    rw [show ∀ a l, Dt.blts (a :: l) [] = false from fun a l => by simp only [Dt.blts]]; exact .right _ _ _
  | d :: ds, d' :: ds' => by
    intro A i h r h' r' hk hu hf
    cases h with
    | cons h t =>
    cases r with
    | cons r rs =>
    cases h' with
    | cons h' t' =>
    cases r' with
    | cons r' rs' =>
    have hk' : Dt.like d d' = true ∧ Dt.likes ds ds' = true := by simpa only [Dt.likes, Bool.and_eq_true] using hk
    have hu' : A.units + max d.dp (Dt.dps ds) < cLine := by simpa only [Dt.dps] using hu
    have hq := eqAt_D I A h r h' r' (by omega)
    rw [show Dt.blts (d :: ds) (d' :: ds') = if Dt.beq d d' = true then Dt.blts ds ds' else Dt.blt d d' by simp only [Dt.blts]]
    cases hb : Dt.beq d d' with
    | true =>
      rw [hb] at hq
      rw [if_pos rfl]
      exact .like hq (lk_D I A (i + 1) t rs t' rs' hk'.2 (by omega) (fun _ z => absurd z (by omega)))
    | false =>
      rw [hb] at hq
      rw [if_neg Bool.false_ne_true]
      refine .part _ _ hq fun E Q q => oneLt_D I h r h' r' hk'.1 (by omega) (fun hg => ?_) q
      rw [Bool.and_eq_true] at hg
      exact hf hg.1 (by simpa using hg.2) d rfl
end
end BF
namespace BF
open PySem PySem.Spec PyProof.Rows L2 PySem.SeqAt
section
variable {X : Cx} {pins : List (Addr × Obj)} {σ : L2.St} {H : Hp} {s : Shared}
def DatOf (H : Hp) (u : Value) (d : Dt) : Prop := ∃ v, RelV v u ∧ DtIs H v d
theorem DatOf.inj {u : Value} {d d' : Dt} (h : DatOf H u d) (h' : DatOf H u d') : d = d' := by
  obtain ⟨v, r, q⟩ := h
  obtain ⟨v', r', q'⟩ := h'
  cases q with
  | int i =>
    obtain ⟨t, rfl⟩ := r
    cases q' with
    | int j => obtain ⟨t', e⟩ := r'; cases e; rfl
    | str y => obtain ⟨t', e⟩ := r'; cases e
    | tup e _ => cases r'
  | str x =>
    obtain ⟨t, rfl⟩ := r
    cases q' with
    | int j => obtain ⟨t', e⟩ := r'; cases e
    | str y => obtain ⟨t', e⟩ := r'; cases e; rfl
    | tup e _ => cases r'
  | @tup a xs ds e h =>
    cases r
    cases q' with
    | int j => obtain ⟨t', e⟩ := r'; cases e
    | str y => obtain ⟨t', e⟩ := r'; cases e
    | @tup a' xs' ds' e' h2 =>
      cases r'
      exact DtIs.inj (.tup e h) (.tup e' h2)
open Classical in
noncomputable def datKey (H : Hp) (p : Keyed) : Dt := if h : ∃ d, DatOf H p.1 d then Classical.choose h else .int 0
theorem datKey_eq {p : Keyed} {d : Dt} (h : DatOf H p.1 d) : datKey H p = d := by
  have hx : ∃ d, DatOf H p.1 d := ⟨d, h⟩
  unfold datKey
  rw [dif_pos hx]
  exact DatOf.inj (Classical.choose_spec hx) h
noncomputable def ordT (I : Inv X pins σ H s) (prog : Program) (w : World) (A : Around) (E : Value → Shared → Prop) (f : Bool) (P : Dt → Prop) (hP : ∀ d d', P d → P d' → ∃ l m, d = .tup l ∧ d' = .tup m ∧ Dt.likes l m = true ∧ A.units + Dt.dps l < cLine ∧ (f = true → ∀ a, l.head? = some a → Dt.flat a = true)) :
    Ord (model prog w) A E s (tupKind f) where
  O := dtOrd
  key := datKey H
  G := fun p => ∃ d, DatOf H p.1 d ∧ P d
  lt := fun {st x y Q} hk gx gy h => by
    obtain ⟨d, hd, pd⟩ := gx
    obtain ⟨d', hd', pd'⟩ := gy
    rw [datKey_eq hd, datKey_eq hd'] at h
    obtain ⟨l, m, rfl, rfl, lk, hu, hf⟩ := hP d d' pd pd'
    obtain ⟨v, r, q⟩ := hd
    obtain ⟨v', r', q'⟩ := hd'
    obtain ⟨x1, x2⟩ := x
    obtain ⟨y1, y2⟩ := y
    cases q with
    | tup e qs =>
      cases q' with
      | tup e' qs' =>
        cases r
        cases r'
        obtain ⟨its, rv, p, _⟩ := I.tuple (SqT.of e)
        obtain ⟨its', rv', p', _⟩ := I.tuple (SqT.of e')
        rw [lt'_eq]
        refine wpS_bind (wpS_get ?_)
        rw [hk]
        have hb : Q (some (Dt.blts l m)) st := by
          have : dtOrd.blt (.tup l) (.tup m) = Dt.blts l m := by show Dt.blt _ _ = _; simp only [Dt.blt]
          rw [← this]; exact h
        refine wpS_bind (wpS_lift (wpAny_attempt (keyLt_lk p p' (lk_D I A 0 qs rv qs' rv' lk hu (fun z _ => hf z)) ⟨rfl, ?_⟩)))
        exact wpS_pure hb
end
end BF
namespace BF
open PySem PySem.Spec PyProof.Rows L2 PySem.SeqAt
theorem vals_perm {us us' : List Value} (p : us.Perm us') : ∀ {ys : List V}, Vals ys us → ∃ zs, Vals zs us' ∧ ys.Perm zs := by
  induction p with
  | nil => intro ys r; exact ⟨ys, r, .refl _⟩
  | cons x _ ih =>
    intro ys r
    cases r with
    | cons r1 r2 =>
      obtain ⟨zs, a, b⟩ := ih r2
      exact ⟨_ :: zs, .cons r1 a, b.cons _⟩
  | swap x y l =>
    intro ys r
    cases r with
    | cons r1 r2 =>
      cases r2 with
      | cons r3 r4 => exact ⟨_ :: _ :: _, .cons r3 (.cons r1 r4), .swap _ _ _⟩
  | trans _ _ ih1 ih2 =>
    intro ys r
    obtain ⟨zs, a, b⟩ := ih1 r
    obtain ⟨ws, c, d⟩ := ih2 a
    exact ⟨ws, c, b.trans d⟩
theorem dts_perm {H : Hp} {ys zs : List V} (p : ys.Perm zs) : ∀ {ds : List Dt}, DtsIs H ys ds → ∃ es, DtsIs H zs es ∧ ds.Perm es := by
  induction p with
  | nil => intro ds r; exact ⟨ds, r, .refl _⟩
  | cons x _ ih =>
    intro ds r
    cases r with
    | cons r1 r2 =>
      obtain ⟨es, a, b⟩ := ih r2
      exact ⟨_ :: es, .cons r1 a, b.cons _⟩
  | swap x y l =>
    intro ds r
    cases r with
    | cons r1 r2 =>
      cases r2 with
      | cons r3 r4 => exact ⟨_ :: _ :: _, .cons r3 (.cons r1 r4), .swap _ _ _⟩
  | trans _ _ ih1 ih2 =>
    intro ds r
    obtain ⟨es, a, b⟩ := ih1 r
    obtain ⟨fs, c, d⟩ := ih2 a
    exact ⟨fs, c, b.trans d⟩
def Dt.tag : Dt → String
  | .int _ => "int"
  | .str _ => "str"
  | .tup _ => "tuple"
theorem mid_old {h : Heap} {vs : List Value} {c : Addr} {o : Obj} (e : h.get? c = some o) : (midHeap (bagHeap h vs) (h.objs.size + 1) vs).get? c = some o := by
  have hc := Heap.lt_size e
  refine Heap.get?_push_of_some _ (Heap.get?_push_of_some _ ?_)
  rw [Heap.get?_update_other _ _ (Ne.symm (Nat.ne_of_lt (Nat.lt_succ_of_lt hc)))]
  refine Heap.get?_push_of_some _ ?_
  rw [Heap.get?_update_other _ _ (Ne.symm (Nat.ne_of_lt hc))]
  exact Heap.get?_push_of_some _ e
theorem dts_at {H : Hp} : ∀ {ys : List V} {ds : List Dt} {us : List Value}, DtsIs H ys ds → Vals ys us → ∀ (i : Nat) (u : Value), us[i]? = some u → ∃ d, ds[i]? = some d ∧ DatOf H u d
  | _, _, _, .nil, .nil, i, u, e => by simp at e
  | _, _, _, .cons h t, .cons r rs, 0, u, e => by
    simp at e
    subst e
    exact ⟨_, rfl, _, r, h⟩
  | _, _, _, .cons h t, .cons r rs, i + 1, u, e => by
    simp at e
    obtain ⟨d, e1, e2⟩ := dts_at t rs i u e
    exact ⟨d, by simpa using e1, e2⟩
section
variable {X : Cx}
theorem looks_D {M : Model} {pins : List (Addr × Obj)} {σ : L2.St} {H : Hp} {s : Shared} (I : Inv X pins σ H s) {u : Value} {d : Dt} (h : DatOf H u d) : PySem.W.Looks M s.heap (typeOf u) (.type d.tag) := by
  obtain ⟨v, r, q⟩ := h
  cases q with
  | int i => obtain ⟨t, rfl⟩ := r; exact .now
  | str x => obtain ⟨t, rfl⟩ := r; exact .now
  | tup e _ =>
    cases r
    obtain ⟨its, _, ⟨o, ho, hc, _⟩, _⟩ := I.tuple (SqT.of e)
    exact hc ▸ (show PySem.W.Looks M s.heap (typeOf (.ref _)) o.cls from (PySem.W.Looks.ld ho).andThen .now)
theorem katT {pins : List (Addr × Obj)} {σ : L2.St} {H : Hp} {s : Shared} (I : Inv X pins σ H s) {T : String} : ∀ {ys : List V} {ds : List Dt} {us : List Value}, DtsIs H ys ds → Vals ys us → (∀ d ∈ ds, ∃ e r, d = .tup (e :: r) ∧ e.tag = T) →
    ∃ fs, PySem.W.KatTups s.heap us fs ∧ fs.length = us.length ∧ ∀ f ∈ fs, ∃ e, DatOf H f e ∧ e.tag = T
  | _, _, _, .nil, .nil, _ => ⟨[], trivial, rfl, fun _ z => nomatch z⟩
  | _, _, _, .cons h t, .cons r rs, hs => by
    obtain ⟨fs, k, lf, hf⟩ := katT I t rs fun d hd => hs d (List.mem_cons_of_mem _ hd)
    obtain ⟨e, r', rfl, et⟩ := hs _ (List.mem_cons_self ..)
    cases h with
    | tup ex qs =>
      cases r
      obtain ⟨its, rv, ⟨o, ho, hc, n, hd⟩, _⟩ := I.tuple (SqT.of ex)
      cases qs with
      | cons q1 q2 =>
        cases rv with
        | cons r1 r2 =>
          refine ⟨_ :: fs, PySem.W.KatTups.cons ho hc hd rfl k, by simp [lf], fun f hf' => ?_⟩
          rcases List.mem_cons.mp hf' with rfl | hf'
          · exact ⟨e, ⟨_, r1, q1⟩, et⟩
          · exact hf f hf'
def rSortT (X : Cx) : List V → Hp → VK → Prop := fun xs H Q => ∃ a ys ds T, xs = [.ref a] ∧ SqL X.K H a ys ∧ DtsIs H ys ds ∧ (∀ d ∈ ds, ∃ e r, d = .tup (e :: r) ∧ e.tag = T) ∧
  (∀ d ∈ ds, ∀ d' ∈ ds, Dt.like d d' = true) ∧ (∀ d ∈ ds, X.A.units + 4 + d.dp < cLine) ∧
  ∀ l zs es, H l = none → zs.Perm ys → DtsIs H zs es → es.Perm ds → es.Pairwise (fun d d' => Dt.blt d' d = false) → Q (.ref l) (upd H l (.lst zs))
theorem call_sortedT : CallR X (.builtin "sorted") (rSortT X) := by
  intro pins s σ H xs us Q I r h
  obtain ⟨a, ys, ds, T, rfl, hS, hD, hT, hL, hu, q⟩ := h
  obtain ⟨u, rfl, r1⟩ := vals1 r
  cases r1
  obtain ⟨its, rv, p, hz⟩ := I.list hS
  have hlen : its.length ≤ sizeLine := by rw [← rv.length]; exact hz
  have I6 : Inv X pins σ H { s with heap := midHeap (bagHeap s.heap its) (s.heap.objs.size + 1) its } := I.kept (t' := s.toks) fun b o e => mid_old e
  refine sorted_any (kd := tupKind (Value.type T != Value.type "tuple")) p.isList hlen (fun x y => Dt.blt (datKey H y) (datKey H x) = false) (fun h2 A' E' Q' q' => ?_) (fun A' E' hA => ?_) fun ks kp ku => ?_
  · obtain ⟨fs, k, lf, hf⟩ := katT I6 hD rv hT
    refine PySem.W.kat_kind (T := .type T) k (by omega) (fun v hv => ?_) (by simp) q'
    obtain ⟨e, he, et⟩ := hf v hv
    exact et ▸ looks_D I6 he
  · refine ⟨ordT I6 X.prog X.w A' E' _ (fun d => d ∈ ds) fun d d' hd hd' => ?_, fun i x ex => ?_, fun x y hxy => hxy⟩
    · obtain ⟨e, l, rfl, et⟩ := hT d hd
      obtain ⟨e', l', rfl, et'⟩ := hT d' hd'
      refine ⟨_, _, rfl, rfl, by simpa only [Dt.like] using hL _ hd _ hd', ?_, fun hf b hb => ?_⟩
      · have := hu _ hd
        simp only [Dt.dp] at this
        omega
      · have : e = b := by simpa using hb
        subst this
        cases e with
        | int _ => rfl
        | str _ => rfl
        | tup m => rw [← et] at hf; simp [Dt.tag] at hf
    · have hx : (pairsOf its).toList[i]? = some x := by simpa using ex
      rw [pairsOf_toList] at hx
      obtain ⟨d, e1, e2⟩ := dts_at hD rv i x.1 (by
        rw [List.getElem?_zip_eq_some] at hx
        exact hx.1)
      exact ⟨d, e2, List.mem_of_getElem? e1⟩
  · -- the row told
    have kl : ks.toList.Perm (its.zip its) := by rw [← pairsOf_toList]; exact Array.perm_iff_toList_perm.mp kp
    have k2 : ((ks.map (·.2)).toList).Perm its := by
      rw [Array.toList_map]
      have := kl.map (·.2)
      rwa [List.map_snd_zip (by omega)] at this
    have k12 : ∀ x ∈ ks.toList, x.1 = x.2 := fun x hx => by
      have := kl.mem_iff.mp hx
      obtain ⟨i, e⟩ := List.mem_iff_getElem?.mp this
      rw [List.getElem?_zip_eq_some] at e
      exact Option.some.inj (e.1.symm.trans e.2)
    obtain ⟨zs, vz, pz⟩ := vals_perm k2.symm rv
    obtain ⟨es, de, pe⟩ := dts_perm pz hD
    refine ⟨.ref (s.heap.objs.size + 1), upd H (s.heap.objs.size + 1) (.lst zs), I.laid (t' := s.toks) (fun b o e => sortedAll_old e) (Nat.le_succ _) ?_, rfl, q _ zs es (I.hok.fresh (Nat.le_succ _)) pz.symm de pe.symm ?_⟩
    · obtain ⟨n, e⟩ := sortedAll_at s.heap its (ks.map (·.2))
      refine ⟨by rw [← pz.length_eq]; exact hz, (ks.map (·.2)).toList, n, vz, ?_⟩
      rw [e]
    · rw [List.pairwise_iff_getElem] at ku ⊢
      intro i j hi hj hij
      have lks : ks.toList.length = es.length := by
        rw [kl.length_eq, List.length_zip, ← de.length, ← pz.length_eq, rv.length, Nat.min_self]
      have z := ku i j (by omega) (by omega) hij
      have key : ∀ (i : Nat) (h1 : i < ks.toList.length) (h2 : i < es.length), datKey H ks.toList[i] = es[i] := fun i h1 h2 => by
        have e0 : ((ks.map (·.2)).toList)[i]? = some ks.toList[i].2 := by
          rw [Array.toList_map, List.getElem?_map, List.getElem?_eq_getElem h1]; rfl
        obtain ⟨d, e1, e2⟩ := dts_at de vz i _ e0
        rw [List.getElem?_eq_getElem h2] at e1
        cases e1
        refine datKey_eq ?_
        rw [k12 _ (List.getElem_mem h1)]
        exact e2
      rw [key i (by omega) hi, key j (by omega) hj] at z
      exact z
end
end BF
namespace BF
open PySem PySem.Spec PyProof.Rows L2 PySem.W
mutual
inductive DatH (h : Heap) : Value → Dt → Prop where
  | int (i : Int) (t : Tok) : DatH h (.int i t) (.int i)
  | str (x : Str) (t : Tok) : DatH h (.str x t) (.str x)
  | tup {a : Addr} {o : Obj} {items : Array Value} {n : Nat} {ds : List Dt} (ho : h.get? a = some o) (hc : o.cls = .type "tuple") (hd : o.data = .seq items n) (r : DatHs h items.toList ds) : DatH h (.ref a) (.tup ds)
inductive DatHs (h : Heap) : List Value → List Dt → Prop where
  | nil : DatHs h [] []
  | cons {v : Value} {d : Dt} {vs : List Value} {ds : List Dt} (q : DatH h v d) (t : DatHs h vs ds) : DatHs h (v :: vs) (d :: ds)
end
mutual
theorem DatH.keep {h h' : Heap} (k : ∀ b o, h.get? b = some o → h'.get? b = some o) : ∀ {d : Dt} {v : Value}, DatH h v d → DatH h' v d
  | _, _, .int i t => .int i t
  | _, _, .str x t => .str x t
  | .tup ds, _, .tup ho hc hd r => .tup (k _ _ ho) hc hd (DatHs.keep k r)
theorem DatHs.keep {h h' : Heap} (k : ∀ b o, h.get? b = some o → h'.get? b = some o) : ∀ {ds : List Dt} {vs : List Value}, DatHs h vs ds → DatHs h' vs ds
  | [], _, .nil => .nil
  | d :: ds, _, .cons q t => .cons (DatH.keep k q) (DatHs.keep k t)
end
mutual
def hashD (w : World) : Dt → Int
  | .int i => hashInt i
  | .str x => hashStr w x
  | .tup l => reduceHash (Builtin.Tuple.tupleHashOf (hashDs w l))
def hashDs (w : World) : List Dt → List Int
  | [] => []
  | d :: l => hashD w d :: hashDs w l
end
section
variable {X : Cx} {pins : List (Addr × Obj)} {σ : L2.St} {H : Hp} {s : Shared}
mutual
theorem datH_of (I : Inv X pins σ H s) : ∀ {d : Dt} {v : V} {u : Value}, DtIs H v d → RelV v u → DatH s.heap u d
  | _, _, _, .int i, r => by obtain ⟨t, rfl⟩ := r; exact .int i t
  | _, _, _, .str x, r => by obtain ⟨t, rfl⟩ := r; exact .str x t
  | .tup ds, _, _, .tup e q, r => by
    cases r
    obtain ⟨its, rv, ⟨o, ho, hc, n, hd⟩, _⟩ := I.tuple (SqT.of e)
    exact .tup ho hc hd (by rw [List.toList_toArray]; exact datHs_of I q rv)
theorem datHs_of (I : Inv X pins σ H s) : ∀ {ds : List Dt} {vs : List V} {us : List Value}, DtsIs H vs ds → Vals vs us → DatHs s.heap us ds
  | [], _, _, .nil, .nil => .nil
  | d :: ds, _, _, .cons q t, .cons r rs => .cons (datH_of I q r) (datHs_of I t rs)
end
end
section
variable {prog : Program} {w : World} {E : Value → Shared → Prop}
set_option maxRecDepth 100000 in
mutual
theorem pyHash_D : ∀ (d : Dt) (v : Value) (A : Around) (s : Shared) (Q : Int → Shared → Prop), DatH s.heap v d → A.units + d.dp < cLine → (∀ tk, s.toks ≤ tk → Q (hashD w d) { s with toks := tk }) → wpAny (model prog w) A (pyHash v) Q E s
  | .int i, _, A, s, Q, .int _ t, hu, h => wpAny_pyHash_int (h _ (Nat.le_succ _))
  | .str x, _, A, s, Q, .str _ t, hu, h => wpAny_pyHash_str (h _ (Nat.le_succ _))
  | .tup ds, _, A, s, Q, .tup (a := a) (items := items) ho hc hd r, hu, h => by
    have hu' : A.units + (Dt.dps ds + 1) < cLine := by simpa only [Dt.dp] using hu
    refine pyHash_slot (T := "tuple") ⟨_, ho, hc⟩ F.slot_tuple_hash F.entry_tuple_hash (F.args_tuple_hash_1 _) (beq_builtin_none _) (.inr (by omega)) ?_
    show wpAny _ _ (Builtin.Tuple.tupleItemsOf (.ref a) >>= _) _ _ s
    refine wpAny_bind (wpAny_tupleItemsOf ho hd ?_)
    refine wpAny_bind ?_
    rw [← Array.forIn_toList]
    refine hashLoop_D ds items.toList A.in1 s #[] _ r (by simp only [Around.in1_units]; omega) fun tk htk b hb => ?_
    show wpAny _ _ (retInt (Builtin.Tuple.tupleHashOf b.toList)) _ _ _
    rw [hb]
    exact wpAny_bind (wpAny_mkInt (wpAny_pure ⟨_, _, rfl, by have := h (tk + 1) (Nat.le_succ_of_le htk); rw [hashD] at this; exact this⟩))
theorem hashLoop_D : ∀ (ds : List Dt) (vs : List Value) (A : Around) (s : Shared) (b : Array Int) (Q : Array Int → Shared → Prop), DatHs s.heap vs ds → A.units + Dt.dps ds < cLine →
    (∀ tk, s.toks ≤ tk → ∀ b', b'.toList = b.toList ++ hashDs w ds → Q b' { s with toks := tk }) →
    wpAny (model prog w) A (forIn vs b fun x r => do let h ← pyHash x; pure PUnit.unit; pure (ForInStep.yield (r.push h))) Q E s
  | [], _, A, s, b, Q, .nil, _, h => wpAny_pure (h s.toks (Nat.le_refl _) b (by simp [hashDs]))
  | d :: ds, _, A, s, b, Q, .cons q t, hu, h => by
    simp only [Dt.dps] at hu
    rw [List.forIn_cons]
    refine wpAny_bind (wpAny_bind (pyHash_D d _ A s _ q (by omega) fun tk htk => ?_))
    refine wpAny_bind (wpAny_pure (wpAny_pure ?_))
    exact hashLoop_D ds _ A _ _ Q t (by omega) fun tk' htk' b' hb => h tk' (Nat.le_trans htk htk') b' (by simp [hb, hashDs])
end
mutual
theorem byValue_D : ∀ (d : Dt) (v : Value) (n : Nat) (A : Around) (s : Shared) (Q : Bool → Shared → Prop), DatH s.heap v d → (∀ b, Q b s) → wpAny (model prog w) A (hashByValue n v) Q E s
  | .int i, _, n, A, s, Q, .int _ t, h => by
    have : hashByValue n (.int i t) = pure true := by cases n <;> rfl
    rw [this]; exact wpAny_pure (h _)
  | .str x, _, n, A, s, Q, .str _ t, h => by
    have : hashByValue n (.str x t) = pure false := by cases n <;> rfl
    rw [this]; exact wpAny_pure (h _)
  | .tup ds, _, 0, A, s, Q, .tup (a := a) (items := items) ho hc hd r, h => wpAny_pure (h _)
  | .tup ds, _, n + 1, A, s, Q, .tup (a := a) (items := items) ho hc hd r, h => by
    unfold hashByValue
    refine wpAny_bind (wpAny_specialOf ⟨_, ho, hc⟩ F.slot_tuple_hash.lookup ?_)
    dsimp only
    refine wpAny_bind (wpAny_seqItems ho hd ?_)
    show wpAny _ _ (forIn items _ _ >>= _) _ _ _
    rw [← Array.forIn_toList]
    refine wpAny_bind (byValues_D ds items.toList n A s _ r fun b => ?_)
    cases b with
    | none => exact wpAny_pure (h _)
    | some b => exact wpAny_pure (h _)
theorem byValues_D : ∀ (ds : List Dt) (vs : List Value) (n : Nat) (A : Around) (s : Shared) (Q : Option Bool × PUnit → Shared → Prop), DatHs s.heap vs ds → (∀ b, Q (b, ⟨⟩) s) →
    wpAny (model prog w) A (forIn vs ((none, ⟨⟩) : Option Bool × PUnit) fun x r => do
      let c ← hashByValue n x
      if (!c) = true then pure (ForInStep.done (some false, ⟨⟩)) else pure (ForInStep.yield (none, ⟨⟩))) Q E s
  | [], _, n, A, s, Q, .nil, h => wpAny_pure (h _)
  | d :: ds, _, n, A, s, Q, .cons q t, h => by
    rw [List.forIn_cons]
    refine wpAny_bind (wpAny_bind (byValue_D d _ n A s _ q fun b => ?_))
    cases b with
    | false => exact wpAny_pure (wpAny_pure (h _))
    | true => exact wpAny_pure (byValues_D ds _ n A s Q t h)
end
end
end BF
namespace BF
open PySem PySem.Spec PyProof.Rows L2 PySem.W
section
variable {prog : Program} {w : World} {E : Value → Shared → Prop}
theorem sub_tt : isSubtype (.type "tuple") (.type "tuple") = pure true := PySem.isSubtype_tuple_tuple
mutual
theorem quiet_D : ∀ (d : Dt) (v : Value) (n : Nat) (A : Around) (s : Shared) (Q : Bool → Shared → Prop), DatH s.heap v d → d.dp ≤ n → Q true s → wpAny (model prog w) A (eqIsQuiet n v) Q E s
  | .int i, _, n, A, s, Q, .int _ t, hn, h => by
    rw [eqIsQuiet_byValue n (v := .int i t) rfl]; exact wpAny_pure h
  | .str x, _, n, A, s, Q, .str _ t, hn, h => by
    rw [eqIsQuiet_byValue n (v := .str x t) rfl]; exact wpAny_pure h
  | .tup ds, _, 0, A, s, Q, .tup (a := a) (items := items) ho hc hd r, hn, h => by
    simp only [Dt.dp] at hn
    omega
  | .tup ds, _, n + 1, A, s, Q, .tup (a := a) (items := items) ho hc hd r, hn, h => by
    have hn' : Dt.dps ds ≤ n := by simp only [Dt.dp] at hn; omega
    unfold eqIsQuiet
    refine wpAny_bind (wpAny_specialOf ⟨_, ho, hc⟩ F.slot_tuple_eq.lookup ?_)
    dsimp only
    refine wpAny_bind (wpAny_isInstance ⟨_, ho, hc⟩ sub_tt ?_)
    simp only [Bool.not_true, Bool.false_eq_true, if_false]
    refine wpAny_bind (wpAny_seqItems ho hd ?_)
    show wpAny _ _ (forIn items _ _ >>= _) _ _ _
    rw [← Array.forIn_toList]
    exact wpAny_bind (quiets_D ds items.toList n A s _ r hn' (wpAny_pure h))
theorem quiets_D : ∀ (ds : List Dt) (vs : List Value) (n : Nat) (A : Around) (s : Shared) (Q : Option Bool × PUnit → Shared → Prop), DatHs s.heap vs ds → Dt.dps ds ≤ n → Q (none, ⟨⟩) s →
    wpAny (model prog w) A (forIn vs ((none, ⟨⟩) : Option Bool × PUnit) fun x r => do
      let c ← eqIsQuiet n x
      if (!c) = true then pure (ForInStep.done (some false, ⟨⟩)) else pure (ForInStep.yield (none, ⟨⟩))) Q E s
  | [], _, n, A, s, Q, .nil, _, h => wpAny_pure h
  | d :: ds, _, n, A, s, Q, .cons q t, hn, h => by
    simp only [Dt.dps] at hn
    rw [List.forIn_cons]
    exact wpAny_bind (wpAny_bind (quiet_D d _ n A s _ q (by omega) (wpAny_pure (quiets_D ds _ n A s Q t (by omega) h))))
end
mutual
theorem ofCls_D : ∀ (d : Dt) (v : Value) (n : Nat) (A : Around) (s : Shared) (Q : Bool → Shared → Prop), DatH s.heap v d → d.dp ≤ n → Q false s → wpAny (model prog w) A (ofAClassStatement n v) Q E s
  | .int i, _, n, A, s, Q, .int _ t, hn, h => by
    have : ofAClassStatement n (.int i t) = pure false := by cases n <;> rfl
    rw [this]; exact wpAny_pure h
  | .str x, _, n, A, s, Q, .str _ t, hn, h => by
    have : ofAClassStatement n (.str x t) = pure false := by cases n <;> rfl
    rw [this]; exact wpAny_pure h
  | .tup ds, _, 0, A, s, Q, .tup (a := a) (items := items) ho hc hd r, hn, h => by
    simp only [Dt.dp] at hn
    omega
  | .tup ds, _, n + 1, A, s, Q, .tup (a := a) (items := items) ho hc hd r, hn, h => by
    have hn' : Dt.dps ds ≤ n := by simp only [Dt.dp] at hn; omega
    unfold ofAClassStatement
    refine wpAny_bind (wpAny_typeOf (T := "tuple") ⟨_, ho, hc⟩ ?_)
    dsimp only
    refine wpAny_bind (wpAny_pure ?_)
    simp only [Bool.not_true, Bool.false_eq_true, if_false]
    refine wpAny_bind (wpAny_seqItems ho hd ?_)
    show wpAny _ _ (forIn items _ _ >>= _) _ _ _
    rw [← Array.forIn_toList]
    exact wpAny_bind (ofClss_D ds items.toList n A s _ r hn' (wpAny_pure h))
theorem ofClss_D : ∀ (ds : List Dt) (vs : List Value) (n : Nat) (A : Around) (s : Shared) (Q : Option Bool × PUnit → Shared → Prop), DatHs s.heap vs ds → Dt.dps ds ≤ n → Q (none, ⟨⟩) s →
    wpAny (model prog w) A (forIn vs ((none, ⟨⟩) : Option Bool × PUnit) fun x r => do
      let c ← ofAClassStatement n x
      if c = true then pure (ForInStep.done (some true, ⟨⟩)) else pure (ForInStep.yield (none, ⟨⟩))) Q E s
  | [], _, n, A, s, Q, .nil, _, h => wpAny_pure h
  | d :: ds, _, n, A, s, Q, .cons q t, hn, h => by
    simp only [Dt.dps] at hn
    rw [List.forIn_cons]
    exact wpAny_bind (wpAny_bind (ofCls_D d _ n A s _ q (by omega) (wpAny_pure (ofClss_D ds _ n A s Q t (by omega) h))))
end
end
end BF
namespace BF
open PySem PySem.Spec PyProof.Rows L2 PySem.SeqAt
theorem DatHs.length {h : Heap} : ∀ {ds : List Dt} {vs : List Value}, DatHs h vs ds → vs.length = ds.length
  | [], _, .nil => rfl
  | d :: ds, _, .cons q t => by rw [List.length_cons, List.length_cons, DatHs.length t]
mutual
theorem DatH.inj {h : Heap} : ∀ {d : Dt} {v : Value} {d' : Dt}, DatH h v d → DatH h v d' → d = d'
  | .int i, _, d', .int _ _, q => by cases q; rfl
  | .str x, _, d', .str _ _, q => by cases q; rfl
  | .tup ds, _, d', .tup ho hc hd r, q => by
    cases q with
    | tup ho2 hc2 hd2 r2 =>
      rw [ho] at ho2
      cases ho2
      rw [hd] at hd2
      cases hd2
      rw [DatHs.inj r r2]
theorem DatHs.inj {h : Heap} : ∀ {ds : List Dt} {vs : List Value} {ds' : List Dt}, DatHs h vs ds → DatHs h vs ds' → ds = ds'
  | [], _, _, .nil, q => by cases q; rfl
  | d :: ds, _, _, .cons q t, q2 => by
    cases q2 with
    | cons a b => rw [DatH.inj q a, DatHs.inj t b]
end
section
variable {s : Shared}
theorem tup_H {h : Heap} {u : Value} {l : List Dt} (q : DatH h u (.tup l)) : ∃ a its o n, u = .ref a ∧ h.get? a = some o ∧ o.cls = .type "tuple" ∧ o.data = .seq its n ∧ DatHs h its.toList l := by
  cases q with
  | tup ho hc hd r => exact ⟨_, _, _, _, rfl, ho, hc, hd, r⟩
mutual
theorem eqAt_H : ∀ {d d' : Dt} {u u' : Value} (A : Around), DatH s.heap u d → DatH s.heap u' d' → A.units + d.dp < cLine → EqAt A s u u' (Dt.beq d d')
  | .int i, .int j => by
    intro A h h' hu
    cases h with
    | int _ t =>
    cases h' with
    | int _ t' => exact EqAt.int_int i t j t'
  | .str x, .str y => by
    intro A h h' hu
    cases h with
    | str _ t =>
    cases h' with
    | str _ t' => exact EqAt.str_str x t y t'
  | .int i, .str y => by
    intro A h h' hu
    cases h with
    | int _ t =>
    cases h' with
    | str _ t' => exact EqAt.int_str i t y t'
  | .str x, .int j => by
    intro A h h' hu
    cases h with
    | str _ t =>
    cases h' with
    | int _ t' => exact EqAt.str_int x t j t'
  | .int i, .tup m => by
    intro A h h' hu
    cases h with
    | int _ t =>
    cases h' with
    | tup ho hc hd r => exact EqAt.int_tuple i t ⟨_, ho, hc, _, hd⟩ (by omega)
  | .str x, .tup m => by
    intro A h h' hu
    cases h with
    | str _ t =>
    cases h' with
    | tup ho hc hd r => exact EqAt.str_tuple x t ⟨_, ho, hc, _, hd⟩ (by omega)
  | .tup l, .int j => by
    intro A h h' hu
    cases h with
    | tup ho hc hd r =>
    cases h' with
    | int _ t' => exact EqAt.tuple_int j t' ⟨_, ho, hc, _, hd⟩ (by omega)
  | .tup l, .str y => by
    intro A h h' hu
    cases h with
    | tup ho hc hd r =>
    cases h' with
    | str _ t' => exact EqAt.tuple_str y t' ⟨_, ho, hc, _, hd⟩ (by omega)
  | .tup l, .tup m => by
    intro A h h' hu
    obtain ⟨a, its, o, n, rfl, ho, hc, hd, r⟩ := tup_H h
    obtain ⟨b, its', o', n', rfl, ho', hc', hd', r'⟩ := tup_H h'
    by_cases hab : a = b
    · subst hab
      have z := DatH.inj (DatH.tup ho hc hd r) (DatH.tup ho' hc' hd' r')
      rw [z, Dt.beq_self]
      exact EqAt.same _
    · have n1 : its.size = l.length := by rw [← Array.length_toList, r.length]
      have n2 : its'.size = m.length := by rw [← Array.length_toList, r'.length]
      have hd2 : A.units + (Dt.dps l + 1) < cLine := by simpa only [Dt.dp] using hu
      have R := RcAt.tuples (A := A) (s := s) (e := itEq l m) ⟨_, ho, hc, _, hd⟩ ⟨_, ho', hc', _, hd'⟩ (by omega) (fun j h1 h2 => by
        have := eqsAt_H A.in1 r r' (by show A.units + 1 + _ < _; omega) j
        exact this _ _ (by simp) (by simp))
      rw [n1, n2, all_itEq] at R
      exact EqAt.of_refs hab R
theorem eqsAt_H : ∀ {ds ds' : List Dt} {us us' : List Value} (A : Around), DatHs s.heap us ds → DatHs s.heap us' ds' → A.units + Dt.dps ds < cLine →
    ∀ (j : Nat) (u u' : Value), us[j]? = some u → us'[j]? = some u' → EqAt A s u u' (itEq ds ds' j)
  | [], _ => by
    intro A h h' hu j u u' e e'
    cases h
    simp at e
  | d :: ds, [] => by
    intro A h h' hu j u u' e e'
    cases h'
    simp at e'
  | d :: ds, d' :: ds' => by
    intro A h h' hu j u u' e e'
    cases h with
    | cons h t =>
    cases h' with
    | cons h' t' =>
    simp only [Dt.dps] at hu
    cases j with
    | zero =>
      have e1 := Option.some.inj e
      have e2 := Option.some.inj e'
      subst e1 e2
      exact eqAt_H A h h' (by omega)
    | succ j =>
    have := eqsAt_H A t t' (by omega) j u u' (by simpa using e) (by simpa using e')
    have z : itEq (d :: ds) (d' :: ds') (j + 1) = itEq ds ds' j := by simp [itEq]
    rw [z]
    exact this
end
end
section
variable {prog : Program} {w : World} {E : Value → Shared → Prop} {A : Around} {s : Shared}
end
end BF
namespace BF
open PySem PySem.Spec PyProof.Rows L2 PySem.SeqAt
section
variable {prog : Program} {w : World} {E : Value → Shared → Prop} {A : Around} {s : Shared}
theorem size512 {n : Nat} (h : n ≤ 512) : n ≤ sizeLine := by rw [sizeLine_eq]; omega
end
end BF
namespace BF
open PySem PySem.Spec PyProof.Rows L2 PySem.SeqAt
theorem mid_old1 {h : Heap} {vs : List Value} {c : Addr} {o : Obj} (e : h.get? c = some o) : (midHeap (h.push (seqObj "list" vs.toArray 0)) h.objs.size vs).get? c = some o := by
  have hc := Heap.lt_size e
  refine Heap.get?_push_of_some _ (Heap.get?_push_of_some _ ?_)
  rw [Heap.get?_update_other _ _ (Ne.symm (Nat.ne_of_lt hc))]
  exact Heap.get?_push_of_some _ e
section
variable {X : Cx}
theorem sort_tail {pins : List (Addr × Obj)} {σ : L2.St} {H : Hp} {s : Shared} (I : Inv X pins σ H s) {A : Around} {E : Value → Shared → Prop} {its : List Value} {ys : List V} {ds : List Dt} {T : String} (rv : Vals ys its) (hlen : its.length ≤ sizeLine) (hD : DtsIs H ys ds)
    (hT : ∀ d ∈ ds, ∃ e r, d = .tup (e :: r) ∧ e.tag = T) (hL : ∀ d ∈ ds, ∀ d' ∈ ds, Dt.like d d' = true) (hu : ∀ d ∈ ds, A.units + 4 + d.dp < cLine) {R : Fin → Shared → Prop}
    (q : ∀ l zs es h', zs.Perm ys → DtsIs H zs es → es.Perm ds → es.Pairwise (fun d d' => Dt.blt d' d = false) → H l = none → Inv X pins σ (upd H l (.lst zs)) { s with heap := h' } → R (.done (.ret (.ref l))) { s with heap := h' }) :
    wpAny (model X.prog X.w) A (do
      let l ← newList its
      let _ ← holding [l] (call (.builtin "list.sort") [l] [])
      ret l) R E s := by
  have I6 : Inv X pins σ H { s with heap := midHeap (s.heap.push (seqObj "list" its.toArray 0)) s.heap.objs.size its } := I.kept (t' := s.toks) fun b o e => mid_old1 e
  refine wpAny_bind (wpAny_newList ?_)
  have hb : (s.heap.push (seqObj "list" its.toArray 0)).get? s.heap.objs.size = some (seqObj "list" its.toArray 0) := Heap.get?_push_size _ rfl
  have o : Σ' o : Ord (model X.prog X.w) A.in1 E { s with heap := midHeap (s.heap.push (seqObj "list" its.toArray 0)) s.heap.objs.size its } (tupKind (Value.type T != Value.type "tuple")), o.all (pairsOf its) ∧ ∀ x y, o.le x y → Dt.blt (datKey H y) (datKey H x) = false := by
    refine ⟨ordT I6 X.prog X.w A.in1 E _ (fun d => d ∈ ds) fun d d' hd hd' => ?_, fun i x ex => ?_, fun x y hxy => hxy⟩
    · obtain ⟨e, l, rfl, et⟩ := hT d hd
      obtain ⟨e', l', rfl, et'⟩ := hT d' hd'
      refine ⟨_, _, rfl, rfl, by simpa only [Dt.like] using hL _ hd _ hd', ?_, fun hf b hb => ?_⟩
      · have := hu _ hd
        simp only [Dt.dp] at this
        show A.units + 1 + _ < _
        omega
      · have : e = b := by simpa using hb
        subst this
        cases e with
        | int _ => rfl
        | str _ => rfl
        | tup m => rw [← et] at hf; simp [Dt.tag] at hf
    · have hx : (pairsOf its).toList[i]? = some x := by simpa using ex
      rw [pairsOf_toList] at hx
      obtain ⟨d, e1, e2⟩ := dts_at hD rv i x.1 (by
        rw [List.getElem?_zip_eq_some] at hx
        exact hx.1)
      exact ⟨d, e2, List.mem_of_getElem? e1⟩
  obtain ⟨o, ga, hle⟩ := o
  refine wpAny_bind (wpAny_holding (wpAny_call_entry slot_list_sort ⟨_, hb, rfl⟩ entry_list_sort (list_sort_any (s := { s with heap := s.heap.push (seqObj "list" its.toArray 0) }) (kd := tupKind (Value.type T != Value.type "tuple")) hb hlen (fun h2 Q q' => ?_) o ga fun ks kp ku => ⟨_, rfl, ?_⟩) (args_list_sort _)))
  · obtain ⟨fs, k, lf, hf⟩ := katT I6 hD rv hT
    refine PySem.W.kat_kind (T := .type T) k (by omega) (fun v hv => ?_) (by simp) q'
    obtain ⟨e, he, et⟩ := hf v hv
    exact et ▸ looks_D I6 he
  · refine wpAny_pure ?_
    have kl : ks.toList.Perm (its.zip its) := by rw [← pairsOf_toList]; exact Array.perm_iff_toList_perm.mp kp
    have k2 : ((ks.map (·.2)).toList).Perm its := by
      rw [Array.toList_map]
      have := kl.map (·.2)
      rwa [List.map_snd_zip (by omega)] at this
    have k12 : ∀ x ∈ ks.toList, x.1 = x.2 := fun x hx => by
      have := kl.mem_iff.mp hx
      obtain ⟨i, e⟩ := List.mem_iff_getElem?.mp this
      rw [List.getElem?_zip_eq_some] at e
      exact Option.some.inj (e.1.symm.trans e.2)
    obtain ⟨zs, vz, pz⟩ := vals_perm k2.symm rv
    obtain ⟨es, de, pe⟩ := dts_perm pz hD
    refine q s.heap.objs.size zs es _ pz.symm de pe.symm ?_ (I.hok.fresh (Nat.le_refl _)) (I.laid (t' := s.toks) (fun b o e => ?_) (Nat.le_refl _) ?_)
    · have ku' := ku.imp fun {x y} z => hle x y z
      rw [List.pairwise_iff_getElem] at ku' ⊢
      intro i j hi hj hij
      have lks : ks.toList.length = es.length := by
        rw [kl.length_eq, List.length_zip, ← de.length, ← pz.length_eq, rv.length, Nat.min_self]
      have z := ku' i j (by omega) (by omega) hij
      have key : ∀ (i : Nat) (h1 : i < ks.toList.length) (h2 : i < es.length), datKey H ks.toList[i] = es[i] := fun i h1 h2 => by
        have e0 : ((ks.map (·.2)).toList)[i]? = some ks.toList[i].2 := by
          rw [Array.toList_map, List.getElem?_map, List.getElem?_eq_getElem h1]; rfl
        obtain ⟨d, e1, e2⟩ := dts_at de vz i _ e0
        rw [List.getElem?_eq_getElem h2] at e1
        cases e1
        refine datKey_eq ?_
        rw [k12 _ (List.getElem_mem h1)]
        exact e2
      rw [key i (by omega) hi, key j (by omega) hj] at z
      exact z
    · have hlt := Heap.lt_size e
      rw [sortedHeap_old (Nat.ne_of_lt hlt) (by rw [Heap.size_push]; exact Nat.lt_succ_of_lt hlt)]
      exact Heap.get?_push_of_some _ e
    · obtain ⟨n, e⟩ := sortedHeap_at (out := ks.map (·.2)) hb
      refine ⟨by rw [← pz.length_eq, rv.length]; exact hlen, (ks.map (·.2)).toList, n, vz, ?_⟩
      rw [e]
end
end BF
namespace BF
open PySem PySem.Spec PyProof.Rows L2 PySem.SeqAt
theorem dps_le : ∀ {ds : List Dt} {n : Nat}, (∀ d ∈ ds, d.dp ≤ n) → Dt.dps ds ≤ n
  | [], n, _ => by simp [Dt.dps]
  | d :: ds, n, h => by
    simp only [Dt.dps]
    have := h d List.mem_cons_self
    have := dps_le (ds := ds) fun x hx => h x (List.mem_cons_of_mem _ hx)
    omega
section
variable {X : Cx}
theorem op_eqL {k : Nat} (hr : Room k X.A) : OpR X (compareOp .Eq) (fun x y H Q => ∃ a b xs ys ds es, x = .ref a ∧ y = .ref b ∧ SqL X.K H a xs ∧ SqL X.K H b ys ∧ DtsIs H xs ds ∧ DtsIs H ys es ∧ (∀ d ∈ ds, d.dp ≤ 50) ∧ Q (.bl (Dt.beqs ds es)) H) := by
  intro pins s σ H x y v u Q I rx ry h
  obtain ⟨a, b, xs, ys, ds, es, rfl, rfl, hx, hy, hd, he, h5, q⟩ := h
  have hu := hr.units
  have h5' := dps_le h5
  cases rx
  cases ry
  obtain ⟨its, rv, p, _⟩ := I.list hx
  obtain ⟨its', rv', p', _⟩ := I.list hy
  have n1 : its.toArray.size = ds.length := by rw [List.size_toArray, ← rv.length, hd.length]
  have n2 : its'.toArray.size = es.length := by rw [List.size_toArray, ← rv'.length, he.length]
  have fin : ∀ c, c = Dt.beqs ds es → RcAt X.A s (.ref a) (.ref b) c → wpAny (model X.prog X.w) X.A (richCompare .Eq (.ref a) (.ref b)) (EP X pins σ Q) X.xe s := fun c hc R => by
    subst hc
    exact R X.prog X.w X.xe _ ⟨.bl _, H, I, rfl, q⟩
  by_cases hl : ds.length = es.length
  · have R := RcAt.lists (A := X.A) (s := s) (e := itEq ds es) p.isList p'.isList (by rw [n1, n2, hl]) (by omega) (fun j j1 j2 => eqsAt_D I X.A.in1 hd rv he rv' (by show X.A.units + 1 + _ < _; omega) j _ _ (by simp) (by simp))
    refine fin _ ?_ R
    rw [n1, ← all_itEq, hl, Nat.min_self]
    simp
  · refine fin false ?_ (RcAt.lists_lengths p.isList p'.isList (by rw [n1, n2]; simpa using hl) (by omega))
    rw [← all_itEq]
    simp [hl]
theorem op_neL {k : Nat} (hr : Room k X.A) : OpR X (compareOp .NotEq) (fun x y H Q => ∃ a b xs ys ds es, x = .ref a ∧ y = .ref b ∧ SqL X.K H a xs ∧ SqL X.K H b ys ∧ DtsIs H xs ds ∧ DtsIs H ys es ∧ (∀ d ∈ ds, d.dp ≤ 50) ∧ Q (.bl (!Dt.beqs ds es)) H) := by
  intro pins s σ H x y v u Q I rx ry h
  obtain ⟨a, b, xs, ys, ds, es, rfl, rfl, hx, hy, hd, he, h5, q⟩ := h
  have hu := hr.units
  have h5' := dps_le h5
  cases rx
  cases ry
  obtain ⟨its, rv, p, _⟩ := I.list hx
  obtain ⟨its', rv', p', _⟩ := I.list hy
  have n1 : its.toArray.size = ds.length := by rw [List.size_toArray, ← rv.length, hd.length]
  have n2 : its'.toArray.size = es.length := by rw [List.size_toArray, ← rv'.length, he.length]
  have fin : ∀ c, c = (!Dt.beqs ds es) → RcNeAt X.A s (.ref a) (.ref b) c → wpAny (model X.prog X.w) X.A (richCompare .NotEq (.ref a) (.ref b)) (EP X pins σ Q) X.xe s := fun c hc R => by
    subst hc
    exact R X.prog X.w X.xe _ ⟨.bl _, H, I, rfl, q⟩
  by_cases hl : ds.length = es.length
  · have R := RcNeAt.lists (A := X.A) (s := s) (e := itEq ds es) p.isList p'.isList (by rw [n1, n2, hl]) (by omega) (fun j j1 j2 => eqsAt_D I X.A.in1 hd rv he rv' (by show X.A.units + 1 + _ < _; omega) j _ _ (by simp) (by simp))
    refine fin _ ?_ R
    rw [n1, ← all_itEq, hl, Nat.min_self]
    simp
  · refine fin true ?_ (RcNeAt.lists_lengths p.isList p'.isList (by rw [n1, n2]; simpa using hl) (by omega))
    rw [← all_itEq]
    simp [hl]
end
theorem Dt.beqs_self (l : List Dt) : Dt.beqs l l = true := (Dt.beqs_iff l l).mpr rfl
def hD (p : Int × Int) : Dt := .tup [.int p.1, .int p.2]
def hLt (p q : Int × Int) : Bool := HT.lexLt [p.1, p.2] [q.1, q.2]
theorem hLt_iff (p q : Int × Int) : hLt p q = true ↔ p.1 < q.1 ∨ (p.1 = q.1 ∧ p.2 < q.2) := by
  unfold hLt
  rw [lex2]
  simp
theorem rise_eq : ∀ {l m : List Dt}, l.Perm m → l.Pairwise (fun d d' => Dt.blt d' d = false) → m.Pairwise (fun d d' => Dt.blt d' d = false) → l = m
  | [], m, p, _, _ => (List.nil_perm.mp p).symm
  | a :: l, [], p, _, _ => (List.perm_nil.mp p)
  | a :: l, b :: m, p, h1, h2 => by
    rw [List.pairwise_cons] at h1 h2
    have e : a = b := by
      rcases List.mem_cons.mp (p.mem_iff.mp (List.mem_cons_self (a := a) (l := l))) with z | z
      · exact z
      · rcases List.mem_cons.mp (p.mem_iff.mpr (List.mem_cons_self (a := b) (l := m))) with y | y
        · exact y.symm
        · exact Dt.tot a b (h2.1 a z) (h1.1 b y)
    subst e
    rw [rise_eq ((List.perm_cons a).mp p) h1.2 h2.2]
mutual
theorem DtIs.updL {H : Hp} {a : Addr} {xs : List V} {o : HO} (ha : H a = some (.lst xs)) : ∀ {d : Dt} {v : V}, DtIs H v d → DtIs (upd H a o) v d
  | .int i, _, .int _ => .int i
  | .str x, _, .str _ => .str x
  | .tup ds, _, .tup (a := b) e q => .tup (by
      have : b ≠ a := fun z => by rw [z, ha] at e; cases e
      rw [upd_ne this]; exact e) (DtsIs.updL ha q)
theorem DtsIs.updL {H : Hp} {a : Addr} {xs : List V} {o : HO} (ha : H a = some (.lst xs)) : ∀ {ds : List Dt} {vs : List V}, DtsIs H vs ds → DtsIs (upd H a o) vs ds
  | [], _, .nil => .nil
  | d :: ds, _, .cons q t => .cons (DtIs.updL ha q) (DtsIs.updL ha t)
end
end BF
namespace BF
open PySem PySem.Spec PyProof.Rows L2
theorem laterS {G : Prop} {A : L2.St → Hp → Prop} (C : L2.St → Hp → Prop) (main : (∀ σ H', C σ H' → A σ H') → G) (last : ∀ σ H', C σ H' → A σ H') : G := main last
theorem ifC {c : Bool} {A B : Prop} (a : c = true → A) (b : c = false → B) : if c = true then A else B := by
  cases c with
  | true => exact a rfl
  | false => exact b rfl
theorem same_updN {H H2 : Hp} {L : Addr} {o : HO} (s : Same H H2) (n : H L = none) : Same H (upd H2 L o) := fun b u e => by
  rw [upd_ne (fun z => by rw [z, n] at e; cases e)]
  exact s b u e
theorem DtsIs.snoc {H : Hp} {v : V} {d : Dt} (q : DtIs H v d) : ∀ {ds : List Dt} {vs : List V}, DtsIs H vs ds → DtsIs H (vs ++ [v]) (ds ++ [d])
  | [], _, .nil => .cons q .nil
  | _ :: _, _, .cons a t => .cons a (DtsIs.snoc q t)
theorem hD_two {H : Hp} {x : Addr} {p : Int × Int} (h : DtIs H (.ref x) (hD p)) : two H x p := by
  cases h with
  | tup e q =>
    cases q with
    | cons a b =>
      cases a
      cases b with
      | cons c d =>
        cases c
        cases d
        exact e
theorem DtsIs.at {H : Hp} : ∀ {ds : List Dt} {vs : List V}, DtsIs H vs ds → ∀ (i : Nat) (v : V), vs[i]? = some v → ∃ d, ds[i]? = some d ∧ DtIs H v d
  | [], _, .nil, i, v, e => by simp at e
  | d :: ds, _, .cons q t, 0, v, e => by simp at e; subst e; exact ⟨d, rfl, q⟩
  | d :: ds, _, .cons q t, i + 1, v, e => by
    simp at e
    obtain ⟨d', a, b⟩ := DtsIs.at t i v e
    exact ⟨d', by simpa using a, b⟩
theorem none_same {H H' : Hp} {l : Addr} (s : Same H H') (n : H' l = none) : H l = none := by
  cases h : H l with
  | none => rfl
  | some u => rw [s _ _ h] at n; cases n
theorem eqv_two {p q : Int × Int} : hD p = hD q ↔ p = q := by
  obtain ⟨a, b⟩ := p
  obtain ⟨c, d⟩ := q
  simp [hD]
end BF
namespace BF
open PySem PySem.Spec PyProof.Rows L2
section
variable {prog : Program} {w : World} {A : Around} {R : Result → Shared → Prop} {I : Addr} {fp wr : List Addr} {n : Nat} {P : Nat → Value → Prop} {St : Nat → Heap → Prop}
variable {E : Value → Shared → Prop} {s : Shared}
theorem call_tree_kw {id : String} {b : Builtin} {args : List Value} {kw : List (Str × Value)} {Q : Value → Shared → Prop} (hk : builtinKind id = none) (hp : plainId id = true) (hb : entryFor table id = some b) (ha : argsOk id ⟨args, kw⟩)
    (hc : wpAny (model prog w) A.in1 (b ⟨args, kw⟩) (fun fin s' => match fin with | .done f => (wants Q E) (.ok f) s' | .again c' => c'.quiet = true ∧ codeAny (model prog w) A c' (wants Q E) s') E s) :
    wpAny (model prog w) A (call (.builtin id) args kw) Q E s := by
  refine wpAny_call (codeAny_mono (R := wants Q E) (codeAny_call_builtin hp hb ?_) fun r s' h => ?_)
  · simp only [checkBuiltinCall, hk]
    cases hsig : Manifest.signature? id with
    | none => exact wpAny_pure hc
    | some sig =>
      simp only [argsOk, hsig] at ha
      have h2 : Bind.checkArgs id sig ⟨args, kw⟩ = pure () := ha
      refine (show wpAny _ A.in1 (Bind.checkArgs id sig ⟨args, kw⟩) _ _ s from ?_)
      rw [h2]
      exact wpAny_pure hc
  · cases r with
    | error e => exact h
    | ok f => cases f <;> exact h
theorem argsMin1 (a : Value) : argsOk "min" ⟨[a], []⟩ := by unfold argsOk; kernel_rfl
end
end BF
namespace BF
open PySem PySem.Spec PyProof.Rows L2 PySem.W
instance : DecidableEq Dt := fun a b => decidable_of_iff (Dt.beq a b = true) (Dt.beq_iff a b)
theorem Dt.dec_eq (a b : Dt) : decide (a = b) = Dt.beq a b := by
  cases h : Dt.beq a b with
  | true => exact decide_eq_true ((Dt.beq_iff a b).mp h)
  | false => exact decide_eq_false fun z => by rw [(Dt.beq_iff a b).mpr z] at h; cases h
mutual
def drawsD : Dt → Nat
  | .int _ => 1
  | .str _ => 1
  | .tup l => drawsDs l + 1
def drawsDs : List Dt → Nat
  | [] => 0
  | d :: l => drawsD d + drawsDs l
end
section
variable {prog : Program} {w : World} {E : Value → Shared → Prop}
set_option maxRecDepth 100000 in
mutual
theorem pyHash_X : ∀ (d : Dt) (v : Value) (A : Around) (s : Shared) (Q : Int → Shared → Prop), DatH s.heap v d → A.units + d.dp < cLine → Q (hashD w d) { s with toks := s.toks + drawsD d } → wpAny (model prog w) A (pyHash v) Q E s
  | .int i, _, A, s, Q, .int _ t, hu, h => wpAny_pyHash_int (by rw [hashD, drawsD] at h; exact h)
  | .str x, _, A, s, Q, .str _ t, hu, h => wpAny_pyHash_str (by rw [hashD, drawsD] at h; exact h)
  | .tup ds, _, A, s, Q, .tup (a := a) (items := items) ho hc hd r, hu, h => by
    have hu' : A.units + (Dt.dps ds + 1) < cLine := by simpa only [Dt.dp] using hu
    refine pyHash_slot (T := "tuple") ⟨_, ho, hc⟩ F.slot_tuple_hash F.entry_tuple_hash (F.args_tuple_hash_1 _) (beq_builtin_none _) (.inr (by omega)) ?_
    show wpAny _ _ (Builtin.Tuple.tupleItemsOf (.ref a) >>= _) _ _ s
    refine wpAny_bind (wpAny_tupleItemsOf ho hd ?_)
    refine wpAny_bind ?_
    rw [← Array.forIn_toList]
    refine hashLoop_X ds items.toList A.in1 s #[] _ r (by simp only [Around.in1_units]; omega) fun b hb => ?_
    show wpAny _ _ (retInt (Builtin.Tuple.tupleHashOf b.toList)) _ _ _
    rw [hb]
    exact wpAny_bind (wpAny_mkInt (wpAny_pure ⟨_, _, rfl, by rw [hashD, drawsD, ← Nat.add_assoc] at h; exact h⟩))
theorem hashLoop_X : ∀ (ds : List Dt) (vs : List Value) (A : Around) (s : Shared) (b : Array Int) (Q : Array Int → Shared → Prop), DatHs s.heap vs ds → A.units + Dt.dps ds < cLine →
    (∀ b', b'.toList = b.toList ++ hashDs w ds → Q b' { s with toks := s.toks + drawsDs ds }) →
    wpAny (model prog w) A (forIn vs b fun x r => do let h ← pyHash x; pure PUnit.unit; pure (ForInStep.yield (r.push h))) Q E s
  | [], _, A, s, b, Q, .nil, _, h => wpAny_pure (h b (by simp [hashDs]))
  | d :: ds, _, A, s, b, Q, .cons q t, hu, h => by
    simp only [Dt.dps] at hu
    rw [List.forIn_cons]
    refine wpAny_bind (wpAny_bind (pyHash_X d _ A s _ q (by omega) ?_))
    refine wpAny_bind (wpAny_pure (wpAny_pure ?_))
    refine hashLoop_X ds _ A _ _ Q t (by omega) fun b' hb => ?_
    have := h b' (by simp [hb, hashDs])
    rw [drawsDs, ← Nat.add_assoc] at this
    exact this
end
end
mutual
theorem DatH.but {h h' : Heap} {c : Addr} {o : Obj} {es : Array DictEntry} {ep : Nat} (ho : h.get? c = some o) (hd : o.data = .dict es ep) (k : Heap.SameBut c h h') : ∀ {d : Dt} {v : Value}, DatH h v d → DatH h' v d
  | _, _, .int i t => .int i t
  | _, _, .str x t => .str x t
  | .tup ds, _, .tup (a := a) ho' hc hd' r => .tup (k.extBut _ _ (fun z => by
      rw [z, ho] at ho'
      cases ho'
      rw [hd] at hd'
      cases hd') ho') hc hd' (DatHs.but ho hd k r)
theorem DatHs.but {h h' : Heap} {c : Addr} {o : Obj} {es : Array DictEntry} {ep : Nat} (ho : h.get? c = some o) (hd : o.data = .dict es ep) (k : Heap.SameBut c h h') : ∀ {ds : List Dt} {vs : List Value}, DatHs h vs ds → DatHs h' vs ds
  | [], _, .nil => .nil
  | d :: ds, _, .cons q t => .cons (DatH.but ho hd k q) (DatHs.but ho hd k t)
end
def dtKind (prog : Program) (w : World) : HeapKind prog w Dt where
  is := fun h d a => DatH h (.ref a) d ∧ d.dp ≤ 8
  hash := hashD w
  draws := drawsD
  room := fun A => A.units + 9 < cLine
  inj := fun hx hy => DatH.inj hx.1 hy.1
  keeps := fun x ho hd hs => ⟨x.1.but ho hd hs, x.2⟩
  pyHash := fun hu hk h => pyHash_X _ _ _ _ _ hk.1 (by have := hk.2; omega) h
  eqBool := fun {A E s x y a b Q} hu hx hy h => eqAt_H A hx.1 hy.1 (by have := hx.2; omega) _ _ _ _ (by rw [← Dt.dec_eq]; exact h)
  quiet := fun hk h => quiet_D _ _ 8 _ _ _ hk.1 hk.2 h
end BF
namespace BF
open PySem PySem.Spec PyProof.Rows L2
def DicPart (P : Program) (w : World) (h : Heap) (D : Addr) (xs : List (Dt × Addr × Value)) : Prop := ∃ o es ep, h.get? D = some o ∧ o.ExactDict ∧ o.data = .dict es ep ∧ es.toList = xs.map (entryOfKey (dtKind P w)) ∧ (xs.map (·.1)).Nodup
theorem DicPart.full {P : Program} {w : World} {h : Heap} {D : Addr} {xs : List (Dt × Addr × Value)} (p : DicPart P w h D xs) (k : ∀ x ∈ xs, DatH h (.ref x.2.1) x.1 ∧ x.1.dp ≤ 8) : h.DictOfH (dtKind P w) D xs := by
  obtain ⟨o, es, ep, a, b, c, d, e⟩ := p
  exact ⟨o, es, ep, a, b, c, d, k, e⟩
theorem DicPart.of {P : Program} {w : World} {h : Heap} {D : Addr} {xs : List (Dt × Addr × Value)} (p : h.DictOfH (dtKind P w) D xs) : DicPart P w h D xs := by
  obtain ⟨o, es, ep, a, b, c, d, _, e⟩ := p
  exact ⟨o, es, ep, a, b, c, d, e⟩
theorem DicPart.keep {P : Program} {w : World} {h h' : Heap} {D : Addr} {xs : List (Dt × Addr × Value)} (p : DicPart P w h D xs) (k : ∀ o, h.get? D = some o → h'.get? D = some o) : DicPart P w h' D xs := by
  obtain ⟨o, es, ep, a, b, c, d, e⟩ := p
  exact ⟨o, es, ep, k o a, b, c, d, e⟩
theorem storedH_len (xs : List (Dt × Addr × Value)) (k : Dt) (a : Addr) (v : Value) : (storedH xs k a v).length ≤ xs.length + 1 := by
  unfold storedH
  split
  · rw [List.length_map]; omega
  · rw [List.length_append]; exact Nat.le_refl _
theorem storedH_mem {xs : List (Dt × Addr × Value)} {k : Dt} {a : Addr} {v : Value} {x : Dt × Addr × Value} (h : x ∈ storedH xs k a v) : (x.1 = k ∧ x.2.1 = a) ∨ ∃ y ∈ xs, x.1 = y.1 ∧ x.2.1 = y.2.1 := by
  unfold storedH at h
  split at h
  · obtain ⟨y, hy, rfl⟩ := List.mem_map.mp h
    right
    refine ⟨y, hy, ?_⟩
    unfold putAt
    split <;> exact ⟨rfl, rfl⟩
  · rcases List.mem_append.mp h with h | h
    · exact .inr ⟨x, h, rfl, rfl⟩
    · rw [List.mem_singleton] at h
      rw [h]
      exact .inl ⟨rfl, rfl⟩
theorem atKey_mem (xs : List (Dt × Addr × Value)) (k : Dt) : (atKey xs k).isSome = true ↔ k ∈ xs.map (·.1) := by
  unfold atKey
  rw [Option.isSome_map, List.find?_isSome]
  constructor
  · rintro ⟨x, hx, h⟩
    exact List.mem_map.mpr ⟨x, hx, of_decide_eq_true h⟩
  · intro h
    obtain ⟨x, hx, rfl⟩ := List.mem_map.mp h
    exact ⟨x, hx, decide_eq_true rfl⟩
section
variable {prog : Program} {w : World} {A : Around} {R : Result → Shared → Prop} {I : Addr} {fp wr : List Addr} {St : Nat → Heap → Prop}
end
end BF
namespace BF
open PySem PySem.Spec PyProof.Rows L2
def dicO (P : Program) (w : World) (a : Addr) (xs : List (Dt × Addr × Value)) : HO := .ext fun h => DicPart P w h a xs
structure DicH (P : Program) (w : World) (H : Hp) (a : Addr) (xs : List (Dt × Addr × Value)) : Prop where
  at_ : H a = some (dicO P w a xs)
  sys : (a == sysModules) = false
  len : xs.length ≤ 1000
  key : ∀ x ∈ xs, DtIs H (.ref x.2.1) x.1 ∧ x.1.dp ≤ 8
theorem DicH.same {P : Program} {w : World} {H H' : Hp} {a : Addr} {xs : List (Dt × Addr × Value)} (d : DicH P w H a xs) (s : Same H H') : DicH P w H' a xs :=
  ⟨s _ _ d.at_, d.sys, d.len, fun x hx => ⟨(d.key x hx).1.same s, (d.key x hx).2⟩⟩
section
variable {X : Cx} {pins : List (Addr × Obj)} {σ : L2.St} {H : Hp} {s : Shared}
theorem dicH_of {a : Addr} {xs : List (Dt × Addr × Value)} (I : Inv X pins σ H s) (d : DicH X.prog X.w H a xs) : s.heap.DictOfH (dtKind X.prog X.w) a xs := by
  have ok := I.hok a _ d.at_
  exact DicPart.full ok.1 fun x hx => ⟨datH_of I (d.key x hx).1 rfl, (d.key x hx).2⟩
end
section
variable {X : Cx}
def rNotInD (P : Program) (w : World) : R2 := fun x y H Q => ∃ (b a : Addr) (d : Dt) (xs : List (Dt × Addr × Value)), x = .ref b ∧ y = .ref a ∧ DtIs H (.ref b) d ∧ d.dp ≤ 8 ∧ DicH P w H a xs ∧ Q (.bl (!decide (d ∈ xs.map (·.1)))) H
def rInD (P : Program) (w : World) : R2 := fun x y H Q => ∃ (b a : Addr) (d : Dt) (xs : List (Dt × Addr × Value)), x = .ref b ∧ y = .ref a ∧ DtIs H (.ref b) d ∧ d.dp ≤ 8 ∧ DicH P w H a xs ∧ Q (.bl (decide (d ∈ xs.map (·.1)))) H
theorem op_notInD {k : Nat} (hr : Room k X.A) : OpR X (compareOp .NotIn) (rNotInD X.prog X.w) := by
  intro pins s σ H x y v u Q I rx ry h
  obtain ⟨b, a, d, xs, rfl, rfl, hd, h8, hdic, q⟩ := h
  have hu := hr.units
  cases rx
  cases ry
  refine wpAny_notIn_heap (knd := dtKind X.prog X.w) (k := d) (by show X.A.units + 1 + 9 < cLine; omega) ⟨datH_of I hd rfl, h8⟩ hdic.sys (dicH_of I hdic) ?_
  have e : (atKey xs d).isSome = decide (d ∈ xs.map (·.1)) := by
    cases hs : (atKey xs d).isSome with
    | true => exact (decide_eq_true ((atKey_mem xs d).mp hs)).symm
    | false => exact (decide_eq_false fun z => by rw [(atKey_mem xs d).mpr z] at hs; cases hs).symm
  rw [e]
  exact ⟨.bl _, H, I.tok _, rfl, q⟩
theorem op_inD {k : Nat} (hr : Room k X.A) : OpR X (compareOp .In) (rInD X.prog X.w) := by
  intro pins s σ H x y v u Q I rx ry h
  obtain ⟨b, a, d, xs, rfl, rfl, hd, h8, hdic, q⟩ := h
  have hu := hr.units
  cases rx
  cases ry
  refine wpAny_in_heap (knd := dtKind X.prog X.w) (k := d) (by show X.A.units + 1 + 9 < cLine; omega) ⟨datH_of I hd rfl, h8⟩ hdic.sys (dicH_of I hdic) ?_
  have e : (atKey xs d).isSome = decide (d ∈ xs.map (·.1)) := by
    cases hs : (atKey xs d).isSome with
    | true => exact (decide_eq_true ((atKey_mem xs d).mp hs)).symm
    | false => exact (decide_eq_false fun z => by rw [(atKey_mem xs d).mpr z] at hs; cases hs).symm
  rw [e]
  exact ⟨.bl _, H, I.tok _, rfl, q⟩
end
end BF
namespace BF
open PySem PySem.Spec PyProof.Rows L2
abbrev KD : List (Dt × V) → List (Dt × Addr × Value) → Prop := Paired fun (p : Dt × V) (q : Dt × Addr × Value) => p.1 = q.1 ∧ RelV p.2 q.2.2
theorem KD.val {kvs : List (Dt × V)} {xs : List (Dt × Addr × Value)} (r : KD kvs xs) (k : Dt) : RelO (valV kvs k) ((atKey xs k).map (·.2)) := by
  induction r with
  | nil => exact True.intro
  | @cons p q ps qs h t ih =>
    obtain ⟨h1, h2⟩ := h
    by_cases e : p.1 = k
    · have e' : q.1 = k := h1.symm.trans e
      have b : atKey (q :: qs) k = some q.2 := by simp [atKey, List.find?_cons, e']
      rw [valV_pos e, b]; exact h2
    · have e' : ¬ q.1 = k := fun z => e (h1.trans z)
      have b : atKey (q :: qs) k = atKey qs k := by simp [atKey, List.find?_cons, e']
      rw [valV_neg e, b]; exact ih
theorem KD.repl {kvs : List (Dt × V)} {xs : List (Dt × Addr × Value)} (r : KD kvs xs) (k : Dt) {y : V} {u : Value} (ry : RelV y u) : KD (kvs.map fun kv => if kv.1 = k then (kv.1, y) else kv) (xs.map (putAt k u)) := by
  induction r with
  | nil => exact .nil
  | @cons p q ps qs h t ih =>
    rw [List.map_cons, List.map_cons]
    refine .cons ?_ ih
    obtain ⟨h1, h3⟩ := h
    unfold putAt
    by_cases e : p.1 = k
    · rw [if_pos e, if_pos (h1.symm.trans e)]; exact ⟨h1, ry⟩
    · rw [if_neg e, if_neg (fun z => e (h1.trans z))]; exact ⟨h1, h3⟩
theorem KD.put {kvs : List (Dt × V)} {xs : List (Dt × Addr × Value)} (r : KD kvs xs) (k : Dt) {b : Addr} {y : V} {u : Value} (ry : RelV y u) : KD (putK kvs k y) (storedH xs k b u) := by
  have e : (kvs.any fun kv => decide (kv.1 = k)) = (atKey xs k).isSome := by
    rw [valV_any, (r.val k).isSome_eq, Option.isSome_map]
  unfold putK storedH
  rw [e]
  by_cases q : (atKey xs k).isSome = true
  · rw [if_pos q, if_pos q]; exact r.repl k ry
  · rw [if_neg q, if_neg q]; exact Paired.snoc r ⟨rfl, ry⟩
def DicV (P : Program) (w : World) (H : Hp) (a : Addr) (kvs : List (Dt × V)) : Prop := ∃ xs, DicH P w H a xs ∧ KD kvs xs
theorem DicV.same {P : Program} {w : World} {H H' : Hp} {a : Addr} {kvs : List (Dt × V)} (d : DicV P w H a kvs) (s : Same H H') : DicV P w H' a kvs := by
  obtain ⟨xs, h, r⟩ := d
  exact ⟨xs, h.same s, r⟩
theorem DicV.ext {P : Program} {w : World} {H : Hp} {a : Addr} {kvs : List (Dt × V)} (d : DicV P w H a kvs) : ∃ φ, H a = some (.ext φ) := by
  obtain ⟨xs, h, _⟩ := d
  exact ⟨_, h.at_⟩
mutual
theorem DtIs.updX {H : Hp} {a : Addr} {φ : Heap → Prop} {o : HO} (ha : H a = some (.ext φ)) : ∀ {d : Dt} {v : V}, DtIs H v d → DtIs (upd H a o) v d
  | .int i, _, .int _ => .int i
  | .str x, _, .str _ => .str x
  | .tup ds, _, .tup (a := b) e q => .tup (by
      have : b ≠ a := fun z => by rw [z, ha] at e; cases e
      rw [upd_ne this]; exact e) (DtsIs.updX ha q)
theorem DtsIs.updX {H : Hp} {a : Addr} {φ : Heap → Prop} {o : HO} (ha : H a = some (.ext φ)) : ∀ {ds : List Dt} {vs : List V}, DtsIs H vs ds → DtsIs (upd H a o) vs ds
  | [], _, .nil => .nil
  | d :: ds, _, .cons q t => .cons (DtIs.updX ha q) (DtsIs.updX ha t)
end
section
variable {X : Cx}
def tDNewD (P : Program) (w : World) : TE := fun _ H Q => ∀ a o, H a = none → DicV P w (upd H a o) a [] → Q (.ref a) (upd H a o)
theorem pe_dnewD {pos : Pos} : PE X (.Dict [] [] pos) (tDNewD X.prog X.w) := fun pins s σ H Q I h => by
  have fr := I.hok.fresh (Nat.le_refl s.heap.objs.size)
  have dp : DicPart X.prog X.w (s.heap.push { cls := .type "dict", data := .dict #[] }) s.heap.objs.size [] := .of (Heap.DictOfH.new s.heap)
  refine wpAny_Dict_empty ⟨.ref s.heap.objs.size, _, I.laid (a := s.heap.objs.size) (o := dicO X.prog X.w s.heap.objs.size []) (t' := s.toks) (fun _ _ q => Heap.get?_push_of_some _ q) (Nat.le_refl _) ⟨dp, ⟨_, Heap.get?_push_size _ rfl⟩, fun h1 h2 p1 k => p1.keep k⟩, rfl, h _ _ fr ⟨[], ⟨upd_same, ?_, Nat.zero_le _, fun _ hx => nomatch hx⟩, .nil⟩⟩
  exact beq_eq_false_iff_ne.mpr (Nat.ne_of_gt I.big)
def tDGetD (P : Program) (w : World) (td ty : TE) : TE := fun σ H Q => td σ H fun x H1 => ty σ H1 fun y H2 => ∃ a b d kvs v, x = .ref a ∧ y = .ref b ∧ DtIs H2 (.ref b) d ∧ d.dp ≤ 8 ∧ DicV P w H2 a kvs ∧ valV kvs d = some v ∧ Q v H2
theorem pe_dgetD {k : Nat} {o i : Expr} {td ty : TE} {pos : Pos} (hr : Room k X.A) (ho : PE X o td) (hi : PE X i ty) (hs : NoSl i) : PE X (.Subscript o i pos) (tDGetD X.prog X.w td ty) := by
  intro pins s σ H Q I h
  have hu := hr.units
  refine subD_of PySem.F.slot_dict_getitem.lookup hs (thn (ho pins s σ H _ I h) fun u s1 ⟨x, H1, I1, rx, q1⟩ => thn (hi pins s1 σ H1 _ I1 q1) fun iv s2 ⟨y, H2, I2, ry, a, b, d, kvs, v, ex, ey, hd, h8, ⟨xs, dic, r⟩, hv, q2⟩ => ?_)
  subst ex ey
  obtain rfl : u = Value.ref a := rx
  obtain rfl : iv = Value.ref b := ry
  have full := dicH_of I2 dic
  have rel := r.val d
  rw [hv] at rel
  cases hk : atKey xs d with
  | none => rw [hk] at rel; exact absurd rel id
  | some p =>
    rw [hk] at rel
    refine ⟨full.typeIs, wpAny_getItem_heap (knd := dtKind X.prog X.w) (by show X.A.units + 1 + 9 < cLine; omega) ⟨datH_of I2 hd rfl, h8⟩ full hk ⟨v, H2, I2.tok _, rel, q2⟩⟩
def sDPutD (P : Program) (w : World) (td ty tv : TE) : TS := fun D σ H => tv σ H fun v H1 => td σ H1 fun x H2 => ty σ H2 fun y H3 => ∃ a b d kvs, x = .ref a ∧ y = .ref b ∧ DtIs H3 (.ref b) d ∧ d.dp ≤ 8 ∧ DicV P w H3 a kvs ∧ kvs.length < 1000 ∧
  ∀ o, DicV P w (upd H3 a o) a (putK kvs d v) → D.nx σ (upd H3 a o)
theorem ps_dputD {k : Nat} {o i value : Expr} {td ty tv : TE} {pos' pos : Pos} (hr : Room k X.A) (ho : PE X o td) (hi : PE X i ty) (hv : PE X value tv) (hs : swapsWith value (some (.Subscript o i pos')) pos.line X.env = pure false) :
    PS X (.Assign [.Subscript o i pos'] value pos) (sDPutD X.prog X.w td ty tv) := by
  intro pins s σ H D I h
  have hu := hr.units
  refine wpAny_Assign_Subscript (thn (hv pins s σ H _ I h) fun r s1 ⟨v, H1, I1, rv, q1⟩ => thn (ho pins s1 σ H1 _ I1 q1) fun u s2 ⟨x, H2, I2, rx, q2⟩ => thn (hi pins s2 σ H2 _ I2 q2) fun iv s3 ⟨y, H3, I3, ry, a, b, d, kvs, ex, ey, hd, h8, ⟨xs, dic, rel⟩, hl, q3⟩ => ?_) hs
  subst ex ey
  obtain rfl : u = Value.ref a := rx
  obtain rfl : iv = Value.ref b := ry
  have full := dicH_of I3 dic
  have xl : xs.length < 1000 := by rw [← Paired.length rel]; exact hl
  refine wpAny_setItem_heap (knd := dtKind X.prog X.w) (k := d) (by show X.A.units + 1 + 9 < cLine; omega) ⟨datH_of I3 hd rfl, h8⟩ full (fun h' dd' hsb => ?_) (sz (by omega))
  have dp : DicPart X.prog X.w h' a (storedH xs d b r) := .of dd'
  refine ⟨σ, upd H3 a (dicO X.prog X.w a (storedH xs d b r)), d_write I3 (by rw [dic.at_]; exact True.intro) hsb (let ⟨q, _, _, hq, _⟩ := dd'; ⟨q, hq⟩) ⟨dp, (let ⟨q, _, _, hq, _⟩ := dd'; ⟨q, hq⟩), fun h1 h2 p1 k => p1.keep k⟩, q3 _ ⟨_, ⟨upd_same, dic.sys, ?_, fun z hz => ?_⟩, rel.put d rv⟩⟩
  · exact Nat.le_trans (storedH_len _ _ _ _) (by omega)
  · rcases storedH_mem hz with ⟨z1, z2⟩ | ⟨y, hy, z1, z2⟩
    · rw [z1, z2]; exact ⟨DtIs.updX dic.at_ hd, h8⟩
    · rw [z1, z2]; exact ⟨DtIs.updX dic.at_ (dic.key y hy).1, (dic.key y hy).2⟩
end
end BF
namespace BF
open PySem PySem.Spec PyProof.Rows L2 PySem.SeqAt
def Rows' (H : Hp) (xs : List V) (dss : List (List Dt)) : Prop := xs.length = dss.length ∧ ∀ (i : Nat) x ds, xs[i]? = some x → dss[i]? = some ds → ∃ a ys, x = .ref a ∧ H a = some (.lst ys) ∧ DtsIs H ys ds ∧ ∀ d ∈ ds, d.dp ≤ 40
section
variable {X : Cx} {pins : List (Addr × Obj)} {σ : L2.St} {H : Hp} {s : Shared}
theorem listEqAt (I : Inv X pins σ H s) (A : Around) {a b : Addr} {xs ys : List V} {ds es : List Dt} (hx : H a = some (.lst xs)) (hy : H b = some (.lst ys)) (hd : DtsIs H xs ds) (he : DtsIs H ys es) (h5 : ∀ d ∈ ds, d.dp ≤ 40) (hu : A.units + 45 < cLine) :
    EqAt A s (.ref a) (.ref b) (Dt.beqs ds es) := by
  by_cases hab : a = b
  · subst hab
    rw [hx] at hy
    cases hy
    have : ds = es := by
      obtain ⟨its, rv, _, _⟩ := I.list (SqL.of hx)
      exact DatHs.inj (datHs_of I hd rv) (datHs_of I he rv)
    rw [this, Dt.beqs_self]
    exact EqAt.same _
  · have h5' := dps_le h5
    obtain ⟨its, rv, p, _⟩ := I.list (SqL.of hx)
    obtain ⟨its', rv', p', _⟩ := I.list (SqL.of hy)
    have n1 : its.toArray.size = ds.length := by rw [List.size_toArray, ← rv.length, hd.length]
    have n2 : its'.toArray.size = es.length := by rw [List.size_toArray, ← rv'.length, he.length]
    have fin : ∀ c, c = Dt.beqs ds es → RcAt A s (.ref a) (.ref b) c → EqAt A s (.ref a) (.ref b) (Dt.beqs ds es) := fun c hc R => hc ▸ EqAt.of_refs hab R
    by_cases hl : ds.length = es.length
    · have R := RcAt.lists (A := A) (s := s) (e := itEq ds es) p.isList p'.isList (by rw [n1, n2, hl]) (by omega) (fun j j1 j2 => eqsAt_D I A.in1 hd rv he rv' (by show A.units + 1 + _ < _; omega) j _ _ (by simp) (by simp))
      refine fin _ ?_ R
      rw [n1, ← all_itEq, hl, Nat.min_self]
      simp
    · refine fin false ?_ (RcAt.lists_lengths p.isList p'.isList (by rw [n1, n2]; simpa using hl) (by omega))
      rw [← all_itEq]
      simp [hl]
end
section
variable {X : Cx}
end
end BF
namespace BF
open PySem PySem.Spec PyProof.Rows L2
def DRaw (h : Heap) (d : Addr) (ks : List Value) (ep : Nat) : Prop := ∃ o es, h.get? d = some o ∧ o.ExactDict ∧ o.data = .dict es ep ∧ es.toList.map (·.key) = ks
theorem DRaw.at' {h h' : Heap} {d : Addr} {ks : List Value} {ep : Nat} (q : DRaw h d ks ep) (k : ∀ o, h.get? d = some o → h'.get? d = some o) : DRaw h' d ks ep := let ⟨o, es, ho, r⟩ := q; ⟨o, es, k o ho, r⟩
theorem DRaw.lt {h : Heap} {d : Addr} {ks : List Value} {ep : Nat} (q : DRaw h d ks ep) : d < h.objs.size := let ⟨_, _, ho, _⟩ := q; Heap.lt_size ho
theorem DRaw.typeIs {s : Shared} {d : Addr} {ks : List Value} {ep : Nat} (q : DRaw s.heap d ks ep) : s.TypeIs (.ref d) "dict" := let ⟨o, _, ho, hc, _⟩ := q; ⟨o, ho, hc.1⟩
section
variable {P : Program} {w : World} {A : Around} {E : Value → Shared → Prop} {s : Shared} {d it : Addr} {ks : List Value} {ep n : Nat}
theorem drw_iter {Q : Value → Shared → Prop} (hd : (d == sysModules) = false) (q : DRaw s.heap d ks ep)
    (z : Q (.ref s.heap.objs.size) { s with heap := s.heap.push { cls := .type "dict_keyiterator", data := .fields #[.ref d, .int 0 0, .int ks.length 0, .int ep 0] } }) : wpAny (model P w) A (pyIter (.ref d)) Q E s := by
  obtain ⟨o, es, ho, hc, dat, ek⟩ := id q
  have ty := q.typeIs
  refine wpAny_pyIter_slot ty F.slot_dict_iter (wpAny_call_entry F.slot_dict_iter ty F.entry_dict_iter ?_ (F.args_dict_iter_1 _))
  unfold Builtin.«dict.__iter__»; refine wpAny_bind ?_; unfold Builtin.Dict.dictSlotNone; refine wpAny_bind (wpAny_notOrdered_dict ty ?_)
  show wpAny _ _ (pure (Value.ref d)) _ _ _
  refine wpAny_pure ?_; show wpAny _ _ (Builtin.Dict.showsAll d >>= _) _ _ _; unfold Builtin.Dict.showsAll
  rw [if_neg (fun e => by rw [hd] at e; cases e)]
  refine wpAny_bind (wpAny_pure (wpAny_bind (wpAny_dictEntries ho dat (wpAny_bind (wpAny_dictEpoch ho dat ?_)))))
  have hn : es.size = ks.length := by rw [← ek, List.length_map, Array.length_toList]
  refine wpAny_bind (wpAny_newObj_type (wpAny_pure ⟨_, rfl, "dict_keyiterator", _, ⟨_, Heap.get?_push_size _ rfl, rfl⟩, F.slot_dict_keyiterator_next.lookup, by simpa [rawInt, hn] using z⟩))
theorem drw_item {u : Value} {Q : Option Value → Shared → Prop} (ik : s.heap.IsKeyIter it d n ks.length ep) (q : DRaw s.heap d ks ep) (hu : ks[n]? = some u)
    (z : ∀ h', h'.IsKeyIter it d (n + 1) ks.length ep → Heap.SameBut it s.heap h' → Q (some u) { s with heap := h' }) : wpAny (model P w) A (pyNext (.ref it)) Q E s := by
  obtain ⟨o, ho, hc, dat⟩ := id ik
  obtain ⟨od, es, hod, hcd, dd, ek⟩ := id q
  have hn : es.size = ks.length := by rw [← ek, List.length_map, Array.length_toList]
  unfold pyNext
  refine wpAny_bind (wpAny_attempt (wpAny_callSpecial?_slot (name := Str.ofString "__next__") ik.typeIs F.slot_dict_keyiterator_next (wpAny_call_entry F.slot_dict_keyiterator_next ik.typeIs F.entry_dict_keyiterator_next ?_ (F.args_dict_keyiterator_next_1 _))))
  refine wpAny_bind (wpAny_pure (wpAny_bind (wpAny_bind ?_)))
  first | refine wpAny_bind (wpAny_typeNameOfWhole_keyiter ik.typeIs (wpAny_pure ?_)) | refine wpAny_bind (wpAny_typeNameOf_keyiter ik.typeIs (wpAny_pure ?_))
  refine wpAny_bind (wpAny_fieldsOf ho dat ?_)
  have own : Builtin.Dict_items.ownsTuple "dict_keyiterator" = false := by decide
  simp only [own, Bool.false_eq_true, if_false]
  show wpAny _ _ (if (Value.ref d == Value.none) = true then _ else _) _ _ _
  rw [if_neg (fun e : (Value.ref d == Value.none) = true => Bool.false_ne_true e)]
  refine wpAny_bind (wpAny_pure (wpAny_bind (wpAny_dictEntries hod dd ?_)))
  rw [if_neg (by rw [hn]; simp)]
  refine wpAny_bind (wpAny_pure (wpAny_bind (wpAny_dictEpoch hod dd ?_)))
  rw [if_neg (by simp)]; refine wpAny_pure ?_
  have lt : n < es.size := by rw [hn]; exact (List.getElem?_eq_some_iff.mp hu).1
  have key : es[n].key = u := by
    rw [← ek, List.getElem?_map, Array.getElem?_toList, Array.getElem?_eq_getElem lt] at hu
    exact Option.some.inj hu
  simp only [show ¬ ((n : Int) < 0) from by omega, if_false, Int.toNat_natCast, Array.getElem?_eq_getElem lt]
  refine wpAny_bind ?_; first | refine wpAny_bind (wpAny_typeNameOfWhole_keyiter ik.typeIs (wpAny_pure ?_)) | refine wpAny_bind (wpAny_typeNameOf_keyiter ik.typeIs (wpAny_pure ?_))
  refine wpAny_bind (wpAny_isOneOf_keyiter ik.typeIs ?_)
  show wpAny _ _ (setField (.ref it) 1 (rawInt ((n : Int) + 1)) >>= _) _ _ s
  refine wpAny_bind (wpAny_setField ho dat (by simp) ?_)
  have ik' : (s.heap.update it (Obj.mapFields (·.setIfInBounds 1 (rawInt ((n : Int) + 1))))).IsKeyIter it d (n + 1) ks.length ep :=
    ⟨_, Heap.get?_update_self _ ho (Obj.isFreed_of_fields (Obj.data_mapFields dat _)), (Obj.cls_mapFields ..).trans hc, by rw [Obj.data_mapFields dat]; simp [rawInt]⟩
  refine wpAny_bind (wpAny_holding (wpAny_bind (wpAny_isOneOf_keyiter (s := { s with heap := s.heap.update it (Obj.mapFields (·.setIfInBounds 1 (rawInt ((n : Int) + 1)))) }) ik'.typeIs ?_)))
  show wpAny _ _ (pure es[n].key) _ _ _
  rw [key]
  exact wpAny_pure (wpAny_pure ⟨_, rfl, wpAny_pure (z _ ik' (Heap.SameBut.update ..))⟩)
theorem drw_end {Q : Option Value → Shared → Prop} (hh : A.handled = none) (ik : s.heap.IsKeyIter it d n ks.length ep) (q : DRaw s.heap d ks ep) (hu : ks[n]? = none)
    (z : ∀ h', Heap.ExtBut it s.heap h' → Q none { s with heap := h' }) : wpAny (model P w) A (pyNext (.ref it)) Q E s := by
  obtain ⟨o, ho, hc, dat⟩ := id ik
  obtain ⟨od, es, hod, hcd, dd, ek⟩ := id q
  have hn : es.size = ks.length := by rw [← ek, List.length_map, Array.length_toList]
  unfold pyNext
  refine wpAny_bind (wpAny_attempt (wpAny_callSpecial?_slot (name := Str.ofString "__next__") ik.typeIs F.slot_dict_keyiterator_next (wpAny_call_entry F.slot_dict_keyiterator_next ik.typeIs F.entry_dict_keyiterator_next ?_ (F.args_dict_keyiterator_next_1 _))))
  refine wpAny_bind (wpAny_pure (wpAny_bind (wpAny_bind ?_)))
  first | refine wpAny_bind (wpAny_typeNameOfWhole_keyiter ik.typeIs (wpAny_pure ?_)) | refine wpAny_bind (wpAny_typeNameOf_keyiter ik.typeIs (wpAny_pure ?_))
  refine wpAny_bind (wpAny_fieldsOf ho dat ?_)
  have own : Builtin.Dict_items.ownsTuple "dict_keyiterator" = false := by decide
  simp only [own, Bool.false_eq_true, if_false]
  show wpAny _ _ (if (Value.ref d == Value.none) = true then _ else _) _ _ _
  rw [if_neg (fun e : (Value.ref d == Value.none) = true => Bool.false_ne_true e)]
  refine wpAny_bind (wpAny_pure (wpAny_bind (wpAny_dictEntries hod dd ?_)))
  rw [if_neg (by rw [hn]; simp)]
  refine wpAny_bind (wpAny_pure (wpAny_bind (wpAny_dictEpoch hod dd ?_)))
  rw [if_neg (by simp)]; refine wpAny_pure ?_
  have ge : es.size ≤ n := by rw [hn]; simpa using hu
  simp only [show ¬ ((n : Int) < 0) from by omega, if_false, Int.toNat_natCast, Array.getElem?_eq_none ge]
  refine wpAny_bind ?_; first | refine wpAny_bind (wpAny_typeNameOfWhole_keyiter ik.typeIs (wpAny_pure ?_)) | refine wpAny_bind (wpAny_typeNameOf_keyiter ik.typeIs (wpAny_pure ?_))
  show wpAny _ _ (setField (.ref it) 0 .none >>= _) _ _ s
  refine wpAny_bind (wpAny_setField ho dat (by simp) ?_)
  show wpAny _ _ (newExc (.type "StopIteration") [] >>= _) _ _ (_ : Shared)
  refine wpAny_bind ?_; simp only [newExc, newTuple]; refine wpAny_bind (wpAny_newObj_type ?_ (by size_fits)); refine wpAny_bind (m := firstArgMember _ _) (wpAny_of_eq (a := Value.none) (by first | rfl | (simp only [firstArgMember]; rfl)) ?_)
  refine wpAny_newObj_type ?_ (by size_fits); simp only [raiseNew]; refine wpAny_bind (wpAny_handled ?_)
  first | rw [show A.in1.handled = none from hh] | rw [hh]
  refine wpAny_bind (wpAny_pure (wpAny_throw ?_))
  exact wpAny_bind (wpAny_isInstance (T := "StopIteration") (b := true) ⟨_, Heap.get?_push_size _ rfl, rfl⟩ isSubtype_stop (wpAny_pure (z _ (((Heap.SameBut.update ..).extBut.push _).push _))))
theorem walks_drw (hh : A.handled = none) (I d : Addr) (ne : d ≠ I) (ks : List Value) (ep : Nat) :
    Walks P w A I [I, d] [I] ks.length (fun i v => ks[i]? = some v) (fun i h => h.IsKeyIter I d i ks.length ep ∧ DRaw h d ks ep) where
  sub := fun b hb => by simp at hb; simp [hb]
  frame := fun _ _ _ st k => ⟨st.1.at fun o e => k I (by simp) o e, st.2.at' fun o e => k d (by simp) o e⟩
  item := fun i s Q E hi st z => by
    refine drw_item st.1 st.2 (List.getElem?_eq_getElem hi) fun h' ik sb => ?_
    exact z _ h' s.toks (List.getElem?_eq_getElem hi) ⟨ik, st.2.at' fun o e => sb.extBut _ _ ne e⟩ fun b o hb e => sb.extBut b o (fun t => hb (by simp [t])) e
  done := fun s Q E st z => drw_end hh st.1 st.2 (by simp) fun h' sb => z h' s.toks fun b o hb e => sb b o (fun t => hb (by simp [t])) e
  self := fun _ _ _ _ st z => wpAny_pyIter_keyiter st.1 z
theorem src_drw (lo : (d == sysModules) = false) : PySem.W.KdlSrc P w "dict" d d ks.length (fun i v => ks[i]? = some v) (fun h => DRaw h d ks ep) where
  type := fun _ q => q.typeIs
  there := fun _ q => ⟨q.lt, q.lt⟩
  keep := fun _ _ q k => q.at' fun o e => k d (.inl rfl) o e
  notList := by decide
  notTuple := by decide
  hint := fun _ _ _ _ q z => PySem.W.kdl_hint_dict q.typeIs z
  iter := fun _ _ hh q => ⟨_, _, (fun _ _ z => drw_iter lo q z), walks_drw hh _ d (Nat.ne_of_lt q.lt) ks ep, ⟨⟨_, Heap.get?_push_size _ rfl, rfl, rfl⟩, q.at' fun o e => Heap.get?_push_of_some _ e⟩⟩
theorem items_eq {P' : Nat → Value → Prop} {acc : Array Value} (h : ItemsOf (fun i v => ks[i]? = some v) acc ks.length) : acc.toList = ks := by
  obtain ⟨h1, h2⟩ := h
  apply List.ext_getElem?
  intro i
  by_cases hi : i < ks.length
  · have := h2 i (acc[i]'(by omega)) (by simp [show i < acc.size by omega])
    rw [this, Array.getElem?_toList, Array.getElem?_eq_getElem (by omega)]
  · rw [List.getElem?_eq_none (by rw [Array.length_toList]; omega), List.getElem?_eq_none (by omega)]
theorem collect_drw (hh : A.handled = none) (lo : (d == sysModules) = false) (q : DRaw s.heap d ks ep) (hz : ks.length ≤ sizeLine) {Q : List Value → Shared → Prop}
    (k : ∀ (h' : Heap) tk, (∀ b o, s.heap.get? b = some o → h'.get? b = some o) → Q ks { s with heap := h', toks := tk }) : wpAny (model P w) A (collect (.ref d)) Q E s := by
  unfold collect
  refine wpAny_bind (wpAny_runValue (codeAny_builtin PySem.F.entry_proto_collect ?_))
  rw [Around.under_plainId PySem.F.plain_proto_collect _]
  have hlt := q.lt
  have g0 : (s.heap.push (seqObj "list" #[] 0)).get? s.heap.objs.size = some (seqObj "list" #[] 0) := Heap.get?_push_size _ rfl
  have q1 : DRaw (s.heap.push (seqObj "list" #[] 0)) d ks ep := q.at' fun o e => Heap.get?_push_of_some _ e
  show wpAny _ A.in1 (newList [] >>= fun b => again (.builtin "list.__iadd__" ⟨[b, .ref d], []⟩)) _ _ s
  refine wpAny_bind (wpAny_newList (wpAny_pure ⟨plainId_quiet PySem.F.plain_list_iadd _, codeAny_builtin PySem.F.entry_list_iadd ?_⟩))
  rw [Around.under_plainId PySem.F.plain_list_iadd _]
  show wpAny _ A.in1 (Builtin.List.listExtendWith (.ref s.heap.objs.size) (.ref d) (.ref s.heap.objs.size)) _ _ { s with heap := s.heap.push (seqObj "list" #[] 0) }
  have ne : s.heap.objs.size ≠ d := Ne.symm (Nat.ne_of_lt hlt)
  refine PySem.W.kdl_extend (R := fun r s' => match r with
    | .ok (.ret v) => wpAny (model P w) A (match v with
      | .ref a => do
        match (← load a).data with
        | .seq xs _ => pure xs.toList
        | _ => unsupported "internal:collect"
      | _ => unsupported "internal:collect") Q E s'
    | .ok _ => False
    | .error e => E e s') (s := { s with heap := s.heap.push (seqObj "list" #[] 0) }) (src_drw lo) hh q1 s.heap.objs.size ne ne (.ref s.heap.objs.size) 0 g0 (fun h' tk acc c kk gS it => ?_) hz
  show wpAny _ A (load s.heap.objs.size >>= _) _ _ _
  refine wpAny_bind (wpAny_load (s := { s with heap := h', toks := tk }) gS (wpAny_pure ?_))
  have e : acc.toList = ks := items_eq (P' := fun _ _ => True) it
  show Q acc.toList _
  rw [e]
  exact k h' tk fun b o eb => kk b o (fun t => by rw [t] at eb; exact absurd (Heap.lt_size eb) (Nat.lt_irrefl _)) (Heap.get?_push_of_some _ eb)
end
end BF
namespace BF
open PySem PySem.Spec PyProof.Rows L2 PySem.SeqAt
theorem KD.keys {kvs : List (Dt × V)} {xs : List (Dt × Addr × Value)} (r : KD kvs xs) : kvs.map (·.1) = xs.map (·.1) := by
  induction r with
  | nil => rfl
  | cons h _ ih => rw [List.map_cons, List.map_cons, ih, h.1]
theorem vals_refs (xs : List (Dt × Addr × Value)) : Vals (xs.map fun x => V.ref x.2.1) (xs.map fun x => Value.ref x.2.1) := by
  induction xs with
  | nil => exact .nil
  | cons x _ ih => exact .cons rfl ih
theorem dts_keys {P : Program} {w : World} {H : Hp} : ∀ {xs : List (Dt × Addr × Value)}, (∀ x ∈ xs, DtIs H (.ref x.2.1) x.1 ∧ x.1.dp ≤ 8) → DtsIs H (xs.map fun x => V.ref x.2.1) (xs.map (·.1))
  | [], _ => .nil
  | x :: xs, h => .cons (h x List.mem_cons_self).1 (dts_keys (P := P) (w := w) fun y hy => h y (List.mem_cons_of_mem _ hy))
section
variable {X : Cx}
theorem raw_of {pins : List (Addr × Obj)} {σ : L2.St} {H : Hp} {s : Shared} {a : Addr} {xs : List (Dt × Addr × Value)} (I : Inv X pins σ H s) (d : DicH X.prog X.w H a xs) : ∃ ep, DRaw s.heap a (xs.map fun x => Value.ref x.2.1) ep := by
  obtain ⟨o, es, ep, ho, hc, dat, ek, _⟩ := dicH_of I d
  refine ⟨ep, o, es, ho, hc, dat, ?_⟩
  rw [ek, List.map_map]
  rfl
theorem call_sortedD {k : Nat} (hr : Room k X.A) : CallR X (.builtin "sorted") (fun xs H Q => ∃ (a : Addr) (kvs : List (Dt × V)) (T : String), xs = [.ref a] ∧ DicV X.prog X.w H a kvs ∧ (∀ p ∈ kvs, ∃ e r, p.1 = .tup (e :: r) ∧ e.tag = T) ∧ (∀ p ∈ kvs, ∀ p' ∈ kvs, Dt.like p.1 p'.1 = true) ∧
    ∀ l zs es, H l = none → DtsIs H zs es → es.Perm (kvs.map (·.1)) → es.Pairwise (fun d d' => Dt.blt d' d = false) → Q (.ref l) (upd H l (.lst zs))) := by
  intro pins s σ H xs us Q I r h
  obtain ⟨a, kvs, T, rfl, ⟨ys, dic, kd⟩, hT, hL, q⟩ := h
  have hu := hr.units
  obtain ⟨u, rfl, rx⟩ := vals1 r
  cases rx
  obtain ⟨ep, raw⟩ := raw_of I dic
  have hk := kd.keys
  have kmem : ∀ d ∈ ys.map (·.1), ∃ p ∈ kvs, p.1 = d := fun d hd => by
    rw [← hk] at hd
    obtain ⟨p, hp, e⟩ := List.mem_map.mp hd
    exact ⟨p, hp, e⟩
  have dk := dts_keys (P := X.prog) (w := X.w) (H := H) dic.key
  refine Calls.call_function_entry kind_sorted plain_sorted entry_sorted (args_sorted1 _) ?_
  unfold Builtin.«sorted»
  refine wpAny_bind (m := checkCount "sorted" 1 1 _) (wpAny_pure (wpAny_bind (collect_drw (A := X.A.in1) (show X.A.in1.handled = none from hr.hd) dic.sys raw (by rw [List.length_map]; exact sz dic.len) fun h' tk kk => ?_)))
  have I2 : Inv X pins σ H { s with heap := h', toks := tk } := I.kept kk
  refine sort_tail (T := T) I2 (vals_refs ys) (by rw [List.length_map]; exact sz dic.len) dk (fun d hd => ?_) (fun d1 h1 d2 h2 => ?_) (fun d hd => ?_) fun l zz ez h3 pz dz pe srt hl J => ?_
  · obtain ⟨p, hp, rfl⟩ := kmem d hd
    exact hT p hp
  · obtain ⟨p1, hp1, rfl⟩ := kmem d1 h1
    obtain ⟨p2, hp2, rfl⟩ := kmem d2 h2
    exact hL p1 hp1 p2 hp2
  · obtain ⟨x, hx, rfl⟩ := List.mem_map.mp hd
    have := (dic.key x hx).2
    show X.A.units + 1 + 4 + _ < _
    omega
  · exact ⟨_, rfl, .ref l, upd H l (.lst zz), J, rfl, q l zz ez hl dz (by rw [hk]; exact pe) srt⟩
end
end BF
namespace BF
open PySem PySem.Spec PyProof.Rows L2
section
variable {X : Cx} {o e : Expr} {es : List Expr} {to : TE} {t : TA} {name : Str} {apos cpos : Pos} {id : String} {r : V → List V → Hp → VK → Prop}
def tBMD (P : Program) (w : World) (r : V → List V → Hp → VK → Prop) (to : TE) (t : TA) : TE := fun σ H Q => to σ H fun x H1 => (∃ a kvs, x = .ref a ∧ DicV P w H1 a kvs) ∧ t σ H1 fun xs H2 => r x xs H2 Q
theorem pe_bmD (slot : Slot "dict" name id) (hty : typeOf (.builtin id) = pure (.type "method_descriptor")) (hm : MtR X id r) (ho : PE X o to) (ha : PA X (e :: es) t)
    (hbase : attributeBase o name X.env (eval o X.env) = eval o X.env := by rfl)
    (hfew : ((backTo cpos (starEach (e :: es) X.env)).all (fun x => !x.1) && (backToKw cpos (keywordEach [] X.env)).all (fun x => x.1.isSome) && decide ((e :: es).length + ([] : List Keyword).length + (if ([] : List Keyword).isEmpty then 0 else 1) < 30)) = true := by rfl)
    (hline : (apos.endLine == cpos.line) = true := by rfl) (hs : starEach (e :: es) X.env = (false, eval e X.env) :: starEach es X.env := by rfl) (hplain : (backTo cpos (starEach es X.env)).any (·.1) = false := by rfl) :
    PE X (.Call (.Attribute o name apos) (e :: es) [] cpos) (tBMD X.prog X.w r to t) := by
  intro pins s σ H Q I h
  refine wpAny_Call_method_late hbase hfew hline rfl (thn (ho pins s σ H _ I h) fun v s1 ⟨x, H1, I1, r1, ⟨a, kvs, ex, ⟨xs, dic, _⟩⟩, q1⟩ => ?_)
  subst ex
  cases r1
  obtain ⟨ob, _, _, e1, ex, _⟩ := dicH_of I1 dic
  refine ⟨"dict", id, F.plainAttrs_dict, slot, hty, ⟨ob, e1, ex.1⟩, fun b e2 => by cases e2; exact ⟨ob, e1, ex.2.1⟩, ?_⟩
  have hA := ha cpos pins s1 σ H1 _ I1 q1
  rw [hs] at hA ⊢
  refine Calls.callWith_builtin (by show (false || (backTo cpos (starEach es X.env)).any (·.1)) = false; rw [hplain] <;> rfl) (Calls.evalArgs_plain (thn hA fun us s2 ⟨vs, H2, I2, r2, q2⟩ => hm pins s2 σ H2 (.ref a) vs (.ref a) us Q I2 rfl r2 q2))
end
section
variable {P : Program} {w : World} {A : Around} {E : Value → Shared → Prop} {s : Shared} {K : Type} [DecidableEq K] {knd : HeapKind P w K}
theorem setDef_heap {d a : Addr} {xs : List (K × Addr × Value)} {k : K} {v : Value} {Q : Value → Shared → Prop} (hu : knd.room A) (hkey : knd.is s.heap k a) (hm : s.heap.DictOfH knd d xs)
    (h1 : ∀ p, atKey xs k = some p → Q p.2 { s with toks := s.toks + knd.draws k })
    (h2 : atKey xs k = none → ∀ h', h'.DictOfH knd d (storedH xs k a v) → Heap.SameBut d s.heap h' → Q v { s with heap := h', toks := s.toks + knd.draws k }) (hsz : xs.length ≤ sizeLine) :
    wpAny (model P w) A (dictSetDefault d (.ref a) v) Q E s := by
  obtain ⟨o, es, ep, ho, hc, hd, he, his, hn⟩ := hm
  unfold dictSetDefault; try with_reducible refine wpAny_holding ?_
  refine wpAny_bind (knd.pyHash hu hkey (wpAny_bind (wpAny_dictFind_heap (s := { s with toks := s.toks + knd.draws k }) hu hkey ho hd he his hn (fun hno => ?_) fun j p hj => ?_)))
  · have hnot : k ∉ xs.map (·.1) := not_mem_keys_of_get hno
    refine wpAny_bind (wpAny_rule (wpAny_bind (wpAny_updateDictKeys (hz := by have e := size_of_entries he; omega) (s := { s with toks := s.toks + knd.draws k }) ho hd (wpAny_pure (h2 (atKey_none_of_get hno) _ ⟨_, _, ep + 1, Heap.get?_update_self _ ho (Obj.isFreed_of_dict (Obj.data_mapDictKeys hd _)), hc.mapDictKeys _, Obj.data_mapDictKeys hd _, ?_, fun x hx => ?_, ?_⟩ (Heap.SameBut.update ..))))))
    · rw [storedH_new (atKey_none_of_get hno)]; simp [he, entryOfKey]
    · rw [storedH_new (atKey_none_of_get hno)] at hx
      rcases List.mem_append.mp hx with hx | hx
      · exact knd.keeps (his x hx) ho hd (Heap.SameBut.update ..)
      · have e' := List.mem_singleton.mp hx
        subst e'
        exact knd.keeps hkey ho hd (Heap.SameBut.update ..)
    · rw [storedH_new (atKey_none_of_get hno), List.map_append, List.nodup_append]
      refine ⟨hn, by simp, fun x hx y hy e' => ?_⟩
      have ey := List.mem_singleton.mp hy
      rw [e', ey] at hx
      exact hnot hx
  · refine wpAny_bind (wpAny_dictEntries (s := { s with toks := s.toks + knd.draws k }) ho hd ?_)
    rw [entry_at he j, hj]
    exact wpAny_bind (wpAny_rule (wpAny_pure (h1 p (atKey_of_get hn hj))))
end
section
variable {X : Cx}
theorem mt_setDef {k : Nat} (hr : Room k X.A) : MtR X "dict.setdefault" (fun x vs H Q => ∃ (a b : Addr) (d : Dt) (kvs : List (Dt × V)) (v : V), x = .ref a ∧ vs = [.ref b, v] ∧ DtIs H (.ref b) d ∧ d.dp ≤ 8 ∧ DicV X.prog X.w H a kvs ∧ kvs.length < 1000 ∧
    (∀ u, valV kvs d = some u → Q u H) ∧ (valV kvs d = none → ∀ o, DicV X.prog X.w (upd H a o) a (putK kvs d v) → Q v (upd H a o))) := by
  intro pins s σ H x vs v us Q I rx rv h
  obtain ⟨a, b, d, kvs, y, rfl, rfl, hd, h8, ⟨xs, dic, kd⟩, hl, q1, q2⟩ := h
  have hu := hr.units
  cases rx
  cases rv with
  | cons r1 r2 =>
    cases r2 with
    | cons r2 r3 =>
      cases r3
      cases r1
      rename_i dv
      have full := dicH_of I dic
      have xl : xs.length < 1000 := by rw [← Paired.length kd]; exact hl
      have rel := kd.val d
      refine wpAny_call_entry F.slot_dict_setdefault full.typeIs F.entry_dict_setdefault ?_ (F.args_dict_setdefault_3 _ _ _)
      unfold Builtin.«dict.setdefault»
      refine wpAny_bind ?_; unfold Builtin.Dict.keyAndDefault; refine wpAny_bind (wpAny_notOrdered_dict full.typeIs ?_)
      show wpAny _ _ (pure (a, Value.ref b, some dv)) _ _ s
      refine wpAny_pure ?_
      show wpAny _ _ (if (a == sysModules) = true then _ else (dictSetDefault a (.ref b) dv >>= _)) _ _ s
      rw [if_neg (fun e => by rw [dic.sys] at e; cases e)]
      refine wpAny_bind (setDef_heap (knd := dtKind X.prog X.w) (k := d) (by show X.A.units + 1 + 9 < cLine; omega) ⟨datH_of I hd rfl, h8⟩ full (fun p hp => ?_) (fun hno h' dd' hsb => ?_) (sz (by omega)))
      · rw [hp] at rel
        cases hv : valV kvs d with
        | none => rw [hv] at rel; exact absurd rel id
        | some u => rw [hv] at rel; exact wpAny_pure ⟨p.2, rfl, u, H, I.tok _, rel, q1 u hv⟩
      · rw [hno] at rel
        cases hv : valV kvs d with
        | some u => rw [hv] at rel; exact absurd rel id
        | none =>
          have dp : DicPart X.prog X.w h' a (storedH xs d b dv) := .of dd'
          refine wpAny_pure ⟨dv, rfl, y, upd H a (dicO X.prog X.w a (storedH xs d b dv)), d_write I (by rw [dic.at_]; exact True.intro) hsb (let ⟨q, _, _, hq, _⟩ := dd'; ⟨q, hq⟩) ⟨dp, (let ⟨q, _, _, hq, _⟩ := dd'; ⟨q, hq⟩), fun h1 h2 p1 k => p1.keep k⟩, r2, q2 hv _ ⟨_, ⟨upd_same, dic.sys, ?_, fun z hz => ?_⟩, kd.put d r2⟩⟩
          · exact Nat.le_trans (storedH_len _ _ _ _) (by omega)
          · rcases storedH_mem hz with ⟨z1, z2⟩ | ⟨y', hy, z1, z2⟩
            · rw [z1, z2]; exact ⟨DtIs.updX dic.at_ hd, h8⟩
            · rw [z1, z2]; exact ⟨DtIs.updX dic.at_ (dic.key y' hy).1, (dic.key y' hy).2⟩
end
end BF
namespace BF
open PySem PySem.Spec PyProof.Rows L2 PySem.SeqAt
section
variable {X : Cx}
theorem rows_at {pins : List (Addr × Obj)} {σ : L2.St} {H : Hp} {s : Shared} (I : Inv X pins σ H s) {A : Around} {xs ys : List V} {its its' : List Value} {dss : List (List Dt)} (rx : Rows' H xs dss) (ry : Rows' H ys dss) (rv : Vals xs its) (rv' : Vals ys its') (hu : A.units + 45 < cLine)
    (j : Nat) (j1 : j < its.toArray.size) (j2 : j < its'.toArray.size) : EqAt A s its.toArray[j] its'.toArray[j] true := by
  obtain ⟨lx, rx'⟩ := rx
  obtain ⟨ly, ry'⟩ := ry
  have j1' : j < its.length := by simpa using j1
  have j2' : j < its'.length := by simpa using j2
  have jx : j < xs.length := by rw [rv.length]; exact j1'
  have jy : j < ys.length := by rw [rv'.length]; exact j2'
  have jd : j < dss.length := by omega
  obtain ⟨u1, e1, r1⟩ := rv.get (List.getElem?_eq_getElem jx)
  obtain ⟨u2, e2, r2⟩ := rv'.get (List.getElem?_eq_getElem jy)
  obtain ⟨a1, ys1, ex1, h1, d1, k1⟩ := rx' j _ _ (List.getElem?_eq_getElem jx) (List.getElem?_eq_getElem jd)
  obtain ⟨a2, ys2, ex2, h2, d2, k2⟩ := ry' j _ _ (List.getElem?_eq_getElem jy) (List.getElem?_eq_getElem jd)
  rw [ex1] at r1
  rw [ex2] at r2
  cases r1
  cases r2
  have z1 : its.toArray[j] = .ref a1 := by
    have : its[j]? = some its[j] := List.getElem?_eq_getElem j1'
    rw [this] at e1
    simpa using Option.some.inj e1
  have z2 : its'.toArray[j] = .ref a2 := by
    have : its'[j]? = some its'[j] := List.getElem?_eq_getElem j2'
    rw [this] at e2
    simpa using Option.some.inj e2
  have E := listEqAt I A h1 h2 d1 d2 k1 hu
  rw [Dt.beqs_self] at E
  rw [z1, z2]
  exact E
theorem op_neTL {k : Nat} (hr : Room k X.A) : OpR X (compareOp .NotEq) (fun x y H Q => ∃ (a b : Addr) (xs ys : List V) (dss : List (List Dt)), x = .ref a ∧ y = .ref b ∧ SqT X.K H a xs ∧ SqT X.K H b ys ∧ Rows' H xs dss ∧ Rows' H ys dss ∧ Q (.bl false) H) := by
  intro pins s σ H x y v u Q I rx ry h
  obtain ⟨a, b, xs, ys, dss, rfl, rfl, hx, hy, rx', ry', q⟩ := h
  have hu := hr.units
  cases rx
  cases ry
  obtain ⟨its, rv, p, _⟩ := I.tuple hx
  obtain ⟨its', rv', p', _⟩ := I.tuple hy
  have n1 : its.toArray.size = dss.length := by rw [List.size_toArray, ← rv.length, rx'.1]
  have n2 : its'.toArray.size = dss.length := by rw [List.size_toArray, ← rv'.length, ry'.1]
  have R := RcNeAt.tuples (A := X.A) (s := s) (e := fun _ => true) p p' (by omega) (fun j j1 j2 => rows_at I (A := X.A.in1) rx' ry' rv rv' (by show X.A.units + 1 + 45 < cLine; omega) j j1 j2)
  have e : (!((List.range (min its.toArray.size its'.toArray.size)).all (fun _ => true) && its.toArray.size == its'.toArray.size)) = false := by rw [n1, n2]; simp
  rw [e] at R
  exact R X.prog X.w X.xe _ ⟨.bl _, H, I, rfl, q⟩
theorem op_eqTL {k : Nat} (hr : Room k X.A) : OpR X (compareOp .Eq) (fun x y H Q => ∃ (a b : Addr) (xs ys : List V) (dss : List (List Dt)), x = .ref a ∧ y = .ref b ∧ SqT X.K H a xs ∧ SqT X.K H b ys ∧ Rows' H xs dss ∧ Rows' H ys dss ∧ Q (.bl true) H) := by
  intro pins s σ H x y v u Q I rx ry h
  obtain ⟨a, b, xs, ys, dss, rfl, rfl, hx, hy, rx', ry', q⟩ := h
  have hu := hr.units
  cases rx
  cases ry
  obtain ⟨its, rv, p, _⟩ := I.tuple hx
  obtain ⟨its', rv', p', _⟩ := I.tuple hy
  have n1 : its.toArray.size = dss.length := by rw [List.size_toArray, ← rv.length, rx'.1]
  have n2 : its'.toArray.size = dss.length := by rw [List.size_toArray, ← rv'.length, ry'.1]
  have R := RcAt.tuples (A := X.A) (s := s) (e := fun _ => true) p p' (by omega) (fun j j1 j2 => rows_at I (A := X.A.in1) rx' ry' rv rv' (by show X.A.units + 1 + 45 < cLine; omega) j j1 j2)
  have e : ((List.range (min its.toArray.size its'.toArray.size)).all (fun _ => true) && its.toArray.size == its'.toArray.size) = true := by rw [n1, n2]; simp
  rw [e] at R
  exact R X.prog X.w X.xe _ ⟨.bl _, H, I, rfl, q⟩
end
end BF
namespace BF
open PySem PySem.Spec PyProof.Rows L2
abbrev Ho := Int × Int
abbrev Ln := Ho × Ho
def lnD (a : Ln) : Dt := .tup [hD a.1, hD a.2]
theorem hD_inj {p q : Ho} (h : hD p = hD q) : p = q := eqv_two.mp h
theorem hD_like (p q : Ho) : Dt.like (hD p) (hD q) = true := by simp [hD, Dt.like, Dt.likes]
theorem lnD_like (a b : Ln) : Dt.like (lnD a) (lnD b) = true := by simp [lnD, hD, Dt.like, Dt.likes]
theorem lnD_dp (a : Ln) : (lnD a).dp = 2 := by simp [lnD, hD, Dt.dp, Dt.dps]
theorem hD_dp1 (p : Ho) : (hD p).dp = 1 := by simp [hD, Dt.dp, Dt.dps]
theorem putK_mem (kvs : List (Dt × V)) (k : Dt) (v : V) (d : Dt) : d ∈ (putK kvs k v).map (·.1) ↔ d = k ∨ d ∈ kvs.map (·.1) := by
  constructor
  · intro h
    by_cases e : d = k
    · exact .inl e
    · right
      cases hv : valV kvs d with
      | some u => exact valV_in hv
      | none =>
        have h2 := valV_put kvs k d v
        rw [if_neg e, hv] at h2
        exact absurd h (valV_not h2)
  · rintro (e | e)
    · have h2 := valV_put kvs k d v
      rw [if_pos e] at h2
      exact valV_in h2
    · by_cases e' : d = k
      · have h2 := valV_put kvs k d v
        rw [if_pos e'] at h2
        exact valV_in h2
      · have h2 := valV_put kvs k d v
        rw [if_neg e'] at h2
        cases hv : valV kvs d with
        | some u => rw [hv] at h2; exact valV_in h2
        | none => exact absurd e (valV_not hv)
theorem putK_nd (kvs : List (Dt × V)) (k : Dt) (v : V) (hn : (kvs.map (·.1)).Nodup) : ((putK kvs k v).map (·.1)).Nodup := by
  cases hv : valV kvs k with
  | none => exact nd_putK v hn hv
  | some u =>
    have e : (putK kvs k v).map (·.1) = kvs.map (·.1) := by
      unfold putK
      rw [if_pos (by rw [valV_any, hv]; rfl), List.map_map]
      apply List.map_congr_left
      intro p _
      show (if p.1 = k then (p.1, v) else p).1 = p.1
      split <;> rfl
    rw [e]
    exact hn
theorem putK_len (kvs : List (Dt × V)) (k : Dt) (v : V) : (putK kvs k v).length ≤ kvs.length + 1 := by
  unfold putK
  split
  · rw [List.length_map]; omega
  · simp
end BF
namespace BF
open PySem PySem.Spec PyProof.Rows L2
section
variable {P : Program} {w : World} {A : Around} {E : Value → Shared → Prop}
theorem draw_lst {j l : Addr} {its : Array Value} (ne : l ≠ j) : ∀ (m i : Nat) (s : Shared) (Q : List Value → Shared → Prop), s.heap.IsListIter j l i → s.heap.IsList l its → i + m ≤ its.size →
    (∀ h', h'.IsListIter j l (i + m) → Heap.SameBut j s.heap h' → Q ((its.toList.drop i).take m) { s with heap := h' }) → wpAny (model P w) A (draw (.ref j) m) Q E s
  | 0, i, s, Q, hj, _, _, z => by
    show wpAny _ _ (pure []) Q E s
    exact wpAny_pure (by simpa using z s.heap hj (Heap.SameBut.refl ..))
  | m + 1, i, s, Q, hj, hl, le, z => by
    have lt : i < its.size := by omega
    show wpAny _ _ (pyNext (.ref j) >>= _) Q E s
    refine wpAny_bind (wpAny_pyNext_list_item hj hl (x := its[i]) (by simp [lt]) fun h1 j1 s1 => ?_)
    refine wpAny_bind (wpAny_holding (draw_lst ne m (i + 1) _ _ j1 (Heap.IsList.at hl fun o e => s1.extBut _ _ ne e) (by omega) fun h2 j2 s2 => wpAny_pure ?_))
    have hd : its.toList.drop i = its[i] :: its.toList.drop (i + 1) := by simp [List.drop_eq_getElem_cons, lt]
    have := z h2 (by rw [show i + (m + 1) = i + 1 + m by omega]; exact j2) (s1.trans s2)
    rw [hd, List.take_succ_cons] at this
    exact this
theorem unpack_lst {s : Shared} {l : Addr} {its : Array Value} {tg : List (Bool × (Value → Sem Unit))} {Q : Unit → Shared → Prop} (hh : A.handled = none) (hl : s.heap.IsList l its) (hn : tg.length = its.size) (hst : tg.findIdx? (·.1) = none)
    (z : ∀ h', Heap.ExtBut s.heap.objs.size s.heap h' → wpAny (model P w) A (assignInOrder (tg.map (·.2)) its.toList) Q E { s with heap := h' }) : wpAny (model P w) A (unpack (.ref l) tg) Q E s := by
  have ne : l ≠ s.heap.objs.size := by obtain ⟨o, ho, _⟩ := hl; exact Nat.ne_of_lt (Heap.lt_size ho)
  unfold unpack
  rw [hn, hst]
  refine wpAny_bind (wpAny_holding ?_)
  unfold unpackItems
  refine wpAny_bind ?_
  unfold notIterableAtAll
  refine wpAny_bind (wpAny_specialOf hl.typeIs slot_list_iter.lookup (wpAny_pure ?_))
  simp only [Bool.false_eq_true, if_false]
  refine wpAny_bind (wpAny_holding (wpAny_pyIter_list hl ?_))
  refine wpAny_bind (wpAny_holding (draw_lst ne its.size 0 _ _ ⟨_, Heap.get?_push_size _ rfl, rfl, rfl⟩ (hl.push _) (by omega) fun h1 j1 s1 => ?_))
  have all : List.take its.size (List.drop 0 its.toList) = its.toList := by rw [List.drop_zero]; exact List.take_of_length_le (by simp)
  rw [all]
  rw [if_neg (by simp)]
  have hl1 : h1.IsList l its := Heap.IsList.at (hl.push _) fun o e => s1.extBut _ _ ne e
  refine wpAny_bind (wpAny_holding (wpAny_pyNext_list_end hh j1 hl1 (by simp) fun h2 k2 => ?_))
  simp only [Option.isSome_none, Bool.false_eq_true, if_false]
  exact wpAny_pure (z h2 fun b o hb e => k2 b o hb (s1.extBut b o hb (Heap.get?_push_of_some _ e)))
end
section
variable {X : Cx} {pos : Pos}
def gTupL (K : PySem.W.Frag) (n : Nat) (t : TGs) : TG := fun v σ H Q => ∃ a xs, v = .ref a ∧ SqL K H a xs ∧ xs.length = n ∧ t xs σ H Q
theorem pg_tupL {es : List Expr} {k : Nat} {t : TGs} {n : Nat} (hc : X.calm = true) (h : PGs X es t)
    (hn : (assignEach es X.env).length = n := by rfl) (hst : (assignEach es X.env).findIdx? (·.1) = none := by rfl) : PG X (.Tuple es k pos) (gTupL X.K n t) := by
  intro pins s σ H v u Q I r hw
  obtain ⟨a, xs, e1, hq, hl, hw⟩ := hw
  subst e1
  cases r
  obtain ⟨its, rv, pl, hz⟩ := I.list hq
  rw [arm_assign_Tuple]
  refine wpAny_bind (wpAny_standAt (unpack_lst (I.ok.hd hc) pl.isList (by simp [hn, ← hl, rv.length]) hst fun h' hx => ?_))
  have I1 : Inv X pins σ H { s with heap := h' } := I.kept (t' := s.toks) fun b o e => hx b o (Nat.ne_of_lt (Heap.lt_size e)) e
  exact h pins _ σ H xs _ Q I1 (by simpa using rv) hw
end
end BF
namespace BF
open PySem PySem.Spec PyProof.Rows L2
def DtL (H : Hp) (l : Addr) (ds : List Dt) : Prop := ∃ vs, H l = some (.lst vs) ∧ DtsIs H vs ds
theorem DtL.same {H H' : Hp} {l : Addr} {ds : List Dt} (h : DtL H l ds) (s : Same H H') : DtL H' l ds := by
  obtain ⟨vs, e, d⟩ := h
  exact ⟨vs, s _ _ e, d.same s⟩
theorem th_at {H : Hp} {vs : List V} {hs : List (Int × Int)} (h : DtsIs H vs (hs.map hD)) {i : Nat} {v : V} (e : vs[i]? = some v) : ∃ q p, v = .ref q ∧ hs[i]? = some p ∧ two H q p := by
  obtain ⟨d, ed, dv⟩ := h.at i v e
  rw [List.getElem?_map] at ed
  cases hp : hs[i]? with
  | none => rw [hp] at ed; cases ed
  | some p =>
    rw [hp] at ed
    cases ed
    obtain ⟨q, rfl⟩ : ∃ q, v = .ref q := by cases dv; exact ⟨_, rfl⟩
    exact ⟨q, p, rfl, rfl, hD_two dv⟩
end BF
namespace BF
open PySem PySem.Spec PyProof.Rows L2
abbrev Ap := List (Ho × Dt)
def atH (ev : Ap) (h : Ho) : List Dt := (ev.filter fun e => decide (e.1 = h)).map (·.2)
theorem atH_snoc (ev : Ap) (e : Ho × Dt) (h : Ho) : atH (ev ++ [e]) h = atH ev h ++ (if e.1 = h then [e.2] else []) := by
  unfold atH
  rw [List.filter_append, List.map_append, List.filter_cons]
  by_cases z : e.1 = h
  · rw [if_pos z, if_pos (decide_eq_true z)]; rfl
  · rw [if_neg z, if_neg (by rw [decide_eq_false z]; exact Bool.false_ne_true)]; rfl
theorem atH_len (ev : Ap) (h : Ho) : (atH ev h).length ≤ ev.length := by
  unfold atH
  rw [List.length_map]
  exact List.length_filter_le _ _
theorem atH_no {ev : Ap} {h : Ho} (n : ∀ e ∈ ev, e.1 ≠ h) : atH ev h = [] := by
  unfold atH
  rw [List.filter_eq_nil_iff.mpr (fun e he => by rw [decide_eq_false (n e he)]; exact Bool.false_ne_true)]
  rfl
theorem DicV.updL {P : Program} {w : World} {H : Hp} {a r : Addr} {ys : List V} {o : HO} {kvs : List (Dt × V)} (d : DicV P w H a kvs) (er : H r = some (.lst ys)) : DicV P w (upd H r o) a kvs := by
  obtain ⟨xs, h, kd⟩ := d
  have ne : a ≠ r := fun z => by
    have := h.at_
    rw [z, er] at this
    cases this
  exact ⟨xs, ⟨by rw [upd_ne ne]; exact h.at_, h.sys, h.len, fun x hx => ⟨(h.key x hx).1.updL er, (h.key x hx).2⟩⟩, kd⟩
def SetD (P : Program) (w : World) (H : Hp) (a : Addr) (kvs : List (Dt × V)) (d : Dt) (v u : V) (H' : Hp) : Prop := (valV kvs d = some u ∧ H' = H) ∨ (valV kvs d = none ∧ u = v ∧ ∃ o, H' = upd H a o ∧ DicV P w (upd H a o) a (putK kvs d v))
theorem mt_setDefR {X : Cx} {k : Nat} (hr : Room k X.A) : MtR X "dict.setdefault" (fun x vs H Q => ∃ (a b : Addr) (d : Dt) (kvs : List (Dt × V)) (v : V), x = .ref a ∧ vs = [.ref b, v] ∧ DtIs H (.ref b) d ∧ d.dp ≤ 8 ∧ DicV X.prog X.w H a kvs ∧ kvs.length < 1000 ∧
    ∀ u H', SetD X.prog X.w H a kvs d v u H' → Q u H') := by
  intro pins s σ H x vs v us Q I rx rv h
  obtain ⟨a, b, d, kvs, y, e1, e2, h1, h2, h3, h4, q⟩ := h
  exact mt_setDef hr pins s σ H x vs v us Q I rx rv ⟨a, b, d, kvs, y, e1, e2, h1, h2, h3, h4, fun u e => q u H (.inl ⟨e, rfl⟩), fun e o d' => q _ _ (.inr ⟨e, rfl, o, rfl, d'⟩)⟩
structure DoL (P : Program) (w : World) (H0 H : Hp) (a : Addr) (ks : List Ho) (ev : Ap) (kvs : List (Dt × V)) : Prop where
  dic : DicV P w H a kvs
  nd : (kvs.map (·.1)).Nodup
  mem : ∀ d, d ∈ kvs.map (·.1) ↔ ∃ h ∈ ks, hD h = d
  evk : ∀ e ∈ ev, e.1 ∈ ks
  val : ∀ h ∈ ks, ∃ r, valV kvs (hD h) = some (.ref r) ∧ H0 r = none ∧ DtL H r (atH ev h)
  sep : ∀ h g r, valV kvs (hD h) = some (.ref r) → valV kvs (hD g) = some (.ref r) → h = g
section
variable {P : Program} {w : World} {H0 H : Hp} {a : Addr} {ks : List Ho} {ev : Ap} {kvs : List (Dt × V)}
theorem DoL.same {H' : Hp} (D : DoL P w H0 H a ks ev kvs) (s : Same H H') : DoL P w H0 H' a ks ev kvs :=
  ⟨D.dic.same s, D.nd, D.mem, D.evk, fun h hh => let ⟨r, e, n, d⟩ := D.val h hh; ⟨r, e, n, d.same s⟩, D.sep⟩
theorem DoL.start (d : DicV P w H a []) : DoL P w H0 H a [] [] [] :=
  ⟨d, List.nodup_nil, fun d => ⟨fun h => (nomatch h), fun ⟨_, h, _⟩ => (nomatch h)⟩, fun _ h => (nomatch h), fun _ h => (nomatch h), fun _ _ _ h => (nomatch h)⟩
theorem DoL.isIn {h : Ho} {u : V} (D : DoL P w H0 H a ks ev kvs) (e : valV kvs (hD h) = some u) : h ∈ ks := by
  obtain ⟨g, hg, e⟩ := (D.mem _).mp (valV_in e)
  exact hD_inj e ▸ hg
theorem DtL.updX {H : Hp} {r a : Addr} {φ : Heap → Prop} {o : HO} {ds : List Dt} (h : DtL H r ds) (ha : H a = some (.ext φ)) : DtL (upd H a o) r ds := by
  obtain ⟨vs, e, d⟩ := h
  have ne : r ≠ a := fun z => by rw [z, ha] at e; cases e
  exact ⟨vs, by rw [upd_ne ne]; exact e, d.updX ha⟩
theorem DtL.updL {H : Hp} {r q : Addr} {ys : List V} {o : HO} {ds : List Dt} (h : DtL H r ds) (hq : H q = some (.lst ys)) (ne : r ≠ q) : DtL (upd H q o) r ds := by
  obtain ⟨vs, e, d⟩ := h
  exact ⟨vs, by rw [upd_ne ne]; exact e, d.updL hq⟩
theorem DoL.key {h : Ho} {L : Addr} {o : HO} (D : DoL P w H0 H a ks ev kvs) (hn : h ∉ ks) (nL : H L = none) (n0 : H0 L = none) (d' : DicV P w (upd (upd H L (.lst [])) a o) a (putK kvs (hD h) (.ref L))) :
    DoL P w H0 (upd (upd H L (.lst [])) a o) a (h :: ks) ev (putK kvs (hD h) (.ref L)) := by
  have S := same_upd (o := HO.lst []) nL
  obtain ⟨φ, ext⟩ := (D.dic.same S).ext
  have fr : ∀ g r, valV kvs (hD g) = some (.ref r) → r ≠ L := fun g r e z => by
    obtain ⟨r', e', _, vs, el, _⟩ := D.val g (D.isIn e)
    rw [e] at e'
    cases e'
    rw [z, nL] at el
    cases el
  have neL : L ≠ a := fun z => by
    obtain ⟨φ', e'⟩ := D.dic.ext
    rw [← z, nL] at e'
    cases e'
  refine ⟨d', putK_nd _ _ _ D.nd, fun d => ?_, fun e he => List.mem_cons_of_mem _ (D.evk e he), fun g hg => ?_, fun g g' r e1 e2 => ?_⟩
  · rw [putK_mem, D.mem]
    constructor
    · rintro (rfl | ⟨g, hg, rfl⟩)
      · exact ⟨h, List.mem_cons_self .., rfl⟩
      · exact ⟨g, List.mem_cons_of_mem _ hg, rfl⟩
    · rintro ⟨g, hg, rfl⟩
      rcases List.mem_cons.mp hg with rfl | hg
      · exact .inl rfl
      · exact .inr ⟨g, hg, rfl⟩
  · rw [valV_put]
    by_cases e : hD g = hD h
    · have := hD_inj e
      subst this
      rw [if_pos rfl]
      refine ⟨L, rfl, n0, [], by rw [upd_ne neL]; exact upd_same, ?_⟩
      rw [atH_no fun x hx (z : x.1 = g) => hn (by rw [← z]; exact D.evk x hx)]
      exact .nil
    · rw [if_neg e]
      have hg' : g ∈ ks := by
        rcases List.mem_cons.mp hg with z | z
        · exact absurd (by rw [z]) e
        · exact z
      obtain ⟨r, e1, n1, d1⟩ := D.val g hg'
      exact ⟨r, e1, n1, (d1.same S).updX ext⟩
  · rw [valV_put] at e1 e2
    by_cases z1 : hD g = hD h
    · by_cases z2 : hD g' = hD h
      · exact hD_inj (z1.trans z2.symm)
      · rw [if_pos z1] at e1
        rw [if_neg z2] at e2
        cases e1
        exact absurd rfl (fr _ _ e2)
    · by_cases z2 : hD g' = hD h
      · rw [if_neg z1] at e1
        rw [if_pos z2] at e2
        cases e2
        exact absurd rfl (fr _ _ e1)
      · rw [if_neg z1] at e1
        rw [if_neg z2] at e2
        exact D.sep _ _ _ e1 e2
theorem DoL.app {h : Ho} {r : Addr} {ys : List V} {v : V} {x : Dt} (D : DoL P w H0 H a ks ev kvs) (hk : valV kvs (hD h) = some (.ref r)) (er : H r = some (.lst ys)) (dv : DtIs H v x) :
    DoL P w H0 (upd H r (.lst (ys ++ [v]))) a ks (ev ++ [(h, x)]) kvs := by
  refine ⟨D.dic.updL er, D.nd, D.mem, fun e he => ?_, fun g hg => ?_, D.sep⟩
  · rcases List.mem_append.mp he with he | he
    · exact D.evk e he
    · rw [List.mem_singleton.mp he]
      exact D.isIn hk
  · obtain ⟨q, e1, n1, d1⟩ := D.val g hg
    rw [atH_snoc]
    by_cases z : h = g
    · subst z
      rw [hk] at e1
      cases e1
      rw [if_pos rfl]
      obtain ⟨vs, ev', dv'⟩ := d1
      rw [er] at ev'
      cases ev'
      exact ⟨r, hk, n1, _, upd_same, (dv'.updL er).snoc (dv.updL er)⟩
    · rw [if_neg z, List.append_nil]
      refine ⟨q, e1, n1, d1.updL er fun z' => z ?_⟩
      rw [z'] at e1
      exact D.sep _ _ _ hk e1
theorem DoL.setDef {h : Ho} {L : Addr} {u : V} {H' : Hp} (D : DoL P w H0 H a ks ev kvs) (S : Same H0 H) (na : H0 a = none) (nL : H L = none) (sd : SetD P w (upd H L (.lst [])) a kvs (hD h) (.ref L) u H') :
    ∃ r ks' kvs' ys, u = .ref r ∧ DoL P w H0 H' a ks' ev kvs' ∧ Same H0 H' ∧ (∀ g, g ∈ ks' ↔ g = h ∨ g ∈ ks) ∧ valV kvs' (hD h) = some (.ref r) ∧ H0 r = none ∧ H' r = some (.lst ys) ∧ ys.length ≤ ev.length ∧ kvs'.length ≤ kvs.length + 1 ∧
      ∀ C cs, H C = some (.lst cs) → (∀ h r, valV kvs (hD h) = some (.ref r) → r ≠ C) → H' C = some (.lst cs) ∧ ∀ h r, valV kvs' (hD h) = some (.ref r) → r ≠ C := by
  have T := same_upd (o := HO.lst []) nL
  rcases sd with ⟨e, rfl⟩ | ⟨e, rfl, o, rfl, d'⟩
  · have hi := D.isIn e
    obtain ⟨r, e1, n1, vs, er, dr⟩ := D.val h hi
    rw [e] at e1
    cases e1
    refine ⟨r, ks, kvs, vs, rfl, D.same T, S.trans T, fun g => ⟨.inr, ?_⟩, e, n1, T _ _ er, by rw [dr.length]; exact atH_len _ _, by omega, fun C cs eC nc => ⟨T _ _ eC, nc⟩⟩
    rintro (rfl | z)
    · exact hi
    · exact z
  · have hn : h ∉ ks := fun z => by
      obtain ⟨r, e1, _⟩ := D.val h z
      rw [e] at e1
      cases e1
    have n0 := none_same S nL
    have D' := D.key hn nL n0 d'
    obtain ⟨r, e1, n1, vs, er, dr⟩ := D'.val h (List.mem_cons_self ..)
    have e2 : valV (putK kvs (hD h) (.ref L)) (hD h) = some (.ref L) := by rw [valV_put, if_pos rfl]
    rw [e2] at e1
    cases e1
    refine ⟨L, _, _, vs, rfl, D', same_updN (S.trans T) na, fun g => List.mem_cons, e2, n0, er, by rw [dr.length]; exact atH_len _ _, putK_len _ _ _, fun C cs eC nc => ⟨?_, fun g r' hg => ?_⟩⟩
    · obtain ⟨φ, ext⟩ := D.dic.ext
      rw [upd_ne (fun e => by rw [e, ext] at eC; cases eC)]
      exact T _ _ eC
    · rw [valV_put] at hg
      by_cases z : hD g = hD h
      · rw [if_pos z] at hg
        cases hg
        exact fun e => by rw [e, eC] at nL; cases nL
      · rw [if_neg z] at hg
        exact nc g r' hg
theorem DoL.get {h : Ho} (D : DoL P w H0 H a ks ev kvs) (hh : h ∈ ks) : ∃ r vs, valV kvs (hD h) = some (.ref r) ∧ H r = some (.lst vs) ∧ DtsIs H vs (atH ev h) := by
  obtain ⟨r, e, _, vs, er, d⟩ := D.val h hh
  exact ⟨r, vs, e, er, d⟩
end
end BF
namespace BF
open PySem PySem.Spec PyProof.Rows L2
def Adj (ls : List Ln) (k m : Ho) : Prop := ∃ a ∈ ls, (a.1 = k ∧ a.2 = m) ∨ (a.2 = k ∧ a.1 = m)
theorem Adj.symm {ls : List Ln} {k m : Ho} (h : Adj ls k m) : Adj ls m k := by
  obtain ⟨a, ha, h | h⟩ := h
  · exact ⟨a, ha, .inr ⟨h.2, h.1⟩⟩
  · exact ⟨a, ha, .inl ⟨h.2, h.1⟩⟩
inductive Cn (ls : List Ln) (h : Ho) : Ho → Prop where
  | refl : Cn ls h h
  | step {k m : Ho} : Cn ls h k → Adj ls k m → Cn ls h m
theorem Cn.trans {ls : List Ln} {x y z : Ho} (h : Cn ls x y) (g : Cn ls y z) : Cn ls x z := by
  induction g with
  | refl => exact h
  | step _ a ih => exact .step ih a
theorem Cn.symm {ls : List Ln} {x y : Ho} (h : Cn ls x y) : Cn ls y x := by
  induction h with
  | refl => exact .refl
  | step _ a ih => exact (Cn.step .refl a.symm).trans ih
theorem Cn.line {ls : List Ln} {a : Ln} (h : a ∈ ls) : Cn ls a.1 a.2 := .step .refl ⟨a, h, .inl ⟨rfl, rfl⟩⟩
theorem Cn.stay {ls : List Ln} {S : Ho → Prop} (cl : ∀ a ∈ ls, S a.1 ↔ S a.2) {x y : Ho} (h : Cn ls x y) (hx : S x) : S y := by
  induction h with
  | refl => exact hx
  | step _ a ih =>
    obtain ⟨l, hl, ⟨e1, e2⟩ | ⟨e1, e2⟩⟩ := a
    · rw [← e2]; exact (cl l hl).mp (by rw [e1]; exact ih)
    · rw [← e2]; exact (cl l hl).mpr (by rw [e1]; exact ih)
theorem Cn.less {ls ms : List Ln} {x y : Ho} (sub : ∀ a ∈ ls, Cn ls x a.1 → a ∈ ms) (h : Cn ls x y) : Cn ms x y := by
  induction h with
  | refl => exact .refl
  | @step k m hk a ih =>
    obtain ⟨l, hl, e⟩ := a
    refine .step ih ⟨l, sub l hl ?_, e⟩
    rcases e with ⟨e1, _⟩ | ⟨e1, _⟩
    · rw [e1]; exact hk
    · exact (hk.trans (by rw [← e1]; exact (Cn.line hl).symm))
end BF
namespace BF
open PySem PySem.Spec PyProof.Rows L2
def setL (L : Ho → Option Ho) (h f : Ho) : Ho → Option Ho := fun k => if k = h then some f else L k
theorem setL_same {L : Ho → Option Ho} {h f : Ho} : setL L h f h = some f := if_pos rfl
theorem setL_ne {L : Ho → Option Ho} {h f k : Ho} (e : k ≠ h) : setL L h f k = L k := if_neg e
structure Whole (ls : List Ln) (L : Ho → Option Ho) : Prop where
  con : ∀ h g, L h = some g → Cn ls g h
  cl : ∀ h g, L h = some g → ∀ k, Adj ls h k → L k = some g
  own : ∀ h g, L h = some g → L g = some g
structure Srch (ls : List Ln) (f : Ho) (L : Ho → Option Ho) (W : List Ho) : Prop where
  wc : ∀ h ∈ W, Cn ls f h
  con : ∀ h g, L h = some g → Cn ls g h
  cl : ∀ h g, L h = some g → g ≠ f → ∀ k, Adj ls h k → L k = some g
  op : ∀ h, L h = some f → ∀ k, Adj ls h k → L k = some f ∨ k ∈ W
  own : ∀ h g, L h = some g → L g = some g
  st : L f ≠ none ∨ W = [f]
theorem Srch.begin {ls : List Ln} {L : Ho → Option Ho} (w : Whole ls L) (f : Ho) : Srch ls f L [f] :=
  ⟨fun h hh => by rw [List.mem_singleton.mp hh]; exact .refl, w.con, fun h g e _ => w.cl h g e, fun h e k a => .inl (w.cl h f e k a), w.own, .inr rfl⟩
theorem Srch.done {ls : List Ln} {f : Ho} {L : Ho → Option Ho} (s : Srch ls f L []) : Whole ls L ∧ L f ≠ none := by
  refine ⟨⟨s.con, fun h g e k a => ?_, s.own⟩, ?_⟩
  · by_cases hg : g = f
    · subst hg
      rcases s.op h e k a with z | z
      · exact z
      · cases z
    · exact s.cl h g e hg k a
  · rcases s.st with z | z
    · exact z
    · cases z
theorem Srch.skip {ls : List Ln} {f h : Ho} {L : Ho → Option Ho} {W : List Ho} (s : Srch ls f L (W ++ [h])) (hh : L h ≠ none) : Srch ls f L W := by
  refine ⟨fun k hk => s.wc k (List.mem_append_left _ hk), s.con, s.cl, fun h' e k a => ?_, s.own, ?_⟩
  · rcases s.op h' e k a with z | z
    · exact .inl z
    · rcases List.mem_append.mp z with z | z
      · exact .inr z
      · rw [List.mem_singleton] at z
        subst z
        cases q : L k with
        | none => exact absurd q hh
        | some g =>
          by_cases hg : g = f
          · rw [hg]; exact .inl rfl
          · have := s.cl k g q hg h' a.symm
            rw [e] at this
            exact absurd (Option.some.inj this).symm hg
  · rcases s.st with z | z
    · exact .inl z
    · left
      have : h = f := by
        have z' : (W ++ [h]).getLast? = some f := by rw [z]; rfl
        rw [List.getLast?_append] at z'
        simpa using z'
      rw [← this]
      exact hh
theorem Srch.add {ls : List Ln} {f h : Ho} {L : Ho → Option Ho} {W N : List Ho} (s : Srch ls f L (W ++ [h])) (hh : L h = none) (hN : ∀ k, k ∈ N ↔ Adj ls h k) : Srch ls f (setL L h f) (W ++ N) := by
  have fh : Cn ls f h := s.wc h (by simp)
  have ff : setL L h f f = some f := by
    by_cases e : f = h
    · rw [e]; exact setL_same
    · rw [setL_ne e]
      rcases s.st with z | z
      · cases q : L f with
        | none => exact absurd q z
        | some g =>
          have hg := s.own f g q
          by_cases e2 : g = f
          · rw [e2]
          · have c := s.con f g q
            have hst : L h = some g := Cn.stay (S := fun k => L k = some g) (fun a ha => ⟨fun e1 => s.cl a.1 g e1 e2 a.2 ⟨a, ha, .inl ⟨rfl, rfl⟩⟩, fun e1 => s.cl a.2 g e1 e2 a.1 ⟨a, ha, .inr ⟨rfl, rfl⟩⟩⟩) fh q
            rw [hh] at hst
            cases hst
      · have : h = f := by
          have z' : (W ++ [h]).getLast? = some f := by rw [z]; rfl
          rw [List.getLast?_append] at z'
          simpa using z'
        exact absurd this.symm e
  have old : ∀ k g, L k = some g → setL L h f k = some g := fun k g e => by
    rw [setL_ne (fun z => by rw [z, hh] at e; cases e)]
    exact e
  refine ⟨fun k hk => ?_, fun k g e => ?_, fun k g e hg m a => ?_, fun k e m a => ?_, fun k g e => ?_, .inl (by rw [ff]; exact Option.some_ne_none _)⟩
  · rcases List.mem_append.mp hk with z | z
    · exact s.wc k (List.mem_append_left _ z)
    · exact .step fh ((hN k).mp z)
  · by_cases ek : k = h
    · rw [ek, setL_same] at e
      rw [ek, ← Option.some.inj e]
      exact fh
    · rw [setL_ne ek] at e
      exact s.con k g e
  · by_cases ek : k = h
    · rw [ek, setL_same] at e
      exact absurd (Option.some.inj e).symm hg
    · rw [setL_ne ek] at e
      exact old _ _ (s.cl k g e hg m a)
  · by_cases ek : k = h
    · subst ek
      exact .inr (List.mem_append_right _ ((hN m).mpr a))
    · rw [setL_ne ek] at e
      rcases s.op k e m a with z | z
      · exact .inl (old _ _ z)
      · rcases List.mem_append.mp z with z | z
        · exact .inr (List.mem_append_left _ z)
        · rw [List.mem_singleton] at z
          rw [z]
          exact .inl setL_same
  · by_cases ek : k = h
    · rw [ek, setL_same] at e
      rw [← Option.some.inj e]
      exact ff
    · rw [setL_ne ek] at e
      exact old _ _ (s.own k g e)
theorem Whole.same {ls : List Ln} {L : Ho → Option Ho} (w : Whole ls L) {h k g : Ho} (e : L h = some g) (c : Cn ls h k) : L k = some g :=
  Cn.stay (S := fun k => L k = some g) (fun a ha => ⟨fun e1 => w.cl a.1 g e1 a.2 ⟨a, ha, .inl ⟨rfl, rfl⟩⟩, fun e1 => w.cl a.2 g e1 a.1 ⟨a, ha, .inr ⟨rfl, rfl⟩⟩⟩) c e
theorem Whole.nil {ls : List Ln} : Whole ls (fun _ => none) := ⟨fun _ _ e => (nomatch e), fun _ _ e => (nomatch e), fun _ _ e => (nomatch e)⟩
end BF
namespace BF
open PySem PySem.Spec PyProof.Rows L2
section
variable {X : Cx} {pins : List (Addr × Obj)} {σ : L2.St} {H : Hp} {s : Shared}
theorem inv_thaw {a : Addr} {o : Obj} {φ : Heap → Prop} (I : Inv X pins σ H s) (ha : H a = some (.frz o (.ext φ))) (h0 : ∀ o' u', X.H₀ a ≠ some (.frz o' u')) : Inv X pins σ (upd H a (.ext φ)) s := by
  have nn : ∀ b, H b = none → b ≠ a := fun b n z => by rw [z, ha] at n; cases n
  have ntup : ∀ b xs, H b = some (.tup xs) → b ≠ a := fun b xs q z => by rw [z, ha] at q; cases q
  have nown : ∀ b c, H b = some (.own c) → b ≠ a := fun b c q z => by rw [z, ha] at q; cases q
  refine ⟨I.ok, I.os, I.bare, ⟨I.base.keep, I.base.slot, fun b ob q n hx => ?_, I.base.there, fun b xs q => ?_, fun b ob u q => ?_, fun b ps q => ?_⟩, I.loc, I.cell, ?_, fun x c e => ?_, fun p hp => ?_, fun b u q => ?_, I.len⟩
  · have := I.base.free b ob q n hx
    rw [upd_ne (nn b this)]
    exact this
  · have := I.base.tups b xs q
    rw [upd_ne (ntup b xs this)]
    exact this
  · have := I.base.frzs b ob u q
    rw [upd_ne (fun (z : b = a) => h0 ob u (by rw [← z]; exact q))]
    exact this
  · obtain ⟨m, e⟩ := I.base.tbls b ps q
    exact ⟨m, by rw [upd_ne (fun z => by rw [z, ha] at e; cases e)]; exact e⟩
  · rw [upd_ne (nn _ I.free)]; exact I.free
  · rw [upd_ne (nn _ (I.freeC x c e))]; exact I.freeC x c e
  · obtain ⟨p1, p2, p3⟩ := I.pin p hp
    exact ⟨p1, by rw [upd_ne (nn _ p2)]; exact p2, p3⟩
  · by_cases hb : b = a
    · subst hb
      rw [upd_same] at q
      cases q
      exact (show ObjOk X.prog X.w H s.heap b (.frz o (.ext φ)) from I.hok b _ ha).2
    · rw [upd_ne hb] at q
      exact (I.hok b u q).stay (fun c v _ r => r) (fun c r => by rw [upd_ne (nown c b r)]; exact r) fun c xs r => by rw [upd_ne (ntup c xs r)]; exact r
variable {tg : Expr}
def tForD (P : Program) (w : World) (td : TE) (g : TG) (tb : TS) : TS := fun D σ H => td σ H fun x H1 => ∃ (a : Addr) (kvs : List (Dt × V)), x = .ref a ∧ DicV P w H1 a kvs ∧ ∀ (zs : List V) (o : Obj) (φ : Heap → Prop), DtsIs H1 zs (kvs.map (·.1)) → H1 a = some (.ext φ) →
  ∃ Pv : Nat → L2.St → Hp → Prop, Pv 0 σ (upd H1 a (.frz o (.ext φ))) ∧ (∀ i σ' H', Pv i σ' H' → H' a = some (.frz o (.ext φ))) ∧
    (∀ i z σ' H', zs[i]? = some z → Pv i σ' H' → g z σ' H' fun σ2 H2 => tb { nx := Pv (i + 1), ct := Pv (i + 1), bk := fun _ _ => False, rt := fun _ _ => False } σ2 H2) ∧ (∀ σ' H', Pv zs.length σ' H' → D.nx σ' (upd H' a (.ext φ)))
theorem ps_forD {iter : Expr} {body : List Stmt} {td : TE} {g : TG} {tb : TS} {pos : Pos} (hp : PassesOwn (model X.prog X.w) X.A X.env X.xe) (hc : X.calm = true) (hd : PE X iter td) (hg : PG X tg g) (hb : PSs X body tb)
    (hs : ∀ x, foldedSetIterable iter X.env x = pure x := by intro _; rfl) : PS X (.For tg iter body [] pos) (tForD X.prog X.w td g tb) := by
  intro pins s σ H D I h
  refine wpAny_For (thn (hd pins s σ H _ I h) fun v s1 ⟨x, H1, I1, r1, a, kvs, ex, ⟨xs, dic, kd⟩, q⟩ => ?_) hs
  subst ex
  obtain rfl : v = Value.ref a := r1
  obtain ⟨ep, raw⟩ := raw_of I1 dic
  obtain ⟨o, es, ho, hex, dat, ek⟩ := id raw
  refine drw_iter dic.sys raw ?_
  have keys := kd.keys
  have dz : DtsIs H1 (xs.map fun x => V.ref x.2.1) (kvs.map (·.1)) := by rw [keys]; exact dts_keys (P := X.prog) (w := X.w) dic.key
  obtain ⟨Pv, p0, fr, step, fin⟩ := q _ o _ dz dic.at_
  have nit : H1 s1.heap.objs.size = none := I1.hok.fresh (Nat.le_refl _)
  have f2 : FpOk X pins H1 s1.heap.objs.size := I1.fpOk (Nat.le_refl _) nit
  have lt : a < s1.heap.objs.size := Heap.lt_size ho
  have ne : s1.heap.objs.size ≠ a := Nat.ne_of_gt lt
  have hl : (xs.map fun x => Value.ref x.2.1).length = xs.length := List.length_map ..
  have hzl : (xs.map fun x => V.ref x.2.1).length = xs.length := List.length_map ..
  have I2 : Inv X pins σ H1 { s1 with heap := s1.heap.push { cls := .type "dict_keyiterator", data := .fields #[.ref a, .int 0 0, .int (xs.map fun x => Value.ref x.2.1).length 0, .int ep 0] } } := I1.kept (t' := s1.toks) fun b o e => Heap.get?_push_of_some _ e
  have hok2 := (show ObjOk X.prog X.w H1 _ a (dicO X.prog X.w a xs) from I2.hok a _ dic.at_)
  have I3 := I2.write (x := a) (e := a) (o := .frz o (dicO X.prog X.w a xs)) (t' := s1.toks) (by rw [dic.at_]; exact True.intro) (.inl rfl) (fun b u _ hu => hu) ⟨o, Heap.get?_push_of_some _ ho⟩ ⟨Heap.get?_push_of_some _ ho, hok2⟩
  have h0 : ∀ o' u', X.H₀ a ≠ some (.frz o' u') := fun o' u' e => by
    have := I1.base.frzs a o' u' e
    rw [dic.at_] at this
    cases this
  refine codeAny_forLoop_any (fun n s' => ∃ i σ' H', Inv X pins σ' H' s' ∧ s'.heap.IsKeyIter s1.heap.objs.size a i (xs.map fun x => Value.ref x.2.1).length ep ∧ H' s1.heap.objs.size = none ∧ n = xs.length - i ∧ i ≤ xs.length ∧ Pv i σ' H') ?_ xs.length
    ⟨0, σ, _, I3, ⟨_, Heap.get?_push_size _ rfl, rfl, rfl⟩, by rw [upd_ne ne]; exact nit, by simp, Nat.zero_le _, p0⟩
  rintro n s3 ⟨i, σ3, H3, I3', ik, nit3, rfl, hi, p3⟩
  have fz := fr i σ3 H3 p3
  have ob := (show ObjOk X.prog X.w H3 s3.heap a (.frz o (dicO X.prog X.w a xs)) from I3'.hok a _ fz)
  have raw3 : DRaw s3.heap a (xs.map fun x => Value.ref x.2.1) ep := ⟨o, es, ob.1, hex, dat, ek⟩
  have stat : FpOk X pins H3 s1.heap.objs.size := ⟨nit3, f2.2⟩
  obtain ⟨f0, f1, _, f3, f4, f5⟩ := id stat
  by_cases hlt : i < xs.length
  · have hu : (xs.map fun x => Value.ref x.2.1)[i]? = some (Value.ref (xs[i]).2.1) := by rw [List.getElem?_map, List.getElem?_eq_getElem hlt]; rfl
    have hz : (xs.map fun x => V.ref x.2.1)[i]? = some (V.ref (xs[i]).2.1) := by rw [List.getElem?_map, List.getElem?_eq_getElem hlt]; rfl
    refine wpAny_passesOwn hp (drw_item ik raw3 hu fun h' ik' sb => ?_)
    have I4 : Inv X pins σ3 H3 { s3 with heap := h' } := I3'.turned (t' := s3.toks) (fun b o hb e => (sb.2 b hb).trans e) f0 f1 f3 f4 f5
    obtain ⟨o', e', c', d'⟩ := id ik'
    refine wpAny_passesOwn hp (go_of (s := { s3 with heap := h' }) e' c' d' (by decide) ?_)
    have I5 := I4.pinned (fp := [s1.heap.objs.size]) (fun b hb' => by rw [List.mem_singleton.mp hb']; exact stat) (fun b hb' => by rw [List.mem_singleton.mp hb']; exact ⟨o', e', fun v z => by rw [d'] at z; cases z⟩)
    refine wpAny_passesOwn hp (thn (hg _ { s3 with heap := h' } σ3 H3 (V.ref (xs[i]).2.1) (Value.ref (xs[i]).2.1) _ I5 rfl (step i _ σ3 H3 hz p3)) fun _ s6 ⟨σ6, H6, I6, q6⟩ => ?_)
    refine wpAny_passesOwn hp (thn (hb _ s6 σ6 H6 _ I6 q6) fun f s7 q7 => ?_)
    have again : ∀ {σ7 : L2.St} {H7 : Hp}, Inv X (pins ++ pinsAt [s1.heap.objs.size] h') σ7 H7 s7 → Pv (i + 1) σ7 H7 → ∃ m, m < xs.length - i ∧ ∃ i σ' H', Inv X pins σ' H' s7 ∧ s7.heap.IsKeyIter s1.heap.objs.size a i (xs.map fun x => Value.ref x.2.1).length ep ∧ H' s1.heap.objs.size = none ∧ m = xs.length - i ∧ i ≤ xs.length ∧ Pv i σ' H' := fun {σ7 H7} I7 n7 => by
      have pn := I7.pin (s1.heap.objs.size, o') (List.mem_append_right _ (List.mem_append_right _ (mem_pinsAt (List.mem_singleton.mpr rfl) e')))
      exact ⟨xs.length - (i + 1), by omega, i + 1, σ7, H7, I7.unpinned, ⟨o', pn.1, c', d'⟩, pn.2.1, rfl, hlt, n7⟩
    cases f with
    | next => obtain ⟨σ7, H7, I7, n7⟩ := q7; exact again I7 n7
    | cont => obtain ⟨σ7, H7, I7, n7⟩ := q7; exact again I7 n7
    | brk => obtain ⟨σ7, H7, I7, q7⟩ := q7; exact q7.elim
    | ret v => obtain ⟨x7, σ7, H7, I7, r7, q7⟩ := q7; exact q7.elim
  · have ei : i = xs.length := by omega
    subst ei
    refine wpAny_passesOwn hp (drw_end (I3'.ok.hd hc) ik raw3 (by rw [List.getElem?_eq_none]; rw [hl]; exact Nat.le_refl _) fun h' eb => ?_)
    have I4 : Inv X pins σ3 H3 { s3 with heap := h' } := I3'.turned (t' := s3.toks) (fun b o hb e => eb b o hb e) f0 f1 f3 f4 f5
    exact wpAny_execs_nil ⟨σ3, _, inv_thaw I4 fz h0, fin σ3 H3 (by rw [hzl]; exact p3)⟩
end
end BF
namespace BF
open PySem PySem.Spec PyProof.Rows L2
section
variable {X : Cx} {elt tg iter : Expr} {ifs : List Expr} {scope : Scope} {pos : Pos} {N' : List Str} {idx : List (Option Nat)} {wi : TI} {g : TG} {tt : TT} {te : TE}
theorem ps_setComp {k : Nat} {y : Str} {py spos : Pos} (hN : X.N.Nodup) (hk : X.N[k]? = some y) (hy : Loc X.env.scope y) (hf : X.fn y = true ∨ X.env.scope.names.lookup y = some .local) (hlc : X.env.scope.names.lookup y = some .local)
    (S : CompOk X scope N' idx) (hclos : closureFor scope X.env = pure (clOf X.env scope.names [])) (hc : X.calm = true) (hi : PI X tg iter wi)
    (hg : ∀ C s₀ H₀ fp pn, PG (compCx X N' scope C s₀ H₀ fp pn) tg g) (ht : ∀ C s₀ H₀ fp pn, PTs (compCx X N' scope C s₀ H₀ fp pn) ifs tt) (he : ∀ C s₀ H₀ fp pn, PE (compCx X N' scope C s₀ H₀ fp pn) elt te)
    (hsw : swapsWith (.ListComp elt [⟨tg, iter, ifs, 0⟩] scope pos) (some (.Name y py)) spos.line X.env = pure true := by rfl)
    (hs : ∀ x, foldedSetIterable iter X.env x = pure x := by intro _; rfl) : PS X (.Assign [.Name y py] (.ListComp elt [⟨tg, iter, ifs, 0⟩] scope pos) spos) (tAsg (tComp wi idx g tt te) (gName k)) := by
  intro pins s σ H E' I h
  rw [exec_Assign_Name_used _ _ _ _ hsw]
  refine wpAny_bind (wpAny_standAt (wpAny_bind ?_))
  refine (show wpAny _ _ (do let _ ← comprehension (.ListComp elt [⟨tg, iter, ifs, 0⟩] scope pos) scope X.env _ (newList []) false (eval iter X.env) (some (assign (.Name y py) X.env))) _ _ s from ?_)
  refine wpAny_bind (wpAny_mono (Q := fun _ s' => SP X pins E' .next s') ?_ (fun _ s' hq => wpAny_pure (wpAny_pure hq)) fun _ _ e => e)
  refine wpAny_comprehension_free (use := some (assign (.Name y py) X.env)) rfl hs hclos S.kind S.names (thn (hi pins s σ H _ I h) fun xv s₁ h₁ => thn h₁ fun itv s₂ h₂ => ?_)
  obtain ⟨it, fp, tn, J, H2, e, I2, T, st2, f2, hJ⟩ := h₂
  subst e
  obtain ⟨W, ⟨m0, w0⟩, turn⟩ := hJ s₂.heap.objs.size (I2.hok.fresh (Nat.le_refl _))
  have hlt : ∀ b ∈ fp, b < s₂.heap.objs.size := fun b hb => by
    obtain ⟨o, e, _⟩ := T.obj _ _ st2 b hb
    exact Heap.lt_size e
  refine wpAny_newObj_type (wpAny_newFunctionEnv S.cell (by intro y hy; simp at hy) (fun h₁ hns₁ hsb₁ => ?_) S.kind)
  dsimp only at hns₁ hsb₁ ⊢
  generalize hH2 : s₂.heap.push { cls := .type "list", dict := none, data := .seq ([] : List Value).toArray } = P2 at hns₁ hsb₁ ⊢
  have hC : P2.objs.size = s₂.heap.objs.size + 1 := by rw [← hH2, Heap.size_push]
  have neC : ∀ b : Addr, b < s₂.heap.objs.size → b ≠ P2.objs.size := fun b hb => Nat.ne_of_lt (by rw [hC]; exact Nat.lt_succ_of_lt hb)
  have neD : s₂.heap.objs.size ≠ P2.objs.size := Nat.ne_of_lt (by rw [hC]; exact Nat.lt_succ_self _)
  have old : ∀ b o, s₂.heap.get? b = some o → h₁.get? b = some o := fun b o e =>
    hsb₁.extBut b o (neC b (Heap.lt_size e)) (Heap.get?_push_of_some _ (hH2 ▸ Heap.get?_push_of_some _ e))
  have hacc : h₁.get? s₂.heap.objs.size = some { cls := .type "list", data := .seq ([] : List Value).toArray } :=
    hsb₁.extBut _ _ neD (Heap.get?_push_of_some _ (hH2 ▸ Heap.get?_push_size _ rfl))
  have nD : H2 s₂.heap.objs.size = none := I2.hok.fresh (Nat.le_refl _)
  have nC : H2 P2.objs.size = none := I2.hok.fresh (by omega)
  have ok := comp_ok (C := P2.objs.size) S I2 (by omega) f2 hlt (X.pn ++ pins)
  have pinlt : ∀ p ∈ X.pn ++ pins, p.1 < s₂.heap.objs.size := fun p hp => Heap.lt_size (I2.pin p hp).1
  have sub : ∀ x c, (clOf X.env scope.names []).lookup x = some c → X.env.cells.lookup x = some c := fun x c e => clOf_sub X.env scope.names [] (fun p hp => (nomatch hp)) (x, c) (PySem.mem_of_lookup e)
  have I3 : Inv (compCx X N' scope P2.objs.size s₂ H2 fp (X.pn ++ pins)) [] (pick idx σ) (upd H2 s₂.heap.objs.size (.lst [])) { s₂ with heap := h₁, toks := s₂.toks + ([] : List (Str × Value)).length } := by
    refine ⟨ok, rfl, I2.bare, ?_, ⟨_, hns₁, fun j x v h1 h2 h3 => ?_⟩, fun x c e => ?_, ?_, fun x c e => ?_, fun p hp => ?_, ?_, ?_⟩
    · exact Un.laid old (Nat.le_refl _) nD
    · have hj : j < idx.length := by
        have := (List.getElem?_eq_some_iff.mp h2).1
        unfold pick at this
        rwa [List.length_map] at this
      unfold pick at h2
      rw [List.getElem?_map, List.getElem?_eq_getElem hj] at h2
      have h2' := Option.some.inj h2
      cases q : idx[j] with
      | none => rw [q] at h2'; cases h2'
      | some i =>
        have h2' : (σ[i]?).getD none = some v := by rw [q] at h2'; exact h2'
        have hmem : (idx[j], x) ∈ idx.zip N' := by
          refine List.mem_iff_getElem?.mpr ⟨j, ?_⟩
          rw [List.getElem?_zip_eq_some]
          exact ⟨List.getElem?_eq_getElem hj, h1⟩
        obtain ⟨z1, z2, z3⟩ := S.idx _ hmem i q
        have hσ : σ[i]? = some (some v) := by
          cases r : σ[i]? with
          | none => rw [r] at h2'; cases h2'
          | some y => rw [r] at h2'; rw [show y = some v from h2']
        obtain ⟨m, hn, hl⟩ := I2.loc
        obtain ⟨u, ru, lk⟩ := hl i x v z1 hσ (.inr (.inl z2))
        refine ⟨u, ru, .inr ⟨.inl ?_, ?_⟩⟩
        · show (relabel scope X.env).names.lookup x = some .cell
          rw [relabel_names, relabel_lookup, z3, I2.ok.kind]
          simp [z2]
        · obtain ⟨c, hcl⟩ := clOf_has X.env scope.names [] x z3 (I2.ok.has x (.inl z2))
          rcases lk with ⟨k1, _⟩ | ⟨_, c', e1, e2⟩
          · rw [z2] at k1; cases k1
          · refine ⟨c, hcl, ?_⟩
            have e3 := sub x c hcl
            rw [e1] at e3
            cases e3
            obtain ⟨o, ho, hd⟩ := e2
            exact ⟨o, old _ _ ho, hd⟩
    · obtain ⟨v, o, ho, hd⟩ := I2.cell x c (sub x c e)
      exact ⟨v, o, old _ _ ho, hd⟩
    · show upd H2 _ _ P2.objs.size = none
      rw [upd_ne (Ne.symm neD)]; exact nC
    · obtain ⟨v, q⟩ := I2.cell x c (sub x c e)
      rw [upd_ne (Nat.ne_of_lt q.lt)]
      exact I2.freeC x c (sub x c e)
    · rw [List.append_nil] at hp
      obtain ⟨e, n, ne, nf, d⟩ := I2.pin p hp
      refine ⟨old _ _ e, ?_, ?_, fun z => ?_, d⟩
      · rw [upd_ne (Nat.ne_of_lt (pinlt p hp))]; exact n
      · exact neC _ (pinlt p hp)
      · rcases List.mem_cons.mp (I2.stkSub _ z) with z | z
        · exact ne z
        · exact nf z
    · exact I2.hok.laid old (Nat.le_refl _) ⟨Nat.zero_le _, [], 0, .nil, hacc⟩
    · show (pick idx σ).length = N'.length
      unfold pick
      rw [List.length_map]
      exact S.len
  have stat : ∀ {pl : List (Addr × Obj)} {H' : Hp}, (∀ b ∈ fp, H' b = none) → (∀ p ∈ pl, p.1 ∉ fp) → ∀ b ∈ fp, FpOk (compCx X N' scope P2.objs.size s₂ H2 fp (X.pn ++ pins)) pl H' b := fun {pl H'} hn hp b hb => by
    refine ⟨hn b hb, (ok.exf b hb).1, ok.exfs b hb, .inl hb, (ok.exf b hb).2, fun p hpp z => ?_⟩
    rcases List.mem_append.mp hpp with h1 | h1
    · exact (f2 b hb).2.2.2.2.2 p h1 z
    · exact hp p h1 (z ▸ hb)
  have loop : codeAny (model X.prog X.w) X.A (.compLoop (.ListComp elt [⟨tg, iter, ifs, 0⟩] scope pos) 0 (.ref it) (.ref s₂.heap.objs.size) (compEnvC scope (clOf X.env scope.names []) P2.objs.size X.env))
      (compPost (model X.prog X.w) X.A X.xe (some (assign (.Name y py) X.env)) (fun _ s' => SP X pins E' .next s') (.ref s₂.heap.objs.size) P2.objs.size) { s₂ with heap := h₁, toks := s₂.toks + ([] : List (Str × Value)).length } := by
    refine comp_loop (fun n s' => ∃ i σ' H', Inv (compCx X N' scope P2.objs.size s₂ H2 fp (X.pn ++ pins)) [] σ' H' s' ∧ tn i s'.heap ∧ (∀ b ∈ fp, H' b = none) ∧ W i n σ' H') ?_ m0
      ⟨0, _, _, I3, T.keep _ _ _ st2 fun b _ o e => old b o e, fun b hb => by rw [upd_ne (Nat.ne_of_lt (hlt b hb))]; exact (f2 b hb).1, w0⟩
    rintro n s3 ⟨i, σ3, H3, J3, st3, fr3, w3⟩
    rcases turn i n σ3 H3 w3 with ⟨stop, q⟩ | ⟨go, step⟩
    · refine wpAny_mono (T.done (compCx X N' scope P2.objs.size s₂ H2 fp (X.pn ++ pins)) rfl rfl rfl hc i [] s3 σ3 H3 (fun _ _ => False) J3 (stat fr3 (fun _ z => nomatch z)) st3 stop) (fun r s4 hr => ?_) fun _ _ z => z
      obtain ⟨rfl, J4⟩ := hr
      obtain ⟨m, hn, _⟩ := J4.loc
      have fC : H3 P2.objs.size = none := J4.free
      have un : Un (frs X.stack) fp H2 H3 s₂.heap s4.heap := J4.base
      have IO : Inv X pins σ H3 s4 := by
        refine I2.call' (s' := s4) (ch := fp) ?_ un J4.hok J4.bare fun b hb => ?_
        · exact J4.os
        · obtain ⟨f0, f1, f2', f3, f4, f5⟩ := f2 b hb
          exact ⟨f3, f1, f4, f5⟩
      have hCl : P2.objs.size ≠ X.env.locals := Ne.symm (neC _ I2.lt)
      have hCc : ∀ x c, X.env.cells.lookup x = some c → c ≠ P2.objs.size := fun x c e => by
        obtain ⟨v, q'⟩ := I2.cell x c e
        exact neC c q'.lt
      have hCp : ∀ p ∈ X.pn ++ pins, p.1 ≠ P2.objs.size := fun p hp => neC _ (pinlt p hp)
      refine (show wpAny _ _ (assign (.Name y py) X.env (.ref s₂.heap.objs.size)) _ _ s4 from wpAny_assign_Name ?_)
      refine store_ok2 (v := .ref s₂.heap.objs.size) IO hN hk hy rfl (fun s5 I5 hsb => ?_) hf
      obtain ⟨ad, hsb, had⟩ := hsb
      have hadC : P2.objs.size ≠ ad := by
        rcases had with z | z
        · rw [z]; exact hCl
        · exact Ne.symm (hCc _ _ z)
      refine ⟨m, hn.sameBut hsb hadC, fun h' hs' => ?_⟩
      refine ⟨_, H3, ?_, q⟩
      exact I5.turned (t' := s5.toks) (it := P2.objs.size) (fun b o hb e => hs'.extBut b o hb e) fC hCl (.inr (Nat.le_trans I2.sz (by omega))) hCc hCp
    · refine wpAny_mono (T.item (compCx X N' scope P2.objs.size s₂ H2 fp (X.pn ++ pins)) rfl rfl rfl hc i [] s3 σ3 H3 (fun _ _ => False) J3 (stat fr3 (fun _ z => nomatch z)) st3 go) (fun r s4 hr => ?_) fun _ _ z => z
      obtain ⟨u, rfl, h4⟩ := hr
      refine wpAny_mono h4 (fun _ s5 h5 => ?_) fun _ _ z => z
      obtain ⟨x, H5, J5, r5, y5, st5, fr5⟩ := h5
      have J5' := J5.pinned (stat fr5 (fun _ z => nomatch z)) (T.obj _ _ st5)
      refine wpAny_mono (hg _ _ _ _ _ _ s5 σ3 H5 x u _ J5' r5 (step x H5 y5)) (fun _ s6 h6 => ?_) fun _ _ z => z
      obtain ⟨σ6, H6, J6, q6⟩ := h6
      have again : ∀ {s9 : Shared} {σ9 : L2.St} {H9 : Hp}, Inv (compCx X N' scope P2.objs.size s₂ H2 fp (X.pn ++ pins)) ([] ++ pinsAt fp s5.heap) σ9 H9 s9 → (∃ m', m' < n ∧ W (i + 1) m' σ9 H9) →
          ∃ m, m < n ∧ ∃ i σ' H', Inv (compCx X N' scope P2.objs.size s₂ H2 fp (X.pn ++ pins)) [] σ' H' s9 ∧ tn i s9.heap ∧ (∀ b ∈ fp, H' b = none) ∧ W i m σ' H' := fun {s9 σ9 H9} J9 hw => by
        obtain ⟨m', hm, w9⟩ := hw
        refine ⟨m', hm, i + 1, σ9, H9, J9.unpinned, T.keep _ _ _ st5 fun b hb o e => (J9.pin (b, o) (List.mem_append_right _ (List.mem_append_right _ (mem_pinsAt hb e)))).1, fun b hb => ?_, w9⟩
        obtain ⟨o, e, d⟩ := T.obj _ _ st5 b hb
        exact (J9.pin (b, o) (List.mem_append_right _ (List.mem_append_right _ (mem_pinsAt hb e)))).2.1
      refine wpAny_mono (ht _ _ _ _ _ _ s6 σ6 H6 _ J6 q6) (fun ok' s7 h7 => ?_) fun _ _ z => z
      obtain ⟨H7, J7, q7⟩ := h7
      cases ok' with
      | false => exact again J7 q7
      | true =>
        refine wpAny_mono (he _ _ _ _ _ _ s7 σ6 H7 _ J7 q7) (fun xv2 s8 h8 => ?_) fun _ _ z => z
        obtain ⟨v, H8, J8, r8, ys, hD, hz, hw⟩ := h8
        refine wpAny_mono (mt_append (X := compCx X N' scope P2.objs.size s₂ H2 fp (X.pn ++ pins)) _ s8 σ6 H8 (.ref s₂.heap.objs.size) [v] (.ref s₂.heap.objs.size) [xv2] (fun _ H9 => ∃ m', m' < n ∧ W (i + 1) m' σ6 H9) J8 rfl (.cons r8 .nil) ⟨_, ys, v, rfl, rfl, hD, hz, hw⟩) (fun _ s9 h9 => ?_) fun _ _ z => z
        obtain ⟨_, H9, J9, _, q9⟩ := h9
        exact again J9 q9
  exact codeAny_compStart_list loop (T.self X.A 0 _ _ _ (T.keep _ _ _ st2 fun b _ o e => old b o e) loop)
end
end BF
namespace BF
open PySem PySem.Spec PyProof.Rows L2
def BstOk (bt : Nat → Nat → Bool) (j : Nat) (best : Option Nat) : Prop := match best with
  | none => j = 0
  | some m => m < j ∧ ∀ i, i < j → bt i m = false
def bstArr (val : Nat → Value) (best : Option Nat) : Array Value := match best with
  | none => #[]
  | some m => #[val m, val m]
theorem bst_sz (val : Nat → Value) (b : Option Nat) : (bstArr val b).size ≤ sizeLine := by
  cases b with
  | none => exact size512 (by show 0 ≤ 512; decide)
  | some m => exact size512 (by show 2 ≤ 512; decide)
theorem bst_step {bt : Nat → Nat → Bool} (tr : ∀ i j k, bt i j = true → bt j k = true → bt i k = true) (irr : ∀ i, bt i i = false) {j m : Nat} (h : BstOk bt j (some m)) : BstOk bt (j + 1) (some (if bt j m = true then j else m)) := by
  obtain ⟨h1, h2⟩ := h
  by_cases hb : bt j m = true
  · rw [if_pos hb]
    refine ⟨Nat.lt_succ_self _, fun i hi => ?_⟩
    by_cases e : i = j
    · rw [e]; exact irr j
    · cases z : bt i j with
      | false => rfl
      | true => have := tr _ _ _ z hb; rw [h2 i (by omega)] at this; cases this
  · rw [if_neg hb]
    refine ⟨by omega, fun i hi => ?_⟩
    by_cases e : i = j
    · rw [e]; simpa using hb
    · exact h2 i (by omega)
section
variable {prog : Program} {w : World} {A : Around} {R : Result → Shared → Prop} {I : Addr} {fp wr : List Addr} {n : Nat} {P : Nat → Value → Prop} {St : Nat → Heap → Prop}
theorem minLoopL {s₀ : Shared} (W : Walks prog w A.in1 I fp wr n P St) (val : Nat → Value) (hP : ∀ i v, P i v → v = val i) {bt : Nat → Nat → Bool} (tr : ∀ i j k, bt i j = true → bt j k = true → bt i k = true) (irr : ∀ i, bt i i = false) (S : Addr) (hSf : S ∉ fp)
    (fr : ∀ b o, s₀.heap.get? b = some o → b ∉ wr ∧ b ≠ S)
    (hcmp : ∀ i j h' tk, i < n → j < n → (∀ b o, s₀.heap.get? b = some o → h'.get? b = some o) → LtAt A.in1 { s₀ with heap := h', toks := tk } (val i) (val j) (bt i j)) (hn : 0 < n) :
    ∀ (k j : Nat) (h : Heap) (tk : Tok) (best : Option Nat) (c : Nat), n - j = k → j ≤ n → St j h → BstOk bt j best → h.get? S = some { cls := .type "list", dict := none, data := .seq (bstArr val best) c, slots := #[] } → (∀ b o, s₀.heap.get? b = some o → h.get? b = some o) →
    (∀ m h' tk, m < n → (∀ i, i < n → bt i m = false) → (∀ b o, s₀.heap.get? b = some o → h'.get? b = some o) → R (.ok (.ret (val m))) { s₀ with heap := h', toks := tk }) →
    codeAny (model prog w) A (.builtin "min.loop" ⟨[.ref I, .none, .ref S], []⟩) R { s₀ with heap := h, toks := tk } := by
  have hSw : S ∉ wr := fun h => hSf (W.sub _ h)
  have nm : (toString "min" ++ toString ".loop" : String) = "min.loop" := by decide
  intro k
  induction k with
  | zero =>
    intro j h tk best c hk hj st hb hS kp0 q1
    have hjn : j = n := by omega
    subst hjn
    refine codeAny_builtin PySem.F.entry_min_loop ?_
    rw [Around.under_plainId PySem.F.plain_min_loop _]
    refine (show wpAny _ A.in1 (seqItems? (.ref S) >>= _) _ _ _ from wpAny_bind (wpAny_seqItems hS rfl ?_))
    refine (show wpAny _ A.in1 (tryCatch (pyNext (.ref I)) _ >>= _) _ _ _ from wpAny_bind (wpAny_tryCatch (W.done _ _ _ st fun h' tk kp => ?_)))
    have hS' := kp S _ hSw hS
    cases best with
    | none =>
      have hj0 : j = 0 := hb
      omega
    | some m =>
      obtain ⟨h1, h2⟩ := hb
      refine (show wpAny _ A.in1 (updateSeq S (fun _ => #[]) >>= _) _ _ _ from wpAny_bind (wpAny_updateSeq (hz := bst_sz _ _) hS' rfl (wpAny_bind (wpAny_letGo (wpAny_pure ?_)))))
      exact q1 m _ tk h1 h2 fun b o e => (Heap.get?_update_other _ _ (Ne.symm (fr b o e).2)).trans (kp b o (fr b o e).1 (kp0 b o e))
  | succ k ih =>
    intro j h tk best c hk hj st hb hS kp0 q1
    have hlt : j < n := by omega
    refine codeAny_builtin PySem.F.entry_min_loop ?_
    rw [Around.under_plainId PySem.F.plain_min_loop _]
    refine (show wpAny _ A.in1 (seqItems? (.ref S) >>= _) _ _ _ from wpAny_bind (wpAny_seqItems hS rfl ?_))
    refine (show wpAny _ A.in1 (tryCatch (pyNext (.ref I)) _ >>= _) _ _ _ from wpAny_bind (wpAny_tryCatch (W.item j _ _ _ hlt st fun v h' tk pv st' kp => ?_)))
    have hS' := kp S _ hSw hS
    have hv := hP j v pv
    subst hv
    have kp1 : ∀ b o, s₀.heap.get? b = some o → h'.get? b = some o := fun b o e => kp b o (fr b o e).1 (kp0 b o e)
    have wr' : ∀ (arr : Array Value), St (j + 1) (h'.update S (Obj.mapSeq fun _ => arr)) := fun arr => W.frame _ _ _ st' fun b hbf o e => (Heap.get?_update_other _ _ (fun z : S = b => hSf (by rw [z]; exact hbf))).trans e
    have kp2 : ∀ (arr : Array Value), ∀ b o, s₀.heap.get? b = some o → (h'.update S (Obj.mapSeq fun _ => arr)).get? b = some o := fun arr b o e => (Heap.get?_update_other _ _ (Ne.symm (fr b o e).2)).trans (kp1 b o e)
    cases best with
    | none =>
      have hj0 : j = 0 := hb
      subst hj0
      refine (show wpAny _ A.in1 (updateSeq S (fun _ => #[val 0, val 0]) >>= _) _ _ _ from wpAny_bind (wpAny_updateSeq (hz := bst_sz _ _) hS' rfl ?_))
      rw [nm]
      exact wpAny_pure ⟨plainId_quiet PySem.F.plain_min_loop _, ih 1 _ _ (some 0) _ (by omega) hlt (wr' _) ⟨by decide, fun i hi => by rw [show i = 0 by omega]; exact irr 0⟩ (Heap.get?_update_self _ hS' rfl) (kp2 _) q1⟩
    | some m0 =>
      have nb := bst_step tr irr hb
      have hm0 : m0 < n := by have := hb.1; omega
      refine (show wpAny _ A.in1 (tryCatch (holding [val j, val j] (richCompare .Lt (val j) (val m0) >>= _)) _ >>= _) _ _ _ from wpAny_bind (wpAny_tryCatch (wpAny_holding (wpAny_bind ?_))))
      refine hcmp j m0 h' tk hlt hm0 kp1 prog w _ _ ?_
      refine wpAny_bind (wpAny_holding (wpAny_truthy_bool (wpAny_bind (wpAny_letGo (wpAny_pure ?_)))))
      cases hx : bt j m0 with
      | true =>
        simp only [if_true]
        rw [hx, if_pos rfl] at nb
        refine wpAny_bind (wpAny_updateSeq (hz := bst_sz _ _) hS' rfl (wpAny_bind (wpAny_letGo ?_)))
        rw [nm]
        exact wpAny_pure ⟨plainId_quiet PySem.F.plain_min_loop _, ih (j + 1) _ _ (some j) _ (by omega) hlt (wr' _) nb (Heap.get?_update_self _ hS' rfl) (kp2 _) q1⟩
      | false =>
        simp only [Bool.false_eq_true, if_false]
        rw [hx, if_neg Bool.false_ne_true] at nb
        refine wpAny_bind (wpAny_letGo ?_)
        rw [nm]
        exact wpAny_pure ⟨plainId_quiet PySem.F.plain_min_loop _, ih (j + 1) _ _ (some m0) c (by omega) hlt st' nb hS' kp1 q1⟩
variable {E : Value → Shared → Prop} {s : Shared}
theorem min_drw {d : Addr} {ks : List Value} {ep : Nat} {bt : Nat → Nat → Bool} {Q : Value → Shared → Prop} (hh : A.handled = none) (lo : (d == sysModules) = false) (q : DRaw s.heap d ks ep) (hn : 0 < ks.length) (tr : ∀ i j k, bt i j = true → bt j k = true → bt i k = true) (irr : ∀ i, bt i i = false)
    (hcmp : ∀ i j h' tk, i < ks.length → j < ks.length → (∀ b o, s.heap.get? b = some o → h'.get? b = some o) → LtAt A.in1 { s with heap := h', toks := tk } (ks.getD i .none) (ks.getD j .none) (bt i j))
    (q1 : ∀ m h' tk, m < ks.length → (∀ i, i < ks.length → bt i m = false) → (∀ b o, s.heap.get? b = some o → h'.get? b = some o) → Q (ks.getD m .none) { s with heap := h', toks := tk }) :
    wpAny (model prog w) A (call (.builtin "min") [.ref d]) Q E s := by
  have nm : (toString "min" ++ toString ".loop" : String) = "min.loop" := by decide
  have hlt := q.lt
  refine call_tree_kw PySem.F.kind_min PySem.F.plain_min PySem.F.entry_min (argsMin1 _) ?_
  refine (show wpAny _ A.in1 (Builtin.Builtins.bindParams "min" ["key", "default"] 0 ⟨[], []⟩ >>= _) _ _ s from wpAny_bind (wpAny_of_eq (show Builtin.Builtins.bindParams "min" ["key", "default"] 0 ⟨[], []⟩ = pure [none, none] from rfl) ?_))
  refine wpAny_bind (wpAny_pure ?_)
  refine wpAny_bind (drw_iter lo q (wpAny_bind (wpAny_newObj_type ?_)))
  rw [nm]
  have hne : d ≠ s.heap.objs.size := Nat.ne_of_lt hlt
  refine wpAny_pure ⟨plainId_quiet PySem.F.plain_min_loop _, minLoopL (s₀ := s) (walks_drw (A := A.in1) (by simp [hh]) s.heap.objs.size d hne ks ep) (fun i => ks.getD i .none) (fun i v e => ?_) tr irr _ ?_ (fun b o e => ?_) (fun i j h' tk hi hj kp => hcmp i j h' tk hi hj kp) hn (ks.length - 0) 0 _ _ none 0 rfl (Nat.zero_le _) ?_ rfl (Heap.get?_push_size _ rfl) (fun b o e => ?_) (fun m h' tk m1 m2 kp => ?_)⟩
  · rw [List.getD_eq_getElem?_getD, e]; rfl
  · rw [Heap.size_push]; simp only [List.mem_cons, List.not_mem_nil, or_false, not_or]; exact ⟨Ne.symm (Nat.ne_of_lt (Nat.lt_succ_self _)), Nat.ne_of_gt (Nat.lt_succ_of_lt hlt)⟩
  · have hb := Heap.lt_size e
    refine ⟨fun z => ?_, fun z => ?_⟩
    · have : b = s.heap.objs.size := by simpa using z
      rw [this] at hb
      exact absurd hb (Nat.lt_irrefl _)
    · rw [Heap.size_push] at z
      rw [z] at hb
      exact absurd hb (Nat.not_lt.mpr (Nat.le_succ _))
  · exact ⟨⟨_, Heap.get?_push_of_some _ (Heap.get?_push_size _ rfl), rfl, rfl⟩, (q.at' fun o e => Heap.get?_push_of_some _ e).at' fun o e => Heap.get?_push_of_some _ e⟩
  · exact Heap.get?_push_of_some _ (Heap.get?_push_of_some _ e)
  · exact q1 m h' tk m1 m2 kp
end
section
variable {X : Cx}
theorem call_minD {k : Nat} (hr : Room k X.A) (hc : X.calm = true) : CallR X (.builtin "min") (fun xs H Q => ∃ (a : Addr) (kvs : List (Dt × V)), xs = [.ref a] ∧ DicV X.prog X.w H a kvs ∧ kvs ≠ [] ∧ (∀ p ∈ kvs, ∀ p' ∈ kvs, Dt.like p.1 p'.1 = true) ∧
    ∀ (q : Addr) (d : Dt), DtIs H (.ref q) d → d ∈ kvs.map (·.1) → (∀ p ∈ kvs, Dt.blt p.1 d = false) → Q (.ref q) H) := by
  intro pins s σ H xs us Q I r h
  obtain ⟨a, kvs, rfl, ⟨ys, dic, kd⟩, hne, hL, q⟩ := h
  have hu := hr.units
  obtain ⟨u, rfl, rx⟩ := vals1 r
  cases rx
  obtain ⟨ep, raw⟩ := raw_of I dic
  have hk := kd.keys
  have ylen : ys.length = kvs.length := by
    have := congrArg List.length hk
    rw [List.length_map, List.length_map] at this
    omega
  have hpos : 0 < ys.length := by
    rw [ylen]
    exact List.length_pos_iff.mpr hne
  have kin : ∀ (i : Nat) (hi : i < ys.length), ∃ p ∈ kvs, p.1 = ys[i].1 := fun i hi => by
    have : ys[i].1 ∈ ys.map (·.1) := List.mem_map_of_mem (List.getElem_mem hi)
    rw [← hk] at this
    obtain ⟨p, hp, e⟩ := List.mem_map.mp this
    exact ⟨p, hp, e⟩
  let kd' : Nat → Dt := fun i => (ys.map (·.1)).getD i (.int 0)
  have kd1 : ∀ (i : Nat) (hi : i < ys.length), kd' i = ys[i].1 := fun i hi => by
    show (ys.map (·.1)).getD i (.int 0) = _
    rw [List.getD_eq_getElem?_getD, List.getElem?_map, List.getElem?_eq_getElem hi]
    rfl
  have val : ∀ (i : Nat) (hi : i < ys.length), (ys.map fun x => Value.ref x.2.1).getD i .none = .ref ys[i].2.1 := fun i hi => by
    rw [List.getD_eq_getElem?_getD, List.getElem?_map, List.getElem?_eq_getElem hi]
    rfl
  refine min_drw (bt := fun i j => Dt.blt (kd' i) (kd' j)) (I.ok.hd hc) dic.sys raw (by rw [List.length_map]; exact hpos) (fun i j k => Dt.trn _ _ _) (fun i => Dt.irr _) (fun i j h' tk hi hj kp => ?_) (fun m h' tk hm hmin kp => ?_)
  · have I' : Inv X pins σ H { s with heap := h', toks := tk } := I.kept kp
    rw [List.length_map] at hi hj
    rw [val i hi, val j hj, kd1 i hi, kd1 j hj]
    obtain ⟨p, hp, e⟩ := kin i hi
    obtain ⟨p', hp', e'⟩ := kin j hj
    have k1 := dic.key _ (List.getElem_mem hi)
    have k2 := dic.key _ (List.getElem_mem hj)
    refine ltAt_D I' X.A.in1 k1.1 rfl k2.1 rfl (by rw [← e, ← e']; exact hL p hp p' hp') ?_
    show X.A.units + 1 + _ < _
    have := k1.2
    omega
  · rw [List.length_map] at hm
    rw [val m hm]
    refine ⟨.ref _, H, I.kept kp, rfl, q _ _ (dic.key _ (List.getElem_mem hm)).1 (by rw [hk]; exact List.mem_map_of_mem (List.getElem_mem hm)) fun p hp => ?_⟩
    have : p.1 ∈ ys.map (·.1) := by rw [← hk]; exact List.mem_map_of_mem hp
    obtain ⟨x, hx, e⟩ := List.mem_map.mp this
    obtain ⟨i, hi, ei⟩ := List.mem_iff_getElem.mp hx
    have z := hmin i (by rw [List.length_map]; exact hi)
    have z : Dt.blt (kd' i) (kd' m) = false := z
    rw [kd1 i hi, kd1 m hm, ei] at z
    rw [← e]
    exact z
end
end BF
namespace BF
open PySem PySem.Spec PyProof.Rows L2 PySem.SeqAt
def LeAt (A : Around) (s : Shared) (x y : Value) (b : Bool) : Prop := ∀ (prog : Program) (w : World) (Q E : Value → Shared → Prop), Q (.bool b) s → wpAny (model prog w) A (richCompare .LtE x y) Q E s
inductive Le2 (A : Around) (s : Shared) : List Value → List Value → Bool → Prop where
  | both : Le2 A s [] [] true
  | left (y : Value) (ys : List Value) : Le2 A s [] (y :: ys) true
  | right (x : Value) (xs : List Value) : Le2 A s (x :: xs) [] false
  | like {x y : Value} {xs ys : List Value} {r : Bool} (h : EqAt A s x y true) (t : Le2 A s xs ys r) : Le2 A s (x :: xs) (y :: ys) r
  | part {x y : Value} {r : Bool} (xs ys : List Value) (h : EqAt A s x y false) (k : LeAt A s x y r) : Le2 A s (x :: xs) (y :: ys) r
section
open PySem.AutoSeq1 (wpAny_loadPart')
open PySem.MeetsSeq PySem.MeetsSeq2 PySem.MeetsSeq3
theorem tuple_le_lx (l b : Addr) (pa pb : Array Value) (n n2 : Nat) (dd dd2 : Option Addr) (sl sl2 : Array (Option Value)) (r : Bool) :
    Meets (Builtin.«tuple.__le__» ⟨[.ref l, .ref b], []⟩)
      (fun A R s => Le2 A.in1 s pa.toList pb.toList r ∧ s.heap.get? l = some { cls := .type "tuple", dict := dd, data := .seq pa n, slots := sl } ∧ s.heap.get? b = some { cls := .type "tuple", dict := dd2, data := .seq pb n2, slots := sl2 } ∧
        R (.ok (.ret (.bool r))) s) :=
  .of_wp fun prog w A R s h => by
    obtain ⟨hp, g, d, tk, os⟩ := s
    obtain ⟨lx, hl, hb, h⟩ := h
    have f2 := AutoSeq1.sub_tuple_tuple
    wp_walk using wpAny_loadPart' hl, wpAny_loadPart' hb, wpAny_forIn_list _ (fun rest q s' => q.1 = none ∧ s' = ⟨hp, g, d, tk, os⟩ ∧ ∃ (vs ws : List Value), rest = vs.zip ws ∧
      Le2 A.in1 ⟨hp, g, d, tk, os⟩ vs ws r ∧ vs.length + pb.size = ws.length + pa.size) _
    case turn =>
      rintro ⟨y, x⟩ rest q s' ⟨hq, rfl, vs, ws, hz, lx, hlen⟩
      cases lx with
      | both => rw [List.zip_nil_left] at hz; cases hz
      | left => rw [List.zip_nil_left] at hz; cases hz
      | right => rw [List.zip_nil_right] at hz; cases hz
      | @like x' y' xs ys _ he t =>
        rw [List.zip_cons_cons] at hz
        injection hz with e1 e2
        injection e1 with e3 e4
        subst e3 e4
        simp only [List.length_cons] at hlen
        refine wpAny_bind (he prog w _ _ ?_)
        wp_walk
        exact ⟨rfl, rfl, _, _, e2, t, by omega⟩
      | @part x' y' _ xs ys he k =>
        rw [List.zip_cons_cons] at hz
        injection hz with e1 e2
        injection e1 with e3 e4
        subst e3 e4
        refine wpAny_bind (he prog w _ _ ?_)
        have kk : ∀ (E : Value → Shared → Prop) (Q : Value → Shared → Prop), Q (.bool r) ⟨hp, g, d, tk, os⟩ → wpAny (model prog w) A.in1 (richCompare .LtE y x) Q E ⟨hp, g, d, tk, os⟩ := fun E Q z => k prog w Q E z
        wp_walk using kk
        exact ⟨_, rfl, by simpa using h⟩
    case fin =>
      rintro ⟨b1, b2⟩ s' ⟨hq, rfl, vs, ws, hz, lx, hlen⟩
      simp only at hq
      subst hq
      have hv : r = decide (pa.size ≤ pb.size) := by
        cases lx with
        | both => simp only [List.length_nil] at hlen; exact (decide_eq_true (by omega)).symm
        | left => simp only [List.length_nil, List.length_cons] at hlen; exact (decide_eq_true (by omega)).symm
        | right => simp only [List.length_nil, List.length_cons] at hlen; exact (decide_eq_false (by omega)).symm
        | like => rw [List.zip_cons_cons] at hz; cases hz
        | part => rw [List.zip_cons_cons] at hz; cases hz
      subst hv
      wp_walk
      exact ⟨_, rfl, by simpa [Builtin.Tuple.tupleCompareSizes] using h⟩
    case h =>
      exact ⟨rfl, rfl, pa.toList, pb.toList, rfl, lx, by simp; omega⟩
end
theorem leAt_tuples {A : Around} {s : Shared} {l b : Addr} {pa pb : Array Value} {r : Bool} (hl : IsTup s.heap l pa) (hb : IsTup s.heap b pb) (lx : Le2 A.in1 s pa.toList pb.toList r) (hu : A.units < cLine) : LeAt A s (.ref l) (.ref b) r := by
  intro prog w Q E h
  obtain ⟨⟨cls, dd, data, sl⟩, ho, hc, n, hd⟩ := id hl
  obtain ⟨⟨cls2, dd2, data2, sl2⟩, ho2, hc2, n2, hd2⟩ := id hb
  simp only at hc hd hc2 hd2
  subst hc hd hc2 hd2
  exact richCompare_meets_room (op := .LtE) ⟨_, ho, rfl⟩ ⟨_, ho2, rfl⟩ PySem.F.slot_tuple_le PySem.F.entry_tuple_le (PySem.F.args_tuple_le_2 _ _) (tuple_le_lx l b pa pb n n2 dd dd2 sl sl2 r)
    ⟨lx, ho, ho2, show Value.bool r ≠ Value.notImplemented ∧ Q (.bool r) s from ⟨(fun x => nomatch x), h⟩⟩ hu
section
variable {X : Cx}
theorem op_leH {k : Nat} (hr : Room k X.A) : OpR X (compareOp .LtE) (fun x y H Q => ∃ (a b : Addr) (p q : Int × Int), x = .ref a ∧ y = .ref b ∧ two H a p ∧ two H b q ∧ Dt.blt (hD q) (hD p) = true ∧ Q (.bl false) H) := by
  intro pins s σ H x y v u Q I rx ry h
  obtain ⟨a, b, p, q, rfl, rfl, ta, tb, hlt, z⟩ := h
  have hu := hr.units
  cases rx
  cases ry
  have hlt : hLt q p = true := by
    have := hlt
    simp only [hD, Dt.blt, Dt.blts] at this
    rw [hLt_iff]
    by_cases e : q.1 = p.1
    · rw [e] at this
      simp [Dt.beq] at this
      exact .inr ⟨e, this.2⟩
    · simp [Dt.beq, e] at this
      exact .inl this
  rw [hLt_iff] at hlt
  obtain ⟨its, rv, pa, _⟩ := I.tuple (SqT.of ta)
  obtain ⟨its', rv', pb, _⟩ := I.tuple (SqT.of tb)
  cases rv with
  | cons r1 rs => cases rs with
    | cons r2 rs =>
      cases rs
      cases rv' with
      | cons r1' rs => cases rs with
        | cons r2' rs =>
          cases rs
          obtain ⟨t1, rfl⟩ := r1
          obtain ⟨t2, rfl⟩ := r2
          obtain ⟨t1', rfl⟩ := r1'
          obtain ⟨t2', rfl⟩ := r2'
          have leI : ∀ (A : Around) (i j : Int) (t t' : Tok), j < i → LeAt A s (.int i t) (.int j t') false := fun A i j t t' hij prog w Q E h => by
            have e : decide (i ≤ j) = false := decide_eq_false (by omega)
            exact (PyProof.Rows.le_int (by rw [e]; exact h) : wpAny (model prog w) A (compareOp .LtE (.int i t) (.int j t')) Q E s)
          have lx : Le2 X.A.in1 s [Value.int p.1 t1, .int p.2 t2] [.int q.1 t1', .int q.2 t2'] false := by
            have e1 := EqAt.int_int (A := X.A.in1) (s := s) p.1 t1 q.1 t1'
            have e2 := EqAt.int_int (A := X.A.in1) (s := s) p.2 t2 q.2 t2'
            by_cases e : p.1 = q.1
            · rw [show (p.1 == q.1) = true by simpa using e] at e1
              have hlt2 : q.2 < p.2 := by omega
              rw [show (p.2 == q.2) = false by simp; omega] at e2
              exact .like e1 (.part _ _ e2 (leI _ _ _ _ _ hlt2))
            · rw [show (p.1 == q.1) = false by simpa using e] at e1
              exact .part _ _ e1 (leI _ _ _ _ _ (by omega))
          exact leAt_tuples pa pb lx (by omega) X.prog X.w _ X.xe ⟨.bl _, H, I, rfl, z⟩
end
end BF
namespace BF
open PySem PySem.Spec PyProof.Rows L2
theorem pe_p12 {X : Cx} {j1 j2 : Nat} {p1 p2 pos : Pos} : PE X (.BinOp (.Constant (.int 10) j1 p1) .Pow (.Constant (.int 12) j2 p2) pos) (tC (.int 1000000000000)) :=
  pe_imp (pe_op op_pow pe_int pe_int) fun σ H Q q => ⟨10, 12, rfl, rfl, ⟨by decide, by decide, by decide⟩, by
    have e : ((10 : Int) ^ (12 : Int).toNat) = 1000000000000 := by decide
    show Q (V.int _) H
    rw [e]; exact q⟩
end BF
namespace BF
open PySem PySem.Spec PyProof.Rows L2
section
variable {X : Cx}
def tDTwo (P : Program) (w : World) (tk tv tl tu : TE) : TE := fun σ H Q => ∀ a o, H a = none → DicV P w (upd H a o) a [] → tk σ (upd H a o) fun y H1 => tv σ H1 fun v H2 => tl σ H2 fun y' H3 => tu σ H3 fun v' H4 => ∃ (b b' : Addr) (d d' : Dt), y = .ref b ∧ y' = .ref b' ∧ DtIs H4 (.ref b) d ∧ DtIs H4 (.ref b') d' ∧ d.dp ≤ 8 ∧ d'.dp ≤ 8 ∧ DicV P w H4 a [] ∧
  ∀ o1 o2, DicV P w (upd (upd H4 a o1) a o2) a (putK [(d, v)] d' v') → Q (.ref a) (upd (upd H4 a o1) a o2)
theorem pe_dTwo {k : Nat} {ke ve le ue : Expr} {tk tv tl tu : TE} {pos : Pos} (hr : Room k X.A) (hk : PE X ke tk) (hv : PE X ve tv) (hl : PE X le tl) (hu' : PE X ue tu) : PE X (.Dict [some ke, some le] [ve, ue] pos) (tDTwo X.prog X.w tk tv tl tu) := fun pins s σ H Q I h => by
  have hu := hr.units
  have fr := I.hok.fresh (Nat.le_refl s.heap.objs.size)
  have dp : DicPart X.prog X.w (s.heap.push { cls := .type "dict", data := .dict #[] }) s.heap.objs.size [] := .of (Heap.DictOfH.new s.heap)
  have sys : (s.heap.objs.size == sysModules) = false := beq_eq_false_iff_ne.mpr (Nat.ne_of_gt I.big)
  have I1 := I.laid (a := s.heap.objs.size) (o := dicO X.prog X.w s.heap.objs.size []) (t' := s.toks) (h' := s.heap.push { cls := .type "dict", data := .dict #[] }) (fun _ _ q => Heap.get?_push_of_some _ q) (Nat.le_refl _) ⟨dp, ⟨_, Heap.get?_push_size _ rfl⟩, fun h1 h2 p1 k => p1.keep k⟩
  have h1 := h _ (dicO X.prog X.w s.heap.objs.size []) fr ⟨[], ⟨upd_same, sys, Nat.zero_le _, fun _ hx => nomatch hx⟩, .nil⟩
  refine wpAny_Dict_any rfl rfl (by simp) (show 2 ≤ 15 by decide) ?_
  show wpAny _ _ (evalPairs [(eval ke X.env, do let x ← eval ve X.env; standAt pos; pure x), (eval le X.env, do let x ← eval ue X.env; standAt pos; pure x)]) _ _ _
  unfold evalPairs
  refine wpAny_bind (thn (hk pins _ σ _ _ I1 h1) fun kv s1 ⟨y, H1, I2, ry, q1⟩ => ?_)
  refine wpAny_bind (wpAny_holding (wpAny_bind (thn (hv pins s1 σ H1 _ I2 q1) fun vv s2 ⟨v, H2, I3, rv, q2⟩ => wpAny_bind (wpAny_standAt (wpAny_pure ?_)))))
  refine wpAny_bind (wpAny_holding ?_)
  unfold evalPairs
  refine wpAny_bind (thn (hl pins s2 σ H2 _ I3 q2) fun lv s3 ⟨y', H3, I4, ry', q3⟩ => ?_)
  refine wpAny_bind (wpAny_holding (wpAny_bind (thn (hu' pins s3 σ H3 _ I4 q3) fun uv s4 ⟨v', H4, I5, rv', b, b', d, d', ey, ey', hd, hd', h8, h8', ⟨xs, dic, kd⟩, q4⟩ => wpAny_bind (wpAny_standAt (wpAny_pure ?_)))))
  subst ey ey'
  obtain rfl : kv = Value.ref b := ry
  obtain rfl : lv = Value.ref b' := ry'
  cases kd
  refine wpAny_bind (wpAny_holding (wpAny_pure (wpAny_pure (wpAny_pure ?_))))
  have full := dicH_of I5 dic
  unfold storeAll
  rw [List.forIn_cons]
  refine wpAny_bind (wpAny_bind (wpAny_dictSet_heap (knd := dtKind X.prog X.w) (k := d) (by show X.A.units + 9 < cLine; omega) ⟨datH_of I5 hd rfl, h8⟩ full (fun h' dd' hsb => wpAny_pure ?_) (Nat.zero_le _)))
  have dp' : DicPart X.prog X.w h' s.heap.objs.size (storedH [] d b vv) := .of dd'
  have I6 := d_write I5 (a := s.heap.objs.size) (ob := dicO X.prog X.w s.heap.objs.size (storedH [] d b vv)) (t' := s4.toks + (dtKind X.prog X.w).draws d) (by rw [dic.at_]; exact True.intro) hsb (let ⟨q, _, _, hq, _⟩ := dd'; ⟨q, hq⟩) ⟨dp', (let ⟨q, _, _, hq, _⟩ := dd'; ⟨q, hq⟩), fun h1 h2 p1 k => p1.keep k⟩
  have dic6 : DicH X.prog X.w (upd H4 s.heap.objs.size (dicO X.prog X.w s.heap.objs.size (storedH [] d b vv))) s.heap.objs.size (storedH [] d b vv) := ⟨upd_same, dic.sys, Nat.le_trans (storedH_len _ _ _ _) (by show 0 + 1 ≤ 1000; omega), fun z hz => by
    rcases storedH_mem hz with ⟨z1, z2⟩ | ⟨y, hy, z1, z2⟩
    · rw [z1, z2]; exact ⟨DtIs.updX dic.at_ hd, h8⟩
    · cases hy⟩
  have full6 := dicH_of I6 dic6
  have hd6 := DtIs.updX (o := dicO X.prog X.w s.heap.objs.size (storedH [] d b vv)) dic.at_ hd'
  have kd6 : KD (putK [] d v) (storedH [] d b vv) := KD.put .nil d rv
  have xl : (storedH [] d b vv).length ≤ 1 := storedH_len _ _ _ _
  refine (show wpAny _ _ (forIn [(Value.ref b', uv)] PUnit.unit _) _ _ _ from ?_)
  rw [List.forIn_cons]
  refine wpAny_bind (wpAny_bind (wpAny_dictSet_heap (knd := dtKind X.prog X.w) (k := d') (by show X.A.units + 9 < cLine; omega) ⟨datH_of I6 hd6 rfl, h8'⟩ full6 (fun h'' dd'' hsb'' => wpAny_pure ?_) (sz (by omega))))
  show wpAny _ _ (forIn [] PUnit.unit _) _ _ _
  rw [List.forIn_nil]
  refine wpAny_pure ?_
  have dp'' : DicPart X.prog X.w h'' s.heap.objs.size (storedH (storedH [] d b vv) d' b' uv) := .of dd''
  refine ⟨.ref s.heap.objs.size, upd (upd H4 s.heap.objs.size (dicO X.prog X.w s.heap.objs.size (storedH [] d b vv))) s.heap.objs.size (dicO X.prog X.w s.heap.objs.size (storedH (storedH [] d b vv) d' b' uv)), d_write I6 (by rw [upd_same]; exact True.intro) hsb'' (let ⟨q, _, _, hq, _⟩ := dd''; ⟨q, hq⟩) ⟨dp'', (let ⟨q, _, _, hq, _⟩ := dd''; ⟨q, hq⟩), fun h1 h2 p1 k => p1.keep k⟩, rfl, q4 _ _ ⟨_, ⟨upd_same, dic.sys, ?_, fun z hz => ?_⟩, KD.put kd6 d' rv'⟩⟩
  · exact Nat.le_trans (storedH_len _ _ _ _) (by omega)
  · rcases storedH_mem hz with ⟨z1, z2⟩ | ⟨y, hy, z1, z2⟩
    · rw [z1, z2]; exact ⟨DtIs.updX upd_same hd6, h8'⟩
    · rw [z1, z2]; exact ⟨DtIs.updX upd_same (dic6.key y hy).1, (dic6.key y hy).2⟩
end
end BF
namespace BF
open PySem PySem.Spec PyProof.Rows L2 PySem.SeqAt
abbrev Pq := List Dt × List Dt
def PlIs (H : Hp) (v : V) (r : Pq) : Prop := ∃ a u l, v = .ref a ∧ H a = some (.lst [.ref u, .ref l]) ∧ DtL H u r.1 ∧ DtL H l r.2 ∧ (∀ d ∈ r.1, d.dp ≤ 40) ∧ ∀ d ∈ r.2, d.dp ≤ 40
theorem PlIs.same {H H' : Hp} {v : V} {r : Pq} (h : PlIs H v r) (s : Same H H') : PlIs H' v r := let ⟨a, q, l, e, ea, t, d, k, k'⟩ := h; ⟨a, q, l, e, s _ _ ea, t.same s, d.same s, k, k'⟩
section
variable {X : Cx} {pins : List (Addr × Obj)} {σ : L2.St} {H : Hp} {s : Shared}
theorem plEqAt (I : Inv X pins σ H s) (A : Around) {v v' : V} {u u' : Value} {r : Pq} (h : PlIs H v r) (rv : RelV v u) (h' : PlIs H v' r) (rv' : RelV v' u') (hu : A.units + 50 < cLine) : EqAt A s u u' true := by
  obtain ⟨a, q, l, rfl, ea, ⟨qv, eq, dq⟩, ⟨lv, el, dl⟩, k, k2⟩ := h
  obtain ⟨a', q', l', rfl, ea', ⟨qv', eq', dq'⟩, ⟨lv', el', dl'⟩, k', k2'⟩ := h'
  cases rv
  cases rv'
  by_cases hab : a = a'
  · subst hab
    exact EqAt.same _
  · obtain ⟨its, rv, p, _⟩ := I.list (SqL.of ea)
    obtain ⟨its', rv', p', _⟩ := I.list (SqL.of ea')
    cases rv with
    | cons r1 rs => cases rs with
      | cons r2 rs =>
          cases rs
          cases rv' with
          | cons r1' rs => cases rs with
            | cons r2' rs =>
                cases rs
                cases r1
                cases r1'
                cases r2
                cases r2'
                have l1 : EqAt A.in1 s (.ref q) (.ref q') true := by
                  have := listEqAt I A.in1 eq eq' dq dq' k (by show A.units + 1 + 45 < _; omega)
                  rw [Dt.beqs_self] at this
                  exact this
                have l2 : EqAt A.in1 s (.ref l) (.ref l') true := by
                  have := listEqAt I A.in1 el el' dl dl' k2 (by show A.units + 1 + 45 < _; omega)
                  rw [Dt.beqs_self] at this
                  exact this
                have R := RcAt.lists (A := A) (s := s) (e := fun _ => true) p.isList p'.isList rfl (by omega) (fun j j1 j2 => by
                  match j, j1, j2 with
                  | 0, _, _ => exact l1
                  | 1, _, _ => exact l2
                  | j + 2, j1, _ => exact absurd j1 (by simp))
                have R2 : RcAt A s (.ref a) (.ref a') ((List.range 2).all (fun _ => true)) := R
                have e : (List.range 2).all (fun _ => true) = true := by decide
                rw [e] at R2
                exact EqAt.of_refs hab R2
end
section
variable {X : Cx}
theorem op_eqPl {k : Nat} (hr : Room k X.A) : OpR X (compareOp .Eq) (fun x y H Q => ∃ (a b : Addr) (xs ys : List V) (rs : List Pq), x = .ref a ∧ y = .ref b ∧ SqL X.K H a xs ∧ SqL X.K H b ys ∧ xs.length = rs.length ∧ ys.length = rs.length ∧ (∀ (i : Nat) v r, xs[i]? = some v → rs[i]? = some r → PlIs H v r) ∧ (∀ (i : Nat) v r, ys[i]? = some v → rs[i]? = some r → PlIs H v r) ∧ Q (.bl true) H) := by
  intro pins s σ H x y v u Q I rx ry h
  obtain ⟨a, b, xs, ys, rs, rfl, rfl, hx, hy, lx, ly, hp, hq, q⟩ := h
  have hu := hr.units
  cases rx
  cases ry
  obtain ⟨its, rv, p, _⟩ := I.list hx
  obtain ⟨its', rv', p', _⟩ := I.list hy
  have n1 : its.length = rs.length := by rw [← rv.length, lx]
  have n2 : its'.length = rs.length := by rw [← rv'.length, ly]
  have R := RcAt.lists (A := X.A) (s := s) (e := fun _ => true) p.isList p'.isList (by rw [List.size_toArray, List.size_toArray, n1, n2]) (by omega) (fun j j1 j2 => by
    have j1' : j < its.length := by simpa using j1
    have j2' : j < its'.length := by simpa using j2
    have jr : j < rs.length := by omega
    have jx : j < xs.length := by omega
    have jy : j < ys.length := by omega
    obtain ⟨u1, e1, r1⟩ := rv.get (List.getElem?_eq_getElem jx)
    obtain ⟨u2, e2, r2⟩ := rv'.get (List.getElem?_eq_getElem jy)
    rw [List.getElem?_eq_getElem j1'] at e1
    rw [List.getElem?_eq_getElem j2'] at e2
    have E := plEqAt I X.A.in1 (hp j _ _ (List.getElem?_eq_getElem jx) (List.getElem?_eq_getElem jr)) r1 (hq j _ _ (List.getElem?_eq_getElem jy) (List.getElem?_eq_getElem jr)) r2 (by show X.A.units + 1 + 50 < cLine; omega)
    rw [← Option.some.inj e1, ← Option.some.inj e2] at E
    simpa using E)
  have e : ((List.range its.toArray.size).all fun _ => true) = true := by simp
  rw [e] at R
  exact R X.prog X.w X.xe _ ⟨.bl _, H, I, rfl, q⟩
end
end BF
namespace K33
open PySem PySem.Spec PyProof.Rows L2 BF
def top (i : Nat) : Stmt := PySem.Challenge.pw_bothfaces_k33_whole_pieces.main.body.getD i (.Pass ⟨0, 0, 0, 0⟩)
abbrev sNb : Stmt := top 1
abbrev sLeast : Stmt := top 2
abbrev sAtL : Stmt := top 3
abbrev sPieces : Stmt := top 4
abbrev sCell : Stmt := top 6
abbrev sRoom : Stmt := top 7
abbrev sTake : Stmt := top 8
abbrev sEnds : Stmt := top 9
abbrev sFar : Stmt := top 10
abbrev sWork : Stmt := top 11
abbrev sIsPiece : Stmt := top 12
abbrev sHoles : Stmt := top 13
abbrev sHangs : Stmt := top 14
abbrev sApart : Stmt := top 15
abbrev sLaw : Stmt := top 16
end K33
namespace K33
open PySem PySem.Spec PyProof.Rows L2 BF
seal L2.PE L2.PA L2.PS L2.PSs L2.PT L2.PW L2.PG L2.PGs L2.PI BF.PTs L2.PPs
def rooK (l a : Int) (c : Addr) : List (Key × V) := [(.inr "left", .int l), (.inr "at", .int a), (.inr "cells", .ref c)]
def Roo (H : Hp) (r : Addr) (t : Nat) : Prop := ∃ (l a : Int) (c : Addr) (cs : List Int), H r = some (.dK (rooK l a c)) ∧ H c = some (.lst (cs.map V.int)) ∧ 0 < cs.length ∧ -1 ≤ a ∧ a ≤ t
def Sb (r : Addr) (H H' : Hp) : Prop := ∀ a v, a ≠ r → H a = some v → H' a = some v
theorem Sb.refl (r : Addr) (H : Hp) : Sb r H H := fun _ _ _ e => e
theorem Sb.trans {r : Addr} {H H' H'' : Hp} (s : Sb r H H') (s' : Sb r H' H'') : Sb r H H'' := fun a v n e => s' a v n (s a v n e)
theorem Sb.of {r : Addr} {H H' : Hp} (s : Same H H') : Sb r H H' := fun a v _ e => s a v e
theorem Roo.ne {H : Hp} {r : Addr} {t : Nat} (h : Roo H r t) {a : Addr} {o : HO} (e : H a = some o) (hn : ∀ kvs, o ≠ .dK kvs) : a ≠ r := fun z => by
  obtain ⟨l, a', c, cs, er, _⟩ := h
  rw [z, er] at e
  exact hn _ (Option.some.inj e).symm
theorem Roo.same {H H' : Hp} {r : Addr} {t : Nat} (h : Roo H r t) (s : Same H H') : Roo H' r t := let ⟨l, a, c, cs, er, ec, h1, h2, h3⟩ := h; ⟨l, a, c, cs, s _ _ er, s _ _ ec, h1, h2, h3⟩
theorem Roo.mono {H : Hp} {r : Addr} {t u : Nat} (h : Roo H r t) (k : t ≤ u) : Roo H r u := let ⟨l, a, c, cs, er, ec, h1, h2, h3⟩ := h; ⟨l, a, c, cs, er, ec, h1, h2, by omega⟩
theorem sb_two {r : Addr} {H H' : Hp} {t : Nat} (s : Sb r H H') (h : Roo H r t) {q : Addr} {p : Ho} (e : two H q p) : two H' q p := s _ _ (h.ne e (fun _ zz => nomatch zz)) e
theorem sb_dk {r : Addr} {H H' : Hp} {l a : Int} {c : Addr} {cs : List Int} {t : Nat} {l' a' : Int} (er : H r = some (.dK (rooK l a c))) (ec : H c = some (.lst (cs.map V.int))) (h0 : 0 < cs.length) (e' : H' = upd H r (.dK (rooK l' a' c))) (h1 : -1 ≤ a') (h2 : a' ≤ t) : Sb r H H' ∧ Roo H' r t := by
  subst e'
  refine ⟨fun b v n e => by rw [upd_ne n]; exact e, l', a', c, cs, upd_same, ?_, h0, h1, h2⟩
  rw [upd_ne (fun z => by rw [z, er] at ec; cases ec)]
  exact ec
section
variable {P : Program} {w : World} {K : PySem.W.Frag} {mg : Str → Option Value} {base : Heap}
def spCell (K : PySem.W.Frag) : Sp := fun vs H Q _ => ∃ (a : Addr) (ns : List Int) (k : Nat), vs = [.ref a, .int k] ∧ SqL K H a (ns.map V.int) ∧ ∀ c, Q (.int c) H
theorem scCell : FnScope ["_law_script", "_law_k"] ["_law_script", "_law_k"] (defScope sCell) := ⟨rfl, rfl, rfl, by decide +kernel, rfl, by decide +kernel, by decide +kernel⟩
theorem ok_cell {f : Addr} {fd : FuncData} (D : Df K mg "_law_cell_at" sCell f fd) (hlen : mg "len" = none) : FnOk P w K mg base CX0 1 f fd ["_law_script", "_law_k"] (spCell K) := by
  refine D.F.ok scCell (fun vs H Q E h => ?_) (fun cdv A outer s H vs Q E hr h => ?_)
  · obtain ⟨a, ns, k, rfl, _⟩ := h
    rfl
  · obtain ⟨a, ns, k, rfl, hS, q⟩ := h
    refine ⟨_, pss_cons (ps_if (pt_cmpR op_lt (pv 1) (pe_callB call_len_seq (by rfl) hlen PySem.boot_len (pac (pv 0) pa_nil)) (nomark _)) (pss_one (ps_ret (pe_ix ix_list (pv 0) (pv 1) (fun _ _ => rfl)))) pss_nil) (pss_one (ps_ret pe_int)), ?_⟩
    refine ⟨_, rfl, _, rfl, a, _, rfl, .inl hS, _, _, rfl, rfl, _, rfl, ?_⟩
    rw [List.length_map]
    by_cases hk : (k : Int) < (ns.length : Int)
    · refine ifD_pos hk ?_
      obtain ⟨c, hc, hm⟩ := atI_of (xs := ns.map V.int) (m := (k : Int)) (by omega) (by rw [List.length_map]; exact hk)
      obtain ⟨z, _, rfl⟩ := List.mem_map.mp hm
      exact ⟨_, rfl, _, rfl, a, _, _, _, rfl, rfl, hS, hc, q z⟩
    · exact ifD_neg hk (q 0)
def spRoom (K : PySem.W.Frag) : Sp := fun vs H Q _ => ∃ (a : Addr) (ns : List Int), vs = [.ref a] ∧ SqL K H a (ns.map V.int) ∧ ns.length ≤ 63 ∧ ∀ (r : Addr) H', Same H H' → H r = none → Roo H' r 0 → Q (.ref r) H'
theorem scRoom : FnScope ["_law_script", "_law_cells"] ["_law_script"] (defScope sRoom) := ⟨rfl, rfl, rfl, by decide +kernel, rfl, by decide +kernel, by decide +kernel⟩
theorem ok_room {f fC : Addr} {fd fdC : FuncData} (D : Df K mg "_law_room" sRoom f fd) (DC : Df K mg "_law_cell_at" sCell fC fdC) (bC : Binds K fdC ["_law_script", "_law_k"] []) (GC : FnOk P w K mg base CX0 1 fC fdC ["_law_script", "_law_k"] (spCell K)) (habs : mg "abs" = none) : FnOk P w K mg base CX0 2 f fd ["_law_script"] (spRoom K) := by
  refine D.F.ok scRoom (fun vs H Q E h => ?_) (fun cdv A outer s H vs Q E hr h => ?_)
  · obtain ⟨a, ns, rfl, _⟩ := h
    rfl
  · obtain ⟨a, ns, rfl, hS, hl, z⟩ := h
    refine ⟨_, (pss_cons (ps_set (i := 1) scRoom.nd rfl (Or.inl rfl) (pe_op op_cat (pe_comp (N' := ["_law_cell"]) (idx := [none]) (compOk_of (by kernel_rfl)) (by kernel_rfl) rfl (pi_list (pv 0)) (fun _ _ _ _ _ => pg_name (i := 0) (show (["_law_cell"] : List Str).Nodup by decide +kernel) rfl (Or.inl rfl)) (fun _ _ _ _ _ => pts_nil) (te := tOp (rI (fun _ j => 0 < j) fun i j => V.int (i % j)) (tVar 0) (tC (.int 1000000007))) (fun _ _ _ _ _ => pe_op op_mod (pv 0) pe_int)) (pe_lst (pac (pe_int) pa_nil))))
      (pss_cons (ps_if (pt_cmpR op_eq (pe_op op_mod (pec GC hr rfl DC.m DC.F.kp bC .nil pass0 (pac (pv 0) (pac (pe_int) pa_nil))) pe_int) pe_int (nomark _)) (pss_one (ps_ret (pe_disp (pps_cons pe_str (pe_callB call_abs (by rfl) habs boot_abs (pac (pec GC hr rfl DC.m DC.F.kp bC .nil pass0 (pac (pv 0) (pac (pe_int) pa_nil))) pa_nil)) (pps_cons pe_str (pe_un un_neg pe_int) (pps_cons pe_str (pv 1) pps_nil))) rfl rfl (by decide) (by decide)))) pss_nil)
      (pss_one (ps_ret (pe_disp (pps_cons pe_str pe_int (pps_cons pe_str pe_int (pps_cons pe_str (pv 1) pps_nil))) rfl rfl (by decide) (by decide)))))), ?_⟩
    refine ⟨_, rfl, a, rfl, ⟨_, hS⟩, fun M nM => ?_⟩
    refine comp_n (J := Itl K a) (n := ns.length) (fun i σ2 H2 => (∃ v0, σ2 = [v0]) ∧ Same H H2 ∧ H2 M = some (.lst (((ns.take i).map fun n => n % 1000000007).map V.int))) ?_ ?_ ?_ ?_
    · exact ⟨⟨_, rfl⟩, same_upd nM, upd_same⟩
    · rintro i σ2 H2 hi ⟨⟨v0, rfl⟩, S2, _⟩
      exact ⟨_, _, S2.seq hS, List.getElem?_eq_getElem (by rw [List.length_map]; exact hi)⟩
    · rintro σ2 H2 ⟨⟨v0, rfl⟩, S2, eM⟩
      rw [List.take_of_length_le (Nat.le_refl _)] at eM
      refine ⟨⟨_, S2.seq hS, by rw [List.length_map]; exact Nat.le_refl _⟩, szr rfl, fun l1 n1 => ?_⟩
      have T1 := same_upd (o := HO.lst [V.int 0]) n1
      refine ⟨M, l1, _, _, rfl, rfl, T1 _ _ eM, upd_same, sz (by rw [List.length_map, List.length_map]; show ns.length + 1 ≤ _; omega), fun c nc => ?_⟩
      have T2 := same_upd (o := HO.lst (((ns.map fun n => n % 1000000007).map V.int) ++ [V.int 0])) nc
      have S3 := (S2.trans T1).trans T2
      have ec : (upd (upd H2 l1 (.lst [V.int 0])) c (.lst (((ns.map fun n => n % 1000000007).map V.int) ++ [V.int 0]))) c = some (.lst (((ns.map fun n => n % 1000000007) ++ [0]).map V.int)) := by rw [upd_same, List.map_append]; rfl
      have hpos : 0 < ((ns.map fun n => n % 1000000007) ++ [0]).length := by rw [List.length_append]; exact Nat.succ_pos _
      revert S3 ec hpos
      generalize (upd (upd H2 l1 (.lst [V.int 0])) c (.lst (((ns.map fun n => n % 1000000007).map V.int) ++ [V.int 0]))) = H3
      generalize ((ns.map fun n => n % 1000000007) ++ [0]) = cs
      intro S3 ec hpos
      refine ⟨_, rfl, a, ns, 0, rfl, S3.seq hS, fun c0 => ⟨_, _, rfl, rfl, (by show (0 : Int) < _; decide), rfl, _, rfl, ifC (fun _ => ?_) (fun _ => ?_)⟩⟩
      · refine fun p np => ?_
        have Tp := same_upd (o := HO.dK []) np
        refine ⟨_, rfl, a, ns, 1, rfl, (S3.trans Tp).seq hS, fun c1 => ⟨c1, rfl, _, rfl, _, rfl, upd_same, [(.inr "left", _), (.inr "at", _), (.inr "cells", _)], rfl, (by show 3 ≤ 15; decide), ?_⟩⟩
        refine z p _ (same_updN (S3.trans Tp) (none_same S3 np)) (none_same S3 np) ⟨_, _, c, cs, upd_same, ?_, hpos, by decide, by decide⟩
        rw [upd_ne (fun e => by rw [e, np] at ec; cases ec)]
        exact Tp _ _ ec
      · refine fun p np => ?_
        have Tp := same_upd (o := HO.dK []) np
        refine ⟨_, rfl, upd_same, [(.inr "left", _), (.inr "at", _), (.inr "cells", _)], rfl, (by show 3 ≤ 15; decide), ?_⟩
        refine z p _ (same_updN (S3.trans Tp) (none_same S3 np)) (none_same S3 np) ⟨_, _, c, cs, upd_same, ?_, hpos, by decide, by decide⟩
        rw [upd_ne (fun e => by rw [e, np] at ec; cases ec)]
        exact Tp _ _ ec
    · rintro i σ2 H2 hi ⟨⟨v0, rfl⟩, S2, eM⟩ x H3 ⟨rfl, hx⟩
      have hx := hx _ (S2.seq hS)
      rw [List.getElem?_map, List.getElem?_eq_getElem hi] at hx
      cases hx
      have tk : ns.take (i + 1) = ns.take i ++ [ns[i]] := by rw [List.take_add_one, List.getElem?_eq_getElem hi]; rfl
      refine ⟨_, rfl, _, _, rfl, rfl, (by show (0 : Int) < _; decide), _, eM, ?_, ⟨_, rfl⟩, same_updN S2 nM, ?_⟩
      · rw [List.length_map, List.length_map, List.length_take]
        exact small1000 (by omega)
      · rw [upd_same, tk, List.map_append, List.map_append]
        rfl
def spTake : Sp := fun vs H Q _ => ∃ (r : Addr) (m t : Nat), vs = [.ref r, .int m] ∧ 0 < m ∧ m ≤ 1000 ∧ t ≤ 100000 ∧ Roo H r t ∧ ∀ (n : Nat) H', n < m → Sb r H H' → Roo H' r (t + 1) → Q (.int n) H'
theorem scTake : FnScope ["_law_room_here", "_law_many", "_law_k", "_law_cell", "_law_one", "_law_two", "_law_found"] ["_law_room_here", "_law_many"] (defScope sTake) := ⟨rfl, rfl, rfl, by decide +kernel, rfl, by decide +kernel, by decide +kernel⟩
theorem ok_take {f : Addr} {fd : FuncData} (D : Df K mg "_law_take" sTake f fd) (hlen : mg "len" = none) : FnOk P w K mg base CX0 1 f fd ["_law_room_here", "_law_many"] spTake := by
  refine D.F.ok scTake (fun vs H Q E h => ?_) (fun cdv A outer s H vs Q E hr h => ?_)
  · obtain ⟨r, m, t, rfl, _⟩ := h
    rfl
  · obtain ⟨r, m, t, rfl, m0, m1, ht, ⟨l, a, c, cs, er, ec, hc, a1, a2⟩, z⟩ := h
    have hu := Nat.lt_of_le_of_lt (Nat.add_le_add_left (show 1 ≤ 64 by decide) _) hr.units
    refine ⟨_, (pss_cons (ps_set (i := 2) scTake.nd rfl (Or.inl rfl) (pe_dget hu (pv 0) pe_str (fun _ _ => rfl)))
      (pss_cons (ps_if (PW.pt (pw_and (pt_cmpR op_lt (pv 2) pe_int (nomark _)) (pw_and1 (pt_cmpR op_eq (pe_dget hu (pv 0) pe_str (fun _ _ => rfl)) pe_int (nomark _))))) (pss_one (ps_set (i := 2) scTake.nd rfl (Or.inl rfl) pe_int)) pss_nil)
      (pss_cons (ps_if (PW.pt (pw_and (pt_cmpR op_ge (pv 2) pe_int (nomark _)) (pw_and1 (pt_cmpR op_lt (pe_dget hu (pv 0) pe_str (fun _ _ => rfl)) pe_p12 (nomark _))))) (pss_cons (ps_set (i := 3) scTake.nd rfl (Or.inl rfl) (pe_ix ix_list (pe_dget hu (pv 0) pe_str (fun _ _ => rfl)) (pe_op op_mod (pv 2) (pe_callB call_len_seq (by rfl) hlen PySem.boot_len (pac (pe_dget hu (pv 0) pe_str (fun _ _ => rfl)) pa_nil))) (fun _ _ => rfl)))
      (pss_cons (ps_set (i := 4) scTake.nd rfl (Or.inl rfl) (pe_op op_mod (pe_op op_mul (pe_op op_add (pe_op op_add (pe_op op_add (pv 3) (pe_op op_mul (pe_op op_mul pe_int (pv 2)) (pv 2))) (pv 2)) pe_int) pe_int) pe_int))
      (pss_cons (ps_set (i := 5) scTake.nd rfl (Or.inl rfl) (pe_op op_mod (pe_op op_add (pe_op op_add (pe_op op_mul (pv 4) (pv 4)) (pe_op op_mul (pe_op op_mul pe_int (pv 2)) (pv 2))) pe_int) pe_int))
      (pss_cons (ps_dput hu (pv 0) pe_str (pe_op op_add (pe_op op_mul (pv 5) pe_int) (pe_op op_mul (pv 4) pe_int)) rfl)
      (pss_one (ps_dput hu (pv 0) pe_str (pe_op op_add (pv 2) pe_int) rfl)))))) pss_nil)
      (pss_cons (ps_set (i := 6) scTake.nd rfl (Or.inl rfl) (pe_op op_mod (pe_dget hu (pv 0) pe_str (fun _ _ => rfl)) (pv 1)))
      (pss_cons (ps_dput hu (pv 0) pe_str (pe_op op_fdiv (pe_dget hu (pv 0) pe_str (fun _ _ => rfl)) (pv 1)) rfl)
      (pss_one (ps_ret (pv 6)))))))), ?_⟩
    have gl : ∀ {H' : Hp} {l a : Int}, H' r = some (.dK (rooK l a c)) → DGet H' r (.str "left") (some (.int l)) := fun {H' l a} e => DGet.k (k := .inr "left") e
    have ga : ∀ {H' : Hp} {l a : Int}, H' r = some (.dK (rooK l a c)) → DGet H' r (.str "at") (some (.int a)) := fun {H' l a} e => DGet.k (k := .inr "at") e
    have gc : ∀ {H' : Hp} {l a : Int}, H' r = some (.dK (rooK l a c)) → DGet H' r (.str "cells") (some (.ref c)) := fun {H' l a} e => DGet.k (k := .inr "cells") e
    have pl : ∀ {H' : Hp} {l a l' : Int}, H' r = some (.dK (rooK l a c)) → DPut H' r (.str "left") (.int l') (upd H' r (.dK (rooK l' a c))) := fun {H' l a l'} e => DPut.k (k := .inr "left") e (by show 3 < _; exact small1000 (by decide))
    have pa : ∀ {H' : Hp} {l a a' : Int}, H' r = some (.dK (rooK l a c)) → DPut H' r (.str "at") (.int a') (upd H' r (.dK (rooK l a' c))) := fun {H' l a a'} e => DPut.k (k := .inr "at") e (by show 3 < _; exact small1000 (by decide))
    refine ⟨_, rfl, r, _, rfl, ga er, ?_⟩
    refine' laterS (fun σ H1 => ∃ k : Int, σ = [some (.ref r), some (.int m), some (.int k), none, none, none, none] ∧ H1 = H ∧ -1 ≤ k ∧ k ≤ t) (fun fin => _) _
    rotate_left
    · refine ⟨_, rfl, _, _, rfl, rfl, _, rfl, ifC (fun _ => ?_) (fun _ => iteF (fin _ _ ⟨a, rfl, rfl, a1, a2⟩))⟩
      refine ⟨_, rfl, r, _, rfl, gl er, rfl, _, rfl, ifC (fun _ => fin _ _ ⟨0, rfl, rfl, by decide, by omega⟩) (fun _ => fin _ _ ⟨a, rfl, rfl, a1, a2⟩)⟩
    rintro σ H1 ⟨k, rfl, rfl, k1, k2⟩
    have ck : ∀ i : Int, CMul i k := fun i => cmulR (by omega) (by omega)
    refine' laterS (fun σ H2 => ∃ (l' a' : Int) (v3 v4 v5 : Option V), σ = [some (.ref r), some (.int m), some (.int k), v3, v4, v5, none] ∧ (H2 = H1 ∧ l' = l ∧ a' = a ∨ H2 = upd (upd H1 r (.dK (rooK l' a c))) r (.dK (rooK l' a' c))) ∧ -1 ≤ a' ∧ a' ≤ t + 1) (fun fin => _) _
    rotate_left
    · refine ⟨_, rfl, _, _, rfl, rfl, _, rfl, ?_⟩
      by_cases hk : k ≥ 0
      rotate_left
      · exact ifD_neg hk (iteF (fin _ _ ⟨l, a, _, _, _, rfl, .inl ⟨rfl, rfl, rfl⟩, a1, by omega⟩))
      refine ifD_pos hk ?_
      refine ⟨_, rfl, r, _, rfl, gl er, _, _, rfl, rfl, _, rfl, ifC (fun _ => ?_) (fun _ => fin _ _ ⟨l, a, _, _, _, rfl, .inl ⟨rfl, rfl, rfl⟩, a1, by omega⟩)⟩
      have hcl : (0 : Int) < ((cs.map V.int).length : Int) := by rw [List.length_map]; omega
      obtain ⟨x, hx, hxm⟩ := atI_of (xs := cs.map V.int) (m := k % ((cs.map V.int).length : Int)) (Int.emod_nonneg _ (by omega)) (Int.emod_lt_of_pos _ hcl)
      obtain ⟨xc, _, rfl⟩ := List.mem_map.mp hxm
      refine ⟨_, rfl, r, _, rfl, gc er, _, rfl, _, rfl, r, _, rfl, gc er, c, _, rfl, .inl (SqL.of ec), _, _, rfl, rfl, hcl, c, _, _, _, rfl, rfl, SqL.of ec, hx, ?_⟩
      refine ⟨_, rfl, _, rfl, _, _, rfl, rfl, ck _, _, rfl, _, _, rfl, rfl, ck _, _, _, rfl, rfl, _, rfl, _, _, rfl, rfl, _, _, rfl, rfl, _, _, rfl, rfl, cmulR (by decide) (by decide), _, _, rfl, rfl, (by show (0 : Int) < _; decide), ?_⟩
      have o1 : ∀ x : Int, -(2 ^ 64) < x % 2147483629 ∧ x % 2147483629 < 2 ^ 64 := fun x => by omega
      have o2 : ∀ x : Int, -(2 ^ 64) < x % 2147483587 ∧ x % 2147483587 < 2 ^ 64 := fun x => by omega
      refine ⟨_, rfl, _, rfl, _, _, rfl, rfl, .inr (o1 _), _, rfl, _, _, rfl, rfl, ck _, _, rfl, _, _, rfl, rfl, ck _, _, _, rfl, rfl, _, _, rfl, rfl, _, _, rfl, rfl, (by show (0 : Int) < _; decide), ?_⟩
      refine ⟨_, rfl, _, _, rfl, rfl, .inl (o2 _), _, rfl, _, _, rfl, rfl, .inl (o1 _), _, _, rfl, rfl, _, rfl, r, _, rfl, pl er, ?_⟩
      refine ⟨_, rfl, _, _, rfl, rfl, _, rfl, r, _, rfl, pa upd_same, ?_⟩
      exact fin _ _ ⟨_, _, _, _, _, rfl, .inr rfl, by omega, by omega⟩
    rintro σ H2 ⟨l', a', v3, v4, v5, rfl, hH, b1, b2⟩
    have er2 : H2 r = some (.dK (rooK l' a' c)) := by
      rcases hH with ⟨rfl, rfl, rfl⟩ | rfl
      · exact er
      · exact upd_same
    have sb2 : Sb r H1 H2 := by
      rcases hH with ⟨rfl, _, _⟩ | rfl
      · exact Sb.refl _ _
      · exact fun b v n e => by rw [upd_ne n, upd_ne n]; exact e
    have nc : c ≠ r := fun e => by rw [e, er] at ec; cases ec
    have ec2 := sb2 _ _ nc ec
    have hm : (0 : Int) < (m : Int) := by omega
    refine ⟨_, rfl, r, _, rfl, gl er2, _, rfl, _, _, rfl, rfl, hm, ?_⟩
    refine ⟨_, rfl, r, _, rfl, gl er2, _, rfl, _, _, rfl, rfl, ⟨hm, by omega⟩, _, rfl, r, _, rfl, pl er2, ?_⟩
    obtain ⟨n, hn⟩ := Int.eq_ofNat_of_zero_le (Int.emod_nonneg l' (show (m : Int) ≠ 0 by omega))
    have hn2 : n < m := by
      have := Int.emod_lt_of_pos l' hm
      omega
    obtain ⟨s3, ro3⟩ := sb_dk (t := t + 1) (l' := l' / (m : Int)) (a' := a') er2 ec2 hc rfl b1 (by omega)
    refine ⟨_, rfl, ?_⟩
    have := z n _ hn2 (sb2.trans s3) ro3
    rw [← hn] at this
    exact this
end
end K33
namespace K33
open PySem PySem.Spec PyProof.Rows L2 BF
theorem ln_two {H : Hp} {v : V} {a : Ln} (h : DtIs H v (lnD a)) : ∃ r x y, v = .ref r ∧ H r = some (.tup [.ref x, .ref y]) ∧ two H x a.1 ∧ two H y a.2 := by
  unfold lnD at h
  cases h with
  | tup e h1 =>
    cases h1 with
    | cons q1 t1 =>
      cases t1 with
      | cons q2 t2 =>
        cases t2
        cases q1 with
        | @tup x _ _ e1 k1 =>
          cases q2 with
          | @tup y _ _ e2 k2 => exact ⟨_, x, y, rfl, e, hD_two (.tup e1 k1), hD_two (.tup e2 k2)⟩
theorem as_hD : ∀ {es : List Dt}, (∀ d ∈ es, ∃ h : Ho, d = hD h) → ∃ hs : List Ho, es = hs.map hD
  | [], _ => ⟨[], rfl⟩
  | d :: es, h => by
    obtain ⟨hs, e⟩ := as_hD (es := es) fun x hx => h x (List.mem_cons_of_mem _ hx)
    obtain ⟨p, hp⟩ := h d (List.mem_cons_self ..)
    exact ⟨p :: hs, by rw [e, hp]; rfl⟩
theorem nodup_of_map {hs : List Ho} (h : (hs.map hD).Nodup) : hs.Nodup := (List.pairwise_map.mp h).imp fun n e => n (by rw [e])
end K33
namespace K33
open PySem PySem.Spec PyProof.Rows L2 BF
seal L2.PE L2.PA L2.PS L2.PSs L2.PT L2.PW L2.PG L2.PGs L2.PI BF.PTs L2.PPs
theorem ln_at {H : Hp} {vs : List V} {ls : List Ln} (h : DtsIs H vs (ls.map lnD)) {i : Nat} {v : V} (e : vs[i]? = some v) : ∃ r x y a, v = .ref r ∧ ls[i]? = some a ∧ H r = some (.tup [.ref x, .ref y]) ∧ two H x a.1 ∧ two H y a.2 := by
  obtain ⟨d, ed, dv⟩ := h.at i v e
  rw [List.getElem?_map] at ed
  cases ha : ls[i]? with
  | none => rw [ha] at ed; cases ed
  | some a =>
    rw [ha] at ed
    cases ed
    obtain ⟨r, x, y, rfl, er, tx, ty⟩ := ln_two dv
    exact ⟨r, x, y, a, rfl, rfl, er, tx, ty⟩
theorem ln_dt {H : Hp} {r x y : Addr} {a : Ln} (er : H r = some (.tup [.ref x, .ref y])) (tx : two H x a.1) (ty : two H y a.2) : DtIs H (.ref r) (lnD a) := .tup er (.cons (two_dt tx) (.cons (two_dt ty) .nil))
theorem dapp {H' : Hp} {us ws : List V} {ds es : List Dt} (h1 : DtsIs H' us ds) (h2 : DtsIs H' ws es) : DtsIs H' (us ++ ws) (ds ++ es) := by
  induction ds generalizing us with
  | nil => cases h1; exact h2
  | cons d ds ih => cases h1 with
    | cons q tl => exact .cons q (ih tl)
theorem dts_init {H : Hp} : ∀ {ds es : List Dt} {us ws : List V}, DtsIs H (us ++ ws) (ds ++ es) → us.length = ds.length → DtsIs H us ds
  | [], _, [], _, _, _ => .nil
  | d :: ds, _, u :: us, _, .cons q t, hl => .cons q (dts_init t (by simpa using hl))
  | [], _, _ :: _, _, _, hl => by simp at hl
  | _ :: _, _, [], _, _, hl => by simp at hl
theorem beq_hD (p q : Ho) : Dt.beq (hD p) (hD q) = decide (p = q) := by
  by_cases h : p = q
  · rw [h, Dt.beq_self, decide_eq_true rfl]
  · rw [decide_eq_false h]
    exact Dt.beq_false.mpr fun e => h (hD_inj e)
def nbP (ls : List Ln) : List (Ho × Ho) := (ls.map fun a => [(a.1, a.2), (a.2, a.1)]).flatten
def nbEv (ls : List Ln) : Ap := (nbP ls).map fun p => (p.1, hD p.2)
def nbOf (ls : List Ln) (h : Ho) : List Ho := ((nbP ls).filter fun p => decide (p.1 = h)).map (·.2)
theorem atH_nb (ls : List Ln) (h : Ho) : atH (nbEv ls) h = (nbOf ls h).map hD := by
  unfold atH nbEv nbOf
  rw [List.filter_map, List.map_map, List.map_map]
  rfl
theorem nbP_mem {ls : List Ln} {k m : Ho} : (k, m) ∈ nbP ls ↔ Adj ls k m := by
  unfold nbP
  constructor
  · intro h
    obtain ⟨l, hl, hm⟩ := List.mem_flatten.mp h
    obtain ⟨a, ha, rfl⟩ := List.mem_map.mp hl
    simp only [List.mem_cons, List.not_mem_nil, or_false, Prod.mk.injEq] at hm
    rcases hm with ⟨rfl, rfl⟩ | ⟨rfl, rfl⟩
    · exact ⟨a, ha, .inl ⟨rfl, rfl⟩⟩
    · exact ⟨a, ha, .inr ⟨rfl, rfl⟩⟩
  · rintro ⟨a, ha, ⟨rfl, rfl⟩ | ⟨rfl, rfl⟩⟩
    · exact List.mem_flatten.mpr ⟨_, List.mem_map.mpr ⟨a, ha, rfl⟩, by simp⟩
    · exact List.mem_flatten.mpr ⟨_, List.mem_map.mpr ⟨a, ha, rfl⟩, by simp⟩
theorem nbOf_mem {ls : List Ln} {h m : Ho} : m ∈ nbOf ls h ↔ Adj ls h m := by
  unfold nbOf
  rw [← nbP_mem]
  constructor
  · intro hm
    obtain ⟨p, hp, rfl⟩ := List.mem_map.mp hm
    obtain ⟨h1, h2⟩ := List.mem_filter.mp hp
    have e : p.1 = h := of_decide_eq_true h2
    rw [← e]
    exact h1
  · intro hm
    exact List.mem_map.mpr ⟨(h, m), List.mem_filter.mpr ⟨hm, decide_eq_true rfl⟩, rfl⟩
theorem nbEv_mem {ls : List Ln} {h : Ho} : (∃ e ∈ nbEv ls, e.1 = h) ↔ ∃ a ∈ ls, a.1 = h ∨ a.2 = h := by
  constructor
  · rintro ⟨e, he, rfl⟩
    obtain ⟨⟨k, m⟩, hp, rfl⟩ := List.mem_map.mp he
    obtain ⟨a, ha, ⟨h1, _⟩ | ⟨h1, _⟩⟩ := nbP_mem.mp hp
    · exact ⟨a, ha, .inl h1⟩
    · exact ⟨a, ha, .inr h1⟩
  · rintro ⟨a, ha, h1 | h1⟩
    · exact ⟨(h, hD a.2), List.mem_map.mpr ⟨(h, a.2), nbP_mem.mpr ⟨a, ha, .inl ⟨h1, rfl⟩⟩, rfl⟩, rfl⟩
    · exact ⟨(h, hD a.1), List.mem_map.mpr ⟨(h, a.1), nbP_mem.mpr ⟨a, ha, .inr ⟨h1, rfl⟩⟩, rfl⟩, rfl⟩
theorem nbEv_snoc (ls : List Ln) (a : Ln) : nbEv (ls ++ [a]) = nbEv ls ++ [(a.1, hD a.2)] ++ [(a.2, hD a.1)] := by simp [nbEv, nbP]
theorem nbP_len : ∀ ls : List Ln, (nbP ls).length = 2 * ls.length
  | [] => rfl
  | a :: ls => by
    have e : nbP (a :: ls) = [(a.1, a.2), (a.2, a.1)] ++ nbP ls := by simp [nbP]
    rw [e, List.length_append, nbP_len ls, List.length_cons]
    show 2 + 2 * ls.length = 2 * (ls.length + 1)
    omega
theorem nbEv_len (ls : List Ln) : (nbEv ls).length = 2 * ls.length := by unfold nbEv; rw [List.length_map, nbP_len]
theorem nbOf_len (ls : List Ln) (h : Ho) : (nbOf ls h).length ≤ 2 * ls.length := by
  unfold nbOf
  rw [List.length_map, ← nbP_len]
  exact List.length_filter_le _ _
section
variable {P : Program} {w : World} {K : PySem.W.Frag} {mg : Str → Option Value} {base : Heap}
structure WkIs (H : Hp) (t F B : Addr) (fs bs : List Ln) : Prop where
  t : H t = some (.tup [.ref F, .ref B])
  f : DtL H F (fs.map lnD)
  b : DtL H B (bs.map lnD)
  lf : fs.length ≤ 70
  lb : bs.length ≤ 70
theorem WkIs.same {H H' : Hp} {t F B : Addr} {fs bs : List Ln} (k : WkIs H t F B fs bs) (s : Same H H') : WkIs H' t F B fs bs := ⟨s _ _ k.t, k.f.same s, k.b.same s, k.lf, k.lb⟩
def spNb (P : Program) (w : World) : Sp := fun vs H Q _ => ∃ (t F B : Addr) (fs bs : List Ln), vs = [.ref t] ∧ WkIs H t F B fs bs ∧
  ∀ d ks kvs H', Same H H' → H d = none → DoL P w H H' d ks (nbEv (fs ++ bs)) kvs → (∀ h, h ∈ ks ↔ ∃ e ∈ nbEv (fs ++ bs), e.1 = h) → kvs.length ≤ 280 → Q (.ref d) H'
theorem scNb : FnScope ["work", "neighbours", "one", "other"] ["work"] (defScope sNb) := ⟨rfl, rfl, rfl, by decide +kernel, rfl, by decide +kernel, by decide +kernel⟩
theorem ok_nb {f : Addr} {fd : FuncData} (D : Df K mg "neighbours_by_hole" sNb f fd) : FnOk P w K mg base CX0 1 f fd ["work"] (spNb P w) := by
  refine D.F.ok scNb (fun vs H Q E h => ?_) (fun cdv A outer s H vs Q E hr h => ?_)
  · obtain ⟨t, F, B, fs, bs, rfl, _⟩ := h
    rfl
  · obtain ⟨t, F, B, fs, bs, rfl, wk, z⟩ := h
    refine ⟨_, (pss_cons (ps_set (i := 1) scNb.nd rfl (Or.inl rfl) pe_dnewD)
      (pss_cons (ps_for PassesOwn.never rfl (pi_list (pe_op op_cat (pe_ix ix_tup (pv 0) pe_int (fun _ _ => rfl)) (pe_ix ix_tup (pv 0) pe_int (fun _ _ => rfl)))) (pg_tup rfl (pgs_cons (pg_name (i := 2) scNb.nd rfl (Or.inl rfl)) (pgs_cons (pg_name (i := 3) scNb.nd rfl (Or.inl rfl)) pgs_nil))) (pss_cons (ps_expr (pe_bm PySem.F.plainAttrs_list PySem.F.slot_list_append PySem.F.type_list_append mt_append (pe_bmD PySem.F.slot_dict_setdefault PySem.F.type_dict_setdefault (mt_setDefR hr) (pv 1) (pac (pv 2) (pac (pe_lst pa_nil) pa_nil))) (pac (pv 3) pa_nil)))
      (pss_one (ps_expr (pe_bm PySem.F.plainAttrs_list PySem.F.slot_list_append PySem.F.type_list_append mt_append (pe_bmD PySem.F.slot_dict_setdefault PySem.F.type_dict_setdefault (mt_setDefR hr) (pv 1) (pac (pv 3) (pac (pe_lst pa_nil) pa_nil))) (pac (pv 2) pa_nil))))))
      (pss_one (ps_ret (pv 1))))), ?_⟩
    obtain ⟨et, ⟨fv, eF, dF⟩, ⟨bv, eB, dB⟩, lf, lb⟩ := wk
    have fvl : fv.length = fs.length := by rw [dF.length, List.length_map]
    have bvl : bv.length = bs.length := by rw [dB.length, List.length_map]
    refine fun dA o0 ndA dic0 => ?_
    have S0 := same_upd (o := o0) ndA
    refine ⟨_, rfl, t, _, _, _, rfl, rfl, SqT.of (S0 _ _ et), rfl, _, rfl, t, _, _, _, rfl, rfl, SqT.of (S0 _ _ et), rfl, F, B, fv, bv, rfl, rfl, S0 _ _ eF, S0 _ _ eB, sz (by omega), fun C nC => ?_⟩
    have T3 := same_upd (o := HO.lst (fv ++ bv)) nC
    have dC : DtsIs H (fv ++ bv) ((fs ++ bs).map lnD) := by rw [List.map_append]; exact dapp dF dB
    have S3 := S0.trans T3
    have dic3 := dic0.same T3
    have eC : (upd (upd H dA o0) C (.lst (fv ++ bv))) C = some (.lst (fv ++ bv)) := upd_same
    have nCH : H C = none := none_same S0 nC
    refine ⟨C, rfl, ⟨_, SqL.of upd_same⟩, ?_⟩
    have hl : (fs ++ bs).length ≤ 140 := by rw [List.length_append]; omega
    have xsl : (fv ++ bv).length = (fs ++ bs).length := by rw [dC.length, List.length_map]
    revert S3 dic3 eC
    generalize (upd (upd H dA o0) C (.lst (fv ++ bv))) = H3
    intro S3 dic3 eC
    generalize fv ++ bv = xs at *
    generalize hall : fs ++ bs = all at *
    refine for_list (K := K) (a := C) (xs := xs) (fun i σ H4 => (∃ v2 v3, σ = [some (.ref t), some (.ref dA), v2, v3]) ∧ Same H H4 ∧ H4 C = some (.lst xs) ∧ ∃ ks kvs, DoL P w H H4 dA ks (nbEv (all.take i)) kvs ∧ (∀ h, h ∈ ks ↔ ∃ e ∈ nbEv (all.take i), e.1 = h) ∧ kvs.length ≤ 2 * i ∧ ∀ h r, valV kvs (hD h) = some (.ref r) → r ≠ C)
      ⟨⟨_, _, rfl⟩, S3, eC, [], [], by rw [List.take_zero]; exact DoL.start dic3, by rw [List.take_zero]; exact fun h => ⟨fun z => (nomatch z), fun ⟨_, z, _⟩ => (nomatch z)⟩, Nat.le_refl _, fun h r e => (nomatch e)⟩ (fun i σ H4 _ ⟨_, _, e, _⟩ => SqL.of e) ?_ ?_
    · rintro i x σ H4 hx ⟨⟨v2, v3, rfl⟩, S4, eC4, ks, kvs, D4, mem4, kl, nc4⟩
      obtain ⟨r, x0, y0, a, rfl, ha, er, tx, ty⟩ := ln_at dC hx
      have hi : i < all.length := (List.getElem?_eq_some_iff.mp ha).1
      have tk : all.take (i + 1) = all.take i ++ [a] := by rw [List.take_add_one, ha]; rfl
      refine ⟨r, _, rfl, SqT.of (S4 _ _ er), rfl, _, _, rfl, _, _, rfl, rfl, ?_⟩
      refine ⟨_, rfl, ⟨dA, kvs, rfl, D4.dic⟩, _, rfl, szr rfl, fun L nL => ?_⟩
      have T := same_upd (o := HO.lst []) nL
      have neLC : L ≠ C := fun e => by rw [e, eC4] at nL; cases nL
      refine ⟨dA, x0, hD a.1, kvs, .ref L, rfl, rfl, two_dt (T _ _ (S4 _ _ tx)), by rw [hD_dp1]; decide, D4.dic.same T, by omega, fun u H5 sd => ?_⟩
      obtain ⟨r', ks', kvs', ys, rfl, D5, S5, hk', e5, n5, er5, yl, kl5, cc⟩ := D4.setDef S4 ndA nL sd
      obtain ⟨eC5, nc5⟩ := cc C xs eC4 nc4
      have yl2 : ys.length ≤ 300 := by
        rw [nbEv_len, List.length_take] at yl
        omega
      refine ⟨.inl ⟨rfl, _, SqL.of er5⟩, _, rfl, r', ys, _, rfl, rfl, er5, small1000 (by omega), ?_⟩
      have D6 := D5.app e5 er5 (two_dt (S5 _ _ ty))
      have S6 := same_updN (o := HO.lst (ys ++ [V.ref y0])) S5 n5
      have eC6 : (upd H5 r' (.lst (ys ++ [.ref y0]))) C = some (.lst xs) := by rw [upd_ne (fun e => nc5 _ _ e5 e.symm)]; exact eC5
      revert D6 S6 eC6
      generalize (upd H5 r' (.lst (ys ++ [.ref y0]))) = H6
      intro D6 S6 eC6
      refine ⟨_, rfl, ⟨dA, kvs', rfl, D6.dic⟩, _, rfl, szr rfl, fun M nM => ?_⟩
      have T' := same_upd (o := HO.lst []) nM
      refine ⟨dA, y0, hD a.2, kvs', .ref M, rfl, rfl, two_dt (T' _ _ (S6 _ _ ty)), by rw [hD_dp1]; decide, D6.dic.same T', by omega, fun u' H7 sd' => ?_⟩
      obtain ⟨r'', ks'', kvs'', ys', rfl, D7, S7, hk'', e7, n7, er7, yl', kl7, cc'⟩ := D6.setDef S6 ndA nM sd'
      obtain ⟨eC7, nc7⟩ := cc' C xs eC6 nc5
      have yl3 : ys'.length ≤ 400 := by
        rw [List.length_append, nbEv_len, List.length_take, List.length_singleton] at yl'
        omega
      refine ⟨.inl ⟨rfl, _, SqL.of er7⟩, _, rfl, r'', ys', _, rfl, rfl, er7, small1000 (by omega), ?_⟩
      refine ⟨⟨_, _, rfl⟩, same_updN S7 n7, by rw [upd_ne (fun e => nc7 _ _ e7 e.symm)]; exact eC7, ks'', kvs'', ?_, ?_, by omega, nc7⟩
      · rw [tk, nbEv_snoc]
        exact D7.app e7 er7 (two_dt (S7 _ _ tx))
      · intro g
        rw [hk'', hk', mem4, tk, nbEv_snoc]
        constructor
        · rintro (rfl | rfl | ⟨e, he, ze⟩)
          · exact ⟨_, List.mem_append_right _ (List.mem_singleton.mpr rfl), rfl⟩
          · exact ⟨_, List.mem_append_left _ (List.mem_append_right _ (List.mem_singleton.mpr rfl)), rfl⟩
          · exact ⟨e, List.mem_append_left _ (List.mem_append_left _ he), ze⟩
        · rintro ⟨e, he, ze⟩
          rcases List.mem_append.mp he with he | he
          · rcases List.mem_append.mp he with he | he
            · exact .inr (.inr ⟨e, he, ze⟩)
            · rw [List.mem_singleton.mp he] at ze
              exact .inr (.inl ze.symm)
          · rw [List.mem_singleton.mp he] at ze
            exact .inl ze.symm
    · rintro σ H4 ⟨⟨v2, v3, rfl⟩, S4, eC4, ks, kvs, D4, mem4, kl, _⟩
      rw [List.take_of_length_le (by omega)] at D4 mem4
      subst hall
      exact ⟨_, rfl, z dA ks kvs H4 S4 ndA D4 mem4 (by omega)⟩
end
end K33
namespace K33
open PySem PySem.Spec PyProof.Rows L2 BF
seal L2.PE L2.PA L2.PS L2.PSs L2.PT L2.PW L2.PG L2.PGs L2.PI BF.PTs L2.PPs
structure LeOk (P : Program) (w : World) (H : Hp) (d : Addr) (kvs : List (Dt × V)) (L : Ho → Option Ho) : Prop where
  dic : DicV P w H d kvs
  nd : (kvs.map (·.1)).Nodup
  mem : ∀ e, e ∈ kvs.map (·.1) ↔ ∃ h, L h ≠ none ∧ hD h = e
  val : ∀ h f, L h = some f → ∃ q, valV kvs (hD h) = some (.ref q) ∧ two H q f
section
variable {P : Program} {w : World} {H : Hp} {d : Addr} {kvs : List (Dt × V)} {L : Ho → Option Ho}
theorem LeOk.start (h : DicV P w H d []) : LeOk P w H d [] (fun _ => none) := ⟨h, List.nodup_nil, fun e => ⟨fun z => (nomatch z), fun ⟨_, z, _⟩ => absurd rfl z⟩, fun _ _ z => (nomatch z)⟩
theorem LeOk.same {H' : Hp} (D : LeOk P w H d kvs L) (s : Same H H') : LeOk P w H' d kvs L := ⟨D.dic.same s, D.nd, D.mem, fun h f e => let ⟨q, v, t⟩ := D.val h f e; ⟨q, v, s _ _ t⟩⟩
theorem LeOk.updL {r : Addr} {ys : List V} {o : HO} (D : LeOk P w H d kvs L) (er : H r = some (.lst ys)) : LeOk P w (upd H r o) d kvs L :=
  ⟨D.dic.updL er, D.nd, D.mem, fun h f e => let ⟨q, v, t⟩ := D.val h f e; ⟨q, v, by
    have ne : q ≠ r := fun z => by
      rw [z] at t
      have := t.symm.trans er
      cases this
    show upd H r o q = _
    rw [upd_ne ne]
    exact t⟩⟩
theorem LeOk.isIn (D : LeOk P w H d kvs L) (h : Ho) : hD h ∈ kvs.map (·.1) ↔ L h ≠ none := by
  rw [D.mem]
  constructor
  · rintro ⟨g, n, e⟩
    rw [← hD_inj e]
    exact n
  · exact fun n => ⟨h, n, rfl⟩
theorem LeOk.put {h f : Ho} {q : Addr} {o : HO} (D : LeOk P w H d kvs L) (t : two H q f) (d' : DicV P w (upd H d o) d (putK kvs (hD h) (.ref q))) : LeOk P w (upd H d o) d (putK kvs (hD h) (.ref q)) (setL L h f) := by
  obtain ⟨φ, ext⟩ := D.dic.ext
  have keep : ∀ {q : Addr} {f : Ho}, two H q f → two (upd H d o) q f := fun {q f} t => by
    show upd H d o q = _
    rw [upd_ne (fun z => by
      rw [z] at t
      have := t.symm.trans ext
      cases this)]
    exact t
  refine ⟨d', putK_nd _ _ _ D.nd, fun e => ?_, fun g f' hg => ?_⟩
  · rw [putK_mem, D.mem]
    constructor
    · rintro (rfl | ⟨g, n, rfl⟩)
      · exact ⟨h, by rw [setL_same]; exact Option.some_ne_none _, rfl⟩
      · refine ⟨g, ?_, rfl⟩
        by_cases z : g = h
        · rw [z, setL_same]; exact Option.some_ne_none _
        · rw [setL_ne z]; exact n
    · rintro ⟨g, n, rfl⟩
      by_cases z : g = h
      · rw [z]; exact .inl rfl
      · rw [setL_ne z] at n
        exact .inr ⟨g, n, rfl⟩
  · rw [valV_put]
    by_cases z : g = h
    · subst z
      rw [setL_same] at hg
      rw [if_pos rfl, ← Option.some.inj hg]
      exact ⟨q, rfl, keep t⟩
    · rw [setL_ne z] at hg
      rw [if_neg (fun e => z (hD_inj e))]
      obtain ⟨q', v, t'⟩ := D.val g f' hg
      exact ⟨q', v, keep t'⟩
end
theorem valV_len {kvs : List (Dt × V)} {ks : List Ho} (nd : (kvs.map (·.1)).Nodup) (sub : ∀ e ∈ kvs.map (·.1), ∃ h ∈ ks, hD h = e) : kvs.length ≤ ks.length := by
  have : (kvs.map (·.1)).length ≤ (ks.map hD).length := List.Nodup.length_le_of_subset nd fun e he => by
    obtain ⟨h, hh, z⟩ := sub e he
    exact List.mem_map.mpr ⟨h, hh, z⟩
  rw [List.length_map, List.length_map] at this
  exact this
theorem low_of {hs : List Ho} (srt : (hs.map hD).Pairwise (fun d d' => Dt.blt d' d = false)) {i : Nat} {f g : Ho} (hf : hs[i]? = some f) (hg : g ∈ hs) (hn : g ∉ hs.take i) : Dt.blt (hD g) (hD f) = false := by
  obtain ⟨j, ej⟩ := List.mem_iff_getElem?.mp hg
  obtain ⟨hj, gj⟩ := List.getElem?_eq_some_iff.mp ej
  obtain ⟨hi, gi⟩ := List.getElem?_eq_some_iff.mp hf
  have hji : i ≤ j := by
    rcases Nat.lt_or_ge j i with h | h
    · exact absurd (List.mem_iff_getElem?.mpr ⟨j, by rw [List.getElem?_take, if_pos h]; exact ej⟩) hn
    · exact h
  rcases Nat.lt_or_eq_of_le hji with h | h
  · have := List.pairwise_iff_getElem.mp srt i j (by simpa using hi) (by simpa using hj) h
    rw [List.getElem_map, List.getElem_map, gi, gj] at this
    exact this
  · subst h
    rw [← gi, ← gj]
    exact Dt.irr _
section
variable {P : Program} {w : World} {K : PySem.W.Frag} {mg : Str → Option Value} {base : Heap}
def whI (P : Program) (w : World) (H2 : Hp) (ls : List Ln) (ks : List Ho) (L0 : Ho → Option Ho) (t dN dL wa G qf : Addr) (gv : List V) (f : Ho) (m : Nat) (σ : L2.St) (H5 : Hp) : Prop :=
  ∃ v5 kvs L ws, σ = [some (.ref t), some (.ref dN), some (.ref dL), some (.ref qf), some (.ref wa), v5] ∧ Same H2 H5 ∧ H5 G = some (.lst gv) ∧ LeOk P w H5 dL kvs L ∧ Srch ls f L ws ∧ DtL H5 wa (ws.map hD) ∧ (∀ h ∈ ws, h ∈ ks) ∧ (∀ h, L h ≠ none → h ∈ ks) ∧ (∀ h, L0 h ≠ none → L h ≠ none) ∧ (∀ h g, L h = some g → Dt.blt (hD h) (hD g) = false) ∧
    kvs.length ≤ ks.length ∧ ws.length ≤ 1 + kvs.length * 300 ∧ m = (ks.length - kvs.length) * 1000 + ws.length
def spLeast (P : Program) (w : World) : Sp := fun vs H Q _ => ∃ (t F B : Addr) (fs bs : List Ln), vs = [.ref t] ∧ WkIs H t F B fs bs ∧
  ∀ d kvs L H', Same H H' → H d = none → LeOk P w H' d kvs L → Whole (fs ++ bs) L → (∀ h, L h ≠ none ↔ ∃ a ∈ fs ++ bs, a.1 = h ∨ a.2 = h) → (∀ h g, L h = some g → Dt.blt (hD h) (hD g) = false) → kvs.length ≤ 280 → Q (.ref d) H'
theorem scLeast : FnScope ["work", "neighbours", "least", "first", "waiting", "hole"] ["work"] (defScope sLeast) := ⟨rfl, rfl, rfl, by decide +kernel, rfl, by decide +kernel, by decide +kernel⟩
theorem ok_least {f fN : Addr} {fd fdN : FuncData} (D : Df K mg "least_by_hole" sLeast f fd) (DN : Df K mg "neighbours_by_hole" sNb fN fdN) (bN : Binds K fdN ["work"] []) (GN : FnOk P w K mg base CX0 1 fN fdN ["work"] (spNb P w)) (hsorted : mg "sorted" = none) :
    FnOk P w K mg base CX0 2 f fd ["work"] (spLeast P w) := by
  refine D.F.ok scLeast (fun vs H Q E h => ?_) (fun cdv A outer s H vs Q E hr h => ?_)
  · obtain ⟨t, F, B, fs, bs, rfl, _⟩ := h
    rfl
  · obtain ⟨t, F, B, fs, bs, rfl, wk, z⟩ := h
    refine ⟨_, (pss_cons (ps_set (i := 1) scLeast.nd rfl (Or.inl rfl) (pec GN hr rfl DN.m DN.F.kp bN .nil pass0 (pac (pv 0) pa_nil)))
      (pss_cons (ps_set (i := 2) scLeast.nd rfl (Or.inl rfl) pe_dnewD)
      (pss_cons (ps_for PassesOwn.never rfl (pi_list (pe_callB (call_sortedD hr) (by rfl) hsorted boot_sorted (pac (pv 1) pa_nil))) (pg_name (i := 3) scLeast.nd rfl (Or.inl rfl)) (pss_cons (ps_set (i := 4) scLeast.nd rfl (Or.inl rfl) (pe_lst (pac (pv 3) pa_nil)))
      (pss_one (ps_while PassesOwn.never (pt_truth (pv 4) (fun _ => rfl)) (pss_cons (ps_set (i := 5) scLeast.nd rfl (Or.inl rfl) (pe_bm0 PySem.F.plainAttrs_list PySem.F.slot_list_pop PySem.F.type_list_pop mt_pop (pv 4)))
      (pss_one (ps_if (pt_cmpR (op_notInD hr) (pv 5) (pv 2) rfl) (pss_cons (ps_dputD hr (pv 2) (pv 5) (pv 3) rfl)
      (pss_one (ps_expr (pe_bm PySem.F.plainAttrs_list PySem.F.slot_list_extend PySem.F.type_list_extend mt_extend (pv 4) (pac (pe_dgetD hr (pv 1) (pv 5) (fun _ _ => rfl)) pa_nil))))) pss_nil)))))))
      (pss_one (ps_ret (pv 2)))))), ?_⟩
    have lf := wk.lf
    have lb := wk.lb
    refine ⟨_, rfl, t, F, B, fs, bs, rfl, wk, fun dN ks kvN H1 S1 nN DN1 memN knl => ?_⟩
    have hall : (fs ++ bs).length ≤ 140 := by rw [List.length_append]; omega
    revert DN1 memN z hall
    generalize fs ++ bs = ls
    intro z DN1 memN hall
    refine fun dL o0 ndL dic0 => ?_
    have T1 := same_upd (o := o0) ndL
    have nL0 : H dL = none := none_same S1 ndL
    refine ⟨_, rfl, dN, kvN, "int", rfl, DN1.dic.same T1, fun p hp => ?_, fun p hp p' hp' => ?_, fun G gv es nG dG pe srt => ?_⟩
    · obtain ⟨g, _, e⟩ := (DN1.mem p.1).mp (List.mem_map.mpr ⟨p, hp, rfl⟩)
      exact ⟨_, _, e.symm, rfl⟩
    · obtain ⟨g, _, e⟩ := (DN1.mem p.1).mp (List.mem_map.mpr ⟨p, hp, rfl⟩)
      obtain ⟨g', _, e'⟩ := (DN1.mem p'.1).mp (List.mem_map.mpr ⟨p', hp', rfl⟩)
      rw [← e, ← e']
      exact hD_like _ _
    obtain ⟨hs, rfl⟩ := as_hD (es := es) fun d hd => by
      obtain ⟨g, _, e⟩ := (DN1.mem d).mp (pe.mem_iff.mp hd)
      exact ⟨g, e.symm⟩
    have hnd : hs.Nodup := nodup_of_map (pe.nodup_iff.mpr DN1.nd)
    have hmem : ∀ h, h ∈ hs ↔ h ∈ ks := fun h => by
      constructor
      · intro hh
        obtain ⟨g, hg, e⟩ := (DN1.mem _).mp (pe.mem_iff.mp (List.mem_map.mpr ⟨h, hh, rfl⟩))
        exact hD_inj e ▸ hg
      · intro hh
        obtain ⟨g, hg, e⟩ := List.mem_map.mp (pe.mem_iff.mpr ((DN1.mem (hD h)).mpr ⟨h, hh, rfl⟩))
        exact hD_inj e ▸ hg
    have hsl : hs.length ≤ 280 := by
      have := pe.length_eq
      rw [List.length_map, List.length_map] at this
      omega
    have hadj : ∀ h m, Adj ls h m → m ∈ hs := fun h m ⟨a, ha, q⟩ => (hmem m).mpr ((memN m).mpr (nbEv_mem.mpr (by
      rcases q with ⟨_, q⟩ | ⟨_, q⟩
      · exact ⟨a, ha, .inr q⟩
      · exact ⟨a, ha, .inl q⟩)))
    have gvl : gv.length = hs.length := by rw [dG.length, List.length_map]
    have T2 := same_upd (o := HO.lst gv) nG
    have S2 : Same H1 (upd (upd H1 dL o0) G (.lst gv)) := T1.trans T2
    have eG : (upd (upd H1 dL o0) G (.lst gv)) G = some (.lst gv) := upd_same
    have dG2 := dG.same T2
    have dic2 := dic0.same T2
    have nG1 : H1 G = none := none_same T1 nG
    refine ⟨G, rfl, ⟨_, SqL.of upd_same⟩, ?_⟩
    revert S2 eG dG2 dic2
    generalize (upd (upd H1 dL o0) G (.lst gv)) = H2
    intro S2 eG dG2 dic2
    refine for_list (K := K) (a := G) (xs := gv) (fun i σ H3 => (∃ v3 v4 v5, σ = [some (.ref t), some (.ref dN), some (.ref dL), v3, v4, v5]) ∧ Same H1 H3 ∧ H3 G = some (.lst gv) ∧ DtsIs H3 gv (hs.map hD) ∧ ∃ kvs L, LeOk P w H3 dL kvs L ∧ Whole ls L ∧ (∀ h, L h ≠ none → h ∈ hs) ∧ (∀ h ∈ hs.take i, L h ≠ none) ∧ (∀ h g, L h = some g → Dt.blt (hD h) (hD g) = false) ∧ kvs.length ≤ hs.length)
      ⟨⟨_, _, _, rfl⟩, S2, eG, dG2, [], _, LeOk.start dic2, Whole.nil, fun _ z => absurd rfl z, by rw [List.take_zero]; exact fun _ z => (nomatch z), (fun _ _ z => nomatch z), Nat.zero_le _⟩ (fun i σ H3 _ ⟨_, _, e, _⟩ => SqL.of e) ?_ ?_
    · rintro i x σ H3 hx ⟨⟨v3, v4, v5, rfl⟩, S3, eG3, dG3, kvs, L, le, wh, sub, done, lst, kl⟩
      obtain ⟨q, f, rfl, hh, tq⟩ := th_at dG3 hx
      have hi : i < hs.length := (List.getElem?_eq_some_iff.mp hh).1
      have tk : hs.take (i + 1) = hs.take i ++ [f] := by rw [List.take_add_one, hh]; rfl
      have hf : f ∈ hs := List.mem_of_getElem? hh
      refine ⟨_, rfl, szr rfl, fun wa nw => ?_⟩
      have T3 := same_upd (o := HO.lst [V.ref q]) nw
      have S4 := S3.trans T3
      have nwa : H1 wa = none := none_same S3 nw
      have nGw : G ≠ wa := fun e => by rw [e, nw] at eG3; cases eG3
      have tqw : ∀ {H' : Hp}, Same (upd H3 wa (.lst [V.ref q])) H' → two H' q f := fun s' => s' _ _ (T3 _ _ tq)
      refine ⟨fun m σ H5 => whI P w H1 ls hs L t dN dL wa G q gv f m σ H5 ∧ two H5 q f ∧ DtsIs H5 gv (hs.map hD), ⟨(hs.length - kvs.length) * 1000 + 1, ⟨_, kvs, L, [f], rfl, S4, T3 _ _ eG3, le.same T3, Srch.begin wh f, ⟨_, upd_same, .cons (two_dt (T3 _ _ tq)) .nil⟩, fun h hh' => by rw [List.mem_singleton.mp hh']; exact hf, sub, fun _ n => n, lst, kl, by show 1 ≤ _; omega, rfl⟩, T3 _ _ tq, dG3.same T3⟩, ?_⟩
      rintro m σ H5 ⟨⟨v5, kvs, L', ws, rfl, S5, eG5, le5, sr, ⟨wv, ew, dw⟩, wks, sub5, old, lst5, kl5, wl, rfl⟩, tq5, dG5⟩
      have wvl : wv.length = ws.length := by rw [dw.length, List.length_map]
      refine ⟨_, rfl, _, .inl ⟨wv, SqL.of ew, rfl⟩, ?_⟩
      rcases List.eq_nil_or_concat ws with rfl | ⟨W, h, rfl⟩
      · -- none waits
        have : wv = [] := List.length_eq_zero_iff.mp wvl
        subst this
        refine ifB_neg rfl ?_
        obtain ⟨wh', hn⟩ := sr.done
        refine ⟨⟨_, _, _, rfl⟩, S5, eG5, dG5, kvs, L', le5, wh', sub5, fun g hg => ?_, lst5, kl5⟩
        rw [tk] at hg
        rcases List.mem_append.mp hg with hg | hg
        · exact old g (done g hg)
        · rw [List.mem_singleton.mp hg]
          exact hn
      · rw [List.concat_eq_append] at *
        obtain ⟨us, y, rfl⟩ : ∃ us y, wv = us ++ [y] := by
          rcases List.eq_nil_or_concat wv with rfl | ⟨us, y, rfl⟩
          · rw [List.length_append] at wvl
            exact absurd wvl (by show ¬ (0 = W.length + 1); omega)
          · exact ⟨us, y, List.concat_eq_append ..⟩
        have usl : us.length = W.length := by
          rw [List.length_append, List.length_append] at wvl
          have h1 : ([y] : List V).length = 1 := rfl
          have h2 : ([h] : List Ho).length = 1 := rfl
          omega
        have wl1 : (W ++ [h]).length = W.length + 1 := by rw [List.length_append]; rfl
        obtain ⟨p, g, ey, eg, th⟩ := th_at dw (i := us.length) (v := y) (by simp)
        subst ey
        have egh : g = h := by
          rw [usl] at eg
          simpa using eg.symm
        subst egh
        have dus : DtsIs H5 us (W.map hD) := by
          rw [List.map_append] at dw
          exact dts_init dw (by rw [List.length_map]; exact usl)
        refine ifB_pos (by simp) ?_
        refine ⟨fun σ H6 => ∃ m', m' < (hs.length - kvs.length) * 1000 + (W ++ [g]).length ∧ whI P w H1 ls hs L t dN dL wa G q gv f m' σ H6 ∧ two H6 q f ∧ DtsIs H6 gv (hs.map hD), fun σ' H' n => n, ?_⟩
        refine ⟨_, rfl, .inl ⟨rfl, _, SqL.of ew⟩, wa, _, .ref p, rfl, rfl, ew, by simp, ?_⟩
        rw [List.dropLast_concat]
        have upW : ∀ {c : Addr} {v : HO} {o : HO}, H5 c = some v → c ≠ wa → (upd H5 wa o) c = some v := fun {c v o} hc hne => by rw [upd_ne hne]; exact hc
        have neT : ∀ {c : Addr} {k : Ho}, two H5 c k → c ≠ wa := fun {c k} tc e => by
          rw [e] at tc
          have := tc.symm.trans ew
          cases this
        have le6 := le5.updL (o := .lst us) ew
        have S6 := same_updN (o := HO.lst us) S5 nwa
        have eG6 : (upd H5 wa (.lst us)) G = some (.lst gv) := upW eG5 nGw
        have th6 : two (upd H5 wa (.lst us)) p g := upW th (neT th)
        have tq6 : two (upd H5 wa (.lst us)) q f := upW tq5 (neT tq5)
        have dG6 := dG5.updL (o := .lst us) ew
        have ew6 : (upd H5 wa (.lst us)) wa = some (.lst us) := upd_same
        have dw6 := dus.updL (o := .lst us) ew
        revert le6 S6 eG6 th6 tq6 dG6 ew6 dw6
        generalize (upd H5 wa (.lst us)) = H6
        intro le6 S6 eG6 th6 tq6 dG6 ew6 dw6
        obtain ⟨xsL, dicL, kdL⟩ := id le6.dic
        refine ⟨_, rfl, _, rfl, p, dL, hD g, xsL, rfl, rfl, two_dt th6, by rw [hD_dp1]; decide, dicL, _, rfl, ?_⟩
        have key : decide (hD g ∈ xsL.map (·.1)) = decide (L' g ≠ none) := by
          rw [← kdL.keys]
          exact decide_eq_decide.mpr (le6.isIn g)
        rw [key]
        cases hL : L' g with
        | some c =>
          refine ifB_neg (by rw [decide_eq_true (Option.some_ne_none c)]; rfl) ?_
          refine ⟨(hs.length - kvs.length) * 1000 + W.length, by omega, ⟨_, kvs, L', W, rfl, S6, eG6, le6, sr.skip (by rw [hL]; exact Option.some_ne_none c), ⟨us, ew6, dw6⟩, fun h hh' => wks h (List.mem_append_left _ hh'), sub5, old, lst5, kl5, by omega, rfl⟩, tq6, dG6⟩
        | none =>
          refine ifB_pos (by rw [decide_eq_false (fun n => n rfl)]; rfl) ?_
          have gks : g ∈ hs := wks g (by simp)
          have kl6 : kvs.length + 1 ≤ hs.length := by
            have nd' := putK_nd kvs (hD g) (.ref q) le6.nd
            have := valV_len (kvs := putK kvs (hD g) (.ref q)) (ks := hs) nd' fun e he => by
              rcases (putK_mem _ _ _ e).mp he with rfl | he
              · exact ⟨g, gks, rfl⟩
              · obtain ⟨h', n', e'⟩ := (le6.mem e).mp he
                exact ⟨h', sub5 h' n', e'⟩
            have hv : valV kvs (hD g) = none := by
              cases hv : valV kvs (hD g) with
              | none => rfl
              | some u => exact absurd hL ((le6.isIn g).mp (valV_in hv))
            have pl : (putK kvs (hD g) (.ref q)).length = kvs.length + 1 := by
              unfold putK
              rw [if_neg (by rw [valV_any, hv]; exact Bool.false_ne_true), List.length_append]
              rfl
            omega
          refine ⟨_, rfl, _, rfl, _, rfl, dL, p, hD g, kvs, rfl, rfl, two_dt th6, by rw [hD_dp1]; decide, le6.dic, by omega, fun o' dic' => ?_⟩
          have le7 := le6.put tq6 dic'
          obtain ⟨φ, ext⟩ := le6.dic.ext
          have upX : ∀ {c : Addr} {v : HO}, H6 c = some v → (∀ ψ, v ≠ .ext ψ) → (upd H6 dL o') c = some v := fun {c v} hc hv => by
            rw [upd_ne (fun e => by rw [e, ext] at hc; exact hv φ (Option.some.inj hc).symm)]
            exact hc
          have S7 := same_updN (o := o') S6 ndL
          have eG7 := upX eG6 (fun _ zz => nomatch zz)
          have th7 : two (upd H6 dL o') p g := upX th6 (fun _ zz => nomatch zz)
          have tq7 : two (upd H6 dL o') q f := upX tq6 (fun _ zz => nomatch zz)
          have dG7 := dG6.updX (o := o') ext
          have ew7 := upX ew6 (fun _ zz => nomatch zz)
          have dw7 := dw6.updX (o := o') ext
          have pl : (putK kvs (hD g) (.ref q)).length = kvs.length + 1 := by
            have hv : valV kvs (hD g) = none := by
              cases hv : valV kvs (hD g) with
              | none => rfl
              | some u => exact absurd hL ((le6.isIn g).mp (valV_in hv))
            unfold putK
            rw [if_neg (by rw [valV_any, hv]; exact Bool.false_ne_true), List.length_append]
            rfl
          revert le7 S7 eG7 th7 tq7 dG7 ew7 dw7
          generalize (upd H6 dL o') = H7
          intro le7 S7 eG7 th7 tq7 dG7 ew7 dw7
          obtain ⟨r, nv, vN, eN, dNv⟩ := (DN1.same S7).get ((hmem g).mp gks)
          rw [atH_nb] at dNv
          have nvl : nv.length = (nbOf ls g).length := by rw [dNv.length, List.length_map]
          have nbl := nbOf_len ls g
          refine ⟨_, rfl, .inl ⟨rfl, _, SqL.of ew7⟩, _, rfl, _, rfl, dN, p, hD g, kvN, .ref r, rfl, rfl, two_dt th7, by rw [hD_dp1]; decide, (DN1.same S7).dic, vN, ?_⟩
          have kb : kvs.length * 300 ≤ 280 * 300 := Nat.mul_le_mul_right _ (by omega)
          have nrw : r ≠ wa := fun e => by
            obtain ⟨r', nv', vN', eN', _⟩ := DN1.get ((hmem g).mp gks)
            rw [vN] at vN'
            cases vN'
            rw [e, nwa] at eN'
            cases eN'
          refine ⟨wa, r, us, nv, rfl, rfl, ew7, eN, by rw [sizeLine_eq]; omega, ?_⟩
          have neT7 : ∀ {c : Addr} {k : Ho}, two H7 c k → c ≠ wa := fun {c k} tc e => by
            rw [e] at tc
            have := tc.symm.trans ew7
            cases this
          refine ⟨(hs.length - (putK kvs (hD g) (.ref q)).length) * 1000 + (W ++ nbOf ls g).length, ?_, ⟨_, _, _, W ++ nbOf ls g, rfl, same_updN S7 nwa, by rw [upd_ne nGw]; exact eG7, le7.updL ew7, sr.add hL (fun k => nbOf_mem), ⟨_, upd_same, ?_⟩, fun k hk => ?_, fun k hk => ?_, fun k hk => ?_, fun k g' hk => ?_, by omega, ?_, rfl⟩, ?_, dG7.updL ew7⟩
          · rw [List.length_append, wl1, pl]
            have : hs.length - kvs.length = (hs.length - (kvs.length + 1)) + 1 := by omega
            rw [this, Nat.add_mul]
            omega
          · rw [List.map_append]
            exact (dapp dw7 dNv).updL ew7
          · rcases List.mem_append.mp hk with hk | hk
            · exact wks k (List.mem_append_left _ hk)
            · exact hadj g k (nbOf_mem.mp hk)
          · by_cases zk : k = g
            · rw [zk]; exact gks
            · rw [setL_ne zk] at hk
              exact sub5 k hk
          · by_cases zk : k = g
            · rw [zk, setL_same]; exact Option.some_ne_none _
            · rw [setL_ne zk]
              exact old k hk
          · by_cases zk : k = g
            · rw [zk, setL_same] at hk
              rw [zk, ← Option.some.inj hk]
              exact low_of srt hh gks fun hm => absurd hL (old g (done g hm))
            · rw [setL_ne zk] at hk
              exact lst5 k g' hk
          · rw [List.length_append, pl, Nat.add_mul]
            omega
          · show upd H7 wa _ q = _
            rw [upd_ne (neT7 tq7)]
            exact tq7
    · rintro σ H3 ⟨⟨v3, v4, v5, rfl⟩, S3, eG3, dG3, kvs, L, le, wh, sub, done, lst, kl⟩
      rw [List.take_of_length_le (by omega)] at done
      refine ⟨_, rfl, z dL kvs L H3 (S1.trans S3) nL0 le wh (fun h => ?_) lst (by omega)⟩
      rw [← nbEv_mem, ← memN, ← hmem]
      exact ⟨sub h, done h⟩
end
end K33
namespace K33
open PySem PySem.Spec PyProof.Rows L2 BF
seal L2.PE L2.PA L2.PS L2.PSs L2.PT L2.PW L2.PG L2.PGs L2.PI BF.PTs L2.PPs
mutual
theorem DtIs.keep {H H' : Hp} (k : ∀ a xs, H a = some (.tup xs) → H' a = some (.tup xs)) : ∀ {d : Dt} {v : V}, DtIs H v d → DtIs H' v d
  | .int i, _, .int _ => .int i
  | .str x, _, .str _ => .str x
  | .tup ds, _, .tup e q => .tup (k _ _ e) (DtsIs.keep k q)
theorem DtsIs.keep {H H' : Hp} (k : ∀ a xs, H a = some (.tup xs) → H' a = some (.tup xs)) : ∀ {ds : List Dt} {vs : List V}, DtsIs H vs ds → DtsIs H' vs ds
  | [], _, .nil => .nil
  | d :: ds, _, .cons q t => .cons (DtIs.keep k q) (DtsIs.keep k t)
end
theorem Roo.tups {H H' : Hp} {r : Addr} {t : Nat} (h : Roo H r t) (s : Sb r H H') : ∀ a xs, H a = some (.tup xs) → H' a = some (.tup xs) := fun a xs e => s a _ (h.ne e (fun _ zz => nomatch zz)) e
theorem Roo.lsts {H H' : Hp} {r : Addr} {t : Nat} (h : Roo H r t) (s : Sb r H H') {a : Addr} {xs : List V} (e : H a = some (.lst xs)) : H' a = some (.lst xs) := s a _ (h.ne e (fun _ zz => nomatch zz)) e
theorem dicv_sb {P : Program} {w : World} {H H' : Hp} {r b : Addr} {t : Nat} {kvs : List (Dt × V)} (d : DicV P w H b kvs) (h : Roo H r t) (s : Sb r H H') : DicV P w H' b kvs := by
  obtain ⟨xs, dic, kd⟩ := d
  exact ⟨xs, ⟨s _ _ (h.ne dic.at_ (fun _ zz => nomatch zz)) dic.at_, dic.sys, dic.len, fun x hx => ⟨DtIs.keep (h.tups s) (dic.key x hx).1, (dic.key x hx).2⟩⟩, kd⟩
theorem dicv_updX {P : Program} {w : World} {H : Hp} {a b : Addr} {kvs : List (Dt × V)} {φ : Heap → Prop} {o : HO} (d : DicV P w H b kvs) (ha : H a = some (.ext φ)) (ne : b ≠ a) : DicV P w (upd H a o) b kvs := by
  obtain ⟨xs, dic, kd⟩ := d
  refine ⟨xs, ⟨by rw [upd_ne ne]; exact dic.at_, dic.sys, dic.len, fun x hx => ⟨DtIs.updX ha (dic.key x hx).1, (dic.key x hx).2⟩⟩, kd⟩
theorem Roo.updX {H : Hp} {r a : Addr} {t : Nat} {φ : Heap → Prop} {o : HO} (h : Roo H r t) (e : H a = some (.ext φ)) : Roo (upd H a o) r t := by
  obtain ⟨l, a', c, cs, er, ec, h1, h2, h3⟩ := h
  exact ⟨l, a', c, cs, by rw [upd_ne (fun z => by rw [z, e] at er; cases er)]; exact er, by rw [upd_ne (fun z => by rw [z, e] at ec; cases ec)]; exact ec, h1, h2, h3⟩
section
variable {P : Program} {w : World} {K : PySem.W.Frag} {mg : Str → Option Value} {base : Heap}
def spFar : Sp := fun vs H Q _ => ∃ (r : Addr) (t : Nat), vs = [.ref r] ∧ t ≤ 90000 ∧ Roo H r t ∧ ∀ (f : Int) H', Sb r H H' → Roo H' r (t + 1) → Q (.int f) H'
theorem scFar : FnScope ["_law_room_here"] ["_law_room_here"] (defScope sFar) := ⟨rfl, rfl, rfl, by decide +kernel, rfl, by decide +kernel, by decide +kernel⟩
theorem ok_far {f fT : Addr} {fd fdT : FuncData} (D : Df K mg "_law_far" sFar f fd) (DT : Df K mg "_law_take" sTake fT fdT) (bT : Binds K fdT ["_law_room_here", "_law_many"] []) (GT : FnOk P w K mg base CX0 1 fT fdT ["_law_room_here", "_law_many"] spTake) : FnOk P w K mg base CX0 2 f fd ["_law_room_here"] spFar := by
  refine D.F.ok scFar (fun vs H Q E h => ?_) (fun cdv A outer s H vs Q E hr h => ?_)
  · obtain ⟨r, t, rfl, _⟩ := h
    rfl
  · obtain ⟨r, t, rfl, ht, ro, z⟩ := h
    refine ⟨_, (pss_one (ps_ret (pe_ix ix_list (pe_lst (pac (pe_int) (pac (pe_int) (pac (pe_int) (pac (pe_op op_sub pe_p9 pe_int) (pac (pe_op op_sub pe_int pe_p9) pa_nil)))))) (pec GT hr rfl DT.m DT.F.kp bT .nil pass0 (pac (pv 0) (pac (pe_int) pa_nil))) (fun _ _ => rfl)))), ?_⟩
    refine ⟨_, _, rfl, rfl, _, _, rfl, rfl, szr rfl, fun l nl => ?_⟩
    have T := same_upd (o := HO.lst [V.int 0, .int 0, .int 0, .int (1000000000 - 12), .int (12 - 1000000000)]) nl
    refine ⟨_, rfl, r, 5, t, rfl, by decide, by decide, by omega, ro.same T, fun n H1 hn s1 ro1 => ?_⟩
    have el := (ro.same T).lsts s1 (a := l) upd_same
    have ix : ∃ d, atI [V.int 0, .int 0, .int 0, .int (1000000000 - 12), .int (12 - 1000000000)] (n : Int) = some (.int d) := by
      have h5 : n = 0 ∨ n = 1 ∨ n = 2 ∨ n = 3 ∨ n = 4 := by omega
      rcases h5 with rfl | rfl | rfl | rfl | rfl <;> exact ⟨_, rfl⟩
    obtain ⟨d, hd⟩ := ix
    exact ⟨l, _, _, _, rfl, rfl, SqL.of el, hd, z d _ ((Sb.of T).trans s1) ro1⟩
def spEnds : Sp := fun vs H Q _ => ∃ (r : Addr) (f : Int) (t : Nat), vs = [.ref r, .int f] ∧ t ≤ 90000 ∧ Roo H r t ∧ ∀ (e : Addr) (a : Ln) H', Sb r H H' → Roo H' r (t + 7) → DtIs H' (.ref e) (lnD a) → Q (.ref e) H'
theorem scEnds : FnScope ["_law_room_here", "_law_far_here", "_law_x", "_law_y", "_law_east", "_law_north"] ["_law_room_here", "_law_far_here"] (defScope sEnds) := ⟨rfl, rfl, rfl, by decide +kernel, rfl, by decide +kernel, by decide +kernel⟩
theorem ok_ends {f fT : Addr} {fd fdT : FuncData} (D : Df K mg "_law_ends" sEnds f fd) (DT : Df K mg "_law_take" sTake fT fdT) (bT : Binds K fdT ["_law_room_here", "_law_many"] []) (GT : FnOk P w K mg base CX0 1 fT fdT ["_law_room_here", "_law_many"] spTake) : FnOk P w K mg base CX0 2 f fd ["_law_room_here", "_law_far_here"] spEnds := by
  refine D.F.ok scEnds (fun vs H Q E h => ?_) (fun cdv A outer s H vs Q E hr h => ?_)
  · obtain ⟨r, f, t, rfl, _⟩ := h
    rfl
  · obtain ⟨r, f, t, rfl, ht, ro, z⟩ := h
    refine ⟨_, (pss_cons (ps_set (i := 2) scEnds.nd rfl (Or.inl rfl) (pe_op op_add (pec GT hr rfl DT.m DT.F.kp bT .nil pass0 (pac (pv 0) (pac (pe_int) pa_nil))) (pv 1)))
      (pss_cons (ps_set (i := 3) scEnds.nd rfl (Or.inl rfl) (pe_op op_sub (pec GT hr rfl DT.m DT.F.kp bT .nil pass0 (pac (pv 0) (pac (pe_int) pa_nil))) (pv 1)))
      (pss_cons (ps_set (i := 4) scEnds.nd rfl (Or.inl rfl) (pe_op op_sub (pec GT hr rfl DT.m DT.F.kp bT .nil pass0 (pac (pv 0) (pac (pe_int) pa_nil))) pe_int))
      (pss_cons (ps_set (i := 5) scEnds.nd rfl (Or.inl rfl) (pe_op op_sub (pec GT hr rfl DT.m DT.F.kp bT .nil pass0 (pac (pv 0) (pac (pe_int) pa_nil))) pe_int))
      (pss_cons (ps_if (pt_cmpR op_eq (pec GT hr rfl DT.m DT.F.kp bT .nil pass0 (pac (pv 0) (pac (pe_int) pa_nil))) pe_int (nomark _)) (pss_cons (ps_set (i := 4) scEnds.nd rfl (Or.inl rfl) (pe_op op_sub (pec GT hr rfl DT.m DT.F.kp bT .nil pass0 (pac (pv 0) (pac (pe_int) pa_nil))) pe_int))
      (pss_one (ps_set (i := 5) scEnds.nd rfl (Or.inl rfl) (pe_op op_sub (pec GT hr rfl DT.m DT.F.kp bT .nil pass0 (pac (pv 0) (pac (pe_int) pa_nil))) pe_int)))) pss_nil)
      (pss_cons (ps_if (PW.pt (pw_and (pt_cmpR op_eq (pv 4) pe_int (nomark _)) (pw_and1 (pt_cmpR op_eq (pv 5) pe_int (nomark _))))) (pss_one (ps_set (i := 4) scEnds.nd rfl (Or.inl rfl) pe_int)) pss_nil)
      (pss_cons (ps_if (PW.pt (pw_or (pt_cmpR op_lt (pv 4) pe_int (nomark _)) (pw_or1 (PW.pt (pw_and (pt_cmpR op_eq (pv 4) pe_int (nomark _)) (pw_and1 (pt_cmpR op_lt (pv 5) pe_int (nomark _)))))))) (pss_one (ps_ret (pe_tup (pac (pe_tup (pac (pe_op op_add (pv 2) (pv 4)) (pac (pe_op op_add (pv 3) (pv 5)) pa_nil))) (pac (pe_tup (pac (pv 2) (pac (pv 3) pa_nil))) pa_nil))))) pss_nil)
      (pss_one (ps_ret (pe_tup (pac (pe_tup (pac (pv 2) (pac (pv 3) pa_nil))) (pac (pe_tup (pac (pe_op op_add (pv 2) (pv 4)) (pac (pe_op op_add (pv 3) (pv 5)) pa_nil))) pa_nil)))))))))))), ?_⟩
    refine ⟨_, rfl, r, 4, t, rfl, by decide, by decide, by omega, ro, fun n1 H1 _ s1 ro1 => ⟨_, rfl, _, _, rfl, rfl, ?_⟩⟩
    refine ⟨_, rfl, r, 4, t + 1, rfl, by decide, by decide, by omega, ro1, fun n2 H2 _ s2 ro2 => ⟨_, rfl, _, _, rfl, rfl, ?_⟩⟩
    refine ⟨_, rfl, r, 5, t + 2, rfl, by decide, by decide, by omega, ro2, fun n3 H3 _ s3 ro3 => ⟨_, _, rfl, rfl, ?_⟩⟩
    refine ⟨_, rfl, r, 5, t + 3, rfl, by decide, by decide, by omega, ro3, fun n4 H4 _ s4 ro4 => ⟨_, _, rfl, rfl, ?_⟩⟩
    have s04 := ((s1.trans s2).trans s3).trans s4
    refine' laterS (fun σ H5 => ∃ x y e o : Int, σ = [some (.ref r), some (.int f), some (.int x), some (.int y), some (.int e), some (.int o)] ∧ Sb r H H5 ∧ Roo H5 r (t + 7)) (fun fin => _) _
    rotate_left
    · refine ⟨_, rfl, r, 8, t + 4, rfl, by decide, by decide, by omega, ro4, fun n5 H5 _ s5 ro5 => ⟨rfl, _, rfl, ifC (fun _ => ?_) (fun _ => fin _ _ ⟨_, _, _, _, rfl, s04.trans s5, ro5.mono (by omega)⟩)⟩⟩
      refine ⟨_, rfl, r, 19, t + 5, rfl, by decide, by decide, by omega, ro5, fun n6 H6 _ s6 ro6 => ⟨_, _, rfl, rfl, ?_⟩⟩
      refine ⟨_, rfl, r, 19, t + 6, rfl, by decide, by decide, by omega, ro6, fun n7 H7 _ s7 ro7 => ⟨_, _, rfl, rfl, ?_⟩⟩
      exact fin _ _ ⟨_, _, _, _, rfl, ((s04.trans s5).trans s6).trans s7, ro7⟩
    rintro σ H5 ⟨x, y, e, o, rfl, s5, ro5⟩
    refine' laterS (fun σ H6 => ∃ e : Int, σ = [some (.ref r), some (.int f), some (.int x), some (.int y), some (.int e), some (.int o)] ∧ H6 = H5) (fun fin => _) _
    rotate_left
    · refine ⟨_, rfl, rfl, _, rfl, ifC (fun _ => ?_) (fun _ => iteF (fin _ _ ⟨e, rfl, rfl⟩))⟩
      exact ⟨_, rfl, rfl, _, rfl, ifC (fun _ => fin _ _ ⟨1, rfl, rfl⟩) (fun _ => fin _ _ ⟨e, rfl, rfl⟩)⟩
    rintro σ H6 ⟨e, rfl, rfl⟩
    have A1 : (tTup (tCons (tTup (tCons (tOp (rI0 fun i j => V.int (i + j)) (tVar 2) (tVar 4)) (tCons (tOp (rI0 fun i j => V.int (i + j)) (tVar 3) (tVar 5)) tNil))) (tCons (tTup (tCons (tVar 2) (tCons (tVar 3) tNil))) tNil))) [some (.ref r), some (.int f), some (.int x), some (.int y), some (.int e), some (.int o)] H6 Q := by
      refine ⟨_, rfl, _, rfl, _, _, rfl, rfl, _, rfl, _, rfl, _, _, rfl, rfl, szr rfl, fun q1 n1 => ⟨_, rfl, _, rfl, szr rfl, fun q2 n2 => ⟨szr rfl, fun r' nr => ?_⟩⟩⟩
      have T1 := same_upd (o := HO.tup [V.int (x + e), .int (y + o)]) n1
      have T2 := same_upd (o := HO.tup [V.int x, .int y]) n2
      have T3 := same_upd (o := HO.tup [V.ref q1, .ref q2]) nr
      exact z r' ((x + e, y + o), (x, y)) _ (s5.trans (Sb.of ((T1.trans T2).trans T3))) (ro5.same ((T1.trans T2).trans T3)) (.tup upd_same (.cons (two_dt (T3 _ _ (T2 _ _ upd_same))) (.cons (two_dt (T3 _ _ upd_same)) .nil)))
    have A2 : (tTup (tCons (tTup (tCons (tVar 2) (tCons (tVar 3) tNil))) (tCons (tTup (tCons (tOp (rI0 fun i j => V.int (i + j)) (tVar 2) (tVar 4)) (tCons (tOp (rI0 fun i j => V.int (i + j)) (tVar 3) (tVar 5)) tNil))) tNil))) [some (.ref r), some (.int f), some (.int x), some (.int y), some (.int e), some (.int o)] H6 Q := by
      refine ⟨_, rfl, _, rfl, szr rfl, fun q2 n2 => ⟨_, rfl, _, rfl, _, _, rfl, rfl, _, rfl, _, rfl, _, _, rfl, rfl, szr rfl, fun q1 n1 => ⟨szr rfl, fun r' nr => ?_⟩⟩⟩
      have T2 := same_upd (o := HO.tup [V.int x, .int y]) n2
      have T1 := same_upd (o := HO.tup [V.int (x + e), .int (y + o)]) n1
      have T3 := same_upd (o := HO.tup [V.ref q2, .ref q1]) nr
      exact z r' ((x, y), (x + e, y + o)) _ (s5.trans (Sb.of ((T2.trans T1).trans T3))) (ro5.same ((T2.trans T1).trans T3)) (.tup upd_same (.cons (two_dt (T3 _ _ (T1 _ _ upd_same))) (.cons (two_dt (T3 _ _ upd_same)) .nil)))
    refine ⟨_, rfl, _, _, rfl, rfl, _, rfl, ifC (fun _ => A1) (fun _ => ?_)⟩
    refine ⟨_, rfl, rfl, _, rfl, ifC (fun _ => ?_) (fun _ => A2)⟩
    exact ⟨_, rfl, _, _, rfl, rfl, _, rfl, ifC (fun _ => A1) (fun _ => A2)⟩
def LsK (ls : List Ln) : Prop := ls.length ≤ 61 ∧ (ls.map lnD).Pairwise (fun d d' => Dt.blt d' d = false)
def LnK (kvs : List (Dt × V)) : Prop := ∀ p ∈ kvs, ∃ a : Ln, p.1 = lnD a
theorem LnK.put {kvs : List (Dt × V)} (h : LnK kvs) (a : Ln) (v : V) : LnK (putK kvs (lnD a) v) := fun p hp => by
  have hm : p.1 ∈ (putK kvs (lnD a) v).map (·.1) := List.mem_map.mpr ⟨p, hp, rfl⟩
  rcases (putK_mem kvs (lnD a) v p.1).mp hm with e | e
  · exact ⟨a, e⟩
  · obtain ⟨q, hq, e'⟩ := List.mem_map.mp e
    obtain ⟨b, hb⟩ := h q hq
    exact ⟨b, by rw [← e']; exact hb⟩
theorem as_lnD : ∀ {es : List Dt}, (∀ d ∈ es, ∃ a : Ln, d = lnD a) → ∃ ls : List Ln, es = ls.map lnD
  | [], _ => ⟨[], rfl⟩
  | d :: es, h => by
    obtain ⟨ls, e⟩ := as_lnD (es := es) fun x hx => h x (List.mem_cons_of_mem _ hx)
    obtain ⟨a, ha⟩ := h d (List.mem_cons_self ..)
    exact ⟨a :: ls, by rw [e, ha]; rfl⟩
def Rw2 (H : Hp) (L : Addr) (ys : List V) (i : Nat) : Prop := ∃ rows : List (Addr × List Ln), rows.length = i ∧ ys = rows.map (fun r => V.ref r.1) ∧ ∀ r ∈ rows, r.1 ≠ L ∧ DtL H r.1 (r.2.map lnD) ∧ LsK r.2
def spWork : Sp := fun vs H Q _ => ∃ (r : Addr) (t : Nat), vs = [.ref r] ∧ t ≤ 1000 ∧ Roo H r t ∧
  ∀ (R F B : Addr) (fs bs : List Ln) H', Sb r H H' → H' R = some (.lst [.ref F, .ref B]) → DtL H' F (fs.map lnD) → DtL H' B (bs.map lnD) → LsK fs → LsK bs → Q (.ref R) H'
def wk0 (P : Program) (w : World) (H : Hp) (r Lf d0 d1 : Addr) (u i : Nat) (H6 : Hp) : Prop := (∀ a v, a ≠ r → H a = some v → H6 a = some v) ∧ Roo H6 r u ∧ H6 Lf = some (.lst [.ref d0, .ref d1]) ∧ ∃ k0 k1, DicV P w H6 d0 k0 ∧ DicV P w H6 d1 k1 ∧ LnK k0 ∧ LnK k1 ∧ k0.length ≤ i ∧ k1.length ≤ i
theorem scWork : FnScope ["_law_room_here", "_law_far_here", "_law_fields", "_law_faces", "_law_j", "_law_one", "_law_other", "_law_off", "_law_higher", "_law_side", "_law_k"] ["_law_room_here"] (defScope sWork) := ⟨rfl, rfl, rfl, by decide +kernel, rfl, by decide +kernel, by decide +kernel⟩
theorem sign_at (b : Bool) : ∃ s : Int, atI [V.int 1, .int (-1)] (if b then 1 else 0) = some (.int s) ∧ (s = 1 ∨ s = -1) := by
  cases b
  · exact ⟨1, rfl, .inl rfl⟩
  · exact ⟨-1, rfl, .inr rfl⟩
theorem ok_work {f fT fF fE : Addr} {fd fdT fdF fdE : FuncData} (D : Df K mg "_law_work" sWork f fd)
    (DT : Df K mg "_law_take" sTake fT fdT) (bT : Binds K fdT ["_law_room_here", "_law_many"] []) (GT : FnOk P w K mg base CX0 1 fT fdT ["_law_room_here", "_law_many"] spTake)
    (DF : Df K mg "_law_far" sFar fF fdF) (bF : Binds K fdF ["_law_room_here"] []) (GF : FnOk P w K mg base CX0 2 fF fdF ["_law_room_here"] spFar)
    (DE : Df K mg "_law_ends" sEnds fE fdE) (bE : Binds K fdE ["_law_room_here", "_law_far_here"] []) (GE : FnOk P w K mg base CX0 2 fE fdE ["_law_room_here", "_law_far_here"] spEnds)
    (hrange : mg "range" = none) (hsorted : mg "sorted" = none) (hint : mg "int" = none) : FnOk P w K mg base CX0 3 f fd ["_law_room_here"] spWork := by
  refine D.F.ok scWork (fun vs H Q E h => ?_) (fun cdv A outer s H vs Q E hr h => ?_)
  · obtain ⟨r, t, rfl, _⟩ := h
    rfl
  · obtain ⟨r, t, rfl, ht, ro, z⟩ := h
    have hr1 : Room 1 _ := hr.mono (by decide)
    refine ⟨_, (pss_cons (ps_set (i := 1) scWork.nd rfl (Or.inl rfl) (pec GF hr rfl DF.m DF.F.kp bF .nil pass0 (pac (pv 0) pa_nil)))
      (pss_cons (ps_set (i := 2) scWork.nd rfl (Or.inl rfl) (pe_cmpR op_eq (pec GT hr1 rfl DT.m DT.F.kp bT .nil pass0 (pac (pv 0) (pac (pe_int) pa_nil))) pe_int (nomark _)))
      (pss_cons (ps_set (i := 3) scWork.nd rfl (Or.inl rfl) (pe_lst (pac (pe_dnewD) (pac (pe_dnewD) pa_nil))))
      (pss_cons (ps_for PassesOwn.never rfl (pi_range1 rfl hrange (pac (pec GT hr1 rfl DT.m DT.F.kp bT .nil pass0 (pac (pv 0) (pac (pe_int) pa_nil))) pa_nil)) (pg_name (i := 4) scWork.nd rfl (Or.inl rfl)) (pss_cons (ps_asg (pec GE hr rfl DE.m DE.F.kp bE .nil pass0 (pac (pv 0) (pac (pv 1) pa_nil))) (pg_tup rfl (pgs_cons (pg_name (i := 5) scWork.nd rfl (Or.inl rfl)) (pgs_cons (pg_name (i := 6) scWork.nd rfl (Or.inl rfl)) pgs_nil))))
      (pss_cons (ps_if (pt_val (pv 2)) (pss_cons (ps_set (i := 7) scWork.nd rfl (Or.inl rfl) (pe_op op_mul (pe_op op_mul (pec GT hr1 rfl DT.m DT.F.kp bT .nil pass0 (pac (pv 0) (pac (pe_int) pa_nil))) pe_int) (pe_ix ix_list (pe_lst (pac (pe_int) (pac (pe_un un_neg pe_int) pa_nil))) (pe_callTy call_int1 (by rfl) hint boot_int (pac (pe_cmpR op_gt (pv 1) pe_int (nomark _)) pa_nil)) (fun _ _ => rfl))))
      (pss_cons (ps_set (i := 8) scWork.nd rfl (Or.inl rfl) (pe_op op_mul (pe_op op_mod (pv 7) pe_int) (pe_ix ix_list (pe_lst (pac (pe_int) (pac (pe_un un_neg pe_int) pa_nil))) (pe_callTy call_int1 (by rfl) hint boot_int (pac (pe_cmpR op_lt (pv 1) pe_int (nomark _)) pa_nil)) (fun _ _ => rfl))))
      (pss_cons (ps_set (i := 5) scWork.nd rfl (Or.inl rfl) (pe_tup (pac (pe_op op_add (pe_ix ix_tup (pv 5) pe_int (fun _ _ => rfl)) (pv 7)) (pac (pe_op op_add (pe_ix ix_tup (pv 5) pe_int (fun _ _ => rfl)) (pv 8)) pa_nil))))
      (pss_one (ps_set (i := 6) scWork.nd rfl (Or.inl rfl) (pe_tup (pac (pe_op op_add (pe_ix ix_tup (pv 6) pe_int (fun _ _ => rfl)) (pv 7)) (pac (pe_op op_add (pe_ix ix_tup (pv 6) pe_int (fun _ _ => rfl)) (pv 8)) pa_nil)))))))) pss_nil)
      (pss_cons (ps_set (i := 9) scWork.nd rfl (Or.inl rfl) (pec GT hr1 rfl DT.m DT.F.kp bT .nil pass0 (pac (pv 0) (pac (pe_int) pa_nil))))
      (pss_one (ps_for PassesOwn.never rfl (pi_range1 rfl hrange (pac (pe_int) pa_nil)) (pg_name (i := 10) scWork.nd rfl (Or.inl rfl)) (pss_one (ps_if (PW.pt (pw_or (pt_cmpR op_eq (pe_op op_mod (pv 9) pe_int) (pv 10) (nomark _)) (pw_or1 (pt_cmpR op_gt (pv 9) pe_int (nomark _))))) (pss_one (ps_dputD hr1 (pe_ix ix_list (pv 3) (pv 10) (fun _ _ => rfl)) (pe_tup (pac (pv 5) (pac (pv 6) pa_nil))) pe_bl rfl)) pss_nil))))))))
      (pss_one (ps_ret (pe_comp (N' := ["_law_face"]) (idx := [none]) (compOk_of (by kernel_rfl)) (by kernel_rfl) rfl (pi_list (pv 3))
          (fun _ _ _ _ _ => pg_name (i := 0) (show (["_law_face"] : List Str).Nodup by decide +kernel) rfl (Or.inl rfl)) (fun _ _ _ _ _ => pts_nil)
          (te := tCB (fun xs H Q => ∃ (a : Addr) (kvs : List (Dt × V)) (T : String), xs = [.ref a] ∧ DicV P w H a kvs ∧ (∀ p ∈ kvs, ∃ e r, p.1 = .tup (e :: r) ∧ e.tag = T) ∧ (∀ p ∈ kvs, ∀ p' ∈ kvs, Dt.like p.1 p'.1 = true) ∧
            ∀ l zs es, H l = none → DtsIs H zs es → es.Perm (kvs.map (·.1)) → es.Pairwise (fun d d' => Dt.blt d' d = false) → Q (.ref l) (upd H l (.lst zs))) (tCons (tVar 0) tNil))
          (fun _ _ _ _ _ => pe_callB (call_sortedD hr1) (by rfl) hsorted boot_sorted (pac (pv 0) pa_nil))))))))), ?_⟩
    refine ⟨_, rfl, r, t, rfl, by omega, ro, fun fa H1 s1 ro1 => ?_⟩
    refine ⟨_, rfl, r, 2, t + 1, rfl, by decide, by decide, by omega, ro1, fun nf H2 _ s2 ro2 => ⟨rfl, ?_⟩⟩
    refine fun d0 o0 n0 dic0 => ?_
    have T0 := same_upd (o := o0) n0
    refine fun d1 o1 n1 dic1 => ?_
    have T1 := same_upd (o := o1) n1
    have ne01 : d0 ≠ d1 := fun e => by
      obtain ⟨φ, ee⟩ := dic0.ext
      rw [← e, ee] at n1
      cases n1
    refine ⟨szr rfl, fun Lf nLf => ?_⟩
    have T2 := same_upd (o := HO.lst [V.ref d0, .ref d1]) nLf
    have T := (T0.trans T1).trans T2
    have s02 := s1.trans s2
    have hd0 : H2 d0 = none := n0
    have hd1 : H2 d1 = none := none_same T0 n1
    have hd0' : ∀ a v, H2 a = some v → a ≠ d0 := fun a v e zz => by rw [zz, hd0] at e; cases e
    have hd1' : ∀ a v, H2 a = some v → a ≠ d1 := fun a v e zz => by rw [zz, hd1] at e; cases e
    have dA := (dic0.same T1).same T2
    have dB := dic1.same T2
    have eLf : (upd (upd (upd H2 d0 o0) d1 o1) Lf (.lst [V.ref d0, .ref d1])) Lf = some (.lst [V.ref d0, .ref d1]) := upd_same
    have ro4 := ro2.same T
    revert T dA dB eLf ro4
    generalize (upd (upd (upd H2 d0 o0) d1 o1) Lf (.lst [V.ref d0, .ref d1])) = H4
    intro T dA dB eLf ro4
    refine ⟨_, rfl, r, 61, t + 2, rfl, by decide, by decide, by omega, ro4, fun many H5 hmany s5 ro5 => ?_⟩
    have w5 : wk0 P w H2 r Lf d0 d1 (t + 3) 0 H5 := ⟨fun a v n e => s5 a v n (T a v e), ro5, ro4.lsts s5 eLf, [], [], dicv_sb dA ro4 s5, dicv_sb dB ro4 s5, (fun _ h => nomatch h), (fun _ h => nomatch h), Nat.le_refl _, Nat.le_refl _⟩
    have keepX : ∀ {H' : Hp} {dd b : Addr} {kvs : List (Dt × V)} {o : HO} {v : HO}, DicV P w H' dd kvs → H' b = some v → (∀ φ, v ≠ .ext φ) → (upd H' dd o) b = some v := fun {H' dd b kvs o v} dd' hb hv => by
      obtain ⟨φ, ee⟩ := dd'.ext
      rw [upd_ne (fun e => by rw [e, ee] at hb; exact hv φ (Option.some.inj hb).symm)]
      exact hb
    refine ⟨_, rfl, by omega, by omega, ?_⟩
    generalize hfi : decide (V.int (nf : Int) = V.int 1) = fi
    refine for_range (fun i σ H6 => (∃ v4 v5 v6 v7 v8 v9 v10, σ = [some (.ref r), some (.int fa), some (.bl fi), some (.ref Lf), v4, v5, v6, v7, v8, v9, v10]) ∧ wk0 P w H2 r Lf d0 d1 (t + 3 + 20 * i) i H6)
      ⟨⟨_, _, _, _, _, _, _, by rw [← hfi]; rfl⟩, w5⟩ ?_ ?_
    · rintro i σ H6 hi ⟨⟨v4, v5, v6, v7, v8, v9, v10, rfl⟩, st6, ro6, eL6, k0, k1, da6, db6, la, lb, ka, kb⟩
      have hi61 : i < 61 := by
        have : i < many := by simpa using hi
        omega
      refine ⟨_, rfl, _, rfl, r, fa, _, rfl, by omega, ro6, fun e1 an H7 s7 ro7 dt7 => ?_⟩
      obtain ⟨e1', x1, y1, ee, er, tx, ty⟩ := ln_two dt7
      cases ee
      have da7 := dicv_sb da6 ro6 s7
      have db7 := dicv_sb db6 ro6 s7
      have eL7 := ro6.lsts s7 eL6
      refine ⟨e1, _, rfl, SqT.of er, rfl, _, _, rfl, _, _, rfl, rfl, ?_⟩
      refine' laterS (fun σ H8 => ∃ (x y : Addr) (an : Ln) (v7 v8 : Option V), σ = [some (.ref r), some (.int fa), some (.bl fi), some (.ref Lf), some (.int (0 + (i : Int))), some (.ref x), some (.ref y), v7, v8, v9, v10] ∧ Sb r H7 H8 ∧ Roo H8 r (t + 3 + 20 * i + 8) ∧ two H8 x an.1 ∧ two H8 y an.2) (fun fin => _) _
      rotate_left
      · refine ⟨_, rfl, fi, rfl, ifC (fun _ => ?_) (fun _ => fin _ _ ⟨x1, y1, an, _, _, rfl, Sb.refl _ _, ro7.mono (by omega), tx, ty⟩)⟩
        refine ⟨_, rfl, r, 4, _, rfl, by decide, by decide, by omega, ro7, fun n4 H8 _ s8 ro8 => ⟨_, _, rfl, rfl, cmulR (by decide) (by decide), _, rfl, szr rfl, fun l1 m1 => ?_⟩⟩
        have U1 := same_upd (o := HO.lst [V.int 1, .int (-1)]) m1
        obtain ⟨g1, hg1, hs1⟩ := sign_at (decide (0 < fa))
        have c1 : ∀ i : Int, CMul i g1 := fun i => by
          rcases hs1 with h | h <;> rw [h] <;> exact cmulR (by decide) (by decide)
        refine ⟨_, rfl, _, _, rfl, rfl, .inr ⟨_, rfl, l1, _, _, _, rfl, rfl, SqL.of upd_same, hg1, _, _, rfl, rfl, c1 _, ?_⟩⟩
        refine ⟨_, rfl, _, _, rfl, rfl, (by show (0 : Int) < _; decide), _, rfl, szr rfl, fun l2 m2 => ?_⟩
        have U2 := same_upd (o := HO.lst [V.int 1, .int (-1)]) m2
        obtain ⟨g2, hg2, hs2⟩ := sign_at (decide (fa < 0))
        have c2 : ∀ i : Int, CMul i g2 := fun i => by
          rcases hs2 with h | h <;> rw [h] <;> exact cmulR (by decide) (by decide)
        refine ⟨_, rfl, _, _, rfl, rfl, .inr ⟨_, rfl, l2, _, _, _, rfl, rfl, SqL.of upd_same, hg2, _, _, rfl, rfl, c2 _, ?_⟩⟩
        have tx8 := sb_two s8 ro7 tx
        have ty8 := sb_two s8 ro7 ty
        have U12 := U1.trans U2
        have ro12 := ro8.same U12
        have tx12 : two _ x1 an.1 := U12 _ _ tx8
        have ty12 : two _ y1 an.2 := U12 _ _ ty8
        have sb12 := s8.trans (Sb.of U12)
        revert ro12 tx12 ty12 sb12
        generalize upd (upd H8 l1 (HO.lst [V.int 1, .int (-1)])) l2 (HO.lst [V.int 1, .int (-1)]) = H12
        intro ro12 tx12 ty12 sb12
        refine ⟨_, rfl, x1, _, _, _, rfl, rfl, SqT.of tx12, rfl, _, rfl, _, _, rfl, rfl, _, rfl, x1, _, _, _, rfl, rfl, SqT.of tx12, rfl, _, rfl, _, _, rfl, rfl, szr rfl, fun x2 nx => ?_⟩
        have V1 := same_upd (o := HO.tup [V.int (an.1.1 + (n4 : Int) * 60 * g1), .int (an.1.2 + (n4 : Int) * 60 * g1 % 7 * g2)]) nx
        have ty13 : two _ y1 an.2 := V1 _ _ ty12
        refine ⟨_, rfl, y1, _, _, _, rfl, rfl, SqT.of ty13, rfl, _, rfl, _, _, rfl, rfl, _, rfl, y1, _, _, _, rfl, rfl, SqT.of ty13, rfl, _, rfl, _, _, rfl, rfl, szr rfl, fun y2 ny => ?_⟩
        have V2 := same_upd (o := HO.tup [V.int (an.2.1 + (n4 : Int) * 60 * g1), .int (an.2.2 + (n4 : Int) * 60 * g1 % 7 * g2)]) ny
        exact fin _ _ ⟨x2, y2, ((an.1.1 + (n4 : Int) * 60 * g1, an.1.2 + (n4 : Int) * 60 * g1 % 7 * g2), (an.2.1 + (n4 : Int) * 60 * g1, an.2.2 + (n4 : Int) * 60 * g1 % 7 * g2)), _, _, rfl, sb12.trans (Sb.of (V1.trans V2)), (ro12.same (V1.trans V2)).mono (by omega), V2 _ _ upd_same, upd_same⟩
      rintro σ H8 ⟨x, y, an, v7, v8, rfl, s8, ro8, tx8, ty8⟩
      refine ⟨_, rfl, r, 8, _, rfl, by decide, by decide, by omega, ro8, fun sd H9 _ s9 ro9 => ?_⟩
      have st9 : ∀ a v, a ≠ r → H2 a = some v → H9 a = some v := fun a v n e => s9 a v n (s8 a v n (s7 a v n (st6 a v n e)))
      have tx9 : two H9 x an.1 := sb_two s9 ro8 tx8
      have ty9 : two H9 y an.2 := sb_two s9 ro8 ty8
      have da9 := dicv_sb (dicv_sb da7 ro7 s8) ro8 s9
      have db9 := dicv_sb (dicv_sb db7 ro7 s8) ro8 s9
      have eL9 := ro8.lsts s9 (ro7.lsts s8 eL7)
      refine ⟨_, rfl, by decide, by decide, ?_⟩
      refine for_range (fun m σ Hm => (∃ v10, σ = [some (.ref r), some (.int fa), some (.bl fi), some (.ref Lf), some (.int (0 + (i : Int))), some (.ref x), some (.ref y), v7, v8, some (.int (sd : Int)), v10]) ∧ (∀ a v, a ≠ r → H2 a = some v → Hm a = some v) ∧ Roo Hm r (t + 3 + 20 * i + 9) ∧ Hm Lf = some (.lst [.ref d0, .ref d1]) ∧ two Hm x an.1 ∧ two Hm y an.2 ∧ ∃ k0 k1, DicV P w Hm d0 k0 ∧ DicV P w Hm d1 k1 ∧ LnK k0 ∧ LnK k1 ∧ k0.length ≤ i + (if 0 < m then 1 else 0) ∧ k1.length ≤ i + (if 1 < m then 1 else 0))
        ⟨⟨_, rfl⟩, st9, ro9, eL9, tx9, ty9, k0, k1, da9, db9, la, lb, ka, kb⟩ ?_ ?_
      · rintro m σ Hm hm ⟨⟨v10, rfl⟩, stm, rom, eLm, txm, tym, k0, k1, dam, dbm, la, lb, ka, kb⟩
        have hm2 : m < 2 := hm
        have mono0 : i + (if 0 < m then 1 else 0) ≤ i + (if 0 < m + 1 then 1 else 0) := by split <;> split <;> omega
        have mono1 : i + (if 1 < m then 1 else 0) ≤ i + (if 1 < m + 1 then 1 else 0) := by split <;> split <;> omega
        let C : L2.St → Hp → Prop := fun σ Hm => (∃ v10, σ = [some (.ref r), some (.int fa), some (.bl fi), some (.ref Lf), some (.int (0 + (i : Int))), some (.ref x), some (.ref y), v7, v8, some (.int (sd : Int)), v10]) ∧ (∀ a v, a ≠ r → H2 a = some v → Hm a = some v) ∧ Roo Hm r (t + 3 + 20 * i + 9) ∧ Hm Lf = some (.lst [.ref d0, .ref d1]) ∧ two Hm x an.1 ∧ two Hm y an.2 ∧ ∃ k0 k1, DicV P w Hm d0 k0 ∧ DicV P w Hm d1 k1 ∧ LnK k0 ∧ LnK k1 ∧ k0.length ≤ i + (if 0 < m + 1 then 1 else 0) ∧ k1.length ≤ i + (if 1 < m + 1 then 1 else 0)
        have put : ∀ D : Ends, (∀ σ H', C σ H' → D.nx σ H') → (sDPutD P w (tOp (rIxL K) (tVar 3) (tVar 10)) (tTup (tCons (tVar 5) (tCons (tVar 6) tNil))) (tC (.bl true))) D [some (.ref r), some (.int fa), some (.bl fi), some (.ref Lf), some (.int (0 + (i : Int))), some (.ref x), some (.ref y), v7, v8, some (.int (sd : Int)), some (.int (0 + (m : Int)))] Hm := fun D hD => by
          have h8 : (lnD an).dp ≤ 8 := by rw [lnD_dp]; decide
          have hm3 : m = 0 ∨ m = 1 := by omega
          rcases hm3 with rfl | rfl
          · refine ⟨_, rfl, _, rfl, Lf, _, _, _, rfl, rfl, SqL.of eLm, rfl, _, rfl, _, rfl, szr rfl, fun tt nt => ?_⟩
            have U := same_upd (o := HO.tup [V.ref x, .ref y]) nt
            have dt : DtIs (upd Hm tt (.tup [V.ref x, .ref y])) (.ref tt) (lnD an) := ln_dt upd_same (U _ _ txm) (U _ _ tym)
            refine ⟨d0, tt, lnD an, k0, rfl, rfl, dt, h8, dam.same U, ?_, fun o dic' => hD _ _ ?_⟩
            · have : i + (if 0 < 0 then 1 else 0) = i := rfl
              omega
            · obtain ⟨φ, ee⟩ := (dam.same U).ext
              exact ⟨⟨_, rfl⟩, fun a v n e => by rw [upd_ne (hd0' a v e)]; exact U _ _ (stm a v n e), (rom.same U).updX ee, keepX (dam.same U) (U _ _ eLm) (fun _ zz => nomatch zz), keepX (dam.same U) (U _ _ txm) (fun _ zz => nomatch zz), keepX (dam.same U) (U _ _ tym) (fun _ zz => nomatch zz), _, k1, dic', dicv_updX (dbm.same U) ee (Ne.symm ne01), la.put an _, lb, Nat.le_trans (putK_len _ _ _) (Nat.succ_le_succ ka), Nat.le_trans kb mono1⟩
          · refine ⟨_, rfl, _, rfl, Lf, _, _, _, rfl, rfl, SqL.of eLm, rfl, _, rfl, _, rfl, szr rfl, fun tt nt => ?_⟩
            have U := same_upd (o := HO.tup [V.ref x, .ref y]) nt
            have dt : DtIs (upd Hm tt (.tup [V.ref x, .ref y])) (.ref tt) (lnD an) := ln_dt upd_same (U _ _ txm) (U _ _ tym)
            refine ⟨d1, tt, lnD an, k1, rfl, rfl, dt, h8, dbm.same U, ?_, fun o dic' => hD _ _ ?_⟩
            · have : i + (if 1 < 1 then 1 else 0) = i := rfl
              omega
            · obtain ⟨φ, ee⟩ := (dbm.same U).ext
              exact ⟨⟨_, rfl⟩, fun a v n e => by rw [upd_ne (hd1' a v e)]; exact U _ _ (stm a v n e), (rom.same U).updX ee, keepX (dbm.same U) (U _ _ eLm) (fun _ zz => nomatch zz), keepX (dbm.same U) (U _ _ txm) (fun _ zz => nomatch zz), keepX (dbm.same U) (U _ _ tym) (fun _ zz => nomatch zz), k0, _, dicv_updX (dam.same U) ee ne01, dic', la, lb.put an _, Nat.le_trans ka mono0, Nat.le_trans (putK_len _ _ _) (Nat.succ_le_succ kb)⟩
        refine ⟨_, rfl, _, _, rfl, rfl, (by show (0 : Int) < 2; decide), _, rfl, rfl, _, rfl, ifC (fun _ => put _ (fun _ _ h => h)) (fun _ => ?_)⟩
        refine ⟨_, rfl, _, _, rfl, rfl, _, rfl, ifC (fun _ => put _ (fun _ _ h => h)) (fun _ => ?_)⟩
        exact ⟨⟨_, rfl⟩, stm, rom, eLm, txm, tym, k0, k1, dam, dbm, la, lb, Nat.le_trans ka mono0, Nat.le_trans kb mono1⟩
      · rintro σ Hm ⟨⟨v10, rfl⟩, stm, rom, eLm, _, _, k0, k1, dam, dbm, la, lb, ka, kb⟩
        exact ⟨⟨_, _, _, _, _, _, _, rfl⟩, stm, rom.mono (by omega), eLm, k0, k1, dam, dbm, la, lb, ka, kb⟩
    · rintro σ H6 ⟨⟨v4, v5, v6, v7, v8, v9, v10, rfl⟩, st6, ro6, eL6, k0, k1, da, db, la, lb, ka, kb⟩
      have hm61 : many ≤ 60 := by omega
      have ka : k0.length ≤ many := by simpa using ka
      have kb : k1.length ≤ many := by simpa using kb
      refine ⟨_, rfl, Lf, rfl, ⟨_, SqL.of eL6⟩, fun L nL => ?_⟩
      refine comp_n (J := Itl K Lf) (n := 2) (fun i σ2 H7 => (∃ v0, σ2 = [v0]) ∧ Same H6 H7 ∧ ∃ ys, H7 L = some (.lst ys) ∧ Rw2 H7 L ys i) ?_ ?_ ?_ ?_
      · exact ⟨⟨_, rfl⟩, same_upd nL, [], upd_same, [], rfl, rfl, fun _ h => nomatch h⟩
      · rintro i σ2 H7 hi ⟨⟨v0, rfl⟩, S7, _⟩
        exact ⟨[.ref d0, .ref d1], _, SqL.of (S7 _ _ eL6), List.getElem?_eq_getElem hi⟩
      · rintro σ2 H7 ⟨⟨v0, rfl⟩, S7, ys, eL, rows, rl, rfl, hrow⟩
        refine ⟨⟨[.ref d0, .ref d1], SqL.of (S7 _ _ eL6), Nat.le_refl _⟩, ?_⟩
        match rows, rl with
        | [r0, r1], _ =>
          have h0 := hrow r0 (by simp)
          have h1 := hrow r1 (by simp)
          exact z L r0.1 r1.1 r0.2 r1.2 H7 (fun a v n e => S7 _ _ (st6 a v n (s02 a v n e))) eL h0.2.1 h1.2.1 h0.2.2 h1.2.2
      · rintro i σ2 H7 hi ⟨⟨v0, rfl⟩, S7, ys, eL, rows, rl, rfl, hrow⟩ x H8 ⟨e8, hx⟩
        have hx := hx [.ref d0, .ref d1] (SqL.of (S7 _ _ eL6))
        rw [e8]
        obtain ⟨dd, kk, rfl, dk, lk, kl⟩ : ∃ (dd : Addr) (kk : List (Dt × V)), x = .ref dd ∧ DicV P w H7 dd kk ∧ LnK kk ∧ kk.length ≤ 60 := by
          have hi2 : i = 0 ∨ i = 1 := by omega
          rcases hi2 with rfl | rfl
          · cases hx; exact ⟨d0, k0, rfl, da.same S7, la, by omega⟩
          · cases hx; exact ⟨d1, k1, rfl, db.same S7, lb, by omega⟩
        refine ⟨_, rfl, dd, kk, "tuple", rfl, dk, fun p hp => ?_, fun p hp p' hp' => ?_, fun l zs es nl dz pe srt => ?_⟩
        · obtain ⟨b, hb⟩ := lk p hp
          exact ⟨_, _, hb, rfl⟩
        · obtain ⟨b, hb⟩ := lk p hp
          obtain ⟨b', hb'⟩ := lk p' hp'
          rw [hb, hb']
          exact lnD_like b b'
        obtain ⟨ls, rfl⟩ := as_lnD (es := es) fun d hd => by
          obtain ⟨p, hp, rfl⟩ := List.mem_map.mp (pe.mem_iff.mp hd)
          exact lk p hp
        have lsl : ls.length = kk.length := by
          have := pe.length_eq
          rw [List.length_map, List.length_map] at this
          exact this
        have U := same_upd (o := HO.lst zs) nl
        have eL2 := U _ _ eL
        have neL : l ≠ L := fun e => by rw [e, eL] at nl; cases nl
        refine ⟨_, eL2, ?_, ⟨_, rfl⟩, same_updN (S7.trans U) nL, _, upd_same, rows ++ [(l, ls)], by simp [rl], by simp, fun r' hr' => ?_⟩
        · rw [List.length_map, rl]
          exact small1000 (by omega)
        · rcases List.mem_append.mp hr' with hr' | hr'
          · obtain ⟨a1, ⟨vs', e', d'⟩, a3⟩ := hrow r' hr'
            exact ⟨a1, ⟨vs', by rw [upd_ne a1]; exact U _ _ e', (d'.same U).updL eL2⟩, a3⟩
          · rw [List.mem_singleton.mp hr']
            exact ⟨neL, ⟨zs, by rw [upd_ne neL]; exact upd_same, (dz.same U).updL eL2⟩, by show ls.length ≤ 61; omega, srt⟩
end
end K33
namespace K33
open PySem PySem.Spec PyProof.Rows L2 BF
seal L2.PE L2.PA L2.PS L2.PSs L2.PT L2.PW L2.PG L2.PGs L2.PI BF.PTs L2.PPs
def inC (L : Ho → Option Ho) (f : Ho) (ls : List Ln) : List Ln := ls.filter fun a => decide (L a.1 = some f)
theorem inC_snoc (L : Ho → Option Ho) (f : Ho) (ls : List Ln) (a : Ln) : inC L f (ls ++ [a]) = inC L f ls ++ (if L a.1 = some f then [a] else []) := by
  unfold inC
  rw [List.filter_append, List.filter_cons]
  by_cases z : L a.1 = some f
  · rw [if_pos z, if_pos (decide_eq_true z)]; rfl
  · rw [if_neg z, if_neg (by rw [decide_eq_false z]; exact Bool.false_ne_true)]; rfl
theorem inC_le (L : Ho → Option Ho) (f : Ho) (ls : List Ln) : (inC L f ls).length ≤ ls.length := List.length_filter_le ..
abbrev rEqD : R2 := fun x y H Q => ∃ d d', DtIs H x d ∧ DtIs H y d' ∧ d.dp ≤ 60 ∧ (∃ l, d = .tup l) ∧ (∃ l, d' = .tup l) ∧ Q (.bl (Dt.beq d d')) H
theorem h60 (p : Ho) : (hD p).dp ≤ 60 := by rw [hD_dp1]; decide
theorem h8 (p : Ho) : (hD p).dp ≤ 8 := by rw [hD_dp1]; decide
section
variable {P : Program} {w : World} {K : PySem.W.Frag} {mg : Str → Option Value} {base : Heap}
def spAtL (P : Program) (w : World) : Sp := fun vs H Q _ => ∃ (F d q : Addr) (ls : List Ln) (kvs : List (Dt × V)) (L : Ho → Option Ho) (f : Ho), vs = [.ref F, .ref d, .ref q] ∧ DtL H F (ls.map lnD) ∧ ls.length ≤ 70 ∧ LeOk P w H d kvs L ∧ two H q f ∧ (∀ a ∈ ls, L a.1 ≠ none) ∧
  ∀ l H', Same H H' → H l = none → DtL H' l ((inC L f ls).map lnD) → Q (.ref l) H'
theorem scAtL : FnScope ["lines", "least", "first"] ["lines", "least", "first"] (defScope sAtL) := ⟨rfl, rfl, rfl, by decide +kernel, rfl, by decide +kernel, by decide +kernel⟩
theorem ok_atL {f : Addr} {fd : FuncData} (D : Df K mg "lines_at" sAtL f fd) : FnOk P w K mg base CX0 1 f fd ["lines", "least", "first"] (spAtL P w) := by
  refine D.F.ok scAtL (fun vs H Q E h => ?_) (fun cdv A outer s H vs Q E hr h => ?_)
  · obtain ⟨F, d, q, ls, kvs, L, f, rfl, _⟩ := h
    rfl
  · obtain ⟨F, d, q, ls, kvs, L, f, rfl, ⟨fv, eF, dF⟩, ll, le, tq, hn, z⟩ := h
    have fvl : fv.length = ls.length := by rw [dF.length, List.length_map]
    refine ⟨_, (pss_one (ps_ret (pe_comp (tt := tTest (tOp rEqD (tDGetD P w (tVar 1) (tOp (rIxT K) (tVar 0) (tC (.int 0)))) (tVar 2))) (N' := ["line", "least", "first"]) (idx := [none, some 1, some 2]) (compOk_of (by kernel_rfl)) (by kernel_rfl) rfl (pi_list (pv 0))
        (fun _ _ _ _ _ => pg_name (i := 0) (show (["line", "least", "first"] : List Str).Nodup by decide +kernel) rfl (Or.inl rfl))
        (fun _ _ _ _ _ => pts_one (pt_cmpR (op_eqD hr) (pe_dgetD hr (pv 1) (pe_ix ix_tup (pv 0) pe_int (fun _ _ => rfl)) (fun _ _ => rfl)) (pv 2) (nomark _)))
        (fun _ _ _ _ _ => pv 0)))), ?_⟩
    refine ⟨_, rfl, F, rfl, ⟨_, SqL.of eF⟩, fun M nM => ?_⟩
    refine comp_n (J := Itl K F) (n := fv.length) (fun i σ2 H2 => (∃ v0, σ2 = [v0, some (.ref d), some (.ref q)]) ∧ Same H H2 ∧ DtL H2 M ((inC L f (ls.take i)).map lnD)) ?_ ?_ ?_ ?_
    · exact ⟨⟨_, rfl⟩, same_upd nM, [], upd_same, by rw [List.take_zero]; exact .nil⟩
    · rintro i σ2 H2 hi ⟨⟨v0, rfl⟩, S2, _⟩
      exact ⟨fv, _, SqL.of (S2 _ _ eF), List.getElem?_eq_getElem hi⟩
    · rintro σ2 H2 ⟨⟨v0, rfl⟩, S2, hM⟩
      rw [List.take_of_length_le (by omega)] at hM
      exact ⟨⟨fv, SqL.of (S2 _ _ eF), Nat.le_refl _⟩, z M H2 S2 nM hM⟩
    · rintro i σ2 H2 hi ⟨⟨v0, rfl⟩, S2, ys, eM, dM⟩ x H3 ⟨rfl, hx⟩
      have hx := hx fv (SqL.of (S2 _ _ eF))
      obtain ⟨r, x1, y1, a, rfl, ha, er, tx, ty⟩ := ln_at (dF.same S2) hx
      have tk : ls.take (i + 1) = ls.take i ++ [a] := by rw [List.take_add_one, ha]; rfl
      have sn := inC_snoc L f (ls.take i) a
      rw [← tk] at sn
      have yl : ys.length ≤ 70 := by
        rw [dM.length, List.length_map]
        refine Nat.le_trans (inC_le _ _ _) ?_
        rw [List.length_take]
        omega
      have le2 := le.same S2
      obtain ⟨g, hg⟩ : ∃ g, L a.1 = some g := by
        cases e : L a.1 with
        | none => exact absurd e (hn a (List.mem_of_getElem? ha))
        | some g => exact ⟨g, rfl⟩
      obtain ⟨qg, vg, tg⟩ := le2.val a.1 g hg
      refine ⟨_, rfl, _, rfl, r, _, _, _, rfl, rfl, SqT.of er, rfl, d, x1, hD a.1, kvs, .ref qg, rfl, rfl, two_dt tx, h8 _, le2.dic, vg, _, rfl, hD g, hD f, two_dt tg, two_dt (S2 _ _ tq), h60 _, ⟨_, rfl⟩, ⟨_, rfl⟩, _, rfl, ?_⟩
      rw [beq_hD]
      by_cases hc : g = f
      · rw [if_pos (by rw [hg, hc])] at sn
        refine ifD_pos hc ⟨_, rfl, ys, eM, small1000 (by omega), ⟨_, rfl⟩, same_updN S2 nM, _, upd_same, ?_⟩
        rw [sn, List.map_append]
        exact (dM.updL eM).snoc ((ln_dt er tx ty).updL eM)
      · rw [if_neg (by rw [hg]; exact fun e => hc (Option.some.inj e)), List.append_nil] at sn
        refine ifD_neg hc ⟨⟨_, rfl⟩, S2, ys, eM, ?_⟩
        rw [sn]
        exact dM
def PcsR (H0 H : Hp) (R : Addr) (L : Ho → Option Ho) (fs bs : List Ln) (ps : List Addr) (fr : List Ho) : Prop := ps.length = fr.length ∧ ∀ (i : Nat) p f, ps[i]? = some p → fr[i]? = some f → ∃ A B, H0 A = none ∧ H0 B = none ∧ p ≠ R ∧ A ≠ R ∧ B ≠ R ∧ WkIs H p A B (inC L f fs) (inC L f bs)
def spPieces : Sp := fun vs H Q _ => ∃ (t F B : Addr) (fs bs : List Ln), vs = [.ref t] ∧ WkIs H t F B fs bs ∧
  ∀ l ps fr L H', Same H H' → H' l = some (.lst (List.map V.ref ps)) → PcsR H H' l L fs bs ps fr → fr.Nodup → fr.length ≤ 280 → (∀ f, f ∈ fr ↔ L f = some f) → Whole (fs ++ bs) L → (∀ h, L h ≠ none ↔ ∃ a ∈ fs ++ bs, a.1 = h ∨ a.2 = h) → (∀ h g, L h = some g → Dt.blt (hD h) (hD g) = false) → (fr.map hD).Pairwise (fun d d' => Dt.blt d' d = false) → Q (.ref l) H'
theorem scPieces : FnScope ["work", "least", "firsts"] ["work"] (defScope sPieces) := ⟨rfl, rfl, rfl, by decide +kernel, rfl, by decide +kernel, by decide +kernel⟩
theorem ok_pieces {f fL fA : Addr} {fd fdL fdA : FuncData} (D : Df K mg "pieces" sPieces f fd) (DL : Df K mg "least_by_hole" sLeast fL fdL) (bL : Binds K fdL ["work"] []) (GL : FnOk P w K mg base CX0 2 fL fdL ["work"] (spLeast P w))
    (DA : Df K mg "lines_at" sAtL fA fdA) (bA : Binds K fdA ["lines", "least", "first"] []) (GA : FnOk P w K mg base CX0 1 fA fdA ["lines", "least", "first"] (spAtL P w)) (hsorted : mg "sorted" = none) : FnOk P w K mg base CX0 3 f fd ["work"] spPieces := by
  refine D.F.ok scPieces (fun vs H Q E h => ?_) (fun cdv A outer s H vs Q E hr h => ?_)
  · obtain ⟨t, F, B, fs, bs, rfl, _⟩ := h
    rfl
  · obtain ⟨t, F, B, fs, bs, rfl, wk, z⟩ := h
    have hr1 : Room 1 _ := hr.mono (by decide)
    refine ⟨_, (pss_cons (ps_set (i := 1) scPieces.nd rfl (Or.inr rfl) (pec GL hr rfl DL.m DL.F.kp bL .nil pass0 (pac (pv 0) pa_nil)))
      (pss_cons (ps_setComp (k := 2) (tt := tTest (tOp rEqD (tDGetD P w (tVar 1) (tVar 0)) (tVar 0))) (N' := ["hole", "least"]) (idx := [none, some 1]) scPieces.nd rfl (Or.inl rfl) (Or.inr rfl) rfl (compOk_of (by kernel_rfl)) (by kernel_rfl) rfl
          (pi_list (pe_callB (call_sortedD hr1) (by rfl) hsorted boot_sorted (pac (pv 1) pa_nil)))
          (fun _ _ _ _ _ => pg_name (i := 0) (show (["hole", "least"] : List Str).Nodup by decide +kernel) rfl (Or.inl rfl))
          (fun _ _ _ _ _ => pts_one (pt_cmpR (op_eqD hr1) (pe_dgetD hr1 (pv 1) (pv 0) (fun _ _ => rfl)) (pv 0) (nomark _)))
          (fun _ _ _ _ _ => pv 0))
      (pss_one (ps_ret (pe_comp (te := tTup (tCons (tCall (spAtL P w) [] _ (tCons (tOp (rIxT K) (tVar 1) (tC (.int 0))) (tCons (tVar 2) (tCons (tVar 0) tNil)))) (tCons (tCall (spAtL P w) [] _ (tCons (tOp (rIxT K) (tVar 1) (tC (.int 1))) (tCons (tVar 2) (tCons (tVar 0) tNil)))) tNil))) (N' := ["first", "work", "least"]) (idx := [none, some 0, some 1]) (compOk_of (by kernel_rfl)) (by kernel_rfl) rfl (pi_list (pv 2))
          (fun _ _ _ _ _ => pg_name (i := 0) (show (["first", "work", "least"] : List Str).Nodup by decide +kernel) rfl (Or.inl rfl)) (fun _ _ _ _ _ => pts_nil)
          (fun _ _ _ _ _ => pe_tup (pac (pec GA hr1 rfl DA.m DA.F.kp bA .nil pass0 (pac (pe_ix ix_tup (pv 1) pe_int (fun _ _ => rfl)) (pac (pv 2) (pac (pv 0) pa_nil)))) (pac (pec GA hr1 rfl DA.m DA.F.kp bA .nil pass0 (pac (pe_ix ix_tup (pv 1) pe_int (fun _ _ => rfl)) (pac (pv 2) (pac (pv 0) pa_nil)))) pa_nil)))))))), ?_⟩
    refine ⟨_, rfl, t, F, B, fs, bs, rfl, wk, fun d kvs L H1 S1 nd le wh ends lst kl => ?_⟩
    have wk1 := wk.same S1
    have hkey : ∀ p ∈ kvs, ∃ h : Ho, p.1 = hD h := fun p hp => by
      obtain ⟨h, _, e⟩ := (le.mem p.1).mp (List.mem_map.mpr ⟨p, hp, rfl⟩)
      exact ⟨h, e.symm⟩
    refine ⟨_, rfl, d, kvs, "int", rfl, le.dic, fun p hp => ?_, fun p hp p' hp' => ?_, fun G gv es nG dG pe srt => ?_⟩
    · obtain ⟨h, e⟩ := hkey p hp
      exact ⟨_, _, e, rfl⟩
    · obtain ⟨h, e⟩ := hkey p hp
      obtain ⟨h', e'⟩ := hkey p' hp'
      rw [e, e']
      exact hD_like h h'
    obtain ⟨hs, rfl⟩ := as_hD (es := es) fun d hd => by
      obtain ⟨p, hp, rfl⟩ := List.mem_map.mp (pe.mem_iff.mp hd)
      exact hkey p hp
    have hnd : hs.Nodup := nodup_of_map (pe.nodup_iff.mpr le.nd)
    have hmem : ∀ h, h ∈ hs ↔ L h ≠ none := fun h => by
      rw [← le.isIn h]
      constructor
      · exact fun hh => pe.mem_iff.mp (List.mem_map.mpr ⟨h, hh, rfl⟩)
      · intro hh
        obtain ⟨g, hg, e⟩ := List.mem_map.mp (pe.mem_iff.mpr hh)
        exact hD_inj e ▸ hg
    have hsl : hs.length ≤ 280 := by
      have := pe.length_eq
      rw [List.length_map, List.length_map] at this
      omega
    have gvl : gv.length = hs.length := by rw [dG.length, List.length_map]
    have T1 := same_upd (o := HO.lst gv) nG
    refine ⟨G, rfl, ⟨_, SqL.of upd_same⟩, fun M nM => ?_⟩
    have le2 := le.same T1
    have dG2 := dG.same T1
    have S2 := S1.trans T1
    have eG : (upd H1 G (.lst gv)) G = some (.lst gv) := upd_same
    have wk2 := wk1.same T1
    revert le2 dG2 S2 eG wk2 nM
    generalize (upd H1 G (.lst gv)) = H2
    intro nM le2 dG2 S2 eG wk2
    let fr : Nat → List Ho := fun i => (hs.take i).filter fun h => decide (L h = some h)
    have frS : ∀ i h, hs[i]? = some h → fr (i + 1) = fr i ++ (if L h = some h then [h] else []) := fun i h e => by
      show (hs.take (i + 1)).filter _ = _
      rw [List.take_add_one, e, List.filter_append]
      show _ ++ List.filter _ [h] = _
      rw [List.filter_cons]
      by_cases zc : L h = some h
      · rw [if_pos zc, if_pos (decide_eq_true zc)]; rfl
      · rw [if_neg zc, if_neg (by rw [decide_eq_false zc]; exact Bool.false_ne_true)]; rfl
    have frl : ∀ i, (fr i).length ≤ 280 := fun i => Nat.le_trans (List.length_filter_le _ _) (by rw [List.length_take]; omega)
    refine comp_n (J := Itl K G) (n := gv.length) (fun i σ2 H3 => (∃ v0, σ2 = [v0, some (.ref d)]) ∧ Same H2 H3 ∧ DtL H3 M ((fr i).map hD)) ?_ ?_ ?_ ?_
    · exact ⟨⟨_, rfl⟩, same_upd nM, [], upd_same, .nil⟩
    · rintro i σ2 H3 hi ⟨⟨v0, rfl⟩, S3, _⟩
      exact ⟨gv, _, SqL.of (S3 _ _ eG), List.getElem?_eq_getElem hi⟩
    · rintro σ2 H3 ⟨⟨v0, rfl⟩, S3, hM⟩
      refine ⟨⟨gv, SqL.of (S3 _ _ eG), Nat.le_refl _⟩, ?_⟩
      have efr : fr gv.length = hs.filter fun h => decide (L h = some h) := by
        show (hs.take gv.length).filter _ = _
        rw [List.take_of_length_le (by omega)]
      rw [efr] at hM
      have fnd : (hs.filter fun h => decide (L h = some h)).Nodup := hnd.filter _
      have fmem : ∀ g, g ∈ hs.filter (fun h => decide (L h = some h)) ↔ L g = some g := fun g => by
        rw [List.mem_filter, decide_eq_true_eq, hmem]
        constructor
        · exact fun q => q.2
        · exact fun q => ⟨by rw [q]; exact Option.some_ne_none _, q⟩
      have fsrt : ((hs.filter fun h => decide (L h = some h)).map hD).Pairwise (fun d d' => Dt.blt d' d = false) := List.pairwise_map.mpr ((List.pairwise_map.mp srt).filter _)
      have fll : (hs.filter fun h => decide (L h = some h)).length ≤ 280 := Nat.le_trans (List.length_filter_le _ _) hsl
      revert hM fnd fmem fsrt fll
      generalize (hs.filter fun h => decide (L h = some h)) = fs'
      intro hM fnd fmem fsrt fll
      obtain ⟨mv, eM, dM⟩ := hM
      have mvl : mv.length = fs'.length := by rw [dM.length, List.length_map]
      have le3 := le2.same S3
      have wk3 := wk2.same S3
      have S03 := S2.trans S3
      refine ⟨_, rfl, M, rfl, ⟨_, SqL.of eM⟩, fun R nR => ?_⟩
      refine comp_n (J := Itl K M) (n := mv.length) (fun i σ2 H4 => (∃ v0, σ2 = [v0, some (.ref t), some (.ref d)]) ∧ Same H3 H4 ∧ ∃ ps : List Addr, H4 R = some (.lst (List.map V.ref ps)) ∧ PcsR H H4 R L fs bs ps (fs'.take i)) ?_ ?_ ?_ ?_
      · exact ⟨⟨_, rfl⟩, same_upd nR, [], upd_same, by rw [List.take_zero]; rfl, fun i p f e => by simp at e⟩
      · rintro i σ2 H4 hi ⟨⟨v0, rfl⟩, S4, _⟩
        exact ⟨mv, _, SqL.of (S4 _ _ eM), List.getElem?_eq_getElem hi⟩
      · rintro σ2 H4 ⟨⟨v0, rfl⟩, S4, ps, eR, pcs⟩
        rw [List.take_of_length_le (by omega)] at pcs
        exact ⟨⟨mv, SqL.of (S4 _ _ eM), Nat.le_refl _⟩, z R ps fs' L H4 (S03.trans S4) eR pcs fnd fll fmem wh ends lst fsrt⟩
      · rintro i σ2 H4 hi ⟨⟨v0, rfl⟩, S4, ps, eR, pcs⟩ x H5 ⟨rfl, hx⟩
        have hx := hx mv (SqL.of (S4 _ _ eM))
        obtain ⟨q, f, rfl, hf, tq⟩ := th_at (dM.same S4) hx
        have tk : fs'.take (i + 1) = fs'.take i ++ [f] := by rw [List.take_add_one, hf]; rfl
        have wk4 := wk3.same S4
        have le4 := le3.same S4
        have hnf : ∀ a ∈ fs, L a.1 ≠ none := fun a ha => (ends a.1).mpr ⟨a, List.mem_append_left _ ha, .inl rfl⟩
        have hnb : ∀ a ∈ bs, L a.1 ≠ none := fun a ha => (ends a.1).mpr ⟨a, List.mem_append_right _ ha, .inl rfl⟩
        refine ⟨_, rfl, t, _, _, _, rfl, rfl, SqT.of wk4.t, rfl, _, rfl, _, rfl, F, d, q, fs, kvs, L, f, rfl, wk4.f, wk4.lf, le4, tq, hnf, fun A1 H5 S5 nA hA => ?_⟩
        have wk5 := wk4.same S5
        refine ⟨_, rfl, t, _, _, _, rfl, rfl, SqT.of wk5.t, rfl, _, rfl, _, rfl, B, d, q, bs, kvs, L, f, rfl, wk5.b, wk5.lb, le4.same S5, S5 _ _ tq, hnb, fun B1 H6 S6 nB hB => ?_⟩
        refine ⟨szr rfl, fun u nu => ?_⟩
        have Tu := same_upd (o := HO.tup [V.ref A1, .ref B1]) nu
        have S46 := (S5.trans S6).trans Tu
        have eR6 := S46 _ _ eR
        have pl : ps.length ≤ 280 := by
          rw [pcs.1, List.length_take]
          omega
        have hA6 := (hA.same S6).same Tu
        have hB6 := hB.same Tu
        have neA : A1 ≠ R := fun e => by rw [e, eR] at nA; cases nA
        have neB : B1 ≠ R := fun e => by rw [e, S5 _ _ eR] at nB; cases nB
        have neU : u ≠ R := fun e => by rw [e, (S5.trans S6) _ _ eR] at nu; cases nu
        refine ⟨List.map V.ref ps, eR6, small1000 (by rw [List.length_map]; omega), ⟨_, rfl⟩, same_updN (S4.trans S46) nR, ps ++ [u], ?_, ?_, fun j p g e1 e2 => ?_⟩
        · rw [upd_same, List.map_append]
          rfl
        · rw [tk, List.length_append, List.length_append, pcs.1]
          rfl
        · rw [tk] at e2
          by_cases hj : j < ps.length
          · rw [List.getElem?_append_left hj] at e1
            rw [List.getElem?_append_left (by rw [← pcs.1]; exact hj)] at e2
            obtain ⟨A', B', f1, f2, n1, n2, n3, k⟩ := pcs.2 j p g e1 e2
            have k' := k.same S46
            exact ⟨A', B', f1, f2, n1, n2, n3, by rw [upd_ne n1]; exact k'.t, k'.f.updL eR6 n2, k'.b.updL eR6 n3, k'.lf, k'.lb⟩
          · have hj' : j = ps.length := by
              have := (List.getElem?_eq_some_iff.mp e1).1
              rw [List.length_append] at this
              have h1 : ([u] : List Addr).length = 1 := rfl
              omega
            subst hj'
            rw [List.getElem?_append_right (Nat.le_refl _), Nat.sub_self] at e1
            rw [List.getElem?_append_right (by rw [pcs.1]; exact Nat.le_refl _), pcs.1, Nat.sub_self] at e2
            cases e1
            cases e2
            refine ⟨A1, B1, none_same (S03.trans S4) nA, none_same ((S03.trans S4).trans S5) nB, neU, neA, neB, by rw [upd_ne neU]; exact upd_same, hA6.updL eR6 neA, hB6.updL eR6 neB, ?_, ?_⟩
            · exact Nat.le_trans (inC_le _ _ _) wk4.lf
            · exact Nat.le_trans (inC_le _ _ _) wk4.lb
    · rintro i σ2 H3 hi ⟨⟨v0, rfl⟩, S3, ys, eM, dM⟩ x H4 ⟨rfl, hx⟩
      have hx := hx gv (SqL.of (S3 _ _ eG))
      obtain ⟨q, h, rfl, hh, tq⟩ := th_at (dG2.same S3) hx
      have sn := frS i h hh
      have yl : ys.length ≤ 280 := by rw [dM.length, List.length_map]; exact frl i
      have le3 := le2.same S3
      obtain ⟨g, hg⟩ : ∃ g, L h = some g := by
        cases e : L h with
        | none => exact absurd e ((hmem h).mp (List.mem_of_getElem? hh))
        | some g => exact ⟨g, rfl⟩
      obtain ⟨qg, vg, tg⟩ := le3.val h g hg
      refine ⟨_, rfl, _, rfl, d, q, hD h, kvs, .ref qg, rfl, rfl, two_dt tq, h8 _, le3.dic, vg, _, rfl, hD g, hD h, two_dt tg, two_dt tq, h60 _, ⟨_, rfl⟩, ⟨_, rfl⟩, _, rfl, ?_⟩
      rw [beq_hD]
      by_cases hc : g = h
      · rw [if_pos (by rw [hg, hc])] at sn
        refine ifD_pos hc ⟨_, rfl, ys, eM, small1000 (by omega), ⟨_, rfl⟩, same_updN S3 nM, _, upd_same, ?_⟩
        rw [sn, List.map_append]
        exact (dM.updL eM).snoc ((two_dt tq).updL eM)
      · rw [if_neg (by rw [hg]; exact fun e => hc (Option.some.inj e)), List.append_nil] at sn
        refine ifD_neg hc ⟨⟨_, rfl⟩, S3, ys, eM, ?_⟩
        rw [sn]
        exact dM
end
end K33
namespace K33
open PySem PySem.Spec PyProof.Rows L2 BF
seal L2.PE L2.PA L2.PS L2.PSs L2.PT L2.PW L2.PG L2.PGs L2.PI BF.PTs L2.PPs
theorem lndp (ls : List Ln) : ∀ d ∈ ls.map lnD, d.dp ≤ 50 := fun d hd => by
  obtain ⟨a, _, rfl⟩ := List.mem_map.mp hd
  rw [lnD_dp]
  decide
structure SK (kvs : List (Dt × V)) (S : Ho → Prop) : Prop where
  nd : (kvs.map (·.1)).Nodup
  mem : ∀ e, e ∈ kvs.map (·.1) ↔ ∃ h, S h ∧ hD h = e
theorem SK.nil : SK [] (fun _ => False) := ⟨List.nodup_nil, fun e => ⟨fun z => (nomatch z), fun ⟨_, z, _⟩ => z.elim⟩⟩
theorem SK.isIn {kvs : List (Dt × V)} {S : Ho → Prop} (k : SK kvs S) (h : Ho) : hD h ∈ kvs.map (·.1) ↔ S h := by
  rw [k.mem]
  exact ⟨fun ⟨g, s, e⟩ => hD_inj e ▸ s, fun s => ⟨h, s, rfl⟩⟩
theorem SK.put {kvs : List (Dt × V)} {S S' : Ho → Prop} (k : SK kvs S) (h : Ho) (v : V) (hS : ∀ g, S' g ↔ g = h ∨ S g) : SK (putK kvs (hD h) v) S' := ⟨putK_nd _ _ _ k.nd, fun e => by
  rw [putK_mem, k.mem]
  constructor
  · rintro (rfl | ⟨g, s, rfl⟩)
    · exact ⟨h, (hS h).mpr (.inl rfl), rfl⟩
    · exact ⟨g, (hS g).mpr (.inr s), rfl⟩
  · rintro ⟨g, s, rfl⟩
    rcases (hS g).mp s with rfl | s
    · exact .inl rfl
    · exact .inr ⟨g, s, rfl⟩⟩
theorem SK.congr {kvs : List (Dt × V)} {S S' : Ho → Prop} (k : SK kvs S) (h : ∀ g, S' g ↔ S g) : SK kvs S' := ⟨k.nd, fun e => by rw [k.mem]; exact ⟨fun ⟨g, s, e⟩ => ⟨g, (h g).mpr s, e⟩, fun ⟨g, s, e⟩ => ⟨g, (h g).mp s, e⟩⟩⟩
def EndOf (ls : List Ln) (h : Ho) : Prop := ∃ a ∈ ls, a.1 = h ∨ a.2 = h
def endsL (ls : List Ln) : List Ho := ls.map (·.1) ++ ls.map (·.2)
theorem endsL_mem {ls : List Ln} {h : Ho} : h ∈ endsL ls ↔ EndOf ls h := by
  unfold endsL EndOf
  rw [List.mem_append, List.mem_map, List.mem_map]
  constructor
  · rintro (⟨a, ha, e⟩ | ⟨a, ha, e⟩)
    · exact ⟨a, ha, .inl e⟩
    · exact ⟨a, ha, .inr e⟩
  · rintro ⟨a, ha, e | e⟩
    · exact .inl ⟨a, ha, e⟩
    · exact .inr ⟨a, ha, e⟩
theorem SK.len {kvs : List (Dt × V)} {S : Ho → Prop} {ls : List Ln} (k : SK kvs S) (h : ∀ g, S g → EndOf ls g) : kvs.length ≤ 2 * ls.length := by
  have := valV_len (kvs := kvs) (ks := endsL ls) k.nd fun e he => by
    obtain ⟨g, s, e'⟩ := (k.mem e).mp he
    exact ⟨g, endsL_mem.mpr (h g s), e'⟩
  have hl : (endsL ls).length = 2 * ls.length := by
    unfold endsL
    rw [List.length_append, List.length_map, List.length_map]
    omega
  omega
section
variable {P : Program} {w : World} {K : PySem.W.Frag} {mg : Str → Option Value} {base : Heap}
def spIsPiece : Sp := fun vs H Q _ => ∃ (p A B : Addr) (fs bs : List Ln), vs = [.ref p] ∧ WkIs H p A B fs bs ∧ (fs.map lnD).Pairwise (fun d d' => Dt.blt d' d = false) ∧ (bs.map lnD).Pairwise (fun d d' => Dt.blt d' d = false) ∧ 0 < fs.length + bs.length ∧ ∀ H', Same H H' → Q (.bl true) H'
theorem scIsPiece : FnScope ["_law_piece", "_law_lines", "_law_ends_here"] ["_law_piece"] (defScope sIsPiece) := ⟨rfl, rfl, rfl, by decide +kernel, rfl, by decide +kernel, by decide +kernel⟩
theorem ok_isPiece {f : Addr} {fd : FuncData} (D : Df K mg "_law_is_piece" sIsPiece f fd) (hisi : mg "isinstance" = none) (htup : mg "tuple" = none) (hlist : mg "list" = none) (hlen : mg "len" = none) (hsorted : mg "sorted" = none) : FnOk P w K mg base CX0 1 f fd ["_law_piece"] spIsPiece := by
  refine D.F.ok scIsPiece (fun vs H Q E h => ?_) (fun cdv A outer s H vs Q E hr h => ?_)
  · obtain ⟨p, A, B, fs, bs, rfl, _⟩ := h
    rfl
  · obtain ⟨p, A, B, fs, bs, rfl, ⟨et, ⟨fv, eF, dF⟩, ⟨bv, eB, dB⟩, lf, lb⟩, sF, sB, hpos, z⟩ := h
    refine ⟨_, (pss_cons (ps_if (PW.pt (pw_or (pt_not (pt_val (pe_callB call_isi (by rfl) hisi boot_isinstance (pac (pv 0) (pac (pe_bltn (v := .ty "tuple") (by rfl) htup boot_tuple rfl) pa_nil)))))
        (pw_or1 (pt_cmpR op_ne (pe_callB call_len_seq (by rfl) hlen PySem.boot_len (pac (pv 0) pa_nil)) pe_int (nomark _))))) (pss_one (ps_ret pe_bl)) pss_nil)
      (pss_cons (ps_for PassesOwn.never rfl (pi_tup (pv 0)) (pg_name (i := 1) scIsPiece.nd rfl (Or.inl rfl)) (pss_cons (ps_if (PW.pt (pw_or (pt_not (pt_val (pe_callB call_isi (by rfl) hisi boot_isinstance (pac (pv 1) (pac (pe_bltn (v := .ty "list") (by rfl) hlist PyProof.Rows.boot_list rfl) pa_nil)))))
            (pw_or1 (pt_cmpR (op_neL hr) (pv 1) (pe_callB call_sortedT (by rfl) hsorted boot_sorted (pac (pv 1) pa_nil)) (nomark _))))) (pss_one (ps_ret pe_bl)) pss_nil)
      (pss_one (ps_for PassesOwn.never rfl (pi_list (pv 1)) (pg_name (i := 2) scIsPiece.nd rfl (Or.inl rfl)) (pss_one (ps_if (PW.pt (pw_or (pt_not (pt_val (pe_callB call_isi (by rfl) hisi boot_isinstance (pac (pv 2) (pac (pe_bltn (v := .ty "tuple") (by rfl) htup boot_tuple rfl) pa_nil)))))
                (pw_or1 (pt_cmpR op_ne (pe_callB call_len_seq (by rfl) hlen PySem.boot_len (pac (pv 2) pa_nil)) pe_int (nomark _))))) (pss_one (ps_ret pe_bl)) pss_nil))))))
      (pss_one (ps_ret (pe_cmpR op_gt (pe_op op_add (pe_callB call_len_seq (by rfl) hlen PySem.boot_len (pac (pe_ix ix_tup (pv 0) pe_int (fun _ _ => rfl)) pa_nil)) (pe_callB call_len_seq (by rfl) hlen PySem.boot_len (pac (pe_ix ix_tup (pv 0) pe_int (fun _ _ => rfl)) pa_nil))) pe_int (nomark _)))))), ?_⟩
    have fvl : fv.length = fs.length := by rw [dF.length, List.length_map]
    have bvl : bv.length = bs.length := by rw [dB.length, List.length_map]
    have hu := hr.units
    refine ⟨_, rfl, _, .tup, .tup, rfl, .tup et, _, rfl, iteF ?_⟩
    refine ⟨_, rfl, p, _, rfl, .inr (SqT.of et), rfl, _, rfl, iteF ?_⟩
    refine ⟨_, rfl, p, rfl, ⟨_, SqT.of et⟩, ?_⟩
    refine for_tup (K := K) (a := p) (xs := [V.ref A, .ref B]) (fun i σ H' => (∃ v1 v2, σ = [some (.ref p), v1, v2]) ∧ Same H H') ⟨⟨_, _, rfl⟩, fun _ _ e => e⟩ (fun i σ H' _ ⟨_, s'⟩ => SqT.of (s' _ _ et)) ?_ ?_
    · rintro i x σ H' hx ⟨⟨v1, v2, rfl⟩, S1⟩
      obtain ⟨M, mv, ms, rfl, eM, dM, sM⟩ : ∃ (M : Addr) (mv : List V) (ms : List Ln), x = .ref M ∧ H M = some (.lst mv) ∧ DtsIs H mv (ms.map lnD) ∧ (ms.map lnD).Pairwise (fun d d' => Dt.blt d' d = false) := by
        match i, hx with
        | 0, hx => cases hx; exact ⟨A, fv, fs, rfl, eF, dF, sF⟩
        | 1, hx => cases hx; exact ⟨B, bv, bs, rfl, eB, dB, sB⟩
        | i + 2, hx => simp at hx
      refine ⟨_, rfl, _, .lst, .lst, rfl, .lst (S1 _ _ eM), _, rfl, iteF ?_⟩
      refine ⟨_, rfl, _, rfl, M, mv, _, "tuple", rfl, SqL.of (S1 _ _ eM), dM.same S1, fun d hd => ?_, fun d hd d' hd' => ?_, fun d hd => ?_, fun l zs es nl pz dz pe srt => ?_⟩
      · obtain ⟨a, _, rfl⟩ := List.mem_map.mp hd
        exact ⟨_, _, rfl, rfl⟩
      · obtain ⟨a, _, rfl⟩ := List.mem_map.mp hd
        obtain ⟨a', _, rfl⟩ := List.mem_map.mp hd'
        exact lnD_like a a'
      · obtain ⟨a, _, rfl⟩ := List.mem_map.mp hd
        rw [lnD_dp]
        exact Nat.lt_of_le_of_lt (Nat.add_le_add_left (show 4 + 2 ≤ 64 by decide) _) hu
      have e : es = ms.map lnD := rise_eq pe srt sM
      subst e
      have T := same_upd (o := HO.lst zs) nl
      have S2 := S1.trans T
      refine ⟨M, l, mv, zs, _, _, rfl, rfl, SqL.of (S2 _ _ eM), SqL.of upd_same, dM.same S2, dz.same T, lndp ms, _, rfl, ?_⟩
      rw [Dt.beqs_self]
      refine iteF ?_
      refine ⟨_, rfl, M, rfl, ⟨_, SqL.of (S2 _ _ eM)⟩, ?_⟩
      revert S2
      generalize upd H' l (HO.lst zs) = H2
      intro S2
      refine for_list (K := K) (a := M) (xs := mv) (fun j σ H'' => (∃ v2, σ = [some (.ref p), some (.ref M), v2]) ∧ H'' = H2) ⟨⟨_, rfl⟩, rfl⟩ (fun j σ H'' _ ⟨_, e⟩ => by rw [e]; exact SqL.of (S2 _ _ eM)) ?_ ?_
      · rintro j y σ H'' hy ⟨⟨v2, rfl⟩, rfl⟩
        obtain ⟨r, x0, y0, a, rfl, ha, er, tx, ty⟩ := ln_at (dM.same S2) hy
        refine ⟨_, rfl, _, .tup, .tup, rfl, .tup er, _, rfl, iteF ?_⟩
        refine ⟨_, rfl, r, _, rfl, .inr (SqT.of er), rfl, _, rfl, iteF ?_⟩
        exact ⟨⟨_, rfl⟩, rfl⟩
      · rintro σ H'' ⟨⟨v2, rfl⟩, rfl⟩
        exact ⟨⟨_, _, rfl⟩, S2⟩
    · rintro σ H' ⟨⟨v1, v2, rfl⟩, S1⟩
      refine ⟨_, rfl, p, _, _, _, rfl, rfl, SqT.of (S1 _ _ et), rfl, A, _, rfl, .inl (SqL.of (S1 _ _ eF)), _, rfl, p, _, _, _, rfl, rfl, SqT.of (S1 _ _ et), rfl, B, _, rfl, .inl (SqL.of (S1 _ _ eB)), _, _, rfl, rfl, _, _, rfl, rfl, ?_⟩
      have e : decide ((0 : Int) < (fv.length : Int) + (bv.length : Int)) = true := decide_eq_true (by omega)
      have := z H' S1
      rw [← e] at this
      exact this
def spHoles (P : Program) (w : World) : Sp := fun vs H Q _ => ∃ (p A B : Addr) (fs bs : List Ln), vs = [.ref p] ∧ WkIs H p A B fs bs ∧ ∀ d kvs H', Same H H' → H d = none → DicV P w H' d kvs → SK kvs (EndOf (fs ++ bs)) → kvs.length ≤ 280 → Q (.ref d) H'
theorem scHoles : FnScope ["_law_piece", "_law_found", "_law_one", "_law_other"] ["_law_piece"] (defScope sHoles) := ⟨rfl, rfl, rfl, by decide +kernel, rfl, by decide +kernel, by decide +kernel⟩
theorem ok_holes {f : Addr} {fd : FuncData} (D : Df K mg "_law_holes" sHoles f fd) : FnOk P w K mg base CX0 1 f fd ["_law_piece"] (spHoles P w) := by
  refine D.F.ok scHoles (fun vs H Q E h => ?_) (fun cdv A outer s H vs Q E hr h => ?_)
  · obtain ⟨p, A, B, fs, bs, rfl, _⟩ := h
    rfl
  · obtain ⟨p, A, B, fs, bs, rfl, ⟨et, ⟨fv, eF, dF⟩, ⟨bv, eB, dB⟩, lf, lb⟩, z⟩ := h
    refine ⟨_, (pss_cons (ps_set (i := 1) scHoles.nd rfl (Or.inl rfl) pe_dnewD)
      (pss_cons (ps_for PassesOwn.never rfl (pi_list (pe_op op_cat (pe_ix ix_tup (pv 0) pe_int (fun _ _ => rfl)) (pe_ix ix_tup (pv 0) pe_int (fun _ _ => rfl)))) (pg_tup rfl (pgs_cons (pg_name (i := 2) scHoles.nd rfl (Or.inl rfl)) (pgs_cons (pg_name (i := 3) scHoles.nd rfl (Or.inl rfl)) pgs_nil))) (pss_cons (ps_dputD hr (pv 1) (pv 2) pe_bl rfl)
      (pss_one (ps_dputD hr (pv 1) (pv 3) pe_bl rfl))))
      (pss_one (ps_ret (pv 1))))), ?_⟩
    have fvl : fv.length = fs.length := by rw [dF.length, List.length_map]
    have bvl : bv.length = bs.length := by rw [dB.length, List.length_map]
    refine fun dA o0 ndA dic0 => ?_
    have S0 := same_upd (o := o0) ndA
    refine ⟨_, rfl, p, _, _, _, rfl, rfl, SqT.of (S0 _ _ et), rfl, _, rfl, p, _, _, _, rfl, rfl, SqT.of (S0 _ _ et), rfl, A, B, fv, bv, rfl, rfl, S0 _ _ eF, S0 _ _ eB, sz (by omega), fun C nC => ?_⟩
    have T3 := same_upd (o := HO.lst (fv ++ bv)) nC
    have dC : DtsIs H (fv ++ bv) ((fs ++ bs).map lnD) := by rw [List.map_append]; exact dapp dF dB
    have S3 := S0.trans T3
    have dic3 := dic0.same T3
    have eC : (upd (upd H dA o0) C (.lst (fv ++ bv))) C = some (.lst (fv ++ bv)) := upd_same
    refine ⟨C, rfl, ⟨_, SqL.of upd_same⟩, ?_⟩
    have hl : (fs ++ bs).length ≤ 140 := by rw [List.length_append]; omega
    have xsl : (fv ++ bv).length = (fs ++ bs).length := by rw [dC.length, List.length_map]
    revert S3 dic3 eC
    generalize (upd (upd H dA o0) C (.lst (fv ++ bv))) = H3
    intro S3 dic3 eC
    revert z dC hl xsl
    generalize fs ++ bs = all
    generalize fv ++ bv = xs at *
    intro z dC hl xsl
    refine for_list (K := K) (a := C) (xs := xs) (fun i σ H4 => (∃ v2 v3, σ = [some (.ref p), some (.ref dA), v2, v3]) ∧ Same H H4 ∧ H4 C = some (.lst xs) ∧ ∃ kvs, DicV P w H4 dA kvs ∧ SK kvs (EndOf (all.take i)))
      ⟨⟨_, _, rfl⟩, S3, eC, [], dic3, SK.nil.congr fun g => by rw [List.take_zero]; exact ⟨fun ⟨_, z, _⟩ => (nomatch z), fun z => z.elim⟩⟩ (fun i σ H4 _ ⟨_, _, e, _⟩ => SqL.of e) ?_ ?_
    · rintro i x σ H4 hx ⟨⟨v2, v3, rfl⟩, S4, eC4, kvs, dic4, sk⟩
      obtain ⟨r, x0, y0, a, rfl, ha, er, tx, ty⟩ := ln_at dC hx
      have hi : i < all.length := (List.getElem?_eq_some_iff.mp ha).1
      have tk : all.take (i + 1) = all.take i ++ [a] := by rw [List.take_add_one, ha]; rfl
      have kl : kvs.length ≤ 280 := Nat.le_trans (sk.len fun g h => h) (by rw [List.length_take]; omega)
      refine ⟨r, _, rfl, SqT.of (S4 _ _ er), rfl, _, _, rfl, _, _, rfl, rfl, ?_⟩
      refine ⟨_, rfl, _, rfl, dA, x0, hD a.1, kvs, rfl, rfl, two_dt (S4 _ _ tx), h8 _, dic4, by omega, fun o1 dic5 => ?_⟩
      obtain ⟨φ, ext⟩ := dic4.ext
      have S5 := same_updN (o := o1) S4 ndA
      have eC5 : (upd H4 dA o1) C = some (.lst xs) := by rw [upd_ne (fun e => by rw [e, ext] at eC4; cases eC4)]; exact eC4
      have sk5 := sk.put a.1 (.bl true) (S' := fun g => g = a.1 ∨ EndOf (all.take i) g) fun g => Iff.rfl
      have pl := putK_len kvs (hD a.1) (.bl true)
      revert S5 eC5 dic5
      generalize upd H4 dA o1 = H5
      intro dic5 S5 eC5
      refine ⟨_, rfl, _, rfl, dA, y0, hD a.2, _, rfl, rfl, two_dt (S5 _ _ ty), h8 _, dic5, by omega, fun o2 dic6 => ?_⟩
      obtain ⟨φ', ext'⟩ := dic5.ext
      refine ⟨⟨_, _, rfl⟩, same_updN S5 ndA, by rw [upd_ne (fun e => by rw [e, ext'] at eC5; cases eC5)]; exact eC5, _, dic6, sk5.put a.2 (.bl true) fun g => ?_⟩
      rw [tk]
      constructor
      · rintro ⟨b, hb, q⟩
        rcases List.mem_append.mp hb with hb | hb
        · exact .inr (.inr ⟨b, hb, q⟩)
        · rw [List.mem_singleton.mp hb] at q
          rcases q with q | q
          · exact .inr (.inl q.symm)
          · exact .inl q.symm
      · rintro (rfl | rfl | ⟨b, hb, q⟩)
        · exact ⟨a, List.mem_append_right _ (List.mem_singleton.mpr rfl), .inr rfl⟩
        · exact ⟨a, List.mem_append_right _ (List.mem_singleton.mpr rfl), .inl rfl⟩
        · exact ⟨b, List.mem_append_left _ hb, q⟩
    · rintro σ H4 ⟨⟨v2, v3, rfl⟩, S4, eC4, kvs, dic4, sk⟩
      rw [List.take_of_length_le (by omega)] at sk
      exact ⟨_, rfl, z dA kvs H4 S4 ndA dic4 sk (Nat.le_trans (sk.len fun g h => h) (by omega))⟩
end
end K33
namespace K33
open PySem PySem.Spec PyProof.Rows L2 BF
seal L2.PE L2.PA L2.PS L2.PSs L2.PT L2.PW L2.PG L2.PGs L2.PI BF.PTs L2.PPs
def nxt (T : List Dt) (ls : List Ln) : List Ln := ls.filter fun a => decide (hD a.1 ∈ T) || decide (hD a.2 ∈ T)
def lft (T : List Dt) (ls : List Ln) : List Ln := ls.filter fun a => !(decide (hD a.1 ∈ T) && decide (hD a.2 ∈ T))
theorem nxt_mem {T : List Dt} {ls : List Ln} {a : Ln} : a ∈ nxt T ls ↔ a ∈ ls ∧ (hD a.1 ∈ T ∨ hD a.2 ∈ T) := by
  unfold nxt
  rw [List.mem_filter, Bool.or_eq_true, decide_eq_true_eq, decide_eq_true_eq]
theorem lft_mem {T : List Dt} {ls : List Ln} {a : Ln} : a ∈ lft T ls ↔ a ∈ ls ∧ ¬ (hD a.1 ∈ T ∧ hD a.2 ∈ T) := by
  unfold lft
  rw [List.mem_filter, Bool.not_eq_true', Bool.and_eq_false_iff, decide_eq_false_iff_not, decide_eq_false_iff_not]
  constructor
  · rintro ⟨h, n | n⟩
    · exact ⟨h, fun q => n q.1⟩
    · exact ⟨h, fun q => n q.2⟩
  · rintro ⟨h, n⟩
    refine ⟨h, ?_⟩
    by_cases c : hD a.1 ∈ T
    · exact .inr fun q => n ⟨c, q⟩
    · exact .inl c
theorem filter_less {p : Ln → Bool} : ∀ {ls : List Ln} {a : Ln}, a ∈ ls → p a = false → (ls.filter p).length < ls.length
  | b :: ls, a, hm, hp => by
    rw [List.filter_cons, List.length_cons]
    have hle := List.length_filter_le p ls
    by_cases c : p b = true
    · rw [if_pos c, List.length_cons]
      rcases List.mem_cons.mp hm with rfl | hm
      · rw [hp] at c; cases c
      · have := filter_less hm hp
        omega
    · rw [if_neg c]
      omega
structure HgI (all : List Ln) (h0 : Ho) (T : List Dt) (left : List Ln) : Prop where
  st : hD h0 ∈ T
  sub : ∀ a ∈ left, a ∈ all
  done : ∀ a ∈ all, a ∈ left ∨ (hD a.1 ∈ T ∧ hD a.2 ∈ T)
  con : ∀ a ∈ all, Cn all h0 a.1
theorem HgI.go {all left : List Ln} {h0 : Ho} {T : List Dt} (k : HgI all h0 T left) (ne : left ≠ []) : nxt T left ≠ [] := fun e => by
  have out : ∀ a ∈ left, ¬ (hD a.1 ∈ T ∨ hD a.2 ∈ T) := fun a ha q => by
    have : a ∈ nxt T left := nxt_mem.mpr ⟨ha, q⟩
    rw [e] at this
    cases this
  obtain ⟨b, hb⟩ := List.exists_mem_of_ne_nil left ne
  have stay := Cn.stay (S := fun h => hD h ∈ T) (ls := all) (fun a ha => by
    rcases k.done a ha with h | ⟨h1, h2⟩
    · have := out a h
      exact ⟨fun q => absurd (.inl q) this, fun q => absurd (.inr q) this⟩
    · exact ⟨fun _ => h2, fun _ => h1⟩) (k.con b (k.sub b hb)) k.st
  exact out b hb (.inl stay)
theorem HgI.step {all left : List Ln} {h0 : Ho} {T T' : List Dt} (k : HgI all h0 T left) (hT : ∀ e, e ∈ T → e ∈ T') (hN : ∀ a ∈ nxt T left, hD a.1 ∈ T' ∧ hD a.2 ∈ T') : HgI all h0 T' (lft T' left) :=
  ⟨hT _ k.st, fun a ha => k.sub a (lft_mem.mp ha).1, fun a ha => by
    by_cases c : hD a.1 ∈ T' ∧ hD a.2 ∈ T'
    · exact .inr c
    · rcases k.done a ha with h | ⟨h1, h2⟩
      · exact .inl (lft_mem.mpr ⟨h, c⟩)
      · exact absurd ⟨hT _ h1, hT _ h2⟩ c, k.con⟩
theorem HgI.less {left : List Ln} {T T' : List Dt} (ne : nxt T left ≠ []) (hN : ∀ a ∈ nxt T left, hD a.1 ∈ T' ∧ hD a.2 ∈ T') : (lft T' left).length < left.length := by
  obtain ⟨b, hb⟩ := List.exists_mem_of_ne_nil _ ne
  refine filter_less (nxt_mem.mp hb).1 ?_
  obtain ⟨h1, h2⟩ := hN b hb
  rw [decide_eq_true h1, decide_eq_true h2]
  rfl
section
variable {P : Program} {w : World} {K : PySem.W.Frag} {mg : Str → Option Value} {base : Heap}
def KeyOk (all : List Ln) (kvs : List (Dt × V)) : Prop := (kvs.map (·.1)).Nodup ∧ ∀ e ∈ kvs.map (·.1), ∃ h, EndOf all h ∧ hD h = e
theorem KeyOk.len {all : List Ln} {kvs : List (Dt × V)} (k : KeyOk all kvs) : kvs.length ≤ 2 * all.length := by
  have := valV_len (kvs := kvs) (ks := endsL all) k.1 fun e he => by
    obtain ⟨g, s, e'⟩ := k.2 e he
    exact ⟨g, endsL_mem.mpr s, e'⟩
  have hl : (endsL all).length = 2 * all.length := by
    unfold endsL
    rw [List.length_append, List.length_map, List.length_map]
    omega
  omega
theorem KeyOk.put {all : List Ln} {kvs : List (Dt × V)} (k : KeyOk all kvs) {h : Ho} (hh : EndOf all h) (v : V) : KeyOk all (putK kvs (hD h) v) := ⟨putK_nd _ _ _ k.1, fun e he => by
  rcases (putK_mem _ _ _ e).mp he with rfl | he
  · exact ⟨h, hh, rfl⟩
  · exact k.2 e he⟩
def spHangs : Sp := fun vs H Q _ => ∃ (p A B : Addr) (fs bs : List Ln), vs = [.ref p] ∧ WkIs H p A B fs bs ∧ 0 < fs.length + bs.length ∧ (∀ a ∈ fs ++ bs, ∀ b ∈ fs ++ bs, Cn (fs ++ bs) a.1 b.1) ∧ ∀ H', Same H H' → Q (.bl true) H'
theorem scHangs : FnScope ["_law_piece", "_law_left", "_law_come", "_law_next_ones", "_law_ends_here"] ["_law_piece"] (defScope sHangs) := ⟨rfl, rfl, rfl, by decide +kernel, rfl, by decide +kernel, by decide +kernel⟩
theorem ok_hangs {f : Addr} {fd : FuncData} (D : Df K mg "_law_hangs" sHangs f fd) : FnOk P w K mg base CX0 1 f fd ["_law_piece"] spHangs := by
  refine D.F.ok scHangs (fun vs H Q E h => ?_) (fun cdv A outer s H vs Q E hr h => ?_)
  · obtain ⟨p, A, B, fs, bs, rfl, _⟩ := h
    rfl
  · obtain ⟨p, A, B, fs, bs, rfl, ⟨et, ⟨fv, eF, dF⟩, ⟨bv, eB, dB⟩, lf, lb⟩, hpos, hcon, z⟩ := h
    refine ⟨_, (pss_cons (ps_set (i := 1) scHangs.nd rfl (Or.inl rfl) (pe_op op_cat (pe_ix ix_tup (pv 0) pe_int (fun _ _ => rfl)) (pe_ix ix_tup (pv 0) pe_int (fun _ _ => rfl))))
      (pss_cons (ps_set (i := 2) scHangs.nd rfl (Or.inr rfl) (pe_dTwo hr (pe_ix ix_tup (pe_ix ix_list (pv 1) pe_int (fun _ _ => rfl)) pe_int (fun _ _ => rfl)) pe_bl (pe_ix ix_tup (pe_ix ix_list (pv 1) pe_int (fun _ _ => rfl)) pe_int (fun _ _ => rfl)) pe_bl))
      (pss_cons (ps_while PassesOwn.never (pt_cmpR (op_neL hr) (pv 1) (pe_lst pa_nil) (nomark _)) (pss_cons (ps_setComp (k := 3) (tt := tOr (tTest (tOp (rInD P w) (tOp (rIxT K) (tVar 0) (tC (.int 0))) (tVar 1))) (tTest (tOp (rInD P w) (tOp (rIxT K) (tVar 0) (tC (.int 1))) (tVar 1)))) (N' := ["_law_ends_here", "_law_come"]) (idx := [none, some 2]) scHangs.nd rfl (Or.inl rfl) (Or.inr rfl) rfl (compOk_of (by kernel_rfl)) (by kernel_rfl) rfl (pi_list (pv 1))
              (fun _ _ _ _ _ => pg_name (i := 0) (show (["_law_ends_here", "_law_come"] : List Str).Nodup by decide +kernel) rfl (Or.inl rfl)) (fun _ _ _ _ _ => pts_one (PW.pt (pw_or (pt_cmpR (op_inD hr) (pe_ix ix_tup (pv 0) pe_int (fun _ _ => rfl)) (pv 1) rfl) (pw_or1 (pt_cmpR (op_inD hr) (pe_ix ix_tup (pv 0) pe_int (fun _ _ => rfl)) (pv 1) rfl))))) (fun _ _ _ _ _ => pv 0))
      (pss_cons (ps_if (pt_cmpR (op_eqL hr) (pv 3) (pe_lst pa_nil) (nomark _)) (pss_one (ps_ret pe_bl)) pss_nil)
      (pss_cons (ps_for PassesOwn.never rfl (pi_list (pv 3)) (pg_name (i := 4) scHangs.nd rfl (Or.inl rfl)) (pss_cons (ps_dputD hr (pv 2) (pe_ix ix_tup (pv 4) pe_int (fun _ _ => rfl)) pe_bl rfl)
      (pss_one (ps_dputD hr (pv 2) (pe_ix ix_tup (pv 4) pe_int (fun _ _ => rfl)) pe_bl rfl))))
      (pss_one (ps_setComp (k := 1) (tt := tNot (tAnd (tTest (tOp (rInD P w) (tOp (rIxT K) (tVar 0) (tC (.int 0))) (tVar 1))) (tTest (tOp (rInD P w) (tOp (rIxT K) (tVar 0) (tC (.int 1))) (tVar 1))))) (N' := ["_law_ends_here", "_law_come"]) (idx := [none, some 2]) scHangs.nd rfl (Or.inl rfl) (Or.inr rfl) rfl (compOk_of (by kernel_rfl)) (by kernel_rfl) rfl (pi_list (pv 1))
              (fun _ _ _ _ _ => pg_name (i := 0) (show (["_law_ends_here", "_law_come"] : List Str).Nodup by decide +kernel) rfl (Or.inl rfl)) (fun _ _ _ _ _ => pts_one (pt_not (PW.pt (pw_and (pt_cmpR (op_inD hr) (pe_ix ix_tup (pv 0) pe_int (fun _ _ => rfl)) (pv 1) rfl) (pw_and1 (pt_cmpR (op_inD hr) (pe_ix ix_tup (pv 0) pe_int (fun _ _ => rfl)) (pv 1) rfl)))))) (fun _ _ _ _ _ => pv 0)))))))
      (pss_one (ps_ret pe_bl))))), ?_⟩
    have fvl : fv.length = fs.length := by rw [dF.length, List.length_map]
    have bvl : bv.length = bs.length := by rw [dB.length, List.length_map]
    refine ⟨_, rfl, p, _, _, _, rfl, rfl, SqT.of et, rfl, _, rfl, p, _, _, _, rfl, rfl, SqT.of et, rfl, A, B, fv, bv, rfl, rfl, eF, eB, sz (by omega), fun C nC => ?_⟩
    have T0 := same_upd (o := HO.lst (fv ++ bv)) nC
    have dC : DtsIs H (fv ++ bv) ((fs ++ bs).map lnD) := by rw [List.map_append]; exact dapp dF dB
    have dC1 := dC.same T0
    have hl : (fs ++ bs).length ≤ 140 := by rw [List.length_append]; omega
    have hne : 0 < (fs ++ bs).length := by rw [List.length_append]; exact hpos
    have eC : (upd H C (.lst (fv ++ bv))) C = some (.lst (fv ++ bv)) := upd_same
    revert T0 dC1 eC hcon hl hne
    generalize (upd H C (.lst (fv ++ bv))) = H1
    generalize fs ++ bs = all
    generalize fv ++ bv = cv
    intro hcon T0 dC1 hl hne eC
    have cvl : cv.length = all.length := by rw [dC1.length, List.length_map]
    obtain ⟨r0, x0, y0, a0, hc0, ha0, er0, tx0, ty0⟩ := ln_at dC1 (i := 0) (v := cv[0]'(by omega)) (List.getElem?_eq_getElem (by omega))
    have hc0' : cv[0]? = some (.ref r0) := by rw [← hc0]; exact List.getElem?_eq_getElem (by omega)
    have hm0 : a0 ∈ all := List.mem_of_getElem? ha0
    refine fun dA o0 ndA dic0 => ?_
    have TA := same_upd (o := o0) ndA
    refine ⟨_, rfl, C, _, _, .ref r0, rfl, rfl, SqL.of (TA _ _ eC), atI_nat (j := 0) hc0', r0, _, _, .ref x0, rfl, rfl, SqT.of (TA _ _ er0), rfl, _, rfl, C, _, _, .ref r0, rfl, rfl, SqL.of (TA _ _ eC), atI_nat (j := 0) hc0', r0, _, _, .ref y0, rfl, rfl, SqT.of (TA _ _ er0), rfl, x0, y0, hD a0.1, hD a0.2, rfl, rfl, two_dt (TA _ _ tx0), two_dt (TA _ _ ty0), h8 _, h8 _, dic0, fun o1 o2 dic2 => ?_⟩
    have S2 : Same H1 (upd (upd (upd H1 dA o0) dA o1) dA o2) := same_updN (same_updN TA ndA) ndA
    revert S2 dic2
    generalize (upd (upd (upd H1 dA o0) dA o1) dA o2) = H2
    intro dic2 S2
    have ko0 : KeyOk all [(hD a0.1, V.bl true)] := ⟨List.pairwise_singleton _ _, fun e he => ⟨a0.1, ⟨a0, hm0, .inl rfl⟩, (List.mem_singleton.mp he).symm⟩⟩
    have ko := ko0.put (h := a0.2) ⟨a0, hm0, .inr rfl⟩ (.bl true)
    have hg0 : HgI all a0.1 ((putK [(hD a0.1, V.bl true)] (hD a0.2) (.bl true)).map (·.1)) all := ⟨(putK_mem _ _ _ _).mpr (.inr (List.mem_singleton.mpr rfl)), fun _ h => h, fun a ha => .inl ha, fun a ha => hcon a0 hm0 a ha⟩
    have hdA : H dA = none := none_same T0 ndA
    have Sup : ∀ {H' : Hp} {o : HO}, Same H1 H' → Same H1 (upd H' dA o) := fun s => same_updN s ndA
    refine ⟨fun m σ H5 => ∃ (lfA : Addr) (left : List Ln) (v3 v4 : Option V) (kvs : List (Dt × V)), σ = [some (.ref p), some (.ref lfA), some (.ref dA), v3, v4] ∧ Same H1 H5 ∧ DtL H5 lfA (left.map lnD) ∧ left.length ≤ 140 ∧ DicV P w H5 dA kvs ∧ KeyOk all kvs ∧ HgI all a0.1 (kvs.map (·.1)) left ∧ m = left.length,
      ⟨_, C, all, _, _, _, rfl, S2, ⟨cv, S2 _ _ eC, dC1.same S2⟩, hl, dic2, ko, hg0, rfl⟩, ?_⟩
    rintro m σ H5 ⟨lfA, left, v3, v4, kvs, rfl, S5, ⟨lv, eL, dL⟩, ll, dic5, ko5, hg, rfl⟩
    have lvl : lv.length = left.length := by rw [dL.length, List.length_map]
    refine ⟨_, rfl, szr rfl, fun En nEn => ?_⟩
    have TE := same_upd (o := HO.lst []) nEn
    have eL1 := TE _ _ eL
    refine ⟨lfA, En, lv, [], left.map lnD, [], rfl, rfl, SqL.of eL1, SqL.of upd_same, dL.same TE, .nil, lndp left, _, rfl, ?_⟩
    have S6 := S5.trans TE
    have dL6 := dL.same TE
    have dic6 := dic5.same TE
    revert S6 eL1 dL6 dic6
    generalize (upd H5 En (.lst [])) = H6
    intro eL6 S6 dL6 dic6
    by_cases hleft : left = []
    · subst hleft
      exact iteF (z H6 (T0.trans S6))
    have hbe : (!Dt.beqs (left.map lnD) []) = true := by
      cases left with
      | nil => exact absurd rfl hleft
      | cons a l => rfl
    refine ifB_pos hbe ?_
    refine ⟨fun σ H7 => ∃ m', m' < left.length ∧ ∃ (lfA : Addr) (left : List Ln) (v3 v4 : Option V) (kvs : List (Dt × V)), σ = [some (.ref p), some (.ref lfA), some (.ref dA), v3, v4] ∧ Same H1 H7 ∧ DtL H7 lfA (left.map lnD) ∧ left.length ≤ 140 ∧ DicV P w H7 dA kvs ∧ KeyOk all kvs ∧ HgI all a0.1 (kvs.map (·.1)) left ∧ m' = left.length, fun _ _ n => n, ?_⟩
    have hnx := hg.go hleft
    refine ⟨_, rfl, lfA, rfl, ⟨_, SqL.of eL6⟩, fun N nN => ?_⟩
    refine comp_n (J := Itl K lfA) (n := lv.length) (fun i σ2 H9 => (∃ v0, σ2 = [v0, some (.ref dA)]) ∧ Same H6 H9 ∧ DtL H9 N ((nxt (kvs.map (·.1)) (left.take i)).map lnD)) ?_ ?_ ?_ ?_
    · exact ⟨⟨_, rfl⟩, same_upd nN, [], upd_same, by rw [List.take_zero]; exact .nil⟩
    · rintro i σ2 H9 hi ⟨⟨v0, rfl⟩, S9, _⟩
      exact ⟨lv, _, SqL.of (S9 _ _ eL6), List.getElem?_eq_getElem hi⟩
    · rintro σ2 H9 ⟨⟨v0, rfl⟩, S9, nv, eN, dN⟩
      rw [List.take_of_length_le (by omega)] at dN
      refine ⟨⟨lv, SqL.of (S9 _ _ eL6), Nat.le_refl _⟩, ?_⟩
      have nvl : nv.length = (nxt (kvs.map (·.1)) left).length := by rw [dN.length, List.length_map]
      refine ⟨_, rfl, szr rfl, fun E2 nE2 => ?_⟩
      have T10 := same_upd (o := HO.lst []) nE2
      refine ⟨N, E2, nv, [], _, [], rfl, rfl, SqL.of (T10 _ _ eN), SqL.of upd_same, dN.same T10, .nil, lndp _, _, rfl, ?_⟩
      have hbn : Dt.beqs ((nxt (kvs.map (·.1)) left).map lnD) [] = false := by
        revert hnx
        generalize nxt (kvs.map (·.1)) left = nn
        intro hnx
        cases nn with
        | nil => exact absurd rfl hnx
        | cons a l => rfl
      refine ifB_neg hbn ?_
      have S10 := S9.trans T10
      have eN10 := T10 _ _ eN
      have dN10 := dN.same T10
      have dic10 := dic6.same S10
      have eL10 := S10 _ _ eL6
      have dL10 := dL6.same S10
      have S110 := S6.trans S10
      refine ⟨_, rfl, N, rfl, ⟨_, SqL.of eN10⟩, ?_⟩
      revert S110 eN10 dN10 dic10 eL10 dL10
      generalize upd H9 E2 (HO.lst []) = H10
      intro eN10 dN10 dic10 eL10 dL10 S110
      refine for_list (K := K) (a := N) (xs := nv) (fun j σ Hj => (∃ v4, σ = [some (.ref p), some (.ref lfA), some (.ref dA), some (.ref N), v4]) ∧ Same H1 Hj ∧ Hj N = some (.lst nv) ∧ DtsIs Hj nv ((nxt (kvs.map (·.1)) left).map lnD) ∧ Hj lfA = some (.lst lv) ∧ DtsIs Hj lv (left.map lnD) ∧ ∃ kvs', DicV P w Hj dA kvs' ∧ KeyOk all kvs' ∧ (∀ e, e ∈ kvs.map (·.1) → e ∈ kvs'.map (·.1)) ∧ ∀ a ∈ (nxt (kvs.map (·.1)) left).take j, hD a.1 ∈ kvs'.map (·.1) ∧ hD a.2 ∈ kvs'.map (·.1))
        ⟨⟨_, rfl⟩, S110, eN10, dN10, eL10, dL10, kvs, dic10, ko5, fun _ h => h, by rw [List.take_zero]; exact fun _ h => nomatch h⟩ (fun j σ Hj _ ⟨_, _, e, _⟩ => SqL.of e) ?_ ?_
      · rintro j y σ Hj hy ⟨⟨v4, rfl⟩, Sj, eNj, dNj, eLj, dLj, kvj, dicj, koj, subj, memj⟩
        obtain ⟨r, x1, y1, a, rfl, ha, er, tx, ty⟩ := ln_at dNj hy
        have haA : a ∈ all := hg.sub a (nxt_mem.mp (List.mem_of_getElem? ha)).1
        have tk : (nxt (kvs.map (·.1)) left).take (j + 1) = (nxt (kvs.map (·.1)) left).take j ++ [a] := by rw [List.take_add_one, ha]; rfl
        have kl := koj.len
        refine ⟨_, rfl, _, rfl, r, _, _, _, rfl, rfl, SqT.of er, rfl, dA, x1, hD a.1, kvj, rfl, rfl, two_dt tx, h8 _, dicj, by omega, fun o3 dic3 => ?_⟩
        obtain ⟨φ, ext⟩ := dicj.ext
        have upX : ∀ {c : Addr} {v : HO}, Hj c = some v → (∀ ψ, v ≠ .ext ψ) → (upd Hj dA o3) c = some v := fun {c v} hc hv => by
          rw [upd_ne (fun e => by rw [e, ext] at hc; exact hv φ (Option.some.inj hc).symm)]
          exact hc
        have ko3 := koj.put (h := a.1) ⟨a, haA, .inl rfl⟩ (.bl true)
        have er3 := upX er (fun _ zz => nomatch zz)
        have tx3 : two (upd Hj dA o3) x1 a.1 := upX tx (fun _ zz => nomatch zz)
        have ty3 : two (upd Hj dA o3) y1 a.2 := upX ty (fun _ zz => nomatch zz)
        have S3 := Sup (o := o3) Sj
        have eN3 := upX eNj (fun _ zz => nomatch zz)
        have eL3 := upX eLj (fun _ zz => nomatch zz)
        have dN3 := dNj.updX (o := o3) ext
        have dL3 := dLj.updX (o := o3) ext
        revert dic3 er3 tx3 ty3 S3 eN3 eL3 dN3 dL3
        generalize upd Hj dA o3 = H3
        intro dic3 er3 tx3 ty3 S3 eN3 eL3 dN3 dL3
        have kl3 := ko3.len
        refine ⟨_, rfl, _, rfl, r, _, _, _, rfl, rfl, SqT.of er3, rfl, dA, y1, hD a.2, _, rfl, rfl, two_dt ty3, h8 _, dic3, by omega, fun o4 dic4 => ?_⟩
        obtain ⟨φ', ext'⟩ := dic3.ext
        have upY : ∀ {c : Addr} {v : HO}, H3 c = some v → (∀ ψ, v ≠ .ext ψ) → (upd H3 dA o4) c = some v := fun {c v} hc hv => by
          rw [upd_ne (fun e => by rw [e, ext'] at hc; exact hv φ' (Option.some.inj hc).symm)]
          exact hc
        refine ⟨⟨_, rfl⟩, Sup S3, upY eN3 (fun _ zz => nomatch zz), dN3.updX ext', upY eL3 (fun _ zz => nomatch zz), dL3.updX ext', _, dic4, ko3.put ⟨a, haA, .inr rfl⟩ _, fun e he => (putK_mem _ _ _ _).mpr (.inr ((putK_mem _ _ _ _).mpr (.inr (subj e he)))), fun b hb => ?_⟩
        rw [tk] at hb
        rcases List.mem_append.mp hb with hb | hb
        · obtain ⟨q1, q2⟩ := memj b hb
          exact ⟨(putK_mem _ _ _ _).mpr (.inr ((putK_mem _ _ _ _).mpr (.inr q1))), (putK_mem _ _ _ _).mpr (.inr ((putK_mem _ _ _ _).mpr (.inr q2)))⟩
        · rw [List.mem_singleton.mp hb]
          exact ⟨(putK_mem _ _ _ _).mpr (.inr ((putK_mem _ _ _ _).mpr (.inl rfl))), (putK_mem _ _ _ _).mpr (.inl rfl)⟩
      · rintro σ Hj ⟨⟨v4, rfl⟩, Sj, eNj, dNj, eLj, dLj, kvj, dicj, koj, subj, memj⟩
        rw [List.take_of_length_le (by omega)] at memj
        refine ⟨_, rfl, lfA, rfl, ⟨_, SqL.of eLj⟩, fun R nR => ?_⟩
        refine comp_n (J := Itl K lfA) (n := lv.length) (fun i σ2 Hk => (∃ v0, σ2 = [v0, some (.ref dA)]) ∧ Same Hj Hk ∧ DtL Hk R ((lft (kvj.map (·.1)) (left.take i)).map lnD)) ?_ ?_ ?_ ?_
        · exact ⟨⟨_, rfl⟩, same_upd nR, [], upd_same, by rw [List.take_zero]; exact .nil⟩
        · rintro i σ2 Hk hi ⟨⟨v0, rfl⟩, Sk, _⟩
          exact ⟨lv, _, SqL.of (Sk _ _ eLj), List.getElem?_eq_getElem hi⟩
        · rintro σ2 Hk ⟨⟨v0, rfl⟩, Sk, hR⟩
          rw [List.take_of_length_le (by omega)] at hR
          have lt := HgI.less hnx memj
          exact ⟨⟨lv, SqL.of (Sk _ _ eLj), Nat.le_refl _⟩, _, lt, R, _, _, _, kvj, rfl, Sj.trans Sk, hR, by omega, dicj.same Sk, koj, hg.step subj memj, rfl⟩
        · rintro i σ2 Hk hi ⟨⟨v0, rfl⟩, Sk, ys, eR, dR⟩ x Hx ⟨rfl, hx⟩
          have hx := hx lv (SqL.of (Sk _ _ eLj))
          obtain ⟨r, x1, y1, a, rfl, ha, er, tx, ty⟩ := ln_at (dLj.same Sk) hx
          have tk : left.take (i + 1) = left.take i ++ [a] := by rw [List.take_add_one, ha]; rfl
          have yl : ys.length ≤ 140 := by
            rw [dR.length, List.length_map]
            refine Nat.le_trans (List.length_filter_le _ _) ?_
            rw [List.length_take]
            omega
          obtain ⟨xsL, dicL, kdL⟩ := id (dicj.same Sk)
          have key : ∀ h : Ho, decide (hD h ∈ xsL.map (·.1)) = decide (hD h ∈ kvj.map (·.1)) := fun h => by rw [kdL.keys]
          have sn : lft (kvj.map (·.1)) (left.take (i + 1)) = lft (kvj.map (·.1)) (left.take i) ++ (if (!(decide (hD a.1 ∈ kvj.map (·.1)) && decide (hD a.2 ∈ kvj.map (·.1)))) = true then [a] else []) := by
            unfold lft
            rw [tk, List.filter_append, List.filter_cons, List.filter_nil]
          have keep : (!(decide (hD a.1 ∈ kvj.map (·.1)) && decide (hD a.2 ∈ kvj.map (·.1)))) = true → ∀ σ2', (∃ v0, σ2' = [v0, some (V.ref dA)]) → ∃ ys', Hx R = some (.lst ys') ∧ ys'.length < sizeLine ∧ ((∃ v0, σ2' = [v0, some (V.ref dA)]) ∧ Same Hj (upd Hx R (.lst (ys' ++ [.ref r]))) ∧ DtL (upd Hx R (.lst (ys' ++ [.ref r]))) R ((lft (kvj.map (·.1)) (left.take (i + 1))).map lnD)) := fun hc σ2' hσ => by
            refine ⟨ys, eR, small1000 (by omega), hσ, same_updN Sk nR, _, upd_same, ?_⟩
            rw [sn, if_pos hc, List.map_append]
            exact (dR.updL eR).snoc ((ln_dt er tx ty).updL eR)
          have drop : (!(decide (hD a.1 ∈ kvj.map (·.1)) && decide (hD a.2 ∈ kvj.map (·.1)))) = false → DtL Hx R ((lft (kvj.map (·.1)) (left.take (i + 1))).map lnD) := fun hc => by
            rw [sn, hc, if_neg Bool.false_ne_true, List.append_nil]
            exact ⟨ys, eR, dR⟩
          refine ⟨_, rfl, r, _, _, _, rfl, rfl, SqT.of er, rfl, _, rfl, x1, dA, hD a.1, xsL, rfl, rfl, two_dt tx, h8 _, dicL, _, rfl, ?_⟩
          rw [key]
          by_cases h1 : hD a.1 ∈ kvj.map (·.1)
          · refine ifB_pos (decide_eq_true h1) ?_
            refine ⟨_, rfl, r, _, _, _, rfl, rfl, SqT.of er, rfl, _, rfl, y1, dA, hD a.2, xsL, rfl, rfl, two_dt ty, h8 _, dicL, _, rfl, ?_⟩
            rw [key]
            by_cases h2 : hD a.2 ∈ kvj.map (·.1)
            · refine ifB_neg (by rw [decide_eq_true h2]; rfl) ⟨⟨_, rfl⟩, Sk, drop (by rw [decide_eq_true h1, decide_eq_true h2]; rfl)⟩
            · refine ifB_pos (by rw [decide_eq_false h2]; rfl) ⟨_, rfl, keep (by rw [decide_eq_false h2, Bool.and_false]; rfl) _ ⟨_, rfl⟩⟩
          · refine ifB_neg (decide_eq_false h1) ?_
            refine ifB_pos rfl ⟨_, rfl, keep (by rw [decide_eq_false h1]; rfl) _ ⟨_, rfl⟩⟩
    · rintro i σ2 H9 hi ⟨⟨v0, rfl⟩, S9, ys, eN, dN⟩ x Hx ⟨rfl, hx⟩
      have hx := hx lv (SqL.of (S9 _ _ eL6))
      obtain ⟨r, x1, y1, a, rfl, ha, er, tx, ty⟩ := ln_at (dL6.same S9) hx
      have tk : left.take (i + 1) = left.take i ++ [a] := by rw [List.take_add_one, ha]; rfl
      have yl : ys.length ≤ 140 := by
        rw [dN.length, List.length_map]
        refine Nat.le_trans (List.length_filter_le _ _) ?_
        rw [List.length_take]
        omega
      obtain ⟨xsL, dicL, kdL⟩ := id (dic6.same S9)
      have key : ∀ h : Ho, decide (hD h ∈ xsL.map (·.1)) = decide (hD h ∈ kvs.map (·.1)) := fun h => by rw [kdL.keys]
      have sn : nxt (kvs.map (·.1)) (left.take (i + 1)) = nxt (kvs.map (·.1)) (left.take i) ++ (if (decide (hD a.1 ∈ kvs.map (·.1)) || decide (hD a.2 ∈ kvs.map (·.1))) = true then [a] else []) := by
        unfold nxt
        rw [tk, List.filter_append, List.filter_cons, List.filter_nil]
      have keep : (decide (hD a.1 ∈ kvs.map (·.1)) || decide (hD a.2 ∈ kvs.map (·.1))) = true → ∀ σ2', (∃ v0, σ2' = [v0, some (V.ref dA)]) → ∃ ys', Hx N = some (.lst ys') ∧ ys'.length < sizeLine ∧ ((∃ v0, σ2' = [v0, some (V.ref dA)]) ∧ Same H6 (upd Hx N (.lst (ys' ++ [.ref r]))) ∧ DtL (upd Hx N (.lst (ys' ++ [.ref r]))) N ((nxt (kvs.map (·.1)) (left.take (i + 1))).map lnD)) := fun hc σ2' hσ => by
        refine ⟨ys, eN, small1000 (by omega), hσ, same_updN S9 nN, _, upd_same, ?_⟩
        rw [sn, if_pos hc, List.map_append]
        exact (dN.updL eN).snoc ((ln_dt er tx ty).updL eN)
      refine ⟨_, rfl, r, _, _, _, rfl, rfl, SqT.of er, rfl, _, rfl, x1, dA, hD a.1, xsL, rfl, rfl, two_dt tx, h8 _, dicL, _, rfl, ?_⟩
      rw [key]
      by_cases h1 : hD a.1 ∈ kvs.map (·.1)
      · refine ifB_pos (decide_eq_true h1) (iteT ⟨_, rfl, keep (by rw [decide_eq_true h1]; rfl) _ ⟨_, rfl⟩⟩)
      · refine ifB_neg (decide_eq_false h1) ?_
        refine ⟨_, rfl, r, _, _, _, rfl, rfl, SqT.of er, rfl, _, rfl, y1, dA, hD a.2, xsL, rfl, rfl, two_dt ty, h8 _, dicL, _, rfl, ?_⟩
        rw [key]
        by_cases h2 : hD a.2 ∈ kvs.map (·.1)
        · exact ifB_pos (decide_eq_true h2) ⟨_, rfl, keep (by rw [decide_eq_true h2, Bool.or_true]) _ ⟨_, rfl⟩⟩
        · refine ifB_neg (decide_eq_false h2) ⟨⟨_, rfl⟩, S9, ?_⟩
          rw [sn, decide_eq_false h1, decide_eq_false h2, if_neg (by decide), List.append_nil]
          exact ⟨ys, eN, dN⟩
end
end K33
namespace K33
open PySem PySem.Spec PyProof.Rows L2 BF
seal L2.PE L2.PA L2.PS L2.PSs L2.PT L2.PW L2.PG L2.PGs L2.PI BF.PTs L2.PPs
theorem dicv_keep {P : Program} {w : World} {H H' : Hp} {b : Addr} {kvs : List (Dt × V)} (d : DicV P w H b kvs) (hb : ∀ o, H b = some o → H' b = some o) (k : ∀ a xs, H a = some (.tup xs) → H' a = some (.tup xs)) : DicV P w H' b kvs := by
  obtain ⟨xs, dic, kd⟩ := d
  exact ⟨xs, ⟨hb _ dic.at_, dic.sys, dic.len, fun x hx => ⟨DtIs.keep k (dic.key x hx).1, (dic.key x hx).2⟩⟩, kd⟩
structure Cls (L : Ho → Option Ho) (all : List Ln) (fr : List Ho) : Prop where
  nd : fr.Nodup
  srt : (fr.map hD).Pairwise (fun d d' => Dt.blt d' d = false)
  mem : ∀ f, f ∈ fr ↔ L f = some f
  lst : ∀ h g, L h = some g → Dt.blt (hD h) (hD g) = false
  ends : ∀ h, L h ≠ none ↔ EndOf all h
  len : all.length ≤ 140
theorem Cls.rise {L : Ho → Option Ho} {all : List Ln} {fr : List Ho} (k : Cls L all fr) {i : Nat} {f g : Ho} (e1 : fr[i]? = some g) (e2 : fr[i + 1]? = some f) : Dt.blt (hD g) (hD f) = true := by
  obtain ⟨h1, g1⟩ := List.getElem?_eq_some_iff.mp e1
  obtain ⟨h2, g2⟩ := List.getElem?_eq_some_iff.mp e2
  have s := List.pairwise_iff_getElem.mp k.srt i (i + 1) (by simpa using h1) (by simpa using h2) (Nat.lt_succ_self _)
  rw [List.getElem_map, List.getElem_map, g1, g2] at s
  have n := List.pairwise_iff_getElem.mp k.nd i (i + 1) h1 h2 (Nat.lt_succ_self _)
  rw [g1, g2] at n
  cases hb : Dt.blt (hD g) (hD f) with
  | true => rfl
  | false => exact absurd (hD_inj (Dt.tot _ _ hb s)) n
def LstOk (fr : List Ho) (H : Hp) : Nat → Option V → Prop
  | 0, v => v = some .non
  | j + 1, v => ∃ q g, fr[j]? = some g ∧ v = some (.ref q) ∧ two H q g
theorem LstOk.keep {fr : List Ho} {H H' : Hp} (k : ∀ a xs, H a = some (.tup xs) → H' a = some (.tup xs)) : ∀ {i : Nat} {v : Option V}, LstOk fr H i v → LstOk fr H' i v
  | 0, _, h => h
  | _ + 1, _, ⟨q, g, e, ev, t⟩ => ⟨q, g, e, ev, k _ _ t⟩
section
variable {P : Program} {w : World} {K : PySem.W.Frag} {mg : Str → Option Value} {base : Heap}
def spApart : Sp := fun vs H Q _ => ∃ (l : Addr) (ps : List Addr) (fr : List Ho) (L : Ho → Option Ho) (all : List Ln), vs = [.ref l] ∧ H l = some (.lst (ps.map V.ref)) ∧ ps.length = fr.length ∧ Cls L all fr ∧ (∀ (i : Nat) p f, ps[i]? = some p → fr[i]? = some f → ∃ A B gs bs, WkIs H p A B gs bs ∧ ∀ h, EndOf (gs ++ bs) h ↔ L h = some f) ∧ ∀ H', Same H H' → Q (.bl true) H'
theorem scApart : FnScope ["_law_some", "_law_seen", "_law_least", "_law_piece", "_law_holes_here", "_law_hole"] ["_law_some"] (defScope sApart) := ⟨rfl, rfl, rfl, by decide +kernel, rfl, by decide +kernel, by decide +kernel⟩
theorem ok_apart {f fH : Addr} {fd fdH : FuncData} (D : Df K mg "_law_apart" sApart f fd) (DH : Df K mg "_law_holes" sHoles fH fdH) (bH : Binds K fdH ["_law_piece"] []) (GH : FnOk P w K mg base CX0 1 fH fdH ["_law_piece"] (spHoles P w)) (hmin : mg "min" = none) : FnOk P w K mg base CX0 2 f fd ["_law_some"] spApart := by
  refine D.F.ok scApart (fun vs H Q E h => ?_) (fun cdv A outer s H vs Q E hr h => ?_)
  · obtain ⟨l, ps, fr, L, all, rfl, _⟩ := h
    rfl
  · obtain ⟨l, ps, fr, L, all, rfl, el, pl, cl, hp, z⟩ := h
    refine ⟨_, (pss_cons (ps_set (i := 1) scApart.nd rfl (Or.inl rfl) pe_dnewD)
      (pss_cons (ps_set (i := 2) scApart.nd rfl (Or.inl rfl) pe_non)
      (pss_cons (ps_for PassesOwn.never rfl (pi_list (pv 0)) (pg_name (i := 3) scApart.nd rfl (Or.inl rfl)) (pss_cons (ps_set (i := 4) scApart.nd rfl (Or.inl rfl) (pec GH hr rfl DH.m DH.F.kp bH .nil pass0 (pac (pv 3) pa_nil)))
      (pss_cons (ps_forD PassesOwn.never rfl (pv 4) (pg_name (i := 5) scApart.nd rfl (Or.inl rfl)) (pss_cons (ps_if (pt_cmpR (op_inD hr) (pv 5) (pv 1) rfl) (pss_one (ps_ret pe_bl)) pss_nil)
      (pss_one (ps_dputD hr (pv 1) (pv 5) pe_bl rfl))))
      (pss_cons (ps_if (PW.pt (pw_and (pt_cmpR op_notN (pv 2) pe_non (nomark _)) (pw_and1 (pt_cmpR (op_leH hr) (pe_callB (call_minD hr rfl) (by rfl) hmin boot_min (pac (pv 4) pa_nil)) (pv 2) (nomark _))))) (pss_one (ps_ret pe_bl)) pss_nil)
      (pss_one (ps_set (i := 2) scApart.nd rfl (Or.inl rfl) (pe_callB (call_minD hr rfl) (by rfl) hmin boot_min (pac (pv 4) pa_nil))))))))
      (pss_one (ps_ret pe_bl))))), ?_⟩
    refine fun sA o0 nsA dic0 => ?_
    have S0 := same_upd (o := o0) nsA
    refine ⟨_, rfl, l, rfl, ⟨_, SqL.of (S0 _ _ el)⟩, ?_⟩
    have al := cl.len
    refine for_list (K := K) (a := l) (xs := ps.map V.ref) (fun i σ H4 => (∃ v2 v3 v4 v5, σ = [some (.ref l), some (.ref sA), v2, v3, v4, v5] ∧ LstOk fr H4 i v2) ∧ Same H H4 ∧ ∃ kvs, DicV P w H4 sA kvs ∧ SK kvs (fun h => ∃ g ∈ fr.take i, L h = some g))
      ⟨⟨_, _, _, _, rfl, rfl⟩, S0, [], dic0, SK.nil.congr fun g => by rw [List.take_zero]; exact ⟨fun ⟨_, z, _⟩ => (nomatch z), fun z => z.elim⟩⟩ (fun i σ H4 _ ⟨_, s4, _⟩ => SqL.of (s4 _ _ el)) ?_ ?_
    · rintro i x σ H4 hx ⟨⟨v2, v3, v4, v5, rfl, lo⟩, S4, kvs, dic4, sk⟩
      rw [List.getElem?_map] at hx
      cases hpi : ps[i]? with
      | none => rw [hpi] at hx; cases hx
      | some p =>
        rw [hpi] at hx
        cases hx
        have hi : i < fr.length := by
          have := (List.getElem?_eq_some_iff.mp hpi).1
          omega
        obtain ⟨f', hf⟩ : ∃ f', fr[i]? = some f' := ⟨_, List.getElem?_eq_getElem hi⟩
        have tk : fr.take (i + 1) = fr.take i ++ [f'] := by rw [List.take_add_one, hf]; rfl
        have hff : L f' = some f' := (cl.mem f').mp (List.mem_of_getElem? hf)
        have fnew : f' ∉ fr.take i := fun hm => by
          obtain ⟨j, ej⟩ := List.mem_iff_getElem?.mp hm
          rw [List.getElem?_take] at ej
          by_cases hj : j < i
          · rw [if_pos hj] at ej
            obtain ⟨h1, g1⟩ := List.getElem?_eq_some_iff.mp ej
            obtain ⟨h2, g2⟩ := List.getElem?_eq_some_iff.mp hf
            exact List.pairwise_iff_getElem.mp cl.nd j i h1 h2 hj (by rw [g1, g2])
          · rw [if_neg hj] at ej
            cases ej
        obtain ⟨A1, B1, gs, bs, wk, hends⟩ := hp i p f' hpi hf
        refine ⟨_, rfl, p, A1, B1, gs, bs, rfl, wk.same S4, fun d kvd H5 S5 nd dicd skd kld => ?_⟩
        have S05 := S4.trans S5
        have dic5 := dic4.same S5
        have ned : d ≠ sA := fun e => by
          obtain ⟨ψ, eψ⟩ := dic4.ext
          rw [e, eψ] at nd
          cases nd
        refine ⟨_, rfl, d, kvd, rfl, dicd, fun zs ob φ dz ea => ?_⟩
        obtain ⟨hs, ehs⟩ := as_hD (es := kvd.map (·.1)) fun e he => by
          obtain ⟨g, _, e'⟩ := (skd.mem e).mp he
          exact ⟨g, e'.symm⟩
        rw [ehs] at dz
        have hnd : hs.Nodup := nodup_of_map (by rw [← ehs]; exact skd.nd)
        have hsm : ∀ h, h ∈ hs ↔ L h = some f' := fun h => by
          rw [← hends, ← skd.isIn, ehs]
          exact ⟨fun hh => List.mem_map_of_mem hh, fun hh => by
            obtain ⟨g, hg, e⟩ := List.mem_map.mp hh
            exact hD_inj e ▸ hg⟩
        have hsl : hs.length ≤ 280 := by
          have := congrArg List.length ehs
          rw [List.length_map, List.length_map] at this
          omega
        have zsl : zs.length = hs.length := by rw [dz.length, List.length_map]
        have hn4 : H d = none := none_same S4 nd
        refine ⟨fun j σ H6 => (∃ v5, σ = [some (.ref l), some (.ref sA), v2, some (.ref p), some (.ref d), v5]) ∧ (∀ a v, a ≠ sA → a ≠ d → H5 a = some v → H6 a = some v) ∧ H6 d = some (.frz ob (.ext φ)) ∧ ∃ kvj, DicV P w H6 sA kvj ∧ SK kvj (fun h => (∃ g ∈ fr.take i, L h = some g) ∨ h ∈ hs.take j), ⟨⟨_, rfl⟩, fun a v _ n e => by rw [upd_ne n]; exact e, upd_same, kvs, dicv_keep dic5 (fun o e => by rw [upd_ne (Ne.symm ned)]; exact e) (fun a xs e => by rw [upd_ne (fun zz => by rw [zz, ea] at e; cases e)]; exact e), sk.congr fun g => by rw [List.take_zero]; exact ⟨fun h => h.elim id fun z => (nomatch z), .inl⟩⟩, fun j σ' H6 ⟨_, _, e, _⟩ => e, ?_, ?_⟩
        · rintro j y σ H6 hy ⟨⟨v5, rfl⟩, st6, ed6, kvj, dicj, skj⟩
          have tups : ∀ a xs, H5 a = some (.tup xs) → H6 a = some (.tup xs) := fun a xs e => st6 a _ (fun zz => by
            obtain ⟨ψ, eψ⟩ := dic5.ext
            rw [zz, eψ] at e; cases e) (fun zz => by rw [zz, ea] at e; cases e) e
          obtain ⟨q, h, rfl, hh, tq⟩ := th_at (DtsIs.keep tups dz) hy
          have tkj : hs.take (j + 1) = hs.take j ++ [h] := by rw [List.take_add_one, hh]; rfl
          have hLh : L h = some f' := (hsm h).mp (List.mem_of_getElem? hh)
          have hnot : ¬ ((∃ g ∈ fr.take i, L h = some g) ∨ h ∈ hs.take j) := by
            rintro (⟨g, hg, e⟩ | hm)
            · rw [hLh] at e
              exact fnew (Option.some.inj e ▸ hg)
            · obtain ⟨k, ek⟩ := List.mem_iff_getElem?.mp hm
              rw [List.getElem?_take] at ek
              by_cases hk : k < j
              · rw [if_pos hk] at ek
                obtain ⟨h1, g1⟩ := List.getElem?_eq_some_iff.mp ek
                obtain ⟨h2, g2⟩ := List.getElem?_eq_some_iff.mp hh
                exact List.pairwise_iff_getElem.mp hnd k j h1 h2 hk (by rw [g1, g2])
              · rw [if_neg hk] at ek
                cases ek
          obtain ⟨xsL, dicL, kdL⟩ := id dicj
          have key : decide (hD h ∈ xsL.map (·.1)) = false := by
            rw [← kdL.keys]
            exact decide_eq_false fun hm => hnot ((skj.isIn h).mp hm)
          refine ⟨_, rfl, _, rfl, q, sA, hD h, xsL, rfl, rfl, two_dt tq, h8 _, dicL, _, rfl, ifB_neg key ?_⟩
          have kl : kvj.length ≤ 280 := Nat.le_trans (skj.len (ls := all) fun g hg => by
            rw [← cl.ends]
            rcases hg with ⟨g', _, e⟩ | hm
            · rw [e]; exact Option.some_ne_none _
            · rw [(hsm g).mp (List.mem_of_mem_take hm)]; exact Option.some_ne_none _) (by omega)
          refine ⟨_, rfl, _, rfl, sA, q, hD h, kvj, rfl, rfl, two_dt tq, h8 _, dicj, by omega, fun o' dic' => ?_⟩
          refine ⟨⟨_, rfl⟩, fun a v n1 n2 e => by rw [upd_ne n1]; exact st6 a v n1 n2 e, by rw [upd_ne ned]; exact ed6, _, dic', skj.put h _ fun g => ?_⟩
          rw [tkj, List.mem_append, List.mem_singleton]
          constructor
          · rintro (h1 | h1 | h1)
            · exact .inr (.inl h1)
            · exact .inr (.inr h1)
            · exact .inl h1
          · rintro (h1 | h1 | h1)
            · exact .inr (.inr h1)
            · exact .inl h1
            · exact .inr (.inl h1)
        · rintro σ H6 ⟨⟨v5, rfl⟩, st6, ed6, kvj, dicj, skj⟩
          rw [show hs.take zs.length = hs from List.take_of_length_le (by omega)] at skj
          have tup7 : ∀ a xs, H5 a = some (.tup xs) → (upd H6 d (.ext φ)) a = some (.tup xs) := fun a xs e => by
            have n2 : a ≠ d := fun zz => by rw [zz, ea] at e; cases e
            rw [upd_ne n2]
            exact st6 a _ (fun zz => by
              obtain ⟨ψ, eψ⟩ := dic5.ext
              rw [zz, eψ] at e; cases e) n2 e
          have dicd7 : DicV P w (upd H6 d (.ext φ)) d kvd := dicv_keep dicd (fun o e => by rw [upd_same, ← ea]; exact e) tup7
          have dics7 : DicV P w (upd H6 d (.ext φ)) sA kvj := dicv_keep dicj (fun o e => by rw [upd_ne (Ne.symm ned)]; exact e) (fun a xs e => by rw [upd_ne (fun zz => by rw [zz, ed6] at e; cases e)]; exact e)
          have S7 : Same H (upd H6 d (.ext φ)) := fun a v e => by
            have n1 : a ≠ sA := fun zz => by rw [zz, nsA] at e; cases e
            have n2 : a ≠ d := fun zz => by rw [zz, hn4] at e; cases e
            rw [upd_ne n2]
            exact st6 a v n1 n2 (S05 a v e)
          have lo7 : LstOk fr (upd H6 d (.ext φ)) i v2 := LstOk.keep (fun a xs e => tup7 a xs (S5 a _ e)) lo
          revert dicd7 dics7 S7 lo7
          generalize upd H6 d (HO.ext φ) = H7
          intro dicd7 dics7 S7 lo7
          have kne : kvd ≠ [] := fun e => by
            have : f' ∈ hs := (hsm f').mpr hff
            rw [e] at ehs
            cases hs with
            | nil => cases this
            | cons _ _ => cases ehs
          have like : ∀ p ∈ kvd, ∀ p' ∈ kvd, Dt.like p.1 p'.1 = true := fun p hp p' hp' => by
            obtain ⟨g, _, e⟩ := (skd.mem p.1).mp (List.mem_map_of_mem hp)
            obtain ⟨g', _, e'⟩ := (skd.mem p'.1).mp (List.mem_map_of_mem hp')
            rw [← e, ← e']
            exact hD_like _ _
          have least : ∀ (q : Addr) (dd : Dt), DtIs H7 (.ref q) dd → dd ∈ kvd.map (·.1) → (∀ p ∈ kvd, Dt.blt p.1 dd = false) → two H7 q f' := fun q dd dt hm hmi => by
            rw [ehs] at hm
            obtain ⟨g, hg, rfl⟩ := List.mem_map.mp hm
            have h1 := cl.lst g f' ((hsm g).mp hg)
            have hfk : hD f' ∈ kvd.map (·.1) := by rw [ehs]; exact List.mem_map_of_mem ((hsm f').mpr hff)
            obtain ⟨pf, hpf, epf⟩ := List.mem_map.mp hfk
            have h2 := hmi pf hpf
            rw [epf] at h2
            have := hD_inj (Dt.tot _ _ h1 h2)
            rw [← this]
            exact hD_two dt
          have fin : ∀ v3' v5', (∃ v2' v3 v4 v5, [some (V.ref l), some (.ref sA), v3', some (.ref p), some (.ref d), v5'] = [some (.ref l), some (.ref sA), v2', v3, v4, v5] ∧ LstOk fr H7 (i + 1) v2') → (∃ v2' v3 v4 v5, [some (V.ref l), some (.ref sA), v3', some (.ref p), some (.ref d), v5'] = [some (.ref l), some (.ref sA), v2', v3, v4, v5] ∧ LstOk fr H7 (i + 1) v2') ∧ Same H H7 ∧ ∃ kvs, DicV P w H7 sA kvs ∧ SK kvs (fun h => ∃ g ∈ fr.take (i + 1), L h = some g) := fun v3' v5' h => by
            refine ⟨h, S7, kvj, dics7, skj.congr fun g => ?_⟩
            rw [tk]
            constructor
            · rintro ⟨g', hg', e⟩
              rcases List.mem_append.mp hg' with hg' | hg'
              · exact .inl ⟨g', hg', e⟩
              · rw [List.mem_singleton.mp hg'] at e
                exact .inr ((hsm g).mpr e)
            · rintro (⟨g', hg', e⟩ | hm)
              · exact ⟨g', List.mem_append_left _ hg', e⟩
              · exact ⟨f', List.mem_append_right _ (List.mem_singleton.mpr rfl), (hsm g).mp hm⟩
          cases i with
          | zero =>
            have ev : v2 = some .non := lo7
            subst ev
            refine ⟨_, rfl, rfl, _, rfl, iteF (iteF ?_)⟩
            refine ⟨_, rfl, d, kvd, rfl, dicd7, kne, like, fun q dd dt hm hmi => ?_⟩
            exact fin _ _ ⟨_, _, _, _, rfl, q, f', hf, rfl, least q dd dt hm hmi⟩
          | succ i =>
            obtain ⟨ql, g, eg, ev, tl⟩ := lo7
            subst ev
            refine ⟨_, rfl, rfl, _, rfl, iteT ?_⟩
            refine ⟨_, rfl, d, kvd, rfl, dicd7, kne, like, fun q dd dt hm hmi => ?_⟩
            refine ⟨_, rfl, q, ql, f', g, rfl, rfl, least q dd dt hm hmi, tl, cl.rise eg hf, _, rfl, iteF ?_⟩
            refine ⟨_, rfl, d, kvd, rfl, dicd7, kne, like, fun q dd dt hm hmi => ?_⟩
            exact fin _ _ ⟨_, _, _, _, rfl, q, f', hf, rfl, least q dd dt hm hmi⟩
    · rintro σ H4 ⟨⟨v2, v3, v4, v5, rfl, _⟩, S4, _⟩
      exact z H4 S4
end
end K33
namespace K33
open PySem PySem.Spec PyProof.Rows L2 BF
section
variable {fs bs : List Ln} {L L' : Ho → Option Ho} {fr : List Ho}
theorem inC_mem {f : Ho} {ls : List Ln} {a : Ln} : a ∈ inC L f ls ↔ a ∈ ls ∧ L a.1 = some f := by
  unfold inC
  rw [List.mem_filter, decide_eq_true_eq]
theorem inA {f : Ho} {a : Ln} : a ∈ inC L f fs ++ inC L f bs ↔ a ∈ fs ++ bs ∧ L a.1 = some f := by
  rw [List.mem_append, List.mem_append, inC_mem, inC_mem]
  constructor
  · rintro (⟨h, e⟩ | ⟨h, e⟩)
    · exact ⟨.inl h, e⟩
    · exact ⟨.inr h, e⟩
  · rintro ⟨h | h, e⟩
    · exact .inl ⟨h, e⟩
    · exact .inr ⟨h, e⟩
variable (wh : Whole (fs ++ bs) L) (ends : ∀ h, L h ≠ none ↔ ∃ a ∈ fs ++ bs, a.1 = h ∨ a.2 = h)
include wh ends
theorem line_same {a : Ln} (ha : a ∈ fs ++ bs) : L a.1 = L a.2 := by
  obtain ⟨f, ef⟩ := Option.ne_none_iff_exists'.mp ((ends a.1).mpr ⟨a, ha, .inl rfl⟩)
  rw [ef, wh.cl a.1 f ef a.2 ⟨a, ha, .inl ⟨rfl, rfl⟩⟩]
theorem inC_ends {f h : Ho} : EndOf (inC L f fs ++ inC L f bs) h ↔ L h = some f := by
  constructor
  · rintro ⟨a, ha, q⟩
    obtain ⟨h1, h2⟩ := inA.mp ha
    rcases q with rfl | rfl
    · exact h2
    · rw [← line_same wh ends h1]; exact h2
  · intro e
    obtain ⟨a, ha, q⟩ := (ends h).mp (by rw [e]; exact Option.some_ne_none _)
    refine ⟨a, inA.mpr ⟨ha, ?_⟩, q⟩
    rcases q with rfl | rfl
    · exact e
    · rw [line_same wh ends ha]; exact e
theorem inC_pos {f : Ho} (hf : L f = some f) : 0 < (inC L f fs).length + (inC L f bs).length := by
  obtain ⟨a, ha, _⟩ := (inC_ends wh ends).mpr hf
  have := List.length_pos_of_mem ha
  rw [List.length_append] at this
  exact this
theorem inC_con {f : Ho} : ∀ a ∈ inC L f fs ++ inC L f bs, ∀ b ∈ inC L f fs ++ inC L f bs, Cn (inC L f fs ++ inC L f bs) a.1 b.1 := fun a ha b hb => by
  obtain ⟨_, e1⟩ := inA.mp ha
  obtain ⟨_, e2⟩ := inA.mp hb
  refine Cn.less (ls := fs ++ bs) (fun c hc cn => inA.mpr ⟨hc, wh.same e1 cn⟩) ((wh.con _ _ e1).symm.trans (wh.con _ _ e2))
theorem same_L (lst : ∀ h g, L h = some g → Dt.blt (hD h) (hD g) = false) (wh' : Whole (fs ++ bs) L') (ends' : ∀ h, L' h ≠ none ↔ ∃ a ∈ fs ++ bs, a.1 = h ∨ a.2 = h) (lst' : ∀ h g, L' h = some g → Dt.blt (hD h) (hD g) = false) : L' = L := funext fun h => by
  cases e : L h with
  | none =>
    cases e' : L' h with
    | none => rfl
    | some f' => exact absurd e ((ends h).mpr ((ends' h).mp (by rw [e']; exact Option.some_ne_none _)))
  | some f =>
    obtain ⟨f', e'⟩ := Option.ne_none_iff_exists'.mp ((ends' h).mpr ((ends h).mp (by rw [e]; exact Option.some_ne_none _)))
    have c1 := wh.con h f e
    have c2 := wh'.con h f' e'
    have h1 := lst f' f (wh.same e c2.symm)
    have h2 := lst' f f' (wh'.same e' c1.symm)
    rw [e', hD_inj (Dt.tot _ _ h1 h2)]
end
theorem map_hD_inj : ∀ {l m : List Ho}, l.map hD = m.map hD → l = m
  | [], [], _ => rfl
  | [], _ :: _, e => by simp at e
  | _ :: _, [], e => by simp at e
  | a :: l, b :: m, e => by
    rw [List.map_cons, List.map_cons] at e
    injection e with e1 e2
    rw [hD_inj e1, map_hD_inj e2]
theorem rise_hs {l m : List Ho} (n1 : l.Nodup) (n2 : m.Nodup) (mem : ∀ h, h ∈ l ↔ h ∈ m) (s1 : (l.map hD).Pairwise (fun d d' => Dt.blt d' d = false)) (s2 : (m.map hD).Pairwise (fun d d' => Dt.blt d' d = false)) : l = m :=
  map_hD_inj (rise_eq (((List.perm_ext_iff_of_nodup n1 n2).mpr mem).map hD) s1 s2)
theorem inC_sorted {L : Ho → Option Ho} {ls : List Ln} (s : (ls.map lnD).Pairwise (fun d d' => Dt.blt d' d = false)) (f : Ho) : ((inC L f ls).map lnD).Pairwise (fun d d' => Dt.blt d' d = false) := List.pairwise_map.mpr ((List.pairwise_map.mp s).filter _)
def flat (L : Ho → Option Ho) (fr : List Ho) (ls : List Ln) : List Ln := (fr.map fun f => inC L f ls).flatten
theorem flat_snoc (L : Ho → Option Ho) (fr : List Ho) (f : Ho) (ls : List Ln) : flat L (fr ++ [f]) ls = flat L fr ls ++ inC L f ls := by simp [flat]
theorem filter_or {p q : Ln → Bool} : ∀ {ls : List Ln}, (∀ a ∈ ls, ¬ (p a = true ∧ q a = true)) → (ls.filter p ++ ls.filter q).Perm (ls.filter fun a => p a || q a)
  | [], _ => .refl _
  | a :: ls, h => by
    have ih := filter_or (p := p) (q := q) (ls := ls) fun b hb => h b (List.mem_cons_of_mem _ hb)
    rw [List.filter_cons, List.filter_cons, List.filter_cons]
    cases hp : p a with
    | true =>
      have hq : q a = false := by
        cases hq : q a with
        | true => exact absurd ⟨hp, hq⟩ (h a (List.mem_cons_self ..))
        | false => rfl
      rw [hq, if_pos rfl, if_neg Bool.false_ne_true, if_pos (show (true || false) = true from rfl)]
      exact ih.cons a
    | false =>
      cases hq : q a with
      | true =>
        rw [if_neg Bool.false_ne_true, if_pos rfl, if_pos (show (false || true) = true from rfl)]
        exact List.perm_middle.trans (ih.cons a)
      | false =>
        rw [if_neg Bool.false_ne_true, if_neg Bool.false_ne_true, if_neg (by decide)]
        exact ih
theorem flat_any (L : Ho → Option Ho) (ls : List Ln) : ∀ {fr : List Ho}, fr.Nodup → (flat L fr ls).Perm (ls.filter fun a => fr.any fun f => decide (L a.1 = some f))
  | [], _ => by
    show List.Perm [] _
    rw [List.filter_eq_nil_iff.mpr fun a _ => by simp]
  | f :: fr, nd => by
    obtain ⟨hf, nd'⟩ := List.nodup_cons.mp nd
    have ih := flat_any L ls nd'
    have e : flat L (f :: fr) ls = inC L f ls ++ flat L fr ls := by simp [flat]
    rw [e]
    refine (ih.append_left _).trans ?_
    refine (filter_or (p := fun a => decide (L a.1 = some f)) (q := fun a => fr.any fun g => decide (L a.1 = some g)) fun a _ h => ?_).trans ?_
    · obtain ⟨h1, h2⟩ := h
      obtain ⟨g, hg, h3⟩ := List.any_eq_true.mp h2
      have e1 : L a.1 = some f := of_decide_eq_true h1
      have e2 : L a.1 = some g := of_decide_eq_true h3
      rw [e1] at e2
      exact hf (Option.some.inj e2 ▸ hg)
    · simp only [List.any_cons]
      exact .refl _
theorem flat_perm {L : Ho → Option Ho} {fr : List Ho} {ls : List Ln} (nd : fr.Nodup) (h : ∀ a ∈ ls, ∃ f ∈ fr, L a.1 = some f) : (flat L fr ls).Perm ls := by
  have := flat_any L ls nd
  rw [List.filter_eq_self.mpr fun a ha => by
    obtain ⟨f, hf, e⟩ := h a ha
    exact List.any_eq_true.mpr ⟨f, hf, decide_eq_true e⟩] at this
  exact this
theorem flat_len {L : Ho → Option Ho} {ls : List Ln} {fr : List Ho} (nd : fr.Nodup) : (flat L fr ls).length ≤ ls.length := by
  rw [(flat_any L ls nd).length_eq]
  exact List.length_filter_le _ _
end K33
namespace K33
open PySem PySem.Spec PyProof.Rows L2 BF
seal L2.PE L2.PA L2.PS L2.PSs L2.PT L2.PW L2.PG L2.PGs L2.PI BF.PTs L2.PPs
structure Blt (mg : Str → Option Value) : Prop where
  isi : mg "isinstance" = none
  int : mg "int" = none
  list : mg "list" = none
  tuple : mg "tuple" = none
  len : mg "len" = none
  range : mg "range" = none
  abs : mg "abs" = none
  min : mg "min" = none
  sorted : mg "sorted" = none
theorem rows2 {H : Hp} {a b : Addr} {ds es : List Dt} (ha : DtL H a ds) (hb : DtL H b es) (h1 : ∀ d ∈ ds, d.dp ≤ 40) (h2 : ∀ d ∈ es, d.dp ≤ 40) : Rows' H [.ref a, .ref b] [ds, es] := by
  refine ⟨rfl, fun i x d hx hd => ?_⟩
  match i, hx, hd with
  | 0, hx, hd =>
    cases hx
    cases hd
    obtain ⟨vs, e, q⟩ := ha
    exact ⟨a, vs, rfl, e, q, h1⟩
  | 1, hx, hd =>
    cases hx
    cases hd
    obtain ⟨vs, e, q⟩ := hb
    exact ⟨b, vs, rfl, e, q, h2⟩
  | i + 2, hx, hd => simp at hx
section
variable {P : Program} {w : World} {K : PySem.W.Frag} {mg : Str → Option Value} {base : Heap}
def PlN (H0 H : Hp) (v : V) (r : Pq) : Prop := ∃ a u l, v = .ref a ∧ H0 a = none ∧ H0 u = none ∧ H0 l = none ∧ H a = some (.lst [.ref u, .ref l]) ∧ DtL H u r.1 ∧ DtL H l r.2
def prs (L : Ho → Option Ho) (fs bs : List Ln) (fr : List Ho) : List Pq := fr.map fun f => ((inC L f fs).map lnD, (inC L f bs).map lnD)
theorem lnsdp (ls : List Ln) : ∀ d ∈ ls.map lnD, d.dp ≤ 40 := fun d hd => by
  obtain ⟨a, _, rfl⟩ := List.mem_map.mp hd
  rw [lnD_dp]
  decide
theorem PlN.is {H0 H : Hp} {v : V} {L : Ho → Option Ho} {fs bs : List Ln} {f : Ho} (h : PlN H0 H v ((inC L f fs).map lnD, (inC L f bs).map lnD)) : PlIs H v ((inC L f fs).map lnD, (inC L f bs).map lnD) := let ⟨a, u, l, e, _, _, _, ea, h1, h2⟩ := h; ⟨a, u, l, e, ea, h1, h2, lnsdp _, lnsdp _⟩
abbrev tListOf (K : PySem.W.Frag) (i : Int) : TE := tCB (fun xs H Q => ∃ p ys, xs = [.ref p] ∧ (SqL K H p ys ∨ SqT K H p ys) ∧ ∀ l, H l = none → Q (.ref l) (upd H l (.lst ys))) (tCons (tOp (rIxT K) (tVar 0) (tC (.int i))) tNil)
theorem comp_pl {H0 H1 : Hp} {l M : Addr} {ps : List Addr} {fr : List Ho} {L : Ho → Option Ho} {fs bs : List Ln} (h01 : Same H0 H1) (el : H1 l = some (.lst (ps.map V.ref))) (pl : ps.length = fr.length) (hl : fr.length ≤ 280)
    (hp : ∀ (i : Nat) p f, ps[i]? = some p → fr[i]? = some f → ∃ A B, WkIs H1 p A B (inC L f fs) (inC L f bs)) (nM : H1 M = none) {σ : L2.St} {Q : VK} {X : PySem.W.Frag}
    (q : ∀ H2 ys, Same H1 H2 → H2 M = some (.lst ys) → ys.length = fr.length → (∀ (j : Nat) v r, ys[j]? = some v → (prs L fs bs fr)[j]? = some r → PlN H0 H2 v r) → Q (.ref M) H2) :
    CompW (Itl X l) [none] (gName 0) tYes (tLst (tCons (tListOf X 0) (tCons (tListOf X 1) tNil))) σ H1 M Q := by
  refine comp_n (J := Itl X l) (n := ps.length) (fun i σ2 H2 => (∃ v0, σ2 = [v0]) ∧ Same H1 H2 ∧ ∃ ys, H2 M = some (.lst ys) ∧ ys.length = i ∧ ∀ (j : Nat) v r, ys[j]? = some v → (prs L fs bs fr)[j]? = some r → PlN H0 H2 v r ∧ ∀ a u l, v = .ref a → H2 a = some (.lst [.ref u, .ref l]) → a ≠ M ∧ u ≠ M ∧ l ≠ M) ?_ ?_ ?_ ?_
  · exact ⟨⟨_, rfl⟩, same_upd nM, [], upd_same, rfl, fun j v r e => by simp at e⟩
  · rintro i σ2 H2 hi ⟨⟨v0, rfl⟩, S2, _⟩
    exact ⟨_, _, SqL.of (S2 _ _ el), List.getElem?_eq_getElem (by rw [List.length_map]; exact hi)⟩
  · rintro σ2 H2 ⟨⟨v0, rfl⟩, S2, ys, eM, yl, hr⟩
    exact ⟨⟨_, SqL.of (S2 _ _ el), by rw [List.length_map]; exact Nat.le_refl _⟩, q H2 ys S2 eM (by omega) fun j v r e1 e2 => (hr j v r e1 e2).1⟩
  · rintro i σ2 H2 hi ⟨⟨v0, rfl⟩, S2, ys, eM, yl, hr⟩ x H3 ⟨rfl, hx⟩
    have hx := hx _ (SqL.of (S2 _ _ el))
    rw [List.getElem?_map, List.getElem?_eq_getElem hi] at hx
    cases hx
    have hif : i < fr.length := by omega
    obtain ⟨A, B, wk⟩ := hp i _ _ (List.getElem?_eq_getElem hi) (List.getElem?_eq_getElem hif)
    have wk2 := wk.same S2
    obtain ⟨av, eA, dA⟩ := wk2.f
    obtain ⟨bv, eB, dB⟩ := wk2.b
    refine ⟨_, rfl, _, _, _, _, rfl, rfl, SqT.of wk2.t, rfl, A, av, rfl, .inl (SqL.of eA), fun u nu => ?_⟩
    have T1 := same_upd (o := HO.lst av) nu
    refine ⟨_, rfl, _, _, _, _, rfl, rfl, SqT.of (T1 _ _ wk2.t), rfl, B, bv, rfl, .inl (SqL.of (T1 _ _ eB)), fun v nv => ?_⟩
    have T2 := same_upd (o := HO.lst bv) nv
    refine ⟨szr rfl, fun c nc => ?_⟩
    have T3 := same_upd (o := HO.lst [V.ref u, .ref v]) nc
    have T := (T1.trans T2).trans T3
    have eM3 := T _ _ eM
    have neu : u ≠ M := fun e => by rw [e, eM] at nu; cases nu
    have nev : v ≠ M := fun e => by rw [e, T1 _ _ eM] at nv; cases nv
    have nec : c ≠ M := fun e => by rw [e, (T1.trans T2) _ _ eM] at nc; cases nc
    have S02 := h01.trans S2
    refine ⟨ys, eM3, small1000 (by omega), ⟨_, rfl⟩, same_updN (S2.trans T) nM, ys ++ [.ref c], upd_same, by rw [List.length_append, yl]; rfl, fun j w r e1 e2 => ?_⟩
    by_cases hj : j < ys.length
    · rw [List.getElem?_append_left hj] at e1
      obtain ⟨pn, nn⟩ := hr j w r e1 e2
      obtain ⟨a, u', l', rfl, f1, f2, f3, ea, h1, h2⟩ := pn
      obtain ⟨m1, m2, m3⟩ := nn a u' l' rfl ea
      refine ⟨⟨a, u', l', rfl, f1, f2, f3, by rw [upd_ne m1]; exact T _ _ ea, (h1.same T).updL eM3 m2, (h2.same T).updL eM3 m3⟩, fun a2 u2 l2 e ea2 => ?_⟩
      cases e
      rw [upd_ne m1, T _ _ ea] at ea2
      cases ea2
      exact ⟨m1, m2, m3⟩
    · have hj' : j = i := by
        have := (List.getElem?_eq_some_iff.mp e1).1
        rw [List.length_append] at this
        have h1 : ([V.ref c] : List V).length = 1 := rfl
        omega
      subst hj'
      rw [List.getElem?_append_right (by omega), yl, Nat.sub_self] at e1
      cases e1
      unfold prs at e2
      rw [List.getElem?_map, List.getElem?_eq_getElem hif] at e2
      cases e2
      refine ⟨⟨c, u, v, rfl, none_same (S02.trans (T1.trans T2)) nc, none_same S02 nu, none_same (S02.trans T1) nv, by rw [upd_ne nec]; exact upd_same, DtL.updL ⟨av, T3 _ _ (T2 _ _ upd_same), dA.same T⟩ eM3 neu, DtL.updL ⟨bv, T3 _ _ upd_same, dB.same T⟩ eM3 nev⟩, fun a2 u2 l2 e ea2 => ?_⟩
      cases e
      rw [upd_ne nec, upd_same] at ea2
      cases ea2
      exact ⟨nec, neu, nev⟩
def spLaw (K : PySem.W.Frag) : Sp := fun vs H Q _ => ∃ (a : Addr) (ns : List Int), vs = [.ref a] ∧ SqL K H a (ns.map V.int) ∧ ns.length ≤ 63 ∧ ∀ H', Q (.bl true) H'
theorem scLaw : FnScope ["_law_script", "_law_front", "_law_back", "_law_handed", "_law_found", "_law_both", "_law_piece", "_law_kept"] ["_law_script"] (defScope sLaw) := ⟨rfl, rfl, rfl, by decide +kernel, rfl, by decide +kernel, by decide +kernel⟩
theorem ok_law {f fR fW fP fI fG fA : Addr} {fd fdR fdW fdP fdI fdG fdA : FuncData} (D : Df K mg "law" sLaw f fd)
    (DR : Df K mg "_law_room" sRoom fR fdR) (bR : Binds K fdR ["_law_script"] []) (GR : FnOk P w K mg base CX0 2 fR fdR ["_law_script"] (spRoom K))
    (DW : Df K mg "_law_work" sWork fW fdW) (bW : Binds K fdW ["_law_room_here"] []) (GW : FnOk P w K mg base CX0 3 fW fdW ["_law_room_here"] spWork)
    (DP : Df K mg "pieces" sPieces fP fdP) (bP : Binds K fdP ["work"] []) (GP : FnOk P w K mg base CX0 3 fP fdP ["work"] spPieces)
    (DI : Df K mg "_law_is_piece" sIsPiece fI fdI) (bI : Binds K fdI ["_law_piece"] []) (GI : FnOk P w K mg base CX0 1 fI fdI ["_law_piece"] spIsPiece)
    (DG : Df K mg "_law_hangs" sHangs fG fdG) (bG : Binds K fdG ["_law_piece"] []) (GG : FnOk P w K mg base CX0 1 fG fdG ["_law_piece"] spHangs)
    (DA : Df K mg "_law_apart" sApart fA fdA) (bA : Binds K fdA ["_law_some"] []) (GA : FnOk P w K mg base CX0 2 fA fdA ["_law_some"] spApart) (B : Blt mg) :
    FnOk P w K mg base CX0 4 f fd ["_law_script"] (spLaw K) := by
  refine D.F.ok scLaw (fun vs H Q E h => ?_) (fun cdv A outer s H vs Q E hr h => ?_)
  · obtain ⟨a, ns, rfl, _⟩ := h
    rfl
  · obtain ⟨a, ns, rfl, hS, hlen, k⟩ := h
    have hr1 : Room 1 _ := hr.mono (by decide)
    have hr2 : Room 2 _ := hr.mono (by decide)
    refine ⟨_, (pss_cons (ps_asg (pec GW hr rfl DW.m DW.F.kp bW .nil pass0 (pac (pec GR hr2 rfl DR.m DR.F.kp bR .nil pass0 (pac (pv 0) pa_nil)) pa_nil)) (pg_tupL rfl (pgs_cons (pg_name (i := 1) scLaw.nd rfl (Or.inl rfl)) (pgs_cons (pg_name (i := 2) scLaw.nd rfl (Or.inl rfl)) pgs_nil))))
      (pss_cons (ps_set (i := 3) scLaw.nd rfl (Or.inl rfl) (pe_tup (pac (pe_callTy call_list_of (by rfl) B.list boot_list (pac (pv 1) pa_nil)) (pac (pe_callTy call_list_of (by rfl) B.list boot_list (pac (pv 2) pa_nil)) pa_nil))))
      (pss_cons (ps_set (i := 4) scLaw.nd rfl (Or.inl rfl) (pec GP hr rfl DP.m DP.F.kp bP .nil pass0 (pac (pv 3) pa_nil)))
      (pss_cons (ps_if (PW.pt (pw_or (pt_not (pt_val (pe_callB call_isi (by rfl) B.isi boot_isinstance (pac (pv 4) (pac (pe_bltn (v := .ty "list") (by rfl) B.list PyProof.Rows.boot_list rfl) pa_nil)))))
          (pw_or1 (pt_cmpR (op_neTL hr1) (pv 3) (pe_tup (pac (pv 1) (pac (pv 2) pa_nil))) (nomark _))))) (pss_one (ps_ret pe_bl)) pss_nil)
      (pss_cons (ps_set (i := 5) scLaw.nd rfl (Or.inr rfl) (pe_lst (pac (pe_lst pa_nil) (pac (pe_lst pa_nil) pa_nil))))
      (pss_cons (ps_for PassesOwn.never rfl (pi_list (pv 4)) (pg_name (i := 6) scLaw.nd rfl (Or.inr rfl)) (pss_cons (ps_if (PW.pt (pw_or (pt_not (pt_val (pec GI hr1 rfl DI.m DI.F.kp bI .nil pass0 (pac (pv 6) pa_nil)))) (pw_or1 (pt_not (pt_val (pec GG hr1 rfl DG.m DG.F.kp bG .nil pass0 (pac (pv 6) pa_nil))))))) (pss_one (ps_ret pe_bl)) pss_nil)
      (pss_one (ps_set (i := 5) scLaw.nd rfl (Or.inr rfl) (pe_comp (te := tOp rCat (tOp (rIxL K) (tVar 1) (tVar 0)) (tOp (rIxT K) (tVar 2) (tVar 0))) (N' := ["_law_k", "_law_both", "_law_piece"]) (idx := [none, some 5, some 6]) (compOk_of (by kernel_rfl)) (by kernel_rfl) rfl (pi_range1 rfl B.range (pac (pe_int) pa_nil))
              (fun _ _ _ _ _ => pg_name (i := 0) (show (["_law_k", "_law_both", "_law_piece"] : List Str).Nodup by decide +kernel) rfl (Or.inl rfl)) (fun _ _ _ _ _ => pts_nil) (fun _ _ _ _ _ => pe_op op_cat (pe_ix ix_list (pv 1) (pv 0) (fun _ _ => rfl)) (pe_ix ix_tup (pv 2) (pv 0) (fun _ _ => rfl))))))))
      (pss_cons (ps_if (PW.pt (pw_or (pt_cmpR (op_neL hr1) (pe_callB call_sortedT (by rfl) B.sorted boot_sorted (pac (pe_ix ix_list (pv 5) pe_int (fun _ _ => rfl)) pa_nil)) (pv 1) (nomark _)) (pw_or (pt_cmpR (op_neL hr1) (pe_callB call_sortedT (by rfl) B.sorted boot_sorted (pac (pe_ix ix_list (pv 5) pe_int (fun _ _ => rfl)) pa_nil)) (pv 2) (nomark _)) (pw_or1 (pt_not (pt_val (pec GA hr2 rfl DA.m DA.F.kp bA .nil pass0 (pac (pv 4) pa_nil)))))))) (pss_one (ps_ret pe_bl)) pss_nil)
      (pss_cons (ps_setComp (k := 7) (te := tLst (tCons (tListOf K 0) (tCons (tListOf K 1) tNil))) (N' := ["_law_piece"]) (idx := [none]) scLaw.nd rfl (Or.inl rfl) (Or.inr rfl) rfl (compOk_of (by kernel_rfl)) (by kernel_rfl) rfl (pi_list (pv 4))
          (fun _ _ _ _ _ => pg_name (i := 0) (show (["_law_piece"] : List Str).Nodup by decide +kernel) rfl (Or.inl rfl)) (fun _ _ _ _ _ => pts_nil) (fun _ _ _ _ _ => pe_lst (pac (pe_callTy call_list_of (by rfl) B.list boot_list (pac (pe_ix ix_tup (pv 0) pe_int (fun _ _ => rfl)) pa_nil)) (pac (pe_callTy call_list_of (by rfl) B.list boot_list (pac (pe_ix ix_tup (pv 0) pe_int (fun _ _ => rfl)) pa_nil)) pa_nil))))
      (pss_cons (ps_for PassesOwn.never rfl (pi_list (pv 4)) (pg_name (i := 6) scLaw.nd rfl (Or.inr rfl)) (pss_cons (ps_expr (pe_bm PySem.F.plainAttrs_list PySem.F.slot_list_append PySem.F.type_list_append mt_append (pe_ix ix_tup (pv 6) pe_int (fun _ _ => rfl)) (pac (pe_non) pa_nil)))
      (pss_one (ps_expr (pe_bm0 PySem.F.plainAttrs_list PySem.F.slot_list_clear PySem.F.type_list_clear mt_clear (pe_ix ix_tup (pv 6) pe_int (fun _ _ => rfl)))))))
      (pss_one (ps_ret (pe_and (pe_cmpR (op_eqPl hr1) (pe_comp (te := tLst (tCons (tListOf K 0) (tCons (tListOf K 1) tNil))) (N' := ["_law_piece"]) (idx := [none]) (compOk_of (by kernel_rfl)) (by kernel_rfl) rfl (pi_list (pec GP hr rfl DP.m DP.F.kp bP .nil pass0 (pac (pv 3) pa_nil)))
          (fun _ _ _ _ _ => pg_name (i := 0) (show (["_law_piece"] : List Str).Nodup by decide +kernel) rfl (Or.inl rfl)) (fun _ _ _ _ _ => pts_nil) (fun _ _ _ _ _ => pe_lst (pac (pe_callTy call_list_of (by rfl) B.list boot_list (pac (pe_ix ix_tup (pv 0) pe_int (fun _ _ => rfl)) pa_nil)) (pac (pe_callTy call_list_of (by rfl) B.list boot_list (pac (pe_ix ix_tup (pv 0) pe_int (fun _ _ => rfl)) pa_nil)) pa_nil)))) (pv 7) (nomark _)) (pe_one (pe_cmpR (op_eqTL hr1) (pv 3) (pe_tup (pac (pv 1) (pac (pv 2) pa_nil))) (nomark _))))))))))))))), ?_⟩
    refine ⟨_, rfl, a, ns, rfl, hS, hlen, fun r H1 S1 nr ro => ⟨r, 0, rfl, by decide, ro, fun R F Bk fs bs H2 sb eR hF hB of ob => ?_⟩⟩
    refine ⟨R, _, rfl, SqL.of eR, rfl, _, _, rfl, _, _, rfl, rfl, ?_⟩
    obtain ⟨lf, sF⟩ := of
    obtain ⟨lb, sB⟩ := ob
    obtain ⟨fv, eF, dF⟩ := id hF
    obtain ⟨bv, eB, dB⟩ := id hB
    refine ⟨_, rfl, F, fv, rfl, .inl (SqL.of eF), fun F2 nF2 => ?_⟩
    have T1 := same_upd (o := HO.lst fv) nF2
    refine ⟨_, rfl, Bk, bv, rfl, .inl (SqL.of (T1 _ _ eB)), fun B2 nB2 => ?_⟩
    have T2 := same_upd (o := HO.lst bv) nB2
    refine ⟨szr rfl, fun t nt => ?_⟩
    have T3 := same_upd (o := HO.tup [V.ref F2, .ref B2]) nt
    have T := (T1.trans T2).trans T3
    have et : (upd (upd (upd H2 F2 (.lst fv)) B2 (.lst bv)) t (.tup [V.ref F2, .ref B2])) t = some (.tup [V.ref F2, .ref B2]) := upd_same
    have hF2 : DtL (upd (upd (upd H2 F2 (.lst fv)) B2 (.lst bv)) t (.tup [V.ref F2, .ref B2])) F2 (fs.map lnD) := ⟨fv, T3 _ _ (T2 _ _ upd_same), dF.same T⟩
    have hB2 : DtL (upd (upd (upd H2 F2 (.lst fv)) B2 (.lst bv)) t (.tup [V.ref F2, .ref B2])) B2 (bs.map lnD) := ⟨bv, T3 _ _ upd_same, dB.same T⟩
    have hF1 := hF.same T
    have hB1 := hB.same T
    clear T T1 T2 T3 nt nB2 nF2 dF dB eF eB hF hB eR
    revert et hF2 hB2 hF1 hB1
    generalize (upd (upd (upd H2 F2 (.lst fv)) B2 (.lst bv)) t (.tup [V.ref F2, .ref B2])) = H3
    intro et hF2 hB2 hF1 hB1
    refine ⟨_, rfl, t, F2, B2, fs, bs, rfl, ⟨et, hF2, hB2, by omega, by omega⟩, fun l ps fr L H4 S4 el pcs fnd fll fmem wh ends lst fsrt => ?_⟩
    have pl := pcs.1
    refine ⟨_, rfl, _, .lst, .lst, rfl, .lst el, _, rfl, iteF ?_⟩
    refine ⟨_, rfl, _, rfl, _, rfl, szr rfl, fun t4 nt4 => ?_⟩
    have T4 := same_upd (o := HO.tup [V.ref F, .ref Bk]) nt4
    have S34 := S4.trans T4
    refine ⟨t, t4, _, _, _, rfl, rfl, SqT.of (S34 _ _ et), SqT.of upd_same, rows2 (hF2.same S34) (hB2.same S34) (lnsdp _) (lnsdp _), rows2 (hF1.same S34) (hB1.same S34) (lnsdp _) (lnsdp _), _, rfl, iteF ?_⟩
    refine ⟨szr rfl, fun b0 n0 => ⟨szr rfl, fun b1 n1 => ⟨szr rfl, fun bo nbo => ?_⟩⟩⟩
    have U0 := same_upd (o := HO.lst []) n0
    have U1 := same_upd (o := HO.lst []) n1
    have U2 := same_upd (o := HO.lst [V.ref b0, .ref b1]) nbo
    have S46 := T4.trans ((U0.trans U1).trans U2)
    have hb0 := U2 _ _ (U1 _ _ (upd_same (H := upd H4 t4 (.tup [V.ref F, .ref Bk])) (a := b0) (o := HO.lst [])))
    have hb1 := U2 _ _ (upd_same (H := upd (upd H4 t4 (.tup [V.ref F, .ref Bk])) b0 (.lst [])) (a := b1) (o := HO.lst []))
    have hbo := upd_same (H := upd (upd (upd H4 t4 (.tup [V.ref F, .ref Bk])) b0 (.lst [])) b1 (.lst [])) (a := bo) (o := HO.lst [V.ref b0, .ref b1])
    refine ⟨_, rfl, l, rfl, ⟨_, SqL.of (S46 _ _ el)⟩, ?_⟩
    clear U0 U1 U2 nbo n1 n0 T4 S34 nt4
    revert S46 hb0 hb1 hbo
    generalize upd (upd (upd (upd H4 t4 (HO.tup [V.ref F, .ref Bk])) b0 (.lst [])) b1 (.lst [])) bo (.lst [V.ref b0, .ref b1]) = H6
    intro S46 hb0 hb1 hbo
    have cl : Cls L (fs ++ bs) fr := ⟨fnd, fsrt, fmem, lst, ends, by rw [List.length_append]; omega⟩
    have tnd : ∀ i, (fr.take i).Nodup := fun i => fnd.sublist (List.take_sublist _ _)
    refine for_list (K := K) (a := l) (xs := ps.map V.ref) (fun i σ H7 => ∃ (v6 v7 : Option V) (bo u v : Addr), σ = [some (.ref a), some (.ref F), some (.ref Bk), some (.ref t), some (.ref l), some (.ref bo), v6, v7] ∧ Same H4 H7 ∧ H7 bo = some (.lst [.ref u, .ref v]) ∧ DtL H7 u ((flat L (fr.take i) fs).map lnD) ∧ DtL H7 v ((flat L (fr.take i) bs).map lnD))
      ⟨_, _, bo, b0, b1, rfl, S46, hbo, ⟨[], hb0, .nil⟩, ⟨[], hb1, .nil⟩⟩ (fun i σ H7 _ ⟨_, _, _, _, _, _, s7, _⟩ => SqL.of (s7 _ _ el)) ?_ ?_
    · rintro i x σ H7 hx ⟨v6, v7, bo, u, v, rfl, S7, ebo, ⟨uv, eu, du⟩, ⟨vv, ev, dv⟩⟩
      rw [List.getElem?_map] at hx
      cases hpi : ps[i]? with
      | none => rw [hpi] at hx; cases hx
      | some p =>
        rw [hpi] at hx
        cases hx
        have hi : i < fr.length := by
          have := (List.getElem?_eq_some_iff.mp hpi).1
          omega
        obtain ⟨f', hf⟩ : ∃ f', fr[i]? = some f' := ⟨_, List.getElem?_eq_getElem hi⟩
        have tk : fr.take (i + 1) = fr.take i ++ [f'] := by rw [List.take_add_one, hf]; rfl
        have hff : L f' = some f' := (fmem f').mp (List.mem_of_getElem? hf)
        obtain ⟨A1, B1, _, _, _, _, _, wk⟩ := pcs.2 i p f' hpi hf
        have wk7 := wk.same S7
        refine ⟨_, rfl, p, A1, B1, _, _, rfl, wk7, inC_sorted sF f', inC_sorted sB f', inC_pos wh ends hff, fun H8 S8 => ⟨_, rfl, iteF ?_⟩⟩
        refine ⟨_, rfl, p, A1, B1, _, _, rfl, wk7.same S8, inC_pos wh ends hff, inC_con wh ends, fun H9 S9 => ⟨_, rfl, iteF ?_⟩⟩
        have S79 := S8.trans S9
        have wk9 := wk7.same S79
        obtain ⟨av, eA, dA⟩ := wk9.f
        obtain ⟨bv', eB', dB'⟩ := wk9.b
        have eu9 := S79 _ _ eu
        have ev9 := S79 _ _ ev
        have ebo9 := S79 _ _ ebo
        have du9 := du.same S79
        have dv9 := dv.same S79
        have l1 := flat_len (L := L) (ls := fs) (tnd i)
        have l2 := flat_len (L := L) (ls := bs) (tnd i)
        have ul : uv.length ≤ 61 := by rw [du.length, List.length_map]; omega
        have vl : vv.length ≤ 61 := by rw [dv.length, List.length_map]; omega
        have l3 := inC_le L f' fs
        have l4 := inC_le L f' bs
        have al : av.length ≤ 61 := by rw [dA.length, List.length_map]; omega
        have bl : bv'.length ≤ 61 := by rw [dB'.length, List.length_map]; omega
        refine ⟨_, rfl, by decide, by decide, fun M nM => ?_⟩
        refine comp_n (J := Itr 0 2) (n := 2) (fun j σ2 Hj => (∃ v0, σ2 = [v0, some (.ref bo), some (.ref p)]) ∧ Same H9 Hj ∧ ∃ cs : List Addr, Hj M = some (.lst (cs.map V.ref)) ∧ cs.length = j ∧ (∀ c ∈ cs, c ≠ M) ∧ (∀ c, cs[0]? = some c → DtL Hj c ((flat L (fr.take (i + 1)) fs).map lnD)) ∧ ∀ c, cs[1]? = some c → DtL Hj c ((flat L (fr.take (i + 1)) bs).map lnD)) ?_ ?_ ?_ ?_
        · exact ⟨⟨_, rfl⟩, same_upd nM, [], upd_same, rfl, (fun _ h => nomatch h), (fun _ h => nomatch h), (fun _ h => nomatch h)⟩
        · rintro j σ2 Hj hj _
          exact hj
        · rintro σ2 Hj ⟨⟨v0, rfl⟩, Sj, cs, eM, cl2, _, h0, h1⟩
          refine ⟨Nat.le_refl _, ?_⟩
          match cs, cl2, eM, h0, h1 with
          | [c0, c1], _, eM, h0, h1 =>
            exact ⟨_, _, M, c0, c1, rfl, S7.trans (S79.trans Sj), eM, h0 c0 rfl, h1 c1 rfl⟩
        · rintro j σ2 Hj hj ⟨⟨v0, rfl⟩, Sj, cs, eM, cl2, cn, h0, h1⟩ x Hx ⟨rfl, rfl⟩
          have hj2 : j = 0 ∨ j = 1 := by omega
          rcases hj2 with rfl | rfl
          · refine ⟨_, rfl, _, rfl, bo, _, _, .ref u, rfl, rfl, SqL.of (Sj _ _ ebo9), rfl, _, rfl, _, rfl, p, _, _, .ref A1, rfl, rfl, SqT.of (Sj _ _ wk9.t), rfl, u, A1, uv, av, rfl, rfl, Sj _ _ eu9, Sj _ _ eA, sz (by omega), fun c nc => ?_⟩
            have Tc := same_upd (o := HO.lst (uv ++ av)) nc
            have eM2 := Tc _ _ eM
            have nec : c ≠ M := fun e => by rw [e, eM] at nc; cases nc
            have e0 : cs = [] := List.length_eq_zero_iff.mp cl2
            subst e0
            refine ⟨_, eM2, small1000 (by decide), ⟨_, rfl⟩, same_updN (Sj.trans Tc) nM, [c], upd_same, rfl, fun c' hc' => by rw [List.mem_singleton.mp hc']; exact nec, fun c' hc' => ?_, fun c' hc' => by simp at hc'⟩
            cases hc'
            refine DtL.updL ⟨uv ++ av, upd_same, ?_⟩ eM2 nec
            rw [tk, flat_snoc, List.map_append]
            exact dapp ((du9.same Sj).same Tc) ((dA.same Sj).same Tc)
          · refine ⟨_, rfl, _, rfl, bo, _, _, .ref v, rfl, rfl, SqL.of (Sj _ _ ebo9), rfl, _, rfl, _, rfl, p, _, _, .ref B1, rfl, rfl, SqT.of (Sj _ _ wk9.t), rfl, v, B1, vv, bv', rfl, rfl, Sj _ _ ev9, Sj _ _ eB', sz (by omega), fun c nc => ?_⟩
            have Tc := same_upd (o := HO.lst (vv ++ bv')) nc
            have eM2 := Tc _ _ eM
            have nec : c ≠ M := fun e => by rw [e, eM] at nc; cases nc
            match cs, cl2, eM, eM2, cn, h0 with
            | [c0], _, eM, eM2, cn, h0 =>
              have nc0 := cn c0 (List.mem_singleton.mpr rfl)
              refine ⟨_, eM2, small1000 (by show 1 ≤ 1000; decide), ⟨_, rfl⟩, same_updN (Sj.trans Tc) nM, [c0, c], upd_same, rfl, fun c' hc' => ?_, fun c' hc' => ?_, fun c' hc' => ?_⟩
              · rcases List.mem_cons.mp hc' with rfl | hc'
                · exact nc0
                · rw [List.mem_singleton.mp hc']; exact nec
              · cases hc'
                exact ((h0 c0 rfl).same Tc).updL eM2 nc0
              · cases hc'
                refine DtL.updL ⟨vv ++ bv', upd_same, ?_⟩ eM2 nec
                rw [tk, flat_snoc, List.map_append]
                exact dapp ((dv9.same Sj).same Tc) ((dB'.same Sj).same Tc)
    · rintro σ H7 ⟨v6, v7, bo, u, v, rfl, S7, ebo, ⟨uv, eu, du⟩, ⟨vv, ev, dv⟩⟩
      rw [List.length_map, List.take_of_length_le (by omega)] at du dv
      have S37 := S4.trans S7
      have inFr : ∀ ls : List Ln, (∀ a ∈ ls, a ∈ fs ++ bs) → ∀ a ∈ ls, ∃ f ∈ fr, L a.1 = some f := fun ls sub a ha => by
        obtain ⟨g, eg⟩ := Option.ne_none_iff_exists'.mp ((ends a.1).mpr ⟨a, sub a ha, .inl rfl⟩)
        exact ⟨g, (fmem g).mpr (wh.own _ _ eg), eg⟩
      have pF := flat_perm fnd (inFr fs fun a ha => List.mem_append_left _ ha)
      have pB := flat_perm fnd (inFr bs fun a ha => List.mem_append_right _ ha)
      obtain ⟨fv', eF', dF'⟩ := hF1.same S37
      obtain ⟨bv', eB', dB'⟩ := hB1.same S37
      have hu := hr.units
      have tag : ∀ ls : List Ln, ∀ d ∈ ls.map lnD, ∃ e r, d = Dt.tup (e :: r) ∧ e.tag = "tuple" := fun ls d hd => by
        obtain ⟨a, _, rfl⟩ := List.mem_map.mp hd
        exact ⟨_, _, rfl, rfl⟩
      have like : ∀ ls : List Ln, ∀ d ∈ ls.map lnD, ∀ d' ∈ ls.map lnD, Dt.like d d' = true := fun ls d hd d' hd' => by
        obtain ⟨a, _, rfl⟩ := List.mem_map.mp hd
        obtain ⟨a', _, rfl⟩ := List.mem_map.mp hd'
        exact lnD_like a a'
      have dpl : ∀ ls : List Ln, ∀ d ∈ ls.map lnD, d.dp ≤ 2 := fun ls d hd => by
        obtain ⟨a, _, rfl⟩ := List.mem_map.mp hd
        rw [lnD_dp]
        exact Nat.le_refl _
      refine ⟨_, rfl, bo, _, _, .ref u, rfl, rfl, SqL.of ebo, rfl, u, uv, _, "tuple", rfl, SqL.of eu, du, tag _, like _, fun d hd => Nat.lt_of_le_of_lt (Nat.le_trans (Nat.add_le_add_left (dpl _ d hd) _) (Nat.add_le_add_left (show 4 + 2 ≤ 64 by decide) _)) hu, fun l1 z1 es n1 _ dz pe srt => ?_⟩
      have e1 : es = fs.map lnD := rise_eq (pe.trans (pF.map lnD)) srt sF
      subst e1
      have V1 := same_upd (o := HO.lst z1) n1
      refine ⟨_, rfl, l1, F, z1, fv', _, _, rfl, rfl, SqL.of upd_same, SqL.of (V1 _ _ eF'), dz.same V1, dF'.same V1, lndp _, _, rfl, ?_⟩
      rw [Dt.beqs_self]
      refine iteF ?_
      refine ⟨_, rfl, bo, _, _, .ref v, rfl, rfl, SqL.of (V1 _ _ ebo), rfl, v, vv, _, "tuple", rfl, SqL.of (V1 _ _ ev), dv.same V1, tag _, like _, fun d hd => Nat.lt_of_le_of_lt (Nat.le_trans (Nat.add_le_add_left (dpl _ d hd) _) (Nat.add_le_add_left (show 4 + 2 ≤ 64 by decide) _)) hu, fun l2 z2 es n2 _ dz2 pe2 srt2 => ?_⟩
      have e2 : es = bs.map lnD := rise_eq (pe2.trans (pB.map lnD)) srt2 sB
      subst e2
      have V2 := same_upd (o := HO.lst z2) n2
      have V12 := V1.trans V2
      refine ⟨_, rfl, l2, Bk, z2, bv', _, _, rfl, rfl, SqL.of upd_same, SqL.of (V12 _ _ eB'), dz2.same V2, dB'.same V12, lndp _, _, rfl, ?_⟩
      rw [Dt.beqs_self]
      refine iteF ?_
      have S48 := S7.trans V12
      refine ⟨_, rfl, l, ps, fr, L, fs ++ bs, rfl, S48 _ _ el, pl, cl, fun i p f' e1 e2 => ?_, fun H9 S9 => ⟨_, rfl, iteF ?_⟩⟩
      · obtain ⟨A1, B1, _, _, _, _, _, wk⟩ := pcs.2 i p f' e1 e2
        exact ⟨A1, B1, _, _, wk.same S48, fun h => inC_ends wh ends⟩
      have S49 := S48.trans S9
      refine ⟨_, rfl, l, rfl, ⟨_, SqL.of (S49 _ _ el)⟩, fun Kp nKp => comp_pl (H0 := H4) (L := L) (fs := fs) (bs := bs) S49 (S49 _ _ el) pl fll (fun i p f' e1 e2 => ?_) nKp fun H10 ys S10 eK yl rows => ?_⟩
      · obtain ⟨A1, B1, _, _, _, _, _, wk⟩ := pcs.2 i p f' e1 e2
        exact ⟨A1, B1, wk.same S49⟩
      have S410 := S49.trans S10
      have nK4 : H4 Kp = none := none_same S49 nKp
      let M : Addr → Prop := fun c => ∃ (i : Nat) (p : Addr) (f : Ho) (A B : Addr), ps[i]? = some p ∧ fr[i]? = some f ∧ H4 p = some (.tup [.ref A, .ref B]) ∧ (c = A ∨ c = B)
      have mOk : ∀ c, M c → H3 c = none ∧ c ≠ l ∧ ∃ xs, H4 c = some (.lst xs) ∧ xs.length ≤ 70 := fun c hc => by
        obtain ⟨i, p, f', A1, B1, e1, e2, ep, q⟩ := hc
        obtain ⟨A2, B2', f1, f2, _, n2, n3, wk⟩ := pcs.2 i p f' e1 e2
        have hep := wk.t
        rw [ep] at hep
        cases hep
        rcases q with rfl | rfl
        · obtain ⟨xs, ex, dx⟩ := wk.f
          exact ⟨f1, n2, xs, ex, by rw [dx.length, List.length_map]; exact wk.lf⟩
        · obtain ⟨xs, ex, dx⟩ := wk.b
          exact ⟨f2, n3, xs, ex, by rw [dx.length, List.length_map]; exact wk.lb⟩
      have mTup : ∀ c xs, H4 c = some (.tup xs) → ¬ M c := fun c xs e hc => by
        obtain ⟨_, _, ys', ey, _⟩ := mOk c hc
        rw [e] at ey
        cases ey
      refine ⟨_, rfl, l, rfl, ⟨_, SqL.of (S410 _ _ el)⟩, ?_⟩
      refine for_list (K := K) (a := l) (xs := ps.map V.ref) (fun i σ H' => (∃ v6, σ = [some (.ref a), some (.ref F), some (.ref Bk), some (.ref t), some (.ref l), some (.ref bo), v6, some (.ref Kp)]) ∧ (∀ c v, ¬ M c → H10 c = some v → H' c = some v) ∧ ∀ c, M c → ∃ xs, H' c = some (.lst xs) ∧ xs.length ≤ 70 + i)
        ⟨⟨_, rfl⟩, fun _ _ _ e => e, fun c hc => by
          obtain ⟨_, _, xs, ex, hl'⟩ := mOk c hc
          exact ⟨xs, S410 _ _ ex, hl'⟩⟩ (fun i σ H' _ ⟨_, kp, _⟩ => SqL.of (kp _ _ (fun hc => (mOk l hc).2.1 rfl) (S410 _ _ el))) ?_ ?_
      · rintro i x σ H' hx ⟨⟨v6, rfl⟩, kp, ml⟩
        rw [List.getElem?_map] at hx
        cases hpi : ps[i]? with
        | none => rw [hpi] at hx; cases hx
        | some p =>
          rw [hpi] at hx
          cases hx
          have hi : i < fr.length := by
            have := (List.getElem?_eq_some_iff.mp hpi).1
            omega
          obtain ⟨A1, B1, _, _, _, _, _, wk⟩ := pcs.2 i p _ hpi (List.getElem?_eq_getElem hi)
          have ep4 := wk.t
          have mA : M A1 := ⟨i, p, _, A1, B1, hpi, List.getElem?_eq_getElem hi, ep4, .inl rfl⟩
          have mB : M B1 := ⟨i, p, _, A1, B1, hpi, List.getElem?_eq_getElem hi, ep4, .inr rfl⟩
          have ep := kp _ _ (mTup p _ ep4) (S410 _ _ ep4)
          obtain ⟨xa, exa, la⟩ := ml A1 mA
          refine ⟨_, rfl, p, _, _, .ref A1, rfl, rfl, SqT.of ep, rfl, .inl ⟨rfl, _, SqL.of exa⟩, A1, xa, _, rfl, rfl, exa, small1000 (by omega), ?_⟩
          have kp2 : ∀ c v, ¬ M c → H10 c = some v → (upd H' A1 (.lst (xa ++ [V.non]))) c = some v := fun c v nc e => by rw [upd_ne (fun zz : c = A1 => nc (by rw [zz]; exact mA))]; exact kp c v nc e
          have ml2 : ∀ c, M c → ∃ xs, (upd H' A1 (.lst (xa ++ [V.non]))) c = some (.lst xs) ∧ xs.length ≤ 70 + i + 1 := fun c hc => by
            by_cases hz : c = A1
            · rw [hz, upd_same]
              exact ⟨_, rfl, by rw [List.length_append]; show xa.length + 1 ≤ _; omega⟩
            · rw [upd_ne hz]
              obtain ⟨xs, ex, hl'⟩ := ml c hc
              exact ⟨xs, ex, by omega⟩
          revert kp2 ml2
          generalize upd H' A1 (HO.lst (xa ++ [V.non])) = Ha
          intro kp2 ml2
          have epa := kp2 _ _ (mTup p _ ep4) (S410 _ _ ep4)
          obtain ⟨xb, exb, lb'⟩ := ml2 B1 mB
          refine ⟨_, rfl, p, _, _, .ref B1, rfl, rfl, SqT.of epa, rfl, .inl ⟨rfl, _, SqL.of exb⟩, B1, xb, rfl, rfl, exb, ?_⟩
          refine ⟨⟨_, rfl⟩, fun c v nc e => by rw [upd_ne (fun zz : c = B1 => nc (by rw [zz]; exact mB))]; exact kp2 c v nc e, fun c hc => ?_⟩
          by_cases hz : c = B1
          · rw [hz, upd_same]
            exact ⟨_, rfl, by show 0 ≤ _; omega⟩
          · rw [upd_ne hz]
            obtain ⟨xs, ex, hl'⟩ := ml2 c hc
            exact ⟨xs, ex, by omega⟩
      · rintro σ H11 ⟨⟨v6, rfl⟩, kp, _⟩
        have S311 : Same H3 H11 := fun c v e => kp c v (fun hc => by rw [(mOk c hc).1] at e; cases e) (S410 c v (S4 c v e))
        have tups : ∀ c xs, H10 c = some (.tup xs) → H11 c = some (.tup xs) := fun c xs e => kp c _ (fun hc => by
          obtain ⟨_, _, ys', ey, _⟩ := mOk c hc
          rw [S410 _ _ ey] at e
          cases e) e
        have m4 : ∀ c, H4 c = none → ¬ M c := fun c e hc => by
          obtain ⟨_, _, ys', ey, _⟩ := mOk c hc
          rw [e] at ey
          cases ey
        refine ⟨_, rfl, t, F2, B2, fs, bs, rfl, ⟨S311 _ _ et, hF2.same S311, hB2.same S311, by omega, by omega⟩, fun l' ps' fr' L' H12 S12 el' pcs' fnd' fll' fmem' wh' ends' lst' fsrt' => ?_⟩
        have eL := same_L wh ends lst wh' ends' lst'
        subst eL
        have efr : fr' = fr := rise_hs fnd' fnd (fun h => by rw [fmem', fmem]) fsrt' fsrt
        subst efr
        refine ⟨l', rfl, ⟨_, SqL.of el'⟩, fun M2 nM2 => comp_pl (H0 := H12) (L := L') (fs := fs) (bs := bs) (fun _ _ e => e) el' pcs'.1 fll (fun i p f' e1 e2 => ?_) nM2 fun H13 ys2 S13 eM2 yl2 rows2' => ?_⟩
        · obtain ⟨A1, B1, _, _, _, _, _, wk⟩ := pcs'.2 i p f' e1 e2
          exact ⟨A1, B1, wk⟩
        have S1113 := S12.trans S13
        have eK13 := S1113 _ _ (kp _ _ (m4 _ nK4) eK)
        have prl : (prs L' fs bs fr').length = fr'.length := by unfold prs; rw [List.length_map]
        refine ⟨_, rfl, M2, Kp, ys2, ys, prs L' fs bs fr', rfl, rfl, SqL.of eM2, SqL.of eK13, by omega, by omega, fun j v r e1 e2 => ?_, fun j v r e1 e2 => ?_, _, rfl, iteT ?_⟩
        · have h := rows2' j v r e1 e2
          unfold prs at e2
          rw [List.getElem?_map] at e2
          cases hf : fr'[j]? with
          | none => rw [hf] at e2; cases e2
          | some f' =>
            rw [hf] at e2
            cases e2
            exact h.is
        · have h := rows j v r e1 e2
          unfold prs at e2
          rw [List.getElem?_map] at e2
          cases hf : fr'[j]? with
          | none => rw [hf] at e2; cases e2
          | some f' =>
            rw [hf] at e2
            cases e2
            obtain ⟨a', u', l'', rfl, f1, f2, f3, ea, ⟨xu, eu', du'⟩, ⟨xl, el'', dl'⟩⟩ := h
            refine PlIs.same ⟨a', u', l'', rfl, kp _ _ (m4 _ f1) ea, ⟨xu, kp _ _ (m4 _ f2) eu', DtsIs.keep tups du'⟩, ⟨xl, kp _ _ (m4 _ f3) el'', DtsIs.keep tups dl'⟩, lnsdp _, lnsdp _⟩ S1113
        · have S313 := S311.trans S1113
          refine ⟨_, rfl, _, rfl, _, rfl, szr rfl, fun t5 nt5 => ?_⟩
          have T5 := same_upd (o := HO.tup [V.ref F, .ref Bk]) nt5
          have S315 := S313.trans T5
          exact ⟨t, t5, _, _, _, rfl, rfl, SqT.of (S315 _ _ et), SqT.of upd_same, rows2 (hF2.same S315) (hB2.same S315) (lnsdp _) (lnsdp _), rows2 (hF1.same S315) (hB1.same S315) (lnsdp _) (lnsdp _), k _⟩
end
end K33
namespace K33
open PySem PySem.Spec PyProof.Rows L2 BF
theorem ln1 {us : List Value} (h : us.length = 1) : ∃ a0, us = [a0] := match us, h with | [a0], _ => ⟨a0, rfl⟩
theorem ln2 {us : List Value} (h : us.length = 2) : ∃ a0 a1, us = [a0, a1] := match us, h with | [a0, a1], _ => ⟨a0, a1, rfl⟩
theorem ln3 {us : List Value} (h : us.length = 3) : ∃ a0 a1 a2, us = [a0, a1, a2] := match us, h with | [a0, a1, a2], _ => ⟨a0, a1, a2, rfl⟩
theorem all_mk {l : PySem.W.OpenLaw} {w : World} {K : PySem.W.Frag} {h : Heap} {mg : Str → Option Value} {fa fN fL fA fP fC fR fT fE fF fW fI fH fG fQ fZ : Addr} (X : K.In h) (G : h.Ns mainGlobals mg) (hfa : mg "law" = some (.ref fa))
    {odN anN odL anL odA anA odP anP odC anC odR anR odT anT odE anE odF anF odW anW odI anI odH anH odG anG odQ anQ odZ anZ : Option Addr} {slN slL slA slP slC slR slT slE slF slW slI slH slG slQ slZ : Array (Option Value)} {ocN kVN dcN pmN cdN ctN ocL kVL dcL pmL cdL ctL ocA kVA dcA pmA cdA ctA ocP kVP dcP pmP cdP ctP ocC kVC dcC pmC cdC ctC ocR kVR dcR pmR cdR ctR ocT kVT dcT pmT cdT ctT ocE kVE dcE pmE cdE ctE ocF kVF dcF pmF cdF ctF ocW kVW dcW pmW cdW ctW ocI kVI dcI pmI cdI ctI ocH kVH dcH pmH cdH ctH ocG kVG dcG pmG cdG ctG ocQ kVQ dcQ pmQ cdQ ctQ ocZ kVZ dcZ pmZ cdZ ctZ : Value}
    (aN : PySem.W.nsIn K mainGlobals "neighbours_by_hole" = some (some (.ref fN))) (lN : K.lookup fN = some ⟨ocN, odN, .func (PySem.W.fnOf "neighbours_by_hole" "neighbours_by_hole" (defArgs sNb) (defBody sNb) (defScope sNb) .none kVN dcN pmN anN cdN ctN), slN⟩) (cN : PySem.W.codeIn K cdN "neighbours_by_hole" = true) (kN : PySem.W.keepIn K (.ref fN) = true)
    (aL : PySem.W.nsIn K mainGlobals "least_by_hole" = some (some (.ref fL))) (lL : K.lookup fL = some ⟨ocL, odL, .func (PySem.W.fnOf "least_by_hole" "least_by_hole" (defArgs sLeast) (defBody sLeast) (defScope sLeast) .none kVL dcL pmL anL cdL ctL), slL⟩) (cL : PySem.W.codeIn K cdL "least_by_hole" = true) (kL : PySem.W.keepIn K (.ref fL) = true)
    (aA : PySem.W.nsIn K mainGlobals "lines_at" = some (some (.ref fA))) (lA : K.lookup fA = some ⟨ocA, odA, .func (PySem.W.fnOf "lines_at" "lines_at" (defArgs sAtL) (defBody sAtL) (defScope sAtL) .none kVA dcA pmA anA cdA ctA), slA⟩) (cA : PySem.W.codeIn K cdA "lines_at" = true) (kA : PySem.W.keepIn K (.ref fA) = true)
    (aP : PySem.W.nsIn K mainGlobals "pieces" = some (some (.ref fP))) (lP : K.lookup fP = some ⟨ocP, odP, .func (PySem.W.fnOf "pieces" "pieces" (defArgs sPieces) (defBody sPieces) (defScope sPieces) .none kVP dcP pmP anP cdP ctP), slP⟩) (cP : PySem.W.codeIn K cdP "pieces" = true) (kP : PySem.W.keepIn K (.ref fP) = true)
    (aC : PySem.W.nsIn K mainGlobals "_law_cell_at" = some (some (.ref fC))) (lC : K.lookup fC = some ⟨ocC, odC, .func (PySem.W.fnOf "_law_cell_at" "_law_cell_at" (defArgs sCell) (defBody sCell) (defScope sCell) .none kVC dcC pmC anC cdC ctC), slC⟩) (cC : PySem.W.codeIn K cdC "_law_cell_at" = true) (kC : PySem.W.keepIn K (.ref fC) = true)
    (aR : PySem.W.nsIn K mainGlobals "_law_room" = some (some (.ref fR))) (lR : K.lookup fR = some ⟨ocR, odR, .func (PySem.W.fnOf "_law_room" "_law_room" (defArgs sRoom) (defBody sRoom) (defScope sRoom) .none kVR dcR pmR anR cdR ctR), slR⟩) (cR : PySem.W.codeIn K cdR "_law_room" = true) (kR : PySem.W.keepIn K (.ref fR) = true)
    (aT : PySem.W.nsIn K mainGlobals "_law_take" = some (some (.ref fT))) (lT : K.lookup fT = some ⟨ocT, odT, .func (PySem.W.fnOf "_law_take" "_law_take" (defArgs sTake) (defBody sTake) (defScope sTake) .none kVT dcT pmT anT cdT ctT), slT⟩) (cT : PySem.W.codeIn K cdT "_law_take" = true) (kT : PySem.W.keepIn K (.ref fT) = true)
    (aE : PySem.W.nsIn K mainGlobals "_law_ends" = some (some (.ref fE))) (lE : K.lookup fE = some ⟨ocE, odE, .func (PySem.W.fnOf "_law_ends" "_law_ends" (defArgs sEnds) (defBody sEnds) (defScope sEnds) .none kVE dcE pmE anE cdE ctE), slE⟩) (cE : PySem.W.codeIn K cdE "_law_ends" = true) (kE : PySem.W.keepIn K (.ref fE) = true)
    (aF : PySem.W.nsIn K mainGlobals "_law_far" = some (some (.ref fF))) (lF : K.lookup fF = some ⟨ocF, odF, .func (PySem.W.fnOf "_law_far" "_law_far" (defArgs sFar) (defBody sFar) (defScope sFar) .none kVF dcF pmF anF cdF ctF), slF⟩) (cF : PySem.W.codeIn K cdF "_law_far" = true) (kF : PySem.W.keepIn K (.ref fF) = true)
    (aW : PySem.W.nsIn K mainGlobals "_law_work" = some (some (.ref fW))) (lW : K.lookup fW = some ⟨ocW, odW, .func (PySem.W.fnOf "_law_work" "_law_work" (defArgs sWork) (defBody sWork) (defScope sWork) .none kVW dcW pmW anW cdW ctW), slW⟩) (cW : PySem.W.codeIn K cdW "_law_work" = true) (kW : PySem.W.keepIn K (.ref fW) = true)
    (aI : PySem.W.nsIn K mainGlobals "_law_is_piece" = some (some (.ref fI))) (lI : K.lookup fI = some ⟨ocI, odI, .func (PySem.W.fnOf "_law_is_piece" "_law_is_piece" (defArgs sIsPiece) (defBody sIsPiece) (defScope sIsPiece) .none kVI dcI pmI anI cdI ctI), slI⟩) (cI : PySem.W.codeIn K cdI "_law_is_piece" = true) (kI : PySem.W.keepIn K (.ref fI) = true)
    (aH : PySem.W.nsIn K mainGlobals "_law_holes" = some (some (.ref fH))) (lH : K.lookup fH = some ⟨ocH, odH, .func (PySem.W.fnOf "_law_holes" "_law_holes" (defArgs sHoles) (defBody sHoles) (defScope sHoles) .none kVH dcH pmH anH cdH ctH), slH⟩) (cH : PySem.W.codeIn K cdH "_law_holes" = true) (kH : PySem.W.keepIn K (.ref fH) = true)
    (aG : PySem.W.nsIn K mainGlobals "_law_hangs" = some (some (.ref fG))) (lG : K.lookup fG = some ⟨ocG, odG, .func (PySem.W.fnOf "_law_hangs" "_law_hangs" (defArgs sHangs) (defBody sHangs) (defScope sHangs) .none kVG dcG pmG anG cdG ctG), slG⟩) (cG : PySem.W.codeIn K cdG "_law_hangs" = true) (kG : PySem.W.keepIn K (.ref fG) = true)
    (aQ : PySem.W.nsIn K mainGlobals "_law_apart" = some (some (.ref fQ))) (lQ : K.lookup fQ = some ⟨ocQ, odQ, .func (PySem.W.fnOf "_law_apart" "_law_apart" (defArgs sApart) (defBody sApart) (defScope sApart) .none kVQ dcQ pmQ anQ cdQ ctQ), slQ⟩) (cQ : PySem.W.codeIn K cdQ "_law_apart" = true) (kQ : PySem.W.keepIn K (.ref fQ) = true)
    (aZ : PySem.W.nsIn K mainGlobals "law" = some (some (.ref fZ))) (lZ : K.lookup fZ = some ⟨ocZ, odZ, .func (PySem.W.fnOf "law" "law" (defArgs sLaw) (defBody sLaw) (defScope sLaw) .none kVZ dcZ pmZ anZ cdZ ctZ), slZ⟩) (cZ : PySem.W.codeIn K cdZ "law" = true) (kZ : PySem.W.keepIn K (.ref fZ) = true)
    (z_isi : PySem.W.nsIn K mainGlobals "isinstance" = some none)
    (z_int : PySem.W.nsIn K mainGlobals "int" = some none)
    (z_list : PySem.W.nsIn K mainGlobals "list" = some none)
    (z_tuple : PySem.W.nsIn K mainGlobals "tuple" = some none)
    (z_len : PySem.W.nsIn K mainGlobals "len" = some none)
    (z_range : PySem.W.nsIn K mainGlobals "range" = some none)
    (z_abs : PySem.W.nsIn K mainGlobals "abs" = some none)
    (z_min : PySem.W.nsIn K mainGlobals "min" = some none)
    (z_sorted : PySem.W.nsIn K mainGlobals "sorted" = some none) :
    ∃ fd : FuncData, (∀ (s : Shared) (v : Value), BindsTo s fd ⟨[v], []⟩ [("_law_script", v)]) ∧ ∀ base : Heap, K.In base → base.Ns mainGlobals mg → FnOk l.prog w K mg base CX0 4 fa fd ["_law_script"] (spLaw K) := by
  have e := hfa.symm.trans (PySem.W.mg_of X G aZ)
  cases e
  have DN := df_mk (st := sNb) X G aN lN cN kN
  have DL := df_mk (st := sLeast) X G aL lL cL kL
  have DA := df_mk (st := sAtL) X G aA lA cA kA
  have DP := df_mk (st := sPieces) X G aP lP cP kP
  have DC := df_mk (st := sCell) X G aC lC cC kC
  have DR := df_mk (st := sRoom) X G aR lR cR kR
  have DT := df_mk (st := sTake) X G aT lT cT kT
  have DE := df_mk (st := sEnds) X G aE lE cE kE
  have DF := df_mk (st := sFar) X G aF lF cF kF
  have DW := df_mk (st := sWork) X G aW lW cW kW
  have DI := df_mk (st := sIsPiece) X G aI lI cI kI
  have DH := df_mk (st := sHoles) X G aH lH cH kH
  have DG := df_mk (st := sHangs) X G aG lG cG kG
  have DQ := df_mk (st := sApart) X G aQ lQ cQ kQ
  have DZ := df_mk (st := sLaw) X G aZ lZ cZ kZ
  have B : Blt mg := ⟨PySem.W.mg_none_of X G z_isi, PySem.W.mg_none_of X G z_int, PySem.W.mg_none_of X G z_list, PySem.W.mg_none_of X G z_tuple, PySem.W.mg_none_of X G z_len, PySem.W.mg_none_of X G z_range, PySem.W.mg_none_of X G z_abs, PySem.W.mg_none_of X G z_min, PySem.W.mg_none_of X G z_sorted⟩
  have bN := DN.F.binds (ps := ["work"]) fun _ _ _ _ _ _ us hl => by obtain ⟨_, rfl⟩ := ln1 hl; rfl
  have bL := DL.F.binds (ps := ["work"]) fun _ _ _ _ _ _ us hl => by obtain ⟨_, rfl⟩ := ln1 hl; rfl
  have bA := DA.F.binds (ps := ["lines", "least", "first"]) fun _ _ _ _ _ _ us hl => by obtain ⟨_, _, _, rfl⟩ := ln3 hl; rfl
  have bP := DP.F.binds (ps := ["work"]) fun _ _ _ _ _ _ us hl => by obtain ⟨_, rfl⟩ := ln1 hl; rfl
  have bC := DC.F.binds (ps := ["_law_script", "_law_k"]) fun _ _ _ _ _ _ us hl => by obtain ⟨_, _, rfl⟩ := ln2 hl; rfl
  have bR := DR.F.binds (ps := ["_law_script"]) fun _ _ _ _ _ _ us hl => by obtain ⟨_, rfl⟩ := ln1 hl; rfl
  have bT := DT.F.binds (ps := ["_law_room_here", "_law_many"]) fun _ _ _ _ _ _ us hl => by obtain ⟨_, _, rfl⟩ := ln2 hl; rfl
  have bE := DE.F.binds (ps := ["_law_room_here", "_law_far_here"]) fun _ _ _ _ _ _ us hl => by obtain ⟨_, _, rfl⟩ := ln2 hl; rfl
  have bF := DF.F.binds (ps := ["_law_room_here"]) fun _ _ _ _ _ _ us hl => by obtain ⟨_, rfl⟩ := ln1 hl; rfl
  have bW := DW.F.binds (ps := ["_law_room_here"]) fun _ _ _ _ _ _ us hl => by obtain ⟨_, rfl⟩ := ln1 hl; rfl
  have bI := DI.F.binds (ps := ["_law_piece"]) fun _ _ _ _ _ _ us hl => by obtain ⟨_, rfl⟩ := ln1 hl; rfl
  have bH := DH.F.binds (ps := ["_law_piece"]) fun _ _ _ _ _ _ us hl => by obtain ⟨_, rfl⟩ := ln1 hl; rfl
  have bG := DG.F.binds (ps := ["_law_piece"]) fun _ _ _ _ _ _ us hl => by obtain ⟨_, rfl⟩ := ln1 hl; rfl
  have bQ := DQ.F.binds (ps := ["_law_some"]) fun _ _ _ _ _ _ us hl => by obtain ⟨_, rfl⟩ := ln1 hl; rfl
  refine ⟨PySem.W.fnOf "law" "law" (defArgs sLaw) (defBody sLaw) (defScope sLaw) .none kVZ dcZ pmZ anZ cdZ ctZ, fun s v => .of_eq rfl, fun base _ _ => ?_⟩
  have GN : FnOk l.prog w K mg base CX0 1 fN _ ["work"] (spNb l.prog w) := ok_nb DN
  have GL : FnOk l.prog w K mg base CX0 2 fL _ ["work"] (spLeast l.prog w) := ok_least DL DN bN GN B.sorted
  have GA : FnOk l.prog w K mg base CX0 1 fA _ ["lines", "least", "first"] (spAtL l.prog w) := ok_atL DA
  have GP : FnOk l.prog w K mg base CX0 3 fP _ ["work"] spPieces := ok_pieces DP DL bL GL DA bA GA B.sorted
  have GR : FnOk l.prog w K mg base CX0 2 fR _ ["_law_script"] (spRoom K) := ok_room DR DC bC (ok_cell DC B.len) B.abs
  have GT : FnOk l.prog w K mg base CX0 1 fT _ ["_law_room_here", "_law_many"] spTake := ok_take DT B.len
  have GE : FnOk l.prog w K mg base CX0 2 fE _ ["_law_room_here", "_law_far_here"] spEnds := ok_ends DE DT bT GT
  have GF : FnOk l.prog w K mg base CX0 2 fF _ ["_law_room_here"] spFar := ok_far DF DT bT GT
  have GW : FnOk l.prog w K mg base CX0 3 fW _ ["_law_room_here"] spWork := ok_work DW DT bT GT DF bF GF DE bE GE B.range B.sorted B.int
  have GI : FnOk l.prog w K mg base CX0 1 fI _ ["_law_piece"] spIsPiece := ok_isPiece DI B.isi B.tuple B.list B.len B.sorted
  have GH : FnOk l.prog w K mg base CX0 1 fH _ ["_law_piece"] (spHoles l.prog w) := ok_holes DH
  have GG : FnOk l.prog w K mg base CX0 1 fG _ ["_law_piece"] spHangs := ok_hangs DG
  have GQ : FnOk l.prog w K mg base CX0 2 fQ _ ["_law_some"] spApart := ok_apart DQ DH bH GH B.min
  exact ok_law DZ DR bR GR DW bW GW DP bP GP DI bI GI DG bG GG DQ bQ GQ B
theorem walk {l : PySem.W.OpenLaw} {q : Program} {loose : List Str} {XP : (Str → Option Value) → Heap → Prop} {YP : World → Heap → Prop} {d : DefRec} {K : Params → PySem.W.Frag} (hn : l.most = some 63) (hdf : d.params.defaults = [])
    (hY : ∀ (w : World) (h : Heap), YP w h → (K w.params).In h)
    (F : ∀ (w : World) (mg : Str → Option Value) (fa : Addr) (h : Heap), (K w.params).In h → h.Ns mainGlobals mg → mg d.name = some (.ref fa) →
      ∃ fd : FuncData, (∀ (s : Shared) (u : Value), BindsTo s fd ⟨[u], []⟩ [("_law_script", u)]) ∧ ∀ base : Heap, (K w.params).In base → base.Ns mainGlobals mg → FnOk l.prog w (K w.params) mg base CX0 4 fa fd ["_law_script"] (spLaw (K w.params))) :
    PySem.W.WalkO q loose XP YP l.row.toRowW d [] (fun f vs => PySem.call f vs) :=
  L2.walk_of (n := 63) (k := 4) (x := "_law_script") (CX := fun _ => CX0) (sp := fun w => spLaw (K w.params)) hn (by decide) hdf ⟨rfl, by decide, by decide⟩ hY F (fun _ _ a ns hl _ hS => ⟨a, ns, rfl, hS, hl, fun _ => rfl⟩) fun _ _ _ _ _ z => z
end K33
open PySem PySem.W PyProof.Rows
set_option maxRecDepth 100000 in
set_option maxHeartbeats 0 in
theorem PySem.Challenge.cw_bothfaces_k33_whole_pieces_holds : PySem.Challenge.rw_bothfaces_k33_whole_pieces.Holds := by
  w_on; o_law; k_head; (case hw => w_witness2)
  k_fill
  refine K33.walk (l := PySem.Challenge.rw_bothfaces_k33_whole_pieces) rfl rfl (fun w h Y => PySem.W.kIn_of Y) ?F
  case F =>
    intro w mg fa h KX G hmg
    refine' K33.all_mk KX G hmg ?aN ?lN ?cN ?kN ?aL ?lL ?cL ?kL ?aA ?lA ?cA ?kA ?aP ?lP ?cP ?kP ?aC ?lC ?cC ?kC ?aR ?lR ?cR ?kR ?aT ?lT ?cT ?kT ?aE ?lE ?cE ?kE ?aF ?lF ?cF ?kF ?aW ?lW ?cW ?kW ?aI ?lI ?cI ?kI ?aH ?lH ?cH ?kH ?aG ?lG ?cG ?kG ?aQ ?lQ ?cQ ?kQ ?aZ ?lZ ?cZ ?kZ ?z_isi ?z_int ?z_list ?z_tuple ?z_len ?z_range ?z_abs ?z_min ?z_sorted
    (case aN => k_is)
    (case lN => k_is)
    (case cN => k_is)
    (case kN => k_is)
    (case aL => k_is)
    (case lL => k_is)
    (case cL => k_is)
    (case kL => k_is)
    (case aA => k_is)
    (case lA => k_is)
    (case cA => k_is)
    (case kA => k_is)
    (case aP => k_is)
    (case lP => k_is)
    (case cP => k_is)
    (case kP => k_is)
    (case aC => k_is)
    (case lC => k_is)
    (case cC => k_is)
    (case kC => k_is)
    (case aR => k_is)
    (case lR => k_is)
    (case cR => k_is)
    (case kR => k_is)
    (case aT => k_is)
    (case lT => k_is)
    (case cT => k_is)
    (case kT => k_is)
    (case aE => k_is)
    (case lE => k_is)
    (case cE => k_is)
    (case kE => k_is)
    (case aF => k_is)
    (case lF => k_is)
    (case cF => k_is)
    (case kF => k_is)
    (case aW => k_is)
    (case lW => k_is)
    (case cW => k_is)
    (case kW => k_is)
    (case aI => k_is)
    (case lI => k_is)
    (case cI => k_is)
    (case kI => k_is)
    (case aH => k_is)
    (case lH => k_is)
    (case cH => k_is)
    (case kH => k_is)
    (case aG => k_is)
    (case lG => k_is)
    (case cG => k_is)
    (case kG => k_is)
    (case aQ => k_is)
    (case lQ => k_is)
    (case cQ => k_is)
    (case kQ => k_is)
    (case aZ => k_is)
    (case lZ => k_is)
    (case cZ => k_is)
    (case kZ => k_is)
    (case z_isi => k_is)
    (case z_int => k_is)
    (case z_list => k_is)
    (case z_tuple => k_is)
    (case z_len => k_is)
    (case z_range => k_is)
    (case z_abs => k_is)
    (case z_min => k_is)
    (case z_sorted => k_is)
