import PyProof.Rows.All
import Wide.All
import OpenK.AllK
import Wide.FinOn
import Lean
import PyProof.EqAt
import PyProof.EqKinds
import PyProof.TupleCall
import PyProof.NeKinds
import Wide.Seal
import KE.KDictList
import KE.KSortTup
import KE.KDictOf
import KE.KTryMore
import PyProof.CompUse
import PyProof.AttrMissHeap
import PyProof.Rows.TupTab
import PyProof.ZipIter
import PyProof.Rows.ZipGen
import PyProof.LayNew
import KE.KRevSl
import PyProof.SumWalk
import PyProof.EnumMake
import PyProof.EnumFor
import PyProof.Rows.EnumRows
import PyProof.ListRange
import PyProof.Rows.Range3
import PyProof.Rows.TupDisplay
import PyProof.ListIndex
import PyProof.StrOps2
import PyProof.NoPylong
import PyProof.Draws
import PyProof.Conv_int_bool
import KE.KItemsList
import PyProof.FactsAll.set_2
import PyProof.MeetsSeq2
import PySem.Challenge.RW_bothfaces_k25_bounds_of_drawings
set_option Elab.async false
set_option linter.all false
set_option maxRecDepth 100000
set_option maxHeartbeats 4000000
namespace L2
open PySem PySem.Spec PyProof.Rows
abbrev Key:=Sum Int Str
def keyIs:Key→Value→Bool
 | .inl k,v=>Value.isInt k v
 | .inr x,v=>Value.isStrOf x v
def keyH (w:World):Key→Int
 | .inl k=>hashInt k
 | .inr x=>hashStr w x
theorem keyIs_shape:∀ {k:Key} {v:Value},keyIs k v=true→(∃ i t,k=Sum.inl i∧v=Value.int i t)∨(∃ x t,k=Sum.inr x∧v=Value.str x t)
 | .inl i,v,h=>by
  obtain ⟨t,e⟩:=Value.isInt_shape (k:=i) (v:=v) h
  exact .inl ⟨i,t,rfl,e⟩
 | .inr x,v,h=>by
  obtain ⟨t,e⟩:=Value.isStrOf_shape (x:=x) (v:=v) h
  exact .inr ⟨x,t,rfl,e⟩
theorem key_ll (a b:Int):decide ((Sum.inl a:Key)=Sum.inl b)=(a == b):=by
 by_cases e:a=b
 ·subst e; simp
 ·have h:¬ (Sum.inl a:Key)=Sum.inl b:=fun q=>e (Sum.inl.inj q)
  rw [decide_eq_false h]
  exact (beq_eq_false_iff_ne.mpr e).symm
theorem key_rr (a b:Str):decide ((Sum.inr a:Key)=Sum.inr b)=decide (a=b):=by
 by_cases e:a=b
 ·subst e; simp
 ·have h:¬ (Sum.inr a:Key)=Sum.inr b:=fun q=>e (Sum.inr.inj q)
  rw [decide_eq_false h,decide_eq_false e]
theorem key_lr (a:Int) (b:Str):decide ((Sum.inl a:Key)=Sum.inr b)=false:=decide_eq_false (fun q=>nomatch q)
theorem key_rl (a:Str) (b:Int):decide ((Sum.inr a:Key)=Sum.inl b)=false:=decide_eq_false (fun q=>nomatch q)
def mixKind (prog:Program) (w:World):PySem.KeyKind prog w Key where
 is:=keyIs
 hash:=keyH w
 inj:=fun v a b ha hb=>by
  rcases keyIs_shape ha with ⟨i,t,rfl,rfl⟩ | ⟨x,t,rfl,rfl⟩
  ·rcases keyIs_shape hb with ⟨j,u,rfl,e⟩ | ⟨y,u,rfl,e⟩
   ·injection e with e1 _; rw [e1]
   ·exact nomatch e
  ·rcases keyIs_shape hb with ⟨j,u,rfl,e⟩ | ⟨y,u,rfl,e⟩
   ·exact nomatch e
   ·injection e with e1 _; rw [e1]
 byValue:=fun k v h=>by
  rcases keyIs_shape h with ⟨i,t,rfl,rfl⟩ | ⟨x,t,rfl,rfl⟩ <;> rfl
 pyHash:=fun hv h=>by
  rcases keyIs_shape hv with ⟨i,t,rfl,rfl⟩ | ⟨x,t,rfl,rfl⟩
  ·exact wpAny_pyHash_int h
  ·exact wpAny_pyHash_str h
 eqBool:=fun hu hv h=>by
  rcases keyIs_shape hu with ⟨i,t,rfl,rfl⟩ | ⟨x,t,rfl,rfl⟩
  ·rcases keyIs_shape hv with ⟨j,u,rfl,rfl⟩ | ⟨y,u,rfl,rfl⟩
   ·rw [key_ll] at h; exact wpAny_eqBool_int h
   ·rw [key_lr] at h; exact SeqAt.EqAt.int_str i t y u _ _ _ _ h
  ·rcases keyIs_shape hv with ⟨j,u,rfl,rfl⟩ | ⟨y,u,rfl,rfl⟩
   ·rw [key_rl] at h; exact SeqAt.EqAt.str_int x t j u _ _ _ _ h
   ·rw [key_rr] at h; exact wpAny_eqBool_str h
 «strs»:=fun k x t v h=>by
  rcases keyIs_shape h with ⟨i,u,rfl,e⟩ | ⟨y,u,rfl,e⟩
  ·exact nomatch e
  ·injection e with e1 _
   subst e1
   cases v <;> rfl
inductive V where
 | non | bl (b:Bool) | int (i:Int) | str (x:Str) | byt (b:Array UInt8) | flt (b:UInt64) | ref (a:Addr) | ty (n:String)
 deriving DecidableEq
def RelV:V→Value→Prop
 | .non,u=>u=Value.none
 | .bl b,u=>u=Value.bool b
 | .int i,u=>∃ t,u=Value.int i t
 | .str x,u=>∃ t,u=Value.str x t
 | .byt b,u=>∃ t,u=Value.bytes b t
 | .flt b,u=>∃ t,u=Value.float b t
 | .ref a,u=>u=Value.ref a
 | .ty n,u=>u=Value.type n
abbrev Vals:List V→List Value→Prop:=Paired RelV
theorem Vals.length {xs:List V} {us:List Value} (r:Vals xs us):xs.length=us.length:=Paired.length r
theorem Vals.get:∀ {xs:List V} {us:List Value} {i:Nat} {x:V},Vals xs us→xs[i]?=some x→∃ u,us[i]?=some u∧RelV x u
 | _,_,_,_,.nil,e=>by simp at e
 | _,_,0,_,.cons r _,e=>by simp at e; subst e; exact ⟨_,rfl,r⟩
 | _,_,i + 1,x,.cons _ t,e=>by
  obtain ⟨u,h1,h2⟩:=Vals.get (i:=i) (x:=x) t (by simpa using e)
  exact ⟨u,by simpa using h1,h2⟩
theorem Vals.append:∀ {xs ys:List V} {us ws:List Value},Vals xs us→Vals ys ws→Vals (xs ++ ys) (us ++ ws)
 | _,_,_,_,.nil,s=>s
 | _,_,_,_,.cons r t,s=>.cons r (Vals.append t s)
theorem Vals.take:∀ {xs:List V} {us:List Value} (n:Nat),Vals xs us→Vals (xs.take n) (us.take n)
 | _,_,0,_=>.nil
 | _,_,_ + 1,.nil=>.nil
 | _,_,n + 1,.cons r t=>.cons r (Vals.take n t)
theorem Vals.drop:∀ {xs:List V} {us:List Value} (n:Nat),Vals xs us→Vals (xs.drop n) (us.drop n)
 | _,_,0,r=>r
 | _,_,_ + 1,.nil=>.nil
 | _,_,n + 1,.cons _ t=>Vals.drop n t
def RelO:Option V→Option Value→Prop
 | some v,some u=>RelV v u
 | none,none=>True
 | _,_=>False
def KV {κ:Type}:List (κ×V)→List (κ×Value)→Prop:=Paired fun (p:κ×V) (q:κ×Value)=>p.1=q.1∧RelV p.2 q.2
def kV:Key→V
 | .inl i=>.int i
 | .inr x=>.str x
inductive HO where
 | lst (xs:List V)
 | tup (xs:List V)
 | dK (kvs:List (Key×V)) | dT (kvs:List (List Key×V))
 | set (S:Int→Bool) (n:Nat)
 | ins (C dx:Addr) (fs:List (Str×V))
 | own (x:Addr)
 | xd (fs:List (Str×V))
 | met (f x:Addr)
 | rng (lo hi:Int)
 | frz (o:Obj) (u:HO)
 | tbl (ps:Array Value)
 | ext (φ:Heap→Prop)
abbrev Hp:=Addr→Option HO
def upd (H:Hp) (a:Addr) (o:HO):Hp:=fun b=>if b=a then some o else H b
theorem upd_same {H:Hp} {a:Addr} {o:HO}:upd H a o a=some o:=by unfold upd; rw [if_pos rfl]
theorem upd_ne {H:Hp} {a b:Addr} {o:HO} (h:b≠a):upd H a o b=H b:=by unfold upd; rw [if_neg h]
theorem ne_of_none {H:Hp} {a b:Addr} {o:HO} (h:H a=some o) (h':H b=none):a≠b:=by
 intro e; subst e; rw [h] at h'; cases h'
def TupX (h:Heap) (a:Addr) (items:Array Value):Prop:=∃ o,h.get? a=some o∧o.cls=.type "tuple"∧∃ n,(o.data,o.dict)=(.seq items n,(none:Option Addr))
theorem TupX.tup {h:Heap} {a:Addr} {items:Array Value} (p:TupX h a items):IsTup h a items:=by
 obtain ⟨o,e,c,n,d⟩:=p
 exact ⟨o,e,c,n,congrArg Prod.fst d⟩
theorem TupX.new (h:Heap) (items:Array Value):TupX (h.push { cls:=.type "tuple",data:=.seq items }) h.objs.size items:=⟨_,Heap.get?_push_size _ rfl,rfl,_,rfl⟩
section
variable (P:Program) (w:World)
def ObjOk (H:Hp) (h:Heap) (a:Addr):HO→Prop
 | .lst xs=>xs.length≤sizeLine∧∃ (its:List Value) (n:Nat),Vals xs its∧h.get? a=some { cls:=.type "list",data:=.seq its.toArray n }
 | .tup xs=>xs.length≤sizeLine∧∃ its:List Value,Vals xs its∧TupX h a its.toArray
 | .dK kvs=>kvs.length≤sizeLine∧(a == sysModules)=false∧∃ vs,KV kvs vs∧h.DictOf (mixKind P w) a vs
 | .dT kvs=>kvs.length≤sizeLine∧(a == sysModules)=false∧∃ xs:List (List Key×Addr×Value),
   Paired (fun (p:List Key×V) (q:List Key×Addr×Value)=>p.1=q.1∧H q.2.1=some (.tup (p.1.map kV))∧RelV p.2 q.2.2) kvs xs ∧
   ∃ o es ep,h.get? a=some o∧o.ExactDict∧o.data=.dict es ep∧es.toList=xs.map (entryOfKey (tupleKind (mixKind P w)))∧(xs.map (·.1)).Nodup
 | .set S n=>h.SetOf (intKind P w) a S n
 | .ins C dx fs=>H dx=some (.own a)∧fs.length≤1000∧dx≠a∧h.get? a=some (PySem.W.instObj C dx) ∧
   ∃ mA,h.Ns1 dx mA∧(∀ f,RelO (fs.lookup f) (mA f))∧PySem.Within mA (fs.map (·.1))
 | .own _=>∃ o,h.get? a=some o
 | .xd fs=>∃ mA,h.Ns1 a mA∧∀ f,RelO (fs.lookup f) (mA f)
 | .rng lo hi=>∃ t u v,h.get? a=some { cls:=.type "range",data:=.fields #[.int lo t,.int hi u,.int 1 v] }
 | .frz o u=>h.get? a=some o∧ObjOk H h a u
 | .tbl ps=>h.get? a=some { cls:=.none,data:=.fields ps }
 | .met f x=>h.get? a=some (PySem.W.methodObj (.ref f) (.ref x))
 | .ext φ=>φ h∧(∃ o,h.get? a=some o)∧∀ h1 h2:Heap,φ h1→(∀ o,h1.get? a=some o→h2.get? a=some o)→φ h2
def HOk (H:Hp) (h:Heap):Prop:=∀ a o,H a=some o→ObjOk P w H h a o
end
section
variable {P:Program} {w:World} {H H':Hp} {h h':Heap} {a:Addr} {o:HO}
theorem ObjOk.lt (x:ObjOk P w H h a o):a < h.objs.size:=by
 cases o with
 | lst xs=>obtain ⟨_,_,_,_,e⟩:=x; exact Heap.lt_size e
 | tup xs=>obtain ⟨_,_,_,p⟩:=x; exact p.tup.lt
 | dK kvs=>obtain ⟨_,_,_,_,o,_,_,e,_⟩:=x; exact Heap.lt_size e
 | dT kvs=>obtain ⟨_,_,_,_,o,_,_,e,_⟩:=x; exact Heap.lt_size e
 | set S n=>obtain ⟨o,_,_,_,e,_⟩:=x; exact Heap.lt_size e
 | ins C dx fs=>obtain ⟨_,_,_,e,_⟩:=x; exact Heap.lt_size e
 | own y=>obtain ⟨_,e⟩:=x; exact Heap.lt_size e
 | xd fs=>obtain ⟨_,⟨_,_,_,e,_⟩,_⟩:=x; exact Heap.lt_size e
 | rng lo hi=>obtain ⟨_,_,_,e⟩:=x; exact Heap.lt_size e
 | frz ob u=>obtain ⟨e,_⟩:=x; exact Heap.lt_size e
 | tbl ps=>exact Heap.lt_size (show h.get? a=some _ from x)
 | met f y=>exact Heap.lt_size (show h.get? a=some _ from x)
 | ext φ=>obtain ⟨_,⟨_,e⟩,_⟩:=x; exact Heap.lt_size e
theorem Paired.mapP {α β:Type} {F G:α→β→Prop}:∀ {l₁:List α} {l₂:List β},Paired F l₁ l₂→(∀ a b,F a b→G a b)→Paired G l₁ l₂
 | _,_,.nil,_=>.nil
 | _,_,.cons r t,f=>.cons (f _ _ r) (Paired.mapP t f)
theorem ObjOk.stay (x:ObjOk P w H h a o) (k:∀ b u,(b=a∨H b=some (.own a))→h.get? b=some u→h'.get? b=some u)
  (ho:∀ b,H b=some (.own a)→H' b=some (.own a)) (ht:∀ b xs,H b=some (.tup xs)→H' b=some (.tup xs)):ObjOk P w H' h' a o:=by
 induction o with
 | lst xs=>obtain ⟨z,its,n,r,e⟩:=x; exact ⟨z,its,n,r,k _ _ (.inl rfl) e⟩
 | tup xs=>obtain ⟨z,its,r,ob,e,c⟩:=x; exact ⟨z,its,r,ob,k _ _ (.inl rfl) e,c⟩
 | dK kvs=>obtain ⟨z,y,vs,r,ob,es,ep,e,c⟩:=x; exact ⟨z,y,vs,r,ob,es,ep,k _ _ (.inl rfl) e,c⟩
 | dT kvs =>
  obtain ⟨z,y,xs,r,ob,es,ep,e,c⟩:=x
  exact ⟨z,y,xs,Paired.mapP r fun p q z=>⟨z.1,ht _ _ z.2.1,z.2.2⟩,ob,es,ep,k _ _ (.inl rfl) e,c⟩
 | set S n=>obtain ⟨ob,es,ep,t,e,c⟩:=x; exact ⟨ob,es,ep,t,k _ _ (.inl rfl) e,c⟩
 | ins C dx fs =>
  obtain ⟨d,z,ne,e,mA,⟨od,es,ep,e2,c⟩,r⟩:=x
  exact ⟨ho _ d,z,ne,k _ _ (.inl rfl) e,mA,⟨od,es,ep,k _ _ (.inr d) e2,c⟩,r⟩
 | own y=>obtain ⟨ob,e⟩:=x; exact ⟨ob,k _ _ (.inl rfl) e⟩
 | xd fs=>obtain ⟨mA,⟨od,es,ep,e,c⟩,r⟩:=x; exact ⟨mA,⟨od,es,ep,k _ _ (.inl rfl) e,c⟩,r⟩
 | rng lo hi=>obtain ⟨t,u,v,e⟩:=x; exact ⟨t,u,v,k _ _ (.inl rfl) e⟩
 | frz ob u ih=>obtain ⟨e,q⟩:=x; exact ⟨k _ _ (.inl rfl) e,ih q⟩
 | tbl ps =>
  have e:h.get? a=some { cls:=.none,data:=.fields ps }:=x
  show h'.get? a=some { cls:=.none,data:=.fields ps }
  exact k a _ (.inl rfl) e
 | met f y =>
  have e:h.get? a=some (PySem.W.methodObj (.ref f) (.ref y)):=x
  show h'.get? a=some (PySem.W.methodObj (.ref f) (.ref y))
  exact k a _ (.inl rfl) e
 | ext φ=>obtain ⟨p,⟨o,e⟩,st⟩:=x; exact ⟨st _ _ p fun o q=>k _ _ (.inl rfl) q,⟨o,k _ _ (.inl rfl) e⟩,st⟩
theorem HOk.lt (x:HOk P w H h) (e:H a=some o):a < h.objs.size:=(x a o e).lt
theorem HOk.fresh (x:HOk P w H h) (e:h.objs.size≤a):H a=none:=by
 cases q:H a with
 | none=>rfl
 | some u=>exact absurd (Nat.lt_of_lt_of_le (x.lt q) e) (Nat.lt_irrefl _)
theorem HOk.kept (x:HOk P w H h) (k:∀ b u,h.get? b=some u→h'.get? b=some u):HOk P w H h':=fun a o e =>
 (x a o e).stay (fun b u _ q=>k b u q) (fun _ q=>q) fun _ _ q=>q
theorem HOk.laid (x:HOk P w H h) (k:∀ b u,h.get? b=some u→h'.get? b=some u) (hp:h.objs.size≤a) (new:ObjOk P w (upd H a o) h' a o):HOk P w (upd H a o) h':=fun b u e=>by
 have hn:=x.fresh hp
 by_cases hb:b=a
 ·subst hb; rw [upd_same] at e; cases e; exact new
 ·rw [upd_ne hb] at e
  exact (x b u e).stay (fun c v _ q=>k c v q) (fun c q=>by rw [upd_ne (ne_of_none q hn)]; exact q) fun c xs q=>by rw [upd_ne (ne_of_none q hn)]; exact q
end
def Rd (H:Hp) (a:Addr) (u:HO):Prop:=H a=some u∨∃ o,H a=some (.frz o u)
theorem Rd.ok {P:Program} {w:World} {H:Hp} {h:Heap} {a:Addr} {u:HO} (r:Rd H a u) (x:HOk P w H h):ObjOk P w H h a u:=by
 rcases r with r | ⟨o,r⟩
 ·exact x a u r
 ·obtain ⟨_,q⟩:=x a _ r
  exact q
def Mut:Option HO→Prop
 | some (.lst _)=>True
 | some (.dK _)=>True
 | some (.dT _)=>True
 | some (.set _ _)=>True
 | some (.ins _ _ _)=>True
 | some (.ext _)=>True
 | _=>False
section
variable {P:Program} {w:World} {H:Hp} {h h':Heap} {x e:Addr} {o':HO}
theorem HOk.write (ok:HOk P w H h) (mu:Mut (H x)) (he:e=x∨H e=some (.own x)) (k:∀ b u,b≠e→h.get? b=some u→h'.get? b=some u) (heo:∃ u,h'.get? e=some u)
  (new:ObjOk P w (upd H x o') h' x o'):HOk P w (upd H x o') h':=fun b u q=>by
 have nown:∀ c y,H c=some (.own y)→c≠x:=fun c y r z=>by subst z; rw [r] at mu; exact mu
 have ntup:∀ c xs,H c=some (.tup xs)→c≠x:=fun c xs r z=>by subst z; rw [r] at mu; exact mu
 by_cases hb:b=x
 ·subst hb; rw [upd_same] at q; cases q; exact new
 ·rw [upd_ne hb] at q
  by_cases hbe:b=e
  ·have q':H b=some (.own x):=by
    rcases he with z | z
    ·exact absurd (hbe.trans z) hb
    ·rw [hbe]; exact z
   rw [q] at q'; cases q'
   obtain ⟨v,hv⟩:=heo
   exact ⟨v,by rw [hbe]; exact hv⟩
  ·refine (ok b u q).stay (fun c v hc r=>k c v ?_ r) (fun c r=>by rw [upd_ne (nown c b r)]; exact r) fun c xs r=>by rw [upd_ne (ntup c xs r)]; exact r
   rcases hc with rfl | hc
   ·exact hbe
   ·rintro rfl
    rcases he with z | z
    ·exact nown c b hc z
    ·rw [hc] at z; cases z; exact hb rfl
end
structure Un (fs ex:List Addr) (H H':Hp) (h h':Heap):Prop where
 keep:∀ b o,h.get? b=some o→H b=none→b ∉ fs→b ∉ ex→h'.get? b=some o
 slot:∀ b o,h.get? b=some o→H b=none→b∈fs→b ∉ ex→∃ sl,h'.get? b=some { o with slots:=sl }
 free:∀ b o,h.get? b=some o→H b=none→b ∉ ex→H' b=none
 there:∀ b o,h.get? b=some o→b ∉ ex→∃ o',h'.get? b=some o'
 tups:∀ b xs,H b=some (.tup xs)→H' b=some (.tup xs)
 frzs:∀ b o u,H b=some (.frz o u)→H' b=some (.frz o u)
 tbls:∀ b ps,H b=some (.tbl ps)→∃ more,H' b=some (.tbl (ps ++ more))
section
variable {fs fs' ex ex':List Addr} {H H1 H2:Hp} {h h1 h2 h':Heap} {a x e:Addr} {o:HO}
theorem Un.any (u:Un fs ex H H1 h h1) {b:Addr} {ob:Obj} (q:h.get? b=some ob) (n:H b=none) (hx:b ∉ ex):∃ sl,h1.get? b=some { ob with slots:=sl }:=by
 by_cases hb:b∈fs
 ·exact u.slot b ob q n hb hx
 ·exact ⟨ob.slots,u.keep b ob q n hb hx⟩
theorem Un.kept (k:∀ b u,h.get? b=some u→h'.get? b=some u):Un fs ex H H h h' :=
 ⟨fun b ob q _ _ _=>k b ob q,fun b ob q _ _ _=>⟨ob.slots,k b ob q⟩,fun _ _ _ n _=>n,fun b ob q _=>⟨ob,k b ob q⟩,fun _ _ q=>q,fun _ _ _ q=>q,fun _ ps q=>⟨#[],by rw [q]; simp⟩⟩
theorem Un.refl:Un fs ex H H h h:=Un.kept fun _ _ q=>q
theorem Un.laid (k:∀ b u,h.get? b=some u→h'.get? b=some u) (hp:h.objs.size≤a) (hn:H a=none):Un fs ex H (upd H a o) h h' where
 keep:=fun b u q _ _ _=>k b u q
 slot:=fun b u q _ _ _=>⟨u.slots,k b u q⟩
 free:=fun b u q n _=>by rw [upd_ne (Nat.ne_of_lt (Nat.lt_of_lt_of_le (Heap.lt_size q) hp))]; exact n
 there:=fun b u q _=>⟨u,k b u q⟩
 tups:=fun b xs q=>by rw [upd_ne (ne_of_none q hn)]; exact q
 frzs:=fun b u xs q=>by rw [upd_ne (ne_of_none q hn)]; exact q
 tbls:=fun b ps q=>⟨#[],by rw [upd_ne (ne_of_none q hn),q]; simp⟩
theorem Un.write (mu:Mut (H x)) (he:e=x∨H e=some (.own x)) (k:∀ b u,b≠e→h.get? b=some u→h'.get? b=some u) (heo:∃ u,h'.get? e=some u):Un fs ex H (upd H x o) h h':=by
 have hx:∀ b,H b=none→b≠x:=fun b n z=>by subst z; rw [n] at mu; exact mu
 have hb:∀ b,H b=none→b≠e:=fun b n z=>by
  subst z
  rcases he with r | r
  ·exact hx b n r
  ·rw [n] at r; cases r
 have hm:∀ b u,H b=some u→¬ Mut (some u)→b≠x:=fun b u q nm z=>by subst z; rw [q] at mu; exact nm mu
 refine ⟨fun b u q n _ _=>k b u (hb b n) q,fun b u q n _ _=>⟨u.slots,k b u (hb b n) q⟩,fun b u q n _=>by rw [upd_ne (hx b n)]; exact n,fun b u q _=>?_,
  fun b xs q=>by rw [upd_ne (hm b _ q fun z=>z)]; exact q,fun b u xs q=>by rw [upd_ne (hm b _ q fun z=>z)]; exact q,fun b ps q=>⟨#[],by rw [upd_ne (hm b _ q fun z=>z),q]; simp⟩⟩
 by_cases hbe:b=e
 ·subst hbe; exact heo
 ·exact ⟨u,k b u hbe q⟩
end
def trk (h:Heap) (H:Hp):List Addr:=(List.range h.objs.size).filter fun a=>(H a).isSome
def hidT (h:Heap) (H:Hp):Heap:=PySem.W.hideAll h (trk h H)
theorem hidT_size (h:Heap) (H:Hp):(hidT h H).objs.size=h.objs.size:=PySem.W.hideAll_size _ _
theorem hidT_get {h:Heap} {H:Hp} {b:Addr} {o:Obj} (e:h.get? b=some o) (n:H b=none):(hidT h H).get? b=some o :=
 PySem.W.hideAll_get _ e fun hm=>by
  have q:(H b).isSome=true:=(List.mem_filter.mp hm).2
  rw [n] at q; simp at q
theorem of_hidT {h:Heap} {H:Hp} {b:Addr} {o:Obj} (e:(hidT h H).get? b=some o):h.get? b=some o∧H b=none:=by
 have e':h.get? b=some o:=PySem.W.of_hideAll (trk h H) e
 refine ⟨e',?_⟩
 cases q:H b with
 | none=>rfl
 | some x =>
  have hm:b∈trk h H:=List.mem_filter.mpr ⟨List.mem_range.mpr (Heap.lt_size e'),by simp [q]⟩
  have z:(hidT h H).get? b=none:=PySem.W.hideAll_none (trk h H) hm
  rw [z] at e; cases e
structure Mod (K:PySem.W.Frag) (mg:Str→Option Value) (base:Heap):Prop where
 kin:K.In base
 glob:base.Ns mainGlobals mg
 blt:∃ mb,base.Ns builtinsNs mb∧∀ x:Str,x≠"__name__"→mb x=bootBuiltins x
 nolimit:base.NoLimit
structure Cx where
 prog:Program
 w:World
 K:PySem.W.Frag
 mg:Str→Option Value
 base:Heap
 A:Around
 N:List Str
 s₀:Shared
 H₀:Hp
 env:Env
 outer:List Env
 stack:List Env
 ex:List Addr
 fn:Str→Bool
 calm:Bool
 pn:List (Addr×Obj)
 xe:Value→Shared→Prop
def frs (l:List Env):List Addr:=l.filterMap (·.frame)
abbrev Cx.fs (X:Cx):List Addr:=frs X.outer
def Vis (sc:Scope) (x:Str):Prop:=sc.names.lookup x=some .local∨sc.names.lookup x=some .cell∨sc.names.lookup x=some .free
def Loc (sc:Scope) (x:Str):Prop:=sc.names.lookup x=some .local∨sc.names.lookup x=some .cell
def Look (env:Env) (h:Heap) (m:Str→Option Value) (x:Str) (u:Value):Prop :=
 (env.kindOf x=some .local∧m x=some u)∨((env.kindOf x=some .cell∨env.kindOf x=some .free)∧∃ c,env.cells.lookup x=some c∧h.IsCell c (some u))
structure Cx.Ok (X:Cx):Prop where
 mod:Mod X.K X.mg X.base
 kind:X.env.scope.kind=.function
 glob:X.env.globals=mainGlobals
 blt:X.env.builtins=builtinsNs
 above:X.s₀.heap.objs.size≤X.env.locals
 inj:∀ x y c,X.env.cells.lookup x=some c→X.env.cells.lookup y=some c→x=y
 has:∀ x,(X.env.kindOf x=some .cell∨X.env.kindOf x=some .free)→∃ c,X.env.cells.lookup x=some c
 cab:∀ x c,X.fn x=true→X.env.cells.lookup x=some c→X.s₀.heap.objs.size≤c
 hd:X.calm=true→X.A.handled=none
 frames:X.A.frames=some X.stack
 stk:X.stack=X.outer∨(X.stack=X.env :: X.outer∧X.env.frame=some X.env.locals)
 exf:∀ b∈X.ex,b≠X.env.locals∧∀ x c,X.env.cells.lookup x=some c→c≠b
 bs:∀ b o,X.base.get? b=some o→X.s₀.heap.get? b=some o∧X.H₀ b=none
 bsz:X.base.objs.size≤X.s₀.heap.objs.size
 noex:∀ b o,X.base.get? b=some o→b ∉ X.ex
 exfs:∀ b∈X.ex,b ∉ X.fs
 funs:X.s₀.heap.FunFrames X.base X.outer
 frf:∀ b∈X.fs,X.H₀ b=none
structure Inv (X:Cx) (pins:List (Addr×Obj)) (σ:List (Option V)) (H:Hp) (s:Shared):Prop where
 ok:X.Ok
 os:s.os=X.s₀.os
 bare:AllBare s.gens
 base:Un X.fs X.ex X.H₀ H X.s₀.heap s.heap
 loc:∃ m,s.heap.Ns X.env.locals m∧∀ (i:Nat) (x:Str) (v:V),X.N[i]?=some x→σ[i]?=some (some v)→Vis X.env.scope x→∃ u,RelV v u∧Look X.env s.heap m x u
 cell:∀ x c,X.env.cells.lookup x=some c→∃ v,s.heap.IsCell c v
 free:H X.env.locals=none
 freeC:∀ x c,X.env.cells.lookup x=some c→H c=none
 pin:∀ p∈X.pn ++ pins,s.heap.get? p.1=some p.2∧H p.1=none∧p.1≠X.env.locals∧p.1 ∉ X.fs∧∀ v,p.2.data≠.cell v
 hok:HOk X.prog X.w H s.heap
 len:σ.length=X.N.length
section
variable {X:Cx} {pins:List (Addr×Obj)} {σ:List (Option V)} {H H':Hp} {s:Shared} {h':Heap}
theorem Cx.Ok.nofr (ok:X.Ok) {b:Addr} {o:Obj} (e:X.base.get? b=some o):b ∉ X.fs:=fun hb=>by
 have:=(ok.funs.mem hb).1
 rw [e] at this; cases this
theorem Inv.bs (I:Inv X pins σ H s):∀ b o,X.base.get? b=some o→s.heap.get? b=some o∧H b=none:=fun b o e =>
 ⟨I.base.keep b o (I.ok.bs b o e).1 (I.ok.bs b o e).2 (I.ok.nofr e) (I.ok.noex b o e),I.base.free b o (I.ok.bs b o e).1 (I.ok.bs b o e).2 (I.ok.noex b o e)⟩
theorem Inv.bk (I:Inv X pins σ H s):∀ b o,X.base.get? b=some o→s.heap.get? b=some o:=fun b o e=>(I.bs b o e).1
theorem Inv.mod (I:Inv X pins σ H s):Mod X.K X.mg X.base:=I.ok.mod
theorem Inv.kIn (I:Inv X pins σ H s):X.K.In s.heap:=I.ok.mod.kin.keeps I.bk
theorem Inv.lt (I:Inv X pins σ H s):X.env.locals < s.heap.objs.size:=let ⟨_,hn,_⟩:=I.loc; hn.lt
theorem Inv.sz (I:Inv X pins σ H s):X.s₀.heap.objs.size≤s.heap.objs.size:=Nat.le_trans I.ok.above (Nat.le_of_lt I.lt)
theorem Inv.nofs (I:Inv X pins σ H s) {a:Addr} (h:s.heap.objs.size≤a):a ∉ X.fs:=fun hb=>by
 obtain ⟨_,o,ho,_⟩:=I.ok.funs.mem hb
 exact absurd (Nat.lt_of_lt_of_le (Heap.lt_size ho) (Nat.le_trans I.sz h)) (Nat.lt_irrefl _)
theorem Inv.cne (I:Inv X pins σ H s):∀ x c,X.env.cells.lookup x=some c→c≠X.env.locals:=fun x c e z=>by
 obtain ⟨v,o,ho,hd⟩:=I.cell x c e
 obtain ⟨m,⟨o',es,ep,ho',hd',_⟩,_⟩:=I.loc
 rw [z,ho'] at ho; cases ho; rw [hd'] at hd; cases hd
theorem Inv.funs (I:Inv X pins σ H s):s.heap.FunFrames X.base X.outer:=by
 have all:∀ (l:List Env),(∀ b∈frs l,b∈X.fs)→X.s₀.heap.FunFrames X.base l→s.heap.FunFrames X.base l:=by
  intro l
  induction l with
  | nil=>intro _ _; trivial
  | cons env r ih =>
   intro hs hl
   obtain ⟨hk,⟨L,o,hf,hn,ho,hd⟩,hr⟩:=hl
   have hL:L∈X.fs:=hs L (by unfold frs; rw [List.filterMap_cons,hf]; exact List.mem_cons_self)
   obtain ⟨sl,e⟩:=I.base.slot L o ho (I.ok.frf L hL) hL fun z=>I.ok.exfs L z hL
   exact ⟨hk,⟨L,_,hf,hn,e,hd⟩,ih (fun b hb=>hs b (by unfold frs; rw [List.filterMap_cons,hf]; exact List.mem_cons_of_mem _ hb)) hr⟩
 exact all X.outer (fun _ hb=>hb) I.ok.funs
theorem Inv.stack (I:Inv X pins σ H s):s.heap.FunFrames X.base X.stack:=by
 rcases I.ok.stk with e | ⟨e,hf⟩
 ·rw [e]; exact I.funs
 ·rw [e]
  obtain ⟨m,hn,_⟩:=I.loc
  refine .cons (by rw [I.ok.kind]; decide) hf hn ?_ I.funs
  exact Heap.get?_none_of_le (Nat.le_trans I.ok.bsz I.ok.above)
theorem Inv.stkSub (I:Inv X pins σ H s):∀ b∈frs X.stack,b∈X.env.locals :: X.fs:=fun b hb=>by
 rcases I.ok.stk with e | ⟨e,hf⟩
 ·rw [e] at hb; exact List.mem_cons_of_mem _ hb
 ·rw [e] at hb
  unfold frs at hb
  rw [List.filterMap_cons,hf] at hb
  exact hb
theorem Inv.stkFree (I:Inv X pins σ H s):∀ b∈frs X.stack,H b=none:=fun b hb=>by
 rcases List.mem_cons.mp (I.stkSub b hb) with e | hb
 ·rw [e]; exact I.free
 ·obtain ⟨_,o,ho,_⟩:=I.ok.funs.mem hb
  exact I.base.free b o ho (I.ok.frf b hb) fun z=>I.ok.exfs b z hb
theorem Inv.step {g':Array GenState} {t':Nat} {d':Drawn} {ch:List Addr} (I:Inv X pins σ H s)
  (hch:∀ b∈ch,(b∈X.ex∨X.s₀.heap.objs.size≤b)∧b≠X.env.locals∧(∀ x c,X.env.cells.lookup x=some c→c≠b)∧∀ p∈X.pn ++ pins,p.1≠b)
  (keep:∀ b o,b≠X.env.locals→b ∉ X.fs→b ∉ ch→s.heap.get? b=some o→H b=none→h'.get? b=some o)
  (slot:∀ b o,b≠X.env.locals→b∈X.fs→b ∉ ch→s.heap.get? b=some o→H b=none→∃ sl,h'.get? b=some { o with slots:=sl }) (free:∀ b o,b ∉ ch→s.heap.get? b=some o→H b=none→H' b=none)
  (there:∀ b o,b ∉ ch→s.heap.get? b=some o→∃ o',h'.get? b=some o')
  (tups:∀ b xs,H b=some (.tup xs)→H' b=some (.tup xs)) (frzs:∀ b o u,H b=some (.frz o u)→H' b=some (.frz o u)) (tbls:∀ b ps,H b=some (.tbl ps)→∃ more,H' b=some (.tbl (ps ++ more)))
  (ns:∀ m,s.heap.Ns X.env.locals m→h'.Ns X.env.locals m) (hok:HOk X.prog X.w H' h') (hg:AllBare g') :
  Inv X pins σ H' { s with heap:=h',gens:=g',drawn:=d',toks:=t' }:=by
 have neL:∀ b o,X.s₀.heap.get? b=some o→b≠X.env.locals:=fun b o e=>Nat.ne_of_lt (Nat.lt_of_lt_of_le (Heap.lt_size e) I.ok.above)
 have neC:∀ b o,X.s₀.heap.get? b=some o→b ∉ X.ex→b ∉ ch:=fun b o e hx hb=>by
  rcases (hch b hb).1 with z | z
  ·exact hx z
  ·exact absurd (Nat.lt_of_lt_of_le (Heap.lt_size e) z) (Nat.lt_irrefl _)
 have cellK:∀ x c,X.env.cells.lookup x=some c→∀ v,s.heap.IsCell c v→h'.IsCell c v:=fun x c e v ⟨o,ho,hd⟩=>by
  have nch:c ∉ ch:=fun z=>(hch c z).2.2.1 x c e rfl
  by_cases hc:c∈X.fs
  ·obtain ⟨sl,q⟩:=slot c o (I.cne x c e) hc nch ho (I.freeC x c e)
   exact ⟨_,q,hd⟩
  ·exact ⟨o,keep c o (I.cne x c e) hc nch ho (I.freeC x c e),hd⟩
 refine ⟨I.ok,I.os,hg,⟨fun b o e n hb hx=>?_,fun b o e n hb hx=>?_,fun b o e n hx=>?_,fun b o e hx=>?_,fun b xs e=>tups b xs (I.base.tups b xs e),fun b o xs e=>frzs b o xs (I.base.frzs b o xs e),fun b ps e=>?_⟩,?_,fun x c e=>?_,?_,fun x c e=>?_,fun p hp=>?_,hok,I.len⟩
 ·exact keep b o (neL b o e) hb (neC b o e hx) (I.base.keep b o e n hb hx) (I.base.free b o e n hx)
 ·obtain ⟨sl,e1⟩:=I.base.slot b o e n hb hx
  obtain ⟨sl',e2⟩:=slot b _ (neL b o e) hb (neC b o e hx) e1 (I.base.free b o e n hx)
  exact ⟨sl',e2⟩
 ·obtain ⟨o',e1⟩:=I.base.there b o e hx
  exact free b o' (neC b o e hx) e1 (I.base.free b o e n hx)
 ·obtain ⟨o',e1⟩:=I.base.there b o e hx
  exact there b o' (neC b o e hx) e1
 ·obtain ⟨m1,e1⟩:=I.base.tbls b ps e
  obtain ⟨m2,e2⟩:=tbls b _ e1
  exact ⟨m1 ++ m2,by rw [e2,Array.append_assoc]⟩
 ·obtain ⟨m,hn,hl⟩:=I.loc
  refine ⟨m,ns m hn,fun i x v e1 e2 e3=>?_⟩
  obtain ⟨u,r,l⟩:=hl i x v e1 e2 e3
  refine ⟨u,r,?_⟩
  rcases l with l | ⟨k,c,e,z⟩
  ·exact .inl l
  ·exact .inr ⟨k,c,e,cellK x c e _ z⟩
 ·obtain ⟨v,z⟩:=I.cell x c e
  exact ⟨v,cellK x c e v z⟩
 ·obtain ⟨m,⟨o,_,_,ho,_⟩,_⟩:=I.loc
  exact free _ o (fun z=>(hch _ z).2.1 rfl) ho I.free
 ·obtain ⟨v,o,ho,hd⟩:=I.cell x c e
  exact free c o (fun z=>(hch c z).2.2.1 x c e rfl) ho (I.freeC x c e)
 ·obtain ⟨e,n,ne,nf,d⟩:=I.pin p hp
  have nch:p.1 ∉ ch:=fun z=>(hch p.1 z).2.2.2 p hp rfl
  exact ⟨keep p.1 p.2 ne nf nch e n,free p.1 p.2 nch e n,ne,nf,d⟩
theorem Inv.un {t':Nat} (I:Inv X pins σ H s) (u:Un X.fs [] H H' s.heap h') (hok:HOk X.prog X.w H' h'):Inv X pins σ H' { s with heap:=h',toks:=t' }:=by
 obtain ⟨m,⟨o,es,ep,ho,r⟩,_⟩:=id I.loc
 obtain ⟨sl,hL⟩:=u.any ho I.free (by simp)
 exact I.step (g':=s.gens) (d':=s.drawn) (ch:=[]) (fun _ z=>nomatch z) (fun b o _ hb _ e n=>u.keep b o e n hb (by simp)) (fun b o _ hb _ e n=>u.slot b o e n hb (by simp)) (fun b o _ e n=>u.free b o e n (by simp)) (fun b o _ e=>u.there b o e (by simp)) u.tups u.frzs u.tbls (fun m' hm=>by
  obtain ⟨o',es',ep',ho',r'⟩:=hm
  rw [ho] at ho'; cases ho'
  exact ⟨_,es',ep',hL,r'⟩) hok I.bare
theorem Inv.call {g':Array GenState} {t':Nat} {d':Drawn} {ch:List Addr} (I:Inv X pins σ H s) (u:Un (frs X.stack) ch H H' s.heap h') (hok:HOk X.prog X.w H' h') (hg:AllBare g')
  (hch:∀ b∈ch,(b∈X.ex∨X.s₀.heap.objs.size≤b)∧b≠X.env.locals∧(∀ x c,X.env.cells.lookup x=some c→c≠b)∧∀ p∈X.pn ++ pins,p.1≠b) :
  Inv X pins σ H' { s with heap:=h',gens:=g',drawn:=d',toks:=t' }:=by
 obtain ⟨m,⟨o,es,ep,ho,r⟩,_⟩:=id I.loc
 obtain ⟨sl,hL⟩:=u.any ho I.free fun z=>(hch _ z).2.1 rfl
 exact I.step (ch:=ch) hch (fun b o hL hb hc e n=>u.keep b o e n (fun z=>(List.mem_cons.mp (I.stkSub b z)).elim hL hb) hc) (fun b o _ _ hc e n=>u.any e n hc) (fun b o hc e n=>u.free b o e n hc) (fun b o hc e=>u.there b o e hc) u.tups u.frzs u.tbls (fun m' hm=>by
  obtain ⟨o',es',ep',ho',r'⟩:=hm
  rw [ho] at ho'; cases ho'
  exact ⟨_,es',ep',hL,r'⟩) hok hg
theorem Inv.turned {t':Nat} {it:Addr} (I:Inv X pins σ H s) (k:∀ b o,b≠it→s.heap.get? b=some o→h'.get? b=some o) (hn:H it=none) (hL:it≠X.env.locals)
  (h1:it∈X.ex∨X.s₀.heap.objs.size≤it) (h2:∀ x c,X.env.cells.lookup x=some c→c≠it) (h3:∀ p∈X.pn ++ pins,p.1≠it):Inv X pins σ H { s with heap:=h',toks:=t' }:=by
 have nit:∀ b u,H b=some u→b≠it:=fun b u e z=>by rw [z,hn] at e; cases e
 refine I.step (g':=s.gens) (d':=s.drawn) (ch:=[it]) (fun b hb=>?_) (fun b o _ _ hc e _=>k b o (fun z=>hc (by simp [z])) e) (fun b o _ _ hc e _=>⟨o.slots,k b o (fun z=>hc (by simp [z])) e⟩) (fun _ _ _ _ n=>n)
  (fun b o hc e=>⟨o,k b o (fun z=>hc (by simp [z])) e⟩) (fun _ _ e=>e) (fun _ _ _ e=>e) (fun b ps e=>⟨#[],by rw [e]; simp⟩) (fun m hm=>?_) (fun b u e=>?_) I.bare
 ·have e:b=it:=by simpa using hb
  subst e
  exact ⟨h1,hL,h2,h3⟩
 ·obtain ⟨o,es,ep,ho,r⟩:=hm
  exact ⟨o,es,ep,k _ o (Ne.symm hL) ho,r⟩
 ·refine (I.hok b u e).stay (fun c v hc q=>k c v ?_ q) (fun _ q=>q) fun _ _ q=>q
  rcases hc with z | z
  ·rw [z]; exact nit b u e
  ·exact nit c _ z
theorem Inv.tok (I:Inv X pins σ H s) (t:Nat):Inv X pins σ H { s with toks:=t }:=I.un (h':=s.heap) (t':=t) Un.refl I.hok
theorem Inv.kept {t':Nat} (I:Inv X pins σ H s) (k:∀ b u,s.heap.get? b=some u→h'.get? b=some u):Inv X pins σ H { s with heap:=h',toks:=t' }:=I.un (Un.kept k) (I.hok.kept k)
theorem Inv.laid {a:Addr} {o:HO} {t':Nat} (I:Inv X pins σ H s) (k:∀ b u,s.heap.get? b=some u→h'.get? b=some u) (hp:s.heap.objs.size≤a) (new:ObjOk X.prog X.w (upd H a o) h' a o) :
  Inv X pins σ (upd H a o) { s with heap:=h',toks:=t' }:=I.un (Un.laid k hp (I.hok.fresh hp)) (I.hok.laid k hp new)
theorem Inv.write {x e:Addr} {o:HO} {t':Nat} (I:Inv X pins σ H s) (mu:Mut (H x)) (he:e=x∨H e=some (.own x)) (k:∀ b u,b≠e→s.heap.get? b=some u→h'.get? b=some u) (heo:∃ u,h'.get? e=some u)
  (new:ObjOk X.prog X.w (upd H x o) h' x o):Inv X pins σ (upd H x o) { s with heap:=h',toks:=t' }:=I.un (Un.write mu he k heo) (I.hok.write mu he k heo new)
theorem Inv.pins_of {pins':List (Addr×Obj)} (I:Inv X pins σ H s) (h:∀ p∈pins',s.heap.get? p.1=some p.2∧H p.1=none∧p.1≠X.env.locals∧p.1 ∉ X.fs∧∀ v,p.2.data≠.cell v):Inv X pins' σ H s :=
 ⟨I.ok,I.os,I.bare,I.base,I.loc,I.cell,I.free,I.freeC,fun p hp=>(List.mem_append.mp hp).elim (fun z=>I.pin p (List.mem_append_left _ z)) (h p),I.hok,I.len⟩
theorem nodup_ix {N:List Str} (hN:N.Nodup) {i j:Nat} {x:Str} (a:N[i]?=some x) (b:N[j]?=some x):i=j:=by
 obtain ⟨h1,e1⟩:=List.getElem?_eq_some_iff.mp a
 obtain ⟨h2,e2⟩:=List.getElem?_eq_some_iff.mp b
 exact (List.getElem_inj hN).mp (e1.trans e2.symm)
theorem store_ok2 {M:Model} {A:Around} {E:Value→Shared→Prop} {i:Nat} {x:Str} {v:V} {u:Value} {Q:Unit→Shared→Prop} (I:Inv X pins σ H s) (hN:X.N.Nodup) (hi:X.N[i]?=some x) (hx:Loc X.env.scope x) (r:RelV v u)
  (h:∀ s',Inv X pins (σ.set i (some v)) H s'→(∃ a,Heap.SameBut a s.heap s'.heap∧(a=X.env.locals∨X.env.cells.lookup x=some a))→Q () s') (hf:X.fn x=true∨X.env.scope.names.lookup x=some .local:=by first | exact .inl rfl | exact .inr rfl | assumption):wpAny M A (storeName X.env x u) Q E s:=by
 obtain ⟨m,hn,hl⟩:=id I.loc
 have hcls:(X.env.scope.kind == .class || (X.env.scope.kind == .module && X.env.locals != X.env.globals))=false:=by rw [I.ok.kind]; rfl
 have hiσ:i < σ.length:=by rw [I.len]; exact (List.getElem?_eq_some_iff.mp hi).1
 have cne:=I.cne
 have tracked:∀ {a:Addr} {h':Heap},(∃ o,s.heap.get? a=some o∧H a=none)→Heap.SameBut a s.heap h'→HOk X.prog X.w H h':=fun {a h'} ha hs b ob e=>by
  obtain ⟨_,_,hfree⟩:=ha
  refine (I.hok b ob e).stay (fun c w' hc q=>(hs.2 c ?_).trans q) (fun _ q=>q) fun _ _ q=>q
  rintro rfl
  rcases hc with rfl | hc
  ·rw [hfree] at e; cases e
  ·rw [hfree] at hc; cases hc
 rcases hx with hk | hk
 ·refine wpAny_storeName_local hk hn (fun h' hn' hs=>?_) hcls
  obtain ⟨oL,_,_,hoL,_⟩:=id hn
  refine h _ ⟨I.ok,I.os,I.bare,⟨fun b o e n hb hx=>?_,fun b o e n hb hx=>?_,I.base.free,fun b o e hx=>?_,I.base.tups,I.base.frzs,I.base.tbls⟩,⟨_,hn',fun j y v' e1 e2 e3=>?_⟩,fun y c e=>?_,I.free,I.freeC,fun p hp=>?_,tracked ⟨oL,hoL,I.free⟩ hs,by simpa using I.len⟩ ⟨_,hs,.inl rfl⟩
  ·exact (hs.2 b (Nat.ne_of_lt (Nat.lt_of_lt_of_le (Heap.lt_size e) I.ok.above))).trans (I.base.keep b o e n hb hx)
  ·obtain ⟨sl,e1⟩:=I.base.slot b o e n hb hx
   exact ⟨sl,(hs.2 b (Nat.ne_of_lt (Nat.lt_of_lt_of_le (Heap.lt_size e) I.ok.above))).trans e1⟩
  ·obtain ⟨o',e1⟩:=I.base.there b o e hx
   exact ⟨o',(hs.2 b (Nat.ne_of_lt (Nat.lt_of_lt_of_le (Heap.lt_size e) I.ok.above))).trans e1⟩
  ·by_cases hj:j=i
   ·subst hj
    rw [hi] at e1; cases e1
    rw [List.getElem?_set_self hiσ] at e2
    cases e2
    exact ⟨u,r,.inl ⟨hk,by simp⟩⟩
   ·rw [List.getElem?_set_ne (Ne.symm hj)] at e2
    obtain ⟨u',r',q⟩:=hl j y v' e1 e2 e3
    refine ⟨u',r',?_⟩
    rcases q with ⟨k,e⟩ | ⟨k,c,e,z⟩
    ·refine .inl ⟨k,?_⟩
     have:y≠x:=fun e=>hj (nodup_ix hN e1 (e ▸ hi))
     simp [this,e]
    ·exact .inr ⟨k,c,e,z.sameBut hs (cne y c e)⟩
  ·obtain ⟨w',z⟩:=I.cell y c e
   exact ⟨w',z.sameBut hs (cne y c e)⟩
  ·obtain ⟨e,n,ne,nf,d⟩:=I.pin p hp
   exact ⟨(hs.2 p.1 ne).trans e,n,ne,nf,d⟩
 ·have hfn:X.fn x=true:=by
   rcases hf with z | z
   ·exact z
   ·rw [z] at hk; cases hk
  obtain ⟨c,hc⟩:=I.ok.has x (.inl hk)
  obtain ⟨w',z⟩:=I.cell x c hc
  refine wpAny_storeName_cell I.ok.kind hk hc z (fun h' hc' hs=>?_)
  obtain ⟨oc,hoc,hocd⟩:=id z
  refine h { s with heap:=h' } ⟨I.ok,I.os,I.bare,⟨fun b o e n hb hx=>?_,fun b o e n hb hx=>?_,I.base.free,fun b o e hx=>?_,I.base.tups,I.base.frzs,I.base.tbls⟩,⟨m,hn.sameBut hs (Ne.symm (cne x c hc)),fun j y v' e1 e2 e3=>?_⟩,fun y c' e=>?_,I.free,I.freeC,fun p hp=>?_,tracked ⟨oc,hoc,I.freeC x c hc⟩ hs,by simpa using I.len⟩ ⟨c,hs,.inr hc⟩
  ·exact (hs.2 b (Nat.ne_of_lt (Nat.lt_of_lt_of_le (Heap.lt_size e) (I.ok.cab x c hfn hc)))).trans (I.base.keep b o e n hb hx)
  ·obtain ⟨sl,e1⟩:=I.base.slot b o e n hb hx
   exact ⟨sl,(hs.2 b (Nat.ne_of_lt (Nat.lt_of_lt_of_le (Heap.lt_size e) (I.ok.cab x c hfn hc)))).trans e1⟩
  ·obtain ⟨o',e1⟩:=I.base.there b o e hx
   exact ⟨o',(hs.2 b (Nat.ne_of_lt (Nat.lt_of_lt_of_le (Heap.lt_size e) (I.ok.cab x c hfn hc)))).trans e1⟩
  ·by_cases hj:j=i
   ·subst hj
    rw [hi] at e1; cases e1
    rw [List.getElem?_set_self hiσ] at e2
    cases e2
    exact ⟨u,r,.inr ⟨.inl hk,c,hc,hc'⟩⟩
   ·rw [List.getElem?_set_ne (Ne.symm hj)] at e2
    obtain ⟨u',r',q⟩:=hl j y v' e1 e2 e3
    refine ⟨u',r',?_⟩
    rcases q with q | ⟨k,c',e,z'⟩
    ·exact .inl q
    ·refine .inr ⟨k,c',e,z'.sameBut hs ?_⟩
     rintro rfl
     exact hj (nodup_ix hN e1 (I.ok.inj _ _ _ e hc ▸ hi))
  ·by_cases hcc:c'=c
   ·subst hcc; exact ⟨_,hc'⟩
   ·obtain ⟨w2,z2⟩:=I.cell y c' e
    exact ⟨w2,z2.sameBut hs hcc⟩
  ·obtain ⟨e,n,ne,nf,d⟩:=I.pin p hp
   refine ⟨(hs.2 p.1 ?_).trans e,n,ne,nf,d⟩
   intro q
   rw [q,hoc] at e
   have q':oc=p.2:=Option.some.inj e
   exact d w' (by rw [← q']; exact hocd)
theorem store_ok {M:Model} {A:Around} {E:Value→Shared→Prop} {i:Nat} {x:Str} {v:V} {u:Value} {Q:Unit→Shared→Prop} (I:Inv X pins σ H s) (hN:X.N.Nodup) (hi:X.N[i]?=some x) (hx:Loc X.env.scope x) (r:RelV v u)
  (h:∀ s',Inv X pins (σ.set i (some v)) H s'→Q () s') (hf:X.fn x=true∨X.env.scope.names.lookup x=some .local:=by first | exact .inl rfl | exact .inr rfl | assumption):wpAny M A (storeName X.env x u) Q E s :=
 store_ok2 I hN hi hx r (fun s' I' _=>h s' I') hf
theorem Inv.call' {s':Shared} {ch:List Addr} (I:Inv X pins σ H s) (ho:s'.os=s.os) (u:Un (frs X.stack) ch H H' s.heap s'.heap) (hok:HOk X.prog X.w H' s'.heap) (hg:AllBare s'.gens)
  (hch:∀ b∈ch,(b∈X.ex∨X.s₀.heap.objs.size≤b)∧b≠X.env.locals∧(∀ x c,X.env.cells.lookup x=some c→c≠b)∧∀ p∈X.pn ++ pins,p.1≠b):Inv X pins σ H' s':=by
 obtain ⟨h',g',d',t',o'⟩:=s'
 have e:o'=s.os:=ho
 subst e
 exact I.call (g':=g') (t':=t') (d':=d') u hok hg hch
end
abbrev XK:=Value→Option Addr→Hp→Prop
abbrev St:=List (Option V)
abbrev VK:=V→Hp→Prop
abbrev TE:=St→Hp→VK→Prop
abbrev TT:=St→Hp→(Bool→Hp→Prop)→Prop
abbrev TA:=St→Hp→(List V→Hp→Prop)→Prop
structure Ends where
 nx:St→Hp→Prop
 rt:VK
 bk:St→Hp→Prop:=fun _ _=>False
 ct:St→Hp→Prop:=fun _ _=>False
abbrev TS:=Ends→St→Hp→Prop
def EP (X:Cx) (pins:List (Addr×Obj)) (σ:St) (Q:VK) (u:Value) (s':Shared):Prop:=∃ v H',Inv X pins σ H' s'∧RelV v u∧Q v H'
def TP (X:Cx) (pins:List (Addr×Obj)) (σ:St) (Q:Bool→Hp→Prop) (b:Bool) (s':Shared):Prop:=∃ H',Inv X pins σ H' s'∧Q b H'
def AP (X:Cx) (pins:List (Addr×Obj)) (σ:St) (Q:List V→Hp→Prop) (us:List Value) (s':Shared):Prop:=∃ vs H',Inv X pins σ H' s'∧Vals vs us∧Q vs H'
def SP (X:Cx) (pins:List (Addr×Obj)) (D:Ends) (f:Flow) (s':Shared):Prop :=
 match f with
 | .next=>∃ σ' H',Inv X pins σ' H' s'∧D.nx σ' H'
 | .brk=>∃ σ' H',Inv X pins σ' H' s'∧D.bk σ' H'
 | .cont=>∃ σ' H',Inv X pins σ' H' s'∧D.ct σ' H'
 | .ret u=>∃ v σ' H',Inv X pins σ' H' s'∧RelV v u∧D.rt v H'
def PE (X:Cx) (e:Expr) (t:TE):Prop :=
 ∀ (pins:List (Addr×Obj)) (s:Shared) (σ:St) (H:Hp) (Q:VK),Inv X pins σ H s→t σ H Q→wpAny (model X.prog X.w) X.A (eval e X.env) (EP X pins σ Q) X.xe s
def PT (X:Cx) (e:Expr) (t:TT):Prop :=
 ∀ (pins:List (Addr×Obj)) (s:Shared) (σ:St) (H:Hp) (Q:Bool→Hp→Prop),Inv X pins σ H s→t σ H Q→wpAny (model X.prog X.w) X.A (isTrue e X.env (eval e X.env)) (TP X pins σ Q) X.xe s
def PW (X:Cx) (e:Expr) (t:TT):Prop :=
 ∀ (whole:Sem Value) (pins:List (Addr×Obj)) (s:Shared) (σ:St) (H:Hp) (Q:Bool→Hp→Prop),Inv X pins σ H s→t σ H Q→wpAny (model X.prog X.w) X.A (isTrue e X.env whole) (TP X pins σ Q) X.xe s
theorem PW.pt {X:Cx} {e:Expr} {t:TT} (h:PW X e t):PT X e t:=h _
def PA (X:Cx) (es:List Expr) (t:TA):Prop :=
 ∀ (pos:Pos) (pins:List (Addr×Obj)) (s:Shared) (σ:St) (H:Hp) (Q:List V→Hp→Prop),Inv X pins σ H s→t σ H Q→wpAny (model X.prog X.w) X.A (spliced (backTo pos (starEach es X.env))) (AP X pins σ Q) X.xe s
def PS (X:Cx) (st:Stmt) (t:TS):Prop :=
 ∀ (pins:List (Addr×Obj)) (s:Shared) (σ:St) (H:Hp) (D:Ends),Inv X pins σ H s→t D σ H→wpAny (model X.prog X.w) X.A (exec st X.env) (SP X pins D) X.xe s
def PSs (X:Cx) (st:List Stmt) (t:TS):Prop :=
 ∀ (pins:List (Addr×Obj)) (s:Shared) (σ:St) (H:Hp) (D:Ends),Inv X pins σ H s→t D σ H→wpAny (model X.prog X.w) X.A (execs st X.env) (SP X pins D) X.xe s
theorem thn {α:Type} {t:Sem α} {Q Q':α→Shared→Prop} {M:Model} {A:Around} {E:Value→Shared→Prop} {s:Shared} (h:wpAny M A t Q E s) (hQ:∀ a s,Q a s→Q' a s):wpAny M A t Q' E s:=wpAny_mono h hQ fun _ _ x=>x
section
variable {X:Cx}
def tVar (i:Nat):TE:=fun σ H Q=>∃ v,σ[i]?=some (some v)∧Q v H
def tC (v:V):TE:=fun _ H Q=>Q v H
theorem pe_var {i:Nat} {x:Str} {pos:Pos} (hN:X.N[i]?=some x) (hv:Vis X.env.scope x) (hd:(x == ("__debug__":Str))=false:=by decide) (hcd:(x == ("__classdict__":Str))=false:=by decide):PE X (.Name x pos) (tVar i):=by
 intro pins s σ H Q I h
 obtain ⟨v,e,h⟩:=h
 obtain ⟨m,hn,hl⟩:=I.loc
 obtain ⟨u,r,l⟩:=hl i x v hN e hv
 have fin:EP X pins σ Q u s:=⟨v,H,I,r,h⟩
 rcases l with ⟨hk,hm⟩ | ⟨hk,c,hc,hcell⟩
 ·exact wpAny_Name (wpAny_loadName_local I.ok.kind hk hn hm fin) hd
 ·rcases hk with hk | hk
  ·exact wpAny_Name (wpAny_loadName_cell I.ok.kind hk hc hcell fin) hd
  ·exact wpAny_Name (wpAny_loadName_free I.ok.kind hk hc hcell fin hcd) hd
theorem pe_int {i j pos}:PE X (.Constant (.int i) j pos) (tC (.int i)):=fun _ _ _ H _ I h=>wpAny_Constant_int ⟨.int i,H,I.tok _,⟨_,rfl⟩,h⟩
theorem pe_bl {b j pos}:PE X (.Constant (.bool b) j pos) (tC (.bl b)):=fun _ _ _ H _ I h=>Constant_bool ⟨.bl b,H,I,rfl,h⟩
theorem pe_non {j pos}:PE X (.Constant .none j pos) (tC .non):=fun _ _ _ H _ I h=>Constant_none ⟨.non,H,I,rfl,h⟩
theorem pe_str {x j pos}:PE X (.Constant (.str x) j pos) (tC (.str x)):=fun _ _ _ H _ I h=>Calls.Constant_str ⟨.str x,H,I.tok _,⟨_,rfl⟩,h⟩
def Gl (X:Cx) (x:Str):Prop:=X.env.kindOf x=some .globalImplicit
theorem ld_glob {E:Value→Shared→Prop} {pins:List (Addr×Obj)} {s:Shared} {σ:St} {H:Hp} {x:Str} {u:Value} {pos:Pos} {Q:Value→Shared→Prop} (I:Inv X pins σ H s) (hg:Gl X x) (hm:X.mg x=some u) (h:Q u s)
  (hd:(x == ("__debug__":Str))=false:=by decide):wpAny (model X.prog X.w) X.A (eval (.Name x pos) X.env) Q E s :=
 Calls.Name_function_global I.ok.kind hg (Calls.loadGlobal_global (by rw [I.ok.glob]; exact I.mod.glob.keeps I.bk) hm h) hd
theorem ld_blt {E:Value→Shared→Prop} {pins:List (Addr×Obj)} {s:Shared} {σ:St} {H:Hp} {x:Str} {u:Value} {pos:Pos} {Q:Value→Shared→Prop} (I:Inv X pins σ H s) (hg:Gl X x) (hm:X.mg x=none) (hv:bootBuiltins x=some u) (h:Q u s)
  (hn:x≠"__name__":=by decide) (hd:(x == ("__debug__":Str))=false:=by decide):wpAny (model X.prog X.w) X.A (eval (.Name x pos) X.env) Q E s:=by
 obtain ⟨mb,h1,h2⟩:=I.mod.blt
 exact Calls.Name_function_global I.ok.kind hg (Calls.loadGlobal_builtin (by rw [I.ok.glob]; exact I.mod.glob.keeps I.bk) hm (by rw [I.ok.blt]; exact h1.keeps I.bk) ((h2 x hn).trans hv) h) hd
theorem pe_glob {x:Str} {v:V} {u:Value} {pos:Pos} (hg:Gl X x) (hm:X.mg x=some u) (r:RelV v u) (hd:(x == ("__debug__":Str))=false:=by decide):PE X (.Name x pos) (tC v) :=
 fun _ _ _ H _ I h=>ld_glob I hg hm ⟨v,H,I,r,h⟩ hd
theorem pe_bltn {x:Str} {v:V} {u:Value} {pos:Pos} (hg:Gl X x) (hm:X.mg x=none) (hv:bootBuiltins x=some u) (r:RelV v u) (hn:x≠"__name__":=by decide) (hd:(x == ("__debug__":Str))=false:=by decide):PE X (.Name x pos) (tC v) :=
 fun _ _ _ H _ I h=>ld_blt I hg hm hv ⟨v,H,I,r,h⟩ hn hd
variable {a b:Expr} {ta tb:TE} {pos:Pos}
def tB (t:TE):TT:=fun σ H Q=>t σ H fun x H1=>∃ c,x=.bl c∧Q c H1
theorem pt_val {e:Expr} {t:TE} (h:PE X e t) (he:∀ whole,isTrue e X.env whole=(do let v ← whole; standAt e.pos; holding [v] (truthy v)):=by intro _; rfl):PT X e (tB t):=by
 intro pins s σ H Q I hw
 refine isTrue_plain (thn (h pins s σ H _ I hw) fun v s1 ⟨x,H1,I1,r1,q1⟩=>?_) (he _)
 obtain ⟨d,rfl,q⟩:=q1
 cases r1
 exact wpAny_truthy_bool ⟨H1,I1,q⟩
variable {tA tB':TT} {rest:List Expr}
def tAnd (t u:TT):TT:=fun σ H Q=>t σ H fun c H1=>if c=true then u σ H1 Q else Q false H1
def tOr (t u:TT):TT:=fun σ H Q=>t σ H fun c H1=>if c=true then Q true H1 else u σ H1 Q
def tNot (t:TT):TT:=fun σ H Q=>t σ H fun c H1=>Q (!c) H1
theorem pw_and1 (ha:PT X a tA):PW X (.BoolOp .And [a] pos) tA:=by
 intro wh pins s σ H Q I h
 refine isTrue_and (thn (ha pins s σ H Q I h) fun c s1 e=>?_)
 cases c with
 | true=>exact isTrue_and_nil e
 | false=>exact e
theorem pw_or1 (ha:PT X a tA):PW X (.BoolOp .Or [a] pos) tA:=by
 intro wh pins s σ H Q I h
 refine isTrue_or (thn (ha pins s σ H Q I h) fun c s1 e=>?_)
 cases c with
 | false=>exact isTrue_or_nil e
 | true=>exact e
theorem pw_and (ha:PT X a tA) (hb:PW X (.BoolOp .And (b :: rest) pos) tB'):PW X (.BoolOp .And (a :: b :: rest) pos) (tAnd tA tB'):=by
 intro wh pins s σ H Q I h
 refine isTrue_and (thn (ha pins s σ H _ I h) fun c s1 ⟨H1,I1,q1⟩=>?_)
 cases c with
 | true=>exact hb wh pins s1 σ H1 Q I1 q1
 | false=>exact ⟨H1,I1,q1⟩
theorem pw_or (ha:PT X a tA) (hb:PW X (.BoolOp .Or (b :: rest) pos) tB'):PW X (.BoolOp .Or (a :: b :: rest) pos) (tOr tA tB'):=by
 intro wh pins s σ H Q I h
 refine isTrue_or (thn (ha pins s σ H _ I h) fun c s1 ⟨H1,I1,q1⟩=>?_)
 cases c with
 | true=>exact ⟨H1,I1,q1⟩
 | false=>exact hb wh pins s1 σ H1 Q I1 q1
theorem pt_not (ha:PT X a tA):PT X (.UnaryOp .Not a pos) (tNot tA):=by
 intro pins s σ H Q I h
 exact isTrue_not (ha pins s σ H (fun c H1=>Q (!c) H1) I h)
def tAndV (ta tb:TE):TE:=fun σ H Q=>ta σ H fun x H1=>∃ c,x=.bl c∧if c=true then tb σ H1 Q else Q (.bl false) H1
def tNotV (ta:TE):TE:=fun σ H Q=>ta σ H fun x H1=>∃ c,x=.bl c∧Q (.bl (!c)) H1
theorem pe_one {op} {t:TE} (h:PE X a t):PE X (.BoolOp op [a] pos) t:=fun pins s σ H Q I hw=>BoolOp_one (h pins s σ H Q I hw)
theorem pe_and (ha:PE X a ta) (hb:PE X (.BoolOp .And (b :: rest) pos) tb):PE X (.BoolOp .And (a :: b :: rest) pos) (tAndV ta tb):=by
 intro pins s σ H Q I h
 refine BoolOp_and (thn (ha pins s σ H _ I h) fun v s1 ⟨x,H1,I1,r1,q1⟩=>?_)
 obtain ⟨c,rfl,q1⟩:=q1
 cases r1
 refine wpAny_truthy_bool ?_
 cases c with
 | true=>exact hb pins s1 σ H1 Q I1 q1
 | false=>exact ⟨.bl false,H1,I1,rfl,q1⟩
theorem pe_not (ha:PE X a ta):PE X (.UnaryOp .Not a pos) (tNotV ta):=by
 intro pins s σ H Q I h
 refine UnaryOp_ (thn (ha pins s σ H _ I h) fun v s1 ⟨x,H1,I1,r1,q1⟩=>?_)
 obtain ⟨c,rfl,q1⟩:=q1
 cases r1
 exact not_of (wpAny_truthy_bool ⟨.bl (!c),H1,I1,rfl,q1⟩)
def tIf (t:TT) (ta tb:TE):TE:=fun σ H Q=>t σ H fun c H1=>if c=true then ta σ H1 Q else tb σ H1 Q
theorem pe_ifExp {c:Expr} (hc:PT X c tA) (ha:PE X a ta) (hb:PE X b tb):PE X (.IfExp c a b pos) (tIf tA ta tb):=by
 intro pins s σ H Q I h
 refine wpAny_IfExp (thn (hc pins s σ H _ I h) fun d s1 ⟨H1,I1,q1⟩=>?_)
 cases d with
 | true=>exact ha pins s1 σ H1 Q I1 q1
 | false=>exact hb pins s1 σ H1 Q I1 q1
end
def SqL (K:PySem.W.Frag) (H:Hp) (a:Addr) (xs:List V):Prop :=
 Rd H a (.lst xs) ∨
  ∃ (o:Obj) (its:Array Value) (n:Nat),K.lookup a=some o∧o.cls=.type "list"∧o.dict=none∧o.data=.seq its n∧its.size≤sizeLine∧Vals xs its.toList
def SqT (K:PySem.W.Frag) (H:Hp) (a:Addr) (xs:List V):Prop :=
 Rd H a (.tup xs) ∨
  ∃ (o:Obj) (its:Array Value) (n:Nat),K.lookup a=some o∧o.cls=.type "tuple"∧o.data=.seq its n∧its.size≤sizeLine∧Vals xs its.toList
def absV:Value→Option V
 | .none=>some .non
 | .bool b=>some (.bl b)
 | .int i _=>some (.int i)
 | .str x _=>some (.str x)
 | .bytes b _=>some (.byt b)
 | .float b _=>some (.flt b)
 | .ref a=>some (.ref a)
 | .type n=>some (.ty n)
 | _=>none
theorem RelV.abs {x:V} {u:Value} (r:RelV x u):absV u=some x:=by
 cases x with
 | non=>cases r; rfl
 | bl _=>cases r; rfl
 | int _=>obtain ⟨t,rfl⟩:=r; rfl
 | str _=>obtain ⟨t,rfl⟩:=r; rfl
 | byt _=>obtain ⟨t,rfl⟩:=r; rfl
 | flt _=>obtain ⟨t,rfl⟩:=r; rfl
 | ref _=>cases r; rfl
 | ty _=>cases r; rfl
theorem RelV.inj {x y:V} {u:Value} (r:RelV x u) (q:RelV y u):x=y:=Option.some.inj (r.abs.symm.trans q.abs)
theorem Vals.inj:∀ {xs ys:List V} {us:List Value},Vals xs us→Vals ys us→xs=ys
 | _,_,_,.nil,.nil=>rfl
 | _,_,_,.cons r t,.cons r' t'=>by rw [r.inj r',Vals.inj t t']
section
variable {X:Cx} {pins:List (Addr×Obj)} {σ:St} {H:Hp} {s:Shared} {a:Addr} {xs ys:List V}
theorem SqL.of {K:PySem.W.Frag} (h:H a=some (.lst xs)):SqL K H a xs:=.inl (.inl h)
theorem SqT.of {K:PySem.W.Frag} (h:H a=some (.tup xs)):SqT K H a xs:=.inl (.inl h)
theorem Inv.list (I:Inv X pins σ H s) (h:SqL X.K H a xs):∃ its:List Value,Vals xs its∧PlainL s.heap a its.toArray∧xs.length≤sizeLine:=by
 rcases h with h | ⟨o,its,n,hk,hc,hd,hs,hz,r⟩
 ·obtain ⟨z,its,n,r,e⟩:=h.ok I.hok
  exact ⟨its,r,⟨_,n,e,rfl,rfl,rfl⟩,z⟩
 ·refine ⟨its.toList,r,⟨o,n,I.kIn a o hk,hc,hd,by simpa using hs⟩,?_⟩
  have e:=r.length
  simp only [Array.length_toList] at e
  omega
theorem Inv.tuple (I:Inv X pins σ H s) (h:SqT X.K H a xs):∃ its:List Value,Vals xs its∧IsTup s.heap a its.toArray∧xs.length≤sizeLine:=by
 rcases h with h | ⟨o,its,n,hk,hc,hs,hz,r⟩
 ·obtain ⟨z,its,r,p⟩:=h.ok I.hok
  exact ⟨its,r,p.tup,z⟩
 ·refine ⟨its.toList,r,⟨o,I.kIn a o hk,hc,n,by simpa using hs⟩,?_⟩
  have e:=r.length
  simp only [Array.length_toList] at e
  omega
theorem Inv.list_inj (I:Inv X pins σ H s) (h:SqL X.K H a xs) (h':SqL X.K H a ys):xs=ys:=by
 obtain ⟨its,r,⟨o,n,e,_,_,d⟩,_⟩:=I.list h
 obtain ⟨its',r',⟨o',n',e',_,_,d'⟩,_⟩:=I.list h'
 rw [e] at e'; cases e'
 rw [d] at d'
 injection d' with d1 _
 have:its=its':=by simpa using congrArg Array.toList d1
 subst this
 exact r.inj r'
end
abbrev Cx.wish (X:Cx) (E:Value→Shared→Prop):Cx:={ X with xe:=E }
abbrev Cx.nox (X:Cx):Cx:=X.wish fun _ _=>False
theorem Cx.Ok.wish {X:Cx} (ok:X.Ok) (E:Value→Shared→Prop):(X.wish E).Ok :=
 ⟨ok.mod,ok.kind,ok.glob,ok.blt,ok.above,ok.inj,ok.has,ok.cab,ok.hd,ok.frames,ok.stk,ok.exf,ok.bs,ok.bsz,ok.noex,ok.exfs,ok.funs,ok.frf⟩
theorem Cx.Ok.unwish {X:Cx} {E:Value→Shared→Prop} (ok:(X.wish E).Ok):X.Ok :=
 ⟨ok.mod,ok.kind,ok.glob,ok.blt,ok.above,ok.inj,ok.has,ok.cab,ok.hd,ok.frames,ok.stk,ok.exf,ok.bs,ok.bsz,ok.noex,ok.exfs,ok.funs,ok.frf⟩
section
variable {X:Cx} {pins:List (Addr×Obj)} {σ:St} {H:Hp} {s:Shared} {E:Value→Shared→Prop}
theorem Inv.wish (I:Inv X pins σ H s) (E:Value→Shared→Prop):Inv (X.wish E) pins σ H s:=⟨I.ok.wish E,I.os,I.bare,I.base,I.loc,I.cell,I.free,I.freeC,I.pin,I.hok,I.len⟩
theorem Inv.unwish (I:Inv (X.wish E) pins σ H s):Inv X pins σ H s:=⟨I.ok.unwish,I.os,I.bare,I.base,I.loc,I.cell,I.free,I.freeC,I.pin,I.hok,I.len⟩
theorem SP.unwish {D:Ends} {f:Flow} {s':Shared} (h:SP (X.wish E) pins D f s'):SP X pins D f s':=by
 cases f with
 | next=>obtain ⟨σ',H',I,q⟩:=h; exact ⟨σ',H',I.unwish,q⟩
 | brk=>obtain ⟨σ',H',I,q⟩:=h; exact ⟨σ',H',I.unwish,q⟩
 | cont=>obtain ⟨σ',H',I,q⟩:=h; exact ⟨σ',H',I.unwish,q⟩
 | ret u=>obtain ⟨v,σ',H',I,r,q⟩:=h; exact ⟨v,σ',H',I.unwish,r,q⟩
theorem PSs.nox {st:List Stmt} {t:TS} (h:PSs X.nox st t):PSs X st t:=fun pins s σ H D I hw =>
 wpAny_mono (h pins s σ H D (I.wish _) hw) (fun _ _ q=>q.unwish) fun _ _ z=>False.elim z
end
section
variable {X:Cx} {st:Stmt} {rest:List Stmt} {t u:TS} {e:Expr} {te:TE} {pos:Pos}
def tNext:TS:=fun D σ H=>D.nx σ H
def tSeq (t u:TS):TS:=fun D σ H=>t { D with nx:=u D } σ H
theorem pss_nil:PSs X [] tNext:=fun _ _ σ H _ I h=>wpAny_execs_nil ⟨σ,H,I,h⟩
theorem pss_cons (h1:PS X st t) (h2:PSs X rest u):PSs X (st :: rest) (tSeq t u):=by
 intro pins s σ H D I h
 refine wpAny_execs_cons (thn (h1 pins s σ H { D with nx:=u D } I h) fun f s1 q=>?_)
 cases f with
 | next =>
  obtain ⟨σ',H',I',q⟩:=q
  exact h2 pins s1 σ' H' D I' q
 | ret v=>exact q
 | brk=>exact q
 | cont=>exact q
theorem pss_one (h1:PS X st t):PSs X [st] t:=by
 intro pins s σ H D I h
 refine wpAny_execs_cons (thn (h1 pins s σ H D I h) fun f s1 q=>?_)
 cases f with
 | next=>exact wpAny_execs_nil q
 | ret v=>exact q
 | brk=>exact q
 | cont=>exact q
theorem Inv.quiet {pins:List (Addr×Obj)} {σ:St} {H:Hp} {s:Shared} (I:Inv X pins σ H s):interactive X.env=false:=by simp [interactive,I.ok.kind]
def tDrop (te:TE):TS:=fun D σ H=>te σ H fun _ H1=>D.nx σ H1
theorem ps_expr (he:PE X e te) (hs:swapsWith e none pos.line X.env=pure false:=by rfl):PS X (.Expr e pos) (tDrop te):=by
 intro pins s σ H D I h
 exact wpAny_Expr_any (thn (he pins s σ H _ I h) fun v s1 ⟨x,H1,I1,r1,q1⟩=>⟨σ,H1,I1,q1⟩) I.quiet hs
def tRet (te:TE):TS:=fun D σ H=>te σ H D.rt
theorem ps_ret (he:PE X e te):PS X (.Return (some e) pos) (tRet te):=by
 intro pins s σ H D I h
 exact wpAny_Return_some (thn (he pins s σ H _ I h) fun v s1 ⟨x,H1,I1,r1,q1⟩=>⟨x,σ,H1,I1,r1,q1⟩)
def tIfS (c:TT) (t u:TS):TS:=fun D σ H=>c σ H fun b H1=>if b=true then t D σ H1 else u D σ H1
theorem ps_if {c:Expr} {a b:List Stmt} {tc:TT} (hc:PT X c tc) (ha:PSs X a t) (hb:PSs X b u):PS X (.If c a b pos) (tIfS tc t u):=by
 intro pins s σ H D I h
 refine wpAny_If (thn (hc pins s σ H _ I h) fun d s1 ⟨H1,I1,q1⟩=>?_)
 cases d with
 | true=>exact ha pins s1 σ H1 D I1 q1
 | false=>exact hb pins s1 σ H1 D I1 q1
end
abbrev TG:=V→St→Hp→(St→Hp→Prop)→Prop
abbrev TGs:=List V→St→Hp→(St→Hp→Prop)→Prop
def PG (X:Cx) (target:Expr) (t:TG):Prop :=
 ∀ (pins:List (Addr×Obj)) (s:Shared) (σ:St) (H:Hp) (v:V) (u:Value) (Q:St→Hp→Prop),Inv X pins σ H s→RelV v u→t v σ H Q →
  wpAny (model X.prog X.w) X.A (assign target X.env u) (fun _ s'=>∃ σ' H',Inv X pins σ' H' s'∧Q σ' H') X.xe s
def PGs (X:Cx) (ts:List Expr) (t:TGs):Prop :=
 ∀ (pins:List (Addr×Obj)) (s:Shared) (σ:St) (H:Hp) (vs:List V) (us:List Value) (Q:St→Hp→Prop),Inv X pins σ H s→Vals vs us→t vs σ H Q →
  wpAny (model X.prog X.w) X.A (assignInOrder ((assignEach ts X.env).map (·.2)) us) (fun _ s'=>∃ σ' H',Inv X pins σ' H' s'∧Q σ' H') X.xe s
section
variable {X:Cx} {pos:Pos}
def gName (i:Nat):TG:=fun v σ H Q=>Q (σ.set i (some v)) H
theorem pg_name {i:Nat} {x:Str} (hN:X.N.Nodup) (hi:X.N[i]?=some x) (hx:Loc X.env.scope x) (hf:X.fn x=true∨X.env.scope.names.lookup x=some .local:=by first | exact .inl rfl | exact .inr rfl | assumption):PG X (.Name x pos) (gName i):=by
 intro pins s σ H v u Q I r h
 exact wpAny_assign_Name (store_ok I hN hi hx r (fun s' I'=>⟨_,H,I',h⟩) hf)
def gNil:TGs:=fun vs σ H Q=>vs=[]∧Q σ H
def gCons (t:TG) (u:TGs):TGs:=fun vs σ H Q=>∃ v r,vs=v :: r∧t v σ H fun σ' H'=>u r σ' H' Q
theorem pgs_nil:PGs X [] gNil:=by
 intro pins s σ H vs us Q I r h
 obtain ⟨e,h⟩:=h
 subst e
 cases r
 exact assignInOrder_nil ⟨σ,H,I,h⟩
theorem pgs_cons {e:Expr} {es:List Expr} {t:TG} {u:TGs} (h1:PG X e t) (h2:PGs X es u)
  (hs:(assignEach (e :: es) X.env).map (·.2)=assign e X.env :: (assignEach es X.env).map (·.2):=by rfl):PGs X (e :: es) (gCons t u):=by
 intro pins s σ H vs us Q I r h
 obtain ⟨v,vr,e1,h⟩:=h
 subst e1
 cases r with
 | cons r rr =>
  rw [hs]
  refine assignInOrder_cons (thn (h1 pins s σ H _ _ _ I r h) fun _ s1 ⟨σ1,H1,I1,q1⟩=>?_)
  exact h2 pins s1 σ1 H1 _ _ Q I1 rr q1
def gTup (K:PySem.W.Frag) (n:Nat) (t:TGs):TG:=fun v σ H Q=>∃ a xs,v=.ref a∧SqT K H a xs∧xs.length=n∧t xs σ H Q
theorem pg_tup {es:List Expr} {k:Nat} {t:TGs} {n:Nat} (hc:X.calm=true) (h:PGs X es t)
  (hn:(assignEach es X.env).length=n:=by rfl) (hst:(assignEach es X.env).findIdx? (·.1)=none:=by rfl):PG X (.Tuple es k pos) (gTup X.K n t):=by
 intro pins s σ H v u Q I r hw
 obtain ⟨a,xs,e1,hq,hl,hw⟩:=hw
 subst e1
 cases r
 obtain ⟨its,rv,ht,hz⟩:=I.tuple hq
 refine assign_Tuple_tuple (I.ok.hd hc) ht (by simp [hn,← hl,rv.length]) hst fun h' hx=>?_
 have I1:Inv X pins σ H { s with heap:=h' }:=I.kept (t':=s.toks) fun b o e=>hx b o (Nat.ne_of_lt (Heap.lt_size e)) e
 exact h pins _ σ H xs _ Q I1 (by simpa using rv) hw
def tAsg (te:TE) (g:TG):TS:=fun D σ H=>te σ H fun x H1=>g x σ H1 D.nx
theorem ps_set {i:Nat} {x:Str} {e:Expr} {te:TE} {pos':Pos} (hN:X.N.Nodup) (hi:X.N[i]?=some x) (hx:Loc X.env.scope x) (he:PE X e te) (hs:swapsWith e (some (.Name x pos')) pos.line X.env=pure false:=by rfl) (hf:X.fn x=true∨X.env.scope.names.lookup x=some .local:=by first | exact .inl rfl | exact .inr rfl | assumption) :
  PS X (.Assign [.Name x pos'] e pos) (tAsg te (gName i)):=by
 intro pins s σ H D I h
 refine wpAny_Assign_Name (thn (he pins s σ H _ I h) fun v s1 ⟨y,H1,I1,r1,q1⟩=>?_) hs
 exact store_ok I1 hN hi hx r1 (fun s2 I2=>⟨_,H1,I2,q1⟩) hf
end
section
variable {X:Cx} {pos:Pos}
end
structure It where
 go:Nat→Hp→Prop
 yld:Nat→Hp→V→Hp→Prop
 stop:Nat→Hp→Prop
def FpOk (X:Cx) (pins:List (Addr×Obj)) (H:Hp) (b:Addr):Prop :=
 H b=none∧b≠X.env.locals∧b ∉ X.fs∧(b∈X.ex∨X.s₀.heap.objs.size≤b)∧(∀ x c,X.env.cells.lookup x=some c→c≠b)∧∀ p∈X.pn ++ pins,p.1≠b
theorem Inv.fpOk {X:Cx} {pins:List (Addr×Obj)} {σ:St} {H H':Hp} {s:Shared} {b:Addr} (I:Inv X pins σ H s) (hb:s.heap.objs.size≤b) (hn:H' b=none):FpOk X pins H' b:=by
 refine ⟨hn,Nat.ne_of_gt (Nat.lt_of_lt_of_le I.lt hb),I.nofs hb,.inr (Nat.le_trans I.sz hb),fun x c e z=>?_,fun p hp z=>?_⟩
 ·obtain ⟨v,q⟩:=I.cell x c e
  exact absurd (Nat.lt_of_lt_of_le q.lt (by rw [z]; exact hb)) (Nat.lt_irrefl _)
 ·exact absurd (Nat.lt_of_lt_of_le (Heap.lt_size (I.pin p hp).1) (by rw [z]; exact hb)) (Nat.lt_irrefl _)
structure Turn (P:Program) (w:World) (K:PySem.W.Frag) (tg:Expr) (J:It) (fp:List Addr) (it:Addr) (tn:Nat→Heap→Prop):Prop where
 mem:it∈fp
 obj:∀ i h,tn i h→∀ b∈fp,∃ o,h.get? b=some o∧∀ v,o.data≠.cell v
 keep:∀ i h h',tn i h→(∀ b∈fp,∀ o,h.get? b=some o→h'.get? b=some o)→tn i h'
 item:∀ (X:Cx),X.prog=P→X.w=w→X.K=K→X.calm=true→∀ (i:Nat) (pins:List (Addr×Obj)) (s:Shared) (σ:St) (H:Hp) (E:Value→Shared→Prop),Inv X pins σ H s→(∀ b∈fp,FpOk X pins H b)→tn i s.heap→J.go i H →
  wpAny (model P w) X.A (pyNext (.ref it)) (fun r s1=>∃ u,r=some u ∧
   wpAny (model P w) X.A (letOwnedTupleGo tg (.ref it) u) (fun _ s2=>∃ x H',Inv X pins σ H' s2∧RelV x u∧J.yld i H x H'∧tn (i + 1) s2.heap∧∀ b∈fp,H' b=none) E s1) E s
 done:∀ (X:Cx),X.prog=P→X.w=w→X.K=K→X.calm=true→∀ (i:Nat) (pins:List (Addr×Obj)) (s:Shared) (σ:St) (H:Hp) (E:Value→Shared→Prop),Inv X pins σ H s→(∀ b∈fp,FpOk X pins H b)→tn i s.heap→J.stop i H →
  wpAny (model P w) X.A (pyNext (.ref it)) (fun r s1=>r=none∧Inv X pins σ H s1) E s
 self:∀ (A:Around) (i:Nat) (s:Shared) (Q:Value→Shared→Prop) (E:Value→Shared→Prop),tn i s.heap→Q (.ref it) s→wpAny (model P w) A (pyIter (.ref it)) Q E s
abbrev TI:=St→Hp→(It→Hp→Prop)→Prop
def PIE (X:Cx) (pins:List (Addr×Obj)) (σ:St) (tg:Expr) (R:It→Hp→Prop) (itv:Value) (s2:Shared):Prop :=
 ∃ (it:Addr) (fp:List Addr) (tn:Nat→Heap→Prop) (J:It) (H':Hp),itv=.ref it∧Inv X pins σ H' s2∧Turn X.prog X.w X.K tg J fp it tn∧tn 0 s2.heap∧(∀ b∈fp,FpOk X pins H' b)∧R J H'
def PI (X:Cx) (tg iter:Expr) (wi:TI):Prop :=
 ∀ (pins:List (Addr×Obj)) (s:Shared) (σ:St) (H:Hp) (R:It→Hp→Prop),Inv X pins σ H s→wi σ H R →
  wpAny (model X.prog X.w) X.A (eval iter X.env) (fun v s1=>wpAny (model X.prog X.w) X.A (pyIter v) (PIE X pins σ tg R) X.xe s1) X.xe s
theorem go_of {M:Model} {A:Around} {E:Value→Shared→Prop} {s:Shared} {tg:Expr} {it:Addr} {u:Value} {o:Obj} {n:String} {vs:Array Value} {Q:Unit→Shared→Prop} (ho:s.heap.get? it=some o) (hc:o.cls=.type n) (hd:o.data=.fields vs)
    (hn:["enumerate","zip","dict_itemiterator","dict_reverseitemiterator","odict_iterator","itertools.zip_longest","itertools.pairwise"].contains n=false) (hQ:Q () s):wpAny M A (letOwnedTupleGo tg (.ref it) u) Q E s:=by
  unfold letOwnedTupleGo
  cases tg <;> first
    | exact wpAny_pure hQ
    | (cases u <;> first
        | exact wpAny_pure hQ
        | (refine wpAny_bind (wpAny_load ho ?_)
           rw [hc,hd]
           show wpAny M A (if (["enumerate","zip","dict_itemiterator","dict_reverseitemiterator","odict_iterator","itertools.zip_longest","itertools.pairwise"].contains n && vs[0]? == some (rawInt _))=true then _ else _) Q E s
           rw [if_neg (by intro h; rw [hn,Bool.false_and] at h; cases h)]
           exact wpAny_pure hQ))
def Itl (K:PySem.W.Frag) (a:Addr):It :=
 ⟨fun i H=>∃ xs x,SqL K H a xs∧xs[i]?=some x,fun i H x H'=>H'=H∧∀ xs,SqL K H a xs→xs[i]?=some x,fun i H=>∃ xs,SqL K H a xs∧xs.length≤i⟩
def Itr (lo:Int) (n:Nat):It:=⟨fun i _=>i < n,fun i H x H'=>H'=H∧x=.int (lo + i),fun i _=>n≤i⟩
theorem turn_list {P:Program} {w:World} {K:PySem.W.Frag} {tg:Expr} (a it:Addr):Turn P w K tg (Itl K a) [it] it (fun i h=>h.IsListIter it a i) where
 mem:=by simp
 obj:=fun i h st b hb=>by
  have e:b=it:=by simpa using hb
  subst e
  obtain ⟨o,e,c,d⟩:=st
  exact ⟨o,e,fun v z=>by rw [d] at z; cases z⟩
 keep:=fun i h h' st k=>st.at fun o e=>k it (by simp) o e
 item:=by
  intro X hP hw hK hc i pins s σ H E I hf st hg
  subst hP hw hK
  obtain ⟨xs,x,hq,hx⟩:=hg
  obtain ⟨its,rv,p,hz⟩:=I.list hq
  obtain ⟨u,hu,ru⟩:=rv.get hx
  obtain ⟨f0,f1,f2,f3,f4,f5⟩:=hf it (by simp)
  refine wpAny_pyNext_list_item st p.isList (x:=u) (by simpa using hu) fun h' st' sb=>?_
  have I1:Inv X pins σ H { s with heap:=h' }:=I.turned (t':=s.toks) (fun b o hb e=>(sb.2 b hb).trans e) f0 f1 f3 f4 f5
  obtain ⟨o,e,c,d⟩:=id st'
  exact ⟨u,rfl,go_of (s:={ s with heap:=h' }) e c d (by decide) ⟨x,H,I1,ru,⟨rfl,fun ys hy=>by rw [I.list_inj hy hq]; exact hx⟩,st',fun b hb=>(hf b hb).1⟩⟩
 done:=by
  intro X hP hw hK hc i pins s σ H E I hf st hg
  subst hP hw hK
  obtain ⟨xs,hq,hx⟩:=hg
  obtain ⟨its,rv,p,hz⟩:=I.list hq
  obtain ⟨f0,f1,f2,f3,f4,f5⟩:=hf it (by simp)
  have hl:=rv.length
  exact wpAny_pyNext_list_end (I.ok.hd hc) st p.isList (by simp; omega) fun h' eb=>⟨rfl,I.turned (t':=s.toks) (fun b o hb e=>eb b o hb e) f0 f1 f3 f4 f5⟩
 self:=fun _ _ _ _ _ st h=>wpAny_pyIter_listiter st h
theorem turn_range {P:Program} {w:World} {K:PySem.W.Frag} {tg:Expr} (it:Addr) (lo:Int) (n:Nat):Turn P w K tg (Itr lo n) [it] it (fun i h=>IsRangeIter h it (lo + (i:Nat) * 1) ((n:Int) - (i:Nat)) 1) where
 mem:=by simp
 obj:=fun i h st b hb=>by
  have e:b=it:=by simpa using hb
  subst e
  exact ⟨_,st,fun v z=>by
   have z':Data.fields _=Data.cell v:=z
   cases z'⟩
 keep:=fun i h h' st k=>k it (by simp) _ st
 item:=by
  intro X hP hw hK hc i pins s σ H E I hf st hg
  subst hP hw hK
  obtain ⟨f0,f1,f2,f3,f4,f5⟩:=hf it (by simp)
  have W:=Walks.range (prog:=X.prog) (w:=X.w) (I.ok.hd hc) it lo 1 n
  refine W.item i s _ _ hg st fun v h' tk hv st' kk=>?_
  obtain ⟨t,rfl⟩:=hv
  have I1:Inv X pins σ H { s with heap:=h',toks:=tk }:=I.turned (fun b o hb e=>kk b o (by simpa using hb) e) f0 f1 f3 f4 f5
  refine ⟨_,rfl,go_of (s:={ s with heap:=h',toks:=tk }) (n:="range_iterator") st' rfl rfl (by decide) ⟨.int (lo + i),H,I1,⟨t,?_⟩,⟨rfl,rfl⟩,st',fun b hb=>(hf b hb).1⟩⟩
  rw [Int.mul_one]
 done:=by
  intro X hP hw hK hc i pins s σ H E I hf st hg
  subst hP hw hK
  obtain ⟨f0,f1,f2,f3,f4,f5⟩:=hf it (by simp)
  exact wpAny_pyNext_range_end (I.ok.hd hc) st (by have:n≤i:=hg; omega) fun h' eb=>⟨rfl,I.turned (t':=s.toks) (fun b o hb e=>eb b o hb e) f0 f1 f3 f4 f5⟩
 self:=fun _ _ _ _ _ st h=>wpAny_pyIter_rangeiter st h
section
variable {X:Cx} {tg:Expr}
def iList (K:PySem.W.Frag) (tl:TE):TI:=fun σ H R=>tl σ H fun x H1=>∃ a,x=.ref a∧(∃ xs,SqL K H1 a xs)∧R (Itl K a) H1
theorem pi_list {l:Expr} {tl:TE} (hl:PE X l tl):PI X tg l (iList X.K tl):=by
 intro pins s σ H R I h
 refine thn (hl pins s σ H _ I h) fun v s1 ⟨x,H1,I1,r1,q1⟩=>?_
 obtain ⟨a,e,⟨xs,hq⟩,q⟩:=q1
 subst e
 cases r1
 obtain ⟨its,rv,p,hz⟩:=I1.list hq
 refine wpAny_pyIter_list p.isList ?_
 refine ⟨s1.heap.objs.size,[s1.heap.objs.size],_,_,H1,rfl,I1.kept (t':=s1.toks) fun b o e=>Heap.get?_push_of_some _ e,turn_list a _,⟨_,Heap.get?_push_size _ rfl,rfl,rfl⟩,fun b hb=>?_,q⟩
 have e:b=s1.heap.objs.size:=by simpa using hb
 subst e
 exact I1.fpOk (Nat.le_refl _) (I1.hok.fresh (Nat.le_refl _))
theorem range_it {pins:List (Addr×Obj)} {σ:St} {H:Hp} {s:Shared} {R:It→Hp→Prop} {E:Value→Shared→Prop} {lo hi:Int} {t u v:Tok} {tk:Nat} (I:Inv X pins σ H s) (h1:-(2 ^ 62)≤lo) (h2:lo < 2 ^ 62) (h3:-(2 ^ 62)≤hi) (h4:hi < 2 ^ 62)
  (q:R (Itr lo (hi - lo).toNat) H):wpAny (model X.prog X.w) X.A (pyIter (.ref s.heap.objs.size)) (PIE X pins σ tg R) E { s with heap:=s.heap.push { cls:=.type "range",data:=.fields #[.int lo t,.int hi u,.int 1 v] },toks:=tk }:=by
 refine wpAny_pyIter_range (IsRange.new ..) (small_one h1 h2 h3 h4) ?_
 have I1:Inv X pins σ H { s with heap:=s.heap.push { cls:=.type "range",data:=.fields #[.int lo t,.int hi u,.int 1 v] },toks:=tk }:=I.kept fun b o e=>Heap.get?_push_of_some _ e
 refine ⟨(s.heap.push { cls:=.type "range",data:=.fields #[.int lo t,.int hi u,.int 1 v] }).objs.size,[(s.heap.push { cls:=.type "range",data:=.fields #[.int lo t,.int hi u,.int 1 v] }).objs.size],_,_,H,rfl,
  I1.kept (t':=tk) fun b o e=>Heap.get?_push_of_some _ e,turn_range _ lo (hi - lo).toNat,?_,fun b hb=>?_,q⟩
 ·have e1:lo + ((0:Nat):Int) * 1=lo:=by simp
  have e2:(((hi - lo).toNat:Nat):Int) - ((0:Nat):Int)=Builtin.Range.rangeSize lo hi 1:=by rw [rangeSize_one]; split <;> omega
  show IsRangeIter _ _ (lo + ((0:Nat):Int) * 1) ((((hi - lo).toNat:Nat):Int) - ((0:Nat):Int)) 1
  rw [e1,e2]
  exact Heap.get?_push_size _ rfl
 ·have e:b=(s.heap.push { cls:=.type "range",data:=.fields #[.int lo t,.int hi u,.int 1 v] }).objs.size:=by simpa using hb
  subst e
  exact I1.fpOk (Nat.le_refl _) (I1.hok.fresh (Nat.le_refl _))
def iRng1 (ta:TA):TI:=fun σ H R=>ta σ H fun vs H1=>∃ j:Int,vs=[.int j]∧-(2 ^ 62)≤j∧j < 2 ^ 62∧R (Itr 0 j.toNat) H1
theorem pi_range1 {a:Expr} {ta:TA} {p pos:Pos} (hg:Gl X "range") (hm:X.mg "range"=none) (ha:PA X [a] ta) (hs:starEach [a] X.env=[(false,eval a X.env)]:=by rfl):PI X tg (.Call (.Name "range" p) [a] [] pos) (iRng1 ta):=by
 intro pins s σ H R I h
 refine Call_ (ld_blt I hg hm boot_range (PyProof.Rows.callWith_type1 (thn (ha pos pins s σ H _ I h) fun us s1 ⟨vs,H1,I1,r1,q1⟩=>?_) hs rfl))
 obtain ⟨j,e,q1,q2,q⟩:=q1
 subst e
 cases r1 with
 | cons r rr =>
  cases rr
  obtain ⟨t,rfl⟩:=r
  exact call_range_1 (range_it I1 (by omega) (by omega) q1 q2 (by simpa using q))
def tFor (wi:TI) (g:TG) (tb:TS):TS:=fun D σ H=>wi σ H fun J H1=>∃ W:Nat→Nat→St→Hp→Prop,(∃ m,W 0 m σ H1)∧∀ i m σ H,W i m σ H →
 (J.stop i H∧D.nx σ H)∨(J.go i H∧∃ N:St→Hp→Prop,(∀ σ' H',N σ' H'→∃ m',m' < m∧W (i + 1) m' σ' H')∧∀ x H',J.yld i H x H'→g x σ H' fun σ2 H2=>tb { D with nx:=N,ct:=N,bk:=D.nx } σ2 H2)
def pinsAt (fp:List Addr) (h:Heap):List (Addr×Obj):=fp.filterMap fun b=>(h.get? b).map fun o=>(b,o)
theorem mem_pinsAt {fp:List Addr} {h:Heap} {b:Addr} {o:Obj} (hb:b∈fp) (e:h.get? b=some o):(b,o)∈pinsAt fp h:=List.mem_filterMap.mpr ⟨b,hb,by rw [e]; rfl⟩
theorem of_pinsAt {fp:List Addr} {h:Heap} {p:Addr×Obj} (hp:p∈pinsAt fp h):p.1∈fp∧h.get? p.1=some p.2:=by
 obtain ⟨b,hb,e⟩:=List.mem_filterMap.mp hp
 cases q:h.get? b with
 | none=>rw [q] at e; cases e
 | some o =>
  rw [q] at e
  have e':(b,o)=p:=Option.some.inj e
  subst e'
  exact ⟨hb,q⟩
theorem Inv.pinned {pins:List (Addr×Obj)} {σ:St} {H:Hp} {s:Shared} {fp:List Addr} (I:Inv X pins σ H s) (hf:∀ b∈fp,FpOk X pins H b) (ho:∀ b∈fp,∃ o,s.heap.get? b=some o∧∀ v,o.data≠.cell v):Inv X (pins ++ pinsAt fp s.heap) σ H s :=
 I.pins_of fun p hp=>(List.mem_append.mp hp).elim (fun z=>I.pin p (List.mem_append_right _ z)) fun z=>by
  obtain ⟨hb,e⟩:=of_pinsAt z
  obtain ⟨f0,f1,f2,_⟩:=hf p.1 hb
  obtain ⟨o,e',d⟩:=ho p.1 hb
  rw [e] at e'; cases e'
  exact ⟨e,f0,f1,f2,d⟩
theorem Inv.unpinned {pins pl:List (Addr×Obj)} {σ:St} {H:Hp} {s:Shared} (I:Inv X (pins ++ pl) σ H s):Inv X pins σ H s:=I.pins_of fun p hp=>I.pin p (List.mem_append_right _ (List.mem_append_left _ hp))
theorem ps_for {iter:Expr} {body:List Stmt} {wi:TI} {g:TG} {tb:TS} {pos:Pos} (hp:PassesOwn (model X.prog X.w) X.A X.env X.xe) (hc:X.calm=true) (hi:PI X tg iter wi) (hg:PG X tg g) (hb:PSs X body tb)
  (hs:∀ x,foldedSetIterable iter X.env x=pure x:=by intro _; rfl):PS X (.For tg iter body [] pos) (tFor wi g tb):=by
 intro pins s σ H D I h
 refine wpAny_For (thn (hi pins s σ H _ I h) fun v s1 h1=>thn h1 fun itv s2 h2=>?_) hs
 obtain ⟨it,fp,tn,J,H2,e,I2,T,st2,f2,W,⟨m0,w0⟩,turn⟩:=h2
 subst e
 have stat:∀ {H':Hp},(∀ b∈fp,H' b=none)→∀ b∈fp,FpOk X pins H' b:=fun hn b hb=>⟨hn b hb,(f2 b hb).2⟩
 refine codeAny_forLoop_any (fun n s'=>∃ i σ' H',Inv X pins σ' H' s'∧tn i s'.heap∧(∀ b∈fp,H' b=none)∧W i n σ' H') ?_ m0 ⟨0,σ,H2,I2,st2,fun b hb=>(f2 b hb).1,w0⟩
 rintro n s3 ⟨i,σ3,H3,I3,st3,fr3,w3⟩
 rcases turn i n σ3 H3 w3 with ⟨stop,qn⟩ | ⟨go,N,hN,step⟩
 ·refine wpAny_passesOwn hp (thn (T.done X rfl rfl rfl hc i pins s3 σ3 H3 X.xe I3 (stat fr3) st3 stop) fun r s4 ⟨hr,I4⟩=>?_)
  subst hr
  exact wpAny_execs_nil ⟨σ3,H3,I4,qn⟩
 ·refine wpAny_passesOwn hp (thn (T.item X rfl rfl rfl hc i pins s3 σ3 H3 X.xe I3 (stat fr3) st3 go) fun r s4 ⟨u,hr,h4⟩=>?_)
  subst hr
  refine wpAny_passesOwn hp (thn h4 fun _ s5 ⟨x,H5,I5,r5,y5,st5,fr5⟩=>?_)
  have I5':=I5.pinned (stat fr5) (T.obj _ _ st5)
  refine wpAny_passesOwn hp (thn (hg _ s5 σ3 H5 x u _ I5' r5 (step x H5 y5)) fun _ s6 ⟨σ6,H6,I6,q6⟩=>?_)
  refine wpAny_passesOwn hp (thn (hb _ s6 σ6 H6 _ I6 q6) fun f s7 q7=>?_)
  have again:∀ {σ7:St} {H7:Hp},Inv X (pins ++ pinsAt fp s5.heap) σ7 H7 s7→N σ7 H7→∃ m,m < n∧∃ i σ' H',Inv X pins σ' H' s7∧tn i s7.heap∧(∀ b∈fp,H' b=none)∧W i m σ' H':=fun {σ7 H7} I7 n7=>by
   obtain ⟨m',hm,w7⟩:=hN σ7 H7 n7
   refine ⟨m',hm,i + 1,σ7,H7,I7.unpinned,T.keep _ _ _ st5 fun b hb o e=>(I7.pin (b,o) (List.mem_append_right _ (List.mem_append_right _ (mem_pinsAt hb e)))).1,fun b hb=>?_,w7⟩
   obtain ⟨o,e,d⟩:=T.obj _ _ st5 b hb
   exact (I7.pin (b,o) (List.mem_append_right _ (List.mem_append_right _ (mem_pinsAt hb e)))).2.1
  cases f with
  | next=>obtain ⟨σ7,H7,I7,n7⟩:=q7; exact again I7 n7
  | cont=>obtain ⟨σ7,H7,I7,n7⟩:=q7; exact again I7 n7
  | brk=>obtain ⟨σ7,H7,I7,q7⟩:=q7; exact ⟨σ7,H7,I7.unpinned,q7⟩
  | ret v=>obtain ⟨x7,σ7,H7,I7,r7,q7⟩:=q7; exact ⟨x7,σ7,H7,I7.unpinned,r7,q7⟩
end
theorem for_list {K:PySem.W.Frag} {a:Addr} {xs:List V} {g:TG} {tb:TS} {D:Ends} {σ:St} {H:Hp} (Pv:Nat→St→Hp→Prop) (h0:Pv 0 σ H) (hl:∀ i σ H,i≤xs.length→Pv i σ H→SqL K H a xs)
  (hs:∀ i x σ H,xs[i]?=some x→Pv i σ H→g x σ H fun σ2 H2=>tb { D with nx:=Pv (i + 1),ct:=Pv (i + 1),bk:=D.nx } σ2 H2) (hd:∀ σ H,Pv xs.length σ H→D.nx σ H) :
  ∃ W:Nat→Nat→St→Hp→Prop,(∃ m,W 0 m σ H)∧∀ i m σ H,W i m σ H →
   ((Itl K a).stop i H∧D.nx σ H)∨((Itl K a).go i H∧∃ N:St→Hp→Prop,(∀ σ' H',N σ' H'→∃ m',m' < m∧W (i + 1) m' σ' H')∧∀ x H',(Itl K a).yld i H x H'→g x σ H' fun σ2 H2=>tb { D with nx:=N,ct:=N,bk:=D.nx } σ2 H2):=by
 refine ⟨fun i m σ H=>m=xs.length - i∧i≤xs.length∧Pv i σ H,⟨xs.length,by simp,Nat.zero_le _,h0⟩,?_⟩
 rintro i m σ H ⟨rfl,hi,p⟩
 have q:=hl i σ H hi p
 by_cases hlt:i < xs.length
 ·refine .inr ⟨⟨xs,xs[i],q,by simp [hlt]⟩,Pv (i + 1),fun σ' H' p'=>⟨xs.length - (i + 1),by omega,rfl,hlt,p'⟩,fun x H' y=>?_⟩
  obtain ⟨e,y⟩:=y
  subst e
  exact hs i x σ _ (y xs q) p
 ·have e:i=xs.length:=by omega
  subst e
  exact .inl ⟨⟨xs,q,Nat.le_refl _⟩,hd σ H p⟩
theorem for_range {lo:Int} {n:Nat} {g:TG} {tb:TS} {D:Ends} {σ:St} {H:Hp} (Pv:Nat→St→Hp→Prop) (h0:Pv 0 σ H)
  (hs:∀ i σ H,i < n→Pv i σ H→g (.int (lo + i)) σ H fun σ2 H2=>tb { D with nx:=Pv (i + 1),ct:=Pv (i + 1),bk:=D.nx } σ2 H2) (hd:∀ σ H,Pv n σ H→D.nx σ H) :
  ∃ W:Nat→Nat→St→Hp→Prop,(∃ m,W 0 m σ H)∧∀ i m σ H,W i m σ H →
   ((Itr lo n).stop i H∧D.nx σ H)∨((Itr lo n).go i H∧∃ N:St→Hp→Prop,(∀ σ' H',N σ' H'→∃ m',m' < m∧W (i + 1) m' σ' H')∧∀ x H',(Itr lo n).yld i H x H'→g x σ H' fun σ2 H2=>tb { D with nx:=N,ct:=N,bk:=D.nx } σ2 H2):=by
 refine ⟨fun i m σ H=>m=n - i∧i≤n∧Pv i σ H,⟨n,by simp,Nat.zero_le _,h0⟩,?_⟩
 rintro i m σ H ⟨rfl,hi,p⟩
 by_cases hlt:i < n
 ·refine .inr ⟨hlt,Pv (i + 1),fun σ' H' p'=>⟨n - (i + 1),by omega,rfl,hlt,p'⟩,fun x H' y=>?_⟩
  obtain ⟨e,y⟩:=y
  subst e y
  exact hs i σ _ hlt p
 ·have e:i=n:=by omega
  subst e
  exact .inl ⟨Nat.le_refl _,hd σ H p⟩
abbrev R2:=V→V→Hp→VK→Prop
def OpR (X:Cx) (f:Value→Value→Sem Value) (r:R2):Prop :=
 ∀ (pins:List (Addr×Obj)) (s:Shared) (σ:St) (H:Hp) (x y:V) (v u:Value) (Q:VK),Inv X pins σ H s→RelV x v→RelV y u→r x y H Q →
  wpAny (model X.prog X.w) X.A (f v u) (EP X pins σ Q) X.xe s
def UnR (X:Cx) (f:Value→Sem Value) (r:V→Hp→VK→Prop):Prop :=
 ∀ (pins:List (Addr×Obj)) (s:Shared) (σ:St) (H:Hp) (x:V) (v:Value) (Q:VK),Inv X pins σ H s→RelV x v→r x H Q →
  wpAny (model X.prog X.w) X.A (f v) (EP X pins σ Q) X.xe s
def CallR (X:Cx) (f:Value) (r:List V→Hp→VK→Prop):Prop :=
 ∀ (pins:List (Addr×Obj)) (s:Shared) (σ:St) (H:Hp) (xs:List V) (us:List Value) (Q:VK),Inv X pins σ H s→Vals xs us→r xs H Q →
  wpAny (model X.prog X.w) X.A (call f us) (EP X pins σ Q) X.xe s
def tOp (r:R2) (ta tb:TE):TE:=fun σ H Q=>ta σ H fun x H1=>tb σ H1 fun y H2=>r x y H2 Q
def tUn (r:V→Hp→VK→Prop) (ta:TE):TE:=fun σ H Q=>ta σ H fun x H1=>r x H1 Q
def rI (C:Int→Int→Prop) (g:Int→Int→V):R2:=fun x y H Q=>∃ i j,x=.int i∧y=.int j∧C i j∧Q (g i j) H
def rI0 (g:Int→Int→V):R2:=fun x y H Q=>∃ i j,x=.int i∧y=.int j∧Q (g i j) H
def rU (g:Int→V):V→Hp→VK→Prop:=fun x H Q=>∃ i,x=.int i∧Q (g i) H
section
variable {X:Cx} {a b c:Expr} {ta tb tc:TE} {pos:Pos}
theorem binT (ha:PE X a ta) (hb:PE X b tb) {pins:List (Addr×Obj)} {s:Shared} {σ:St} {H:Hp} {R:V→V→Hp→Prop} (I:Inv X pins σ H s)
  (h:ta σ H fun x H1=>tb σ H1 fun y H2=>R x y H2) {Q:Value→Shared→Prop} {f:Value→Value→Sem Value}
  (hf:∀ v u s2 x y H2,Inv X pins σ H2 s2→RelV x v→RelV y u→R x y H2→wpAny (model X.prog X.w) X.A (f v u) Q X.xe s2) :
  wpAny (model X.prog X.w) X.A (eval a X.env) (fun v s₁=>wpAny (model X.prog X.w) X.A (eval b X.env) (fun u s₂=>wpAny (model X.prog X.w) X.A (f v u) Q X.xe s₂) X.xe s₁) X.xe s:=by
 refine thn (ha pins s σ H _ I h) fun v s1 ⟨x,H1,I1,r1,q1⟩=>?_
 refine thn (hb pins s1 σ H1 _ I1 q1) fun u s2 ⟨y,H2,I2,r2,q2⟩=>?_
 exact hf v u s2 x y H2 I2 r1 r2 q2
theorem pe_op {op:Operator} {r:R2} (ho:OpR X (binaryOp op) r) (ha:PE X a ta) (hb:PE X b tb):PE X (.BinOp a op b pos) (tOp r ta tb):=by
 intro pins s σ H Q I h
 exact wpAny_BinOp (binT ha hb I h fun v u s2 x y H2 I2 rx ry q=>ho pins s2 σ H2 x y v u Q I2 rx ry q)
theorem pe_un {op:UnaryOp} {r:V→Hp→VK→Prop} (ho:UnR X (unaryOp op) r) (ha:PE X a ta):PE X (.UnaryOp op a pos) (tUn r ta):=by
 intro pins s σ H Q I h
 exact UnaryOp_ (thn (ha pins s σ H _ I h) fun v s1 ⟨x,H1,I1,r1,q1⟩=>ho pins s1 σ H1 x v Q I1 r1 q1)
theorem opI {f:Value→Value→Sem Value} {C:Int→Int→Prop} {g:Int→Int→Int}
  (rule:∀ (i j:Int) (t u:Tok) (s:Shared) (Q:Value→Shared→Prop) (E:Value→Shared→Prop),C i j→Q (.int (g i j) s.toks) { s with toks:=s.toks + 1 }→wpAny (model X.prog X.w) X.A (f (.int i t) (.int j u)) Q E s) :
  OpR X f (rI C fun i j=>.int (g i j)):=by
 intro pins s σ H x y v u Q I rx ry h
 obtain ⟨i,j,rfl,rfl,hc,q⟩:=h
 obtain ⟨t,rfl⟩:=rx
 obtain ⟨t',rfl⟩:=ry
 exact rule i j t t' s _ _ hc ⟨.int (g i j),H,I.tok _,⟨_,rfl⟩,q⟩
theorem opI0 {f:Value→Value→Sem Value} {g:Int→Int→Int}
  (rule:∀ (i j:Int) (t u:Tok) (s:Shared) (Q:Value→Shared→Prop) (E:Value→Shared→Prop),Q (.int (g i j) s.toks) { s with toks:=s.toks + 1 }→wpAny (model X.prog X.w) X.A (f (.int i t) (.int j u)) Q E s) :
  OpR X f (rI0 fun i j=>.int (g i j)):=by
 intro pins s σ H x y v u Q I rx ry h
 obtain ⟨i,j,rfl,rfl,q⟩:=h
 obtain ⟨t,rfl⟩:=rx
 obtain ⟨t',rfl⟩:=ry
 exact rule i j t t' s _ _ ⟨.int (g i j),H,I.tok _,⟨_,rfl⟩,q⟩
theorem opB0 {f:Value→Value→Sem Value} {g:Int→Int→Bool}
  (rule:∀ (i j:Int) (t u:Tok) (s:Shared) (Q:Value→Shared→Prop) (E:Value→Shared→Prop),Q (.bool (g i j)) s→wpAny (model X.prog X.w) X.A (f (.int i t) (.int j u)) Q E s) :
  OpR X f (rI0 fun i j=>.bl (g i j)):=by
 intro pins s σ H x y v u Q I rx ry h
 obtain ⟨i,j,rfl,rfl,q⟩:=h
 obtain ⟨t,rfl⟩:=rx
 obtain ⟨t',rfl⟩:=ry
 exact rule i j t t' s _ _ ⟨.bl (g i j),H,I,rfl,q⟩
def CDiv (i j:Int):Prop:=0 < j∧j < 1073741824
def CPow (i j:Int):Prop:=0≤j∧j≤1000000∧i.natAbs < 2 ^ 64
def CMul (i j:Int):Prop:=(-(2 ^ 64) < i∧i < 2 ^ 64)∨(-(2 ^ 64) < j∧j < 2 ^ 64)
theorem CMul.ok {i j:Int} (h:CMul i j):IntMulOk i j:=by
 rcases h with ⟨h1,h2⟩ | ⟨h1,h2⟩
 ·exact .of_left (intBits_le_64 h1 h2)
 ·exact .of_right (intBits_le_64 h1 h2)
theorem op_add:OpR X (binaryOp .Add) (rI0 fun i j=>.int (i + j)):=opI0 fun _ _ _ _ _ _ _ q=>add_int q
theorem op_sub:OpR X (binaryOp .Sub) (rI0 fun i j=>.int (i - j)):=opI0 fun _ _ _ _ _ _ _ q=>sub_int q
theorem op_mul:OpR X (binaryOp .Mult) (rI CMul fun i j=>.int (i * j)):=opI fun _ _ _ _ _ _ _ hc q=>mul_int q hc.ok
theorem op_fdiv:OpR X (binaryOp .FloorDiv) (rI CDiv fun i j=>.int (i / j)):=opI fun i j _ _ _ _ _ hc q=>by
 have h1:(0:Int) < j:=hc.1
 have h2:j < 1073741824:=hc.2
 exact floordiv_int (by omega) (by rw [Int.fdiv_eq_ediv_of_nonneg i (by omega)]; exact q) (.inl (PyProof.noPylong_small (by omega)))
theorem op_mod:OpR X (binaryOp .Mod) (rI (fun _ j=>0 < j) fun i j=>.int (i % j)):=opI fun i j _ _ _ _ _ hc q=>by
 have h1:(0:Int) < j:=hc
 exact mod_int' (by omega) (by rw [Int.fmod_eq_emod_of_nonneg i (by omega)]; exact q)
theorem op_pow:OpR X (binaryOp .Pow) (rI CPow fun i j=>.int (i ^ j.toNat)):=opI fun _ _ _ _ _ _ _ hc q=>pow_int_small hc.1 hc.2.1 hc.2.2 q
theorem unI {f:Value→Sem Value} {g:Int→Int}
  (rule:∀ (i:Int) (t:Tok) (s:Shared) (Q:Value→Shared→Prop) (E:Value→Shared→Prop),Q (.int (g i) s.toks) { s with toks:=s.toks + 1 }→wpAny (model X.prog X.w) X.A (f (.int i t)) Q E s) :
  UnR X f (rU fun i=>.int (g i)):=by
 intro pins s σ H x v Q I rx h
 obtain ⟨i,rfl,q⟩:=h
 obtain ⟨t,rfl⟩:=rx
 exact rule i t s _ _ ⟨.int (g i),H,I.tok _,⟨_,rfl⟩,q⟩
theorem un_neg:UnR X (unaryOp .USub) (rU fun i=>.int (-i)):=unI fun _ _ _ _ _ q=>neg_int q
end
def scal:V→V→Bool
 | .non,.non=>true | .non,.int _=>true | .int _,.non=>true | .non,.bl _=>true | .bl _,.non=>true | .non,.str _=>true | .str _,.non=>true
 | .int _,.int _=>true | .bl _,.bl _=>true | .str _,.str _=>true | .byt _,.byt _=>true
 | .int _,.str _=>true | .str _,.int _=>true | .bl _,.str _=>true | .str _,.bl _=>true
 | _,_=>false
def rEq:R2:=fun x y H Q=>scal x y=true∧Q (.bl (decide (x=y))) H
def rNe:R2:=fun x y H Q=>scal x y=true∧Q (.bl (!decide (x=y))) H
theorem dec_int {i j:Int}:decide (V.int i=V.int j)=(i == j):=by
 rw [Bool.eq_iff_iff]
 simp
theorem dec_bl {i j:Bool}:decide (V.bl i=V.bl j)=(i == j):=by
 rw [Bool.eq_iff_iff]
 simp
theorem dec_str {i j:Str}:decide (V.str i=V.str j)=(i == j):=by
 rw [Bool.eq_iff_iff]
 simp
theorem dec_byt {i j:Array UInt8}:decide (V.byt i=V.byt j)=(i.toList == j.toList):=by
 rw [Bool.eq_iff_iff]
 cases i
 cases j
 simp
section
variable {X:Cx} {a b c:Expr} {ta tb tc:TE} {pos:Pos}
theorem fin_bl {pins:List (Addr×Obj)} {σ:St} {H:Hp} {s:Shared} {Q:VK} {k k':Bool} (I:Inv X pins σ H s) (q:Q (.bl k) H) (e:k=k'):EP X pins σ Q (.bool k') s:=by
 subst e
 exact ⟨.bl k,H,I,rfl,q⟩
theorem op_eq:OpR X (compareOp .Eq) rEq:=by
 intro pins s σ H x y v u Q I rx ry h
 obtain ⟨hs,q⟩:=h
 cases x with
 | non =>
  cases rx
  cases y with
  | non=>cases ry; exact PySem.EqNone.eq_none_none (fin_bl I q (by simp))
  | bl j=>cases ry; exact PySem.EqNone.eq_none_bool (fin_bl I q (by simp))
  | int j=>obtain ⟨t',rfl⟩:=ry; exact PySem.EqNone.eq_none_int (fin_bl I q (by simp))
  | str j=>obtain ⟨t',rfl⟩:=ry; exact PySem.EqNone.eq_none_str (fin_bl I q (by simp))
  | _=>exact absurd (show false=true from hs) Bool.false_ne_true
 | bl i =>
  cases rx
  cases y with
  | non=>cases ry; exact PySem.EqNone.eq_bool_none (fin_bl I q (by simp))
  | bl j=>cases ry; exact eq_bool (fin_bl I q dec_bl)
  | str j=>obtain ⟨t',rfl⟩:=ry; exact PySem.EqMixed.eq_bool_str (fin_bl I q (by simp))
  | _=>exact absurd (show false=true from hs) Bool.false_ne_true
 | int i =>
  obtain ⟨t,rfl⟩:=rx
  cases y with
  | non=>cases ry; exact PySem.EqNone.eq_int_none (fin_bl I q (by simp))
  | int j=>obtain ⟨t',rfl⟩:=ry; exact eq_int (fin_bl I q dec_int)
  | str j=>obtain ⟨t',rfl⟩:=ry; exact PySem.EqMixed.eq_int_str (fin_bl I q (by simp))
  | _=>exact absurd (show false=true from hs) Bool.false_ne_true
 | str i =>
  obtain ⟨t,rfl⟩:=rx
  cases y with
  | non=>cases ry; exact PySem.EqNone.eq_str_none (fin_bl I q (by simp))
  | bl j=>cases ry; exact PySem.EqMixed.eq_str_bool (fin_bl I q (by simp))
  | int j=>obtain ⟨t',rfl⟩:=ry; exact PySem.EqMixed.eq_str_int (fin_bl I q (by simp))
  | str j=>obtain ⟨t',rfl⟩:=ry; exact eq_str (fin_bl I q dec_str)
  | _=>exact absurd (show false=true from hs) Bool.false_ne_true
 | byt i =>
  obtain ⟨t,rfl⟩:=rx
  cases y with
  | byt j=>obtain ⟨t',rfl⟩:=ry; exact PySem.W.eq_bytes (fin_bl I q dec_byt)
  | _=>exact absurd (show false=true from hs) Bool.false_ne_true
 | _=>cases y <;> exact absurd (show false=true from hs) Bool.false_ne_true
theorem op_ne:OpR X (compareOp .NotEq) rNe:=by
 intro pins s σ H x y v u Q I rx ry h
 obtain ⟨hs,q⟩:=h
 cases x with
 | non =>
  cases rx
  cases y with
  | non=>cases ry; exact PySem.EqNone.ne_none_none (fin_bl I q (by simp))
  | bl j=>cases ry; exact PySem.EqNone.ne_none_bool (fin_bl I q (by simp))
  | int j=>obtain ⟨t',rfl⟩:=ry; exact PySem.EqNone.ne_none_int (fin_bl I q (by simp))
  | str j=>obtain ⟨t',rfl⟩:=ry; exact PySem.EqNone.ne_none_str (fin_bl I q (by simp))
  | _=>exact absurd (show false=true from hs) Bool.false_ne_true
 | bl i =>
  cases rx
  cases y with
  | non=>cases ry; exact PySem.EqNone.ne_bool_none (fin_bl I q (by simp))
  | bl j=>cases ry; exact ne_bool (fin_bl I q (congrArg not dec_bl))
  | str j=>obtain ⟨t',rfl⟩:=ry; exact PySem.EqMixed.ne_bool_str (fin_bl I q (by simp))
  | _=>exact absurd (show false=true from hs) Bool.false_ne_true
 | int i =>
  obtain ⟨t,rfl⟩:=rx
  cases y with
  | non=>cases ry; exact PySem.EqNone.ne_int_none (fin_bl I q (by simp))
  | int j=>obtain ⟨t',rfl⟩:=ry; exact ne_int (fin_bl I q (congrArg not dec_int))
  | str j=>obtain ⟨t',rfl⟩:=ry; exact PySem.EqMixed.ne_int_str (fin_bl I q (by simp))
  | _=>exact absurd (show false=true from hs) Bool.false_ne_true
 | str i =>
  obtain ⟨t,rfl⟩:=rx
  cases y with
  | non=>cases ry; exact PySem.EqNone.ne_str_none (fin_bl I q (by simp))
  | bl j=>cases ry; exact PySem.EqMixed.ne_str_bool (fin_bl I q (by simp))
  | int j=>obtain ⟨t',rfl⟩:=ry; exact PySem.EqMixed.ne_str_int (fin_bl I q (by simp))
  | str j=>obtain ⟨t',rfl⟩:=ry; exact ne_str (fin_bl I q (congrArg not dec_str))
  | _=>exact absurd (show false=true from hs) Bool.false_ne_true
 | byt i =>
  obtain ⟨t,rfl⟩:=rx
  cases y with
  | byt j=>obtain ⟨t',rfl⟩:=ry; exact PySem.W.ne_bytes (fin_bl I q (congrArg not dec_byt))
  | _=>exact absurd (show false=true from hs) Bool.false_ne_true
 | _=>cases y <;> exact absurd (show false=true from hs) Bool.false_ne_true
theorem op_lt:OpR X (compareOp .Lt) (rI0 fun i j=>.bl (decide (i < j))):=opB0 fun _ _ _ _ _ _ _ q=>lt_int q
theorem op_le:OpR X (compareOp .LtE) (rI0 fun i j=>.bl (decide (i≤j))):=opB0 fun _ _ _ _ _ _ _ q=>le_int q
theorem op_gt:OpR X (compareOp .Gt) (rI0 fun i j=>.bl (decide (j < i))):=opB0 fun _ _ _ _ _ _ _ q=>gt_int q
theorem op_ge:OpR X (compareOp .GtE) (rI0 fun i j=>.bl (decide (j≤i))):=opB0 fun _ _ _ _ _ _ _ q=>ge_int q
theorem op_isN:OpR X (compareOp .Is) (fun x y H Q=>y=.non∧Q (.bl (decide (x=.non))) H):=by
 intro pins s σ H x y v u Q I rx ry h
 obtain ⟨rfl,q⟩:=h
 cases ry
 refine is_none_gen (fin_bl I q ?_)
 cases x <;> first
  | (cases rx; rfl)
  | (obtain ⟨t,rfl⟩:=rx; rfl)
theorem nomark (b:Expr) {op:CmpOp} (h:op≠.In:=by decide) (h2:op≠.NotIn:=by decide):behindInMarks op b=false:=by
 have e1:(op == CmpOp.In)=false:=by cases op <;> first | rfl | exact absurd rfl h
 have e2:(op == CmpOp.NotIn)=false:=by cases op <;> first | rfl | exact absurd rfl h2
 cases b <;> simp [behindInMarks,e1,e2]
theorem pe_cmpR {op:CmpOp} {r:R2} (ho:OpR X (compareOp op) r) (ha:PE X a ta) (hb:PE X b tb) (hm:behindInMarks op b=false):PE X (.Compare a [op] [b] pos) (tOp r ta tb):=by
 intro pins s σ H Q I h
 exact wpAny_Compare1 (binT ha hb I h fun v u s2 x y H2 I2 rx ry q=>ho pins s2 σ H2 x y v u Q I2 rx ry q) hm
def tTest (t:TE):TT:=fun σ H Q=>t σ H fun x H'=>∃ k,x=.bl k∧Q k H'
theorem pt_cmpR {op:CmpOp} {r:R2} (ho:OpR X (compareOp op) r) (ha:PE X a ta) (hb:PE X b tb) (hm:behindInMarks op b=false):PT X (.Compare a [op] [b] pos) (tTest (tOp r ta tb)):=by
 intro pins s σ H Q I h
 refine wpAny_isTrue_Compare1 (thn (ha pins s σ H _ I h) fun v s1 ⟨x,H1,I1,r1,q1⟩=>thn (hb pins s1 σ H1 _ I1 q1) fun u s2 ⟨y,H2,I2,r2,q2⟩ =>
  thn (ho pins s2 σ H2 x y v u _ I2 r1 r2 q2) fun c s3 ⟨z,H3,I3,r3,k,e,q3⟩=>?_) hm
 subst e
 cases r3
 exact wpAny_truthy_bool ⟨H3,I3,q3⟩
def tChain (r r':R2) (ta tb tc:TE):TE:=fun σ H Q=>ta σ H fun x H1=>tb σ H1 fun y H2=>r x y H2 fun z H3=>∃ k,z=.bl k ∧
 (if k=true then tc σ H3 fun w' H4=>r' y w' H4 Q else Q (.bl false) H3)
theorem pe_chain {op op':CmpOp} {r r':R2} (ho:OpR X (compareOp op) r) (ho':OpR X (compareOp op') r') (ha:PE X a ta) (hb:PE X b tb) (hc:PE X c tc)
  (hm:lastMarks [op,op'] [b,c]=false:=by with_unfolding_all rfl):PE X (.Compare a [op,op'] [b,c] pos) (tChain r r' ta tb tc):=by
 intro pins s σ H Q I h
 refine Compare_chain (thn (ha pins s σ H _ I h) fun v s1 ⟨x,H1,I1,r1,q1⟩=>chain_link (thn (hb pins s1 σ H1 _ I1 q1) fun u s2 ⟨y,H2,I2,r2,q2⟩ =>
  thn (ho pins s2 σ H2 x y v u _ I2 r1 r2 q2) fun d s3 ⟨z,H3,I3,r3,k,e,q3⟩=>?_)) hm
 subst e
 cases r3
 refine wpAny_truthy_bool ?_
 cases k with
 | false=>exact ite_ff ⟨.bl false,H3,I3,rfl,q3⟩
 | true=>exact ite_tt (chain_last (thn (hc pins s3 σ H3 _ I3 q3) fun w' s4 ⟨z',H4,I4,r4,q4⟩=>ho' pins s4 σ H4 y z' u w' Q I4 r2 r4 q4))
theorem line63:(sizeLine:Nat) < 2 ^ 63:=by rw [sizeLine_eq]; decide
theorem vals1 {x:V} {us:List Value} (r:Vals [x] us):∃ u,us=[u]∧RelV x u:=by
 cases r with
 | cons r1 r2=>cases r2; exact ⟨_,rfl,r1⟩
theorem vals2 {x y:V} {us:List Value} (r:Vals [x,y] us):∃ u w',us=[u,w']∧RelV x u∧RelV y w':=by
 cases r with
 | cons r1 r2 =>
  cases r2 with
  | cons r3 r4=>cases r4; exact ⟨_,_,rfl,r1,r3⟩
theorem call_max2 (hc:X.calm=true):CallR X (.builtin "max") (fun xs H Q=>∃ i j,xs=[.int i,.int j]∧Q (.int (if j > i then j else i)) H):=by
 intro pins s σ H xs us Q I r h
 obtain ⟨i,j,rfl,q⟩:=h
 obtain ⟨u,w',rfl,⟨t,rfl⟩,⟨t',rfl⟩⟩:=vals2 r
 refine max_two_ints (I.ok.hd hc) fun h' tk k=>⟨_,H,I.kept k,?_,q⟩
 by_cases hj:j > i
 ·rw [if_pos hj,if_pos hj]; exact ⟨_,rfl⟩
 ·rw [if_neg hj,if_neg hj]; exact ⟨_,rfl⟩
theorem call_min2 (hc:X.calm=true):CallR X (.builtin "min") (fun xs H Q=>∃ i j,xs=[.int i,.int j]∧Q (.int (if j < i then j else i)) H):=by
 intro pins s σ H xs us Q I r h
 obtain ⟨i,j,rfl,q⟩:=h
 obtain ⟨u,w',rfl,⟨t,rfl⟩,⟨t',rfl⟩⟩:=vals2 r
 refine min_two_ints (I.ok.hd hc) fun h' tk k=>⟨_,H,I.kept k,?_,q⟩
 by_cases hj:j < i
 ·rw [if_pos hj,if_pos hj]; exact ⟨_,rfl⟩
 ·rw [if_neg hj,if_neg hj]; exact ⟨_,rfl⟩
end
structure ObjM (h:Heap) (x dx C:Addr) (mA:Str→Option Value):Prop where
 obj:h.get? x=some (PySem.W.instObj C dx)
 ns:h.Ns1 dx mA
 ne:dx≠x
theorem lookIn_ns {h:Heap} {dx:Addr} {mA:Str→Option Value} (n:h.Ns1 dx mA):∃ od,h.get? dx=some od∧∀ name,PySem.W.lookIn name od=some (mA name):=by
 obtain ⟨o,es,ep,ho,hd,hk,_,hm⟩:=n
 refine ⟨o,ho,fun name=>?_⟩
 have e:=hm name
 unfold nsFind findBy at e
 rw [← Array.find?_toList] at e
 unfold PySem.W.lookIn
 rw [hd]
 dsimp only
 split
 ·rename_i y q
  rw [q] at e
  exact congrArg some e
 ·rename_i q
  rw [q] at e
  have a:es.toList.any (·.refKey)=false:=by
   rw [List.any_eq_false]
   intro y hy
   obtain ⟨z,t,hkey⟩:=hk y (Array.mem_toList_iff.mp hy)
   simp [DictEntry.refKey,hkey]
  have a':¬ es.toList.any (·.refKey)=true:=by rw [a]; exact Bool.false_ne_true
  rw [if_neg a']
  exact congrArg some e
theorem ObjM.look {h:Heap} {x dx C:Addr} {mA:Str→Option Value} (I:ObjM h x dx C mA):∃ od,PySem.W.InstAt h x (PySem.W.instObj C dx) C (some od)∧∀ name,PySem.W.lookIn name od=some (mA name) :=
 let ⟨od,ho,hl⟩:=lookIn_ns I.ns
 ⟨od,⟨I.obj,rfl,rfl,ho⟩,hl⟩
section
variable {prog:Program} {w:World} {A:Around} {E:Value→Shared→Prop} {s:Shared} {K:PySem.W.Frag} {x dx C f:Addr} {mA:Str→Option Value} {name:Str} {v:Value}
theorem get_map {expr:Bool} {Q:Value→Shared→Prop} (X:K.In s.heap) (I:ObjM s.heap x dx C mA) (hg:PySem.W.plainGet K C name=true) (hh:PySem.W.hasDictIn K C=true)
  (ha:PySem.W.findIn K (.ref C) name=some none) (hv:mA name=some v) (hv':PySem.W.handedIn v=true) (h:Q v { s with toks:=s.toks + 1 }) :
  wpAny (model prog w) A (getAttr (.ref x) name expr) Q E s:=by
 obtain ⟨od,J,hl⟩:=I.look
 exact PySem.W.get_value X J (PySem.W.plainGet_of hg).1 (PySem.W.findObj_own hh ha rfl (by rw [hl,hv])) hv' h
theorem get_meth {pl:Sem Bool} {Q:Value×List Value→Shared→Prop} (X:K.In s.heap) (I:ObjM s.heap x dx C mA) (hg:PySem.W.plainGet K C name=true)
  (hf:PySem.W.findIn K (.ref C) name=some (some (.ref f))) (ht:PySem.W.isFn K (.ref f)=true) (hv:mA name=none) (h:Q (.ref f,[.ref x]) s) :
  wpAny (model prog w) A (getMethod (.ref x) name pl) Q E s:=by
 obtain ⟨od,J,hl⟩:=I.look
 exact PySem.W.method_fn X J (PySem.W.plainGet_of hg).1 (PySem.W.plainGet_of hg).2 hf (beq_iff_eq.mp ht) (by show (PySem.W.lookIn name od).map (·.isSome)=some false; rw [hl,hv]; rfl) h
theorem set_map {ns:List Str} {Q:Unit→Shared→Prop} (X:K.In s.heap) (I:ObjM s.heap x dx C mA)
  (hs:PySem.W.findIn K (.ref C) "__setattr__"=some (some (.builtin "object.__setattr__"))) (hp:PySem.W.plainOver K C=true) (ht:PySem.W.takerIn K C name=some none) (hh:PySem.W.hasDictIn K C=true)
  (hw:PySem.Within mA ns) (hsz:ns.length≤sizeLine)
  (h:∀ h',ObjM h' x dx C (fun y=>if y=name then some v else mA y)→Heap.SameBut dx s.heap h'→Q () { s with heap:=h',toks:=s.toks + 2 }) :
  wpAny (model prog w) A (setAttr (.ref x) name v) Q E s:=by
 obtain ⟨od,J,hl⟩:=I.look
 refine PySem.W.set_plain X J hs (PySem.W.osa_open (s:={ s with toks:=s.toks + 1 }) (r:=none) X J hp ht fun b=>?_)
 obtain ⟨cd,hc,hd'⟩:=PySem.W.any_some hh
 have hx:s.heap.get? x=some ⟨.ref C,some dx,.plain,#[]⟩:=I.obj
 refine wpAny_bind (wpAny_pure (wpAny_bind (wpAny_bind (wpAny_loadPart hx (wpAny_bind (PySem.W.Looks.here (s:={ s with toks:=s.toks + 1 }) (PySem.W.looks_clsIn X hc) ?_))))))
 rw [hd']
 refine wpAny_pure (a:=some dx) (wpAny_bind (wpAny_pure (wpAny_bind ?_)))
 refine wpAny_nsSet1 (s:={ s with toks:=s.toks + 1 }) I.ns fun h' hn2 hs2=>?_
 obtain ⟨oD,esD,epD,hoD,hdD,hcD⟩:=hn2.count (PySem.Within.cons name v hw)
 refine wpAny_bind (wpAny_lookBehind hoD (by rw [hdD]; exact pastItsLine_dict (Nat.le_trans hcD (by rw [List.length_cons]; omega))) ?_)
 exact wpAny_pure (h _ ⟨(hs2.2 _ (Ne.symm I.ne)).trans I.obj,hn2,I.ne⟩ hs2)
theorem make_map {R:Result→Shared→Prop} {vs:List Value} {kw:List (Str×Value)} (X:K.In s.heap) (hm:PySem.W.makesIn K C=true)
  (hi:PySem.W.findIn K (.ref C) "__init__"=some (some (.ref f))) (hf:PySem.W.typeIn K (.ref f)=some (.type "function"))
  (h:codeAny (model prog w) (A.under (.builtin "type.__call__" ⟨.ref C :: vs,kw⟩)) (.call (.ref f) ⟨.ref (s.heap.objs.size + 1) :: vs,kw⟩) (PySem.W.InitBack (s.heap.objs.size + 1) R)
   { s with heap:=(s.heap.push PySem.W.emptyDict).push (PySem.W.instObj C s.heap.objs.size) }) :
  codeAny (model prog w) A (.call (.ref C) ⟨vs,kw⟩) R s:=by
 obtain ⟨hh,g,d,t,os⟩:=s
 exact PySem.W.make_core (PySem.W.makes_of X hm) (PySem.W.looks_findIn X hi) (fun self=>PySem.W.bind_fn X self hf) (.inl rfl) h
end
def putF (f:Str) (v:V):List (Str×V)→List (Str×V)
 | []=>[(f,v)]
 | (g,x) :: r=>if g=f then (g,v) :: r else (g,x) :: putF f v r
theorem lookup_putF (f g:Str) (v:V):∀ fs:List (Str×V),(putF f v fs).lookup g=if g=f then some v else fs.lookup g
 | []=>by
  show List.lookup g [(f,v)]=_
  by_cases h:g=f
  ·have hb:(g == f)=true:=beq_iff_eq.mpr h
   simp only [List.lookup,hb,if_pos h]
  ·have hb:(g == f)=false:=beq_eq_false_iff_ne.mpr h
   simp only [List.lookup,hb,if_neg h]
 | (k,x) :: r=>by
  have ih:=lookup_putF f g v r
  rw [show putF f v ((k,x) :: r)=(if k=f then (k,v) :: r else (k,x) :: putF f v r) from rfl]
  by_cases hk:k=f
  ·rw [if_pos hk]
   by_cases h:g=k
   ·have hb:(g == k)=true:=beq_iff_eq.mpr h
    simp only [List.lookup,hb,if_pos (h.trans hk)]
   ·have hb:(g == k)=false:=beq_eq_false_iff_ne.mpr h
    simp only [List.lookup,hb,if_neg (fun e:g=f=>h (e.trans hk.symm))]
  ·rw [if_neg hk]
   by_cases h:g=k
   ·have hb:(g == k)=true:=beq_iff_eq.mpr h
    simp only [List.lookup,hb,if_neg (fun e:g=f=>hk (h.symm.trans e))]
   ·have hb:(g == k)=false:=beq_eq_false_iff_ne.mpr h
    simp only [List.lookup,hb]
    exact ih
theorem keys_putF (f:Str) (v:V):∀ fs:List (Str×V),f∈(putF f v fs).map (·.1)∧∀ g,g∈fs.map (·.1)→g∈(putF f v fs).map (·.1)
 | []=>⟨by simp [putF],fun g h=>by simp at h⟩
 | (k,x) :: r=>by
  obtain ⟨i1,i2⟩:=keys_putF f v r
  rw [show putF f v ((k,x) :: r)=(if k=f then (k,v) :: r else (k,x) :: putF f v r) from rfl]
  by_cases hk:k=f
  ·rw [if_pos hk]
   subst hk
   exact ⟨by simp,fun g h=>by simpa using h⟩
  ·rw [if_neg hk]
   refine ⟨?_,fun g h=>?_⟩
   ·rw [List.map_cons]
    exact List.mem_cons_of_mem _ i1
   ·rw [List.map_cons] at h ⊢
    rcases List.mem_cons.mp h with e | e
    ·exact List.mem_cons.mpr (.inl e)
    ·exact List.mem_cons_of_mem _ (i2 g e)
theorem length_putF (f:Str) (v:V):∀ fs:List (Str×V),(putF f v fs).length≤fs.length + 1
 | []=>by simp [putF]
 | (k,x) :: r=>by
  have ih:=length_putF f v r
  rw [show putF f v ((k,x) :: r)=(if k=f then (k,v) :: r else (k,x) :: putF f v r) from rfl]
  by_cases hk:k=f
  ·rw [if_pos hk,List.length_cons,List.length_cons]; omega
  ·rw [if_neg hk,List.length_cons,List.length_cons]; omega
theorem RelO.some_of {v:V} {o:Option Value} (r:RelO (some v) o):∃ u,o=some u∧RelV v u:=by
 cases o with
 | none=>exact (show False from r).elim
 | some u=>exact ⟨u,rfl,r⟩
theorem RelO.none_of {o:Option Value} (r:RelO none o):o=none:=by
 cases o with
 | none=>rfl
 | some u=>exact (show False from r).elim
theorem handed_of {v:V} {u:Value} (r:RelV v u):PySem.W.handedIn u=true:=by
 cases v with
 | non=>cases (show u=Value.none from r); rfl
 | bl b=>cases (show u=Value.bool b from r); rfl
 | int i=>obtain ⟨t,e⟩:=(show ∃ t,u=Value.int i t from r); cases e; rfl
 | str x=>obtain ⟨t,e⟩:=(show ∃ t,u=Value.str x t from r); cases e; rfl
 | byt b=>obtain ⟨t,e⟩:=(show ∃ t,u=Value.bytes b t from r); cases e; rfl
 | flt b=>obtain ⟨t,e⟩:=(show ∃ t,u=Value.float b t from r); cases e; rfl
 | ref a=>cases (show u=Value.ref a from r); rfl
 | ty n=>cases (show u=Value.type n from r); rfl
section
variable {P:Program} {w:World} {H H':Hp} {h h':Heap} {a C dx:Addr} {fs fs':List (Str×V)}
theorem ins_get (hok:HOk P w H h) (e:H a=some (.ins C dx fs)):∃ mA,ObjM h a dx C mA∧(∀ f,RelO (fs.lookup f) (mA f))∧PySem.Within mA (fs.map (·.1))∧fs.length≤1000∧H dx=some (.own a):=by
 obtain ⟨d,z,ne,ob,mA,n,r,q⟩:=(show ObjOk P w H h a (.ins C dx fs) from hok a _ e)
 exact ⟨mA,⟨ob,n,ne⟩,r,q,z,d⟩
end
structure Cls (K:PySem.W.Frag) (C:Addr):Prop where
 pg:PySem.W.plainGet K C Str.empty=true
 hd:PySem.W.hasDictIn K C=true
 po:PySem.W.plainOver K C=true
 sa:PySem.W.findIn K (.ref C) "__setattr__"=some (some (.builtin "object.__setattr__"))
theorem Cls.get {K:PySem.W.Frag} {C:Addr} (c:Cls K C) (f:Str):PySem.W.plainGet K C f=true:=c.pg
def NoAttr (K:PySem.W.Frag) (C:Addr) (f:Str):Prop:=PySem.W.findIn K (.ref C) f=some none
theorem NoAttr.taker {K:PySem.W.Frag} {C:Addr} {f:Str} (n:NoAttr K C f):PySem.W.takerIn K C f=some none:=by
 unfold PySem.W.takerIn
 rw [show PySem.W.findIn K (.ref C) f=some none from n]
 rfl
structure Meth (K:PySem.W.Frag) (C:Addr) (m:Str) (f:Addr):Prop where
 at_:PySem.W.findIn K (.ref C) m=some (some (.ref f))
 fn:PySem.W.isFn K (.ref f)=true
 kp:PySem.W.keepIn K (.ref f)=true
section
variable {X:Cx} {pins:List (Addr×Obj)} {σ:St} {H:Hp} {s:Shared} {a C dx:Addr} {fs:List (Str×V)} {f:Str} {v:V} {A:Around} {E:Value→Shared→Prop}
theorem getattr_ok {b:Bool} {Q:Value→Shared→Prop} (I:Inv X pins σ H s) (e:H a=some (.ins C dx fs)) (c:Cls X.K C) (n:NoAttr X.K C f) (l:fs.lookup f=some v)
  (h:∀ u s',Inv X pins σ H s'→RelV v u→Q u s'):wpAny (model X.prog X.w) A (getAttr (.ref a) f b) Q E s:=by
 obtain ⟨mA,O,r,_,_,_⟩:=ins_get I.hok e
 obtain ⟨u,hu,ru⟩:=RelO.some_of (v:=v) (o:=mA f) (by rw [← l]; exact r f)
 exact get_map I.kIn O (c.get f) c.hd n hu (handed_of ru) (h u _ (I.tok _) ru)
theorem getmeth_ok {m:Str} {g:Addr} {pl:Sem Bool} {Q:Value×List Value→Shared→Prop} (I:Inv X pins σ H s) (e:H a=some (.ins C dx fs)) (c:Cls X.K C) (k:Meth X.K C m g) (l:fs.lookup m=none)
  (h:Q (.ref g,[.ref a]) s):wpAny (model X.prog X.w) A (getMethod (.ref a) m pl) Q E s:=by
 obtain ⟨mA,O,r,_,_,_⟩:=ins_get I.hok e
 have hn:mA m=none:=RelO.none_of (by rw [← l]; exact r m)
 exact get_meth I.kIn O (c.get m) k.at_ k.fn hn h
theorem setattr_ok {y:V} {u:Value} {Q:Unit→Shared→Prop} (I:Inv X pins σ H s) (e:H a=some (.ins C dx fs)) (c:Cls X.K C) (n:NoAttr X.K C f) (hl:fs.length < 1000) (ry:RelV y u)
  (h:∀ s',Inv X pins σ (upd H a (.ins C dx (putF f y fs))) s'→Q () s'):wpAny (model X.prog X.w) A (setAttr (.ref a) f u) Q E s:=by
 obtain ⟨mA,O,r,wi,_,ho⟩:=ins_get I.hok e
 have hz:(fs.map (·.1)).length≤sizeLine:=by rw [List.length_map,sizeLine_eq]; omega
 refine set_map I.kIn O c.sa c.po n.taker c.hd wi hz fun h' O' sb=>h _ ?_
 have hd:∃ o,h'.get? dx=some o:=let ⟨o,_,_,e',_⟩:=O'.ns; ⟨o,e'⟩
 refine I.write (x:=a) (e:=dx) (by rw [e]; exact True.intro) (.inr ho) (fun b q hb z=>(sb.2 b hb).trans z) hd ?_
 refine ⟨by rw [upd_ne O.ne]; exact ho,?_,O.ne,O'.obj,_,O'.ns,fun g=>?_,fun g hg=>?_⟩
 ·have:=length_putF f y fs; omega
 ·show RelO ((putF f y fs).lookup g) (if g=f then some u else mA g)
  rw [lookup_putF]
  by_cases q:g=f
  ·rw [if_pos q,if_pos q]; exact ry
  ·rw [if_neg q,if_neg q]; exact r g
 ·by_cases q:g=f
  ·rw [q]; exact (keys_putF f y fs).1
  ·refine (keys_putF f y fs).2 g (wi g fun z=>hg ?_)
   show (if g=f then some u else mA g)=none
   rw [if_neg q]; exact z
theorem Inv.made (I:Inv X pins σ H s):Inv X pins σ (upd (upd H s.heap.objs.size (.own (s.heap.objs.size + 1))) (s.heap.objs.size + 1) (.ins C s.heap.objs.size []))
  { s with heap:=(s.heap.push PySem.W.emptyDict).push (PySem.W.instObj C s.heap.objs.size) }:=by
 have e1:(s.heap.push PySem.W.emptyDict).get? s.heap.objs.size=some PySem.W.emptyDict:=Heap.get?_push_size s.heap rfl
 have e2:((s.heap.push PySem.W.emptyDict).push (PySem.W.instObj C s.heap.objs.size)).get? (s.heap.objs.size + 1)=some (PySem.W.instObj C s.heap.objs.size):=by
  have:=Heap.get?_push_size (s.heap.push PySem.W.emptyDict) (o:=PySem.W.instObj C s.heap.objs.size) rfl
  rwa [Heap.size_push] at this
 have e3:(s.heap.push PySem.W.emptyDict).Ns s.heap.objs.size (fun _=>none):=⟨PySem.W.emptyDict,#[],_,e1,rfl,(fun e he=>absurd he (by simp)),fun _=>rfl⟩
 have I1:=I.laid (a:=s.heap.objs.size) (o:=.own (s.heap.objs.size + 1)) (h':=s.heap.push PySem.W.emptyDict) (t':=s.toks) (fun b u q=>Heap.get?_push_of_some _ q) (Nat.le_refl _) ⟨_,e1⟩
 refine I1.laid (a:=s.heap.objs.size + 1) (o:=.ins C s.heap.objs.size []) (t':=s.toks) (fun b u q=>Heap.get?_push_of_some _ q) (Nat.le_of_eq (Heap.size_push _ _)) ?_
 have ne:s.heap.objs.size≠s.heap.objs.size + 1:=Nat.ne_of_lt (Nat.lt_succ_self _)
 refine ⟨by rw [upd_ne ne,upd_same],Nat.zero_le _,ne,e2,fun _=>none,(Heap.Ns1.of_empty e3).at fun o q=>Heap.get?_push_of_some _ q,fun _=>True.intro,fun y hy=>absurd rfl hy⟩
theorem attr_of {prog:Program} {w:World} {env:Env} {e:Expr} {f:Str} {pos:Pos} {s:Shared} {Q:Value→Shared→Prop} (hb:attributeBase e f env (eval e env)=eval e env)
  (h:wpAny (model prog w) A (eval e env) (fun o s₁=>wpAny (model prog w) A (getAttr o f true) Q E s₁) E s):wpAny (model prog w) A (eval (.Attribute e f pos) env) Q E s :=
 Attribute_any_ h (by rw [arm_eval_Attribute,hb])
end
def tFld (K:PySem.W.Frag) (ta:TE) (f:Str):TE:=fun σ H Q=>ta σ H fun x H1=>∃ a C dx fs v,x=.ref a∧H1 a=some (.ins C dx fs)∧Cls K C∧NoAttr K C f∧fs.lookup f=some v∧Q v H1
def sFld (K:PySem.W.Frag) (ta tv:TE) (f:Str):TS:=fun D σ H=>tv σ H fun y H1=>ta σ H1 fun x H2=>∃ a C dx fs,x=.ref a∧H2 a=some (.ins C dx fs)∧Cls K C∧NoAttr K C f∧fs.length < 1000 ∧
 D.nx σ (upd H2 a (.ins C dx (putF f y fs)))
def InOp (X:Cx) (op:Operator) (rd:V→V→Hp→VK→Prop):Prop :=
 ∀ (pins:List (Addr×Obj)) (s:Shared) (σ:St) (H:Hp) (x y:V) (u v:Value) (Q:VK),Inv X pins σ H s→RelV x u→RelV y v→rd x y H Q→wpAny (model X.prog X.w) X.A (inplaceOp op u v) (EP X pins σ Q) X.xe s
def sFldAug (K:PySem.W.Frag) (ta tv:TE) (rd:V→V→Hp→VK→Prop) (f:Str):TS:=fun D σ H=>ta σ H fun x H1=>∃ a C dx fs v,x=.ref a∧H1 a=some (.ins C dx fs)∧Cls K C∧NoAttr K C f∧fs.lookup f=some v ∧
 tv σ H1 fun y H2=>rd v y H2 fun z H3=>∃ dx' fs',H3 a=some (.ins C dx' fs')∧fs'.length < 1000∧D.nx σ (upd H3 a (.ins C dx' (putF f z fs')))
section
variable {X:Cx} {o e value:Expr} {f:Str} {pos pos' tpos:Pos} {ta tv:TE}
theorem pe_fld (he:PE X e ta) (hb:attributeBase e f X.env (eval e X.env)=eval e X.env):PE X (.Attribute e f pos) (tFld X.K ta f):=by
 intro pins s σ H Q I h
 refine attr_of hb (thn (he pins s σ H _ I h) fun u s1 ⟨x,H1,I1,rx,a,C,dx,fs,v,ex,ea,c,n,l,q⟩=>?_)
 subst ex
 obtain rfl:u=Value.ref a:=rx
 exact getattr_ok I1 ea c n l fun u' s2 I2 ru=>⟨v,H1,I2,ru,q⟩
theorem ps_fld (ha:PE X o ta) (hv:PE X value tv) (hs:swapsWith value (some (.Attribute o f pos')) pos.line X.env=pure false):PS X (.Assign [.Attribute o f pos'] value pos) (sFld X.K ta tv f):=by
 intro pins s σ H D I h
 refine plainObj_wpAny_Assign_Attribute (thn (hv pins s σ H _ I h) fun u s1 ⟨y,H1,I1,ry,q⟩=>thn (ha pins s1 σ H1 _ I1 q) fun ov s2 ⟨x,H2,I2,rx,a,C,dx,fs,ex,ea,c,n,l,q2⟩=>?_) hs
 subst ex
 obtain rfl:ov=Value.ref a:=rx
 exact setattr_ok I2 ea c n l ry fun s3 I3=>⟨σ,_,I3,q2⟩
theorem ps_fldaug {op:Operator} {rd:V→V→Hp→VK→Prop} (ha:PE X o ta) (hv:PE X value tv) (hop:InOp X op rd):PS X (.AugAssign (.Attribute o f tpos) op value pos) (sFldAug X.K ta tv rd f):=by
 intro pins s σ H D I h
 refine wpAny_AugAssign_AttributeAny (thn (ha pins s σ H _ I h) fun ov s1 ⟨x,H1,I1,rx,a,C,dx,fs,v,ex,ea,c,n,l,q⟩=>?_)
 subst ex
 obtain rfl:ov=Value.ref a:=rx
 refine getattr_ok I1 ea c n l fun u s2 I2 ru=>thn (hv pins s2 σ H1 _ I2 q) fun w3 s3 ⟨y,H2,I3,ry,q3⟩=>thn (hop pins s3 σ H2 v y u w3 _ I3 ru ry q3) fun w4 s4 ⟨z,H3,I4,rz,dx',fs',ea',l',q4⟩=>?_
 exact setattr_ok I4 ea' c n l' rz fun s5 I5=>⟨σ,_,I5,q4⟩
def rAdd:V→V→Hp→VK→Prop:=fun x y H Q=>∃ i j,x=.int i∧y=.int j∧Q (.int (i + j)) H
theorem in_add:InOp X .Add rAdd:=by
 rintro pins s σ H x y u v Q I rx ry ⟨i,j,rfl,rfl,q⟩
 obtain ⟨t,rfl⟩:=(show ∃ t,u=Value.int i t from rx)
 obtain ⟨t',rfl⟩:=(show ∃ t',v=Value.int j t' from ry)
 exact PyProof.Rows.iadd_int ⟨.int (i + j),H,I.tok _,⟨_,rfl⟩,q⟩
end
section
variable {X:Cx} {pins:List (Addr×Obj)} {σ:St} {H:Hp} {s:Shared} {A:Around} {E:Value→Shared→Prop} {Q:Value→Shared→Prop} {c:Value} {b:Bool}
inductive TyOf (K:PySem.W.Frag) (H:Hp):V→Value→Prop where
 | non:TyOf K H .non (.type "NoneType")
 | bl (x:Bool):TyOf K H (.bl x) (.type "bool")
 | int (i:Int):TyOf K H (.int i) (.type "int")
 | str (x:Str):TyOf K H (.str x) (.type "str")
 | flt (x:UInt64):TyOf K H (.flt x) (.type "float")
 | lst {a:Addr} {xs:List V} (e:H a=some (.lst xs)):TyOf K H (.ref a) (.type "list")
 | frz {a:Addr} {o:Obj} {xs:List V} (e:H a=some (.frz o (.lst xs))):TyOf K H (.ref a) (.type "list")
 | tup {a:Addr} {xs:List V} (e:H a=some (.tup xs)):TyOf K H (.ref a) (.type "tuple")
 | dK {a:Addr} {kvs:List (Key×V)} (e:H a=some (.dK kvs)):TyOf K H (.ref a) (.type "dict")
 | dT {a:Addr} {kvs:List (List Key×V)} (e:H a=some (.dT kvs)):TyOf K H (.ref a) (.type "dict")
 | ins {a C dx:Addr} {fs:List (Str×V)} (e:H a=some (.ins C dx fs)) (cl:Cls K C) (ha:PySem.W.findIn K (.ref C) "__class__"=some (some (.builtin "object.__class__")))
   (hn:PySem.W.specialIn K (.builtin "object.__class__") "__get__"=some (some (.builtin "getset_descriptor.__get__"))) (htk:PySem.W.takesIn K (.builtin "object.__class__")=some true)
   (hm:PySem.W.mroIn K C (.type "object")=some true):TyOf K H (.ref a) (.ref C)
theorem isinst_ok {x:V} {u t:Value} (I:Inv X pins σ H s) (rx:RelV x u) (ty:TyOf X.K H x t) (e:PySem.W.kitOne X.K t c=some b) (h:∀ tk,Q (.bool b) { s with toks:=tk }) :
  wpAny (model X.prog X.w) A (call (.builtin "isinstance") [u,c]) Q E s:=by
 cases ty with
 | non=>cases (show u=Value.none from rx); exact PySem.W.kia_one PySem.W.kitx_none I.kIn True.intro e (fun z=>nomatch z) h
 | bl y=>cases (show u=Value.bool y from rx); exact PySem.W.kia_one PySem.W.kitx_bool I.kIn True.intro e (fun z=>nomatch z) h
 | int i=>obtain ⟨t,q⟩:=(show ∃ t,u=Value.int i t from rx); cases q; exact PySem.W.kia_one PySem.W.kitx_int I.kIn True.intro e (fun z=>nomatch z) h
 | str y=>obtain ⟨t,q⟩:=(show ∃ t,u=Value.str y t from rx); cases q; exact PySem.W.kia_one PySem.W.kitx_str I.kIn True.intro e (fun z=>nomatch z) h
 | flt y=>obtain ⟨t,q⟩:=(show ∃ t,u=Value.float y t from rx); cases q; exact PySem.W.kia_one PySem.W.kitx_float I.kIn True.intro e (fun z=>nomatch z) h
 | @lst a xs ea =>
  cases (show u=Value.ref a from rx)
  obtain ⟨_,_,n,_,h1⟩:=(show ObjOk X.prog X.w H s.heap a (.lst xs) from I.hok a _ ea)
  exact PySem.W.kia_one PySem.W.kitx_list I.kIn ⟨_,h1,rfl⟩ e (fun z=>nomatch z) h
 | @frz a ob xs ea =>
  cases (show u=Value.ref a from rx)
  obtain ⟨_,_,_,n,_,h1⟩:=(show ObjOk X.prog X.w H s.heap a (.frz ob (.lst xs)) from I.hok a _ ea)
  exact PySem.W.kia_one PySem.W.kitx_list I.kIn ⟨_,h1,rfl⟩ e (fun z=>nomatch z) h
 | @tup a xs ea =>
  cases (show u=Value.ref a from rx)
  obtain ⟨_,_,_,p⟩:=(show ObjOk X.prog X.w H s.heap a (.tup xs) from I.hok a _ ea)
  obtain ⟨o,h1,h2,_⟩:=p
  exact PySem.W.kia_one PySem.W.kitx_tuple I.kIn ⟨o,h1,h2⟩ e (fun z=>nomatch z) h
 | @dK a kvs ea =>
  cases (show u=Value.ref a from rx)
  obtain ⟨_,_,vs,_,p⟩:=(show ObjOk X.prog X.w H s.heap a (.dK kvs) from I.hok a _ ea)
  obtain ⟨o,es,ep,h1,h2,_⟩:=p
  exact PySem.W.kia_one PySem.W.kitx_dict I.kIn ⟨o,h1,h2.1⟩ e (fun z=>nomatch z) h
 | @dT a kvs ea =>
  cases (show u=Value.ref a from rx)
  obtain ⟨_,_,xs,_,o,es,ep,h1,h2,_⟩:=(show ObjOk X.prog X.w H s.heap a (.dT kvs) from I.hok a _ ea)
  exact PySem.W.kia_one PySem.W.kitx_dict I.kIn ⟨o,h1,h2.1⟩ e (fun z=>nomatch z) h
 | @ins a C dx fs ea cl ha hn htk hm =>
  cases (show u=Value.ref a from rx)
  obtain ⟨mA,O,_⟩:=ins_get I.hok ea
  obtain ⟨od,J,_⟩:=O.look
  exact PySem.W.kia_one (PySem.W.kitx_own (cl.get _) cl.hd ha hn htk hm) I.kIn J e (fun z=>nomatch z) h
end
structure Room (k:Nat) (A:Around):Prop where
 hd:A.handled=none
 dp:A.depth + 3 * k + 5 < recursionLimit
 un:A.units + 16 * k + 200 < cLine
theorem Room.mono {j k:Nat} {A:Around} (r:Room k A) (h:j≤k):Room j A:=⟨r.hd,by have:=r.dp; omega,by have:=r.un; omega⟩
theorem Room.deeper {k:Nat} {A:Around} (r:Room (k + 1) A) (env:Env):Room k (A.deeper env) :=
 ⟨r.hd,by have:=r.dp; show A.depth + 1 + 3 * k + 5 < _; omega,by have:=r.un; show A.units + 3 + 16 * k + 200 < _; omega⟩
theorem make_depth {A:Around} {C:Addr} {us:List Value} {kw:List (Str×Value)}:(A.under (.builtin "type.__call__" ⟨.ref C :: us,kw⟩)).depth=A.depth + 1:=by
 first | rfl | simp [Around.under,Code.weight,Code.isCreation,Code.isGuard,Code.isCaller,Code.frames,Code.isFrame,guardIds]
theorem make_units {A:Around} {C:Addr} {us:List Value} {kw:List (Str×Value)}:(A.under (.builtin "type.__call__" ⟨.ref C :: us,kw⟩)).units=A.units + 1:=by
 first | rfl | simp [Around.under,Code.cUnits,Code.frames,Code.isFrame]
theorem Room.make {k:Nat} {A:Around} (r:Room (k + 1) A) (C:Addr) (us:List Value) (kw:List (Str×Value)):Room k (A.under (.builtin "type.__call__" ⟨.ref C :: us,kw⟩)) :=
 ⟨r.hd,by have:=r.dp; rw [make_depth]; omega,by have:=r.un; rw [make_units]; omega⟩
theorem Room.depth {k:Nat} {A:Around} (r:Room k A):A.depth < recursionLimit:=by have:=r.dp; omega
theorem Room.units {k:Nat} {A:Around} (r:Room k A):A.units + 64 < cLine:=by have:=r.un; omega
theorem Room.units0 {k:Nat} {A:Around} (r:Room k A):A.units < cLine:=by have:=r.un; omega
def tNil:TA:=fun _ H Q=>Q [] H
def tCons (ta:TE) (tr:TA):TA:=fun σ H Q=>ta σ H fun x H1=>tr σ H1 fun xs H2=>Q (x :: xs) H2
section
variable {X:Cx} {e:Expr} {es:List Expr} {te:TE} {t:TA} {pos:Pos}
theorem pa_nil:PA X [] tNil:=fun _ _ _ _ H Q I h=>Calls.spliced_nil ⟨[],H,I,.nil,h⟩
theorem pa_cons (ha:PE X e te) (hr:PA X es t) (hs:starEach (e :: es) X.env=(false,eval e X.env) :: starEach es X.env:=by rfl):PA X (e :: es) (tCons te t):=by
 intro pos pins s σ H Q I h
 rw [hs]
 show wpAny _ _ (spliced ((false,eval e X.env) :: backTo pos (starEach es X.env))) _ _ s
 refine Calls.spliced_cons (thn (ha pins s σ H _ I h) fun u s1 ⟨x,H1,I1,r1,q1⟩=>?_)
 exact thn (hr pos pins s1 σ H1 _ I1 q1) fun us s2 ⟨xs,H2,I2,r2,q2⟩=>⟨x :: xs,H2,I2,.cons r1 r2,q2⟩
def tTup (t:TA):TE:=fun σ H Q=>t σ H fun xs H1=>xs.length≤sizeLine∧∀ p,H1 p=none→Q (.ref p) (upd H1 p (.tup xs))
def tLst (t:TA):TE:=fun σ H Q=>t σ H fun xs H1=>xs.length≤sizeLine∧∀ p,H1 p=none→Q (.ref p) (upd H1 p (.lst xs))
theorem pe_tup {x1} (h:PA X es t):PE X (.Tuple es x1 pos) (tTup t):=by
 intro pins s σ H Q I hq
 refine wpAny_Tuple_spliced (thn (h pos pins s σ H _ I hq) fun us s1 ⟨xs,H1,I1,r,z,q⟩=>⟨by rw [← r.length]; exact z,?_⟩)
 have hf:H1 s1.heap.objs.size=none:=I1.hok.fresh (Nat.le_refl _)
 refine ⟨.ref s1.heap.objs.size,upd H1 s1.heap.objs.size (.tup xs),I1.laid (t':=s1.toks) (fun b u e=>Heap.get?_push_of_some _ e) (Nat.le_refl _) ?_,rfl,q _ hf⟩
 exact ⟨z,us,r,⟨_,Heap.get?_push_size _ rfl,rfl,_,rfl⟩⟩
theorem pe_lst (h:PA X es t):PE X (.List es pos) (tLst t):=by
 intro pins s σ H Q I hq
 refine wpAny_List_spliced (thn (h pos pins s σ H _ I hq) fun us s1 ⟨xs,H1,I1,r,z,q⟩=>⟨by rw [← r.length]; exact z,?_⟩)
 have hf:H1 s1.heap.objs.size=none:=I1.hok.fresh (Nat.le_refl _)
 refine ⟨.ref s1.heap.objs.size,upd H1 s1.heap.objs.size (.lst xs),I1.laid (t':=s1.toks) (fun b u e=>Heap.get?_push_of_some _ e) (Nat.le_refl _) ?_,rfl,q _ hf⟩
 exact ⟨z,us,0,r,Heap.get?_push_size _ rfl⟩
end
abbrev Sp:=List V→Hp→VK→XK→Prop
abbrev CXT:=List Env→Hp→Shared→XK→Value→Shared→Prop
structure Env0 (P:Program) (w:World) (K:PySem.W.Frag) (mg:Str→Option Value) (base:Heap) (A:Around) (outer:List Env) (s:Shared) (H:Hp):Prop where
 frames:A.frames=some outer
 mod:Mod K mg base
 bs:∀ b o,base.get? b=some o→s.heap.get? b=some o∧H b=none
 bsz:base.objs.size≤s.heap.objs.size
 funs:s.heap.FunFrames base outer
 frf:∀ b∈frs outer,H b=none
 hok:HOk P w H s.heap
 bare:AllBare s.gens
def CE (outer:List Env) (P:Program) (w:World) (H:Hp) (s:Shared) (Q:VK) (u:Value) (s':Shared):Prop :=
 ∃ v H',s'.os=s.os∧AllBare s'.gens∧Un (frs outer) [] H H' s.heap s'.heap∧HOk P w H' s'.heap∧RelV v u∧Q v H'
def CR (CX:CXT) (outer:List Env) (P:Program) (w:World) (H:Hp) (s:Shared) (Q:VK) (E:XK) (r:Result) (s':Shared):Prop :=
 match r with
 | .ok (.ret u)=>CE outer P w H s Q u s'
 | .ok _=>False
 | .error e=>CX outer H s E e s'
structure FnOk (P:Program) (w:World) (K:PySem.W.Frag) (mg:Str→Option Value) (base:Heap) (CX:CXT) (k:Nat) (f:Addr) (fd:FuncData) (ps:List Str) (sp:Sp):Prop where
 len:∀ vs H Q E,sp vs H Q E→vs.length=ps.length
 run:∀ (A:Around) (outer:List Env) (s:Shared) (H:Hp) (args:Args) (us:List Value) (vs:List V) (Q:VK) (E:XK),Room k A→Env0 P w K mg base A outer s H→BindsTo s fd args (ps.zip us)→Vals vs us→sp vs H Q E →
  codeAny (model P w) A (.call (.ref f) args) (CR CX outer P w H s Q E) s
theorem FnOk.mono {P:Program} {w:World} {K:PySem.W.Frag} {mg:Str→Option Value} {base:Heap} {CX:CXT} {j k:Nat} {f:Addr} {fd:FuncData} {ps:List Str} {sp:Sp} (F:FnOk P w K mg base CX j f fd ps sp) (h:j≤k) :
  FnOk P w K mg base CX k f fd ps sp:=⟨F.len,fun A outer s H args us vs Q E hr=>F.run A outer s H args us vs Q E (hr.mono h)⟩
theorem Env0.make {P:Program} {w:World} {K:PySem.W.Frag} {mg:Str→Option Value} {base:Heap} {A:Around} {outer:List Env} {s:Shared} {H:Hp} (e:Env0 P w K mg base A outer s H) (C:Addr) (us:List Value) (kw:List (Str×Value)) :
  Env0 P w K mg base (A.under (.builtin "type.__call__" ⟨.ref C :: us,kw⟩)) outer s H:=⟨by first | exact e.frames | (simpa [Around.under,Code.envs,Code.isFrame,pushEnvs] using e.frames),e.mod,e.bs,e.bsz,e.funs,e.frf,e.hok,e.bare⟩
section
variable {X:Cx} {pins:List (Addr×Obj)} {σ:St} {H:Hp} {s s':Shared}
theorem Inv.env0 (I:Inv X pins σ H s):Env0 X.prog X.w X.K X.mg X.base X.A X.stack s H :=
 ⟨I.ok.frames,I.ok.mod,I.bs,Nat.le_trans I.ok.bsz I.sz,I.stack,I.stkFree,I.hok,I.bare⟩
theorem Inv.after {Q:VK} {u:Value} (I:Inv X pins σ H s) (h:CE X.stack X.prog X.w H s Q u s'):EP X pins σ Q u s':=by
 obtain ⟨v,H',os,bare,un,hok,r,q⟩:=h
 obtain ⟨hh,g,d,t,os'⟩:=s'
 obtain rfl:os'=s.os:=os
 exact ⟨v,H',I.call (h':=hh) (g':=g) (d':=d) (t':=t) (ch:=[]) un hok bare (fun b z=>absurd z (by simp)),r,q⟩
end
def tCall (sp:Sp) (dvs:List V) (E:XK) (t:TA):TE:=fun σ H Q=>t σ H fun vs H1=>sp (vs ++ dvs) H1 Q E
def tMeth (C:Addr) (m:Str) (sp:Sp) (dvs:List V) (E:XK) (ta:TE) (t:TA):TE:=fun σ H Q=>ta σ H fun x H1=>∃ a dx fs,x=.ref a∧H1 a=some (.ins C dx fs)∧fs.lookup m=none ∧
 t σ H1 fun vs H2=>sp (x :: (vs ++ dvs)) H2 Q E
def tMake (C:Addr) (sp:Sp) (dvs:List V) (E:XK) (t:TA):TE:=fun σ H Q=>t σ H fun vs H1=>∀ x dx,H1 x=none→H1 dx=none→dx≠x →
 sp (.ref x :: (vs ++ dvs)) (upd (upd H1 dx (.own x)) x (.ins C dx [])) (fun v H2=>v=.non∧Q (.ref x) H2) E
def Binds (K:PySem.W.Frag) (fd:FuncData) (ps:List Str) (ds:List Value):Prop :=
 ∀ (s:Shared) (us:List Value),K.In s.heap→(us ++ ds).length=ps.length→BindsTo s fd ⟨us,[]⟩ (ps.zip (us ++ ds))
theorem Binds.all {K:PySem.W.Frag} {fd:FuncData} {ps:List Str} (h:∀ us:List Value,us.length=ps.length→bindArgs fd ⟨us,[]⟩=pure (ps.zip us)):Binds K fd ps []:=fun s us _ hl=>by
 rw [List.append_nil] at hl ⊢
 exact .of_eq (h us hl)
def Passes (CX:CXT) (X:Cx) (E:XK):Prop:=∀ (pins:List (Addr×Obj)) (σ:St) (H:Hp) (s:Shared) (e:Value) (s':Shared),Inv X pins σ H s→CX X.stack H s E e s'→X.xe e s'
section
variable {X:Cx} {CX:CXT} {k:Nat} {f C:Addr} {fd:FuncData} {ps:List Str} {sp:Sp} {dvs:List V} {ds:List Value} {E:XK} {x m:Str} {p pos apos:Pos} {e o:Expr} {es:List Expr} {ta:TE} {t:TA}
theorem run_fn {pins:List (Addr×Obj)} {σ:St} {H:Hp} {s:Shared} {Q:VK} {us:List Value} {vs:List V} (F:FnOk X.prog X.w X.K X.mg X.base CX k f fd ps sp) (hr:Room k X.A) (hb:Binds X.K fd ps ds) (hd:Vals dvs ds) (hx:Passes CX X E)
  (I:Inv X pins σ H s) (r:Vals vs us) (h:sp (vs ++ dvs) H Q E):wpAny (model X.prog X.w) X.A (call (.ref f) us) (EP X pins σ Q) X.xe s:=by
 have r2:Vals (vs ++ dvs) (us ++ ds):=r.append hd
 have hl:(us ++ ds).length=ps.length:=by rw [← r2.length]; exact F.len _ _ _ _ h
 refine wpAny_call (codeAny_mono (F.run X.A X.stack s H ⟨us,[]⟩ (us ++ ds) (vs ++ dvs) Q E hr I.env0 (hb s us I.kIn hl) r2 h) fun r s' hq=>?_)
 cases r with
 | error e=>exact hx pins σ H s e s' I hq
 | ok fl =>
  cases fl with
  | ret u=>exact I.after hq
  | next=>exact False.elim hq
  | brk=>exact False.elim hq
  | cont=>exact False.elim hq
theorem pe_call (F:FnOk X.prog X.w X.K X.mg X.base CX k f fd ps sp) (hr:Room k X.A) (hg:Gl X x) (hm:X.mg x=some (.ref f)) (hk:PySem.W.keepIn X.K (.ref f)=true) (hb:Binds X.K fd ps ds) (hd:Vals dvs ds) (hx:Passes CX X E)
  (ha:PA X (e :: es) t) (hdb:(x == ("__debug__":Str))=false:=by decide) (he:starEach (e :: es) X.env=(false,eval e X.env) :: starEach es X.env:=by rfl) (hpl:(backTo pos (starEach es X.env)).any (·.1)=false:=by rfl) :
  PE X (.Call (.Name x p) (e :: es) [] pos) (tCall sp dvs E t):=by
 intro pins s σ H Q I h
 refine wpAny_Call_Name_kw (ld_glob I hg hm ?_ hdb)
 refine PySem.W.callWith_K (h₀:=X.base) I.ok.mod.kin hk (thn (ha pos pins s σ H _ I h) fun us s1 ⟨vs,H1,I1,r,q⟩=>⟨I1.kIn,?_⟩) he hpl
 exact run_fn F hr hb hd hx I1 r q
theorem pe_meth {pl:Sem Bool} (he:PE X o ta) (c:Cls X.K C) (hm:Meth X.K C m f) (F:FnOk X.prog X.w X.K X.mg X.base CX k f fd ps sp) (hr:Room k X.A) (hb:Binds X.K fd ps ds) (hd:Vals dvs ds) (hx:Passes CX X E) (ha:PA X (e :: es) t)
  (hst:starEach (e :: es) X.env=(false,eval e X.env) :: starEach es X.env:=by rfl) (hpl:(backTo pos (starEach es X.env)).any (·.1)=false:=by rfl)
  (ht:eval (.Call (.Attribute o m apos) (e :: es) [] pos) X.env=(do
   let ov ← eval o X.env
   standAt apos.atName
   let (f,first) ← holding [ov] (getMethod ov m pl)
   callWith pos f first (backTo pos (starEach (e :: es) X.env)) (backToKw pos (keywordEach [] X.env))):=by rfl) :
  PE X (.Call (.Attribute o m apos) (e :: es) [] pos) (tMeth C m sp dvs E ta t):=by
 intro pins s σ H Q I h
 refine PySem.W.methodCall_KW (pl:=pl) (thn (he pins s σ H _ I h) fun u s1 ⟨x,H1,I1,rx,a,dx,fs,ex,ea,l,q⟩=>?_) ht
 subst ex
 obtain rfl:u=Value.ref a:=rx
 refine getmeth_ok I1 ea c hm l ?_
 refine PySem.W.callWith_K (first:=[.ref a]) (h₀:=X.base) I.ok.mod.kin hm.kp (thn (ha pos pins s1 σ H1 _ I1 q) fun us s2 ⟨vs,H2,I2,r,q2⟩=>⟨I2.kIn,?_⟩) hst hpl
 exact run_fn (us:=.ref a :: us) (vs:=.ref a :: vs) F hr hb hd hx I2 (.cons rfl r) q2
theorem pe_meth0 {pl:Sem Bool} (he:PE X o ta) (c:Cls X.K C) (hm:Meth X.K C m f) (F:FnOk X.prog X.w X.K X.mg X.base CX k f fd ps sp) (hr:Room k X.A) (hb:Binds X.K fd ps ds) (hd:Vals dvs ds) (hx:Passes CX X E)
  (ht:eval (.Call (.Attribute o m apos) [] [] pos) X.env=(do
   let ov ← eval o X.env
   standAt apos.atName
   let (f,first) ← holding [ov] (getMethod ov m pl)
   callWith pos f first (backTo pos (starEach [] X.env)) (backToKw pos (keywordEach [] X.env))):=by rfl) :
  PE X (.Call (.Attribute o m apos) [] [] pos) (tMeth C m sp dvs E ta tNil):=by
 intro pins s σ H Q I h
 refine PySem.W.methodCall_KW (pl:=pl) (thn (he pins s σ H _ I h) fun u s1 ⟨x,H1,I1,rx,a,dx,fs,ex,ea,l,q⟩=>?_) ht
 subst ex
 obtain rfl:u=Value.ref a:=rx
 refine getmeth_ok I1 ea c hm l ?_
 exact PySem.W.callWith_K0 (first:=[.ref a]) I1.kIn hm.kp (run_fn (us:=[.ref a]) (vs:=[.ref a]) F hr hb hd hx I1 (.cons rfl .nil) q)
structure Mk (K:PySem.W.Frag) (C f:Addr):Prop where
 makes:PySem.W.makesIn K C=true
 init:PySem.W.findIn K (.ref C) "__init__"=some (some (.ref f))
 fn:PySem.W.isFn K (.ref f)=true
 kp:PySem.W.keepIn K (.ref C)=true
theorem run_make {pins:List (Addr×Obj)} {σ:St} {H:Hp} {s:Shared} {Q:VK} {us:List Value} {vs:List V} (M:Mk X.K C f) (F:FnOk X.prog X.w X.K X.mg X.base CX k f fd ps sp) (hr:Room (k + 1) X.A) (hb:Binds X.K fd ps ds) (hd:Vals dvs ds)
  (hx:Passes CX X E) (I:Inv X pins σ H s) (r:Vals vs us)
  (h:∀ x dx,H x=none→H dx=none→dx≠x→sp (.ref x :: (vs ++ dvs)) (upd (upd H dx (.own x)) x (.ins C dx [])) (fun v H2=>v=.non∧Q (.ref x) H2) E) :
  wpAny (model X.prog X.w) X.A (call (.ref C) us) (EP X pins σ Q) X.xe s:=by
 have hq:=h (s.heap.objs.size + 1) s.heap.objs.size (I.hok.fresh (Nat.le_succ _)) (I.hok.fresh (Nat.le_refl _)) (Nat.ne_of_lt (Nat.lt_succ_self _))
 have I2:=Inv.made (C:=C) I
 have r2:Vals (V.ref (s.heap.objs.size + 1) :: (vs ++ dvs)) (Value.ref (s.heap.objs.size + 1) :: (us ++ ds)):=.cons rfl (r.append hd)
 have hl:(Value.ref (s.heap.objs.size + 1) :: us ++ ds).length=ps.length:=by
  have e:=r2.length
  rw [F.len _ _ _ _ hq] at e
  exact e.symm
 refine wpAny_call (make_map (f:=f) I.kIn M.makes M.init (beq_iff_eq.mp M.fn) (codeAny_mono (F.run _ X.stack _ _ ⟨Value.ref (s.heap.objs.size + 1) :: us,[]⟩ (Value.ref (s.heap.objs.size + 1) :: (us ++ ds)) _ _ E (hr.make C us [])
  (I2.env0.make C us []) (hb _ (Value.ref (s.heap.objs.size + 1) :: us) I2.kIn hl) r2 hq) fun r s' hq'=>?_))
 cases r with
 | error e=>exact hx pins σ _ _ e s' I2 hq'
 | ok fl =>
  cases fl with
  | ret u =>
   obtain ⟨v,H',I3,rv,ev,q3⟩:=I2.after hq'
   subst ev
   exact ⟨rv,⟨V.ref (s.heap.objs.size + 1),H',I3,rfl,q3⟩⟩
  | next=>exact False.elim hq'
  | brk=>exact False.elim hq'
  | cont=>exact False.elim hq'
theorem pe_make0 (M:Mk X.K C f) (F:FnOk X.prog X.w X.K X.mg X.base CX k f fd ps sp) (hr:Room (k + 1) X.A) (hg:Gl X x) (hm:X.mg x=some (.ref C)) (hb:Binds X.K fd ps ds) (hd:Vals dvs ds) (hx:Passes CX X E)
  (hdb:(x == ("__debug__":Str))=false:=by decide):PE X (.Call (.Name x p) [] [] pos) (tMake C sp dvs E tNil):=by
 intro pins s σ H Q I h
 refine wpAny_Call_Name_kw (ld_glob I hg hm ?_ hdb)
 exact PySem.W.callWith_K0 I.kIn M.kp (run_make (us:=[]) M F hr hb hd hx I .nil h)
end
section
variable {X:Cx} {CX:CXT} {k:Nat} {f C:Addr} {fd:FuncData} {ps ks:List Str} {sp:Sp} {E:XK} {x m:Str} {p pos apos kpos:Pos} {e o:Expr} {es:List Expr} {kws:List Keyword} {te ta:TE} {t tk:TA} {nm:Option Str}
variable {g:List Value→List Value→List Value} {gV:List V→List V→List V}
end
structure FnScope (N P:List Str) (sc:Scope):Prop where
 kind:sc.kind=.function
 co:sc.isCoroutine=false
 gen:sc.isGenerator=false
 nd:N.Nodup
 pre:N.take P.length=P
 par:∀ x∈P,sc.names.lookup x=some .local∨sc.names.lookup x=some .cell
 nofree:∀ y∈sc.names,y.2≠.free
theorem bindL_out {kindOf:Str→Option NameKind} {x:Str}:∀ {binds:List (Str×Value)} {m:Str→Option Value},(∀ v,(x,v) ∉ binds)→bindL kindOf binds m x=m x
 | [],_,_=>rfl
 | (n,v) :: r,m,h=>by
  unfold bindL
  rw [bindL_out fun w hw=>h w (List.mem_cons_of_mem _ hw)]
  split
  ·have:x≠n:=by rintro rfl; exact h v List.mem_cons_self
   simp [this]
  ·rfl
theorem bindC_out {kindOf:Str→Option NameKind} {x:Str}:∀ {binds:List (Str×Value)} {m:Str→Option Value},(∀ v,(x,v) ∉ binds)→bindC kindOf binds m x=m x
 | [],_,_=>rfl
 | (n,v) :: r,m,h=>by
  unfold bindC
  rw [bindC_out fun w hw=>h w (List.mem_cons_of_mem _ hw)]
  split
  ·rfl
  ·have:x≠n:=by rintro rfl; exact h v List.mem_cons_self
   simp [this]
theorem bindL_get {kindOf:Str→Option NameKind} {x:Str} {v:Value}:∀ {P:List Str} {vs:List Value} {i:Nat} {m:Str→Option Value},P.Nodup→P[i]?=some x→vs[i]?=some v→kindOf x=some .local →
  bindL kindOf (P.zip vs) m x=some v
 | [],_,_,_,_,h,_,_=>by simp at h
 | _ :: _,[],_,_,_,_,h,_=>by simp at h
 | p :: P,w :: vs,0,m,nd,h1,h2,hk=>by
  simp at h1 h2; subst h1; subst h2
  show bindL kindOf ((p,w) :: P.zip vs) m p=_
  unfold bindL
  rw [bindL_out fun v hv=>(List.nodup_cons.mp nd).1 (List.of_mem_zip hv).1,if_pos hk]
  simp
 | p :: P,w :: vs,i + 1,m,nd,h1,h2,hk=>by
  show bindL kindOf ((p,w) :: P.zip vs) m x=_
  unfold bindL
  exact bindL_get (i:=i) (List.nodup_cons.mp nd).2 (by simpa using h1) (by simpa using h2) hk
theorem bindC_get {kindOf:Str→Option NameKind} {x:Str} {v:Value}:∀ {P:List Str} {vs:List Value} {i:Nat} {m:Str→Option Value},P.Nodup→P[i]?=some x→vs[i]?=some v→kindOf x≠some .local →
  bindC kindOf (P.zip vs) m x=some v
 | [],_,_,_,_,h,_,_=>by simp at h
 | _ :: _,[],_,_,_,_,h,_=>by simp at h
 | p :: P,w :: vs,0,m,nd,h1,h2,hk=>by
  simp at h1 h2; subst h1; subst h2
  show bindC kindOf ((p,w) :: P.zip vs) m p=_
  unfold bindC
  rw [bindC_out fun v hv=>(List.nodup_cons.mp nd).1 (List.of_mem_zip hv).1,if_neg hk]
  simp
 | p :: P,w :: vs,i + 1,m,nd,h1,h2,hk=>by
  show bindC kindOf ((p,w) :: P.zip vs) m x=_
  unfold bindC
  exact bindC_get (i:=i) (List.nodup_cons.mp nd).2 (by simpa using h1) (by simpa using h2) hk
def start (N:List Str) (vs:List V):St:=vs.map some ++ List.replicate (N.length - vs.length) none
def cxOf (CX:CXT) (P:Program) (w:World) (K:PySem.W.Frag) (mg:Str→Option Value) (base:Heap) (N:List Str) (qual:Str) (scope:Scope) (f:Addr) (cd:Value) (A:Around) (outer:List Env) (s:Shared) (H:Hp) (E:XK):Cx where
 prog:=P
 w:=w
 K:=K
 mg:=mg
 base:=base
 A:=A.deeper (envOfC qual scope s.heap.objs.size f cd)
 N:=N
 s₀:=s
 H₀:=H
 env:=envOfC qual scope s.heap.objs.size f cd
 outer:=outer
 stack:=envOfC qual scope s.heap.objs.size f cd :: outer
 ex:=[]
 calm:=true
 fn:=fun _=>true
 pn:=[]
 xe:=fun e s'=>wpAny (model P w) (A.deeper (envOfC qual scope s.heap.objs.size f cd)) (leaving (envOfC qual scope s.heap.objs.size f cd) e) (fun _ s''=>CX outer H s E e s'') (fun e' s''=>CX outer H s E e' s'') s'
theorem cell_has {sc:Scope} {n:Nat} {x:Str} (h:sc.names.lookup x=some .cell):∃ c,(cellsFrom n sc.names []).lookup x=some c:=by
 have q:=PySem.W.cellsFrom_some sc.names n [] (.inl h)
 exact Option.isSome_iff_exists.mp q
theorem inv_start {CX:CXT} {P:Program} {w:World} {K:PySem.W.Frag} {mg:Str→Option Value} {base:Heap} {N ps:List Str} {qual:Str} {scope:Scope} {f:Addr} {cd:Value} {A:Around} {outer:List Env} {s s1:Shared} {H:Hp} {E:XK} {us:List Value} {vs:List V}
  (S:FnScope N ps scope) (hd:A.handled=none) (e0:Env0 P w K mg base A outer s H) (hl:vs.length=ps.length) (r:Vals vs us)
  (x:InCallC s s.heap.objs.size (bindL (envOfC qual scope s.heap.objs.size f cd).kindOf (ps.zip us) fun _=>none) (cellsFrom (s.heap.objs.size + 1) scope.names []) (bindC (envOfC qual scope s.heap.objs.size f cd).kindOf (ps.zip us) fun _=>none) s1) :
  Inv (cxOf CX P w K mg base N qual scope f cd A outer s H E) [] (start N vs) H s1:=by
 have hpl:ps.length≤N.length:=by have:=congrArg List.length S.pre; rw [List.length_take] at this; omega
 obtain ⟨h1,tk,rfl,hk⟩:=x.done
 have noA:∀ b:Addr,b ∉ (cxOf CX P w K mg base N qual scope f cd A outer s H E).ex:=fun b z=>absurd (show b∈([]:List Addr) from z) (by simp)
 refine ⟨⟨e0.mod,S.kind,rfl,rfl,Nat.le_refl _,fun y z c h1 h2=>?_,fun y hy=>?_,fun y c _ h=>?_,fun _=>hd,Around.frames_deeper e0.frames,.inr ⟨rfl,rfl⟩,fun b z=>absurd z (noA b),e0.bs,e0.bsz,fun b _ _=>noA b,fun b z=>absurd z (noA b),e0.funs,e0.frf⟩,
  rfl,e0.bare,Un.kept hk,⟨_,x.toInCall.ns,fun i y v h1 h2 h3=>?_⟩,fun y c h=>⟨_,x.cell y c h⟩,e0.hok.fresh (Nat.le_refl _),fun y c h=>?_,fun p hp=>absurd (show p∈([]:List (Addr×Obj)) from hp) (by simp),e0.hok.kept hk,?_⟩
 ·exact name_of_addr x.apart (PySem.mem_of_lookup h1) (PySem.mem_of_lookup h2)
 ·have hy:scope.names.lookup y=some .cell∨scope.names.lookup y=some .free:=hy
  rcases hy with hy | hy
  ·exact cell_has hy
  ·exact absurd rfl (S.nofree _ (PySem.mem_of_lookup hy))
 ·exact Nat.le_of_lt (x.above y c (PySem.mem_of_lookup h))
 ·have hi:i < vs.length:=by
   unfold start at h2
   by_cases hi:i < vs.length
   ·exact hi
   ·rw [List.getElem?_append_right (by simpa using hi)] at h2
    rw [List.getElem?_replicate] at h2
    split at h2 <;> cases h2
  have ha:vs[i]?=some v:=by
   unfold start at h2
   rw [List.getElem?_append_left (by simpa using hi),List.getElem?_map] at h2
   cases e:vs[i]? with
   | none=>rw [e] at h2; cases h2
   | some a=>rw [e] at h2; cases h2; rfl
  obtain ⟨u,hu,rv⟩:=r.get ha
  have hp:ps[i]?=some y:=by
   rw [← S.pre,List.getElem?_take_of_lt (by omega)]; exact h1
  have ndP:ps.Nodup:=by rw [← S.pre]; exact S.nd.sublist (List.take_sublist _ _)
  refine ⟨u,rv,?_⟩
  rcases S.par y (List.mem_of_getElem? hp) with k | k
  ·exact .inl ⟨k,bindL_get ndP hp hu k⟩
  ·obtain ⟨c,e⟩:=cell_has (n:=s.heap.objs.size + 1) k
   refine .inr ⟨.inl k,c,e,?_⟩
   have q:=x.cell y c e
   rw [bindC_get ndP hp hu (by show scope.names.lookup y≠_; rw [k]; decide)] at q
   exact q
 ·exact e0.hok.fresh (Nat.le_of_lt (x.above y c (PySem.mem_of_lookup h)))
 ·unfold start
  show _=N.length
  rw [List.length_append,List.length_map,List.length_replicate]
  omega
theorem fn_of {CX:CXT} {P:Program} {w:World} {K:PySem.W.Frag} {mg:Str→Option Value} {base:Heap} {k:Nat} {f:Addr} {name qual:Str} {params:Arguments} {body:List Stmt} {scope:Scope} {dV kV doc pm cdv ct oc:Value} {an od:Option Addr}
  {osl:Array (Option Value)} {N ps:List Str} {sp:Sp} (lk:K.lookup f=some ⟨oc,od,.func (PySem.W.fnOf name qual params body scope dV kV doc pm an cdv ct),osl⟩) (hcd:PySem.W.codeIn K cdv qual=true) (S:FnScope N ps scope)
  (len:∀ vs H Q E,sp vs H Q E→vs.length=ps.length)
  (hbody:∀ (A:Around) (outer:List Env) (s:Shared) (H:Hp) (vs:List V) (Q:VK) (E:XK),Room k (A.deeper (envOfC qual scope s.heap.objs.size f cdv))→sp vs H Q E →
   ∃ t,PSs (cxOf CX P w K mg base N qual scope f cdv A outer s H E) body t∧t { nx:=fun _ H'=>Q .non H',rt:=Q } (start N vs) H) :
  FnOk P w K mg base CX (k + 1) f (PySem.W.fnOf name qual params body scope dV kV doc pm an cdv ct) ps sp:=by
 refine ⟨len,fun A outer s H args us vs Q E hr e0 hb r hsp=>?_⟩
 have hl:=len _ _ _ _ hsp
 have KX:K.In s.heap:=e0.mod.kin.keeps fun b o e=>(e0.bs b o e).1
 have lim:s.heap.NoLimit:=e0.mod.nolimit.keeps fun b o e=>(e0.bs b o e).1
 have hkind:∀ y∈ps.zip us,scope.names.lookup y.1=some .local∨(scope.names.lookup y.1=some .cell∧((cellsFrom (s.heap.objs.size + 1) scope.names []).lookup y.1).isSome=true):=fun ⟨n,v⟩ hy=>by
  rcases S.par n (List.of_mem_zip hy).1 with q | q
  ·exact .inl q
  ·exact .inr ⟨q,PySem.W.cellsFrom_some _ _ _ (.inl q)⟩
 refine codeAny_call_function hr.depth (KX _ _ lk) rfl S.co S.gen rfl (PySem.W.codeRec_of KX hcd) (hb _ _ _ _ ?_)
 refine wpAny_newFunctionEnv_cells S.kind hkind fun env he s1 x=>?_
 subst he
 refine ⟨lim.keeps x.toInCall.keep,codeAny_func ?_⟩
 obtain ⟨t,ht,hq⟩:=hbody A outer s H vs Q E (hr.deeper _) hsp
 have I:Inv (cxOf CX P w K mg base N qual scope f cdv A outer s H E) [] (start N vs) H s1:=inv_start S hr.hd e0 hl r x
 refine wpAny_mono (ht [] s1 (start N vs) H _ I hq) (fun fl s' hs=>?_) fun e s' hs=>hs
 have fin:∀ {σ':St} {H':Hp} {v:V} {u:Value},Inv (cxOf CX P w K mg base N qual scope f cdv A outer s H E) [] σ' H' s'→RelV v u→Q v H'→CE outer P w H s Q u s' :=
  fun {σ' H' v u} J rv q=>⟨v,H',J.os,J.bare,J.base,J.hok,rv,q⟩
 cases fl with
 | ret u =>
  obtain ⟨v,σ',H',J,rv,q⟩:=hs
  exact fin J rv q
 | next =>
  obtain ⟨σ',H',J,q⟩:=hs
  exact fin (v:=V.non) (u:=Value.none) J rfl q
 | brk =>
  obtain ⟨_,_,_,q⟩:=hs
  exact False.elim q
 | cont =>
  obtain ⟨_,_,_,q⟩:=hs
  exact False.elim q
section
variable {X:Cx} {x:Str} {p pos:Pos} {e:Expr} {es:List Expr} {t:TA} {id T:String} {r:List V→Hp→VK→Prop}
def tCB (r:List V→Hp→VK→Prop) (t:TA):TE:=fun σ H Q=>t σ H fun vs H1=>r vs H1 Q
theorem pe_callB (hc:CallR X (.builtin id) r) (hg:Gl X x) (hm:X.mg x=none) (hv:bootBuiltins x=some (.builtin id)) (ha:PA X (e :: es) t) (hn:x≠"__name__":=by decide) (hdb:(x == ("__debug__":Str))=false:=by decide)
  (he:starEach (e :: es) X.env=(false,eval e X.env) :: starEach es X.env:=by rfl) (hpl:(backTo pos (starEach es X.env)).any (·.1)=false:=by rfl):PE X (.Call (.Name x p) (e :: es) [] pos) (tCB r t):=by
 intro pins s σ H Q I h
 refine wpAny_Call_Name_kw (ld_blt I hg hm hv ?_ hn hdb)
 exact PyProof.Rows.callWith_builtin1 (thn (ha pos pins s σ H _ I h) fun us s1 ⟨vs,H1,I1,r1,q1⟩=>hc pins s1 σ H1 vs us Q I1 r1 q1) he hpl
theorem pe_callTy (hc:CallR X (.type T) r) (hg:Gl X x) (hm:X.mg x=none) (hv:bootBuiltins x=some (.type T)) (ha:PA X (e :: es) t) (hn:x≠"__name__":=by decide) (hdb:(x == ("__debug__":Str))=false:=by decide)
  (he:starEach (e :: es) X.env=(false,eval e X.env) :: starEach es X.env:=by rfl) (hpl:(backTo pos (starEach es X.env)).any (·.1)=false:=by rfl):PE X (.Call (.Name x p) (e :: es) [] pos) (tCB r t):=by
 intro pins s σ H Q I h
 refine wpAny_Call_Name_kw (ld_blt I hg hm hv ?_ hn hdb)
 exact PyProof.Rows.callWith_type1 (thn (ha pos pins s σ H _ I h) fun us s1 ⟨vs,H1,I1,r1,q1⟩=>hc pins s1 σ H1 vs us Q I1 r1 q1) he hpl
end
end L2
namespace HT
open PySem PyProof.Rows
def lexLt:List Int→List Int→Bool
 | [],[]=>false
 | [],_ :: _=>true
 | _ :: _,[]=>false
 | x :: xs,y :: ys=>if x=y then lexLt xs ys else decide (x < y)
theorem lexLt_cons (x y:Int) (xs ys:List Int):lexLt (x :: xs) (y :: ys)=if x=y then lexLt xs ys else decide (x < y):=rfl
theorem lexLt_nil_nil:lexLt [] []=false:=rfl
theorem lexLt_nil_cons (y:Int) (ys:List Int):lexLt [] (y :: ys)=true:=rfl
theorem lexLt_cons_nil (x:Int) (xs:List Int):lexLt (x :: xs) []=false:=rfl
theorem eqAt_int (A:Around) (s:Shared) (a:Int) (t:Tok) (c:Int) (u:Tok):∃ e,SeqAt.EqAt A s (.int a t) (.int c u) e∧(e=true↔a=c) :=
 ⟨(a == c),SeqAt.EqAt.int_int a t c u,by simp⟩
theorem rcLt_int (A:Around) (s:Shared) (a:Int) (t:Tok) (c:Int) (u:Tok) (prog:Program) (w:World) (E:Value→Shared→Prop) (Q:Value→Shared→Prop) (h:Q (.bool (decide (a < c))) s) :
  wpAny (model prog w) A (richCompare .Lt (.int a t) (.int c u)) Q E s :=
 (PyProof.Rows.lt_int h:wpAny (model prog w) A (compareOp .Lt (.int a t) (.int c u)) Q E s)
section
open PySem.SeqAt
open PySem.AutoSeq1 (wpAny_loadPart')
open PySem.MeetsSeq PySem.MeetsSeq2 PySem.MeetsSeq3
theorem tuple_lt_ints (l b:Addr) (items items2:Array Value) (n n2:Nat) (dd dd2:Option Addr) (sl sl2:Array (Option Value)) (ns ms:List Int) (hi:IntsAre items.toList ns) (hj:IntsAre items2.toList ms) :
  Meets (Builtin.«tuple.__lt__» ⟨[.ref l,.ref b],[]⟩)
   (fun _ R s=>s.heap.get? l=some { cls:=.type "tuple",dict:=dd,data:=.seq items n,slots:=sl }∧s.heap.get? b=some { cls:=.type "tuple",dict:=dd2,data:=.seq items2 n2,slots:=sl2 } ∧
    R (.ok (.ret (.bool (lexLt ns ms)))) s) :=
 .of_wp fun prog w A R s h=>by
  obtain ⟨hp,g,d,tk,os⟩:=s; obtain ⟨hl,hb,h⟩:=h
  have f2:=AutoSeq1.sub_tuple_tuple
  have z1:items.size=ns.length:=by rw [← hi.length]; simp
  have z2:items2.size=ms.length:=by rw [← hj.length]; simp
  wp_walk using wpAny_loadPart' hl,wpAny_loadPart' hb,wpAny_forIn_list _ (fun rest b s'=>b.1=none∧s'=⟨hp,g,d,tk,os⟩∧∃ (vs ws:List Value) (ns' ms':List Int),rest=vs.zip ws ∧
   IntsAre vs ns'∧IntsAre ws ms'∧ns'.length + items2.size=ms'.length + items.size∧R (.ok (.ret (.bool (lexLt ns' ms')))) ⟨hp,g,d,tk,os⟩) _
  case turn =>
   rintro ⟨y,x⟩ rest b s' ⟨hb',rfl,vs,ws,ns',ms',hz,hvi,hwi,hlen,hR⟩
   cases hvi with
   | nil=>rw [List.zip_nil_left] at hz; cases hz
   | cons a t hvi' =>
    cases hwi with
    | nil=>rw [List.zip_nil_right] at hz; cases hz
    | cons c u hwi' =>
     rw [List.zip_cons_cons] at hz
     injection hz with hyx hrest
     injection hyx with hy hx
     subst hy hx
     rw [lexLt_cons] at hR
     simp only [List.length_cons] at hlen
     obtain ⟨e,he,hiff⟩:=eqAt_int A.in1 ⟨hp,g,d,tk,os⟩ a t c u
     refine wpAny_bind (he prog w _ _ ?_)
     cases e with
     | true =>
      rw [if_pos (hiff.mp rfl)] at hR
      wp_walk
      exact ⟨rfl,rfl,_,_,_,_,hrest,hvi',hwi',by omega,hR⟩
     | false =>
      rw [if_neg (fun q=>absurd (hiff.mpr q) Bool.false_ne_true)] at hR
      have hri:=rcLt_int A.in1 ⟨hp,g,d,tk,os⟩ a t c u prog w
      wp_walk using hri
      exact ⟨_,rfl,by simpa using hR⟩
  case fin =>
   rintro ⟨b1,b2⟩ s' ⟨hb',rfl,vs,ws,ns',ms',hz,hvi,hwi,hlen,hR⟩
   simp only at hb'
   subst hb'
   have hv:lexLt ns' ms'=decide (items.size < items2.size):=by
    cases hvi with
    | nil =>
     cases hwi with
     | nil =>
      simp only [List.length_nil] at hlen
      rw [lexLt_nil_nil]
      exact (decide_eq_false (by omega)).symm
     | cons c u hw =>
      simp only [List.length_nil,List.length_cons] at hlen
      rw [lexLt_nil_cons]
      exact (decide_eq_true (by omega)).symm
    | cons a t hv =>
     cases hwi with
     | nil =>
      simp only [List.length_nil,List.length_cons] at hlen
      rw [lexLt_cons_nil]
      exact (decide_eq_false (by omega)).symm
     | cons c u hw =>
      rw [List.zip_cons_cons] at hz
      cases hz
   rw [hv] at hR
   wp_walk
   exact ⟨_,rfl,by simpa [Builtin.Tuple.tupleCompareSizes] using hR⟩
  case h =>
   exact ⟨rfl,rfl,items.toList,items2.toList,ns,ms,rfl,hi,hj,by omega,h⟩
end
section
variable {prog:Program} {w:World} {A:Around} {E:Value→Shared→Prop} {s:Shared}
theorem lt_tupInts {l b:Addr} {items items2:Array Value} {ns ms:List Int} {Q:Value→Shared→Prop} (hl:IsTup s.heap l items) (hb:IsTup s.heap b items2) (hi:IntsAre items.toList ns) (hj:IntsAre items2.toList ms)
  (hu:A.units < cLine) (h:Q (.bool (lexLt ns ms)) s):wpAny (model prog w) A (compareOp .Lt (.ref l) (.ref b)) Q E s:=by
 obtain ⟨⟨cls,dd,data,sl⟩,ho,hc,n,hd⟩:=id hl
 obtain ⟨⟨cls2,dd2,data2,sl2⟩,ho2,hc2,n2,hd2⟩:=id hb
 simp only at hc hd hc2 hd2
 subst hc hd hc2 hd2
 exact richCompare_meets_room (op:=.Lt) ⟨_,ho,rfl⟩ ⟨_,ho2,rfl⟩ PySem.F.slot_tuple_lt PySem.F.entry_tuple_lt (PySem.F.args_tuple_lt_2 _ _) (tuple_lt_ints l b items items2 n n2 dd dd2 sl sl2 ns ms hi hj)
  ⟨ho,ho2,show Value.bool (lexLt ns ms)≠Value.notImplemented∧Q (.bool (lexLt ns ms)) s from ⟨(fun x=>nomatch x),h⟩⟩ hu
theorem cat_tup {t b:Addr} {vs ws:List Value} {Q:Value→Shared→Prop} (ht:IsTup s.heap t vs.toArray) (hb:IsTup s.heap b ws.toArray) (hv:vs≠[])
  (h1:ws=[]→Q (.ref t) s) (h2:ws≠[]→Q (.ref s.heap.objs.size) { s with heap:=s.heap.push { cls:=.type "tuple",data:=.seq (vs ++ ws).toArray } })
  (hsz:vs.length + ws.length≤sizeLine):wpAny (model prog w) A (binaryOp .Add (.ref t) (.ref b)) Q E s:=by
 obtain ⟨⟨cls,dd,data,sl⟩,ho,hc,n,hd⟩:=id ht
 obtain ⟨⟨cls2,dd2,data2,sl2⟩,ho2,hc2,n2,hd2⟩:=id hb
 simp only at hc hd hc2 hd2
 subst hc hd hc2 hd2
 have e:vs.toArray ++ ws.toArray=(vs ++ ws).toArray:=by simp
 by_cases hw:ws=[]
 ·exact concat_meets ⟨_,ho,rfl⟩ ⟨_,ho2,rfl⟩ noFill_tuple_add seq_tuple_add PySem.F.slot_tuple_add PySem.F.entry_tuple_add (PySem.F.args_tuple_add_2 _ _)
   (tuple_addW1 t b vs.toArray ws.toArray n n2 dd dd2 sl sl2 (by simpa using hv) (by simp [hw])) ⟨ho,ho2,h1 hw⟩
 ·refine concat_meets ⟨_,ho,rfl⟩ ⟨_,ho2,rfl⟩ noFill_tuple_add seq_tuple_add PySem.F.slot_tuple_add PySem.F.entry_tuple_add (PySem.F.args_tuple_add_2 _ _)
   (tuple_addW2 t b vs.toArray ws.toArray n n2 dd dd2 sl sl2 (by simpa using hv) (by simpa using hw) (by rw [List.size_toArray,List.size_toArray]; exact hsz)) ⟨ho,ho2,?_⟩
  rw [e]
  exact h2 hw
def sIx (n d:Nat):Option Int→Nat
 | none=>d
 | some v=>if v < 0 then (v + (n:Int)).toNat else min v.toNat n
end
end HT
namespace L2
open PySem PySem.Spec PyProof.Rows
abbrev TO:=St→Hp→(Option Int→Hp→Prop)→Prop
def PO (X:Cx) (e:Option Expr) (t:TO):Prop :=
 ∀ (pins:List (Addr×Obj)) (s:Shared) (σ:St) (H:Hp) (Q:Option Int→Hp→Prop),Inv X pins σ H s→t σ H Q →
  wpAny (model X.prog X.w) X.A (evalPart e X.env) (fun u s'=>∃ o H',Inv X pins σ H' s'∧IsPart u o∧Q o H') X.xe s
def tNoPart:TO:=fun _ H Q=>Q none H
def tPart (t:TE):TO:=fun σ H Q=>t σ H fun x H1=>∃ i,x=.int i∧Q (some i) H1
theorem intsAre_of {ns:List Int}:∀ {us:List Value},Vals (ns.map V.int) us→IntsAre us ns:=by
 induction ns with
 | nil=>intro us r; rw [List.map_nil] at r; cases r; exact .nil
 | cons n ns ih =>
  intro us r
  rw [List.map_cons] at r
  cases r with
  | cons r1 r2 =>
   obtain ⟨t,e⟩:=r1
   subst e
   exact .cons n t (ih r2)
section
variable {X:Cx} {e:Expr} {te:TE} {lo hi:Option Expr} {tl th:TO} {pos p2:Pos}
theorem po_none:PO X none tNoPart:=by
 intro pins s σ H Q I h
 rw [evalPart_none]
 exact wpAny_pure ⟨none,H,I,.none,h⟩
theorem po_some (h:PE X e te):PO X (some e) (tPart te):=by
 intro pins s σ H Q I hw
 rw [evalPart_some]
 refine thn (h pins s σ H _ I hw) fun u s1 ⟨x,H1,I1,r1,q1⟩=>?_
 obtain ⟨i,rfl,q⟩:=q1
 obtain ⟨t,rfl⟩:=r1
 exact ⟨some i,H1,I1,.int i t,q⟩
def SlR (X:Cx) (r:V→Option Int→Option Int→Hp→VK→Prop):Prop :=
 ∀ (pins:List (Addr×Obj)) (s:Shared) (σ:St) (H:Hp) (x:V) (v vl vu:Value) (lo hi:Option Int) (sl:Addr) (Q:VK),Inv X pins σ H s→RelV x v→s.heap.IsSliceOf sl vl vu .none→IsPart vl lo→IsPart vu hi→r x lo hi H Q →
  ∃ T id,typeLookup (.type T) "__getitem__"=pure (some (.builtin id))∧s.TypeIs v T∧wpAny (model X.prog X.w) X.A (getItem v (.ref sl)) (EP X pins σ Q) X.xe s
def tSl (r:V→Option Int→Option Int→Hp→VK→Prop) (te:TE) (tl th:TO):TE:=fun σ H Q=>te σ H fun x H1=>tl σ H1 fun l H2=>th σ H2 fun u H3=>r x l u H3 Q
theorem pe_slice {r:V→Option Int→Option Int→Hp→VK→Prop} (hr:SlR X r) (he:PE X e te) (hl:PO X lo tl) (hu:PO X hi th):PE X (.Subscript e (.Slice lo hi none p2) pos) (tSl r te tl th):=by
 intro pins s σ H Q I h
 refine Subscript_ (thn (he pins s σ H _ I h) fun v s1 ⟨x,H1,I1,r1,q1⟩=>?_)
 refine wpAny_Slice (thn (hl pins s1 σ H1 _ I1 q1) fun vl s2 ⟨l,H2,I2,pl,q2⟩=>thn (hu pins s2 σ H2 _ I2 q2) fun vu s3 ⟨u,H3,I3,pu,q3⟩=>?_)
 rw [evalPart_none]
 refine wpAny_pure ?_
 have I4:Inv X pins σ H3 { s3 with heap:=s3.heap.push { cls:=.type "slice",data:=.fields #[vl,vu,.none] } }:=I3.kept (t':=s3.toks) fun b ob q=>Heap.get?_push_of_some _ q
 obtain ⟨T,id,hT,ht,hg⟩:=hr pins { s3 with heap:=s3.heap.push { cls:=.type "slice",data:=.fields #[vl,vu,.none] } } σ H3 x v vl vu l u s3.heap.objs.size Q I4 r1 (Heap.IsSliceOf.new ..) pl pu q3
 show wpAny (model X.prog X.w) X.A (subscriptTail e (.Slice lo hi none p2) v (.ref s3.heap.objs.size)) (EP X pins σ Q) X.xe { s3 with heap:=s3.heap.push { cls:=.type "slice",data:=.fields #[vl,vu,.none] } }
 exact tail_any (ops:=[.ref s3.heap.objs.size,v]) ht hT hg (by with_unfolding_all rfl)
def cutV (xs:List V) (lo hi:Option Int):List V:=(xs.drop (HT.sIx xs.length 0 lo)).take (HT.sIx xs.length xs.length hi - HT.sIx xs.length 0 lo)
theorem cutV_length (xs:List V) (lo hi:Option Int):(cutV xs lo hi).length≤xs.length:=by
 unfold cutV
 rw [List.length_take,List.length_drop]
 omega
def rLtT (K:PySem.W.Frag):R2:=fun x y H Q=>∃ a b ns ms,x=.ref a∧y=.ref b∧SqT K H a (ns.map V.int)∧SqT K H b (ms.map V.int)∧Q (.bl (HT.lexLt ns ms)) H
theorem op_ltT (hu:X.A.units < cLine):OpR X (compareOp .Lt) (rLtT X.K):=by
 intro pins s σ H x y v u Q I rx ry h
 obtain ⟨a,b,ns,ms,rfl,rfl,ha,hb,q⟩:=h
 cases rx
 cases ry
 obtain ⟨its,r1,p1,_⟩:=I.tuple ha
 obtain ⟨its2,r2,p2,_⟩:=I.tuple hb
 have i1:IntsAre its.toArray.toList ns:=intsAre_of r1
 have i2:IntsAre its2.toArray.toList ms:=intsAre_of r2
 exact HT.lt_tupInts p1 p2 i1 i2 hu ⟨.bl (HT.lexLt ns ms),H,I,rfl,q⟩
def rCatT (K:PySem.W.Frag):R2:=fun x y H Q=>∃ a b xs ys,x=.ref a∧y=.ref b∧SqT K H a xs∧SqT K H b ys∧xs≠[]∧xs.length + ys.length≤sizeLine ∧
 (ys=[]→Q (.ref a) H)∧(ys≠[]→∀ p,H p=none→Q (.ref p) (upd H p (.tup (xs ++ ys))))
theorem Vals.nil_iff {xs:List V} {us:List Value} (r:Vals xs us):us=[]↔xs=[]:=by
 cases r with
 | nil=>simp
 | cons _ _=>simp
theorem op_catT:OpR X (binaryOp .Add) (rCatT X.K):=by
 intro pins s σ H x y v u Q I rx ry h
 obtain ⟨a,b,xs,ys,rfl,rfl,ha,hb,hx,hz,q1,q2⟩:=h
 cases rx
 cases ry
 obtain ⟨its,r1,p1,_⟩:=I.tuple ha
 obtain ⟨its2,r2,p2,_⟩:=I.tuple hb
 refine HT.cat_tup p1 p2 (fun z=>hx (r1.nil_iff.mp z)) (fun z=>⟨.ref a,H,I,rfl,q1 (r2.nil_iff.mp z)⟩) (fun z=>?_) (by rw [← r1.length,← r2.length]; exact hz)
 refine ⟨.ref s.heap.objs.size,_,I.laid (t':=s.toks) (o:=.tup (xs ++ ys)) (fun b ob q=>Heap.get?_push_of_some _ q) (Nat.le_refl _) ?_,rfl,q2 (fun w=>z (r2.nil_iff.mpr w)) _ (I.hok.fresh (Nat.le_refl _))⟩
 exact ⟨by rw [List.length_append]; exact hz,_,r1.append r2,TupX.new _ _⟩
end
def ixN (n:Nat) (i:Int):Option Nat:=if 0≤i then (if i < n then some i.toNat else none) else if -(n:Int)≤i then some (i + n).toNat else none
def atI {α:Type} (xs:List α) (i:Int):Option α:=(ixN xs.length i).bind fun j=>xs[j]?
theorem ixN_seq {n:Nat} {i:Int} {j:Nat} (h:ixN n i=some j):seqIndex? i n=some j∧j < n∧-(n:Int)≤i∧i < n:=by
 unfold ixN at h
 by_cases h0:0≤i
 ·rw [if_pos h0] at h
  by_cases h1:i < n
  ·rw [if_pos h1] at h
   have e:i.toNat=j:=Option.some.inj h
   exact ⟨by rw [seqIndex_of h0 h1,e],by omega,by omega,h1⟩
  ·rw [if_neg h1] at h; cases h
 ·rw [if_neg h0] at h
  by_cases h1:-(n:Int)≤i
  ·rw [if_pos h1] at h
   have e:(i + n).toNat=j:=Option.some.inj h
   exact ⟨by rw [seqIndex_neg (by omega) h1,e],by omega,h1,by omega⟩
  ·rw [if_neg h1] at h; cases h
theorem atI_get {α:Type} {xs:List α} {i:Int} {v:α} (h:atI xs i=some v):∃ j,seqIndex? i xs.length=some j∧xs[j]?=some v∧j < xs.length∧-(xs.length:Int)≤i∧i < xs.length:=by
 unfold atI at h
 cases e:ixN xs.length i with
 | none=>rw [e] at h; cases h
 | some j =>
  rw [e] at h
  obtain ⟨h1,h2,h3,h4⟩:=ixN_seq e
  exact ⟨j,h1,h,h2,h3,h4⟩
theorem atI_nat {α:Type} {xs:List α} {j:Nat} {v:α} (h:xs[j]?=some v):atI xs (j:Int)=some v:=by
 have hj:j < xs.length:=(List.getElem?_eq_some_iff.mp h).1
 have e:ixN xs.length (j:Int)=some j:=by
  unfold ixN
  rw [if_pos (by omega),if_pos (by omega)]; simp
 unfold atI; rw [e]; exact h
def PlainIx (b:Expr):Prop:=∀ o i,subscripted b false o i=operate [o,i] (getItem o i)
def IxR (X:Cx) (r:R2):Prop :=
 ∀ (value slice:Expr) (pins:List (Addr×Obj)) (s:Shared) (σ:St) (H:Hp) (x y:V) (v u:Value) (Q:VK),Inv X pins σ H s→RelV x v→RelV y u→r x y H Q →
  subscripted slice false v u=operate [v,u] (getItem v u)→wpAny (model X.prog X.w) X.A (subscriptTail value slice v u) (EP X pins σ Q) X.xe s
def MtR (X:Cx) (id:String) (r:V→List V→Hp→VK→Prop):Prop :=
 ∀ (pins:List (Addr×Obj)) (s:Shared) (σ:St) (H:Hp) (x:V) (xs:List V) (v:Value) (us:List Value) (Q:VK),Inv X pins σ H s→RelV x v→Vals xs us→r x xs H Q →
  wpAny (model X.prog X.w) X.A (call (.builtin id) (v :: us)) (EP X pins σ Q) X.xe s
section
variable {X:Cx} {a b:Expr} {ta tb:TE} {pos:Pos}
theorem pe_ix {r:R2} (hr:IxR X r) (ha:PE X a ta) (hb:PE X b tb) (hs:PlainIx b):PE X (.Subscript a b pos) (tOp r ta tb):=by
 intro pins s σ H Q I h
 exact Subscript_ (binT ha hb I h fun v u s2 x y H2 I2 rx ry q=>hr a b pins s2 σ H2 x y v u Q I2 rx ry q (hs _ _))
def rIxL (K:PySem.W.Frag):R2:=fun x y H Q=>∃ p xs i v,x=.ref p∧y=.int i∧SqL K H p xs∧atI xs i=some v∧Q v H
def rIxT (K:PySem.W.Frag):R2:=fun x y H Q=>∃ p xs i v,x=.ref p∧y=.int i∧SqT K H p xs∧atI xs i=some v∧Q v H
theorem ix_list:IxR X (rIxL X.K):=by
 intro value slice pins s σ H x y v u Q I rx ry h hs
 obtain ⟨p,xs,i,z,rfl,rfl,hq,he,q⟩:=h
 cases rx
 obtain ⟨t,rfl⟩:=ry
 obtain ⟨its,r,pl,hz⟩:=I.list hq
 obtain ⟨j,h1,h2,h3,h4,h5⟩:=atI_get he
 obtain ⟨w,ew,rw'⟩:=r.get h2
 have hl:=r.length
 have hn:=line63
 have fin:EP X pins σ Q w s:=⟨z,H,I,rw',q⟩
 by_cases h0:0≤i
 ·have hj:i.toNat=j:=by
   rw [seqIndex_of h0 h5] at h1
   exact Option.some.inj h1
  exact item_listR pl.isList h0 (by omega) (by rw [hj]; simpa using ew) fin hs
 ·have hj:(i + (its.toArray.size:Int)).toNat=j:=by
   rw [seqIndex_neg (by omega) h4] at h1
   rw [List.size_toArray,← hl]
   exact Option.some.inj h1
  exact subscriptTail_builtinR (x:=w) pl.isList.typeIs slot_list_getitem.lookup
   (wpAny_getItem_list_neg (Q:=fun r s'=>r=w∧EP X pins σ Q r s') pl.isList (by omega) (by rw [List.size_toArray] <;> omega) (by omega) (by rw [hj]; simpa using ew) ⟨rfl,fin⟩) hs
theorem ix_tup:IxR X (rIxT X.K):=by
 intro value slice pins s σ H x y v u Q I rx ry h hs
 obtain ⟨p,xs,i,z,rfl,rfl,hq,he,q⟩:=h
 cases rx
 obtain ⟨t,rfl⟩:=ry
 obtain ⟨its,r,pl,hz⟩:=I.tuple hq
 obtain ⟨j,h1,h2,h3,h4,h5⟩:=atI_get he
 obtain ⟨w,ew,rw'⟩:=r.get h2
 have hl:=r.length
 have hn:=line63
 have fin:EP X pins σ Q w s:=⟨z,H,I,rw',q⟩
 exact subscriptTail_builtinR (x:=w) pl.typeIs slot_tuple_getitem.lookup
  (getItem_tuple (j:=j) (Q:=fun r s'=>r=w∧EP X pins σ Q r s') pl (by omega) (by omega) (by rw [List.size_toArray,← hl]; exact h1) (by simpa using ew) ⟨rfl,fin⟩) hs
theorem slice_bounds (lo hi:Option Int) (n:Nat):(sliceBounds lo hi none n).1=((HT.sIx n 0 lo:Nat):Int)∧(sliceBounds lo hi none n).2.1=((HT.sIx n n hi:Nat):Int)∧(sliceBounds lo hi none n).2.2=1:=by
 refine ⟨?_,?_,rfl⟩
 ·cases lo with
  | none=>simp [sliceBounds,HT.sIx]
  | some i =>
   simp only [sliceBounds,HT.sIx,Option.getD_none,show (1:Int) > 0 by decide,if_true]
   by_cases h:i < 0
   ·simp only [h,if_true] <;> omega
   ·simp only [h,if_false] <;> omega
 ·cases hi with
  | none=>simp [sliceBounds,HT.sIx]
  | some i =>
   simp only [sliceBounds,HT.sIx,Option.getD_none,show (1:Int) > 0 by decide,if_true]
   by_cases h:i < 0
   ·simp only [h,if_true] <;> omega
   ·simp only [h,if_false] <;> omega
theorem slicePick_cut (its:List Value) (lo hi:Option Int):slicePick its.toArray lo hi none=((its.drop (HT.sIx its.length 0 lo)).take (HT.sIx its.length its.length hi - HT.sIx its.length 0 lo)).toArray:=by
 obtain ⟨h1,h2,h3⟩:=slice_bounds lo hi its.toArray.size
 unfold slicePick
 rw [h1,h2,h3]
 simp only [sliceRange_one,pick_run,List.size_toArray] <;> rfl
def rSlL (K:PySem.W.Frag):V→Option Int→Option Int→Hp→VK→Prop:=fun x lo hi H Q=>∃ a xs,x=.ref a∧SqL K H a xs∧∀ p,H p=none→Q (.ref p) (upd H p (.lst (cutV xs lo hi)))
theorem sl_list:SlR X (rSlL X.K):=by
 intro pins s σ H x v vl vu lo hi sl Q I rx hs pl pu h
 obtain ⟨a,xs,rfl,hx,q⟩:=h
 cases rx
 obtain ⟨its,r,ht,hz⟩:=I.list hx
 have hlen:=r.length
 refine ⟨"list",_,slot_list_getitem.lookup,ht.isList.typeIs,?_⟩
 refine wpAny_getItem_list_slice ht.isList hs pl pu .none (by simp) ?_ (by rw [List.size_toArray] <;> omega)
 rw [slicePick_cut,← hlen]
 refine ⟨.ref s.heap.objs.size,_,I.laid (t':=s.toks) (o:=.lst (cutV xs lo hi)) (fun b ob q=>Heap.get?_push_of_some _ q) (Nat.le_refl _) ?_,rfl,q _ (I.hok.fresh (Nat.le_refl _))⟩
 exact ⟨Nat.le_trans (cutV_length xs lo hi) hz,_,0,(r.drop (HT.sIx xs.length 0 lo)).take (HT.sIx xs.length xs.length hi - HT.sIx xs.length 0 lo),Heap.get?_push_size _ rfl⟩
def flatV:V→Bool
 | .non=>true
 | .bl _=>true
 | .int _=>true
 | .str _=>true
 | _=>false
def eqV:V→V→Bool
 | .non,.non=>true
 | .bl a,.bl b=>a == b
 | .bl a,.int b=>(if a then 1 else 0) == b
 | .int a,.bl b=>a == (if b then 1 else 0)
 | .int a,.int b=>a == b
 | .str a,.str b=>a == b
 | _,_=>false
theorem eqAt_V {A:Around} {s:Shared} {y x:V} {u v:Value} (ry:RelV y u) (rx:RelV x v) (fy:flatV y=true) (fx:flatV x=true):SeqAt.EqAt A s u v (eqV y x):=by
 cases y with
 | non =>
  cases ry
  cases x with
  | non=>cases rx; exact SeqAt.EqAt.same _
  | bl b=>cases rx; exact SeqAt.EqAt.none_bool b
  | int b=>obtain ⟨t,rfl⟩:=rx; exact SeqAt.EqAt.none_int b t
  | str b=>obtain ⟨t,rfl⟩:=rx; exact SeqAt.EqAt.none_str b t
  | _=>exact absurd (show false=true from fx) Bool.false_ne_true
 | bl a =>
  cases ry
  cases x with
  | non=>cases rx; exact SeqAt.EqAt.bool_none a
  | bl b=>cases rx; exact SeqAt.EqAt.bool_bool a b
  | int b=>obtain ⟨t,rfl⟩:=rx; exact SeqAt.EqAt.bool_int a b t
  | str b=>obtain ⟨t,rfl⟩:=rx; exact SeqAt.EqAt.bool_str a b t
  | _=>exact absurd (show false=true from fx) Bool.false_ne_true
 | int a =>
  obtain ⟨t',rfl⟩:=ry
  cases x with
  | non=>cases rx; exact SeqAt.EqAt.int_none a t'
  | bl b=>cases rx; exact SeqAt.EqAt.int_bool a t' b
  | int b=>obtain ⟨t,rfl⟩:=rx; exact SeqAt.EqAt.int_int a t' b t
  | str b=>obtain ⟨t,rfl⟩:=rx; exact SeqAt.EqAt.int_str a t' b t
  | _=>exact absurd (show false=true from fx) Bool.false_ne_true
 | str a =>
  obtain ⟨t',rfl⟩:=ry
  cases x with
  | non=>cases rx; exact SeqAt.EqAt.str_none a t'
  | bl b=>cases rx; exact SeqAt.EqAt.str_bool a t' b
  | int b=>obtain ⟨t,rfl⟩:=rx; exact SeqAt.EqAt.str_int a t' b t
  | str b=>obtain ⟨t,rfl⟩:=rx; exact SeqAt.EqAt.str_str a t' b t
  | _=>exact absurd (show false=true from fx) Bool.false_ne_true
 | _=>exact absurd (show false=true from fy) Bool.false_ne_true
def eqU (x:V) (u:Value):Bool:=match u with
 | .none=>eqV .non x
 | .bool b=>eqV (.bl b) x
 | .int i _=>eqV (.int i) x
 | .str z _=>eqV (.str z) x
 | _=>false
theorem eqU_of {x y:V} {u:Value} (r:RelV y u) (f:flatV y=true):eqU x u=eqV y x:=by
 cases y with
 | non=>cases r; rfl
 | bl b=>cases r; rfl
 | int i=>obtain ⟨t,rfl⟩:=r; rfl
 | str z=>obtain ⟨t,rfl⟩:=r; rfl
 | _=>exact absurd (show false=true from f) Bool.false_ne_true
theorem mem_eqAt {A:Around} {s:Shared} {x:V} {v:Value} (rx:RelV x v) (fx:flatV x=true):∀ {xs:List V} {us:List Value},Vals xs us→xs.all flatV=true→∀ u∈us,SeqAt.EqAt A s u v (eqU x u)
 | _,_,.nil,_=>fun u hu=>by cases hu
 | y :: xs,u :: us,.cons r t,f=>fun u' hu=>by
  rw [List.all_cons,Bool.and_eq_true] at f
  rcases List.mem_cons.mp hu with rfl | hu
  ·rw [eqU_of r f.1]; exact eqAt_V r rx f.1 fx
  ·exact mem_eqAt rx fx t f.2 u' hu
theorem call_len_seq:CallR X (.builtin "len") (fun xs H Q=>∃ p ys,xs=[.ref p]∧(SqL X.K H p ys∨SqT X.K H p ys)∧Q (.int ys.length) H):=by
 intro pins s σ H xs us Q I r h
 obtain ⟨p,ys,rfl,hq,q⟩:=h
 obtain ⟨u,rfl,rx⟩:=vals1 r
 cases rx
 have hn:=line63
 rcases hq with hq | hq
 ·obtain ⟨its,r',pl,hz⟩:=I.list hq
  have hlen:=r'.length
  exact Calls.call_len_list pl.isList (by simp only [List.size_toArray] <;> omega) ⟨.int ys.length,H,I.tok _,⟨s.toks + 1,by rw [List.size_toArray,hlen]⟩,q⟩
 ·obtain ⟨its,r',pl,hz⟩:=I.tuple hq
  have hlen:=r'.length
  exact len_tuple pl (by simp only [List.size_toArray] <;> omega) ⟨.int ys.length,H,I.tok _,⟨s.toks + 1,by rw [List.size_toArray,hlen]⟩,q⟩
def tyV (K:PySem.W.Frag) (T:String) (x:V) (H:Hp):Prop:=match x with
 | .str _=>T="str"
 | .int _=>T="int"
 | .ref p=>(T="list"∧∃ xs,SqL K H p xs)∨(T="tuple"∧∃ o,K.lookup p=some o∧o.cls=.type "tuple"∧o.dict=none) ∨
   (T="dict"∧((∃ kvs,H p=some (.dK kvs))∨∃ kvs,H p=some (.dT kvs)))∨(T="set"∧∃ S n,H p=some (.set S n))
 | _=>False
theorem tyV_is {pins:List (Addr×Obj)} {σ:St} {H:Hp} {s:Shared} {T:String} {x:V} {v:Value} (I:Inv X pins σ H s) (r:RelV x v) (ty:tyV X.K T x H) :
  s.TypeIs v T∧∀ a,v=.ref a→∃ ob,s.heap.get? a=some ob∧ob.dict=none:=by
 cases x with
 | str z =>
  obtain ⟨t,rfl⟩:=r
  cases (show T="str" from ty)
  exact ⟨typeIs_str s z t,fun _ e=>nomatch e⟩
 | int i =>
  obtain ⟨t,rfl⟩:=r
  cases (show T="int" from ty)
  exact ⟨typeIs_int s i t,fun _ e=>nomatch e⟩
 | ref p =>
  cases r
  rcases ty with ⟨rfl,xs,hq⟩ | ⟨rfl,o,hk,hc,hd⟩ | ⟨rfl,hk⟩ | ⟨rfl,S,n,hk⟩
  ·obtain ⟨its,_,pl,_⟩:=I.list hq
   refine ⟨pl.isList.typeIs,fun a e=>?_⟩
   cases e
   obtain ⟨o,n,e,c,hd,_⟩:=pl
   exact ⟨o,e,hd⟩
  ·refine ⟨⟨o,I.kIn p o hk,hc⟩,fun a e=>?_⟩
   cases e
   exact ⟨o,I.kIn _ o hk,hd⟩
  ·have z:∃ o,s.heap.get? p=some o∧o.ExactDict:=by
    rcases hk with ⟨kvs,hk⟩ | ⟨kvs,hk⟩
    ·obtain ⟨_,_,_,_,o,_,_,e,ex,_⟩:=I.hok p _ hk
     exact ⟨o,e,ex⟩
    ·obtain ⟨_,_,_,_,o,_,_,e,ex,_⟩:=I.hok p _ hk
     exact ⟨o,e,ex⟩
   obtain ⟨o,e,ex⟩:=z
   refine ⟨⟨o,e,ex.1⟩,fun a e2=>?_⟩
   cases e2
   exact ⟨o,e,ex.2.1⟩
  ·obtain ⟨o,_,_,_,e,ex,_⟩:=I.hok p _ hk
   refine ⟨⟨o,e,ex.1⟩,fun a e2=>?_⟩
   cases e2
   exact ⟨o,e,ex.2.1⟩
 | _=>exact False.elim ty
def tBM (K:PySem.W.Frag) (T:String) (r:V→List V→Hp→VK→Prop) (to:TE) (t:TA):TE:=fun σ H Q=>to σ H fun x H1=>tyV K T x H1∧t σ H1 fun xs H2=>r x xs H2 Q
variable {o e:Expr} {es:List Expr} {to:TE} {t:TA} {name:Str} {apos cpos:Pos} {T id:String} {r:V→List V→Hp→VK→Prop}
theorem pe_bm (pa:PlainAttrs T) (slot:Slot T name id) (hty:typeOf (.builtin id)=pure (.type "method_descriptor")) (hm:MtR X id r) (ho:PE X o to) (ha:PA X (e :: es) t)
  (hbase:attributeBase o name X.env (eval o X.env)=eval o X.env:=by rfl)
  (hfew:((backTo cpos (starEach (e :: es) X.env)).all (fun x=>!x.1) && (backToKw cpos (keywordEach [] X.env)).all (fun x=>x.1.isSome)
   && decide ((e :: es).length + ([]:List Keyword).length + (if ([]:List Keyword).isEmpty then 0 else 1) < 30))=true:=by rfl)
  (hline:(apos.endLine == cpos.line)=true:=by rfl) (hs:starEach (e :: es) X.env=(false,eval e X.env) :: starEach es X.env:=by rfl) (hplain:(backTo cpos (starEach es X.env)).any (·.1)=false:=by rfl) :
  PE X (.Call (.Attribute o name apos) (e :: es) [] cpos) (tBM X.K T r to t):=by
 intro pins s σ H Q I h
 refine wpAny_Call_method_late hbase hfew hline rfl (thn (ho pins s σ H _ I h) fun v s1 ⟨x,H1,I1,r1,ty,q1⟩=>?_)
 obtain ⟨h1,h2⟩:=tyV_is I1 r1 ty
 refine ⟨T,id,pa,slot,hty,h1,h2,?_⟩
 have hA:=ha cpos pins s1 σ H1 _ I1 q1
 rw [hs] at hA ⊢
 refine Calls.callWith_builtin (by show (false || (backTo cpos (starEach es X.env)).any (·.1))=false; rw [hplain] <;> rfl) (Calls.evalArgs_plain ?_)
 exact thn hA fun us s2 ⟨vs,H2,I2,r2,q2⟩=>hm pins s2 σ H2 x vs v us Q I2 r1 r2 q2
/- xs.append(e),list.index on a module's tuple .. are MtR facts of 06m -/
end
def MtM (X:Cx) (id:String) (r:V→List V→Hp→VK→Prop):Prop :=
 ∀ (pins:List (Addr×Obj)) (s:Shared) (σ:St) (H:Hp) (x:V) (xs:List V) (v:Value) (us:List Value) (Q:VK),Inv X pins σ H s→RelV x v→Vals xs us→r x xs H Q →
  wpAny (model X.prog X.w) X.A (call (.builtin id) (v :: us)) (EP X pins σ Q) X.xe s
theorem Vals.one:∀ {x:V} {us:List Value},Vals [x] us→∃ u,us=[u]∧RelV x u
 | _,_,.cons r .nil=>⟨_,rfl,r⟩
theorem Vals.rep {xs:List V} {us:List Value} (h:Vals xs us):∀ k:Nat,Vals (List.replicate k xs).flatten (List.replicate k us).flatten
 | 0=>.nil
 | k + 1=>by
  rw [List.replicate_succ,List.replicate_succ,List.flatten_cons,List.flatten_cons]
  exact Vals.append h (Vals.rep h k)
theorem foldl_rep (its:List Value):∀ (k:Nat) (acc:List Value),
  List.foldl (fun x1 x2=>x1 ++ x2) acc.toArray (List.replicate k its.toArray)=(acc ++ (List.replicate k its).flatten).toArray
 | 0,acc=>by simp
 | k + 1,acc=>by
  have e:acc.toArray ++ its.toArray=(acc ++ its).toArray:=by simp
  have e2:(acc ++ its) ++ (List.replicate k its).flatten=acc ++ (List.replicate (k + 1) its).flatten:=by
   rw [List.replicate_succ,List.flatten_cons,List.append_assoc]
  rw [← e2,← foldl_rep its k (acc ++ its),← e,List.replicate_succ,List.foldl_cons]
section
variable {X:Cx} {pins:List (Addr×Obj)} {σ:St} {H:Hp} {s:Shared} {l b:Addr} {xs ys zs:List V}
theorem Inv.lset {its its':List Value} {n:Nat} {f:Array Value→Array Value} {t':Nat} (I:Inv X pins σ H s) (hH:H l=some (.lst xs))
  (e:s.heap.get? l=some { cls:=.type "list",data:=.seq its.toArray n }) (hf:f its.toArray=its'.toArray) (hv:Vals ys its') (hz:ys.length≤sizeLine) :
  Inv X pins σ (upd H l (.lst ys)) { s with heap:=s.heap.update l (Obj.mapSeq f),toks:=t' }:=by
 have q:=PySem.IsL.update e f
 rw [hf] at q
 refine I.write (x:=l) (e:=l) (by rw [hH]; exact trivial) (.inl rfl) (fun b' u hb hu=>(Heap.get?_update_other s.heap (Obj.mapSeq f) (Ne.symm hb)).trans hu) ⟨_,q⟩ ?_
 exact ⟨hz,its',_,hv,q⟩
theorem Inv.lnew {its:List Value} {t':Nat} (I:Inv X pins σ H s) (hv:Vals ys its) (hz:ys.length≤sizeLine) :
  Inv X pins σ (upd H s.heap.objs.size (.lst ys)) { s with heap:=s.heap.push { cls:=.type "list",data:=.seq its.toArray },toks:=t' } :=
 I.laid (fun _ _ q=>Heap.get?_push_of_some _ q) (Nat.le_refl _) ⟨hz,its,0,hv,Heap.get?_push_size _ rfl⟩
theorem Inv.fresh (I:Inv X pins σ H s):H s.heap.objs.size=none:=I.hok.fresh (Nat.le_refl _)
theorem Inv.lstM (I:Inv X pins σ H s) (hH:H l=some (.lst xs)):xs.length≤sizeLine∧∃ (its:List Value) (n:Nat),Vals xs its∧xs.length=its.length∧s.heap.get? l=some { cls:=.type "list",data:=.seq its.toArray n }:=by
 obtain ⟨z,its,n,r,e⟩:=I.hok l _ hH
 exact ⟨z,its,n,r,r.length,e⟩
theorem notLongL {n:Nat} (h:n≤sizeLine):Builtin.List.listTooLong n=false:=by
 unfold Builtin.List.listTooLong
 exact decide_eq_false (by omega)
end
section
variable {X:Cx}
def rAppend:V→List V→Hp→VK→Prop:=fun x vs H Q=>∃ l xs y,x=.ref l∧vs=[y]∧H l=some (.lst xs)∧xs.length < sizeLine∧Q .non (upd H l (.lst (xs ++ [y])))
theorem mt_append:MtM X "list.append" rAppend:=by
 intro pins s σ H x vs v us Q I rx rv h
 obtain ⟨l,xs,y,rfl,rfl,hH,hz,q⟩:=h
 cases rx
 obtain ⟨u,rfl,ru⟩:=rv.one
 obtain ⟨z,its,n,r,hl,e⟩:=I.lstM hH
 refine call_meets F.slot_list_append ⟨_,e,rfl⟩ F.entry_list_append (F.args_list_append_2 _ _) (PySem.list_append l its.toArray n u (by rw [List.size_toArray]; omega)) ⟨e,?_⟩
 refine ⟨.non,_,I.lset (its':=its ++ [u]) hH e (by simp) (r.append (.cons ru .nil)) ?_,rfl,q⟩
 rw [List.length_append,List.length_singleton]
 omega
def rCat:R2:=fun x y H Q=>∃ l b xs zs,x=.ref l∧y=.ref b∧H l=some (.lst xs)∧H b=some (.lst zs)∧xs.length + zs.length≤sizeLine∧∀ p,H p=none→Q (.ref p) (upd H p (.lst (xs ++ zs)))
theorem op_cat:OpR X (binaryOp .Add) rCat:=by
 intro pins s σ H x y v u Q I rx ry h
 obtain ⟨l,b,xs,zs,rfl,rfl,hH,hB,hz,q⟩:=h
 cases rx
 cases ry
 obtain ⟨z,its,n,r,hl,e⟩:=I.lstM hH
 obtain ⟨z2,its2,n2,r2,hl2,e2⟩:=I.lstM hB
 refine PySem.P.add_list e e2 ?_ (by rw [List.size_toArray,List.size_toArray]; omega)
 have ea:its.toArray ++ its2.toArray=(its ++ its2).toArray:=by simp
 rw [ea]
 exact ⟨.ref _,_,I.lnew (t':=s.toks) (r.append r2) (by rw [List.length_append]; omega),rfl,q _ I.fresh⟩
def rRep:R2:=fun x y H Q=>∃ l k xs,x=.ref l∧y=.int k∧H l=some (.lst xs)∧-(2 ^ 63)≤k∧k < 2 ^ 63∧xs.length * k.toNat≤sizeLine ∧
 ∀ p,H p=none→Q (.ref p) (upd H p (.lst (List.replicate k.toNat xs).flatten))
theorem len_rep {α:Type} (xs:List α) (k:Nat):(List.replicate k xs).flatten.length=k * xs.length:=by
 induction k with
 | zero=>simp
 | succ k ih=>rw [List.replicate_succ,List.flatten_cons,List.length_append,ih,Nat.succ_mul,Nat.add_comm]
theorem op_rep:OpR X (binaryOp .Mult) rRep:=by
 intro pins s σ H x y v u Q I rx ry h
 obtain ⟨l,k,xs,rfl,rfl,hH,h1,h2,hz,q⟩:=h
 cases rx
 obtain ⟨t,rfl⟩:=ry
 obtain ⟨z,its,n,r,hl,e⟩:=I.lstM hH
 have hlen:its.toArray.size * k.toNat≤sizeLine:=by rw [List.size_toArray,← hl]; exact hz
 have hcap:¬ its.toArray.size * k.toNat > (2 ^ 63 - 1) / 8:=by
  have:(sizeLine:Nat)≤(2 ^ 63 - 1) / 8:=by decide
  omega
 have hfit:¬ (!Builtin.List.listFitsIndex k)=true:=by
  rw [fitsIndex_both h1 h2]
  exact Bool.false_ne_true
 have hlong:¬ Builtin.List.listTooLong (its.toArray.size * k.toNat)=true:=by
  rw [notLongL hlen]
  exact Bool.false_ne_true
 have hnew:List.foldl (fun x1 x2=>x1 ++ x2) #[] (List.replicate (if its.toArray.isEmpty=true then 0 else k.toNat) its.toArray)=(List.replicate k.toNat its).flatten.toArray:=by
  have f0:∀ m:Nat,List.foldl (fun x1 x2=>x1 ++ x2) #[] (List.replicate m its.toArray)=(List.replicate m its).flatten.toArray:=fun m=>by
   have:=foldl_rep its m []
   rw [List.nil_append] at this
   exact this
  rw [f0]
  cases its with
  | nil=>simp
  | cons a r'=>rw [if_neg (by simp)]
 refine wpAny_binaryOp_repeat_ref (T:="list") (U:="int") (by decide) ⟨_,e,rfl⟩ (fun s'=>typeIs_int s' k t) noFill_list_mul F.fills_int_mul F.slot_int_rmul repeat_list F.slot_int_index.lookup
  (call_meets F.slot_int_rmul (typeIs_int s k t) F.entry_int_rmul (F.args_int_rmul_2 _ _) (int___rmul___int_list k t l its.toArray n)
   ⟨e,rfl,⟨_,e,rfl⟩,call_meets F.slot_list_mul ⟨_,e,rfl⟩ F.entry_list_mul (F.args_list_mul_2 _ _) (AutoListH.list___mul___list_int_3 l its.toArray n k t hfit hcap hlong) ⟨e,?_⟩⟩)
 rw [hnew]
 exact ⟨.ref _,_,I.lnew (t':=s.toks) (r.rep k.toNat) (by rw [len_rep,Nat.mul_comm]; exact hz),rfl,q _ I.fresh⟩
end
section
variable {prog:Program} {w:World} {A:Around} {E:Value→Shared→Prop} {s:Shared}
end
section
variable {X:Cx}
end
end L2
namespace Att
open PySem PySem.W PySem.Calls PyProof.Rows
theorem ints_of_wellAll {P:Params} {h:Heap}:∀ (ns:List Int) (vs:List Value),WellAll P h vs (ns.map WData.int)→IntsAre vs ns:=by
 intro ns
 induction ns with
 | nil =>
  intro vs w
  rw [List.map_nil] at w
  cases w
  exact .nil
 | cons n ns ih =>
  intro vs w
  rw [List.map_cons] at w
  cases w with
  | cons a b =>
   cases a
   exact .cons _ _ (ih _ b)
theorem script_of {l:OpenLaw} {n:Nat} (hn:l.most=some n) {P:Params} {h:Heap} {args:List WData} {vals:List Value}
  (hpre:l.row.toRowW.claim.pre args=true) (hwl:WellAll P h vals args) :
  ∃ a vs ns,vals=[Value.ref a]∧args=[WData.list (ns.map WData.int)]∧h.get? a=some { cls:=.type "list",data:=.seq vs.toArray }∧IntsAre vs ns∧ns.length≤n:=by
 have hsh:WShape.hasAll [] args [.list .int]=true:=(pre_splitW hpre).1
 have hc:l.pre.holds [] { args:=args }=true:=(pre_splitW hpre).2
 obtain ⟨d,r,rfl,h1,h2⟩:=hasAllW_cons hsh
 obtain rfl:=hasAllW_nil h2
 obtain ⟨xs,rfl,h3⟩:=hasW_list h1
 obtain ⟨ns,rfl⟩:=items_int h3
 have hlen:ns.length≤n:=by
  unfold OpenLaw.pre at hc
  have h4:(WTm.not (.lt (.lit (.int (n:Int))) (.len (.arg 0)))).holds [] { args:=[.list (ns.map .int)] }=true:=by
   have h4:=(holds_andW hc).1
   rw [hn] at h4
   exact h4
  have h5:=condW_of h4 (w_not (w_lt w_lit (w_len_list (w_arg rfl))))
  rw [List.length_map] at h5
  refine Nat.le_of_not_lt fun q=>?_
  have q':(n:Int) < ((ns.length:Nat):Int):=by omega
  first
   | (rw [decide_eq_true q'] at h5; exact absurd h5 (by decide))
   | (simp at h5; omega)
 cases hwl with
 | cons w1 w2 =>
  cases w2
  cases w1 with
  | list ho hall=>exact ⟨_,_,ns,rfl,rfl,ho,ints_of_wellAll ns _ hall,hlen⟩
theorem post_true (l:OpenLaw) (args:List WData):l.row.toRowW.claim.post args (.bool true) args=true :=
 postW_of (r:=l.row.toRowW) (X:=(true == true))
  (show WShape.has [] (.bool true) .bool=true by first | rfl | decide | simp [WShape.has,WShape.arms,WShape.armsAll])
  (show (WTm.eq .res (.lit (.bool true))).value [] { args:=args,res:=some (.bool true),after:=args }=some (.bool (true == true)) from w_eq_bool (w_res rfl) w_lit) rfl
theorem attach_call {l:OpenLaw} {n:Nat} {q:Program} {loose:List Str} {XP:(Str→Option Value)→Heap→Prop} {YP:World→Heap→Prop} {d:DefRec}
  (hn:l.most=some n) (hdf:d.params.defaults=[])
  (call:∀ (w:World) (s₀ s₁:Shared) (mg mb:Str→Option Value) (fa:Addr) (o:Obj) (pm cd doc:Value) (a:Addr) (vs:List Value) (ns:List Int),
   Ground q loose [] XP w s₀ mg mb s₁.heap→YP w s₁.heap →
   s₁.heap.get? fa=some o→o.data=.func (docDef d.name d.params d.body d.scope pm cd doc)→s₁.heap.CodeRec cd d.name→mg d.name=some (.ref fa) →
   s₁.heap.get? a=some { cls:=.type "list",data:=.seq vs.toArray }→IntsAre vs ns→ns.length≤n→s₁.gens=#[] →
   codeAny (model l.prog w) callerA (.call (.ref fa) ⟨[.ref a],[]⟩) (fun r s'=>r=.ok (.ret (.bool true))∧OldK s₁.heap s'.heap∧s'.os=s₁.os∧AllBare s'.gens) s₁) :
  WalkO q loose XP YP l.row.toRowW d [] (fun f vs=>PySem.call f vs):=by
 intro w s₀ s₁ mg mb G Y fa o pm cd doc dV kV ho hd hcd hD hmg hg args vals as hpre hlay hrd hwl hlo
 obtain rfl:dV=.none:=Dflts.none hD hdf
 obtain rfl:kV=.none:=Dflts.noKw hD
 obtain ⟨a,vs,ns,rfl,rfl,hobj,hints,hlen⟩:=script_of hn hpre hwl
 refine enter_call (codeAny_mono (call w s₀ s₁ mg mb fa o pm cd doc a vs ns G Y ho (fd_plain hd) hcd hmg hobj hints hlen hg) fun r s' hq=>?_)
 obtain ⟨rfl,h2,h3,h4⟩:=hq
 exact ⟨.inl ⟨.bool true,.bool true,[],rfl,fun _=>rfl,.bool true,post_true l _,fun _=>⟨List.Pairwise.nil,fun _ hm=>(nomatch hm)⟩⟩,h2,h3,h4⟩
section
variable {prog:Program} {w:World} {A:Around} {E:Value→Shared→Prop} {s:Shared} {K:Frag}
end
end Att
namespace L2
open PySem PySem.Spec PyProof.Rows
theorem vals_ints:∀ {vs:List Value} {ns:List Int},IntsAre vs ns→Vals (ns.map V.int) vs
 | _,_,.nil=>.nil
 | _,_,.cons n t h=>.cons ⟨t,rfl⟩ (vals_ints h)
def Only (H:Hp):Prop:=∀ b,H b=none∨∃ o xs,H b=some (.frz o (.lst xs))
theorem law_call {P:Program} {w:World} {K:PySem.W.Frag} {mg mb:Str→Option Value} {CX:CXT} {k:Nat} {fa a:Addr} {fd:FuncData} {x:Str} {sp:Sp} {s₁:Shared} {vs:List Value} {ns:List Int}
  (KX:K.In s₁.heap) (hns:s₁.heap.Ns mainGlobals mg) (hb:s₁.heap.Ns builtinsNs mb) (hbb:∀ x:Str,x≠"__name__"→mb x=bootBuiltins x) (hlim:s₁.heap.NoLimit) (hg:s₁.gens=#[])
  (ha:s₁.heap.get? a=some { cls:=.type "list",data:=.seq vs.toArray }) (hi:IntsAre vs ns) (hl:ns.length≤sizeLine) (hr:Room k callerA)
  (F:∀ base:Heap,K.In base→base.Ns mainGlobals mg→FnOk P w K mg base CX k fa fd [x] sp) (hbind:∀ (s:Shared) (u:Value),BindsTo s fd ⟨[u],[]⟩ [(x,u)])
  (hsp:∀ H:Hp,Only H→SqL K H a (ns.map V.int)→sp [.ref a] H (fun v _=>v=.bl true) fun _ _ _=>False)
  (hCX:∀ H e s',CX [] H s₁ (fun _ _ _=>False) e s'→False) :
  codeAny (model P w) callerA (.call (.ref fa) ⟨[.ref a],[]⟩) (fun r s'=>r=.ok (.ret (.bool true))∧OldK s₁.heap s'.heap∧s'.os=s₁.os∧AllBare s'.gens) s₁:=by
 have rv:=vals_ints hi
 have lenV:=hi.length
 have core:∀ H:Hp,Only H→SqL K H a (ns.map V.int)→HOk P w H s₁.heap→(∀ b,H b≠none→b=a)→(H a≠none→K.lookup a=none) →
   codeAny (model P w) callerA (.call (.ref fa) ⟨[.ref a],[]⟩) (fun r s'=>r=.ok (.ret (.bool true))∧OldK s₁.heap s'.heap∧s'.os=s₁.os∧AllBare s'.gens) s₁:=by
  intro H hO hS hok hA hK
  have base_of:∀ {b:Addr} {o:Obj},s₁.heap.get? b=some o→H b=none→(hidT s₁.heap H).get? b=some o:=fun e n=>hidT_get e n
  have noA:∀ {b:Addr} {o:Obj} {es:Array DictEntry} {ep:Nat},s₁.heap.get? b=some o→o.data=.dict es ep→H b=none:=fun {b o es ep} e d=>by
   cases q:H b with
   | none=>rfl
   | some u =>
    have e':b=a:=hA b (by rw [q]; simp)
    subst e'
    rw [ha] at e; cases e
    have d':Data.seq vs.toArray _=Data.dict es ep:=d
    cases d'
  have nsK:∀ {b:Addr} {m:Str→Option Value},s₁.heap.Ns b m→(hidT s₁.heap H).Ns b m:=fun {b m} ⟨o,es,ep,e,d,r⟩=>⟨o,es,ep,base_of e (noA e d),d,r⟩
  have hKb:K.In (hidT s₁.heap H):=fun b o e=>base_of (KX b o e) (by
   cases q:H b with
   | none=>rfl
   | some u =>
    have e':b=a:=hA b (by rw [q]; simp)
    subst e'
    rw [hK (by rw [q]; simp)] at e; cases e)
  have hM:Mod K mg (hidT s₁.heap H):=⟨hKb,nsK hns,⟨mb,nsK hb,hbb⟩,let ⟨mc,h1,h2⟩:=hlim; ⟨mc,nsK h1,h2⟩⟩
  have e0:Env0 P w K mg (hidT s₁.heap H) callerA [] s₁ H:=⟨rfl,hM,fun b o e=>of_hidT e,Nat.le_of_eq (hidT_size _ _),trivial,fun b hb=>absurd (show b∈([]:List Addr) from hb) (by simp),hok,.of_eq hg⟩
  refine codeAny_mono ((F _ hKb (nsK hns)).run callerA [] s₁ H ⟨[.ref a],[]⟩ [.ref a] [.ref a] _ _ hr e0 (hbind s₁ (.ref a)) (.cons rfl .nil) (hsp H hO hS)) fun r s' h=>?_
  cases r with
  | error e=>exact (hCX H e s' h).elim
  | ok fl =>
   cases fl with
   | next=>exact False.elim h
   | brk=>exact False.elim h
   | cont=>exact False.elim h
   | ret u =>
    obtain ⟨v,H',os,bare,un,hok',r',q⟩:=h
    have q':v=.bl true:=q
    subst q'
    obtain rfl:u=Value.bool true:=r'
    refine ⟨rfl,OldK.of_keep fun b o e=>?_,os,bare⟩
    cases q:H b with
    | none=>exact un.keep b o e q (by intro z; exact absurd (show b∈([]:List Addr) from z) (by simp)) (by simp)
    | some u =>
     rcases hO b with z | ⟨ob,xs,z⟩
     ·rw [q] at z; cases z
     ·have z2:=un.frzs b ob _ z
      obtain ⟨e1,_⟩:=hok b _ z
      obtain ⟨e2,_⟩:=hok' b _ z2
      rw [e] at e1; cases e1
      exact e2
 cases hk:K.lookup a with
 | some o =>
  have e:=KX a o hk
  rw [ha] at e
  cases e
  refine core (fun _=>none) (fun _=>.inl rfl) (.inr ⟨_,vs.toArray,_,hk,rfl,rfl,rfl,by rw [List.size_toArray,lenV]; exact hl,by simpa using rv⟩) (fun b u z=>by have z':(none:Option HO)=some u:=z; cases z') (fun b z=>absurd rfl z) fun z=>absurd rfl z
 | none =>
  refine core (fun b=>if b=a then some (.frz { cls:=.type "list",data:=.seq vs.toArray } (.lst (ns.map V.int))) else none) (fun b=>?_) (.inl (.inr ⟨{ cls:=.type "list",data:=.seq vs.toArray },if_pos rfl⟩)) (fun b u z=>?_) (fun b z=>?_) fun _=>hk
  ·by_cases hb:b=a
   ·exact .inr ⟨_,_,if_pos hb⟩
   ·exact .inl (if_neg hb)
  ·by_cases hb:b=a
   ·have z':=(if_pos hb).symm.trans z
    cases z'
    subst hb
    exact ⟨ha,by rw [List.length_map]; exact hl,vs,_,rv,ha⟩
   ·have z':=(if_neg hb).symm.trans z
    cases z'
  ·by_cases hb:b=a
   ·exact hb
   ·exact absurd (if_neg hb) z
theorem walk_of {l:PySem.W.OpenLaw} {n k:Nat} {q:Program} {loose:List Str} {XP:(Str→Option Value)→Heap→Prop} {YP:World→Heap→Prop} {d:DefRec} {K:Params→PySem.W.Frag} {CX:World→CXT} {sp:World→Sp} {x:Str}
  (hn:l.most=some n) (hn2:n≤sizeLine) (hdf:d.params.defaults=[]) (hr:Room k callerA)
  (hY:∀ (w:World) (h:Heap),YP w h→(K w.params).In h)
  (F:∀ (w:World) (mg:Str→Option Value) (fa:Addr) (h:Heap),(K w.params).In h→h.Ns mainGlobals mg→mg d.name=some (.ref fa) →
   ∃ fd:FuncData,(∀ (s:Shared) (u:Value),BindsTo s fd ⟨[u],[]⟩ [(x,u)]) ∧
    ∀ base:Heap,(K w.params).In base→base.Ns mainGlobals mg→FnOk l.prog w (K w.params) mg base (CX w) k fa fd [x] (sp w))
  (hsp:∀ (w:World) (H:Hp) (a:Addr) (ns:List Int),ns.length≤n→Only H→SqL (K w.params) H a (ns.map V.int)→sp w [.ref a] H (fun v _=>v=.bl true) fun _ _ _=>False)
  (hCX:∀ (w:World) (H:Hp) (s:Shared) (e:Value) (s':Shared),CX w [] H s (fun _ _ _=>False) e s'→False) :
  PySem.W.WalkO q loose XP YP l.row.toRowW d [] (fun f vs=>PySem.call f vs):=by
 refine Att.attach_call hn hdf fun w s₀ s₁ mg mb fa o pm cd doc a vs ns G Y ho hd hcd hmg hobj hints hlen hg=>?_
 have KX:=hY w _ Y
 obtain ⟨fd,hb,hF⟩:=F w mg fa _ KX G.T.g hmg
 exact law_call KX G.T.g G.T.b G.T.builtins G.T.nolimit hg hobj hints (Nat.le_trans hlen hn2) hr hF hb (fun H hO hS=>hsp w H a ns hlen hO hS) fun H e s'=>hCX w H s₁ e s'
end L2
/- THE LAST THEOREM (shape; LID,My.* are yours):
   My.Adr: a structure of the addresses that your layer names (classes,functions); My.Txt K t: a structure (Prop) of the equations over K;
   My.txt_mk:{K} {implicit addresses ..} (e1:nsIn K mainGlobals "law"=some (some (.ref f))) (e2:K.lookup f=some ⟨oc,od,.func (fnOf "law" "law" params body scope dV kV doc pm an cdv ct),sl⟩) (e3:codeIn K cdv "law"=true) ..:∃ t,My.Txt K t
set_option maxRecDepth 100000 in
set_option maxHeartbeats 0 in
theorem PySem.Challenge.cw_LID_holds : PySem.Challenge.rw_LID.Holds := by
 w_on; o_law; k_head; (case hw=>w_witness2)
 k_fill
 refine L2.walk_of (l:=PySem.Challenge.rw_LID) (n:=63) (k:=40) (x:="script") (CX:=fun w=>..) (sp:=fun _=>My.sp_law) rfl (by decide) rfl ⟨rfl,by decide,by decide⟩ (fun w h Y=>PySem.W.kIn_of Y) ?F ?S ?C
 case F =>
  intro w mg fa h KX G hmg
  have T:∃ t,My.Txt (L2.KOf KX) t:=by
   dsimp only [L2.KOf]                          -- K must stand as «<heap const> w.params» for k_is
   refine' My.txt_mk ?e1 ?e2 ?e3 ..
   (case e1=>PySem.W.k_is)                    -- in the order: a name -> its address -> its object -> its parts
   (case e2=>PySem.W.k_is)
   ..
  obtain ⟨t,T⟩:=T
  have e0:=hmg.symm.trans (PySem.W.mg_of KX G T.law)
  cases e0                                       -- fa is the law's own address
  exact ⟨_,fun s u=>.of_eq rfl,fun base kb nb=>My.law_fn T kb nb⟩     -- if «.of_eq rfl» comes too early: refine' ⟨_,?b,fun base kb nb=>My.law_fn T kb nb⟩; exact fun s u=>.of_eq rfl
 case S=>exact fun w H a ns hl hO hS=>..
 case C=>exact ..
(the tactic k_is has no namespace: write k_is) -/
namespace L2
open PySem PySem.Spec PyProof.Rows
def inClass (s:Stmt) (j:Nat):Stmt:=match s with
 | .ClassDef _ _ _ body _ _ _ _ _ _ _=>body.getD j (.Pass ⟨0,0,0,0⟩)
 | _=>.Pass ⟨0,0,0,0⟩
def defArgs (s:Stmt):Arguments:=match s with
 | .FunctionDef _ a _ _ _ _ _ _ _ _=>a
 | _=>{ posonlyargs:=[],args:=[],vararg:=none,kwonlyargs:=[],kw_defaults:=[],kwarg:=none,defaults:=[] }
def defBody (s:Stmt):List Stmt:=match s with
 | .FunctionDef _ _ b _ _ _ _ _ _ _=>b
 | _=>[]
def defScope (s:Stmt):Scope:=match s with
 | .FunctionDef _ _ _ _ _ _ sc _ _ _=>sc
 | _=>{ kind:=.function,names:=[],isGenerator:=false,isCoroutine:=false }
abbrev CX0:CXT:=fun _ _ _ _ _ _=>False
abbrev E0:XK:=fun _ _ _=>False
theorem pass0 {X:Cx}:Passes CX0 X E0:=fun _ _ _ _ _ _ _ h=>h.elim
structure Fun (K:PySem.W.Frag) (x qual:Str) (st:Stmt) (f:Addr) (fd:FuncData):Prop where
 ex:∃ (oc:Value) (od:Option Addr) (kV doc pm:Value) (an:Option Addr) (cdv ct:Value) (osl:Array (Option Value)),
  fd=PySem.W.fnOf x qual (defArgs st) (defBody st) (defScope st) .none kV doc pm an cdv ct∧K.lookup f=some ⟨oc,od,.func fd,osl⟩∧PySem.W.codeIn K cdv qual=true
 kp:PySem.W.keepIn K (.ref f)=true
section
variable {P:Program} {w:World} {K:PySem.W.Frag} {mg:Str→Option Value} {base:Heap}
theorem Fun.ok {x qual:Str} {st:Stmt} {f:Addr} {fd:FuncData} {N ps:List Str} {k:Nat} {sp:Sp} (F:Fun K x qual st f fd) (S:FnScope N ps (defScope st)) (len:∀ vs H Q E,sp vs H Q E→vs.length=ps.length)
  (hbody:∀ (cdv:Value) (A:Around) (outer:List Env) (s:Shared) (H:Hp) (vs:List V) (Q:VK) (E:XK),Room k (A.deeper (envOfC qual (defScope st) s.heap.objs.size f cdv))→sp vs H Q E →
   ∃ t,PSs (cxOf CX0 P w K mg base N qual (defScope st) f cdv A outer s H E).nox (defBody st) t∧t { nx:=fun _ H'=>Q .non H',rt:=Q } (start N vs) H):FnOk P w K mg base CX0 (k + 1) f fd ps sp:=by
 obtain ⟨oc,od,kV,doc,pm,an,cdv,ct,osl,rfl,lk,hcd⟩:=F.ex
 refine fn_of lk hcd S len fun A outer s H vs Q E hr hsp=>?_
 obtain ⟨t,h,q⟩:=hbody cdv A outer s H vs Q E hr hsp
 exact ⟨t,h.nox,q⟩
theorem Fun.binds {x qual:Str} {st:Stmt} {f:Addr} {fd:FuncData} {ps:List Str} (F:Fun K x qual st f fd)
  (h:∀ (kV doc pm:Value) (an:Option Addr) (cdv ct:Value) (us:List Value),us.length=ps.length→bindArgs (PySem.W.fnOf x qual (defArgs st) (defBody st) (defScope st) .none kV doc pm an cdv ct) ⟨us,[]⟩=pure (ps.zip us)):Binds K fd ps []:=by
 obtain ⟨oc,od,kV,doc,pm,an,cdv,ct,osl,rfl,lk,hcd⟩:=F.ex
 exact .all (h kV doc pm an cdv ct)
theorem fun_mk {x qual:Str} {st:Stmt} {f:Addr} {oc:Value} {od an:Option Addr} {osl:Array (Option Value)} {kV doc pm cdv ct:Value} (l:K.lookup f=some ⟨oc,od,.func (PySem.W.fnOf x qual (defArgs st) (defBody st) (defScope st) .none kV doc pm an cdv ct),osl⟩)
  (c:PySem.W.codeIn K cdv qual=true) (k:PySem.W.keepIn K (.ref f)=true):Fun K x qual st f (PySem.W.fnOf x qual (defArgs st) (defBody st) (defScope st) .none kV doc pm an cdv ct):=⟨⟨oc,od,kV,doc,pm,an,cdv,ct,osl,rfl,l,c⟩,k⟩
end
theorem small1000 {n:Nat} (h:n≤1000):n < sizeLine:=Nat.lt_of_le_of_lt h (by decide)
section
variable {X:Cx}
theorem pv (i:Nat) {x:Str} {pos:Pos} (hN:X.N[i]?=some x:=by rfl) (hv:Vis X.env.scope x:=by first | exact Or.inl rfl | exact Or.inr (Or.inl rfl) | exact Or.inr (Or.inr rfl)) (hd:(x == ("__debug__":Str))=false:=by decide)
  (hcd:(x == ("__classdict__":Str))=false:=by decide):PE X (.Name x pos) (tVar i):=pe_var hN hv hd hcd
end
theorem iteF {A B:Prop} (h:B):if false=true then A else B:=by
 rw [if_neg Bool.false_ne_true]
 exact h
theorem iteT {A B:Prop} (h:A):if true=true then A else B:=by
 rw [if_pos rfl]
 exact h
def Same (H H':Hp):Prop:=∀ b o,H b=some o→H' b=some o
theorem Same.refl (H:Hp):Same H H:=fun _ _ h=>h
theorem Same.trans {H H1 H2:Hp} (a:Same H H1) (b:Same H1 H2):Same H H2:=fun c o h=>b c o (a c o h)
theorem Same.seq {K:PySem.W.Frag} {H H':Hp} {a:Addr} {xs:List V} (e:Same H H') (h:SqL K H a xs):SqL K H' a xs:=by
 rcases h with (h | ⟨o,h⟩) | h
 ·exact .inl (.inl (e _ _ h))
 ·exact .inl (.inr ⟨o,e _ _ h⟩)
 ·exact .inr h
section
variable {κ:Type} [DecidableEq κ]
def valV (kvs:List (κ×V)) (k:κ):Option V:=(kvs.find? fun kv=>decide (kv.1=k)).map (·.2)
def putK (kvs:List (κ×V)) (k:κ) (v:V):List (κ×V) :=
 if (kvs.any fun kv=>decide (kv.1=k))=true then kvs.map (fun kv=>if kv.1=k then (kv.1,v) else kv) else kvs ++ [(k,v)]
theorem valV_pos {p:κ×V} {r:List (κ×V)} {k:κ} (e:p.1=k):valV (p :: r) k=some p.2:=by simp [valV,List.find?_cons,e]
theorem valV_neg {p:κ×V} {r:List (κ×V)} {k:κ} (e:¬ p.1=k):valV (p :: r) k=valV r k:=by simp [valV,List.find?_cons,e]
theorem valV_any (k:κ):∀ kvs:List (κ×V),(kvs.any fun kv=>decide (kv.1=k))=(valV kvs k).isSome
 | []=>rfl
 | p :: r=>by
  rw [List.any_cons]
  by_cases e:p.1=k
  ·simp only [valV_pos e,decide_eq_true e,Bool.true_or,Option.isSome_some]
  ·rw [valV_neg e,decide_eq_false e,Bool.false_or]; exact valV_any k r
theorem RelO.isSome_eq {o:Option V} {u:Option Value} (r:RelO o u):o.isSome=u.isSome:=by
 cases o with
 | none=>cases u with
  | none=>rfl
  | some _=>exact (show False from r).elim
 | some _=>cases u with
  | none=>exact (show False from r).elim
  | some _=>rfl
end
section
variable {P:Program} {w:World} {H:Hp} {h:Heap} {a:Addr}
end
section
variable {X:Cx} {pins:List (Addr×Obj)} {σ:St} {H:Hp} {s:Shared} {a:Addr} {y v:V} {u r:Value} {o:Option V} {A:Around} {E:Value→Shared→Prop}
theorem Inv.big (I:Inv X pins σ H s):sysModules < s.heap.objs.size:=by
 have h:mainGlobals < s.heap.objs.size:=(I.mod.glob.keeps I.bk).lt
 exact Nat.lt_trans (by decide) h
theorem d_write {h':Heap} {t':Nat} {ob:HO} (I:Inv X pins σ H s) (mu:Mut (H a)) (hs:Heap.SameBut a s.heap h') (he:∃ q,h'.get? a=some q) (new:ObjOk X.prog X.w (upd H a ob) h' a ob) :
  Inv X pins σ (upd H a ob) { s with heap:=h',toks:=t' } :=
 I.write (x:=a) (e:=a) mu (.inl rfl) (fun b q hb z=>(hs.2 b hb).trans z) he new
end
section
variable {X:Cx} {pins:List (Addr×Obj)} {σ:St} {H:Hp} {s:Shared} {a:Addr} {kvs:List (Key×V)} {k:Key} {u:Value} {A:Around} {E:Value→Shared→Prop}
end
section
variable {X:Cx} {o i e value:Expr} {pos pos' tpos:Pos} {td ty tv:TE}
end
section
variable {X:Cx} {pos:Pos}
end
section
variable {X:Cx} {pins:List (Addr×Obj)} {σ:St} {H:Hp} {s:Shared} {a:Addr} {y d:V} {u r:Value} {o:Option V} {A:Around} {E:Value→Shared→Prop}
end
section
variable {X:Cx} {o e f:Expr} {apos cpos:Pos} {td ty tx:TE}
end
section
variable {X:Cx} {pins:List (Addr×Obj)} {σ:St} {H:Hp} {s:Shared} {a:Addr} {kvs:List (Key×V)} {A:Around} {E:Value→Shared→Prop}
end
section
variable {X:Cx} {pins:List (Addr×Obj)} {σ:St} {H:Hp} {s:Shared} {a:Addr} {y:V} {u:Value} {A:Around} {E:Value→Shared→Prop}
end
section
variable {X:Cx}
end
section
variable {κ:Type} [DecidableEq κ]
end
end L2
namespace BF
open PySem PySem.Spec PyProof.Rows L2
theorem pe_imp {X:Cx} {e:Expr} {t t':TE} (h:PE X e t) (k:∀ σ H Q,t' σ H Q→t σ H Q):PE X e t' :=
 fun pins s σ H Q I hw=>h pins s σ H Q I (k σ H Q hw)
inductive Kn where
 | non | bl | int | str | lst | tup | dic
def Kn.nm:Kn→String
 | .non=>"NoneType" | .bl=>"bool" | .int=>"int" | .str=>"str" | .lst=>"list" | .tup=>"tuple" | .dic=>"dict"
inductive Knd (H:Hp):V→Kn→Prop where
 | non:Knd H .non .non
 | bl (b:Bool):Knd H (.bl b) .bl
 | int (i:Int):Knd H (.int i) .int
 | str (x:Str):Knd H (.str x) .str
 | lst {a:Addr} {xs:List V} (e:H a=some (.lst xs)):Knd H (.ref a) .lst
 | tup {a:Addr} {xs:List V} (e:H a=some (.tup xs)):Knd H (.ref a) .tup
 | dic {a:Addr} {kvs:List (Key×V)} (e:H a=some (.dK kvs)):Knd H (.ref a) .dic
theorem Knd.ty {K:PySem.W.Frag} {H:Hp} {v:V} {k:Kn} (h:Knd H v k):TyOf K H v (.type k.nm):=by
 cases h with
 | non=>exact .non
 | bl b=>exact .bl b
 | int i=>exact .int i
 | str x=>exact .str x
 | lst e=>exact .lst e
 | tup e=>exact .tup e
 | dic e=>exact .dK e
def isaK:Kn→Kn→Bool
 | .non,.non=>true
 | .bl,.bl=>true
 | .bl,.int=>true
 | .int,.int=>true
 | .str,.str=>true
 | .lst,.lst=>true
 | .tup,.tup=>true
 | .dic,.dic=>true
 | _,_=>false
theorem kit_of (K:PySem.W.Frag) (k c:Kn):PySem.W.kitOne K (.type k.nm) (.type c.nm)=some (isaK k c):=by
 cases k <;> cases c <;> kernel_rfl
theorem call_isi {X:Cx}:CallR X (.builtin "isinstance") (fun xs H Q=>∃ x k c,xs=[x,.ty (Kn.nm c)]∧Knd H x k∧Q (.bl (isaK k c)) H):=by
 intro pins s σ H xs us Q I r h
 obtain ⟨x,k,c,rfl,kd,q⟩:=h
 obtain ⟨u,w',rfl,r1,r2⟩:=vals2 r
 have e:w'=Value.type (Kn.nm c):=r2
 subst e
 exact isinst_ok I r1 kd.ty (kit_of X.K k c) fun tk=>⟨.bl (isaK k c),H,I.tok tk,rfl,q⟩
theorem pe_p9 {X:Cx} {j1 j2:Nat} {p1 p2 pos:Pos}:PE X (.BinOp (.Constant (.int 10) j1 p1) .Pow (.Constant (.int 9) j2 p2) pos) (tC (.int 1000000000)) :=
 pe_imp (pe_op op_pow pe_int pe_int) fun σ H Q q=>⟨10,9,rfl,rfl,⟨by decide,by decide,by decide⟩,by
  have e:((10:Int) ^ (9:Int).toNat)=1000000000:=by decide
  show Q (V.int _) H
  rw [e]; exact q⟩
theorem ifD_pos {p:Prop} [Decidable p] {A B:Prop} (h:p) (a:A):if decide p=true then A else B:=by
 rw [if_pos (decide_eq_true h)]; exact a
theorem ifD_neg {p:Prop} [Decidable p] {A B:Prop} (h:¬ p) (b:B):if decide p=true then A else B:=by
 rw [if_neg (by intro z; exact h (of_decide_eq_true z))]; exact b
theorem ifB_pos {c:Bool} {A B:Prop} (h:c=true) (a:A):if c=true then A else B:=by
 rw [if_pos h]; exact a
theorem ifB_neg {c:Bool} {A B:Prop} (h:c=false) (b:B):if c=true then A else B:=by
 rw [if_neg (by rw [h]; exact Bool.false_ne_true)]; exact b
theorem dec_len (n:Nat) (k:Nat):decide (V.int (n:Int)=V.int (k:Int))=decide (n=k):=by
 by_cases h:n=k
 ·subst h; simp
 ·rw [decide_eq_false h,decide_eq_false]
  intro z
  injection z with z
  omega
theorem same_upd {H:Hp} {p:Addr} {o:HO} (h:H p=none):Same H (upd H p o):=fun b u e=>by
 rw [upd_ne (ne_of_none e h)]; exact e
theorem sz {n:Nat} (h:n≤1000):n≤sizeLine:=Nat.le_of_lt (small1000 h)
theorem szr {n:Nat} (h:Nat.ble n 1000=true):n≤sizeLine:=sz (Nat.le_of_ble_eq_true h)
def wholeV:V→Bool
 | .int _=>true
 | _=>false
def good:V→Bool
 | .int i=>decide (-1000000000≤i) && decide (i≤1000000000)
 | _=>false
def pairB (H:Hp):V→Bool
 | .ref p=>(match H p with | some (.tup xs)=>decide (xs.length=2) | _=>false)
 | _=>false
theorem pairB_tup {H:Hp} {p:Addr} {xs:List V} (e:H p=some (.tup xs)):pairB H (.ref p)=decide (xs.length=2):=by
 show (match H p with | some (.tup xs)=>decide (xs.length=2) | _=>false)=_
 rw [e]
theorem pairB_lst {H:Hp} {p:Addr} {xs:List V} (e:H p=some (.lst xs)):pairB H (.ref p)=false:=by
 show (match H p with | some (.tup xs)=>decide (xs.length=2) | _=>false)=_
 rw [e]
theorem pairB_dic {H:Hp} {p:Addr} {kvs:List (Key×V)} (e:H p=some (.dK kvs)):pairB H (.ref p)=false:=by
 show (match H p with | some (.tup xs)=>decide (xs.length=2) | _=>false)=_
 rw [e]
inductive HoleIs (H:Hp):V→Bool→Prop where
 | no {u:V} {k:Kn} (kd:Knd H u k) (h:pairB H u=false):HoleIs H u false
 | two {p:Addr} {a b:V} {ka kb:Kn} {r:Bool} (e:H p=some (.tup [a,b])) (ha:Knd H a ka) (hb:Knd H b kb) (hr:(good a && good b)=r):HoleIs H (.ref p) r
structure Df (K:PySem.W.Frag) (mg:Str→Option Value) (x:Str) (st:Stmt) (f:Addr) (fd:FuncData):Prop where
 F:Fun K x x st f fd
 m:mg x=some (.ref f)
theorem df_mk {K:PySem.W.Frag} {mg:Str→Option Value} {h:Heap} (X:K.In h) (G:h.Ns mainGlobals mg) {x:Str} {st:Stmt} {f:Addr} {oc:Value} {od an:Option Addr} {osl:Array (Option Value)} {kV doc pm cdv ct:Value}
  (a:PySem.W.nsIn K mainGlobals x=some (some (.ref f))) (l:K.lookup f=some ⟨oc,od,.func (PySem.W.fnOf x x (defArgs st) (defBody st) (defScope st) .none kV doc pm an cdv ct),osl⟩)
  (c:PySem.W.codeIn K cdv x=true) (k:PySem.W.keepIn K (.ref f)=true):Df K mg x st f (PySem.W.fnOf x x (defArgs st) (defBody st) (defScope st) .none kV doc pm an cdv ct) :=
 ⟨fun_mk l c k,PySem.W.mg_of X G a⟩
theorem atI_of {α:Type} {xs:List α} {m:Int} (h0:0≤m) (h1:m < xs.length):∃ c,atI xs m=some c∧c∈xs:=by
 obtain ⟨j,rfl⟩:=Int.eq_ofNat_of_zero_le h0
 have hj:j < xs.length:=by omega
 exact ⟨xs[j],atI_nat (List.getElem?_eq_getElem hj),List.getElem_mem hj⟩
theorem cmulR {i j:Int} (h1:-(2 ^ 64) < j) (h2:j < 2 ^ 64):CMul i j:=Or.inr ⟨h1,h2⟩
section
variable {rest:List Expr} {env:Env}
theorem se_name {x p}:starEach (.Name x p :: rest) env=(false,eval (.Name x p) env) :: starEach rest env:=rfl
theorem se_const {c k p}:starEach (.Constant c k p :: rest) env=(false,eval (.Constant c k p) env) :: starEach rest env:=rfl
theorem se_sub {a b p}:starEach (.Subscript a b p :: rest) env=(false,eval (.Subscript a b p) env) :: starEach rest env:=rfl
theorem se_call {f a k p}:starEach (.Call f a k p :: rest) env=(false,eval (.Call f a k p) env) :: starEach rest env:=rfl
theorem se_bin {a o b p}:starEach (.BinOp a o b p :: rest) env=(false,eval (.BinOp a o b p) env) :: starEach rest env:=rfl
theorem se_tup {l k p}:starEach (.Tuple l k p :: rest) env=(false,eval (.Tuple l k p) env) :: starEach rest env:=rfl
theorem se_list {l p}:starEach (.List l p :: rest) env=(false,eval (.List l p) env) :: starEach rest env:=rfl
theorem se_attr {e n p}:starEach (.Attribute e n p :: rest) env=(false,eval (.Attribute e n p) env) :: starEach rest env:=rfl
theorem se_cmp {a o b p}:starEach (.Compare a o b p :: rest) env=(false,eval (.Compare a o b p) env) :: starEach rest env:=rfl
theorem se_un {o a p}:starEach (.UnaryOp o a p :: rest) env=(false,eval (.UnaryOp o a p) env) :: starEach rest env:=rfl
end
section
variable {X:Cx} {e:Expr} {es:List Expr} {te:TE} {t:TA} {pos:Pos}
theorem pac (ha:PE X e te) (hr:PA X es t) (hs:starEach (e :: es) X.env=(false,eval e X.env) :: starEach es X.env:=by
  first | exact se_name | exact se_const | exact se_sub | exact se_call | exact se_bin | exact se_tup | exact se_list | exact se_dict | exact se_comp | exact se_attr | exact se_cmp | exact se_bool | exact se_un | exact se_if) :
  PA X (e :: es) (tCons te t):=pa_cons ha hr hs
variable {CX:CXT} {k:Nat} {f:Addr} {fd:FuncData} {ps:List Str} {sp:Sp} {dvs:List V} {ds:List Value} {E:XK} {x:Str} {p:Pos}
theorem pec (F:FnOk X.prog X.w X.K X.mg X.base CX k f fd ps sp) (hr:Room k X.A) (hg:Gl X x) (hm:X.mg x=some (.ref f)) (hk:PySem.W.keepIn X.K (.ref f)=true) (hb:Binds X.K fd ps ds) (hd:Vals dvs ds) (hx:Passes CX X E)
  (ha:PA X (e :: es) t) (hdb:(x == ("__debug__":Str))=false:=by decide)
  (he:starEach (e :: es) X.env=(false,eval e X.env) :: starEach es X.env:=by
   first | exact se_name | exact se_const | exact se_sub | exact se_call | exact se_bin | exact se_tup | exact se_list | exact se_dict | exact se_comp | exact se_attr | exact se_cmp | exact se_bool | exact se_un | exact se_if)
  (hpl:(backTo pos (starEach es X.env)).any (·.1)=false:=by rfl):PE X (.Call (.Name x p) (e :: es) [] pos) (tCall sp dvs E t):=pe_call F hr hg hm hk hb hd hx ha hdb he hpl
end
end BF
namespace BF
open PySem PySem.Spec PyProof.Rows L2 PySem.SeqAt
inductive Dt where
 | int (i:Int)
 | str (x:Str)
 | tup (l:List Dt)
mutual
def Dt.beq:Dt→Dt→Bool
 | .int i,.int j=>i == j
 | .str x,.str y=>x == y
 | .tup l,.tup m=>Dt.beqs l m
 | _,_=>false
def Dt.beqs:List Dt→List Dt→Bool
 | [],[]=>true
 | a :: l,b :: m=>Dt.beq a b && Dt.beqs l m
 | _,_=>false
end
mutual
theorem Dt.beq_iff:∀ a b:Dt,Dt.beq a b=true↔a=b
 | .int i,.int j=>by simp [Dt.beq]
 | .str x,.str y=>by simp [Dt.beq]
 | .tup l,.tup m=>by simp [Dt.beq,Dt.beqs_iff l m]
 | .int i,.str y=>by simp [Dt.beq]
 | .int i,.tup m=>by simp [Dt.beq]
 | .str x,.int j=>by simp [Dt.beq]
 | .str x,.tup m=>by simp [Dt.beq]
 | .tup l,.int j=>by simp [Dt.beq]
 | .tup l,.str y=>by simp [Dt.beq]
theorem Dt.beqs_iff:∀ l m:List Dt,Dt.beqs l m=true↔l=m
 | [],[]=>by simp [Dt.beqs]
 | a :: l,b :: m=>by simp [Dt.beqs,Dt.beq_iff a b,Dt.beqs_iff l m]
 | [],b :: m=>by simp [Dt.beqs]
 | a :: l,[]=>by simp [Dt.beqs]
end
theorem Dt.beq_self (a:Dt):Dt.beq a a=true:=(Dt.beq_iff a a).mpr rfl
mutual
def Dt.dp:Dt→Nat
 | .int _=>0
 | .str _=>0
 | .tup l=>Dt.dps l + 1
def Dt.dps:List Dt→Nat
 | []=>0
 | a :: l=>max (Dt.dp a) (Dt.dps l)
end
mutual
inductive DtIs (H:Hp):V→Dt→Prop where
 | int (i:Int):DtIs H (.int i) (.int i)
 | str (x:Str):DtIs H (.str x) (.str x)
 | tup {a:Addr} {xs:List V} {ds:List Dt} (e:H a=some (.tup xs)) (h:DtsIs H xs ds):DtIs H (.ref a) (.tup ds)
inductive DtsIs (H:Hp):List V→List Dt→Prop where
 | nil:DtsIs H [] []
 | cons {v:V} {d:Dt} {vs:List V} {ds:List Dt} (h:DtIs H v d) (t:DtsIs H vs ds):DtsIs H (v :: vs) (d :: ds)
end
mutual
theorem DtIs.inj {H:Hp}:∀ {d:Dt} {v:V} {d':Dt},DtIs H v d→DtIs H v d'→d=d'
 | .int i,_,d',.int _,h=>by cases h; rfl
 | .str x,_,d',.str _,h=>by cases h; rfl
 | .tup ds,_,d',.tup e q,h=>by
  cases h with
  | tup e2 q2 =>
   rw [e] at e2
   cases e2
   rw [DtsIs.inj q q2]
theorem DtsIs.inj {H:Hp}:∀ {ds:List Dt} {vs:List V} {ds':List Dt},DtsIs H vs ds→DtsIs H vs ds'→ds=ds'
 | [],_,_,.nil,h=>by cases h; rfl
 | d :: ds,_,_,.cons q t,h=>by
  cases h with
  | cons q2 t2=>rw [DtIs.inj q q2,DtsIs.inj t t2]
end
mutual
theorem DtIs.same {H H':Hp} (S:Same H H'):∀ {d:Dt} {v:V},DtIs H v d→DtIs H' v d
 | .int i,_,.int _=>.int i
 | .str x,_,.str _=>.str x
 | .tup ds,_,.tup e q=>.tup (S _ _ e) (DtsIs.same S q)
theorem DtsIs.same {H H':Hp} (S:Same H H'):∀ {ds:List Dt} {vs:List V},DtsIs H vs ds→DtsIs H' vs ds
 | [],_,.nil=>.nil
 | d :: ds,_,.cons q t=>.cons (DtIs.same S q) (DtsIs.same S t)
end
theorem DtsIs.length {H:Hp}:∀ {ds:List Dt} {vs:List V},DtsIs H vs ds→vs.length=ds.length
 | [],_,.nil=>rfl
 | d :: ds,_,.cons q t=>by rw [List.length_cons,List.length_cons,DtsIs.length t]
def itEq (ds ds':List Dt) (j:Nat):Bool:=match ds[j]?,ds'[j]? with
 | some a,some b=>Dt.beq a b
 | _,_=>true
theorem all_itEq:∀ ds ds':List Dt,((List.range (min ds.length ds'.length)).all (itEq ds ds') && ds.length == ds'.length)=Dt.beqs ds ds'
 | [],[]=>rfl
 | [],b :: m=>by simp [Dt.beqs]
 | a :: l,[]=>by simp [Dt.beqs]
 | a :: l,b :: m=>by
  have ih:=all_itEq l m
  rw [List.length_cons,List.length_cons,Nat.succ_min_succ,List.range_succ_eq_map,List.all_cons,List.all_map]
  have e0:itEq (a :: l) (b :: m) 0=Dt.beq a b:=rfl
  have e1:(itEq (a :: l) (b :: m) ∘ Nat.succ)=itEq l m:=by
   funext j
   simp [itEq]
  rw [e0,e1]
  show _=(Dt.beq a b && Dt.beqs l m)
  rw [← ih,Bool.and_assoc]
  simp
section
variable {X:Cx} {pins:List (Addr×Obj)} {σ:L2.St} {H:Hp} {s:Shared}
theorem dp_at:∀ {ds:List Dt} {j:Nat} {d:Dt},ds[j]?=some d→d.dp≤Dt.dps ds
 | [],j,d,e=>by simp at e
 | a :: l,0,d,e=>by
  have e':=Option.some.inj e
  subst e'
  simp only [Dt.dps]
  omega
 | a :: l,j + 1,d,e=>by
  have:=dp_at (ds:=l) (j:=j) (d:=d) (by simpa using e)
  simp only [Dt.dps]
  omega
theorem rel_at:∀ {ds:List Dt} {vs:List V} {us:List Value},DtsIs H vs ds→Vals vs us→∀ {j:Nat} {u:Value},us[j]?=some u→∃ v d,ds[j]?=some d∧DtIs H v d∧RelV v u
 | _,_,_,.nil,.nil,j,u,e=>by simp at e
 | _,_,_,.cons h t,.cons r rs,0,u,e=>by
  have e':=Option.some.inj e
  subst e'
  exact ⟨_,_,rfl,h,r⟩
 | _,_,_,.cons h t,.cons r rs,j + 1,u,e=>by
  obtain ⟨v,d,a,b,c⟩:=rel_at t rs (j:=j) (u:=u) (by simpa using e)
  exact ⟨v,d,by simpa using a,b,c⟩
theorem eqAt_n (I:Inv X pins σ H s) (n:Nat):∀ {d d':Dt} {v v':V} {u u':Value} (A:Around),d.dp≤n→DtIs H v d→RelV v u→DtIs H v' d'→RelV v' u'→A.units + n < cLine→EqAt A s u u' (Dt.beq d d'):=by
 induction n with
 | zero =>
  intro d d' v v' u u' A hn h r h' r' hu
  cases h with
  | int i =>
   obtain ⟨t,rfl⟩:=r
   cases h' with
   | int j=>obtain ⟨t',rfl⟩:=r'; exact EqAt.int_int i t j t'
   | str y=>obtain ⟨t',rfl⟩:=r'; exact EqAt.int_str i t y t'
   | tup e q=>cases r'; obtain ⟨its,_,p,_⟩:=I.tuple (SqT.of e); exact EqAt.int_tuple i t p hu
  | str x =>
   obtain ⟨t,rfl⟩:=r
   cases h' with
   | int j=>obtain ⟨t',rfl⟩:=r'; exact EqAt.str_int x t j t'
   | str y=>obtain ⟨t',rfl⟩:=r'; exact EqAt.str_str x t y t'
   | tup e q=>cases r'; obtain ⟨its,_,p,_⟩:=I.tuple (SqT.of e); exact EqAt.str_tuple x t p hu
  | tup e q=>simp only [Dt.dp] at hn; omega
 | succ n ih =>
  intro d d' v v' u u' A hn h r h' r' hu
  by_cases h0:d.dp≤n
  ·exact ih A h0 h r h' r' (by omega)
  cases h with
  | int i=>simp only [Dt.dp] at h0; omega
  | str x=>simp only [Dt.dp] at h0; omega
  | @tup a xs l e q =>
   cases r
   cases h' with
   | int j=>obtain ⟨t',rfl⟩:=r'; obtain ⟨its,_,p,_⟩:=I.tuple (SqT.of e); exact EqAt.tuple_int j t' p (by omega)
   | str y=>obtain ⟨t',rfl⟩:=r'; obtain ⟨its,_,p,_⟩:=I.tuple (SqT.of e); exact EqAt.tuple_str y t' p (by omega)
   | @tup b ys m e' q' =>
    cases r'
    by_cases hab:a=b
    ·subst hab
     have z:=DtIs.inj (DtIs.tup e q) (DtIs.tup e' q')
     rw [z,Dt.beq_self]
     exact EqAt.same _
    ·obtain ⟨its,rv,p,_⟩:=I.tuple (SqT.of e)
     obtain ⟨its',rv',p',_⟩:=I.tuple (SqT.of e')
     have n1:its.toArray.size=l.length:=by rw [List.size_toArray,← rv.length,q.length]
     have n2:its'.toArray.size=m.length:=by rw [List.size_toArray,← rv'.length,q'.length]
     simp only [Dt.dp] at hn
     have R:=RcAt.tuples (A:=A) (s:=s) (e:=itEq l m) p p' (by omega) (fun j h1 h2=>by
      obtain ⟨v1,d1,a1,b1,c1⟩:=rel_at q rv (j:=j) (u:=its.toArray[j]) (by simp)
      obtain ⟨v2,d2,a2,b2,c2⟩:=rel_at q' rv' (j:=j) (u:=its'.toArray[j]) (by simp)
      have z:itEq l m j=Dt.beq d1 d2:=by unfold itEq; rw [a1,a2]
      rw [z]
      exact ih A.in1 (by have:=dp_at a1; omega) b1 c1 b2 c2 (by show A.units + 1 + _ < _; omega))
     rw [n1,n2,all_itEq] at R
     exact EqAt.of_refs hab R
theorem eqAt_D (I:Inv X pins σ H s) {d d':Dt} {v v':V} {u u':Value} (A:Around) (h:DtIs H v d) (r:RelV v u) (h':DtIs H v' d') (r':RelV v' u') (hu:A.units + d.dp < cLine):EqAt A s u u' (Dt.beq d d'):=eqAt_n I _ A (Nat.le_refl _) h r h' r' hu
theorem eqsAt_D (I:Inv X pins σ H s) {ds ds':List Dt} {vs vs':List V} {us us':List Value} (A:Around) (q:DtsIs H vs ds) (rv:Vals vs us) (q':DtsIs H vs' ds') (rv':Vals vs' us') (hu:A.units + Dt.dps ds < cLine)
  (j:Nat) (u u':Value) (e:us[j]?=some u) (e':us'[j]?=some u'):EqAt A s u u' (itEq ds ds' j):=by
 obtain ⟨v1,d1,a1,b1,c1⟩:=rel_at q rv e
 obtain ⟨v2,d2,a2,b2,c2⟩:=rel_at q' rv' e'
 have z:itEq ds ds' j=Dt.beq d1 d2:=by unfold itEq; rw [a1,a2]
 rw [z]
 exact eqAt_n I _ A (dp_at a1) b1 c1 b2 c2 hu
end
end BF
namespace BF
open PySem
def Trc (B:Heap) (e:Addr) (fl:Value) (vs:Array Value) (h:Heap):Prop :=
 vs[1]?=some .none∨∃ T oT ts,vs[1]?=some (.ref T)∧B.get? T=none∧T≠e∧h.get? T=some oT∧oT.data=.fields ts∧ts[3]?=some fl
structure Air (B:Heap) (l:List Env) (e:Addr) (cls fl:Value) (h:Heap):Prop where
 stays:B.StaysIn h
 new:B.get? e=none
 fr:h.FunFrames B l
 obj:∃ oe vs,h.get? e=some oe∧oe.cls=cls∧oe.dict=none∧oe.data=.fields vs∧2 < vs.size∧vs[2]?=some .none∧Trc B e fl vs h
theorem mapFields_dict (f:Array Value→Array Value) (o:Obj):(Obj.mapFields f o).dict=o.dict:=by
 obtain ⟨c,d,dt,sl⟩:=o
 cases dt <;> rfl
section
variable {M:Model} {A:Around} {E:Value→Shared→Prop} {s:Shared}
theorem air_entry {B:Heap} {env:Env} {outer:List Env} {L e:Addr} {cls head:Value} {had:Bool} {oe:Obj} {vs:Array Value} {Q:Unit→Shared→Prop}
  (hfr:A.frames=some (env :: outer)) (hf:env.frame=some L) (hB:B.StaysIn s.heap) (hn:B.get? e=none) (hl:s.heap.FunFrames B (env :: outer))
  (he:s.heap.get? e=some oe) (hc:oe.cls=cls) (hdi:oe.dict=none) (hd:oe.data=.fields vs) (hz:2 < vs.size) (h2:vs[2]?=some .none)
  (hQ:∀ h',Air B (env :: outer) e cls (rawInt L) h'→s.heap.UpToSlots h'→Q () { s with heap:=h' }) :
  wpAny M A (do let a ← frameOf env; let pl ← entryPlaceOf L had; let b ← EntryCells.newEntry head a .none (rawInt L) .none pl; setField (.ref e) 1 b) Q E s:=by
 have hne:e ∉ (env :: outer).filterMap (·.frame):=fun z=>by
  obtain ⟨_,o,ho,k⟩:=hl.mem z
  rw [he] at ho
  cases ho
  exact k vs hd
 refine wpAny_bind (wpAny_frameOf_fun hfr hl hf fun h1 so=>?_)
 refine wpAny_bind (wpAny_entryPlaceOf fun pl ip=>?_)
 unfold EntryCells.newEntry newFields
 refine wpAny_bind (wpAny_newObj_type ?_ (ip.sizeOk5 _ _ _ _ _))
 have e1:h1.get? e=some oe:=(so.2.1 e hne).trans he
 have B1:B.StaysIn h1:=fun b o q=>(so.2.1 b fun z=>by rw [(hl.mem z).1] at q; cases q).trans (hB b o q)
 generalize htb:({ cls:=.type "traceback",dict:=none,data:=.fields ([head,.ref L,.none,rawInt L,.none] ++ (if pl.isEmpty then List.replicate 6 Value.none else pl)).toArray }:Obj)=tb
 have tbd:tb.data=.fields ([head,.ref L,.none,rawInt L,.none] ++ (if pl.isEmpty then List.replicate 6 Value.none else pl)).toArray:=by rw [← htb]
 have e2:(h1.push tb).get? e=some oe:=Heap.get?_push_of_some _ e1
 refine wpAny_setField e2 hd (by omega) (hQ _ ?_ ?_)
 ·have ne:h1.objs.size≠e:=Nat.ne_of_gt (Heap.lt_size e1)
  have d3:=Obj.data_mapFields hd (·.setIfInBounds 1 (Value.ref h1.objs.size))
  have e3:=Heap.get?_update_self (Obj.mapFields (·.setIfInBounds 1 (Value.ref h1.objs.size))) e2 (Obj.isFreed_of_fields d3)
  have other:∀ b o,b≠e→h1.get? b=some o→((h1.push tb).update e (Obj.mapFields (·.setIfInBounds 1 (Value.ref h1.objs.size)))).get? b=some o:=fun b o hb q=>by
   rw [Heap.get?_update_other _ _ (Ne.symm hb)]
   exact Heap.get?_push_of_some _ q
  refine ⟨fun b o q=>other b o (fun z=>by rw [z,hn] at q; cases q) (B1 b o q),hn,hl.of_keeps fun b o q k=>?_,_,_,e3,(Obj.cls_mapFields _ _).trans hc,(mapFields_dict _ _).trans hdi,d3,by simpa using hz,?_,.inr ⟨h1.objs.size,tb,_,?_,B1.fresh,ne,?_,tbd,?_⟩⟩
  ·obtain ⟨sl,q1⟩:=so.2.2 b o q
   exact ⟨_,other b _ (fun z=>by rw [z,he] at q; cases q; exact k vs hd) q1,rfl⟩
  ·rw [Array.getElem?_setIfInBounds_ne (by decide)]; exact h2
  ·simp [show 1 < vs.size by omega]
  ·rw [Heap.get?_update_other _ _ (Ne.symm ne)]
   exact Heap.get?_push_size _ (by rw [← htb]; rfl)
  ·simp
 ·intro b o q k
  obtain ⟨sl,q1⟩:=so.2.2 b o q
  refine ⟨sl,?_⟩
  rw [Heap.get?_update_other _ _ (fun z=>by rw [← z,he] at q; cases q; exact k vs hd)]
  exact Heap.get?_push_of_some _ q1
theorem air_note {B:Heap} {env:Env} {outer:List Env} {L e:Addr} {cls:Value} {Q:Unit→Shared→Prop} (hfr:A.frames=some (env :: outer)) (hf:env.frame=some L)
  (a:Air B (env :: outer) e cls .none s.heap) (hQ:∀ h',Air B (env :: outer) e cls (rawInt L) h'→s.heap.UpToSlots h'→Q () { s with heap:=h' }):wpAny M A (noteFrame (.ref e) env) Q E s:=by
 obtain ⟨hB,hn,hl,oe,vs,he,hc,hdi,hd,hz,h2,tr⟩:=a
 unfold noteFrame
 simp only [hf]
 rcases tr with h1 | ⟨T,oT,ts,h1,nT,neT,hT,dT,h3⟩
 ·refine wpAny_bind (wpAny_field he hd h1 ?_)
  rw [if_neg (by decide)]
  exact air_entry hfr hf hB hn hl he hc hdi hd hz h2 hQ
 ·refine wpAny_bind (wpAny_field he hd h1 ?_)
  rw [if_pos (by simp:(Value.ref T != Value.none)=true)]
  refine wpAny_bind (wpAny_field hT dT h3 ?_)
  rw [if_neg (by simp [rawInt]:¬ ((Value.none == rawInt L)=true))]
  have zT:3 < ts.size:=(Array.getElem?_eq_some_iff.mp h3).1
  refine wpAny_bind (wpAny_setField hT dT zT ?_)
  have other:∀ b,b≠T→(s.heap.update T (Obj.mapFields (·.setIfInBounds 3 Value.none))).get? b=s.heap.get? b:=fun b hb=>Heap.get?_update_other _ _ (Ne.symm hb)
  have rcd:∀ b o,s.heap.get? b=some o→(∀ ws,o.data≠.fields ws)→b≠T:=fun b o q k z=>by
   rw [z,hT] at q
   cases q
   exact k ts dT
  refine air_entry (s:={ s with heap:=s.heap.update T (Obj.mapFields (·.setIfInBounds 3 Value.none)) }) hfr hf (fun b o q=>(other b fun z=>by rw [z,nT] at q; cases q).trans (hB b o q)) hn
   (hl.of_keeps fun b o q k=>⟨o,(other b (rcd b o q k)).trans q,rfl⟩) ((other e (Ne.symm neT)).trans he) hc hdi hd hz h2 fun h' x1 x2=>hQ h' x1 fun b o q k=>x2 b o ((other b (rcd b o q k)).trans q) k
theorem air_land {B:Heap} {l:List Env} {e:Addr} {cls fl:Value} {Q:Unit→Shared→Prop} (a:Air B l e cls fl s.heap)
  (hQ:∀ h',Air B l e cls .none h'→s.heap.UpToSlots h'→Q () { s with heap:=h' }):wpAny M A (setFlight (.ref e) none) Q E s:=by
 obtain ⟨hB,hn,hl,oe,vs,he,hc,hdi,hd,hz,h2,tr⟩:=a
 unfold setFlight
 rcases tr with h1 | ⟨T,oT,ts,h1,nT,neT,hT,dT,h3⟩
 ·refine wpAny_bind (wpAny_field he hd h1 ?_)
  rw [if_neg (by decide)]
  exact wpAny_pure (hQ s.heap ⟨hB,hn,hl,oe,vs,he,hc,hdi,hd,hz,h2,.inl h1⟩ (.refl _))
 ·refine wpAny_bind (wpAny_field he hd h1 ?_)
  rw [if_pos (by simp:(Value.ref T != Value.none)=true)]
  have zT:3 < ts.size:=(Array.getElem?_eq_some_iff.mp h3).1
  have other:∀ (v:Value) b,b≠T→(s.heap.update T (Obj.mapFields (·.setIfInBounds 3 v))).get? b=s.heap.get? b:=fun v b hb=>Heap.get?_update_other _ _ (Ne.symm hb)
  have rcd:∀ b o,s.heap.get? b=some o→(∀ ws,o.data≠.fields ws)→b≠T:=fun b o q k z=>by
   rw [z,hT] at q
   cases q
   exact k ts dT
  refine wpAny_setField hT dT zT (hQ _ ⟨fun b o q=>(other _ b fun z=>by rw [z,nT] at q; cases q).trans (hB b o q),hn,hl.of_keeps fun b o q k=>⟨o,(other _ b (rcd b o q k)).trans q,rfl⟩,
   oe,vs,(other _ e (Ne.symm neT)).trans he,hc,hdi,hd,hz,h2,.inr ⟨T,_,_,h1,nT,neT,Heap.get?_update_self _ hT (Obj.isFreed_of_fields (Obj.data_mapFields dT _)),Obj.data_mapFields dT _,by simp [zT]⟩⟩
   fun b o q k=>⟨o.slots,(other _ b (rcd b o q k)).trans q⟩)
theorem air_leave {B:Heap} {env:Env} {outer:List Env} {L e:Addr} {cls:Value} {Q:Unit→Shared→Prop} (hfr:A.frames=some (env :: outer)) (hf:env.frame=some L)
  (a:Air B (env :: outer) e cls .none s.heap) (hQ:∀ h',Air B outer e cls .none h'→s.heap.UpToSlots h'→Q () { s with heap:=h' }):wpAny M A (leaving env (.ref e)) Q E s:=by
 unfold leaving
 refine wpAny_bind (air_note hfr hf a fun h1 a1 u1=>?_)
 refine air_land a1 fun h2 a2 u2=>hQ h2 ⟨a2.stays,a2.new,a2.fr.2.2,a2.obj⟩ (u1.trans u2)
theorem air_made {B h h':Heap} {l:List Env} {e:Addr} {cls:Value} {args:List Value} (hB:B.StaysIn h) (hl:h.FunFrames B l) (hx:Heap.MadeExcOf h h' e cls args):Air B l e cls .none h':=by
 obtain ⟨t,he,_,_⟩:=hx.there
 refine ⟨fun b o q=>hx.keeps b o (hB b o q),?_,hl.of_keeps fun b o q _=>⟨o,hx.keeps b o q,rfl⟩,_,_,he,rfl,rfl,rfl,by simp,by simp,.inl (by simp)⟩
 cases q:B.get? e with
 | none=>rfl
 | some o =>
  have:=hB e o q
  rw [hx.new] at this
  cases this
end
end BF
namespace BF
open PySem PySem.Spec PyProof.Rows L2
structure Flew (P:Program) (w:World) (l:List Env) (H H':Hp) (x:Addr) (cls:Value) (h h' B:Heap):Prop where
 air:Air B l x cls .none h'
 hok:HOk P w H' B
 keep:∀ b o,h.get? b=some o→H b=none→b ∉ frs l→B.get? b=some o
 there:∀ b o,h.get? b=some o→b ∉ frs l→∃ o',B.get? b=some o'
 slot:∀ b o,h.get? b=some o→H b=none→b∈frs l→∃ sl,h'.get? b=some { o with slots:=sl }
 free:∀ b o,h.get? b=some o→H b=none→H' b=none
 tups:∀ b xs,H b=some (.tup xs)→H' b=some (.tup xs)
 frzs:∀ b o u,H b=some (.frz o u)→H' b=some (.frz o u)
 tbls:∀ b ps,H b=some (.tbl ps)→∃ more,H' b=some (.tbl (ps ++ more))
def CXE (P:Program) (w:World):CXT:=fun outer H s E e s'=>∃ x cls H' B,e=.ref x∧s'.os=s.os∧AllBare s'.gens∧Flew P w outer H H' x cls s.heap s'.heap B∧E cls none H'
theorem Flew.un {P:Program} {w:World} {l:List Env} {H H':Hp} {x:Addr} {cls fl:Value} {h h' h6 B:Heap} (F:Flew P w l H H' x cls h h' B) (frf:∀ b∈frs l,H b=none) (a6:Air B l x cls fl h6) (u:h'.UpToSlots h6) :
  Un (frs l) [] H H' h h6:=by
 have sl:∀ b o,h.get? b=some o→H b=none→b∈frs l→∃ sl,h6.get? b=some { o with slots:=sl }:=fun b o q n hb=>by
  obtain ⟨s1,q1⟩:=F.slot b o q n hb
  obtain ⟨_,o',q2,k⟩:=F.air.fr.mem hb
  rw [q1] at q2
  cases q2
  obtain ⟨s2,q3⟩:=u b _ q1 k
  exact ⟨s2,q3⟩
 refine ⟨fun b o q n hb _=>a6.stays b o (F.keep b o q n hb),fun b o q n hb _=>sl b o q n hb,fun b o q n _=>F.free b o q n,fun b o q _=>?_,F.tups,F.frzs,F.tbls⟩
 by_cases hb:b∈frs l
 ·obtain ⟨s2,q3⟩:=sl b o q (frf b hb) hb
  exact ⟨_,q3⟩
 ·obtain ⟨o',q3⟩:=F.there b o q hb
  exact ⟨o',a6.stays b o' q3⟩
theorem Flew.ok {P:Program} {w:World} {l:List Env} {H H':Hp} {x:Addr} {cls fl:Value} {h h' h6 B:Heap} (F:Flew P w l H H' x cls h h' B) (a6:Air B l x cls fl h6):HOk P w H' h6:=F.hok.kept a6.stays
theorem exc_of {K:PySem.W.Frag} {C:Addr} {bmB:List Value} {newId:String} (q:PySem.W.excIn K C bmB newId=true) {h:Heap} (X:K.In h) :
  ∃ nm qn N bs bm hdct sn sub ab col dd k0 k1 k2 k3 k5 mN,h.get? C=some (excClassObj nm qn C N bs bm hdct sn sub ab col dd k0 k1 k2 k3 k5 newId)∧h.Ns N mN∧mN "__init__"=none∧OwnTail h bmB bm:=by
 unfold PySem.W.excIn at q
 split at q
 ·rename_i dd cd sl ho
  split at q
  ·rename_i C' bm j0 j1 j2 j3 n j5 hm hs
   simp only [Bool.and_eq_true,beq_iff_eq,Bool.not_eq_true'] at q
   obtain ⟨⟨⟨⟨⟨rfl,rfl⟩,hdel⟩,ht⟩,hk⟩,hni⟩:=q
   obtain ⟨nm,bs,mro,ns,qn,hd,sn,sub,ab,col,del⟩:=cd
   dsimp only at hm hdel hk hni
   subst hm hdel
   obtain ⟨l⟩:=sl
   simp only at hs
   subst hs
   exact ⟨nm,qn,ns,bs,bm,hd,sn,sub,ab,col,dd,j0,j1,j2,j3,j5,_,X _ _ ho,.of_isNs (PySem.W.isNs_of_in X hk),PySem.W.nsMap_none_of_in X hk hni,PySem.W.tail_of_in X ht⟩
  ·cases q
 ·cases q
section
variable {P:Program} {w:World} {K:PySem.W.Frag} {mg:Str→Option Value} {base:Heap} {N:List Str} {qual:Str} {scope:Scope} {f:Addr} {cdv:Value} {A:Around} {outer:List Env} {s:Shared} {H:Hp} {E:XK}
theorem leave_made {pins:List (Addr×Obj)} {σ:L2.St} {H2:Hp} {s2:Shared} {h':Heap} {x:Addr} {cls:Value} {args:List Value}
  (I:Inv (cxOf (CXE P w) P w K mg base N qual scope f cdv A outer s H E) pins σ H2 s2) (hx:Heap.MadeExcOf s2.heap h' x cls args) (hE:E cls none H2) :
  (cxOf (CXE P w) P w K mg base N qual scope f cdv A outer s H E).xe (.ref x) { s2 with heap:=h' }:=by
 generalize hY:cxOf (CXE P w) P w K mg base N qual scope f cdv A outer s H E=Y at I
 have e1:Y.stack=envOfC qual scope s.heap.objs.size f cdv :: outer:=by rw [← hY]; rfl
 have e2:Y.fs=frs outer:=by rw [← hY]; rfl
 have e3:Y.ex=[]:=by rw [← hY]; rfl
 have e4:Y.s₀=s:=by rw [← hY]; rfl
 have e5:Y.H₀=H:=by rw [← hY]; rfl
 have e6:Y.env=envOfC qual scope s.heap.objs.size f cdv:=by rw [← hY]; rfl
 have e7:Y.prog=P:=by rw [← hY]; rfl
 have e8:Y.w=w:=by rw [← hY]; rfl
 have fr:=I.stack
 have sf:=I.stkFree
 have hb:=I.base
 have hfr:=I.ok.frames
 have ab:=I.ok.above
 have os:=I.os
 have hk:=I.hok
 rw [e1] at fr sf hfr
 rw [e2,e3,e4,e5] at hb
 rw [e4] at ab os
 rw [e6] at ab
 rw [e7,e8] at hk
 have hin:∀ b,b∈frs (envOfC qual scope s.heap.objs.size f cdv :: outer)→H2 b=none:=sf
 have inB:∀ b o,s2.heap.get? b=some o→b ∉ frs (envOfC qual scope s.heap.objs.size f cdv :: outer)→(PySem.W.hideAll s2.heap (frs (envOfC qual scope s.heap.objs.size f cdv :: outer))).get? b=some o:=fun b o q n=>PySem.W.hideAll_get _ q n
 have old:∀ b o,s.heap.get? b=some o→b ∉ frs outer→b ∉ frs (envOfC qual scope s.heap.objs.size f cdv :: outer):=fun b o q n z=>by
  rcases List.mem_cons.mp (show b∈s.heap.objs.size :: frs outer from z) with z | z
  ·exact absurd (Heap.lt_size q) (by rw [z]; exact Nat.lt_irrefl _)
  ·exact n z
 have a0:=air_made (fun b o q=>PySem.W.of_hideAll _ q) (PySem.W.funFrames_hide fr fun env he a ha=>List.mem_filterMap.mpr ⟨env,he,ha⟩) hx
 subst hY
 refine air_leave (s:={ s2 with heap:=h' }) (L:=s.heap.objs.size) hfr rfl a0 fun h3 a3 u3=>?_
 refine ⟨x,cls,H2,_,rfl,os,I.bare,⟨a3,fun b o q=>?_,fun b o q n hn=>?_,fun b o q hn=>?_,fun b o q n hn=>?_,fun b o q n=>hb.free b o q n (by simp),hb.tups,hb.frzs,hb.tbls⟩,hE⟩
 ·refine (hk b o q).stay (fun c u hc qc=>inB c u qc fun z=>?_) (fun _ z=>z) fun _ _ z=>z
  have:=hin c z
  rcases hc with e | e
  ·rw [e] at this; rw [this] at q; cases q
  ·rw [this] at e; cases e
 ·exact inB b o (hb.keep b o q n hn (by simp)) (old b o q hn)
 ·obtain ⟨o',q'⟩:=hb.there b o q (by simp)
  exact ⟨o',inB b o' q' (old b o q hn)⟩
 ·obtain ⟨sl,q1⟩:=hb.slot b o q n hn (by simp)
  obtain ⟨_,o',q2,k⟩:=fr.mem (List.mem_cons_of_mem _ hn:b∈s.heap.objs.size :: frs outer)
  rw [q1] at q2
  cases q2
  obtain ⟨sl2,q3⟩:=u3 b _ (hx.keeps b _ q1) k
  exact ⟨sl2,q3⟩
theorem ps_raise {x:Str} {np cpos pos:Pos} {a:Expr} {ta:TE} {C:Addr} (hg:Gl (cxOf (CXE P w) P w K mg base N qual scope f cdv A outer s H E) x) (hm:mg x=some (.ref C)) (hd:A.handled=none)
  (q:PySem.W.excIn K C [.type "ValueError",.type "Exception",.type "BaseException",.type "object"] "ValueError.__new__"=true)
  (ha:PE (cxOf (CXE P w) P w K mg base N qual scope f cdv A outer s H E) a ta)
  (hs:starEach [a] (cxOf (CXE P w) P w K mg base N qual scope f cdv A outer s H E).env=[(false,eval a (cxOf (CXE P w) P w K mg base N qual scope f cdv A outer s H E).env)]:=by rfl) (hdb:(x == ("__debug__":Str))=false:=by decide) :
  PS (cxOf (CXE P w) P w K mg base N qual scope f cdv A outer s H E) (.Raise (some (.Call (.Name x np) [a] [] cpos)) none pos) (fun D σ H1=>ta σ H1 fun v H2=>E (.ref C) none H2):=by
 intro pins s1 σ H1 D I h
 obtain ⟨nm,qn,N',bs,bm,hdct,sn,sub,ab,col,dd,k0,k1,k2,k3,k5,mN,hC,hN,hni,T⟩:=exc_of q I.ok.mod.kin
 refine wpAny_Raise_call_subT (C:=C) (nm:=nm) (q:=qn) (N:=N') (bs:=bs) (bm:=bm) (hdct:=hdct) (sn:=sn) (sub:=sub) (ab:=ab) (col:=col) (dd:=dd) (k0:=k0) (k1:=k1) (k2:=k2) (k3:=k3) (k5:=k5)
  PySem.F.excBase_ValueError (mN:=mN) (T.hasType PySem.F.excBase_ValueError.hasBase) hd (by rw [hs]; rfl) hni (ld_glob I hg hm ⟨rfl,?_⟩ hdb)
 rw [hs]
 refine Calls.evalArgs_plain (Calls.spliced_cons (thn (ha pins s1 σ H1 _ I h) fun u s2 ⟨v,H2,I2,r2,q2⟩=>Calls.spliced_nil ⟨rfl,szr rfl,I2.bk _ _ hC,hN.keeps I2.bk,T.keeps I2.bk,fun h' x hx=>?_⟩))
 exact leave_made I2 hx q2
end
theorem ObjOk.is {P:Program} {w:World} {H:Hp} {h:Heap} {a:Addr} {o:HO} (x:ObjOk P w H h a o):∃ u,h.get? a=some u:=by
 cases o with
 | lst xs=>obtain ⟨_,_,_,_,e⟩:=x; exact ⟨_,e⟩
 | tup xs=>obtain ⟨_,_,_,ob,e,_⟩:=x; exact ⟨_,e⟩
 | dK kvs=>obtain ⟨_,_,_,_,o,_,_,e,_⟩:=x; exact ⟨_,e⟩
 | dT kvs=>obtain ⟨_,_,_,_,o,_,_,e,_⟩:=x; exact ⟨_,e⟩
 | set S n=>obtain ⟨o,_,_,_,e,_⟩:=x; exact ⟨_,e⟩
 | ins C dx fs=>obtain ⟨_,_,_,e,_⟩:=x; exact ⟨_,e⟩
 | own y=>exact x
 | xd fs=>obtain ⟨_,⟨_,_,_,e,_⟩,_⟩:=x; exact ⟨_,e⟩
 | rng lo hi=>obtain ⟨_,_,_,e⟩:=x; exact ⟨_,e⟩
 | frz ob u=>exact ⟨_,x.1⟩
 | tbl ps=>exact ⟨_,show h.get? a=some _ from x⟩
 | met f y=>exact ⟨_,show h.get? a=some _ from x⟩
 | ext φ=>exact x.2.1
def ExcO (cls:Value) (o:Obj):Prop:=o.cls=cls∧o.dict=none∧∃ vs,o.data=.fields vs∧vs[2]?=some .none
abbrev frzX (o:Obj):HO:=.frz o (.ext fun _=>True)
def TryE (X:Cx) (W:L2.St→Value→Hp→Prop) (e:Value) (s':Shared):Prop :=
 ∃ pins σ H1 s1 H' x cls B,e=.ref x∧Inv X pins σ H1 s1∧s'.os=s1.os∧AllBare s'.gens∧Flew X.prog X.w X.stack H1 H' x cls s1.heap s'.heap B∧W σ cls H'
theorem pe_callX {X:Cx} {W:L2.St→Value→Hp→Prop} {k:Nat} {f:Addr} {fd:FuncData} {ps:List Str} {sp:Sp} {x:Str} {p pos:Pos} {e:Expr} {es:List Expr} {t:TA}
  (F:FnOk X.prog X.w X.K X.mg X.base (CXE X.prog X.w) k f fd ps sp) (hr:Room k X.A) (hg:Gl X x) (hm:X.mg x=some (.ref f)) (hk:PySem.W.keepIn X.K (.ref f)=true) (hb:Binds X.K fd ps [])
  (ha:PA (X.wish (TryE X W)) (e :: es) t) (hdb:(x == ("__debug__":Str))=false:=by decide) (he:starEach (e :: es) X.env=(false,eval e X.env) :: starEach es X.env:=by rfl) (hpl:(backTo pos (starEach es X.env)).any (·.1)=false:=by rfl) :
  PE (X.wish (TryE X W)) (.Call (.Name x p) (e :: es) [] pos) (fun σ H Q=>t σ H fun vs H1=>sp vs H1 Q fun cls _ H'=>W σ cls H'):=by
 intro pins s σ H Q I h
 refine wpAny_Call_Name_kw (ld_glob I hg hm ?_ hdb)
 refine PySem.W.callWith_K (h₀:=X.base) I.ok.mod.kin hk (thn (ha pos pins s σ H _ I h) fun us s1 ⟨vs,H1,I1,r,q⟩=>⟨I1.kIn,?_⟩) he hpl
 have hl:us.length=ps.length:=by rw [← r.length]; exact F.len _ _ _ _ q
 have bd:=hb s1 us I1.kIn (by rw [List.append_nil]; exact hl)
 rw [List.append_nil] at bd
 refine wpAny_call (codeAny_mono (F.run X.A X.stack s1 H1 ⟨us,[]⟩ us vs Q _ hr I1.env0 bd r q) fun r' s' hq=>?_)
 cases r' with
 | error e =>
  obtain ⟨x,cls,H',B,rfl,os,bare,fl,hw⟩:=hq
  exact ⟨pins,σ,H1,s1,H',x,cls,B,rfl,I1.unwish,os,bare,fl,hw⟩
 | ok fl =>
  cases fl with
  | ret u=>exact I1.after hq
  | next=>exact False.elim hq
  | brk=>exact False.elim hq
  | cont=>exact False.elim hq
abbrev suiteCx (X:Cx) (x:Addr):Cx:={ X with A:=X.A.mark (some (.ref x)),calm:=false }
section
variable {X:Cx} {pins:List (Addr×Obj)} {σ:L2.St} {H H':Hp} {s:Shared}
theorem Inv.marked (I:Inv X pins σ H s) (x:Addr):Inv (suiteCx X x) pins σ H s :=
 ⟨⟨I.ok.mod,I.ok.kind,I.ok.glob,I.ok.blt,I.ok.above,I.ok.inj,I.ok.has,I.ok.cab,(fun z=>absurd z Bool.false_ne_true),I.ok.frames,I.ok.stk,I.ok.exf,I.ok.bs,I.ok.bsz,I.ok.noex,I.ok.exfs,I.ok.funs,I.ok.frf⟩,I.os,I.bare,I.base,I.loc,I.cell,I.free,I.freeC,I.pin,I.hok,I.len⟩
theorem Inv.unmarked {x:Addr} (I:Inv (suiteCx X x) pins σ H s) (ok:X.Ok):Inv X pins σ H s:=⟨ok,I.os,I.bare,I.base,I.loc,I.cell,I.free,I.freeC,I.pin,I.hok,I.len⟩
theorem Cx.Ok.repin (ok:X.Ok) (pn:List (Addr×Obj)):({ X with pn:=pn }:Cx).Ok :=
 ⟨ok.mod,ok.kind,ok.glob,ok.blt,ok.above,ok.inj,ok.has,ok.cab,ok.hd,ok.frames,ok.stk,ok.exf,ok.bs,ok.bsz,ok.noex,ok.exfs,ok.funs,ok.frf⟩
theorem Inv.repin (I:Inv X pins σ H s):Inv { X with pn:=X.pn ++ pins } [] σ H s :=
 ⟨Cx.Ok.repin I.ok _,I.os,I.bare,I.base,I.loc,I.cell,I.free,I.freeC,fun p hp=>I.pin p (by rw [List.append_nil] at hp; exact hp),I.hok,I.len⟩
theorem Inv.unpin {pl:List (Addr×Obj)} (ok:X.Ok) (I:Inv { X with pn:=X.pn ++ pins } pl σ H s):Inv X pins σ H s :=
 ⟨ok,I.os,I.bare,I.base,I.loc,I.cell,I.free,I.freeC,fun p hp=>I.pin p (List.mem_append_left _ hp),I.hok,I.len⟩
theorem Un.more {fs ex:List Addr} {h h':Heap} {x:Addr} {o:HO} (u:Un fs ex H H' h h') (hx:h.get? x=none) (hn:H' x=none):Un fs ex H (upd H' x o) h h':=by
 refine ⟨u.keep,u.slot,fun b ob q n hb=>?_,u.there,fun b xs q=>?_,fun b ob v q=>?_,fun b ps q=>?_⟩
 ·rw [upd_ne (fun z=>by rw [z,hx] at q; cases q)]; exact u.free b ob q n hb
 ·have:=u.tups b xs q
  rw [upd_ne (ne_of_none this hn)]; exact this
 ·have:=u.frzs b ob v q
  rw [upd_ne (ne_of_none this hn)]; exact this
 ·obtain ⟨more,e⟩:=u.tbls b ps q
  exact ⟨more,by rw [upd_ne (ne_of_none e hn)]; exact e⟩
theorem HOk.more {P:Program} {w:World} {h:Heap} {x:Addr} {o:HO} (k:HOk P w H h) (hn:H x=none) (new:ObjOk P w (upd H x o) h x o):HOk P w (upd H x o) h:=fun b u e=>by
 by_cases hb:b=x
 ·subst hb
  rw [upd_same] at e
  cases e
  exact new
 ·rw [upd_ne hb] at e
  exact (k b u e).stay (fun _ _ _ q=>q) (fun c z=>by rw [upd_ne (ne_of_none z hn)]; exact z) fun c xs z=>by rw [upd_ne (ne_of_none z hn)]; exact z
theorem unbind_ok {M:Model} {A:Around} {E:Value→Shared→Prop} {i:Nat} {n:Str} {pos:Pos} {Q:Unit→Shared→Prop} (I:Inv X pins σ H s) (hN:X.N.Nodup) (hi:X.N[i]?=some n) (hk:X.env.scope.names.lookup n=some .local)
  (h:∀ s',Inv X pins (σ.set i none) H s'→Q () s'):wpAny M A (do bindName X.env n .none; unbindBehindTheSuite X.env n pos) Q E s:=by
 obtain ⟨m,hn,hl⟩:=id I.loc
 have hcls:(X.env.scope.kind == .class || (X.env.scope.kind == .module && X.env.locals != X.env.globals))=false:=by rw [I.ok.kind]; rfl
 have hiσ:i < σ.length:=by rw [I.len]; exact (List.getElem?_eq_some_iff.mp hi).1
 obtain ⟨oL,_,_,hoL,_⟩:=id hn
 refine wpAny_nameGoes_keeps hk hn hcls fun h' v hn' hs=>?_
 have up:∀ b o,X.s₀.heap.get? b=some o→b≠X.env.locals:=fun b o e=>Nat.ne_of_lt (Nat.lt_of_lt_of_le (Heap.lt_size e) I.ok.above)
 refine h _ ⟨I.ok,I.os,I.bare,⟨fun b o e z hb hx=>?_,fun b o e z hb hx=>?_,I.base.free,fun b o e hx=>?_,I.base.tups,I.base.frzs,I.base.tbls⟩,⟨_,hn',fun j y v' e1 e2 e3=>?_⟩,fun y c e=>?_,I.free,I.freeC,fun p hp=>?_,fun b ob e=>?_,by simpa using I.len⟩
 ·exact (hs.2 b (up b o e)).trans (I.base.keep b o e z hb hx)
 ·obtain ⟨sl,e1⟩:=I.base.slot b o e z hb hx
  exact ⟨sl,(hs.2 b (up b o e)).trans e1⟩
 ·obtain ⟨o',e1⟩:=I.base.there b o e hx
  exact ⟨o',(hs.2 b (up b o e)).trans e1⟩
 ·by_cases hj:j=i
  ·subst hj
   rw [List.getElem?_set_self hiσ] at e2
   cases e2
  ·rw [List.getElem?_set_ne (Ne.symm hj)] at e2
   obtain ⟨u',r',q⟩:=hl j y v' e1 e2 e3
   refine ⟨u',r',?_⟩
   rcases q with ⟨k,e⟩ | ⟨k,c,e,z⟩
   ·refine .inl ⟨k,?_⟩
    have:y≠n:=fun e=>hj (nodup_ix hN e1 (e ▸ hi))
    simp [this,e]
   ·exact .inr ⟨k,c,e,z.sameBut hs (I.cne y c e)⟩
 ·obtain ⟨w',z⟩:=I.cell y c e
  exact ⟨w',z.sameBut hs (I.cne y c e)⟩
 ·obtain ⟨e,z,ne,nf,d⟩:=I.pin p hp
  exact ⟨(hs.2 p.1 ne).trans e,z,ne,nf,d⟩
 ·refine (I.hok b ob e).stay (fun c u hc q=>(hs.2 c ?_).trans q) (fun _ q=>q) fun _ _ q=>q
  rintro rfl
  rcases hc with rfl | hc
  ·rw [I.free] at e; cases e
  ·rw [I.free] at hc; cases hc
end
def tTry (K:PySem.W.Frag) (Cc:Addr) (i:Nat) (tb:(L2.St→Value→Hp→Prop)→TS) (ts:Addr→TS):TS:=fun D σ H =>
 tb (fun σ' cls H'=>PySem.W.exmOne K cls (.ref Cc)=some true∧∀ x o,H' x=none→ExcO cls o →
  ts x { nx:=fun σ2 H2=>D.nx (σ2.set i none) H2,bk:=fun σ2 H2=>D.bk (σ2.set i none) H2,ct:=fun σ2 H2=>D.ct (σ2.set i none) H2,rt:=D.rt } (σ'.set i (some (.ref x))) (upd H' x (frzX o))) D σ H
theorem ps_try {X:Cx} {body suite:List Stmt} {b₀:Stmt} {c n:Str} {np hpos pos:Pos} {i:Nat} {Cc:Addr} {tb:(L2.St→Value→Hp→Prop)→TS} {ts:Addr→TS} (hstk:X.stack=X.env :: X.outer) (hfr:X.env.frame=some X.env.locals)
  (hN:X.N.Nodup) (hi:X.N[i]?=some n) (hn:X.env.scope.names.lookup n=some .local) (hg:Gl X c) (hm:X.mg c=some (.ref Cc)) (hxe:∀ e s',¬ X.xe e s')
  (hb:∀ pn W,PSs (({ X with pn:=pn }:Cx).wish (TryE { X with pn:=pn } W)) body (tb W)) (hs:∀ x pn,PSs (suiteCx { X with pn:=pn } x) (b₀ :: suite) (ts x)) (hdb:(c == ("__debug__":Str))=false:=by decide) :
  PS X (.Try body [.ExceptHandler (some (.Name c np)) (some n) (b₀ :: suite) hpos] [] [] pos) (tTry X.K Cc i tb ts):=by
 intro pins s σ H D I h
 refine wpAny_Try_except (wpAny_mono (hb (X.pn ++ pins) _ [] s σ H D ((Inv.repin I).wish _) h) (fun fl s1 q=>?_) fun e s1 q=>?_)
 ·cases fl with
  | next=>obtain ⟨σ',H',J,q⟩:=q; exact wpAny_execs_nil ⟨σ',H',Inv.unpin I.ok J.unwish,q⟩
  | brk=>obtain ⟨σ',H',J,q⟩:=q; exact ⟨σ',H',Inv.unpin I.ok J.unwish,q⟩
  | cont=>obtain ⟨σ',H',J,q⟩:=q; exact ⟨σ',H',Inv.unpin I.ok J.unwish,q⟩
  | ret v=>obtain ⟨v',σ',H',J,r,q⟩:=q; exact ⟨v',σ',H',Inv.unpin I.ok J.unwish,r,q⟩
 ·obtain ⟨pl,σ1,H1,s0,H',x,cls,B,rfl,J,os,bare,fl,ex,hw⟩:=q
  have frs1:X.A.frames=some (X.env :: X.outer):=by rw [← hstk]; exact I.ok.frames
  have fl0:Air B (X.env :: X.outer) x cls .none s1.heap:=by rw [← hstk]; exact fl.air
  refine air_note frs1 hfr fl0 fun h2 a2 u2=>?_
  refine air_land a2 fun h3 a3 u3=>?_
  have A3:Air B X.stack x cls .none h3:=by rw [hstk]; exact a3
  have U3:=u2.trans u3
  have J3:Inv { X with pn:=X.pn ++ pins } pl σ1 H' { s1 with heap:=h3 }:=J.call' (s':={ s1 with heap:=h3 }) (ch:=[]) os (fl.un J.stkFree A3 U3) (fl.ok A3) bare fun b z=>nomatch z
  obtain ⟨oe,vs,he,hc,_⟩:=a3.obj
  have LT:PySem.W.Looks (model X.prog X.w) h3 (typeOf (.ref x)) cls:=hc ▸ (PySem.W.Looks.ld he).andThen .now
  refine wpAny_handleBy_cons (codeAny_handlers_test (ld_glob (Inv.marked J3 x) hg hm ((PySem.W.exm_one J3.kIn LT ex).here ?_) hdb)) (by intro z; cases z)
  refine codeAny_handlers_suite_as ?_
  refine air_land (s:={ s1 with heap:=h3 }) a3 fun h6 a6 u6=>?_
  have A6:Air B X.stack x cls .none h6:=by rw [hstk]; exact a6
  have U6:=U3.trans u6
  obtain ⟨o6,vs6,g6,c6,d6,dt6,z6,n6,_⟩:=a6.obj
  have hx':H' x=none:=by
   cases q:H' x with
   | none=>rfl
   | some o =>
    obtain ⟨u,qu⟩:=ObjOk.is (fl.hok x o q)
    rw [A6.new] at qu
    cases qu
  have hx0:s0.heap.get? x=none:=by
   cases q:s0.heap.get? x with
   | none=>rfl
   | some o =>
    by_cases hm':x∈frs X.stack
    ·obtain ⟨_,o',q2,k⟩:=A6.fr.mem hm'
     rw [g6] at q2
     cases q2
     exact absurd dt6 (k vs6)
    ·obtain ⟨o',q2⟩:=fl.there x o q hm'
     rw [A6.new] at q2
     cases q2
  have J6:Inv { X with pn:=X.pn ++ pins } pl σ1 (upd H' x (frzX o6)) { s1 with heap:=h6 } :=
   J.call' (s':={ s1 with heap:=h6 }) (ch:=[]) os (Un.more (fl.un J.stkFree A6 U6) hx0 hx') (HOk.more (fl.ok A6) hx' ⟨g6,trivial,⟨_,g6⟩,fun _ _ _ _=>trivial⟩) bare fun b z=>nomatch z
  refine store_ok (X:=suiteCx { X with pn:=X.pn ++ pins } x) (Inv.marked J6 x) hN hi (Or.inl hn) (v:=.ref x) rfl (fun s7 J7=>?_) (Or.inr hn)
  refine wpAny_mono (hs x (X.pn ++ pins) pl s7 _ _ _ J7 (hw x o6 hx' ⟨c6,d6,vs6,dt6,n6⟩)) (fun f s8 q8=>?_) fun e s8 z=>(hxe _ _ z).elim
  cases f with
  | next=>obtain ⟨σ8,H8,J8,q8⟩:=q8; exact unbind_ok (Inv.unpin I.ok (Inv.unmarked J8 (Cx.Ok.repin I.ok _))) hN hi hn fun s9 J9=>⟨_,H8,J9,q8⟩
  | brk=>obtain ⟨σ8,H8,J8,q8⟩:=q8; exact unbind_ok (Inv.unpin I.ok (Inv.unmarked J8 (Cx.Ok.repin I.ok _))) hN hi hn fun s9 J9=>⟨_,H8,J9,q8⟩
  | cont=>obtain ⟨σ8,H8,J8,q8⟩:=q8; exact unbind_ok (Inv.unpin I.ok (Inv.unmarked J8 (Cx.Ok.repin I.ok _))) hN hi hn fun s9 J9=>⟨_,H8,J9,q8⟩
  | ret v=>obtain ⟨v',σ8,H8,J8,r,q8⟩:=q8; exact unbind_ok (Inv.unpin I.ok (Inv.unmarked J8 (Cx.Ok.repin I.ok _))) hN hi hn fun s9 J9=>⟨v',_,H8,J9,r,q8⟩
end BF
namespace BF
open PySem PySem.Spec PyProof.Rows
structure XCls (K:PySem.W.Frag) (C:Addr):Prop where
 hd:PySem.W.hasDictIn K C=true
 ga:PySem.W.findIn K (.ref C) "__getattribute__"=some (some (.builtin "BaseException.__getattribute__"))
 gh:PySem.W.findIn K (.ref C) "__getattr__"=some none
 kl:PySem.W.findIn K (.ref C) "__class__"=some (some (.builtin "object.__class__"))
 gg:PySem.W.specialIn K (.builtin "object.__class__") "__get__"=some (some (.builtin "getset_descriptor.__get__"))
 tk:PySem.W.takesIn K (.builtin "object.__class__")=some true
 ob:PySem.W.mroIn K C (.type "object")=some true
 be:PySem.W.mroIn K C (.type "BaseException")=some true
section
variable {prog:Program} {w:World} {A:Around} {E:Value→Shared→Prop} {s:Shared} {K:PySem.W.Frag} {x C:Addr} {ox:Obj}
theorem exc_find (F:XCls K C):PySem.W.findObj K C none "__class__"=some (.bind (.builtin "getset_descriptor.__get__") (.builtin "object.__class__")):=by
 obtain ⟨cd,hc,_⟩:=PySem.W.any_some F.hd
 unfold PySem.W.findObj
 rw [hc,Option.bind_some,F.kl,Option.bind_some]
 simp [F.gg,F.tk]
theorem exc_class {Q:Option Value→Shared→Prop} (F:XCls K C) (X:K.In s.heap) (I:PySem.W.InstAt s.heap x ox C none) (h:Q (some (.ref C)) { s with toks:=s.toks + 1 }) :
  wpAny (model prog w) A (getAttr? (.ref x) "__class__") Q E s:=by
 obtain ⟨hh,g,d,t,os⟩:=s
 have l0:=I.type (M:=model prog w)
 have l1:=PySem.W.looks_findIn (M:=model prog w) X F.ga
 have l2:=PySem.W.looks_findIn (M:=model prog w) X F.gh
 have l3:=PySem.W.looks_find (M:=model prog w) X I (exc_find F)
 have l4:PySem.W.Looks (model prog w) hh (isInstance (.ref x) (.type "BaseException")) true:=l0.andThen (PySem.W.looks_mroIn X F.be)
 have bd:=PySem.F.attr_ValueError.ga.bind (.ref x)
 unfold getAttr? getAttrBy? getAttrBy
 refine wpAny_bind (wpAny_mkText (wpAny_bind (wpAny_attempt (wpAny_holding (wpAny_bind (l0.at (wpAny_bind (l1.at ?_))))))))
 show wpAny _ _ (if (onTheHeap (.ref C) && Value.builtin "BaseException.__getattribute__" == Value.builtin "object.__getattribute__")=true then _ else _) _ _ _
 have hgb:(Value.builtin "BaseException.__getattribute__" == Value.builtin "object.__getattribute__")=false:=by decide +kernel
 rw [if_neg (by rw [hgb]; simp)]
 unfold getAttrByItsOwn
 refine wpAny_bind (m:=hookBefore (.ref C)) (l2.at ?_)
 refine wpAny_bind (wpAny_attempt (wpAny_holding ?_))
 show wpAny _ _ (boundAndCalled (.builtin "BaseException.__getattribute__") (.ref x) _) _ _ _
 unfold boundAndCalled
 refine wpAny_bind (wpAny_of_eq bd ?_)
 have hk:builtinKind "BaseException.__getattribute__"=some .slot:=by decide +kernel
 have hsp:splitId "BaseException.__getattribute__"=some ("BaseException","__getattribute__"):=by decide +kernel
 refine wpAny_call (codeAny_call_builtin PySem.F.attr_ValueError.ga.plain PySem.F.entry_bexc_ga ?_)
 have ha:=PySem.F.args_bexc_ga (.ref x) (.str "__class__" t)
 show wpAny _ _ (checkBuiltinCall "BaseException.__getattribute__" ⟨[.ref x,.str "__class__" t],[]⟩) _ _ _
 simp only [checkBuiltinCall,hk,hsp]
 refine wpAny_bind (l4.at ?_)
 rw [if_neg (by decide)]
 refine wpAny_of_eq ha ?_
 unfold Builtin.«object.__getattribute__»
 refine wpAny_bind (wpAny_of_eq (a:=(Value.ref x,[Value.str "__class__" t])) rfl ?_)
 refine wpAny_bind (wpAny_of_eq (a:=("__class__":Str)) rfl ?_)
 refine wpAny_bind (l0.at ?_)
 refine wpAny_bind (l3.at ?_)
 show wpAny _ _ (holding [Value.builtin "object.__class__"] (call (.builtin "getset_descriptor.__get__") [.builtin "object.__class__",.ref x,.ref C]) >>= ret) _ _ _
 refine wpAny_bind (wpAny_holding (wpAny_call (PySem.W.class_get (ox:=ox) (od:=none) X I F.ob ?_)))
 exact wpAny_pure (wpAny_pure (wpAny_pure h))
theorem kitx_exc (F:XCls K C):PySem.W.KitX K (.ref x) (.ref C) (fun h=>PySem.W.InstAt h x ox C none) where
 ty:=fun _ _ _ I=>I.type
 it:=fun _ _ X _=>by
  obtain ⟨cd,hc,_⟩:=PySem.W.any_some F.hd
  unfold PySem.W.clsIn at hc
  split at hc
  ·rename_i c' d' cd' sl' ho
   intro A' Q' E' s' k q
   unfold isType loadHead
   exact wpAny_bind (wpAny_loadPart (k _ _ (X _ _ ho)) (wpAny_pure q))
  ·cases hc
 ne:=fun h tp dd its n sl X htp=>by
  obtain ⟨cd,hc,_⟩:=PySem.W.any_some F.hd
  refine Bool.eq_false_iff.mpr fun q=>?_
  have e:C=tp:=Value.ref.inj (beq_iff_eq.mp q)
  subst e
  unfold PySem.W.clsIn at hc
  split at hc
  ·rename_i c' d' cd' sl' ho
   have z:=(X _ _ ho).symm.trans htp
   cases z
  ·cases hc
 ca:=fun X I k=>exc_class F X I k
end
theorem call_isiX {X:L2.Cx}:L2.CallR X (.builtin "isinstance") (fun xs H Q=>∃ x o C c b,xs=[L2.V.ref x,c]∧H x=some (frzX o)∧ExcO (.ref C) o∧XCls X.K C∧(∃ cv,L2.RelV c cv∧(∀ u,L2.RelV c u→u=cv)∧PySem.W.kitOne X.K (.ref C) cv=some b)∧Q (.bl b) H):=by
 intro pins s σ H xs us Q I r h
 obtain ⟨x,o,C,c,b,rfl,hx,⟨oc,od,vs,odt,_⟩,F,⟨cv,_,rc,kt⟩,q⟩:=h
 obtain ⟨u,w',rfl,r1,r2⟩:=L2.vals2 r
 have e:u=Value.ref x:=r1
 subst e
 have e2:=rc w' r2
 subst e2
 have gx:s.heap.get? x=some o:=(show L2.ObjOk X.prog X.w H s.heap x (frzX o) from I.hok x _ hx).1
 have J:PySem.W.InstAt s.heap x o C none:=⟨gx,oc,by unfold PySem.W.notCls; rw [odt],by rw [od]; trivial⟩
 exact PySem.W.kia_one (kitx_exc F) I.kIn J kt (fun z=>nomatch z) fun tk=>⟨.bl b,H,I.tok tk,rfl,q⟩
end BF
namespace BF
open PySem PySem.Spec PyProof.Rows L2
theorem mt_index {X:Cx}:MtM X "list.index" (fun x vs H Q=>∃ l xs y j,x=.ref l∧vs=[y]∧H l=some (.lst xs)∧flatV y=true∧xs.all flatV=true∧j < 1000∧(∃ z,xs[j]?=some z∧eqV z y=true) ∧
  (∀ (m:Nat) z,m < j→xs[m]?=some z→eqV z y=false)∧Q (.int (j:Nat)) H):=by
 intro pins s σ H x vs v us Q I rx rv h
 obtain ⟨l,xs,y,j,rfl,rfl,hH,fy,fs,hj,⟨z,hz,ez⟩,hno,q⟩:=h
 cases rx
 obtain ⟨u,rfl,ru⟩:=rv.one
 obtain ⟨_,its,n,r,hl,e⟩:=I.lstM hH
 have hjl:j < xs.length:=(List.getElem?_eq_some_iff.mp hz).1
 have at_:∀ (m:Nat) z,xs[m]?=some z→∀ (hm:m < its.toArray.size),eqU y its.toArray[m]=eqV z y:=fun m z hz hm=>by
  obtain ⟨w',hw,rw'⟩:=r.get hz
  have e1:its.toArray[m]=w':=by
   have:its[m]?=some its.toArray[m]:=by simp
   rw [hw] at this
   exact (Option.some.inj this).symm
  rw [e1]
  exact eqU_of rw' (List.all_eq_true.mp fs z (List.mem_of_getElem? hz))
 refine call_meets F.slot_list_index ⟨_,e,rfl⟩ F.entry_list_index (F.args_list_index_2 _ _)
  (SeqAt.list_indexAt l its.toArray n _ _ u (eqU y) j (by rw [List.size_toArray]; omega) (by omega) ?_ ?_) ⟨e,fun w hw=>mem_eqAt ru fy r fs w (by simpa using hw),⟨.int (j:Nat),H,I.tok _,⟨_,rfl⟩,q⟩⟩
 ·rw [at_ j z hz]; exact ez
 ·intro m hm hlt
  have hm':m < xs.length:=by omega
  rw [at_ m _ (List.getElem?_eq_getElem hm') hm]
  exact hno m _ hlt (List.getElem?_eq_getElem hm')
theorem isi_ref {K:PySem.W.Frag} {r c:Addr} {b:Bool} (k:PySem.W.kitOne K (.ref r) (.ref c)=some b):∃ cv,RelV (.ref c) cv∧(∀ u,RelV (.ref c) u→u=cv)∧PySem.W.kitOne K (.ref r) cv=some b:=⟨.ref c,rfl,fun _ h=>h,k⟩
section
variable {prog:Program} {w:World} {A:Around} {E:Value→Shared→Prop} {s:Shared}
theorem two_min {a b:Value} {bt:Bool} {Q:Value→Shared→Prop} (hh:A.handled=none)
  (hcmp:∀ (s':Shared) (Q':Value→Shared→Prop) (E':Value→Shared→Prop),(∀ c o,s.heap.get? c=some o→s'.heap.get? c=some o)→Q' (.bool bt) s'→wpAny (model prog w) A.in1 (richCompare .Lt b a) Q' E' s')
  (h:∀ h' tk,(∀ c o,s.heap.get? c=some o→h'.get? c=some o)→Q (if bt=true then b else a) { s with heap:=h',toks:=tk }):wpAny (model prog w) A (call (.builtin "min") [a,b]) Q E s:=by
 have nm:(toString "min" ++ toString ".loop":String)="min.loop":=by decide
 refine call_function_tree F.kind_min F.plain_min F.entry_min (F.args_min2 a b) ?_
 refine wpAny_bind (m:=Builtin.Builtins.bindParams "min" ["key","default"] 0 ⟨[],[]⟩) (wpAny_of_eq (a:=[none,none]) rfl ?_)
 refine wpAny_bind (m:=newTuple [a,b]) (wpAny_newObj_type ?_)
 generalize ho:({ cls:=.type "tuple",dict:=none,data:=.seq [a,b].toArray }:Obj)=ot
 have k1:∀ c o,s.heap.get? c=some o→(s.heap.push ot).get? c=some o:=fun c o e=>Heap.get?_push_of_some _ e
 have t1:(s.heap.push ot).IsTuple s.heap.objs.size #[a,b]:=⟨ot,Heap.get?_push_size _ (by rw [← ho]; rfl),by rw [← ho],0,by rw [← ho]⟩
 have z1:s.heap.objs.size < (s.heap.push ot).objs.size:=by rw [Heap.size_push]; exact Nat.lt_succ_self _
 refine wpAny_bind (wpAny_pyIter_tuple t1 ?_)
 have zs:∀ c o,s.heap.get? c=some o→c < s.heap.objs.size:=fun c o e=>Heap.lt_size e
 generalize s.heap.push ot=h1 at k1 t1 z1 ⊢
 generalize hoi:({ cls:=.type "tuple_iterator",data:=.fields #[.ref s.heap.objs.size,.int 0 0] }:Obj)=oi
 dsimp only
 have i2:(h1.push oi).IsTupleIter h1.objs.size s.heap.objs.size 0:=⟨oi,Heap.get?_push_size _ (by rw [← hoi]; rfl),by rw [← hoi],by rw [← hoi]; rfl⟩
 have t2:(h1.push oi).IsTuple s.heap.objs.size #[a,b]:=t1.push _
 have z2:h1.objs.size < (h1.push oi).objs.size:=by rw [Heap.size_push]; exact Nat.lt_succ_self _
 have k2:∀ c o,s.heap.get? c=some o→(h1.push oi).get? c=some o:=fun c o e=>Heap.get?_push_of_some _ (k1 c o e)
 generalize hI:h1.objs.size=I at i2 z1 z2 ⊢
 generalize hT:s.heap.objs.size=T at i2 t2 z1 zs ⊢
 generalize h1.push oi=h2 at i2 t2 z2 k2 ⊢
 refine wpAny_bind (m:=newList []) (wpAny_newObj_type ?_)
 generalize hol:({ cls:=.type "list",dict:=none,data:=.seq ([]:List Value).toArray }:Obj)=ol
 have gS:(h2.push ol).get? h2.objs.size=some { cls:=.type "list",dict:=none,data:=.seq #[] 0,slots:=#[] }:=by rw [← hol]; exact Heap.get?_push_size _ rfl
 have i3:(h2.push ol).IsTupleIter I T 0:=by
  obtain ⟨o,e,c,d⟩:=i2
  exact ⟨o,Heap.get?_push_of_some _ e,c,d⟩
 have t3:=t2.push ol
 have k3:∀ c o,s.heap.get? c=some o→(h2.push ol).get? c=some o:=fun c o e=>Heap.get?_push_of_some _ (k2 c o e)
 have nSI:h2.objs.size≠I:=Nat.ne_of_gt z2
 have nST:h2.objs.size≠T:=Nat.ne_of_gt (Nat.lt_trans z1 z2)
 have nS:∀ c o,s.heap.get? c=some o→c≠h2.objs.size:=fun c o e=>Nat.ne_of_lt (Nat.lt_trans (zs c o e) (Nat.lt_trans z1 z2))
 have nI:∀ c o,s.heap.get? c=some o→c≠I:=fun c o e=>Nat.ne_of_lt (Nat.lt_trans (zs c o e) z1)
 generalize h2.objs.size=S at gS nSI nST nS ⊢
 generalize h2.push ol=h3 at gS i3 t3 k3 ⊢
 have W:Walks prog w A.in1 I [I,T] [I] 2 (fun i v=>(#[a,b]:Array Value)[i]?=some v) (fun i h=>h.IsTupleIter I T i∧h.IsTuple T #[a,b]):=Walks.tuple (A:=A.in1) hh I T (Nat.ne_of_lt z1) #[a,b]
 rw [nm]
 refine wpAny_pure ⟨plainId_quiet F.plain_min_loop _,?_⟩
 refine codeAny_builtin F.entry_min_loop ?_
 rw [Around.under_plainId F.plain_min_loop _]
 refine wpAny_bind (m:=seqItems? (.ref S)) (wpAny_seqItems gS rfl ?_)
 show wpAny _ A.in1 (tryCatch (pyNext (.ref I)) _ >>= _) _ _ _
 refine wpAny_bind (wpAny_tryCatch (W.item 0 _ _ _ (by decide) ⟨i3,t3⟩ fun v h4 tk hv st4 q4=>?_))
 have ev:a=v:=Option.some.inj hv
 subst ev
 have g4:=q4 S _ (by simpa using nSI) gS
 have k4:∀ c o,s.heap.get? c=some o→h4.get? c=some o:=fun c o e=>q4 c o (by simpa using nI c o e) (k3 c o e)
 refine wpAny_bind (m:=updateSeq S _) ?_
 refine wpAny_updateSeq g4 rfl ?_
 rw [nm]
 have st5:=W.frame 1 _ (h4.update S (Obj.mapSeq fun _=>#[a,a])) st4 fun c hc o e=>by
  rw [Heap.get?_update_other _ _ (fun z=>by subst z; simp at hc; rcases hc with z | z <;> contradiction)]; exact e
 have g5:=Heap.get?_update_self (Obj.mapSeq fun _=>#[a,a]) g4 rfl
 have k5:∀ c o,s.heap.get? c=some o→(h4.update S (Obj.mapSeq fun _=>#[a,a])).get? c=some o:=fun c o e=>(Heap.get?_update_other _ _ (Ne.symm (nS c o e))).trans (k4 c o e)
 dsimp only
 generalize h4.update S (Obj.mapSeq fun _=>#[a,a])=h5 at st5 g5 k5 ⊢
 refine wpAny_pure ⟨plainId_quiet F.plain_min_loop _,?_⟩
 refine codeAny_builtin F.entry_min_loop ?_
 rw [Around.under_plainId F.plain_min_loop _]
 refine wpAny_bind (m:=seqItems? (.ref S)) (wpAny_seqItems g5 rfl ?_)
 show wpAny _ A.in1 (tryCatch (pyNext (.ref I)) _ >>= _) _ _ _
 refine wpAny_bind (wpAny_tryCatch (W.item 1 _ _ _ (by decide) st5 fun v h6 tk6 hv st6 q6=>?_))
 have ev:b=v:=Option.some.inj hv
 subst ev
 have g6:=q6 S _ (by simpa using nSI) g5
 have k6:∀ c o,s.heap.get? c=some o→h6.get? c=some o:=fun c o e=>q6 c o (by simpa using nI c o e) (k5 c o e)
 show wpAny _ A.in1 (tryCatch (holding [b,b] (richCompare .Lt b a >>= _)) _ >>= _) _ _ _
 refine wpAny_bind (wpAny_tryCatch (wpAny_holding (wpAny_bind (hcmp _ _ _ k6 ?_))))
 refine wpAny_bind (wpAny_holding (wpAny_truthy_bool ?_))
 refine wpAny_bind (wpAny_letGo (wpAny_pure ?_))
 have fin:∀ (s7:Shared) (v:Value) (c:Nat),s7.heap.IsTupleIter I T 2∧s7.heap.IsTuple T #[a,b]→s7.heap.get? S=some { cls:=.type "list",dict:=none,data:=.seq #[v,v] c,slots:=#[] } →
   (∀ c o,s.heap.get? c=some o→s7.heap.get? c=some o)→(∀ h' tk,(∀ c o,s.heap.get? c=some o→h'.get? c=some o)→Q v { s7 with heap:=h',toks:=tk }) →
   codeAny (model prog w) A (.builtin "min.loop" ⟨[.ref I,.none,.ref S],[]⟩) (fun r s'=>match r with | .ok (.ret v)=>Q v s' | .ok _=>False | .error e=>E e s') s7:=fun s7 v c st7 g7 k7 hq=>by
  refine codeAny_builtin F.entry_min_loop ?_
  rw [Around.under_plainId F.plain_min_loop _]
  refine wpAny_bind (m:=seqItems? (.ref S)) (wpAny_seqItems g7 rfl ?_)
  show wpAny _ A.in1 (tryCatch (pyNext (.ref I)) _ >>= _) _ _ _
  refine wpAny_bind (wpAny_tryCatch (W.done _ _ _ st7 fun h8 tk8 q8=>?_))
  have g8:=q8 S _ (by simpa using nSI) g7
  refine wpAny_bind (m:=updateSeq S _) ?_
  refine wpAny_updateSeq g8 rfl (wpAny_bind (wpAny_letGo (wpAny_pure ?_)))
  exact hq _ tk8 fun c o e=>(Heap.get?_update_other _ _ (Ne.symm (nS c o e))).trans (q8 c o (by simpa using nI c o e) (k7 c o e))
 cases bt with
 | true =>
  simp only [if_true]
  refine wpAny_bind (m:=updateSeq S _) ?_
  refine wpAny_updateSeq g6 rfl (wpAny_bind (wpAny_letGo ?_))
  rw [nm]
  refine wpAny_pure ⟨plainId_quiet F.plain_min_loop _,fin _ b _ (W.frame 2 _ _ st6 fun c hc o e=>?_) (Heap.get?_update_self _ g6 rfl) (fun c o e=>?_) fun h' tk k=>?_⟩
  ·exact (Heap.get?_update_other _ _ (fun z=>by subst z; simp at hc; rcases hc with z | z <;> contradiction)).trans e
  ·exact (Heap.get?_update_other _ _ (Ne.symm (nS c o e))).trans (k6 c o e)
  ·have:=h h' tk k
   rw [if_pos rfl] at this
   exact this
 | false =>
  simp only [Bool.false_eq_true,if_false]
  refine wpAny_bind (wpAny_letGo ?_)
  rw [nm]
  refine wpAny_pure ⟨plainId_quiet F.plain_min_loop _,fin _ a _ st6 g6 k6 fun h' tk k=>?_⟩
  have:=h h' tk k
  rw [if_neg Bool.false_ne_true] at this
  exact this
theorem two_max {a b:Value} {bt:Bool} {Q:Value→Shared→Prop} (hh:A.handled=none)
  (hcmp:∀ (s':Shared) (Q':Value→Shared→Prop) (E':Value→Shared→Prop),(∀ c o,s.heap.get? c=some o→s'.heap.get? c=some o)→Q' (.bool bt) s'→wpAny (model prog w) A.in1 (richCompare .Gt b a) Q' E' s')
  (h:∀ h' tk,(∀ c o,s.heap.get? c=some o→h'.get? c=some o)→Q (if bt=true then b else a) { s with heap:=h',toks:=tk }):wpAny (model prog w) A (call (.builtin "max") [a,b]) Q E s:=by
 have nm:(toString "max" ++ toString ".loop":String)="max.loop":=by decide
 refine call_function_tree F.kind_max F.plain_max F.entry_max (F.args_max2 a b) ?_
 refine wpAny_bind (m:=Builtin.Builtins.bindParams "max" ["key","default"] 0 ⟨[],[]⟩) (wpAny_of_eq (a:=[none,none]) rfl ?_)
 refine wpAny_bind (m:=newTuple [a,b]) (wpAny_newObj_type ?_)
 generalize ho:({ cls:=.type "tuple",dict:=none,data:=.seq [a,b].toArray }:Obj)=ot
 have k1:∀ c o,s.heap.get? c=some o→(s.heap.push ot).get? c=some o:=fun c o e=>Heap.get?_push_of_some _ e
 have t1:(s.heap.push ot).IsTuple s.heap.objs.size #[a,b]:=⟨ot,Heap.get?_push_size _ (by rw [← ho]; rfl),by rw [← ho],0,by rw [← ho]⟩
 have z1:s.heap.objs.size < (s.heap.push ot).objs.size:=by rw [Heap.size_push]; exact Nat.lt_succ_self _
 refine wpAny_bind (wpAny_pyIter_tuple t1 ?_)
 have zs:∀ c o,s.heap.get? c=some o→c < s.heap.objs.size:=fun c o e=>Heap.lt_size e
 generalize s.heap.push ot=h1 at k1 t1 z1 ⊢
 generalize hoi:({ cls:=.type "tuple_iterator",data:=.fields #[.ref s.heap.objs.size,.int 0 0] }:Obj)=oi
 dsimp only
 have i2:(h1.push oi).IsTupleIter h1.objs.size s.heap.objs.size 0:=⟨oi,Heap.get?_push_size _ (by rw [← hoi]; rfl),by rw [← hoi],by rw [← hoi]; rfl⟩
 have t2:(h1.push oi).IsTuple s.heap.objs.size #[a,b]:=t1.push _
 have z2:h1.objs.size < (h1.push oi).objs.size:=by rw [Heap.size_push]; exact Nat.lt_succ_self _
 have k2:∀ c o,s.heap.get? c=some o→(h1.push oi).get? c=some o:=fun c o e=>Heap.get?_push_of_some _ (k1 c o e)
 generalize hI:h1.objs.size=I at i2 z1 z2 ⊢
 generalize hT:s.heap.objs.size=T at i2 t2 z1 zs ⊢
 generalize h1.push oi=h2 at i2 t2 z2 k2 ⊢
 refine wpAny_bind (m:=newList []) (wpAny_newObj_type ?_)
 generalize hol:({ cls:=.type "list",dict:=none,data:=.seq ([]:List Value).toArray }:Obj)=ol
 have gS:(h2.push ol).get? h2.objs.size=some { cls:=.type "list",dict:=none,data:=.seq #[] 0,slots:=#[] }:=by rw [← hol]; exact Heap.get?_push_size _ rfl
 have i3:(h2.push ol).IsTupleIter I T 0:=by
  obtain ⟨o,e,c,d⟩:=i2
  exact ⟨o,Heap.get?_push_of_some _ e,c,d⟩
 have t3:=t2.push ol
 have k3:∀ c o,s.heap.get? c=some o→(h2.push ol).get? c=some o:=fun c o e=>Heap.get?_push_of_some _ (k2 c o e)
 have nSI:h2.objs.size≠I:=Nat.ne_of_gt z2
 have nST:h2.objs.size≠T:=Nat.ne_of_gt (Nat.lt_trans z1 z2)
 have nS:∀ c o,s.heap.get? c=some o→c≠h2.objs.size:=fun c o e=>Nat.ne_of_lt (Nat.lt_trans (zs c o e) (Nat.lt_trans z1 z2))
 have nI:∀ c o,s.heap.get? c=some o→c≠I:=fun c o e=>Nat.ne_of_lt (Nat.lt_trans (zs c o e) z1)
 generalize h2.objs.size=S at gS nSI nST nS ⊢
 generalize h2.push ol=h3 at gS i3 t3 k3 ⊢
 have W:Walks prog w A.in1 I [I,T] [I] 2 (fun i v=>(#[a,b]:Array Value)[i]?=some v) (fun i h=>h.IsTupleIter I T i∧h.IsTuple T #[a,b]):=Walks.tuple (A:=A.in1) hh I T (Nat.ne_of_lt z1) #[a,b]
 rw [nm]
 refine wpAny_pure ⟨plainId_quiet F.plain_max_loop _,?_⟩
 refine codeAny_builtin F.entry_max_loop ?_
 rw [Around.under_plainId F.plain_max_loop _]
 refine wpAny_bind (m:=seqItems? (.ref S)) (wpAny_seqItems gS rfl ?_)
 show wpAny _ A.in1 (tryCatch (pyNext (.ref I)) _ >>= _) _ _ _
 refine wpAny_bind (wpAny_tryCatch (W.item 0 _ _ _ (by decide) ⟨i3,t3⟩ fun v h4 tk hv st4 q4=>?_))
 have ev:a=v:=Option.some.inj hv
 subst ev
 have g4:=q4 S _ (by simpa using nSI) gS
 have k4:∀ c o,s.heap.get? c=some o→h4.get? c=some o:=fun c o e=>q4 c o (by simpa using nI c o e) (k3 c o e)
 refine wpAny_bind (m:=updateSeq S _) ?_
 refine wpAny_updateSeq g4 rfl ?_
 rw [nm]
 have st5:=W.frame 1 _ (h4.update S (Obj.mapSeq fun _=>#[a,a])) st4 fun c hc o e=>by
  rw [Heap.get?_update_other _ _ (fun z=>by subst z; simp at hc; rcases hc with z | z <;> contradiction)]; exact e
 have g5:=Heap.get?_update_self (Obj.mapSeq fun _=>#[a,a]) g4 rfl
 have k5:∀ c o,s.heap.get? c=some o→(h4.update S (Obj.mapSeq fun _=>#[a,a])).get? c=some o:=fun c o e=>(Heap.get?_update_other _ _ (Ne.symm (nS c o e))).trans (k4 c o e)
 dsimp only
 generalize h4.update S (Obj.mapSeq fun _=>#[a,a])=h5 at st5 g5 k5 ⊢
 refine wpAny_pure ⟨plainId_quiet F.plain_max_loop _,?_⟩
 refine codeAny_builtin F.entry_max_loop ?_
 rw [Around.under_plainId F.plain_max_loop _]
 refine wpAny_bind (m:=seqItems? (.ref S)) (wpAny_seqItems g5 rfl ?_)
 show wpAny _ A.in1 (tryCatch (pyNext (.ref I)) _ >>= _) _ _ _
 refine wpAny_bind (wpAny_tryCatch (W.item 1 _ _ _ (by decide) st5 fun v h6 tk6 hv st6 q6=>?_))
 have ev:b=v:=Option.some.inj hv
 subst ev
 have g6:=q6 S _ (by simpa using nSI) g5
 have k6:∀ c o,s.heap.get? c=some o→h6.get? c=some o:=fun c o e=>q6 c o (by simpa using nI c o e) (k5 c o e)
 show wpAny _ A.in1 (tryCatch (holding [b,b] (richCompare .Gt b a >>= _)) _ >>= _) _ _ _
 refine wpAny_bind (wpAny_tryCatch (wpAny_holding (wpAny_bind (hcmp _ _ _ k6 ?_))))
 refine wpAny_bind (wpAny_holding (wpAny_truthy_bool ?_))
 refine wpAny_bind (wpAny_letGo (wpAny_pure ?_))
 have fin:∀ (s7:Shared) (v:Value) (c:Nat),s7.heap.IsTupleIter I T 2∧s7.heap.IsTuple T #[a,b]→s7.heap.get? S=some { cls:=.type "list",dict:=none,data:=.seq #[v,v] c,slots:=#[] } →
   (∀ c o,s.heap.get? c=some o→s7.heap.get? c=some o)→(∀ h' tk,(∀ c o,s.heap.get? c=some o→h'.get? c=some o)→Q v { s7 with heap:=h',toks:=tk }) →
   codeAny (model prog w) A (.builtin "max.loop" ⟨[.ref I,.none,.ref S],[]⟩) (fun r s'=>match r with | .ok (.ret v)=>Q v s' | .ok _=>False | .error e=>E e s') s7:=fun s7 v c st7 g7 k7 hq=>by
  refine codeAny_builtin F.entry_max_loop ?_
  rw [Around.under_plainId F.plain_max_loop _]
  refine wpAny_bind (m:=seqItems? (.ref S)) (wpAny_seqItems g7 rfl ?_)
  show wpAny _ A.in1 (tryCatch (pyNext (.ref I)) _ >>= _) _ _ _
  refine wpAny_bind (wpAny_tryCatch (W.done _ _ _ st7 fun h8 tk8 q8=>?_))
  have g8:=q8 S _ (by simpa using nSI) g7
  refine wpAny_bind (m:=updateSeq S _) ?_
  refine wpAny_updateSeq g8 rfl (wpAny_bind (wpAny_letGo (wpAny_pure ?_)))
  exact hq _ tk8 fun c o e=>(Heap.get?_update_other _ _ (Ne.symm (nS c o e))).trans (q8 c o (by simpa using nI c o e) (k7 c o e))
 cases bt with
 | true =>
  simp only [if_true]
  refine wpAny_bind (m:=updateSeq S _) ?_
  refine wpAny_updateSeq g6 rfl (wpAny_bind (wpAny_letGo ?_))
  rw [nm]
  refine wpAny_pure ⟨plainId_quiet F.plain_max_loop _,fin _ b _ (W.frame 2 _ _ st6 fun c hc o e=>?_) (Heap.get?_update_self _ g6 rfl) (fun c o e=>?_) fun h' tk k=>?_⟩
  ·exact (Heap.get?_update_other _ _ (fun z=>by subst z; simp at hc; rcases hc with z | z <;> contradiction)).trans e
  ·exact (Heap.get?_update_other _ _ (Ne.symm (nS c o e))).trans (k6 c o e)
  ·have:=h h' tk k
   rw [if_pos rfl] at this
   exact this
 | false =>
  simp only [Bool.false_eq_true,if_false]
  refine wpAny_bind (wpAny_letGo ?_)
  rw [nm]
  refine wpAny_pure ⟨plainId_quiet F.plain_max_loop _,fin _ a _ st6 g6 k6 fun h' tk k=>?_⟩
  have:=h h' tk k
  rw [if_neg Bool.false_ne_true] at this
  exact this
end
end BF
namespace BF
open PySem PySem.Spec PyProof.Rows
section
def lexGt:List Int→List Int→Bool
 | x :: xs,y :: ys=>if x=y then lexGt xs ys else decide (y < x)
 | _ :: _,[]=>true
 | [],_=>false
theorem lexGt_lt:∀ (xs ys:List Int),lexGt xs ys=HT.lexLt ys xs
 | [],[]=>rfl
 | [],_ :: _=>rfl
 | _ :: _,[]=>rfl
 | x :: xs,y :: ys=>by
  show (if x=y then lexGt xs ys else decide (y < x))=(if y=x then HT.lexLt ys xs else decide (y < x))
  by_cases h:x=y
  ·rw [if_pos h,if_pos h.symm,lexGt_lt xs ys]
  ·rw [if_neg h,if_neg (Ne.symm h)]
open PySem.SeqAt
open PySem.AutoSeq1 (wpAny_loadPart')
open PySem.MeetsSeq PySem.MeetsSeq2 PySem.MeetsSeq3
theorem tuple_gt_ints (l b:Addr) (pa pb:Array Value) (n n2:Nat) (dd dd2:Option Addr) (sl sl2:Array (Option Value)) (ns ms:List Int) (hi:IntsAre pa.toList ns) (hj:IntsAre pb.toList ms) :
  Meets (Builtin.«tuple.__gt__» ⟨[.ref l,.ref b],[]⟩)
   (fun _ R s=>s.heap.get? l=some { cls:=.type "tuple",dict:=dd,data:=.seq pa n,slots:=sl }∧s.heap.get? b=some { cls:=.type "tuple",dict:=dd2,data:=.seq pb n2,slots:=sl2 } ∧
    R (.ok (.ret (.bool (lexGt ns ms)))) s) :=
 .of_wp fun prog w A R s h=>by
  obtain ⟨hp,g,d,tk,os⟩:=s
  obtain ⟨hl,hb,h⟩:=h
  have f2:=AutoSeq1.sub_tuple_tuple
  have z1:pa.size=ns.length:=by rw [← hi.length]; simp
  have z2:pb.size=ms.length:=by rw [← hj.length]; simp
  wp_walk using wpAny_loadPart' hl,wpAny_loadPart' hb,wpAny_forIn_list _ (fun rest q s'=>q.1=none∧s'=⟨hp,g,d,tk,os⟩∧∃ (vs ws:List Value) (xs ys:List Int),rest=vs.zip ws ∧
   IntsAre vs xs∧IntsAre ws ys∧xs.length + pb.size=ys.length + pa.size∧R (.ok (.ret (.bool (lexGt xs ys)))) ⟨hp,g,d,tk,os⟩) _
  case turn =>
   rintro ⟨y,x⟩ rest q s' ⟨hq,rfl,vs,ws,xs,ys,hz,ix,iy,hlen,hR⟩
   cases ix with
   | nil=>rw [List.zip_nil_left] at hz; cases hz
   | cons a t ix' =>
    cases iy with
    | nil=>rw [List.zip_nil_right] at hz; cases hz
    | cons c u iy' =>
     rw [List.zip_cons_cons] at hz
     injection hz with hd hrest
     injection hd with e1 e2
     subst e1 e2
     simp only [List.length_cons] at hlen
     obtain ⟨e,he,hiff⟩:=HT.eqAt_int A.in1 ⟨hp,g,d,tk,os⟩ a t c u
     refine wpAny_bind (he prog w _ _ ?_)
     cases e with
     | true =>
      have hR':=hR
      rw [show lexGt (a :: _) (c :: _)=_ from if_pos (hiff.mp rfl)] at hR'
      wp_walk
      exact ⟨rfl,rfl,_,_,_,_,hrest,ix',iy',by omega,hR'⟩
     | false =>
      have hR':=hR
      rw [show lexGt (a :: _) (c :: _)=_ from if_neg (fun q=>absurd (hiff.mpr q) Bool.false_ne_true)] at hR'
      have hri:∀ (E:Value→Shared→Prop) (Q:Value→Shared→Prop),Q (.bool (decide (a > c))) ⟨hp,g,d,tk,os⟩→wpAny (model prog w) A.in1 (richCompare .Gt (.int a t) (.int c u)) Q E ⟨hp,g,d,tk,os⟩ :=
       fun E Q h=>(PyProof.Rows.gt_int h:wpAny (model prog w) A.in1 (compareOp .Gt (.int a t) (.int c u)) Q E ⟨hp,g,d,tk,os⟩)
      wp_walk using hri
      exact ⟨_,rfl,by simpa using hR'⟩
  case fin =>
   rintro ⟨b1,b2⟩ s' ⟨hq,rfl,vs,ws,xs,ys,hz,ix,iy,hlen,hR⟩
   simp only at hq
   subst hq
   have hv:lexGt xs ys=decide (pb.size < pa.size):=by
    cases ix with
    | nil =>
     simp only [List.length_nil] at hlen
     exact (decide_eq_false (by omega)).symm
    | cons a t hv =>
     cases iy with
     | nil =>
      simp only [List.length_nil,List.length_cons] at hlen
      exact (decide_eq_true (by omega)).symm
     | cons c u hw =>
      rw [List.zip_cons_cons] at hz
      cases hz
   rw [hv] at hR
   wp_walk
   exact ⟨_,rfl,by simpa [Builtin.Tuple.tupleCompareSizes] using hR⟩
  case h =>
   exact ⟨rfl,rfl,pa.toList,pb.toList,ns,ms,rfl,hi,hj,by omega,h⟩
end
section
variable {prog:Program} {w:World} {A:Around} {E:Value→Shared→Prop} {s:Shared}
theorem gt_tupInts {l b:Addr} {pa pb:Array Value} {ns ms:List Int} {Q:Value→Shared→Prop} (hl:IsTup s.heap l pa) (hb:IsTup s.heap b pb) (hi:IntsAre pa.toList ns) (hj:IntsAre pb.toList ms)
  (hu:A.units < cLine) (h:Q (.bool (HT.lexLt ms ns)) s):wpAny (model prog w) A (compareOp .Gt (.ref l) (.ref b)) Q E s:=by
 obtain ⟨⟨cls,dd,data,sl⟩,ho,hc,n,hd⟩:=id hl
 obtain ⟨⟨cls2,dd2,data2,sl2⟩,ho2,hc2,n2,hd2⟩:=id hb
 simp only at hc hd hc2 hd2
 subst hc hd hc2 hd2
 rw [← lexGt_lt] at h
 exact richCompare_meets_room (op:=.Gt) ⟨_,ho,rfl⟩ ⟨_,ho2,rfl⟩ PySem.F.slot_tuple_gt PySem.F.entry_tuple_gt (PySem.F.args_tuple_gt_2 _ _) (tuple_gt_ints l b pa pb n n2 dd dd2 sl sl2 ns ms hi hj)
  ⟨ho,ho2,show Value.bool (lexGt ns ms)≠Value.notImplemented∧Q (.bool (lexGt ns ms)) s from ⟨(fun x=>nomatch x),h⟩⟩ hu
end
section
open L2
variable {X:Cx}
theorem isTup_keep {h h':Heap} {l:Addr} {xs:Array Value} (p:IsTup h l xs) (k:∀ c o,h.get? c=some o→h'.get? c=some o):IsTup h' l xs:=by
 obtain ⟨o,e,r⟩:=p
 exact ⟨o,k _ _ e,r⟩
theorem call_minT (hc:X.calm=true) (hu:X.A.units + 1 < cLine):CallR X (.builtin "min") (fun xs H Q=>∃ a b ns ms,xs=[.ref a,.ref b]∧SqT X.K H a (ns.map V.int)∧SqT X.K H b (ms.map V.int)∧Q (if HT.lexLt ms ns=true then .ref b else .ref a) H):=by
 intro pins s σ H xs us Q I r h
 obtain ⟨a,b,ns,ms,rfl,ha,hb,q⟩:=h
 obtain ⟨u,w',rfl,r1,r2⟩:=vals2 r
 cases r1
 cases r2
 obtain ⟨its,r1,p1,_⟩:=I.tuple ha
 obtain ⟨its2,r2,p2,_⟩:=I.tuple hb
 refine two_min (bt:=HT.lexLt ms ns) (I.ok.hd hc) (fun s' Q' E' k hq=>?_) fun h' tk k=>⟨_,H,I.kept k,?_,q⟩
 ·exact HT.lt_tupInts (A:=X.A.in1) (isTup_keep p2 k) (isTup_keep p1 k) (intsAre_of r2) (intsAre_of r1) hu hq
 ·cases HT.lexLt ms ns <;> rfl
theorem call_maxT (hc:X.calm=true) (hu:X.A.units + 1 < cLine):CallR X (.builtin "max") (fun xs H Q=>∃ a b ns ms,xs=[.ref a,.ref b]∧SqT X.K H a (ns.map V.int)∧SqT X.K H b (ms.map V.int)∧Q (if HT.lexLt ns ms=true then .ref b else .ref a) H):=by
 intro pins s σ H xs us Q I r h
 obtain ⟨a,b,ns,ms,rfl,ha,hb,q⟩:=h
 obtain ⟨u,w',rfl,r1,r2⟩:=vals2 r
 cases r1
 cases r2
 obtain ⟨its,r1,p1,_⟩:=I.tuple ha
 obtain ⟨its2,r2,p2,_⟩:=I.tuple hb
 refine two_max (bt:=HT.lexLt ns ms) (I.ok.hd hc) (fun s' Q' E' k hq=>?_) fun h' tk k=>⟨_,H,I.kept k,?_,q⟩
 ·exact gt_tupInts (A:=X.A.in1) (isTup_keep p2 k) (isTup_keep p1 k) (intsAre_of r2) (intsAre_of r1) hu hq
 ·cases HT.lexLt ns ms <;> rfl
end
end BF
namespace BF
open PySem PySem.Spec PyProof.Rows L2
theorem lex2 (x y z w:Int):HT.lexLt [x,y] [z,w]=(decide (x < z) || (decide (x=z) && decide (y < w))):=by
 show (if x=z then (if y=w then false else decide (y < w)) else decide (x < z))=_
 by_cases h:x=z
 ·rw [if_pos h,decide_eq_true h,decide_eq_false (by omega:¬ x < z)]
  by_cases k:y=w
  ·rw [if_pos k,decide_eq_false (by omega:¬ y < w)]; rfl
  ·rw [if_neg k]; simp
 ·rw [if_neg h,decide_eq_false h]; simp
theorem lex_asy {x y z w:Int} (h:HT.lexLt [x,y] [z,w]=true):HT.lexLt [z,w] [x,y]=false:=by
 rw [lex2] at h ⊢
 simp at h ⊢
 omega
theorem fun_okX {P:Program} {w:World} {K:PySem.W.Frag} {mg:Str→Option Value} {base:Heap} {x qual:Str} {st:Stmt} {f:Addr} {fd:FuncData} {N ps:List Str} {k:Nat} {sp:Sp} (F:Fun K x qual st f fd) (S:FnScope N ps (defScope st)) (len:∀ vs H Q E,sp vs H Q E→vs.length=ps.length)
  (hbody:∀ (cdv:Value) (A:Around) (outer:List Env) (s:Shared) (H:Hp) (vs:List V) (Q:VK) (E:XK),Room k (A.deeper (envOfC qual (defScope st) s.heap.objs.size f cdv))→sp vs H Q E →
   ∃ t,PSs (cxOf (CXE P w) P w K mg base N qual (defScope st) f cdv A outer s H E) (defBody st) t∧t { nx:=fun _ H'=>Q .non H',rt:=Q } (start N vs) H):FnOk P w K mg base (CXE P w) (k + 1) f fd ps sp:=by
 obtain ⟨oc,od,kV,doc,pm,an,cdv,ct,osl,rfl,lk,hcd⟩:=F.ex
 exact fn_of lk hcd S len fun A outer s H vs Q E hr hsp=>hbody cdv A outer s H vs Q E hr hsp
def qtr (p:Int×Int):Int×Int:=(-p.2,p.1)
def qtrs:Nat→Int×Int→Int×Int
 | 0,p=>p
 | n + 1,p=>qtr (qtrs n p)
def mir (k:Nat) (p:Int×Int):Int×Int:=if 4≤k then (-p.1,p.2) else p
def turnN (k:Nat) (p:Int×Int):Int×Int:=qtrs (k % 4) (mir k p)
def tabN (k:Nat) (p:Int×Int):Int×Int:=match k with
 | 0=>(p.1,p.2)
 | 1=>(0 - p.2,p.1)
 | 2=>(0 - p.1,0 - p.2)
 | 3=>(p.2,0 - p.1)
 | 4=>(0 - p.1,p.2)
 | 5=>(0 - p.2,0 - p.1)
 | 6=>(p.1,0 - p.2)
 | _=>(p.2,p.1)
theorem turn_tab {k:Nat} (h:k < 8) (p:Int×Int):turnN k p=tabN k p:=by
 obtain ⟨x,y⟩:=p
 match k,h with
 | 0,_=>rfl
 | 1,_=>show (-y,x)=(0 - y,x); rw [Int.zero_sub]
 | 2,_=>show (-x,-y)=(0 - x,0 - y); rw [Int.zero_sub,Int.zero_sub]
 | 3,_=>show (- -y,-x)=(y,0 - x); rw [Int.zero_sub,Int.neg_neg]
 | 4,_=>show (-x,y)=(0 - x,y); rw [Int.zero_sub]
 | 5,_=>show (-y,-x)=(0 - y,0 - x); rw [Int.zero_sub,Int.zero_sub]
 | 6,_=>show (- -x,-y)=(x,0 - y); rw [Int.zero_sub,Int.neg_neg]
 | 7,_=>show (- -y,- -x)=(y,x); rw [Int.neg_neg,Int.neg_neg]
def two (H:Hp) (q:Addr) (p:Int×Int):Prop:=H q=some (.tup [.int p.1,.int p.2])
theorem two_dt {H:Hp} {q:Addr} {p:Int×Int} (h:two H q p):DtIs H (.ref q) (.tup [.int p.1,.int p.2]):=.tup h (.cons (.int _) (.cons (.int _) .nil))
theorem later2 {G:Prop} {A:Addr→Hp→Prop} (C:Addr→Hp→Prop) (main:(∀ q H',C q H'→A q H')→G) (last:∀ q H',C q H'→A q H'):G:=main last
end BF
namespace BF
open PySem PyProof.Rows
structure Ord (M:Model) (A:Around) (E:Value→Shared→Prop) (s:Shared) (kd:SortKind) where
 O:KeyOrd
 key:Keyed→O.α
 G:Keyed→Prop
 lt:∀ {st:SortSt} {x y:Keyed} {Q:Option Bool→SortSt→Prop},kindOf st=kd→G x→G y→Q (some (O.blt (key x) (key y))) st→wpS M A E s (lt' x y) Q st
section
variable {M:Model} {A:Around} {E:Value→Shared→Prop} {s:Shared} {kd:SortKind}
def Ord.le (o:Ord M A E s kd) (x y:Keyed):Prop:=o.O.kle (o.key x) (o.key y)
def Ord.b (o:Ord M A E s kd) (x y:Keyed):Bool:=o.O.blt (o.key x) (o.key y)
theorem Ord.le_refl (o:Ord M A E s kd) (x:Keyed):o.le x x:=KeyOrd.kle_refl _
theorem Ord.le_trans (o:Ord M A E s kd) {x y z:Keyed} (h:o.le x y) (k:o.le y z):o.le x z:=KeyOrd.kle_trans h k
theorem Ord.le_of_b (o:Ord M A E s kd) {x y:Keyed} (h:o.b x y=true):o.le x y:=KeyOrd.kle_of_klt h
theorem Ord.le_of_nb (o:Ord M A E s kd) {x y:Keyed} (h:o.b x y=false):o.le y x:=h
theorem Ord.b_le (o:Ord M A E s kd) {x y z:Keyed} (h:o.b x y=true) (k:o.le y z):o.b x z=true:=KeyOrd.klt_of_klt_of_kle h k
theorem Ord.le_b (o:Ord M A E s kd) {x y z:Keyed} (h:o.le x y) (k:o.b y z=true):o.b x z=true:=KeyOrd.klt_of_kle_of_klt h k
theorem Ord.nb_of_le (o:Ord M A E s kd) {x y:Keyed} (h:o.le x y):o.b y x=false:=h
def Ord.up (o:Ord M A E s kd) (xs:Array Keyed) (lo hi:Nat):Prop:=∀ i j x y,lo≤i→i≤j→j < hi→xs[i]?=some x→xs[j]?=some y→o.le x y
def Ord.all (o:Ord M A E s kd) (xs:Array Keyed):Prop:=∀ (i:Nat) x,xs[i]?=some x→o.G x
theorem wpS_elem {xs:Array Keyed} {i:Nat} {x:Keyed} {Q:Keyed→SortSt→Prop} {st:SortSt} (e:xs[i]?=some x) (h:Q x st):wpS M A E s (elem' xs i) Q st:=by
 rw [elem'_eq,e]; exact wpS_pure h
def gal:Bool→Keyed→Array Keyed→Nat→Nat→Nat→StateT SortSt Sem (Option Nat):=sortPriv% PySem.Builtin.gallop
def byd (left:Bool) (key:Keyed) (xs:Array Keyed) (base i:Nat):StateT SortSt Sem (Option Bool):=do
 let x ← elem' xs (base + i)
 if left then lt' x key else return (← lt' key x).map (!·)
def galEnd (left:Bool) (key:Keyed) (xs:Array Keyed) (base n l r:Nat):StateT SortSt Sem (Option Nat):=do
 let mut l:=l
 let mut r:=r
 for _ in [0:n] do
  if l ≥ r then break
  let some more ← byd left key xs base (l + (r - l) / 2) | return none
  if more then l:=l + (r - l) / 2 + 1 else r:=l + (r - l) / 2
 return some r
def galUp (left:Bool) (key:Keyed) (xs:Array Keyed) (base n hint:Nat):StateT SortSt Sem (Option Nat):=do
 let mut p:=0
 let mut q:=1
 for _ in [0:n] do
  if q ≥ n - hint then break
  let some more ← byd left key xs base (hint + q) | return none
  if !more then break
  p:=q
  q:=2 * q + 1
 galEnd left key xs base n (hint + p + 1) (hint + min q (n - hint))
def galDn (left:Bool) (key:Keyed) (xs:Array Keyed) (base n hint:Nat):StateT SortSt Sem (Option Nat):=do
 let mut p:=0
 let mut q:=1
 for _ in [0:n] do
  if q ≥ hint + 1 then break
  let some more ← byd left key xs base (hint - q) | return none
  if more then break
  p:=q
  q:=2 * q + 1
 galEnd left key xs base n (hint + 1 - min q (hint + 1)) (hint - p)
theorem gal_eq (left:Bool) (key:Keyed) (xs:Array Keyed) (base n hint:Nat):gal left key xs base n hint=(do
  let some right ← byd left key xs base hint | return none
  if right then galUp left key xs base n hint else galDn left key xs base n hint):=rfl
def Ord.byB (o:Ord M A E s kd) (left:Bool) (key x:Keyed):Bool:=if left then o.b x key else !o.b key x
theorem wpS_byd (o:Ord M A E s kd) {left:Bool} {key x:Keyed} {xs:Array Keyed} {base i:Nat} {Q:Option Bool→SortSt→Prop} {st:SortSt} (hk:kindOf st=kd) (gk:o.G key) (gx:o.G x) (e:xs[base + i]?=some x)
  (h:Q (some (o.byB left key x)) st):wpS M A E s (byd left key xs base i) Q st:=by
 unfold byd
 refine wpS_bind (wpS_elem e ?_)
 cases left with
 | true=>exact o.lt hk gx gk h
 | false=>exact wpS_bind (o.lt hk gk gx (wpS_pure h))
end
section
variable {M:Model} {A:Around} {E:Value→Shared→Prop} {s:Shared} {kd:SortKind}
theorem wpS_gal (o:Ord M A E s kd) {left:Bool} {key:Keyed} {xs:Array Keyed} {base n hint:Nat} {Q:Option Nat→SortSt→Prop} {st:SortSt} (hk:kindOf st=kd) (gk:o.G key) (ga:o.all xs) (hsz:base + n≤xs.size) (hh:hint < n)
  (up:o.up xs base (base + n)) (h:∀ k,k≤n→(∀ i x,i < k→xs[base + i]?=some x→o.byB left key x=true)→(∀ i x,k≤i→i < n→xs[base + i]?=some x→o.byB left key x=false)→Q (some k) st) :
  wpS M A E s (gal left key xs base n hint) Q st:=by
 rw [gal_eq]
 have at':∀ i,i < n→∃ x,xs[base + i]?=some x:=fun i hi=>⟨_,getElem?_pos _ _ (by omega)⟩
 have mono:∀ i j x y,i≤j→j < n→xs[base + i]?=some x→xs[base + j]?=some y→o.byB left key y=true→o.byB left key x=true:=fun i j x y hij hj ex ey hb=>by
  have le:=up (base + i) (base + j) x y (by omega) (by omega) (by omega) ex ey
  unfold Ord.byB at hb ⊢
  cases left with
  | true=>exact o.le_b le hb
  | false =>
   have hb':o.b key y=false:=by simpa using hb
   have:o.b key x=false:=o.nb_of_le (o.le_trans le hb')
   simp [this]
 have down:∀ m,m < n→(∃ x,xs[base + m]?=some x∧o.byB left key x=true)→∀ i x,i < m + 1→xs[base + i]?=some x→o.byB left key x=true:=fun m hm ⟨y,ey,hy⟩ i x hi ex=>mono i m x y (by omega) hm ex ey hy
 have upp:∀ m,(∃ x,xs[base + m]?=some x∧o.byB left key x=false)→∀ i x,m≤i→i < n→xs[base + i]?=some x→o.byB left key x=false:=fun m ⟨y,ey,hy⟩ i x hi hn ex=>by
  cases hb:o.byB left key x with
  | false=>rfl
  | true=>rw [mono m i y x hi hn ey ex hb] at hy; cases hy
 have fin:∀ l r,l≤r→r≤n→(∀ i x,i < l→xs[base + i]?=some x→o.byB left key x=true)→(∀ i x,r≤i→i < n→xs[base + i]?=some x→o.byB left key x=false)→wpS M A E s (galEnd left key xs base n l r) Q st:=fun l r hlr hrn h1 h2=>by
  unfold galEnd
  refine wpS_bind (wpS_mono (wpS_forRange (I:=fun t c st'=>st'=st∧∃ l r,c=(none,l,r)∧l≤r∧r≤n∧r - l≤n - t∧(∀ i x,i < l→xs[base + i]?=some x→o.byB left key x=true)∧(∀ i x,r≤i→i < n→xs[base + i]?=some x→o.byB left key x=false))
   (Q:=fun c st'=>st'=st∧∃ l,c=(none,l,l)∧l≤n∧(∀ i x,i < l→xs[base + i]?=some x→o.byB left key x=true)∧(∀ i x,l≤i→i < n→xs[base + i]?=some x→o.byB left key x=false)) ?step ?fin ⟨rfl,l,r,rfl,hlr,hrn,by omega,h1,h2⟩) ?post)
  case post =>
   rintro c st' ⟨rfl,l,rfl,hl,a1,a2⟩
   exact wpS_pure (h l hl a1 a2)
  case fin =>
   rintro c st' ⟨rfl,l,r,rfl,h3,h4,h5,a1,a2⟩
   have:l=r:=by omega
   subst this
   exact ⟨rfl,l,rfl,h4,a1,a2⟩
  case step =>
   rintro t c st' _ ht ⟨rfl,l,r,rfl,h3,h4,h5,a1,a2⟩
   dsimp only
   by_cases hge:l ≥ r
   ·rw [if_pos hge]
    have:l=r:=by omega
    subst this
    exact wpS_pure ⟨rfl,l,rfl,h4,a1,a2⟩
   ·rw [if_neg hge]
    obtain ⟨y,ey⟩:=at' (l + (r - l) / 2) (by omega)
    refine wpS_bind (wpS_byd o hk gk (ga _ _ ey) ey ?_)
    cases hb:o.byB left key y with
    | true =>
     refine wpS_pure ⟨rfl,l + (r - l) / 2 + 1,r,rfl,by omega,h4,by omega,fun i x hi ex=>down _ (by omega) ⟨y,ey,hb⟩ i x hi ex,a2⟩
    | false =>
     refine wpS_pure ⟨rfl,l,l + (r - l) / 2,rfl,by omega,by omega,by omega,a1,fun i x hi hn ex=>upp _ ⟨y,ey,hb⟩ i x hi hn ex⟩
 obtain ⟨xh,eh⟩:=at' hint hh
 refine wpS_bind (wpS_byd o hk gk (ga _ _ eh) eh ?_)
 cases hb:o.byB left key xh with
 | true =>
  show wpS M A E s (galUp left key xs base n hint) Q st
  unfold galUp
  refine wpS_bind (wpS_mono (wpS_forRange (I:=fun t c st'=>st'=st∧∃ p q,c=(none,p,q)∧p < q∧t < q∧hint + p < n∧∃ x,xs[base + (hint + p)]?=some x∧o.byB left key x=true)
   (Q:=fun c st'=>st'=st∧∃ p q,c=(none,p,q)∧p < q∧hint + p < n∧(∃ x,xs[base + (hint + p)]?=some x∧o.byB left key x=true)∧(n - hint≤q∨(hint + q < n∧∃ x,xs[base + (hint + q)]?=some x∧o.byB left key x=false))) ?step ?fin ⟨rfl,0,1,rfl,by omega,by omega,by omega,xh,eh,hb⟩) ?post)
  case post =>
   rintro c st' ⟨rfl,p,q,rfl,h1,h2,a1,a2⟩
   show wpS M A E s (galEnd left key xs base n (hint + p + 1) (hint + min q (n - hint))) Q _
   refine fin _ _ ?_ ?_ (fun i x hi ex=>down _ h2 a1 i x hi ex) fun i x hi hn ex=>?_
   ·rcases a2 with z | ⟨z,_⟩ <;> omega
   ·omega
   ·rcases a2 with z | ⟨z,y⟩
    ·omega
    ·exact upp _ y i x (by omega) hn ex
  case fin =>
   rintro c st' ⟨rfl,p,q,rfl,h1,h2,h3,a1⟩
   exact ⟨rfl,p,q,rfl,h1,h3,a1,.inl (by omega)⟩
  case step =>
   rintro t c st' _ ht ⟨rfl,p,q,rfl,h1,h2,h3,a1⟩
   dsimp only
   by_cases hge:q ≥ n - hint
   ·rw [if_pos hge]
    exact wpS_pure ⟨rfl,p,q,rfl,h1,h3,a1,.inl hge⟩
   ·rw [if_neg hge]
    obtain ⟨y,ey⟩:=at' (hint + q) (by omega)
    refine wpS_bind (wpS_byd o hk gk (ga _ _ ey) ey ?_)
    cases hy:o.byB left key y with
    | true=>exact wpS_pure ⟨rfl,q,2 * q + 1,rfl,by omega,by omega,by omega,y,ey,hy⟩
    | false=>exact wpS_pure ⟨rfl,p,q,rfl,h1,h3,a1,.inr ⟨by omega,y,ey,hy⟩⟩
 | false =>
  show wpS M A E s (galDn left key xs base n hint) Q st
  unfold galDn
  refine wpS_bind (wpS_mono (wpS_forRange (I:=fun t c st'=>st'=st∧∃ p q,c=(none,p,q)∧p < q∧t < q∧p≤hint∧∃ x,xs[base + (hint - p)]?=some x∧o.byB left key x=false)
   (Q:=fun c st'=>st'=st∧∃ p q,c=(none,p,q)∧p < q∧p≤hint∧(∃ x,xs[base + (hint - p)]?=some x∧o.byB left key x=false)∧(hint + 1≤q∨(q≤hint∧∃ x,xs[base + (hint - q)]?=some x∧o.byB left key x=true))) ?step ?fin ⟨rfl,0,1,rfl,by omega,by omega,by omega,xh,eh,hb⟩) ?post)
  case post =>
   rintro c st' ⟨rfl,p,q,rfl,h1,h2,a1,a2⟩
   show wpS M A E s (galEnd left key xs base n (hint + 1 - min q (hint + 1)) (hint - p)) Q _
   refine fin _ _ ?_ ?_ (fun i x hi ex=>?_) fun i x hi hn ex=>upp _ a1 i x hi hn ex
   ·rcases a2 with z | ⟨z,_⟩ <;> omega
   ·omega
   ·rcases a2 with z | ⟨z,y⟩
    ·omega
    ·exact down _ (by omega) y i x (by omega) ex
  case fin =>
   rintro c st' ⟨rfl,p,q,rfl,h1,h2,h3,a1⟩
   exact ⟨rfl,p,q,rfl,h1,h3,a1,.inl (by omega)⟩
  case step =>
   rintro t c st' _ ht ⟨rfl,p,q,rfl,h1,h2,h3,a1⟩
   dsimp only
   by_cases hge:q ≥ hint + 1
   ·rw [if_pos hge]
    exact wpS_pure ⟨rfl,p,q,rfl,h1,h3,a1,.inl hge⟩
   ·rw [if_neg hge]
    obtain ⟨y,ey⟩:=at' (hint - q) (by omega)
    refine wpS_bind (wpS_byd o hk gk (ga _ _ ey) ey ?_)
    cases hy:o.byB left key y with
    | false=>exact wpS_pure ⟨rfl,q,2 * q + 1,rfl,by omega,by omega,by omega,y,ey,hy⟩
    | true=>exact wpS_pure ⟨rfl,p,q,rfl,h1,h3,a1,.inr ⟨by omega,y,ey,hy⟩⟩
end
section
variable {M:Model} {A:Around} {E:Value→Shared→Prop} {s:Shared} {kd:SortKind}
structure Ord.Mg (o:Ord M A E s kd) (la lb out:List Keyed) (i j:Nat):Prop where
 perm:out.Perm (la.take i ++ lb.take j)
 up:out.Pairwise o.le
 la:∀ x∈out,∀ y∈la.drop i,o.le x y
 lb:∀ x∈out,∀ y∈lb.drop j,o.le x y
def Ord.Merged (o:Ord M A E s kd) (la lb out:List Keyed):Prop:=out.Perm (la ++ lb)∧out.Pairwise o.le
variable {o:Ord M A E s kd} {la lb out:List Keyed} {i j k:Nat}
theorem Ord.Mg.zero:o.Mg la lb [] 0 0:=⟨by simp,.nil,by simp,by simp⟩
theorem mem_take_drop {x:Keyed} {l:List Keyed} {i k:Nat} (h:x∈(l.drop i).take k):x∈l.drop i:=List.mem_of_mem_take h
theorem Ord.Mg.manyA (m:o.Mg la lb out i j) (ua:la.Pairwise o.le) (h:∀ x∈(la.drop i).take k,∀ y∈lb.drop j,o.le x y):o.Mg la lb (out ++ (la.drop i).take k) (i + k) j:=by
 have e:la.take (i + k)=la.take i ++ (la.drop i).take k:=List.take_add
 have ud:(la.drop i).Pairwise o.le:=ua.sublist (List.drop_sublist _ _)
 have ed:(la.drop i).take k ++ la.drop (i + k)=la.drop i:=by rw [← List.drop_drop]; exact List.take_append_drop k _
 refine ⟨?_,?_,?_,?_⟩
 ·rw [e]
  refine (m.perm.append_right _).trans ?_
  rw [List.append_assoc,List.append_assoc]
  exact List.Perm.append_left _ List.perm_append_comm
 ·exact List.pairwise_append.mpr ⟨m.up,ud.sublist (List.take_sublist _ _),fun x hx y hy=>m.la x hx y (mem_take_drop hy)⟩
 ·intro x hx y hy
  rcases List.mem_append.mp hx with hx | hx
  ·exact m.la x hx y (by rw [← ed]; exact List.mem_append_right _ hy)
  ·rw [← ed] at ud
   exact (List.pairwise_append.mp ud).2.2 x hx y hy
 ·intro x hx y hy
  rcases List.mem_append.mp hx with hx | hx
  ·exact m.lb x hx y hy
  ·exact h x hx y hy
theorem Ord.Mg.swap (m:o.Mg la lb out i j):o.Mg lb la out j i:=⟨m.perm.trans List.perm_append_comm,m.up,m.lb,m.la⟩
theorem Ord.Mg.manyB (m:o.Mg la lb out i j) (ub:lb.Pairwise o.le) (h:∀ x∈(lb.drop j).take k,∀ y∈la.drop i,o.le x y):o.Mg la lb (out ++ (lb.drop j).take k) i (j + k):=(m.swap.manyA ub h).swap
theorem Ord.Mg.endB (m:o.Mg la lb out i j) (ua:la.Pairwise o.le) (ub:lb.Pairwise o.le) (h:∀ x∈lb.drop j,∀ y∈la.drop i,o.le x y):o.Merged la lb (out ++ lb.drop j ++ la.drop i):=by
 refine ⟨?_,?_⟩
 ·refine ((m.perm.append_right _).append_right _).trans ?_
  have e1:la=la.take i ++ la.drop i:=(List.take_append_drop _ _).symm
  have e2:lb=lb.take j ++ lb.drop j:=(List.take_append_drop _ _).symm
  refine List.Perm.trans ?_ (show (la.take i ++ la.drop i ++ (lb.take j ++ lb.drop j)).Perm (la ++ lb) by rw [← e1,← e2])
  simp only [List.append_assoc]
  refine List.Perm.append_left _ ?_
  rw [← List.append_assoc]
  exact List.perm_append_comm
 ·have ua':(la.drop i).Pairwise o.le:=ua.sublist (List.drop_sublist _ _)
  have ub':(lb.drop j).Pairwise o.le:=ub.sublist (List.drop_sublist _ _)
  refine List.pairwise_append.mpr ⟨List.pairwise_append.mpr ⟨m.up,ub',m.lb⟩,ua',fun x hx y hy=>?_⟩
  rcases List.mem_append.mp hx with hx | hx
  ·exact m.la x hx y hy
  ·exact h x hx y hy
theorem Ord.Merged.swap (m:o.Merged la lb out):o.Merged lb la out:=⟨m.1.trans List.perm_append_comm,m.2⟩
theorem Ord.Mg.endA (m:o.Mg la lb out i j) (ua:la.Pairwise o.le) (ub:lb.Pairwise o.le) (h:∀ x∈la.drop i,∀ y∈lb.drop j,o.le x y):o.Merged la lb (out ++ la.drop i ++ lb.drop j):=(m.swap.endB ub ua h).swap
end
theorem bind2 {α β:Type} {m m':StateT SortSt Sem α} {f f':α→StateT SortSt Sem β} (h:m=m') (k:f=f'):m >>= f=m' >>= f':=by rw [h,k]
def setG (g:Nat):StateT SortSt Sem Unit:=modify fun st=>SortSt.mk' (kindOf st) (arrOf st) (pendingOf st) g (failedOf st)
section
abbrev MT1:=Option (Array Keyed)×Array Keyed×Nat×Nat×Nat×Nat
abbrev MT2:=Option (Array Keyed)×Array Keyed×Nat×Nat×Nat×Nat×Nat
abbrev MT0:=Option (Array Keyed)×Array Keyed×Nat×Nat×Nat
variable (u v:Array Keyed)
def loU (r:Array Keyed) (p q:Nat):Array Keyed:=r ++ u.extract p u.size ++ v.extract q v.size
def loV (r:Array Keyed) (p q:Nat):Array Keyed:=r ++ v.extract q v.size ++ u.extract p u.size
def loLin (g:Nat) (t:MT1):StateT SortSt Sem (ForInStep MT1):=do
 let y ← elem' v t.2.2.2.1
 let x ← elem' u t.2.2.1
 match ← lt' y x with
 | some less =>
  if less then do
   let y ← elem' v t.2.2.2.1
   if t.2.2.2.1 + 1 == v.size then pure (.done (some (loU u v (t.2.1.push y) t.2.2.1 (t.2.2.2.1 + 1)),t.2.1.push y,t.2.2.1,t.2.2.2.1 + 1,0,t.2.2.2.2.2 + 1))
   else if t.2.2.2.2.2 + 1 ≥ g then pure (.done (none,t.2.1.push y,t.2.2.1,t.2.2.2.1 + 1,0,t.2.2.2.2.2 + 1))
   else pure (.yield (none,t.2.1.push y,t.2.2.1,t.2.2.2.1 + 1,0,t.2.2.2.2.2 + 1))
  else do
   let x ← elem' u t.2.2.1
   if t.2.2.1 + 1 + 1 == u.size then pure (.done (some (loV u v (t.2.1.push x) (t.2.2.1 + 1) t.2.2.2.1),t.2.1.push x,t.2.2.1 + 1,t.2.2.2.1,t.2.2.2.2.1 + 1,0))
   else if t.2.2.2.2.1 + 1 ≥ g then pure (.done (none,t.2.1.push x,t.2.2.1 + 1,t.2.2.2.1,t.2.2.2.2.1 + 1,0))
   else pure (.yield (none,t.2.1.push x,t.2.2.1 + 1,t.2.2.2.1,t.2.2.2.2.1 + 1,0))
 | _=>pure (.done (some (loU u v t.2.1 t.2.2.1 t.2.2.2.1),t.2.1,t.2.2.1,t.2.2.2.1,t.2.2.2.2.1,t.2.2.2.2.2))
def lo4 (r:Array Keyed) (p q g cu cv:Nat):StateT SortSt Sem (ForInStep MT2):=do
 let x ← elem' u p
 if p + 1 + 1 == u.size then pure (.done (some (loV u v (r.push x) (p + 1) q),r.push x,p + 1,q,g,cu,cv))
 else if cu < 7 && cv < 7 then pure (.done (none,r.push x,p + 1,q,g,cu,cv))
 else pure (.yield (none,r.push x,p + 1,q,g,cu,cv))
def lo3 (r:Array Keyed) (p q g cu cv:Nat):StateT SortSt Sem (ForInStep MT2):=do
 let x ← elem' u p
 match ← gal true x v q (v.size - q) 0 with
 | some k =>
  if k > 0 then
   if q + k == v.size then pure (.done (some (loU u v (r ++ v.extract q (q + k)) p (q + k)),r ++ v.extract q (q + k),p,q + k,g,cu,k))
   else lo4 u v (r ++ v.extract q (q + k)) p (q + k) g cu k
  else lo4 u v r p q g cu k
 | _=>pure (.done (some (loU u v r p q),r,p,q,g,cu,cv))
def lo2 (r:Array Keyed) (p q g cu cv:Nat):StateT SortSt Sem (ForInStep MT2):=do
 let y ← elem' v q
 if q + 1 == v.size then pure (.done (some (loU u v (r.push y) p (q + 1)),r.push y,p,q + 1,g,cu,cv))
 else lo3 u v (r.push y) p (q + 1) g cu cv
def lo1 (r:Array Keyed) (p q g cu cv:Nat):StateT SortSt Sem (ForInStep MT2):=do
 setG g
 let y ← elem' v q
 match ← gal false y u p (u.size - p) 0 with
 | some k =>
  if k > 0 then
   if p + k + 1 == u.size then pure (.done (some (loV u v (r ++ u.extract p (p + k)) (p + k) q),r ++ u.extract p (p + k),p + k,q,g,k,cv))
   else if p + k == u.size then pure (.done (some (loU u v (r ++ u.extract p (p + k)) (p + k) q),r ++ u.extract p (p + k),p + k,q,g,k,cv))
   else lo2 u v (r ++ u.extract p (p + k)) (p + k) q g k cv
  else lo2 u v r p q g k cv
 | _=>pure (.done (some (loU u v r p q),r,p,q,g,cu,cv))
def lo0 (t:MT2):StateT SortSt Sem (ForInStep MT2) :=
 if t.2.2.2.2.1 > 1 then lo1 u v t.2.1 t.2.2.1 t.2.2.2.1 (t.2.2.2.2.1 - 1) t.2.2.2.2.2.1 t.2.2.2.2.2.2 else lo1 u v t.2.1 t.2.2.1 t.2.2.2.1 t.2.2.2.2.1 t.2.2.2.2.2.1 t.2.2.2.2.2.2
def loOut (t:MT0):StateT SortSt Sem (ForInStep MT0):=do
 let t1 ← forIn [0:u.size + v.size] ((none,t.2.1,t.2.2.1,t.2.2.2.1,0,0):MT1) (fun _ t1=>loLin u v t.2.2.2.2 t1)
 match t1.1 with
 | some z=>pure (.done (some z,t1.2.1,t1.2.2.1,t1.2.2.2.1,t.2.2.2.2))
 | none=>do
  rule "list.sort.gallop"
  let t2 ← forIn [0:u.size + v.size] ((none,t1.2.1,t1.2.2.1,t1.2.2.2.1,t.2.2.2.2 + 1,t1.2.2.2.2.1,t1.2.2.2.2.2):MT2) (fun _ t2=>lo0 u v t2)
  match t2.1 with
  | some z=>pure (.done (some z,t2.2.1,t2.2.2.1,t2.2.2.2.1,t2.2.2.2.2.1))
  | none=>do
   setG (t2.2.2.2.2.1 + 1)
   pure (.yield (none,t2.2.1,t2.2.2.1,t2.2.2.2.1,t2.2.2.2.2.1 + 1))
def mlo:Array Keyed→Array Keyed→StateT SortSt Sem (Array Keyed):=sortPriv% PySem.Builtin.mergeLo
theorem mlo_eq0 (u v:Array Keyed):mlo u v=(do
  rule "list.sort.merge-lo"
  let fullEnd (r:Array Keyed) (p q:Nat):=r ++ u.extract p u.size ++ v.extract q v.size
  let lastU (r:Array Keyed) (p q:Nat):=r ++ v.extract q v.size ++ u.extract p u.size
  let mut r:Array Keyed:=#[← elem' v 0]
  let mut p:=0
  let mut q:=1
  if q == v.size then return fullEnd r p q
  if p + 1 == u.size then return lastU r p q
  let mut g:=gallopOf (← get)
  for _ in [0:u.size + v.size] do
   let mut cu:=0
   let mut cv:=0
   for _ in [0:u.size + v.size] do
    let some less ← lt' (← elem' v q) (← elem' u p) | return fullEnd r p q
    if less then
     r:=r.push (← elem' v q); q:=q + 1; cv:=cv + 1; cu:=0
     if q == v.size then return fullEnd r p q
     if cv ≥ g then break
    else
     r:=r.push (← elem' u p); p:=p + 1; cu:=cu + 1; cv:=0
     if p + 1 == u.size then return lastU r p q
     if cu ≥ g then break
   rule "list.sort.gallop"
   g:=g + 1
   for _ in [0:u.size + v.size] do
    if g > 1 then g:=g - 1
    setG g
    let some k ← gal false (← elem' v q) u p (u.size - p) 0 | return fullEnd r p q
    cu:=k
    if k > 0 then
     r:=r ++ u.extract p (p + k); p:=p + k
     if p + 1 == u.size then return lastU r p q
     if p == u.size then return fullEnd r p q
    r:=r.push (← elem' v q); q:=q + 1
    if q == v.size then return fullEnd r p q
    let some k ← gal true (← elem' u p) v q (v.size - q) 0 | return fullEnd r p q
    cv:=k
    if k > 0 then
     r:=r ++ v.extract q (q + k); q:=q + k
     if q == v.size then return fullEnd r p q
    r:=r.push (← elem' u p); p:=p + 1
    if p + 1 == u.size then return lastU r p q
    if cu < 7 && cv < 7 then break
   g:=g + 1
   setG g
  unsupported "internal:list.sort.merge-bound"):=rfl
theorem mlo_eq:mlo u v=(do
  rule "list.sort.merge-lo"
  let y ← elem' v 0
  if 1 == v.size then pure (loU u v #[y] 0 1)
  else if 0 + 1 == u.size then pure (loV u v #[y] 0 1)
  else do
   let st ← get
   let t ← forIn [0:u.size + v.size] ((none,#[y],0,1,gallopOf st):MT0) (fun _ t=>loOut u v t)
   match t.1 with
   | some z=>pure z
   | none=>unsupported "internal:list.sort.merge-bound"):=by
 rw [mlo_eq0]
 dsimp only [loOut,lo0,lo1,lo2,lo3,lo4,loLin,loU,loV]
 refine bind_congr fun _=>bind_congr fun y=>?_
 refine ite_congr rfl (fun _=>rfl) fun _=>ite_congr rfl (fun _=>rfl) fun _=>?_
 refine bind_congr fun st=>?_
 refine bind2 (congrArg (forIn _ _) (funext fun x=>funext fun t=>?_)) ?_
 ·refine bind2 (congrArg (forIn _ _) (funext fun x=>funext fun t1=>?_)) (funext fun t1=>?_)
  ·refine bind_congr fun y=>bind_congr fun x=>bind_congr fun z=>?_
   cases z with
   | none=>with_reducible rfl
   | some z=>cases z <;> with_reducible rfl
  ·obtain ⟨z,t1⟩:=t1
   cases z with
   | some z=>with_reducible rfl
   | none =>
    dsimp only
    refine bind_congr fun _=>?_
    refine bind2 (congrArg (forIn _ _) (funext fun x=>funext fun t2=>?_)) (funext fun t2=>?_)
    ·refine ite_congr rfl (fun _=>?_) (fun _=>?_)
     all_goals (refine bind_congr fun _=>bind_congr fun y=>bind_congr fun k=>?_)
     all_goals cases k
     ·with_reducible rfl
     ·refine ite_congr rfl (fun _=>ite_congr rfl (fun _=>rfl) fun _=>ite_congr rfl (fun _=>rfl) fun _=>?_) (fun _=>?_)
      all_goals (refine bind_congr fun _=>ite_congr rfl (fun _=>rfl) fun _=>bind_congr fun _=>bind_congr fun k=>?_)
      all_goals cases k <;> with_reducible rfl
     ·with_reducible rfl
     ·refine ite_congr rfl (fun _=>ite_congr rfl (fun _=>rfl) fun _=>ite_congr rfl (fun _=>rfl) fun _=>?_) (fun _=>?_)
      all_goals (refine bind_congr fun _=>ite_congr rfl (fun _=>rfl) fun _=>bind_congr fun _=>bind_congr fun k=>?_)
      all_goals cases k <;> with_reducible rfl
    ·obtain ⟨z,t2⟩:=t2
     cases z <;> with_reducible rfl
 ·funext t
  obtain ⟨z,t⟩:=t
  cases z <;> with_reducible rfl
end
section
variable {M:Model} {A:Around} {E:Value→Shared→Prop} {s:Shared} {kd:SortKind}
structure Gs (st st':SortSt):Prop where
 k:kindOf st'=kindOf st
 a:arrOf st'=arrOf st
 p:pendingOf st'=pendingOf st
 f:failedOf st'=failedOf st
theorem Gs.refl (st:SortSt):Gs st st:=⟨rfl,rfl,rfl,rfl⟩
theorem wpS_setG {st st':SortSt} {g:Nat} {Q:Unit→SortSt→Prop} (h:Gs st st') (k:∀ st2,Gs st st2→Q () st2):wpS M A E s (setG g) Q st' :=
 wpS_modify (k _ ⟨h.k,h.a,h.p,h.f⟩)
theorem xt {u:Array Keyed} {p:Nat}:(u.extract p u.size).toList=u.toList.drop p:=by
 rw [Array.toList_extract]
 show (u.toList.drop p).take (u.size - p)=_
 exact List.take_of_length_le (by simp)
theorem xk {u:Array Keyed} {p k:Nat}:(u.extract p (p + k)).toList=(u.toList.drop p).take k:=by simp [Array.toList_extract,List.extract]
theorem at_lt {u:Array Keyed} {p:Nat} (h:p < u.size):∃ x,u[p]?=some x:=⟨u[p],getElem?_pos u p h⟩
theorem drop1 {u:Array Keyed} {p:Nat} {x:Keyed} (e:u[p]?=some x):(u.toList.drop p).take 1=[x]:=by
 have e':u.toList[p]?=some x:=by simpa using e
 obtain ⟨h,rfl⟩:=List.getElem?_eq_some_iff.mp e'
 rw [List.drop_eq_getElem_cons h]
 rfl
theorem mem_drop_iff {u:Array Keyed} {p:Nat} {y:Keyed}:y∈u.toList.drop p↔∃ i,p≤i∧u[i]?=some y:=by
 rw [List.mem_iff_getElem?]
 constructor
 ·rintro ⟨n,e⟩
  rw [List.getElem?_drop] at e
  exact ⟨p + n,by omega,by simpa using e⟩
 ·rintro ⟨i,hi,e⟩
  exact ⟨i - p,by rw [List.getElem?_drop,show p + (i - p)=i by omega]; simpa using e⟩
theorem up_at {o:Ord M A E s kd} {u:Array Keyed} (uu:u.toList.Pairwise o.le) {i j:Nat} {x y:Keyed} (hij:i≤j) (ex:u[i]?=some x) (ey:u[j]?=some y):o.le x y:=by
 have ex':u.toList[i]?=some x:=by simpa using ex
 have ey':u.toList[j]?=some y:=by simpa using ey
 obtain ⟨h1,rfl⟩:=List.getElem?_eq_some_iff.mp ex'
 obtain ⟨h2,rfl⟩:=List.getElem?_eq_some_iff.mp ey'
 rcases Nat.lt_or_eq_of_le hij with h | h
 ·exact List.pairwise_iff_getElem.mp uu i j h1 h2 h
 ·subst h; exact o.le_refl _
theorem up_of {o:Ord M A E s kd} {u:Array Keyed} (uu:u.toList.Pairwise o.le) (lo hi:Nat):o.up u lo hi:=fun i j x y _ h _ ex ey=>up_at uu h ex ey
theorem head_le {o:Ord M A E s kd} {u:Array Keyed} (uu:u.toList.Pairwise o.le) {p:Nat} {x:Keyed} (e:u[p]?=some x):∀ y∈u.toList.drop p,o.le x y:=fun y hy=>by
 obtain ⟨i,hi,ey⟩:=mem_drop_iff.mp hy
 exact up_at uu hi e ey
section
variable (o:Ord M A E s kd) (u v:Array Keyed)
structure LoPre:Prop where
 gu:o.all u
 gv:o.all v
 uu:u.toList.Pairwise o.le
 uv:v.toList.Pairwise o.le
 h2:∀ x y,x∈v.toList→u[u.size - 1]?=some y→o.le x y
def Live (r:Array Keyed) (p q:Nat):Prop:=o.Mg u.toList v.toList r.toList p q∧p + 1 < u.size∧q < v.size
def Res (z:Array Keyed):Prop:=o.Merged u.toList v.toList z.toList
end
variable {o:Ord M A E s kd} {u v:Array Keyed} {r:Array Keyed} {p q:Nat}
theorem Ord.Mg.pushA (m:o.Mg u.toList v.toList r.toList p q) (uu:u.toList.Pairwise o.le) {x:Keyed} (e:u[p]?=some x) (h:∀ y∈v.toList.drop q,o.le x y):o.Mg u.toList v.toList (r.push x).toList (p + 1) q:=by
 have:=m.manyA (k:=1) uu (by rw [drop1 e]; intro a ha y hy; rw [List.mem_singleton.mp ha]; exact h y hy)
 rw [drop1 e] at this
 simpa using this
theorem Ord.Mg.pushB (m:o.Mg u.toList v.toList r.toList p q) (uv:v.toList.Pairwise o.le) {y:Keyed} (e:v[q]?=some y) (h:∀ x∈u.toList.drop p,o.le y x):o.Mg u.toList v.toList (r.push y).toList p (q + 1):=by
 have:=m.manyB (k:=1) uv (by rw [drop1 e]; intro a ha y hy; rw [List.mem_singleton.mp ha]; exact h y hy)
 rw [drop1 e] at this
 simpa using this
theorem resU (m:o.Mg u.toList v.toList r.toList p q) (uu:u.toList.Pairwise o.le) (uv:v.toList.Pairwise o.le) (h:u.size≤p∨v.size≤q):Res o u v (loU u v r p q):=by
 unfold Res loU
 rw [Array.toList_append,Array.toList_append,xt,xt]
 refine m.endA uu uv fun x hx y hy=>?_
 rcases h with h | h
 ·rw [List.drop_eq_nil_of_le (by simpa using h)] at hx; cases hx
 ·rw [List.drop_eq_nil_of_le (by simpa using h)] at hy; cases hy
theorem resV (L:LoPre o u v) (m:o.Mg u.toList v.toList r.toList p q) (h:p + 1=u.size):Res o u v (loV u v r p q):=by
 unfold Res loV
 rw [Array.toList_append,Array.toList_append,xt,xt]
 refine m.endB L.uu L.uv fun x hx y hy=>?_
 obtain ⟨i,hi,ey⟩:=mem_drop_iff.mp hy
 have hi':i < u.size:=by
  rcases Nat.lt_or_ge i u.size with z | z
  ·exact z
  ·rw [getElem?_neg _ _ (by omega)] at ey; cases ey
 have:i=u.size - 1:=by omega
 subst this
 exact L.h2 x y (List.mem_of_mem_drop hx) ey
def lp (u v:Array Keyed) (o:Ord M A E s kd) (c:Nat):ForInStep MT1→Prop
 | .done (some z,_)=>Res o u v z
 | .done (none,r,p,q,_)=>Live o u v r p q∧c < p + q
 | .yield (some _,_)=>False
 | .yield (none,r,p,q,_)=>Live o u v r p q∧c < p + q
theorem wpS_loLin (L:LoPre o u v) {g a b:Nat} {st:SortSt} (hk:kindOf st=kd) (l:Live o u v r p q):wpS M A E s (loLin u v g (none,r,p,q,a,b)) (fun t st'=>st'=st∧lp u v o (p + q) t) st:=by
 obtain ⟨m,hp,hq⟩:=l
 obtain ⟨x,ex⟩:=at_lt (u:=u) (p:=p) (by omega)
 obtain ⟨y,ey⟩:=at_lt hq
 unfold loLin
 refine wpS_bind (wpS_elem ey (wpS_bind (wpS_elem ex (wpS_bind (o.lt hk (L.gv _ _ ey) (L.gu _ _ ex) ?_)))))
 dsimp only
 cases hb:o.O.blt (o.key y) (o.key x) with
 | true =>
  refine wpS_bind (wpS_elem ey ?_)
  have m':=m.pushB L.uv ey fun z hz=>o.le_trans (o.le_of_b hb) (head_le L.uu ex z hz)
  by_cases h1:q + 1=v.size
  ·rw [if_pos (by simpa using h1)]
   exact wpS_pure ⟨rfl,resU m' L.uu L.uv (.inr (by omega))⟩
  ·rw [if_neg (by simpa using h1)]
   split
   ·exact wpS_pure ⟨rfl,⟨m',hp,by omega⟩,by omega⟩
   ·exact wpS_pure ⟨rfl,⟨m',hp,by omega⟩,by omega⟩
 | false =>
  refine wpS_bind (wpS_elem ex ?_)
  have m':=m.pushA L.uu ex fun z hz=>o.le_trans (o.le_of_nb hb) (head_le L.uv ey z hz)
  by_cases h1:p + 1 + 1=u.size
  ·rw [if_pos (by simpa using h1)]
   exact wpS_pure ⟨rfl,resV L m' h1⟩
  ·rw [if_neg (by simpa using h1)]
   split
   ·exact wpS_pure ⟨rfl,⟨m',by omega,hq⟩,by omega⟩
   ·exact wpS_pure ⟨rfl,⟨m',by omega,hq⟩,by omega⟩
end
section
variable {M:Model} {A:Around} {E:Value→Shared→Prop} {s:Shared} {kd:SortKind} {o:Ord M A E s kd} {u v:Array Keyed} {r:Array Keyed} {p q g cu cv c:Nat} {st:SortSt}
theorem mem_take_iff {u:Array Keyed} {p k:Nat} {y:Keyed} (h:y∈(u.toList.drop p).take k):∃ i,i < k∧u[p + i]?=some y:=by
 obtain ⟨n,e⟩:=List.mem_iff_getElem?.mp h
 rw [List.getElem?_take] at e
 split at e
 ·rw [List.getElem?_drop] at e
  exact ⟨n,by assumption,by simpa using e⟩
 ·cases e
theorem lt_of_at {u:Array Keyed} {i:Nat} {y:Keyed} (e:u[i]?=some y):i < u.size:=by
 rcases Nat.lt_or_ge i u.size with z | z
 ·exact z
 ·rw [getElem?_neg u i (by omega)] at e; cases e
def gp (u v:Array Keyed) (o:Ord M A E s kd) (c:Nat):ForInStep MT2→Prop
 | .done (some z,_)=>Res o u v z
 | .done (none,r,p,q,_)=>Live o u v r p q∧c < p + q
 | .yield (some _,_)=>False
 | .yield (none,r,p,q,_)=>Live o u v r p q∧c < p + q
theorem wpS_lo4 (L:LoPre o u v) (m:o.Mg u.toList v.toList r.toList p q) (hp:p + 1 < u.size) (hq:q < v.size) (hc:c≤p + q) {x:Keyed} (ex:u[p]?=some x) (hx:∀ y∈v.toList.drop q,o.le x y) :
  wpS M A E s (lo4 u v r p q g cu cv) (fun t st'=>st'=st∧gp u v o c t) st:=by
 unfold lo4
 refine wpS_bind (wpS_elem ex ?_)
 have m':=m.pushA L.uu ex hx
 by_cases h1:p + 1 + 1=u.size
 ·rw [if_pos (by simpa using h1)]
  exact wpS_pure ⟨rfl,resV L m' h1⟩
 ·rw [if_neg (by simpa using h1)]
  split
  ·exact wpS_pure ⟨rfl,⟨m',by omega,hq⟩,by omega⟩
  ·exact wpS_pure ⟨rfl,⟨m',by omega,hq⟩,by omega⟩
theorem wpS_lo3 (L:LoPre o u v) (hk:kindOf st=kd) (m:o.Mg u.toList v.toList r.toList p q) (hp:p + 1 < u.size) (hq:q < v.size) (hc:c≤p + q) :
  wpS M A E s (lo3 u v r p q g cu cv) (fun t st'=>st'=st∧gp u v o c t) st:=by
 unfold lo3
 obtain ⟨x,ex⟩:=at_lt (u:=u) (p:=p) (by omega)
 refine wpS_bind (wpS_elem ex ?_)
 refine wpS_bind (wpS_gal o hk (L.gu _ _ ex) L.gv (by omega) (by omega) (up_of L.uv _ _) fun k hkn h1 h2=>?_)
 have rest:∀ y∈v.toList.drop (q + k),o.le x y:=fun y hy=>by
  obtain ⟨i,hi,ey⟩:=mem_drop_iff.mp hy
  have:=lt_of_at ey
  exact o.le_of_nb (h2 (i - q) y (by omega) (by omega) (by rw [show q + (i - q)=i by omega]; exact ey))
 dsimp only
 split
 ·have m':=m.manyB (k:=k) L.uv fun a ha y hy=>by
   obtain ⟨i,hi,ea⟩:=mem_take_iff ha
   exact o.le_trans (o.le_of_b (h1 i a hi ea)) (head_le L.uu ex y hy)
  have m'':o.Mg u.toList v.toList (r ++ v.extract q (q + k)).toList p (q + k):=by rw [Array.toList_append,xk]; exact m'
  by_cases h3:q + k=v.size
  ·rw [if_pos (by simpa using h3)]
   exact wpS_pure ⟨rfl,resU m'' L.uu L.uv (.inr (by omega))⟩
  ·rw [if_neg (by simpa using h3)]
   exact wpS_lo4 L m'' hp (by omega) (by omega) ex rest
 ·have:k=0:=by omega
  subst this
  exact wpS_lo4 L m hp hq hc ex rest
theorem wpS_lo2 (L:LoPre o u v) (hk:kindOf st=kd) (m:o.Mg u.toList v.toList r.toList p q) (hp:p + 1 < u.size) (hq:q < v.size) (hc:c≤p + q) {y:Keyed} (ey:v[q]?=some y) (hy:∀ x∈u.toList.drop p,o.le y x) :
  wpS M A E s (lo2 u v r p q g cu cv) (fun t st'=>st'=st∧gp u v o c t) st:=by
 unfold lo2
 refine wpS_bind (wpS_elem ey ?_)
 have m':=m.pushB L.uv ey hy
 by_cases h1:q + 1=v.size
 ·rw [if_pos (by simpa using h1)]
  exact wpS_pure ⟨rfl,resU m' L.uu L.uv (.inr (by omega))⟩
 ·rw [if_neg (by simpa using h1)]
  exact wpS_lo3 L hk m' hp (by omega) (by omega)
theorem wpS_lo1 (L:LoPre o u v) {st0:SortSt} (hs:Gs st0 st) (hk:kindOf st0=kd) (l:Live o u v r p q) :
  wpS M A E s (lo1 u v r p q g cu cv) (fun t st'=>Gs st0 st'∧gp u v o (p + q) t) st:=by
 obtain ⟨m,hp,hq⟩:=l
 unfold lo1
 refine wpS_bind (wpS_setG hs fun st2 hs2=>?_)
 have hk2:kindOf st2=kd:=hs2.k.trans hk
 obtain ⟨y,ey⟩:=at_lt hq
 refine wpS_bind (wpS_elem ey ?_)
 refine wpS_bind (wpS_gal o hk2 (L.gv _ _ ey) L.gu (by omega) (by omega) (up_of L.uu _ _) fun k hkn h1 h2=>?_)
 have rest:∀ x∈u.toList.drop (p + k),o.le y x:=fun x hx=>by
  obtain ⟨i,hi,ex⟩:=mem_drop_iff.mp hx
  have:=lt_of_at ex
  have z:=h2 (i - p) x (by omega) (by omega) (by rw [show p + (i - p)=i by omega]; exact ex)
  exact o.le_of_b (by simpa [Ord.byB] using z)
 dsimp only
 split
 ·have m':=m.manyA (k:=k) L.uu fun a ha b hb=>by
   obtain ⟨i,hi,ea⟩:=mem_take_iff ha
   have z:=h1 i a hi ea
   have z':o.b y a=false:=by simpa [Ord.byB] using z
   exact o.le_trans (o.le_of_nb z') (head_le L.uv ey b hb)
  have m'':o.Mg u.toList v.toList (r ++ u.extract p (p + k)).toList (p + k) q:=by rw [Array.toList_append,xk]; exact m'
  by_cases h3:p + k + 1=u.size
  ·rw [if_pos (by simpa using h3)]
   exact wpS_pure ⟨hs2,resV L m'' h3⟩
  ·rw [if_neg (by simpa using h3)]
   by_cases h4:p + k=u.size
   ·rw [if_pos (by simpa using h4)]
    exact wpS_pure ⟨hs2,resU m'' L.uu L.uv (.inl (by omega))⟩
   ·rw [if_neg (by simpa using h4)]
    exact wpS_mono (wpS_lo2 L hk2 m'' (by omega) hq (by omega) ey rest) fun t st' ⟨e,z⟩=>⟨e ▸ hs2,z⟩
 ·have:k=0:=by omega
  subst this
  exact wpS_mono (wpS_lo2 L hk2 m hp hq (by omega) ey rest) fun t st' ⟨e,z⟩=>⟨e ▸ hs2,z⟩
theorem wpS_lo0 (L:LoPre o u v) {st0:SortSt} (hs:Gs st0 st) (hk:kindOf st0=kd) (l:Live o u v r p q) :
  wpS M A E s (lo0 u v (none,r,p,q,g,cu,cv)) (fun t st'=>Gs st0 st'∧gp u v o (p + q) t) st:=by
 unfold lo0
 split
 ·exact wpS_lo1 L hs hk l
 ·exact wpS_lo1 L hs hk l
def op0 (u v:Array Keyed) (o:Ord M A E s kd) (c:Nat):ForInStep MT0→Prop
 | .done (some z,_)=>Res o u v z
 | .done (none,_)=>False
 | .yield (some _,_)=>False
 | .yield (none,r,p,q,_)=>Live o u v r p q∧c < p + q
theorem wpS_loOut (L:LoPre o u v) {st0:SortSt} (hs:Gs st0 st) (hk:kindOf st0=kd) (l:Live o u v r p q) :
  wpS M A E s (loOut u v (none,r,p,q,g)) (fun t st'=>Gs st0 st'∧op0 u v o (p + q) t) st:=by
 unfold loOut
 have hk1:kindOf st=kd:=hs.k.trans hk
 have hpos:0 < u.size + v.size:=by have:=l.2.1; omega
 refine wpS_bind (wpS_mono (wpS_forRange (I:=fun i t st'=>st'=st∧∃ r1 p1 q1 a b,t=(none,r1,p1,q1,a,b)∧Live o u v r1 p1 q1∧p + q + i≤p1 + q1)
  (Q:=fun t st'=>st'=st∧((∃ z t',t=(some z,t')∧Res o u v z)∨∃ r1 p1 q1 a b,t=(none,r1,p1,q1,a,b)∧Live o u v r1 p1 q1∧p + q < p1 + q1)) ?step ?fin ⟨rfl,r,p,q,0,0,rfl,l,by omega⟩) ?post)
 case fin =>
  rintro t st' ⟨rfl,r1,p1,q1,a,b,rfl,l1,hc⟩
  exact ⟨rfl,.inr ⟨r1,p1,q1,a,b,rfl,l1,by omega⟩⟩
 case step =>
  rintro i t st' _ hi ⟨rfl,r1,p1,q1,a,b,rfl,l1,hc⟩
  refine wpS_mono (wpS_loLin L hk1 l1) fun t st'' ⟨e,z⟩=>?_
  subst e
  match t,z with
  | .done (some z,t'),hz=>exact ⟨rfl,.inl ⟨z,t',rfl,hz⟩⟩
  | .done (none,r2,p2,q2,a2,b2),hz=>exact ⟨rfl,.inr ⟨r2,p2,q2,a2,b2,rfl,hz.1,by have:=hz.2; omega⟩⟩
  | .yield (none,r2,p2,q2,a2,b2),hz=>exact ⟨rfl,r2,p2,q2,a2,b2,rfl,hz.1,by have:=hz.2; omega⟩
 case post =>
  rintro t st' ⟨rfl,⟨z,t',rfl,hz⟩ | ⟨r1,p1,q1,a,b,rfl,l1,hc⟩⟩
  ·exact wpS_pure ⟨hs,hz⟩
  ·dsimp only
   refine wpS_bind (wpS_lift (wpAny_rule ⟨rfl,?_⟩))
   refine wpS_bind (wpS_mono (wpS_forRange (I:=fun i t st2=>Gs st0 st2∧∃ r2 p2 q2 g2 a b,t=(none,r2,p2,q2,g2,a,b)∧Live o u v r2 p2 q2∧p + q < p2 + q2)
    (Q:=fun t st2=>Gs st0 st2∧((∃ z t',t=(some z,t')∧Res o u v z)∨∃ r2 p2 q2 g2 a b,t=(none,r2,p2,q2,g2,a,b)∧Live o u v r2 p2 q2∧p + q < p2 + q2)) ?step2 ?fin2 ⟨hs,r1,p1,q1,_,_,_,rfl,l1,hc⟩) ?post2)
   case fin2 =>
    rintro t st2 ⟨hs2,r2,p2,q2,g2,a,b,rfl,l2,hc2⟩
    exact ⟨hs2,.inr ⟨r2,p2,q2,g2,a,b,rfl,l2,hc2⟩⟩
   case step2 =>
    rintro i t st2 _ hi ⟨hs2,r2,p2,q2,g2,a,b,rfl,l2,hc2⟩
    refine wpS_mono (wpS_lo0 L hs2 hk l2) fun t st3 ⟨hs3,z⟩=>?_
    match t,z with
    | .done (some z,t'),hz=>exact ⟨hs3,.inl ⟨z,t',rfl,hz⟩⟩
    | .done (none,r3,p3,q3,g3,a3,b3),hz=>exact ⟨hs3,.inr ⟨r3,p3,q3,g3,a3,b3,rfl,hz.1,by have:=hz.2; omega⟩⟩
    | .yield (none,r3,p3,q3,g3,a3,b3),hz=>exact ⟨hs3,r3,p3,q3,g3,a3,b3,rfl,hz.1,by have:=hz.2; omega⟩
   case post2 =>
    rintro t st2 ⟨hs2,⟨z,t',rfl,hz⟩ | ⟨r2,p2,q2,g2,a,b,rfl,l2,hc2⟩⟩
    ·exact wpS_pure ⟨hs2,hz⟩
    ·exact wpS_bind (wpS_setG hs2 fun st3 hs3=>wpS_pure ⟨hs3,l2,hc2⟩)
theorem wpS_mlo (L:LoPre o u v) {Q:Array Keyed→SortSt→Prop} (hk:kindOf st=kd) (hu:0 < u.size) (hv:0 < v.size)
  (h1:∀ x y,v[0]?=some x→y∈u.toList→o.le x y) (h:∀ st' out,Gs st st'→o.Merged u.toList v.toList out.toList→Q out st'):wpS M A E s (mlo u v) Q st:=by
 rw [mlo_eq]
 refine wpS_bind (wpS_lift (wpAny_rule ⟨rfl,?_⟩))
 obtain ⟨y,ey⟩:=at_lt hv
 refine wpS_bind (wpS_elem ey ?_)
 have m:o.Mg u.toList v.toList (#[y]:Array Keyed).toList 0 1:=by
  have:=(Ord.Mg.zero (o:=o) (la:=u.toList) (lb:=v.toList)).pushB (r:=#[]) L.uv ey (fun x hx=>h1 y x ey (by simpa using hx))
  simpa using this
 by_cases h3:1=v.size
 ·rw [if_pos (by simpa using h3)]
  exact wpS_pure (h _ _ (.refl _) (resU m L.uu L.uv (.inr (by omega))))
 ·rw [if_neg (by simpa using h3)]
  by_cases h4:0 + 1=u.size
  ·rw [if_pos (by simpa using h4)]
   exact wpS_pure (h _ _ (.refl _) (resV L m h4))
  ·rw [if_neg (by simpa using h4)]
   refine wpS_bind (wpS_get ?_)
   refine wpS_bind (wpS_mono (wpS_forRange (I:=fun i t st2=>Gs st st2∧∃ r2 p2 q2 g2,t=(none,r2,p2,q2,g2)∧Live o u v r2 p2 q2∧i < p2 + q2)
    (Q:=fun t st2=>Gs st st2∧∃ z t',t=(some z,t')∧Res o u v z) ?step ?fin ⟨.refl _,_,0,1,_,rfl,⟨m,by omega,by omega⟩,by omega⟩) ?post)
   case fin =>
    rintro t st2 ⟨hs2,r2,p2,q2,g2,rfl,l2,hc⟩
    have:=l2.2.1
    have:=l2.2.2
    omega
   case step =>
    rintro i t st2 _ hi ⟨hs2,r2,p2,q2,g2,rfl,l2,hc⟩
    refine wpS_mono (wpS_loOut L hs2 hk l2) fun t st3 ⟨hs3,z⟩=>?_
    match t,z with
    | .done (some z,t'),hz=>exact ⟨hs3,z,t',rfl,hz⟩
    | .yield (none,r3,p3,q3,g3),hz=>exact ⟨hs3,r3,p3,q3,g3,rfl,hz.1,by have:=hz.2; omega⟩
   case post =>
    rintro t st2 ⟨hs2,z,t',rfl,hz⟩
    exact wpS_pure (h _ _ hs2 hz)
end
section
abbrev NT1:=Option (Array Keyed)×Nat×Nat×Array Keyed×Nat×Nat
abbrev NT2:=Option (Array Keyed)×Nat×Nat×Array Keyed×Nat×Nat×Nat
abbrev NT0:=Option (Array Keyed)×Nat×Nat×Array Keyed×Nat
variable (u v:Array Keyed)
def hiU (p q:Nat) (r:Array Keyed):Array Keyed:=u.extract 0 p ++ v.extract 0 q ++ r.reverse
def hiV (p q:Nat) (r:Array Keyed):Array Keyed:=v.extract 0 q ++ u.extract 0 p ++ r.reverse
def hiLin (g:Nat) (t:NT1):StateT SortSt Sem (ForInStep NT1):=do
 let y ← elem' v (t.2.2.1 - 1)
 let x ← elem' u (t.2.1 - 1)
 match ← lt' y x with
 | some less =>
  if less then do
   let x ← elem' u (t.2.1 - 1)
   if t.2.1 - 1 == 0 then pure (.done (some (hiU u v (t.2.1 - 1) t.2.2.1 (t.2.2.2.1.push x)),t.2.1 - 1,t.2.2.1,t.2.2.2.1.push x,t.2.2.2.2.1 + 1,0))
   else if t.2.2.2.2.1 + 1 ≥ g then pure (.done (none,t.2.1 - 1,t.2.2.1,t.2.2.2.1.push x,t.2.2.2.2.1 + 1,0))
   else pure (.yield (none,t.2.1 - 1,t.2.2.1,t.2.2.2.1.push x,t.2.2.2.2.1 + 1,0))
  else do
   let y ← elem' v (t.2.2.1 - 1)
   if t.2.2.1 - 1 == 1 then pure (.done (some (hiV u v t.2.1 (t.2.2.1 - 1) (t.2.2.2.1.push y)),t.2.1,t.2.2.1 - 1,t.2.2.2.1.push y,0,t.2.2.2.2.2 + 1))
   else if t.2.2.2.2.2 + 1 ≥ g then pure (.done (none,t.2.1,t.2.2.1 - 1,t.2.2.2.1.push y,0,t.2.2.2.2.2 + 1))
   else pure (.yield (none,t.2.1,t.2.2.1 - 1,t.2.2.2.1.push y,0,t.2.2.2.2.2 + 1))
 | _=>pure (.done (some (hiU u v t.2.1 t.2.2.1 t.2.2.2.1),t.2.1,t.2.2.1,t.2.2.2.1,t.2.2.2.2.1,t.2.2.2.2.2))
def hi4 (p q:Nat) (r:Array Keyed) (g cu cv:Nat):StateT SortSt Sem (ForInStep NT2):=do
 let x ← elem' u (p - 1)
 if p - 1 == 0 then pure (.done (some (hiU u v (p - 1) q (r.push x)),p - 1,q,r.push x,g,cu,cv))
 else if cu < 7 && cv < 7 then pure (.done (none,p - 1,q,r.push x,g,cu,cv))
 else pure (.yield (none,p - 1,q,r.push x,g,cu,cv))
def hi3 (p q:Nat) (r:Array Keyed) (g cu cv:Nat):StateT SortSt Sem (ForInStep NT2):=do
 let x ← elem' u (p - 1)
 match ← gal true x v 0 q (q - 1) with
 | some k =>
  if q - k > 0 then
   if k == 1 then pure (.done (some (hiV u v p k (r ++ (v.extract k q).reverse)),p,k,r ++ (v.extract k q).reverse,g,cu,q - k))
   else if k == 0 then pure (.done (some (hiU u v p k (r ++ (v.extract k q).reverse)),p,k,r ++ (v.extract k q).reverse,g,cu,q - k))
   else hi4 u v p k (r ++ (v.extract k q).reverse) g cu (q - k)
  else hi4 u v p q r g cu (q - k)
 | _=>pure (.done (some (hiU u v p q r),p,q,r,g,cu,cv))
def hi2 (p q:Nat) (r:Array Keyed) (g cu cv:Nat):StateT SortSt Sem (ForInStep NT2):=do
 let y ← elem' v (q - 1)
 if q - 1 == 1 then pure (.done (some (hiV u v p (q - 1) (r.push y)),p,q - 1,r.push y,g,cu,cv))
 else hi3 u v p (q - 1) (r.push y) g cu cv
def hi1 (p q:Nat) (r:Array Keyed) (g cu cv:Nat):StateT SortSt Sem (ForInStep NT2):=do
 setG g
 let y ← elem' v (q - 1)
 match ← gal false y u 0 p (p - 1) with
 | some k =>
  if p - k > 0 then
   if k == 0 then pure (.done (some (hiU u v k q (r ++ (u.extract k p).reverse)),k,q,r ++ (u.extract k p).reverse,g,p - k,cv))
   else hi2 u v k q (r ++ (u.extract k p).reverse) g (p - k) cv
  else hi2 u v p q r g (p - k) cv
 | _=>pure (.done (some (hiU u v p q r),p,q,r,g,cu,cv))
def hi0 (t:NT2):StateT SortSt Sem (ForInStep NT2) :=
 if t.2.2.2.2.1 > 1 then hi1 u v t.2.1 t.2.2.1 t.2.2.2.1 (t.2.2.2.2.1 - 1) t.2.2.2.2.2.1 t.2.2.2.2.2.2 else hi1 u v t.2.1 t.2.2.1 t.2.2.2.1 t.2.2.2.2.1 t.2.2.2.2.2.1 t.2.2.2.2.2.2
def hiOut (t:NT0):StateT SortSt Sem (ForInStep NT0):=do
 let t1 ← forIn [0:u.size + v.size] ((none,t.2.1,t.2.2.1,t.2.2.2.1,0,0):NT1) (fun _ t1=>hiLin u v t.2.2.2.2 t1)
 match t1.1 with
 | some z=>pure (.done (some z,t1.2.1,t1.2.2.1,t1.2.2.2.1,t.2.2.2.2))
 | none=>do
  rule "list.sort.gallop"
  let t2 ← forIn [0:u.size + v.size] ((none,t1.2.1,t1.2.2.1,t1.2.2.2.1,t.2.2.2.2 + 1,t1.2.2.2.2.1,t1.2.2.2.2.2):NT2) (fun _ t2=>hi0 u v t2)
  match t2.1 with
  | some z=>pure (.done (some z,t2.2.1,t2.2.2.1,t2.2.2.2.1,t2.2.2.2.2.1))
  | none=>do
   setG (t2.2.2.2.2.1 + 1)
   pure (.yield (none,t2.2.1,t2.2.2.1,t2.2.2.2.1,t2.2.2.2.2.1 + 1))
def mhi:Array Keyed→Array Keyed→StateT SortSt Sem (Array Keyed):=sortPriv% PySem.Builtin.mergeHi
theorem mhi_eq0:mhi u v=(do
  rule "list.sort.merge-hi"
  let fullEnd (r:Array Keyed) (p q:Nat):=u.extract 0 p ++ v.extract 0 q ++ r.reverse
  let firstV (r:Array Keyed) (p q:Nat):=v.extract 0 q ++ u.extract 0 p ++ r.reverse
  let mut p:=u.size - 1
  let mut q:=v.size
  let mut r:Array Keyed:=#[← elem' u p]
  if p == 0 then return fullEnd r p q
  if q == 1 then return firstV r p q
  let mut g:=gallopOf (← get)
  for _ in [0:u.size + v.size] do
   let mut cu:=0
   let mut cv:=0
   for _ in [0:u.size + v.size] do
    let some less ← lt' (← elem' v (q - 1)) (← elem' u (p - 1)) | return fullEnd r p q
    if less then
     p:=p - 1; r:=r.push (← elem' u p); cu:=cu + 1; cv:=0
     if p == 0 then return fullEnd r p q
     if cu ≥ g then break
    else
     q:=q - 1; r:=r.push (← elem' v q); cv:=cv + 1; cu:=0
     if q == 1 then return firstV r p q
     if cv ≥ g then break
   rule "list.sort.gallop"
   g:=g + 1
   for _ in [0:u.size + v.size] do
    if g > 1 then g:=g - 1
    setG g
    let some m ← gal false (← elem' v (q - 1)) u 0 p (p - 1) | return fullEnd r p q
    let k:=p - m
    cu:=k
    if k > 0 then
     r:=r ++ (u.extract m p).reverse; p:=m
     if p == 0 then return fullEnd r p q
    q:=q - 1; r:=r.push (← elem' v q)
    if q == 1 then return firstV r p q
    let some m ← gal true (← elem' u (p - 1)) v 0 q (q - 1) | return fullEnd r p q
    let k:=q - m
    cv:=k
    if k > 0 then
     r:=r ++ (v.extract m q).reverse; q:=m
     if q == 1 then return firstV r p q
     if q == 0 then return fullEnd r p q
    p:=p - 1; r:=r.push (← elem' u p)
    if p == 0 then return fullEnd r p q
    if cu < 7 && cv < 7 then break
   g:=g + 1
   setG g
  unsupported "internal:list.sort.merge-bound"):=rfl
theorem mhi_eq:mhi u v=(do
  rule "list.sort.merge-hi"
  let x ← elem' u (u.size - 1)
  if u.size - 1 == 0 then pure (hiU u v (u.size - 1) v.size #[x])
  else if v.size == 1 then pure (hiV u v (u.size - 1) v.size #[x])
  else do
   let st ← get
   let t ← forIn [0:u.size + v.size] ((none,u.size - 1,v.size,#[x],gallopOf st):NT0) (fun _ t=>hiOut u v t)
   match t.1 with
   | some z=>pure z
   | none=>unsupported "internal:list.sort.merge-bound"):=by
 rw [mhi_eq0]
 dsimp only [hiOut,hi0,hi1,hi2,hi3,hi4,hiLin,hiU,hiV]
 refine bind_congr fun _=>bind_congr fun y=>?_
 refine ite_congr rfl (fun _=>rfl) fun _=>ite_congr rfl (fun _=>rfl) fun _=>?_
 refine bind_congr fun st=>?_
 refine bind2 (congrArg (forIn _ _) (funext fun x=>funext fun t=>?_)) ?_
 ·refine bind2 (congrArg (forIn _ _) (funext fun x=>funext fun t1=>?_)) (funext fun t1=>?_)
  ·refine bind_congr fun y=>bind_congr fun x=>bind_congr fun z=>?_
   cases z with
   | none=>with_reducible rfl
   | some z=>cases z <;> with_reducible rfl
  ·obtain ⟨z,t1⟩:=t1
   cases z with
   | some z=>with_reducible rfl
   | none =>
    dsimp only
    refine bind_congr fun _=>?_
    refine bind2 (congrArg (forIn _ _) (funext fun x=>funext fun t2=>?_)) (funext fun t2=>?_)
    ·refine ite_congr rfl (fun _=>?_) (fun _=>?_)
     all_goals (refine bind_congr fun _=>bind_congr fun y=>bind_congr fun k=>?_)
     all_goals cases k
     ·with_reducible rfl
     ·refine ite_congr rfl (fun _=>ite_congr rfl (fun _=>rfl) fun _=>?_) (fun _=>?_)
      all_goals (refine bind_congr fun _=>ite_congr rfl (fun _=>rfl) fun _=>bind_congr fun _=>bind_congr fun k=>?_)
      all_goals cases k <;> with_reducible rfl
     ·with_reducible rfl
     ·refine ite_congr rfl (fun _=>ite_congr rfl (fun _=>rfl) fun _=>?_) (fun _=>?_)
      all_goals (refine bind_congr fun _=>ite_congr rfl (fun _=>rfl) fun _=>bind_congr fun _=>bind_congr fun k=>?_)
      all_goals cases k <;> with_reducible rfl
    ·obtain ⟨z,t2⟩:=t2
     cases z <;> with_reducible rfl
 ·funext t
  obtain ⟨z,t⟩:=t
  cases z <;> with_reducible rfl
end
section
variable {M:Model} {A:Around} {E:Value→Shared→Prop} {s:Shared} {kd:SortKind}
structure Ord.Hg (o:Ord M A E s kd) (la lb out:List Keyed) (i j:Nat):Prop where
 perm:out.Perm (la.drop i ++ lb.drop j)
 up:out.Pairwise o.le
 la:∀ x∈out,∀ y∈la.take i,o.le y x
 lb:∀ x∈out,∀ y∈lb.take j,o.le y x
section
variable {o:Ord M A E s kd} {la lb out:List Keyed} {i j k:Nat}
theorem Ord.Hg.manyA (m:o.Hg la lb out i j) (ua:la.Pairwise o.le) (hk:k≤i) (h:∀ x∈(la.take i).drop k,∀ y∈lb.take j,o.le y x):o.Hg la lb ((la.take i).drop k ++ out) k j:=by
 have ut:(la.take i).Pairwise o.le:=ua.sublist (List.take_sublist _ _)
 have et:la.take k ++ (la.take i).drop k=la.take i:=by
  have:=List.take_append_drop k (la.take i)
  rwa [List.take_take,Nat.min_eq_left hk] at this
 have ed:(la.take i).drop k ++ la.drop i=la.drop k:=by
  have:(la.take i ++ la.drop i).drop k=la.drop k:=by rw [List.take_append_drop]
  rw [← this,List.drop_append]
  by_cases hl:k≤(la.take i).length
  ·rw [Nat.sub_eq_zero_of_le hl,List.drop_zero]
  ·have hl':la.length < k:=by
    rw [List.length_take] at hl
    omega
   rw [List.drop_eq_nil_of_le (show (la.take i).length≤k by rw [List.length_take]; omega),List.drop_eq_nil_of_le (show la.length≤i by omega)]
   simp
 refine ⟨?_,?_,?_,?_⟩
 ·rw [← ed,List.append_assoc]
  exact List.Perm.append_left _ m.perm
 ·exact List.pairwise_append.mpr ⟨ut.sublist (List.drop_sublist _ _),m.up,fun x hx y hy=>m.la y hy x (List.mem_of_mem_drop hx)⟩
 ·intro x hx y hy
  rcases List.mem_append.mp hx with hx | hx
  ·rw [← et] at ut
   exact (List.pairwise_append.mp ut).2.2 y hy x hx
  ·exact m.la x hx y (by rw [← et]; exact List.mem_append_left _ hy)
 ·intro x hx y hy
  rcases List.mem_append.mp hx with hx | hx
  ·exact h x hx y hy
  ·exact m.lb x hx y hy
theorem Ord.Hg.swap (m:o.Hg la lb out i j):o.Hg lb la out j i:=⟨m.perm.trans List.perm_append_comm,m.up,m.lb,m.la⟩
theorem Ord.Hg.manyB (m:o.Hg la lb out i j) (ub:lb.Pairwise o.le) (hk:k≤j) (h:∀ x∈(lb.take j).drop k,∀ y∈la.take i,o.le y x):o.Hg la lb ((lb.take j).drop k ++ out) i k:=(m.swap.manyA ub hk h).swap
theorem Ord.Hg.endA (m:o.Hg la lb out i j) (ua:la.Pairwise o.le) (ub:lb.Pairwise o.le) (h:∀ x∈la.take i,∀ y∈lb.take j,o.le x y):o.Merged la lb (la.take i ++ lb.take j ++ out):=by
 refine ⟨?_,?_⟩
 ·refine (List.Perm.append_left _ m.perm).trans ?_
  have e1:la=la.take i ++ la.drop i:=(List.take_append_drop _ _).symm
  have e2:lb=lb.take j ++ lb.drop j:=(List.take_append_drop _ _).symm
  refine List.Perm.trans ?_ (show (la.take i ++ la.drop i ++ (lb.take j ++ lb.drop j)).Perm (la ++ lb) by rw [← e1,← e2])
  simp only [List.append_assoc]
  refine List.Perm.append_left _ ?_
  rw [← List.append_assoc,← List.append_assoc]
  exact List.Perm.append_right _ List.perm_append_comm
 ·refine List.pairwise_append.mpr ⟨List.pairwise_append.mpr ⟨ua.sublist (List.take_sublist _ _),ub.sublist (List.take_sublist _ _),h⟩,m.up,fun x hx y hy=>?_⟩
  rcases List.mem_append.mp hx with hx | hx
  ·exact m.la y hy x hx
  ·exact m.lb y hy x hx
theorem Ord.Hg.endB (m:o.Hg la lb out i j) (ua:la.Pairwise o.le) (ub:lb.Pairwise o.le) (h:∀ x∈lb.take j,∀ y∈la.take i,o.le x y):o.Merged la lb (lb.take j ++ la.take i ++ out):=(m.swap.endA ub ua h).swap
end
theorem x0 {u:Array Keyed} {p:Nat}:(u.extract 0 p).toList=u.toList.take p:=by
 rw [Array.toList_extract]
 show (u.toList.drop 0).take (p - 0)=_
 simp
theorem xd {u:Array Keyed} {k p:Nat}:(u.extract k p).toList=(u.toList.take p).drop k:=by
 rw [Array.toList_extract,List.drop_take]
theorem mem_upto {u:Array Keyed} {p:Nat} {y:Keyed} (h:y∈u.toList.take p):∃ i,i < p∧u[i]?=some y:=by
 obtain ⟨i,hi,e⟩:=mem_take_iff (u:=u) (p:=0) (k:=p) (by simpa using h)
 exact ⟨i,hi,by simpa using e⟩
theorem mem_seg {u:Array Keyed} {k p:Nat} {y:Keyed} (h:y∈(u.toList.take p).drop k):∃ i,k≤i∧i < p∧u[i]?=some y:=by
 obtain ⟨n,e⟩:=List.mem_iff_getElem?.mp h
 rw [List.getElem?_drop,List.getElem?_take] at e
 split at e
 ·exact ⟨k + n,by omega,by assumption,by simpa using e⟩
 ·cases e
theorem seg1 {u:Array Keyed} {p:Nat} {x:Keyed} (h0:0 < p) (e:u[p - 1]?=some x):(u.toList.take p).drop (p - 1)=[x]:=by
 rw [List.drop_take,show p - (p - 1)=1 by omega]
 exact drop1 e
theorem last_ge {o:Ord M A E s kd} {u:Array Keyed} (uu:u.toList.Pairwise o.le) {p:Nat} {x:Keyed} (e:u[p - 1]?=some x):∀ y∈u.toList.take p,o.le y x:=fun y hy=>by
 obtain ⟨i,hi,ey⟩:=mem_upto hy
 exact up_at uu (by omega) ey e
section
variable (o:Ord M A E s kd) (u v:Array Keyed)
structure HiPre:Prop where
 gu:o.all u
 gv:o.all v
 uu:u.toList.Pairwise o.le
 uv:v.toList.Pairwise o.le
 h1:∀ x y,v[0]?=some x→y∈u.toList→o.le x y
def LiveH (p q:Nat) (r:Array Keyed):Prop:=o.Hg u.toList v.toList r.toList.reverse p q∧0 < p∧1 < q∧p≤u.size∧q≤v.size
end
variable {o:Ord M A E s kd} {u v:Array Keyed} {r:Array Keyed} {p q g cu cv c:Nat} {st:SortSt}
theorem Ord.Hg.pushA (m:o.Hg u.toList v.toList r.toList.reverse p q) (uu:u.toList.Pairwise o.le) (h0:0 < p) {x:Keyed} (e:u[p - 1]?=some x) (h:∀ y∈v.toList.take q,o.le y x):o.Hg u.toList v.toList (r.push x).toList.reverse (p - 1) q:=by
 have:=m.manyA (k:=p - 1) uu (by omega) (by rw [seg1 h0 e]; intro a ha y hy; rw [List.mem_singleton.mp ha]; exact h y hy)
 rw [seg1 h0 e] at this
 simpa using this
theorem Ord.Hg.pushB (m:o.Hg u.toList v.toList r.toList.reverse p q) (uv:v.toList.Pairwise o.le) (h0:0 < q) {y:Keyed} (e:v[q - 1]?=some y) (h:∀ x∈u.toList.take p,o.le x y):o.Hg u.toList v.toList (r.push y).toList.reverse p (q - 1):=by
 have:=m.manyB (k:=q - 1) uv (by omega) (by rw [seg1 h0 e]; intro a ha y hy; rw [List.mem_singleton.mp ha]; exact h y hy)
 rw [seg1 h0 e] at this
 simpa using this
theorem resHU (m:o.Hg u.toList v.toList r.toList.reverse p q) (uu:u.toList.Pairwise o.le) (uv:v.toList.Pairwise o.le) (h:p=0∨q=0):Res o u v (hiU u v p q r):=by
 unfold Res hiU
 rw [Array.toList_append,Array.toList_append,x0,x0,Array.toList_reverse]
 refine m.endA uu uv fun x hx y hy=>?_
 rcases h with rfl | rfl
 ·rw [List.take_zero] at hx; cases hx
 ·rw [List.take_zero] at hy; cases hy
theorem resHV (L:HiPre o u v) (m:o.Hg u.toList v.toList r.toList.reverse p q) (h:q=1):Res o u v (hiV u v p q r):=by
 unfold Res hiV
 rw [Array.toList_append,Array.toList_append,x0,x0,Array.toList_reverse]
 refine m.endB L.uu L.uv fun x hx y hy=>?_
 subst h
 obtain ⟨i,hi,ex⟩:=mem_upto hx
 have:i=0:=by omega
 subst this
 exact L.h1 x y ex (List.mem_of_mem_take hy)
def hlp (u v:Array Keyed) (o:Ord M A E s kd) (c:Nat):ForInStep NT1→Prop
 | .done (some z,_)=>Res o u v z
 | .done (none,p,q,r,_)=>LiveH o u v p q r∧p + q < c
 | .yield (some _,_)=>False
 | .yield (none,p,q,r,_)=>LiveH o u v p q r∧p + q < c
theorem wpS_hiLin (L:HiPre o u v) {a b:Nat} (hk:kindOf st=kd) (l:LiveH o u v p q r):wpS M A E s (hiLin u v g (none,p,q,r,a,b)) (fun t st'=>st'=st∧hlp u v o (p + q) t) st:=by
 obtain ⟨m,hp,hq,hpu,hqv⟩:=l
 obtain ⟨x,ex⟩:=at_lt (u:=u) (p:=p - 1) (by omega)
 obtain ⟨y,ey⟩:=at_lt (u:=v) (p:=q - 1) (by omega)
 unfold hiLin
 refine wpS_bind (wpS_elem ey (wpS_bind (wpS_elem ex (wpS_bind (o.lt hk (L.gv _ _ ey) (L.gu _ _ ex) ?_)))))
 dsimp only
 cases hb:o.O.blt (o.key y) (o.key x) with
 | true =>
  refine wpS_bind (wpS_elem ex ?_)
  have m':=m.pushA L.uu hp ex fun z hz=>o.le_trans (last_ge L.uv ey z hz) (o.le_of_b hb)
  by_cases h1:p - 1=0
  ·rw [if_pos (by simpa using h1)]
   exact wpS_pure ⟨rfl,resHU m' L.uu L.uv (.inl h1)⟩
  ·rw [if_neg (by simpa using h1)]
   split
   ·exact wpS_pure ⟨rfl,⟨m',by omega,hq,by omega,hqv⟩,by omega⟩
   ·exact wpS_pure ⟨rfl,⟨m',by omega,hq,by omega,hqv⟩,by omega⟩
 | false =>
  refine wpS_bind (wpS_elem ey ?_)
  have m':=m.pushB L.uv (by omega) ey fun z hz=>o.le_trans (last_ge L.uu ex z hz) (o.le_of_nb hb)
  by_cases h1:q - 1=1
  ·rw [if_pos (by simpa using h1)]
   exact wpS_pure ⟨rfl,resHV L m' h1⟩
  ·rw [if_neg (by simpa using h1)]
   split
   ·exact wpS_pure ⟨rfl,⟨m',hp,by omega,hpu,by omega⟩,by omega⟩
   ·exact wpS_pure ⟨rfl,⟨m',hp,by omega,hpu,by omega⟩,by omega⟩
def hgp (u v:Array Keyed) (o:Ord M A E s kd) (c:Nat):ForInStep NT2→Prop
 | .done (some z,_)=>Res o u v z
 | .done (none,p,q,r,_)=>LiveH o u v p q r∧p + q < c
 | .yield (some _,_)=>False
 | .yield (none,p,q,r,_)=>LiveH o u v p q r∧p + q < c
theorem wpS_hi4 (L:HiPre o u v) (l:LiveH o u v p q r) (hc:p + q≤c) {x:Keyed} (ex:u[p - 1]?=some x) (hx:∀ y∈v.toList.take q,o.le y x) :
  wpS M A E s (hi4 u v p q r g cu cv) (fun t st'=>st'=st∧hgp u v o c t) st:=by
 obtain ⟨m,hp,hq,hpu,hqv⟩:=l
 unfold hi4
 refine wpS_bind (wpS_elem ex ?_)
 have m':=m.pushA L.uu hp ex hx
 by_cases h1:p - 1=0
 ·rw [if_pos (by simpa using h1)]
  exact wpS_pure ⟨rfl,resHU m' L.uu L.uv (.inl h1)⟩
 ·rw [if_neg (by simpa using h1)]
  split
  ·exact wpS_pure ⟨rfl,⟨m',by omega,hq,by omega,hqv⟩,by omega⟩
  ·exact wpS_pure ⟨rfl,⟨m',by omega,hq,by omega,hqv⟩,by omega⟩
theorem wpS_hi3 (L:HiPre o u v) (hk:kindOf st=kd) (l:LiveH o u v p q r) (hc:p + q≤c) :
  wpS M A E s (hi3 u v p q r g cu cv) (fun t st'=>st'=st∧hgp u v o c t) st:=by
 obtain ⟨m,hp,hq,hpu,hqv⟩:=l
 unfold hi3
 obtain ⟨x,ex⟩:=at_lt (u:=u) (p:=p - 1) (by omega)
 refine wpS_bind (wpS_elem ex ?_)
 refine wpS_bind (wpS_gal o hk (L.gu _ _ ex) L.gv (by omega) (by omega) (up_of L.uv _ _) fun k hkn h1 h2=>?_)
 have rest:∀ y∈v.toList.take k,o.le y x:=fun y hy=>by
  obtain ⟨i,hi,ey⟩:=mem_upto hy
  exact o.le_of_b (h1 i y hi (by rw [Nat.zero_add]; exact ey))
 dsimp only
 split
 ·have m':=m.manyB (k:=k) L.uv hkn fun b hb a ha=>by
   obtain ⟨i,hi,hi2,eb⟩:=mem_seg hb
   exact o.le_trans (last_ge L.uu ex a ha) (o.le_of_nb (h2 i b hi hi2 (by rw [Nat.zero_add]; exact eb)))
  have m'':o.Hg u.toList v.toList (r ++ (v.extract k q).reverse).toList.reverse p k:=by
   rw [Array.toList_append,List.reverse_append,Array.toList_reverse,List.reverse_reverse,xd]; exact m'
  by_cases h3:k=1
  ·rw [if_pos (by simpa using h3)]
   exact wpS_pure ⟨rfl,resHV L m'' h3⟩
  ·rw [if_neg (by simpa using h3)]
   by_cases h4:k=0
   ·rw [if_pos (by simpa using h4)]
    exact wpS_pure ⟨rfl,resHU m'' L.uu L.uv (.inr h4)⟩
   ·rw [if_neg (by simpa using h4)]
    exact wpS_hi4 L ⟨m'',hp,by omega,hpu,by omega⟩ (by omega) ex rest
 ·have:k=q:=by omega
  subst this
  exact wpS_hi4 L ⟨m,hp,hq,hpu,hqv⟩ hc ex rest
theorem wpS_hi2 (L:HiPre o u v) (hk:kindOf st=kd) (l:LiveH o u v p q r) (hc:p + q≤c) {y:Keyed} (ey:v[q - 1]?=some y) (hy:∀ x∈u.toList.take p,o.le x y) :
  wpS M A E s (hi2 u v p q r g cu cv) (fun t st'=>st'=st∧hgp u v o c t) st:=by
 obtain ⟨m,hp,hq,hpu,hqv⟩:=l
 unfold hi2
 refine wpS_bind (wpS_elem ey ?_)
 have m':=m.pushB L.uv (by omega) ey hy
 by_cases h1:q - 1=1
 ·rw [if_pos (by simpa using h1)]
  exact wpS_pure ⟨rfl,resHV L m' h1⟩
 ·rw [if_neg (by simpa using h1)]
  exact wpS_hi3 L hk ⟨m',hp,by omega,hpu,by omega⟩ (by omega)
theorem wpS_hi1 (L:HiPre o u v) {st0:SortSt} (hs:Gs st0 st) (hk:kindOf st0=kd) (l:LiveH o u v p q r) :
  wpS M A E s (hi1 u v p q r g cu cv) (fun t st'=>Gs st0 st'∧hgp u v o (p + q) t) st:=by
 obtain ⟨m,hp,hq,hpu,hqv⟩:=id l
 unfold hi1
 refine wpS_bind (wpS_setG hs fun st2 hs2=>?_)
 have hk2:kindOf st2=kd:=hs2.k.trans hk
 obtain ⟨y,ey⟩:=at_lt (u:=v) (p:=q - 1) (by omega)
 refine wpS_bind (wpS_elem ey ?_)
 refine wpS_bind (wpS_gal o hk2 (L.gv _ _ ey) L.gu (by omega) (by omega) (up_of L.uu _ _) fun k hkn h1 h2=>?_)
 have rest:∀ x∈u.toList.take k,o.le x y:=fun x hx=>by
  obtain ⟨i,hi,ex⟩:=mem_upto hx
  have z:=h1 i x hi (by rw [Nat.zero_add]; exact ex)
  have z':o.b y x=false:=by simpa [Ord.byB] using z
  exact o.le_of_nb z'
 dsimp only
 split
 ·have m':=m.manyA (k:=k) L.uu hkn fun a ha b hb=>by
   obtain ⟨i,hi,hi2,ea⟩:=mem_seg ha
   have z:=h2 i a hi hi2 (by rw [Nat.zero_add]; exact ea)
   have z':o.b y a=true:=by simpa [Ord.byB] using z
   exact o.le_trans (last_ge L.uv ey b hb) (o.le_of_b z')
  have m'':o.Hg u.toList v.toList (r ++ (u.extract k p).reverse).toList.reverse k q:=by
   rw [Array.toList_append,List.reverse_append,Array.toList_reverse,List.reverse_reverse,xd]; exact m'
  by_cases h4:k=0
  ·rw [if_pos (by simpa using h4)]
   exact wpS_pure ⟨hs2,resHU m'' L.uu L.uv (.inl h4)⟩
  ·rw [if_neg (by simpa using h4)]
   exact wpS_mono (wpS_hi2 L hk2 ⟨m'',by omega,hq,by omega,hqv⟩ (by omega) ey rest) fun t st' ⟨e,z⟩=>⟨e ▸ hs2,z⟩
 ·have:k=p:=by omega
  subst this
  exact wpS_mono (wpS_hi2 L hk2 l (by omega) ey rest) fun t st' ⟨e,z⟩=>⟨e ▸ hs2,z⟩
theorem wpS_hi0 (L:HiPre o u v) {st0:SortSt} (hs:Gs st0 st) (hk:kindOf st0=kd) (l:LiveH o u v p q r) :
  wpS M A E s (hi0 u v (none,p,q,r,g,cu,cv)) (fun t st'=>Gs st0 st'∧hgp u v o (p + q) t) st:=by
 unfold hi0
 split
 ·exact wpS_hi1 L hs hk l
 ·exact wpS_hi1 L hs hk l
def hop (u v:Array Keyed) (o:Ord M A E s kd) (c:Nat):ForInStep NT0→Prop
 | .done (some z,_)=>Res o u v z
 | .done (none,_)=>False
 | .yield (some _,_)=>False
 | .yield (none,p,q,r,_)=>LiveH o u v p q r∧p + q < c
theorem wpS_hiOut (L:HiPre o u v) {st0:SortSt} (hs:Gs st0 st) (hk:kindOf st0=kd) (l:LiveH o u v p q r) :
  wpS M A E s (hiOut u v (none,p,q,r,g)) (fun t st'=>Gs st0 st'∧hop u v o (p + q) t) st:=by
 unfold hiOut
 have hk1:kindOf st=kd:=hs.k.trans hk
 have hpos:0 < u.size + v.size:=by have:=l.2.2.2.1; have:=l.2.1; omega
 refine wpS_bind (wpS_mono (wpS_forRange (I:=fun i t st'=>st'=st∧∃ p1 q1 r1 a b,t=(none,p1,q1,r1,a,b)∧LiveH o u v p1 q1 r1∧p1 + q1 + i≤p + q)
  (Q:=fun t st'=>st'=st∧((∃ z t',t=(some z,t')∧Res o u v z)∨∃ p1 q1 r1 a b,t=(none,p1,q1,r1,a,b)∧LiveH o u v p1 q1 r1∧p1 + q1 < p + q)) ?step ?fin ⟨rfl,p,q,r,0,0,rfl,l,by omega⟩) ?post)
 case fin =>
  rintro t st' ⟨rfl,p1,q1,r1,a,b,rfl,l1,hc⟩
  exact ⟨rfl,.inr ⟨p1,q1,r1,a,b,rfl,l1,by omega⟩⟩
 case step =>
  rintro i t st' _ hi ⟨rfl,p1,q1,r1,a,b,rfl,l1,hc⟩
  refine wpS_mono (wpS_hiLin L hk1 l1) fun t st'' ⟨e,z⟩=>?_
  subst e
  match t,z with
  | .done (some z,t'),hz=>exact ⟨rfl,.inl ⟨z,t',rfl,hz⟩⟩
  | .done (none,p2,q2,r2,a2,b2),hz=>exact ⟨rfl,.inr ⟨p2,q2,r2,a2,b2,rfl,hz.1,by have:=hz.2; omega⟩⟩
  | .yield (none,p2,q2,r2,a2,b2),hz=>exact ⟨rfl,p2,q2,r2,a2,b2,rfl,hz.1,by have:=hz.2; omega⟩
 case post =>
  rintro t st' ⟨rfl,⟨z,t',rfl,hz⟩ | ⟨p1,q1,r1,a,b,rfl,l1,hc⟩⟩
  ·exact wpS_pure ⟨hs,hz⟩
  ·dsimp only
   refine wpS_bind (wpS_lift (wpAny_rule ⟨rfl,?_⟩))
   refine wpS_bind (wpS_mono (wpS_forRange (I:=fun i t st2=>Gs st0 st2∧∃ p2 q2 r2 g2 a b,t=(none,p2,q2,r2,g2,a,b)∧LiveH o u v p2 q2 r2∧p2 + q2 < p + q)
    (Q:=fun t st2=>Gs st0 st2∧((∃ z t',t=(some z,t')∧Res o u v z)∨∃ p2 q2 r2 g2 a b,t=(none,p2,q2,r2,g2,a,b)∧LiveH o u v p2 q2 r2∧p2 + q2 < p + q)) ?step2 ?fin2 ⟨hs,p1,q1,r1,_,_,_,rfl,l1,hc⟩) ?post2)
   case fin2 =>
    rintro t st2 ⟨hs2,p2,q2,r2,g2,a,b,rfl,l2,hc2⟩
    exact ⟨hs2,.inr ⟨p2,q2,r2,g2,a,b,rfl,l2,hc2⟩⟩
   case step2 =>
    rintro i t st2 _ hi ⟨hs2,p2,q2,r2,g2,a,b,rfl,l2,hc2⟩
    refine wpS_mono (wpS_hi0 L hs2 hk l2) fun t st3 ⟨hs3,z⟩=>?_
    match t,z with
    | .done (some z,t'),hz=>exact ⟨hs3,.inl ⟨z,t',rfl,hz⟩⟩
    | .done (none,p3,q3,r3,g3,a3,b3),hz=>exact ⟨hs3,.inr ⟨p3,q3,r3,g3,a3,b3,rfl,hz.1,by have:=hz.2; omega⟩⟩
    | .yield (none,p3,q3,r3,g3,a3,b3),hz=>exact ⟨hs3,p3,q3,r3,g3,a3,b3,rfl,hz.1,by have:=hz.2; omega⟩
   case post2 =>
    rintro t st2 ⟨hs2,⟨z,t',rfl,hz⟩ | ⟨p2,q2,r2,g2,a,b,rfl,l2,hc2⟩⟩
    ·exact wpS_pure ⟨hs2,hz⟩
    ·exact wpS_bind (wpS_setG hs2 fun st3 hs3=>wpS_pure ⟨hs3,l2,hc2⟩)
theorem wpS_mhi (L:HiPre o u v) {Q:Array Keyed→SortSt→Prop} (hk:kindOf st=kd) (hu:0 < u.size) (hv:0 < v.size)
  (h2:∀ x y,x∈v.toList→u[u.size - 1]?=some y→o.le x y) (h:∀ st' out,Gs st st'→o.Merged u.toList v.toList out.toList→Q out st'):wpS M A E s (mhi u v) Q st:=by
 rw [mhi_eq]
 refine wpS_bind (wpS_lift (wpAny_rule ⟨rfl,?_⟩))
 obtain ⟨x,ex⟩:=at_lt (u:=u) (p:=u.size - 1) (by omega)
 refine wpS_bind (wpS_elem ex ?_)
 have m0:o.Hg u.toList v.toList (#[]:Array Keyed).toList.reverse u.size v.size:=⟨by simp,by simp,by simp,by simp⟩
 have m:o.Hg u.toList v.toList (#[x]:Array Keyed).toList.reverse (u.size - 1) v.size:=by
  have:=m0.pushA L.uu hu ex (fun y hy=>h2 y x (List.mem_of_mem_take hy) ex)
  simpa using this
 by_cases h3:u.size - 1=0
 ·rw [if_pos (by simpa using h3)]
  exact wpS_pure (h _ _ (.refl _) (resHU m L.uu L.uv (.inl h3)))
 ·rw [if_neg (by simpa using h3)]
  by_cases h4:v.size=1
  ·rw [if_pos (by simpa using h4)]
   exact wpS_pure (h _ _ (.refl _) (resHV L m h4))
  ·rw [if_neg (by simpa using h4)]
   refine wpS_bind (wpS_get ?_)
   refine wpS_bind (wpS_mono (wpS_forRange (I:=fun i t st2=>Gs st st2∧∃ p2 q2 r2 g2,t=(none,p2,q2,r2,g2)∧LiveH o u v p2 q2 r2∧p2 + q2 + i < u.size + v.size)
    (Q:=fun t st2=>Gs st st2∧∃ z t',t=(some z,t')∧Res o u v z) ?step ?fin ⟨.refl _,u.size - 1,v.size,_,_,rfl,⟨m,by omega,by omega,by omega,by omega⟩,by omega⟩) ?post)
   case fin =>
    rintro t st2 ⟨hs2,p2,q2,r2,g2,rfl,l2,hc⟩
    omega
   case step =>
    rintro i t st2 _ hi ⟨hs2,p2,q2,r2,g2,rfl,l2,hc⟩
    refine wpS_mono (wpS_hiOut L hs2 hk l2) fun t st3 ⟨hs3,z⟩=>?_
    match t,z with
    | .done (some z,t'),hz=>exact ⟨hs3,z,t',rfl,hz⟩
    | .yield (none,p3,q3,r3,g3),hz=>exact ⟨hs3,p3,q3,r3,g3,rfl,hz.1,by have:=hz.2; omega⟩
   case post =>
    rintro t st2 ⟨hs2,z,t',rfl,hz⟩
    exact wpS_pure (h _ _ hs2 hz)
end
section
theorem splice_go:∀ (zs:List Keyed) (n L:Nat) (xs:Array Keyed),L + n + zs.length≤xs.size →
  ((zs.zipIdx n).foldl (fun a (pj:Keyed×Nat)=>a.setIfInBounds (L + pj.2) pj.1) xs).toList=xs.toList.take (L + n) ++ zs ++ xs.toList.drop (L + n + zs.length)
 | [],n,L,xs,h=>by simp
 | z :: zs,n,L,xs,h=>by
  rw [List.zipIdx_cons,List.foldl_cons]
  simp only [List.length_cons] at h
  rw [splice_go zs (n + 1) L (xs.setIfInBounds (L + n) z) (by rw [Array.size_setIfInBounds]; omega)]
  have hlt:L + n < xs.toList.length:=by rw [Array.length_toList]; omega
  rw [Array.toList_setIfInBounds]
  have e1:(xs.toList.set (L + n) z).take (L + (n + 1))=xs.toList.take (L + n) ++ [z]:=by
   rw [show L + (n + 1)=(L + n) + 1 by omega,List.take_succ,List.take_set,List.getElem?_set_self hlt]
   congr 1
   exact List.set_eq_of_length_le (by rw [List.length_take]; omega)
  have e2:(xs.toList.set (L + n) z).drop (L + (n + 1) + zs.length)=xs.toList.drop (L + n + (z :: zs).length):=by
   rw [List.drop_set_of_lt (by omega),List.length_cons]
   congr 1
   omega
  rw [e1,e2]
  simp
theorem splice (zs xs:Array Keyed) (L:Nat) (h:L + zs.size≤xs.size) :
  (zs.toList.zipIdx.foldl (fun a (pj:Keyed×Nat)=>a.setIfInBounds (L + pj.2) pj.1) xs).toList=xs.toList.take L ++ zs.toList ++ xs.toList.drop (L + zs.size):=by
 have:=splice_go zs.toList 0 L xs (by rw [Array.length_toList]; omega)
 simpa using this
end
section
variable {M:Model} {A:Around} {E:Value→Shared→Prop} {s:Shared} {kd:SortKind} {o:Ord M A E s kd}
theorem at_mid {xs:Array Keyed} {pre B post:List Keyed} (e:xs.toList=pre ++ B ++ post) {i:Nat} (hi:i < B.length):xs[pre.length + i]?=B[i]?:=by
 have:xs.toList[pre.length + i]?=B[i]?:=by
  rw [e,List.append_assoc,List.getElem?_append_right (by omega),Nat.add_sub_cancel_left,List.getElem?_append_left hi]
 rw [← this]; simp
theorem size_mid {xs:Array Keyed} {l:List Keyed} (e:xs.toList=l):xs.size=l.length:=by rw [← e]; simp
theorem up_mid {xs:Array Keyed} {pre B post:List Keyed} (e:xs.toList=pre ++ B ++ post) (ub:B.Pairwise o.le):o.up xs pre.length (pre.length + B.length):=fun i j x y h1 h2 h3 ex ey=>by
 have ex':=at_mid e (i:=i - pre.length) (by omega)
 have ey':=at_mid e (i:=j - pre.length) (by omega)
 rw [show pre.length + (i - pre.length)=i by omega,ex] at ex'
 rw [show pre.length + (j - pre.length)=j by omega,ey] at ey'
 have bu:(B.toArray).toList.Pairwise o.le:=by simpa using ub
 exact up_at (u:=B.toArray) bu (i:=i - pre.length) (j:=j - pre.length) (by omega) (by simpa using ex'.symm) (by simpa using ey'.symm)
def mAt:Nat→StateT SortSt Sem Bool:=sortPriv% PySem.Builtin.mergeAt
theorem mAt_eq (i:Nat):mAt i=(do
  let st ← get
  let (some (p,n,pw),some (q,m,_)):=((pendingOf st)[i]?,(pendingOf st)[i + 1]?) | unsupported "internal:list.sort.pending"
  set (SortSt.mk' (kindOf st) (arrOf st) (((pendingOf st).setIfInBounds i (p,n + m,pw)).eraseIdxIfInBounds (i + 1)) (gallopOf st) (failedOf st))
  let some k ← gal false (← elem' (arrOf st) q) (arrOf st) p n 0 | return false
  let (p,n):=(p + k,n - k)
  if n == 0 then return true
  let some m ← gal true (← elem' (arrOf st) (p + n - 1)) (arrOf st) q m (m - 1) | return false
  if m == 0 then return true
  let x:=(arrOf st).extract p q
  let y:=(arrOf st).extract q (q + m)
  let z ← if n≤m then mlo x y else mhi x y
  modify fun st=>setArr st (z.toList.zipIdx.foldl (fun a (pj:Keyed×Nat)=>a.setIfInBounds (p + pj.2) pj.1) (arrOf st))
  return (failedOf (← get)).isNone):=rfl
end
section
variable {M:Model} {A:Around} {E:Value→Shared→Prop} {s:Shared} {kd:SortKind} {o:Ord M A E s kd}
theorem wpS_set {σ:Type} {st st2:σ} {Q:PUnit→σ→Prop} (h:Q ⟨⟩ st2):wpS M A E s (set st2:StateT σ Sem PUnit) Q st:=by
 unfold wpS; rw [StateT.run_set]; exact wpAny_pure ⟨rfl,h⟩
theorem mem_ix {l:List Keyed} {x:Keyed} (h:x∈l):∃ i,i < l.length∧l[i]?=some x:=by
 obtain ⟨i,e⟩:=List.mem_iff_getElem?.mp h
 exact ⟨i,(List.getElem?_eq_some_iff.mp e).1,e⟩
theorem wpS_mAt {st:SortSt} {i:Nat} {Q:Bool→SortSt→Prop} {pre B C post:List Keyed} {P1 P2:List (Nat×Nat×Nat)} {pw pw2:Nat} (hk:kindOf st=kd) (hf:failedOf st=none) (ga:o.all (arrOf st))
  (e:(arrOf st).toList=pre ++ B ++ C ++ post) (uB:B.Pairwise o.le) (uC:C.Pairwise o.le) (hB:0 < B.length) (hC:0 < C.length)
  (ep:(pendingOf st).toList=P1 ++ (pre.length,B.length,pw) :: (pre.length + B.length,C.length,pw2) :: P2) (hi:i=P1.length)
  (h:∀ st' D,kindOf st'=kd→failedOf st'=none→(arrOf st').toList=pre ++ D ++ post→D.Pairwise o.le→D.Perm (B ++ C)→(pendingOf st').toList=P1 ++ (pre.length,B.length + C.length,pw) :: P2→Q true st') :
  wpS M A E s (mAt i) Q st:=by
 subst hi
 have g1:(pendingOf st)[P1.length]?=some (pre.length,B.length,pw):=by
  rw [← Array.getElem?_toList,ep]; simp
 have g2:(pendingOf st)[P1.length + 1]?=some (pre.length + B.length,C.length,pw2):=by
  rw [← Array.getElem?_toList,ep,List.getElem?_append_right (by omega)]; simp
 rw [mAt_eq]
 refine wpS_bind (wpS_get ?_)
 rw [g1,g2]
 dsimp only
 refine wpS_bind (wpS_set ?_)
 have pp:(((pendingOf st).setIfInBounds P1.length (pre.length,B.length + C.length,pw)).eraseIdxIfInBounds (P1.length + 1)).toList=P1 ++ (pre.length,B.length + C.length,pw) :: P2:=by
  rw [Array.toList_eraseIdxIfInBounds,Array.toList_setIfInBounds,ep,List.set_append_right _ _ (Nat.le_refl _),Nat.sub_self,List.set_cons_zero,List.eraseIdx_append_of_length_le (by omega),Nat.add_sub_cancel_left]
  rfl
 have eB:(arrOf st).toList=pre ++ B ++ (C ++ post):=by rw [e]; simp
 have eC:(arrOf st).toList=(pre ++ B) ++ C ++ post:=e
 have lB:(pre ++ B).length=pre.length + B.length:=by simp
 have sz:=size_mid e
 simp only [List.length_append] at sz
 have aB:∀ j,j < B.length→(arrOf st)[pre.length + j]?=B[j]?:=fun j hj=>at_mid eB hj
 have aC:∀ j,j < C.length→(arrOf st)[pre.length + B.length + j]?=C[j]?:=fun j hj=>by have:=at_mid eC hj; rwa [lB] at this
 have gB:∀ x∈B,o.G x:=fun x hx=>by
  obtain ⟨j,hj,ej⟩:=mem_ix hx
  exact ga _ x ((aB j hj).trans ej)
 have gC:∀ x∈C,o.G x:=fun x hx=>by
  obtain ⟨j,hj,ej⟩:=mem_ix hx
  exact ga _ x ((aC j hj).trans ej)
 obtain ⟨c0,ec0⟩:∃ c,C[0]?=some c:=⟨C[0],List.getElem?_eq_getElem hC⟩
 have ac0:(arrOf st)[pre.length + B.length]?=some c0:=by have:=aC 0 hC; rw [Nat.add_zero] at this; rw [this,ec0]
 have c0C:∀ c∈C,o.le c0 c:=fun c hc=>head_le (u:=C.toArray) (by simpa using uC) (p:=0) (x:=c0) (by simpa using ec0) c (by simpa using hc)
 refine wpS_bind (wpS_elem ac0 ?_)
 refine wpS_bind (wpS_gal o (by exact hk) (gC _ (List.mem_of_getElem? ec0)) ga (by omega) hB (up_mid eB uB) fun k hkn k1 k2=>?_)
 have lo1:∀ x∈B.take k,o.le x c0:=fun x hx=>by
  obtain ⟨j,hj,ej⟩:=mem_ix hx
  rw [List.length_take] at hj
  rw [List.getElem?_take,if_pos (by omega)] at ej
  have z:=k1 j x (by omega) ((aB j (by omega)).trans ej)
  have z':o.b c0 x=false:=by simpa [Ord.byB] using z
  exact o.le_of_nb z'
 have hi1:∀ x∈B.drop k,o.le c0 x:=fun x hx=>by
  obtain ⟨j,hj,ej⟩:=mem_ix hx
  rw [List.length_drop] at hj
  rw [List.getElem?_drop] at ej
  have z:=k2 (k + j) x (by omega) (by omega) ((aB (k + j) (by omega)).trans ej)
  exact o.le_of_b (by simpa [Ord.byB] using z)
 dsimp only
 by_cases hn:B.length - k=0
 ·rw [if_pos (by simpa using hn)]
  refine wpS_pure (h _ (B ++ C) hk hf (by rw [e]; simp) (List.pairwise_append.mpr ⟨uB,uC,fun x hx y hy=>?_⟩) (List.Perm.refl _) pp)
  rw [← List.take_of_length_le (show B.length≤k by omega)] at hx
  exact o.le_trans (lo1 x hx) (c0C y hy)
 ·rw [if_neg (by simpa using hn)]
  obtain ⟨bl,ebl⟩:∃ b,B[B.length - 1]?=some b:=⟨B[B.length - 1],List.getElem?_eq_getElem (by omega)⟩
  have abl:(arrOf st)[pre.length + k + (B.length - k) - 1]?=some bl:=by
   rw [show pre.length + k + (B.length - k) - 1=pre.length + (B.length - 1) by omega,aB _ (by omega),ebl]
  have Bbl:∀ b∈B,o.le b bl:=fun b hb=>last_ge (u:=B.toArray) (by simpa using uB) (p:=B.length) (x:=bl) (by simpa using ebl) b (by simpa using hb)
  refine wpS_bind (wpS_elem abl ?_)
  have upC:=up_mid eC uC
  rw [lB] at upC
  refine wpS_bind (wpS_gal o (by exact hk) (gB _ (List.mem_of_getElem? ebl)) ga (by omega) (by omega) upC fun m hmn m1 m2=>?_)
  have lo2:∀ x∈C.take m,o.le x bl:=fun x hx=>by
   obtain ⟨j,hj,ej⟩:=mem_ix hx
   rw [List.length_take] at hj
   rw [List.getElem?_take,if_pos (by omega)] at ej
   exact o.le_of_b (m1 j x (by omega) ((aC j (by omega)).trans ej))
  have hi2:∀ x∈C.drop m,o.le bl x:=fun x hx=>by
   obtain ⟨j,hj,ej⟩:=mem_ix hx
   rw [List.length_drop] at hj
   rw [List.getElem?_drop] at ej
   exact o.le_of_nb (m2 (m + j) x (by omega) (by omega) ((aC (m + j) (by omega)).trans ej))
  dsimp only
  by_cases hm:m=0
  ·rw [if_pos (by simpa using hm)]
   subst hm
   refine wpS_pure (h _ (B ++ C) hk hf (by rw [e]; simp) (List.pairwise_append.mpr ⟨uB,uC,fun x hx y hy=>?_⟩) (List.Perm.refl _) pp)
   exact o.le_trans (Bbl x hx) (hi2 y (by simpa using hy))
  ·rw [if_neg (by simpa using hm)]
   generalize hX:(arrOf st).extract (pre.length + k) (pre.length + B.length)=X
   generalize hY:(arrOf st).extract (pre.length + B.length) (pre.length + B.length + m)=Y
   have lX:X.toList=B.drop k:=by
    rw [← hX,xd,eB,← lB,List.take_left,List.drop_append,List.drop_eq_nil_of_le (by omega),Nat.add_sub_cancel_left,List.nil_append]
   have lY:Y.toList=C.take m:=by
    rw [← hY,xk,eC,← lB,List.append_assoc,List.drop_left,List.take_append_of_le_length (by omega)]
   have szX:X.size=B.length - k:=by rw [size_mid lX,List.length_drop]
   have szY:Y.size=m:=by rw [size_mid lY,List.length_take]; omega
   have gX:o.all X:=fun i x ex=>gB x (List.mem_of_mem_drop (by rw [← lX]; exact Array.mem_toList_iff.mpr (Array.mem_of_getElem? ex)))
   have gY:o.all Y:=fun i x ex=>gC x (List.mem_of_mem_take (by rw [← lY]; exact Array.mem_toList_iff.mpr (Array.mem_of_getElem? ex)))
   have uX:X.toList.Pairwise o.le:=by rw [lX]; exact uB.sublist (List.drop_sublist _ _)
   have uY:Y.toList.Pairwise o.le:=by rw [lY]; exact uC.sublist (List.take_sublist _ _)
   have p1:∀ x y,Y[0]?=some x→y∈X.toList→o.le x y:=fun x y ex hy=>by
    have:x=c0:=by
     have e1:Y.toList[0]?=some x:=by simpa using ex
     rw [lY,List.getElem?_take,if_pos (by omega),ec0] at e1
     exact (Option.some.inj e1).symm
    rw [this]
    exact hi1 y (by rw [← lX]; exact hy)
   have p2:∀ x y,x∈Y.toList→X[X.size - 1]?=some y→o.le x y:=fun x y hx ey=>by
    have:y=bl:=by
     have e1:X.toList[X.size - 1]?=some y:=by simpa using ey
     rw [lX,List.getElem?_drop,szX,show k + (B.length - k - 1)=B.length - 1 by omega,ebl] at e1
     exact (Option.some.inj e1).symm
    rw [this]
    exact lo2 x (by rw [← lY]; exact hx)
   have fin:∀ (st':SortSt) (out:Array Keyed),kindOf st'=kd→arrOf st'=arrOf st→(pendingOf st').toList=P1 ++ (pre.length,B.length + C.length,pw) :: P2→failedOf st'=none→o.Merged X.toList Y.toList out.toList →
     wpS M A E s (do modify fun st=>setArr st (out.toList.zipIdx.foldl (fun a (pj:Keyed×Nat)=>a.setIfInBounds (pre.length + k + pj.2) pj.1) (arrOf st)); return (failedOf (← get)).isNone) Q st':=fun st' out hk' ha' hp' hf' hm'=>by
    refine wpS_bind (wpS_modify (wpS_bind (wpS_get ?_)))
    have hm1:=hm'.1
    rw [lX,lY] at hm1
    have szO:out.size=B.length - k + m:=by
     have:=hm1.length_eq
     rw [Array.length_toList,List.length_append,List.length_drop,List.length_take] at this
     omega
    have ef:(failedOf (setArr st' (out.toList.zipIdx.foldl (fun a (pj:Keyed×Nat)=>a.setIfInBounds (pre.length + k + pj.2) pj.1) (arrOf st')))).isNone=true:=by
     show (failedOf st').isNone=true
     rw [hf']; rfl
    rw [ef]
    refine wpS_pure (h _ (B.take k ++ out.toList ++ C.drop m) hk' hf' ?_ ?_ ?_ hp')
    ·show (out.toList.zipIdx.foldl (fun a (pj:Keyed×Nat)=>a.setIfInBounds (pre.length + k + pj.2) pj.1) (arrOf st')).toList=_
     rw [ha',splice _ _ _ (by rw [szO]; omega),szO]
     have t1:(arrOf st).toList.take (pre.length + k)=pre ++ B.take k:=by
      rw [eB,List.append_assoc,List.take_append,List.take_of_length_le (by omega),Nat.add_sub_cancel_left,List.take_append_of_le_length (by omega)]
     have t2:(arrOf st).toList.drop (pre.length + k + (B.length - k + m))=C.drop m ++ post:=by
      rw [eC,List.append_assoc,List.drop_append,List.drop_eq_nil_of_le (by omega),lB,show pre.length + k + (B.length - k + m) - (pre.length + B.length)=m by omega,List.nil_append,List.drop_append_of_le_length (by omega)]
     rw [t1,t2]
     simp
    ·have inO:∀ x∈out.toList,x∈B.drop k∨x∈C.take m:=fun x hx=>List.mem_append.mp (hm1.mem_iff.mp hx)
     have uB':=uB
     rw [← List.take_append_drop k B] at uB'
     have uC':=uC
     rw [← List.take_append_drop m C] at uC'
     refine List.pairwise_append.mpr ⟨List.pairwise_append.mpr ⟨uB.sublist (List.take_sublist _ _),hm'.2,fun x hx y hy=>?_⟩,uC.sublist (List.drop_sublist _ _),fun x hx y hy=>?_⟩
     ·rcases inO y hy with z | z
      ·exact (List.pairwise_append.mp uB').2.2 x hx y z
      ·exact o.le_trans (lo1 x hx) (c0C y (List.mem_of_mem_take z))
     ·rcases List.mem_append.mp hx with hx | hx
      ·exact o.le_trans (Bbl x (List.mem_of_mem_take hx)) (hi2 y hy)
      ·rcases inO x hx with z | z
       ·exact o.le_trans (Bbl x (List.mem_of_mem_drop z)) (hi2 y hy)
       ·exact (List.pairwise_append.mp uC').2.2 x z y hy
    ·refine ((List.Perm.append_left _ hm1).append_right _).trans ?_
     rw [← List.append_assoc,List.take_append_drop,List.append_assoc,List.take_append_drop]
   by_cases hnm:B.length - k≤m
   ·rw [if_pos hnm]
    refine wpS_bind (wpS_mlo ⟨gX,gY,uX,uY,p2⟩ (by exact hk) (by omega) (by omega) p1 fun st' out gs mg=>?_)
    exact fin st' out (gs.k.trans hk) gs.a (by rw [gs.p]; exact pp) (gs.f.trans hf) mg
   ·rw [if_neg hnm]
    refine wpS_bind (wpS_mhi ⟨gX,gY,uX,uY,p1⟩ (by exact hk) (by omega) (by omega) p2 fun st' out gs mg=>?_)
    exact fin st' out (gs.k.trans hk) gs.a (by rw [gs.p]; exact pp) (gs.f.trans hf) mg
end
section
variable {M:Model} {A:Around} {E:Value→Shared→Prop} {s:Shared} {kd:SortKind} {o:Ord M A E s kd}
structure As (lo:Nat) (st st':SortSt):Prop where
 k:kindOf st'=kindOf st
 p:pendingOf st'=pendingOf st
 f:failedOf st'=failedOf st
 perm:(arrOf st').Perm (arrOf st)
 pre:∀ j,j < lo→(arrOf st')[j]?=(arrOf st)[j]?
theorem As.refl (lo:Nat) (st:SortSt):As lo st st:=⟨rfl,rfl,rfl,.refl _,fun _ _=>rfl⟩
theorem As.arr {lo:Nat} {st st':SortSt} (h:As lo st st') {xs:Array Keyed} (hp:xs.Perm (arrOf st')) (hq:∀ j,j < lo→xs[j]?=(arrOf st')[j]?):As lo st (setArr st' xs) :=
 ⟨h.k,h.p,h.f,hp.trans h.perm,fun j hj=>(hq j hj).trans (h.pre j hj)⟩
theorem As.all {lo:Nat} {st st':SortSt} (h:As lo st st') (ga:o.all (arrOf st)):o.all (arrOf st'):=fun i x e=>by
 have:x∈(arrOf st'):=Array.mem_of_getElem? e
 have:x∈(arrOf st):=h.perm.mem_iff.mp this
 obtain ⟨j,e2⟩:=Array.getElem?_of_mem this
 exact ga j x e2
theorem As.size {lo:Nat} {st st':SortSt} (h:As lo st st'):(arrOf st').size=(arrOf st).size:=h.perm.size_eq
theorem wpS_ltA {st:SortSt} {i j:Nat} {x y:Keyed} {Q:Option Bool→SortSt→Prop} (hk:kindOf st=kd) (ga:o.all (arrOf st)) (ex:(arrOf st)[i]?=some x) (ey:(arrOf st)[j]?=some y) (h:Q (some (o.b x y)) st):wpS M A E s (ltAt' i j) Q st:=by
 rw [ltAt'_eq]
 refine wpS_bind (wpS_get ?_)
 exact wpS_bind (wpS_elem ex (wpS_bind (wpS_elem ey (o.lt hk (ga _ _ ex) (ga _ _ ey) h))))
def bsort:Nat→Nat→Nat→StateT SortSt Sem Bool:=sortPriv% PySem.Builtin.binarySort
theorem bsort_eq (lo n ok:Nat):bsort lo n ok=(do
  for t in [max ok 1:n] do
   let mut a:=0
   let mut b:=t
   for _ in [0:t] do
    if a ≥ b then break
    let some less ← ltAt' (lo + t) (lo + (a + b) / 2) | return false
    if less then b:=(a + b) / 2 else a:=(a + b) / 2 + 1
   moveDown' (lo + t) (lo + a)
  return true):=rfl
theorem wpS_bsort {st:SortSt} {lo n ok:Nat} {Q:Bool→SortSt→Prop} (hk:kindOf st=kd) (ga:o.all (arrOf st)) (hn:lo + n≤(arrOf st).size) (hok:ok≤n) (hs:o.up (arrOf st) lo (lo + ok))
  (h:∀ st',As lo st st'→o.up (arrOf st') lo (lo + n)→Q true st'):wpS M A E s (bsort lo n ok) Q st:=by
 rw [bsort_eq]
 refine wpS_bind (wpS_mono (wpS_forRange (I:=fun t c st'=>c=(none,())∧As lo st st'∧o.up (arrOf st') lo (lo + min t n)) (Q:=fun c st'=>c=(none,())∧As lo st st'∧o.up (arrOf st') lo (lo + n)) ?step ?fin ?init) ?post)
 case post =>
  rintro c st' ⟨rfl,h1,h2⟩
  exact wpS_pure (h st' h1 h2)
 case init =>
  refine ⟨rfl,.refl _ _,fun i j x y h1 h2 h3 ex ey=>?_⟩
  by_cases hz:ok=0
  ·have:i=j:=by omega
   subst this
   rw [ex] at ey
   cases ey
   exact o.le_refl _
  ·exact hs i j x y h1 h2 (by omega) ex ey
 case fin =>
  rintro c st' ⟨hc,h1,h2⟩
  refine ⟨hc,h1,?_⟩
  rwa [show min (max (max ok 1) n) n=n by omega] at h2
 case step =>
  rintro t c st' h1 h2 ⟨rfl,hA,hU⟩
  rw [show min t n=t by omega] at hU
  have hk':kindOf st'=kd:=hA.k.trans hk
  have ga':=hA.all ga
  have hsz:=hA.size
  obtain ⟨x,ex⟩:=at_lt (u:=arrOf st') (p:=lo + t) (by omega)
  refine wpS_bind (wpS_mono (wpS_forRange (I:=fun z c st''=>st''=st'∧∃ a b,c=(none,a,b)∧a≤b∧b≤t∧b - a≤t - z∧(∀ i y,i < a→(arrOf st')[lo + i]?=some y→o.le y x)∧(∀ i y,b≤i→i < t→(arrOf st')[lo + i]?=some y→o.b x y=true))
   (Q:=fun c st''=>st''=st'∧∃ a,c=(none,a,a)∧a≤t∧(∀ i y,i < a→(arrOf st')[lo + i]?=some y→o.le y x)∧(∀ i y,a≤i→i < t→(arrOf st')[lo + i]?=some y→o.b x y=true)) ?istep ?ifin ⟨rfl,0,t,rfl,by omega,by omega,by omega,fun i y hi=>by omega,fun i y p q=>by omega⟩) ?ipost)
  case ifin =>
   rintro c st'' ⟨rfl,a,b,rfl,h3,h4,h5,a1,a2⟩
   have:a=b:=by omega
   subst this
   exact ⟨rfl,a,rfl,h4,a1,a2⟩
  case istep =>
   rintro z c st'' _ hz ⟨rfl,a,b,rfl,h3,h4,h5,a1,a2⟩
   dsimp only
   by_cases hge:a ≥ b
   ·rw [if_pos hge]
    have:a=b:=by omega
    subst this
    exact wpS_pure ⟨rfl,a,rfl,h4,a1,a2⟩
   ·rw [if_neg hge]
    obtain ⟨y,ey⟩:=at_lt (u:=arrOf st'') (p:=lo + (a + b) / 2) (by omega)
    refine wpS_bind (wpS_ltA hk' ga' ex ey ?_)
    cases hb:o.b x y with
    | true =>
     refine wpS_pure ⟨rfl,a,(a + b) / 2,rfl,by omega,by omega,by omega,a1,fun i y' hi hi2 ey'=>?_⟩
     exact o.b_le hb (hU _ _ y y' (by omega) (by omega) (by omega) ey ey')
    | false =>
     refine wpS_pure ⟨rfl,(a + b) / 2 + 1,b,rfl,by omega,by omega,by omega,fun i y' hi ey'=>?_,a2⟩
     exact o.le_trans (hU _ _ y' y (by omega) (by omega) (by omega) ey' ey) (o.le_of_nb hb)
  case ipost =>
   rintro c st'' ⟨rfl,a,rfl,h3,a1,a2⟩
   show wpS _ _ _ _ (do moveDown' (lo + t) (lo + a); pure (ForInStep.yield (none,()))) _ _
   rw [moveDown'_eq]
   have hb:=getElem?_bubble (xs:=arrOf st'') (src:=lo + t) (by omega) (lo + t - (lo + a)) (by omega)
   rw [show lo + t - (lo + t - (lo + a))=lo + a by omega] at hb
   refine wpS_bind (wpS_modify (wpS_pure ⟨rfl,hA.arr (bubble_perm _ _ _) fun j hj=>?_,?_⟩))
   ·rw [hb j,if_neg (by omega),if_neg (by omega)]
   ·rw [show min (t + 1) n=t + 1 by omega]
    intro i j p q h5 h6 h7 ep eq
    have ep':(bubble (arrOf st'') (lo + t) (lo + t - (lo + a)))[i]?=some p:=ep
    have eq':(bubble (arrOf st'') (lo + t) (lo + t - (lo + a)))[j]?=some q:=eq
    rw [hb i] at ep'
    rw [hb j] at eq'
    by_cases c1:i=lo + a
    ·rw [if_pos c1] at ep'
     rw [ex] at ep'
     cases ep'
     by_cases c2:j=lo + a
     ·rw [if_pos c2,ex] at eq'
      cases eq'
      exact o.le_refl _
     ·rw [if_neg c2,if_pos (by omega)] at eq'
      exact o.le_of_b (a2 (j - 1 - lo) q (by omega) (by omega) (by rw [show lo + (j - 1 - lo)=j - 1 by omega]; exact eq'))
    ·rw [if_neg c1] at ep'
     by_cases c3:lo + a < i∧i≤lo + t
     ·rw [if_pos c3] at ep'
      rw [if_neg (by omega),if_pos (by omega)] at eq'
      exact hU _ _ p q (by omega) (by omega) (by omega) ep' eq'
     ·rw [if_neg c3] at ep'
      by_cases c2:j=lo + a
      ·rw [if_pos c2,ex] at eq'
       cases eq'
       exact a1 (i - lo) p (by omega) (by rw [show lo + (i - lo)=i by omega]; exact ep')
      ·rw [if_neg c2] at eq'
       by_cases c4:lo + a < j∧j≤lo + t
       ·rw [if_pos c4] at eq'
        exact hU _ _ p q (by omega) (by omega) (by omega) ep' eq'
       ·rw [if_neg c4] at eq'
        exact hU _ _ p q (by omega) (by omega) (by omega) ep' eq'
def crun:Nat→Nat→StateT SortSt Sem (Option Nat):=sortPriv% PySem.Builtin.countRun
theorem crun_eq (lo left:Nat):crun lo left=(do
  let mut n:=1
  for _ in [1:left] do
   let some less ← ltAt' (lo + n) (lo + n - 1) | return none
   if less then break
   n:=n + 1
  if n == left then return some n
  if n > 1 then
   let some rose ← ltAt' lo (lo + n - 1) | return none
   if rose then return some n
   reverseSlice' lo (lo + n)
  rule "list.sort.descending-run"
  n:=n + 1
  let mut same:=0
  for _ in [n:left] do
   let some less ← ltAt' (lo + n) (lo + n - 1) | return none
   if less then
    if same > 0 then reverseSlice' (lo + n - (same + 1)) (lo + n)
    same:=0
   else
    let some more ← ltAt' (lo + n - 1) (lo + n) | return none
    if more then break
    same:=same + 1
   n:=n + 1
  if same > 0 then reverseSlice' (lo + n - (same + 1)) (lo + n)
  reverseSlice' lo (lo + n)
  for _ in [n:left] do
   let some less ← ltAt' (lo + n) (lo + n - 1) | return none
   if less then break
   n:=n + 1
  return some n):=rfl
end
section
def cr3 (lo left n:Nat):StateT SortSt Sem (Option Nat):=do
 let mut n:=n
 for _ in [n:left] do
  let some less ← ltAt' (lo + n) (lo + n - 1) | return none
  if less then break
  n:=n + 1
 return some n
def cr2b (lo left n:Nat):StateT SortSt Sem (Option Nat):=do
 reverseSlice' lo (lo + n)
 cr3 lo left n
def cr2a (lo left n same:Nat):StateT SortSt Sem (Option Nat) :=
 if same > 0 then do
  reverseSlice' (lo + n - (same + 1)) (lo + n)
  cr2b lo left n
 else cr2b lo left n
abbrev CT:=Option (Option Nat)×Nat×Nat
def cr2s (lo:Nat) (t:CT):StateT SortSt Sem (ForInStep CT):=do
 match ← ltAt' (lo + t.2.1) (lo + t.2.1 - 1) with
 | some less =>
  if less then
   if t.2.2 > 0 then do
    reverseSlice' (lo + t.2.1 - (t.2.2 + 1)) (lo + t.2.1)
    pure (.yield (none,t.2.1 + 1,0))
   else pure (.yield (none,t.2.1 + 1,0))
  else do
   match ← ltAt' (lo + t.2.1 - 1) (lo + t.2.1) with
   | some more=>if more then pure (.done (none,t.2.1,t.2.2)) else pure (.yield (none,t.2.1 + 1,t.2.2 + 1))
   | _=>pure (.done (some none,t.2.1,t.2.2))
 | _=>pure (.done (some none,t.2.1,t.2.2))
def cr2 (lo left n:Nat):StateT SortSt Sem (Option Nat):=do
 rule "list.sort.descending-run"
 let t ← forIn [n + 1:left] ((none,n + 1,0):CT) (fun _ t=>cr2s lo t)
 match t.1 with
 | some z=>pure z
 | none=>cr2a lo left t.2.1 t.2.2
def cr1 (lo left n:Nat):StateT SortSt Sem (Option Nat) :=
 if n == left then pure (some n)
 else if n > 1 then do
  match ← ltAt' lo (lo + n - 1) with
  | some rose=>if rose then pure (some n) else do
   reverseSlice' lo (lo + n)
   cr2 lo left n
  | _=>pure none
 else cr2 lo left n
theorem crun_fac (lo left:Nat):crun lo left=(do
  let t ← forIn [1:left] ((none,1):Option (Option Nat)×Nat) (fun _ t=>do
   match ← ltAt' (lo + t.2) (lo + t.2 - 1) with
   | some less=>if less then pure (.done (none,t.2)) else pure (.yield (none,t.2 + 1))
   | _=>pure (.done (some none,t.2)))
  match t.1 with
  | some z=>pure z
  | none=>cr1 lo left t.2):=by
 rw [crun_eq]
 dsimp only [cr1,cr2,cr2s,cr2a,cr2b,cr3]
 refine bind2 (congrArg (forIn _ _) (funext fun x=>funext fun t=>?_)) (funext fun t=>?_)
 ·refine bind_congr fun z=>?_
  cases z <;> with_reducible rfl
 ·obtain ⟨z,n⟩:=t
  cases z with
  | some z=>with_reducible rfl
  | none =>
   dsimp only
   refine ite_congr rfl (fun _=>rfl) fun _=>ite_congr rfl (fun _=>?_) (fun _=>?_)
   ·refine bind_congr fun z=>?_
    cases z with
    | none=>with_reducible rfl
    | some z =>
     dsimp only
     refine ite_congr rfl (fun _=>rfl) fun _=>bind_congr fun _=>bind_congr fun _=>?_
     refine bind2 (congrArg (forIn _ _) (funext fun x=>funext fun t=>?_)) (funext fun t=>?_)
     ·refine bind_congr fun z=>?_
      cases z with
      | none=>with_reducible rfl
      | some z =>
       first
        | (dsimp only; done)
        | (dsimp only; refine ite_congr rfl (fun _=>rfl) fun _=>bind_congr fun z=>?_; cases z <;> first | with_reducible rfl | rfl)
     ·obtain ⟨z,t⟩:=t
      cases z <;> first | with_reducible rfl | rfl
   ·refine bind_congr fun _=>?_
    refine bind2 (congrArg (forIn _ _) (funext fun x=>funext fun t=>?_)) (funext fun t=>?_)
    ·refine bind_congr fun z=>?_
     cases z with
     | none=>with_reducible rfl
     | some z =>
      first
       | (dsimp only; done)
       | (dsimp only; refine ite_congr rfl (fun _=>rfl) fun _=>bind_congr fun z=>?_; cases z <;> first | with_reducible rfl | rfl)
    ·obtain ⟨z,t⟩:=t
     cases z <;> first | with_reducible rfl | rfl
end
section
variable {M:Model} {A:Around} {E:Value→Shared→Prop} {s:Shared} {kd:SortKind} {o:Ord M A E s kd}
def Ord.dn (o:Ord M A E s kd) (xs:Array Keyed) (lo hi:Nat):Prop:=∀ i j x y,lo≤i→i≤j→j < hi→xs[i]?=some x→xs[j]?=some y→o.le y x
def Ord.eqs (o:Ord M A E s kd) (xs:Array Keyed) (a b:Nat):Prop:=∀ i j x y,a≤i→i < b→a≤j→j < b→xs[i]?=some x→xs[j]?=some y→o.le x y
abbrev rv (xs:Array Keyed) (i j:Nat):Array Keyed:=mirror xs i j ((j - i) / 2)
theorem rv_at {xs:Array Keyed} {i j:Nat} (h:j≤xs.size) (k:Nat):(rv xs i j)[k]?=if i≤k∧k < j then xs[i + j - 1 - k]? else xs[k]?:=getElem?_mirror_all h k
theorem up_rv {xs:Array Keyed} {lo hi:Nat} (h:hi≤xs.size) (d:o.dn xs lo hi):o.up (rv xs lo hi) lo hi:=fun i j x y h1 h2 h3 ex ey=>by
 rw [rv_at h,if_pos (by omega)] at ex ey
 exact d _ _ y x (by omega) (by omega) (by omega) ey ex
theorem dn_rv {xs:Array Keyed} {lo a hi:Nat} (h:hi≤xs.size) (ha:lo≤a) (d:o.dn xs lo hi) (q:o.eqs xs a hi):o.dn (rv xs a hi) lo hi:=fun i j x y h1 h2 h3 ex ey=>by
 rw [rv_at h] at ex ey
 by_cases c1:a≤i
 ·rw [if_pos (by omega)] at ex ey
  exact q _ _ y x (by omega) (by omega) (by omega) (by omega) ey ex
 ·rw [if_neg (by omega)] at ex
  by_cases c2:a≤j
  ·rw [if_pos (by omega)] at ey
   exact d _ _ x y h1 (by omega) (by omega) ex ey
  ·rw [if_neg (by omega)] at ey
   exact d _ _ x y h1 h2 h3 ex ey
theorem wpS_rev {st:SortSt} {i j:Nat} {Q:Unit→SortSt→Prop} (h:Q () (setArr st (rv (arrOf st) i j))):wpS M A E s (reverseSlice' i j) Q st:=by
 rw [reverseSlice'_eq]; exact wpS_modify h
theorem As.rv {lo a b:Nat} {st st':SortSt} (h:As lo st st') (hb:b≤(arrOf st').size) (ha:lo≤a):As lo st (setArr st' (BF.rv (arrOf st') a b)) :=
 h.arr (mirror_perm _ _ _ _) fun j hj=>by rw [rv_at hb,if_neg (by omega)]
variable {st st':SortSt} {lo left n:Nat} {Q:Option Nat→SortSt→Prop}
theorem up_more {xs:Array Keyed} (h1:1≤n) (u:o.up xs lo (lo + n)) {x y:Keyed} (ex:xs[lo + n]?=some x) (ey:xs[lo + n - 1]?=some y) (hle:o.le y x):o.up xs lo (lo + (n + 1)):=fun i j a b h2 h3 h4 ea eb=>by
 by_cases c:j=lo + n
 ·subst c
  rw [ex] at eb
  cases eb
  by_cases c2:i=lo + n
  ·subst c2
   rw [ex] at ea
   cases ea
   exact o.le_refl _
  ·exact o.le_trans (u i (lo + n - 1) a y h2 (by omega) (by omega) ea ey) hle
 ·exact u i j a b h2 h3 (by omega) ea eb
theorem wpS_cr3 (hk:kindOf st=kd) (ga:o.all (arrOf st)) (hA:As lo st st') (hsz:lo + left≤(arrOf st).size) (h1:1≤n) (hn:n≤left) (u:o.up (arrOf st') lo (lo + n))
  (h:∀ m st2,As lo st st2→1≤m→m≤left→o.up (arrOf st2) lo (lo + m)→Q (some m) st2):wpS M A E s (cr3 lo left n) Q st':=by
 unfold cr3
 have sz:=hA.size
 refine wpS_bind (wpS_mono (wpS_forRange (I:=fun t c st2=>st2=st'∧c=(none,t)∧t≤left∧1≤t∧o.up (arrOf st') lo (lo + t)) (Q:=fun c st2=>st2=st'∧∃ t,c=(none,t)∧t≤left∧1≤t∧o.up (arrOf st') lo (lo + t)) ?step ?fin ⟨rfl,rfl,hn,h1,u⟩) ?post)
 case fin =>
  rintro c st2 ⟨rfl,rfl,h2,h3,h4⟩
  exact ⟨rfl,_,rfl,h2,h3,h4⟩
 case post =>
  rintro c st2 ⟨rfl,t,rfl,h2,h3,h4⟩
  exact wpS_pure (h t _ hA h3 h2 h4)
 case step =>
  rintro t c st2 _ ht ⟨rfl,rfl,h2,h3,h4⟩
  obtain ⟨x,ex⟩:=at_lt (u:=arrOf st2) (p:=lo + t) (by omega)
  obtain ⟨y,ey⟩:=at_lt (u:=arrOf st2) (p:=lo + t - 1) (by omega)
  dsimp only
  refine wpS_bind (wpS_ltA (hA.k.trans hk) (hA.all ga) ex ey ?_)
  cases hb:o.b x y with
  | true=>exact wpS_pure ⟨rfl,t,rfl,h2,h3,h4⟩
  | false=>exact wpS_pure ⟨rfl,rfl,by omega,by omega,up_more h3 h4 ex ey (o.le_of_nb hb)⟩
theorem wpS_cr2b (hk:kindOf st=kd) (ga:o.all (arrOf st)) (hA:As lo st st') (hsz:lo + left≤(arrOf st).size) (h1:1≤n) (hn:n≤left) (d:o.dn (arrOf st') lo (lo + n))
  (h:∀ m st2,As lo st st2→1≤m→m≤left→o.up (arrOf st2) lo (lo + m)→Q (some m) st2):wpS M A E s (cr2b lo left n) Q st':=by
 unfold cr2b
 have sz:=hA.size
 exact wpS_bind (wpS_rev (wpS_cr3 hk ga (hA.rv (by omega) (Nat.le_refl _)) hsz h1 hn (up_rv (by omega) d) h))
theorem wpS_cr2a {same:Nat} (hk:kindOf st=kd) (ga:o.all (arrOf st)) (hA:As lo st st') (hsz:lo + left≤(arrOf st).size) (hs:same + 1≤n) (hn:n≤left) (d:o.dn (arrOf st') lo (lo + n)) (q:o.eqs (arrOf st') (lo + n - (same + 1)) (lo + n))
  (h:∀ m st2,As lo st st2→1≤m→m≤left→o.up (arrOf st2) lo (lo + m)→Q (some m) st2):wpS M A E s (cr2a lo left n same) Q st':=by
 unfold cr2a
 have sz:=hA.size
 split
 ·exact wpS_bind (wpS_rev (wpS_cr2b hk ga (hA.rv (by omega) (by omega)) hsz (by omega) hn (dn_rv (by omega) (by omega) d q) h))
 ·exact wpS_cr2b hk ga hA hsz (by omega) hn d h
theorem dn_more {xs:Array Keyed} (h1:1≤n) (d:o.dn xs lo (lo + n)) {x y:Keyed} (ex:xs[lo + n]?=some x) (ey:xs[lo + n - 1]?=some y) (hle:o.le x y):o.dn xs lo (lo + (n + 1)):=fun i j a b h2 h3 h4 ea eb=>by
 by_cases c:j=lo + n
 ·subst c
  rw [ex] at eb
  cases eb
  by_cases c2:i=lo + n
  ·subst c2
   rw [ex] at ea
   cases ea
   exact o.le_refl _
  ·exact o.le_trans hle (d i (lo + n - 1) a y h2 (by omega) (by omega) ea ey)
 ·exact d i j a b h2 h3 (by omega) ea eb
theorem wpS_cr2 (hk:kindOf st=kd) (ga:o.all (arrOf st)) (hA:As lo st st') (hsz:lo + left≤(arrOf st).size) (h1:1≤n) (hn:n + 1≤left) (d:o.dn (arrOf st') lo (lo + (n + 1)))
  (h:∀ m st2,As lo st st2→1≤m→m≤left→o.up (arrOf st2) lo (lo + m)→Q (some m) st2):wpS M A E s (cr2 lo left n) Q st':=by
 unfold cr2
 refine wpS_bind (wpS_lift (wpAny_rule ⟨rfl,?_⟩))
 refine wpS_bind (wpS_mono (wpS_forRange (I:=fun t c st2=>As lo st st2∧∃ same,c=(none,t,same)∧t≤left∧same + 1≤t∧o.dn (arrOf st2) lo (lo + t)∧o.eqs (arrOf st2) (lo + t - (same + 1)) (lo + t))
  (Q:=fun c st2=>As lo st st2∧∃ t same,c=(none,t,same)∧t≤left∧same + 1≤t∧o.dn (arrOf st2) lo (lo + t)∧o.eqs (arrOf st2) (lo + t - (same + 1)) (lo + t)) ?step ?fin ⟨hA,0,rfl,hn,by omega,d,?init⟩) ?post)
 case init =>
  intro i j x y h2 h3 h4 h5 ex ey
  have:i=j:=by omega
  subst this
  rw [ex] at ey
  cases ey
  exact o.le_refl _
 case fin =>
  rintro c st2 ⟨hA2,same,rfl,h2,h3,h4,h5⟩
  exact ⟨hA2,_,same,rfl,h2,h3,h4,h5⟩
 case post =>
  rintro c st2 ⟨hA2,t,same,rfl,h2,h3,h4,h5⟩
  exact wpS_cr2a hk ga hA2 hsz h3 h2 h4 h5 h
 case step =>
  rintro t c st2 ht0 ht ⟨hA2,same,rfl,h2,h3,h4,h5⟩
  have sz:=hA2.size
  obtain ⟨x,ex⟩:=at_lt (u:=arrOf st2) (p:=lo + t) (by omega)
  obtain ⟨y,ey⟩:=at_lt (u:=arrOf st2) (p:=lo + t - 1) (by omega)
  unfold cr2s
  dsimp only
  refine wpS_bind (wpS_ltA (hA2.k.trans hk) (hA2.all ga) ex ey ?_)
  have one:∀ (zs:Array Keyed),o.eqs zs (lo + (t + 1) - (0 + 1)) (lo + (t + 1)):=fun zs i j p q a1 a2 a3 a4 ep eq=>by
   have:i=j:=by omega
   subst this
   rw [ep] at eq
   cases eq
   exact o.le_refl _
  cases hb:o.b x y with
  | true =>
   dsimp only
   rw [if_pos rfl]
   split
   ·refine wpS_bind (wpS_rev (wpS_pure ⟨hA2.rv (by omega) (by omega),0,rfl,by omega,by omega,?_,one _⟩))
    have ex':(rv (arrOf st2) (lo + t - (same + 1)) (lo + t))[lo + t]?=some x:=by rw [rv_at (by omega),if_neg (by omega)]; exact ex
    obtain ⟨y',ey'⟩:=at_lt (u:=rv (arrOf st2) (lo + t - (same + 1)) (lo + t)) (p:=lo + t - 1) (by rw [mirror_size]; omega)
    refine dn_more (by omega) (dn_rv (by omega) (by omega) h4 h5) ex' ey' ?_
    rw [rv_at (by omega),if_pos (by omega)] at ey'
    exact o.le_trans (o.le_of_b hb) (h5 _ _ y y' (by omega) (by omega) (by omega) (by omega) ey ey')
   ·exact wpS_pure ⟨hA2,0,rfl,by omega,by omega,dn_more (by omega) h4 ex ey (o.le_of_b hb),one _⟩
  | false =>
   dsimp only
   rw [if_neg Bool.false_ne_true]
   refine wpS_bind (wpS_ltA (hA2.k.trans hk) (hA2.all ga) ey ex ?_)
   cases hc:o.b y x with
   | true=>exact wpS_pure ⟨hA2,t,same,rfl,h2,h3,h4,h5⟩
   | false =>
    refine wpS_pure ⟨hA2,same + 1,rfl,by omega,by omega,dn_more (by omega) h4 ex ey (o.le_of_nb hc),fun i j p q a1 a2 a3 a4 ep eq=>?_⟩
    have lx:∀ i p,lo + t - (same + 1)≤i→i < lo + (t + 1)→(arrOf st2)[i]?=some p→o.le p x∧o.le x p:=fun i p b1 b2 e=>by
     by_cases c:i=lo + t
     ·subst c
      rw [ex] at e
      cases e
      exact ⟨o.le_refl _,o.le_refl _⟩
     ·exact ⟨o.le_trans (h5 _ _ p y b1 (by omega) (by omega) (by omega) e ey) (o.le_of_nb hb),o.le_trans (o.le_of_nb hc) (h5 _ _ y p (by omega) (by omega) b1 (by omega) ey e)⟩
    exact o.le_trans (lx i p (by omega) (by omega) ep).1 (lx j q (by omega) (by omega) eq).2
theorem wpS_crun (hk:kindOf st=kd) (ga:o.all (arrOf st)) (hsz:lo + left≤(arrOf st).size) (hl:1≤left)
  (h:∀ m st2,As lo st st2→1≤m→m≤left→o.up (arrOf st2) lo (lo + m)→Q (some m) st2):wpS M A E s (crun lo left) Q st:=by
 rw [crun_fac]
 have at0:∀ zs:Array Keyed,o.up zs lo (lo + 1):=fun zs i j p q a1 a2 a3 ep eq=>by
  have:i=j:=by omega
  subst this
  rw [ep] at eq
  cases eq
  exact o.le_refl _
 refine wpS_bind (wpS_mono (wpS_forRange (I:=fun t c st2=>st2=st∧c=(none,t)∧t≤left∧1≤t∧o.up (arrOf st) lo (lo + t))
  (Q:=fun c st2=>st2=st∧∃ t,c=(none,t)∧t≤left∧1≤t∧o.up (arrOf st) lo (lo + t)∧(t=left∨∃ x y,(arrOf st)[lo + t]?=some x∧(arrOf st)[lo + t - 1]?=some y∧o.b x y=true)) ?step ?fin ⟨rfl,rfl,hl,by omega,at0 _⟩) ?post)
 case fin =>
  rintro c st2 ⟨rfl,rfl,h2,h3,h4⟩
  exact ⟨rfl,_,rfl,h2,h3,h4,.inl (by omega)⟩
 case step =>
  rintro t c st2 _ ht ⟨rfl,rfl,h2,h3,h4⟩
  obtain ⟨x,ex⟩:=at_lt (u:=arrOf st2) (p:=lo + t) (by omega)
  obtain ⟨y,ey⟩:=at_lt (u:=arrOf st2) (p:=lo + t - 1) (by omega)
  dsimp only
  refine wpS_bind (wpS_ltA hk ga ex ey ?_)
  cases hb:o.b x y with
  | true=>exact wpS_pure ⟨rfl,t,rfl,h2,h3,h4,.inr ⟨x,y,ex,ey,hb⟩⟩
  | false=>exact wpS_pure ⟨rfl,rfl,by omega,by omega,up_more h3 h4 ex ey (o.le_of_nb hb)⟩
 case post =>
  rintro c st2 ⟨rfl,t,rfl,h2,h3,h4,h5⟩
  dsimp only
  unfold cr1
  by_cases c1:t=left
  ·rw [if_pos (by simpa using c1)]
   exact wpS_pure (h t _ (.refl _ _) h3 h2 h4)
  ·rw [if_neg (by simpa using c1)]
   rcases h5 with h5 | ⟨x,y,ex,ey,hb⟩
   ·exact absurd h5 c1
   ·split
    ·obtain ⟨z,ez⟩:=at_lt (u:=arrOf st2) (p:=lo) (by omega)
     refine wpS_bind (wpS_ltA hk ga ez ey ?_)
     cases hr:o.b z y with
     | true=>exact wpS_pure (h t _ (.refl _ _) h3 h2 h4)
     | false =>
      refine wpS_bind (wpS_rev (wpS_cr2 hk ga ((As.refl lo st2).rv (by omega) (Nat.le_refl _)) hsz h3 (by omega) ?_ h))
      have all:∀ i p,lo≤i→i < lo + t→(arrOf st2)[i]?=some p→o.le p y∧o.le y p:=fun i p b1 b2 e =>
       ⟨h4 i (lo + t - 1) p y b1 (by omega) (by omega) e ey,o.le_trans (o.le_of_nb hr) (h4 lo i z p (Nat.le_refl _) b1 b2 ez e)⟩
      have q:o.dn (rv (arrOf st2) lo (lo + t)) lo (lo + t):=fun i j p q a1 a2 a3 ep eq=>by
       rw [rv_at (by omega),if_pos (by omega)] at ep eq
       exact o.le_trans (all _ q (by omega) (by omega) eq).1 (all _ p (by omega) (by omega) ep).2
      have ex':(rv (arrOf st2) lo (lo + t))[lo + t]?=some x:=by rw [rv_at (by omega),if_neg (by omega)]; exact ex
      obtain ⟨y',ey'⟩:=at_lt (u:=rv (arrOf st2) lo (lo + t)) (p:=lo + t - 1) (by rw [mirror_size]; omega)
      refine dn_more h3 q ex' ey' ?_
      rw [rv_at (by omega),if_pos (by omega)] at ey'
      exact o.le_trans (o.le_of_b hb) (all _ y' (by omega) (by omega) ey').2
    ·have:t=1:=by omega
     subst this
     refine wpS_cr2 hk ga (.refl _ _) hsz (Nat.le_refl _) (by omega) (dn_more (Nat.le_refl _) ?_ ex ey (o.le_of_b hb)) h
     intro i j p q a1 a2 a3 ep eq
     have:i=j:=by omega
     subst this
     rw [ep] at eq
     cases eq
     exact o.le_refl _
end
section
def mrun:Nat→Nat→Nat→Nat:=sortPriv% PySem.Builtin.minRun
def pwr:Nat→Nat→Nat→Nat→Nat:=sortPriv% PySem.Builtin.power
def sruns:StateT SortSt Sem Unit:=sortPriv% PySem.Builtin.sortRuns
abbrev setPend (st:SortSt) (p:Array (Nat×Nat×Nat)):SortSt:=SortSt.mk' (kindOf st) (arrOf st) p (gallopOf st) (failedOf st)
theorem sruns_eq:sruns=(do
  let all:=(arrOf (← get)).size
  let least:=mrun all all 0
  let mut at_:=0
  for _ in [0:all] do
   if at_ ≥ all then break
   let some met ← crun at_ (all - at_) | return
   let mut n:=met
   if n < least then
    rule "list.sort.binary-insertion"
    let most:=min (all - at_) least
    if !(← bsort at_ most n) then return
    n:=most
   if let some (s1,n1,_):=(pendingOf (← get)).back? then
    let w:=pwr all (2 * s1 + n1) (2 * s1 + n1 + n1 + n) all
    for _ in [0:all] do
     let p:=pendingOf (← get)
     let some (_,_,older):=(if p.size > 1 then p[p.size - 2]? else none) | break
     if older≤w then break
     if !(← mAt (p.size - 2)) then return
    modify fun st=>setPend st ((pendingOf st).modify ((pendingOf st).size - 1) fun (x,y,_)=>(x,y,w))
   modify fun st=>setPend st ((pendingOf st).push (at_,n,0))
   at_:=at_ + n
  for _ in [0:all] do
   let p:=pendingOf (← get)
   if p.size≤1 then break
   let i:=p.size - 2
   let before:=if i > 0 then p[i - 1]?.map (·.2.1) else none
   let i:=if before.any (· < (p[i + 1]?.elim 0 (·.2.1))) then i - 1 else i
   if !(← mAt i) then return):=rfl
def srM (w:Nat):StateT SortSt Sem (ForInStep (Option Unit×Unit)):=do
 let st ← get
 match (if (pendingOf st).size > 1 then (pendingOf st)[(pendingOf st).size - 2]? else none) with
 | some (_,_,older) =>
  if older≤w then pure (.done (none,()))
  else do
   let b ← mAt ((pendingOf st).size - 2)
   if !b then pure (.done (some (),())) else pure (.yield (none,()))
 | _=>pure (.done (none,()))
def srP (lo n:Nat):StateT SortSt Sem (ForInStep (Option Unit×Nat)):=do
 modify fun st=>setPend st ((pendingOf st).push (lo,n,0))
 pure (.yield (none,lo + n))
def srT (all lo n:Nat):StateT SortSt Sem (ForInStep (Option Unit×Nat)):=do
 let st ← get
 match (pendingOf st).back? with
 | some (s1,n1,_)=>do
  let t ← forIn [0:all] ((none,()):Option Unit×Unit) (fun _ _=>srM (pwr all (2 * s1 + n1) (2 * s1 + n1 + n1 + n) all))
  match t.1 with
  | some r=>pure (.done (some r,lo))
  | none=>do
   modify fun st=>setPend st ((pendingOf st).modify ((pendingOf st).size - 1) fun x=>(x.1,x.2.1,pwr all (2 * s1 + n1) (2 * s1 + n1 + n1 + n) all))
   srP lo n
 | _=>srP lo n
end
section
variable {M:Model} {A:Around} {E:Value→Shared→Prop} {s:Shared} {kd:SortKind}
inductive Pend (o:Ord M A E s kd):Nat→List (Nat×Nat×Nat)→List (List Keyed)→Prop where
 | nil (n:Nat):Pend o n [] []
 | cons {n w:Nat} {R:List Keyed} {ps:List (Nat×Nat×Nat)} {Rs:List (List Keyed)} (u:R.Pairwise o.le) (h:0 < R.length) (t:Pend o (n + R.length) ps Rs):Pend o n ((n,R.length,w) :: ps) (R :: Rs)
variable {o:Ord M A E s kd}
theorem Pend.length {n:Nat} {ps:List (Nat×Nat×Nat)} {Rs:List (List Keyed)} (p:Pend o n ps Rs):ps.length=Rs.length:=by
 induction p with
 | nil=>rfl
 | cons u h t ih=>simp [ih]
theorem Pend.le {n:Nat} {ps:List (Nat×Nat×Nat)} {Rs:List (List Keyed)} (p:Pend o n ps Rs):ps.length≤Rs.flatten.length:=by
 induction p with
 | nil=>simp
 | cons u h t ih=>simp only [List.length_cons,List.flatten_cons,List.length_append]; omega
theorem Pend.snoc {n w:Nat} {ps:List (Nat×Nat×Nat)} {Rs:List (List Keyed)} (p:Pend o n ps Rs) {R:List Keyed} (u:R.Pairwise o.le) (h:0 < R.length):Pend o n (ps ++ [(n + Rs.flatten.length,R.length,w)]) (Rs ++ [R]):=by
 induction p with
 | nil n=>exact .cons u h (.nil _)
 | @cons n w' R' ps Rs u' h' t ih =>
  refine .cons u' h' ?_
  have:n + (R' :: Rs).flatten.length=n + R'.length + Rs.flatten.length:=by simp; omega
  rw [this]
  exact ih
theorem Pend.other {n:Nat} {ps:List (Nat×Nat×Nat)} {Rs:List (List Keyed)} (p:Pend o n ps Rs):∀ {ps':List (Nat×Nat×Nat)},ps'.map (fun x=>(x.1,x.2.1))=ps.map (fun x=>(x.1,x.2.1))→Pend o n ps' Rs:=by
 induction p with
 | nil n =>
  intro ps' e
  cases ps' with
  | nil=>exact .nil n
  | cons a l=>simp at e
 | @cons n w R ps Rs u h t ih =>
  intro ps' e
  cases ps' with
  | nil=>simp at e
  | cons a l =>
   obtain ⟨a1,a2,a3⟩:=a
   simp only [List.map_cons,List.cons.injEq,Prod.mk.injEq] at e
   obtain ⟨⟨rfl,rfl⟩,e2⟩:=e
   exact .cons u h (ih e2)
theorem Pend.pick {n:Nat} {ps:List (Nat×Nat×Nat)} {Rs:List (List Keyed)} (p:Pend o n ps Rs):∀ (i:Nat),i + 1 < ps.length→∃ P1 P2 Rs1 Rs2 B C w w2,P1.length=i∧ps=P1 ++ (n + Rs1.flatten.length,B.length,w) :: (n + Rs1.flatten.length + B.length,C.length,w2) :: P2 ∧
  Rs=Rs1 ++ B :: C :: Rs2∧B.Pairwise o.le∧C.Pairwise o.le∧0 < B.length∧0 < C.length∧∀ D:List Keyed,D.Pairwise o.le→D.length=B.length + C.length→Pend o n (P1 ++ (n + Rs1.flatten.length,B.length + C.length,w) :: P2) (Rs1 ++ D :: Rs2):=by
 induction p with
 | nil n=>intro i hi; simp at hi
 | @cons n w R ps Rs u h t ih =>
  intro i hi
  cases i with
  | zero =>
   cases t with
   | nil=>simp at hi
   | @cons _ w2 R2 ps2 Rs2 u2 h2 t2 =>
    refine ⟨[],ps2,[],Rs2,R,R2,w,w2,rfl,by simp,rfl,u,u2,h,h2,fun D uD lD=>?_⟩
    have t3:Pend o (n + D.length) ps2 Rs2:=by rw [lD,← Nat.add_assoc]; exact t2
    have:=Pend.cons (w:=w) uD (by omega) t3
    rw [lD] at this
    simpa using this
  | succ i =>
   simp only [List.length_cons] at hi
   obtain ⟨P1,P2,Rs1,Rs2,B,C,v,v2,e1,e2,e3,uB,uC,hB,hC,k⟩:=ih i (by omega)
   have e:n + (R :: Rs1).flatten.length=n + R.length + Rs1.flatten.length:=by simp; omega
   refine ⟨(n,R.length,w) :: P1,P2,R :: Rs1,Rs2,B,C,v,v2,by simp [e1],?_,by simp [e3],uB,uC,hB,hC,fun D uD lD=>?_⟩
   ·rw [e,e2]; rfl
   ·rw [e]
    exact .cons u h (k D uD lD)
structure SRun (o:Ord M A E s kd) (a₀:Array Keyed) (lo:Nat) (rest:List Keyed) (st:SortSt):Prop where
 k:kindOf st=kd
 f:failedOf st=none
 perm:(arrOf st).Perm a₀
 ex:∃ Rs,(arrOf st).toList=Rs.flatten ++ rest∧Rs.flatten.length=lo∧Pend o 0 (pendingOf st).toList Rs
variable {a₀:Array Keyed} {lo:Nat} {rest:List Keyed} {st:SortSt}
theorem all_perm {xs ys:Array Keyed} (p:ys.Perm xs) (ga:o.all xs):o.all ys:=fun i x e=>by
 obtain ⟨j,e2⟩:=Array.getElem?_of_mem (p.mem_iff.mp (Array.mem_of_getElem? e))
 exact ga j x e2
theorem SRun.merge (S:SRun o a₀ lo rest st) (ga:o.all a₀) {i:Nat} (hi:i + 1 < (pendingOf st).size) {Q:Bool→SortSt→Prop} (h:∀ st',SRun o a₀ lo rest st'→(pendingOf st').size + 1=(pendingOf st).size→Q true st'):wpS M A E s (mAt i) Q st:=by
 obtain ⟨Rs,e,el,p⟩:=S.ex
 obtain ⟨P1,P2,Rs1,Rs2,B,C,w,w2,e1,e2,e3,uB,uC,hB,hC,k⟩:=p.pick i (by simpa using hi)
 simp only [Nat.zero_add] at e2 k
 have ea:(arrOf st).toList=Rs1.flatten ++ B ++ C ++ (Rs2.flatten ++ rest):=by rw [e,e3]; simp
 refine wpS_mAt S.k S.f (all_perm S.perm ga) ea uB uC hB hC e2 e1.symm fun st' D hk' hf' ha' uD pD hp'=>?_
 have lD:D.length=B.length + C.length:=by rw [pD.length_eq,List.length_append]
 refine h st' ⟨hk',hf',?_,Rs1 ++ D :: Rs2,by rw [ha']; simp,?_,by rw [hp']; exact k D uD lD⟩ ?_
 ·refine Array.Perm.trans ?_ S.perm
  rw [Array.perm_iff_toList_perm,ha',ea]
  refine List.Perm.append_right _ ?_
  rw [List.append_assoc]
  exact List.Perm.append_left _ pD
 ·rw [← el,e3]
  simp [lD]
  omega
 ·have a1:=congrArg List.length hp'
  have a2:=congrArg List.length e2
  simp at a1 a2
  omega
theorem wpS_srM (S:SRun o a₀ lo rest st) (ga:o.all a₀) {w:Nat}:wpS M A E s (srM w) (fun t st'=>SRun o a₀ lo rest st'∧(t=.done (none,())∨t=.yield (none,()))) st:=by
 unfold srM
 refine wpS_bind (wpS_get ?_)
 by_cases h1:(pendingOf st).size > 1
 ·rw [if_pos h1]
  obtain ⟨x,ex⟩:∃ x,(pendingOf st)[(pendingOf st).size - 2]?=some x:=⟨(pendingOf st)[(pendingOf st).size - 2],getElem?_pos _ _ (by omega)⟩
  rw [ex]
  obtain ⟨x1,x2,x3⟩:=x
  dsimp only
  split
  ·exact wpS_pure ⟨S,.inl rfl⟩
  ·exact wpS_bind (S.merge ga (by omega) fun st' S' _=>wpS_pure ⟨S',.inr rfl⟩)
 ·rw [if_neg h1]
  exact wpS_pure ⟨S,.inl rfl⟩
theorem wpS_srP (S:SRun o a₀ lo rest st) {n:Nat} (hn:0 < n) (hr:n≤rest.length) (u:(rest.take n).Pairwise o.le):wpS M A E s (srP lo n) (fun t st'=>t=.yield (none,lo + n)∧SRun o a₀ (lo + n) (rest.drop n) st') st:=by
 unfold srP
 refine wpS_bind (wpS_modify (wpS_pure ⟨rfl,S.k,S.f,S.perm,?_⟩))
 obtain ⟨Rs,e,el,p⟩:=S.ex
 have ln:(rest.take n).length=n:=by rw [List.length_take]; omega
 refine ⟨Rs ++ [rest.take n],?_,by simp [el]; omega,?_⟩
 ·show (arrOf st).toList=_
  rw [e]
  simp
 ·have:=p.snoc (w:=0) u (by omega)
  rw [Nat.zero_add,el,ln] at this
  show Pend o 0 ((pendingOf st).push (lo,n,0)).toList _
  rw [Array.toList_push]
  exact this
theorem wpS_srT (S:SRun o a₀ lo rest st) (ga:o.all a₀) {all n:Nat} (hn:0 < n) (hr:n≤rest.length) (u:(rest.take n).Pairwise o.le):wpS M A E s (srT all lo n) (fun t st'=>t=.yield (none,lo + n)∧SRun o a₀ (lo + n) (rest.drop n) st') st:=by
 unfold srT
 refine wpS_bind (wpS_get ?_)
 cases hb:(pendingOf st).back? with
 | none=>exact wpS_srP S hn hr u
 | some x =>
  obtain ⟨s1,n1,w1⟩:=x
  dsimp only
  refine wpS_bind (wpS_mono (wpS_forRange (I:=fun t c st2=>c=(none,())∧SRun o a₀ lo rest st2) (Q:=fun c st2=>c=(none,())∧SRun o a₀ lo rest st2) ?step (fun c st2 hh=>hh) ⟨rfl,S⟩) ?post)
  case step =>
   rintro t c st2 _ _ ⟨rfl,S2⟩
   refine wpS_mono (wpS_srM S2 ga) fun t st3 ⟨S3,ht⟩=>?_
   rcases ht with rfl | rfl
   ·exact ⟨rfl,S3⟩
   ·exact ⟨rfl,S3⟩
  case post =>
   rintro c st2 ⟨rfl,S2⟩
   dsimp only
   refine wpS_bind (wpS_modify ?_)
   refine wpS_srP (lo:=lo) (rest:=rest) (SRun.mk (by exact S2.k) (by exact S2.f) (by exact S2.perm) ?_) hn hr u
   obtain ⟨Rs,e,el,p⟩:=S2.ex
   refine ⟨Rs,e,el,p.other ?_⟩
   show (((pendingOf st2).modify ((pendingOf st2).size - 1) _).toList).map _=_
   rw [Array.toList_modify]
   refine List.ext_getElem? fun i=>?_
   rw [List.getElem?_map,List.getElem?_map,List.getElem?_modify]
   split
   ·cases (pendingOf st2).toList[i]? <;> rfl
   ·cases (pendingOf st2).toList[i]? <;> rfl
end
section
variable {M:Model} {A:Around} {E:Value→Shared→Prop} {s:Shared} {kd:SortKind} {o:Ord M A E s kd} {a₀:Array Keyed} {lo:Nat} {rest:List Keyed} {st st':SortSt}
theorem SRun.as (S:SRun o a₀ lo rest st) (h:As lo st st'):SRun o a₀ lo ((arrOf st').toList.drop lo) st'∧lo + ((arrOf st').toList.drop lo).length=a₀.size:=by
 obtain ⟨Rs,e,el,p⟩:=S.ex
 have sz:(arrOf st').size=a₀.size:=(h.perm.trans S.perm).size_eq
 have sz0:(arrOf st).size=a₀.size:=S.perm.size_eq
 have le:lo≤a₀.size:=by
  have:=size_mid e
  rw [List.length_append] at this
  omega
 have et:(arrOf st').toList.take lo=Rs.flatten:=by
  have:(arrOf st').toList.take lo=(arrOf st).toList.take lo:=by
   refine List.ext_getElem? fun i=>?_
   rw [List.getElem?_take,List.getElem?_take]
   split
   ·have:=h.pre i (by assumption)
    simpa using this
   ·rfl
  rw [this,e,← el,List.take_left]
 refine ⟨⟨h.k.trans S.k,h.f.trans S.f,h.perm.trans S.perm,Rs,?_,el,by rw [h.p]; exact p⟩,?_⟩
 ·rw [← et,List.take_append_drop]
 ·rw [List.length_drop,Array.length_toList,sz]; omega
theorem up_take {xs:Array Keyed} {m:Nat} (h:o.up xs lo (lo + m)):((xs.toList.drop lo).take m).Pairwise o.le:=by
 rw [List.pairwise_iff_getElem]
 intro i j hi hj hij
 have bi:i < m:=by rw [List.length_take] at hi; omega
 have bj:j < m:=by rw [List.length_take] at hj; omega
 have ei:xs[lo + i]?=some ((xs.toList.drop lo).take m)[i]:=by
  have:=List.getElem?_eq_getElem hi
  rw [List.getElem?_take,if_pos bi,List.getElem?_drop] at this
  simpa using this
 have ej:xs[lo + j]?=some ((xs.toList.drop lo).take m)[j]:=by
  have:=List.getElem?_eq_getElem hj
  rw [List.getElem?_take,if_pos bj,List.getElem?_drop] at this
  simpa using this
 exact h _ _ _ _ (by omega) (by omega) (by omega) ei ej
theorem pick_ok (c:Prop) [Decidable c] (k:Nat) (h:1 < k):(if c then k - 2 - 1 else k - 2) + 1 < k:=by split <;> omega
theorem wpS_conv {α:Type} {m m':StateT SortSt Sem α} {Q:α→SortSt→Prop} (e:m=m') (h:wpS M A E s m Q st):wpS M A E s m' Q st:=e ▸ h
theorem wpS_sruns {Q:Unit→SortSt→Prop} (hk:kindOf st=kd) (hf:failedOf st=none) (ga:o.all (arrOf st)) (hp:pendingOf st=#[])
  (h:∀ st',failedOf st'=none→(arrOf st').Perm (arrOf st)→(arrOf st').toList.Pairwise o.le→Q () st'):wpS M A E s sruns Q st:=by
 rw [sruns_eq]
 refine wpS_bind (wpS_get ?_)
 dsimp only
 have S0:SRun o (arrOf st) 0 (arrOf st).toList st:=⟨hk,hf,.refl _,[],rfl,rfl,by rw [hp]; exact .nil 0⟩
 have z0:0 + (arrOf st).toList.length=(arrOf st).size:=by simp
 refine wpS_bind (wpS_mono (wpS_forRange (I:=fun t c st2=>∃ lo rest,c=(none,lo)∧SRun o (arrOf st) lo rest st2∧t≤lo∧lo + rest.length=(arrOf st).size)
  (Q:=fun c st2=>c=(none,(arrOf st).size)∧SRun o (arrOf st) (arrOf st).size [] st2) ?step ?fin ⟨0,_,rfl,S0,Nat.le_refl _,z0⟩) ?post)
 case fin =>
  rintro c st2 ⟨lo,rest,rfl,S,h1,h2⟩
  have h3:rest.length=0:=by omega
  have e1:rest=[]:=List.eq_nil_of_length_eq_zero h3
  subst e1
  have e2:lo=(arrOf st).size:=by simpa using h2
  subst e2
  exact ⟨rfl,S⟩
 case step =>
  rintro t c st2 _ ht ⟨lo,rest,rfl,S,h1,h2⟩
  dsimp only
  by_cases hge:lo ≥ (arrOf st).size
  ·rw [if_pos hge]
   have h3:rest.length=0:=by omega
   have e1:rest=[]:=List.eq_nil_of_length_eq_zero h3
   subst e1
   have e2:lo=(arrOf st).size:=by simpa using h2
   subst e2
   exact wpS_pure ⟨rfl,S⟩
  ·rw [if_neg hge]
   have ga2:=all_perm S.perm ga
   have sz2:(arrOf st2).size=(arrOf st).size:=S.perm.size_eq
   refine wpS_bind (wpS_crun S.k ga2 (by omega) (by omega) fun m st3 A3 m1 m2 u3=>?_)
   obtain ⟨S3,l3⟩:=S.as A3
   have ga3:=all_perm S3.perm ga
   have sz3:(arrOf st3).size=(arrOf st).size:=S3.perm.size_eq
   have tail:∀ (n:Nat) (st4:SortSt) (Q':ForInStep (Option Unit×Nat)→SortSt→Prop),SRun o (arrOf st) lo ((arrOf st4).toList.drop lo) st4→lo + ((arrOf st4).toList.drop lo).length=(arrOf st).size→0 < n→n≤(arrOf st).size - lo→o.up (arrOf st4) lo (lo + n) →
     (∀ st',(∃ lo' rest,((none,lo + n):Option Unit×Nat)=(none,lo')∧SRun o (arrOf st) lo' rest st'∧t + 1≤lo'∧lo' + rest.length=(arrOf st).size)→Q' (.yield (none,lo + n)) st')→wpS M A E s (srT (arrOf st).size lo n) Q' st4:=fun n st4 Q' S4 l4 n0 n1 u4 hq=>by
    refine wpS_mono (wpS_srT S4 ga n0 (by omega) (up_take u4)) fun r st5 ⟨er,S5⟩=>?_
    subst er
    exact hq st5 ⟨lo + n,_,rfl,S5,by omega,by rw [List.length_drop]; omega⟩
   dsimp only
   split
   ·refine wpS_bind (wpS_lift (wpAny_rule ⟨rfl,?_⟩))
    refine wpS_bind (wpS_bsort S3.k ga3 (by omega) (by omega) u3 fun st4 A4 u4=>?_)
    obtain ⟨S4,l4⟩:=S3.as A4
    rw [if_neg (by decide)]
    refine wpS_conv (m:=srT (arrOf st).size lo (min ((arrOf st).size - lo) (mrun (arrOf st).size (arrOf st).size 0))) ?_ (tail _ st4 _ S4 l4 (by omega) (by omega) u4 fun st' hh=>hh)
    ·dsimp only [srT,srM,srP]
     refine bind_congr fun sx=>?_
     cases (pendingOf sx).back? with
     | none=>rfl
     | some x =>
      obtain ⟨s1,n1,w1⟩:=x
      refine bind2 (congrArg (forIn _ _) (funext fun _=>funext fun _=>bind_congr fun sy=>?_)) (funext fun tt=>?_)
      ·generalize (if (pendingOf sy).size > 1 then (pendingOf sy)[(pendingOf sy).size - 2]? else none)=zz
       rcases zz with _ | ⟨_,_,_⟩ <;> rfl
      ·obtain ⟨z,_⟩:=tt
       cases z <;> rfl
   ·refine wpS_conv (m:=srT (arrOf st).size lo m) ?_ (tail m st3 _ S3 l3 (by omega) m2 u3 fun st' hh=>hh)
    ·dsimp only [srT,srM,srP]
     refine bind_congr fun sx=>?_
     cases (pendingOf sx).back? with
     | none=>rfl
     | some x =>
      obtain ⟨s1,n1,w1⟩:=x
      refine bind2 (congrArg (forIn _ _) (funext fun _=>funext fun _=>bind_congr fun sy=>?_)) (funext fun tt=>?_)
      ·generalize (if (pendingOf sy).size > 1 then (pendingOf sy)[(pendingOf sy).size - 2]? else none)=zz
       rcases zz with _ | ⟨_,_,_⟩ <;> rfl
      ·obtain ⟨z,_⟩:=tt
       cases z <;> rfl
 case post =>
  rintro c st2 ⟨rfl,S⟩
  dsimp only
  have p2:(pendingOf st2).size≤(arrOf st).size:=by
   obtain ⟨Rs,e,el,p⟩:=S.ex
   have:=p.le
   rw [el] at this
   simpa using this
  refine wpS_bind (wpS_mono (wpS_forRange (I:=fun t c st2=>c=(none,())∧SRun o (arrOf st) (arrOf st).size [] st2∧((pendingOf st2).size + t≤(arrOf st).size∨(pendingOf st2).size≤1))
   (Q:=fun c st2=>c=(none,())∧SRun o (arrOf st) (arrOf st).size [] st2∧(pendingOf st2).size≤1) ?step2 ?fin2 ⟨rfl,S,.inl (by omega)⟩) ?post2)
  case fin2 =>
   rintro c st3 ⟨rfl,S3,h3⟩
   exact ⟨rfl,S3,by omega⟩
  case step2 =>
   rintro t c st3 _ ht ⟨rfl,S3,h3⟩
   refine wpS_bind (wpS_get ?_)
   by_cases h4:(pendingOf st3).size≤1
   ·rw [if_pos h4]
    exact wpS_pure ⟨rfl,S3,h4⟩
   ·rw [if_neg h4]
    refine wpS_bind (S3.merge ga ?_ fun st4 S4 e4=>?_)
    ·exact pick_ok _ _ (by omega)
    ·exact wpS_pure ⟨rfl,S4,.inl (by omega)⟩
  case post2 =>
   rintro c st3 ⟨rfl,S3,h3⟩
   refine wpS_pure (h st3 S3.f S3.perm ?_)
   obtain ⟨Rs,e,el,p⟩:=S3.ex
   rw [e,List.append_nil]
   have hl:=p.length
   have hl2:Rs.length≤1:=by rw [← hl]; simpa using h3
   cases Rs with
   | nil=>exact List.Pairwise.nil
   | cons R Rs' =>
    cases Rs' with
    | cons R2 Rs2=>simp at hl2
    | nil =>
     generalize (pendingOf st3).toList=ps at p
     cases p with
     | cons u _ _=>simpa using u
end
section
variable {prog:Program} {w:World} {A:Around} {E:Value→Shared→Prop} {s:Shared}
abbrev midHeap (h:Heap) (a:Addr) (vs:List Value):Heap:=((h.update a (Obj.mapSeq fun _=>#[])).push (seqObj "tuple" vs.toArray 0)).push (seqObj "list" #[] 0)
theorem pw_short {α:Type} {R:α→α→Prop}:∀ {L:List α},L.length < 2→L.Pairwise R
 | [],_=>.nil
 | [_],_=>List.pairwise_singleton _ _
 | _ :: _ :: _,h=>absurd h (by simp)
theorem list_sort_any {a:Addr} {vs:List Value} {n:Nat} {P:Fin→Shared→Prop} {kd:SortKind} (ho:s.heap.get? a=some (seqObj "list" vs.toArray n)) (hle:vs.length≤sizeLine)
  (hkk:2≤vs.length→∀ Q:SortKind→Shared→Prop,Q kd { s with heap:=midHeap s.heap a vs }→wpAny (model prog w) A (keyKind' vs.toArray) Q E { s with heap:=midHeap s.heap a vs })
  (o:Ord (model prog w) A E { s with heap:=midHeap s.heap a vs } kd) (ga:o.all (pairsOf vs))
  (h:∀ ks:Array Keyed,ks.Perm (pairsOf vs)→ks.toList.Pairwise o.le→P (.done (.ret .none)) { s with heap:=sortedHeap s.heap a vs (ks.map (·.2)) }) :
  wpAny (model prog w) A (Builtin.«list.sort» ⟨[.ref a],[]⟩) P E s:=by
 rw [list_sort_plain]
 have ha:=Heap.lt_size ho
 refine wpAny_bind (listItems_at ho rfl (wpAny_bind (listUpdate_at ho rfl ?_)))
 obtain ⟨e1,h1⟩:∃ e1,(s.heap.update a (Obj.mapSeq fun _=>#[])).get? a=some (seqObj "list" #[] e1):=⟨_,get?_update_seq ho (fun _=>#[])⟩
 refine wpAny_bind (seqEpoch_at h1 rfl (wpAny_bind (wpAny_newTuple (wpAny_bind (wpAny_newList (wpAny_holding ?_))))))
 have h6:(midHeap s.heap a vs).get? a=some (seqObj "list" #[] e1):=by
  have n1:a≠(s.heap.update a (Obj.mapSeq fun _=>#[])).objs.size:=Nat.ne_of_lt (by rw [Heap.size_update]; exact ha)
  have n2:a≠((s.heap.update a (Obj.mapSeq fun _=>#[])).push (seqObj "tuple" vs.toArray 0)).objs.size:=Nat.ne_of_lt (by rw [size_push',Heap.size_update]; exact Nat.lt_succ_of_lt ha)
  rw [Heap.get?_push_ne _ _ _ n2,Heap.get?_push_ne _ _ _ n1]
  exact h1
 show wpAny (model prog w) A _ P E { s with heap:=midHeap s.heap a vs }
 dsimp only
 by_cases h2:vs.toArray.size < 2
 ·rw [if_pos h2,if_pos h2]
  refine wpAny_bind (wpAny_pure ?_)
  rw [StateT.run_pure]
  refine wpAny_bind (wpAny_pure (wpAny_bind (seqEpoch_at h6 rfl (wpAny_bind (listUpdate_at h6 rfl ?_ (hsz2:=?_))))))
  ·simp only [bne_self_eq_false,Bool.false_eq_true,if_false]
   refine wpAny_pure (h (pairsOf vs) (Array.Perm.refl _) ?_)
   have hl:(pairsOf vs).toList.length < 2:=by rw [Array.length_toList,pairsOf_size]; simpa using h2
   exact pw_short hl
  ·rw [Array.size_map]
   show (pairsOf vs).size≤_
   rw [pairsOf_size]
   omega
 ·rw [if_neg h2,if_neg h2]
  have h3:2≤vs.length:=by simpa using h2
  refine wpAny_bind (hkk h3 _ ?_)
  refine wpAny_bind (wpAny_mono (wpS_sruns (o:=o) (st:=SortSt.mk' kd (pairsOf vs) #[] 7 none) (Q:=fun _ st'=>failedOf st'=none∧(arrOf st').Perm (pairsOf vs)∧(arrOf st').toList.Pairwise o.le) rfl rfl ga rfl fun st' a1 a2 a3=>⟨a1,a2,a3⟩) ?_ fun _ _ e=>e)
  rintro ⟨⟨⟩,st'⟩ s' ⟨rfl,hf,hp,hs⟩
  refine wpAny_bind (seqEpoch_at h6 rfl (wpAny_bind (listUpdate_at h6 rfl ?_ (hsz2:=?_))))
  ·dsimp only at hf ⊢
   rw [hf]
   simp only [bne_self_eq_false,Bool.false_eq_true,if_false]
   exact wpAny_pure (h _ hp hs)
  ·refine Nat.le_trans (Nat.le_of_eq ((Array.size_map ..).trans (hp.size_eq.trans (pairsOf_size _)))) ?_
   omega
end
mutual
def Dt.blt:Dt→Dt→Bool
 | .int i,.int j=>decide (i < j)
 | .int _,.str _=>true
 | .int _,.tup _=>true
 | .str _,.int _=>false
 | .str x,.str y=>decide (x.cps.toList < y.cps.toList)
 | .str _,.tup _=>true
 | .tup _,.int _=>false
 | .tup _,.str _=>false
 | .tup l,.tup m=>Dt.blts l m
def Dt.blts:List Dt→List Dt→Bool
 | [],[]=>false
 | [],_ :: _=>true
 | _ :: _,[]=>false
 | a :: l,b :: m=>if Dt.beq a b=true then Dt.blts l m else Dt.blt a b
end
mutual
theorem Dt.irr:∀ a:Dt,Dt.blt a a=false
 | .int i=>by simp [Dt.blt]
 | .str x=>by simp only [Dt.blt,decide_eq_false_iff_not]; exact List.lt_irrefl _
 | .tup l=>by simp only [Dt.blt]; exact Dt.irrs l
theorem Dt.irrs:∀ l:List Dt,Dt.blts l l=false
 | []=>by simp [Dt.blts]
 | a :: l=>by simp only [Dt.blts,Dt.beq_self,if_true]; exact Dt.irrs l
end
mutual
theorem Dt.tot:∀ a b:Dt,Dt.blt a b=false→Dt.blt b a=false→a=b
 | .int i,.int j=>by simp only [Dt.blt,decide_eq_false_iff_not]; intro h1 h2; congr 1; omega
 | .int i,.str y=>by simp [Dt.blt]
 | .int i,.tup m=>by simp [Dt.blt]
 | .str x,.int j=>by simp [Dt.blt]
 | .str x,.str y=>by
  simp only [Dt.blt,decide_eq_false_iff_not]
  intro h1 h2
  have:x.cps.toList=y.cps.toList:=List.le_antisymm (List.not_lt.mp h2) (List.not_lt.mp h1)
  cases x with | mk cx =>
  cases y with | mk cy =>
  have:cx=cy:=Array.toList_inj.mp this
  rw [this]
 | .str x,.tup m=>by simp [Dt.blt]
 | .tup l,.int j=>by simp [Dt.blt]
 | .tup l,.str y=>by simp [Dt.blt]
 | .tup l,.tup m=>by simp only [Dt.blt]; intro h1 h2; rw [Dt.tots l m h1 h2]
theorem Dt.tots:∀ l m:List Dt,Dt.blts l m=false→Dt.blts m l=false→l=m
 | [],[]=>by simp
 | [],b :: m=>by simp [Dt.blts]
 | a :: l,[]=>by simp [Dt.blts]
 | a :: l,b :: m=>by
  simp only [Dt.blts]
  intro h1 h2
  by_cases e:a=b
  ·subst e
   rw [if_pos (Dt.beq_self a)] at h1 h2
   rw [Dt.tots l m h1 h2]
  ·rw [if_neg (by rw [Dt.beq_iff]; exact e)] at h1
   rw [if_neg (by rw [Dt.beq_iff]; exact fun z=>e z.symm)] at h2
   exact absurd (Dt.tot a b h1 h2) e
end
mutual
theorem Dt.trn:∀ a b c:Dt,Dt.blt a b=true→Dt.blt b c=true→Dt.blt a c=true
 | .int i,.int j,.int k=>by simp only [Dt.blt,decide_eq_true_eq]; omega
 | .int i,.int j,.str z=>by simp [Dt.blt]
 | .int i,.int j,.tup n=>by simp [Dt.blt]
 | .int i,.str y,.int k=>by simp [Dt.blt]
 | .int i,.str y,.str z=>by simp [Dt.blt]
 | .int i,.str y,.tup n=>by simp [Dt.blt]
 | .int i,.tup m,.int k=>by simp [Dt.blt]
 | .int i,.tup m,.str z=>by simp [Dt.blt]
 | .int i,.tup m,.tup n=>by simp [Dt.blt]
 | .str x,.int j,c=>by intro h; simp only [Dt.blt,Bool.false_eq_true] at h
 | .str x,.str y,.int k=>by simp [Dt.blt]
 | .str x,.str y,.str z=>by simp only [Dt.blt,decide_eq_true_eq]; exact List.lt_trans
 | .str x,.str y,.tup n=>by simp [Dt.blt]
 | .str x,.tup m,.int k=>by simp [Dt.blt]
 | .str x,.tup m,.str z=>by simp [Dt.blt]
 | .str x,.tup m,.tup n=>by simp [Dt.blt]
 | .tup l,.int j,c=>by intro h; simp only [Dt.blt,Bool.false_eq_true] at h
 | .tup l,.str y,c=>by intro h; simp only [Dt.blt,Bool.false_eq_true] at h
 | .tup l,.tup m,.int k=>by simp [Dt.blt]
 | .tup l,.tup m,.str z=>by simp [Dt.blt]
 | .tup l,.tup m,.tup n=>by simp only [Dt.blt]; exact Dt.trns l m n
theorem Dt.trns:∀ l m n:List Dt,Dt.blts l m=true→Dt.blts m n=true→Dt.blts l n=true
 | [],[],n=>by intro h; simp only [Dt.blts,Bool.false_eq_true] at h
 | [],b :: m,[]=>by simp [Dt.blts]
 | [],b :: m,c :: n=>by simp [Dt.blts]
 | a :: l,[],n=>by intro h; simp only [Dt.blts,Bool.false_eq_true] at h
 | a :: l,b :: m,[]=>by simp [Dt.blts]
 | a :: l,b :: m,c :: n=>by
  simp only [Dt.blts]
  intro h1 h2
  by_cases e1:a=b
  ·subst e1
   rw [if_pos (Dt.beq_self a)] at h1
   by_cases e2:a=c
   ·subst e2
    rw [if_pos (Dt.beq_self a)] at h2 ⊢
    exact Dt.trns l m n h1 h2
   ·have ne:¬ Dt.beq a c=true:=by rw [Dt.beq_iff]; exact e2
    rw [if_neg ne] at h2 ⊢
    exact h2
  ·rw [if_neg (by rw [Dt.beq_iff]; exact e1)] at h1
   by_cases e2:b=c
   ·subst e2
    rw [if_neg (by rw [Dt.beq_iff]; exact e1)]
    exact h1
   ·rw [if_neg (by rw [Dt.beq_iff]; exact e2)] at h2
    have t:=Dt.trn a b c h1 h2
    by_cases e3:a=c
    ·subst e3
     rw [Dt.irr] at t
     cases t
    ·rw [if_neg (by rw [Dt.beq_iff]; exact e3)]
     exact t
end
def dtOrd:KeyOrd where
 α:=Dt
 blt:=Dt.blt
 irrefl:=Dt.irr
 trans:=Dt.trn
 negTrans a b c h:=by
  cases hb:Dt.blt a b with
  | true=>exact .inl rfl
  | false =>
   cases hc:Dt.blt b a with
   | true=>exact .inr (Dt.trn _ _ _ hc h)
   | false=>rw [← Dt.tot a b hb hc]; exact .inr h
 total:=Dt.tot
end BF
namespace BF
open PySem PySem.Spec PyProof.Rows L2 PySem.SeqAt
def LtAt (A:Around) (s:Shared) (x y:Value) (b:Bool):Prop:=∀ (prog:Program) (w:World) (Q E:Value→Shared→Prop),Q (.bool b) s→wpAny (model prog w) A (richCompare .Lt x y) Q E s
inductive Lx (A:Around) (s:Shared):List Value→List Value→Bool→Prop where
 | both:Lx A s [] [] false
 | left (y:Value) (ys:List Value):Lx A s [] (y :: ys) true
 | right (x:Value) (xs:List Value):Lx A s (x :: xs) [] false
 | like {x y:Value} {xs ys:List Value} {r:Bool} (h:EqAt A s x y true) (t:Lx A s xs ys r):Lx A s (x :: xs) (y :: ys) r
 | part {x y:Value} {r:Bool} (xs ys:List Value) (h:EqAt A s x y false) (k:LtAt A s x y r):Lx A s (x :: xs) (y :: ys) r
section
open PySem.AutoSeq1 (wpAny_loadPart')
open PySem.MeetsSeq PySem.MeetsSeq2 PySem.MeetsSeq3
theorem tuple_lt_lx (l b:Addr) (pa pb:Array Value) (n n2:Nat) (dd dd2:Option Addr) (sl sl2:Array (Option Value)) (r:Bool) :
  Meets (Builtin.«tuple.__lt__» ⟨[.ref l,.ref b],[]⟩)
   (fun A R s=>Lx A.in1 s pa.toList pb.toList r∧s.heap.get? l=some { cls:=.type "tuple",dict:=dd,data:=.seq pa n,slots:=sl }∧s.heap.get? b=some { cls:=.type "tuple",dict:=dd2,data:=.seq pb n2,slots:=sl2 } ∧
    R (.ok (.ret (.bool r))) s) :=
 .of_wp fun prog w A R s h=>by
  obtain ⟨hp,g,d,tk,os⟩:=s
  obtain ⟨lx,hl,hb,h⟩:=h
  have f2:=AutoSeq1.sub_tuple_tuple
  wp_walk using wpAny_loadPart' hl,wpAny_loadPart' hb,wpAny_forIn_list _ (fun rest q s'=>q.1=none∧s'=⟨hp,g,d,tk,os⟩∧∃ (vs ws:List Value),rest=vs.zip ws ∧
   Lx A.in1 ⟨hp,g,d,tk,os⟩ vs ws r∧vs.length + pb.size=ws.length + pa.size) _
  case turn =>
   rintro ⟨y,x⟩ rest q s' ⟨hq,rfl,vs,ws,hz,lx,hlen⟩
   cases lx with
   | both=>rw [List.zip_nil_left] at hz; cases hz
   | left=>rw [List.zip_nil_left] at hz; cases hz
   | right=>rw [List.zip_nil_right] at hz; cases hz
   | @like x' y' xs ys _ he t =>
    rw [List.zip_cons_cons] at hz
    injection hz with e1 e2
    injection e1 with e3 e4
    subst e3 e4
    simp only [List.length_cons] at hlen
    refine wpAny_bind (he prog w _ _ ?_)
    wp_walk
    exact ⟨rfl,rfl,_,_,e2,t,by omega⟩
   | @part x' y' _ xs ys he k =>
    rw [List.zip_cons_cons] at hz
    injection hz with e1 e2
    injection e1 with e3 e4
    subst e3 e4
    refine wpAny_bind (he prog w _ _ ?_)
    have kk:∀ (E:Value→Shared→Prop) (Q:Value→Shared→Prop),Q (.bool r) ⟨hp,g,d,tk,os⟩→wpAny (model prog w) A.in1 (richCompare .Lt y x) Q E ⟨hp,g,d,tk,os⟩:=fun E Q z=>k prog w Q E z
    wp_walk using kk
    exact ⟨_,rfl,by simpa using h⟩
  case fin =>
   rintro ⟨b1,b2⟩ s' ⟨hq,rfl,vs,ws,hz,lx,hlen⟩
   simp only at hq
   subst hq
   have hv:r=decide (pa.size < pb.size):=by
    cases lx with
    | both=>simp only [List.length_nil] at hlen; exact (decide_eq_false (by omega)).symm
    | left=>simp only [List.length_nil,List.length_cons] at hlen; exact (decide_eq_true (by omega)).symm
    | right=>simp only [List.length_nil,List.length_cons] at hlen; exact (decide_eq_false (by omega)).symm
    | like=>rw [List.zip_cons_cons] at hz; cases hz
    | part=>rw [List.zip_cons_cons] at hz; cases hz
   subst hv
   wp_walk
   exact ⟨_,rfl,by simpa [Builtin.Tuple.tupleCompareSizes] using h⟩
  case h =>
   exact ⟨rfl,rfl,pa.toList,pb.toList,rfl,lx,by simp; omega⟩
end
theorem ltAt_tuples {A:Around} {s:Shared} {l b:Addr} {pa pb:Array Value} {r:Bool} (hl:IsTup s.heap l pa) (hb:IsTup s.heap b pb) (lx:Lx A.in1 s pa.toList pb.toList r) (hu:A.units < cLine):LtAt A s (.ref l) (.ref b) r:=by
 intro prog w Q E h
 obtain ⟨⟨cls,dd,data,sl⟩,ho,hc,n,hd⟩:=id hl
 obtain ⟨⟨cls2,dd2,data2,sl2⟩,ho2,hc2,n2,hd2⟩:=id hb
 simp only at hc hd hc2 hd2
 subst hc hd hc2 hd2
 exact richCompare_meets_room (op:=.Lt) ⟨_,ho,rfl⟩ ⟨_,ho2,rfl⟩ PySem.F.slot_tuple_lt PySem.F.entry_tuple_lt (PySem.F.args_tuple_lt_2 _ _) (tuple_lt_lx l b pa pb n n2 dd dd2 sl sl2 r)
  ⟨lx,ho,ho2,show Value.bool r≠Value.notImplemented∧Q (.bool r) s from ⟨(fun x=>nomatch x),h⟩⟩ hu
mutual
def Dt.like:Dt→Dt→Bool
 | .int _,.int _=>true
 | .str _,.str _=>true
 | .tup l,.tup m=>Dt.likes l m
 | _,_=>false
def Dt.likes:List Dt→List Dt→Bool
 | a :: l,b :: m=>Dt.like a b && Dt.likes l m
 | _,_=>true
end
section
variable {X:Cx} {pins:List (Addr×Obj)} {σ:L2.St} {H:Hp} {s:Shared}
mutual
theorem ltAt_D (I:Inv X pins σ H s):∀ {d d':Dt} {v v':V} {u u':Value} (A:Around),DtIs H v d→RelV v u→DtIs H v' d'→RelV v' u'→Dt.like d d'=true→A.units + d.dp < cLine→LtAt A s u u' (Dt.blt d d')
 | .int i,.int j=>by
  intro A h r h' r' hk hu
  cases h
  cases h'
  obtain ⟨t,rfl⟩:=r
  obtain ⟨t',rfl⟩:=r'
  intro prog w Q E h
  rw [show Dt.blt (.int i) (.int j)=decide (i < j) by simp only [Dt.blt]] at h
  exact (PyProof.Rows.lt_int h:wpAny (model prog w) A (compareOp .Lt (.int i t) (.int j t')) Q E s)
 | .str x,.str y=>by
  intro A h r h' r' hk hu
  cases h
  cases h'
  obtain ⟨t,rfl⟩:=r
  obtain ⟨t',rfl⟩:=r'
  intro prog w Q E h
  rw [show Dt.blt (.str x) (.str y)=decide (x.cps.toList < y.cps.toList) by simp only [Dt.blt]] at h
  exact (PyProof.Rows.lt_str h:wpAny (model prog w) A (compareOp .Lt (.str x t) (.str y t')) Q E s)
 | .tup l,.tup m=>by
  intro A h r h' r' hk hu
  cases h with
  | tup e q =>
  cases h' with
  | tup e' q' =>
  cases r
  cases r'
  obtain ⟨its,rv,p,_⟩:=I.tuple (SqT.of e)
  obtain ⟨its',rv',p',_⟩:=I.tuple (SqT.of e')
  have hd:A.units + (Dt.dps l + 1) < cLine:=by simpa only [Dt.dp] using hu
  have hk':Dt.likes l m=true:=by simpa only [Dt.like] using hk
  rw [show Dt.blt (.tup l) (.tup m)=Dt.blts l m by simp only [Dt.blt]]
  exact ltAt_tuples p p' (lx_D I A.in1 q rv q' rv' hk' (by show A.units + 1 + _ < _; omega)) (by omega)
 | .int _,.str _=>by
  intro A h r h' r' hk hu
  simp only [Dt.like,Bool.false_eq_true] at hk
 | .int _,.tup _=>by
  intro A h r h' r' hk hu
  simp only [Dt.like,Bool.false_eq_true] at hk
 | .str _,.int _=>by
  intro A h r h' r' hk hu
  simp only [Dt.like,Bool.false_eq_true] at hk
 | .str _,.tup _=>by
  intro A h r h' r' hk hu
  simp only [Dt.like,Bool.false_eq_true] at hk
 | .tup _,.int _=>by
  intro A h r h' r' hk hu
  simp only [Dt.like,Bool.false_eq_true] at hk
 | .tup _,.str _=>by
  intro A h r h' r' hk hu
  simp only [Dt.like,Bool.false_eq_true] at hk
theorem lx_D (I:Inv X pins σ H s):∀ {ds ds':List Dt} {vs vs':List V} {us us':List Value} (A:Around),DtsIs H vs ds→Vals vs us→DtsIs H vs' ds'→Vals vs' us'→Dt.likes ds ds'=true→A.units + Dt.dps ds < cLine→Lx A s us us' (Dt.blts ds ds')
 | [],[]=>by
  intro A h r h' r' hk hu
  cases h
  cases r
  cases h'
  cases r'
  rw [show Dt.blts [] []=false by simp only [Dt.blts]]; exact .both
 | [],_ :: _=>by
  intro A h r h' r' hk hu
  cases h
  cases r
  cases h'
  cases r'
  rw [show ∀ a l,Dt.blts [] (a :: l)=true from fun a l=>by simp only [Dt.blts]]; exact .left _ _
 | _ :: _,[]=>by
  intro A h r h' r' hk hu
  cases h
  cases r
  cases h'
  cases r'
  rw [show ∀ a l,Dt.blts (a :: l) []=false from fun a l=>by simp only [Dt.blts]]; exact .right _ _
 | d :: ds,d' :: ds'=>by
  intro A h r h' r' hk hu
  cases h with
  | cons h t =>
  cases r with
  | cons r rs =>
  cases h' with
  | cons h' t' =>
  cases r' with
  | cons r' rs' =>
  have hk':Dt.like d d'=true∧Dt.likes ds ds'=true:=by simpa only [Dt.likes,Bool.and_eq_true] using hk
  have hu':A.units + max d.dp (Dt.dps ds) < cLine:=by simpa only [Dt.dps] using hu
  have hq:=eqAt_D I A h r h' r' (by omega)
  rw [show Dt.blts (d :: ds) (d' :: ds')=if Dt.beq d d'=true then Dt.blts ds ds' else Dt.blt d d' by simp only [Dt.blts]]
  cases hb:Dt.beq d d' with
  | true =>
   rw [hb] at hq
   rw [if_pos rfl]
   exact .like hq (lx_D I A t rs t' rs' hk'.2 (by omega))
  | false =>
   rw [hb] at hq
   rw [if_neg Bool.false_ne_true]
   exact .part _ _ hq (ltAt_D I A h r h' r' hk'.1 (by omega))
end
end
abbrev tupKind (f:Bool):SortKind:=(sortPriv% PySem.Builtin.KeyKind.tuples) f
theorem keyLt_tuples (f:Bool) (x y:Value):keyLt' (tupKind f) x y=(do
  let a ← Builtin.List.listItems x
  let b ← Builtin.List.listItems y
  for ((p,q),i) in (a.toList.zip b.toList).zipIdx do
   if !(← eqBool p q) then return ← oneLt' (f && i == 0) p q
  return a.size < b.size):=rfl
theorem oneLt_false (x y:Value):oneLt' false x y=(do truthOfDropped (← richCompare .Lt x y)):=rfl
inductive Lk (A:Around) (s:Shared) (prog:Program) (w:World) (f:Bool):Nat→List Value→List Value→Bool→Prop where
 | both (i:Nat):Lk A s prog w f i [] [] false
 | left (i:Nat) (y:Value) (ys:List Value):Lk A s prog w f i [] (y :: ys) true
 | right (i:Nat) (x:Value) (xs:List Value):Lk A s prog w f i (x :: xs) [] false
 | like {i:Nat} {x y:Value} {xs ys:List Value} {r:Bool} (h:EqAt A s x y true) (t:Lk A s prog w f (i + 1) xs ys r):Lk A s prog w f i (x :: xs) (y :: ys) r
 | part {i:Nat} {x y:Value} {r:Bool} (xs ys:List Value) (h:EqAt A s x y false) (k:∀ (E:Value→Shared→Prop) (Q:Bool→Shared→Prop),Q r s→wpAny (model prog w) A (oneLt' (f && i == 0) x y) Q E s):Lk A s prog w f i (x :: xs) (y :: ys) r
theorem keyLt_lk {A:Around} {s:Shared} {prog:Program} {w:World} {f:Bool} {l b:Addr} {pa pb:Array Value} {r:Bool} {Q:Bool→Shared→Prop} {E:Value→Shared→Prop} (hl:IsTup s.heap l pa) (hb:IsTup s.heap b pb) (lk:Lk A s prog w f 0 pa.toList pb.toList r) (h:Q r s) :
  wpAny (model prog w) A (keyLt' (tupKind f) (.ref l) (.ref b)) Q E s:=by
 obtain ⟨o1,ho,hc,n,hd⟩:=id hl
 obtain ⟨o2,ho2,hc2,n2,hd2⟩:=id hb
 rw [keyLt_tuples]
 refine wpAny_bind (listItems_at ho hd ?_)
 refine wpAny_bind (listItems_at ho2 hd2 ?_)
 refine wpAny_bind (wpAny_forIn_list _ (fun rest c s'=>c=(none,())∧s'=s∧∃ (i:Nat) (vs ws:List Value),rest=(vs.zip ws).zipIdx i∧Lk A s prog w f i vs ws r∧vs.length + pb.size=ws.length + pa.size)
  (fun c s'=>s'=s∧(c=(some r,())∨(c=(none,())∧r=decide (pa.size < pb.size)))) ?turn ?fin _ _ ⟨rfl,rfl,0,_,_,rfl,lk,by simp; omega⟩ |> fun z=>wpAny_mono z ?post fun _ _ e=>e)
 case turn =>
  rintro ⟨⟨p,q⟩,j⟩ rest c s' ⟨rfl,rfl,i,vs,ws,hz,lk,hlen⟩
  cases lk with
  | both=>simp at hz
  | left=>simp at hz
  | right=>simp at hz
  | @like _ x y xs ys _ he t =>
   rw [List.zip_cons_cons,List.zipIdx_cons] at hz
   injection hz with e1 e2
   injection e1 with e3 e4
   injection e3 with e5 e6
   subst e5 e6 e4
   simp only [List.length_cons] at hlen
   refine wpAny_bind (he prog w _ _ ?_)
   exact wpAny_pure ⟨rfl,rfl,_,_,_,e2,t,by omega⟩
  | @part _ x y _ xs ys he k =>
   rw [List.zip_cons_cons,List.zipIdx_cons] at hz
   injection hz with e1 e2
   injection e1 with e3 e4
   injection e3 with e5 e6
   subst e5 e6 e4
   refine wpAny_bind (he prog w _ _ ?_)
   exact wpAny_bind (k _ _ (wpAny_pure ⟨rfl,.inl rfl⟩))
 case fin =>
  rintro c s' ⟨rfl,rfl,i,vs,ws,hz,lk,hlen⟩
  refine ⟨rfl,.inr ⟨rfl,?_⟩⟩
  cases lk with
  | both=>simp only [List.length_nil] at hlen; exact (decide_eq_false (by omega)).symm
  | left=>simp only [List.length_nil,List.length_cons] at hlen; exact (decide_eq_true (by omega)).symm
  | right=>simp only [List.length_nil,List.length_cons] at hlen; exact (decide_eq_false (by omega)).symm
  | like=>simp at hz
  | part=>simp at hz
 case post =>
  rintro c s' ⟨rfl,rfl | ⟨rfl,hr⟩⟩
  ·exact wpAny_pure h
  ·subst hr
   exact wpAny_pure h
section
variable {X:Cx} {pins:List (Addr×Obj)} {σ:L2.St} {H:Hp} {s:Shared}
def Dt.flat:Dt→Bool
 | .tup _=>false
 | _=>true
theorem oneLt_D (I:Inv X pins σ H s) {d d':Dt} {v v':V} {u u':Value} {A:Around} {g:Bool} (h:DtIs H v d) (r:RelV v u) (h':DtIs H v' d') (r':RelV v' u') (hk:Dt.like d d'=true) (hu:A.units + d.dp < cLine) (hg:g=true→Dt.flat d=true)
  {prog:Program} {w:World} {E:Value→Shared→Prop} {Q:Bool→Shared→Prop} (q:Q (Dt.blt d d') s):wpAny (model prog w) A (oneLt' g u u') Q E s:=by
 cases g with
 | false =>
  rw [oneLt_false]
  exact wpAny_bind (ltAt_D I A h r h' r' hk hu prog w _ _ (wpAny_truthy_bool q))
 | true =>
  have hf:=hg rfl
  cases h with
  | int i =>
   cases h' with
   | int j =>
    obtain ⟨t,rfl⟩:=r
    obtain ⟨t',rfl⟩:=r'
    exact oneLt_int (by simpa only [Dt.blt] using q)
   | str y=>simp only [Dt.like,Bool.false_eq_true] at hk
   | tup _ _=>simp only [Dt.like,Bool.false_eq_true] at hk
  | str x =>
   cases h' with
   | str y =>
    obtain ⟨t,rfl⟩:=r
    obtain ⟨t',rfl⟩:=r'
    exact oneLt_str (by simpa only [Dt.blt] using q)
   | int j=>simp only [Dt.like,Bool.false_eq_true] at hk
   | tup _ _=>simp only [Dt.like,Bool.false_eq_true] at hk
  | tup _ _=>simp only [Dt.flat,Bool.false_eq_true] at hf
theorem lk_D (I:Inv X pins σ H s) {f:Bool} {prog:Program} {w:World}:∀ {ds ds':List Dt} {vs vs':List V} {us us':List Value} (A:Around) (i:Nat),DtsIs H vs ds→Vals vs us→DtsIs H vs' ds'→Vals vs' us'→Dt.likes ds ds'=true→A.units + Dt.dps ds < cLine →
  (f=true→i=0→∀ d,ds.head?=some d→Dt.flat d=true)→Lk A s prog w f i us us' (Dt.blts ds ds')
 | [],[]=>by
  intro A i h r h' r' hk hu hf
  cases h
  cases r
  cases h'
  cases r'
  rw [show Dt.blts [] []=false by simp only [Dt.blts]]; exact .both _
 | [],_ :: _=>by
  intro A i h r h' r' hk hu hf
  cases h
  cases r
  cases h'
  cases r'
  rw [show ∀ a l,Dt.blts [] (a :: l)=true from fun a l=>by simp only [Dt.blts]]; exact .left _ _ _
 | _ :: _,[]=>by
  intro A i h r h' r' hk hu hf
  cases h
  cases r
  cases h'
  cases r'
  rw [show ∀ a l,Dt.blts (a :: l) []=false from fun a l=>by simp only [Dt.blts]]; exact .right _ _ _
 | d :: ds,d' :: ds'=>by
  intro A i h r h' r' hk hu hf
  cases h with
  | cons h t =>
  cases r with
  | cons r rs =>
  cases h' with
  | cons h' t' =>
  cases r' with
  | cons r' rs' =>
  have hk':Dt.like d d'=true∧Dt.likes ds ds'=true:=by simpa only [Dt.likes,Bool.and_eq_true] using hk
  have hu':A.units + max d.dp (Dt.dps ds) < cLine:=by simpa only [Dt.dps] using hu
  have hq:=eqAt_D I A h r h' r' (by omega)
  rw [show Dt.blts (d :: ds) (d' :: ds')=if Dt.beq d d'=true then Dt.blts ds ds' else Dt.blt d d' by simp only [Dt.blts]]
  cases hb:Dt.beq d d' with
  | true =>
   rw [hb] at hq
   rw [if_pos rfl]
   exact .like hq (lk_D I A (i + 1) t rs t' rs' hk'.2 (by omega) (fun _ z=>absurd z (by omega)))
  | false =>
   rw [hb] at hq
   rw [if_neg Bool.false_ne_true]
   refine .part _ _ hq fun E Q q=>oneLt_D I h r h' r' hk'.1 (by omega) (fun hg=>?_) q
   rw [Bool.and_eq_true] at hg
   exact hf hg.1 (by simpa using hg.2) d rfl
end
section
variable {X:Cx} {pins:List (Addr×Obj)} {σ:L2.St} {H:Hp} {s:Shared}
def DatOf (H:Hp) (u:Value) (d:Dt):Prop:=∃ v,RelV v u∧DtIs H v d
theorem DatOf.inj {u:Value} {d d':Dt} (h:DatOf H u d) (h':DatOf H u d'):d=d':=by
 obtain ⟨v,r,q⟩:=h
 obtain ⟨v',r',q'⟩:=h'
 cases q with
 | int i =>
  obtain ⟨t,rfl⟩:=r
  cases q' with
  | int j=>obtain ⟨t',e⟩:=r'; cases e; rfl
  | str y=>obtain ⟨t',e⟩:=r'; cases e
  | tup e _=>cases r'
 | str x =>
  obtain ⟨t,rfl⟩:=r
  cases q' with
  | int j=>obtain ⟨t',e⟩:=r'; cases e
  | str y=>obtain ⟨t',e⟩:=r'; cases e; rfl
  | tup e _=>cases r'
 | @tup a xs ds e h =>
  cases r
  cases q' with
  | int j=>obtain ⟨t',e⟩:=r'; cases e
  | str y=>obtain ⟨t',e⟩:=r'; cases e
  | @tup a' xs' ds' e' h2 =>
   cases r'
   exact DtIs.inj (.tup e h) (.tup e' h2)
open Classical in
noncomputable def datKey (H:Hp) (p:Keyed):Dt:=if h:∃ d,DatOf H p.1 d then Classical.choose h else .int 0
theorem datKey_eq {p:Keyed} {d:Dt} (h:DatOf H p.1 d):datKey H p=d:=by
 have hx:∃ d,DatOf H p.1 d:=⟨d,h⟩
 unfold datKey
 rw [dif_pos hx]
 exact DatOf.inj (Classical.choose_spec hx) h
noncomputable def ordT (I:Inv X pins σ H s) (prog:Program) (w:World) (A:Around) (E:Value→Shared→Prop) (f:Bool) (P:Dt→Prop) (hP:∀ d d',P d→P d'→∃ l m,d=.tup l∧d'=.tup m∧Dt.likes l m=true∧A.units + Dt.dps l < cLine∧(f=true→∀ a,l.head?=some a→Dt.flat a=true)) :
  Ord (model prog w) A E s (tupKind f) where
 O:=dtOrd
 key:=datKey H
 G:=fun p=>∃ d,DatOf H p.1 d∧P d
 lt:=fun {st x y Q} hk gx gy h=>by
  obtain ⟨d,hd,pd⟩:=gx
  obtain ⟨d',hd',pd'⟩:=gy
  rw [datKey_eq hd,datKey_eq hd'] at h
  obtain ⟨l,m,rfl,rfl,lk,hu,hf⟩:=hP d d' pd pd'
  obtain ⟨v,r,q⟩:=hd
  obtain ⟨v',r',q'⟩:=hd'
  obtain ⟨x1,x2⟩:=x
  obtain ⟨y1,y2⟩:=y
  cases q with
  | tup e qs =>
   cases q' with
   | tup e' qs' =>
    cases r
    cases r'
    obtain ⟨its,rv,p,_⟩:=I.tuple (SqT.of e)
    obtain ⟨its',rv',p',_⟩:=I.tuple (SqT.of e')
    rw [lt'_eq]
    refine wpS_bind (wpS_get ?_)
    rw [hk]
    have hb:Q (some (Dt.blts l m)) st:=by
     have:dtOrd.blt (.tup l) (.tup m)=Dt.blts l m:=by show Dt.blt _ _=_; simp only [Dt.blt]
     rw [← this]; exact h
    refine wpS_bind (wpS_lift (wpAny_attempt (keyLt_lk p p' (lk_D I A 0 qs rv qs' rv' lk hu (fun z _=>hf z)) ⟨rfl,?_⟩)))
    exact wpS_pure hb
end
theorem vals_perm {us us':List Value} (p:us.Perm us'):∀ {ys:List V},Vals ys us→∃ zs,Vals zs us'∧ys.Perm zs:=by
 induction p with
 | nil=>intro ys r; exact ⟨ys,r,.refl _⟩
 | cons x _ ih =>
  intro ys r
  cases r with
  | cons r1 r2 =>
   obtain ⟨zs,a,b⟩:=ih r2
   exact ⟨_ :: zs,.cons r1 a,b.cons _⟩
 | swap x y l =>
  intro ys r
  cases r with
  | cons r1 r2 =>
   cases r2 with
   | cons r3 r4=>exact ⟨_ :: _ :: _,.cons r3 (.cons r1 r4),.swap _ _ _⟩
 | trans _ _ ih1 ih2 =>
  intro ys r
  obtain ⟨zs,a,b⟩:=ih1 r
  obtain ⟨ws,c,d⟩:=ih2 a
  exact ⟨ws,c,b.trans d⟩
theorem dts_perm {H:Hp} {ys zs:List V} (p:ys.Perm zs):∀ {ds:List Dt},DtsIs H ys ds→∃ es,DtsIs H zs es∧ds.Perm es:=by
 induction p with
 | nil=>intro ds r; exact ⟨ds,r,.refl _⟩
 | cons x _ ih =>
  intro ds r
  cases r with
  | cons r1 r2 =>
   obtain ⟨es,a,b⟩:=ih r2
   exact ⟨_ :: es,.cons r1 a,b.cons _⟩
 | swap x y l =>
  intro ds r
  cases r with
  | cons r1 r2 =>
   cases r2 with
   | cons r3 r4=>exact ⟨_ :: _ :: _,.cons r3 (.cons r1 r4),.swap _ _ _⟩
 | trans _ _ ih1 ih2 =>
  intro ds r
  obtain ⟨es,a,b⟩:=ih1 r
  obtain ⟨fs,c,d⟩:=ih2 a
  exact ⟨fs,c,b.trans d⟩
def Dt.tag:Dt→String
 | .int _=>"int"
 | .str _=>"str"
 | .tup _=>"tuple"
theorem dts_at {H:Hp}:∀ {ys:List V} {ds:List Dt} {us:List Value},DtsIs H ys ds→Vals ys us→∀ (i:Nat) (u:Value),us[i]?=some u→∃ d,ds[i]?=some d∧DatOf H u d
 | _,_,_,.nil,.nil,i,u,e=>by simp at e
 | _,_,_,.cons h t,.cons r rs,0,u,e=>by
  simp at e
  subst e
  exact ⟨_,rfl,_,r,h⟩
 | _,_,_,.cons h t,.cons r rs,i + 1,u,e=>by
  simp at e
  obtain ⟨d,e1,e2⟩:=dts_at t rs i u e
  exact ⟨d,by simpa using e1,e2⟩
section
variable {X:Cx}
theorem looks_D {M:Model} {pins:List (Addr×Obj)} {σ:L2.St} {H:Hp} {s:Shared} (I:Inv X pins σ H s) {u:Value} {d:Dt} (h:DatOf H u d):PySem.W.Looks M s.heap (typeOf u) (.type d.tag):=by
 obtain ⟨v,r,q⟩:=h
 cases q with
 | int i=>obtain ⟨t,rfl⟩:=r; exact .now
 | str x=>obtain ⟨t,rfl⟩:=r; exact .now
 | tup e _ =>
  cases r
  obtain ⟨its,_,⟨o,ho,hc,_⟩,_⟩:=I.tuple (SqT.of e)
  exact hc ▸ (show PySem.W.Looks M s.heap (typeOf (.ref _)) o.cls from (PySem.W.Looks.ld ho).andThen .now)
theorem katT {pins:List (Addr×Obj)} {σ:L2.St} {H:Hp} {s:Shared} (I:Inv X pins σ H s) {T:String}:∀ {ys:List V} {ds:List Dt} {us:List Value},DtsIs H ys ds→Vals ys us→(∀ d∈ds,∃ e r,d=.tup (e :: r)∧e.tag=T) →
  ∃ fs,PySem.W.KatTups s.heap us fs∧fs.length=us.length∧∀ f∈fs,∃ e,DatOf H f e∧e.tag=T
 | _,_,_,.nil,.nil,_=>⟨[],trivial,rfl,fun _ z=>nomatch z⟩
 | _,_,_,.cons h t,.cons r rs,hs=>by
  obtain ⟨fs,k,lf,hf⟩:=katT I t rs fun d hd=>hs d (List.mem_cons_of_mem _ hd)
  obtain ⟨e,r',rfl,et⟩:=hs _ (List.mem_cons_self ..)
  cases h with
  | tup ex qs =>
   cases r
   obtain ⟨its,rv,⟨o,ho,hc,n,hd⟩,_⟩:=I.tuple (SqT.of ex)
   cases qs with
   | cons q1 q2 =>
    cases rv with
    | cons r1 r2 =>
     refine ⟨_ :: fs,PySem.W.KatTups.cons ho hc hd rfl k,by simp [lf],fun f hf'=>?_⟩
     rcases List.mem_cons.mp hf' with rfl | hf'
     ·exact ⟨e,⟨_,r1,q1⟩,et⟩
     ·exact hf f hf'
end
end BF
namespace BF
open PySem PySem.Spec PyProof.Rows L2 PySem.W
mutual
inductive DatH (h:Heap):Value→Dt→Prop where
 | int (i:Int) (t:Tok):DatH h (.int i t) (.int i)
 | str (x:Str) (t:Tok):DatH h (.str x t) (.str x)
 | tup {a:Addr} {o:Obj} {items:Array Value} {n:Nat} {ds:List Dt} (ho:h.get? a=some o) (hc:o.cls=.type "tuple") (hd:o.data=.seq items n) (r:DatHs h items.toList ds):DatH h (.ref a) (.tup ds)
inductive DatHs (h:Heap):List Value→List Dt→Prop where
 | nil:DatHs h [] []
 | cons {v:Value} {d:Dt} {vs:List Value} {ds:List Dt} (q:DatH h v d) (t:DatHs h vs ds):DatHs h (v :: vs) (d :: ds)
end
mutual
theorem DatH.keep {h h':Heap} (k:∀ b o,h.get? b=some o→h'.get? b=some o):∀ {d:Dt} {v:Value},DatH h v d→DatH h' v d
 | _,_,.int i t=>.int i t
 | _,_,.str x t=>.str x t
 | .tup ds,_,.tup ho hc hd r=>.tup (k _ _ ho) hc hd (DatHs.keep k r)
theorem DatHs.keep {h h':Heap} (k:∀ b o,h.get? b=some o→h'.get? b=some o):∀ {ds:List Dt} {vs:List Value},DatHs h vs ds→DatHs h' vs ds
 | [],_,.nil=>.nil
 | d :: ds,_,.cons q t=>.cons (DatH.keep k q) (DatHs.keep k t)
end
mutual
def hashD (w:World):Dt→Int
 | .int i=>hashInt i
 | .str x=>hashStr w x
 | .tup l=>reduceHash (Builtin.Tuple.tupleHashOf (hashDs w l))
def hashDs (w:World):List Dt→List Int
 | []=>[]
 | d :: l=>hashD w d :: hashDs w l
end
section
variable {X:Cx} {pins:List (Addr×Obj)} {σ:L2.St} {H:Hp} {s:Shared}
mutual
theorem datH_of (I:Inv X pins σ H s):∀ {d:Dt} {v:V} {u:Value},DtIs H v d→RelV v u→DatH s.heap u d
 | _,_,_,.int i,r=>by obtain ⟨t,rfl⟩:=r; exact .int i t
 | _,_,_,.str x,r=>by obtain ⟨t,rfl⟩:=r; exact .str x t
 | .tup ds,_,_,.tup e q,r=>by
  cases r
  obtain ⟨its,rv,⟨o,ho,hc,n,hd⟩,_⟩:=I.tuple (SqT.of e)
  exact .tup ho hc hd (by rw [List.toList_toArray]; exact datHs_of I q rv)
theorem datHs_of (I:Inv X pins σ H s):∀ {ds:List Dt} {vs:List V} {us:List Value},DtsIs H vs ds→Vals vs us→DatHs s.heap us ds
 | [],_,_,.nil,.nil=>.nil
 | d :: ds,_,_,.cons q t,.cons r rs=>.cons (datH_of I q r) (datHs_of I t rs)
end
end
section
variable {prog:Program} {w:World} {E:Value→Shared→Prop}
set_option maxRecDepth 100000 in
mutual
theorem pyHash_D:∀ (d:Dt) (v:Value) (A:Around) (s:Shared) (Q:Int→Shared→Prop),DatH s.heap v d→A.units + d.dp < cLine→(∀ tk,s.toks≤tk→Q (hashD w d) { s with toks:=tk })→wpAny (model prog w) A (pyHash v) Q E s
 | .int i,_,A,s,Q,.int _ t,hu,h=>wpAny_pyHash_int (h _ (Nat.le_succ _))
 | .str x,_,A,s,Q,.str _ t,hu,h=>wpAny_pyHash_str (h _ (Nat.le_succ _))
 | .tup ds,_,A,s,Q,.tup (a:=a) (items:=items) ho hc hd r,hu,h=>by
  have hu':A.units + (Dt.dps ds + 1) < cLine:=by simpa only [Dt.dp] using hu
  refine pyHash_slot (T:="tuple") ⟨_,ho,hc⟩ F.slot_tuple_hash F.entry_tuple_hash (F.args_tuple_hash_1 _) (beq_builtin_none _) (.inr (by omega)) ?_
  show wpAny _ _ (Builtin.Tuple.tupleItemsOf (.ref a) >>= _) _ _ s
  refine wpAny_bind (wpAny_tupleItemsOf ho hd ?_)
  refine wpAny_bind ?_
  rw [← Array.forIn_toList]
  refine hashLoop_D ds items.toList A.in1 s #[] _ r (by simp only [Around.in1_units]; omega) fun tk htk b hb=>?_
  show wpAny _ _ (retInt (Builtin.Tuple.tupleHashOf b.toList)) _ _ _
  rw [hb]
  exact wpAny_bind (wpAny_mkInt (wpAny_pure ⟨_,_,rfl,by have:=h (tk + 1) (Nat.le_succ_of_le htk); rw [hashD] at this; exact this⟩))
theorem hashLoop_D:∀ (ds:List Dt) (vs:List Value) (A:Around) (s:Shared) (b:Array Int) (Q:Array Int→Shared→Prop),DatHs s.heap vs ds→A.units + Dt.dps ds < cLine →
  (∀ tk,s.toks≤tk→∀ b',b'.toList=b.toList ++ hashDs w ds→Q b' { s with toks:=tk }) →
  wpAny (model prog w) A (forIn vs b fun x r=>do let h ← pyHash x; pure PUnit.unit; pure (ForInStep.yield (r.push h))) Q E s
 | [],_,A,s,b,Q,.nil,_,h=>wpAny_pure (h s.toks (Nat.le_refl _) b (by simp [hashDs]))
 | d :: ds,_,A,s,b,Q,.cons q t,hu,h=>by
  simp only [Dt.dps] at hu
  rw [List.forIn_cons]
  refine wpAny_bind (wpAny_bind (pyHash_D d _ A s _ q (by omega) fun tk htk=>?_))
  refine wpAny_bind (wpAny_pure (wpAny_pure ?_))
  exact hashLoop_D ds _ A _ _ Q t (by omega) fun tk' htk' b' hb=>h tk' (Nat.le_trans htk htk') b' (by simp [hb,hashDs])
end
mutual
theorem byValue_D:∀ (d:Dt) (v:Value) (n:Nat) (A:Around) (s:Shared) (Q:Bool→Shared→Prop),DatH s.heap v d→(∀ b,Q b s)→wpAny (model prog w) A (hashByValue n v) Q E s
 | .int i,_,n,A,s,Q,.int _ t,h=>by
  have:hashByValue n (.int i t)=pure true:=by cases n <;> rfl
  rw [this]; exact wpAny_pure (h _)
 | .str x,_,n,A,s,Q,.str _ t,h=>by
  have:hashByValue n (.str x t)=pure false:=by cases n <;> rfl
  rw [this]; exact wpAny_pure (h _)
 | .tup ds,_,0,A,s,Q,.tup (a:=a) (items:=items) ho hc hd r,h=>wpAny_pure (h _)
 | .tup ds,_,n + 1,A,s,Q,.tup (a:=a) (items:=items) ho hc hd r,h=>by
  unfold hashByValue
  refine wpAny_bind (wpAny_specialOf ⟨_,ho,hc⟩ F.slot_tuple_hash.lookup ?_)
  dsimp only
  refine wpAny_bind (wpAny_seqItems ho hd ?_)
  show wpAny _ _ (forIn items _ _ >>= _) _ _ _
  rw [← Array.forIn_toList]
  refine wpAny_bind (byValues_D ds items.toList n A s _ r fun b=>?_)
  cases b with
  | none=>exact wpAny_pure (h _)
  | some b=>exact wpAny_pure (h _)
theorem byValues_D:∀ (ds:List Dt) (vs:List Value) (n:Nat) (A:Around) (s:Shared) (Q:Option Bool×PUnit→Shared→Prop),DatHs s.heap vs ds→(∀ b,Q (b,⟨⟩) s) →
  wpAny (model prog w) A (forIn vs ((none,⟨⟩):Option Bool×PUnit) fun x r=>do
   let c ← hashByValue n x
   if (!c)=true then pure (ForInStep.done (some false,⟨⟩)) else pure (ForInStep.yield (none,⟨⟩))) Q E s
 | [],_,n,A,s,Q,.nil,h=>wpAny_pure (h _)
 | d :: ds,_,n,A,s,Q,.cons q t,h=>by
  rw [List.forIn_cons]
  refine wpAny_bind (wpAny_bind (byValue_D d _ n A s _ q fun b=>?_))
  cases b with
  | false=>exact wpAny_pure (wpAny_pure (h _))
  | true=>exact wpAny_pure (byValues_D ds _ n A s Q t h)
end
end
section
variable {prog:Program} {w:World} {E:Value→Shared→Prop}
theorem sub_tt:isSubtype (.type "tuple") (.type "tuple")=pure true:=PySem.isSubtype_tuple_tuple
mutual
theorem quiet_D:∀ (d:Dt) (v:Value) (n:Nat) (A:Around) (s:Shared) (Q:Bool→Shared→Prop),DatH s.heap v d→d.dp≤n→Q true s→wpAny (model prog w) A (eqIsQuiet n v) Q E s
 | .int i,_,n,A,s,Q,.int _ t,hn,h=>by
  rw [eqIsQuiet_byValue n (v:=.int i t) rfl]; exact wpAny_pure h
 | .str x,_,n,A,s,Q,.str _ t,hn,h=>by
  rw [eqIsQuiet_byValue n (v:=.str x t) rfl]; exact wpAny_pure h
 | .tup ds,_,0,A,s,Q,.tup (a:=a) (items:=items) ho hc hd r,hn,h=>by
  simp only [Dt.dp] at hn
  omega
 | .tup ds,_,n + 1,A,s,Q,.tup (a:=a) (items:=items) ho hc hd r,hn,h=>by
  have hn':Dt.dps ds≤n:=by simp only [Dt.dp] at hn; omega
  unfold eqIsQuiet
  refine wpAny_bind (wpAny_specialOf ⟨_,ho,hc⟩ F.slot_tuple_eq.lookup ?_)
  dsimp only
  refine wpAny_bind (wpAny_isInstance ⟨_,ho,hc⟩ sub_tt ?_)
  simp only [Bool.not_true,Bool.false_eq_true,if_false]
  refine wpAny_bind (wpAny_seqItems ho hd ?_)
  show wpAny _ _ (forIn items _ _ >>= _) _ _ _
  rw [← Array.forIn_toList]
  exact wpAny_bind (quiets_D ds items.toList n A s _ r hn' (wpAny_pure h))
theorem quiets_D:∀ (ds:List Dt) (vs:List Value) (n:Nat) (A:Around) (s:Shared) (Q:Option Bool×PUnit→Shared→Prop),DatHs s.heap vs ds→Dt.dps ds≤n→Q (none,⟨⟩) s →
  wpAny (model prog w) A (forIn vs ((none,⟨⟩):Option Bool×PUnit) fun x r=>do
   let c ← eqIsQuiet n x
   if (!c)=true then pure (ForInStep.done (some false,⟨⟩)) else pure (ForInStep.yield (none,⟨⟩))) Q E s
 | [],_,n,A,s,Q,.nil,_,h=>wpAny_pure h
 | d :: ds,_,n,A,s,Q,.cons q t,hn,h=>by
  simp only [Dt.dps] at hn
  rw [List.forIn_cons]
  exact wpAny_bind (wpAny_bind (quiet_D d _ n A s _ q (by omega) (wpAny_pure (quiets_D ds _ n A s Q t (by omega) h))))
end
mutual
theorem ofCls_D:∀ (d:Dt) (v:Value) (n:Nat) (A:Around) (s:Shared) (Q:Bool→Shared→Prop),DatH s.heap v d→d.dp≤n→Q false s→wpAny (model prog w) A (ofAClassStatement n v) Q E s
 | .int i,_,n,A,s,Q,.int _ t,hn,h=>by
  have:ofAClassStatement n (.int i t)=pure false:=by cases n <;> rfl
  rw [this]; exact wpAny_pure h
 | .str x,_,n,A,s,Q,.str _ t,hn,h=>by
  have:ofAClassStatement n (.str x t)=pure false:=by cases n <;> rfl
  rw [this]; exact wpAny_pure h
 | .tup ds,_,0,A,s,Q,.tup (a:=a) (items:=items) ho hc hd r,hn,h=>by
  simp only [Dt.dp] at hn
  omega
 | .tup ds,_,n + 1,A,s,Q,.tup (a:=a) (items:=items) ho hc hd r,hn,h=>by
  have hn':Dt.dps ds≤n:=by simp only [Dt.dp] at hn; omega
  unfold ofAClassStatement
  refine wpAny_bind (wpAny_typeOf (T:="tuple") ⟨_,ho,hc⟩ ?_)
  dsimp only
  refine wpAny_bind (wpAny_pure ?_)
  simp only [Bool.not_true,Bool.false_eq_true,if_false]
  refine wpAny_bind (wpAny_seqItems ho hd ?_)
  show wpAny _ _ (forIn items _ _ >>= _) _ _ _
  rw [← Array.forIn_toList]
  exact wpAny_bind (ofClss_D ds items.toList n A s _ r hn' (wpAny_pure h))
theorem ofClss_D:∀ (ds:List Dt) (vs:List Value) (n:Nat) (A:Around) (s:Shared) (Q:Option Bool×PUnit→Shared→Prop),DatHs s.heap vs ds→Dt.dps ds≤n→Q (none,⟨⟩) s →
  wpAny (model prog w) A (forIn vs ((none,⟨⟩):Option Bool×PUnit) fun x r=>do
   let c ← ofAClassStatement n x
   if c=true then pure (ForInStep.done (some true,⟨⟩)) else pure (ForInStep.yield (none,⟨⟩))) Q E s
 | [],_,n,A,s,Q,.nil,_,h=>wpAny_pure h
 | d :: ds,_,n,A,s,Q,.cons q t,hn,h=>by
  simp only [Dt.dps] at hn
  rw [List.forIn_cons]
  exact wpAny_bind (wpAny_bind (ofCls_D d _ n A s _ q (by omega) (wpAny_pure (ofClss_D ds _ n A s Q t (by omega) h))))
end
end
end BF
namespace BF
open PySem PySem.Spec PyProof.Rows L2 PySem.SeqAt
theorem DatHs.length {h:Heap}:∀ {ds:List Dt} {vs:List Value},DatHs h vs ds→vs.length=ds.length
 | [],_,.nil=>rfl
 | d :: ds,_,.cons q t=>by rw [List.length_cons,List.length_cons,DatHs.length t]
mutual
theorem DatH.inj {h:Heap}:∀ {d:Dt} {v:Value} {d':Dt},DatH h v d→DatH h v d'→d=d'
 | .int i,_,d',.int _ _,q=>by cases q; rfl
 | .str x,_,d',.str _ _,q=>by cases q; rfl
 | .tup ds,_,d',.tup ho hc hd r,q=>by
  cases q with
  | tup ho2 hc2 hd2 r2 =>
   rw [ho] at ho2
   cases ho2
   rw [hd] at hd2
   cases hd2
   rw [DatHs.inj r r2]
theorem DatHs.inj {h:Heap}:∀ {ds:List Dt} {vs:List Value} {ds':List Dt},DatHs h vs ds→DatHs h vs ds'→ds=ds'
 | [],_,_,.nil,q=>by cases q; rfl
 | d :: ds,_,_,.cons q t,q2=>by
  cases q2 with
  | cons a b=>rw [DatH.inj q a,DatHs.inj t b]
end
section
variable {s:Shared}
theorem tup_H {h:Heap} {u:Value} {l:List Dt} (q:DatH h u (.tup l)):∃ a its o n,u=.ref a∧h.get? a=some o∧o.cls=.type "tuple"∧o.data=.seq its n∧DatHs h its.toList l:=by
 cases q with
 | tup ho hc hd r=>exact ⟨_,_,_,_,rfl,ho,hc,hd,r⟩
mutual
theorem eqAt_H:∀ {d d':Dt} {u u':Value} (A:Around),DatH s.heap u d→DatH s.heap u' d'→A.units + d.dp < cLine→EqAt A s u u' (Dt.beq d d')
 | .int i,.int j=>by
  intro A h h' hu
  cases h with
  | int _ t =>
  cases h' with
  | int _ t'=>exact EqAt.int_int i t j t'
 | .str x,.str y=>by
  intro A h h' hu
  cases h with
  | str _ t =>
  cases h' with
  | str _ t'=>exact EqAt.str_str x t y t'
 | .int i,.str y=>by
  intro A h h' hu
  cases h with
  | int _ t =>
  cases h' with
  | str _ t'=>exact EqAt.int_str i t y t'
 | .str x,.int j=>by
  intro A h h' hu
  cases h with
  | str _ t =>
  cases h' with
  | int _ t'=>exact EqAt.str_int x t j t'
 | .int i,.tup m=>by
  intro A h h' hu
  cases h with
  | int _ t =>
  cases h' with
  | tup ho hc hd r=>exact EqAt.int_tuple i t ⟨_,ho,hc,_,hd⟩ (by omega)
 | .str x,.tup m=>by
  intro A h h' hu
  cases h with
  | str _ t =>
  cases h' with
  | tup ho hc hd r=>exact EqAt.str_tuple x t ⟨_,ho,hc,_,hd⟩ (by omega)
 | .tup l,.int j=>by
  intro A h h' hu
  cases h with
  | tup ho hc hd r =>
  cases h' with
  | int _ t'=>exact EqAt.tuple_int j t' ⟨_,ho,hc,_,hd⟩ (by omega)
 | .tup l,.str y=>by
  intro A h h' hu
  cases h with
  | tup ho hc hd r =>
  cases h' with
  | str _ t'=>exact EqAt.tuple_str y t' ⟨_,ho,hc,_,hd⟩ (by omega)
 | .tup l,.tup m=>by
  intro A h h' hu
  obtain ⟨a,its,o,n,rfl,ho,hc,hd,r⟩:=tup_H h
  obtain ⟨b,its',o',n',rfl,ho',hc',hd',r'⟩:=tup_H h'
  by_cases hab:a=b
  ·subst hab
   have z:=DatH.inj (DatH.tup ho hc hd r) (DatH.tup ho' hc' hd' r')
   rw [z,Dt.beq_self]
   exact EqAt.same _
  ·have n1:its.size=l.length:=by rw [← Array.length_toList,r.length]
   have n2:its'.size=m.length:=by rw [← Array.length_toList,r'.length]
   have hd2:A.units + (Dt.dps l + 1) < cLine:=by simpa only [Dt.dp] using hu
   have R:=RcAt.tuples (A:=A) (s:=s) (e:=itEq l m) ⟨_,ho,hc,_,hd⟩ ⟨_,ho',hc',_,hd'⟩ (by omega) (fun j h1 h2=>by
    have:=eqsAt_H A.in1 r r' (by show A.units + 1 + _ < _; omega) j
    exact this _ _ (by simp) (by simp))
   rw [n1,n2,all_itEq] at R
   exact EqAt.of_refs hab R
theorem eqsAt_H:∀ {ds ds':List Dt} {us us':List Value} (A:Around),DatHs s.heap us ds→DatHs s.heap us' ds'→A.units + Dt.dps ds < cLine →
  ∀ (j:Nat) (u u':Value),us[j]?=some u→us'[j]?=some u'→EqAt A s u u' (itEq ds ds' j)
 | [],_=>by
  intro A h h' hu j u u' e e'
  cases h
  simp at e
 | d :: ds,[]=>by
  intro A h h' hu j u u' e e'
  cases h'
  simp at e'
 | d :: ds,d' :: ds'=>by
  intro A h h' hu j u u' e e'
  cases h with
  | cons h t =>
  cases h' with
  | cons h' t' =>
  simp only [Dt.dps] at hu
  cases j with
  | zero =>
   have e1:=Option.some.inj e
   have e2:=Option.some.inj e'
   subst e1 e2
   exact eqAt_H A h h' (by omega)
  | succ j =>
  have:=eqsAt_H A t t' (by omega) j u u' (by simpa using e) (by simpa using e')
  have z:itEq (d :: ds) (d' :: ds') (j + 1)=itEq ds ds' j:=by simp [itEq]
  rw [z]
  exact this
end
end
section
variable {prog:Program} {w:World} {E:Value→Shared→Prop} {A:Around} {s:Shared}
end
theorem mid_old1 {h:Heap} {vs:List Value} {c:Addr} {o:Obj} (e:h.get? c=some o):(midHeap (h.push (seqObj "list" vs.toArray 0)) h.objs.size vs).get? c=some o:=by
 have hc:=Heap.lt_size e
 refine Heap.get?_push_of_some _ (Heap.get?_push_of_some _ ?_)
 rw [Heap.get?_update_other _ _ (Ne.symm (Nat.ne_of_lt hc))]
 exact Heap.get?_push_of_some _ e
section
variable {X:Cx}
theorem sort_tail {pins:List (Addr×Obj)} {σ:L2.St} {H:Hp} {s:Shared} (I:Inv X pins σ H s) {A:Around} {E:Value→Shared→Prop} {its:List Value} {ys:List V} {ds:List Dt} {T:String} (rv:Vals ys its) (hlen:its.length≤sizeLine) (hD:DtsIs H ys ds)
  (hT:∀ d∈ds,∃ e r,d=.tup (e :: r)∧e.tag=T) (hL:∀ d∈ds,∀ d'∈ds,Dt.like d d'=true) (hu:∀ d∈ds,A.units + 4 + d.dp < cLine) {R:Fin→Shared→Prop}
  (q:∀ l zs es h',zs.Perm ys→DtsIs H zs es→es.Perm ds→es.Pairwise (fun d d'=>Dt.blt d' d=false)→H l=none→Inv X pins σ (upd H l (.lst zs)) { s with heap:=h' }→R (.done (.ret (.ref l))) { s with heap:=h' }) :
  wpAny (model X.prog X.w) A (do
   let l ← newList its
   let _ ← holding [l] (call (.builtin "list.sort") [l] [])
   ret l) R E s:=by
 have I6:Inv X pins σ H { s with heap:=midHeap (s.heap.push (seqObj "list" its.toArray 0)) s.heap.objs.size its }:=I.kept (t':=s.toks) fun b o e=>mid_old1 e
 refine wpAny_bind (wpAny_newList ?_)
 have hb:(s.heap.push (seqObj "list" its.toArray 0)).get? s.heap.objs.size=some (seqObj "list" its.toArray 0):=Heap.get?_push_size _ rfl
 have o:Σ' o:Ord (model X.prog X.w) A.in1 E { s with heap:=midHeap (s.heap.push (seqObj "list" its.toArray 0)) s.heap.objs.size its } (tupKind (Value.type T != Value.type "tuple")),o.all (pairsOf its)∧∀ x y,o.le x y→Dt.blt (datKey H y) (datKey H x)=false:=by
  refine ⟨ordT I6 X.prog X.w A.in1 E _ (fun d=>d∈ds) fun d d' hd hd'=>?_,fun i x ex=>?_,fun x y hxy=>hxy⟩
  ·obtain ⟨e,l,rfl,et⟩:=hT d hd
   obtain ⟨e',l',rfl,et'⟩:=hT d' hd'
   refine ⟨_,_,rfl,rfl,by simpa only [Dt.like] using hL _ hd _ hd',?_,fun hf b hb=>?_⟩
   ·have:=hu _ hd
    simp only [Dt.dp] at this
    show A.units + 1 + _ < _
    omega
   ·have:e=b:=by simpa using hb
    subst this
    cases e with
    | int _=>rfl
    | str _=>rfl
    | tup m=>rw [← et] at hf; simp [Dt.tag] at hf
  ·have hx:(pairsOf its).toList[i]?=some x:=by simpa using ex
   rw [pairsOf_toList] at hx
   obtain ⟨d,e1,e2⟩:=dts_at hD rv i x.1 (by
    rw [List.getElem?_zip_eq_some] at hx
    exact hx.1)
   exact ⟨d,e2,List.mem_of_getElem? e1⟩
 obtain ⟨o,ga,hle⟩:=o
 refine wpAny_bind (wpAny_holding (wpAny_call_entry slot_list_sort ⟨_,hb,rfl⟩ entry_list_sort (list_sort_any (s:={ s with heap:=s.heap.push (seqObj "list" its.toArray 0) }) (kd:=tupKind (Value.type T != Value.type "tuple")) hb hlen (fun h2 Q q'=>?_) o ga fun ks kp ku=>⟨_,rfl,?_⟩) (args_list_sort _)))
 ·obtain ⟨fs,k,lf,hf⟩:=katT I6 hD rv hT
  refine PySem.W.kat_kind (T:=.type T) k (by omega) (fun v hv=>?_) (by simp) q'
  obtain ⟨e,he,et⟩:=hf v hv
  exact et ▸ looks_D I6 he
 ·refine wpAny_pure ?_
  have kl:ks.toList.Perm (its.zip its):=by rw [← pairsOf_toList]; exact Array.perm_iff_toList_perm.mp kp
  have k2:((ks.map (·.2)).toList).Perm its:=by
   rw [Array.toList_map]
   have:=kl.map (·.2)
   rwa [List.map_snd_zip (by omega)] at this
  have k12:∀ x∈ks.toList,x.1=x.2:=fun x hx=>by
   have:=kl.mem_iff.mp hx
   obtain ⟨i,e⟩:=List.mem_iff_getElem?.mp this
   rw [List.getElem?_zip_eq_some] at e
   exact Option.some.inj (e.1.symm.trans e.2)
  obtain ⟨zs,vz,pz⟩:=vals_perm k2.symm rv
  obtain ⟨es,de,pe⟩:=dts_perm pz hD
  refine q s.heap.objs.size zs es _ pz.symm de pe.symm ?_ (I.hok.fresh (Nat.le_refl _)) (I.laid (t':=s.toks) (fun b o e=>?_) (Nat.le_refl _) ?_)
  ·have ku':=ku.imp fun {x y} z=>hle x y z
   rw [List.pairwise_iff_getElem] at ku' ⊢
   intro i j hi hj hij
   have lks:ks.toList.length=es.length:=by
    rw [kl.length_eq,List.length_zip,← de.length,← pz.length_eq,rv.length,Nat.min_self]
   have z:=ku' i j (by omega) (by omega) hij
   have key:∀ (i:Nat) (h1:i < ks.toList.length) (h2:i < es.length),datKey H ks.toList[i]=es[i]:=fun i h1 h2=>by
    have e0:((ks.map (·.2)).toList)[i]?=some ks.toList[i].2:=by
     rw [Array.toList_map,List.getElem?_map,List.getElem?_eq_getElem h1]; rfl
    obtain ⟨d,e1,e2⟩:=dts_at de vz i _ e0
    rw [List.getElem?_eq_getElem h2] at e1
    cases e1
    refine datKey_eq ?_
    rw [k12 _ (List.getElem_mem h1)]
    exact e2
   rw [key i (by omega) hi,key j (by omega) hj] at z
   exact z
  ·have hlt:=Heap.lt_size e
   rw [sortedHeap_old (Nat.ne_of_lt hlt) (by rw [Heap.size_push]; exact Nat.lt_succ_of_lt hlt)]
   exact Heap.get?_push_of_some _ e
  ·obtain ⟨n,e⟩:=sortedHeap_at (out:=ks.map (·.2)) hb
   refine ⟨by rw [← pz.length_eq,rv.length]; exact hlen,(ks.map (·.2)).toList,n,vz,?_⟩
   rw [e]
end
theorem dps_le:∀ {ds:List Dt} {n:Nat},(∀ d∈ds,d.dp≤n)→Dt.dps ds≤n
 | [],n,_=>by simp [Dt.dps]
 | d :: ds,n,h=>by
  simp only [Dt.dps]
  have:=h d List.mem_cons_self
  have:=dps_le (ds:=ds) fun x hx=>h x (List.mem_cons_of_mem _ hx)
  omega
section
variable {X:Cx}
theorem op_neL {k:Nat} (hr:Room k X.A):OpR X (compareOp .NotEq) (fun x y H Q=>∃ a b xs ys ds es,x=.ref a∧y=.ref b∧SqL X.K H a xs∧SqL X.K H b ys∧DtsIs H xs ds∧DtsIs H ys es∧(∀ d∈ds,d.dp≤50)∧Q (.bl (!Dt.beqs ds es)) H):=by
 intro pins s σ H x y v u Q I rx ry h
 obtain ⟨a,b,xs,ys,ds,es,rfl,rfl,hx,hy,hd,he,h5,q⟩:=h
 have hu:=hr.units
 have h5':=dps_le h5
 cases rx
 cases ry
 obtain ⟨its,rv,p,_⟩:=I.list hx
 obtain ⟨its',rv',p',_⟩:=I.list hy
 have n1:its.toArray.size=ds.length:=by rw [List.size_toArray,← rv.length,hd.length]
 have n2:its'.toArray.size=es.length:=by rw [List.size_toArray,← rv'.length,he.length]
 have fin:∀ c,c=(!Dt.beqs ds es)→RcNeAt X.A s (.ref a) (.ref b) c→wpAny (model X.prog X.w) X.A (richCompare .NotEq (.ref a) (.ref b)) (EP X pins σ Q) X.xe s:=fun c hc R=>by
  subst hc
  exact R X.prog X.w X.xe _ ⟨.bl _,H,I,rfl,q⟩
 by_cases hl:ds.length=es.length
 ·have R:=RcNeAt.lists (A:=X.A) (s:=s) (e:=itEq ds es) p.isList p'.isList (by rw [n1,n2,hl]) (by omega) (fun j j1 j2=>eqsAt_D I X.A.in1 hd rv he rv' (by show X.A.units + 1 + _ < _; omega) j _ _ (by simp) (by simp))
  refine fin _ ?_ R
  rw [n1,← all_itEq,hl,Nat.min_self]
  simp
 ·refine fin true ?_ (RcNeAt.lists_lengths p.isList p'.isList (by rw [n1,n2]; simpa using hl) (by omega))
  rw [← all_itEq]
  simp [hl]
end
theorem Dt.beqs_self (l:List Dt):Dt.beqs l l=true:=(Dt.beqs_iff l l).mpr rfl
structure Pl where
 p:Int×Int
 q:Int×Int
 c:Str
def hD (p:Int×Int):Dt:=.tup [.int p.1,.int p.2]
def lD (a:Pl):Dt:=.tup [hD a.p,hD a.q]
def pD (a:Pl):Dt:=.tup [lD a,.str a.c]
def hLt (p q:Int×Int):Bool:=HT.lexLt [p.1,p.2] [q.1,q.2]
theorem hLt_iff (p q:Int×Int):hLt p q=true↔p.1 < q.1∨(p.1=q.1∧p.2 < q.2):=by
 unfold hLt
 rw [lex2]
 simp
theorem hLt_same {p q:Int×Int} (h1:hLt p q=false) (h2:hLt q p=false):p=q:=by
 have a:¬ (p.1 < q.1∨(p.1=q.1∧p.2 < q.2)):=fun z=>by rw [(hLt_iff p q).mpr z] at h1; cases h1
 have b:¬ (q.1 < p.1∨(q.1=p.1∧q.2 < p.2)):=fun z=>by rw [(hLt_iff q p).mpr z] at h2; cases h2
 obtain ⟨x,y⟩:=p
 obtain ⟨z,w⟩:=q
 simp only at a b
 have e1:x=z:=by omega
 have e2:y=w:=by omega
 rw [e1,e2]
theorem pD_dp (a:Pl):(pD a).dp=3:=by simp [pD,lD,hD,Dt.dp,Dt.dps]
theorem pD_like (a b:Pl):Dt.like (pD a) (pD b)=true:=by simp [pD,lD,hD,Dt.like,Dt.likes]
theorem rise_eq:∀ {l m:List Dt},l.Perm m→l.Pairwise (fun d d'=>Dt.blt d' d=false)→m.Pairwise (fun d d'=>Dt.blt d' d=false)→l=m
 | [],m,p,_,_=>(List.nil_perm.mp p).symm
 | a :: l,[],p,_,_=>(List.perm_nil.mp p)
 | a :: l,b :: m,p,h1,h2=>by
  rw [List.pairwise_cons] at h1 h2
  have e:a=b:=by
   rcases List.mem_cons.mp (p.mem_iff.mp (List.mem_cons_self (a:=a) (l:=l))) with z | z
   ·exact z
   ·rcases List.mem_cons.mp (p.mem_iff.mpr (List.mem_cons_self (a:=b) (l:=m))) with y | y
    ·exact y.symm
    ·exact Dt.tot a b (h2.1 a z) (h1.1 b y)
  subst e
  rw [rise_eq ((List.perm_cons a).mp p) h1.2 h2.2]
mutual
theorem DtIs.updL {H:Hp} {a:Addr} {xs:List V} {o:HO} (ha:H a=some (.lst xs)):∀ {d:Dt} {v:V},DtIs H v d→DtIs (upd H a o) v d
 | .int i,_,.int _=>.int i
 | .str x,_,.str _=>.str x
 | .tup ds,_,.tup (a:=b) e q=>.tup (by
   have:b≠a:=fun z=>by rw [z,ha] at e; cases e
   rw [upd_ne this]; exact e) (DtsIs.updL ha q)
theorem DtsIs.updL {H:Hp} {a:Addr} {xs:List V} {o:HO} (ha:H a=some (.lst xs)):∀ {ds:List Dt} {vs:List V},DtsIs H vs ds→DtsIs (upd H a o) vs ds
 | [],_,.nil=>.nil
 | d :: ds,_,.cons q t=>.cons (DtIs.updL ha q) (DtsIs.updL ha t)
end
end BF
namespace BF
open PySem PySem.Spec PyProof.Rows L2
theorem laterS {G:Prop} {A:L2.St→Hp→Prop} (C:L2.St→Hp→Prop) (main:(∀ σ H',C σ H'→A σ H')→G) (last:∀ σ H',C σ H'→A σ H'):G:=main last
theorem ifC {c:Bool} {A B:Prop} (a:c=true→A) (b:c=false→B):if c=true then A else B:=by
 cases c with
 | true=>exact a rfl
 | false=>exact b rfl
theorem same_updN {H H2:Hp} {L:Addr} {o:HO} (s:Same H H2) (n:H L=none):Same H (upd H2 L o):=fun b u e=>by
 rw [upd_ne (fun z=>by rw [z,n] at e; cases e)]
 exact s b u e
theorem DtsIs.snoc {H:Hp} {v:V} {d:Dt} (q:DtIs H v d):∀ {ds:List Dt} {vs:List V},DtsIs H vs ds→DtsIs H (vs ++ [v]) (ds ++ [d])
 | [],_,.nil=>.cons q .nil
 | _ :: _,_,.cons a t=>.cons a (DtsIs.snoc q t)
def Pic (H:Hp) (l:Addr) (ps:List Pl):Prop:=∃ xs,H l=some (.lst xs)∧DtsIs H xs (ps.map pD)
theorem Pic.same {H H':Hp} {l:Addr} {ps:List Pl} (h:Pic H l ps) (s:Same H H'):Pic H' l ps:=by
 obtain ⟨xs,a,b⟩:=h
 exact ⟨xs,s _ _ a,b.same s⟩
def Rise (ps:List Pl):Prop:=(ps.map pD).Pairwise (fun d d'=>Dt.blt d' d=false)
theorem pics_like (ps:List Pl):∀ d∈ps.map pD,∀ d'∈ps.map pD,Dt.like d d'=true:=fun d hd d' hd'=>by
 obtain ⟨a,_,rfl⟩:=List.mem_map.mp hd
 obtain ⟨b,_,rfl⟩:=List.mem_map.mp hd'
 exact pD_like a b
theorem pics_dp (ps:List Pl):∀ d∈ps.map pD,d.dp≤3:=fun d hd=>by
 obtain ⟨a,_,rfl⟩:=List.mem_map.mp hd
 rw [pD_dp]
 exact Nat.le_refl _
def ordP (p q:Int×Int):(Int×Int)×(Int×Int):=if hLt p q=true then (p,q) else (q,p)
theorem pic_at {H:Hp} {v:V} {a:Pl} (h:DtIs H v (pD a)):∃ r x,v=.ref r∧H r=some (.tup [.ref x,.str a.c])∧DtIs H (.ref x) (lD a):=by
 cases h with
 | tup e q =>
  cases q with
  | @cons v1 _ _ _ h1 t =>
   cases t with
   | @cons v2 _ _ _ h2 t2 =>
    cases t2
    cases h2
    have z1:=h1
    cases z1 with
    | tup _ _=>exact ⟨_,_,rfl,e,h1⟩
theorem DtsIs.at {H:Hp}:∀ {ds:List Dt} {vs:List V},DtsIs H vs ds→∀ (i:Nat) (v:V),vs[i]?=some v→∃ d,ds[i]?=some d∧DtIs H v d
 | [],_,.nil,i,v,e=>by simp at e
 | d :: ds,_,.cons q t,0,v,e=>by simp at e; subst e; exact ⟨d,rfl,q⟩
 | d :: ds,_,.cons q t,i + 1,v,e=>by
  simp at e
  obtain ⟨d',a,b⟩:=DtsIs.at t i v e
  exact ⟨d',by simpa using a,b⟩
theorem none_same {H H':Hp} {l:Addr} (s:Same H H') (n:H' l=none):H l=none:=by
 cases h:H l with
 | none=>rfl
 | some u=>rw [s _ _ h] at n; cases n
theorem min_max {H:Hp} {x y:Addr} {p q:Int×Int} (hx:two H x p) (hy:two H y q) :
  DtIs H (if hLt q p=true then V.ref y else .ref x) (hD (ordP p q).1)∧DtIs H (if hLt p q=true then V.ref y else .ref x) (hD (ordP p q).2):=by
 unfold ordP
 cases h1:hLt p q with
 | true =>
  have h2:hLt q p=false:=lex_asy h1
  rw [h2]
  exact ⟨two_dt hx,two_dt hy⟩
 | false =>
  cases h2:hLt q p with
  | true=>exact ⟨two_dt hy,two_dt hx⟩
  | false =>
   have:=hLt_same h1 h2
   subst this
   exact ⟨two_dt hx,two_dt hx⟩
theorem eqv_two {p q:Int×Int}:hD p=hD q↔p=q:=by
 obtain ⟨a,b⟩:=p
 obtain ⟨c,d⟩:=q
 simp [hD]
def behN (a b:Nat):Nat:=((if 4≤b then (b:Int) - a else (b:Int) + a) % 4).toNat + (if decide (4≤a)=decide (4≤b) then 0 else 4)
theorem behN_lt (a b:Nat):behN a b < 8:=by
 unfold behN
 have:((if 4≤b then (b:Int) - a else (b:Int) + a) % 4).toNat < 4:=by
  generalize (if 4≤b then (b:Int) - a else (b:Int) + a)=z
  omega
 have h2:(if decide (4≤a)=decide (4≤b) then 0 else 4)≤4:=by split <;> omega
 omega
theorem ordP_comm (p q:Int×Int):ordP p q=ordP q p:=by
 unfold ordP
 cases h1:hLt p q with
 | true =>
  have h2:hLt q p=false:=lex_asy h1
  rw [h2]
  rfl
 | false =>
  cases h2:hLt q p with
  | true=>rfl
  | false=>rw [hLt_same h1 h2]
def shH (e n:Int) (p:Int×Int):Int×Int:=(p.1 + e,p.2 + n)
end BF
namespace BF
open PySem PySem.Spec PyProof.Rows L2 PySem.W
instance:DecidableEq Dt:=fun a b=>decidable_of_iff (Dt.beq a b=true) (Dt.beq_iff a b)
theorem Dt.dec_eq (a b:Dt):decide (a=b)=Dt.beq a b:=by
 cases h:Dt.beq a b with
 | true=>exact decide_eq_true ((Dt.beq_iff a b).mp h)
 | false=>exact decide_eq_false fun z=>by rw [(Dt.beq_iff a b).mpr z] at h; cases h
mutual
def drawsD:Dt→Nat
 | .int _=>1
 | .str _=>1
 | .tup l=>drawsDs l + 1
def drawsDs:List Dt→Nat
 | []=>0
 | d :: l=>drawsD d + drawsDs l
end
section
variable {prog:Program} {w:World} {E:Value→Shared→Prop}
set_option maxRecDepth 100000 in
mutual
theorem pyHash_X:∀ (d:Dt) (v:Value) (A:Around) (s:Shared) (Q:Int→Shared→Prop),DatH s.heap v d→A.units + d.dp < cLine→Q (hashD w d) { s with toks:=s.toks + drawsD d }→wpAny (model prog w) A (pyHash v) Q E s
 | .int i,_,A,s,Q,.int _ t,hu,h=>wpAny_pyHash_int (by rw [hashD,drawsD] at h; exact h)
 | .str x,_,A,s,Q,.str _ t,hu,h=>wpAny_pyHash_str (by rw [hashD,drawsD] at h; exact h)
 | .tup ds,_,A,s,Q,.tup (a:=a) (items:=items) ho hc hd r,hu,h=>by
  have hu':A.units + (Dt.dps ds + 1) < cLine:=by simpa only [Dt.dp] using hu
  refine pyHash_slot (T:="tuple") ⟨_,ho,hc⟩ F.slot_tuple_hash F.entry_tuple_hash (F.args_tuple_hash_1 _) (beq_builtin_none _) (.inr (by omega)) ?_
  show wpAny _ _ (Builtin.Tuple.tupleItemsOf (.ref a) >>= _) _ _ s
  refine wpAny_bind (wpAny_tupleItemsOf ho hd ?_)
  refine wpAny_bind ?_
  rw [← Array.forIn_toList]
  refine hashLoop_X ds items.toList A.in1 s #[] _ r (by simp only [Around.in1_units]; omega) fun b hb=>?_
  show wpAny _ _ (retInt (Builtin.Tuple.tupleHashOf b.toList)) _ _ _
  rw [hb]
  exact wpAny_bind (wpAny_mkInt (wpAny_pure ⟨_,_,rfl,by rw [hashD,drawsD,← Nat.add_assoc] at h; exact h⟩))
theorem hashLoop_X:∀ (ds:List Dt) (vs:List Value) (A:Around) (s:Shared) (b:Array Int) (Q:Array Int→Shared→Prop),DatHs s.heap vs ds→A.units + Dt.dps ds < cLine →
  (∀ b',b'.toList=b.toList ++ hashDs w ds→Q b' { s with toks:=s.toks + drawsDs ds }) →
  wpAny (model prog w) A (forIn vs b fun x r=>do let h ← pyHash x; pure PUnit.unit; pure (ForInStep.yield (r.push h))) Q E s
 | [],_,A,s,b,Q,.nil,_,h=>wpAny_pure (h b (by simp [hashDs]))
 | d :: ds,_,A,s,b,Q,.cons q t,hu,h=>by
  simp only [Dt.dps] at hu
  rw [List.forIn_cons]
  refine wpAny_bind (wpAny_bind (pyHash_X d _ A s _ q (by omega) ?_))
  refine wpAny_bind (wpAny_pure (wpAny_pure ?_))
  refine hashLoop_X ds _ A _ _ Q t (by omega) fun b' hb=>?_
  have:=h b' (by simp [hb,hashDs])
  rw [drawsDs,← Nat.add_assoc] at this
  exact this
end
end
mutual
theorem DatH.but {h h':Heap} {c:Addr} {o:Obj} {es:Array DictEntry} {ep:Nat} (ho:h.get? c=some o) (hd:o.data=.dict es ep) (k:Heap.SameBut c h h'):∀ {d:Dt} {v:Value},DatH h v d→DatH h' v d
 | _,_,.int i t=>.int i t
 | _,_,.str x t=>.str x t
 | .tup ds,_,.tup (a:=a) ho' hc hd' r=>.tup (k.extBut _ _ (fun z=>by
   rw [z,ho] at ho'
   cases ho'
   rw [hd] at hd'
   cases hd') ho') hc hd' (DatHs.but ho hd k r)
theorem DatHs.but {h h':Heap} {c:Addr} {o:Obj} {es:Array DictEntry} {ep:Nat} (ho:h.get? c=some o) (hd:o.data=.dict es ep) (k:Heap.SameBut c h h'):∀ {ds:List Dt} {vs:List Value},DatHs h vs ds→DatHs h' vs ds
 | [],_,.nil=>.nil
 | d :: ds,_,.cons q t=>.cons (DatH.but ho hd k q) (DatHs.but ho hd k t)
end
def dtKind (prog:Program) (w:World):HeapKind prog w Dt where
 is:=fun h d a=>DatH h (.ref a) d∧d.dp≤8
 hash:=hashD w
 draws:=drawsD
 room:=fun A=>A.units + 9 < cLine
 inj:=fun hx hy=>DatH.inj hx.1 hy.1
 keeps:=fun x ho hd hs=>⟨x.1.but ho hd hs,x.2⟩
 pyHash:=fun hu hk h=>pyHash_X _ _ _ _ _ hk.1 (by have:=hk.2; omega) h
 eqBool:=fun {A E s x y a b Q} hu hx hy h=>eqAt_H A hx.1 hy.1 (by have:=hx.2; omega) _ _ _ _ (by rw [← Dt.dec_eq]; exact h)
 quiet:=fun hk h=>quiet_D _ _ 8 _ _ _ hk.1 hk.2 h
end BF
namespace BF
open PySem PySem.Spec PyProof.Rows L2
def DicPart (P:Program) (w:World) (h:Heap) (D:Addr) (xs:List (Dt×Addr×Value)):Prop:=∃ o es ep,h.get? D=some o∧o.ExactDict∧o.data=.dict es ep∧es.toList=xs.map (entryOfKey (dtKind P w))∧(xs.map (·.1)).Nodup
theorem DicPart.full {P:Program} {w:World} {h:Heap} {D:Addr} {xs:List (Dt×Addr×Value)} (p:DicPart P w h D xs) (k:∀ x∈xs,DatH h (.ref x.2.1) x.1∧x.1.dp≤8):h.DictOfH (dtKind P w) D xs:=by
 obtain ⟨o,es,ep,a,b,c,d,e⟩:=p
 exact ⟨o,es,ep,a,b,c,d,k,e⟩
theorem DicPart.of {P:Program} {w:World} {h:Heap} {D:Addr} {xs:List (Dt×Addr×Value)} (p:h.DictOfH (dtKind P w) D xs):DicPart P w h D xs:=by
 obtain ⟨o,es,ep,a,b,c,d,_,e⟩:=p
 exact ⟨o,es,ep,a,b,c,d,e⟩
theorem DicPart.keep {P:Program} {w:World} {h h':Heap} {D:Addr} {xs:List (Dt×Addr×Value)} (p:DicPart P w h D xs) (k:∀ o,h.get? D=some o→h'.get? D=some o):DicPart P w h' D xs:=by
 obtain ⟨o,es,ep,a,b,c,d,e⟩:=p
 exact ⟨o,es,ep,k o a,b,c,d,e⟩
theorem storedH_len (xs:List (Dt×Addr×Value)) (k:Dt) (a:Addr) (v:Value):(storedH xs k a v).length≤xs.length + 1:=by
 unfold storedH
 split
 ·rw [List.length_map]; omega
 ·rw [List.length_append]; exact Nat.le_refl _
theorem storedH_mem {xs:List (Dt×Addr×Value)} {k:Dt} {a:Addr} {v:Value} {x:Dt×Addr×Value} (h:x∈storedH xs k a v):(x.1=k∧x.2.1=a)∨∃ y∈xs,x.1=y.1∧x.2.1=y.2.1:=by
 unfold storedH at h
 split at h
 ·obtain ⟨y,hy,rfl⟩:=List.mem_map.mp h
  right
  refine ⟨y,hy,?_⟩
  unfold putAt
  split <;> exact ⟨rfl,rfl⟩
 ·rcases List.mem_append.mp h with h | h
  ·exact .inr ⟨x,h,rfl,rfl⟩
  ·rw [List.mem_singleton] at h
   rw [h]
   exact .inl ⟨rfl,rfl⟩
section
variable {prog:Program} {w:World} {A:Around} {R:Result→Shared→Prop} {I:Addr} {fp wr:List Addr} {St:Nat→Heap→Prop}
end
def dicO (P:Program) (w:World) (a:Addr) (xs:List (Dt×Addr×Value)):HO:=.ext fun h=>DicPart P w h a xs
structure DicH (P:Program) (w:World) (H:Hp) (a:Addr) (xs:List (Dt×Addr×Value)):Prop where
 at_:H a=some (dicO P w a xs)
 sys:(a == sysModules)=false
 len:xs.length≤1000
 key:∀ x∈xs,DtIs H (.ref x.2.1) x.1∧x.1.dp≤8
section
variable {X:Cx} {pins:List (Addr×Obj)} {σ:L2.St} {H:Hp} {s:Shared}
theorem dicH_of {a:Addr} {xs:List (Dt×Addr×Value)} (I:Inv X pins σ H s) (d:DicH X.prog X.w H a xs):s.heap.DictOfH (dtKind X.prog X.w) a xs:=by
 have ok:=I.hok a _ d.at_
 exact DicPart.full ok.1 fun x hx=>⟨datH_of I (d.key x hx).1 rfl,(d.key x hx).2⟩
end
section
variable {X:Cx}
end
abbrev KD:List (Dt×V)→List (Dt×Addr×Value)→Prop:=Paired fun (p:Dt×V) (q:Dt×Addr×Value)=>p.1=q.1∧RelV p.2 q.2.2
theorem KD.val {kvs:List (Dt×V)} {xs:List (Dt×Addr×Value)} (r:KD kvs xs) (k:Dt):RelO (valV kvs k) ((atKey xs k).map (·.2)):=by
 induction r with
 | nil=>exact True.intro
 | @cons p q ps qs h t ih =>
  obtain ⟨h1,h2⟩:=h
  by_cases e:p.1=k
  ·have e':q.1=k:=h1.symm.trans e
   have b:atKey (q :: qs) k=some q.2:=by simp [atKey,List.find?_cons,e']
   rw [valV_pos e,b]; exact h2
  ·have e':¬ q.1=k:=fun z=>e (h1.trans z)
   have b:atKey (q :: qs) k=atKey qs k:=by simp [atKey,List.find?_cons,e']
   rw [valV_neg e,b]; exact ih
theorem KD.repl {kvs:List (Dt×V)} {xs:List (Dt×Addr×Value)} (r:KD kvs xs) (k:Dt) {y:V} {u:Value} (ry:RelV y u):KD (kvs.map fun kv=>if kv.1=k then (kv.1,y) else kv) (xs.map (putAt k u)):=by
 induction r with
 | nil=>exact .nil
 | @cons p q ps qs h t ih =>
  rw [List.map_cons,List.map_cons]
  refine .cons ?_ ih
  obtain ⟨h1,h3⟩:=h
  unfold putAt
  by_cases e:p.1=k
  ·rw [if_pos e,if_pos (h1.symm.trans e)]; exact ⟨h1,ry⟩
  ·rw [if_neg e,if_neg (fun z=>e (h1.trans z))]; exact ⟨h1,h3⟩
theorem KD.put {kvs:List (Dt×V)} {xs:List (Dt×Addr×Value)} (r:KD kvs xs) (k:Dt) {b:Addr} {y:V} {u:Value} (ry:RelV y u):KD (putK kvs k y) (storedH xs k b u):=by
 have e:(kvs.any fun kv=>decide (kv.1=k))=(atKey xs k).isSome:=by
  rw [valV_any,(r.val k).isSome_eq,Option.isSome_map]
 unfold putK storedH
 rw [e]
 by_cases q:(atKey xs k).isSome=true
 ·rw [if_pos q,if_pos q]; exact r.repl k ry
 ·rw [if_neg q,if_neg q]; exact Paired.snoc r ⟨rfl,ry⟩
def DicV (P:Program) (w:World) (H:Hp) (a:Addr) (kvs:List (Dt×V)):Prop:=∃ xs,DicH P w H a xs∧KD kvs xs
mutual
theorem DtIs.updX {H:Hp} {a:Addr} {φ:Heap→Prop} {o:HO} (ha:H a=some (.ext φ)):∀ {d:Dt} {v:V},DtIs H v d→DtIs (upd H a o) v d
 | .int i,_,.int _=>.int i
 | .str x,_,.str _=>.str x
 | .tup ds,_,.tup (a:=b) e q=>.tup (by
   have:b≠a:=fun z=>by rw [z,ha] at e; cases e
   rw [upd_ne this]; exact e) (DtsIs.updX ha q)
theorem DtsIs.updX {H:Hp} {a:Addr} {φ:Heap→Prop} {o:HO} (ha:H a=some (.ext φ)):∀ {ds:List Dt} {vs:List V},DtsIs H vs ds→DtsIs (upd H a o) vs ds
 | [],_,.nil=>.nil
 | d :: ds,_,.cons q t=>.cons (DtIs.updX ha q) (DtsIs.updX ha t)
end
section
variable {X:Cx}
def tDNewD (P:Program) (w:World):TE:=fun _ H Q=>∀ a o,H a=none→DicV P w (upd H a o) a []→Q (.ref a) (upd H a o)
theorem pe_dnewD {pos:Pos}:PE X (.Dict [] [] pos) (tDNewD X.prog X.w):=fun pins s σ H Q I h=>by
 have fr:=I.hok.fresh (Nat.le_refl s.heap.objs.size)
 have dp:DicPart X.prog X.w (s.heap.push { cls:=.type "dict",data:=.dict #[] }) s.heap.objs.size []:=.of (Heap.DictOfH.new s.heap)
 refine wpAny_Dict_empty ⟨.ref s.heap.objs.size,_,I.laid (a:=s.heap.objs.size) (o:=dicO X.prog X.w s.heap.objs.size []) (t':=s.toks) (fun _ _ q=>Heap.get?_push_of_some _ q) (Nat.le_refl _) ⟨dp,⟨_,Heap.get?_push_size _ rfl⟩,fun h1 h2 p1 k=>p1.keep k⟩,rfl,h _ _ fr ⟨[],⟨upd_same,?_,Nat.zero_le _,fun _ hx=>nomatch hx⟩,.nil⟩⟩
 exact beq_eq_false_iff_ne.mpr (Nat.ne_of_gt I.big)
end
def DRaw (h:Heap) (d:Addr) (ks:List Value) (ep:Nat):Prop:=∃ o es,h.get? d=some o∧o.ExactDict∧o.data=.dict es ep∧es.toList.map (·.key)=ks
theorem DRaw.typeIs {s:Shared} {d:Addr} {ks:List Value} {ep:Nat} (q:DRaw s.heap d ks ep):s.TypeIs (.ref d) "dict":=let ⟨o,_,ho,hc,_⟩:=q; ⟨o,ho,hc.1⟩
section
variable {P:Program} {w:World} {A:Around} {E:Value→Shared→Prop} {s:Shared} {d it:Addr} {ks:List Value} {ep n:Nat}
end
end BF
namespace BF
open PySem PySem.Spec PyProof.Rows L2 PySem.SeqAt
section
variable {X:Cx}
theorem raw_of {pins:List (Addr×Obj)} {σ:L2.St} {H:Hp} {s:Shared} {a:Addr} {xs:List (Dt×Addr×Value)} (I:Inv X pins σ H s) (d:DicH X.prog X.w H a xs):∃ ep,DRaw s.heap a (xs.map fun x=>Value.ref x.2.1) ep:=by
 obtain ⟨o,es,ep,ho,hc,dat,ek,_⟩:=dicH_of I d
 refine ⟨ep,o,es,ho,hc,dat,?_⟩
 rw [ek,List.map_map]
 rfl
end
end BF
namespace BF
open PySem PySem.Spec PyProof.Rows L2
section
variable {X:Cx} {o e:Expr} {es:List Expr} {to:TE} {t:TA} {name:Str} {apos cpos:Pos} {id:String} {r:V→List V→Hp→VK→Prop}
def tBMD (P:Program) (w:World) (r:V→List V→Hp→VK→Prop) (to:TE) (t:TA):TE:=fun σ H Q=>to σ H fun x H1=>(∃ a kvs,x=.ref a∧DicV P w H1 a kvs)∧t σ H1 fun xs H2=>r x xs H2 Q
theorem pe_bmD (slot:Slot "dict" name id) (hty:typeOf (.builtin id)=pure (.type "method_descriptor")) (hm:MtR X id r) (ho:PE X o to) (ha:PA X (e :: es) t)
  (hbase:attributeBase o name X.env (eval o X.env)=eval o X.env:=by rfl)
  (hfew:((backTo cpos (starEach (e :: es) X.env)).all (fun x=>!x.1) && (backToKw cpos (keywordEach [] X.env)).all (fun x=>x.1.isSome) && decide ((e :: es).length + ([]:List Keyword).length + (if ([]:List Keyword).isEmpty then 0 else 1) < 30))=true:=by rfl)
  (hline:(apos.endLine == cpos.line)=true:=by rfl) (hs:starEach (e :: es) X.env=(false,eval e X.env) :: starEach es X.env:=by rfl) (hplain:(backTo cpos (starEach es X.env)).any (·.1)=false:=by rfl) :
  PE X (.Call (.Attribute o name apos) (e :: es) [] cpos) (tBMD X.prog X.w r to t):=by
 intro pins s σ H Q I h
 refine wpAny_Call_method_late hbase hfew hline rfl (thn (ho pins s σ H _ I h) fun v s1 ⟨x,H1,I1,r1,⟨a,kvs,ex,⟨xs,dic,_⟩⟩,q1⟩=>?_)
 subst ex
 cases r1
 obtain ⟨ob,_,_,e1,ex,_⟩:=dicH_of I1 dic
 refine ⟨"dict",id,F.plainAttrs_dict,slot,hty,⟨ob,e1,ex.1⟩,fun b e2=>by cases e2; exact ⟨ob,e1,ex.2.1⟩,?_⟩
 have hA:=ha cpos pins s1 σ H1 _ I1 q1
 rw [hs] at hA ⊢
 refine Calls.callWith_builtin (by show (false || (backTo cpos (starEach es X.env)).any (·.1))=false; rw [hplain] <;> rfl) (Calls.evalArgs_plain (thn hA fun us s2 ⟨vs,H2,I2,r2,q2⟩=>hm pins s2 σ H2 (.ref a) vs (.ref a) us Q I2 rfl r2 q2))
end
section
variable {P:Program} {w:World} {A:Around} {E:Value→Shared→Prop} {s:Shared} {K:Type} [DecidableEq K] {knd:HeapKind P w K}
theorem setDef_heap {d a:Addr} {xs:List (K×Addr×Value)} {k:K} {v:Value} {Q:Value→Shared→Prop} (hu:knd.room A) (hkey:knd.is s.heap k a) (hm:s.heap.DictOfH knd d xs)
  (h1:∀ p,atKey xs k=some p→Q p.2 { s with toks:=s.toks + knd.draws k })
  (h2:atKey xs k=none→∀ h',h'.DictOfH knd d (storedH xs k a v)→Heap.SameBut d s.heap h'→Q v { s with heap:=h',toks:=s.toks + knd.draws k }) (hsz:xs.length≤sizeLine) :
  wpAny (model P w) A (dictSetDefault d (.ref a) v) Q E s:=by
 obtain ⟨o,es,ep,ho,hc,hd,he,his,hn⟩:=hm
 unfold dictSetDefault; try with_reducible refine wpAny_holding ?_
 refine wpAny_bind (knd.pyHash hu hkey (wpAny_bind (wpAny_dictFind_heap (s:={ s with toks:=s.toks + knd.draws k }) hu hkey ho hd he his hn (fun hno=>?_) fun j p hj=>?_)))
 ·have hnot:k ∉ xs.map (·.1):=not_mem_keys_of_get hno
  refine wpAny_bind (wpAny_rule (wpAny_bind (wpAny_updateDictKeys (hz:=by have e:=size_of_entries he; omega) (s:={ s with toks:=s.toks + knd.draws k }) ho hd (wpAny_pure (h2 (atKey_none_of_get hno) _ ⟨_,_,ep + 1,Heap.get?_update_self _ ho (Obj.isFreed_of_dict (Obj.data_mapDictKeys hd _)),hc.mapDictKeys _,Obj.data_mapDictKeys hd _,?_,fun x hx=>?_,?_⟩ (Heap.SameBut.update ..))))))
  ·rw [storedH_new (atKey_none_of_get hno)]; simp [he,entryOfKey]
  ·rw [storedH_new (atKey_none_of_get hno)] at hx
   rcases List.mem_append.mp hx with hx | hx
   ·exact knd.keeps (his x hx) ho hd (Heap.SameBut.update ..)
   ·have e':=List.mem_singleton.mp hx
    subst e'
    exact knd.keeps hkey ho hd (Heap.SameBut.update ..)
  ·rw [storedH_new (atKey_none_of_get hno),List.map_append,List.nodup_append]
   refine ⟨hn,by simp,fun x hx y hy e'=>?_⟩
   have ey:=List.mem_singleton.mp hy
   rw [e',ey] at hx
   exact hnot hx
 ·refine wpAny_bind (wpAny_dictEntries (s:={ s with toks:=s.toks + knd.draws k }) ho hd ?_)
  rw [entry_at he j,hj]
  exact wpAny_bind (wpAny_rule (wpAny_pure (h1 p (atKey_of_get hn hj))))
end
section
variable {X:Cx}
theorem mt_setDef {k:Nat} (hr:Room k X.A):MtR X "dict.setdefault" (fun x vs H Q=>∃ (a b:Addr) (d:Dt) (kvs:List (Dt×V)) (v:V),x=.ref a∧vs=[.ref b,v]∧DtIs H (.ref b) d∧d.dp≤8∧DicV X.prog X.w H a kvs∧kvs.length < 1000 ∧
  (∀ u,valV kvs d=some u→Q u H)∧(valV kvs d=none→∀ o,DicV X.prog X.w (upd H a o) a (putK kvs d v)→Q v (upd H a o))):=by
 intro pins s σ H x vs v us Q I rx rv h
 obtain ⟨a,b,d,kvs,y,rfl,rfl,hd,h8,⟨xs,dic,kd⟩,hl,q1,q2⟩:=h
 have hu:=hr.units
 cases rx
 cases rv with
 | cons r1 r2 =>
  cases r2 with
  | cons r2 r3 =>
   cases r3
   cases r1
   rename_i dv
   have full:=dicH_of I dic
   have xl:xs.length < 1000:=by rw [← Paired.length kd]; exact hl
   have rel:=kd.val d
   refine wpAny_call_entry F.slot_dict_setdefault full.typeIs F.entry_dict_setdefault ?_ (F.args_dict_setdefault_3 _ _ _)
   unfold Builtin.«dict.setdefault»
   refine wpAny_bind ?_; unfold Builtin.Dict.keyAndDefault; refine wpAny_bind (wpAny_notOrdered_dict full.typeIs ?_)
   show wpAny _ _ (pure (a,Value.ref b,some dv)) _ _ s
   refine wpAny_pure ?_
   show wpAny _ _ (if (a == sysModules)=true then _ else (dictSetDefault a (.ref b) dv >>= _)) _ _ s
   rw [if_neg (fun e=>by rw [dic.sys] at e; cases e)]
   refine wpAny_bind (setDef_heap (knd:=dtKind X.prog X.w) (k:=d) (by show X.A.units + 1 + 9 < cLine; omega) ⟨datH_of I hd rfl,h8⟩ full (fun p hp=>?_) (fun hno h' dd' hsb=>?_) (sz (by omega)))
   ·rw [hp] at rel
    cases hv:valV kvs d with
    | none=>rw [hv] at rel; exact absurd rel id
    | some u=>rw [hv] at rel; exact wpAny_pure ⟨p.2,rfl,u,H,I.tok _,rel,q1 u hv⟩
   ·rw [hno] at rel
    cases hv:valV kvs d with
    | some u=>rw [hv] at rel; exact absurd rel id
    | none =>
     have dp:DicPart X.prog X.w h' a (storedH xs d b dv):=.of dd'
     refine wpAny_pure ⟨dv,rfl,y,upd H a (dicO X.prog X.w a (storedH xs d b dv)),d_write I (by rw [dic.at_]; exact True.intro) hsb (let ⟨q,_,_,hq,_⟩:=dd'; ⟨q,hq⟩) ⟨dp,(let ⟨q,_,_,hq,_⟩:=dd'; ⟨q,hq⟩),fun h1 h2 p1 k=>p1.keep k⟩,r2,q2 hv _ ⟨_,⟨upd_same,dic.sys,?_,fun z hz=>?_⟩,kd.put d r2⟩⟩
     ·exact Nat.le_trans (storedH_len _ _ _ _) (by omega)
     ·rcases storedH_mem hz with ⟨z1,z2⟩ | ⟨y',hy,z1,z2⟩
      ·rw [z1,z2]; exact ⟨DtIs.updX dic.at_ hd,h8⟩
      ·rw [z1,z2]; exact ⟨DtIs.updX dic.at_ (dic.key y' hy).1,(dic.key y' hy).2⟩
end
section
variable {X:Cx}
theorem call_lenV:CallR X (.builtin "len") (fun xs H Q=>∃ (a:Addr) (kvs:List (Dt×V)),xs=[.ref a]∧DicV X.prog X.w H a kvs∧Q (.int kvs.length) H):=by
 intro pins s σ H xs us Q I r h
 obtain ⟨a,kvs,rfl,⟨ys,dic,kd⟩,q⟩:=h
 obtain ⟨u,rfl,rx⟩:=vals1 r
 cases rx
 obtain ⟨ep,raw⟩:=raw_of I dic
 obtain ⟨o,es,ho,hex,dat,ek⟩:=id raw
 have ty:=raw.typeIs
 have hn:es.size=kvs.length:=by
  have h1:es.toList.length=ys.length:=by rw [← List.length_map (f:=(·.key)),ek,List.length_map]
  have h2:kvs.length=ys.length:=Paired.length kd
  rw [← Array.length_toList,h1,h2]
 have hl:kvs.length≤1000:=by rw [show kvs.length=ys.length from Paired.length kd]; exact dic.len
 refine PyProof.Rows.call_len_slot (n:=(kvs.length:Int)) ty F.slot_dict_len (fun Q' hq=>?_) (by omega) (by omega) ⟨.int kvs.length,H,I.tok _,⟨_,rfl⟩,q⟩
 refine wpAny_call_entry F.slot_dict_len ty F.entry_dict_len ?_ (F.args_dict_len_1 _)
 unfold Builtin.«dict.__len__»; refine wpAny_bind ?_; unfold Builtin.Dict.dictSlotNone; refine wpAny_bind (wpAny_notOrdered_dict ty ?_)
 show wpAny _ _ (pure (Value.ref a)) _ _ _
 refine wpAny_pure ?_
 show wpAny _ _ (dictSize a >>= _) _ _ s
 unfold dictSize
 refine wpAny_bind (wpAny_bind (wpAny_dictEntries ho dat (wpAny_pure ?_)))
 refine wpAny_bind (m:=Builtin.Dict.pendingCount a) (wpAny_pendingCount_other dic.sys ?_)
 have e0:((es.size:Int) + ((0:Nat):Int))=(kvs.length:Int):=by rw [hn]; simp
 show wpAny _ _ (retInt ((es.size:Int) + ((0:Nat):Int))) _ _ s
 rw [e0]
 exact wpAny_bind (wpAny_mkInt (wpAny_pure ⟨_,rfl,hq⟩))
end
end BF
namespace BF
open PySem PySem.Spec PySem.Calls PyProof.Rows L2
def DEnt (h:Heap) (d:Addr) (es:Array DictEntry) (ep:Nat):Prop:=∃ o,h.get? d=some o∧o.ExactDict∧o.data=.dict es ep
theorem DEnt.at' {h h':Heap} {d:Addr} {es:Array DictEntry} {ep:Nat} (q:DEnt h d es ep) (k:∀ o,h.get? d=some o→h'.get? d=some o):DEnt h' d es ep:=let ⟨o,ho,r⟩:=q; ⟨o,k o ho,r⟩
theorem DEnt.lt {h:Heap} {d:Addr} {es:Array DictEntry} {ep:Nat} (q:DEnt h d es ep):d < h.objs.size:=let ⟨_,ho,_⟩:=q; Heap.lt_size ho
theorem DEnt.typeIs {s:Shared} {d:Addr} {es:Array DictEntry} {ep:Nat} (q:DEnt s.heap d es ep):s.TypeIs (.ref d) "dict":=let ⟨o,ho,hc,_⟩:=q; ⟨o,ho,hc.1⟩
abbrev itO (x:Value) (f:Bool) (d:Addr) (i n ep:Nat) (ok ov:Value):Obj:={ cls:=.type "dict_itemiterator",dict:=none,data:=.fields #[x,.bool f,.ref d,.int i 0,.int n 0,.int ep 0,ok,ov],slots:=#[] }
def ItS (h:Heap) (it d S:Addr) (i n ep:Nat):Prop:=∃ x f ok ov,h.get? it=some (itO x f d i n ep ok ov)∧((x=.none∧f=false)∨∃ (a:Addr) (oa:Obj),x=rawInt a∧h.get? a=some oa∧a≠it∧a≠S)
theorem ItS.keep {h h':Heap} {it d S:Addr} {i n ep:Nat} (q:ItS h it d S i n ep) (k:∀ b o,b≠S→h.get? b=some o→h'.get? b=some o) (ne:it≠S):ItS h' it d S i n ep:=by
 obtain ⟨x,f,ok,ov,e,r⟩:=q
 refine ⟨x,f,ok,ov,k _ _ ne e,r.imp id fun ⟨a,oa,e1,e2,e3,e4⟩=>⟨a,oa,e1,k _ _ e4 e2,e3,e4⟩⟩
section
variable {P:Program} {w:World} {A:Around} {E:Value→Shared→Prop} {s:Shared} {d it S:Addr} {es:Array DictEntry} {ep i:Nat}
theorem it_view {Q:Value→Shared→Prop} (lo:(d == sysModules)=false) (q:DEnt s.heap d es ep)
  (z:Q (.ref s.heap.objs.size) { s with heap:=s.heap.push { cls:=.type "dict_items",data:=.fields #[.ref d] } }):wpAny (model P w) A (call (.builtin "dict.items") [.ref d]) Q E s:=by
 refine wpAny_call_entry PySem.F.slot_dict_items q.typeIs PySem.F.entry_dict_items ?_ (PySem.F.args_dict_items_1 _)
 unfold Builtin.«dict.items»
 refine wpAny_bind ?_
 unfold Builtin.Dict.noArgs
 refine wpAny_bind (wpAny_notOrdered_dict q.typeIs ?_)
 show wpAny _ _ (pure d) _ _ s
 refine wpAny_pure ?_
 show wpAny _ _ (Builtin.Dict.showsAll d >>= _) _ _ s
 unfold Builtin.Dict.showsAll
 rw [if_neg (by rw [lo]; exact Bool.false_ne_true)]
 exact wpAny_bind (wpAny_pure (wpAny_bind (wpAny_newObj_type (wpAny_pure ⟨_,rfl,z⟩))))
theorem it_iter {v:Addr} {Q:Value→Shared→Prop} (hv:s.heap.IsItemsView v d) (q:DEnt s.heap d es ep)
  (z:Q (.ref s.heap.objs.size) { s with heap:=s.heap.push (itO .none false d 0 es.size ep .none .none) }):wpAny (model P w) A (pyIter (.ref v)) Q E s:=by
 obtain ⟨ov,hov,hcv,hdv⟩:=id hv
 obtain ⟨o,ho,hc,dat⟩:=id q
 refine wpAny_pyIter_slot hv.typeIs F.slot_dict_items_iter (wpAny_call_entry F.slot_dict_items_iter hv.typeIs F.entry_dict_items_iter ?_ (F.args_dict_items_iter_1 _))
 unfold Builtin.«dict_items.__iter__»
 refine wpAny_bind (wpAny_pure (wpAny_bind ?_))
 unfold Builtin.Dict_items.dictOf
 refine wpAny_bind (wpAny_field hov hdv (x:=.ref d) rfl (wpAny_pure (wpAny_bind ?_)))
 unfold Builtin.Dict_items.newIterator
 refine wpAny_bind (wpAny_dictEntries ho dat (wpAny_bind (wpAny_dictEpoch ho dat ?_)))
 have own:Builtin.Dict_items.ownsTuple "dict_itemiterator"=true:=by decide
 simp only [own,if_true]
 refine wpAny_newObj_type (wpAny_pure ⟨_,rfl,"dict_itemiterator",_,⟨_,Heap.get?_push_size _ rfl,rfl⟩,F.slot_dict_itemiterator_next.lookup,?_⟩)
  (by simp only [sizeOk,Builtin.Dict_items.ownedTupleFields,List.size_toArray,List.length_append,List.length_cons,List.length_nil,sizeLine_eq]; omega)
 simpa [itO,rawInt,Builtin.Dict_items.ownedTupleFields] using z
theorem it_next {e:DictEntry} {Q:Option Value→Shared→Prop} (st:ItS s.heap it d S i es.size ep) (q:DEnt s.heap d es ep) (hS:S < s.heap.objs.size) (hx:es[i]?=some e)
  (z:∀ h',ItS h' it d S (i + 1) es.size ep→h'.get? s.heap.objs.size=some { cls:=.type "tuple",data:=.seq #[e.key,e.val] }→h'.objs.size=s.heap.objs.size + 1 →
   (∀ b o,b≠it→s.heap.get? b=some o→h'.get? b=some o)→Q (some (.ref s.heap.objs.size)) { s with heap:=h' }):wpAny (model P w) A (pyNext (.ref it)) Q E s:=by
 obtain ⟨hp,g,dr,tk,os⟩:=s
 obtain ⟨x0,f,ok,ov,hit,own⟩:=st
 obtain ⟨od,hod,hcd,hdd⟩:=id q
 dsimp only at hit hS z
 have hT:Shared.TypeIs ⟨hp,g,dr,tk,os⟩ (.ref it) "dict_itemiterator":=⟨_,hit,rfl⟩
 unfold pyNext
 refine wpAny_bind (wpAny_attempt (wpAny_callSpecial?_slot (name:=Str.ofString "__next__") hT F.slot_dict_itemiterator_next
  (wpAny_call_entry F.slot_dict_itemiterator_next hT F.entry_dict_itemiterator_next ?_ (F.args_dict_itemiterator_next_1 _))))
 refine wpAny_bind (wpAny_pure (wpAny_bind (wpAny_bind ?_)))
 first | refine wpAny_bind (wpAny_typeNameOfWhole_itemiter hT (wpAny_pure ?_)) | refine wpAny_bind (wpAny_typeNameOf_itemiter hT (wpAny_pure ?_))
 refine wpAny_bind (wpAny_fieldsOf hit rfl ?_)
 have hown:Builtin.Dict_items.ownsTuple "dict_itemiterator"=true:=by decide
 simp only [hown,if_true]
 show wpAny _ _ (if (Value.ref d == Value.none)=true then _ else _) _ _ _
 rw [if_neg (show ¬ ((Value.ref d == Value.none)=true) from Bool.false_ne_true)]
 refine wpAny_bind (wpAny_pure (wpAny_bind (wpAny_dictEntries hod hdd ?_)))
 rw [if_neg (by simp)]
 refine wpAny_bind (wpAny_pure (wpAny_bind (wpAny_dictEpoch hod hdd ?_)))
 rw [if_neg (by simp)]
 refine wpAny_pure ?_
 have lt:i < es.size:=by
  rcases Nat.lt_or_ge i es.size with h | h
  ·exact h
  ·rw [Array.getElem?_eq_none h] at hx; cases hx
 have ee:es[i]=e:=by rw [Array.getElem?_eq_getElem lt] at hx; exact Option.some.inj hx
 simp only [show ¬ ((i:Int) < 0) from by omega,if_false,Int.toNat_natCast,Array.getElem?_eq_getElem lt]
 rw [ee]
 refine wpAny_bind ?_
 first | refine wpAny_bind (wpAny_typeNameOfWhole_itemiter hT (wpAny_pure ?_)) | refine wpAny_bind (wpAny_typeNameOf_itemiter hT (wpAny_pure ?_))
 refine wpAny_bind (wpAny_isOneOf_itemiter hT ?_)
 show wpAny _ _ (setField (.ref it) 3 (rawInt ((i:Int) + 1)) >>= _) _ _ ⟨hp,g,dr,tk,os⟩
 refine wpAny_bind (wpAny_setField_rec hit (by simp) fun h1 e1 s1=>?_)
 replace s1:Heap.SameBut it hp h1:=s1
 replace e1:h1.get? it=some (itO x0 f d (i + 1) es.size ep ok ov):=by
  have e:((i + 1:Nat):Int)=(i:Int) + 1:=by omega
  unfold itO; rw [e]; simpa [rawInt] using e1
 have hT1:Shared.TypeIs ⟨h1,g,dr,tk,os⟩ (.ref it) "dict_itemiterator":=⟨_,e1,rfl⟩
 refine wpAny_bind (wpAny_holding (wpAny_bind (wpAny_isOneOf_itemiter hT1 (wpAny_bind (wpAny_isOneOf_itemiter hT1 ?_)))))
 show wpAny _ _ (Builtin.Dict_items.pairFromOwner (.ref it) 6 e.key e.val) _ _ ⟨h1,g,dr,tk,os⟩
 unfold Builtin.Dict_items.pairFromOwner
 refine wpAny_bind (wpAny_newTuple ?_)
 have sz1:h1.objs.size=hp.objs.size:=s1.1
 have il:it < hp.objs.size:=Heap.lt_size hit
 have e2:(h1.push { cls:=.type "tuple",data:=.seq #[e.key,e.val] }).get? it=some (itO x0 f d (i + 1) es.size ep ok ov):=Heap.get?_push_of_some _ e1
 have t2:(h1.push { cls:=.type "tuple",data:=.seq #[e.key,e.val] }).get? hp.objs.size=some { cls:=.type "tuple",data:=.seq #[e.key,e.val] }:=by rw [← sz1]; exact Heap.get?_push_size _ rfl
 have z2:(h1.push { cls:=.type "tuple",data:=.seq #[e.key,e.val] }).objs.size=hp.objs.size + 1:=by rw [Heap.size_push,sz1]
 have k2:∀ b o,b≠it→hp.get? b=some o→(h1.push { cls:=.type "tuple",data:=.seq #[e.key,e.val] }).get? b=some o:=fun b o hb e'=>Heap.get?_push_of_some _ (s1.extBut b o hb e')
 rw [sz1]
 revert e2 t2 z2 k2
 generalize h1.push { cls:=.type "tuple",data:=.seq #[e.key,e.val] }=h2
 intro e2 t2 z2 k2
 have fin:∀ (h3:Heap) (x:Value) (f':Bool) (k' v':Value),h3.get? it=some (itO x f' d (i + 1) es.size ep k' v')→Heap.SameBut it h2 h3→((∃ (a:Addr) (oa:Obj),x=rawInt a∧h2.get? a=some oa∧a≠it∧a≠S))→Q (some (.ref hp.objs.size)) ⟨h3,g,dr,tk,os⟩:=fun h3 x f' k' v' e3 s3 ⟨a,oa,r1,r2,r3,r4⟩ =>
  z h3 ⟨x,f',k',v',e3,.inr ⟨a,oa,r1,s3.extBut _ _ r3 r2,r3,r4⟩⟩ (s3.extBut _ _ (Nat.ne_of_gt il) t2) (by show h3.objs.size=hp.objs.size + 1; rw [s3.1,z2]) fun b o hb e'=>s3.extBut b o hb (k2 b o hb e')
 show wpAny _ _ (Builtin.Dict_items.ownedTupleIsFree (.ref it) >>= _) _ _ ⟨h2,g,dr,tk,os⟩
 refine wpAny_bind ?_
 unfold Builtin.Dict_items.ownedTupleIsFree
 rcases own with ⟨rfl,rfl⟩ | ⟨a,oa,rfl,ha,ai,aS⟩
 ·refine wpAny_bind (wpAny_field e2 rfl (x:=.none) rfl (wpAny_pure ?_))
  simp only [if_true]
  refine wpAny_bind (wpAny_field e2 rfl (x:=ok) rfl (wpAny_bind (wpAny_field e2 rfl (x:=ov) rfl ?_)))
  refine wpAny_bind (wpAny_setField_rec e2 (by simp) fun h3 e3 s3=>?_)
  replace s3:Heap.SameBut it h2 h3:=s3
  replace e3:h3.get? it=some (itO .none false d (i + 1) es.size ep e.key ov):=e3
  refine wpAny_bind (wpAny_setField_rec e3 (by simp) fun h4 e4 s4=>?_)
  replace s4:Heap.SameBut it h3 h4:=s4
  replace e4:h4.get? it=some (itO .none false d (i + 1) es.size ep e.key e.val):=e4
  refine wpAny_bind (wpAny_setField_rec e4 (by simp) fun h5 e5 s5=>?_)
  replace s5:Heap.SameBut it h4 h5:=s5
  replace e5:h5.get? it=some (itO (rawInt hp.objs.size) false d (i + 1) es.size ep e.key e.val):=e5
  refine wpAny_bind (wpAny_setField_rec e5 (by simp) fun h6 e6 s6=>?_)
  replace s6:Heap.SameBut it h5 h6:=s6
  replace e6:h6.get? it=some (itO (rawInt hp.objs.size) false d (i + 1) es.size ep e.key e.val):=e6
  refine wpAny_bind (wpAny_letGo (wpAny_pure (wpAny_pure ⟨_,rfl,wpAny_pure (fin h6 _ _ _ _ e6 (((s3.trans s4).trans s5).trans s6) ⟨_,_,rfl,t2,Nat.ne_of_gt il,Nat.ne_of_gt hS⟩)⟩)))
 ·have ha2:h2.get? a=some oa:=k2 a oa ai ha
  refine wpAny_bind (wpAny_field e2 rfl (x:=rawInt a) rfl ?_)
  show wpAny _ _ (loadIfAlive ((a:Int).toNat) >>= _) _ _ _
  rw [Int.toNat_natCast]
  refine wpAny_bind (PySem.W.kdx_alive ha2 ?_)
  simp only [Option.isNone_some,Bool.false_eq_true,if_false]
  refine wpAny_bind (wpAny_field e2 rfl (x:=.bool f) rfl ?_)
  cases f with
  | true =>
   rw [if_neg (show ¬ ((Value.bool true != Value.bool true)=true) from Bool.false_ne_true)]
   refine wpAny_pure ?_
   simp only [Bool.false_eq_true,if_false]
   exact wpAny_pure (wpAny_pure ⟨_,rfl,wpAny_pure (fin h2 _ _ _ _ e2 (Heap.SameBut.refl _ _) ⟨a,oa,rfl,ha2,ai,aS⟩)⟩)
  | false =>
   rw [if_pos (show (Value.bool false != Value.bool true)=true from rfl)]
   refine wpAny_bind (wpAny_setField_rec e2 (by simp) fun h3 e3 s3=>?_)
   replace s3:Heap.SameBut it h2 h3:=s3
   replace e3:h3.get? it=some (itO (rawInt a) true d (i + 1) es.size ep ok ov):=e3
   refine wpAny_pure ?_
   simp only [Bool.false_eq_true,if_false]
   exact wpAny_pure (wpAny_pure ⟨_,rfl,wpAny_pure (fin h3 _ _ _ _ e3 s3 ⟨a,oa,rfl,ha2,ai,aS⟩)⟩)
theorem it_end {Q:Option Value→Shared→Prop} (hh:A.handled=none) (st:ItS s.heap it d S es.size es.size ep) (q:DEnt s.heap d es ep)
  (z:∀ h',Heap.ExtBut it s.heap h'→Q none { s with heap:=h' }):wpAny (model P w) A (pyNext (.ref it)) Q E s:=by
 obtain ⟨x0,f,ok,ov,hit,own⟩:=st
 obtain ⟨od,hod,hcd,hdd⟩:=id q
 have hT:s.TypeIs (.ref it) "dict_itemiterator":=⟨_,hit,rfl⟩
 unfold pyNext
 refine wpAny_bind (wpAny_attempt (wpAny_callSpecial?_slot (name:=Str.ofString "__next__") hT F.slot_dict_itemiterator_next
  (wpAny_call_entry F.slot_dict_itemiterator_next hT F.entry_dict_itemiterator_next ?_ (F.args_dict_itemiterator_next_1 _))))
 refine wpAny_bind (wpAny_pure (wpAny_bind (wpAny_bind ?_)))
 first | refine wpAny_bind (wpAny_typeNameOfWhole_itemiter hT (wpAny_pure ?_)) | refine wpAny_bind (wpAny_typeNameOf_itemiter hT (wpAny_pure ?_))
 refine wpAny_bind (wpAny_fieldsOf hit rfl ?_)
 have hown:Builtin.Dict_items.ownsTuple "dict_itemiterator"=true:=by decide
 simp only [hown,if_true]
 show wpAny _ _ (if (Value.ref d == Value.none)=true then _ else _) _ _ s
 rw [if_neg (show ¬ ((Value.ref d == Value.none)=true) from Bool.false_ne_true)]
 refine wpAny_bind (wpAny_pure (wpAny_bind (wpAny_dictEntries hod hdd ?_)))
 rw [if_neg (by simp)]
 refine wpAny_bind (wpAny_pure (wpAny_bind (wpAny_dictEpoch hod hdd ?_)))
 rw [if_neg (by simp)]
 refine wpAny_pure ?_
 simp only [show ¬ ((es.size:Int) < 0) from by omega,if_false,Int.toNat_natCast,Array.getElem?_eq_none (Nat.le_refl es.size)]
 refine wpAny_bind ?_
 first | refine wpAny_bind (wpAny_typeNameOfWhole_itemiter hT (wpAny_pure ?_)) | refine wpAny_bind (wpAny_typeNameOf_itemiter hT (wpAny_pure ?_))
 show wpAny _ _ (setField (.ref it) 2 .none >>= _) _ _ s
 refine wpAny_bind (wpAny_setField hit rfl (by simp) ?_)
 show wpAny _ _ (newExc (.type "StopIteration") [] >>= _) _ _ (_:Shared)
 refine wpAny_bind ?_
 simp only [newExc,newTuple]
 refine wpAny_bind (wpAny_newObj_type ?_ (by size_fits))
 refine wpAny_bind (m:=firstArgMember _ _) (wpAny_of_eq (a:=Value.none) (by first | rfl | (simp only [firstArgMember]; rfl)) ?_)
 refine wpAny_newObj_type ?_ (by size_fits)
 simp only [raiseNew]
 refine wpAny_bind (wpAny_handled ?_)
 rw [show A.in1.handled=none from hh]
 refine wpAny_bind (wpAny_pure (wpAny_throw ?_))
 exact wpAny_bind (wpAny_isInstance (T:="StopIteration") (b:=true) ⟨_,Heap.get?_push_size _ rfl,rfl⟩ isSubtype_stop (wpAny_pure (z _ (((Heap.SameBut.update ..).extBut.push _).push _))))
end
abbrev pairO (e:DictEntry):Obj:={ cls:=.type "tuple",data:=.seq #[e.key,e.val] }
abbrev listO (acc:Array Value) (c:Nat):Obj:={ cls:=.type "list",dict:=none,data:=.seq acc c,slots:=#[] }
structure ItG (es:Array DictEntry) (lo:Addr) (h:Heap) (as:List Addr):Prop where
 rise:as.Pairwise (· < ·)
 above:∀ a∈as,lo < a
 pairs:∀ (j:Nat) (a:Addr),as[j]?=some a→∃ e,es[j]?=some e∧h.get? a=some (pairO e)
theorem ItG.there {es:Array DictEntry} {lo:Addr} {h:Heap} {as:List Addr} (g:ItG es lo h as) {a:Addr} (ha:a∈as):a < h.objs.size:=by
 obtain ⟨j,hj⟩:=List.mem_iff_getElem?.mp ha
 obtain ⟨_,_,e⟩:=g.pairs j a hj
 exact Heap.lt_size e
section
variable {P:Program} {w:World} {A:Around} {s:Shared} {R:Result→Shared→Prop} {es:Array DictEntry} {ep:Nat}
theorem it_loop {S I d:Addr} (hh:A.handled=none) (hSI:S < I) (hSd:d≠S) (hId:d≠I) (hn:es.size≤sizeLine) (res:Value) {h0:Heap}
  (fin:∀ h' tk acc c as,(∀ b o,b≠S→b≠I→h0.get? b=some o→h'.get? b=some o)→h'.get? S=some (listO acc c)→as.length=es.size→ItG es I h' as→acc.toList=as.map Value.ref→R (.ok (.ret res)) { s with heap:=h',toks:=tk }) :
  ∀ (k i:Nat) (h:Heap) (tk c:Nat) (acc:Array Value) (as:List Addr),es.size - i=k→i≤es.size→ItS h I d S i es.size ep→DEnt h d es ep→(∀ b o,b≠S→b≠I→h0.get? b=some o→h.get? b=some o) →
   h.get? S=some (listO acc c)→acc.toList=as.map Value.ref→as.length=i→ItG es I h as→I < h.objs.size →
   codeAny (model P w) A (.builtin "list.extend.loop" ⟨[.ref S,.ref I,res],[]⟩) R { s with heap:=h,toks:=tk }:=by
 have ne:S≠I:=Nat.ne_of_lt hSI
 intro k
 induction k with
 | zero =>
  intro i h tk c acc as hk hi st q keep hS hacc al G hI
  obtain rfl:i=es.size:=by omega
  refine codeAny_builtin PySem.F.entry_extend_loop ?_
  rw [Around.under_plainId PySem.F.plain_extend_loop _]
  show wpAny _ A.in1 (pyNext (.ref I) >>= _) _ _ _
  refine wpAny_bind (it_end (s:={ s with heap:=h,toks:=tk }) (A:=A.in1) hh st q fun h' he=>wpAny_pure ?_)
  refine fin h' tk acc c as (fun b o h1 h2 e=>he b o h2 (keep b o h1 h2 e)) (he S _ ne hS) al ⟨G.rise,G.above,fun j a hj=>?_⟩ hacc
  obtain ⟨e,e1,e2⟩:=G.pairs j a hj
  exact ⟨e,e1,he a _ (Nat.ne_of_gt (G.above a (List.mem_of_getElem? hj))) e2⟩
 | succ k ih =>
  intro i h tk c acc as hk hi st q keep hS hacc al G hI
  have lt:i < es.size:=by omega
  have hx:es[i]?=some es[i]:=Array.getElem?_eq_getElem lt
  have sz:acc.size=i:=by rw [← Array.length_toList,hacc,List.length_map,al]
  refine codeAny_builtin PySem.F.entry_extend_loop ?_
  rw [Around.under_plainId PySem.F.plain_extend_loop _]
  show wpAny _ A.in1 (pyNext (.ref I) >>= _) _ _ _
  refine wpAny_bind (it_next (s:={ s with heap:=h,toks:=tk }) (S:=S) st q (Heap.lt_size hS) hx fun h' st' ht hz kp=>?_)
  dsimp only at ht hz kp ⊢
  have hS':=kp S _ ne hS
  have hSl:S < h.objs.size:=Heap.lt_size hS
  have up:∀ b o,b≠S→h'.get? b=some o→(h'.update S (Obj.mapSeq (·.push (Value.ref h.objs.size)))).get? b=some o:=fun b o hb e=>(Heap.get?_update_other _ _ (Ne.symm hb)).trans e
  have tn:=up h.objs.size _ (Nat.ne_of_gt hSl) ht
  show wpAny _ A.in1 (updateSeq S (·.push (Value.ref h.objs.size)) >>= _) _ _ _
  refine wpAny_bind (wpAny_updateSeq hS' rfl (wpAny_pure ⟨plainId_quiet PySem.F.plain_extend_loop _,ih (i + 1) _ tk _ (acc.push (Value.ref h.objs.size)) (as ++ [h.objs.size]) (by omega) lt (st'.keep up (Ne.symm ne)) (q.at' fun o e=>up d o hSd (kp d o hId e))
   (fun b o h1 h2 e=>up b o h1 (kp b o h2 (keep b o h1 h2 e))) (Heap.get?_update_self _ hS' rfl) (by rw [Array.toList_push,hacc,List.map_append]; rfl) (by rw [List.length_append,al]; rfl) ⟨?_,?_,?_⟩ (Nat.lt_trans hI (Heap.lt_size tn))⟩) (by rw [sz]; omega) (by show (acc.push (Value.ref h.objs.size)).size≤sizeLine + 1; rw [Array.size_push,sz]; omega))
  ·refine List.pairwise_append.mpr ⟨G.rise,List.pairwise_singleton _ _,fun a ha b hb=>?_⟩
   rw [List.mem_singleton.mp hb]
   exact G.there ha
  ·intro a ha
   rcases List.mem_append.mp ha with ha | ha
   ·exact G.above a ha
   ·rw [List.mem_singleton.mp ha]; exact hI
  ·intro j b hj
   by_cases h1:j < as.length
   ·rw [List.getElem?_append_left h1] at hj
    obtain ⟨e,e1,e2⟩:=G.pairs j b hj
    have hb:=G.above b (List.mem_of_getElem? hj)
    exact ⟨e,e1,up b _ (Nat.ne_of_gt (Nat.lt_trans hSI hb)) (kp b _ (Nat.ne_of_gt hb) e2)⟩
   ·have hj2:=(List.getElem?_eq_some_iff.mp hj).1
    rw [List.length_append,List.length_singleton] at hj2
    obtain rfl:j=as.length:=by omega
    rw [List.getElem?_append_right (Nat.le_refl _),Nat.sub_self] at hj
    cases hj
    exact ⟨_,by rw [al]; exact hx,tn⟩
end
section
variable {P:Program} {w:World} {A:Around} {E:Value→Shared→Prop} {s:Shared} {v d:Addr} {es:Array DictEntry} {ep:Nat}
theorem it_extend {R:Result→Shared→Prop} (hh:A.handled=none) (hv:s.heap.IsItemsView v d) (q:DEnt s.heap d es ep) (S:Addr) (hSv:S≠v) (hSd:d≠S) (res:Value) (c0:Nat) (hS:s.heap.get? S=some (listO #[] c0))
  (fin:∀ h' tk acc c as,(∀ b o,b≠S→s.heap.get? b=some o→h'.get? b=some o)→h'.get? S=some (listO acc c)→as.length=es.size→ItG es s.heap.objs.size h' as→acc.toList=as.map Value.ref→R (.ok (.ret res)) { s with heap:=h',toks:=tk }) (hn:es.size≤sizeLine) :
  wpAny (model P w) A.in1 (Builtin.List.listExtendWith (.ref S) (.ref v) res)
   (fun f s'=>match f with | .done f=>R (.ok f) s' | .again c'=>c'.quiet=true∧codeAny (model P w) A c' R s') (fun e s'=>R (.error e) s') s:=by
 have hSI:S < s.heap.objs.size:=Heap.lt_size hS
 have hdI:=q.lt
 have key:∀ (h:Heap) (c1 tk:Nat),(∀ b o,b≠S→(s.heap.push (itO .none false d 0 es.size ep .none .none)).get? b=some o→h.get? b=some o)→h.get? S=some (listO #[] c1) →
   codeAny (model P w) A (.builtin "list.extend.loop" ⟨[.ref S,.ref s.heap.objs.size,res],[]⟩) R { s with heap:=h,toks:=tk }:=fun h c1 tk hk hS1=>by
  have hI:=hk s.heap.objs.size _ (Nat.ne_of_gt hSI) (Heap.get?_push_size _ rfl)
  exact it_loop (s:=s) (h0:=s.heap) hh hSI hSd (Nat.ne_of_lt hdI) hn res (fun h' tk' acc c as k' a b g e=>fin h' tk' acc c as (fun b o hb e=>k' b o hb (Nat.ne_of_lt (Heap.lt_size e)) e) a b g e)
   es.size 0 h tk c1 #[] [] (Nat.sub_zero _) (Nat.zero_le _) ⟨_,_,_,_,hI,.inl ⟨rfl,rfl⟩⟩ (q.at' fun o e=>hk d o hSd (Heap.get?_push_of_some _ e)) (fun b o hb _ e=>hk b o hb (Heap.get?_push_of_some _ e)) hS1 rfl rfl
   ⟨List.Pairwise.nil,(fun _ ha=>nomatch ha),(fun j a hj=>by simp at hj)⟩ (Heap.lt_size hI)
 unfold Builtin.List.listExtendWith
 refine wpAny_bind (wpAny_typeOf (T:="dict_items") hv.typeIs ?_)
 have h1:Builtin.List.listSameRef (.ref S) (.ref v)=false:=by simp [Builtin.List.listSameRef,hSv]
 have h2:(Value.type "dict_items" == Value.type "list")=false:=by decide
 have h3:(Value.type "dict_items" == Value.type "tuple")=false:=by decide
 simp only [h1,h2,h3,Bool.or_false,Bool.false_eq_true,if_false]
 refine wpAny_bind (it_iter hv q ?_)
 have hS1:=Heap.get?_push_of_some (itO .none false d 0 es.size ep .none .none) hS
 refine wpAny_bind (wpAny_holding (PySem.W.kdx_hint (let ⟨o,ho,hc,_⟩:=hv; ⟨o,Heap.get?_push_of_some _ ho,hc⟩) ?_))
 refine wpAny_ite_split (fun _=>?_) (fun _=>wpAny_pure ⟨plainId_quiet PySem.F.plain_extend_loop _,key _ c0 _ (fun b o _ e=>e) hS1⟩)
 refine wpAny_bind (wpAny_rule (wpAny_bind ?_))
 show wpAny _ _ (updateSeq S (·.push .none) >>= fun _=>updateSeq S (·.pop)) _ _ _
 refine wpAny_bind (wpAny_updateSeq hS1 rfl ?_)
 have hS2:=Heap.get?_update_self (Obj.mapSeq (·.push Value.none)) hS1 rfl
 refine wpAny_updateSeq (hz:=by seq_fits) hS2 rfl ?_
 have hS3:=Heap.get?_update_self (Obj.mapSeq (·.pop)) hS2 rfl
 refine wpAny_pure ⟨plainId_quiet PySem.F.plain_extend_loop _,key _ _ _ (fun b o hb e=>?_) hS3⟩
 exact (Heap.get?_update_other _ _ (Ne.symm hb)).trans ((Heap.get?_update_other _ _ (Ne.symm hb)).trans e)
theorem it_collect {R:List Value→Shared→Prop} (hh:A.handled=none) (hv:s.heap.IsItemsView v d) (q:DEnt s.heap d es ep) (hn:es.size≤sizeLine)
  (k:∀ (h':Heap) (tk:Nat) (as:List Addr),(∀ b o,s.heap.get? b=some o→h'.get? b=some o)→as.length=es.size→ItG es s.heap.objs.size h' as→R (as.map Value.ref) { s with heap:=h',toks:=tk }) :
  wpAny (model P w) A (collect (.ref v)) R E s:=by
 have hvl:v < s.heap.objs.size:=let ⟨_,ho,_⟩:=hv; Heap.lt_size ho
 unfold collect
 refine wpAny_bind (wpAny_runValue (codeAny_builtin PySem.F.entry_proto_collect ?_))
 rw [Around.under_plainId PySem.F.plain_proto_collect _]
 have g0:(s.heap.push (listO #[] 0)).get? s.heap.objs.size=some (listO #[] 0):=Heap.get?_push_size _ rfl
 show wpAny _ A.in1 (newList [] >>= fun b=>again (.builtin "list.__iadd__" ⟨[b,.ref v],[]⟩)) _ _ s
 refine wpAny_bind (wpAny_newList (wpAny_pure ⟨plainId_quiet PySem.F.plain_list_iadd _,codeAny_builtin PySem.F.entry_list_iadd ?_⟩))
 rw [Around.under_plainId PySem.F.plain_list_iadd _]
 show wpAny _ A.in1 (Builtin.List.listExtendWith (.ref s.heap.objs.size) (.ref v) (.ref s.heap.objs.size)) _ _ { s with heap:=s.heap.push (listO #[] 0) }
 refine it_extend (R:=fun r s'=>match r with
  | .ok (.ret u)=>wpAny (model P w) A (match u with
   | .ref a=>do
    match (← load a).data with
    | .seq xs _=>pure xs.toList
    | _=>unsupported "internal:collect"
   | _=>unsupported "internal:collect") R E s'
  | .ok _=>False
  | .error e=>E e s') (s:={ s with heap:=s.heap.push (listO #[] 0) }) hh (let ⟨o,ho,x⟩:=hv; ⟨o,Heap.get?_push_of_some _ ho,x⟩) (q.at' fun o e=>Heap.get?_push_of_some _ e) s.heap.objs.size (Nat.ne_of_gt hvl) (Nat.ne_of_lt q.lt) (.ref s.heap.objs.size) 0 g0 (fun h' tk acc c as kk gS al G ea=>?_) hn
 show wpAny _ A (load s.heap.objs.size >>= _) _ _ _
 refine wpAny_bind (wpAny_load (s:={ s with heap:=h',toks:=tk }) gS (wpAny_pure ?_))
 show R acc.toList _
 rw [ea]
 refine k h' tk as (fun b o e=>kk b o (Nat.ne_of_lt (Heap.lt_size e)) (Heap.get?_push_of_some _ e)) al ⟨G.rise,fun a ha=>?_,G.pairs⟩
 have:(s.heap.push (listO #[] 0)).objs.size < a:=G.above a ha
 rw [Heap.size_push] at this
 exact Nat.lt_trans (Nat.lt_succ_self _) this
end
def layT (H:Hp) (as:List Addr) (ps:List (V×V)):Hp:=fun b=>if b∈as then (ps[as.idxOf b]?).map (fun p=>HO.tup [p.1,p.2]) else H b
theorem layT_no {H:Hp} {as:List Addr} {ps:List (V×V)} {b:Addr} (h:b ∉ as):layT H as ps b=H b:=if_neg h
theorem layT_at {H:Hp} {as:List Addr} {ps:List (V×V)} (nd:as.Nodup) {j:Nat} {a:Addr} {p:V×V} (ha:as[j]?=some a) (hp:ps[j]?=some p):layT H as ps a=some (.tup [p.1,p.2]):=by
 have hm:=List.mem_of_getElem? ha
 have hi:as.idxOf a < as.length:=List.idxOf_lt_length_iff.mpr hm
 have:as.idxOf a=j:=(List.getElem?_inj hi nd).mp (by rw [ha,List.getElem?_eq_getElem hi,List.getElem_idxOf])
 unfold layT
 rw [if_pos hm,this,hp]
 rfl
theorem layT_same {H:Hp} {as:List Addr} {ps:List (V×V)} (n:∀ a∈as,H a=none):Same H (layT H as ps):=fun b v e=>by
 rw [layT_no fun h=>by rw [n b h] at e; cases e]
 exact e
theorem dts_idx {H:Hp}:∀ (vs:List V) (ds:List Dt),vs.length=ds.length→(∀ (j:Nat) v d,vs[j]?=some v→ds[j]?=some d→DtIs H v d)→DtsIs H vs ds
 | [],[],_,_=>.nil
 | [],_ :: _,h,_=>by simp at h
 | _ :: _,[],h,_=>by simp at h
 | v :: vs,d :: ds,h,k=>.cons (k 0 v d rfl rfl) (dts_idx vs ds (by simpa using h) fun j v' d' h1 h2=>k (j + 1) v' d' (by simpa using h1) (by simpa using h2))
theorem dts_atI {H:Hp}:∀ {vs:List V} {ds:List Dt},DtsIs H vs ds→∀ (j:Nat) (v:V),vs[j]?=some v→∃ d,ds[j]?=some d∧DtIs H v d
 | _,_,.nil,_,_,h=>by simp at h
 | _,_,.cons q _,0,_,h=>by cases h; exact ⟨_,rfl,q⟩
 | _,_,.cons _ t,j + 1,v,h=>dts_atI t j v (by simpa using h)
theorem vals_refsA (as:List Addr):Vals (as.map V.ref) (as.map Value.ref):=by
 induction as with
 | nil=>exact .nil
 | cons x _ ih=>exact .cons rfl ih
theorem kd_at {kvs:List (Dt×V)} {xs:List (Dt×Addr×Value)} (r:KD kvs xs):∀ {j:Nat} {x:Dt×Addr×Value},xs[j]?=some x→∃ p,kvs[j]?=some p∧p.1=x.1∧RelV p.2 x.2.2:=by
 induction r with
 | nil=>exact fun h=>by simp at h
 | @cons p q ps qs h t ih =>
  intro j x e
  cases j with
  | zero=>cases e; exact ⟨p,rfl,h⟩
  | succ j=>exact ih (by simpa using e)
theorem kd_len {kvs:List (Dt×V)} {xs:List (Dt×Addr×Value)} (r:KD kvs xs):kvs.length=xs.length:=by
 induction r with
 | nil=>rfl
 | cons _ _ ih=>rw [List.length_cons,List.length_cons,ih]
section
variable {X:Cx} {pins:List (Addr×Obj)} {σ:L2.St} {H H':Hp} {s:Shared} {h':Heap}
theorem Inv.many {t':Nat} (I:Inv X pins σ H s) (k:∀ b u,s.heap.get? b=some u→h'.get? b=some u) (S:Same H H') (lo:∀ b,b < s.heap.objs.size→H' b=H b) (new:∀ b o,H' b=some o→H b=none→ObjOk X.prog X.w H' h' b o):Inv X pins σ H' { s with heap:=h',toks:=t' }:=by
 refine I.un ⟨fun b u q _ _ _=>k b u q,fun b u q _ _ _=>⟨u.slots,k b u q⟩,fun b u q n _=>by rw [lo b (Heap.lt_size q)]; exact n,fun b u q _=>⟨u,k b u q⟩,fun b xs q=>S _ _ q,fun b u xs q=>S _ _ q,fun b ps q=>⟨#[],by rw [S _ _ q]; simp⟩⟩ fun b o e=>?_
 cases hb:H b with
 | none=>exact new b o e hb
 | some o' =>
  have:o'=o:=Option.some.inj ((S _ _ hb).symm.trans e)
  subst this
  exact (I.hok b o' hb).stay (fun c v _ q=>k c v q) (fun c q=>S _ _ q) fun c xs q=>S _ _ q
def itemD (kvs:List (Dt×V)) (vds:List Dt):List Dt:=List.zipWith (fun (p:Dt×V) d=>Dt.tup [p.1,d]) kvs vds
def tSortI (P:Program) (w:World) (to:TE):TE:=fun σ H Q=>to σ H fun x H1=>∃ (a:Addr) (kvs:List (Dt×V)) (vds:List Dt) (T:String),x=.ref a∧DicV P w H1 a kvs∧DtsIs H1 (kvs.map (·.2)) vds∧(∀ p∈kvs,p.1.tag=T)∧(∀ d∈vds,d.dp≤8) ∧
 (∀ d∈itemD kvs vds,∀ d'∈itemD kvs vds,Dt.like d d'=true) ∧
 ∀ H2 l zs es,Same H1 H2→H2 l=none→DtsIs H2 zs es→es.Perm (itemD kvs vds)→es.Pairwise (fun d d'=>Dt.blt d' d=false)→Q (.ref l) (upd H2 l (.lst zs))
set_option maxHeartbeats 1000000 in
theorem pe_sortItems {o:Expr} {to:TE} {p apos cpos pos:Pos} {n:Nat} (hr:Room n X.A) (hg:Gl X "sorted") (hm:X.mg "sorted"=none) (ho:PE X o to)
  (hbase:attributeBase o "items" X.env (eval o X.env)=eval o X.env:=by rfl) (hline:(apos.endLine == cpos.line)=true:=by rfl) :
  PE X (.Call (.Name "sorted" p) [.Call (.Attribute o "items" apos) [] [] cpos] [] pos) (tSortI X.prog X.w to):=by
 intro pins s σ H Q I h
 have hu:=hr.units
 refine wpAny_Call_Name_kw (ld_blt I hg hm boot_sorted ?_)
 refine PyProof.Rows.callWith_builtin1 ?_ se_call rfl
 show wpAny _ _ (spliced ((false,eval (.Call (.Attribute o "items" apos) [] [] cpos) X.env) :: backTo pos (starEach [] X.env))) _ _ s
 refine Calls.spliced_cons ?_
 refine wpAny_Call_method0_late hbase hline (thn (ho pins s σ H _ I h) fun v s1 ⟨x,H1,I1,r1,a,kvs,vds,T,ex,⟨xs,dic,kd⟩,dv,hT,h8,hL,q⟩=>?_)
 subst ex
 cases r1
 obtain ⟨ob,es,ep,e1,exd,dat,ek,_,_⟩:=dicH_of I1 dic
 refine ⟨"dict","dict.items",F.plainAttrs_dict,F.slot_dict_items,F.type_dict_items,⟨ob,e1,exd.1⟩,fun b e2=>by cases e2; exact ⟨ob,e1,exd.2.1⟩,Calls.callWith_builtin rfl (PySem.evalArgs_none ?_)⟩
 have de:DEnt s1.heap a es ep:=⟨ob,e1,exd,dat⟩
 refine it_view dic.sys de ?_
 refine Calls.spliced_nil ?_
 have vw:(s1.heap.push { cls:=.type "dict_items",data:=.fields #[.ref a] }).IsItemsView s1.heap.objs.size a:=⟨_,Heap.get?_push_size _ rfl,rfl,rfl⟩
 have de2:DEnt (s1.heap.push { cls:=.type "dict_items",data:=.fields #[.ref a] }) a es ep:=de.at' fun o e=>Heap.get?_push_of_some _ e
 have esz:es.size=xs.length:=size_of_entries ek
 show wpAny (model X.prog X.w) X.A (call (.builtin "sorted") [.ref s1.heap.objs.size]) _ _ { s1 with heap:=s1.heap.push { cls:=.type "dict_items",data:=.fields #[.ref a] } }
 refine Calls.call_function_entry kind_sorted plain_sorted entry_sorted (args_sorted1 _) ?_
 unfold Builtin.«sorted»
 refine wpAny_bind (m:=checkCount "sorted" 1 1 _) (wpAny_pure (wpAny_bind (it_collect (A:=X.A.in1) (s:={ s1 with heap:=s1.heap.push { cls:=.type "dict_items",data:=.fields #[.ref a] } }) (show X.A.in1.handled=none from hr.hd) vw de2 (by rw [esz]; exact sz dic.len) fun h' tk as kk al G=>?_)))
 have old:∀ b u,s1.heap.get? b=some u→h'.get? b=some u:=fun b u e=>kk b u (Heap.get?_push_of_some _ e)
 have high:∀ b∈as,s1.heap.objs.size≤b:=fun b hb=>by
  have:(s1.heap.push { cls:=.type "dict_items",data:=.fields #[.ref a] }).objs.size < b:=G.above b hb
  rw [Heap.size_push] at this
  exact Nat.le_of_lt (Nat.lt_trans (Nat.lt_succ_self _) this)
 have nd:as.Nodup:=G.rise.imp fun h=>Nat.ne_of_lt h
 have none1:∀ b∈as,H1 b=none:=fun b hb=>I1.hok.fresh (high b hb)
 have kl:=kd_len kd
 have row:∀ (j:Nat) b,as[j]?=some b→∃ x p,xs[j]?=some x∧kvs[j]?=some p∧p.1=x.1∧RelV p.2 x.2.2∧h'.get? b=some { cls:=.type "tuple",data:=.seq #[.ref x.2.1,x.2.2] }:=fun j b hj=>by
  obtain ⟨e,e2,e3⟩:=G.pairs j b hj
  rw [entry_at ek] at e2
  cases hx:xs[j]? with
  | none=>rw [hx] at e2; cases e2
  | some x =>
   rw [hx] at e2
   cases e2
   obtain ⟨p,p1,p2,p3⟩:=kd_at kd hx
   exact ⟨x,p,rfl,p1,p2,p3,e3⟩
 have S:=layT_same (ps:=(kvs.zip xs).map fun q=>(V.ref q.2.2.1,q.1.2)) none1
 have zat:∀ (j:Nat) x p,xs[j]?=some x→kvs[j]?=some p→((kvs.zip xs).map fun q=>(V.ref q.2.2.1,q.1.2))[j]?=some (V.ref x.2.1,p.2):=fun j x p h1 h2=>by
  rw [List.getElem?_map,List.getElem?_zip_eq_some (z:=(p,x)) |>.mpr ⟨h2,h1⟩]
  rfl
 have I2:Inv X pins σ (layT H1 as ((kvs.zip xs).map fun q=>(V.ref q.2.2.1,q.1.2))) { s1 with heap:=h',toks:=tk }:=by
  refine Inv.many I1 old S (fun b hb=>layT_no fun z=>absurd hb (Nat.not_lt.mpr (high b z))) fun b o e n=>?_
  have hb:b∈as:=Classical.byContradiction fun z=>by rw [layT_no z,n] at e; cases e
  obtain ⟨j,hj⟩:=List.mem_iff_getElem?.mp hb
  obtain ⟨x,p,hx,hp,e1,rv,e3⟩:=row j b hj
  rw [layT_at nd hj (zat j x p hx hp)] at e
  cases e
  exact ⟨by rw [sizeLine_eq]; show 2≤16777216; decide,[.ref x.2.1,x.2.2],.cons rfl (.cons rv .nil),_,e3,rfl,_,rfl⟩
 have dvl:=dv.length
 rw [List.length_map] at dvl
 have dd:DtsIs (layT H1 as ((kvs.zip xs).map fun q=>(V.ref q.2.2.1,q.1.2))) (as.map V.ref) (itemD kvs vds):=by
  refine dts_idx _ _ ?_ fun j v d h1 h2=>?_
  ·unfold itemD
   rw [List.length_map,al,esz,List.length_zipWith]
   omega
  ·rw [List.getElem?_map] at h1
   cases hj:as[j]? with
   | none=>rw [hj] at h1; cases h1
   | some b =>
    rw [hj] at h1
    cases h1
    obtain ⟨x,p,hx,hp,e1,rv,e3⟩:=row j b hj
    obtain ⟨d2,hd2,dd2⟩:=dts_atI dv j p.2 (by rw [List.getElem?_map,hp]; rfl)
    unfold itemD at h2
    rw [List.getElem?_zipWith,hp,hd2] at h2
    cases h2
    refine .tup (layT_at nd hj (zat j x p hx hp)) (.cons ?_ (.cons (dd2.same S) .nil))
    rw [e1]
    exact ((dic.key x (List.mem_of_getElem? hx)).1).same S
 have mem:∀ d∈itemD kvs vds,∃ p v,p∈kvs∧v∈vds∧d=.tup [p.1,v]:=fun d hd=>by
  obtain ⟨j,hj⟩:=List.mem_iff_getElem?.mp hd
  unfold itemD at hj
  rw [List.getElem?_zipWith] at hj
  cases h1:kvs[j]? with
  | none=>rw [h1] at hj; cases hj
  | some p =>
   cases h2:vds[j]? with
   | none=>rw [h1,h2] at hj; cases hj
   | some v =>
    rw [h1,h2] at hj
    cases hj
    exact ⟨p,v,List.mem_of_getElem? h1,List.mem_of_getElem? h2,rfl⟩
 have key8:∀ p∈kvs,p.1.dp≤8:=fun p hp=>by
  obtain ⟨j,hj⟩:=List.mem_iff_getElem?.mp hp
  have hlt:j < xs.length:=by rw [← kl]; exact (List.getElem?_eq_some_iff.mp hj).1
  obtain ⟨p',p1,p2,_⟩:=kd_at kd (List.getElem?_eq_getElem hlt)
  rw [hj] at p1
  cases p1
  rw [p2]
  exact (dic.key _ (List.getElem_mem hlt)).2
 refine sort_tail (T:=T) I2 (vals_refsA as) (by rw [List.length_map,al,esz]; exact sz dic.len) dd (fun d hd=>?_) hL (fun d hd=>?_) fun l zz ez h3 pz dz pe srt hl J=>?_
 ·obtain ⟨p,v,hp,_,rfl⟩:=mem d hd
  exact ⟨p.1,[v],rfl,hT p hp⟩
 ·obtain ⟨p,v,hp,hv,rfl⟩:=mem d hd
  have a1:=key8 p hp
  have a2:=h8 v hv
  have:(Dt.tup [p.1,v]).dp≤10:=by simp only [Dt.dp,Dt.dps]; omega
  show X.A.units + 1 + 4 + _ < _
  omega
 ·exact ⟨_,rfl,.ref l,upd _ l (.lst zz),J,rfl,q _ l zz ez S hl dz pe srt⟩
end
end BF
namespace BF
open PySem PySem.Spec PyProof.Rows L2
section
variable {P:Program} {w:World} {K:PySem.W.Frag} {mg:Str→Option Value} {base:Heap} {N:List Str} {qual:Str} {scope:Scope} {f:Addr} {cdv:Value} {A:Around} {outer:List Env} {s:Shared} {H:Hp} {E:XK}
theorem passE:Passes (CXE P w) (cxOf (CXE P w) P w K mg base N qual scope f cdv A outer s H E) E:=by
 intro pins σ H2 s2 e s3 I h
 obtain ⟨x,cls,H',B,rfl,os3,bare3,F,hE⟩:=h
 generalize hY:cxOf (CXE P w) P w K mg base N qual scope f cdv A outer s H E=Y at I
 have e1:Y.stack=envOfC qual scope s.heap.objs.size f cdv :: outer:=by rw [← hY]; rfl
 have e2:Y.fs=frs outer:=by rw [← hY]; rfl
 have e3:Y.ex=[]:=by rw [← hY]; rfl
 have e4:Y.s₀=s:=by rw [← hY]; rfl
 have e5:Y.H₀=H:=by rw [← hY]; rfl
 have hb:=I.base
 have hfr:=I.ok.frames
 have os:=I.os
 rw [e1] at hfr
 rw [e2,e3,e4,e5] at hb
 rw [e4] at os
 replace F:Flew P w (envOfC qual scope s.heap.objs.size f cdv :: outer) H2 H' x cls s2.heap s3.heap B:=F
 subst hY
 have old:∀ b o,s.heap.get? b=some o→b ∉ frs outer→b ∉ frs (envOfC qual scope s.heap.objs.size f cdv :: outer):=fun b o q n z=>by
  rcases List.mem_cons.mp (show b∈s.heap.objs.size :: frs outer from z) with z | z
  ·exact absurd (Heap.lt_size q) (by rw [z]; exact Nat.lt_irrefl _)
  ·exact n z
 refine air_leave (s:=s3) (L:=s.heap.objs.size) hfr rfl F.air fun h3 a3 u3=>?_
 refine ⟨x,cls,H',B,rfl,os3.trans os,bare3,⟨a3,F.hok,fun b o q n hn=>?_,fun b o q hn=>?_,fun b o q n hn=>?_,fun b o q n=>?_,fun b xs q=>F.tups b xs (hb.tups b xs q),fun b o u q=>F.frzs b o u (hb.frzs b o u q),fun b ps q=>?_⟩,hE⟩
 ·exact F.keep b o (hb.keep b o q n hn (by simp)) (hb.free b o q n (by simp)) (old b o q hn)
 ·obtain ⟨o',q'⟩:=hb.there b o q (by simp)
  exact F.there b o' q' (old b o q hn)
 ·obtain ⟨sl,q1⟩:=hb.slot b o q n hn (by simp)
  have hm:b∈frs (envOfC qual scope s.heap.objs.size f cdv :: outer):=(List.mem_cons_of_mem _ hn:b∈s.heap.objs.size :: frs outer)
  obtain ⟨sl2,q2⟩:=F.slot b _ q1 (hb.free b o q n (by simp)) hm
  obtain ⟨_,o',q3,k⟩:=F.air.fr.mem hm
  rw [q2] at q3
  cases q3
  obtain ⟨sl3,q4⟩:=u3 b _ q2 k
  exact ⟨sl3,q4⟩
 ·obtain ⟨o',q'⟩:=hb.there b o q (by simp)
  exact F.free b o' q' (hb.free b o q n (by simp))
 ·obtain ⟨m1,h1⟩:=hb.tbls b ps q
  obtain ⟨m2,h2⟩:=F.tbls b _ h1
  exact ⟨m1 ++ m2,by rw [h2,Array.append_assoc]⟩
end
end BF
namespace BF
open PySem PySem.Spec PyProof.Rows
theorem vals_refs':∀ (cs:List Addr) {its:List Value},L2.Vals (cs.map L2.V.ref) its→its=cs.map Value.ref
 | [],_,.nil=>rfl
 | c :: cs,_,.cons q t=>by
  have e:_=Value.ref c:=q
  rw [List.map_cons,e,vals_refs' cs t]
theorem call_isiXT {X:L2.Cx}:L2.CallR X (.builtin "isinstance") (fun xs H Q=>∃ (x:Addr) (o:Obj) (C t:Addr) (cs:List Addr) (b:Bool),xs=[L2.V.ref x,L2.V.ref t]∧H x=some (frzX o)∧ExcO (.ref C) o∧XCls X.K C∧H t=some (.tup (cs.map L2.V.ref))∧PySem.W.kitAny X.K (.ref C) (cs.map Value.ref)=some b∧Q (.bl b) H):=by
 intro pins s σ H xs us Q I r h
 obtain ⟨x,o,C,t,cs,b,rfl,hx,⟨oc,od,vs,odt,_⟩,F,ht,kt,q⟩:=h
 obtain ⟨u,w',rfl,r1,r2⟩:=L2.vals2 r
 have e:u=Value.ref x:=r1
 subst e
 have e2:w'=Value.ref t:=r2
 subst e2
 have gx:s.heap.get? x=some o:=(show L2.ObjOk X.prog X.w H s.heap x (frzX o) from I.hok x _ hx).1
 have J:PySem.W.InstAt s.heap x o C none:=⟨gx,oc,by unfold PySem.W.notCls; rw [odt],by rw [od]; trivial⟩
 obtain ⟨z,its,rv,tx⟩:=(show L2.ObjOk X.prog X.w H s.heap t (.tup (cs.map L2.V.ref)) from I.hok t _ ht)
 obtain ⟨o',eg,h1,n,h2⟩:=tx.tup
 rw [vals_refs' cs rv] at h2
 obtain ⟨oc',od',odd,os'⟩:=o'
 subst h1 h2
 exact PySem.W.kia_tup (kitx_exc F) I.kIn J eg kt (fun z=>nomatch z) fun tk=>⟨.bl b,H,I.tok tk,rfl,q⟩
end BF
namespace BF
open PySem PySem.Spec PyProof.Rows L2
theorem kitAny_no {K:PySem.W.Frag} {t:Value}:∀ {cs:List Value},(∀ c∈cs,PySem.W.kitOne K t c=some false)→PySem.W.kitAny K t cs=some false
 | [],_=>rfl
 | c :: cs,h=>by
  unfold PySem.W.kitAny
  rw [h c (List.mem_cons_self ..)]
  exact kitAny_no fun d hd=>h d (List.mem_cons_of_mem _ hd)
theorem count_vals {y:V}:∀ {xs:List V} {us:List Value},Vals xs us→xs.all flatV=true→us.countP (eqU y)=xs.countP fun z=>eqV z y
 | _,_,.nil,_=>rfl
 | _,_,.cons r rs,h=>by
  rw [List.all_cons,Bool.and_eq_true] at h
  rw [List.countP_cons,List.countP_cons,count_vals rs h.2,eqU_of r h.1]
theorem mt_count {X:Cx}:MtM X "list.count" (fun x vs H Q=>∃ l xs y,x=.ref l∧vs=[y]∧H l=some (.lst xs)∧flatV y=true∧xs.all flatV=true∧Q (.int ((xs.countP fun z=>eqV z y:Nat):Int)) H):=by
 intro pins s σ H x vs v us Q I rx rv h
 obtain ⟨l,xs,y,rfl,rfl,hH,fy,fs,q⟩:=h
 cases rx
 obtain ⟨u,rfl,ru⟩:=rv.one
 obtain ⟨_,its,n,r,hl,e⟩:=I.lstM hH
 refine call_meets F.slot_list_count ⟨_,e,rfl⟩ F.entry_list_count (F.args_list_count_2 _ _)
  (SeqAt.list_countAt l its.toArray n _ _ u (eqU y)) ⟨e,fun w hw=>mem_eqAt ru fy r fs w (by simpa using hw),⟨.int _,H,I.tok _,⟨s.toks,?_⟩,q⟩⟩
 rw [List.toList_toArray,count_vals r fs]
theorem call_intB {X:Cx}:CallR X (.type "int") (fun xs H Q=>∃ b:Bool,xs=[.bl b]∧Q (.int (if b then 1 else 0)) H):=by
 intro pins s σ H xs us Q I r h
 obtain ⟨b,rfl,q⟩:=h
 obtain ⟨u,rfl,rx⟩:=vals1 r
 cases rx
 exact call_int_bool ⟨.int _,H,I.tok _,⟨s.toks,rfl⟩,q⟩
end BF
namespace K25
open PySem PySem.Spec PyProof.Rows L2 BF
def top (i:Nat):Stmt:=PySem.Challenge.pw_bothfaces_k25_bounds_of_drawings.main.body.getD i (.Pass ⟨0,0,0,0⟩)
abbrev sWhole:Stmt:=top 12
abbrev sPair:Stmt:=top 13
abbrev sWithin:Stmt:=top 14
abbrev sHole:Stmt:=top 15
abbrev sOrd:Stmt:=top 16
abbrev sPict:Stmt:=top 19
abbrev sMir:Stmt:=top 22
abbrev sTurn:Stmt:=top 23
abbrev sBeh:Stmt:=top 24
abbrev sShHole:Stmt:=top 25
abbrev sInit:Stmt:=inClass (top 29) 0
abbrev sBegin:Stmt:=inClass (top 29) 1
abbrev sCome:Stmt:=inClass (top 29) 2
abbrev sDraw:Stmt:=inClass (top 29) 3
abbrev sBack:Stmt:=top 30
abbrev sTimes:Stmt:=top 31
abbrev sDoTurn:Stmt:=top 32
abbrev sStroke:Stmt:=top 33
abbrev sAll:Stmt:=top 34
abbrev sDrawn:Stmt:=top 35
abbrev sCell:Stmt:=top 37
abbrev sTold:Stmt:=top 38
abbrev sStrokes:Stmt:=top 39
abbrev sMany:Stmt:=top 40
abbrev sLines:Stmt:=top 41
abbrev sUnlike:Stmt:=top 42
abbrev sEdge:Stmt:=top 43
abbrev sLaw:Stmt:=top 44
structure Blt (mg:Str→Option Value):Prop where
 isi:mg "isinstance"=none
 int:mg "int"=none
 bool:mg "bool"=none
 tuple:mg "tuple"=none
 list:mg "list"=none
 str:mg "str"=none
 len:mg "len"=none
 range:mg "range"=none
 abs:mg "abs"=none
 min:mg "min"=none
 max:mg "max"=none
 sorted:mg "sorted"=none
 val:mg "ValueError"=none
 far:∃ t,mg "FARTHEST"=some (.int 1000000000 t)
 most:∃ t,mg "MOST_LINES"=some (.int 120 t)
 qua:∃ t,mg "QUARTERS"=some (.int 4 t)
 mstr:∃ t,mg "MOST_STROKES"=some (.int 2000 t)
 mdra:∃ t,mg "MOST_DRAWN"=some (.int 400 t)
seal L2.PE L2.PA L2.PS L2.PSs L2.PT L2.PW L2.PG L2.PGs L2.PI L2.PO
theorem lD_inj {a b:Pl} (h:lD a=lD b):a.p=b.p∧a.q=b.q:=by
 unfold lD at h
 simp only [Dt.tup.injEq,List.cons.injEq,and_true] at h
 exact ⟨eqv_two.mp h.1,eqv_two.mp h.2⟩
theorem pl_eq {a b:Pl} (h:lD a=lD b) (c:a.c=b.c):a=b:=by
 obtain ⟨p,q⟩:=lD_inj h
 cases a; cases b
 simp_all
theorem nd_inj {α β:Type} {f:α→β}:∀ {l:List α},(l.map f).Nodup→∀ {x y:α},x∈l→y∈l→f x=f y→x=y
 | [],_,_,_,h,_,_=>nomatch h
 | a :: l,nd,x,y,hx,hy,e=>by
  obtain ⟨n,nd'⟩:=List.nodup_cons.mp (show (f a :: l.map f).Nodup from nd)
  rcases List.mem_cons.mp hx with e1 | hx1
  ·rcases List.mem_cons.mp hy with e2 | hy1
   ·rw [e1,e2]
   ·exact absurd (List.mem_map.mpr ⟨y,hy1,by rw [← e,e1]⟩) n
  ·rcases List.mem_cons.mp hy with e2 | hy1
   ·exact absurd (List.mem_map.mpr ⟨x,hx1,by rw [e,e2]⟩) n
   ·exact nd_inj nd' hx1 hy1 e
def kvP (a:Pl):Dt×V:=(lD a,.str a.c)
def twoC (ps:List Pl):Prop:=∃ a∈ps,∃ b∈ps,lD a=lD b∧a.c≠b.c
theorem kvP_val {rs:List Pl} {d:Dt} {v:V} (h:valV (rs.map kvP) d=some v):∃ b∈rs,lD b=d∧v=.str b.c:=by
 unfold valV at h
 cases hf:(rs.map kvP).find? fun kv=>decide (kv.1=d) with
 | none=>rw [hf] at h; cases h
 | some p =>
  rw [hf] at h
  obtain ⟨b,hb,rfl⟩:=List.mem_map.mp (List.mem_of_find?_eq_some hf)
  cases h
  have e:=List.find?_some (p:=fun kv:Dt×V=>decide (kv.1=d)) hf
  exact ⟨b,hb,of_decide_eq_true e,rfl⟩
theorem kvP_keys (rs:List Pl):(rs.map kvP).map (·.1)=rs.map lD:=by rw [List.map_map]; rfl
theorem kvP_put {rs:List Pl} {a:Pl} (h:∀ b∈rs,lD b≠lD a):putK (rs.map kvP) (lD a) (.str a.c)=(rs ++ [a]).map kvP:=by
 unfold putK
 rw [if_neg,List.map_append]
 ·rfl
 ·intro z
  rw [List.any_eq_true] at z
  obtain ⟨p,hp,e⟩:=z
  obtain ⟨b,hb,rfl⟩:=List.mem_map.mp hp
  exact h b hb (of_decide_eq_true e)
theorem kvP_items (rs:List Pl):itemD (rs.map kvP) (rs.map fun a=>Dt.str a.c)=rs.map pD:=by
 unfold itemD
 induction rs with
 | nil=>rfl
 | cons a rs ih=>rw [List.map_cons,List.map_cons,List.map_cons,List.zipWith_cons_cons,ih]; rfl
theorem kvP_dts {H:Hp}:∀ rs:List Pl,DtsIs H ((rs.map kvP).map (·.2)) (rs.map fun a=>Dt.str a.c)
 | []=>.nil
 | a :: rs=>.cons (.str _) (kvP_dts rs)
theorem pD_inj' {a b:Pl} (h:pD a=pD b):a=b:=by
 unfold pD at h
 simp only [Dt.tup.injEq,List.cons.injEq,Dt.str.injEq,and_true] at h
 exact pl_eq h.1 h.2
theorem as_pD:∀ {es:List Dt} {rs:List Pl},(∀ d∈es,d∈rs.map pD)→∃ qs:List Pl,es=qs.map pD
 | [],_,_=>⟨[],rfl⟩
 | e :: es,rs,h=>by
  obtain ⟨qs,rfl⟩:=as_pD (es:=es) fun d hd=>h d (List.mem_cons_of_mem _ hd)
  obtain ⟨a,_,rfl⟩:=List.mem_map.mp (h e List.mem_cons_self)
  exact ⟨a :: qs,rfl⟩
section
variable {P:Program} {w:World} {K:PySem.W.Frag} {mg:Str→Option Value} {base:Heap} {c2 c3:Addr}
structure PicOut (H:Hp) (ps:List Pl) (l:Addr) (H':Hp) (qs:List Pl):Prop where
 same:Same H H'
 new:H l=none
 pic:Pic H' l qs
 nd:qs.Nodup
 mem:∀ a,a∈qs↔a∈ps
 rise:Rise qs
def spPict (K:PySem.W.Frag) (c2 c3:Addr):Sp:=fun vs H Q E=>∃ (a:Addr) (xs:List V) (ps:List Pl) (ls:List Dt),vs=[.ref a]∧SqL K H a xs∧DtsIs H xs (ps.map pD)∧ps.length≤400∧ls.Nodup∧(∀ d,d∈ls↔d∈ps.map lD) ∧
 (twoC ps→∀ H',Same H H'→E (.ref c2) none H')∧(¬ twoC ps→120 < ls.length→∀ H',Same H H'→E (.ref c3) none H')∧(¬ twoC ps→ls.length≤120→∀ l qs H',PicOut H ps l H' qs→Q (.ref l) H')
theorem scPict:FnScope ["pairs","colour_by_line","line","colour"] ["pairs"] (defScope sPict):=⟨rfl,rfl,rfl,by decide +kernel,rfl,by decide +kernel,by decide +kernel⟩
theorem ok_pict {f:Addr} {fd:FuncData} {tm:Tok} (D:Df K mg "picture" sPict f fd) (m2:mg "TwoColours"=some (.ref c2)) (m3:mg "TooMany"=some (.ref c3))
  (q2:PySem.W.excIn K c2 [.type "ValueError",.type "Exception",.type "BaseException",.type "object"] "ValueError.__new__"=true) (q3:PySem.W.excIn K c3 [.type "ValueError",.type "Exception",.type "BaseException",.type "object"] "ValueError.__new__"=true)
  (mm:mg "MOST_LINES"=some (.int 120 tm)) (hlen:mg "len"=none) (hsorted:mg "sorted"=none):FnOk P w K mg base (CXE P w) 1 f fd ["pairs"] (spPict K c2 c3):=by
 refine fun_okX D.F scPict (fun vs H Q E h=>?_) (fun cdv A outer s H vs Q E hr h=>?_)
 ·obtain ⟨a,xs,ps,ls,rfl,_⟩:=h
  rfl
 ·obtain ⟨a,xs,ps,ls,rfl,hS,hD',pl,lnd,lmem,k2,k3,kq⟩:=h
  have xl:xs.length=ps.length:=by rw [hD'.length,List.length_map]
  refine ⟨_,(pss_cons (ps_set (i:=1) scPict.nd rfl (Or.inl rfl) pe_dnewD)
   (pss_cons (ps_for PassesOwn.leaving rfl (pi_list (pv 0)) (pg_tup (n:=2) rfl (pgs_cons (pg_name (i:=2) scPict.nd rfl (Or.inl rfl)) (pgs_cons (pg_name (i:=3) scPict.nd rfl (Or.inl rfl)) pgs_nil))) (pss_one (ps_if (pt_cmpR op_ne (pe_bmD PySem.F.slot_dict_setdefault PySem.F.type_dict_setdefault (mt_setDef hr) (pv 1) (pac (pv 2) (pac (pv 3) pa_nil))) (pv 3) (nomark _)) (pss_one (ps_raise rfl m2 hr.hd q2 pe_str)) pss_nil)))
   (pss_cons (ps_if (pt_cmpR op_gt (pe_callB call_lenV (by rfl) hlen PySem.boot_len (pac (pv 1) pa_nil)) (pe_glob (v:=.int 120) rfl mm ⟨_,rfl⟩) (nomark _)) (pss_one (ps_raise rfl m3 hr.hd q3 pe_str)) pss_nil)
   (pss_one (ps_ret (pe_sortItems hr rfl hsorted (pv 1))))))),?_⟩
  have lD8:∀ b:Pl,(lD b).dp≤8:=fun b=>by simp [lD,hD,Dt.dp,Dt.dps]
  intro d o nd dv0
  refine ⟨_,rfl,a,rfl,⟨_,(same_upd nd).seq hS⟩,?_⟩
  refine for_list (K:=K) (a:=a) (xs:=xs) (fun i σ H2=>(∃ v2 v3,σ=[some (.ref a),some (.ref d),v2,v3])∧Same H H2∧∃ rs:List Pl,DicV P w H2 d (rs.map kvP)∧(rs.map lD).Nodup∧(∀ b∈rs,b∈ps)∧(∀ b∈ps.take i,b∈rs)∧rs.length≤i)
   ⟨⟨_,_,rfl⟩,same_upd nd,[],dv0,List.nodup_nil,fun _ z=>(nomatch z),fun _ z=>(nomatch z),Nat.le_refl _⟩ (fun i σ H2 _ ⟨_,s2,_⟩=>s2.seq hS) ?_ ?_
  ·rintro i x σ H2 hx ⟨⟨v2,v3,rfl⟩,S2,rs,dd,rnd,rin,rall,rl⟩
   obtain ⟨e,ed,dx⟩:=(hD'.same S2).at i x hx
   rw [List.getElem?_map] at ed
   cases hp:ps[i]? with
   | none=>rw [hp] at ed; cases ed
   | some b =>
    rw [hp] at ed
    cases ed
    have hi:=(List.getElem?_eq_some_iff.mp hx).1
    have bin:b∈ps:=List.mem_of_getElem? hp
    obtain ⟨r,xl',rfl,er,hl⟩:=pic_at dx
    have tk:ps.take (i + 1)=ps.take i ++ [b]:=by rw [List.take_succ,hp]; rfl
    have fin:∀ rs':List Pl,(∀ c∈rs,c∈rs')→b∈rs'→∀ c∈ps.take (i + 1),c∈rs':=fun rs' h1 h2 c hc=>by
     rw [tk] at hc
     rcases List.mem_append.mp hc with hc | hc
     ·exact h1 c (rall c hc)
     ·rw [List.mem_singleton.mp hc]; exact h2
    refine ⟨r,_,rfl,SqT.of er,rfl,_,_,rfl,_,_,rfl,rfl,?_⟩
    refine ⟨_,rfl,⟨d,_,rfl,dd⟩,_,rfl,_,rfl,d,xl',lD b,rs.map kvP,.str b.c,rfl,rfl,hl,lD8 b,dd,by rw [List.length_map]; omega,fun u hu=>?_,fun hn o' dn=>?_⟩
    ·obtain ⟨c,hc,ec,rfl⟩:=kvP_val hu
     refine ⟨_,rfl,rfl,_,rfl,?_⟩
     by_cases hcc:c.c=b.c
     ·refine ifB_neg (by rw [hcc]; simp) ⟨⟨_,_,rfl⟩,S2,rs,dd,rnd,rin,fin rs (fun _ z=>z) ?_,by omega⟩
      rw [← pl_eq ec hcc]
      exact hc
     ·exact ifB_pos (by simp [hcc]) (k2 ⟨c,rin c hc,b,bin,ec,hcc⟩ H2 S2)
    ·have nk:∀ c∈rs,lD c≠lD b:=fun c hc e=>by
      have:lD b∈(rs.map kvP).map (·.1):=by rw [kvP_keys,← e]; exact List.mem_map.mpr ⟨c,hc,rfl⟩
      obtain ⟨v,hv⟩:∃ v,valV (rs.map kvP) (lD b)=some v:=by
       cases hv:valV (rs.map kvP) (lD b) with
       | some v=>exact ⟨v,rfl⟩
       | none=>exact absurd this (by
         unfold valV at hv
         rw [Option.map_eq_none_iff,List.find?_eq_none] at hv
         intro z
         obtain ⟨p,hp,e⟩:=List.mem_map.mp z
         exact hv p hp (decide_eq_true e))
      rw [hn] at hv
      cases hv
     rw [kvP_put nk] at dn
     refine ⟨_,rfl,rfl,_,rfl,ifB_neg (by simp) ⟨⟨_,_,rfl⟩,same_updN S2 nd,rs ++ [b],dn,?_,?_,fin _ (fun c hc=>List.mem_append_left _ hc) (List.mem_append_right _ (List.mem_singleton.mpr rfl)),by rw [List.length_append]; show rs.length + 1≤_; omega⟩⟩
     ·rw [List.map_append]
      refine List.nodup_append.mpr ⟨rnd,List.pairwise_singleton _ _,fun c hc c' hc' e=>?_⟩
      obtain ⟨c0,hc0,rfl⟩:=List.mem_map.mp hc
      rw [List.mem_singleton.mp hc'] at e
      exact nk c0 hc0 e
     ·intro c hc
      rcases List.mem_append.mp hc with hc | hc
      ·exact rin c hc
      ·rw [List.mem_singleton.mp hc]; exact bin
  ·rintro σ H2 ⟨⟨v2,v3,rfl⟩,S2,rs,dd,rnd,rin,rall,rl⟩
   rw [List.take_of_length_le (by omega)] at rall
   have no:¬ twoC ps:=fun ⟨x,hx,y,hy,e1,e2⟩=>e2 (by rw [nd_inj rnd (rall x hx) (rall y hy) e1])
   have ll:(rs.map kvP).length=ls.length:=by
    have:(rs.map lD).Perm ls:=(List.perm_ext_iff_of_nodup rnd lnd).mpr fun d'=>by
     rw [lmem]
     constructor
     ·intro h
      obtain ⟨c,hc,e⟩:=List.mem_map.mp h
      exact List.mem_map.mpr ⟨c,rin c hc,e⟩
     ·intro h
      obtain ⟨c,hc,e⟩:=List.mem_map.mp h
      exact List.mem_map.mpr ⟨c,rall c hc,e⟩
    rw [← this.length_eq,List.length_map,List.length_map]
   refine ⟨_,rfl,d,_,rfl,dd,_,_,rfl,rfl,_,rfl,?_⟩
   by_cases big:120 < ls.length
   ·exact ifB_pos (by rw [ll]; exact decide_eq_true (by omega)) (k3 no big H2 S2)
   refine ifB_neg (by rw [ll]; exact decide_eq_false (by omega)) ?_
   have itm:=kvP_items rs
   refine ⟨_,rfl,d,rs.map kvP,rs.map (fun a=>Dt.str a.c),"tuple",rfl,dd,kvP_dts rs,fun p hp=>?_,fun v hv=>?_,?_,fun H3 l zs es S3 nl dz pe srt=>?_⟩
   ·obtain ⟨b,_,rfl⟩:=List.mem_map.mp hp
    rfl
   ·obtain ⟨b,_,rfl⟩:=List.mem_map.mp hv
    exact Nat.zero_le _
   ·rw [itm]
    exact pics_like rs
   ·rw [itm] at pe
    obtain ⟨qs,rfl⟩:=as_pD fun e he=>pe.mem_iff.mp he
    have S:=S2.trans S3
    have nl0:=none_same S nl
    have rnd':=List.pairwise_map.mp (show ((rs.map lD).Pairwise (·≠·)) from rnd)
    have pnd:(rs.map pD).Nodup:=List.pairwise_map.mpr (rnd'.imp fun h e=>h (by rw [pD_inj' e]))
    have qnd:=pe.nodup_iff.mpr pnd
    refine kq no (by omega) l qs _ ⟨same_updN S nl0,nl0,⟨zs,upd_same,dz.same (same_upd nl)⟩,(List.pairwise_map.mp (show ((qs.map pD).Pairwise (·≠·)) from qnd)).imp fun n e=>n (by rw [e]),fun b=>?_,srt⟩
    constructor
    ·intro hb
     obtain ⟨c,hc,e⟩:=List.mem_map.mp (pe.mem_iff.mp (List.mem_map.mpr ⟨b,hb,rfl⟩))
     rw [← pD_inj' e]
     exact rin c hc
    ·intro hb
     obtain ⟨c,hc,e⟩:=List.mem_map.mp (pe.mem_iff.mpr (List.mem_map.mpr ⟨b,rall b hb,rfl⟩))
     rw [← pD_inj' e]
     exact hc
end
section
variable {P:Program} {w:World} {K:PySem.W.Frag} {mg:Str→Option Value} {base:Heap}
def spMir:Sp:=fun vs H Q _=>∃ k:Nat,vs=[.int k]∧Q (.bl (decide (4≤k))) H
theorem scMir:FnScope ["way"] ["way"] (defScope sMir):=⟨rfl,rfl,rfl,by decide +kernel,rfl,by decide +kernel,by decide +kernel⟩
theorem ok_mir {f:Addr} {fd:FuncData} (D:Df K mg "is_mirroring" sMir f fd) (hqua:∃ t,mg "QUARTERS"=some (.int 4 t)):FnOk P w K mg base CX0 1 f fd ["way"] spMir:=by
 obtain ⟨tq,qua⟩:=hqua
 refine D.F.ok scMir (fun vs H Q E h=>?_) (fun cdv A outer s H vs Q E hr h=>?_)
 ·obtain ⟨k,rfl,_⟩:=h
  rfl
 ·obtain ⟨k,rfl,q⟩:=h
  refine ⟨_,pss_one (ps_ret (pe_cmpR op_ge (pv 0) (pe_glob (v:=.int 4) rfl qua ⟨_,rfl⟩) (nomark _))),?_⟩
  have e:decide (4≤k)=decide ((4:Int)≤(k:Int)):=decide_eq_decide.mpr (by omega)
  rw [e] at q
  exact ⟨_,rfl,_,_,rfl,rfl,q⟩
def spTurn:Sp:=fun vs H Q _=>∃ (q:Addr) (p:Int×Int) (k:Nat),vs=[.ref q,.int k]∧two H q p∧k < 8∧∀ r H',Same H H'→two H' r (turnN k p)→Q (.ref r) H'
theorem scTurn:FnScope ["hole","way","quarter"] ["hole","way"] (defScope sTurn):=⟨rfl,rfl,rfl,by decide +kernel,rfl,by decide +kernel,by decide +kernel⟩
theorem ok_turn {f fM:Addr} {fd fdM:FuncData} (D:Df K mg "turned_hole" sTurn f fd) (DM:Df K mg "is_mirroring" sMir fM fdM) (bM:Binds K fdM ["way"] []) (GM:FnOk P w K mg base CX0 1 fM fdM ["way"] spMir) (hqua:∃ t,mg "QUARTERS"=some (.int 4 t)) (hrange:mg "range"=none):FnOk P w K mg base CX0 2 f fd ["hole","way"] spTurn:=by
 obtain ⟨tq,qua⟩:=hqua
 refine D.F.ok scTurn (fun vs H Q E h=>?_) (fun cdv A outer s H vs Q E hr h=>?_)
 ·obtain ⟨q,p,k,rfl,_⟩:=h
  rfl
 ·obtain ⟨q,p,k,rfl,hq,hk,z⟩:=h
  have hr1:Room 1 _:=hr.mono (by decide)
  refine ⟨_,pss_cons (ps_if (pt_val (pec GM hr1 rfl DM.m DM.F.kp bM .nil pass0 (pac (pv 1) pa_nil))) (pss_one (ps_set (i:=0) scTurn.nd rfl (Or.inl rfl)
    (pe_tup (pa_cons (pe_un un_neg (pe_ix ix_tup (pv 0) pe_int (fun _ _=>rfl))) (pa_cons (pe_ix ix_tup (pv 0) pe_int (fun _ _=>rfl)) pa_nil))))) pss_nil)
   (pss_cons (ps_for PassesOwn.never rfl (pi_range1 rfl hrange (pa_cons (pe_op op_mod (pv 1) (pe_glob (v:=.int 4) rfl qua ⟨_,rfl⟩)) pa_nil)) (pg_name (i:=2) scTurn.nd rfl (Or.inl rfl))
    (pss_one (ps_set (i:=0) scTurn.nd rfl (Or.inl rfl) (pe_tup (pa_cons (pe_un un_neg (pe_ix ix_tup (pv 0) pe_int (fun _ _=>rfl))) (pa_cons (pe_ix ix_tup (pv 0) pe_int (fun _ _=>rfl)) pa_nil))))))
   (pss_one (ps_ret (pv 0)))),?_⟩
  refine ⟨_,rfl,k,rfl,_,rfl,?_⟩
  refine' later2 (fun q1 H1=>Same H H1∧two H1 q1 (mir k p)) (fun fin=>_) _
  rotate_left
  ·by_cases h4:4≤k
   ·refine ifD_pos h4 ?_
    refine ⟨_,rfl,q,_,_,_,rfl,rfl,SqT.of hq,rfl,_,rfl,_,rfl,q,_,_,_,rfl,rfl,SqT.of hq,rfl,szr rfl,fun q1 n1=>?_⟩
    have S1:Same H (upd H q1 (.tup [.int (-p.1),.int p.2])):=same_upd n1
    have h1:two (upd H q1 (.tup [.int (-p.1),.int p.2])) q1 (mir k p):=by
     unfold mir; rw [if_pos h4]; exact upd_same
    revert S1 h1
    generalize (upd H q1 (.tup [.int (-p.1),.int p.2]))=H1
    intro S1 h1
    exact fin q1 H1 ⟨S1,h1⟩
   ·refine ifD_neg h4 ?_
    exact fin q H ⟨Same.refl _,by unfold mir; rw [if_neg h4]; exact hq⟩
  ·rintro q1 H1 ⟨S1,h1⟩
   refine ⟨_,rfl,_,_,rfl,rfl,(by show (0:Int) < 4; decide),_,rfl,by show -2 ^ 62≤(k:Int) % 4; omega,by show (k:Int) % 4 < 2 ^ 62; omega,?_⟩
   have e4:((k:Int) % 4).toNat=k % 4:=by omega
   rw [e4]
   refine for_range (fun i σ H2=>∃ r v,σ=[some (.ref r),some (.int k),v]∧Same H H2∧two H2 r (qtrs i (mir k p))) ⟨q1,_,rfl,S1,h1⟩ ?_ ?_
   ·rintro i σ H2 hi ⟨r,v,rfl,S2,h2⟩
    refine ⟨_,rfl,r,_,_,_,rfl,rfl,SqT.of h2,rfl,_,rfl,_,rfl,r,_,_,_,rfl,rfl,SqT.of h2,rfl,szr rfl,fun r1 n1=>?_⟩
    exact ⟨r1,_,rfl,S2.trans (same_upd n1),upd_same⟩
   ·rintro σ H2 ⟨r,v,rfl,S2,h2⟩
    exact ⟨_,rfl,z r H2 S2 h2⟩
def spOrd:Sp:=fun vs H Q _=>∃ (x y:Addr) (p q:Int×Int),vs=[.ref x,.ref y]∧two H x p∧two H y q∧∀ r H',Same H H'→DtIs H' (.ref r) (.tup [hD (ordP p q).1,hD (ordP p q).2])→Q (.ref r) H'
theorem scOrd:FnScope ["one","other"] ["one","other"] (defScope sOrd):=⟨rfl,rfl,rfl,by decide +kernel,rfl,by decide +kernel,by decide +kernel⟩
theorem ok_ord {f:Addr} {fd:FuncData} (D:Df K mg "ordered" sOrd f fd):FnOk P w K mg base CX0 1 f fd ["one","other"] spOrd:=by
 refine D.F.ok scOrd (fun vs H Q E h=>?_) (fun cdv A outer s H vs Q E hr h=>?_)
 ·obtain ⟨x,y,p,q,rfl,_⟩:=h
  rfl
 ·obtain ⟨x,y,p,q,rfl,hx,hy,z⟩:=h
  refine ⟨_,(pss_one (ps_ret (pe_ifExp (pt_cmpR (op_ltT hr.units0) (pv 0) (pv 1) (nomark _)) (pe_tup (pac (pv 0) (pac (pv 1) pa_nil))) (pe_tup (pac (pv 1) (pac (pv 0) pa_nil)))))),?_⟩
  refine ⟨_,rfl,_,rfl,x,y,[p.1,p.2],[q.1,q.2],rfl,rfl,SqT.of hx,SqT.of hy,_,rfl,ifC (fun hl=>?_) (fun hl=>?_)⟩
  ·refine ⟨_,rfl,_,rfl,szr rfl,fun r nr=>z r _ (same_upd nr) ?_⟩
   have:ordP p q=(p,q):=by unfold ordP; rw [if_pos (show hLt p q=true from hl)]
   rw [this]
   exact .tup upd_same (.cons (two_dt ((same_upd nr) _ _ hx)) (.cons (two_dt ((same_upd nr) _ _ hy)) .nil))
  ·refine ⟨_,rfl,_,rfl,szr rfl,fun r nr=>z r _ (same_upd nr) ?_⟩
   have:ordP p q=(q,p):=by unfold ordP; rw [if_neg (show ¬ hLt p q=true by rw [show hLt p q=false from hl]; simp)]
   rw [this]
   exact .tup upd_same (.cons (two_dt ((same_upd nr) _ _ hy)) (.cons (two_dt ((same_upd nr) _ _ hx)) .nil))
def spShHole:Sp:=fun vs H Q _=>∃ (x:Addr) (p:Int×Int) (e n:Int),vs=[.ref x,.int e,.int n]∧two H x p∧∀ r H',Same H H'→two H' r (shH e n p)→Q (.ref r) H'
theorem scShHole:FnScope ["hole","east","north"] ["hole","east","north"] (defScope sShHole):=⟨rfl,rfl,rfl,by decide +kernel,rfl,by decide +kernel,by decide +kernel⟩
theorem ok_shHole {f:Addr} {fd:FuncData} (D:Df K mg "shifted_hole" sShHole f fd):FnOk P w K mg base CX0 1 f fd ["hole","east","north"] spShHole:=by
 refine D.F.ok scShHole (fun vs H Q E h=>?_) (fun cdv A outer s H vs Q E hr h=>?_)
 ·obtain ⟨x,p,e,n,rfl,_⟩:=h
  rfl
 ·obtain ⟨x,p,e,n,rfl,hx,z⟩:=h
  refine ⟨_,(pss_one (ps_ret (pe_tup (pac (pe_op op_add (pe_ix ix_tup (pv 0) pe_int (fun _ _=>rfl)) (pv 1)) (pac (pe_op op_add (pe_ix ix_tup (pv 0) pe_int (fun _ _=>rfl)) (pv 2)) pa_nil))))),?_⟩
  exact ⟨_,rfl,x,_,_,_,rfl,rfl,SqT.of hx,rfl,_,rfl,_,_,rfl,rfl,_,rfl,x,_,_,_,rfl,rfl,SqT.of hx,rfl,_,rfl,_,_,rfl,rfl,szr rfl,fun r nr=>z r _ (same_upd nr) upd_same⟩
end
def spWhole:Sp:=fun vs H Q _=>∃ u k,vs=[u]∧Knd H u k∧Q (.bl (wholeV u)) H
def spPair:Sp:=fun vs H Q _=>∃ u k,vs=[u]∧Knd H u k∧Q (.bl (pairB H u)) H
def spWithin:Sp:=fun vs H Q _=>∃ u k,vs=[u]∧Knd H u k∧Q (.bl (good u)) H
def spHole:Sp:=fun vs H Q _=>∃ u b,vs=[u]∧HoleIs H u b∧Q (.bl b) H
section
variable {P:Program} {w:World} {K:PySem.W.Frag} {mg:Str→Option Value} {base:Heap}
theorem scWhole:FnScope ["thing"] ["thing"] (defScope sWhole):=⟨rfl,rfl,rfl,by decide +kernel,rfl,by decide +kernel,by decide +kernel⟩
theorem ok_whole {f:Addr} {fd:FuncData} (D:Df K mg "is_whole" sWhole f fd) (B:Blt mg):FnOk P w K mg base CX0 1 f fd ["thing"] spWhole:=by
 refine D.F.ok scWhole (fun vs H Q E h=>?_) (fun cdv A outer s H vs Q E hr h=>?_)
 ·obtain ⟨u,k,rfl,_⟩:=h
  rfl
 ·obtain ⟨u,k,rfl,kd,q⟩:=h
  refine ⟨_,pss_one (ps_ret (pe_and (pe_callB call_isi (by rfl) B.isi boot_isinstance (pa_cons (pv 0) (pa_cons (pe_bltn (v:=.ty "int") (by rfl) B.int boot_int rfl) pa_nil)))
   (pe_one (pe_not (pe_callB call_isi (by rfl) B.isi boot_isinstance (pa_cons (pv 0) (pa_cons (pe_bltn (v:=.ty "bool") (by rfl) B.bool boot_bool rfl) pa_nil))))))),?_⟩
  refine ⟨_,rfl,u,k,.int,rfl,kd,_,rfl,?_⟩
  cases kd with
  | int i=>exact iteT ⟨_,rfl,_,_,.bl,rfl,.int i,_,rfl,q⟩
  | bl b=>exact iteT ⟨_,rfl,_,_,.bl,rfl,.bl b,_,rfl,q⟩
  | non=>exact iteF q
  | str x=>exact iteF q
  | lst e=>exact iteF q
  | tup e=>exact iteF q
  | dic e=>exact iteF q
theorem scPair:FnScope ["thing"] ["thing"] (defScope sPair):=⟨rfl,rfl,rfl,by decide +kernel,rfl,by decide +kernel,by decide +kernel⟩
theorem ok_pair {f:Addr} {fd:FuncData} (D:Df K mg "is_pair" sPair f fd) (B:Blt mg):FnOk P w K mg base CX0 1 f fd ["thing"] spPair:=by
 refine D.F.ok scPair (fun vs H Q E h=>?_) (fun cdv A outer s H vs Q E hr h=>?_)
 ·obtain ⟨u,k,rfl,_⟩:=h
  rfl
 ·obtain ⟨u,k,rfl,kd,q⟩:=h
  refine ⟨_,pss_one (ps_ret (pe_and (pe_callB call_isi (by rfl) B.isi boot_isinstance (pa_cons (pv 0) (pa_cons (pe_bltn (v:=.ty "tuple") (by rfl) B.tuple boot_tuple rfl) pa_nil)))
   (pe_one (pe_cmpR op_eq (pe_callB call_len_seq (by rfl) B.len PySem.boot_len (pa_cons (pv 0) pa_nil)) pe_int (nomark _))))),?_⟩
  refine ⟨_,rfl,u,k,.tup,rfl,kd,_,rfl,?_⟩
  cases kd with
  | @tup a xs e =>
   rw [pairB_tup e,← dec_len] at q
   exact iteT ⟨_,rfl,a,xs,rfl,.inr (SqT.of e),rfl,q⟩
  | int i=>exact iteF q
  | bl b=>exact iteF q
  | non=>exact iteF q
  | str x=>exact iteF q
  | lst e=>rw [pairB_lst e] at q; exact iteF q
  | dic e=>rw [pairB_dic e] at q; exact iteF q
theorem scWithin:FnScope ["thing"] ["thing"] (defScope sWithin):=⟨rfl,rfl,rfl,by decide +kernel,rfl,by decide +kernel,by decide +kernel⟩
theorem ok_within {f fW:Addr} {fd fdW:FuncData} (D:Df K mg "is_within" sWithin f fd) (DW:Df K mg "is_whole" sWhole fW fdW) (bW:Binds K fdW ["thing"] []) (B:Blt mg):FnOk P w K mg base CX0 2 f fd ["thing"] spWithin:=by
 have GW:FnOk P w K mg base CX0 1 fW fdW ["thing"] spWhole:=ok_whole DW B
 obtain ⟨tf,far⟩:=B.far
 refine D.F.ok scWithin (fun vs H Q E h=>?_) (fun cdv A outer s H vs Q E hr h=>?_)
 ·obtain ⟨u,k,rfl,_⟩:=h
  rfl
 ·obtain ⟨u,k,rfl,kd,q⟩:=h
  refine ⟨_,pss_one (ps_ret (pe_and (pe_call GW hr rfl DW.m DW.F.kp bW .nil pass0 (pa_cons (pv 0) pa_nil))
   (pe_one (pe_chain op_le op_le (pe_un un_neg (pe_glob (v:=.int 1000000000) rfl far ⟨_,rfl⟩)) (pv 0) (pe_glob (v:=.int 1000000000) rfl far ⟨_,rfl⟩))))),?_⟩
  refine ⟨_,rfl,u,k,rfl,kd,_,rfl,?_⟩
  cases kd with
  | int i =>
   refine iteT ⟨_,rfl,_,rfl,_,_,rfl,rfl,_,rfl,?_⟩
   by_cases h1:-1000000000≤i
   ·refine ifD_pos h1 ⟨_,_,rfl,rfl,?_⟩
    have e:good (.int i)=decide (i≤1000000000):=by
     show (decide (-1000000000≤i) && decide (i≤1000000000))=_
     rw [decide_eq_true h1,Bool.true_and]
    rw [e] at q
    exact q
   ·refine ifD_neg h1 ?_
    have e:good (.int i)=false:=by
     show (decide (-1000000000≤i) && decide (i≤1000000000))=_
     rw [decide_eq_false h1,Bool.false_and]
    rw [e] at q
    exact q
  | bl b=>exact iteF q
  | non=>exact iteF q
  | str x=>exact iteF q
  | lst e=>exact iteF q
  | tup e=>exact iteF q
  | dic e=>exact iteF q
theorem scHole:FnScope ["thing"] ["thing"] (defScope sHole):=⟨rfl,rfl,rfl,by decide +kernel,rfl,by decide +kernel,by decide +kernel⟩
theorem ok_hole {f fP fI:Addr} {fd fdP fdI:FuncData} (D:Df K mg "is_hole" sHole f fd) (DP:Df K mg "is_pair" sPair fP fdP) (bP:Binds K fdP ["thing"] []) (GP:FnOk P w K mg base CX0 1 fP fdP ["thing"] spPair)
  (DI:Df K mg "is_within" sWithin fI fdI) (bI:Binds K fdI ["thing"] []) (GI:FnOk P w K mg base CX0 2 fI fdI ["thing"] spWithin):FnOk P w K mg base CX0 3 f fd ["thing"] spHole:=by
 refine D.F.ok scHole (fun vs H Q E h=>?_) (fun cdv A outer s H vs Q E hr h=>?_)
 ·obtain ⟨u,k,rfl,_⟩:=h
  rfl
 ·obtain ⟨u,b,rfl,hh,q⟩:=h
  have hr1:Room 1 _:=hr.mono (by decide)
  refine ⟨_,pss_one (ps_ret (pe_and (pe_call GP hr1 rfl DP.m DP.F.kp bP .nil pass0 (pa_cons (pv 0) pa_nil))
   (pe_and (pe_call GI hr rfl DI.m DI.F.kp bI .nil pass0 (pa_cons (pe_ix ix_tup (pv 0) pe_int (fun _ _=>rfl)) pa_nil))
   (pe_one (pe_call GI hr rfl DI.m DI.F.kp bI .nil pass0 (pa_cons (pe_ix ix_tup (pv 0) pe_int (fun _ _=>rfl)) pa_nil)))))),?_⟩
  cases hh with
  | @no _ k kd hp =>
   refine ⟨_,rfl,u,k,rfl,kd,_,rfl,?_⟩
   exact ifB_neg hp q
  | @two p x y kx ky _ e hx hy hr' =>
   refine ⟨_,rfl,.ref p,.tup,rfl,.tup e,_,rfl,?_⟩
   refine ifB_pos (pairB_tup e) ?_
   refine ⟨_,rfl,p,_,_,x,rfl,rfl,SqT.of e,rfl,x,kx,rfl,hx,_,rfl,?_⟩
   cases g:good x with
   | false =>
    rw [g,Bool.false_and] at hr'
    subst hr'
    exact iteF q
   | true =>
    rw [g,Bool.true_and] at hr'
    subst hr'
    exact iteT ⟨_,rfl,p,_,_,y,rfl,rfl,SqT.of e,rfl,y,ky,rfl,hy,q⟩
end
mutual
theorem DtIs.updG {H:Hp} {a:Addr} {o:HO} (ha:∀ xs,H a≠some (.tup xs)):∀ {d:Dt} {v:V},DtIs H v d→DtIs (upd H a o) v d
 | .int i,_,.int _=>.int i
 | .str x,_,.str _=>.str x
 | .tup ds,_,.tup (a:=b) e q=>.tup (by
   have:b≠a:=fun z=>ha _ (by rw [← z]; exact e)
   rw [upd_ne this]; exact e) (DtsIs.updG ha q)
theorem DtsIs.updG {H:Hp} {a:Addr} {o:HO} (ha:∀ xs,H a≠some (.tup xs)):∀ {ds:List Dt} {vs:List V},DtsIs H vs ds→DtsIs (upd H a o) vs ds
 | [],_,.nil=>.nil
 | d :: ds,_,.cons q t=>.cons (DtIs.updG ha q) (DtsIs.updG ha t)
end
structure PenS where
 p:Int×Int
 c:Str
 t:Nat
 n:Nat
 ps:List Pl
def flds (q L:Addr) (S:PenS):List (Str×V):=[("place",.ref q),("colour",.str S.c),("turning",.int (S.t:Int)),("stroke_count",.int (S.n:Int)),("pairs",.ref L)]
theorem fld_place (q L:Addr) (S:PenS):(flds q L S).lookup ("place":Str)=some (V.ref q):=rfl
theorem fld_colour (q L:Addr) (S:PenS):(flds q L S).lookup ("colour":Str)=some (.str S.c):=rfl
theorem fld_turning (q L:Addr) (S:PenS):(flds q L S).lookup ("turning":Str)=some (.int (S.t:Int)):=rfl
theorem fld_count (q L:Addr) (S:PenS):(flds q L S).lookup ("stroke_count":Str)=some (.int (S.n:Int)):=rfl
theorem fld_pairs (q L:Addr) (S:PenS):(flds q L S).lookup ("pairs":Str)=some (.ref L):=rfl
theorem put_place (q q' L:Addr) (S:PenS) (p:Int×Int):putF ("place":Str) (.ref q') (flds q L S)=flds q' L { S with p:=p }:=rfl
theorem put_turning (q L:Addr) (S:PenS) (t:Nat):putF ("turning":Str) (.int (t:Int)) (flds q L S)=flds q L { S with t:=t }:=rfl
structure PenI (C:Addr) (H:Hp) (x L:Addr) (S:PenS):Prop where
 ex:∃ dx q,H x=some (.ins C dx (flds q L S))∧two H q S.p
 pic:Pic H L S.ps
theorem PenI.ne {C:Addr} {H:Hp} {x L:Addr} {S:PenS} (h:PenI C H x L S):x≠L:=fun e=>by
 obtain ⟨dx,q,h1,_⟩:=h.ex
 obtain ⟨xs,h2,_⟩:=h.pic
 rw [e,h2] at h1
 cases h1
theorem PenI.same {C:Addr} {H H':Hp} {x L:Addr} {S:PenS} (h:PenI C H x L S) (s:Same H H'):PenI C H' x L S:=by
 obtain ⟨dx,q,h1,h2⟩:=h.ex
 exact ⟨⟨dx,q,s _ _ h1,s _ _ h2⟩,h.pic.same s⟩
theorem PenI.put {C:Addr} {H:Hp} {x L dx q q':Addr} {S S':PenS} (h:PenI C H x L S) (e:H x=some (.ins C dx (flds q L S))) (t:two H q' S'.p) (ep:S'.ps=S.ps):PenI C (upd H x (.ins C dx (flds q' L S'))) x L S':=by
 have nt:∀ xs,H x≠some (.tup xs):=fun xs z=>by rw [e] at z; cases z
 refine ⟨⟨dx,q',upd_same,?_⟩,?_⟩
 ·show (upd H x _) q'=_
  rw [upd_ne (fun z=>nt _ (by rw [← z]; exact t))]
  exact t
 ·obtain ⟨xs,e2,d2⟩:=h.pic
  rw [ep]
  exact ⟨xs,by rw [upd_ne (Ne.symm h.ne)]; exact e2,DtsIs.updG nt d2⟩
structure Cl (K:PySem.W.Frag) (mg:Str→Option Value) (C fI fB fC fD:Addr):Prop where
 cl:Cls K C
 n1:NoAttr K C "place"
 n2:NoAttr K C "colour"
 n3:NoAttr K C "turning"
 n4:NoAttr K C "stroke_count"
 n5:NoAttr K C "pairs"
 mkC:Mk K C fI
 mB:Meth K C "begin_stroke" fB
 mC:Meth K C "come" fC
 mD:Meth K C "draw" fD
 mg:mg "Pen"=some (.ref C)
section
variable {P:Program} {w:World} {K:PySem.W.Frag} {mg:Str→Option Value} {base:Heap} {C fI fB fC fD c3 c4:Addr}
def spInit (C:Addr):Sp:=fun vs H Q _=>∃ (x dx:Addr) (H0:Hp),vs=[.ref x]∧H x=some (.ins C dx [])∧Same H0 H∧H0 x=none∧∀ L H',Same H0 H'→H0 L=none→PenI C H' x L ⟨(0,0),"black",0,0,[]⟩→Q .non H'
theorem scInit:FnScope ["self"] ["self"] (defScope sInit):=⟨rfl,rfl,rfl,by decide +kernel,rfl,by decide +kernel,by decide +kernel⟩
theorem ok_init {f:Addr} {fd:FuncData} (F:Fun K "__init__" "Pen.__init__" sInit f fd) (T:Cl K mg C fI fB fC fD):FnOk P w K mg base CX0 1 f fd ["self"] (spInit C):=by
 refine F.ok scInit (fun vs H Q E h=>?_) (fun cdv A outer s H vs Q E hr h=>?_)
 ·obtain ⟨x,dx,H0,rfl,_⟩:=h
  rfl
 ·obtain ⟨x,dx,H0,rfl,ex,S0,n0,z⟩:=h
  refine ⟨_,(pss_cons (ps_fld (pv 0) (pe_tup (pac (pe_int) (pac (pe_int) pa_nil))) rfl)
   (pss_cons (ps_fld (pv 0) pe_str rfl)
   (pss_cons (ps_fld (pv 0) pe_int rfl)
   (pss_cons (ps_fld (pv 0) pe_int rfl)
   (pss_one (ps_fld (pv 0) (pe_lst pa_nil) rfl)))))),?_⟩
  refine ⟨szr rfl,fun q nq=>?_⟩
  have Tq:=same_upd (o:=HO.tup [V.int 0,.int 0]) nq
  have nqx:q≠x:=fun e=>by rw [e,ex] at nq; cases nq
  refine ⟨_,rfl,x,C,dx,[],rfl,Tq _ _ ex,T.cl,T.n1,by decide,?_⟩
  refine ⟨_,rfl,x,C,dx,_,rfl,upd_same,T.cl,T.n2,(show (1:Nat) < 1000 by decide),?_⟩
  refine ⟨_,rfl,x,C,dx,_,rfl,upd_same,T.cl,T.n3,(show (2:Nat) < 1000 by decide),?_⟩
  refine ⟨_,rfl,x,C,dx,_,rfl,upd_same,T.cl,T.n4,(show (3:Nat) < 1000 by decide),?_⟩
  refine ⟨szr rfl,fun L nL=>?_⟩
  have nLx:L≠x:=fun e=>by rw [e,upd_same] at nL; cases nL
  have TL:=same_upd (o:=HO.lst []) nL
  refine ⟨_,rfl,x,C,dx,_,rfl,TL _ _ upd_same,T.cl,T.n5,(show (4:Nat) < 1000 by decide),?_⟩
  have S1:Same H0 (upd (upd (upd (upd (upd H q (.tup [V.int 0,.int 0])) x (.ins C dx (putF ("place":Str) (.ref q) []))) x (.ins C dx (putF ("colour":Str) (.str "black") (putF ("place":Str) (.ref q) [])))) x (.ins C dx (putF ("turning":Str) (.int 0) (putF ("colour":Str) (.str "black") (putF ("place":Str) (.ref q) []))))) x (.ins C dx (putF ("stroke_count":Str) (.int 0) (putF ("turning":Str) (.int 0) (putF ("colour":Str) (.str "black") (putF ("place":Str) (.ref q) [])))))) :=
   same_updN (same_updN (same_updN (same_updN (S0.trans Tq) n0) n0) n0) n0
  have n0L:=none_same S1 nL
  refine z L _ (same_updN (S1.trans TL) n0) n0L ⟨⟨dx,q,upd_same,?_⟩,⟨[],?_,.nil⟩⟩
  ·show (upd _ x _) q=_
   rw [upd_ne nqx,upd_ne (fun e=>by rw [← e,upd_ne nqx,upd_ne nqx,upd_ne nqx,upd_ne nqx,upd_same] at nL; cases nL),upd_ne nqx,upd_ne nqx,upd_ne nqx,upd_ne nqx,upd_same]
  ·rw [upd_ne nLx,upd_same]
def spBegin (C c3:Addr):Sp:=fun vs H Q E=>∃ (x L:Addr) (H0:Hp) (S:PenS),vs=[.ref x]∧PenI C H x L S∧Same H0 H∧H0 x=none∧H0 L=none∧(2000≤S.n→∀ H',Same H0 H'→E (.ref c3) none H')∧(S.n < 2000→∀ H',Same H0 H'→PenI C H' x L { S with n:=S.n + 1 }→Q .non H')
theorem scBegin:FnScope ["self"] ["self"] (defScope sBegin):=⟨rfl,rfl,rfl,by decide +kernel,rfl,by decide +kernel,by decide +kernel⟩
theorem ok_begin {f:Addr} {fd:FuncData} (F:Fun K "begin_stroke" "Pen.begin_stroke" sBegin f fd) (T:Cl K mg C fI fB fC fD) (m3:mg "TooMany"=some (.ref c3)) (q3:PySem.W.excIn K c3 [.type "ValueError",.type "Exception",.type "BaseException",.type "object"] "ValueError.__new__"=true) (B:Blt mg):FnOk P w K mg base (CXE P w) 1 f fd ["self"] (spBegin C c3):=by
 obtain ⟨ts,ms⟩:=B.mstr
 refine fun_okX F scBegin (fun vs H Q E h=>?_) (fun cdv A outer s H vs Q E hr h=>?_)
 ·obtain ⟨x,L,H0,S,rfl,_⟩:=h
  rfl
 ·obtain ⟨x,L,H0,S,rfl,pen,S0,n0,nL,k3,k⟩:=h
  refine ⟨_,(pss_cons (ps_if (pt_cmpR op_ge (pe_fld (pv 0) rfl) (pe_glob (v:=.int 2000) rfl ms ⟨_,rfl⟩) (nomark _)) (pss_one (ps_raise rfl m3 hr.hd q3 pe_str)) pss_nil)
   (pss_one (ps_fldaug (pv 0) pe_int in_add))),?_⟩
  obtain ⟨dx,q,ex,tq⟩:=pen.ex
  refine ⟨_,rfl,x,C,dx,_,_,rfl,ex,T.cl,T.n4,fld_count _ _ _,_,_,rfl,rfl,_,rfl,?_⟩
  by_cases h:(2000:Int)≤(S.n:Int)
  ·exact ifD_pos h (k3 (by omega) _ S0)
  ·refine ifD_neg h ⟨_,rfl,x,C,dx,_,_,rfl,ex,T.cl,T.n4,fld_count _ _ _,_,_,rfl,rfl,dx,_,ex,(show (5:Nat) < 1000 by decide),?_⟩
   exact k (by omega) _ (same_updN S0 n0) (pen.put (S':={ S with n:=S.n + 1 }) ex tq rfl)
def inB (p:Int×Int):Bool:=good (.int p.1) && good (.int p.2)
def comeP (S:PenS) (a b:Int):Int×Int:=shH (turnN S.t (a,b)).1 (turnN S.t (a,b)).2 S.p
def spCome (C c4:Addr):Sp:=fun vs H Q E=>∃ (x L:Addr) (H0:Hp) (S:PenS) (a b:Int),vs=[.ref x,.int a,.int b]∧PenI C H x L S∧Same H0 H∧H0 x=none∧H0 L=none∧S.t < 8∧(inB (comeP S a b)=false→∀ H',Same H0 H'→E (.ref c4) none H')∧(inB (comeP S a b)=true→∀ H',Same H0 H'→PenI C H' x L { S with p:=comeP S a b }→(∀ c v,c≠x→H c=some v→H' c=some v)→Q .non H')
theorem scCome:FnScope ["self","x","y","step","place"] ["self","x","y"] (defScope sCome):=⟨rfl,rfl,rfl,by decide +kernel,rfl,by decide +kernel,by decide +kernel⟩
theorem ok_come {f fT fS fH:Addr} {fd fdT fdS fdH:FuncData} (F:Fun K "come" "Pen.come" sCome f fd) (T:Cl K mg C fI fB fC fD) (m4:mg "NoHole"=some (.ref c4)) (q4:PySem.W.excIn K c4 [.type "ValueError",.type "Exception",.type "BaseException",.type "object"] "ValueError.__new__"=true)
  (DT:Df K mg "turned_hole" sTurn fT fdT) (bT:Binds K fdT ["hole","way"] []) (GT:FnOk P w K mg base CX0 2 fT fdT ["hole","way"] spTurn)
  (DS:Df K mg "shifted_hole" sShHole fS fdS) (bS:Binds K fdS ["hole","east","north"] []) (GS:FnOk P w K mg base CX0 1 fS fdS ["hole","east","north"] spShHole)
  (DH:Df K mg "is_hole" sHole fH fdH) (bH:Binds K fdH ["thing"] []) (GH:FnOk P w K mg base CX0 3 fH fdH ["thing"] spHole):FnOk P w K mg base (CXE P w) 4 f fd ["self","x","y"] (spCome C c4):=by
 refine fun_okX F scCome (fun vs H Q E h=>?_) (fun cdv A outer s H vs Q E hr h=>?_)
 ·obtain ⟨x,L,H0,S,a,b,rfl,_⟩:=h
  rfl
 ·obtain ⟨x,L,H0,S,a,b,rfl,pen,S0,n0,nL,t8,k4,k⟩:=h
  have hr1:Room 1 _:=hr.mono (by decide)
  have hr2:Room 2 _:=hr.mono (by decide)
  refine ⟨_,(pss_cons (ps_set (i:=3) scCome.nd rfl (Or.inl rfl) (pec GT hr2 rfl DT.m DT.F.kp bT .nil pass0 (pac (pe_tup (pac (pv 1) (pac (pv 2) pa_nil))) (pac (pe_fld (pv 0) rfl) pa_nil))))
   (pss_cons (ps_set (i:=4) scCome.nd rfl (Or.inl rfl) (pec GS hr1 rfl DS.m DS.F.kp bS .nil pass0 (pac (pe_fld (pv 0) rfl) (pac (pe_ix ix_tup (pv 3) pe_int (fun _ _=>rfl)) (pac (pe_ix ix_tup (pv 3) pe_int (fun _ _=>rfl)) pa_nil)))))
   (pss_cons (ps_if (pt_not (pt_val (pec GH hr rfl DH.m DH.F.kp bH .nil pass0 (pac (pv 4) pa_nil)))) (pss_one (ps_raise rfl m4 hr.hd q4 pe_str)) pss_nil)
   (pss_one (ps_fld (pv 0) (pv 4) rfl))))),?_⟩
  obtain ⟨dx,q,ex,tq⟩:=pen.ex
  refine ⟨_,rfl,_,rfl,szr rfl,fun t nt=>?_⟩
  have Tt:=same_upd (o:=HO.tup [V.int a,.int b]) nt
  refine ⟨_,rfl,x,C,dx,_,_,rfl,Tt _ _ ex,T.cl,T.n3,fld_turning _ _ _,t,(a,b),S.t,rfl,upd_same,t8,fun r H1 S1 tr=>?_⟩
  have S01:=Tt.trans S1
  refine ⟨_,rfl,x,C,dx,_,_,rfl,S01 _ _ ex,T.cl,T.n1,fld_place _ _ _,_,rfl,r,_,_,_,rfl,rfl,SqT.of tr,rfl,_,rfl,r,_,_,_,rfl,rfl,SqT.of tr,rfl,q,S.p,_,_,rfl,S01 _ _ tq,fun u H2 S2 tu=>?_⟩
  have S02:=S01.trans S2
  have tu:two H2 u (comeP S a b):=tu
  refine ⟨_,rfl,.ref u,inB (comeP S a b),rfl,.two tu (.int _) (.int _) rfl,_,rfl,?_⟩
  cases hb:inB (comeP S a b) with
  | false=>exact iteT (k4 hb _ (S0.trans S02))
  | true =>
   refine iteF ⟨_,rfl,_,rfl,x,C,dx,_,rfl,S02 _ _ ex,T.cl,T.n1,(show (5:Nat) < 1000 by decide),?_⟩
   refine k hb _ (same_updN (S0.trans S02) n0) ((pen.same S02).put (S':={ S with p:=comeP S a b }) (S02 _ _ ex) tu rfl) fun c v hc e=>?_
   rw [upd_ne hc]
   exact S02 _ _ e
def drawP (S:PenS) (a b:Int):PenS:={ S with p:=comeP S a b,ps:=S.ps ++ [⟨(ordP S.p (comeP S a b)).1,(ordP S.p (comeP S a b)).2,S.c⟩] }
def spDraw (C c3 c4:Addr):Sp:=fun vs H Q E=>∃ (x L:Addr) (H0:Hp) (S:PenS) (a b:Int),vs=[.ref x,.int a,.int b]∧PenI C H x L S∧Same H0 H∧H0 x=none∧H0 L=none∧S.t < 8∧(400≤S.ps.length→∀ H',Same H0 H'→E (.ref c3) none H')∧(S.ps.length < 400→inB (comeP S a b)=false→∀ H',Same H0 H'→E (.ref c4) none H') ∧
 (S.ps.length < 400→inB (comeP S a b)=true→∀ H',Same H0 H'→PenI C H' x L (drawP S a b)→Q .non H')
theorem scDraw:FnScope ["self","x","y","ahead"] ["self","x","y"] (defScope sDraw):=⟨rfl,rfl,rfl,by decide +kernel,rfl,by decide +kernel,by decide +kernel⟩
theorem ok_draw {f fO:Addr} {fd fdC fdO:FuncData} (F:Fun K "draw" "Pen.draw" sDraw f fd) (T:Cl K mg C fI fB fC fD) (m3:mg "TooMany"=some (.ref c3)) (q3:PySem.W.excIn K c3 [.type "ValueError",.type "Exception",.type "BaseException",.type "object"] "ValueError.__new__"=true) (B:Blt mg)
  (bC:Binds K fdC ["self","x","y"] []) (GC:FnOk P w K mg base (CXE P w) 4 fC fdC ["self","x","y"] (spCome C c4))
  (DO:Df K mg "ordered" sOrd fO fdO) (bO:Binds K fdO ["one","other"] []) (GO:FnOk P w K mg base CX0 1 fO fdO ["one","other"] spOrd):FnOk P w K mg base (CXE P w) 5 f fd ["self","x","y"] (spDraw C c3 c4):=by
 obtain ⟨td,md⟩:=B.mdra
 refine fun_okX F scDraw (fun vs H Q E h=>?_) (fun cdv A outer s H vs Q E hr h=>?_)
 ·obtain ⟨x,L,H0,S,a,b,rfl,_⟩:=h
  rfl
 ·obtain ⟨x,L,H0,S,a,b,rfl,pen,S0,n0,nL,t8,k3,k4,k⟩:=h
  have hr1:Room 1 _:=hr.mono (by decide)
  refine ⟨_,(pss_cons (ps_if (pt_cmpR op_ge (pe_callB call_len_seq (by rfl) B.len PySem.boot_len (pac (pe_fld (pv 0) rfl) pa_nil)) (pe_glob (v:=.int 400) rfl md ⟨_,rfl⟩) (nomark _)) (pss_one (ps_raise rfl m3 hr.hd q3 pe_str)) pss_nil)
   (pss_cons (ps_set (i:=3) scDraw.nd rfl (Or.inl rfl) (pe_fld (pv 0) rfl))
   (pss_cons (ps_expr (pe_meth (pv 0) T.cl T.mC GC hr bC .nil passE (pac (pv 1) (pac (pv 2) pa_nil))))
   (pss_one (ps_expr (pe_bm PySem.F.plainAttrs_list PySem.F.slot_list_append PySem.F.type_list_append mt_append (pe_fld (pv 0) rfl) (pac (pe_tup (pac (pec GO hr1 rfl DO.m DO.F.kp bO .nil pass0 (pac (pv 3) (pac (pe_fld (pv 0) rfl) pa_nil))) (pac (pe_fld (pv 0) rfl) pa_nil))) pa_nil))))))),?_⟩
  obtain ⟨dx,q,ex,tq⟩:=pen.ex
  obtain ⟨xs,eL,dL⟩:=pen.pic
  have xl:xs.length=S.ps.length:=by rw [dL.length,List.length_map]
  refine ⟨_,rfl,x,C,dx,_,_,rfl,ex,T.cl,T.n5,fld_pairs _ _ _,L,xs,rfl,.inl (SqL.of eL),_,_,rfl,rfl,_,rfl,?_⟩
  by_cases h:(400:Int)≤(xs.length:Int)
  ·exact ifD_pos h (k3 (by omega) _ S0)
  refine ifD_neg h ⟨_,rfl,x,C,dx,_,_,rfl,ex,T.cl,T.n1,fld_place _ _ _,?_⟩
  refine ⟨_,rfl,x,dx,_,rfl,ex,rfl,_,rfl,_,rfl,x,L,H0,S,a,b,rfl,pen,S0,n0,nL,t8,fun hb H' S'=>k4 (by omega) hb H' S',fun hb H1 S1 pen1 kp=>?_⟩
  obtain ⟨dx1,q1,ex1,tq1⟩:=pen1.ex
  obtain ⟨ys,eL1,dL1⟩:=pen1.pic
  have yl:ys.length=S.ps.length:=by rw [dL1.length,List.length_map]
  have qx:q≠x:=fun e=>by
   have tq':H q=_:=tq
   rw [e,ex] at tq'
   cases tq'
  refine ⟨_,rfl,x,C,dx1,_,_,rfl,ex1,T.cl,T.n5,fld_pairs _ _ _,.inl ⟨rfl,_,SqL.of eL1⟩,?_⟩
  refine ⟨_,rfl,_,rfl,x,C,dx1,_,_,rfl,ex1,T.cl,T.n1,fld_place _ _ _,q,q1,S.p,comeP S a b,rfl,kp _ _ qx tq,tq1,fun r H2 S2 dr=>?_⟩
  refine ⟨_,rfl,x,C,dx1,_,_,rfl,S2 _ _ ex1,T.cl,T.n2,fld_colour _ _ _,szr rfl,fun t nt=>?_⟩
  have Tt:=same_upd (o:=HO.tup [V.ref r,.str S.c]) nt
  have S12:=S2.trans Tt
  have eL2:=S12 _ _ eL1
  refine ⟨L,ys,_,rfl,rfl,eL2,small1000 (by omega),?_⟩
  refine k (by omega) hb _ (same_updN (S1.trans S12) nL) ⟨⟨dx1,q1,?_,?_⟩,⟨ys ++ [.ref t],upd_same,?_⟩⟩
  ·rw [upd_ne pen1.ne]
   exact S12 _ _ ex1
  ·show (upd _ L _) q1=_
   rw [upd_ne (fun e=>by
    have tq':H1 q1=_:=tq1
    rw [e,eL1] at tq'
    cases tq')]
   exact S12 _ _ tq1
  ·show DtsIs _ _ ((S.ps ++ [_]).map pD)
   rw [List.map_append]
   refine ((dL1.same S12).updL eL2).snoc (DtIs.updL eL2 ?_)
   exact .tup upd_same (.cons (dr.same Tt) (.cons (.str _) .nil))
end
section
variable {P:Program} {w:World} {K:PySem.W.Frag} {mg:Str→Option Value} {base:Heap}
def spBeh:Sp:=fun vs H Q _=>∃ a b:Nat,vs=[.int a,.int b]∧a < 8∧b < 8∧Q (.int (behN a b:Nat)) H
theorem scBeh:FnScope ["first","second","quarters","mirrored"] ["first","second"] (defScope sBeh):=⟨rfl,rfl,rfl,by decide +kernel,rfl,by decide +kernel,by decide +kernel⟩
theorem ok_beh {f fM:Addr} {fd fdM:FuncData} (D:Df K mg "behind" sBeh f fd) (DM:Df K mg "is_mirroring" sMir fM fdM) (bM:Binds K fdM ["way"] []) (GM:FnOk P w K mg base CX0 1 fM fdM ["way"] spMir) (hqua:∃ t,mg "QUARTERS"=some (.int 4 t)) :
  FnOk P w K mg base CX0 2 f fd ["first","second"] spBeh:=by
 obtain ⟨tq,qua⟩:=hqua
 refine D.F.ok scBeh (fun vs H Q E h=>?_) (fun cdv A outer s H vs Q E hr h=>?_)
 ·obtain ⟨a,b,rfl,_⟩:=h
  rfl
 ·obtain ⟨a,b,rfl,ha,hb,z⟩:=h
  refine ⟨_,(pss_cons (ps_set (i:=2) scBeh.nd rfl (Or.inl rfl) (pe_ifExp (pt_val (pec GM hr rfl DM.m DM.F.kp bM .nil pass0 (pac (pv 1) pa_nil))) (pe_op op_sub (pv 1) (pv 0)) (pe_op op_add (pv 1) (pv 0))))
   (pss_cons (ps_set (i:=3) scBeh.nd rfl (Or.inl rfl) (pe_cmpR op_ne (pec GM hr rfl DM.m DM.F.kp bM .nil pass0 (pac (pv 0) pa_nil)) (pec GM hr rfl DM.m DM.F.kp bM .nil pass0 (pac (pv 1) pa_nil)) (nomark _)))
   (pss_one (ps_ret (pe_op op_add (pe_op op_mod (pv 2) (pe_glob (v:=.int 4) rfl qua ⟨_,rfl⟩)) (pe_ifExp (pt_val (pv 3)) (pe_glob (v:=.int 4) rfl qua ⟨_,rfl⟩) pe_int)))))),?_⟩
  have fin:∀ m:Int,m=(if 4≤b then (b:Int) - a else (b:Int) + a)→m % 4 + (if decide (4≤a)=decide (4≤b) then 0 else 4)=((behN a b:Nat):Int):=fun m hm=>by
   unfold behN
   rw [← hm]
   have:=Int.emod_nonneg m (show (4:Int)≠0 by decide)
   split <;> omega
  refine' laterS (fun σ H2=>(∃ m v,σ=[some (.int a),some (.int b),some (.int m),v]∧m=(if 4≤b then (b:Int) - a else (b:Int) + a))∧H2=H) (fun go=>_) _
  rotate_left
  ·refine ⟨_,rfl,b,rfl,_,rfl,ifC (fun hc=>?_) (fun hc=>?_)⟩
   ·have h4:4≤b:=of_decide_eq_true hc
    exact ⟨_,rfl,_,rfl,_,_,rfl,rfl,go _ _ ⟨⟨_,_,rfl,by rw [if_pos h4]⟩,rfl⟩⟩
   ·have h4:¬ 4≤b:=of_decide_eq_false hc
    exact ⟨_,rfl,_,rfl,_,_,rfl,rfl,go _ _ ⟨⟨_,_,rfl,by rw [if_neg h4]⟩,rfl⟩⟩
  ·rintro σ H2 ⟨⟨m,v,rfl,hm⟩,rfl⟩
   refine ⟨_,rfl,a,rfl,_,rfl,b,rfl,rfl,?_⟩
   refine ⟨_,rfl,_,_,rfl,rfl,(by show (0:Int) < 4; decide),_,rfl,_,rfl,ifC (fun hc=>?_) (fun hc=>?_)⟩
   ·refine ⟨_,_,rfl,rfl,?_⟩
    have hne:decide (4≤a)≠decide (4≤b):=fun e=>by rw [e] at hc; simp at hc
    have:=fin m hm
    rw [if_neg hne] at this
    show Q (.int (m % 4 + 4)) _
    rw [this]
    exact z
   ·refine ⟨_,_,rfl,rfl,?_⟩
    have he:decide (4≤a)=decide (4≤b):=by
     simpa using hc
    have:=fin m hm
    rw [if_pos he] at this
    show Q (.int (m % 4 + 0)) _
    rw [this]
    exact z
end
inductive Sk where
 | line (a b:Int)
 | by_ (a b:Int)
 | ink (c:Str)
 | back (u:List Sk)
 | times (m:Nat) (u:List Sk)
 | turn (k:Nat) (u:List Sk)
mutual
inductive SkIs (H:Hp):V→Sk→Prop where
 | line {q:Addr} {a b:Int} (e:H q=some (.tup [.str "line",.int a,.int b])):SkIs H (.ref q) (.line a b)
 | by_ {q:Addr} {a b:Int} (e:H q=some (.tup [.str "by",.int a,.int b])):SkIs H (.ref q) (.by_ a b)
 | ink {q:Addr} {c:Str} (e:H q=some (.tup [.str "ink",.str c])):SkIs H (.ref q) (.ink c)
 | back {q l:Addr} {ys:List V} {u:List Sk} (e:H q=some (.tup [.str "back",.ref l])) (el:H l=some (.lst ys)) (h:SksIs H ys u):SkIs H (.ref q) (.back u)
 | times {q l:Addr} {ys:List V} {m:Nat} {u:List Sk} (e:H q=some (.tup [.str "times",.int (m:Int),.ref l])) (el:H l=some (.lst ys)) (h:SksIs H ys u):SkIs H (.ref q) (.times m u)
 | turn {q l:Addr} {ys:List V} {k:Nat} {u:List Sk} (e:H q=some (.tup [.str "turn",.int (k:Int),.ref l])) (el:H l=some (.lst ys)) (h:SksIs H ys u):SkIs H (.ref q) (.turn k u)
inductive SksIs (H:Hp):List V→List Sk→Prop where
 | nil:SksIs H [] []
 | cons {v:V} {s:Sk} {vs:List V} {ss:List Sk} (h:SkIs H v s) (t:SksIs H vs ss):SksIs H (v :: vs) (s :: ss)
end
mutual
theorem SkIs.same {H H':Hp} (S:Same H H'):∀ {s:Sk} {v:V},SkIs H v s→SkIs H' v s
 | .line _ _,_,.line e=>.line (S _ _ e)
 | .by_ _ _,_,.by_ e=>.by_ (S _ _ e)
 | .ink _,_,.ink e=>.ink (S _ _ e)
 | .back _,_,.back e el h=>.back (S _ _ e) (S _ _ el) (SksIs.same S h)
 | .times _ _,_,.times e el h=>.times (S _ _ e) (S _ _ el) (SksIs.same S h)
 | .turn _ _,_,.turn e el h=>.turn (S _ _ e) (S _ _ el) (SksIs.same S h)
theorem SksIs.same {H H':Hp} (S:Same H H'):∀ {ss:List Sk} {vs:List V},SksIs H vs ss→SksIs H' vs ss
 | [],_,.nil=>.nil
 | _ :: _,_,.cons h t=>.cons (SkIs.same S h) (SksIs.same S t)
end
theorem SksIs.length {H:Hp}:∀ {ss:List Sk} {vs:List V},SksIs H vs ss→vs.length=ss.length
 | [],_,.nil=>rfl
 | _ :: _,_,.cons _ t=>by rw [List.length_cons,List.length_cons,SksIs.length t]
theorem SksIs.at {H:Hp}:∀ {ss:List Sk} {vs:List V},SksIs H vs ss→∀ {i:Nat} {v:V},vs[i]?=some v→∃ s,ss[i]?=some s∧SkIs H v s
 | [],_,.nil,i,v,e=>by simp at e
 | s :: ss,_,.cons h t,0,v,e=>by
  have e':=Option.some.inj e
  subst e'
  exact ⟨s,rfl,h⟩
 | s :: ss,_,.cons h t,i + 1,v,e=>by
  obtain ⟨s',a,b⟩:=SksIs.at t (i:=i) (v:=v) (by simpa using e)
  exact ⟨s',by simpa using a,b⟩
theorem SkIs.ref {H:Hp} {v:V} {s:Sk} (h:SkIs H v s):∃ r,v=.ref r:=by
 cases h <;> exact ⟨_,rfl⟩
mutual
def Sk.gd:Sk→Nat→Prop
 | .line _ _,_=>True
 | .by_ _ _,_=>True
 | .ink _,_=>True
 | .back u,d=>∃ e,d=e + 1∧gds u e
 | .times m u,d=>m≤60∧∃ e,d=e + 1∧gds u e
 | .turn k u,d=>k < 8∧∃ e,d=e + 1∧gds u e
def gds:List Sk→Nat→Prop
 | [],_=>True
 | s :: r,d=>s.gd d∧gds r d
end
theorem gds_at:∀ {ss:List Sk} {d:Nat},gds ss d→∀ s∈ss,s.gd d
 | s :: r,d,h,x,hx=>by
  simp only [gds] at h
  rcases List.mem_cons.mp hx with rfl | hx
  ·exact h.1
  ·exact gds_at h.2 x hx
theorem gds_of:∀ {ss:List Sk} {d:Nat},(∀ s∈ss,s.gd d)→gds ss d
 | [],_,_=>by simp only [gds]
 | s :: r,d,h=>by
  simp only [gds]
  exact ⟨h s List.mem_cons_self,gds_of fun x hx=>h x (List.mem_cons_of_mem _ hx)⟩
inductive Res where
 | ok (S:PenS)
 | many
 | hole
def Res.bind:Res→(PenS→Res)→Res
 | .ok S,f=>f S
 | .many,_=>.many
 | .hole,_=>.hole
def bg (S:PenS) (f:PenS→Res):Res:=if 2000≤S.n then .many else f { S with n:=S.n + 1 }
def tmR (f:PenS→Res):Nat→PenS→Res
 | 0,S=>.ok S
 | m + 1,S=>(bg S f).bind (tmR f m)
def lineR (S:PenS) (a b:Int):Res:=if 400≤S.ps.length then .many else if inB (comeP S a b)=true then .ok (drawP S a b) else .hole
def byR (S:PenS) (a b:Int):Res:=if inB (comeP S a b)=true then .ok { S with p:=comeP S a b } else .hole
mutual
def stR:Sk→PenS→Res
 | .line a b,S=>lineR S a b
 | .by_ a b,S=>byR S a b
 | .ink c,S=>.ok { S with c:=c }
 | .back u,S=>(runR u S).bind fun S2=>.ok { S2 with p:=S.p,c:=S.c }
 | .times m u,S=>tmR (runR u) m S
 | .turn k u,S=>(runR u { S with t:=behN k S.t }).bind fun S2=>.ok { S2 with t:=S.t }
def runR:List Sk→PenS→Res
 | [],S=>.ok S
 | s :: r,S=>(bg S (stR s)).bind (runR r)
end
def Kp (S:PenS) (R:Res):Prop:=∀ S',R=.ok S'→S'.t=S.t∧(S.ps.length≤400→S'.ps.length≤400)
theorem kp_bind {S:PenS} {R:Res} {f:PenS→Res} (h:Kp S R) (g:∀ S1,R=.ok S1→Kp S1 (f S1)):Kp S (R.bind f):=fun S' e=>by
 cases R with
 | ok S1 =>
  obtain ⟨a,b⟩:=h S1 rfl
  obtain ⟨c,d⟩:=g S1 rfl S' e
  exact ⟨c.trans a,fun z=>d (b z)⟩
 | many=>cases e
 | hole=>cases e
theorem kp_bg {S:PenS} {f:PenS→Res} (h:Kp { S with n:=S.n + 1 } (f { S with n:=S.n + 1 })):Kp S (bg S f):=fun S' e=>by
 unfold bg at e
 split at e
 ·cases e
 ·exact h S' e
theorem kp_tm {f:PenS→Res} (h:∀ S,Kp S (f S)):∀ (m:Nat) (S:PenS),Kp S (tmR f m S)
 | 0,S=>fun S' e=>by cases e; exact ⟨rfl,id⟩
 | m + 1,S=>kp_bind (kp_bg (h _)) fun S1 _=>kp_tm h m S1
mutual
theorem kp_st:∀ (s:Sk) (S:PenS),Kp S (stR s S)
 | .line a b,S=>fun S' e=>by
  simp only [stR,lineR] at e
  split at e
  ·cases e
  ·split at e
   ·cases e
    refine ⟨rfl,fun _=>?_⟩
    show (S.ps ++ [_]).length≤_
    rw [List.length_append]
    show _ + 1≤_
    omega
   ·cases e
 | .by_ a b,S=>fun S' e=>by
  simp only [stR,byR] at e
  split at e
  ·cases e; exact ⟨rfl,id⟩
  ·cases e
 | .ink c,S=>fun S' e=>by simp only [stR] at e; cases e; exact ⟨rfl,id⟩
 | .back u,S=>by
  simp only [stR]
  exact kp_bind (kp_run u S) fun S1 _ S' e=>by cases e; exact ⟨rfl,id⟩
 | .times m u,S=>by
  simp only [stR]
  exact kp_tm (kp_run u) m S
 | .turn k u,S=>by
  simp only [stR]
  intro S' e
  have h:=kp_run u { S with t:=behN k S.t }
  cases hR:runR u { S with t:=behN k S.t } with
  | ok S1 =>
   rw [hR] at e
   cases e
   exact ⟨rfl,fun z=>(h S1 hR).2 z⟩
  | many=>rw [hR] at e; cases e
  | hole=>rw [hR] at e; cases e
theorem kp_run:∀ (u:List Sk) (S:PenS),Kp S (runR u S)
 | [],S=>fun S' e=>by simp only [runR] at e; cases e; exact ⟨rfl,id⟩
 | s :: r,S=>by
  simp only [runR]
  exact kp_bind (kp_bg (kp_st s _)) fun S1 _=>kp_run r S1
end
def less (H:Hp) (x L:Addr):Hp:=fun c=>if c=x∨c=L then none else H c
theorem less_same {H:Hp} {x L:Addr}:Same (less H x L) H:=fun c o e=>by
 unfold less at e
 split at e
 ·cases e
 ·exact e
theorem less_x {H:Hp} {x L:Addr}:less H x L x=none:=if_pos (.inl rfl)
theorem less_L {H:Hp} {x L:Addr}:less H x L L=none:=if_pos (.inr rfl)
theorem less_of {H0 H:Hp} {x L:Addr} (S:Same H0 H) (n1:H0 x=none) (n2:H0 L=none):Same H0 (less H x L):=fun c o e=>by
 unfold less
 rw [if_neg]
 ·exact S _ _ e
 ·rintro (rfl | rfl)
  ·rw [n1] at e; cases e
  ·rw [n2] at e; cases e
theorem less_at {H:Hp} {x L c:Addr} {o:HO} (e:H c=some o) (h1:c≠x) (h2:c≠L):less H x L c=some o:=by
 unfold less
 rw [if_neg (fun z=>z.elim h1 h2)]
 exact e
def Out (C c3 c4:Addr) (H0:Hp) (x L:Addr) (R:Res) (Q:VK) (E:XK):Prop:=(R=.many→∀ H',Same H0 H'→E (.ref c3) none H')∧(R=.hole→∀ H',Same H0 H'→E (.ref c4) none H')∧(∀ S',R=.ok S'→∀ H',Same H0 H'→PenI C H' x L S'→Q .non H')
section
variable {P:Program} {w:World} {K:PySem.W.Frag} {mg:Str→Option Value} {base:Heap} {C fI fB fC fD c2 c3 c4:Addr}
def spAll (C c3 c4:Addr) (d:Nat):Sp:=fun vs H Q E=>∃ (x L a:Addr) (H0:Hp) (S:PenS) (xs:List V) (sts:List Sk),vs=[.ref x,.ref a]∧PenI C H x L S∧Same H0 H∧H0 x=none∧H0 L=none∧H0 a=some (.lst xs)∧SksIs H0 xs sts∧S.t < 8∧(∃ e,d=e + 1∧gds sts e)∧Out C c3 c4 H0 x L (runR sts S) Q E
theorem ok_all0 {CX:CXT} {k:Nat} {f:Addr} {fd:FuncData}:FnOk P w K mg base CX k f fd ["pen","strokes"] (spAll C c3 c4 0) :=
 ⟨fun _ _ _ _ h=>by obtain ⟨_,_,_,_,_,_,_,_,_,_,_,_,_,_,_,⟨e,h,_⟩,_⟩:=h; omega,fun _ _ _ _ _ _ _ _ _ _ _ _ _ h=>by obtain ⟨_,_,_,_,_,_,_,_,_,_,_,_,_,_,_,⟨e,h,_⟩,_⟩:=h; omega⟩
def spBack (C c3 c4:Addr) (d:Nat):Sp:=fun vs H Q E=>∃ (x L a:Addr) (H0:Hp) (S:PenS) (xs:List V) (sts:List Sk),vs=[.ref x,.ref a]∧PenI C H x L S∧Same H0 H∧H0 x=none∧H0 L=none∧H0 a=some (.lst xs)∧SksIs H0 xs sts∧S.t < 8∧(∃ e,d=e + 1∧gds sts e)∧Out C c3 c4 H0 x L (stR (.back sts) S) Q E
theorem scBack:FnScope ["pen","strokes","place","colour"] ["pen","strokes"] (defScope sBack):=⟨rfl,rfl,rfl,by decide +kernel,rfl,by decide +kernel,by decide +kernel⟩
theorem ok_back {f fA:Addr} {fd fdA:FuncData} {d k:Nat} (D:Df K mg "do_and_come_back" sBack f fd) (T:Cl K mg C fI fB fC fD)
  (DA:Df K mg "do_all" sAll fA fdA) (bA:Binds K fdA ["pen","strokes"] []) (GA:FnOk P w K mg base (CXE P w) k fA fdA ["pen","strokes"] (spAll C c3 c4 d)):FnOk P w K mg base (CXE P w) (k + 1) f fd ["pen","strokes"] (spBack C c3 c4 d):=by
 refine fun_okX D.F scBack (fun vs H Q E h=>?_) (fun cdv A outer s H vs Q E hr h=>?_)
 ·obtain ⟨x,L,a,H0,S,xs,sts,rfl,_⟩:=h
  rfl
 ·obtain ⟨x,L,a,H0,S,xs,sts,rfl,pen,S0,n0,nL,ea,da,t8,gd,k3,k4,kk⟩:=h
  refine ⟨_,(pss_cons (ps_set (i:=2) scBack.nd rfl (Or.inl rfl) (pe_fld (pv 0) rfl))
   (pss_cons (ps_set (i:=3) scBack.nd rfl (Or.inl rfl) (pe_fld (pv 0) rfl))
   (pss_cons (ps_expr (pec GA hr rfl DA.m DA.F.kp bA .nil passE (pac (pv 0) (pac (pv 1) pa_nil))))
   (pss_cons (ps_fld (pv 0) (pv 2) rfl)
   (pss_one (ps_fld (pv 0) (pv 3) rfl)))))),?_⟩
  obtain ⟨dx,q,ex,tq⟩:=pen.ex
  refine ⟨_,rfl,x,C,dx,_,_,rfl,ex,T.cl,T.n1,fld_place _ _ _,?_⟩
  refine ⟨_,rfl,x,C,dx,_,_,rfl,ex,T.cl,T.n2,fld_colour _ _ _,?_⟩
  have Sl:=less_of (x:=x) (L:=L) S0 n0 nL
  refine ⟨_,rfl,_,rfl,x,L,a,less H x L,S,xs,sts,rfl,pen,less_same,less_x,less_L,Sl _ _ ea,da.same Sl,t8,gd,fun e H' S'=>k3 (by simp only [stR]; rw [e]; rfl) H' (Sl.trans S'),fun e H' S'=>k4 (by simp only [stR]; rw [e]; rfl) H' (Sl.trans S'),fun S2 e H' S' pen2=>?_⟩
  have tq':two H' q S.p:=S' _ _ (less_at tq (fun z=>by rw [z] at tq; rw [show H x=_ from tq] at ex; cases ex) (fun z=>by
   obtain ⟨ys,el,_⟩:=pen.pic
   rw [z] at tq
   rw [show H L=_ from tq] at el
   cases el))
  obtain ⟨dx2,q2,ex2,tq2⟩:=pen2.ex
  refine ⟨_,rfl,_,rfl,x,C,dx2,_,rfl,ex2,T.cl,T.n1,(show (5:Nat) < 1000 by decide),?_⟩
  have pen3:PenI C (upd H' x (.ins C dx2 (flds q L { S2 with p:=S.p }))) x L { S2 with p:=S.p }:=pen2.put ex2 tq' rfl
  have S3:Same (less H x L) (upd H' x (.ins C dx2 (flds q L { S2 with p:=S.p }))):=same_updN S' less_x
  rw [put_place q2 q L S2 S.p]
  revert pen3 S3
  generalize (upd H' x (.ins C dx2 (flds q L { S2 with p:=S.p })))=H3
  intro pen3 S3
  obtain ⟨dx3,q3,ex3,tq3⟩:=pen3.ex
  refine ⟨_,rfl,_,rfl,x,C,dx3,_,rfl,ex3,T.cl,T.n2,(show (5:Nat) < 1000 by decide),?_⟩
  exact kk { S2 with p:=S.p,c:=S.c } (by simp only [stR]; rw [e]; rfl) _ (Sl.trans (same_updN S3 less_x)) (pen3.put (S':={ S2 with p:=S.p,c:=S.c }) ex3 tq3 rfl)
def spTimes (C c3 c4:Addr) (d:Nat):Sp:=fun vs H Q E=>∃ (x L a:Addr) (H0:Hp) (S:PenS) (xs:List V) (m:Nat) (sts:List Sk),vs=[.ref x,.int (m:Int),.ref a]∧PenI C H x L S∧Same H0 H∧H0 x=none∧H0 L=none∧H0 a=some (.lst xs)∧SksIs H0 xs sts∧S.t < 8∧m≤60∧(∃ e,d=e + 1∧gds sts e)∧Out C c3 c4 H0 x L (stR (.times m sts) S) Q E
theorem scTimes:FnScope ["pen","rounds","strokes","at"] ["pen","rounds","strokes"] (defScope sTimes):=⟨rfl,rfl,rfl,by decide +kernel,rfl,by decide +kernel,by decide +kernel⟩
theorem ok_times {f fA:Addr} {fd fdA fdB:FuncData} {d k:Nat} (D:Df K mg "do_times" sTimes f fd) (T:Cl K mg C fI fB fC fD) (B:Blt mg)
  (bB:Binds K fdB ["self"] []) (GB:FnOk P w K mg base (CXE P w) 1 fB fdB ["self"] (spBegin C c3))
  (DA:Df K mg "do_all" sAll fA fdA) (bA:Binds K fdA ["pen","strokes"] []) (GA:FnOk P w K mg base (CXE P w) k fA fdA ["pen","strokes"] (spAll C c3 c4 d)) (h1:1≤k):FnOk P w K mg base (CXE P w) (k + 1) f fd ["pen","rounds","strokes"] (spTimes C c3 c4 d):=by
 refine fun_okX D.F scTimes (fun vs H Q E h=>?_) (fun cdv A outer s H vs Q E hr h=>?_)
 ·obtain ⟨x,L,a,H0,S,xs,m,sts,rfl,_⟩:=h
  rfl
 ·obtain ⟨x,L,a,H0,S,xs,m,sts,rfl,pen,S0,n0,nL,ea,da,t8,m60,gd,k3,k4,kk⟩:=h
  have hr1:Room 1 _:=hr.mono h1
  refine ⟨_,(pss_one (ps_for PassesOwn.leaving rfl (pi_range1 rfl B.range (pac (pv 1) pa_nil)) (pg_name (i:=3) scTimes.nd rfl (Or.inl rfl)) (pss_cons (ps_expr (pe_meth0 (pv 0) T.cl T.mB GB hr1 bB .nil passE))
   (pss_one (ps_expr (pec GA hr rfl DA.m DA.F.kp bA .nil passE (pac (pv 0) (pac (pv 2) pa_nil)))))))),?_⟩
  refine ⟨_,rfl,_,rfl,by omega,by omega,?_⟩
  rw [show ((m:Int)).toNat=m from Int.toNat_natCast m]
  simp only [stR] at k3 k4 kk
  refine for_range (fun i σ H1=>(∃ v3,σ=[some (.ref x),some (.int (m:Int)),some (.ref a),v3])∧Same H0 H1∧∃ Si,PenI C H1 x L Si∧tmR (runR sts) m S=tmR (runR sts) (m - i) Si∧Si.t=S.t) ⟨⟨_,rfl⟩,S0,S,pen,rfl,rfl⟩ ?_ ?_
  ·rintro i σ H1 hi ⟨⟨v3,rfl⟩,S1,Si,peni,er,ti⟩
   obtain ⟨j,hj⟩:∃ j,m - i=j + 1:=⟨m - i - 1,by omega⟩
   rw [hj] at er
   have er':tmR (runR sts) m S=(bg Si (runR sts)).bind (tmR (runR sts) j):=er
   obtain ⟨dx,q,ex,tq⟩:=peni.ex
   refine ⟨_,rfl,x,dx,_,rfl,ex,rfl,x,L,H0,Si,rfl,peni,S1,n0,nL,fun h H' S'=>k3 (by rw [er',bg,if_pos h]; rfl) H' S',fun h H2 S2 pen2=>?_⟩
   have eb:bg Si (runR sts)=runR sts { Si with n:=Si.n + 1 }:=by rw [bg,if_neg (by omega)]
   rw [eb] at er'
   refine ⟨_,rfl,_,rfl,x,L,a,H0,{ Si with n:=Si.n + 1 },xs,sts,rfl,pen2,S2,n0,nL,ea,da,(by show Si.t < 8; rw [ti]; exact t8),gd,fun e H' S'=>k3 (by rw [er',e]; rfl) H' S',fun e H' S'=>k4 (by rw [er',e]; rfl) H' S',fun S' e H' Ss p'=>?_⟩
   refine ⟨⟨_,rfl⟩,Ss,S',p',?_,?_⟩
   ·rw [er',e,show m - (i + 1)=j by omega]
    rfl
   ·exact ((kp_run sts _ S' e).1).trans ti
  ·rintro σ H1 ⟨⟨v3,rfl⟩,S1,Si,peni,er,ti⟩
   rw [Nat.sub_self] at er
   exact kk Si er H1 S1 peni
def spTurned (C c3 c4:Addr) (d:Nat):Sp:=fun vs H Q E=>∃ (x L a:Addr) (H0:Hp) (S:PenS) (xs:List V) (m:Nat) (sts:List Sk),vs=[.ref x,.int (m:Int),.ref a]∧PenI C H x L S∧Same H0 H∧H0 x=none∧H0 L=none∧H0 a=some (.lst xs)∧SksIs H0 xs sts∧S.t < 8∧m < 8∧(∃ e,d=e + 1∧gds sts e)∧Out C c3 c4 H0 x L (stR (.turn m sts) S) Q E
theorem scTurned:FnScope ["pen","way","strokes","ahead"] ["pen","way","strokes"] (defScope sDoTurn):=⟨rfl,rfl,rfl,by decide +kernel,rfl,by decide +kernel,by decide +kernel⟩
theorem ok_turned {f fA fH:Addr} {fd fdA fdH:FuncData} {d k:Nat} (D:Df K mg "do_turned" sDoTurn f fd) (T:Cl K mg C fI fB fC fD)
  (DH:Df K mg "behind" sBeh fH fdH) (bH:Binds K fdH ["first","second"] []) (GH:FnOk P w K mg base CX0 2 fH fdH ["first","second"] spBeh)
  (DA:Df K mg "do_all" sAll fA fdA) (bA:Binds K fdA ["pen","strokes"] []) (GA:FnOk P w K mg base (CXE P w) k fA fdA ["pen","strokes"] (spAll C c3 c4 d)) (h2:2≤k):FnOk P w K mg base (CXE P w) (k + 1) f fd ["pen","way","strokes"] (spTurned C c3 c4 d):=by
 refine fun_okX D.F scTurned (fun vs H Q E h=>?_) (fun cdv A outer s H vs Q E hr h=>?_)
 ·obtain ⟨x,L,a,H0,S,xs,m,sts,rfl,_⟩:=h
  rfl
 ·obtain ⟨x,L,a,H0,S,xs,m,sts,rfl,pen,S0,n0,nL,ea,da,t8,m8,gd,k3,k4,kk⟩:=h
  have hr2:Room 2 _:=hr.mono h2
  refine ⟨_,(pss_cons (ps_set (i:=3) scTurned.nd rfl (Or.inl rfl) (pe_fld (pv 0) rfl))
   (pss_cons (ps_fld (pv 0) (pec GH hr2 rfl DH.m DH.F.kp bH .nil pass0 (pac (pv 1) (pac (pv 3) pa_nil))) rfl)
   (pss_cons (ps_expr (pec GA hr rfl DA.m DA.F.kp bA .nil passE (pac (pv 0) (pac (pv 2) pa_nil))))
   (pss_one (ps_fld (pv 0) (pv 3) rfl))))),?_⟩
  obtain ⟨dx,q,ex,tq⟩:=pen.ex
  refine ⟨_,rfl,x,C,dx,_,_,rfl,ex,T.cl,T.n3,fld_turning _ _ _,?_⟩
  refine ⟨_,rfl,_,rfl,m,S.t,rfl,m8,t8,_,rfl,x,C,dx,_,rfl,ex,T.cl,T.n3,(show (5:Nat) < 1000 by decide),?_⟩
  have pen1:PenI C (upd H x (.ins C dx (flds q L { S with t:=behN m S.t }))) x L { S with t:=behN m S.t }:=pen.put ex tq rfl
  have S1:Same H0 (upd H x (.ins C dx (flds q L { S with t:=behN m S.t }))):=same_updN S0 n0
  rw [put_turning q L S (behN m S.t)]
  revert pen1 S1
  generalize (upd H x (.ins C dx (flds q L { S with t:=behN m S.t })))=H1
  intro pen1 S1
  refine ⟨_,rfl,_,rfl,x,L,a,H0,{ S with t:=behN m S.t },xs,sts,rfl,pen1,S1,n0,nL,ea,da,behN_lt _ _,gd,fun e H' S'=>k3 (by simp only [stR]; rw [e]; rfl) H' S',fun e H' S'=>k4 (by simp only [stR]; rw [e]; rfl) H' S',fun S2 e H' S' pen2=>?_⟩
  obtain ⟨dx2,q2,ex2,tq2⟩:=pen2.ex
  refine ⟨_,rfl,_,rfl,x,C,dx2,_,rfl,ex2,T.cl,T.n3,(show (5:Nat) < 1000 by decide),?_⟩
  exact kk { S2 with t:=S.t } (by simp only [stR]; rw [e]; rfl) _ (same_updN S' n0) (pen2.put (S':={ S2 with t:=S.t }) ex2 tq2 rfl)
def spStroke (C c3 c4:Addr) (d:Nat):Sp:=fun vs H Q E=>∃ (x L r:Addr) (H0:Hp) (S:PenS) (st:Sk),vs=[.ref x,.ref r]∧PenI C H x L S∧Same H0 H∧H0 x=none∧H0 L=none∧S.t < 8∧SkIs H0 (.ref r) st∧st.gd d∧Out C c3 c4 H0 x L (stR st S) Q E
theorem scStroke:FnScope ["pen","stroke","kind"] ["pen","stroke"] (defScope sStroke):=⟨rfl,rfl,rfl,by decide +kernel,rfl,by decide +kernel,by decide +kernel⟩
theorem ok_stroke {f fK fM fU:Addr} {fd fdC fdD fdK fdM fdU:FuncData} {d k:Nat} (D:Df K mg "do_stroke" sStroke f fd) (T:Cl K mg C fI fB fC fD)
  (bC:Binds K fdC ["self","x","y"] []) (GC:FnOk P w K mg base (CXE P w) 4 fC fdC ["self","x","y"] (spCome C c4))
  (bD:Binds K fdD ["self","x","y"] []) (GD:FnOk P w K mg base (CXE P w) 5 fD fdD ["self","x","y"] (spDraw C c3 c4))
  (DK:Df K mg "do_and_come_back" sBack fK fdK) (bK:Binds K fdK ["pen","strokes"] []) (GK:FnOk P w K mg base (CXE P w) k fK fdK ["pen","strokes"] (spBack C c3 c4 d))
  (DM:Df K mg "do_times" sTimes fM fdM) (bM:Binds K fdM ["pen","rounds","strokes"] []) (GM:FnOk P w K mg base (CXE P w) k fM fdM ["pen","rounds","strokes"] (spTimes C c3 c4 d))
  (DU:Df K mg "do_turned" sDoTurn fU fdU) (bU:Binds K fdU ["pen","way","strokes"] []) (GU:FnOk P w K mg base (CXE P w) k fU fdU ["pen","way","strokes"] (spTurned C c3 c4 d)) (h5:5≤k):FnOk P w K mg base (CXE P w) (k + 1) f fd ["pen","stroke"] (spStroke C c3 c4 d):=by
 refine fun_okX D.F scStroke (fun vs H Q E h=>?_) (fun cdv A outer s H vs Q E hr h=>?_)
 ·obtain ⟨x,L,r,H0,S,st,rfl,_⟩:=h
  rfl
 ·obtain ⟨x,L,r,H0,S,st,rfl,pen,S0,n0,nL,t8,dr,gd,k3,k4,kk⟩:=h
  have hr5:Room 5 _:=hr.mono h5
  have hr4:Room 4 _:=hr.mono (by omega)
  refine ⟨_,(pss_cons (ps_set (i:=2) scStroke.nd rfl (Or.inl rfl) (pe_ix ix_tup (pv 1) pe_int (fun _ _=>rfl)))
   (pss_one (ps_if (pt_cmpR op_eq (pv 2) pe_str (nomark _)) (pss_one (ps_expr (pe_meth (pv 0) T.cl T.mD GD hr5 bD .nil passE (pac (pe_ix ix_tup (pv 1) pe_int (fun _ _=>rfl)) (pac (pe_ix ix_tup (pv 1) pe_int (fun _ _=>rfl)) pa_nil)))))
    (pss_one (ps_if (pt_cmpR op_eq (pv 2) pe_str (nomark _)) (pss_one (ps_expr (pe_meth (pv 0) T.cl T.mC GC hr4 bC .nil passE (pac (pe_ix ix_tup (pv 1) pe_int (fun _ _=>rfl)) (pac (pe_ix ix_tup (pv 1) pe_int (fun _ _=>rfl)) pa_nil)))))
    (pss_one (ps_if (pt_cmpR op_eq (pv 2) pe_str (nomark _)) (pss_one (ps_fld (pv 0) (pe_ix ix_tup (pv 1) pe_int (fun _ _=>rfl)) rfl))
    (pss_one (ps_if (pt_cmpR op_eq (pv 2) pe_str (nomark _)) (pss_one (ps_expr (pec GK hr rfl DK.m DK.F.kp bK .nil passE (pac (pv 0) (pac (pe_ix ix_tup (pv 1) pe_int (fun _ _=>rfl)) pa_nil)))))
    (pss_one (ps_if (pt_cmpR op_eq (pv 2) pe_str (nomark _)) (pss_one (ps_expr (pec GM hr rfl DM.m DM.F.kp bM .nil passE (pac (pv 0) (pac (pe_ix ix_tup (pv 1) pe_int (fun _ _=>rfl)) (pac (pe_ix ix_tup (pv 1) pe_int (fun _ _=>rfl)) pa_nil))))))
    (pss_one (ps_expr (pec GU hr rfl DU.m DU.F.kp bU .nil passE (pac (pv 0) (pac (pe_ix ix_tup (pv 1) pe_int (fun _ _=>rfl)) (pac (pe_ix ix_tup (pv 1) pe_int (fun _ _=>rfl)) pa_nil))))))))))))))))),?_⟩
  obtain ⟨dx,q,ex,tq⟩:=pen.ex
  cases dr with
  | @line _ a b e =>
   have e1:=S0 _ _ e
   simp only [stR,lineR] at k3 k4 kk
   refine ⟨_,rfl,r,_,_,_,rfl,rfl,SqT.of e1,rfl,?_⟩
   refine ⟨_,rfl,rfl,_,rfl,ifB_pos (by simp) ?_⟩
   refine ⟨_,rfl,x,dx,_,rfl,ex,rfl,_,rfl,r,_,_,_,rfl,rfl,SqT.of e1,rfl,_,rfl,r,_,_,_,rfl,rfl,SqT.of e1,rfl,x,L,H0,S,a,b,rfl,pen,S0,n0,nL,t8,fun h=>k3 (by rw [if_pos h]),fun h hb=>k4 (by rw [if_neg (by omega),if_neg (by rw [hb]; decide)]),fun h hb=>kk _ (by rw [if_neg (by omega),if_pos hb])⟩
  | @by_ _ a b e =>
   have e1:=S0 _ _ e
   simp only [stR,byR] at k3 k4 kk
   refine ⟨_,rfl,r,_,_,_,rfl,rfl,SqT.of e1,rfl,?_⟩
   refine ⟨_,rfl,rfl,_,rfl,ifB_neg (by decide +kernel) ?_⟩
   refine ⟨_,rfl,rfl,_,rfl,ifB_pos (by simp) ?_⟩
   refine ⟨_,rfl,x,dx,_,rfl,ex,rfl,_,rfl,r,_,_,_,rfl,rfl,SqT.of e1,rfl,_,rfl,r,_,_,_,rfl,rfl,SqT.of e1,rfl,x,L,H0,S,a,b,rfl,pen,S0,n0,nL,t8,fun hb=>k4 (by rw [if_neg (by rw [hb]; decide)]),fun hb H' S' p' _=>kk _ (by rw [if_pos hb]) H' S' p'⟩
  | @ink _ c e =>
   have e1:=S0 _ _ e
   simp only [stR] at k3 k4 kk
   refine ⟨_,rfl,r,_,_,_,rfl,rfl,SqT.of e1,rfl,?_⟩
   refine ⟨_,rfl,rfl,_,rfl,ifB_neg (by decide +kernel) ?_⟩
   refine ⟨_,rfl,rfl,_,rfl,ifB_neg (by decide +kernel) ?_⟩
   refine ⟨_,rfl,rfl,_,rfl,ifB_pos (by simp) ?_⟩
   refine ⟨_,rfl,r,_,_,_,rfl,rfl,SqT.of e1,rfl,_,rfl,x,C,dx,_,rfl,ex,T.cl,T.n2,(show (5:Nat) < 1000 by decide),?_⟩
   exact kk _ rfl _ (same_updN S0 n0) (pen.put (S':={ S with c:=c }) ex tq rfl)
  | @back _ l ys u e el hu =>
   have e1:=S0 _ _ e
   simp only [Sk.gd] at gd
   refine ⟨_,rfl,r,_,_,_,rfl,rfl,SqT.of e1,rfl,?_⟩
   refine ⟨_,rfl,rfl,_,rfl,ifB_neg (by decide +kernel) ?_⟩
   refine ⟨_,rfl,rfl,_,rfl,ifB_neg (by decide +kernel) ?_⟩
   refine ⟨_,rfl,rfl,_,rfl,ifB_neg (by decide +kernel) ?_⟩
   refine ⟨_,rfl,rfl,_,rfl,ifB_pos (by simp) ?_⟩
   exact ⟨_,rfl,_,rfl,r,_,_,_,rfl,rfl,SqT.of e1,rfl,x,L,l,H0,S,ys,u,rfl,pen,S0,n0,nL,el,hu,t8,gd,k3,k4,kk⟩
  | @times _ l ys m u e el hu =>
   have e1:=S0 _ _ e
   simp only [Sk.gd] at gd
   refine ⟨_,rfl,r,_,_,_,rfl,rfl,SqT.of e1,rfl,?_⟩
   refine ⟨_,rfl,rfl,_,rfl,ifB_neg (by decide +kernel) ?_⟩
   refine ⟨_,rfl,rfl,_,rfl,ifB_neg (by decide +kernel) ?_⟩
   refine ⟨_,rfl,rfl,_,rfl,ifB_neg (by decide +kernel) ?_⟩
   refine ⟨_,rfl,rfl,_,rfl,ifB_neg (by decide +kernel) ?_⟩
   refine ⟨_,rfl,rfl,_,rfl,ifB_pos (by simp) ?_⟩
   exact ⟨_,rfl,_,rfl,r,_,_,_,rfl,rfl,SqT.of e1,rfl,_,rfl,r,_,_,_,rfl,rfl,SqT.of e1,rfl,x,L,l,H0,S,ys,m,u,rfl,pen,S0,n0,nL,el,hu,t8,gd.1,gd.2,k3,k4,kk⟩
  | @turn _ l ys m u e el hu =>
   have e1:=S0 _ _ e
   simp only [Sk.gd] at gd
   refine ⟨_,rfl,r,_,_,_,rfl,rfl,SqT.of e1,rfl,?_⟩
   refine ⟨_,rfl,rfl,_,rfl,ifB_neg (by decide +kernel) ?_⟩
   refine ⟨_,rfl,rfl,_,rfl,ifB_neg (by decide +kernel) ?_⟩
   refine ⟨_,rfl,rfl,_,rfl,ifB_neg (by decide +kernel) ?_⟩
   refine ⟨_,rfl,rfl,_,rfl,ifB_neg (by decide +kernel) ?_⟩
   refine ⟨_,rfl,rfl,_,rfl,ifB_neg (by decide +kernel) ?_⟩
   exact ⟨_,rfl,_,rfl,r,_,_,_,rfl,rfl,SqT.of e1,rfl,_,rfl,r,_,_,_,rfl,rfl,SqT.of e1,rfl,x,L,l,H0,S,ys,m,u,rfl,pen,S0,n0,nL,el,hu,t8,gd.1,gd.2,k3,k4,kk⟩
theorem scAll:FnScope ["pen","strokes","stroke"] ["pen","strokes"] (defScope sAll):=⟨rfl,rfl,rfl,by decide +kernel,rfl,by decide +kernel,by decide +kernel⟩
theorem ok_all {f fS:Addr} {fd fdB fdS:FuncData} {d k:Nat} (D:Df K mg "do_all" sAll f fd) (T:Cl K mg C fI fB fC fD)
  (bB:Binds K fdB ["self"] []) (GB:FnOk P w K mg base (CXE P w) 1 fB fdB ["self"] (spBegin C c3))
  (DS:Df K mg "do_stroke" sStroke fS fdS) (bS:Binds K fdS ["pen","stroke"] []) (GS:FnOk P w K mg base (CXE P w) k fS fdS ["pen","stroke"] (spStroke C c3 c4 d)) (h1:1≤k):FnOk P w K mg base (CXE P w) (k + 1) f fd ["pen","strokes"] (spAll C c3 c4 (d + 1)):=by
 refine fun_okX D.F scAll (fun vs H Q E h=>?_) (fun cdv A outer s H vs Q E hr h=>?_)
 ·obtain ⟨x,L,a,H0,S,xs,sts,rfl,_⟩:=h
  rfl
 ·obtain ⟨x,L,a,H0,S,xs,sts,rfl,pen,S0,n0,nL,ea,da,t8,⟨d',ed,gd⟩,k3,k4,kk⟩:=h
  have ed':d=d':=by omega
  subst ed'
  have hr1:Room 1 _:=hr.mono h1
  refine ⟨_,(pss_one (ps_for PassesOwn.leaving rfl (pi_list (pv 1)) (pg_name (i:=2) scAll.nd rfl (Or.inl rfl)) (pss_cons (ps_expr (pe_meth0 (pv 0) T.cl T.mB GB hr1 bB .nil passE))
   (pss_one (ps_expr (pec GS hr rfl DS.m DS.F.kp bS .nil passE (pac (pv 0) (pac (pv 2) pa_nil)))))))),?_⟩
  have xl:xs.length=sts.length:=da.length
  refine ⟨_,rfl,a,rfl,⟨_,SqL.of (S0 _ _ ea)⟩,?_⟩
  refine for_list (K:=K) (a:=a) (xs:=xs) (fun i σ H1=>(∃ v2,σ=[some (.ref x),some (.ref a),v2])∧Same H0 H1∧∃ Si,PenI C H1 x L Si∧runR sts S=runR (sts.drop i) Si∧Si.t=S.t)
   ⟨⟨_,rfl⟩,S0,S,pen,by rw [List.drop_zero],rfl⟩ (fun i σ H1 _ ⟨_,s1,_⟩=>SqL.of (s1 _ _ ea)) ?_ ?_
  ·rintro i y σ H1 hy ⟨⟨v2,rfl⟩,S1,Si,peni,er,ti⟩
   have hi:i < xs.length:=(List.getElem?_eq_some_iff.mp hy).1
   obtain ⟨st,hs,dy⟩:=da.at hy
   obtain ⟨r,rfl⟩:=dy.ref
   have hdrop:sts.drop i=st :: sts.drop (i + 1):=by
    rw [List.drop_eq_getElem_cons (by omega)]
    congr 1
    have:=List.getElem?_eq_getElem (l:=sts) (i:=i) (by omega)
    rw [hs] at this
    exact (Option.some.inj this).symm
   rw [hdrop] at er
   simp only [runR] at er
   obtain ⟨dx,q,ex,tq⟩:=peni.ex
   refine ⟨_,rfl,x,dx,_,rfl,ex,rfl,x,L,H0,Si,rfl,peni,S1,n0,nL,fun h H' S'=>k3 (by rw [er,bg,if_pos h]; rfl) H' S',fun h H2 S2 pen2=>?_⟩
   have eb:bg Si (stR st)=stR st { Si with n:=Si.n + 1 }:=by rw [bg,if_neg (by omega)]
   rw [eb] at er
   refine ⟨_,rfl,_,rfl,x,L,r,H0,{ Si with n:=Si.n + 1 },st,rfl,pen2,S2,n0,nL,(by show Si.t < 8; rw [ti]; exact t8),dy,gds_at gd st (List.mem_of_getElem? hs),fun e H' S'=>k3 (by rw [er,e]; rfl) H' S',fun e H' S'=>k4 (by rw [er,e]; rfl) H' S',fun S' e H' Ss p'=>?_⟩
   refine ⟨⟨_,rfl⟩,Ss,S',p',?_,?_⟩
   ·rw [er,e]
    rfl
   ·exact ((kp_st st _ S' e).1).trans ti
  ·rintro σ H1 ⟨⟨v2,rfl⟩,S1,Si,peni,er,ti⟩
   rw [List.drop_eq_nil_of_le (by omega)] at er
   simp only [runR] at er
   exact kk Si er H1 S1 peni
end
def S00:PenS:=⟨(0,0),"black",0,0,[]⟩
def Big (ps:List Pl):Prop:=∃ ls:List Dt,ls.Nodup∧(∀ d,d∈ls↔d∈ps.map lD)∧120 < ls.length
theorem not_big {ps:List Pl} {ls:List Dt} (h:ls.Nodup) (m:∀ d,d∈ls↔d∈ps.map lD) (l:ls.length≤120):¬ Big ps:=fun ⟨ls',h',m',l'⟩=>by
 have:=((List.perm_ext_iff_of_nodup h h').mpr fun d=>(m d).trans (m' d).symm).length_eq
 omega
theorem ex_ls:∀ l:List Dt,∃ ls:List Dt,ls.Nodup∧(∀ d,d∈ls↔d∈l)∧ls.length≤l.length
 | []=>⟨[],List.nodup_nil,fun _=>Iff.rfl,Nat.le_refl _⟩
 | a :: l=>by
  obtain ⟨ls,nd,m,ll⟩:=ex_ls l
  by_cases h:a∈l
  ·refine ⟨ls,nd,fun d=>?_,Nat.le_succ_of_le ll⟩
   rw [m,List.mem_cons]
   exact ⟨.inr,fun z=>z.elim (fun e=>e ▸ h) id⟩
  ·refine ⟨a :: ls,List.nodup_cons.mpr ⟨fun z=>h ((m a).mp z),nd⟩,fun d=>?_,Nat.succ_le_succ ll⟩
   rw [List.mem_cons,List.mem_cons,m]
section
variable {P:Program} {w:World} {K:PySem.W.Frag} {mg:Str→Option Value} {base:Heap} {C fI fB fC fD c2 c3 c4:Addr}
def spDrawn (c2 c3 c4:Addr) (d:Nat):Sp:=fun vs H Q E=>∃ (a:Addr) (xs:List V) (sts:List Sk),vs=[.ref a]∧H a=some (.lst xs)∧SksIs H xs sts∧(∃ e,d=e + 1∧gds sts e) ∧
 (runR sts S00=.many→∀ H',Same H H'→E (.ref c3) none H')∧(runR sts S00=.hole→∀ H',Same H H'→E (.ref c4) none H') ∧
 (∀ S',runR sts S00=.ok S'→(twoC S'.ps→∀ H',Same H H'→E (.ref c2) none H')∧(¬ twoC S'.ps→Big S'.ps→∀ H',Same H H'→E (.ref c3) none H')∧(¬ twoC S'.ps→¬ Big S'.ps→∀ l qs H',PicOut H S'.ps l H' qs→Q (.ref l) H'))
theorem scDrawn:FnScope ["strokes","pen"] ["strokes"] (defScope sDrawn):=⟨rfl,rfl,rfl,by decide +kernel,rfl,by decide +kernel,by decide +kernel⟩
theorem ok_drawn {f fA fV:Addr} {fd fdI fdA fdV:FuncData} {d k:Nat} (D:Df K mg "drawn" sDrawn f fd) (T:Cl K mg C fI fB fC fD)
  (bI:Binds K fdI ["self"] []) (GI:FnOk P w K mg base CX0 1 fI fdI ["self"] (spInit C))
  (DA:Df K mg "do_all" sAll fA fdA) (bA:Binds K fdA ["pen","strokes"] []) (GA:FnOk P w K mg base (CXE P w) k fA fdA ["pen","strokes"] (spAll C c3 c4 d))
  (DV:Df K mg "picture" sPict fV fdV) (bV:Binds K fdV ["pairs"] []) (GV:FnOk P w K mg base (CXE P w) 1 fV fdV ["pairs"] (spPict K c2 c3)) (h2:2≤k):FnOk P w K mg base (CXE P w) (k + 1) f fd ["strokes"] (spDrawn c2 c3 c4 d):=by
 refine fun_okX D.F scDrawn (fun vs H Q E h=>?_) (fun cdv A outer s H vs Q E hr h=>?_)
 ·obtain ⟨a,xs,sts,rfl,_⟩:=h
  rfl
 ·obtain ⟨a,xs,sts,rfl,ea,da,gd,k3,k4,kk⟩:=h
  have hr1:Room 1 _:=hr.mono (by omega)
  have hr2:Room 2 _:=hr.mono (by omega)
  refine ⟨_,(pss_cons (ps_set (i:=1) scDrawn.nd rfl (Or.inl rfl) (pe_make0 T.mkC GI hr2 rfl T.mg bI .nil pass0))
   (pss_cons (ps_expr (pec GA hr rfl DA.m DA.F.kp bA .nil passE (pac (pv 1) (pac (pv 0) pa_nil))))
   (pss_one (ps_ret (pec GV hr1 rfl DV.m DV.F.kp bV .nil passE (pac (pe_fld (pv 1) rfl) pa_nil)))))),?_⟩
  refine fun x dx nx ndx ne=>?_
  have S1:Same H (upd (upd H dx (.own x)) x (.ins C dx [])):=same_updN (same_upd ndx) nx
  refine ⟨x,dx,H,rfl,upd_same,S1,nx,fun L H1 S2 nL pen=>⟨rfl,?_⟩⟩
  refine ⟨_,rfl,_,rfl,x,L,a,H,_,xs,sts,rfl,pen,S2,nx,nL,ea,da,by decide,gd,k3,k4,fun S' hS' H3 S3 pen3=>?_⟩
  obtain ⟨dx3,q3,ex3,tq3⟩:=pen3.ex
  obtain ⟨ys,eL,dL⟩:=pen3.pic
  have pl:S'.ps.length≤400:=(kp_run sts _ S' hS').2 (Nat.zero_le _)
  obtain ⟨ls,lnd,lmem,ll⟩:=ex_ls (S'.ps.map lD)
  obtain ⟨h2',h3',hq⟩:=kk S' hS'
  refine ⟨_,rfl,x,C,dx3,_,_,rfl,ex3,T.cl,T.n5,fld_pairs _ _ _,L,ys,S'.ps,ls,rfl,SqL.of eL,dL,pl,lnd,lmem,fun t H' Sx=>h2' t H' (S3.trans Sx),fun n g H' Sx=>h3' n ⟨ls,lnd,lmem,g⟩ H' (S3.trans Sx),fun n g l qs H' o=>hq n (not_big lnd lmem g) l qs H' ⟨S3.trans o.same,none_same S3 o.new,o.pic,o.nd,o.mem,o.rise⟩⟩
end
structure Kit9 (K:PySem.W.Frag) (c0 c1 c2 c3 c4 c5 c6 c7 c8 r:Addr) (j:Nat):Prop where
 x:XCls K r
 q:PySem.W.excIn K r [.type "ValueError",.type "Exception",.type "BaseException",.type "object"] "ValueError.__new__"=true
 ex:PySem.W.exmOne K (.ref r) (.ref c0)=some true
 v:PySem.W.kitOne K (.ref r) (.type "ValueError")=some true
 k1:PySem.W.kitOne K (.ref r) (.ref c1)=some (j == 1)
 k2:PySem.W.kitOne K (.ref r) (.ref c2)=some (j == 2)
 k3:PySem.W.kitOne K (.ref r) (.ref c3)=some (j == 3)
 k4:PySem.W.kitOne K (.ref r) (.ref c4)=some (j == 4)
 k5:PySem.W.kitOne K (.ref r) (.ref c5)=some (j == 5)
 k6:PySem.W.kitOne K (.ref r) (.ref c6)=some (j == 6)
 k7:PySem.W.kitOne K (.ref r) (.ref c7)=some (j == 7)
 k8:PySem.W.kitOne K (.ref r) (.ref c8)=some (j == 8)
structure Nam9 (mg:Str→Option Value) (c0 c1 c2 c3 c4 c5 c6 c7 c8:Addr):Prop where
 m0:mg "ClothError"=some (.ref c0)
 m1:mg "NoLine"=some (.ref c1)
 m2:mg "TwoColours"=some (.ref c2)
 m3:mg "TooMany"=some (.ref c3)
 m4:mg "NoHole"=some (.ref c4)
 m5:mg "NoDrawing"=some (.ref c5)
 m6:mg "NoThread"=some (.ref c6)
 m7:mg "NoPlan"=some (.ref c7)
 m8:mg "NoChart"=some (.ref c8)
section
variable {P:Program} {w:World} {K:PySem.W.Frag} {mg:Str→Option Value} {base:Heap} {c0 c1 c2 c3 c4 c5 c6 c7 c8:Addr}
def Outs (H:Hp) (Q:VK) (sts:List Sk):Prop:=(runR sts S00=.many→∀ H',Same H H'→Q (.str "many") H')∧(runR sts S00=.hole→∀ H',Same H H'→Q (.str "hole") H')∧∀ S',runR sts S00=.ok S'→(twoC S'.ps→∀ H',Same H H'→Q (.str "two") H')∧(¬ twoC S'.ps→Big S'.ps→∀ H',Same H H'→Q (.str "many") H')∧(¬ twoC S'.ps→¬ Big S'.ps→∀ l qs H',PicOut H S'.ps l H' qs→Q (.ref l) H')
def spTold (d:Nat):Sp:=fun vs H Q _=>∃ (a:Addr) (xs:List V) (sts:List Sk),vs=[.ref a]∧H a=some (.lst xs)∧SksIs H xs sts∧(∃ e,d=e + 1∧gds sts e)∧Outs H Q sts
theorem scTold:FnScope ["_law_strokes_here","_law_error","_law_found","e","_law_some"] ["_law_strokes_here"] (defScope sTold):=⟨rfl,rfl,rfl,by decide +kernel,rfl,by decide +kernel,by decide +kernel⟩
theorem ok_told {f fD:Addr} {fd fdD:FuncData} {d k:Nat} (D:Df K mg "_law_told" sTold f fd) (B:Blt mg) (N:Nam9 mg c0 c1 c2 c3 c4 c5 c6 c7 c8) (T2:Kit9 K c0 c1 c2 c3 c4 c5 c6 c7 c8 c2 2) (T3:Kit9 K c0 c1 c2 c3 c4 c5 c6 c7 c8 c3 3) (T4:Kit9 K c0 c1 c2 c3 c4 c5 c6 c7 c8 c4 4)
  (DD:Df K mg "drawn" sDrawn fD fdD) (bD:Binds K fdD ["strokes"] []) (GD:FnOk P w K mg base (CXE P w) k fD fdD ["strokes"] (spDrawn c2 c3 c4 d)):FnOk P w K mg base CX0 (k + 1) f fd ["_law_strokes_here"] (spTold d):=by
 refine D.F.ok scTold (fun vs H Q E h=>?_) (fun cdv A outer s H vs Q E hr h=>?_)
 ·obtain ⟨a,xs,sts,rfl,_⟩:=h
  rfl
 ·obtain ⟨a,xs,sts,rfl,ea,da,gd,k3,k4,kk⟩:=h
  refine ⟨_,(pss_cons (ps_set (i:=1) scTold.nd rfl (Or.inl rfl) pe_non)
   (pss_cons (ps_set (i:=2) scTold.nd rfl (Or.inl rfl) (pe_lst pa_nil))
   (pss_cons (ps_try (i:=3) (Cc:=c0) rfl rfl scTold.nd rfl rfl rfl N.m0 (fun _ _ z=>z)
    (fun pn W=>pss_one (ps_set (i:=2) scTold.nd rfl (Or.inl rfl) (pe_callX GD hr rfl DD.m DD.F.kp bD (pac (pv 0) pa_nil))))
    (fun x pn=>pss_one (ps_set (i:=1) scTold.nd rfl (Or.inl rfl) (pv 3))))
   (pss_cons (ps_if (pt_cmpR op_isN (pv 1) pe_non (nomark _)) (pss_one (ps_ret (pv 2))) pss_nil)
   (pss_cons (ps_set (i:=4) scTold.nd rfl (Or.inl rfl) (pe_lst (pac (pe_callB call_isiX (by rfl) B.isi boot_isinstance (pac (pv 1) (pac (pe_glob (v:=.ref c3) rfl N.m3 rfl) pa_nil))) (pac (pe_callB call_isiX (by rfl) B.isi boot_isinstance (pac (pv 1) (pac (pe_glob (v:=.ref c4) rfl N.m4 rfl) pa_nil))) (pac (pe_callB call_isiX (by rfl) B.isi boot_isinstance (pac (pv 1) (pac (pe_glob (v:=.ref c2) rfl N.m2 rfl) pa_nil))) pa_nil)))))
   (pss_cons (ps_if (PW.pt (pw_or (pt_not (pt_val (pe_callB call_isiX (by rfl) B.isi boot_isinstance (pac (pv 1) (pac (pe_bltn (v:=.ty "ValueError") (by rfl) B.val PyProof.Rows.Boot.«ValueError» rfl) pa_nil)))))
     (pw_or1 (pt_val (pe_callB call_isiXT (by rfl) B.isi boot_isinstance (pac (pv 1) (pac (pe_tup (pac (pe_glob (v:=.ref c5) rfl N.m5 rfl) (pac (pe_glob (v:=.ref c1) rfl N.m1 rfl) (pac (pe_glob (v:=.ref c8) rfl N.m8 rfl) (pac (pe_glob (v:=.ref c7) rfl N.m7 rfl) (pac (pe_glob (v:=.ref c6) rfl N.m6 rfl) pa_nil)))))) pa_nil))))))) (pss_one (ps_ret pe_str)) pss_nil)
   (pss_cons (ps_if (pt_cmpR op_ne (pe_bm PySem.F.plainAttrs_list PySem.F.slot_list_count PySem.F.type_list_count mt_count (pv 4) (pac (pe_bl) pa_nil)) pe_int (nomark _)) (pss_one (ps_ret pe_str)) pss_nil)
   (pss_one (ps_ret (pe_ix ix_list (pe_lst (pac (pe_str) (pac (pe_str) (pac (pe_str) pa_nil)))) (pe_bm PySem.F.plainAttrs_list PySem.F.slot_list_index PySem.F.type_list_index mt_index (pv 4) (pac (pe_bl) pa_nil)) (fun _ _=>rfl))))))))))),?_⟩
  refine ⟨szr rfl,fun F0 nF=>?_⟩
  have TF:=same_upd (o:=HO.lst []) nF
  refine' laterS (fun σ H1=>Same H H1∧((∃ l,σ=[some (.ref a),some .non,some (.ref l),none,none]∧Q (.ref l) H1)∨(∃ x o r j v3,σ=[some (.ref a),some (.ref x),some (.ref F0),v3,none]∧H1 x=some (frzX o)∧ExcO (.ref r) o∧Kit9 K c0 c1 c2 c3 c4 c5 c6 c7 c8 r j∧((j=3∧∀ H',Same H H'→Q (.str "many") H')∨(j=4∧∀ H',Same H H'→Q (.str "hole") H')∨(j=2∧∀ H',Same H H'→Q (.str "two") H'))))) (fun fin=>_) _
  rotate_left
  ·refine ⟨_,rfl,a,xs,sts,rfl,TF _ _ ea,da.same TF,gd,fun hn H1 S1=>?_,fun hn H1 S1=>?_,fun S' hS=>⟨fun t H1 S1=>?_,fun n g H1 S1=>?_,fun n g l qs H1 o=>?_⟩⟩
   ·refine ⟨T3.ex,fun x o hn' hx=>?_⟩
    dsimp only [gName]
    refine ⟨_,rfl,?_⟩
    exact fin _ _ ⟨(TF.trans S1).trans (same_upd hn'),.inr ⟨x,o,c3,3,_,rfl,upd_same,hx,T3,.inl ⟨rfl,k3 hn⟩⟩⟩
   ·refine ⟨T4.ex,fun x o hn' hx=>?_⟩
    dsimp only [gName]
    refine ⟨_,rfl,?_⟩
    exact fin _ _ ⟨(TF.trans S1).trans (same_upd hn'),.inr ⟨x,o,c4,4,_,rfl,upd_same,hx,T4,.inr (.inl ⟨rfl,k4 hn⟩)⟩⟩
   ·refine ⟨T2.ex,fun x o hn' hx=>⟨_,rfl,?_⟩⟩
    exact fin _ _ ⟨(TF.trans S1).trans (same_upd hn'),.inr ⟨x,o,c2,2,_,rfl,upd_same,hx,T2,.inr (.inr ⟨rfl,(kk S' hS).1 t⟩)⟩⟩
   ·refine ⟨T3.ex,fun x o hn' hx=>⟨_,rfl,?_⟩⟩
    exact fin _ _ ⟨(TF.trans S1).trans (same_upd hn'),.inr ⟨x,o,c3,3,_,rfl,upd_same,hx,T3,.inl ⟨rfl,(kk S' hS).2.1 n g⟩⟩⟩
   ·exact fin _ _ ⟨TF.trans o.same,.inl ⟨l,rfl,(kk S' hS).2.2 n g l qs H1 ⟨TF.trans o.same,none_same TF o.new,o.pic,o.nd,o.mem,o.rise⟩⟩⟩
  rintro σ H1 ⟨S1,⟨l,rfl,ql⟩ | ⟨x,o,r,j,v3,rfl,ex,eo,T,alt⟩⟩
  ·exact ⟨_,rfl,rfl,_,rfl,ifB_pos (by simp) ⟨_,rfl,ql⟩⟩
  ·refine ⟨_,rfl,rfl,_,rfl,ifB_neg (by simp) ?_⟩
   refine ⟨_,rfl,x,o,r,_,_,rfl,ex,eo,T.x,isi_ref T.k3,_,rfl,x,o,r,_,_,rfl,ex,eo,T.x,isi_ref T.k4,_,rfl,x,o,r,_,_,rfl,ex,eo,T.x,isi_ref T.k2,szr rfl,fun M nM=>?_⟩
   have TM:=same_upd (o:=HO.lst [V.bl (j == 3),.bl (j == 4),.bl (j == 2)]) nM
   have ex2:=TM _ _ ex
   refine ⟨_,rfl,x,o,r,_,_,rfl,ex2,eo,T.x,⟨_,rfl,fun _ h=>h,T.v⟩,_,rfl,iteF ?_⟩
   refine ⟨_,rfl,szr rfl,fun t nt=>?_⟩
   have Tt:=same_upd (o:=HO.tup [V.ref c5,.ref c1,.ref c8,.ref c7,.ref c6]) nt
   have hj:j=3∨j=4∨j=2:=alt.elim (fun h=>.inl h.1) fun h=>.inr (h.elim (fun h=>.inl h.1) fun h=>.inr h.1)
   refine ⟨x,o,r,t,[c5,c1,c8,c7,c6],false,rfl,Tt _ _ ex2,eo,T.x,upd_same,kitAny_no fun c hc=>?_,_,rfl,iteF ?_⟩
   ·simp only [List.map_cons,List.map_nil,List.mem_cons,List.not_mem_nil,or_false] at hc
    rcases hc with rfl | rfl | rfl | rfl | rfl
    ·exact T.k5.trans (by rcases hj with rfl | rfl | rfl <;> rfl)
    ·exact T.k1.trans (by rcases hj with rfl | rfl | rfl <;> rfl)
    ·exact T.k8.trans (by rcases hj with rfl | rfl | rfl <;> rfl)
    ·exact T.k7.trans (by rcases hj with rfl | rfl | rfl <;> rfl)
    ·exact T.k6.trans (by rcases hj with rfl | rfl | rfl <;> rfl)
   have eM:(upd (upd H1 M (.lst [V.bl (j == 3),.bl (j == 4),.bl (j == 2)])) t (.tup [V.ref c5,.ref c1,.ref c8,.ref c7,.ref c6])) M=some (.lst [V.bl (j == 3),.bl (j == 4),.bl (j == 2)]):=Tt _ _ upd_same
   have S2:=S1.trans (TM.trans Tt)
   revert eM S2
   generalize (upd (upd H1 M (.lst [V.bl (j == 3),.bl (j == 4),.bl (j == 2)])) t (.tup [V.ref c5,.ref c1,.ref c8,.ref c7,.ref c6]))=H2
   intro eM S2
   refine ⟨_,rfl,.inl ⟨rfl,_,SqL.of eM⟩,M,_,.bl true,rfl,rfl,eM,rfl,rfl,rfl,_,rfl,ifB_neg (by rcases hj with rfl | rfl | rfl <;> decide) ?_⟩
   refine ⟨szr rfl,fun L nL=>?_⟩
   have TL:=same_upd (o:=HO.lst [V.str "many",.str "hole",.str "two"]) nL
   have eM2:=TL _ _ eM
   rcases alt with ⟨rfl,q⟩ | ⟨rfl,q⟩ | ⟨rfl,q⟩
   ·refine ⟨_,rfl,.inl ⟨rfl,_,SqL.of eM2⟩,M,_,.bl true,0,rfl,rfl,eM2,rfl,rfl,by decide,⟨_,rfl,rfl⟩,fun m z hm ez=>(by omega),L,_,_,_,rfl,rfl,SqL.of upd_same,rfl,q _ (S2.trans TL)⟩
   ·refine ⟨_,rfl,.inl ⟨rfl,_,SqL.of eM2⟩,M,_,.bl true,1,rfl,rfl,eM2,rfl,rfl,by decide,⟨_,rfl,rfl⟩,fun m z hm ez=>?_,L,_,_,_,rfl,rfl,SqL.of upd_same,rfl,q _ (S2.trans TL)⟩
    have:m=0:=by omega
    subst this
    cases ez
    rfl
   ·refine ⟨_,rfl,.inl ⟨rfl,_,SqL.of eM2⟩,M,_,.bl true,2,rfl,rfl,eM2,rfl,rfl,by decide,⟨_,rfl,rfl⟩,fun m z hm ez=>?_,L,_,_,_,rfl,rfl,SqL.of upd_same,rfl,q _ (S2.trans TL)⟩
    have:m=0∨m=1:=by omega
    rcases this with rfl | rfl <;> (cases ez; rfl)
end
def Qt (f:PenS→Res) (c:Nat):Prop:=∀ S:PenS,S.t=0→S.p=(0,0)→S.ps=[]→S.n≤2000→(S.n + c≤2000→∃ S',f S=.ok S'∧S'.n=S.n + c∧S'.t=0∧S'.p=(0,0)∧S'.ps=[])∧(2000 < S.n + c→f S=.many)
theorem qt_ink (x:Str):Qt (stR (.ink x)) 0:=fun S t p e n=>⟨fun _=>⟨{ S with c:=x },by simp only [stR],rfl,t,p,e⟩,fun h=>by omega⟩
theorem qt_by:Qt (stR (.by_ 0 0)) 0:=fun S t p e n=>by
 have hc:comeP S 0 0=(0,0):=by unfold comeP; rw [t,p]; rfl
 refine ⟨fun _=>⟨{ S with p:=(0,0) },?_,rfl,t,rfl,e⟩,fun h=>by omega⟩
 simp only [stR,byR]
 rw [hc,if_pos (by decide)]
theorem qt_bg {f:PenS→Res} {c:Nat} (h:Qt f c):Qt (fun S=>bg S f) (c + 1):=fun S t p e n=>by
 by_cases g:2000≤S.n
 ·exact ⟨fun z=>by omega,fun _=>by show bg S f=_; rw [bg,if_pos g]⟩
 ·have eb:bg S f=f { S with n:=S.n + 1 }:=by rw [bg,if_neg g]
  obtain ⟨h1,h2⟩:=h { S with n:=S.n + 1 } t p e (by show S.n + 1≤2000; omega)
  refine ⟨fun z=>?_,fun z=>eb.trans (h2 (by show 2000 < S.n + 1 + c; omega))⟩
  obtain ⟨S',e1,e2,e3⟩:=h1 (by show S.n + 1 + c≤2000; omega)
  exact ⟨S',eb.trans e1,by rw [e2]; show S.n + 1 + c=_; omega,e3⟩
theorem qt_bind {f g:PenS→Res} {c d:Nat} (h:Qt f c) (k:Qt g d):Qt (fun S=>(f S).bind g) (c + d):=fun S t p e n=>by
 obtain ⟨h1,h2⟩:=h S t p e n
 by_cases z:S.n + c≤2000
 ·obtain ⟨S',e1,e2,t',p',e'⟩:=h1 z
  obtain ⟨k1,k2⟩:=k S' t' p' e' (by omega)
  refine ⟨fun y=>?_,fun y=>?_⟩
  ·obtain ⟨S2,f1,f2,f3⟩:=k1 (by omega)
   exact ⟨S2,by show (f S).bind g=_; rw [e1]; exact f1,by omega,f3⟩
  ·show (f S).bind g=_
   rw [e1]
   exact k2 (by omega)
 ·refine ⟨fun y=>by omega,fun _=>?_⟩
  show (f S).bind g=_
  rw [h2 (by omega)]
  rfl
theorem qt_tm {f:PenS→Res} {c:Nat} (h:Qt f c):∀ m:Nat,Qt (tmR f m) (m * (c + 1))
 | 0=>fun S t p e n=>⟨fun _=>⟨S,rfl,by omega,t,p,e⟩,fun z=>by omega⟩
 | m + 1=>by
  have:=qt_bind (qt_bg h) (qt_tm h m)
  rw [show c + 1 + m * (c + 1)=(m + 1) * (c + 1) by rw [Nat.succ_mul]; omega] at this
  exact this
theorem qt_nil:Qt (runR []) 0:=fun S t p e n=>⟨fun _=>⟨S,by simp only [runR],rfl,t,p,e⟩,fun z=>by omega⟩
theorem qt_cons {s:Sk} {r:List Sk} {c d:Nat} (h:Qt (stR s) c) (k:Qt (runR r) d):Qt (runR (s :: r)) (c + 1 + d):=by
 have:=qt_bind (qt_bg h) k
 intro S
 simp only [runR]
 exact this S
theorem qt_rep (x:Str):∀ c:Nat,Qt (runR (List.replicate c (.ink x))) c
 | 0=>qt_nil
 | c + 1=>by
  have:=qt_cons (qt_ink x) (qt_rep x c)
  rw [show 0 + 1 + c=c + 1 by omega] at this
  exact this
theorem qt_times {u:List Sk} {c:Nat} (h:Qt (runR u) c) (m:Nat):Qt (stR (.times m u)) (m * (c + 1)):=by
 intro S
 simp only [stR]
 exact qt_tm h m S
def manySts (a m:Nat) (x:Sk) (c:Nat):List Sk:=[.times a [.times m [x]]] ++ List.replicate c (.ink "b")
theorem many_run {a m c:Nat} {x:Sk} (hx:Qt (stR x) 0):Qt (runR (manySts a m x c)) (a * (2 * m + 2) + 1 + c):=by
 have h1:=qt_times (qt_cons hx qt_nil) m
 have h2:=qt_times (qt_cons h1 qt_nil) a
 have:=qt_cons h2 (qt_rep "b" c)
 rw [show a * (m * (0 + 1 + 0 + 1) + 1 + 0 + 1) + 1 + c=a * (2 * m + 2) + 1 + c by rw [show m * (0 + 1 + 0 + 1) + 1 + 0 + 1=2 * m + 2 by omega]] at this
 exact this
theorem come00 {S:PenS} (h:S.t=0) (a b:Int):comeP S a b=(S.p.1 + a,S.p.2 + b):=by
 unfold comeP
 rw [h]
 rfl
theorem in_of {x y:Int} (h1:-1000000000≤x) (h2:x≤1000000000) (h3:-1000000000≤y) (h4:y≤1000000000):inB (x,y)=true:=by
 have:inB (x,y)=decide ((-1000000000≤x∧x≤1000000000)∧(-1000000000≤y∧y≤1000000000)):=by
  simp [inB,good,Bool.decide_and]
 rw [this]
 exact decide_eq_true ⟨⟨h1,h2⟩,h3,h4⟩
theorem out_of {x y:Int} (h:¬ ((-1000000000≤x∧x≤1000000000)∧(-1000000000≤y∧y≤1000000000))):inB (x,y)=false:=by
 have:inB (x,y)=decide ((-1000000000≤x∧x≤1000000000)∧(-1000000000≤y∧y≤1000000000)):=by
  simp [inB,good,Bool.decide_and]
 rw [this]
 exact decide_eq_false h
theorem by_run {S:PenS} {a b:Int} {r:List Sk} (t:S.t=0) (n:S.n < 2000) (i:inB (S.p.1 + a,S.p.2 + b)=true):runR (.by_ a b :: r) S=runR r { S with n:=S.n + 1,p:=(S.p.1 + a,S.p.2 + b) }:=by
 simp only [runR]
 rw [bg,if_neg (by omega)]
 simp only [stR,byR]
 rw [come00 (S:={ S with n:=S.n + 1 }) t,if_pos i]
 rfl
theorem by_hole {S:PenS} {a b:Int} {r:List Sk} (t:S.t=0) (n:S.n < 2000) (i:inB (S.p.1 + a,S.p.2 + b)=false):runR (.by_ a b :: r) S=.hole:=by
 simp only [runR]
 rw [bg,if_neg (by omega)]
 simp only [stR,byR]
 rw [come00 (S:={ S with n:=S.n + 1 }) t,if_neg (by rw [i]; decide)]
 rfl
def mkL (p q:Int×Int) (c:Str):Pl:=⟨(ordP p q).1,(ordP p q).2,c⟩
theorem line_run {S:PenS} {a b:Int} {r:List Sk} (t:S.t=0) (n:S.n < 2000) (l:S.ps.length < 400) (i:inB (S.p.1 + a,S.p.2 + b)=true):runR (.line a b :: r) S=runR r { S with n:=S.n + 1,p:=(S.p.1 + a,S.p.2 + b),ps:=S.ps ++ [mkL S.p (S.p.1 + a,S.p.2 + b) S.c] }:=by
 simp only [runR]
 rw [bg,if_neg (by omega)]
 simp only [stR,lineR]
 rw [if_neg (by show ¬ 400≤S.ps.length; omega),come00 (S:={ S with n:=S.n + 1 }) t,if_pos i]
 show runR r (drawP _ a b)=_
 unfold drawP
 rw [come00 (S:={ S with n:=S.n + 1 }) t]
 rfl
theorem line_hole {S:PenS} {a b:Int} {r:List Sk} (t:S.t=0) (n:S.n < 2000) (l:S.ps.length < 400) (i:inB (S.p.1 + a,S.p.2 + b)=false):runR (.line a b :: r) S=.hole:=by
 simp only [runR]
 rw [bg,if_neg (by omega)]
 simp only [stR,lineR]
 rw [if_neg (by show ¬ 400≤S.ps.length; omega),come00 (S:={ S with n:=S.n + 1 }) t,if_neg (by rw [i]; decide)]
 rfl
theorem line_many {S:PenS} {a b:Int} {r:List Sk} (n:S.n < 2000) (l:400≤S.ps.length):runR (.line a b :: r) S=.many:=by
 simp only [runR]
 rw [bg,if_neg (by omega)]
 simp only [stR,lineR]
 rw [if_pos (by exact l)]
 rfl
theorem ink_run {S:PenS} {x:Str} {r:List Sk} (n:S.n < 2000):runR (.ink x :: r) S=runR r { S with n:=S.n + 1,c:=x }:=by
 simp only [runR]
 rw [bg,if_neg (by omega)]
 simp only [stR]
 rfl
def P0:Int×Int:=(1000000000,5)
def L1:Pl:=⟨(999999999,5),(1000000000,5),"black"⟩
def L2:Pl:=⟨(1000000000,5),(1000000000,6),"black"⟩
def tofro:List Sk:=[.line (-1) 0,.line 1 0]
def Lt (f:PenS→Res) (c k:Nat):Prop:=∀ S:PenS,S.t=0→S.p=P0→S.c="black"→S.n + c≤2000→S.ps.length + k≤400→f S=.ok { S with n:=S.n + c,ps:=S.ps ++ List.replicate k L1 }
theorem lt_app {u v:List Sk} {c d k j:Nat} (h:Lt (runR u) c k) (g:Lt (runR v) d j) (e:∀ S,runR (u ++ v) S=(runR u S).bind (runR v)):Lt (runR (u ++ v)) (c + d) (k + j):=fun S t p co n l=>by
 rw [e,h S t p co (by omega) (by omega)]
 show runR v _=_
 rw [g { S with n:=S.n + c,ps:=S.ps ++ List.replicate k L1 } t p co (by show S.n + c + d≤2000; omega) (by show (S.ps ++ List.replicate k L1).length + j≤400; rw [List.length_append,List.length_replicate]; omega)]
 congr 2
 ·show S.n + c + d=_
  omega
 ·show S.ps ++ List.replicate k L1 ++ List.replicate j L1=_
  rw [List.append_assoc,List.replicate_append_replicate]
theorem run_app:∀ (u v:List Sk) (S:PenS),runR (u ++ v) S=(runR u S).bind (runR v)
 | [],v,S=>by simp only [List.nil_append,runR]; rfl
 | s :: u,v,S=>by
  simp only [List.cons_append,runR]
  cases bg S (stR s) with
  | ok S1=>exact run_app u v S1
  | many=>rfl
  | hole=>rfl
theorem lt_nil:Lt (runR []) 0 0:=fun S t p co n l=>by
 simp only [runR]
 show _=Res.ok { S with n:=S.n,ps:=S.ps ++ [] }
 rw [List.append_nil]
theorem lt_tofro:Lt (runR tofro) 2 2:=fun S t p co n l=>by
 unfold tofro
 rw [line_run t (by omega) (by omega) (by rw [p]; decide)]
 rw [line_run (S:={ S with n:=S.n + 1,p:=(S.p.1 + -1,S.p.2 + 0),ps:=S.ps ++ [mkL S.p (S.p.1 + -1,S.p.2 + 0) S.c] }) t (by show S.n + 1 < 2000; omega) (by show (S.ps ++ [_]).length < 400; rw [List.length_append]; show _ + 1 < _; omega) (by rw [p]; show inB (P0.1 + -1 + 1,P0.2 + 0 + 0)=true; decide)]
 simp only [runR]
 rw [p,co]
 congr 2
 rw [List.append_assoc]
 rfl
theorem lt_tm {f:PenS→Res} {c k:Nat} (h:Lt f c k):∀ m:Nat,Lt (tmR f m) (m * (c + 1)) (m * k)
 | 0=>fun S t p co n l=>by
  rw [Nat.zero_mul,Nat.zero_mul]
  show _=Res.ok { S with n:=S.n,ps:=S.ps ++ [] }
  rw [List.append_nil]
  rfl
 | m + 1=>fun S t p co n l=>by
  rw [Nat.succ_mul] at n l
  show (bg S f).bind (tmR f m)=_
  rw [bg,if_neg (by omega),h { S with n:=S.n + 1 } t p co (by show S.n + 1 + c≤2000; omega) (by show S.ps.length + k≤400; omega)]
  show tmR f m _=_
  rw [lt_tm h m { S with n:=S.n + 1 + c,ps:=S.ps ++ List.replicate k L1 } t p co (by show S.n + 1 + c + m * (c + 1)≤2000; omega) (by show (S.ps ++ List.replicate k L1).length + m * k≤400; rw [List.length_append,List.length_replicate]; omega)]
  congr 2
  ·show S.n + 1 + c + m * (c + 1)=_
   rw [Nat.succ_mul]
   omega
  ·show S.ps ++ List.replicate k L1 ++ List.replicate (m * k) L1=_
   rw [List.append_assoc,List.replicate_append_replicate,Nat.succ_mul,Nat.add_comm k]
theorem lt_times {u:List Sk} {c k:Nat} (h:Lt (runR u) c k) (m:Nat):Lt (runR [.times m u]) (m * (c + 1) + 1) (m * k):=fun S t p co n l=>by
 simp only [runR]
 rw [bg,if_neg (by omega)]
 simp only [stR]
 rw [lt_tm h m { S with n:=S.n + 1 } t p co (by show S.n + 1 + m * (c + 1)≤2000; omega) l]
 show Res.ok _=Res.ok _
 congr 2
 show S.n + 1 + m * (c + 1)=_
 omega
theorem lt_rep {u:List Sk} {c k:Nat} (h:Lt (runR u) c k):∀ m:Nat,Lt (runR (List.replicate m u).flatten) (m * c) (m * k)
 | 0=>by rw [Nat.zero_mul,Nat.zero_mul]; exact lt_nil
 | m + 1=>by
  rw [List.replicate_succ,List.flatten_cons,Nat.succ_mul,Nat.succ_mul,Nat.add_comm (m * c),Nat.add_comm (m * k)]
  exact lt_app h (lt_rep h m) (run_app _ _)
def lineSts (a b m:Nat):List Sk:=[.by_ 1000000000 5,.times a [.times b tofro]] ++ (List.replicate m tofro).flatten
def Sf (n:Nat):PenS:=⟨P0,"black",0,n,List.replicate 398 L1⟩
theorem lines_run {a b m:Nat} (h:2 * (a * b) + 2 * m=398) (ha:a≤20):∃ n,n≤1500∧∀ v,runR (lineSts a b m ++ v) S00=runR v (Sf n):=by
 have ht:=lt_app (lt_times (lt_times lt_tofro b) a) (lt_rep lt_tofro m) (run_app _ _)
 have en:a * (b * (2 + 1) + 1 + 1)=3 * (a * b) + 2 * a:=by
  rw [Nat.mul_add,Nat.mul_add,← Nat.mul_assoc a b 3]
  omega
 have ek:a * (b * 2)=2 * (a * b):=by rw [← Nat.mul_assoc]; omega
 refine ⟨1 + (a * (b * (2 + 1) + 1 + 1) + 1 + m * 2),by omega,fun v=>?_⟩
 rw [run_app]
 have e1:runR (lineSts a b m) S00=.ok (Sf (1 + (a * (b * (2 + 1) + 1 + 1) + 1 + m * 2))):=by
  show runR (.by_ 1000000000 5 :: ([.times a [.times b tofro]] ++ (List.replicate m tofro).flatten)) S00=_
  rw [by_run rfl (by decide) (by decide),ht _ rfl rfl rfl (by show 0 + 1 + _≤2000; omega) (by show 0 + _≤400; omega)]
  show Res.ok _=Res.ok _
  unfold Sf
  congr 2
  ·show [] ++ List.replicate (a * (b * 2) + m * 2) L1=_
   rw [ek,show 2 * (a * b) + m * 2=398 by omega]
   rfl
 rw [e1]
 rfl
theorem run_nil (S:PenS):runR [] S=.ok S:=by simp only [runR]
def atP (b w:Int×Int) (k:Nat):Int×Int:=(b.1 + (k:Int) * w.1,b.2 + (k:Int) * w.2)
theorem at_succ (b w:Int×Int) (k:Nat):((atP b w k).1 + w.1,(atP b w k).2 + w.2)=atP b w (k + 1):=by
 unfold atP
 rw [Int.natCast_add,Int.add_mul,Int.add_mul]
 show (b.1 + (k:Int) * w.1 + w.1,b.2 + (k:Int) * w.2 + w.2)=(b.1 + ((k:Int) * w.1 + 1 * w.1),b.2 + ((k:Int) * w.2 + 1 * w.2))
 rw [Int.one_mul,Int.one_mul,Int.add_assoc,Int.add_assoc]
def seg (b w:Int×Int) (i:Nat):Pl:=mkL (atP b w i) (atP b w (i + 1)) "black"
theorem walk_run {b w:Int×Int} {v:List Sk}:∀ (N i:Nat) (S:PenS),S.t=0→S.p=atP b w i→S.c="black"→S.n + N≤2000→S.ps.length + N≤400→(∀ k,i < k→k≤i + N→inB (atP b w k)=true) →
  runR (List.replicate N (.line w.1 w.2) ++ v) S=runR v { S with n:=S.n + N,p:=atP b w (i + N),ps:=S.ps ++ (List.range' i N).map (seg b w) }
 | 0,i,S,t,p,c,n,l,h=>by
  show runR v S=runR v { S with n:=S.n,p:=atP b w i,ps:=S.ps ++ [] }
  rw [List.append_nil,← p]
 | N + 1,i,S,t,p,c,n,l,h=>by
  rw [List.replicate_succ]
  show runR (.line w.1 w.2 :: (List.replicate N (.line w.1 w.2) ++ v)) S=_
  have e:=at_succ b w i
  rw [line_run t (by omega) (by omega) (by rw [p,e]; exact h _ (by omega) (by omega))]
  rw [p,e,c]
  rw [walk_run N (i + 1) { S with n:=S.n + 1,p:=atP b w (i + 1),c:="black",ps:=S.ps ++ [mkL (atP b w i) (atP b w (i + 1)) "black"] } t rfl rfl (by show S.n + 1 + N≤2000; omega) (by show (S.ps ++ [_]).length + N≤400; rw [List.length_append]; show _ + 1 + _≤_; omega) (fun k h1 h2=>h k (by omega) (by omega))]
  congr 2
  ·show atP b w (i + 1 + N)=atP b w (i + (N + 1))
   rw [show i + 1 + N=i + (N + 1) by omega]
  ·show S.n + 1 + N=_
   omega
  ·show S.ps ++ [_] ++ _=S.ps ++ (List.range' i (N + 1)).map (seg b w)
   rw [List.append_assoc]
   rfl
def ways4:List (Int×Int):=[(1,0),(0,1),(1,1),(-1,1)]
theorem ways_cases {w:Int×Int} (h:w∈ways4):w=(1,0)∨w=(0,1)∨w=(1,1)∨w=(-1,1):=by
 simpa [ways4] using h
theorem seg_key {w:Int×Int} (h:w∈ways4) {i j:Nat} (e:lD (seg (0,0) w i)=lD (seg (0,0) w j)):i=j:=by
 obtain ⟨e1,_⟩:=lD_inj e
 have hp:∀ k:Nat,((ordP (atP (0,0) w k) (atP (0,0) w (k + 1))).1.2 * 2 + (ordP (atP (0,0) w k) (atP (0,0) w (k + 1))).1.1)=(if w=(1,0) then (k:Int) else if w=(0,1) then 2 * (k:Int) else if w=(1,1) then 3 * (k:Int) else (k:Int) + 1):=fun k=>by
  unfold ordP
  rcases ways_cases h with rfl | rfl | rfl | rfl
  ·rw [if_pos ((hLt_iff _ _).mpr (.inl (by simp [atP]; omega)))]
   simp [atP]
  ·rw [if_pos ((hLt_iff _ _).mpr (.inr (by simp [atP]; omega)))]
   simp [atP]
   omega
  ·rw [if_pos ((hLt_iff _ _).mpr (.inl (by simp [atP]; omega)))]
   simp [atP]
   omega
  ·rw [if_neg (fun z=>by have:=(hLt_iff _ _).mp z; simp [atP] at this; omega)]
   simp [atP]
   omega
 have e1:(ordP (atP (0,0) w i) (atP (0,0) w (i + 1))).1=(ordP (atP (0,0) w j) (atP (0,0) w (j + 1))).1:=e1
 have hi:=hp i
 rw [e1,hp j] at hi
 split at hi
 ·omega
 ·split at hi
  ·omega
  ·split at hi <;> omega
def unlP (w:Int×Int) (N:Nat):List Pl:=(List.range' 0 N).map (seg (0,0) w)
theorem unl_len (w:Int×Int) (N:Nat):(unlP w N).length=N:=by unfold unlP; rw [List.length_map,List.length_range']
theorem unl_nd {w:Int×Int} (h:w∈ways4) (N:Nat):((unlP w N).map lD).Nodup:=by
 unfold unlP
 rw [List.map_map]
 refine List.pairwise_map.mpr (List.Pairwise.imp ?_ (List.nodup_range' (s:=0) (n:=N) (step:=1)))
 intro i j ne e
 exact ne (seg_key h e)
theorem nodup_pl {ps:List Pl} (h:(ps.map lD).Nodup):ps.Nodup:=List.Pairwise.imp (fun h e=>h (by rw [e])) (List.pairwise_map.mp (show ((ps.map lD).Pairwise (·≠·)) from h))
theorem black_no {ps:List Pl} (h:∀ a∈ps,a.c="black"):¬ twoC ps:=fun ⟨a,ha,b,hb,_,e⟩=>e (by rw [h a ha,h b hb])
theorem unl_black (w:Int×Int) (N:Nat):∀ a∈unlP w N,a.c="black":=fun a ha=>by
 obtain ⟨i,_,rfl⟩:=List.mem_map.mp ha
 rfl
theorem unl_run {w:Int×Int} (h:w∈ways4) {N:Nat} (hN:N≤130) (v:List Sk):runR (List.replicate N (.line w.1 w.2) ++ v) S00=runR v { S00 with n:=N,p:=atP (0,0) w N,ps:=unlP w N }:=by
 rw [walk_run (b:=(0,0)) N 0 S00 rfl (by simp [atP,S00]) rfl (by show 0 + N≤2000; omega) (by show 0 + N≤400; omega) (fun k h1 h2=>by
  have hk:(k:Int)≤130:=by omega
  refine in_of ?_ ?_ ?_ ?_ <;> rcases ways_cases h with rfl | rfl | rfl | rfl <;> simp <;> omega)]
 show runR v ⟨atP (0,0) w (0 + N),"black",0,0 + N,[] ++ unlP w N⟩=runR v ⟨atP (0,0) w N,"black",0,N,unlP w N⟩
 rw [Nat.zero_add,List.nil_append]
theorem unl_big {w:Int×Int} (h:w∈ways4) {N:Nat}:(120 < N→Big (unlP w N))∧(N≤120→¬ Big (unlP w N)):=by
 refine ⟨fun g=>⟨(unlP w N).map lD,unl_nd h N,fun _=>Iff.rfl,by rw [List.length_map,unl_len]; exact g⟩,fun g=>not_big (unl_nd h N) (fun _=>Iff.rfl) (by rw [List.length_map,unl_len]; exact g)⟩
theorem unl_two {w:Int×Int} (h:w∈ways4) {N:Nat} (h0:1≤N) (hN:N≤122):∃ S',runR (List.replicate N (.line w.1 w.2) ++ [.ink "z",.line (0 - w.1) (0 - w.2)]) S00=.ok S'∧twoC S'.ps:=by
 rw [unl_run h (by omega),ink_run (by show N < 2000; omega)]
 obtain ⟨M,rfl⟩:∃ M,N=M + 1:=⟨N - 1,by omega⟩
 have eb:((atP (0,0) w (M + 1)).1 + (0 - w.1),(atP (0,0) w (M + 1)).2 + (0 - w.2))=atP (0,0) w M:=by
  have:=at_succ (0,0) w M
  rw [← this]
  show (_,_)=((atP (0,0) w M).1,(atP (0,0) w M).2)
  congr 1 <;> (show _ + _ + (0 - _)=_; omega)
 rw [line_run (S:={ S00 with n:=M + 1 + 1,p:=atP (0,0) w (M + 1),c:="z",ps:=unlP w (M + 1) }) rfl (by show M + 1 + 1 < 2000; omega) (by show (unlP w (M + 1)).length < 400; rw [unl_len]; omega) (by
  show inB ((atP (0,0) w (M + 1)).1 + (0 - w.1),(atP (0,0) w (M + 1)).2 + (0 - w.2))=true
  rw [eb]
  have hk:(M:Int)≤130:=by omega
  refine in_of ?_ ?_ ?_ ?_ <;> rcases ways_cases h with rfl | rfl | rfl | rfl <;> simp <;> omega)]
 refine ⟨_,run_nil _,?_⟩
 refine ⟨seg (0,0) w M,List.mem_append_left _ (List.mem_map.mpr ⟨M,by simp,rfl⟩),_,List.mem_append_right _ (List.mem_singleton.mpr rfl),?_,?_⟩
 ·show lD (mkL (atP (0,0) w M) (atP (0,0) w (M + 1)) "black")=lD (mkL (atP (0,0) w (M + 1)) ((atP (0,0) w (M + 1)).1 + (0 - w.1),(atP (0,0) w (M + 1)).2 + (0 - w.2)) "z")
  rw [eb]
  unfold mkL lD
  rw [ordP_comm]
 ·show ("black":Str)≠"z"
  decide +kernel
def sides4:List (Int×Int):=[(1,0),(-1,0),(0,1),(0,-1)]
theorem sides_cases {s:Int×Int} (h:s∈sides4):s=(1,0)∨s=(-1,0)∨s=(0,1)∨s=(0,-1):=by
 simpa [sides4] using h
theorem edge_in {s:Int×Int} (h:s∈sides4) {m:Int} (h0:0≤m) (h1:m≤1000000000):inB (s.1 * m,s.2 * m)=true:=by
 refine in_of ?_ ?_ ?_ ?_ <;> rcases sides_cases h with rfl | rfl | rfl | rfl <;> simp <;> omega
theorem edge_out {s:Int×Int} (h:s∈sides4) {m:Int} (h1:1000000000 < m):inB (s.1 * m,s.2 * m)=false:=by
 refine out_of ?_
 rcases sides_cases h with rfl | rfl | rfl | rfl <;> simp <;> omega
def Sg (s:Int×Int) (m:Int):PenS:={ S00 with n:=1,p:=(s.1 * m,s.2 * m) }
theorem edge_by {s:Int×Int} (h:s∈sides4) {m:Int} (h0:0≤m) (h1:m≤1000000000) (v:List Sk):runR (.by_ (s.1 * m) (s.2 * m) :: v) S00=runR v (Sg s m):=by
 have e:((S00.p.1 + s.1 * m),(S00.p.2 + s.2 * m))=(s.1 * m,s.2 * m):=by show (0 + _,0 + _)=_; rw [Int.zero_add,Int.zero_add]
 rw [by_run rfl (by decide) (by rw [e]; exact edge_in h h0 h1),e]
 rfl
theorem edge_sum {s:Int×Int} (m z:Int):((Sg s m).p.1 + s.1 * z,(Sg s m).p.2 + s.2 * z)=(s.1 * (m + z),s.2 * (m + z)):=by
 show (s.1 * m + s.1 * z,s.2 * m + s.2 * z)=_
 rw [Int.mul_add,Int.mul_add]
theorem edge_line {s:Int×Int} (h:s∈sides4) {m z:Int} (h0:0≤m) (hz:0≤z) (h1:m + z≤1000000000):∃ S',runR [.by_ (s.1 * m) (s.2 * m),.line (s.1 * z) (s.2 * z)] S00=.ok S'∧S'.ps=[mkL (s.1 * m,s.2 * m) (s.1 * (m + z),s.2 * (m + z)) "black"]:=by
 rw [edge_by h h0 (by omega),line_run rfl (by show 1 < 2000; decide) (by show 0 < 400; decide) (by rw [edge_sum]; exact edge_in h (by omega) h1),edge_sum]
 exact ⟨_,run_nil _,rfl⟩
theorem edge_beyond {s:Int×Int} (h:s∈sides4) {m z:Int} (h0:0≤m) (h1:m≤1000000000) (h2:1000000000 < m + z) (v:List Sk):runR (.by_ (s.1 * m) (s.2 * m) :: .by_ (s.1 * z) (s.2 * z) :: v) S00=.hole:=by
 rw [edge_by h h0 h1,by_hole rfl (by show 1 < 2000; decide) (by rw [edge_sum]; exact edge_out h h2)]
theorem edge_at (s:Int×Int) (m:Int) (k:Nat):atP (s.1 * m,s.2 * m) s k=(s.1 * (m + k),s.2 * (m + k)):=by
 unfold atP
 rw [Int.mul_add,Int.mul_add,Int.mul_comm (k:Int),Int.mul_comm (k:Int)]
theorem edge_walk {s:Int×Int} (h:s∈sides4) {m:Int} {z:Nat} (h0:0≤m) (hz:z≤10) (h1:m + z≤1000000000) (v:List Sk):runR (.by_ (s.1 * m) (s.2 * m) :: (List.replicate z (.line s.1 s.2) ++ v)) S00=runR v { S00 with n:=1 + z,p:=(s.1 * (m + z),s.2 * (m + z)),ps:=(List.range' 0 z).map (seg (s.1 * m,s.2 * m) s) }:=by
 rw [edge_by h h0 (by omega),walk_run (b:=(s.1 * m,s.2 * m)) z 0 (Sg s m) rfl (by rw [edge_at]; simp [Sg]) rfl (by show 1 + z≤2000; omega) (by show 0 + z≤400; omega) (fun k k1 k2=>by rw [edge_at]; exact edge_in h (by omega) (by omega)),Nat.zero_add,edge_at]
 rfl
theorem edge_last {s:Int×Int} (h:s∈sides4) {m:Int} {z:Nat} (h0:0≤m) (hz:z≤9) (h1:m + z=1000000000):runR (.by_ (s.1 * m) (s.2 * m) :: List.replicate (z + 1) (.line s.1 s.2)) S00=.hole:=by
 have e:List.replicate (z + 1) (Sk.line s.1 s.2)=List.replicate z (.line s.1 s.2) ++ [.line s.1 s.2]:=List.replicate_succ' ..
 rw [e,edge_walk h h0 (by omega) (by omega)]
 refine line_hole rfl (by show 1 + z < 2000; omega) (by show ((List.range' 0 z).map _).length < 400; rw [List.length_map,List.length_range']; omega) ?_
 show inB (s.1 * (m + z) + s.1,s.2 * (m + z) + s.2)=false
 have:=edge_out h (m:=m + z + 1) (by omega)
 rw [Int.mul_add _ _ 1,Int.mul_add _ _ 1,Int.mul_one,Int.mul_one] at this
 exact this
def nest:List Nat→List Sk
 | []=>[.line 1 1]
 | k :: ks=>[.turn k (nest ks)]
theorem nest_run:∀ (ks:List Nat) (S:PenS),S.p=(0,0)→S.t < 8→S.n + ks.length + 1≤2000→S.ps=[]→∃ S',runR (nest ks) S=.ok S'∧S'.ps.length=1
 | [],S,p,t,n,e=>by
  rw [List.length_nil] at n
  simp only [nest,runR]
  rw [bg,if_neg (by omega)]
  simp only [stR,lineR]
  have hi:inB (comeP { S with n:=S.n + 1 } 1 1)=true:=by
   unfold comeP
   rw [turn_tab t]
   show inB (shH _ _ S.p)=true
   rw [p]
   have t':S.t=0∨S.t=1∨S.t=2∨S.t=3∨S.t=4∨S.t=5∨S.t=6∨S.t=7:=by omega
   rcases t' with h | h | h | h | h | h | h | h <;> (show inB (shH (tabN S.t (1,1)).1 (tabN S.t (1,1)).2 (0,0))=true; rw [h]; decide)
  rw [if_neg (by show ¬ 400≤S.ps.length; rw [e]; decide),if_pos hi]
  refine ⟨_,rfl,?_⟩
  show (S.ps ++ [_]).length=1
  rw [e]
  rfl
 | k :: ks,S,p,t,n,e=>by
  rw [List.length_cons] at n
  simp only [nest,runR]
  rw [bg,if_neg (by omega)]
  simp only [stR]
  obtain ⟨S',h1,h2⟩:=nest_run ks { S with n:=S.n + 1,t:=behN k S.t } p (behN_lt _ _) (by show S.n + 1 + ks.length + 1≤2000; omega) e
  have h1':runR (nest ks) { p:=S.p,c:=S.c,t:=behN k S.t,n:=S.n + 1,ps:=S.ps }=.ok S':=h1
  rw [h1']
  exact ⟨_,rfl,h2⟩
theorem nest_gd:∀ ks:List Nat,(∀ k∈ks,k < 8)→gds (nest ks) ks.length
 | [],_=>by simp only [nest,gds,Sk.gd]; exact ⟨True.intro,True.intro⟩
 | k :: ks,h=>by simp only [nest,gds,Sk.gd]; exact ⟨⟨h k List.mem_cons_self,ks.length,rfl,nest_gd ks fun j hj=>h j (List.mem_cons_of_mem _ hj)⟩,True.intro⟩
theorem pic_eq {H H':Hp} {ps qs ds:List Pl} {l:Addr} (o:PicOut H ps l H' qs) (nd:ds.Nodup) (m:∀ a,a∈ds↔a∈ps) (ri:Rise ds):qs=ds:=by
 have pm:qs.Perm ds:=(List.perm_ext_iff_of_nodup o.nd nd).mpr fun a=>(o.mem a).trans (m a).symm
 exact (List.map_inj_right fun x y e=>pD_inj' e).mp (rise_eq (pm.map pD) o.rise ri)
theorem small_no {ps:List Pl} (h:ps.length≤120):¬ Big ps:=by
 obtain ⟨ls,nd,m,l⟩:=ex_ls (ps.map lD)
 exact not_big nd m (by rw [List.length_map] at l; omega)
theorem rise_one (a:Pl):Rise [a]:=List.pairwise_singleton _ _
theorem outs_many {H:Hp} {Q:VK} {sts:List Sk} (h:runR sts S00=.many) (q:∀ H',Same H H'→Q (.str "many") H'):Outs H Q sts:=⟨fun _=>q,(fun e=>by rw [h] at e; cases e),(fun S' e=>by rw [h] at e; cases e)⟩
theorem outs_hole {H:Hp} {Q:VK} {sts:List Sk} (h:runR sts S00=.hole) (q:∀ H',Same H H'→Q (.str "hole") H'):Outs H Q sts:=⟨(fun e=>by rw [h] at e; cases e),fun _=>q,(fun S' e=>by rw [h] at e; cases e)⟩
theorem outs_two {H:Hp} {Q:VK} {sts:List Sk} {S:PenS} (h:runR sts S00=.ok S) (t:twoC S.ps) (q:∀ H',Same H H'→Q (.str "two") H'):Outs H Q sts:=⟨(fun e=>by rw [h] at e; cases e),(fun e=>by rw [h] at e; cases e),fun S' e=>by rw [h] at e; cases e; exact ⟨fun _=>q,fun n=>absurd t n,fun n=>absurd t n⟩⟩
theorem outs_big {H:Hp} {Q:VK} {sts:List Sk} {S:PenS} (h:runR sts S00=.ok S) (t:¬ twoC S.ps) (b:Big S.ps) (q:∀ H',Same H H'→Q (.str "many") H'):Outs H Q sts:=⟨(fun e=>by rw [h] at e; cases e),(fun e=>by rw [h] at e; cases e),fun S' e=>by rw [h] at e; cases e; exact ⟨fun z=>absurd z t,fun _ _=>q,fun _ n=>absurd b n⟩⟩
theorem outs_pic {H:Hp} {Q:VK} {sts:List Sk} {S:PenS} (h:runR sts S00=.ok S) (t:¬ twoC S.ps) (b:¬ Big S.ps) (q:∀ l qs H',PicOut H S.ps l H' qs→Q (.ref l) H'):Outs H Q sts:=⟨(fun e=>by rw [h] at e; cases e),(fun e=>by rw [h] at e; cases e),fun S' e=>by rw [h] at e; cases e; exact ⟨fun z=>absurd z t,fun _ z=>absurd z b,fun _ _=>q⟩⟩
theorem sks_app {H:Hp}:∀ {u:List Sk} {xs:List V},SksIs H xs u→∀ {v:List Sk} {ys:List V},SksIs H ys v→SksIs H (xs ++ ys) (u ++ v)
 | [],_,.nil,_,_,h=>h
 | _ :: _,_,.cons q t,_,_,h=>.cons q (sks_app t h)
theorem sks_one {H:Hp} {v:V} {s:Sk} (h:SkIs H v s):SksIs H [v] [s]:=.cons h .nil
theorem sks_flat {H:Hp} {xs:List V} {u:List Sk} (h:SksIs H xs u):∀ k:Nat,SksIs H (List.replicate k xs).flatten (List.replicate k u).flatten
 | 0=>.nil
 | k + 1=>by
  rw [List.replicate_succ,List.replicate_succ,List.flatten_cons,List.flatten_cons]
  exact sks_app h (sks_flat h k)
theorem sks_rep {H:Hp} {v:V} {s:Sk} (h:SkIs H v s) (k:Nat):SksIs H (List.replicate k [v]).flatten (List.replicate k s):=by
 have:=sks_flat (sks_one h) k
 rw [show (List.replicate k [s]).flatten=List.replicate k s by induction k with | zero=>rfl | succ k ih=>rw [List.replicate_succ,List.replicate_succ,List.flatten_cons,ih (sks_flat (sks_one h) k)]; rfl] at this
 exact this
theorem OpR.either {X:Cx} {f:Value→Value→Sem Value} {r r':R2} (h:OpR X f r) (h':OpR X f r'):OpR X f (fun x y H Q=>r x y H Q∨r' x y H Q):=fun pins s σ H x y v u Q I rx ry hh=>hh.elim (h pins s σ H x y v u Q I rx ry) (h' pins s σ H x y v u Q I rx ry)
theorem gds_rep {s:Sk} {d:Nat} (h:s.gd d) (k:Nat):gds (List.replicate k s) d:=gds_of fun x hx=>by rw [List.eq_of_mem_replicate hx]; exact h
theorem gds_app {u v:List Sk} {d:Nat} (h:gds u d) (g:gds v d):gds (u ++ v) d:=gds_of fun x hx=>(List.mem_append.mp hx).elim (gds_at h x) (gds_at g x)
theorem gds_flat {u:List Sk} {d:Nat} (h:gds u d) (k:Nat):gds (List.replicate k u).flatten d:=gds_of fun x hx=>by
 obtain ⟨l,hl,hx⟩:=List.mem_flatten.mp hx
 rw [List.eq_of_mem_replicate hl] at hx
 exact gds_at h x hx
section
variable {P:Program} {w:World} {K:PySem.W.Frag} {mg:Str→Option Value} {base:Heap}
def spCell (K:PySem.W.Frag):Sp:=fun vs H Q _=>∃ (a:Addr) (ns:List Int) (k:Nat),vs=[.ref a,.int k]∧SqL K H a (ns.map V.int)∧∀ c,Q (.int c) H
theorem scCell:FnScope ["_law_script","_law_k"] ["_law_script","_law_k"] (defScope sCell):=⟨rfl,rfl,rfl,by decide +kernel,rfl,by decide +kernel,by decide +kernel⟩
theorem ok_cell {f:Addr} {fd:FuncData} (D:Df K mg "_law_cell_at" sCell f fd) (hlen:mg "len"=none):FnOk P w K mg base CX0 1 f fd ["_law_script","_law_k"] (spCell K):=by
 refine D.F.ok scCell (fun vs H Q E h=>?_) (fun cdv A outer s H vs Q E hr h=>?_)
 ·obtain ⟨a,ns,k,rfl,_⟩:=h
  rfl
 ·obtain ⟨a,ns,k,rfl,hS,q⟩:=h
  refine ⟨_,pss_cons (ps_if (pt_cmpR op_lt (pv 1) (pe_callB call_len_seq (by rfl) hlen PySem.boot_len (pac (pv 0) pa_nil)) (nomark _)) (pss_one (ps_ret (pe_ix ix_list (pv 0) (pv 1) (fun _ _=>rfl)))) pss_nil) (pss_one (ps_ret pe_int)),?_⟩
  refine ⟨_,rfl,_,rfl,a,_,rfl,.inl hS,_,_,rfl,rfl,_,rfl,?_⟩
  rw [List.length_map]
  by_cases hk:(k:Int) < (ns.length:Int)
  ·refine ifD_pos hk ?_
   obtain ⟨c,hc,hm⟩:=atI_of (xs:=ns.map V.int) (m:=(k:Int)) (by omega) (by rw [List.length_map]; exact hk)
   obtain ⟨z,_,rfl⟩:=List.mem_map.mp hm
   exact ⟨_,rfl,_,rfl,a,_,_,_,rfl,rfl,hS,hc,q z⟩
  ·exact ifD_neg hk (q 0)
def spStrokes:Sp:=fun vs H Q _=>∃ (a b:Nat) (more:Int),vs=[.int (a:Int),.int (b:Int),.int more]∧17≤a∧a≤60∧b < 2∧-1≤more∧more≤2∧∀ (l:Addr) (xs:List V) (m c:Nat) (x:Sk) H',Same H H'→H' l=some (.lst xs)→SksIs H' xs (manySts a m x c)→Qt (stR x) 0→((a * (2 * m + 2) + 1 + c:Nat):Int)=2000 + more→gds (manySts a m x c) 8→Q (.ref l) H'
theorem scStrokes:FnScope ["_law_a","_law_b","_law_more","_law_inner","_law_many_here","_law_strokes_here"] ["_law_a","_law_b","_law_more"] (defScope sStrokes):=⟨rfl,rfl,rfl,by decide +kernel,rfl,by decide +kernel,by decide +kernel⟩
theorem ok_strokes {f:Addr} {fd:FuncData} (D:Df K mg "_law_strokes" sStrokes f fd):FnOk P w K mg base CX0 1 f fd ["_law_a","_law_b","_law_more"] spStrokes:=by
 refine D.F.ok scStrokes (fun vs H Q E h=>?_) (fun cdv A outer s H vs Q E hr h=>?_)
 ·obtain ⟨a,b,more,rfl,_⟩:=h
  rfl
 ·obtain ⟨a,b,more,rfl,a1,a2,b1,m1,m2,z⟩:=h
  refine ⟨_,(pss_cons (ps_set (i:=3) scStrokes.nd rfl (Or.inl rfl) (pe_slice sl_list (pe_lst (pac (pe_tup (pac (pe_str) (pac (pe_str) pa_nil))) (pac (pe_tup (pac (pe_str) (pac (pe_int) (pac (pe_int) pa_nil)))) pa_nil))) (po_some (pv 1)) (po_some (pe_op op_add (pv 1) pe_int))))
   (pss_cons (ps_set (i:=4) scStrokes.nd rfl (Or.inl rfl) (pe_op op_fdiv (pe_op op_sub (pe_op op_fdiv pe_int (pv 0)) pe_int) pe_int))
   (pss_cons (ps_set (i:=5) scStrokes.nd rfl (Or.inl rfl) (pe_lst (pac (pe_tup (pac (pe_str) (pac (pv 0) (pac (pe_lst (pac (pe_tup (pac (pe_str) (pac (pv 4) (pac (pv 3) pa_nil)))) pa_nil)) pa_nil)))) pa_nil)))
   (pss_one (ps_ret (pe_op op_cat (pv 5) (pe_op op_rep (pe_lst (pac (pe_tup (pac (pe_str) (pac (pe_str) pa_nil))) pa_nil)) (pe_op op_add (pe_op op_sub pe_int (pe_op op_mul (pv 0) (pe_op op_add pe_int (pe_op op_mul pe_int (pv 4))))) (pv 2))))))))),?_⟩
  refine ⟨szr rfl,fun t0 m0=>⟨szr rfl,fun t1 n1=>⟨szr rfl,fun l0 n2=>?_⟩⟩⟩
  have T0:=same_upd (o:=HO.tup [V.str "ink",.str "a"]) m0
  have T1:=same_upd (o:=HO.tup [V.str "by",.int 0,.int 0]) n1
  have T2:=same_upd (o:=HO.lst [V.ref t0,.ref t1]) n2
  refine ⟨_,rfl,_,rfl,_,rfl,_,_,rfl,rfl,_,rfl,l0,_,rfl,SqL.of upd_same,fun l1 n3=>?_⟩
  have T3:=same_upd (o:=HO.lst (cutV [V.ref t0,.ref t1] (some (b:Int)) (some ((b:Int) + 1)))) n3
  have hx:∃ (v:V) (x:Sk),cutV [V.ref t0,.ref t1] (some (b:Int)) (some ((b:Int) + 1))=[v]∧SkIs (upd (upd (upd (upd H t0 (.tup [V.str "ink",.str "a"])) t1 (.tup [V.str "by",.int 0,.int 0])) l0 (.lst [V.ref t0,.ref t1])) l1 (.lst (cutV [V.ref t0,.ref t1] (some (b:Int)) (some ((b:Int) + 1))))) v x∧Qt (stR x) 0∧x.gd 6:=by
   match b,b1 with
   | 0,_=>exact ⟨_,.ink "a",rfl,.ink ((T1.trans (T2.trans T3)) _ _ upd_same),qt_ink _,by simp only [Sk.gd]⟩
   | 1,_=>exact ⟨_,.by_ 0 0,rfl,.by_ ((T2.trans T3) _ _ upd_same),qt_by,by simp only [Sk.gd]⟩
  obtain ⟨v,x,ecut,hsk,hq,hg⟩:=hx
  have S3:=T0.trans (T1.trans (T2.trans T3))
  have el1:(upd (upd (upd (upd H t0 (.tup [V.str "ink",.str "a"])) t1 (.tup [V.str "by",.int 0,.int 0])) l0 (.lst [V.ref t0,.ref t1])) l1 (.lst (cutV [V.ref t0,.ref t1] (some (b:Int)) (some ((b:Int) + 1))))) l1=some (.lst [v]):=by rw [upd_same,ecut]
  revert hsk S3 el1
  generalize (upd (upd (upd (upd H t0 (.tup [V.str "ink",.str "a"])) t1 (.tup [V.str "by",.int 0,.int 0])) l0 (.lst [V.ref t0,.ref t1])) l1 (.lst (cutV [V.ref t0,.ref t1] (some (b:Int)) (some ((b:Int) + 1)))))=H1
  intro hsk S3 el1
  have hqa:33≤1999 / a:=by
   have:1999 / 60≤1999 / a:=Nat.div_le_div_left a2 (by omega)
   exact this
  have hqb:1999 / a≤117:=by
   have:1999 / a≤1999 / 17:=Nat.div_le_div_left a1 (by decide)
   exact this
  have hqm:a * (1999 / a)≤1999:=Nat.mul_div_le 1999 a
  have ediv:(1999:Int) / (a:Int)=((1999 / a:Nat):Int):=(Int.natCast_ediv 1999 a).symm
  have em:((1999:Int) / (a:Int) - 2) / 2=(((1999 / a - 2) / 2:Nat):Int):=by rw [ediv]; omega
  refine ⟨_,rfl,_,_,rfl,rfl,⟨by show (0:Int) < (a:Int); omega,by show (a:Int) < 1073741824; omega⟩,_,_,rfl,rfl,_,_,rfl,rfl,⟨by decide,by decide⟩,?_⟩
  show gName 4 (V.int (((1999:Int) / (a:Int) - 2) / 2)) _ _ _
  rw [em]
  have hm:(1999 / a - 2) / 2 * 2 + 2≤1999 / a:=by omega
  revert hm
  have hm60:(1999 / a - 2) / 2≤60:=by omega
  revert hm60
  generalize (1999 / a - 2) / 2=m
  intro hm60 hm
  have hle:a * (2 * m + 2)≤1999:=by
   have:a * (2 * m + 2)≤a * (1999 / a):=Nat.mul_le_mul_left a (by omega)
   omega
  have hev:a * (2 * m + 2)=2 * (a * (m + 1)):=by
   rw [show 2 * m + 2=2 * (m + 1) by omega,← Nat.mul_assoc,Nat.mul_comm a 2,Nat.mul_assoc]
  refine ⟨_,rfl,_,rfl,_,rfl,szr rfl,fun t2 n4=>⟨szr rfl,fun l2 n5=>⟨szr rfl,fun t3 n6=>⟨szr rfl,fun l3 n7=>?_⟩⟩⟩⟩
  have T4:=same_upd (o:=HO.tup [V.str "times",.int (m:Int),.ref l1]) n4
  have T5:=same_upd (o:=HO.lst [V.ref t2]) n5
  have T6:=same_upd (o:=HO.tup [V.str "times",.int (a:Int),.ref l2]) n6
  have T7:=same_upd (o:=HO.lst [V.ref t3]) n7
  refine ⟨_,rfl,szr rfl,fun t4 n8=>⟨szr rfl,fun l4 n9=>?_⟩⟩
  have T8:=same_upd (o:=HO.tup [V.str "ink",.str "b"]) n8
  have T9:=same_upd (o:=HO.lst [V.ref t4]) n9
  have ek:(1999:Int) - (a:Int) * (2 + 2 * (m:Int)) + more=((1999 + more).toNat - a * (2 * m + 2):Nat):=by
   have e1:(a:Int) * (2 + 2 * (m:Int))=((a * (2 * m + 2):Nat):Int):=by
    rw [Int.natCast_mul]
    congr 1
    omega
   rw [e1]
   omega
  refine ⟨_,rfl,_,rfl,_,_,rfl,rfl,.inl ⟨by decide,by decide⟩,_,_,rfl,rfl,_,_,rfl,rfl,.inl ⟨by show -(2 ^ 64) < (a:Int); omega,by show (a:Int) < 2 ^ 64; omega⟩,_,_,rfl,rfl,_,rfl,_,_,rfl,rfl,?_⟩
  have kb1:((1999:Int) - (a:Int) * (2 + 2 * (m:Int)) + more).toNat=(1999 + more).toNat - a * (2 * m + 2):=by rw [ek]; exact Int.toNat_natCast _
  refine ⟨l4,(1999:Int) - (a:Int) * (2 + 2 * (m:Int)) + more,[V.ref t4],rfl,rfl,upd_same,by rw [ek]; omega,by rw [ek]; omega,by rw [kb1,sizeLine_eq]; show 1 * _≤_; omega,fun l5 n10=>?_⟩
  rw [kb1]
  have hc:((a * (2 * m + 2) + 1 + ((1999 + more).toNat - a * (2 * m + 2)):Nat):Int)=2000 + more:=by omega
  revert hc
  have hcb:(1999 + more).toNat - a * (2 * m + 2)≤2001:=by omega
  revert hcb
  generalize (1999 + more).toNat - a * (2 * m + 2)=c
  intro hcb hc
  have T10:=same_upd (o:=HO.lst (List.replicate c [V.ref t4]).flatten) n10
  have S45:=T4.trans T5
  have S67:=T6.trans T7
  have S89:=(T8.trans T9).trans T10
  refine ⟨l3,l5,[V.ref t3],_,rfl,rfl,S89 _ _ upd_same,upd_same,by rw [len_rep,sizeLine_eq]; show 1 + c * 1≤_; omega,fun l6 n11=>?_⟩
  have T11:=same_upd (o:=HO.lst ([V.ref t3] ++ (List.replicate c [V.ref t4]).flatten)) n11
  have S1:=S89.trans T11
  have S2:=S67.trans S1
  refine z l6 _ m c x _ (S3.trans (S45.trans S2)) upd_same ?_ hq hc ?_
  ·refine sks_app (sks_one (.times (T7.trans S1 _ _ upd_same) (T6.trans (T7.trans S1) _ _ upd_same) (sks_one (.times (T5.trans S2 _ _ upd_same) (S45.trans S2 _ _ el1) (sks_one (hsk.same (S45.trans S2))))))) (sks_rep (.ink ((T9.trans (T10.trans T11)) _ _ upd_same)) c)
  ·unfold manySts
   refine gds_app ?_ (gds_rep (by simp only [Sk.gd]) c)
   simp only [gds,Sk.gd]
   exact ⟨⟨a2,7,rfl,⟨⟨hm60,6,rfl,hg,True.intro⟩,True.intro⟩⟩,True.intro⟩
def spMany (K:PySem.W.Frag):Sp:=fun vs H Q _=>∃ (a:Addr) (ns:List Int),vs=[.ref a]∧SqL K H a (ns.map V.int)∧∀ H',Same H H'→Q (.bl true) H'
theorem scMany:FnScope ["_law_script","_law_a","_law_more","_law_due"] ["_law_script"] (defScope sMany):=⟨rfl,rfl,rfl,by decide +kernel,rfl,by decide +kernel,by decide +kernel⟩
theorem ok_many {f fC fS fT:Addr} {fd fdC fdS fdT:FuncData} {k:Nat} (D:Df K mg "_law_many" sMany f fd) (B:Blt mg)
  (DC:Df K mg "_law_cell_at" sCell fC fdC) (bC:Binds K fdC ["_law_script","_law_k"] []) (GC:FnOk P w K mg base CX0 1 fC fdC ["_law_script","_law_k"] (spCell K))
  (DS:Df K mg "_law_strokes" sStrokes fS fdS) (bS:Binds K fdS ["_law_a","_law_b","_law_more"] []) (GS:FnOk P w K mg base CX0 1 fS fdS ["_law_a","_law_b","_law_more"] spStrokes)
  (DT:Df K mg "_law_told" sTold fT fdT) (bT:Binds K fdT ["_law_strokes_here"] []) (GT:FnOk P w K mg base CX0 k fT fdT ["_law_strokes_here"] (spTold 9)) (h1:1≤k):FnOk P w K mg base CX0 (k + 1) f fd ["_law_script"] (spMany K):=by
 refine D.F.ok scMany (fun vs H Q E h=>?_) (fun cdv A outer s H vs Q E hr h=>?_)
 ·obtain ⟨a,ns,rfl,_⟩:=h
  rfl
 ·obtain ⟨a,ns,rfl,hS,z⟩:=h
  have hr1:Room 1 _:=hr.mono h1
  refine ⟨_,(pss_cons (ps_set (i:=1) scMany.nd rfl (Or.inl rfl) (pe_op op_add pe_int (pe_op op_mod (pec GC hr1 rfl DC.m DC.F.kp bC .nil pass0 (pac (pv 0) (pac (pe_int) pa_nil))) pe_int)))
   (pss_cons (ps_for PassesOwn.never rfl (pi_list (pe_lst (pac (pe_un un_neg pe_int) (pac (pe_int) (pac (pe_int) (pac (pe_int) pa_nil)))))) (pg_name (i:=2) scMany.nd rfl (Or.inl rfl)) (pss_cons (ps_set (i:=3) scMany.nd rfl (Or.inl rfl) (pe_ix ix_list (pe_lst (pac (pe_lst pa_nil) (pac (pe_str) pa_nil))) (pe_callTy call_intB (by rfl) B.int boot_int (pac (pe_cmpR op_gt (pv 2) pe_int (nomark _)) pa_nil)) (fun _ _=>rfl)))
   (pss_one (ps_if (pt_cmpR (OpR.either op_ne (op_neL hr1)) (pec GT hr rfl DT.m DT.F.kp bT .nil pass0 (pac (pec GS hr1 rfl DS.m DS.F.kp bS .nil pass0 (pac (pv 1) (pac (pe_op op_mod (pec GC hr1 rfl DC.m DC.F.kp bC .nil pass0 (pac (pv 0) (pac (pe_int) pa_nil))) pe_int) (pac (pv 2) pa_nil)))) pa_nil)) (pv 3) (nomark _)) (pss_one (ps_ret pe_bl)) pss_nil))))
   (pss_one (ps_ret pe_bl)))),?_⟩
  refine ⟨_,rfl,a,ns,0,rfl,hS,fun c0=>⟨_,_,rfl,rfl,(by show (0:Int) < 44; decide),_,_,rfl,rfl,?_⟩⟩
  obtain ⟨n0,hn0⟩:=Int.eq_ofNat_of_zero_le (show 0≤17 + c0 % 44 by omega)
  have na:17≤n0∧n0≤60:=by omega
  show gName 1 (V.int (17 + c0 % 44)) _ _ _
  rw [hn0]
  refine ⟨_,rfl,szr rfl,fun l nl=>?_⟩
  have Tl:=same_upd (o:=HO.lst [V.int (-1),.int 0,.int 1,.int 2]) nl
  refine ⟨l,rfl,⟨_,SqL.of upd_same⟩,?_⟩
  refine for_list (K:=K) (a:=l) (xs:=[V.int (-1),.int 0,.int 1,.int 2]) (fun i σ H1=>(∃ v2 v3,σ=[some (.ref a),some (.int (n0:Int)),v2,v3])∧Same (upd H l (HO.lst [V.int (-1),.int 0,.int 1,.int 2])) H1) ⟨⟨_,_,rfl⟩,Same.refl _⟩ (fun i σ H1 _ ⟨_,s1⟩=>SqL.of (s1 _ _ upd_same)) ?_ ?_
  ·rintro i y σ H1 hy ⟨⟨v2,v3,rfl⟩,S1⟩
   obtain ⟨more,rfl,hm1,hm2⟩:∃ more:Int,y=.int more∧-1≤more∧more≤2:=by
    have:=List.mem_of_getElem? hy
    simp only [List.mem_cons,List.not_mem_nil,or_false] at this
    rcases this with rfl | rfl | rfl | rfl <;> exact ⟨_,rfl,by decide,by decide⟩
   have S01:=Tl.trans S1
   refine ⟨szr rfl,fun e0 ne0=>⟨szr rfl,fun d0 nd0=>?_⟩⟩
   have Te:=same_upd (o:=HO.lst []) ne0
   have Td:=same_upd (o:=HO.lst [V.ref e0,.str "many"]) nd0
   refine ⟨_,rfl,_,_,rfl,rfl,_,rfl,d0,_,_,(if decide (more > 0)=true then V.str "many" else V.ref e0),rfl,rfl,SqL.of upd_same,by cases decide (more > 0) <;> rfl,?_⟩
   have S2:=S01.trans (Te.trans Td)
   have ee:(upd (upd H1 e0 (HO.lst [])) d0 (HO.lst [V.ref e0,.str "many"])) e0=some (.lst []):=Td _ _ upd_same
   have S12:=S1.trans (Te.trans Td)
   revert S2 ee S12
   generalize (upd (upd H1 e0 (HO.lst [])) d0 (HO.lst [V.ref e0,.str "many"]))=H2
   intro S2 ee S12
   refine ⟨_,rfl,_,rfl,a,ns,1,rfl,S2.seq hS,fun c1=>⟨_,_,rfl,rfl,(by show (0:Int) < 2; decide),_,rfl,?_⟩⟩
   obtain ⟨n1,hn1⟩:=Int.eq_ofNat_of_zero_le (show 0≤c1 % 2 by omega)
   have nb:n1 < 2:=by omega
   refine ⟨n0,n1,more,by rw [← hn1]; rfl,na.1,na.2,nb,hm1,hm2,fun l2 xs m c x H3 S3 el sk hq hc hg=>?_⟩
   obtain ⟨q1,q2⟩:=many_run (a:=n0) (m:=m) (c:=c) hq S00 rfl rfl rfl (by decide)
   have e0':S00.n=0:=rfl
   by_cases hmo:more > 0
   ·refine ⟨l2,xs,_,rfl,el,sk,⟨8,rfl,hg⟩,outs_many (q2 (by rw [e0']; omega)) fun H4 S4=>?_⟩
    refine ⟨_,rfl,.inl ⟨by rw [if_pos (decide_eq_true hmo)]; rfl,_,rfl,ifB_neg (by rw [if_pos (decide_eq_true hmo)]; simp) ?_⟩⟩
    exact ⟨⟨_,_,rfl⟩,S12.trans (S3.trans S4)⟩
   ·obtain ⟨S',f1,f2,f3,f4,f5⟩:=q1 (by rw [e0']; omega)
    refine ⟨l2,xs,_,rfl,el,sk,⟨8,rfl,hg⟩,outs_pic f1 (by rw [f5]; exact black_no (fun _ h=>(nomatch h))) (by rw [f5]; exact small_no (Nat.zero_le _)) fun p qs H4 o=>?_⟩
    have eq:qs=[]:=pic_eq o List.nodup_nil (fun a=>by rw [f5]) List.Pairwise.nil
    subst eq
    obtain ⟨zs,ez,dz⟩:=o.pic
    refine ⟨_,rfl,.inr ⟨p,e0,zs,[],[],[],rfl,by rw [if_neg (by rw [decide_eq_false hmo]; decide)],SqL.of ez,SqL.of ((S3.trans o.same) _ _ ee),dz,.nil,fun _ h=>(nomatch h),_,rfl,ifB_neg rfl ?_⟩⟩
    exact ⟨⟨_,_,rfl⟩,S12.trans (S3.trans o.same)⟩
  ·rintro σ H1 ⟨⟨v2,v3,rfl⟩,S1⟩
   exact z H1 (Tl.trans S1)
end
theorem sks_take {H:Hp}:∀ (n:Nat) {u:List Sk} {xs:List V},SksIs H xs u→SksIs H (xs.take n) (u.take n)
 | 0,_,_,_=>.nil
 | _ + 1,_,_,.nil=>.nil
 | n + 1,_,_,.cons h t=>.cons h (sks_take n t)
theorem cut_hi' {vs:List V} {n:Nat}:cutV vs none (some (n:Int))=vs.take n:=by
 unfold cutV HT.sIx
 have:¬ ((n:Int) < 0):=by omega
 simp [this]
theorem rise_two:Rise [L1,L2]:=by
 unfold Rise
 rw [List.map_cons,List.map_cons,List.map_nil,List.pairwise_cons]
 refine ⟨fun d hd=>?_,List.pairwise_singleton _ _⟩
 rw [List.mem_singleton.mp hd]
 decide +kernel
theorem L12ne:L1≠L2:=fun e=>by
 have:L1.p=L2.p:=by rw [e]
 exact absurd this (by decide)
theorem two_no {ps:List Pl} (h:∀ a∈ps,a=L1∨a=L2):¬ twoC ps∧¬ Big ps:=by
 refine ⟨black_no fun a ha=>?_,fun ⟨ls,nd,m,l⟩=>?_⟩
 ·rcases h a ha with rfl | rfl
  ·rfl
  ·rfl
 ·have:ls.length≤2:=List.Nodup.length_le_of_subset (l₂:=[lD L1,lD L2]) nd fun d hd=>by
   obtain ⟨a,ha,rfl⟩:=List.mem_map.mp ((m d).mp hd)
   rcases h a ha with rfl | rfl <;> simp
  omega
section
variable {P:Program} {w:World} {K:PySem.W.Frag} {mg:Str→Option Value} {base:Heap}
theorem scLines:FnScope ["_law_script","_law_far","_law_a","_law_more","_law_strokes_here","_law_due"] ["_law_script"] (defScope sLines):=⟨rfl,rfl,rfl,by decide +kernel,rfl,by decide +kernel,by decide +kernel⟩
theorem ok_lines {f fC fT:Addr} {fd fdC fdT:FuncData} {k:Nat} (D:Df K mg "_law_lines" sLines f fd) (B:Blt mg)
  (DC:Df K mg "_law_cell_at" sCell fC fdC) (bC:Binds K fdC ["_law_script","_law_k"] []) (GC:FnOk P w K mg base CX0 1 fC fdC ["_law_script","_law_k"] (spCell K))
  (DT:Df K mg "_law_told" sTold fT fdT) (bT:Binds K fdT ["_law_strokes_here"] []) (GT:FnOk P w K mg base CX0 k fT fdT ["_law_strokes_here"] (spTold 9)) (h1:1≤k):FnOk P w K mg base CX0 (k + 1) f fd ["_law_script"] (spMany K):=by
 refine D.F.ok scLines (fun vs H Q E h=>?_) (fun cdv A outer s H vs Q E hr h=>?_)
 ·obtain ⟨a,ns,rfl,_⟩:=h
  rfl
 ·obtain ⟨a,ns,rfl,hS,z⟩:=h
  have hr1:Room 1 _:=hr.mono h1
  refine ⟨_,(pss_cons (ps_set (i:=1) scLines.nd rfl (Or.inl rfl) (pe_cmpR op_eq (pe_op op_mod (pec GC hr1 rfl DC.m DC.F.kp bC .nil pass0 (pac (pv 0) (pac (pe_int) pa_nil))) pe_int) pe_int (nomark _)))
   (pss_cons (ps_set (i:=2) scLines.nd rfl (Or.inl rfl) (pe_op op_add pe_int (pe_op op_mod (pec GC hr1 rfl DC.m DC.F.kp bC .nil pass0 (pac (pv 0) (pac (pe_int) pa_nil))) pe_int)))
   (pss_cons (ps_for PassesOwn.never rfl (pi_list (pe_lst (pac (pe_un un_neg pe_int) (pac (pe_un un_neg pe_int) (pac (pe_int) (pac (pe_int) pa_nil)))))) (pg_name (i:=3) scLines.nd rfl (Or.inl rfl)) (pss_cons (ps_set (i:=4) scLines.nd rfl (Or.inl rfl) (pe_lst (pac (pe_tup (pac (pe_str) (pac (pe_p9) (pac (pe_int) pa_nil)))) (pac (pe_tup (pac (pe_str) (pac (pv 2) (pac (pe_lst (pac (pe_tup (pac (pe_str) (pac (pe_op op_fdiv pe_int (pv 2)) (pac (pe_lst (pac (pe_tup (pac (pe_str) (pac (pe_un un_neg pe_int) (pac (pe_int) pa_nil)))) (pac (pe_tup (pac (pe_str) (pac (pe_int) (pac (pe_int) pa_nil)))) pa_nil))) pa_nil)))) pa_nil)) pa_nil)))) pa_nil))))
   (pss_cons (ps_set (i:=4) scLines.nd rfl (Or.inl rfl) (pe_op op_cat (pe_op op_cat (pv 4) (pe_op op_rep (pe_lst (pac (pe_tup (pac (pe_str) (pac (pe_un un_neg pe_int) (pac (pe_int) pa_nil)))) (pac (pe_tup (pac (pe_str) (pac (pe_int) (pac (pe_int) pa_nil)))) pa_nil))) (pe_op op_sub pe_int (pe_op op_mul (pe_op op_fdiv pe_int (pv 2)) (pv 2))))) (pe_lst (pac (pe_tup (pac (pe_str) (pac (pe_int) (pac (pe_int) pa_nil)))) (pac (pe_tup (pac (pe_str) (pac (pe_int) (pac (pe_un un_neg pe_int) pa_nil)))) pa_nil)))))
   (pss_cons (ps_set (i:=4) scLines.nd rfl (Or.inl rfl) (pe_op op_cat (pe_slice sl_list (pv 4) po_none (po_some (pe_op op_add (pe_callB call_len_seq (by rfl) B.len PySem.boot_len (pac (pv 4) pa_nil)) (pe_callB (call_min2 rfl) (by rfl) B.min boot_min (pac (pv 3) (pac (pe_int) pa_nil)))))) (pe_op op_rep (pe_lst (pac (pe_tup (pac (pe_str) (pac (pe_callTy call_intB (by rfl) B.int boot_int (pac (pv 1) pa_nil)) (pac (pe_int) pa_nil)))) pa_nil)) (pe_callB (call_max2 rfl) (by rfl) B.max boot_max (pac (pv 3) (pac (pe_int) pa_nil))))))
   (pss_cons (ps_set (i:=5) scLines.nd rfl (Or.inl rfl) (pe_lst (pac (pe_tup (pac (pe_tup (pac (pe_tup (pac (pe_op op_sub pe_p9 pe_int) (pac (pe_int) pa_nil))) (pac (pe_tup (pac (pe_p9) (pac (pe_int) pa_nil))) pa_nil))) (pac (pe_str) pa_nil))) (pac (pe_tup (pac (pe_tup (pac (pe_tup (pac (pe_p9) (pac (pe_int) pa_nil))) (pac (pe_tup (pac (pe_p9) (pac (pe_int) pa_nil))) pa_nil))) (pac (pe_str) pa_nil))) pa_nil))))
   (pss_cons (ps_if (pt_cmpR op_gt (pv 3) pe_int (nomark _)) (pss_one (ps_set (i:=5) scLines.nd rfl (Or.inl rfl) pe_str)) pss_nil)
   (pss_cons (ps_if (pt_cmpR op_eq (pv 3) (pe_un un_neg pe_int) (nomark _)) (pss_one (ps_set (i:=5) scLines.nd rfl (Or.inl rfl) (pe_slice sl_list (pv 5) po_none (po_some pe_int)))) pss_nil)
   (pss_one (ps_if (pt_cmpR (OpR.either op_ne (op_neL hr1)) (pec GT hr rfl DT.m DT.F.kp bT .nil pass0 (pac (pv 4) pa_nil)) (pv 5) (nomark _)) (pss_one (ps_ret pe_bl)) pss_nil)))))))))
   (pss_one (ps_ret pe_bl))))),?_⟩
  refine ⟨_,rfl,a,ns,2,rfl,hS,fun c2=>⟨_,_,rfl,rfl,(by show (0:Int) < 2; decide),rfl,?_⟩⟩
  refine ⟨_,rfl,a,ns,3,rfl,hS,fun c3=>⟨_,_,rfl,rfl,(by show (0:Int) < 17; decide),_,_,rfl,rfl,?_⟩⟩
  obtain ⟨n0,hn0⟩:=Int.eq_ofNat_of_zero_le (show 0≤4 + c3 % 17 by omega)
  have na:4≤n0∧n0≤20:=by omega
  show gName 2 (V.int (4 + c3 % 17)) _ _ _
  rw [hn0]
  have hv:∃ fb:Bool,V.bl (decide ((fun i j=>V.int (i % j)) c2 2=V.int 1))=V.bl fb:=⟨_,rfl⟩
  obtain ⟨fb,hfb⟩:=hv
  show gName 2 (V.int (n0:Int)) [some (.ref a),some (V.bl (decide ((fun i j=>V.int (i % j)) c2 2=V.int 1))),none,none,none,none] _ _
  rw [hfb]
  refine ⟨_,rfl,_,rfl,szr rfl,fun l nl=>?_⟩
  have Tl:=same_upd (o:=HO.lst [V.int (-2),.int (-1),.int 0,.int 1]) nl
  refine ⟨l,rfl,⟨_,SqL.of upd_same⟩,?_⟩
  refine for_list (K:=K) (a:=l) (xs:=[V.int (-2),.int (-1),.int 0,.int 1]) (fun i σ H1=>(∃ v3 v4 v5,σ=[some (.ref a),some (.bl fb),some (.int (n0:Int)),v3,v4,v5])∧Same (upd H l (HO.lst [V.int (-2),.int (-1),.int 0,.int 1])) H1) ⟨⟨_,_,_,rfl⟩,Same.refl _⟩ (fun i σ H1 _ ⟨_,s1⟩=>SqL.of (s1 _ _ upd_same)) ?_ ?_
  ·rintro i y σ H1 hy ⟨⟨v3,v4,v5,rfl⟩,S1⟩
   have hyc:y=.int (-2)∨y=.int (-1)∨y=.int 0∨y=.int 1:=by
    have:=List.mem_of_getElem? hy
    simpa only [List.mem_cons,List.not_mem_nil,or_false] using this
   obtain ⟨more,rfl,hmo⟩:∃ more:Int,y=.int more∧(more=-2∨more=-1∨more=0∨more=1):=by
    rcases hyc with h | h | h | h
    ·exact ⟨_,h,.inl rfl⟩
    ·exact ⟨_,h,.inr (.inl rfl)⟩
    ·exact ⟨_,h,.inr (.inr (.inl rfl))⟩
    ·exact ⟨_,h,.inr (.inr (.inr rfl))⟩
   have hqa:199 / n0≤49:=by
    have:199 / n0≤199 / 4:=Nat.div_le_div_left na.1 (by decide)
    exact this
   have hqm:n0 * (199 / n0)≤199:=Nat.mul_div_le 199 n0
   have ediv:(199:Int) / (n0:Int)=((199 / n0:Nat):Int):=(Int.natCast_ediv 199 n0).symm
   have cd:CDiv 199 (n0:Int):=⟨by show (0:Int) < (n0:Int); omega,by show (n0:Int) < 1073741824; omega⟩
   revert hqa hqm ediv
   generalize 199 / n0=b
   intro hqa hqm ediv
   refine ⟨szr rfl,fun t0 m0=>⟨_,rfl,_,rfl,_,_,rfl,rfl,cd,_,rfl,szr rfl,fun t1 m1=>⟨szr rfl,fun t2 m2=>⟨szr rfl,fun l0 m3=>⟨szr rfl,fun t3 m4=>⟨szr rfl,fun l1 m5=>⟨szr rfl,fun t4 m6=>⟨szr rfl,fun l2 m7=>?_⟩⟩⟩⟩⟩⟩⟩⟩
   have T0:=same_upd (o:=HO.tup [V.str "by",.int 1000000000,.int 5]) m0
   have T1:=same_upd (o:=HO.tup [V.str "line",.int (-1),.int 0]) m1
   have T2:=same_upd (o:=HO.tup [V.str "line",.int 1,.int 0]) m2
   have T3:=same_upd (o:=HO.lst [V.ref t1,.ref t2]) m3
   have T4:=same_upd (o:=HO.tup [V.str "times",.int ((199:Int) / (n0:Int)),.ref l0]) m4
   have T5:=same_upd (o:=HO.lst [V.ref t3]) m5
   have T6:=same_upd (o:=HO.tup [V.str "times",.int (n0:Int),.ref l1]) m6
   have T7:=same_upd (o:=HO.lst [V.ref t0,.ref t4]) m7
   have U6:=T6.trans T7
   have U5:=T5.trans U6
   have U4:=T4.trans U5
   have U3:=T3.trans U4
   have U2:=T2.trans U3
   have U1:=T1.trans U2
   have U0:=T0.trans U1
   have Sa:Same H1 (upd (upd (upd (upd (upd (upd (upd (upd H1 t0 (HO.tup [V.str "by",.int 1000000000,.int 5])) t1 (HO.tup [V.str "line",.int (-1),.int 0])) t2 (HO.tup [V.str "line",.int 1,.int 0])) l0 (HO.lst [V.ref t1,.ref t2])) t3 (HO.tup [V.str "times",.int ((199:Int) / (n0:Int)),.ref l0])) l1 (HO.lst [V.ref t3])) t4 (HO.tup [V.str "times",.int (n0:Int),.ref l1])) l2 (HO.lst [V.ref t0,.ref t4])):=U0
   have ea:(upd (upd (upd (upd (upd (upd (upd (upd H1 t0 (HO.tup [V.str "by",.int 1000000000,.int 5])) t1 (HO.tup [V.str "line",.int (-1),.int 0])) t2 (HO.tup [V.str "line",.int 1,.int 0])) l0 (HO.lst [V.ref t1,.ref t2])) t3 (HO.tup [V.str "times",.int ((199:Int) / (n0:Int)),.ref l0])) l1 (HO.lst [V.ref t3])) t4 (HO.tup [V.str "times",.int (n0:Int),.ref l1])) l2 (HO.lst [V.ref t0,.ref t4])) l2=some (.lst [V.ref t0,.ref t4]):=upd_same
   have e3:(upd (upd (upd (upd (upd (upd (upd (upd H1 t0 (HO.tup [V.str "by",.int 1000000000,.int 5])) t1 (HO.tup [V.str "line",.int (-1),.int 0])) t2 (HO.tup [V.str "line",.int 1,.int 0])) l0 (HO.lst [V.ref t1,.ref t2])) t3 (HO.tup [V.str "times",.int ((199:Int) / (n0:Int)),.ref l0])) l1 (HO.lst [V.ref t3])) t4 (HO.tup [V.str "times",.int (n0:Int),.ref l1])) l2 (HO.lst [V.ref t0,.ref t4])) t3=some (.tup [.str "times",.int (b:Int),.ref l0]):=by rw [← ediv]; exact U5 _ _ upd_same
   have ska:SksIs (upd (upd (upd (upd (upd (upd (upd (upd H1 t0 (HO.tup [V.str "by",.int 1000000000,.int 5])) t1 (HO.tup [V.str "line",.int (-1),.int 0])) t2 (HO.tup [V.str "line",.int 1,.int 0])) l0 (HO.lst [V.ref t1,.ref t2])) t3 (HO.tup [V.str "times",.int ((199:Int) / (n0:Int)),.ref l0])) l1 (HO.lst [V.ref t3])) t4 (HO.tup [V.str "times",.int (n0:Int),.ref l1])) l2 (HO.lst [V.ref t0,.ref t4])) [V.ref t0,.ref t4] [.by_ 1000000000 5,.times n0 [.times b tofro]] :=
    .cons (.by_ (U1 _ _ upd_same)) (sks_one (.times (T7 _ _ upd_same) (U6 _ _ upd_same) (sks_one (.times e3 (U4 _ _ upd_same) (.cons (.line (U2 _ _ upd_same)) (sks_one (.line (U3 _ _ upd_same))))))))
   show gName 4 (V.ref l2) _ (upd (upd (upd (upd (upd (upd (upd (upd H1 t0 (HO.tup [V.str "by",.int 1000000000,.int 5])) t1 (HO.tup [V.str "line",.int (-1),.int 0])) t2 (HO.tup [V.str "line",.int 1,.int 0])) l0 (HO.lst [V.ref t1,.ref t2])) t3 (HO.tup [V.str "times",.int ((199:Int) / (n0:Int)),.ref l0])) l1 (HO.lst [V.ref t3])) t4 (HO.tup [V.str "times",.int (n0:Int),.ref l1])) l2 (HO.lst [V.ref t0,.ref t4])) _
   revert Sa ea ska
   generalize (upd (upd (upd (upd (upd (upd (upd (upd H1 t0 (HO.tup [V.str "by",.int 1000000000,.int 5])) t1 (HO.tup [V.str "line",.int (-1),.int 0])) t2 (HO.tup [V.str "line",.int 1,.int 0])) l0 (HO.lst [V.ref t1,.ref t2])) t3 (HO.tup [V.str "times",.int ((199:Int) / (n0:Int)),.ref l0])) l1 (HO.lst [V.ref t3])) t4 (HO.tup [V.str "times",.int (n0:Int),.ref l1])) l2 (HO.lst [V.ref t0,.ref t4]))=Ha
   intro Sa ea ska
   have cm:CMul ((199:Int) / (n0:Int)) (n0:Int):=cmulR (by omega) (by omega)
   have ek:(199:Int) - (199:Int) / (n0:Int) * (n0:Int)=((199 - n0 * b:Nat):Int):=by
    rw [ediv]
    have:(b:Int) * (n0:Int)=((n0 * b:Nat):Int):=by rw [Int.natCast_mul,Int.mul_comm]
    rw [this]
    omega
   have ek':((199:Int) - (199:Int) / (n0:Int) * (n0:Int)).toNat=199 - n0 * b:=by rw [ek]; exact Int.toNat_natCast _
   refine ⟨_,rfl,_,rfl,szr rfl,fun t5 n5=>⟨szr rfl,fun t6 n6=>⟨szr rfl,fun l3 n7=>⟨_,rfl,_,_,rfl,rfl,cd,_,rfl,_,_,rfl,rfl,cm,_,_,rfl,rfl,l3,(199:Int) - (199:Int) / (n0:Int) * (n0:Int),[V.ref t5,.ref t6],rfl,rfl,upd_same,by rw [ek]; omega,by rw [ek]; omega,by rw [ek',sizeLine_eq]; show 2 * _≤_; omega,fun l4 n8=>?_⟩⟩⟩⟩
   rw [ek']
   have hm:2 * (n0 * b) + 2 * (199 - n0 * b)=398:=by omega
   revert hm
   have hmb:199 - n0 * b≤199:=by omega
   revert hmb
   generalize 199 - n0 * b=m
   intro hmb hm
   have V5:=same_upd (o:=HO.tup [V.str "line",.int (-1),.int 0]) n5
   have V6:=same_upd (o:=HO.tup [V.str "line",.int 1,.int 0]) n6
   have V7:=same_upd (o:=HO.lst [V.ref t5,.ref t6]) n7
   have V8:=same_upd (o:=HO.lst (List.replicate m [V.ref t5,.ref t6]).flatten) n8
   have W7:=V7.trans V8
   have W6:=V6.trans W7
   have W5:=V5.trans W6
   refine ⟨l2,l4,_,_,rfl,rfl,W5 _ _ ea,upd_same,by rw [len_rep,sizeLine_eq]; show 2 + m * 2≤_; omega,fun l5 n9=>?_⟩
   have V9:=same_upd (o:=HO.lst ([V.ref t0,.ref t4] ++ (List.replicate m [V.ref t5,.ref t6]).flatten)) n9
   have Sb:Same Ha (upd (upd (upd (upd (upd Ha t5 (HO.tup [V.str "line",.int (-1),.int 0])) t6 (HO.tup [V.str "line",.int 1,.int 0])) l3 (HO.lst [V.ref t5,.ref t6])) l4 (HO.lst (List.replicate m [V.ref t5,.ref t6]).flatten)) l5 (HO.lst ([V.ref t0,.ref t4] ++ (List.replicate m [V.ref t5,.ref t6]).flatten))):=W5.trans V9
   have eb:(upd (upd (upd (upd (upd Ha t5 (HO.tup [V.str "line",.int (-1),.int 0])) t6 (HO.tup [V.str "line",.int 1,.int 0])) l3 (HO.lst [V.ref t5,.ref t6])) l4 (HO.lst (List.replicate m [V.ref t5,.ref t6]).flatten)) l5 (HO.lst ([V.ref t0,.ref t4] ++ (List.replicate m [V.ref t5,.ref t6]).flatten))) l5=some (.lst ([V.ref t0,.ref t4] ++ (List.replicate m [V.ref t5,.ref t6]).flatten)):=upd_same
   have skb:SksIs (upd (upd (upd (upd (upd Ha t5 (HO.tup [V.str "line",.int (-1),.int 0])) t6 (HO.tup [V.str "line",.int 1,.int 0])) l3 (HO.lst [V.ref t5,.ref t6])) l4 (HO.lst (List.replicate m [V.ref t5,.ref t6]).flatten)) l5 (HO.lst ([V.ref t0,.ref t4] ++ (List.replicate m [V.ref t5,.ref t6]).flatten))) ([V.ref t0,.ref t4] ++ (List.replicate m [V.ref t5,.ref t6]).flatten) (lineSts n0 b m) :=
    sks_app (ska.same Sb) (sks_flat (.cons (.line ((W6.trans V9) _ _ upd_same)) (sks_one (.line ((W7.trans V9) _ _ upd_same)))) m)
   have xl:([V.ref t0,.ref t4] ++ (List.replicate m [V.ref t5,.ref t6]).flatten).length=2 + m * 2:=by rw [List.length_append,len_rep]; rfl
   revert Sb eb skb xl
   generalize (upd (upd (upd (upd (upd Ha t5 (HO.tup [V.str "line",.int (-1),.int 0])) t6 (HO.tup [V.str "line",.int 1,.int 0])) l3 (HO.lst [V.ref t5,.ref t6])) l4 (HO.lst (List.replicate m [V.ref t5,.ref t6]).flatten)) l5 (HO.lst ([V.ref t0,.ref t4] ++ (List.replicate m [V.ref t5,.ref t6]).flatten)))=Hb
   generalize ([V.ref t0,.ref t4] ++ (List.replicate m [V.ref t5,.ref t6]).flatten)=xb
   intro Sb eb skb xl
   refine ⟨szr rfl,fun t7 o1=>⟨_,rfl,szr rfl,fun t8 o2=>⟨szr rfl,fun l6 o3=>?_⟩⟩⟩
   have X1:=same_upd (o:=HO.tup [V.str "line",.int 0,.int 1]) o1
   have X2:=same_upd (o:=HO.tup [V.str "line",.int 0,.int (-1)]) o2
   have X3:=same_upd (o:=HO.lst [V.ref t7,.ref t8]) o3
   have Y2:=X2.trans X3
   have Y1:=X1.trans Y2
   refine ⟨l5,l6,_,_,rfl,rfl,Y1 _ _ eb,upd_same,by rw [xl,sizeLine_eq]; show 2 + m * 2 + 2≤_; omega,fun l7 o4=>?_⟩
   have X4:=same_upd (o:=HO.lst (xb ++ [V.ref t7,.ref t8])) o4
   have Sc:Same Hb (upd (upd (upd (upd Hb t7 (HO.tup [V.str "line",.int 0,.int 1])) t8 (HO.tup [V.str "line",.int 0,.int (-1)])) l6 (HO.lst [V.ref t7,.ref t8])) l7 (HO.lst (xb ++ [V.ref t7,.ref t8]))):=Y1.trans X4
   have ec:(upd (upd (upd (upd Hb t7 (HO.tup [V.str "line",.int 0,.int 1])) t8 (HO.tup [V.str "line",.int 0,.int (-1)])) l6 (HO.lst [V.ref t7,.ref t8])) l7 (HO.lst (xb ++ [V.ref t7,.ref t8]))) l7=some (.lst (xb ++ [V.ref t7,.ref t8])):=upd_same
   have skc:SksIs (upd (upd (upd (upd Hb t7 (HO.tup [V.str "line",.int 0,.int 1])) t8 (HO.tup [V.str "line",.int 0,.int (-1)])) l6 (HO.lst [V.ref t7,.ref t8])) l7 (HO.lst (xb ++ [V.ref t7,.ref t8]))) (xb ++ [V.ref t7,.ref t8]) (lineSts n0 b m ++ [.line 0 1,.line 0 (-1)]):=sks_app (skb.same Sc) (.cons (.line ((Y2.trans X4) _ _ upd_same)) (sks_one (.line ((X3.trans X4) _ _ upd_same))))
   have xl2:(xb ++ [V.ref t7,.ref t8]).length=2 + m * 2 + 2:=by rw [List.length_append,xl]; rfl
   show gName 4 (V.ref l7) _ (upd (upd (upd (upd Hb t7 (HO.tup [V.str "line",.int 0,.int 1])) t8 (HO.tup [V.str "line",.int 0,.int (-1)])) l6 (HO.lst [V.ref t7,.ref t8])) l7 (HO.lst (xb ++ [V.ref t7,.ref t8]))) _
   revert Sc ec skc xl2
   generalize (upd (upd (upd (upd Hb t7 (HO.tup [V.str "line",.int 0,.int 1])) t8 (HO.tup [V.str "line",.int 0,.int (-1)])) l6 (HO.lst [V.ref t7,.ref t8])) l7 (HO.lst (xb ++ [V.ref t7,.ref t8])))=Hc
   generalize hxc:xb ++ [V.ref t7,.ref t8]=xc
   intro Sc ec skc xl2
   obtain ⟨dn,up,emin,emax,hdu⟩:∃ dn up:Nat,(if (0:Int) < more then (0:Int) else more)=-(dn:Int)∧(if (0:Int) > more then (0:Int) else more)=(up:Int)∧((more=-2∧dn=2∧up=0)∨(more=-1∧dn=1∧up=0)∨(more=0∧dn=0∧up=0)∨(more=1∧dn=0∧up=1)):=by
    rcases hmo with rfl | rfl | rfl | rfl
    ·exact ⟨2,0,rfl,rfl,.inl ⟨rfl,rfl,rfl⟩⟩
    ·exact ⟨1,0,rfl,rfl,.inr (.inl ⟨rfl,rfl,rfl⟩)⟩
    ·exact ⟨0,0,rfl,rfl,.inr (.inr (.inl ⟨rfl,rfl,rfl⟩))⟩
    ·exact ⟨0,1,rfl,rfl,.inr (.inr (.inr ⟨rfl,rfl,rfl⟩))⟩
   have dn2:dn≤2:=by omega
   have up1:up≤1:=by omega
   refine ⟨_,rfl,_,rfl,l7,_,rfl,.inl (SqL.of ec),_,rfl,_,_,rfl,_,_,rfl,rfl,_,rfl,l7,_,rfl,SqL.of ec,fun l8 p1=>?_⟩
   have ecut:cutV xc none (some ((xc.length:Int) + (if (0:Int) < more then (0:Int) else more)))=xc.take (xc.length - dn):=by
    rw [emin,show (xc.length:Int) + -(dn:Int)=((xc.length - dn:Nat):Int) by omega]
    exact cut_hi'
   show tOp rRep _ _ _ (upd Hc l8 (HO.lst (cutV xc none (some ((xc.length:Int) + (if (0:Int) < more then (0:Int) else more)))))) _
   rw [ecut]
   have Z1:=same_upd (o:=HO.lst (xc.take (xc.length - dn))) (show Hc l8=none from p1)
   refine ⟨_,rfl,fb,rfl,szr rfl,fun t9 p2=>⟨szr rfl,fun l9 p3=>⟨_,rfl,_,_,rfl,l9,(up:Int),[V.ref t9],rfl,by rw [emax],upd_same,by omega,by omega,by rw [Int.toNat_natCast,sizeLine_eq]; show 1 * up≤_; omega,fun l10 p4=>?_⟩⟩⟩
   rw [Int.toNat_natCast]
   have Z2:=same_upd (o:=HO.tup [V.str "line",.int (if fb=true then 1 else 0),.int 1]) p2
   have Z3:=same_upd (o:=HO.lst [V.ref t9]) p3
   have Z4:=same_upd (o:=HO.lst (List.replicate up [V.ref t9]).flatten) p4
   have Y34:=Z3.trans Z4
   have Y24:=Z2.trans Y34
   refine ⟨l8,l10,_,_,rfl,rfl,Y24 _ _ upd_same,upd_same,by rw [len_rep,List.length_take,sizeLine_eq]; show _ + up * 1≤_; omega,fun l11 p5=>?_⟩
   have Z5:=same_upd (o:=HO.lst (xc.take (xc.length - dn) ++ (List.replicate up [V.ref t9]).flatten)) p5
   have Sd:Same Hc (upd (upd (upd (upd (upd Hc l8 (HO.lst (xc.take (xc.length - dn)))) t9 (HO.tup [V.str "line",.int (if fb=true then 1 else 0),.int 1])) l9 (HO.lst [V.ref t9])) l10 (HO.lst (List.replicate up [V.ref t9]).flatten)) l11 (HO.lst (xc.take (xc.length - dn) ++ (List.replicate up [V.ref t9]).flatten))):=(Z1.trans Y24).trans Z5
   have ed:(upd (upd (upd (upd (upd Hc l8 (HO.lst (xc.take (xc.length - dn)))) t9 (HO.tup [V.str "line",.int (if fb=true then 1 else 0),.int 1])) l9 (HO.lst [V.ref t9])) l10 (HO.lst (List.replicate up [V.ref t9]).flatten)) l11 (HO.lst (xc.take (xc.length - dn) ++ (List.replicate up [V.ref t9]).flatten))) l11=some (.lst (xc.take (xc.length - dn) ++ (List.replicate up [V.ref t9]).flatten)):=upd_same
   have skd:SksIs (upd (upd (upd (upd (upd Hc l8 (HO.lst (xc.take (xc.length - dn)))) t9 (HO.tup [V.str "line",.int (if fb=true then 1 else 0),.int 1])) l9 (HO.lst [V.ref t9])) l10 (HO.lst (List.replicate up [V.ref t9]).flatten)) l11 (HO.lst (xc.take (xc.length - dn) ++ (List.replicate up [V.ref t9]).flatten))) (xc.take (xc.length - dn) ++ (List.replicate up [V.ref t9]).flatten) ((lineSts n0 b m ++ [Sk.line 0 1,Sk.line 0 (-1)]).take (xc.length - dn) ++ List.replicate up (Sk.line (if fb=true then 1 else 0) 1)):=sks_app (sks_take _ (skc.same Sd)) (sks_rep (.line ((Y34.trans Z5) _ _ upd_same)) up)
   show gName 4 (V.ref l11) _ (upd (upd (upd (upd (upd Hc l8 (HO.lst (xc.take (xc.length - dn)))) t9 (HO.tup [V.str "line",.int (if fb=true then 1 else 0),.int 1])) l9 (HO.lst [V.ref t9])) l10 (HO.lst (List.replicate up [V.ref t9]).flatten)) l11 (HO.lst (xc.take (xc.length - dn) ++ (List.replicate up [V.ref t9]).flatten))) _
   revert Sd ed skd
   generalize (upd (upd (upd (upd (upd Hc l8 (HO.lst (xc.take (xc.length - dn)))) t9 (HO.tup [V.str "line",.int (if fb=true then 1 else 0),.int 1])) l9 (HO.lst [V.ref t9])) l10 (HO.lst (List.replicate up [V.ref t9]).flatten)) l11 (HO.lst (xc.take (xc.length - dn) ++ (List.replicate up [V.ref t9]).flatten)))=Hd0
   generalize xc.take (xc.length - dn) ++ (List.replicate up [V.ref t9]).flatten=xd
   intro Sd ed skd
   refine ⟨_,_,rfl,rfl,szr rfl,fun q1 r1=>⟨szr rfl,fun q2 r2=>⟨szr rfl,fun q3 r3=>⟨szr rfl,fun q4 r4=>?_⟩⟩⟩⟩
   refine ⟨szr rfl,fun q5 r5=>⟨szr rfl,fun q6 r6=>⟨szr rfl,fun q7 r7=>⟨szr rfl,fun q8 r8=>⟨szr rfl,fun l12 r9=>?_⟩⟩⟩⟩⟩
   have G1:=same_upd (o:=HO.tup [V.int 999999999,.int 5]) r1
   have G2:=same_upd (o:=HO.tup [V.int 1000000000,.int 5]) r2
   have G3:=same_upd (o:=HO.tup [V.ref q1,.ref q2]) r3
   have G4:=same_upd (o:=HO.tup [V.ref q3,.str "black"]) r4
   have G5:=same_upd (o:=HO.tup [V.int 1000000000,.int 5]) r5
   have G6:=same_upd (o:=HO.tup [V.int 1000000000,.int 6]) r6
   have G7:=same_upd (o:=HO.tup [V.ref q5,.ref q6]) r7
   have G8:=same_upd (o:=HO.tup [V.ref q7,.str "black"]) r8
   have G9:=same_upd (o:=HO.lst [V.ref q4,.ref q8]) r9
   have F8:=G8.trans G9
   have F7:=G7.trans F8
   have F6:=G6.trans F7
   have F5:=G5.trans F6
   have F4:=G4.trans F5
   have F3:=G3.trans F4
   have F2:=G2.trans F3
   have Se:Same Hd0 (upd (upd (upd (upd (upd (upd (upd (upd (upd Hd0 q1 (HO.tup [V.int 999999999,.int 5])) q2 (HO.tup [V.int 1000000000,.int 5])) q3 (HO.tup [V.ref q1,.ref q2])) q4 (HO.tup [V.ref q3,.str "black"])) q5 (HO.tup [V.int 1000000000,.int 5])) q6 (HO.tup [V.int 1000000000,.int 6])) q7 (HO.tup [V.ref q5,.ref q6])) q8 (HO.tup [V.ref q7,.str "black"])) l12 (HO.lst [V.ref q4,.ref q8])):=G1.trans F2
   have ee:(upd (upd (upd (upd (upd (upd (upd (upd (upd Hd0 q1 (HO.tup [V.int 999999999,.int 5])) q2 (HO.tup [V.int 1000000000,.int 5])) q3 (HO.tup [V.ref q1,.ref q2])) q4 (HO.tup [V.ref q3,.str "black"])) q5 (HO.tup [V.int 1000000000,.int 5])) q6 (HO.tup [V.int 1000000000,.int 6])) q7 (HO.tup [V.ref q5,.ref q6])) q8 (HO.tup [V.ref q7,.str "black"])) l12 (HO.lst [V.ref q4,.ref q8])) l12=some (.lst [V.ref q4,.ref q8]):=upd_same
   have de:DtsIs (upd (upd (upd (upd (upd (upd (upd (upd (upd Hd0 q1 (HO.tup [V.int 999999999,.int 5])) q2 (HO.tup [V.int 1000000000,.int 5])) q3 (HO.tup [V.ref q1,.ref q2])) q4 (HO.tup [V.ref q3,.str "black"])) q5 (HO.tup [V.int 1000000000,.int 5])) q6 (HO.tup [V.int 1000000000,.int 6])) q7 (HO.tup [V.ref q5,.ref q6])) q8 (HO.tup [V.ref q7,.str "black"])) l12 (HO.lst [V.ref q4,.ref q8])) [V.ref q4,.ref q8] ([L1,L2].map pD) :=
    .cons (.tup (F5 _ _ upd_same) (.cons (.tup (F4 _ _ upd_same) (.cons (.tup (F2 _ _ upd_same) (.cons (.int _) (.cons (.int _) .nil))) (.cons (.tup (F3 _ _ upd_same) (.cons (.int _) (.cons (.int _) .nil))) .nil))) (.cons (.str _) .nil)))
     (.cons (.tup (G9 _ _ upd_same) (.cons (.tup (F8 _ _ upd_same) (.cons (.tup (F6 _ _ upd_same) (.cons (.int _) (.cons (.int _) .nil))) (.cons (.tup (F7 _ _ upd_same) (.cons (.int _) (.cons (.int _) .nil))) .nil))) (.cons (.str _) .nil))) .nil)
   show gName 5 (V.ref l12) _ (upd (upd (upd (upd (upd (upd (upd (upd (upd Hd0 q1 (HO.tup [V.int 999999999,.int 5])) q2 (HO.tup [V.int 1000000000,.int 5])) q3 (HO.tup [V.ref q1,.ref q2])) q4 (HO.tup [V.ref q3,.str "black"])) q5 (HO.tup [V.int 1000000000,.int 5])) q6 (HO.tup [V.int 1000000000,.int 6])) q7 (HO.tup [V.ref q5,.ref q6])) q8 (HO.tup [V.ref q7,.str "black"])) l12 (HO.lst [V.ref q4,.ref q8])) _
   revert Se ee de
   generalize (upd (upd (upd (upd (upd (upd (upd (upd (upd Hd0 q1 (HO.tup [V.int 999999999,.int 5])) q2 (HO.tup [V.int 1000000000,.int 5])) q3 (HO.tup [V.ref q1,.ref q2])) q4 (HO.tup [V.ref q3,.str "black"])) q5 (HO.tup [V.int 1000000000,.int 5])) q6 (HO.tup [V.int 1000000000,.int 6])) q7 (HO.tup [V.ref q5,.ref q6])) q8 (HO.tup [V.ref q7,.str "black"])) l12 (HO.lst [V.ref q4,.ref q8]))=He
   intro Se ee de
   have ed:=Se _ _ ed
   have skd:=skd.same Se
   have S1e:=Sa.trans (Sb.trans (Sc.trans (Sd.trans Se)))
   obtain ⟨cn,cn15,hrun⟩:=lines_run (a:=n0) (b:=b) (m:=m) hm na.2
   have hL:(lineSts n0 b m).length=2 + m * 2:=by
    have e0:(lineSts n0 b m).length=2 + (List.replicate m tofro).flatten.length:=by unfold lineSts; rw [List.length_append]; rfl
    rw [e0,len_rep]
    rfl
   have hg:gds (lineSts n0 b m) 8:=by
    unfold lineSts
    refine gds_app ?_ (gds_flat ?_ m)
    ·simp only [gds,Sk.gd,tofro]
     exact ⟨True.intro,⟨by omega,7,rfl,⟨⟨by omega,6,rfl,True.intro,True.intro,True.intro⟩,True.intro⟩⟩,True.intro⟩
    ·simp only [gds,Sk.gd,tofro]
     exact ⟨True.intro,True.intro,True.intro⟩
   have hgp:∀ v:List Sk,gds v 8→gds (lineSts n0 b m ++ v) 8:=fun v hv=>gds_app hg hv
   have htk:∀ v:List Sk,∀ j:Nat,(lineSts n0 b m ++ v).take (2 + m * 2 + j)=lineSts n0 b m ++ v.take j:=fun v j=>by
    rw [List.take_append,List.take_of_length_le (by omega),hL,show 2 + m * 2 + j - (2 + m * 2)=j by omega]
   have f1:Sf cn={ Sf cn with n:=cn }:=rfl
   have i01:inB ((Sf cn).p.1 + 0,(Sf cn).p.2 + 1)=true:=by show inB (1000000000 + 0,5 + 1)=true; decide
   have run1:∀ v,runR (.line 0 1 :: v) (Sf cn)=runR v { Sf cn with n:=cn + 1,p:=(1000000000,6),ps:=List.replicate 398 L1 ++ [L2] }:=fun v=>by
    rw [line_run (S:=Sf cn) rfl (by show cn < 2000; omega) (by show (List.replicate 398 L1).length < 400; rw [List.length_replicate]; decide) i01]
    rfl
   have run2:∀ v,runR (.line 0 1 :: .line 0 (-1) :: v) (Sf cn)=runR v { Sf cn with n:=cn + 2,p:=(1000000000,5),ps:=List.replicate 398 L1 ++ [L2,L2] }:=fun v=>by
    rw [run1,line_run (S:={ Sf cn with n:=cn + 1,p:=(1000000000,6),ps:=List.replicate 398 L1 ++ [L2] }) rfl (by show cn + 1 < 2000; omega) (by show (List.replicate 398 L1 ++ [L2]).length < 400; rw [List.length_append,List.length_replicate]; decide) (by show inB (1000000000 + 0,6 + -1)=true; decide)]
    show runR v ⟨_,_,_,_,List.replicate 398 L1 ++ [L2] ++ [_]⟩=_
    rw [List.append_assoc]
    rfl
   rcases hdu with ⟨rfl,rfl,rfl⟩ | ⟨rfl,rfl,rfl⟩ | ⟨rfl,rfl,rfl⟩ | ⟨rfl,rfl,rfl⟩
   ·have est:(lineSts n0 b m ++ [Sk.line 0 1,Sk.line 0 (-1)]).take (xc.length - 2) ++ List.replicate 0 (Sk.line (if fb=true then 1 else 0) 1)=lineSts n0 b m ++ []:=by
     rw [xl2,show 2 + m * 2 + 2 - 2=2 + m * 2 + 0 by omega,htk]
     simp
    rw [est] at skd
    refine ⟨_,rfl,_,_,rfl,rfl,_,rfl,ifB_neg (by decide) ?_⟩
    refine ⟨_,rfl,_,rfl,rfl,_,rfl,ifB_pos (by decide) ?_⟩
    refine ⟨_,rfl,_,rfl,l12,_,rfl,SqL.of ee,fun l13 r10=>?_⟩
    have G10:=same_upd (o:=HO.lst (cutV [V.ref q4,.ref q8] none (some 1))) r10
    have e13:(upd He l13 (HO.lst (cutV [V.ref q4,.ref q8] none (some 1)))) l13=some (.lst [V.ref q4]):=upd_same
    have d13:DtsIs He [V.ref q4] ([L1].map pD):=by
     cases de with
     | cons h t=>exact .cons h .nil
    have hall:∀ a∈List.replicate 398 L1,a=L1∨a=L2:=fun a ha=>.inl (List.eq_of_mem_replicate ha)
    obtain ⟨n2,nb⟩:=two_no hall
    refine ⟨_,rfl,l11,xd,_,rfl,G10 _ _ ed,skd.same G10,⟨8,rfl,hgp _ (by simp only [gds])⟩,outs_pic (S:=Sf cn) (by rw [hrun]; exact run_nil _) n2 nb fun c qs H' o=>?_⟩
    have eq:qs=[L1]:=pic_eq o (List.pairwise_singleton _ _) (fun a=>by
     rw [List.mem_singleton]
     exact ⟨fun e=>by rw [e]; exact List.mem_replicate.mpr ⟨by decide,rfl⟩,fun e=>List.eq_of_mem_replicate e⟩) (rise_one _)
    subst eq
    obtain ⟨zs,ez,dz⟩:=o.pic
    refine ⟨_,rfl,.inr ⟨c,l13,zs,_,_,_,rfl,rfl,SqL.of ez,SqL.of (o.same _ _ e13),dz,(d13.same G10).same o.same,fun d hd=>Nat.le_trans (pics_dp _ d hd) (by decide),_,rfl,ifB_neg (by rw [Dt.beqs_self]; rfl) ?_⟩⟩
    exact ⟨⟨_,_,_,rfl⟩,S1.trans (S1e.trans (G10.trans o.same))⟩
   ·have est:(lineSts n0 b m ++ [Sk.line 0 1,Sk.line 0 (-1)]).take (xc.length - 1) ++ List.replicate 0 (Sk.line (if fb=true then 1 else 0) 1)=lineSts n0 b m ++ [Sk.line 0 1]:=by
     rw [xl2,show 2 + m * 2 + 2 - 1=2 + m * 2 + 1 by omega,htk]
     simp
    rw [est] at skd
    refine ⟨_,rfl,_,_,rfl,rfl,_,rfl,ifB_neg (by decide) ?_⟩
    refine ⟨_,rfl,_,rfl,rfl,_,rfl,ifB_neg (by decide) ?_⟩
    have hall:∀ a∈List.replicate 398 L1 ++ [L2],a=L1∨a=L2:=fun a ha=>(List.mem_append.mp ha).elim (fun h=>.inl (List.eq_of_mem_replicate h)) (fun h=>.inr (List.mem_singleton.mp h))
    obtain ⟨n2,nb⟩:=two_no hall
    refine ⟨_,rfl,l11,xd,_,rfl,ed,skd,⟨8,rfl,hgp _ (by simp only [gds,Sk.gd]; exact ⟨True.intro,True.intro⟩)⟩,outs_pic (S:={ Sf cn with n:=cn + 1,p:=(1000000000,6),ps:=List.replicate 398 L1 ++ [L2] }) (by rw [hrun,run1]; exact run_nil _) n2 nb fun c qs H' o=>?_⟩
    have eq:qs=[L1,L2]:=pic_eq o (by simp [L12ne]) (fun a=>by
     show a∈[L1,L2]↔a∈List.replicate 398 L1 ++ [L2]
     simp) rise_two
    subst eq
    obtain ⟨zs,ez,dz⟩:=o.pic
    refine ⟨_,rfl,.inr ⟨c,l12,zs,_,_,_,rfl,rfl,SqL.of ez,SqL.of (o.same _ _ ee),dz,de.same o.same,fun d hd=>Nat.le_trans (pics_dp _ d hd) (by decide),_,rfl,ifB_neg (by rw [Dt.beqs_self]; rfl) ?_⟩⟩
    exact ⟨⟨_,_,_,rfl⟩,S1.trans (S1e.trans o.same)⟩
   ·have est:(lineSts n0 b m ++ [Sk.line 0 1,Sk.line 0 (-1)]).take (xc.length - 0) ++ List.replicate 0 (Sk.line (if fb=true then 1 else 0) 1)=lineSts n0 b m ++ [Sk.line 0 1,Sk.line 0 (-1)]:=by
     rw [xl2,show 2 + m * 2 + 2 - 0=2 + m * 2 + 2 by omega,htk]
     simp
    rw [est] at skd
    refine ⟨_,rfl,_,_,rfl,rfl,_,rfl,ifB_neg (by decide) ?_⟩
    refine ⟨_,rfl,_,rfl,rfl,_,rfl,ifB_neg (by decide) ?_⟩
    have hall:∀ a∈List.replicate 398 L1 ++ [L2,L2],a=L1∨a=L2:=fun a ha=>(List.mem_append.mp ha).elim (fun h=>.inl (List.eq_of_mem_replicate h)) (fun h=>.inr (by simpa using h))
    obtain ⟨n2,nb⟩:=two_no hall
    refine ⟨_,rfl,l11,xd,_,rfl,ed,skd,⟨8,rfl,hgp _ (by simp only [gds,Sk.gd]; exact ⟨True.intro,True.intro,True.intro⟩)⟩,outs_pic (S:={ Sf cn with n:=cn + 2,p:=(1000000000,5),ps:=List.replicate 398 L1 ++ [L2,L2] }) (by rw [hrun,run2]; exact run_nil _) n2 nb fun c qs H' o=>?_⟩
    have eq:qs=[L1,L2]:=pic_eq o (by simp [L12ne]) (fun a=>by
     show a∈[L1,L2]↔a∈List.replicate 398 L1 ++ [L2,L2]
     simp) rise_two
    subst eq
    obtain ⟨zs,ez,dz⟩:=o.pic
    refine ⟨_,rfl,.inr ⟨c,l12,zs,_,_,_,rfl,rfl,SqL.of ez,SqL.of (o.same _ _ ee),dz,de.same o.same,fun d hd=>Nat.le_trans (pics_dp _ d hd) (by decide),_,rfl,ifB_neg (by rw [Dt.beqs_self]; rfl) ?_⟩⟩
    exact ⟨⟨_,_,_,rfl⟩,S1.trans (S1e.trans o.same)⟩
   ·have est:(lineSts n0 b m ++ [Sk.line 0 1,Sk.line 0 (-1)]).take (xc.length - 0) ++ List.replicate 1 (Sk.line (if fb=true then 1 else 0) 1)=lineSts n0 b m ++ [Sk.line 0 1,Sk.line 0 (-1),Sk.line (if fb=true then 1 else 0) 1]:=by
     rw [xl2,show 2 + m * 2 + 2 - 0=2 + m * 2 + 2 by omega,htk]
     simp
    rw [est] at skd
    refine ⟨_,rfl,_,_,rfl,rfl,_,rfl,ifB_pos (by decide) ?_⟩
    refine ⟨_,rfl,_,rfl,rfl,_,rfl,ifB_neg (by decide) ?_⟩
    refine ⟨_,rfl,l11,xd,_,rfl,ed,skd,⟨8,rfl,hgp _ (by simp only [gds,Sk.gd]; exact ⟨True.intro,True.intro,True.intro,True.intro⟩)⟩,outs_many (by rw [hrun,run2]; exact line_many (by show cn + 2 < 2000; omega) (by show 400≤(List.replicate 398 L1 ++ [L2,L2]).length; rw [List.length_append,List.length_replicate]; decide)) fun H' S'=>?_⟩
    exact ⟨_,rfl,.inl ⟨rfl,_,rfl,ifB_neg (by simp) ⟨⟨_,_,_,rfl⟩,S1.trans (S1e.trans S')⟩⟩⟩
  ·rintro σ H1 ⟨⟨v3,v4,v5,rfl⟩,S1⟩
   exact z H1 (Tl.trans S1)
end
section
variable {P:Program} {w:World} {K:PySem.W.Frag} {mg:Str→Option Value} {base:Heap}
theorem scUnlike:FnScope ["_law_script","_law_way","_law_many_here","_law_strokes_here","_law_found"] ["_law_script"] (defScope sUnlike):=⟨rfl,rfl,rfl,by decide +kernel,rfl,by decide +kernel,by decide +kernel⟩
theorem ok_unlike {f fC fT:Addr} {fd fdC fdT:FuncData} {k:Nat} (D:Df K mg "_law_unlike" sUnlike f fd) (B:Blt mg)
  (DC:Df K mg "_law_cell_at" sCell fC fdC) (bC:Binds K fdC ["_law_script","_law_k"] []) (GC:FnOk P w K mg base CX0 1 fC fdC ["_law_script","_law_k"] (spCell K))
  (DT:Df K mg "_law_told" sTold fT fdT) (bT:Binds K fdT ["_law_strokes_here"] []) (GT:FnOk P w K mg base CX0 k fT fdT ["_law_strokes_here"] (spTold 9)) (h1:1≤k):FnOk P w K mg base CX0 (k + 1) f fd ["_law_script"] (spMany K):=by
 refine D.F.ok scUnlike (fun vs H Q E h=>?_) (fun cdv A outer s H vs Q E hr h=>?_)
 ·obtain ⟨a,ns,rfl,_⟩:=h
  rfl
 ·obtain ⟨a,ns,rfl,hS,z⟩:=h
  have hr1:Room 1 _:=hr.mono h1
  refine ⟨_,(pss_cons (ps_set (i:=1) scUnlike.nd rfl (Or.inl rfl) (pe_ix ix_list (pe_lst (pac (pe_tup (pac (pe_int) (pac (pe_int) pa_nil))) (pac (pe_tup (pac (pe_int) (pac (pe_int) pa_nil))) (pac (pe_tup (pac (pe_int) (pac (pe_int) pa_nil))) (pac (pe_tup (pac (pe_un un_neg pe_int) (pac (pe_int) pa_nil))) pa_nil))))) (pe_op op_mod (pec GC hr1 rfl DC.m DC.F.kp bC .nil pass0 (pac (pv 0) (pac (pe_int) pa_nil))) pe_int) (fun _ _=>rfl)))
   (pss_cons (ps_for PassesOwn.never rfl (pi_list (pe_lst (pac (pe_int) (pac (pe_int) (pac (pe_int) (pac (pe_int) pa_nil)))))) (pg_name (i:=2) scUnlike.nd rfl (Or.inl rfl)) (pss_cons (ps_set (i:=3) scUnlike.nd rfl (Or.inl rfl) (pe_op op_rep (pe_lst (pac (pe_op op_catT (pe_tup (pac (pe_str) pa_nil)) (pv 1)) pa_nil)) (pv 2)))
   (pss_cons (ps_set (i:=4) scUnlike.nd rfl (Or.inl rfl) (pec GT hr rfl DT.m DT.F.kp bT .nil pass0 (pac (pv 3) pa_nil)))
   (pss_cons (ps_if (PW.pt (pw_or (PW.pt (pw_and (pt_cmpR op_gt (pv 2) pe_int (nomark _)) (pw_and1 (pt_cmpR op_ne (pv 4) pe_str (nomark _)))))
       (pw_or1 (PW.pt (pw_and (pt_cmpR op_le (pv 2) pe_int (nomark _)) (pw_and1 (PW.pt (pw_or (pt_not (pt_val (pe_callB call_isi (by rfl) B.isi boot_isinstance (pac (pv 4) (pac (pe_bltn (v:=.ty "list") (by rfl) B.list boot_list rfl) pa_nil))))) (pw_or1 (pt_cmpR op_ne (pe_callB call_len_seq (by rfl) B.len PySem.boot_len (pac (pv 4) pa_nil)) (pv 2) (nomark _)))))))))))
      (pss_one (ps_ret pe_bl)) pss_nil)
   (pss_one (ps_if (pt_cmpR op_ne (pec GT hr rfl DT.m DT.F.kp bT .nil pass0 (pac (pe_op op_cat (pv 3) (pe_lst (pac (pe_tup (pac (pe_str) (pac (pe_str) pa_nil))) (pac (pe_tup (pac (pe_str) (pac (pe_op op_sub pe_int (pe_ix ix_tup (pv 1) pe_int (fun _ _=>rfl))) (pac (pe_op op_sub pe_int (pe_ix ix_tup (pv 1) pe_int (fun _ _=>rfl))) pa_nil)))) pa_nil)))) pa_nil)) pe_str (nomark _)) (pss_one (ps_ret pe_bl)) pss_nil))))))
   (pss_one (ps_ret pe_bl)))),?_⟩
  refine ⟨szr rfl,fun w0 m0=>⟨szr rfl,fun w1 m1=>⟨szr rfl,fun w2 m2=>⟨_,rfl,szr rfl,fun w3 m3=>⟨szr rfl,fun wl m4=>?_⟩⟩⟩⟩⟩
  have T0:=same_upd (o:=HO.tup [V.int 1,.int 0]) m0
  have T1:=same_upd (o:=HO.tup [V.int 0,.int 1]) m1
  have T2:=same_upd (o:=HO.tup [V.int 1,.int 1]) m2
  have T3:=same_upd (o:=HO.tup [V.int (-1),.int 1]) m3
  have T4:=same_upd (o:=HO.lst [V.ref w0,.ref w1,.ref w2,.ref w3]) m4
  have U3:=T3.trans T4
  have U2:=T2.trans U3
  have U1:=T1.trans U2
  have S0:=T0.trans U1
  refine ⟨_,rfl,a,ns,4,rfl,S0.seq hS,fun c4=>⟨_,_,rfl,rfl,(by show (0:Int) < 4; decide),?_⟩⟩
  obtain ⟨v,hv,hm⟩:=atI_of (xs:=[V.ref w0,.ref w1,.ref w2,.ref w3]) (m:=c4 % 4) (by omega) (by show c4 % 4 < 4; omega)
  obtain ⟨wq,ww,rfl,tw,hww⟩:∃ wq ww,v=V.ref wq∧two (upd (upd (upd (upd (upd H w0 (HO.tup [V.int 1,.int 0])) w1 (HO.tup [V.int 0,.int 1])) w2 (HO.tup [V.int 1,.int 1])) w3 (HO.tup [V.int (-1),.int 1])) wl (HO.lst [V.ref w0,.ref w1,.ref w2,.ref w3])) wq ww∧ww∈ways4:=by
   simp only [List.mem_cons,List.not_mem_nil,or_false] at hm
   rcases hm with rfl | rfl | rfl | rfl
   ·exact ⟨w0,(1,0),rfl,U1 _ _ upd_same,by simp [ways4]⟩
   ·exact ⟨w1,(0,1),rfl,U2 _ _ upd_same,by simp [ways4]⟩
   ·exact ⟨w2,(1,1),rfl,U3 _ _ upd_same,by simp [ways4]⟩
   ·exact ⟨w3,(-1,1),rfl,T4 _ _ upd_same,by simp [ways4]⟩
  refine ⟨wl,_,_,_,rfl,rfl,SqL.of upd_same,hv,?_⟩
  revert tw S0
  generalize (upd (upd (upd (upd (upd H w0 (HO.tup [V.int 1,.int 0])) w1 (HO.tup [V.int 0,.int 1])) w2 (HO.tup [V.int 1,.int 1])) w3 (HO.tup [V.int (-1),.int 1])) wl (HO.lst [V.ref w0,.ref w1,.ref w2,.ref w3]))=H0
  intro S0 tw
  refine ⟨szr rfl,fun l nl=>?_⟩
  have Tl:=same_upd (o:=HO.lst [V.int 119,.int 120,.int 121,.int 122]) nl
  refine ⟨l,rfl,⟨_,SqL.of upd_same⟩,?_⟩
  refine for_list (K:=K) (a:=l) (xs:=[V.int 119,.int 120,.int 121,.int 122]) (fun i σ H1=>(∃ v2 v3 v4,σ=[some (.ref a),some (.ref wq),v2,v3,v4])∧Same (upd H0 l (HO.lst [V.int 119,.int 120,.int 121,.int 122])) H1) ⟨⟨_,_,_,rfl⟩,Same.refl _⟩ (fun i σ H1 _ ⟨_,s1⟩=>SqL.of (s1 _ _ upd_same)) ?_ ?_
  ·rintro i y σ H1 hy ⟨⟨v2,v3,v4,rfl⟩,S1⟩
   obtain ⟨N,rfl,hN1,hN2⟩:∃ N:Nat,y=.int (N:Int)∧119≤N∧N≤122:=by
    have:=List.mem_of_getElem? hy
    simp only [List.mem_cons,List.not_mem_nil,or_false] at this
    rcases this with rfl | rfl | rfl | rfl
    ·exact ⟨119,rfl,by decide,by decide⟩
    ·exact ⟨120,rfl,by decide,by decide⟩
    ·exact ⟨121,rfl,by decide,by decide⟩
    ·exact ⟨122,rfl,by decide,by decide⟩
   have tw1:two H1 wq ww:=(Tl.trans S1) _ _ tw
   refine ⟨szr rfl,fun t1 n1=>?_⟩
   have V1:=same_upd (o:=HO.tup [V.str "line"]) n1
   refine ⟨_,rfl,t1,wq,_,_,rfl,rfl,SqT.of upd_same,SqT.of (V1 _ _ tw1),by simp,szr rfl,fun h=>(by cases h),fun _ t2 n2=>?_⟩
   have V2:=same_upd (o:=HO.tup ([V.str "line"] ++ [V.int ww.1,.int ww.2])) n2
   refine ⟨szr rfl,fun l1 n3=>?_⟩
   have V3:=same_upd (o:=HO.lst [V.ref t2]) n3
   refine ⟨_,rfl,l1,(N:Int),[V.ref t2],rfl,rfl,upd_same,by omega,by omega,by rw [Int.toNat_natCast,sizeLine_eq]; show 1 * N≤_; omega,fun l2 n4=>?_⟩
   rw [Int.toNat_natCast]
   have V4:=same_upd (o:=HO.lst (List.replicate N [V.ref t2]).flatten) n4
   have W3:=V3.trans V4
   have Sa:Same H1 (upd (upd (upd (upd H1 t1 (HO.tup [V.str "line"])) t2 (HO.tup ([V.str "line"] ++ [V.int ww.1,.int ww.2]))) l1 (HO.lst [V.ref t2])) l2 (HO.lst (List.replicate N [V.ref t2]).flatten)):=V1.trans (V2.trans W3)
   have ea:(upd (upd (upd (upd H1 t1 (HO.tup [V.str "line"])) t2 (HO.tup ([V.str "line"] ++ [V.int ww.1,.int ww.2]))) l1 (HO.lst [V.ref t2])) l2 (HO.lst (List.replicate N [V.ref t2]).flatten)) l2=some (.lst (List.replicate N [V.ref t2]).flatten):=upd_same
   have ska:SksIs (upd (upd (upd (upd H1 t1 (HO.tup [V.str "line"])) t2 (HO.tup ([V.str "line"] ++ [V.int ww.1,.int ww.2]))) l1 (HO.lst [V.ref t2])) l2 (HO.lst (List.replicate N [V.ref t2]).flatten)) (List.replicate N [V.ref t2]).flatten (List.replicate N (.line ww.1 ww.2)):=sks_rep (.line (W3 _ _ upd_same)) N
   have xl:(List.replicate N [V.ref t2]).flatten.length=N:=by rw [len_rep]; show N * 1=N; omega
   show gName 3 (V.ref l2) _ (upd (upd (upd (upd H1 t1 (HO.tup [V.str "line"])) t2 (HO.tup ([V.str "line"] ++ [V.int ww.1,.int ww.2]))) l1 (HO.lst [V.ref t2])) l2 (HO.lst (List.replicate N [V.ref t2]).flatten)) _
   revert Sa ea ska xl
   generalize (upd (upd (upd (upd H1 t1 (HO.tup [V.str "line"])) t2 (HO.tup ([V.str "line"] ++ [V.int ww.1,.int ww.2]))) l1 (HO.lst [V.ref t2])) l2 (HO.lst (List.replicate N [V.ref t2]).flatten))=Ha
   generalize (List.replicate N [V.ref t2]).flatten=xa
   intro Sa ea ska xl
   have twa:two Ha wq ww:=Sa _ _ tw1
   have hgl:∀ v:List Sk,gds v 8→gds (List.replicate N (Sk.line ww.1 ww.2) ++ v) 8:=fun v hv=>gds_app (gds_rep (by simp only [Sk.gd]) N) hv
   refine' laterS (fun σ Hb=>∃ v4,σ=[some (.ref a),some (.ref wq),some (.int (N:Int)),some (.ref l2),v4]∧Same Ha Hb) (fun fin=>_) _
   rotate_left
   ·by_cases hb:120 < N
    ·refine ⟨_,rfl,l2,xa,_,rfl,ea,(by have:=ska; rw [← List.append_nil (List.replicate N (Sk.line ww.1 ww.2))] at this; exact this),⟨8,rfl,hgl [] (by simp only [gds])⟩,outs_big (S:={ S00 with n:=N,p:=atP (0,0) ww N,ps:=unlP ww N }) (by rw [unl_run hww (by omega)]; exact run_nil _) (black_no (unl_black ww N)) ((unl_big hww).1 hb) fun Hb Sb=>?_⟩
     refine ⟨_,rfl,_,_,rfl,rfl,_,rfl,ifB_pos (decide_eq_true (by show (N:Int) > 120; omega)) ?_⟩
     refine ⟨_,rfl,rfl,_,rfl,ifB_neg (by simp) ?_⟩
     refine ⟨_,rfl,_,_,rfl,rfl,_,rfl,ifB_neg (decide_eq_false (by show ¬ (N:Int)≤120; omega)) (iteF ?_)⟩
     exact fin _ _ ⟨_,rfl,Sb⟩
    ·refine ⟨_,rfl,l2,xa,_,rfl,ea,(by have:=ska; rw [← List.append_nil (List.replicate N (Sk.line ww.1 ww.2))] at this; exact this),⟨8,rfl,hgl [] (by simp only [gds])⟩,outs_pic (S:={ S00 with n:=N,p:=atP (0,0) ww N,ps:=unlP ww N }) (by rw [unl_run hww (by omega)]; exact run_nil _) (black_no (unl_black ww N)) ((unl_big hww).2 (by omega)) fun p qs Hb o=>?_⟩
     have pm:qs.Perm (unlP ww N):=(List.perm_ext_iff_of_nodup o.nd (nodup_pl (unl_nd hww N))).mpr o.mem
     have ql:qs.length=N:=by rw [pm.length_eq,unl_len]
     obtain ⟨zs,ez,dz⟩:=o.pic
     have zl:zs.length=N:=by rw [dz.length,List.length_map,ql]
     refine ⟨_,rfl,_,_,rfl,rfl,_,rfl,ifB_neg (decide_eq_false (by show ¬ (N:Int) > 120; omega)) (iteF ?_)⟩
     refine ⟨_,rfl,_,_,rfl,rfl,_,rfl,ifB_pos (decide_eq_true (by show (N:Int)≤120; omega)) ?_⟩
     refine ⟨_,rfl,.ref p,.lst,.lst,rfl,.lst ez,_,rfl,iteF ?_⟩
     refine ⟨_,rfl,p,_,rfl,.inl (SqL.of ez),_,rfl,rfl,_,rfl,ifB_neg (by rw [zl]; simp) ?_⟩
     exact fin _ _ ⟨_,rfl,o.same⟩
   rintro σ Hb ⟨v4,rfl,Sb⟩
   have twb:two Hb wq ww:=Sb _ _ twa
   refine ⟨_,rfl,szr rfl,fun t3 o1=>?_⟩
   have X1:=same_upd (o:=HO.tup [V.str "ink",.str "z"]) o1
   have tw2:two (upd Hb t3 (HO.tup [V.str "ink",.str "z"])) wq ww:=X1 _ _ twb
   refine ⟨_,rfl,wq,_,_,_,rfl,rfl,SqT.of tw2,rfl,_,_,rfl,rfl,_,rfl,wq,_,_,_,rfl,rfl,SqT.of tw2,rfl,_,_,rfl,rfl,szr rfl,fun t4 o2=>⟨szr rfl,fun l3 o3=>?_⟩⟩
   have X2:=same_upd (o:=HO.tup [V.str "line",.int (0 - ww.1),.int (0 - ww.2)]) o2
   have X3:=same_upd (o:=HO.lst [V.ref t3,.ref t4]) o3
   have Y2:=X2.trans X3
   have Y1:=X1.trans Y2
   refine ⟨l2,l3,_,_,rfl,rfl,Y1 _ _ (Sb _ _ ea),upd_same,by rw [xl,sizeLine_eq]; show N + 2≤_; omega,fun l4 o4=>?_⟩
   have X4:=same_upd (o:=HO.lst (xa ++ [V.ref t3,.ref t4])) o4
   have Sc:=Sb.trans (Y1.trans X4)
   obtain ⟨S',hrun,htwo⟩:=unl_two hww (N:=N) (by omega) hN2
   refine ⟨l4,_,_,rfl,upd_same,sks_app (ska.same Sc) (.cons (.ink ((Y2.trans X4) _ _ upd_same)) (sks_one (.line ((X3.trans X4) _ _ upd_same)))),⟨8,rfl,hgl _ (by simp only [gds,Sk.gd]; exact ⟨True.intro,True.intro,True.intro⟩)⟩,outs_two hrun htwo fun Hd Sd=>?_⟩
   exact ⟨rfl,_,rfl,ifB_neg (by simp) ⟨⟨_,_,_,rfl⟩,S1.trans (Sa.trans (Sc.trans Sd))⟩⟩
  ·rintro σ H1 ⟨⟨v2,v3,v4,rfl⟩,S1⟩
   exact z H1 (S0.trans (Tl.trans S1))
end
theorem cmul_side {s:Int×Int} (h:s∈sides4) (j:Int):CMul s.1 j∧CMul s.2 j:=by
 refine ⟨.inl ⟨?_,?_⟩,.inl ⟨?_,?_⟩⟩ <;> rcases sides_cases h with rfl | rfl | rfl | rfl <;> decide
section
variable {P:Program} {w:World} {K:PySem.W.Frag} {mg:Str→Option Value} {base:Heap}
theorem scEdge:FnScope ["_law_script","_law_side","_law_size","_law_near","_law_begin","_law_last","_law_place","_law_due","_law_beyond","_law_step"] ["_law_script"] (defScope sEdge):=⟨rfl,rfl,rfl,by decide +kernel,rfl,by decide +kernel,by decide +kernel⟩
theorem ok_edge {f fC fT:Addr} {fd fdC fdT:FuncData} {k:Nat} (D:Df K mg "_law_edge" sEdge f fd) (B:Blt mg)
  (DC:Df K mg "_law_cell_at" sCell fC fdC) (bC:Binds K fdC ["_law_script","_law_k"] []) (GC:FnOk P w K mg base CX0 1 fC fdC ["_law_script","_law_k"] (spCell K))
  (DT:Df K mg "_law_told" sTold fT fdT) (bT:Binds K fdT ["_law_strokes_here"] []) (GT:FnOk P w K mg base CX0 k fT fdT ["_law_strokes_here"] (spTold 9)) (h1:1≤k):FnOk P w K mg base CX0 (k + 1) f fd ["_law_script"] (spMany K):=by
 refine D.F.ok scEdge (fun vs H Q E h=>?_) (fun cdv A outer s H vs Q E hr h=>?_)
 ·obtain ⟨a,ns,rfl,_⟩:=h
  rfl
 ·obtain ⟨a,ns,rfl,hS,zz⟩:=h
  have hr1:Room 1 _:=hr.mono h1
  have hu:=hr.units
  have hu2:(A.deeper (envOfC "_law_edge" (defScope sEdge) s.heap.objs.size f cdv)).units + 1 < cLine:=by omega
  refine ⟨_,(pss_cons (ps_set (i:=1) scEdge.nd rfl (Or.inl rfl) (pe_ix ix_list (pe_lst (pac (pe_tup (pac (pe_int) (pac (pe_int) pa_nil))) (pac (pe_tup (pac (pe_un un_neg pe_int) (pac (pe_int) pa_nil))) (pac (pe_tup (pac (pe_int) (pac (pe_int) pa_nil))) (pac (pe_tup (pac (pe_int) (pac (pe_un un_neg pe_int) pa_nil))) pa_nil))))) (pe_op op_mod (pec GC hr1 rfl DC.m DC.F.kp bC .nil pass0 (pac (pv 0) (pac (pe_int) pa_nil))) pe_int) (fun _ _=>rfl)))
   (pss_cons (ps_set (i:=2) scEdge.nd rfl (Or.inl rfl) (pe_op op_add pe_int (pe_op op_mod (pec GC hr1 rfl DC.m DC.F.kp bC .nil pass0 (pac (pv 0) (pac (pe_int) pa_nil))) pe_int)))
   (pss_cons (ps_set (i:=3) scEdge.nd rfl (Or.inl rfl) (pe_op op_sub pe_p9 (pv 2)))
   (pss_cons (ps_set (i:=4) scEdge.nd rfl (Or.inl rfl) (pe_tup (pac (pe_str) (pac (pe_op op_mul (pe_ix ix_tup (pv 1) pe_int (fun _ _=>rfl)) (pv 3)) (pac (pe_op op_mul (pe_ix ix_tup (pv 1) pe_int (fun _ _=>rfl)) (pv 3)) pa_nil)))))
   (pss_cons (ps_set (i:=5) scEdge.nd rfl (Or.inl rfl) (pe_tup (pac (pe_op op_mul (pe_ix ix_tup (pv 1) pe_int (fun _ _=>rfl)) pe_p9) (pac (pe_op op_mul (pe_ix ix_tup (pv 1) pe_int (fun _ _=>rfl)) pe_p9) pa_nil))))
   (pss_cons (ps_set (i:=6) scEdge.nd rfl (Or.inl rfl) (pe_tup (pac (pe_op op_mul (pe_ix ix_tup (pv 1) pe_int (fun _ _=>rfl)) (pv 3)) (pac (pe_op op_mul (pe_ix ix_tup (pv 1) pe_int (fun _ _=>rfl)) (pv 3)) pa_nil))))
   (pss_cons (ps_set (i:=7) scEdge.nd rfl (Or.inl rfl) (pe_lst (pac (pe_tup (pac (pe_tup (pac (pe_callB (call_minT rfl hu2) (by rfl) B.min boot_min (pac (pv 6) (pac (pv 5) pa_nil))) (pac (pe_callB (call_maxT rfl hu2) (by rfl) B.max boot_max (pac (pv 6) (pac (pv 5) pa_nil))) pa_nil))) (pac (pe_str) pa_nil))) pa_nil)))
   (pss_cons (ps_if (pt_cmpR (OpR.either op_ne (op_neL hr1)) (pec GT hr rfl DT.m DT.F.kp bT .nil pass0 (pac (pe_lst (pac (pv 4) (pac (pe_tup (pac (pe_str) (pac (pe_op op_mul (pe_ix ix_tup (pv 1) pe_int (fun _ _=>rfl)) (pv 2)) (pac (pe_op op_mul (pe_ix ix_tup (pv 1) pe_int (fun _ _=>rfl)) (pv 2)) pa_nil)))) pa_nil))) pa_nil)) (pv 7) (nomark _)) (pss_one (ps_ret pe_bl)) pss_nil)
   (pss_cons (ps_set (i:=8) scEdge.nd rfl (Or.inl rfl) (pe_tup (pac (pe_op op_mul (pe_ix ix_tup (pv 1) pe_int (fun _ _=>rfl)) (pe_op op_add (pv 2) pe_int)) (pac (pe_op op_mul (pe_ix ix_tup (pv 1) pe_int (fun _ _=>rfl)) (pe_op op_add (pv 2) pe_int)) pa_nil))))
   (pss_cons (ps_if (PW.pt (pw_or (pt_cmpR op_ne (pec GT hr rfl DT.m DT.F.kp bT .nil pass0 (pac (pe_lst (pac (pv 4) (pac (pe_op op_catT (pe_tup (pac (pe_str) pa_nil)) (pv 8)) pa_nil))) pa_nil)) pe_str (nomark _)) (pw_or1 (pt_cmpR op_ne (pec GT hr rfl DT.m DT.F.kp bT .nil pass0 (pac (pe_lst (pac (pv 4) (pac (pe_op op_catT (pe_tup (pac (pe_str) pa_nil)) (pv 8)) (pac (pe_tup (pac (pe_str) (pac (pe_int) (pac (pe_int) pa_nil)))) pa_nil)))) pa_nil)) pe_str (nomark _))))) (pss_one (ps_ret pe_bl)) pss_nil)
   (pss_cons (ps_set (i:=9) scEdge.nd rfl (Or.inl rfl) (pe_tup (pac (pe_str) (pac (pe_ix ix_tup (pv 1) pe_int (fun _ _=>rfl)) (pac (pe_ix ix_tup (pv 1) pe_int (fun _ _=>rfl)) pa_nil)))))
   (pss_one (ps_ret (pe_and (pe_cmpR op_eq (pec GT hr rfl DT.m DT.F.kp bT .nil pass0 (pac (pe_op op_cat (pe_lst (pac (pv 4) pa_nil)) (pe_op op_rep (pe_lst (pac (pv 9) pa_nil)) (pe_op op_add (pv 2) pe_int))) pa_nil)) pe_str (nomark _)) (pe_one (pe_callB call_isi (by rfl) B.isi boot_isinstance (pac (pec GT hr rfl DT.m DT.F.kp bT .nil pass0 (pac (pe_op op_cat (pe_lst (pac (pv 4) pa_nil)) (pe_op op_rep (pe_lst (pac (pv 9) pa_nil)) (pv 2))) pa_nil)) (pac (pe_bltn (v:=.ty "list") (by rfl) B.list boot_list rfl) pa_nil)))))))))))))))))),?_⟩
  refine ⟨szr rfl,fun w0 m0=>⟨_,rfl,szr rfl,fun w1 m1=>⟨szr rfl,fun w2 m2=>⟨_,rfl,szr rfl,fun w3 m3=>⟨szr rfl,fun wl m4=>?_⟩⟩⟩⟩⟩
  have T0:=same_upd (o:=HO.tup [V.int 1,.int 0]) m0
  have T1:=same_upd (o:=HO.tup [V.int (-1),.int 0]) m1
  have T2:=same_upd (o:=HO.tup [V.int 0,.int 1]) m2
  have T3:=same_upd (o:=HO.tup [V.int 0,.int (-1)]) m3
  have T4:=same_upd (o:=HO.lst [V.ref w0,.ref w1,.ref w2,.ref w3]) m4
  have U3:=T3.trans T4
  have U2:=T2.trans U3
  have U1:=T1.trans U2
  have S0:=T0.trans U1
  refine ⟨_,rfl,a,ns,5,rfl,S0.seq hS,fun c5=>⟨_,_,rfl,rfl,(by show (0:Int) < 4; decide),?_⟩⟩
  obtain ⟨v,hv,hm⟩:=atI_of (xs:=[V.ref w0,.ref w1,.ref w2,.ref w3]) (m:=c5 % 4) (by omega) (by show c5 % 4 < 4; omega)
  obtain ⟨sq,sd,rfl,ts,hsd⟩:∃ sq sd,v=V.ref sq∧two (upd (upd (upd (upd (upd H w0 (HO.tup [V.int 1,.int 0])) w1 (HO.tup [V.int (-1),.int 0])) w2 (HO.tup [V.int 0,.int 1])) w3 (HO.tup [V.int 0,.int (-1)])) wl (HO.lst [V.ref w0,.ref w1,.ref w2,.ref w3])) sq sd∧sd∈sides4:=by
   simp only [List.mem_cons,List.not_mem_nil,or_false] at hm
   rcases hm with rfl | rfl | rfl | rfl
   ·exact ⟨w0,(1,0),rfl,U1 _ _ upd_same,by simp [sides4]⟩
   ·exact ⟨w1,(-1,0),rfl,U2 _ _ upd_same,by simp [sides4]⟩
   ·exact ⟨w2,(0,1),rfl,U3 _ _ upd_same,by simp [sides4]⟩
   ·exact ⟨w3,(0,-1),rfl,T4 _ _ upd_same,by simp [sides4]⟩
  refine ⟨wl,_,_,_,rfl,rfl,SqL.of upd_same,hv,?_⟩
  revert ts S0
  generalize (upd (upd (upd (upd (upd H w0 (HO.tup [V.int 1,.int 0])) w1 (HO.tup [V.int (-1),.int 0])) w2 (HO.tup [V.int 0,.int 1])) w3 (HO.tup [V.int 0,.int (-1)])) wl (HO.lst [V.ref w0,.ref w1,.ref w2,.ref w3]))=H0
  intro S0 ts
  refine ⟨_,rfl,a,ns,6,rfl,S0.seq hS,fun c6=>⟨_,_,rfl,rfl,(by show (0:Int) < 9; decide),_,_,rfl,rfl,?_⟩⟩
  obtain ⟨z,hz⟩:=Int.eq_ofNat_of_zero_le (show 0≤1 + c6 % 9 by omega)
  have hz9:1≤z∧z≤9:=by omega
  show gName 2 (V.int (1 + c6 % 9)) _ _ _
  rw [hz]
  have sh:SqT K H0 sq [V.int sd.1,.int sd.2]:=SqT.of ts
  refine ⟨_,rfl,_,_,rfl,rfl,?_⟩
  obtain ⟨m,hm'⟩:∃ m:Int,(1000000000:Int) - (z:Int)=m:=⟨_,rfl⟩
  have hmz:m + (z:Int)=1000000000:=by omega
  show gName 3 (V.int ((1000000000:Int) - (z:Int))) _ _ _
  rw [hm']
  have cs:=cmul_side hsd
  refine ⟨_,rfl,sq,_,_,_,rfl,rfl,SqT.of ts,rfl,_,rfl,_,_,rfl,rfl,(cs _).1,?_⟩
  refine ⟨_,rfl,sq,_,_,_,rfl,rfl,SqT.of ts,rfl,_,rfl,_,_,rfl,rfl,(cs _).2,szr rfl,fun bq n0=>?_⟩
  have V0:=same_upd (o:=HO.tup [V.str "by",.int (sd.1 * m),.int (sd.2 * m)]) n0
  have ts0:two (upd H0 bq (HO.tup [V.str "by",.int (sd.1 * m),.int (sd.2 * m)])) sq sd:=V0 _ _ ts
  refine ⟨_,rfl,sq,_,_,_,rfl,rfl,SqT.of ts0,rfl,_,_,rfl,rfl,(cs _).1,?_⟩
  refine ⟨_,rfl,sq,_,_,_,rfl,rfl,SqT.of ts0,rfl,_,_,rfl,rfl,(cs _).2,szr rfl,fun lq n1=>?_⟩
  have V1:=same_upd (o:=HO.tup [V.int (sd.1 * 1000000000),.int (sd.2 * 1000000000)]) n1
  have ts1:two (upd (upd H0 bq (HO.tup [V.str "by",.int (sd.1 * m),.int (sd.2 * m)])) lq (HO.tup [V.int (sd.1 * 1000000000),.int (sd.2 * 1000000000)])) sq sd:=V1 _ _ ts0
  refine ⟨_,rfl,sq,_,_,_,rfl,rfl,SqT.of ts1,rfl,_,rfl,_,_,rfl,rfl,(cs _).1,?_⟩
  refine ⟨_,rfl,sq,_,_,_,rfl,rfl,SqT.of ts1,rfl,_,rfl,_,_,rfl,rfl,(cs _).2,szr rfl,fun pq n2=>?_⟩
  have V2:=same_upd (o:=HO.tup [V.int (sd.1 * m),.int (sd.2 * m)]) n2
  have Sa:Same H0 (upd (upd (upd H0 bq (HO.tup [V.str "by",.int (sd.1 * m),.int (sd.2 * m)])) lq (HO.tup [V.int (sd.1 * 1000000000),.int (sd.2 * 1000000000)])) pq (HO.tup [V.int (sd.1 * m),.int (sd.2 * m)])):=V0.trans (V1.trans V2)
  have eb:(upd (upd (upd H0 bq (HO.tup [V.str "by",.int (sd.1 * m),.int (sd.2 * m)])) lq (HO.tup [V.int (sd.1 * 1000000000),.int (sd.2 * 1000000000)])) pq (HO.tup [V.int (sd.1 * m),.int (sd.2 * m)])) bq=some (.tup [.str "by",.int (sd.1 * m),.int (sd.2 * m)]):=(V1.trans V2) _ _ upd_same
  have tl:two (upd (upd (upd H0 bq (HO.tup [V.str "by",.int (sd.1 * m),.int (sd.2 * m)])) lq (HO.tup [V.int (sd.1 * 1000000000),.int (sd.2 * 1000000000)])) pq (HO.tup [V.int (sd.1 * m),.int (sd.2 * m)])) lq (sd.1 * 1000000000,sd.2 * 1000000000):=V2 _ _ upd_same
  have tp:two (upd (upd (upd H0 bq (HO.tup [V.str "by",.int (sd.1 * m),.int (sd.2 * m)])) lq (HO.tup [V.int (sd.1 * 1000000000),.int (sd.2 * 1000000000)])) pq (HO.tup [V.int (sd.1 * m),.int (sd.2 * m)])) pq (sd.1 * m,sd.2 * m):=upd_same
  show gName 6 (V.ref pq) _ (upd (upd (upd H0 bq (HO.tup [V.str "by",.int (sd.1 * m),.int (sd.2 * m)])) lq (HO.tup [V.int (sd.1 * 1000000000),.int (sd.2 * 1000000000)])) pq (HO.tup [V.int (sd.1 * m),.int (sd.2 * m)])) _
  revert Sa eb tl tp
  generalize (upd (upd (upd H0 bq (HO.tup [V.str "by",.int (sd.1 * m),.int (sd.2 * m)])) lq (HO.tup [V.int (sd.1 * 1000000000),.int (sd.2 * 1000000000)])) pq (HO.tup [V.int (sd.1 * m),.int (sd.2 * m)]))=Ha
  intro Sa eb tl tp
  have tsa:two Ha sq sd:=Sa _ _ ts
  refine ⟨_,rfl,_,rfl,pq,lq,[sd.1 * m,sd.2 * m],[sd.1 * 1000000000,sd.2 * 1000000000],rfl,SqT.of tp,SqT.of tl,?_⟩
  refine ⟨_,rfl,_,rfl,pq,lq,[sd.1 * m,sd.2 * m],[sd.1 * 1000000000,sd.2 * 1000000000],rfl,SqT.of tp,SqT.of tl,?_⟩
  refine ⟨szr rfl,fun t1 n3=>⟨szr rfl,fun t2 n4=>⟨szr rfl,fun l1 n5=>?_⟩⟩⟩
  obtain ⟨m1,m2⟩:=min_max tp tl
  have X1:=same_upd (o:=HO.tup [(if hLt (sd.1 * 1000000000,sd.2 * 1000000000) (sd.1 * m,sd.2 * m)=true then V.ref lq else .ref pq),(if hLt (sd.1 * m,sd.2 * m) (sd.1 * 1000000000,sd.2 * 1000000000)=true then V.ref lq else .ref pq)]) n3
  have X2:=same_upd (o:=HO.tup [V.ref t1,.str "black"]) n4
  have X3:=same_upd (o:=HO.lst [V.ref t2]) n5
  have Y2:=X2.trans X3
  have Sb:Same Ha (upd (upd (upd Ha t1 (HO.tup [(if hLt (sd.1 * 1000000000,sd.2 * 1000000000) (sd.1 * m,sd.2 * m)=true then V.ref lq else .ref pq),(if hLt (sd.1 * m,sd.2 * m) (sd.1 * 1000000000,sd.2 * 1000000000)=true then V.ref lq else .ref pq)])) t2 (HO.tup [V.ref t1,.str "black"])) l1 (HO.lst [V.ref t2])):=X1.trans Y2
  have el1:(upd (upd (upd Ha t1 (HO.tup [(if hLt (sd.1 * 1000000000,sd.2 * 1000000000) (sd.1 * m,sd.2 * m)=true then V.ref lq else .ref pq),(if hLt (sd.1 * m,sd.2 * m) (sd.1 * 1000000000,sd.2 * 1000000000)=true then V.ref lq else .ref pq)])) t2 (HO.tup [V.ref t1,.str "black"])) l1 (HO.lst [V.ref t2])) l1=some (.lst [V.ref t2]):=upd_same
  have dl1:DtsIs (upd (upd (upd Ha t1 (HO.tup [(if hLt (sd.1 * 1000000000,sd.2 * 1000000000) (sd.1 * m,sd.2 * m)=true then V.ref lq else .ref pq),(if hLt (sd.1 * m,sd.2 * m) (sd.1 * 1000000000,sd.2 * 1000000000)=true then V.ref lq else .ref pq)])) t2 (HO.tup [V.ref t1,.str "black"])) l1 (HO.lst [V.ref t2])) [V.ref t2] ([mkL (sd.1 * m,sd.2 * m) (sd.1 * 1000000000,sd.2 * 1000000000) "black"].map pD):=.cons (.tup (X3 _ _ upd_same) (.cons (.tup (Y2 _ _ upd_same) (.cons (m1.same Sb) (.cons (m2.same Sb) .nil))) (.cons (.str _) .nil))) .nil
  show gName 7 (V.ref l1) _ (upd (upd (upd Ha t1 (HO.tup [(if hLt (sd.1 * 1000000000,sd.2 * 1000000000) (sd.1 * m,sd.2 * m)=true then V.ref lq else .ref pq),(if hLt (sd.1 * m,sd.2 * m) (sd.1 * 1000000000,sd.2 * 1000000000)=true then V.ref lq else .ref pq)])) t2 (HO.tup [V.ref t1,.str "black"])) l1 (HO.lst [V.ref t2])) _
  revert Sb el1 dl1
  generalize (upd (upd (upd Ha t1 (HO.tup [(if hLt (sd.1 * 1000000000,sd.2 * 1000000000) (sd.1 * m,sd.2 * m)=true then V.ref lq else .ref pq),(if hLt (sd.1 * m,sd.2 * m) (sd.1 * 1000000000,sd.2 * 1000000000)=true then V.ref lq else .ref pq)])) t2 (HO.tup [V.ref t1,.str "black"])) l1 (HO.lst [V.ref t2]))=Hb
  intro Sb el1 dl1
  have tsb:two Hb sq sd:=Sb _ _ tsa
  have ebb:=Sb _ _ eb
  refine ⟨_,rfl,_,rfl,sq,_,_,_,rfl,rfl,SqT.of tsb,rfl,_,rfl,_,_,rfl,rfl,(cs _).1,_,rfl,sq,_,_,_,rfl,rfl,SqT.of tsb,rfl,_,rfl,_,_,rfl,rfl,(cs _).2,szr rfl,fun t3 o1=>⟨szr rfl,fun l2 o2=>?_⟩⟩
  have Z1:=same_upd (o:=HO.tup [V.str "line",.int (sd.1 * (z:Int)),.int (sd.2 * (z:Int))]) o1
  have Z2:=same_upd (o:=HO.lst [V.ref bq,.ref t3]) o2
  obtain ⟨Se,hrun,hps⟩:=edge_line hsd (m:=m) (z:=(z:Int)) (by omega) (by omega) (by omega)
  rw [hmz] at hps
  have hg0:∀ (x:Sk) (v:List Sk),x.gd 8→gds v 8→gds (x :: v) 8:=fun x v h1 h2=>by simp only [gds]; exact ⟨h1,h2⟩
  refine ⟨l2,_,[.by_ (sd.1 * m) (sd.2 * m),.line (sd.1 * (z:Int)) (sd.2 * (z:Int))],rfl,upd_same,.cons (.by_ ((Z1.trans Z2) _ _ ebb)) (sks_one (.line (Z2 _ _ upd_same))),⟨8,rfl,by simp only [gds,Sk.gd]; exact ⟨True.intro,True.intro,True.intro⟩⟩,outs_pic hrun (by rw [hps]; exact black_no (fun a ha=>by rw [List.mem_singleton.mp ha]; rfl)) (by rw [hps]; exact small_no (by show 1≤120; decide)) fun c qs Hc o=>?_⟩
  have eq:=pic_eq o (ds:=[mkL (sd.1 * m,sd.2 * m) (sd.1 * 1000000000,sd.2 * 1000000000) "black"]) (List.pairwise_singleton _ _) (fun a=>by rw [hps]) (rise_one _)
  subst eq
  obtain ⟨zs,ez,dz⟩:=o.pic
  have Sc:=(Z1.trans Z2).trans o.same
  refine ⟨_,rfl,.inr ⟨c,l1,zs,_,_,_,rfl,rfl,SqL.of ez,SqL.of (Sc _ _ el1),dz,dl1.same Sc,fun d hd=>Nat.le_trans (pics_dp _ d hd) (by decide),_,rfl,ifB_neg (by rw [Dt.beqs_self]; rfl) ?_⟩⟩
  have tsc:two Hc sq sd:=Sc _ _ tsb
  have ebc:=Sc _ _ ebb
  have S0c:=S0.trans (Sa.trans (Sb.trans Sc))
  clear o dz ez
  refine ⟨_,rfl,sq,_,_,_,rfl,rfl,SqT.of tsc,rfl,_,rfl,_,_,rfl,rfl,_,_,rfl,rfl,(cs _).1,_,rfl,sq,_,_,_,rfl,rfl,SqT.of tsc,rfl,_,rfl,_,_,rfl,rfl,_,_,rfl,rfl,(cs _).2,szr rfl,fun yq r1=>?_⟩
  have R1:=same_upd (o:=HO.tup [V.int (sd.1 * ((z:Int) + 1)),.int (sd.2 * ((z:Int) + 1))]) r1
  have ty:two (upd Hc yq (HO.tup [V.int (sd.1 * ((z:Int) + 1)),.int (sd.2 * ((z:Int) + 1))])) yq (sd.1 * ((z:Int) + 1),sd.2 * ((z:Int) + 1)):=upd_same
  have tsd:two (upd Hc yq (HO.tup [V.int (sd.1 * ((z:Int) + 1)),.int (sd.2 * ((z:Int) + 1))])) sq sd:=R1 _ _ tsc
  have ebd:=R1 _ _ ebc
  have S0d:=S0c.trans R1
  show gName 8 (V.ref yq) _ (upd Hc yq (HO.tup [V.int (sd.1 * ((z:Int) + 1)),.int (sd.2 * ((z:Int) + 1))])) _
  revert ty tsd ebd S0d
  generalize (upd Hc yq (HO.tup [V.int (sd.1 * ((z:Int) + 1)),.int (sd.2 * ((z:Int) + 1))]))=Hd0
  intro ty tsd ebd S0d
  refine ⟨_,rfl,szr rfl,fun t4 r2=>?_⟩
  have R2:=same_upd (o:=HO.tup [V.str "by"]) r2
  refine ⟨_,rfl,t4,yq,_,_,rfl,rfl,SqT.of upd_same,SqT.of (R2 _ _ ty),by simp,szr rfl,fun h=>(by cases h),fun _ t5 r3=>?_⟩
  have R3:=same_upd (o:=HO.tup ([V.str "by"] ++ [V.int (sd.1 * ((z:Int) + 1)),.int (sd.2 * ((z:Int) + 1))])) r3
  refine ⟨szr rfl,fun l3 r4=>?_⟩
  have R4:=same_upd (o:=HO.lst [V.ref bq,.ref t5]) r4
  have Sx:=R2.trans (R3.trans R4)
  refine ⟨l3,_,[.by_ (sd.1 * m) (sd.2 * m),.by_ (sd.1 * ((z:Int) + 1)) (sd.2 * ((z:Int) + 1))],rfl,upd_same,.cons (.by_ (Sx _ _ ebd)) (sks_one (.by_ (R4 _ _ upd_same))),⟨8,rfl,by simp only [gds,Sk.gd]; exact ⟨True.intro,True.intro,True.intro⟩⟩,outs_hole (edge_beyond hsd (by omega) (by omega) (by omega) _) fun He Se'=>?_⟩
  refine ⟨rfl,_,rfl,ifB_neg (by simp) ?_⟩
  have Sy:=Sx.trans Se'
  have tye:two He yq _:=Sy _ _ ty
  have ebe:=Sy _ _ ebd
  refine ⟨_,rfl,szr rfl,fun t6 r5=>?_⟩
  have R5:=same_upd (o:=HO.tup [V.str "by"]) r5
  refine ⟨_,rfl,t6,yq,_,_,rfl,rfl,SqT.of upd_same,SqT.of (R5 _ _ tye),by simp,szr rfl,fun h=>(by cases h),fun _ t7 r6=>?_⟩
  have R6:=same_upd (o:=HO.tup ([V.str "by"] ++ [V.int (sd.1 * ((z:Int) + 1)),.int (sd.2 * ((z:Int) + 1))])) r6
  refine ⟨szr rfl,fun t8 r7=>⟨szr rfl,fun l4 r8=>?_⟩⟩
  have R7:=same_upd (o:=HO.tup [V.str "by",.int 0,.int 0]) r7
  have R8:=same_upd (o:=HO.lst [V.ref bq,.ref t7,.ref t8]) r8
  have Sz:=R5.trans (R6.trans (R7.trans R8))
  refine ⟨l4,_,[.by_ (sd.1 * m) (sd.2 * m),.by_ (sd.1 * ((z:Int) + 1)) (sd.2 * ((z:Int) + 1)),.by_ 0 0],rfl,upd_same,.cons (.by_ (Sz _ _ ebe)) (.cons (.by_ ((R7.trans R8) _ _ upd_same)) (sks_one (.by_ (R8 _ _ upd_same)))),⟨8,rfl,by simp only [gds,Sk.gd]; exact ⟨True.intro,True.intro,True.intro,True.intro⟩⟩,outs_hole (edge_beyond hsd (by omega) (by omega) (by omega) _) fun Hf Sf'=>?_⟩
  refine ⟨rfl,_,rfl,ifB_neg (by simp) ?_⟩
  have Sw:=Sy.trans (Sz.trans Sf')
  have tsf:two Hf sq sd:=Sw _ _ tsd
  have ebf:=Sw _ _ ebd
  have S0f:=S0d.trans Sw
  refine ⟨_,rfl,sq,_,_,_,rfl,rfl,SqT.of tsf,rfl,_,rfl,sq,_,_,_,rfl,rfl,SqT.of tsf,rfl,szr rfl,fun t9 u1=>?_⟩
  have G1:=same_upd (o:=HO.tup [V.str "line",.int sd.1,.int sd.2]) u1
  refine ⟨_,rfl,szr rfl,fun l5 u2=>?_⟩
  have G2:=same_upd (o:=HO.lst [V.ref bq]) u2
  refine ⟨_,rfl,szr rfl,fun l6 u3=>?_⟩
  have G3:=same_upd (o:=HO.lst [V.ref t9]) u3
  refine ⟨_,rfl,_,_,rfl,rfl,l6,((z + 1:Nat):Int),[V.ref t9],rfl,rfl,upd_same,by omega,by omega,by rw [Int.toNat_natCast,sizeLine_eq]; show 1 * (z + 1)≤_; omega,fun l7 u4=>?_⟩
  rw [Int.toNat_natCast]
  have G4:=same_upd (o:=HO.lst (List.replicate (z + 1) [V.ref t9]).flatten) u4
  refine ⟨l5,l7,_,_,rfl,rfl,(G3.trans G4) _ _ upd_same,upd_same,by rw [len_rep,sizeLine_eq]; show 1 + (z + 1) * 1≤_; omega,fun l8 u5=>?_⟩
  have G5:=same_upd (o:=HO.lst ([V.ref bq] ++ (List.replicate (z + 1) [V.ref t9]).flatten)) u5
  have J2:=G2.trans (G3.trans (G4.trans G5))
  refine ⟨l8,_,_,rfl,upd_same,sks_app (sks_one (.by_ ((G1.trans J2) _ _ ebf))) (sks_rep (.line (J2 _ _ upd_same)) (z + 1)),⟨8,rfl,gds_app (by simp only [gds,Sk.gd]; exact ⟨True.intro,True.intro⟩) (gds_rep (by simp only [Sk.gd]) _)⟩,outs_hole (edge_last hsd (by omega) hz9.2 hmz) fun Hg Sg'=>?_⟩
  refine ⟨rfl,_,rfl,ifB_pos (by simp) ?_⟩
  have Sv:=(G1.trans J2).trans Sg'
  have ebg:=Sv _ _ ebf
  have e9:Hg t9=some (.tup [.str "line",.int sd.1,.int sd.2]):=Sg' _ _ (J2 _ _ upd_same)
  refine ⟨_,rfl,szr rfl,fun l9 u6=>?_⟩
  have G6:=same_upd (o:=HO.lst [V.ref bq]) u6
  refine ⟨_,rfl,szr rfl,fun l10 u7=>?_⟩
  have G7:=same_upd (o:=HO.lst [V.ref t9]) u7
  refine ⟨_,rfl,l10,(z:Int),[V.ref t9],rfl,rfl,upd_same,by omega,by omega,by rw [Int.toNat_natCast,sizeLine_eq]; show 1 * z≤_; omega,fun l11 u8=>?_⟩
  rw [Int.toNat_natCast]
  have G8:=same_upd (o:=HO.lst (List.replicate z [V.ref t9]).flatten) u8
  refine ⟨l9,l11,_,_,rfl,rfl,(G7.trans G8) _ _ upd_same,upd_same,by rw [len_rep,sizeLine_eq]; show 1 + z * 1≤_; omega,fun l12 u9=>?_⟩
  have G9:=same_upd (o:=HO.lst ([V.ref bq] ++ (List.replicate z [V.ref t9]).flatten)) u9
  have J6:=G6.trans (G7.trans (G8.trans G9))
  have hw:=edge_walk hsd (m:=m) (z:=z) (by omega) (by omega) (by omega) []
  rw [List.append_nil,run_nil] at hw
  refine ⟨l12,_,_,rfl,upd_same,sks_app (sks_one (.by_ (J6 _ _ ebg))) (sks_rep (.line (J6 _ _ e9)) z),⟨8,rfl,gds_app (by simp only [gds,Sk.gd]; exact ⟨True.intro,True.intro⟩) (gds_rep (by simp only [Sk.gd]) _)⟩,outs_pic hw (black_no fun a ha=>?_) (small_no ?_) fun c2 qs2 Hh o2=>?_⟩
  ·obtain ⟨i,_,rfl⟩:=List.mem_map.mp ha
   rfl
  ·show ((List.range' 0 z).map _).length≤120
   rw [List.length_map,List.length_range']
   omega
  obtain ⟨zs2,ez2,_⟩:=o2.pic
  refine ⟨.ref c2,.lst,.lst,rfl,.lst ez2,?_⟩
  exact zz Hh (S0f.trans (Sv.trans (J6.trans o2.same)))
end
section
variable {P:Program} {w:World} {K:PySem.W.Frag} {mg:Str→Option Value} {base:Heap} {C fI fB fC fD c3 c4:Addr}
def spLaw (K:PySem.W.Frag):Sp:=fun vs H Q _=>∃ (a:Addr) (ns:List Int),vs=[.ref a]∧SqL K H a (ns.map V.int)∧ns.length≤63∧∀ H',Q (.bl true) H'
theorem scLaw:FnScope ["_law_script","_law_strokes_here","_law_k"] ["_law_script"] (defScope sLaw):=⟨rfl,rfl,rfl,by decide +kernel,rfl,by decide +kernel,by decide +kernel⟩
theorem ok_law {f fC fT fM fL fU fE:Addr} {fd fdC fdT fdM fdL fdU fdE:FuncData} {k:Nat} (D:Df K mg "law" sLaw f fd) (B:Blt mg)
  (DC:Df K mg "_law_cell_at" sCell fC fdC) (bC:Binds K fdC ["_law_script","_law_k"] []) (GC:FnOk P w K mg base CX0 1 fC fdC ["_law_script","_law_k"] (spCell K))
  (DT:Df K mg "_law_told" sTold fT fdT) (bT:Binds K fdT ["_law_strokes_here"] []) (GT:FnOk P w K mg base CX0 k fT fdT ["_law_strokes_here"] (spTold 9))
  (DM:Df K mg "_law_many" sMany fM fdM) (bM:Binds K fdM ["_law_script"] []) (GM:FnOk P w K mg base CX0 k fM fdM ["_law_script"] (spMany K))
  (DL:Df K mg "_law_lines" sLines fL fdL) (bL:Binds K fdL ["_law_script"] []) (GL:FnOk P w K mg base CX0 k fL fdL ["_law_script"] (spMany K))
  (DU:Df K mg "_law_unlike" sUnlike fU fdU) (bU:Binds K fdU ["_law_script"] []) (GU:FnOk P w K mg base CX0 k fU fdU ["_law_script"] (spMany K))
  (DE:Df K mg "_law_edge" sEdge fE fdE) (bE:Binds K fdE ["_law_script"] []) (GE:FnOk P w K mg base CX0 k fE fdE ["_law_script"] (spMany K)) (h1:1≤k) :
  FnOk P w K mg base CX0 (k + 1) f fd ["_law_script"] (spLaw K):=by
 refine D.F.ok scLaw (fun vs H Q E h=>?_) (fun cdv A outer s H vs Q E hr h=>?_)
 ·obtain ⟨a,ns,rfl,_⟩:=h
  rfl
 ·obtain ⟨a,ns,rfl,hS,hlen,z⟩:=h
  have hr1:Room 1 _:=hr.mono h1
  refine ⟨_,(pss_cons (ps_set (i:=1) scLaw.nd rfl (Or.inl rfl) (pe_lst (pac (pe_tup (pac (pe_str) (pac (pe_int) (pac (pe_int) pa_nil)))) pa_nil)))
   (pss_cons (ps_for PassesOwn.never rfl (pi_range1 rfl B.range (pac (pe_int) pa_nil)) (pg_name (i:=2) scLaw.nd rfl (Or.inl rfl)) (pss_one (ps_set (i:=1) scLaw.nd rfl (Or.inl rfl) (pe_lst (pac (pe_tup (pac (pe_str) (pac (pe_op op_mod (pec GC hr1 rfl DC.m DC.F.kp bC .nil pass0 (pac (pv 0) (pac (pe_int) pa_nil))) pe_int) (pac (pv 1) pa_nil)))) pa_nil)))))
   (pss_cons (ps_if (PW.pt (pw_or (pt_not (pt_val (pe_callB call_isi (by rfl) B.isi boot_isinstance (pac (pec GT hr rfl DT.m DT.F.kp bT .nil pass0 (pac (pv 1) pa_nil)) (pac (pe_bltn (v:=.ty "list") (by rfl) B.list boot_list rfl) pa_nil))))) (pw_or1 (pt_cmpR op_ne (pe_callB call_len_seq (by rfl) B.len PySem.boot_len (pac (pec GT hr rfl DT.m DT.F.kp bT .nil pass0 (pac (pv 1) pa_nil)) pa_nil)) pe_int (nomark _))))) (pss_one (ps_ret pe_bl)) pss_nil)
   (pss_cons (ps_if (PW.pt (pw_or (pt_not (pt_val (pec GM hr rfl DM.m DM.F.kp bM .nil pass0 (pac (pv 0) pa_nil)))) (pw_or1 (pt_not (pt_val (pec GL hr rfl DL.m DL.F.kp bL .nil pass0 (pac (pv 0) pa_nil))))))) (pss_one (ps_ret pe_bl)) pss_nil)
   (pss_one (ps_ret (pe_and (pec GU hr rfl DU.m DU.F.kp bU .nil pass0 (pac (pv 0) pa_nil)) (pe_one (pec GE hr rfl DE.m DE.F.kp bE .nil pass0 (pac (pv 0) pa_nil)))))))))),?_⟩
  refine ⟨szr rfl,fun t0 m0=>⟨szr rfl,fun l0 m1=>?_⟩⟩
  have T0:=same_upd (o:=HO.tup [V.str "line",.int 1,.int 1]) m0
  have T1:=same_upd (o:=HO.lst [V.ref t0]) m1
  refine ⟨_,rfl,by decide,by decide,?_⟩
  refine for_range (fun i σ H1=>∃ (l:Addr) (xs:List V) (ks:List Nat) (v2:Option V),σ=[some (.ref a),some (.ref l),v2]∧Same H H1∧H1 l=some (.lst xs)∧SksIs H1 xs (nest ks)∧ks.length=i∧∀ k∈ks,k < 8) ⟨l0,_,[],_,rfl,T0.trans T1,upd_same,sks_one (.line (T1 _ _ upd_same)),rfl,fun _ h=>(nomatch h)⟩ ?_ ?_
  ·rintro i σ H1 hi ⟨l,xs,ks,v2,rfl,S1,el,sk,kl,k8⟩
   refine ⟨_,rfl,a,ns,7,rfl,S1.seq hS,fun c7=>⟨_,_,rfl,rfl,(by show (0:Int) < 8; decide),_,rfl,szr rfl,fun t n1=>⟨szr rfl,fun l1 n2=>?_⟩⟩⟩
   obtain ⟨n,hn⟩:=Int.eq_ofNat_of_zero_le (show 0≤c7 % 8 by omega)
   have U1:=same_upd (o:=HO.tup [V.str "turn",.int (c7 % 8),.ref l]) n1
   have U2:=same_upd (o:=HO.lst [V.ref t]) n2
   have U:=U1.trans U2
   have et:=U2 _ _ (upd_same (H:=H1) (a:=t) (o:=HO.tup [V.str "turn",.int (c7 % 8),.ref l]))
   rw [hn] at et
   refine ⟨l1,_,n :: ks,_,rfl,S1.trans U,upd_same,sks_one (.turn et (U _ _ el) (sk.same U)),by rw [List.length_cons,kl],fun k hk=>?_⟩
   rcases List.mem_cons.mp hk with rfl | hk
   ·omega
   ·exact k8 k hk
  ·rintro σ H1 ⟨l,xs,ks,v2,rfl,S1,el,sk,kl,k8⟩
   have kl:ks.length=8:=kl
   have hg:=nest_gd ks k8
   rw [kl] at hg
   obtain ⟨S',hrun,hlen'⟩:=nest_run ks S00 rfl (by decide) (by show 0 + ks.length + 1≤2000; omega) rfl
   obtain ⟨x,hx⟩:∃ x,S'.ps=[x]:=List.length_eq_one_iff.mp hlen'
   have n2:¬ twoC S'.ps:=by
    rw [hx]
    rintro ⟨a,ha,b,hb,_,e⟩
    rw [List.mem_singleton.mp ha,List.mem_singleton.mp hb] at e
    exact e rfl
   have nb:¬ Big S'.ps:=small_no (by omega)
   refine ⟨_,rfl,l,xs,_,rfl,el,sk,⟨8,rfl,hg⟩,outs_pic hrun n2 nb fun c qs H2 o=>?_⟩
   obtain ⟨zs,ez,_⟩:=o.pic
   refine ⟨.ref c,.lst,.lst,rfl,.lst ez,_,rfl,iteF ?_⟩
   refine ⟨_,rfl,l,xs,_,rfl,o.same _ _ el,sk.same o.same,⟨8,rfl,hg⟩,outs_pic hrun n2 nb fun c2 qs2 H3 o2=>?_⟩
   have eq:qs2=[x]:=pic_eq o2 (List.pairwise_singleton _ _) (fun a=>by rw [hx]) (rise_one _)
   subst eq
   obtain ⟨zs2,ez2,dz2⟩:=o2.pic
   have zl:zs2.length=1:=dz2.length
   refine ⟨c2,_,rfl,.inl (SqL.of ez2),rfl,_,rfl,ifB_neg (by rw [zl]; decide) ?_⟩
   have S3:=S1.trans (o.same.trans o2.same)
   refine ⟨_,rfl,a,ns,rfl,S3.seq hS,fun H4 S4=>⟨_,rfl,iteF ?_⟩⟩
   have S04:=S3.trans S4
   refine ⟨_,rfl,a,ns,rfl,S04.seq hS,fun H5 S5=>⟨_,rfl,iteF ?_⟩⟩
   have S05:=S04.trans S5
   refine ⟨_,rfl,a,ns,rfl,S05.seq hS,fun H6 S6=>⟨_,rfl,iteT ?_⟩⟩
   exact ⟨_,rfl,a,ns,rfl,(S05.trans S6).seq hS,fun H7 S7=>z H7⟩
end
section
variable {P:Program} {w:World} {K:PySem.W.Frag} {mg:Str→Option Value} {base:Heap} {C fI fB fC fD c3 c4:Addr}
theorem alls {fA fS fK fM fU fH:Addr} {fdA fdS fdB fdC fdD fdK fdM fdU fdH:FuncData} (T:Cl K mg C fI fB fC fD) (B:Blt mg)
  (bB:Binds K fdB ["self"] []) (GB:FnOk P w K mg base (CXE P w) 1 fB fdB ["self"] (spBegin C c3))
  (bC:Binds K fdC ["self","x","y"] []) (GC:FnOk P w K mg base (CXE P w) 4 fC fdC ["self","x","y"] (spCome C c4))
  (bD:Binds K fdD ["self","x","y"] []) (GD:FnOk P w K mg base (CXE P w) 5 fD fdD ["self","x","y"] (spDraw C c3 c4))
  (DA:Df K mg "do_all" sAll fA fdA) (bA:Binds K fdA ["pen","strokes"] []) (DS:Df K mg "do_stroke" sStroke fS fdS) (bS:Binds K fdS ["pen","stroke"] [])
  (DK:Df K mg "do_and_come_back" sBack fK fdK) (bK:Binds K fdK ["pen","strokes"] []) (DM:Df K mg "do_times" sTimes fM fdM) (bM:Binds K fdM ["pen","rounds","strokes"] [])
  (DU:Df K mg "do_turned" sDoTurn fU fdU) (bU:Binds K fdU ["pen","way","strokes"] [])
  (DH:Df K mg "behind" sBeh fH fdH) (bH:Binds K fdH ["first","second"] []) (GH:FnOk P w K mg base CX0 2 fH fdH ["first","second"] spBeh):∀ d:Nat,FnOk P w K mg base (CXE P w) (5 + 3 * d) fA fdA ["pen","strokes"] (spAll C c3 c4 d)
 | 0=>ok_all0
 | d + 1=>by
  have ih:=alls T B bB GB bC GC bD GD DA bA DS bS DK bK DM bM DU bU DH bH GH d
  have e1:1≤5 + 3 * d:=by omega
  have e2:2≤5 + 3 * d:=by omega
  have e5:5≤5 + 3 * d + 1:=by omega
  have e6:1≤5 + 3 * d + 1 + 1:=by omega
  have G1:=ok_stroke (k:=5 + 3 * d + 1) DS T bC GC bD GD DK bK (ok_back DK T DA bA ih) DM bM (ok_times DM T B bB GB DA bA ih e1) DU bU (ok_turned DU T DH bH GH DA bA ih e2) e5
  exact ok_all (k:=5 + 3 * d + 1 + 1) DA T bB GB DS bS G1 e6
end
end K25
def PySem.W.Fast.tw12600854033098255227:=0
def PySem.W.Fast.tw2268576805516987661:=0
def PySem.W.Fast.tw17067150727621683217:=0
def PySem.W.Fast.tw14262811399543474632:=0
def PySem.W.Fast.tw5340470125205694503:=0
def PySem.W.Fast.tw3586479290413975499:=0
def PySem.W.Fast.tw94894660653543808:=0
def PySem.W.Fast.tw8644751700546885633:=0
def PySem.W.Fast.tw772408370251698360:=0
def PySem.W.Fast.tw16843800359154339511:=0
def PySem.W.Fast.tw7367732132164233323:=0
def PySem.W.Fast.tw15254999594076168316:=0
def PySem.W.Fast.tw14554841524363589976:=0
def PySem.W.Fast.tw1948870663539307035:=0
def PySem.W.Fast.tw9941986533406371610:=0
def PySem.W.Fast.tw4354117512229596996:=0
def PySem.W.Fast.tw11324654560326462054:=0
def PySem.W.Fast.tw3883693563867418249:=0
def PySem.W.Fast.tw1653268433086626566:=0
def PySem.W.Fast.tw3088829905453894663:=0
def PySem.W.Fast.tw8398537331536853753:=0
def PySem.W.Fast.tw782028334606064502:=0
def PySem.W.Fast.tw1022172792769978732:=0
def PySem.W.Fast.tw15694487008306481616:=0
def PySem.W.Fast.tw10656483454969152149:=0
def PySem.W.Fast.tw11577209919027336904:=0
def PySem.W.Fast.tw7903613335081782950:=0
def PySem.W.Fast.tw3938163269318529573:=0
def PySem.W.Fast.tw2898922828836087153:=0
def PySem.W.Fast.tw4586679178473678890:=0
def PySem.W.Fast.tw3897074926040647955:=0
def PySem.W.Fast.tw9296486987232273062:=0
def PySem.W.Fast.tw13166842424239416799:=0
def PySem.W.Fast.tw9860848901629500542:=0
def PySem.W.Fast.tw16992098585122070470:=0
def PySem.W.Fast.tw521269690470240530:=0
def PySem.W.Fast.tw11081984571728535749:=0
def PySem.W.Fast.tw16225959005254994523:=0
def PySem.W.Fast.tw13111701115085282391:=0
def PySem.W.Fast.tw3794730226949960649:=0
def PySem.W.Fast.tw14450618290134122886:=0
def PySem.W.Fast.tw8360304888173589566:=0
def PySem.W.Fast.tw17188242540120470694:=0
def PySem.W.Fast.tw6035042748602062287:=0
def PySem.W.Fast.tw17173010396078190560:=0
def PySem.W.Fast.tw5614185283350293359:=0
def PySem.W.Fast.tw1870040315694473856:=0
def PySem.W.Fast.tw6329588278437141930:=0
def PySem.W.Fast.tw9418486965775411468:=0
def PySem.W.Fast.tw2964468755755862864:=0
def PySem.W.Fast.tw10571492126274966136:=0
def PySem.W.Fast.tw8667053309619895689:=0
def PySem.W.Fast.tw15340183266161092326:=0
def PySem.W.Fast.tw10319537669123593958:=0
def PySem.W.Fast.tw8753691717426825854:=0
def PySem.W.Fast.tw12835078682155155814:=0
def PySem.W.Fast.tw5927199214170702617:=0
def PySem.W.Fast.tw8566359338132978989:=0
namespace K25
open PySem PySem.Spec PyProof.Rows L2 BF
theorem ln1 {us:List Value} (h:us.length=1):∃ a0,us=[a0]:=match us,h with | [a0],_=>⟨a0,rfl⟩
theorem ln2 {us:List Value} (h:us.length=2):∃ a0 a1,us=[a0,a1]:=match us,h with | [a0,a1],_=>⟨a0,a1,rfl⟩
theorem ln3 {us:List Value} (h:us.length=3):∃ a0 a1 a2,us=[a0,a1,a2]:=match us,h with | [a0,a1,a2],_=>⟨a0,a1,a2,rfl⟩
theorem all_mk {l:PySem.W.OpenLaw} {w:World} {K:PySem.W.Frag} {h:Heap} {mg:Str→Option Value} {fa fW fP fI fH fO fV fM fT fBh fS fBk fTi fTn fSt fA fDr fCe fTo fSk fMn fLn fUn fEd fZ:Addr} (X:K.In h) (G:h.Ns mainGlobals mg) (hfa:mg "law"=some (.ref fa))
  {odW anW odP anP odI anI odH anH odO anO odV anV odM anM odT anT odBh anBh odS anS odBk anBk odTi anTi odTn anTn odSt anSt odA anA odDr anDr odCe anCe odTo anTo odSk anSk odMn anMn odLn anLn odUn anUn odEd anEd odZ anZ:Option Addr} {slW slP slI slH slO slV slM slT slBh slS slBk slTi slTn slSt slA slDr slCe slTo slSk slMn slLn slUn slEd slZ:Array (Option Value)} {ocW kVW dcW pmW cdW ctW ocP kVP dcP pmP cdP ctP ocI kVI dcI pmI cdI ctI ocH kVH dcH pmH cdH ctH ocO kVO dcO pmO cdO ctO ocV kVV dcV pmV cdV ctV ocM kVM dcM pmM cdM ctM ocT kVT dcT pmT cdT ctT ocBh kVBh dcBh pmBh cdBh ctBh ocS kVS dcS pmS cdS ctS ocBk kVBk dcBk pmBk cdBk ctBk ocTi kVTi dcTi pmTi cdTi ctTi ocTn kVTn dcTn pmTn cdTn ctTn ocSt kVSt dcSt pmSt cdSt ctSt ocA kVA dcA pmA cdA ctA ocDr kVDr dcDr pmDr cdDr ctDr ocCe kVCe dcCe pmCe cdCe ctCe ocTo kVTo dcTo pmTo cdTo ctTo ocSk kVSk dcSk pmSk cdSk ctSk ocMn kVMn dcMn pmMn cdMn ctMn ocLn kVLn dcLn pmLn cdLn ctLn ocUn kVUn dcUn pmUn cdUn ctUn ocEd kVEd dcEd pmEd cdEd ctEd ocZ kVZ dcZ pmZ cdZ ctZ:Value} {t_far t_most t_qua t_mstr t_mdra:Tok}
  (aW:PySem.W.nsIn K mainGlobals "is_whole"=some (some (.ref fW))) (lW:K.lookup fW=some ⟨ocW,odW,.func (PySem.W.fnOf "is_whole" "is_whole" (defArgs sWhole) (defBody sWhole) (defScope sWhole) .none kVW dcW pmW anW cdW ctW),slW⟩) (cW:PySem.W.codeIn K cdW "is_whole"=true) (kW:PySem.W.keepIn K (.ref fW)=true)
  (aP:PySem.W.nsIn K mainGlobals "is_pair"=some (some (.ref fP))) (lP:K.lookup fP=some ⟨ocP,odP,.func (PySem.W.fnOf "is_pair" "is_pair" (defArgs sPair) (defBody sPair) (defScope sPair) .none kVP dcP pmP anP cdP ctP),slP⟩) (cP:PySem.W.codeIn K cdP "is_pair"=true) (kP:PySem.W.keepIn K (.ref fP)=true)
  (aI:PySem.W.nsIn K mainGlobals "is_within"=some (some (.ref fI))) (lI:K.lookup fI=some ⟨ocI,odI,.func (PySem.W.fnOf "is_within" "is_within" (defArgs sWithin) (defBody sWithin) (defScope sWithin) .none kVI dcI pmI anI cdI ctI),slI⟩) (cI:PySem.W.codeIn K cdI "is_within"=true) (kI:PySem.W.keepIn K (.ref fI)=true)
  (aH:PySem.W.nsIn K mainGlobals "is_hole"=some (some (.ref fH))) (lH:K.lookup fH=some ⟨ocH,odH,.func (PySem.W.fnOf "is_hole" "is_hole" (defArgs sHole) (defBody sHole) (defScope sHole) .none kVH dcH pmH anH cdH ctH),slH⟩) (cH:PySem.W.codeIn K cdH "is_hole"=true) (kH:PySem.W.keepIn K (.ref fH)=true)
  (aO:PySem.W.nsIn K mainGlobals "ordered"=some (some (.ref fO))) (lO:K.lookup fO=some ⟨ocO,odO,.func (PySem.W.fnOf "ordered" "ordered" (defArgs sOrd) (defBody sOrd) (defScope sOrd) .none kVO dcO pmO anO cdO ctO),slO⟩) (cO:PySem.W.codeIn K cdO "ordered"=true) (kO:PySem.W.keepIn K (.ref fO)=true)
  (aV:PySem.W.nsIn K mainGlobals "picture"=some (some (.ref fV))) (lV:K.lookup fV=some ⟨ocV,odV,.func (PySem.W.fnOf "picture" "picture" (defArgs sPict) (defBody sPict) (defScope sPict) .none kVV dcV pmV anV cdV ctV),slV⟩) (cV:PySem.W.codeIn K cdV "picture"=true) (kV:PySem.W.keepIn K (.ref fV)=true)
  (aM:PySem.W.nsIn K mainGlobals "is_mirroring"=some (some (.ref fM))) (lM:K.lookup fM=some ⟨ocM,odM,.func (PySem.W.fnOf "is_mirroring" "is_mirroring" (defArgs sMir) (defBody sMir) (defScope sMir) .none kVM dcM pmM anM cdM ctM),slM⟩) (cM:PySem.W.codeIn K cdM "is_mirroring"=true) (kM:PySem.W.keepIn K (.ref fM)=true)
  (aT:PySem.W.nsIn K mainGlobals "turned_hole"=some (some (.ref fT))) (lT:K.lookup fT=some ⟨ocT,odT,.func (PySem.W.fnOf "turned_hole" "turned_hole" (defArgs sTurn) (defBody sTurn) (defScope sTurn) .none kVT dcT pmT anT cdT ctT),slT⟩) (cT:PySem.W.codeIn K cdT "turned_hole"=true) (kT:PySem.W.keepIn K (.ref fT)=true)
  (aBh:PySem.W.nsIn K mainGlobals "behind"=some (some (.ref fBh))) (lBh:K.lookup fBh=some ⟨ocBh,odBh,.func (PySem.W.fnOf "behind" "behind" (defArgs sBeh) (defBody sBeh) (defScope sBeh) .none kVBh dcBh pmBh anBh cdBh ctBh),slBh⟩) (cBh:PySem.W.codeIn K cdBh "behind"=true) (kBh:PySem.W.keepIn K (.ref fBh)=true)
  (aS:PySem.W.nsIn K mainGlobals "shifted_hole"=some (some (.ref fS))) (lS:K.lookup fS=some ⟨ocS,odS,.func (PySem.W.fnOf "shifted_hole" "shifted_hole" (defArgs sShHole) (defBody sShHole) (defScope sShHole) .none kVS dcS pmS anS cdS ctS),slS⟩) (cS:PySem.W.codeIn K cdS "shifted_hole"=true) (kS:PySem.W.keepIn K (.ref fS)=true)
  (aBk:PySem.W.nsIn K mainGlobals "do_and_come_back"=some (some (.ref fBk))) (lBk:K.lookup fBk=some ⟨ocBk,odBk,.func (PySem.W.fnOf "do_and_come_back" "do_and_come_back" (defArgs sBack) (defBody sBack) (defScope sBack) .none kVBk dcBk pmBk anBk cdBk ctBk),slBk⟩) (cBk:PySem.W.codeIn K cdBk "do_and_come_back"=true) (kBk:PySem.W.keepIn K (.ref fBk)=true)
  (aTi:PySem.W.nsIn K mainGlobals "do_times"=some (some (.ref fTi))) (lTi:K.lookup fTi=some ⟨ocTi,odTi,.func (PySem.W.fnOf "do_times" "do_times" (defArgs sTimes) (defBody sTimes) (defScope sTimes) .none kVTi dcTi pmTi anTi cdTi ctTi),slTi⟩) (cTi:PySem.W.codeIn K cdTi "do_times"=true) (kTi:PySem.W.keepIn K (.ref fTi)=true)
  (aTn:PySem.W.nsIn K mainGlobals "do_turned"=some (some (.ref fTn))) (lTn:K.lookup fTn=some ⟨ocTn,odTn,.func (PySem.W.fnOf "do_turned" "do_turned" (defArgs sDoTurn) (defBody sDoTurn) (defScope sDoTurn) .none kVTn dcTn pmTn anTn cdTn ctTn),slTn⟩) (cTn:PySem.W.codeIn K cdTn "do_turned"=true) (kTn:PySem.W.keepIn K (.ref fTn)=true)
  (aSt:PySem.W.nsIn K mainGlobals "do_stroke"=some (some (.ref fSt))) (lSt:K.lookup fSt=some ⟨ocSt,odSt,.func (PySem.W.fnOf "do_stroke" "do_stroke" (defArgs sStroke) (defBody sStroke) (defScope sStroke) .none kVSt dcSt pmSt anSt cdSt ctSt),slSt⟩) (cSt:PySem.W.codeIn K cdSt "do_stroke"=true) (kSt:PySem.W.keepIn K (.ref fSt)=true)
  (aA:PySem.W.nsIn K mainGlobals "do_all"=some (some (.ref fA))) (lA:K.lookup fA=some ⟨ocA,odA,.func (PySem.W.fnOf "do_all" "do_all" (defArgs sAll) (defBody sAll) (defScope sAll) .none kVA dcA pmA anA cdA ctA),slA⟩) (cA:PySem.W.codeIn K cdA "do_all"=true) (kA:PySem.W.keepIn K (.ref fA)=true)
  (aDr:PySem.W.nsIn K mainGlobals "drawn"=some (some (.ref fDr))) (lDr:K.lookup fDr=some ⟨ocDr,odDr,.func (PySem.W.fnOf "drawn" "drawn" (defArgs sDrawn) (defBody sDrawn) (defScope sDrawn) .none kVDr dcDr pmDr anDr cdDr ctDr),slDr⟩) (cDr:PySem.W.codeIn K cdDr "drawn"=true) (kDr:PySem.W.keepIn K (.ref fDr)=true)
  (aCe:PySem.W.nsIn K mainGlobals "_law_cell_at"=some (some (.ref fCe))) (lCe:K.lookup fCe=some ⟨ocCe,odCe,.func (PySem.W.fnOf "_law_cell_at" "_law_cell_at" (defArgs sCell) (defBody sCell) (defScope sCell) .none kVCe dcCe pmCe anCe cdCe ctCe),slCe⟩) (cCe:PySem.W.codeIn K cdCe "_law_cell_at"=true) (kCe:PySem.W.keepIn K (.ref fCe)=true)
  (aTo:PySem.W.nsIn K mainGlobals "_law_told"=some (some (.ref fTo))) (lTo:K.lookup fTo=some ⟨ocTo,odTo,.func (PySem.W.fnOf "_law_told" "_law_told" (defArgs sTold) (defBody sTold) (defScope sTold) .none kVTo dcTo pmTo anTo cdTo ctTo),slTo⟩) (cTo:PySem.W.codeIn K cdTo "_law_told"=true) (kTo:PySem.W.keepIn K (.ref fTo)=true)
  (aSk:PySem.W.nsIn K mainGlobals "_law_strokes"=some (some (.ref fSk))) (lSk:K.lookup fSk=some ⟨ocSk,odSk,.func (PySem.W.fnOf "_law_strokes" "_law_strokes" (defArgs sStrokes) (defBody sStrokes) (defScope sStrokes) .none kVSk dcSk pmSk anSk cdSk ctSk),slSk⟩) (cSk:PySem.W.codeIn K cdSk "_law_strokes"=true) (kSk:PySem.W.keepIn K (.ref fSk)=true)
  (aMn:PySem.W.nsIn K mainGlobals "_law_many"=some (some (.ref fMn))) (lMn:K.lookup fMn=some ⟨ocMn,odMn,.func (PySem.W.fnOf "_law_many" "_law_many" (defArgs sMany) (defBody sMany) (defScope sMany) .none kVMn dcMn pmMn anMn cdMn ctMn),slMn⟩) (cMn:PySem.W.codeIn K cdMn "_law_many"=true) (kMn:PySem.W.keepIn K (.ref fMn)=true)
  (aLn:PySem.W.nsIn K mainGlobals "_law_lines"=some (some (.ref fLn))) (lLn:K.lookup fLn=some ⟨ocLn,odLn,.func (PySem.W.fnOf "_law_lines" "_law_lines" (defArgs sLines) (defBody sLines) (defScope sLines) .none kVLn dcLn pmLn anLn cdLn ctLn),slLn⟩) (cLn:PySem.W.codeIn K cdLn "_law_lines"=true) (kLn:PySem.W.keepIn K (.ref fLn)=true)
  (aUn:PySem.W.nsIn K mainGlobals "_law_unlike"=some (some (.ref fUn))) (lUn:K.lookup fUn=some ⟨ocUn,odUn,.func (PySem.W.fnOf "_law_unlike" "_law_unlike" (defArgs sUnlike) (defBody sUnlike) (defScope sUnlike) .none kVUn dcUn pmUn anUn cdUn ctUn),slUn⟩) (cUn:PySem.W.codeIn K cdUn "_law_unlike"=true) (kUn:PySem.W.keepIn K (.ref fUn)=true)
  (aEd:PySem.W.nsIn K mainGlobals "_law_edge"=some (some (.ref fEd))) (lEd:K.lookup fEd=some ⟨ocEd,odEd,.func (PySem.W.fnOf "_law_edge" "_law_edge" (defArgs sEdge) (defBody sEdge) (defScope sEdge) .none kVEd dcEd pmEd anEd cdEd ctEd),slEd⟩) (cEd:PySem.W.codeIn K cdEd "_law_edge"=true) (kEd:PySem.W.keepIn K (.ref fEd)=true)
  (aZ:PySem.W.nsIn K mainGlobals "law"=some (some (.ref fZ))) (lZ:K.lookup fZ=some ⟨ocZ,odZ,.func (PySem.W.fnOf "law" "law" (defArgs sLaw) (defBody sLaw) (defScope sLaw) .none kVZ dcZ pmZ anZ cdZ ctZ),slZ⟩) (cZ:PySem.W.codeIn K cdZ "law"=true) (kZ:PySem.W.keepIn K (.ref fZ)=true)
  {Cc fmI fmB fmC fmD:Addr} {odmI anmI odmB anmB odmC anmC odmD anmD:Option Addr} {slmI slmB slmC slmD:Array (Option Value)} {ocmI kVmI dcmI pmmI cdmI ctmI ocmB kVmB dcmB pmmB cdmB ctmB ocmC kVmC dcmC pmmC cdmC ctmC ocmD kVmD dcmD pmmD cdmD ctmD:Value}
  (aCc:PySem.W.nsIn K mainGlobals "Pen"=some (some (.ref Cc)))
  (amI:PySem.W.findIn K (.ref Cc) "__init__"=some (some (.ref fmI))) (imI:PySem.W.isFn K (.ref fmI)=true) (lmI:K.lookup fmI=some ⟨ocmI,odmI,.func (PySem.W.fnOf "__init__" "Pen.__init__" (defArgs sInit) (defBody sInit) (defScope sInit) .none kVmI dcmI pmmI anmI cdmI ctmI),slmI⟩) (cmI:PySem.W.codeIn K cdmI "Pen.__init__"=true) (kmI:PySem.W.keepIn K (.ref fmI)=true)
  (amB:PySem.W.findIn K (.ref Cc) "begin_stroke"=some (some (.ref fmB))) (imB:PySem.W.isFn K (.ref fmB)=true) (lmB:K.lookup fmB=some ⟨ocmB,odmB,.func (PySem.W.fnOf "begin_stroke" "Pen.begin_stroke" (defArgs sBegin) (defBody sBegin) (defScope sBegin) .none kVmB dcmB pmmB anmB cdmB ctmB),slmB⟩) (cmB:PySem.W.codeIn K cdmB "Pen.begin_stroke"=true) (kmB:PySem.W.keepIn K (.ref fmB)=true)
  (amC:PySem.W.findIn K (.ref Cc) "come"=some (some (.ref fmC))) (imC:PySem.W.isFn K (.ref fmC)=true) (lmC:K.lookup fmC=some ⟨ocmC,odmC,.func (PySem.W.fnOf "come" "Pen.come" (defArgs sCome) (defBody sCome) (defScope sCome) .none kVmC dcmC pmmC anmC cdmC ctmC),slmC⟩) (cmC:PySem.W.codeIn K cdmC "Pen.come"=true) (kmC:PySem.W.keepIn K (.ref fmC)=true)
  (amD:PySem.W.findIn K (.ref Cc) "draw"=some (some (.ref fmD))) (imD:PySem.W.isFn K (.ref fmD)=true) (lmD:K.lookup fmD=some ⟨ocmD,odmD,.func (PySem.W.fnOf "draw" "Pen.draw" (defArgs sDraw) (defBody sDraw) (defScope sDraw) .none kVmD dcmD pmmD anmD cdmD ctmD),slmD⟩) (cmD:PySem.W.codeIn K cdmD "Pen.draw"=true) (kmD:PySem.W.keepIn K (.ref fmD)=true)
  (pg:PySem.W.plainGet K Cc Str.empty=true) (hd:PySem.W.hasDictIn K Cc=true) (po:PySem.W.plainOver K Cc=true) (sa:PySem.W.findIn K (.ref Cc) "__setattr__"=some (some (.builtin "object.__setattr__"))) (mk:PySem.W.makesIn K Cc=true) (kc:PySem.W.keepIn K (.ref Cc)=true) (nf0:PySem.W.findIn K (.ref Cc) "place"=some none) (nf1:PySem.W.findIn K (.ref Cc) "colour"=some none) (nf2:PySem.W.findIn K (.ref Cc) "turning"=some none) (nf3:PySem.W.findIn K (.ref Cc) "stroke_count"=some none) (nf4:PySem.W.findIn K (.ref Cc) "pairs"=some none)
  {c0 c1 c2 c3 c4 c5 c6 c7 c8:Addr} (n0:PySem.W.nsIn K mainGlobals "ClothError"=some (some (.ref c0))) (n1:PySem.W.nsIn K mainGlobals "NoLine"=some (some (.ref c1))) (n2:PySem.W.nsIn K mainGlobals "TwoColours"=some (some (.ref c2))) (n3:PySem.W.nsIn K mainGlobals "TooMany"=some (some (.ref c3))) (n4:PySem.W.nsIn K mainGlobals "NoHole"=some (some (.ref c4))) (n5:PySem.W.nsIn K mainGlobals "NoDrawing"=some (some (.ref c5))) (n6:PySem.W.nsIn K mainGlobals "NoThread"=some (some (.ref c6))) (n7:PySem.W.nsIn K mainGlobals "NoPlan"=some (some (.ref c7))) (n8:PySem.W.nsIn K mainGlobals "NoChart"=some (some (.ref c8))) (T2:Kit9 K c0 c1 c2 c3 c4 c5 c6 c7 c8 c2 2) (T3:Kit9 K c0 c1 c2 c3 c4 c5 c6 c7 c8 c3 3) (T4:Kit9 K c0 c1 c2 c3 c4 c5 c6 c7 c8 c4 4)
  (z_isi:PySem.W.nsIn K mainGlobals "isinstance"=some none)
  (z_int:PySem.W.nsIn K mainGlobals "int"=some none)
  (z_bool:PySem.W.nsIn K mainGlobals "bool"=some none)
  (z_tuple:PySem.W.nsIn K mainGlobals "tuple"=some none)
  (z_list:PySem.W.nsIn K mainGlobals "list"=some none)
  (z_str:PySem.W.nsIn K mainGlobals "str"=some none)
  (z_len:PySem.W.nsIn K mainGlobals "len"=some none)
  (z_range:PySem.W.nsIn K mainGlobals "range"=some none)
  (z_abs:PySem.W.nsIn K mainGlobals "abs"=some none)
  (z_min:PySem.W.nsIn K mainGlobals "min"=some none)
  (z_max:PySem.W.nsIn K mainGlobals "max"=some none)
  (z_sorted:PySem.W.nsIn K mainGlobals "sorted"=some none)
  (z_val:PySem.W.nsIn K mainGlobals "ValueError"=some none)
  (g_far:PySem.W.nsIn K mainGlobals "FARTHEST"=some (some (.int 1000000000 t_far)))
  (g_most:PySem.W.nsIn K mainGlobals "MOST_LINES"=some (some (.int 120 t_most)))
  (g_qua:PySem.W.nsIn K mainGlobals "QUARTERS"=some (some (.int 4 t_qua)))
  (g_mstr:PySem.W.nsIn K mainGlobals "MOST_STROKES"=some (some (.int 2000 t_mstr)))
  (g_mdra:PySem.W.nsIn K mainGlobals "MOST_DRAWN"=some (some (.int 400 t_mdra))) :
  ∃ fd:FuncData,(∀ (s:Shared) (v:Value),BindsTo s fd ⟨[v],[]⟩ [("_law_script",v)])∧∀ base:Heap,K.In base→base.Ns mainGlobals mg→FnOk l.prog w K mg base CX0 36 fa fd ["_law_script"] (spLaw K):=by
 have e:=hfa.symm.trans (PySem.W.mg_of X G aZ)
 cases e
 have DW:=df_mk (st:=sWhole) X G aW lW cW kW
 have DP:=df_mk (st:=sPair) X G aP lP cP kP
 have DI:=df_mk (st:=sWithin) X G aI lI cI kI
 have DH:=df_mk (st:=sHole) X G aH lH cH kH
 have DO:=df_mk (st:=sOrd) X G aO lO cO kO
 have DV:=df_mk (st:=sPict) X G aV lV cV kV
 have DM:=df_mk (st:=sMir) X G aM lM cM kM
 have DT:=df_mk (st:=sTurn) X G aT lT cT kT
 have DBh:=df_mk (st:=sBeh) X G aBh lBh cBh kBh
 have DS:=df_mk (st:=sShHole) X G aS lS cS kS
 have DBk:=df_mk (st:=sBack) X G aBk lBk cBk kBk
 have DTi:=df_mk (st:=sTimes) X G aTi lTi cTi kTi
 have DTn:=df_mk (st:=sDoTurn) X G aTn lTn cTn kTn
 have DSt:=df_mk (st:=sStroke) X G aSt lSt cSt kSt
 have DA:=df_mk (st:=sAll) X G aA lA cA kA
 have DDr:=df_mk (st:=sDrawn) X G aDr lDr cDr kDr
 have DCe:=df_mk (st:=sCell) X G aCe lCe cCe kCe
 have DTo:=df_mk (st:=sTold) X G aTo lTo cTo kTo
 have DSk:=df_mk (st:=sStrokes) X G aSk lSk cSk kSk
 have DMn:=df_mk (st:=sMany) X G aMn lMn cMn kMn
 have DLn:=df_mk (st:=sLines) X G aLn lLn cLn kLn
 have DUn:=df_mk (st:=sUnlike) X G aUn lUn cUn kUn
 have DEd:=df_mk (st:=sEdge) X G aEd lEd cEd kEd
 have DZ:=df_mk (st:=sLaw) X G aZ lZ cZ kZ
 have B:Blt mg:=⟨PySem.W.mg_none_of X G z_isi,PySem.W.mg_none_of X G z_int,PySem.W.mg_none_of X G z_bool,PySem.W.mg_none_of X G z_tuple,PySem.W.mg_none_of X G z_list,PySem.W.mg_none_of X G z_str,PySem.W.mg_none_of X G z_len,PySem.W.mg_none_of X G z_range,PySem.W.mg_none_of X G z_abs,PySem.W.mg_none_of X G z_min,PySem.W.mg_none_of X G z_max,PySem.W.mg_none_of X G z_sorted,PySem.W.mg_none_of X G z_val,⟨t_far,PySem.W.mg_of X G g_far⟩,⟨t_most,PySem.W.mg_of X G g_most⟩,⟨t_qua,PySem.W.mg_of X G g_qua⟩,⟨t_mstr,PySem.W.mg_of X G g_mstr⟩,⟨t_mdra,PySem.W.mg_of X G g_mdra⟩⟩
 have N:Nam9 mg c0 c1 c2 c3 c4 c5 c6 c7 c8:=⟨PySem.W.mg_of X G n0,PySem.W.mg_of X G n1,PySem.W.mg_of X G n2,PySem.W.mg_of X G n3,PySem.W.mg_of X G n4,PySem.W.mg_of X G n5,PySem.W.mg_of X G n6,PySem.W.mg_of X G n7,PySem.W.mg_of X G n8⟩
 have bW:=DW.F.binds (ps:=["thing"]) fun _ _ _ _ _ _ us hl=>by obtain ⟨_,rfl⟩:=ln1 hl; rfl
 have bP:=DP.F.binds (ps:=["thing"]) fun _ _ _ _ _ _ us hl=>by obtain ⟨_,rfl⟩:=ln1 hl; rfl
 have bI:=DI.F.binds (ps:=["thing"]) fun _ _ _ _ _ _ us hl=>by obtain ⟨_,rfl⟩:=ln1 hl; rfl
 have bH:=DH.F.binds (ps:=["thing"]) fun _ _ _ _ _ _ us hl=>by obtain ⟨_,rfl⟩:=ln1 hl; rfl
 have bO:=DO.F.binds (ps:=["one","other"]) fun _ _ _ _ _ _ us hl=>by obtain ⟨_,_,rfl⟩:=ln2 hl; rfl
 have bV:=DV.F.binds (ps:=["pairs"]) fun _ _ _ _ _ _ us hl=>by obtain ⟨_,rfl⟩:=ln1 hl; rfl
 have bM:=DM.F.binds (ps:=["way"]) fun _ _ _ _ _ _ us hl=>by obtain ⟨_,rfl⟩:=ln1 hl; rfl
 have bT:=DT.F.binds (ps:=["hole","way"]) fun _ _ _ _ _ _ us hl=>by obtain ⟨_,_,rfl⟩:=ln2 hl; rfl
 have bBh:=DBh.F.binds (ps:=["first","second"]) fun _ _ _ _ _ _ us hl=>by obtain ⟨_,_,rfl⟩:=ln2 hl; rfl
 have bS:=DS.F.binds (ps:=["hole","east","north"]) fun _ _ _ _ _ _ us hl=>by obtain ⟨_,_,_,rfl⟩:=ln3 hl; rfl
 have bBk:=DBk.F.binds (ps:=["pen","strokes"]) fun _ _ _ _ _ _ us hl=>by obtain ⟨_,_,rfl⟩:=ln2 hl; rfl
 have bTi:=DTi.F.binds (ps:=["pen","rounds","strokes"]) fun _ _ _ _ _ _ us hl=>by obtain ⟨_,_,_,rfl⟩:=ln3 hl; rfl
 have bTn:=DTn.F.binds (ps:=["pen","way","strokes"]) fun _ _ _ _ _ _ us hl=>by obtain ⟨_,_,_,rfl⟩:=ln3 hl; rfl
 have bSt:=DSt.F.binds (ps:=["pen","stroke"]) fun _ _ _ _ _ _ us hl=>by obtain ⟨_,_,rfl⟩:=ln2 hl; rfl
 have bA:=DA.F.binds (ps:=["pen","strokes"]) fun _ _ _ _ _ _ us hl=>by obtain ⟨_,_,rfl⟩:=ln2 hl; rfl
 have bDr:=DDr.F.binds (ps:=["strokes"]) fun _ _ _ _ _ _ us hl=>by obtain ⟨_,rfl⟩:=ln1 hl; rfl
 have bCe:=DCe.F.binds (ps:=["_law_script","_law_k"]) fun _ _ _ _ _ _ us hl=>by obtain ⟨_,_,rfl⟩:=ln2 hl; rfl
 have bTo:=DTo.F.binds (ps:=["_law_strokes_here"]) fun _ _ _ _ _ _ us hl=>by obtain ⟨_,rfl⟩:=ln1 hl; rfl
 have bSk:=DSk.F.binds (ps:=["_law_a","_law_b","_law_more"]) fun _ _ _ _ _ _ us hl=>by obtain ⟨_,_,_,rfl⟩:=ln3 hl; rfl
 have bMn:=DMn.F.binds (ps:=["_law_script"]) fun _ _ _ _ _ _ us hl=>by obtain ⟨_,rfl⟩:=ln1 hl; rfl
 have bLn:=DLn.F.binds (ps:=["_law_script"]) fun _ _ _ _ _ _ us hl=>by obtain ⟨_,rfl⟩:=ln1 hl; rfl
 have bUn:=DUn.F.binds (ps:=["_law_script"]) fun _ _ _ _ _ _ us hl=>by obtain ⟨_,rfl⟩:=ln1 hl; rfl
 have bEd:=DEd.F.binds (ps:=["_law_script"]) fun _ _ _ _ _ _ us hl=>by obtain ⟨_,rfl⟩:=ln1 hl; rfl
 have FmI:=fun_mk (st:=sInit) lmI cmI kmI
 have bmI:=FmI.binds (ps:=["self"]) fun _ _ _ _ _ _ us hl=>by obtain ⟨_,rfl⟩:=ln1 hl; rfl
 have FmB:=fun_mk (st:=sBegin) lmB cmB kmB
 have bmB:=FmB.binds (ps:=["self"]) fun _ _ _ _ _ _ us hl=>by obtain ⟨_,rfl⟩:=ln1 hl; rfl
 have FmC:=fun_mk (st:=sCome) lmC cmC kmC
 have bmC:=FmC.binds (ps:=["self","x","y"]) fun _ _ _ _ _ _ us hl=>by obtain ⟨_,_,_,rfl⟩:=ln3 hl; rfl
 have FmD:=fun_mk (st:=sDraw) lmD cmD kmD
 have bmD:=FmD.binds (ps:=["self","x","y"]) fun _ _ _ _ _ _ us hl=>by obtain ⟨_,_,_,rfl⟩:=ln3 hl; rfl
 refine ⟨PySem.W.fnOf "law" "law" (defArgs sLaw) (defBody sLaw) (defScope sLaw) .none kVZ dcZ pmZ anZ cdZ ctZ,fun s v=>.of_eq rfl,fun base _ _=>?_⟩
 obtain ⟨tm,mm⟩:=B.most
 have T:Cl K mg Cc fmI fmB fmC fmD:=⟨⟨pg,hd,po,sa⟩,nf0,nf1,nf2,nf3,nf4,⟨mk,amI,imI,kc⟩,⟨amB,imB,kmB⟩,⟨amC,imC,kmC⟩,⟨amD,imD,kmD⟩,PySem.W.mg_of X G aCc⟩
 have GV:FnOk l.prog w K mg base (CXE l.prog w) 1 fV _ ["pairs"] (spPict K c2 c3):=ok_pict DV N.m2 N.m3 T2.q T3.q mm B.len B.sorted
 have GM:FnOk l.prog w K mg base CX0 1 fM _ ["way"] spMir:=ok_mir DM B.qua
 have GT:FnOk l.prog w K mg base CX0 2 fT _ ["hole","way"] spTurn:=ok_turn DT DM bM GM B.qua B.range
 have GBh:FnOk l.prog w K mg base CX0 2 fBh _ ["first","second"] spBeh:=ok_beh DBh DM bM GM B.qua
 have GH:FnOk l.prog w K mg base CX0 3 fH _ ["thing"] spHole:=ok_hole DH DP bP (ok_pair DP B) DI bI (ok_within DI DW bW B)
 have GmI:FnOk l.prog w K mg base CX0 1 fmI _ ["self"] (spInit Cc):=ok_init FmI T
 have GmB:FnOk l.prog w K mg base (CXE l.prog w) 1 fmB _ ["self"] (spBegin Cc c3):=ok_begin FmB T N.m3 T3.q B
 have GmC:FnOk l.prog w K mg base (CXE l.prog w) 4 fmC _ ["self","x","y"] (spCome Cc c4):=ok_come FmC T N.m4 T4.q DT bT GT DS bS (ok_shHole DS) DH bH GH
 have GmD:FnOk l.prog w K mg base (CXE l.prog w) 5 fmD _ ["self","x","y"] (spDraw Cc c3 c4):=ok_draw FmD T N.m3 T3.q B bmC GmC DO bO (ok_ord DO)
 have GA:FnOk l.prog w K mg base (CXE l.prog w) 32 fA _ ["pen","strokes"] (spAll Cc c3 c4 9):=alls T B bmB GmB bmC GmC bmD GmD DA bA DSt bSt DBk bBk DTi bTi DTn bTn DBh bBh GBh 9
 have GDr:FnOk l.prog w K mg base (CXE l.prog w) 33 fDr _ ["strokes"] (spDrawn c2 c3 c4 9):=ok_drawn DDr T bmI GmI DA bA GA DV bV GV (by decide)
 have GTo:FnOk l.prog w K mg base CX0 34 fTo _ ["_law_strokes_here"] (spTold 9):=ok_told DTo B N T2 T3 T4 DDr bDr GDr
 have GCe:FnOk l.prog w K mg base CX0 1 fCe _ ["_law_script","_law_k"] (spCell K):=ok_cell DCe B.len
 have GSk:FnOk l.prog w K mg base CX0 1 fSk _ ["_law_a","_law_b","_law_more"] spStrokes:=ok_strokes DSk
 have GMn:FnOk l.prog w K mg base CX0 35 fMn _ ["_law_script"] (spMany K):=ok_many DMn B DCe bCe GCe DSk bSk GSk DTo bTo GTo (by decide)
 have GLn:FnOk l.prog w K mg base CX0 35 fLn _ ["_law_script"] (spMany K):=ok_lines DLn B DCe bCe GCe DTo bTo GTo (by decide)
 have GUn:FnOk l.prog w K mg base CX0 35 fUn _ ["_law_script"] (spMany K):=ok_unlike DUn B DCe bCe GCe DTo bTo GTo (by decide)
 have GEd:FnOk l.prog w K mg base CX0 35 fEd _ ["_law_script"] (spMany K):=ok_edge DEd B DCe bCe GCe DTo bTo GTo (by decide)
 exact ok_law DZ B DCe bCe GCe DTo bTo (GTo.mono (by decide)) DMn bMn GMn DLn bLn GLn DUn bUn GUn DEd bEd GEd (by decide)
theorem walk {l:PySem.W.OpenLaw} {q:Program} {loose:List Str} {XP:(Str→Option Value)→Heap→Prop} {YP:World→Heap→Prop} {d:DefRec} {K:Params→PySem.W.Frag} (hn:l.most=some 63) (hdf:d.params.defaults=[])
  (hY:∀ (w:World) (h:Heap),YP w h→(K w.params).In h)
  (F:∀ (w:World) (mg:Str→Option Value) (fa:Addr) (h:Heap),(K w.params).In h→h.Ns mainGlobals mg→mg d.name=some (.ref fa) →
   ∃ fd:FuncData,(∀ (s:Shared) (u:Value),BindsTo s fd ⟨[u],[]⟩ [("_law_script",u)])∧∀ base:Heap,(K w.params).In base→base.Ns mainGlobals mg→FnOk l.prog w (K w.params) mg base CX0 36 fa fd ["_law_script"] (spLaw (K w.params))) :
  PySem.W.WalkO q loose XP YP l.row.toRowW d [] (fun f vs=>PySem.call f vs) :=
 L2.walk_of (n:=63) (k:=36) (x:="_law_script") (CX:=fun _=>CX0) (sp:=fun w=>spLaw (K w.params)) hn (by decide) hdf ⟨rfl,by decide,by decide⟩ hY F (fun _ _ a ns hl _ hS=>⟨a,ns,rfl,hS,hl,fun _=>rfl⟩) fun _ _ _ _ _ z=>z
end K25
open PySem PySem.W PyProof.Rows
set_option maxRecDepth 100000 in
set_option maxHeartbeats 0 in
theorem PySem.Challenge.cw_bothfaces_k25_bounds_of_drawings_holds : PySem.Challenge.rw_bothfaces_k25_bounds_of_drawings.Holds := by
 w_on; o_law; k_head; (case hw=>w_witness2)
 k_fill
 refine K25.walk (l:=PySem.Challenge.rw_bothfaces_k25_bounds_of_drawings) rfl rfl (fun w h Y=>PySem.W.kIn_of Y) ?F
 case F =>
  intro w mg fa h KX G hmg
  refine' K25.all_mk KX G hmg ?aW ?lW ?cW ?kW ?aP ?lP ?cP ?kP ?aI ?lI ?cI ?kI ?aH ?lH ?cH ?kH ?aO ?lO ?cO ?kO ?aV ?lV ?cV ?kV ?aM ?lM ?cM ?kM ?aT ?lT ?cT ?kT ?aBh ?lBh ?cBh ?kBh ?aS ?lS ?cS ?kS ?aBk ?lBk ?cBk ?kBk ?aTi ?lTi ?cTi ?kTi ?aTn ?lTn ?cTn ?kTn ?aSt ?lSt ?cSt ?kSt ?aA ?lA ?cA ?kA ?aDr ?lDr ?cDr ?kDr ?aCe ?lCe ?cCe ?kCe ?aTo ?lTo ?cTo ?kTo ?aSk ?lSk ?cSk ?kSk ?aMn ?lMn ?cMn ?kMn ?aLn ?lLn ?cLn ?kLn ?aUn ?lUn ?cUn ?kUn ?aEd ?lEd ?cEd ?kEd ?aZ ?lZ ?cZ ?kZ ?aCc ?amI ?imI ?lmI ?cmI ?kmI ?amB ?imB ?lmB ?cmB ?kmB ?amC ?imC ?lmC ?cmC ?kmC ?amD ?imD ?lmD ?cmD ?kmD ?pg ?hd ?po ?sa ?mk ?kc ?nf0 ?nf1 ?nf2 ?nf3 ?nf4 ?n0 ?n1 ?n2 ?n3 ?n4 ?n5 ?n6 ?n7 ?n8 ?T2 ?T3 ?T4 ?z_isi ?z_int ?z_bool ?z_tuple ?z_list ?z_str ?z_len ?z_range ?z_abs ?z_min ?z_max ?z_sorted ?z_val ?g_far ?g_most ?g_qua ?g_mstr ?g_mdra
  (case aW=>k_is)
  (case lW=>k_is)
  (case cW=>k_is)
  (case kW=>k_is)
  (case aP=>k_is)
  (case lP=>k_is)
  (case cP=>k_is)
  (case kP=>k_is)
  (case aI=>k_is)
  (case lI=>k_is)
  (case cI=>k_is)
  (case kI=>k_is)
  (case aH=>k_is)
  (case lH=>k_is)
  (case cH=>k_is)
  (case kH=>k_is)
  (case aO=>k_is)
  (case lO=>k_is)
  (case cO=>k_is)
  (case kO=>k_is)
  (case aV=>k_is)
  (case lV=>k_is)
  (case cV=>k_is)
  (case kV=>k_is)
  (case aM=>k_is)
  (case lM=>k_is)
  (case cM=>k_is)
  (case kM=>k_is)
  (case aT=>k_is)
  (case lT=>k_is)
  (case cT=>k_is)
  (case kT=>k_is)
  (case aBh=>k_is)
  (case lBh=>k_is)
  (case cBh=>k_is)
  (case kBh=>k_is)
  (case aS=>k_is)
  (case lS=>k_is)
  (case cS=>k_is)
  (case kS=>k_is)
  (case aBk=>k_is)
  (case lBk=>k_is)
  (case cBk=>k_is)
  (case kBk=>k_is)
  (case aTi=>k_is)
  (case lTi=>k_is)
  (case cTi=>k_is)
  (case kTi=>k_is)
  (case aTn=>k_is)
  (case lTn=>k_is)
  (case cTn=>k_is)
  (case kTn=>k_is)
  (case aSt=>k_is)
  (case lSt=>k_is)
  (case cSt=>k_is)
  (case kSt=>k_is)
  (case aA=>k_is)
  (case lA=>k_is)
  (case cA=>k_is)
  (case kA=>k_is)
  (case aDr=>k_is)
  (case lDr=>k_is)
  (case cDr=>k_is)
  (case kDr=>k_is)
  (case aCe=>k_is)
  (case lCe=>k_is)
  (case cCe=>k_is)
  (case kCe=>k_is)
  (case aTo=>k_is)
  (case lTo=>k_is)
  (case cTo=>k_is)
  (case kTo=>k_is)
  (case aSk=>k_is)
  (case lSk=>k_is)
  (case cSk=>k_is)
  (case kSk=>k_is)
  (case aMn=>k_is)
  (case lMn=>k_is)
  (case cMn=>k_is)
  (case kMn=>k_is)
  (case aLn=>k_is)
  (case lLn=>k_is)
  (case cLn=>k_is)
  (case kLn=>k_is)
  (case aUn=>k_is)
  (case lUn=>k_is)
  (case cUn=>k_is)
  (case kUn=>k_is)
  (case aEd=>k_is)
  (case lEd=>k_is)
  (case cEd=>k_is)
  (case kEd=>k_is)
  (case aZ=>k_is)
  (case lZ=>k_is)
  (case cZ=>k_is)
  (case kZ=>k_is)
  (case aCc=>k_is)
  (case amI=>k_is)
  (case imI=>k_is)
  (case lmI=>k_is)
  (case cmI=>k_is)
  (case kmI=>k_is)
  (case amB=>k_is)
  (case imB=>k_is)
  (case lmB=>k_is)
  (case cmB=>k_is)
  (case kmB=>k_is)
  (case amC=>k_is)
  (case imC=>k_is)
  (case lmC=>k_is)
  (case cmC=>k_is)
  (case kmC=>k_is)
  (case amD=>k_is)
  (case imD=>k_is)
  (case lmD=>k_is)
  (case cmD=>k_is)
  (case kmD=>k_is)
  (case pg=>k_is)
  (case hd=>k_is)
  (case po=>k_is)
  (case sa=>k_is)
  (case mk=>k_is)
  (case kc=>k_is)
  (case nf0=>k_is)
  (case nf1=>k_is)
  (case nf2=>k_is)
  (case nf3=>k_is)
  (case nf4=>k_is)
  (case n0=>k_is)
  (case n1=>k_is)
  (case n2=>k_is)
  (case n3=>k_is)
  (case n4=>k_is)
  (case n5=>k_is)
  (case n6=>k_is)
  (case n7=>k_is)
  (case n8=>k_is)
  (case T2=>exact ⟨⟨by k_is,by k_is,by k_is,by k_is,by k_is,by k_is,by k_is,by k_is⟩,by k_exc,by kts_exm,by kit_is,by kit_is,by kit_is,by kit_is,by kit_is,by kit_is,by kit_is,by kit_is,by kit_is⟩)
  (case T3=>exact ⟨⟨by k_is,by k_is,by k_is,by k_is,by k_is,by k_is,by k_is,by k_is⟩,by k_exc,by kts_exm,by kit_is,by kit_is,by kit_is,by kit_is,by kit_is,by kit_is,by kit_is,by kit_is,by kit_is⟩)
  (case T4=>exact ⟨⟨by k_is,by k_is,by k_is,by k_is,by k_is,by k_is,by k_is,by k_is⟩,by k_exc,by kts_exm,by kit_is,by kit_is,by kit_is,by kit_is,by kit_is,by kit_is,by kit_is,by kit_is,by kit_is⟩)
  (case z_isi=>k_is)
  (case z_int=>k_is)
  (case z_bool=>k_is)
  (case z_tuple=>k_is)
  (case z_list=>k_is)
  (case z_str=>k_is)
  (case z_len=>k_is)
  (case z_range=>k_is)
  (case z_abs=>k_is)
  (case z_min=>k_is)
  (case z_max=>k_is)
  (case z_sorted=>k_is)
  (case z_val=>k_is)
  (case g_far=>k_is)
  (case g_most=>k_is)
  (case g_qua=>k_is)
  (case g_mstr=>k_is)
  (case g_mdra=>k_is)
