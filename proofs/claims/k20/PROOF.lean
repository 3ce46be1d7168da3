import PyProof.Rows.All
import Wide.All
import OpenK.AllK
import Wide.FinOn
import Lean
import PyProof.EqAt
import PyProof.EqKinds
import PyProof.TupleCall
import PyProof.NeKinds
import Wide.Seal
import KE.KDictList
import KE.KSortTup
import KE.KDictOf
import KE.KTryMore
import PyProof.CompUse
import PyProof.AttrMissHeap
import PyProof.Rows.TupTab
import PyProof.ZipIter
import PyProof.Rows.ZipGen
import PyProof.LayNew
import KE.KRevSl
import PyProof.SumWalk
import PyProof.EnumMake
import PyProof.EnumFor
import PyProof.Rows.EnumRows
import PyProof.ListRange
import PyProof.Rows.Range3
import PyProof.Rows.TupDisplay
import PyProof.ListIndex
import PyProof.StrOps2
import PyProof.NoPylong
import PyProof.Draws
import PyProof.Conv_int_bool
import KE.KItemsList
import PySem.Challenge.RW_bothfaces_k20_whole_forms_tell_pictures
set_option Elab.async false
set_option linter.all false
set_option maxRecDepth 100000
set_option maxHeartbeats 4000000
namespace L2
open PySem PySem.Spec PyProof.Rows
abbrev Key:=Sum Int Str
def keyIs:Key→Value→Bool
 | .inl k,v=>Value.isInt k v
 | .inr x,v=>Value.isStrOf x v
def keyH (w:World):Key→Int
 | .inl k=>hashInt k
 | .inr x=>hashStr w x
theorem keyIs_shape:∀ {k:Key} {v:Value},keyIs k v=true→(∃ i t,k=Sum.inl i∧v=Value.int i t)∨(∃ x t,k=Sum.inr x∧v=Value.str x t)
 | .inl i,v,h=>by
  obtain ⟨t,e⟩:=Value.isInt_shape (k:=i) (v:=v) h
  exact .inl ⟨i,t,rfl,e⟩
 | .inr x,v,h=>by
  obtain ⟨t,e⟩:=Value.isStrOf_shape (x:=x) (v:=v) h
  exact .inr ⟨x,t,rfl,e⟩
theorem key_ll (a b:Int):decide ((Sum.inl a:Key)=Sum.inl b)=(a == b):=by
 by_cases e:a=b
 ·subst e; simp
 ·have h:¬ (Sum.inl a:Key)=Sum.inl b:=fun q=>e (Sum.inl.inj q)
  rw [decide_eq_false h]
  exact (beq_eq_false_iff_ne.mpr e).symm
theorem key_rr (a b:Str):decide ((Sum.inr a:Key)=Sum.inr b)=decide (a=b):=by
 by_cases e:a=b
 ·subst e; simp
 ·have h:¬ (Sum.inr a:Key)=Sum.inr b:=fun q=>e (Sum.inr.inj q)
  rw [decide_eq_false h,decide_eq_false e]
theorem key_lr (a:Int) (b:Str):decide ((Sum.inl a:Key)=Sum.inr b)=false:=decide_eq_false (fun q=>nomatch q)
theorem key_rl (a:Str) (b:Int):decide ((Sum.inr a:Key)=Sum.inl b)=false:=decide_eq_false (fun q=>nomatch q)
def mixKind (prog:Program) (w:World):PySem.KeyKind prog w Key where
 is:=keyIs
 hash:=keyH w
 inj:=fun v a b ha hb=>by
  rcases keyIs_shape ha with ⟨i,t,rfl,rfl⟩ | ⟨x,t,rfl,rfl⟩
  ·rcases keyIs_shape hb with ⟨j,u,rfl,e⟩ | ⟨y,u,rfl,e⟩
   ·injection e with e1 _; rw [e1]
   ·exact nomatch e
  ·rcases keyIs_shape hb with ⟨j,u,rfl,e⟩ | ⟨y,u,rfl,e⟩
   ·exact nomatch e
   ·injection e with e1 _; rw [e1]
 byValue:=fun k v h=>by
  rcases keyIs_shape h with ⟨i,t,rfl,rfl⟩ | ⟨x,t,rfl,rfl⟩ <;> rfl
 pyHash:=fun hv h=>by
  rcases keyIs_shape hv with ⟨i,t,rfl,rfl⟩ | ⟨x,t,rfl,rfl⟩
  ·exact wpAny_pyHash_int h
  ·exact wpAny_pyHash_str h
 eqBool:=fun hu hv h=>by
  rcases keyIs_shape hu with ⟨i,t,rfl,rfl⟩ | ⟨x,t,rfl,rfl⟩
  ·rcases keyIs_shape hv with ⟨j,u,rfl,rfl⟩ | ⟨y,u,rfl,rfl⟩
   ·rw [key_ll] at h; exact wpAny_eqBool_int h
   ·rw [key_lr] at h; exact SeqAt.EqAt.int_str i t y u _ _ _ _ h
  ·rcases keyIs_shape hv with ⟨j,u,rfl,rfl⟩ | ⟨y,u,rfl,rfl⟩
   ·rw [key_rl] at h; exact SeqAt.EqAt.str_int x t j u _ _ _ _ h
   ·rw [key_rr] at h; exact wpAny_eqBool_str h
 «strs»:=fun k x t v h=>by
  rcases keyIs_shape h with ⟨i,u,rfl,e⟩ | ⟨y,u,rfl,e⟩
  ·exact nomatch e
  ·injection e with e1 _
   subst e1
   cases v <;> rfl
inductive V where
 | non | bl (b:Bool) | int (i:Int) | str (x:Str) | byt (b:Array UInt8) | flt (b:UInt64) | ref (a:Addr) | ty (n:String)
 deriving DecidableEq
def RelV:V→Value→Prop
 | .non,u=>u=Value.none
 | .bl b,u=>u=Value.bool b
 | .int i,u=>∃ t,u=Value.int i t
 | .str x,u=>∃ t,u=Value.str x t
 | .byt b,u=>∃ t,u=Value.bytes b t
 | .flt b,u=>∃ t,u=Value.float b t
 | .ref a,u=>u=Value.ref a
 | .ty n,u=>u=Value.type n
abbrev Vals:List V→List Value→Prop:=Paired RelV
theorem Vals.length {xs:List V} {us:List Value} (r:Vals xs us):xs.length=us.length:=Paired.length r
theorem Vals.get:∀ {xs:List V} {us:List Value} {i:Nat} {x:V},Vals xs us→xs[i]?=some x→∃ u,us[i]?=some u∧RelV x u
 | _,_,_,_,.nil,e=>by simp at e
 | _,_,0,_,.cons r _,e=>by simp at e; subst e; exact ⟨_,rfl,r⟩
 | _,_,i + 1,x,.cons _ t,e=>by
  obtain ⟨u,h1,h2⟩:=Vals.get (i:=i) (x:=x) t (by simpa using e)
  exact ⟨u,by simpa using h1,h2⟩
theorem Vals.append:∀ {xs ys:List V} {us ws:List Value},Vals xs us→Vals ys ws→Vals (xs ++ ys) (us ++ ws)
 | _,_,_,_,.nil,s=>s
 | _,_,_,_,.cons r t,s=>.cons r (Vals.append t s)
theorem Vals.take:∀ {xs:List V} {us:List Value} (n:Nat),Vals xs us→Vals (xs.take n) (us.take n)
 | _,_,0,_=>.nil
 | _,_,_ + 1,.nil=>.nil
 | _,_,n + 1,.cons r t=>.cons r (Vals.take n t)
theorem Vals.drop:∀ {xs:List V} {us:List Value} (n:Nat),Vals xs us→Vals (xs.drop n) (us.drop n)
 | _,_,0,r=>r
 | _,_,_ + 1,.nil=>.nil
 | _,_,n + 1,.cons _ t=>Vals.drop n t
def RelO:Option V→Option Value→Prop
 | some v,some u=>RelV v u
 | none,none=>True
 | _,_=>False
def KV {κ:Type}:List (κ×V)→List (κ×Value)→Prop:=Paired fun (p:κ×V) (q:κ×Value)=>p.1=q.1∧RelV p.2 q.2
def kV:Key→V
 | .inl i=>.int i
 | .inr x=>.str x
inductive HO where
 | lst (xs:List V)
 | tup (xs:List V)
 | dK (kvs:List (Key×V)) | dT (kvs:List (List Key×V))
 | set (S:Int→Bool) (n:Nat)
 | ins (C dx:Addr) (fs:List (Str×V))
 | own (x:Addr)
 | xd (fs:List (Str×V))
 | met (f x:Addr)
 | rng (lo hi:Int)
 | frz (o:Obj) (u:HO)
 | tbl (ps:Array Value)
 | ext (φ:Heap→Prop)
abbrev Hp:=Addr→Option HO
def upd (H:Hp) (a:Addr) (o:HO):Hp:=fun b=>if b=a then some o else H b
theorem upd_same {H:Hp} {a:Addr} {o:HO}:upd H a o a=some o:=by unfold upd; rw [if_pos rfl]
theorem upd_ne {H:Hp} {a b:Addr} {o:HO} (h:b≠a):upd H a o b=H b:=by unfold upd; rw [if_neg h]
theorem ne_of_none {H:Hp} {a b:Addr} {o:HO} (h:H a=some o) (h':H b=none):a≠b:=by
 intro e; subst e; rw [h] at h'; cases h'
def TupX (h:Heap) (a:Addr) (items:Array Value):Prop:=∃ o,h.get? a=some o∧o.cls=.type "tuple"∧∃ n,(o.data,o.dict)=(.seq items n,(none:Option Addr))
theorem TupX.tup {h:Heap} {a:Addr} {items:Array Value} (p:TupX h a items):IsTup h a items:=by
 obtain ⟨o,e,c,n,d⟩:=p
 exact ⟨o,e,c,n,congrArg Prod.fst d⟩
section
variable (P:Program) (w:World)
def ObjOk (H:Hp) (h:Heap) (a:Addr):HO→Prop
 | .lst xs=>xs.length≤sizeLine∧∃ (its:List Value) (n:Nat),Vals xs its∧h.get? a=some { cls:=.type "list",data:=.seq its.toArray n }
 | .tup xs=>xs.length≤sizeLine∧∃ its:List Value,Vals xs its∧TupX h a its.toArray
 | .dK kvs=>kvs.length≤sizeLine∧(a == sysModules)=false∧∃ vs,KV kvs vs∧h.DictOf (mixKind P w) a vs
 | .dT kvs=>kvs.length≤sizeLine∧(a == sysModules)=false∧∃ xs:List (List Key×Addr×Value),
   Paired (fun (p:List Key×V) (q:List Key×Addr×Value)=>p.1=q.1∧H q.2.1=some (.tup (p.1.map kV))∧RelV p.2 q.2.2) kvs xs ∧
   ∃ o es ep,h.get? a=some o∧o.ExactDict∧o.data=.dict es ep∧es.toList=xs.map (entryOfKey (tupleKind (mixKind P w)))∧(xs.map (·.1)).Nodup
 | .set S n=>h.SetOf (intKind P w) a S n
 | .ins C dx fs=>H dx=some (.own a)∧fs.length≤1000∧dx≠a∧h.get? a=some (PySem.W.instObj C dx) ∧
   ∃ mA,h.Ns1 dx mA∧(∀ f,RelO (fs.lookup f) (mA f))∧PySem.Within mA (fs.map (·.1))
 | .own _=>∃ o,h.get? a=some o
 | .xd fs=>∃ mA,h.Ns1 a mA∧∀ f,RelO (fs.lookup f) (mA f)
 | .rng lo hi=>∃ t u v,h.get? a=some { cls:=.type "range",data:=.fields #[.int lo t,.int hi u,.int 1 v] }
 | .frz o u=>h.get? a=some o∧ObjOk H h a u
 | .tbl ps=>h.get? a=some { cls:=.none,data:=.fields ps }
 | .met f x=>h.get? a=some (PySem.W.methodObj (.ref f) (.ref x))
 | .ext φ=>φ h∧(∃ o,h.get? a=some o)∧∀ h1 h2:Heap,φ h1→(∀ o,h1.get? a=some o→h2.get? a=some o)→φ h2
def HOk (H:Hp) (h:Heap):Prop:=∀ a o,H a=some o→ObjOk P w H h a o
end
section
variable {P:Program} {w:World} {H H':Hp} {h h':Heap} {a:Addr} {o:HO}
theorem ObjOk.lt (x:ObjOk P w H h a o):a < h.objs.size:=by
 cases o with
 | lst xs=>obtain ⟨_,_,_,_,e⟩:=x; exact Heap.lt_size e
 | tup xs=>obtain ⟨_,_,_,p⟩:=x; exact p.tup.lt
 | dK kvs=>obtain ⟨_,_,_,_,o,_,_,e,_⟩:=x; exact Heap.lt_size e
 | dT kvs=>obtain ⟨_,_,_,_,o,_,_,e,_⟩:=x; exact Heap.lt_size e
 | set S n=>obtain ⟨o,_,_,_,e,_⟩:=x; exact Heap.lt_size e
 | ins C dx fs=>obtain ⟨_,_,_,e,_⟩:=x; exact Heap.lt_size e
 | own y=>obtain ⟨_,e⟩:=x; exact Heap.lt_size e
 | xd fs=>obtain ⟨_,⟨_,_,_,e,_⟩,_⟩:=x; exact Heap.lt_size e
 | rng lo hi=>obtain ⟨_,_,_,e⟩:=x; exact Heap.lt_size e
 | frz ob u=>obtain ⟨e,_⟩:=x; exact Heap.lt_size e
 | tbl ps=>exact Heap.lt_size (show h.get? a=some _ from x)
 | met f y=>exact Heap.lt_size (show h.get? a=some _ from x)
 | ext φ=>obtain ⟨_,⟨_,e⟩,_⟩:=x; exact Heap.lt_size e
theorem Paired.mapP {α β:Type} {F G:α→β→Prop}:∀ {l₁:List α} {l₂:List β},Paired F l₁ l₂→(∀ a b,F a b→G a b)→Paired G l₁ l₂
 | _,_,.nil,_=>.nil
 | _,_,.cons r t,f=>.cons (f _ _ r) (Paired.mapP t f)
theorem ObjOk.stay (x:ObjOk P w H h a o) (k:∀ b u,(b=a∨H b=some (.own a))→h.get? b=some u→h'.get? b=some u)
  (ho:∀ b,H b=some (.own a)→H' b=some (.own a)) (ht:∀ b xs,H b=some (.tup xs)→H' b=some (.tup xs)):ObjOk P w H' h' a o:=by
 induction o with
 | lst xs=>obtain ⟨z,its,n,r,e⟩:=x; exact ⟨z,its,n,r,k _ _ (.inl rfl) e⟩
 | tup xs=>obtain ⟨z,its,r,ob,e,c⟩:=x; exact ⟨z,its,r,ob,k _ _ (.inl rfl) e,c⟩
 | dK kvs=>obtain ⟨z,y,vs,r,ob,es,ep,e,c⟩:=x; exact ⟨z,y,vs,r,ob,es,ep,k _ _ (.inl rfl) e,c⟩
 | dT kvs =>
  obtain ⟨z,y,xs,r,ob,es,ep,e,c⟩:=x
  exact ⟨z,y,xs,Paired.mapP r fun p q z=>⟨z.1,ht _ _ z.2.1,z.2.2⟩,ob,es,ep,k _ _ (.inl rfl) e,c⟩
 | set S n=>obtain ⟨ob,es,ep,t,e,c⟩:=x; exact ⟨ob,es,ep,t,k _ _ (.inl rfl) e,c⟩
 | ins C dx fs =>
  obtain ⟨d,z,ne,e,mA,⟨od,es,ep,e2,c⟩,r⟩:=x
  exact ⟨ho _ d,z,ne,k _ _ (.inl rfl) e,mA,⟨od,es,ep,k _ _ (.inr d) e2,c⟩,r⟩
 | own y=>obtain ⟨ob,e⟩:=x; exact ⟨ob,k _ _ (.inl rfl) e⟩
 | xd fs=>obtain ⟨mA,⟨od,es,ep,e,c⟩,r⟩:=x; exact ⟨mA,⟨od,es,ep,k _ _ (.inl rfl) e,c⟩,r⟩
 | rng lo hi=>obtain ⟨t,u,v,e⟩:=x; exact ⟨t,u,v,k _ _ (.inl rfl) e⟩
 | frz ob u ih=>obtain ⟨e,q⟩:=x; exact ⟨k _ _ (.inl rfl) e,ih q⟩
 | tbl ps =>
  have e:h.get? a=some { cls:=.none,data:=.fields ps }:=x
  show h'.get? a=some { cls:=.none,data:=.fields ps }
  exact k a _ (.inl rfl) e
 | met f y =>
  have e:h.get? a=some (PySem.W.methodObj (.ref f) (.ref y)):=x
  show h'.get? a=some (PySem.W.methodObj (.ref f) (.ref y))
  exact k a _ (.inl rfl) e
 | ext φ=>obtain ⟨p,⟨o,e⟩,st⟩:=x; exact ⟨st _ _ p fun o q=>k _ _ (.inl rfl) q,⟨o,k _ _ (.inl rfl) e⟩,st⟩
theorem HOk.lt (x:HOk P w H h) (e:H a=some o):a < h.objs.size:=(x a o e).lt
theorem HOk.fresh (x:HOk P w H h) (e:h.objs.size≤a):H a=none:=by
 cases q:H a with
 | none=>rfl
 | some u=>exact absurd (Nat.lt_of_lt_of_le (x.lt q) e) (Nat.lt_irrefl _)
theorem HOk.kept (x:HOk P w H h) (k:∀ b u,h.get? b=some u→h'.get? b=some u):HOk P w H h':=fun a o e =>
 (x a o e).stay (fun b u _ q=>k b u q) (fun _ q=>q) fun _ _ q=>q
theorem HOk.laid (x:HOk P w H h) (k:∀ b u,h.get? b=some u→h'.get? b=some u) (hp:h.objs.size≤a) (new:ObjOk P w (upd H a o) h' a o):HOk P w (upd H a o) h':=fun b u e=>by
 have hn:=x.fresh hp
 by_cases hb:b=a
 ·subst hb; rw [upd_same] at e; cases e; exact new
 ·rw [upd_ne hb] at e
  exact (x b u e).stay (fun c v _ q=>k c v q) (fun c q=>by rw [upd_ne (ne_of_none q hn)]; exact q) fun c xs q=>by rw [upd_ne (ne_of_none q hn)]; exact q
end
def Rd (H:Hp) (a:Addr) (u:HO):Prop:=H a=some u∨∃ o,H a=some (.frz o u)
theorem Rd.ok {P:Program} {w:World} {H:Hp} {h:Heap} {a:Addr} {u:HO} (r:Rd H a u) (x:HOk P w H h):ObjOk P w H h a u:=by
 rcases r with r | ⟨o,r⟩
 ·exact x a u r
 ·obtain ⟨_,q⟩:=x a _ r
  exact q
def Mut:Option HO→Prop
 | some (.lst _)=>True
 | some (.dK _)=>True
 | some (.dT _)=>True
 | some (.set _ _)=>True
 | some (.ins _ _ _)=>True
 | some (.ext _)=>True
 | _=>False
section
variable {P:Program} {w:World} {H:Hp} {h h':Heap} {x e:Addr} {o':HO}
theorem HOk.write (ok:HOk P w H h) (mu:Mut (H x)) (he:e=x∨H e=some (.own x)) (k:∀ b u,b≠e→h.get? b=some u→h'.get? b=some u) (heo:∃ u,h'.get? e=some u)
  (new:ObjOk P w (upd H x o') h' x o'):HOk P w (upd H x o') h':=fun b u q=>by
 have nown:∀ c y,H c=some (.own y)→c≠x:=fun c y r z=>by subst z; rw [r] at mu; exact mu
 have ntup:∀ c xs,H c=some (.tup xs)→c≠x:=fun c xs r z=>by subst z; rw [r] at mu; exact mu
 by_cases hb:b=x
 ·subst hb; rw [upd_same] at q; cases q; exact new
 ·rw [upd_ne hb] at q
  by_cases hbe:b=e
  ·have q':H b=some (.own x):=by
    rcases he with z | z
    ·exact absurd (hbe.trans z) hb
    ·rw [hbe]; exact z
   rw [q] at q'; cases q'
   obtain ⟨v,hv⟩:=heo
   exact ⟨v,by rw [hbe]; exact hv⟩
  ·refine (ok b u q).stay (fun c v hc r=>k c v ?_ r) (fun c r=>by rw [upd_ne (nown c b r)]; exact r) fun c xs r=>by rw [upd_ne (ntup c xs r)]; exact r
   rcases hc with rfl | hc
   ·exact hbe
   ·rintro rfl
    rcases he with z | z
    ·exact nown c b hc z
    ·rw [hc] at z; cases z; exact hb rfl
end
structure Un (fs ex:List Addr) (H H':Hp) (h h':Heap):Prop where
 keep:∀ b o,h.get? b=some o→H b=none→b ∉ fs→b ∉ ex→h'.get? b=some o
 slot:∀ b o,h.get? b=some o→H b=none→b∈fs→b ∉ ex→∃ sl,h'.get? b=some { o with slots:=sl }
 free:∀ b o,h.get? b=some o→H b=none→b ∉ ex→H' b=none
 there:∀ b o,h.get? b=some o→b ∉ ex→∃ o',h'.get? b=some o'
 tups:∀ b xs,H b=some (.tup xs)→H' b=some (.tup xs)
 frzs:∀ b o u,H b=some (.frz o u)→H' b=some (.frz o u)
 tbls:∀ b ps,H b=some (.tbl ps)→∃ more,H' b=some (.tbl (ps ++ more))
section
variable {fs fs' ex ex':List Addr} {H H1 H2:Hp} {h h1 h2 h':Heap} {a x e:Addr} {o:HO}
theorem Un.any (u:Un fs ex H H1 h h1) {b:Addr} {ob:Obj} (q:h.get? b=some ob) (n:H b=none) (hx:b ∉ ex):∃ sl,h1.get? b=some { ob with slots:=sl }:=by
 by_cases hb:b∈fs
 ·exact u.slot b ob q n hb hx
 ·exact ⟨ob.slots,u.keep b ob q n hb hx⟩
theorem Un.kept (k:∀ b u,h.get? b=some u→h'.get? b=some u):Un fs ex H H h h' :=
 ⟨fun b ob q _ _ _=>k b ob q,fun b ob q _ _ _=>⟨ob.slots,k b ob q⟩,fun _ _ _ n _=>n,fun b ob q _=>⟨ob,k b ob q⟩,fun _ _ q=>q,fun _ _ _ q=>q,fun _ ps q=>⟨#[],by rw [q]; simp⟩⟩
theorem Un.refl:Un fs ex H H h h:=Un.kept fun _ _ q=>q
theorem Un.laid (k:∀ b u,h.get? b=some u→h'.get? b=some u) (hp:h.objs.size≤a) (hn:H a=none):Un fs ex H (upd H a o) h h' where
 keep:=fun b u q _ _ _=>k b u q
 slot:=fun b u q _ _ _=>⟨u.slots,k b u q⟩
 free:=fun b u q n _=>by rw [upd_ne (Nat.ne_of_lt (Nat.lt_of_lt_of_le (Heap.lt_size q) hp))]; exact n
 there:=fun b u q _=>⟨u,k b u q⟩
 tups:=fun b xs q=>by rw [upd_ne (ne_of_none q hn)]; exact q
 frzs:=fun b u xs q=>by rw [upd_ne (ne_of_none q hn)]; exact q
 tbls:=fun b ps q=>⟨#[],by rw [upd_ne (ne_of_none q hn),q]; simp⟩
theorem Un.write (mu:Mut (H x)) (he:e=x∨H e=some (.own x)) (k:∀ b u,b≠e→h.get? b=some u→h'.get? b=some u) (heo:∃ u,h'.get? e=some u):Un fs ex H (upd H x o) h h':=by
 have hx:∀ b,H b=none→b≠x:=fun b n z=>by subst z; rw [n] at mu; exact mu
 have hb:∀ b,H b=none→b≠e:=fun b n z=>by
  subst z
  rcases he with r | r
  ·exact hx b n r
  ·rw [n] at r; cases r
 have hm:∀ b u,H b=some u→¬ Mut (some u)→b≠x:=fun b u q nm z=>by subst z; rw [q] at mu; exact nm mu
 refine ⟨fun b u q n _ _=>k b u (hb b n) q,fun b u q n _ _=>⟨u.slots,k b u (hb b n) q⟩,fun b u q n _=>by rw [upd_ne (hx b n)]; exact n,fun b u q _=>?_,
  fun b xs q=>by rw [upd_ne (hm b _ q fun z=>z)]; exact q,fun b u xs q=>by rw [upd_ne (hm b _ q fun z=>z)]; exact q,fun b ps q=>⟨#[],by rw [upd_ne (hm b _ q fun z=>z),q]; simp⟩⟩
 by_cases hbe:b=e
 ·subst hbe; exact heo
 ·exact ⟨u,k b u hbe q⟩
end
def trk (h:Heap) (H:Hp):List Addr:=(List.range h.objs.size).filter fun a=>(H a).isSome
def hidT (h:Heap) (H:Hp):Heap:=PySem.W.hideAll h (trk h H)
theorem hidT_size (h:Heap) (H:Hp):(hidT h H).objs.size=h.objs.size:=PySem.W.hideAll_size _ _
theorem hidT_get {h:Heap} {H:Hp} {b:Addr} {o:Obj} (e:h.get? b=some o) (n:H b=none):(hidT h H).get? b=some o :=
 PySem.W.hideAll_get _ e fun hm=>by
  have q:(H b).isSome=true:=(List.mem_filter.mp hm).2
  rw [n] at q; simp at q
theorem of_hidT {h:Heap} {H:Hp} {b:Addr} {o:Obj} (e:(hidT h H).get? b=some o):h.get? b=some o∧H b=none:=by
 have e':h.get? b=some o:=PySem.W.of_hideAll (trk h H) e
 refine ⟨e',?_⟩
 cases q:H b with
 | none=>rfl
 | some x =>
  have hm:b∈trk h H:=List.mem_filter.mpr ⟨List.mem_range.mpr (Heap.lt_size e'),by simp [q]⟩
  have z:(hidT h H).get? b=none:=PySem.W.hideAll_none (trk h H) hm
  rw [z] at e; cases e
structure Mod (K:PySem.W.Frag) (mg:Str→Option Value) (base:Heap):Prop where
 kin:K.In base
 glob:base.Ns mainGlobals mg
 blt:∃ mb,base.Ns builtinsNs mb∧∀ x:Str,x≠"__name__"→mb x=bootBuiltins x
 nolimit:base.NoLimit
structure Cx where
 prog:Program
 w:World
 K:PySem.W.Frag
 mg:Str→Option Value
 base:Heap
 A:Around
 N:List Str
 s₀:Shared
 H₀:Hp
 env:Env
 outer:List Env
 stack:List Env
 ex:List Addr
 fn:Str→Bool
 calm:Bool
 pn:List (Addr×Obj)
 xe:Value→Shared→Prop
def frs (l:List Env):List Addr:=l.filterMap (·.frame)
abbrev Cx.fs (X:Cx):List Addr:=frs X.outer
def Vis (sc:Scope) (x:Str):Prop:=sc.names.lookup x=some .local∨sc.names.lookup x=some .cell∨sc.names.lookup x=some .free
def Loc (sc:Scope) (x:Str):Prop:=sc.names.lookup x=some .local∨sc.names.lookup x=some .cell
def Look (env:Env) (h:Heap) (m:Str→Option Value) (x:Str) (u:Value):Prop :=
 (env.kindOf x=some .local∧m x=some u)∨((env.kindOf x=some .cell∨env.kindOf x=some .free)∧∃ c,env.cells.lookup x=some c∧h.IsCell c (some u))
structure Cx.Ok (X:Cx):Prop where
 mod:Mod X.K X.mg X.base
 kind:X.env.scope.kind=.function
 glob:X.env.globals=mainGlobals
 blt:X.env.builtins=builtinsNs
 above:X.s₀.heap.objs.size≤X.env.locals
 inj:∀ x y c,X.env.cells.lookup x=some c→X.env.cells.lookup y=some c→x=y
 has:∀ x,(X.env.kindOf x=some .cell∨X.env.kindOf x=some .free)→∃ c,X.env.cells.lookup x=some c
 cab:∀ x c,X.fn x=true→X.env.cells.lookup x=some c→X.s₀.heap.objs.size≤c
 hd:X.calm=true→X.A.handled=none
 frames:X.A.frames=some X.stack
 stk:X.stack=X.outer∨(X.stack=X.env :: X.outer∧X.env.frame=some X.env.locals)
 exf:∀ b∈X.ex,b≠X.env.locals∧∀ x c,X.env.cells.lookup x=some c→c≠b
 bs:∀ b o,X.base.get? b=some o→X.s₀.heap.get? b=some o∧X.H₀ b=none
 bsz:X.base.objs.size≤X.s₀.heap.objs.size
 noex:∀ b o,X.base.get? b=some o→b ∉ X.ex
 exfs:∀ b∈X.ex,b ∉ X.fs
 funs:X.s₀.heap.FunFrames X.base X.outer
 frf:∀ b∈X.fs,X.H₀ b=none
structure Inv (X:Cx) (pins:List (Addr×Obj)) (σ:List (Option V)) (H:Hp) (s:Shared):Prop where
 ok:X.Ok
 os:s.os=X.s₀.os
 bare:AllBare s.gens
 base:Un X.fs X.ex X.H₀ H X.s₀.heap s.heap
 loc:∃ m,s.heap.Ns X.env.locals m∧∀ (i:Nat) (x:Str) (v:V),X.N[i]?=some x→σ[i]?=some (some v)→Vis X.env.scope x→∃ u,RelV v u∧Look X.env s.heap m x u
 cell:∀ x c,X.env.cells.lookup x=some c→∃ v,s.heap.IsCell c v
 free:H X.env.locals=none
 freeC:∀ x c,X.env.cells.lookup x=some c→H c=none
 pin:∀ p∈X.pn ++ pins,s.heap.get? p.1=some p.2∧H p.1=none∧p.1≠X.env.locals∧p.1 ∉ X.fs∧∀ v,p.2.data≠.cell v
 hok:HOk X.prog X.w H s.heap
 len:σ.length=X.N.length
section
variable {X:Cx} {pins:List (Addr×Obj)} {σ:List (Option V)} {H H':Hp} {s:Shared} {h':Heap}
theorem Cx.Ok.nofr (ok:X.Ok) {b:Addr} {o:Obj} (e:X.base.get? b=some o):b ∉ X.fs:=fun hb=>by
 have:=(ok.funs.mem hb).1
 rw [e] at this; cases this
theorem Inv.bs (I:Inv X pins σ H s):∀ b o,X.base.get? b=some o→s.heap.get? b=some o∧H b=none:=fun b o e =>
 ⟨I.base.keep b o (I.ok.bs b o e).1 (I.ok.bs b o e).2 (I.ok.nofr e) (I.ok.noex b o e),I.base.free b o (I.ok.bs b o e).1 (I.ok.bs b o e).2 (I.ok.noex b o e)⟩
theorem Inv.bk (I:Inv X pins σ H s):∀ b o,X.base.get? b=some o→s.heap.get? b=some o:=fun b o e=>(I.bs b o e).1
theorem Inv.mod (I:Inv X pins σ H s):Mod X.K X.mg X.base:=I.ok.mod
theorem Inv.kIn (I:Inv X pins σ H s):X.K.In s.heap:=I.ok.mod.kin.keeps I.bk
theorem Inv.lt (I:Inv X pins σ H s):X.env.locals < s.heap.objs.size:=let ⟨_,hn,_⟩:=I.loc; hn.lt
theorem Inv.sz (I:Inv X pins σ H s):X.s₀.heap.objs.size≤s.heap.objs.size:=Nat.le_trans I.ok.above (Nat.le_of_lt I.lt)
theorem Inv.nofs (I:Inv X pins σ H s) {a:Addr} (h:s.heap.objs.size≤a):a ∉ X.fs:=fun hb=>by
 obtain ⟨_,o,ho,_⟩:=I.ok.funs.mem hb
 exact absurd (Nat.lt_of_lt_of_le (Heap.lt_size ho) (Nat.le_trans I.sz h)) (Nat.lt_irrefl _)
theorem Inv.cne (I:Inv X pins σ H s):∀ x c,X.env.cells.lookup x=some c→c≠X.env.locals:=fun x c e z=>by
 obtain ⟨v,o,ho,hd⟩:=I.cell x c e
 obtain ⟨m,⟨o',es,ep,ho',hd',_⟩,_⟩:=I.loc
 rw [z,ho'] at ho; cases ho; rw [hd'] at hd; cases hd
theorem Inv.funs (I:Inv X pins σ H s):s.heap.FunFrames X.base X.outer:=by
 have all:∀ (l:List Env),(∀ b∈frs l,b∈X.fs)→X.s₀.heap.FunFrames X.base l→s.heap.FunFrames X.base l:=by
  intro l
  induction l with
  | nil=>intro _ _; trivial
  | cons env r ih =>
   intro hs hl
   obtain ⟨hk,⟨L,o,hf,hn,ho,hd⟩,hr⟩:=hl
   have hL:L∈X.fs:=hs L (by unfold frs; rw [List.filterMap_cons,hf]; exact List.mem_cons_self)
   obtain ⟨sl,e⟩:=I.base.slot L o ho (I.ok.frf L hL) hL fun z=>I.ok.exfs L z hL
   exact ⟨hk,⟨L,_,hf,hn,e,hd⟩,ih (fun b hb=>hs b (by unfold frs; rw [List.filterMap_cons,hf]; exact List.mem_cons_of_mem _ hb)) hr⟩
 exact all X.outer (fun _ hb=>hb) I.ok.funs
theorem Inv.stack (I:Inv X pins σ H s):s.heap.FunFrames X.base X.stack:=by
 rcases I.ok.stk with e | ⟨e,hf⟩
 ·rw [e]; exact I.funs
 ·rw [e]
  obtain ⟨m,hn,_⟩:=I.loc
  refine .cons (by rw [I.ok.kind]; decide) hf hn ?_ I.funs
  exact Heap.get?_none_of_le (Nat.le_trans I.ok.bsz I.ok.above)
theorem Inv.stkSub (I:Inv X pins σ H s):∀ b∈frs X.stack,b∈X.env.locals :: X.fs:=fun b hb=>by
 rcases I.ok.stk with e | ⟨e,hf⟩
 ·rw [e] at hb; exact List.mem_cons_of_mem _ hb
 ·rw [e] at hb
  unfold frs at hb
  rw [List.filterMap_cons,hf] at hb
  exact hb
theorem Inv.stkFree (I:Inv X pins σ H s):∀ b∈frs X.stack,H b=none:=fun b hb=>by
 rcases List.mem_cons.mp (I.stkSub b hb) with e | hb
 ·rw [e]; exact I.free
 ·obtain ⟨_,o,ho,_⟩:=I.ok.funs.mem hb
  exact I.base.free b o ho (I.ok.frf b hb) fun z=>I.ok.exfs b z hb
theorem Inv.step {g':Array GenState} {t':Nat} {d':Drawn} {ch:List Addr} (I:Inv X pins σ H s)
  (hch:∀ b∈ch,(b∈X.ex∨X.s₀.heap.objs.size≤b)∧b≠X.env.locals∧(∀ x c,X.env.cells.lookup x=some c→c≠b)∧∀ p∈X.pn ++ pins,p.1≠b)
  (keep:∀ b o,b≠X.env.locals→b ∉ X.fs→b ∉ ch→s.heap.get? b=some o→H b=none→h'.get? b=some o)
  (slot:∀ b o,b≠X.env.locals→b∈X.fs→b ∉ ch→s.heap.get? b=some o→H b=none→∃ sl,h'.get? b=some { o with slots:=sl }) (free:∀ b o,b ∉ ch→s.heap.get? b=some o→H b=none→H' b=none)
  (there:∀ b o,b ∉ ch→s.heap.get? b=some o→∃ o',h'.get? b=some o')
  (tups:∀ b xs,H b=some (.tup xs)→H' b=some (.tup xs)) (frzs:∀ b o u,H b=some (.frz o u)→H' b=some (.frz o u)) (tbls:∀ b ps,H b=some (.tbl ps)→∃ more,H' b=some (.tbl (ps ++ more)))
  (ns:∀ m,s.heap.Ns X.env.locals m→h'.Ns X.env.locals m) (hok:HOk X.prog X.w H' h') (hg:AllBare g') :
  Inv X pins σ H' { s with heap:=h',gens:=g',drawn:=d',toks:=t' }:=by
 have neL:∀ b o,X.s₀.heap.get? b=some o→b≠X.env.locals:=fun b o e=>Nat.ne_of_lt (Nat.lt_of_lt_of_le (Heap.lt_size e) I.ok.above)
 have neC:∀ b o,X.s₀.heap.get? b=some o→b ∉ X.ex→b ∉ ch:=fun b o e hx hb=>by
  rcases (hch b hb).1 with z | z
  ·exact hx z
  ·exact absurd (Nat.lt_of_lt_of_le (Heap.lt_size e) z) (Nat.lt_irrefl _)
 have cellK:∀ x c,X.env.cells.lookup x=some c→∀ v,s.heap.IsCell c v→h'.IsCell c v:=fun x c e v ⟨o,ho,hd⟩=>by
  have nch:c ∉ ch:=fun z=>(hch c z).2.2.1 x c e rfl
  by_cases hc:c∈X.fs
  ·obtain ⟨sl,q⟩:=slot c o (I.cne x c e) hc nch ho (I.freeC x c e)
   exact ⟨_,q,hd⟩
  ·exact ⟨o,keep c o (I.cne x c e) hc nch ho (I.freeC x c e),hd⟩
 refine ⟨I.ok,I.os,hg,⟨fun b o e n hb hx=>?_,fun b o e n hb hx=>?_,fun b o e n hx=>?_,fun b o e hx=>?_,fun b xs e=>tups b xs (I.base.tups b xs e),fun b o xs e=>frzs b o xs (I.base.frzs b o xs e),fun b ps e=>?_⟩,?_,fun x c e=>?_,?_,fun x c e=>?_,fun p hp=>?_,hok,I.len⟩
 ·exact keep b o (neL b o e) hb (neC b o e hx) (I.base.keep b o e n hb hx) (I.base.free b o e n hx)
 ·obtain ⟨sl,e1⟩:=I.base.slot b o e n hb hx
  obtain ⟨sl',e2⟩:=slot b _ (neL b o e) hb (neC b o e hx) e1 (I.base.free b o e n hx)
  exact ⟨sl',e2⟩
 ·obtain ⟨o',e1⟩:=I.base.there b o e hx
  exact free b o' (neC b o e hx) e1 (I.base.free b o e n hx)
 ·obtain ⟨o',e1⟩:=I.base.there b o e hx
  exact there b o' (neC b o e hx) e1
 ·obtain ⟨m1,e1⟩:=I.base.tbls b ps e
  obtain ⟨m2,e2⟩:=tbls b _ e1
  exact ⟨m1 ++ m2,by rw [e2,Array.append_assoc]⟩
 ·obtain ⟨m,hn,hl⟩:=I.loc
  refine ⟨m,ns m hn,fun i x v e1 e2 e3=>?_⟩
  obtain ⟨u,r,l⟩:=hl i x v e1 e2 e3
  refine ⟨u,r,?_⟩
  rcases l with l | ⟨k,c,e,z⟩
  ·exact .inl l
  ·exact .inr ⟨k,c,e,cellK x c e _ z⟩
 ·obtain ⟨v,z⟩:=I.cell x c e
  exact ⟨v,cellK x c e v z⟩
 ·obtain ⟨m,⟨o,_,_,ho,_⟩,_⟩:=I.loc
  exact free _ o (fun z=>(hch _ z).2.1 rfl) ho I.free
 ·obtain ⟨v,o,ho,hd⟩:=I.cell x c e
  exact free c o (fun z=>(hch c z).2.2.1 x c e rfl) ho (I.freeC x c e)
 ·obtain ⟨e,n,ne,nf,d⟩:=I.pin p hp
  have nch:p.1 ∉ ch:=fun z=>(hch p.1 z).2.2.2 p hp rfl
  exact ⟨keep p.1 p.2 ne nf nch e n,free p.1 p.2 nch e n,ne,nf,d⟩
theorem Inv.un {t':Nat} (I:Inv X pins σ H s) (u:Un X.fs [] H H' s.heap h') (hok:HOk X.prog X.w H' h'):Inv X pins σ H' { s with heap:=h',toks:=t' }:=by
 obtain ⟨m,⟨o,es,ep,ho,r⟩,_⟩:=id I.loc
 obtain ⟨sl,hL⟩:=u.any ho I.free (by simp)
 exact I.step (g':=s.gens) (d':=s.drawn) (ch:=[]) (fun _ z=>nomatch z) (fun b o _ hb _ e n=>u.keep b o e n hb (by simp)) (fun b o _ hb _ e n=>u.slot b o e n hb (by simp)) (fun b o _ e n=>u.free b o e n (by simp)) (fun b o _ e=>u.there b o e (by simp)) u.tups u.frzs u.tbls (fun m' hm=>by
  obtain ⟨o',es',ep',ho',r'⟩:=hm
  rw [ho] at ho'; cases ho'
  exact ⟨_,es',ep',hL,r'⟩) hok I.bare
theorem Inv.call {g':Array GenState} {t':Nat} {d':Drawn} {ch:List Addr} (I:Inv X pins σ H s) (u:Un (frs X.stack) ch H H' s.heap h') (hok:HOk X.prog X.w H' h') (hg:AllBare g')
  (hch:∀ b∈ch,(b∈X.ex∨X.s₀.heap.objs.size≤b)∧b≠X.env.locals∧(∀ x c,X.env.cells.lookup x=some c→c≠b)∧∀ p∈X.pn ++ pins,p.1≠b) :
  Inv X pins σ H' { s with heap:=h',gens:=g',drawn:=d',toks:=t' }:=by
 obtain ⟨m,⟨o,es,ep,ho,r⟩,_⟩:=id I.loc
 obtain ⟨sl,hL⟩:=u.any ho I.free fun z=>(hch _ z).2.1 rfl
 exact I.step (ch:=ch) hch (fun b o hL hb hc e n=>u.keep b o e n (fun z=>(List.mem_cons.mp (I.stkSub b z)).elim hL hb) hc) (fun b o _ _ hc e n=>u.any e n hc) (fun b o hc e n=>u.free b o e n hc) (fun b o hc e=>u.there b o e hc) u.tups u.frzs u.tbls (fun m' hm=>by
  obtain ⟨o',es',ep',ho',r'⟩:=hm
  rw [ho] at ho'; cases ho'
  exact ⟨_,es',ep',hL,r'⟩) hok hg
theorem Inv.turned {t':Nat} {it:Addr} (I:Inv X pins σ H s) (k:∀ b o,b≠it→s.heap.get? b=some o→h'.get? b=some o) (hn:H it=none) (hL:it≠X.env.locals)
  (h1:it∈X.ex∨X.s₀.heap.objs.size≤it) (h2:∀ x c,X.env.cells.lookup x=some c→c≠it) (h3:∀ p∈X.pn ++ pins,p.1≠it):Inv X pins σ H { s with heap:=h',toks:=t' }:=by
 have nit:∀ b u,H b=some u→b≠it:=fun b u e z=>by rw [z,hn] at e; cases e
 refine I.step (g':=s.gens) (d':=s.drawn) (ch:=[it]) (fun b hb=>?_) (fun b o _ _ hc e _=>k b o (fun z=>hc (by simp [z])) e) (fun b o _ _ hc e _=>⟨o.slots,k b o (fun z=>hc (by simp [z])) e⟩) (fun _ _ _ _ n=>n)
  (fun b o hc e=>⟨o,k b o (fun z=>hc (by simp [z])) e⟩) (fun _ _ e=>e) (fun _ _ _ e=>e) (fun b ps e=>⟨#[],by rw [e]; simp⟩) (fun m hm=>?_) (fun b u e=>?_) I.bare
 ·have e:b=it:=by simpa using hb
  subst e
  exact ⟨h1,hL,h2,h3⟩
 ·obtain ⟨o,es,ep,ho,r⟩:=hm
  exact ⟨o,es,ep,k _ o (Ne.symm hL) ho,r⟩
 ·refine (I.hok b u e).stay (fun c v hc q=>k c v ?_ q) (fun _ q=>q) fun _ _ q=>q
  rcases hc with z | z
  ·rw [z]; exact nit b u e
  ·exact nit c _ z
theorem Inv.tok (I:Inv X pins σ H s) (t:Nat):Inv X pins σ H { s with toks:=t }:=I.un (h':=s.heap) (t':=t) Un.refl I.hok
theorem Inv.kept {t':Nat} (I:Inv X pins σ H s) (k:∀ b u,s.heap.get? b=some u→h'.get? b=some u):Inv X pins σ H { s with heap:=h',toks:=t' }:=I.un (Un.kept k) (I.hok.kept k)
theorem Inv.laid {a:Addr} {o:HO} {t':Nat} (I:Inv X pins σ H s) (k:∀ b u,s.heap.get? b=some u→h'.get? b=some u) (hp:s.heap.objs.size≤a) (new:ObjOk X.prog X.w (upd H a o) h' a o) :
  Inv X pins σ (upd H a o) { s with heap:=h',toks:=t' }:=I.un (Un.laid k hp (I.hok.fresh hp)) (I.hok.laid k hp new)
theorem Inv.write {x e:Addr} {o:HO} {t':Nat} (I:Inv X pins σ H s) (mu:Mut (H x)) (he:e=x∨H e=some (.own x)) (k:∀ b u,b≠e→s.heap.get? b=some u→h'.get? b=some u) (heo:∃ u,h'.get? e=some u)
  (new:ObjOk X.prog X.w (upd H x o) h' x o):Inv X pins σ (upd H x o) { s with heap:=h',toks:=t' }:=I.un (Un.write mu he k heo) (I.hok.write mu he k heo new)
theorem Inv.pins_of {pins':List (Addr×Obj)} (I:Inv X pins σ H s) (h:∀ p∈pins',s.heap.get? p.1=some p.2∧H p.1=none∧p.1≠X.env.locals∧p.1 ∉ X.fs∧∀ v,p.2.data≠.cell v):Inv X pins' σ H s :=
 ⟨I.ok,I.os,I.bare,I.base,I.loc,I.cell,I.free,I.freeC,fun p hp=>(List.mem_append.mp hp).elim (fun z=>I.pin p (List.mem_append_left _ z)) (h p),I.hok,I.len⟩
theorem nodup_ix {N:List Str} (hN:N.Nodup) {i j:Nat} {x:Str} (a:N[i]?=some x) (b:N[j]?=some x):i=j:=by
 obtain ⟨h1,e1⟩:=List.getElem?_eq_some_iff.mp a
 obtain ⟨h2,e2⟩:=List.getElem?_eq_some_iff.mp b
 exact (List.getElem_inj hN).mp (e1.trans e2.symm)
theorem store_ok2 {M:Model} {A:Around} {E:Value→Shared→Prop} {i:Nat} {x:Str} {v:V} {u:Value} {Q:Unit→Shared→Prop} (I:Inv X pins σ H s) (hN:X.N.Nodup) (hi:X.N[i]?=some x) (hx:Loc X.env.scope x) (r:RelV v u)
  (h:∀ s',Inv X pins (σ.set i (some v)) H s'→(∃ a,Heap.SameBut a s.heap s'.heap∧(a=X.env.locals∨X.env.cells.lookup x=some a))→Q () s') (hf:X.fn x=true∨X.env.scope.names.lookup x=some .local:=by first | exact .inl rfl | exact .inr rfl | assumption):wpAny M A (storeName X.env x u) Q E s:=by
 obtain ⟨m,hn,hl⟩:=id I.loc
 have hcls:(X.env.scope.kind == .class || (X.env.scope.kind == .module && X.env.locals != X.env.globals))=false:=by rw [I.ok.kind]; rfl
 have hiσ:i < σ.length:=by rw [I.len]; exact (List.getElem?_eq_some_iff.mp hi).1
 have cne:=I.cne
 have tracked:∀ {a:Addr} {h':Heap},(∃ o,s.heap.get? a=some o∧H a=none)→Heap.SameBut a s.heap h'→HOk X.prog X.w H h':=fun {a h'} ha hs b ob e=>by
  obtain ⟨_,_,hfree⟩:=ha
  refine (I.hok b ob e).stay (fun c w' hc q=>(hs.2 c ?_).trans q) (fun _ q=>q) fun _ _ q=>q
  rintro rfl
  rcases hc with rfl | hc
  ·rw [hfree] at e; cases e
  ·rw [hfree] at hc; cases hc
 rcases hx with hk | hk
 ·refine wpAny_storeName_local hk hn (fun h' hn' hs=>?_) hcls
  obtain ⟨oL,_,_,hoL,_⟩:=id hn
  refine h _ ⟨I.ok,I.os,I.bare,⟨fun b o e n hb hx=>?_,fun b o e n hb hx=>?_,I.base.free,fun b o e hx=>?_,I.base.tups,I.base.frzs,I.base.tbls⟩,⟨_,hn',fun j y v' e1 e2 e3=>?_⟩,fun y c e=>?_,I.free,I.freeC,fun p hp=>?_,tracked ⟨oL,hoL,I.free⟩ hs,by simpa using I.len⟩ ⟨_,hs,.inl rfl⟩
  ·exact (hs.2 b (Nat.ne_of_lt (Nat.lt_of_lt_of_le (Heap.lt_size e) I.ok.above))).trans (I.base.keep b o e n hb hx)
  ·obtain ⟨sl,e1⟩:=I.base.slot b o e n hb hx
   exact ⟨sl,(hs.2 b (Nat.ne_of_lt (Nat.lt_of_lt_of_le (Heap.lt_size e) I.ok.above))).trans e1⟩
  ·obtain ⟨o',e1⟩:=I.base.there b o e hx
   exact ⟨o',(hs.2 b (Nat.ne_of_lt (Nat.lt_of_lt_of_le (Heap.lt_size e) I.ok.above))).trans e1⟩
  ·by_cases hj:j=i
   ·subst hj
    rw [hi] at e1; cases e1
    rw [List.getElem?_set_self hiσ] at e2
    cases e2
    exact ⟨u,r,.inl ⟨hk,by simp⟩⟩
   ·rw [List.getElem?_set_ne (Ne.symm hj)] at e2
    obtain ⟨u',r',q⟩:=hl j y v' e1 e2 e3
    refine ⟨u',r',?_⟩
    rcases q with ⟨k,e⟩ | ⟨k,c,e,z⟩
    ·refine .inl ⟨k,?_⟩
     have:y≠x:=fun e=>hj (nodup_ix hN e1 (e ▸ hi))
     simp [this,e]
    ·exact .inr ⟨k,c,e,z.sameBut hs (cne y c e)⟩
  ·obtain ⟨w',z⟩:=I.cell y c e
   exact ⟨w',z.sameBut hs (cne y c e)⟩
  ·obtain ⟨e,n,ne,nf,d⟩:=I.pin p hp
   exact ⟨(hs.2 p.1 ne).trans e,n,ne,nf,d⟩
 ·have hfn:X.fn x=true:=by
   rcases hf with z | z
   ·exact z
   ·rw [z] at hk; cases hk
  obtain ⟨c,hc⟩:=I.ok.has x (.inl hk)
  obtain ⟨w',z⟩:=I.cell x c hc
  refine wpAny_storeName_cell I.ok.kind hk hc z (fun h' hc' hs=>?_)
  obtain ⟨oc,hoc,hocd⟩:=id z
  refine h { s with heap:=h' } ⟨I.ok,I.os,I.bare,⟨fun b o e n hb hx=>?_,fun b o e n hb hx=>?_,I.base.free,fun b o e hx=>?_,I.base.tups,I.base.frzs,I.base.tbls⟩,⟨m,hn.sameBut hs (Ne.symm (cne x c hc)),fun j y v' e1 e2 e3=>?_⟩,fun y c' e=>?_,I.free,I.freeC,fun p hp=>?_,tracked ⟨oc,hoc,I.freeC x c hc⟩ hs,by simpa using I.len⟩ ⟨c,hs,.inr hc⟩
  ·exact (hs.2 b (Nat.ne_of_lt (Nat.lt_of_lt_of_le (Heap.lt_size e) (I.ok.cab x c hfn hc)))).trans (I.base.keep b o e n hb hx)
  ·obtain ⟨sl,e1⟩:=I.base.slot b o e n hb hx
   exact ⟨sl,(hs.2 b (Nat.ne_of_lt (Nat.lt_of_lt_of_le (Heap.lt_size e) (I.ok.cab x c hfn hc)))).trans e1⟩
  ·obtain ⟨o',e1⟩:=I.base.there b o e hx
   exact ⟨o',(hs.2 b (Nat.ne_of_lt (Nat.lt_of_lt_of_le (Heap.lt_size e) (I.ok.cab x c hfn hc)))).trans e1⟩
  ·by_cases hj:j=i
   ·subst hj
    rw [hi] at e1; cases e1
    rw [List.getElem?_set_self hiσ] at e2
    cases e2
    exact ⟨u,r,.inr ⟨.inl hk,c,hc,hc'⟩⟩
   ·rw [List.getElem?_set_ne (Ne.symm hj)] at e2
    obtain ⟨u',r',q⟩:=hl j y v' e1 e2 e3
    refine ⟨u',r',?_⟩
    rcases q with q | ⟨k,c',e,z'⟩
    ·exact .inl q
    ·refine .inr ⟨k,c',e,z'.sameBut hs ?_⟩
     rintro rfl
     exact hj (nodup_ix hN e1 (I.ok.inj _ _ _ e hc ▸ hi))
  ·by_cases hcc:c'=c
   ·subst hcc; exact ⟨_,hc'⟩
   ·obtain ⟨w2,z2⟩:=I.cell y c' e
    exact ⟨w2,z2.sameBut hs hcc⟩
  ·obtain ⟨e,n,ne,nf,d⟩:=I.pin p hp
   refine ⟨(hs.2 p.1 ?_).trans e,n,ne,nf,d⟩
   intro q
   rw [q,hoc] at e
   have q':oc=p.2:=Option.some.inj e
   exact d w' (by rw [← q']; exact hocd)
theorem store_ok {M:Model} {A:Around} {E:Value→Shared→Prop} {i:Nat} {x:Str} {v:V} {u:Value} {Q:Unit→Shared→Prop} (I:Inv X pins σ H s) (hN:X.N.Nodup) (hi:X.N[i]?=some x) (hx:Loc X.env.scope x) (r:RelV v u)
  (h:∀ s',Inv X pins (σ.set i (some v)) H s'→Q () s') (hf:X.fn x=true∨X.env.scope.names.lookup x=some .local:=by first | exact .inl rfl | exact .inr rfl | assumption):wpAny M A (storeName X.env x u) Q E s :=
 store_ok2 I hN hi hx r (fun s' I' _=>h s' I') hf
theorem Inv.call' {s':Shared} {ch:List Addr} (I:Inv X pins σ H s) (ho:s'.os=s.os) (u:Un (frs X.stack) ch H H' s.heap s'.heap) (hok:HOk X.prog X.w H' s'.heap) (hg:AllBare s'.gens)
  (hch:∀ b∈ch,(b∈X.ex∨X.s₀.heap.objs.size≤b)∧b≠X.env.locals∧(∀ x c,X.env.cells.lookup x=some c→c≠b)∧∀ p∈X.pn ++ pins,p.1≠b):Inv X pins σ H' s':=by
 obtain ⟨h',g',d',t',o'⟩:=s'
 have e:o'=s.os:=ho
 subst e
 exact I.call (g':=g') (t':=t') (d':=d') u hok hg hch
end
abbrev XK:=Value→Option Addr→Hp→Prop
abbrev St:=List (Option V)
abbrev VK:=V→Hp→Prop
abbrev TE:=St→Hp→VK→Prop
abbrev TT:=St→Hp→(Bool→Hp→Prop)→Prop
abbrev TA:=St→Hp→(List V→Hp→Prop)→Prop
structure Ends where
 nx:St→Hp→Prop
 rt:VK
 bk:St→Hp→Prop:=fun _ _=>False
 ct:St→Hp→Prop:=fun _ _=>False
abbrev TS:=Ends→St→Hp→Prop
def EP (X:Cx) (pins:List (Addr×Obj)) (σ:St) (Q:VK) (u:Value) (s':Shared):Prop:=∃ v H',Inv X pins σ H' s'∧RelV v u∧Q v H'
def TP (X:Cx) (pins:List (Addr×Obj)) (σ:St) (Q:Bool→Hp→Prop) (b:Bool) (s':Shared):Prop:=∃ H',Inv X pins σ H' s'∧Q b H'
def AP (X:Cx) (pins:List (Addr×Obj)) (σ:St) (Q:List V→Hp→Prop) (us:List Value) (s':Shared):Prop:=∃ vs H',Inv X pins σ H' s'∧Vals vs us∧Q vs H'
def SP (X:Cx) (pins:List (Addr×Obj)) (D:Ends) (f:Flow) (s':Shared):Prop :=
 match f with
 | .next=>∃ σ' H',Inv X pins σ' H' s'∧D.nx σ' H'
 | .brk=>∃ σ' H',Inv X pins σ' H' s'∧D.bk σ' H'
 | .cont=>∃ σ' H',Inv X pins σ' H' s'∧D.ct σ' H'
 | .ret u=>∃ v σ' H',Inv X pins σ' H' s'∧RelV v u∧D.rt v H'
def PE (X:Cx) (e:Expr) (t:TE):Prop :=
 ∀ (pins:List (Addr×Obj)) (s:Shared) (σ:St) (H:Hp) (Q:VK),Inv X pins σ H s→t σ H Q→wpAny (model X.prog X.w) X.A (eval e X.env) (EP X pins σ Q) X.xe s
def PT (X:Cx) (e:Expr) (t:TT):Prop :=
 ∀ (pins:List (Addr×Obj)) (s:Shared) (σ:St) (H:Hp) (Q:Bool→Hp→Prop),Inv X pins σ H s→t σ H Q→wpAny (model X.prog X.w) X.A (isTrue e X.env (eval e X.env)) (TP X pins σ Q) X.xe s
def PW (X:Cx) (e:Expr) (t:TT):Prop :=
 ∀ (whole:Sem Value) (pins:List (Addr×Obj)) (s:Shared) (σ:St) (H:Hp) (Q:Bool→Hp→Prop),Inv X pins σ H s→t σ H Q→wpAny (model X.prog X.w) X.A (isTrue e X.env whole) (TP X pins σ Q) X.xe s
theorem PW.pt {X:Cx} {e:Expr} {t:TT} (h:PW X e t):PT X e t:=h _
def PA (X:Cx) (es:List Expr) (t:TA):Prop :=
 ∀ (pos:Pos) (pins:List (Addr×Obj)) (s:Shared) (σ:St) (H:Hp) (Q:List V→Hp→Prop),Inv X pins σ H s→t σ H Q→wpAny (model X.prog X.w) X.A (spliced (backTo pos (starEach es X.env))) (AP X pins σ Q) X.xe s
def PS (X:Cx) (st:Stmt) (t:TS):Prop :=
 ∀ (pins:List (Addr×Obj)) (s:Shared) (σ:St) (H:Hp) (D:Ends),Inv X pins σ H s→t D σ H→wpAny (model X.prog X.w) X.A (exec st X.env) (SP X pins D) X.xe s
def PSs (X:Cx) (st:List Stmt) (t:TS):Prop :=
 ∀ (pins:List (Addr×Obj)) (s:Shared) (σ:St) (H:Hp) (D:Ends),Inv X pins σ H s→t D σ H→wpAny (model X.prog X.w) X.A (execs st X.env) (SP X pins D) X.xe s
theorem thn {α:Type} {t:Sem α} {Q Q':α→Shared→Prop} {M:Model} {A:Around} {E:Value→Shared→Prop} {s:Shared} (h:wpAny M A t Q E s) (hQ:∀ a s,Q a s→Q' a s):wpAny M A t Q' E s:=wpAny_mono h hQ fun _ _ x=>x
section
variable {X:Cx}
def tVar (i:Nat):TE:=fun σ H Q=>∃ v,σ[i]?=some (some v)∧Q v H
def tC (v:V):TE:=fun _ H Q=>Q v H
theorem pe_var {i:Nat} {x:Str} {pos:Pos} (hN:X.N[i]?=some x) (hv:Vis X.env.scope x) (hd:(x == ("__debug__":Str))=false:=by decide) (hcd:(x == ("__classdict__":Str))=false:=by decide):PE X (.Name x pos) (tVar i):=by
 intro pins s σ H Q I h
 obtain ⟨v,e,h⟩:=h
 obtain ⟨m,hn,hl⟩:=I.loc
 obtain ⟨u,r,l⟩:=hl i x v hN e hv
 have fin:EP X pins σ Q u s:=⟨v,H,I,r,h⟩
 rcases l with ⟨hk,hm⟩ | ⟨hk,c,hc,hcell⟩
 ·exact wpAny_Name (wpAny_loadName_local I.ok.kind hk hn hm fin) hd
 ·rcases hk with hk | hk
  ·exact wpAny_Name (wpAny_loadName_cell I.ok.kind hk hc hcell fin) hd
  ·exact wpAny_Name (wpAny_loadName_free I.ok.kind hk hc hcell fin hcd) hd
theorem pe_int {i j pos}:PE X (.Constant (.int i) j pos) (tC (.int i)):=fun _ _ _ H _ I h=>wpAny_Constant_int ⟨.int i,H,I.tok _,⟨_,rfl⟩,h⟩
theorem pe_bl {b j pos}:PE X (.Constant (.bool b) j pos) (tC (.bl b)):=fun _ _ _ H _ I h=>Constant_bool ⟨.bl b,H,I,rfl,h⟩
theorem pe_non {j pos}:PE X (.Constant .none j pos) (tC .non):=fun _ _ _ H _ I h=>Constant_none ⟨.non,H,I,rfl,h⟩
theorem pe_str {x j pos}:PE X (.Constant (.str x) j pos) (tC (.str x)):=fun _ _ _ H _ I h=>Calls.Constant_str ⟨.str x,H,I.tok _,⟨_,rfl⟩,h⟩
def Gl (X:Cx) (x:Str):Prop:=X.env.kindOf x=some .globalImplicit
theorem ld_glob {E:Value→Shared→Prop} {pins:List (Addr×Obj)} {s:Shared} {σ:St} {H:Hp} {x:Str} {u:Value} {pos:Pos} {Q:Value→Shared→Prop} (I:Inv X pins σ H s) (hg:Gl X x) (hm:X.mg x=some u) (h:Q u s)
  (hd:(x == ("__debug__":Str))=false:=by decide):wpAny (model X.prog X.w) X.A (eval (.Name x pos) X.env) Q E s :=
 Calls.Name_function_global I.ok.kind hg (Calls.loadGlobal_global (by rw [I.ok.glob]; exact I.mod.glob.keeps I.bk) hm h) hd
theorem ld_blt {E:Value→Shared→Prop} {pins:List (Addr×Obj)} {s:Shared} {σ:St} {H:Hp} {x:Str} {u:Value} {pos:Pos} {Q:Value→Shared→Prop} (I:Inv X pins σ H s) (hg:Gl X x) (hm:X.mg x=none) (hv:bootBuiltins x=some u) (h:Q u s)
  (hn:x≠"__name__":=by decide) (hd:(x == ("__debug__":Str))=false:=by decide):wpAny (model X.prog X.w) X.A (eval (.Name x pos) X.env) Q E s:=by
 obtain ⟨mb,h1,h2⟩:=I.mod.blt
 exact Calls.Name_function_global I.ok.kind hg (Calls.loadGlobal_builtin (by rw [I.ok.glob]; exact I.mod.glob.keeps I.bk) hm (by rw [I.ok.blt]; exact h1.keeps I.bk) ((h2 x hn).trans hv) h) hd
theorem pe_glob {x:Str} {v:V} {u:Value} {pos:Pos} (hg:Gl X x) (hm:X.mg x=some u) (r:RelV v u) (hd:(x == ("__debug__":Str))=false:=by decide):PE X (.Name x pos) (tC v) :=
 fun _ _ _ H _ I h=>ld_glob I hg hm ⟨v,H,I,r,h⟩ hd
variable {a b:Expr} {ta tb:TE} {pos:Pos}
def tB (t:TE):TT:=fun σ H Q=>t σ H fun x H1=>∃ c,x=.bl c∧Q c H1
theorem pt_val {e:Expr} {t:TE} (h:PE X e t) (he:∀ whole,isTrue e X.env whole=(do let v ← whole; standAt e.pos; holding [v] (truthy v)):=by intro _; rfl):PT X e (tB t):=by
 intro pins s σ H Q I hw
 refine isTrue_plain (thn (h pins s σ H _ I hw) fun v s1 ⟨x,H1,I1,r1,q1⟩=>?_) (he _)
 obtain ⟨d,rfl,q⟩:=q1
 cases r1
 exact wpAny_truthy_bool ⟨H1,I1,q⟩
variable {tA tB':TT} {rest:List Expr}
def tAnd (t u:TT):TT:=fun σ H Q=>t σ H fun c H1=>if c=true then u σ H1 Q else Q false H1
theorem pw_and1 (ha:PT X a tA):PW X (.BoolOp .And [a] pos) tA:=by
 intro wh pins s σ H Q I h
 refine isTrue_and (thn (ha pins s σ H Q I h) fun c s1 e=>?_)
 cases c with
 | true=>exact isTrue_and_nil e
 | false=>exact e
theorem pw_and (ha:PT X a tA) (hb:PW X (.BoolOp .And (b :: rest) pos) tB'):PW X (.BoolOp .And (a :: b :: rest) pos) (tAnd tA tB'):=by
 intro wh pins s σ H Q I h
 refine isTrue_and (thn (ha pins s σ H _ I h) fun c s1 ⟨H1,I1,q1⟩=>?_)
 cases c with
 | true=>exact hb wh pins s1 σ H1 Q I1 q1
 | false=>exact ⟨H1,I1,q1⟩
def tAndV (ta tb:TE):TE:=fun σ H Q=>ta σ H fun x H1=>∃ c,x=.bl c∧if c=true then tb σ H1 Q else Q (.bl false) H1
theorem pe_one {op} {t:TE} (h:PE X a t):PE X (.BoolOp op [a] pos) t:=fun pins s σ H Q I hw=>BoolOp_one (h pins s σ H Q I hw)
theorem pe_and (ha:PE X a ta) (hb:PE X (.BoolOp .And (b :: rest) pos) tb):PE X (.BoolOp .And (a :: b :: rest) pos) (tAndV ta tb):=by
 intro pins s σ H Q I h
 refine BoolOp_and (thn (ha pins s σ H _ I h) fun v s1 ⟨x,H1,I1,r1,q1⟩=>?_)
 obtain ⟨c,rfl,q1⟩:=q1
 cases r1
 refine wpAny_truthy_bool ?_
 cases c with
 | true=>exact hb pins s1 σ H1 Q I1 q1
 | false=>exact ⟨.bl false,H1,I1,rfl,q1⟩
def tIf (t:TT) (ta tb:TE):TE:=fun σ H Q=>t σ H fun c H1=>if c=true then ta σ H1 Q else tb σ H1 Q
theorem pe_ifExp {c:Expr} (hc:PT X c tA) (ha:PE X a ta) (hb:PE X b tb):PE X (.IfExp c a b pos) (tIf tA ta tb):=by
 intro pins s σ H Q I h
 refine wpAny_IfExp (thn (hc pins s σ H _ I h) fun d s1 ⟨H1,I1,q1⟩=>?_)
 cases d with
 | true=>exact ha pins s1 σ H1 Q I1 q1
 | false=>exact hb pins s1 σ H1 Q I1 q1
end
def SqL (K:PySem.W.Frag) (H:Hp) (a:Addr) (xs:List V):Prop :=
 Rd H a (.lst xs) ∨
  ∃ (o:Obj) (its:Array Value) (n:Nat),K.lookup a=some o∧o.cls=.type "list"∧o.dict=none∧o.data=.seq its n∧its.size≤sizeLine∧Vals xs its.toList
def SqT (K:PySem.W.Frag) (H:Hp) (a:Addr) (xs:List V):Prop :=
 Rd H a (.tup xs) ∨
  ∃ (o:Obj) (its:Array Value) (n:Nat),K.lookup a=some o∧o.cls=.type "tuple"∧o.data=.seq its n∧its.size≤sizeLine∧Vals xs its.toList
def absV:Value→Option V
 | .none=>some .non
 | .bool b=>some (.bl b)
 | .int i _=>some (.int i)
 | .str x _=>some (.str x)
 | .bytes b _=>some (.byt b)
 | .float b _=>some (.flt b)
 | .ref a=>some (.ref a)
 | .type n=>some (.ty n)
 | _=>none
theorem RelV.abs {x:V} {u:Value} (r:RelV x u):absV u=some x:=by
 cases x with
 | non=>cases r; rfl
 | bl _=>cases r; rfl
 | int _=>obtain ⟨t,rfl⟩:=r; rfl
 | str _=>obtain ⟨t,rfl⟩:=r; rfl
 | byt _=>obtain ⟨t,rfl⟩:=r; rfl
 | flt _=>obtain ⟨t,rfl⟩:=r; rfl
 | ref _=>cases r; rfl
 | ty _=>cases r; rfl
theorem RelV.inj {x y:V} {u:Value} (r:RelV x u) (q:RelV y u):x=y:=Option.some.inj (r.abs.symm.trans q.abs)
theorem Vals.inj:∀ {xs ys:List V} {us:List Value},Vals xs us→Vals ys us→xs=ys
 | _,_,_,.nil,.nil=>rfl
 | _,_,_,.cons r t,.cons r' t'=>by rw [r.inj r',Vals.inj t t']
section
variable {X:Cx} {pins:List (Addr×Obj)} {σ:St} {H:Hp} {s:Shared} {a:Addr} {xs ys:List V}
theorem SqL.of {K:PySem.W.Frag} (h:H a=some (.lst xs)):SqL K H a xs:=.inl (.inl h)
theorem SqT.of {K:PySem.W.Frag} (h:H a=some (.tup xs)):SqT K H a xs:=.inl (.inl h)
theorem Inv.list (I:Inv X pins σ H s) (h:SqL X.K H a xs):∃ its:List Value,Vals xs its∧PlainL s.heap a its.toArray∧xs.length≤sizeLine:=by
 rcases h with h | ⟨o,its,n,hk,hc,hd,hs,hz,r⟩
 ·obtain ⟨z,its,n,r,e⟩:=h.ok I.hok
  exact ⟨its,r,⟨_,n,e,rfl,rfl,rfl⟩,z⟩
 ·refine ⟨its.toList,r,⟨o,n,I.kIn a o hk,hc,hd,by simpa using hs⟩,?_⟩
  have e:=r.length
  simp only [Array.length_toList] at e
  omega
theorem Inv.tuple (I:Inv X pins σ H s) (h:SqT X.K H a xs):∃ its:List Value,Vals xs its∧IsTup s.heap a its.toArray∧xs.length≤sizeLine:=by
 rcases h with h | ⟨o,its,n,hk,hc,hs,hz,r⟩
 ·obtain ⟨z,its,r,p⟩:=h.ok I.hok
  exact ⟨its,r,p.tup,z⟩
 ·refine ⟨its.toList,r,⟨o,I.kIn a o hk,hc,n,by simpa using hs⟩,?_⟩
  have e:=r.length
  simp only [Array.length_toList] at e
  omega
theorem Inv.list_inj (I:Inv X pins σ H s) (h:SqL X.K H a xs) (h':SqL X.K H a ys):xs=ys:=by
 obtain ⟨its,r,⟨o,n,e,_,_,d⟩,_⟩:=I.list h
 obtain ⟨its',r',⟨o',n',e',_,_,d'⟩,_⟩:=I.list h'
 rw [e] at e'; cases e'
 rw [d] at d'
 injection d' with d1 _
 have:its=its':=by simpa using congrArg Array.toList d1
 subst this
 exact r.inj r'
end
abbrev Cx.wish (X:Cx) (E:Value→Shared→Prop):Cx:={ X with xe:=E }
abbrev Cx.nox (X:Cx):Cx:=X.wish fun _ _=>False
theorem Cx.Ok.wish {X:Cx} (ok:X.Ok) (E:Value→Shared→Prop):(X.wish E).Ok :=
 ⟨ok.mod,ok.kind,ok.glob,ok.blt,ok.above,ok.inj,ok.has,ok.cab,ok.hd,ok.frames,ok.stk,ok.exf,ok.bs,ok.bsz,ok.noex,ok.exfs,ok.funs,ok.frf⟩
theorem Cx.Ok.unwish {X:Cx} {E:Value→Shared→Prop} (ok:(X.wish E).Ok):X.Ok :=
 ⟨ok.mod,ok.kind,ok.glob,ok.blt,ok.above,ok.inj,ok.has,ok.cab,ok.hd,ok.frames,ok.stk,ok.exf,ok.bs,ok.bsz,ok.noex,ok.exfs,ok.funs,ok.frf⟩
section
variable {X:Cx} {pins:List (Addr×Obj)} {σ:St} {H:Hp} {s:Shared} {E:Value→Shared→Prop}
theorem Inv.wish (I:Inv X pins σ H s) (E:Value→Shared→Prop):Inv (X.wish E) pins σ H s:=⟨I.ok.wish E,I.os,I.bare,I.base,I.loc,I.cell,I.free,I.freeC,I.pin,I.hok,I.len⟩
theorem Inv.unwish (I:Inv (X.wish E) pins σ H s):Inv X pins σ H s:=⟨I.ok.unwish,I.os,I.bare,I.base,I.loc,I.cell,I.free,I.freeC,I.pin,I.hok,I.len⟩
theorem SP.unwish {D:Ends} {f:Flow} {s':Shared} (h:SP (X.wish E) pins D f s'):SP X pins D f s':=by
 cases f with
 | next=>obtain ⟨σ',H',I,q⟩:=h; exact ⟨σ',H',I.unwish,q⟩
 | brk=>obtain ⟨σ',H',I,q⟩:=h; exact ⟨σ',H',I.unwish,q⟩
 | cont=>obtain ⟨σ',H',I,q⟩:=h; exact ⟨σ',H',I.unwish,q⟩
 | ret u=>obtain ⟨v,σ',H',I,r,q⟩:=h; exact ⟨v,σ',H',I.unwish,r,q⟩
theorem PSs.nox {st:List Stmt} {t:TS} (h:PSs X.nox st t):PSs X st t:=fun pins s σ H D I hw =>
 wpAny_mono (h pins s σ H D (I.wish _) hw) (fun _ _ q=>q.unwish) fun _ _ z=>False.elim z
end
section
variable {X:Cx} {st:Stmt} {rest:List Stmt} {t u:TS} {e:Expr} {te:TE} {pos:Pos}
def tNext:TS:=fun D σ H=>D.nx σ H
def tSeq (t u:TS):TS:=fun D σ H=>t { D with nx:=u D } σ H
theorem pss_nil:PSs X [] tNext:=fun _ _ σ H _ I h=>wpAny_execs_nil ⟨σ,H,I,h⟩
theorem pss_cons (h1:PS X st t) (h2:PSs X rest u):PSs X (st :: rest) (tSeq t u):=by
 intro pins s σ H D I h
 refine wpAny_execs_cons (thn (h1 pins s σ H { D with nx:=u D } I h) fun f s1 q=>?_)
 cases f with
 | next =>
  obtain ⟨σ',H',I',q⟩:=q
  exact h2 pins s1 σ' H' D I' q
 | ret v=>exact q
 | brk=>exact q
 | cont=>exact q
theorem pss_one (h1:PS X st t):PSs X [st] t:=by
 intro pins s σ H D I h
 refine wpAny_execs_cons (thn (h1 pins s σ H D I h) fun f s1 q=>?_)
 cases f with
 | next=>exact wpAny_execs_nil q
 | ret v=>exact q
 | brk=>exact q
 | cont=>exact q
theorem Inv.quiet {pins:List (Addr×Obj)} {σ:St} {H:Hp} {s:Shared} (I:Inv X pins σ H s):interactive X.env=false:=by simp [interactive,I.ok.kind]
def tDrop (te:TE):TS:=fun D σ H=>te σ H fun _ H1=>D.nx σ H1
theorem ps_expr (he:PE X e te) (hs:swapsWith e none pos.line X.env=pure false:=by rfl):PS X (.Expr e pos) (tDrop te):=by
 intro pins s σ H D I h
 exact wpAny_Expr_any (thn (he pins s σ H _ I h) fun v s1 ⟨x,H1,I1,r1,q1⟩=>⟨σ,H1,I1,q1⟩) I.quiet hs
def tRet (te:TE):TS:=fun D σ H=>te σ H D.rt
theorem ps_ret (he:PE X e te):PS X (.Return (some e) pos) (tRet te):=by
 intro pins s σ H D I h
 exact wpAny_Return_some (thn (he pins s σ H _ I h) fun v s1 ⟨x,H1,I1,r1,q1⟩=>⟨x,σ,H1,I1,r1,q1⟩)
def tIfS (c:TT) (t u:TS):TS:=fun D σ H=>c σ H fun b H1=>if b=true then t D σ H1 else u D σ H1
theorem ps_if {c:Expr} {a b:List Stmt} {tc:TT} (hc:PT X c tc) (ha:PSs X a t) (hb:PSs X b u):PS X (.If c a b pos) (tIfS tc t u):=by
 intro pins s σ H D I h
 refine wpAny_If (thn (hc pins s σ H _ I h) fun d s1 ⟨H1,I1,q1⟩=>?_)
 cases d with
 | true=>exact ha pins s1 σ H1 D I1 q1
 | false=>exact hb pins s1 σ H1 D I1 q1
end
abbrev TG:=V→St→Hp→(St→Hp→Prop)→Prop
abbrev TGs:=List V→St→Hp→(St→Hp→Prop)→Prop
def PG (X:Cx) (target:Expr) (t:TG):Prop :=
 ∀ (pins:List (Addr×Obj)) (s:Shared) (σ:St) (H:Hp) (v:V) (u:Value) (Q:St→Hp→Prop),Inv X pins σ H s→RelV v u→t v σ H Q →
  wpAny (model X.prog X.w) X.A (assign target X.env u) (fun _ s'=>∃ σ' H',Inv X pins σ' H' s'∧Q σ' H') X.xe s
def PGs (X:Cx) (ts:List Expr) (t:TGs):Prop :=
 ∀ (pins:List (Addr×Obj)) (s:Shared) (σ:St) (H:Hp) (vs:List V) (us:List Value) (Q:St→Hp→Prop),Inv X pins σ H s→Vals vs us→t vs σ H Q →
  wpAny (model X.prog X.w) X.A (assignInOrder ((assignEach ts X.env).map (·.2)) us) (fun _ s'=>∃ σ' H',Inv X pins σ' H' s'∧Q σ' H') X.xe s
section
variable {X:Cx} {pos:Pos}
def gName (i:Nat):TG:=fun v σ H Q=>Q (σ.set i (some v)) H
theorem pg_name {i:Nat} {x:Str} (hN:X.N.Nodup) (hi:X.N[i]?=some x) (hx:Loc X.env.scope x) (hf:X.fn x=true∨X.env.scope.names.lookup x=some .local:=by first | exact .inl rfl | exact .inr rfl | assumption):PG X (.Name x pos) (gName i):=by
 intro pins s σ H v u Q I r h
 exact wpAny_assign_Name (store_ok I hN hi hx r (fun s' I'=>⟨_,H,I',h⟩) hf)
def gNil:TGs:=fun vs σ H Q=>vs=[]∧Q σ H
def gCons (t:TG) (u:TGs):TGs:=fun vs σ H Q=>∃ v r,vs=v :: r∧t v σ H fun σ' H'=>u r σ' H' Q
theorem pgs_nil:PGs X [] gNil:=by
 intro pins s σ H vs us Q I r h
 obtain ⟨e,h⟩:=h
 subst e
 cases r
 exact assignInOrder_nil ⟨σ,H,I,h⟩
theorem pgs_cons {e:Expr} {es:List Expr} {t:TG} {u:TGs} (h1:PG X e t) (h2:PGs X es u)
  (hs:(assignEach (e :: es) X.env).map (·.2)=assign e X.env :: (assignEach es X.env).map (·.2):=by rfl):PGs X (e :: es) (gCons t u):=by
 intro pins s σ H vs us Q I r h
 obtain ⟨v,vr,e1,h⟩:=h
 subst e1
 cases r with
 | cons r rr =>
  rw [hs]
  refine assignInOrder_cons (thn (h1 pins s σ H _ _ _ I r h) fun _ s1 ⟨σ1,H1,I1,q1⟩=>?_)
  exact h2 pins s1 σ1 H1 _ _ Q I1 rr q1
def gTup (K:PySem.W.Frag) (n:Nat) (t:TGs):TG:=fun v σ H Q=>∃ a xs,v=.ref a∧SqT K H a xs∧xs.length=n∧t xs σ H Q
theorem pg_tup {es:List Expr} {k:Nat} {t:TGs} {n:Nat} (hc:X.calm=true) (h:PGs X es t)
  (hn:(assignEach es X.env).length=n:=by rfl) (hst:(assignEach es X.env).findIdx? (·.1)=none:=by rfl):PG X (.Tuple es k pos) (gTup X.K n t):=by
 intro pins s σ H v u Q I r hw
 obtain ⟨a,xs,e1,hq,hl,hw⟩:=hw
 subst e1
 cases r
 obtain ⟨its,rv,ht,hz⟩:=I.tuple hq
 refine assign_Tuple_tuple (I.ok.hd hc) ht (by simp [hn,← hl,rv.length]) hst fun h' hx=>?_
 have I1:Inv X pins σ H { s with heap:=h' }:=I.kept (t':=s.toks) fun b o e=>hx b o (Nat.ne_of_lt (Heap.lt_size e)) e
 exact h pins _ σ H xs _ Q I1 (by simpa using rv) hw
def tAsg (te:TE) (g:TG):TS:=fun D σ H=>te σ H fun x H1=>g x σ H1 D.nx
theorem ps_asg {tg e:Expr} {te:TE} {g:TG} (he:PE X e te) (hg:PG X tg g) (hs:swapsWithSole [tg] e pos.line X.env=pure false:=by rfl) (hw:swappedStores [tg] e X.env=pure none:=by rfl)
  (h1:(assignEach [tg] X.env).map (·.2)=[assign tg X.env]:=by rfl):PS X (.Assign [tg] e pos) (tAsg te g):=by
 intro pins s σ H D I h
 refine wpAny_Assign_stores (thn (he pins s σ H _ I h) fun v s1 ⟨x,H1,I1,r1,q1⟩=>?_) hs hw
 rw [h1]
 exact thn (hg pins s1 σ H1 x v _ I1 r1 q1) fun _ s2 q=>q
theorem ps_set {i:Nat} {x:Str} {e:Expr} {te:TE} {pos':Pos} (hN:X.N.Nodup) (hi:X.N[i]?=some x) (hx:Loc X.env.scope x) (he:PE X e te) (hs:swapsWith e (some (.Name x pos')) pos.line X.env=pure false:=by rfl) (hf:X.fn x=true∨X.env.scope.names.lookup x=some .local:=by first | exact .inl rfl | exact .inr rfl | assumption) :
  PS X (.Assign [.Name x pos'] e pos) (tAsg te (gName i)):=by
 intro pins s σ H D I h
 refine wpAny_Assign_Name (thn (he pins s σ H _ I h) fun v s1 ⟨y,H1,I1,r1,q1⟩=>?_) hs
 exact store_ok I1 hN hi hx r1 (fun s2 I2=>⟨_,H1,I2,q1⟩) hf
end
section
variable {X:Cx} {pos:Pos}
def tWhile (c:TT) (tb:TS):TS:=fun D σ H=>∃ W:Nat→St→Hp→Prop,(∃ m,W m σ H)∧∀ m σ H,W m σ H →
 c σ H fun b H1=>if b=true then ∃ N:St→Hp→Prop,(∀ σ' H',N σ' H'→∃ m',m' < m∧W m' σ' H')∧tb { D with nx:=N,ct:=N,bk:=D.nx } σ H1 else D.nx σ H1
theorem ps_while {c:Expr} {body:List Stmt} {tc:TT} {tb:TS} (hp:PassesOwn (model X.prog X.w) X.A X.env X.xe) (hc:PT X c tc) (hb:PSs X body tb):PS X (.While c body [] pos) (tWhile tc tb):=by
 intro pins s σ H D I h
 obtain ⟨W,⟨m0,w0⟩,turn⟩:=h
 refine wpAny_While (codeAny_whileLoop (fun n s'=>∃ σ' H',Inv X pins σ' H' s'∧W n σ' H') ?_ m0 ⟨σ,H,I,w0⟩)
 rintro n s1 ⟨σ1,H1,I1,w1⟩
 refine wpAny_passesOwn hp (thn (hc pins s1 σ1 H1 _ I1 (turn n σ1 H1 w1)) fun b s2 ⟨H2,I2,q2⟩=>?_)
 cases b with
 | true =>
  obtain ⟨N,hN,q2⟩:=q2
  rw [if_pos rfl]
  refine wpAny_passesOwn hp (thn (hb pins s2 σ1 H2 _ I2 q2) fun f s3 q3=>?_)
  cases f with
  | next =>
   obtain ⟨σ3,H3,I3,n3⟩:=q3
   obtain ⟨m',hm,w3⟩:=hN σ3 H3 n3
   exact ⟨m',hm,σ3,H3,I3,w3⟩
  | cont =>
   obtain ⟨σ3,H3,I3,n3⟩:=q3
   obtain ⟨m',hm,w3⟩:=hN σ3 H3 n3
   exact ⟨m',hm,σ3,H3,I3,w3⟩
  | brk=>exact q3
  | ret v=>exact q3
 | false =>
  rw [if_neg Bool.false_ne_true]
  exact wpAny_execs_nil ⟨σ1,H2,I2,q2⟩
end
structure It where
 go:Nat→Hp→Prop
 yld:Nat→Hp→V→Hp→Prop
 stop:Nat→Hp→Prop
def FpOk (X:Cx) (pins:List (Addr×Obj)) (H:Hp) (b:Addr):Prop :=
 H b=none∧b≠X.env.locals∧b ∉ X.fs∧(b∈X.ex∨X.s₀.heap.objs.size≤b)∧(∀ x c,X.env.cells.lookup x=some c→c≠b)∧∀ p∈X.pn ++ pins,p.1≠b
theorem Inv.fpOk {X:Cx} {pins:List (Addr×Obj)} {σ:St} {H H':Hp} {s:Shared} {b:Addr} (I:Inv X pins σ H s) (hb:s.heap.objs.size≤b) (hn:H' b=none):FpOk X pins H' b:=by
 refine ⟨hn,Nat.ne_of_gt (Nat.lt_of_lt_of_le I.lt hb),I.nofs hb,.inr (Nat.le_trans I.sz hb),fun x c e z=>?_,fun p hp z=>?_⟩
 ·obtain ⟨v,q⟩:=I.cell x c e
  exact absurd (Nat.lt_of_lt_of_le q.lt (by rw [z]; exact hb)) (Nat.lt_irrefl _)
 ·exact absurd (Nat.lt_of_lt_of_le (Heap.lt_size (I.pin p hp).1) (by rw [z]; exact hb)) (Nat.lt_irrefl _)
structure Turn (P:Program) (w:World) (K:PySem.W.Frag) (tg:Expr) (J:It) (fp:List Addr) (it:Addr) (tn:Nat→Heap→Prop):Prop where
 mem:it∈fp
 obj:∀ i h,tn i h→∀ b∈fp,∃ o,h.get? b=some o∧∀ v,o.data≠.cell v
 keep:∀ i h h',tn i h→(∀ b∈fp,∀ o,h.get? b=some o→h'.get? b=some o)→tn i h'
 item:∀ (X:Cx),X.prog=P→X.w=w→X.K=K→X.calm=true→∀ (i:Nat) (pins:List (Addr×Obj)) (s:Shared) (σ:St) (H:Hp) (E:Value→Shared→Prop),Inv X pins σ H s→(∀ b∈fp,FpOk X pins H b)→tn i s.heap→J.go i H →
  wpAny (model P w) X.A (pyNext (.ref it)) (fun r s1=>∃ u,r=some u ∧
   wpAny (model P w) X.A (letOwnedTupleGo tg (.ref it) u) (fun _ s2=>∃ x H',Inv X pins σ H' s2∧RelV x u∧J.yld i H x H'∧tn (i + 1) s2.heap∧∀ b∈fp,H' b=none) E s1) E s
 done:∀ (X:Cx),X.prog=P→X.w=w→X.K=K→X.calm=true→∀ (i:Nat) (pins:List (Addr×Obj)) (s:Shared) (σ:St) (H:Hp) (E:Value→Shared→Prop),Inv X pins σ H s→(∀ b∈fp,FpOk X pins H b)→tn i s.heap→J.stop i H →
  wpAny (model P w) X.A (pyNext (.ref it)) (fun r s1=>r=none∧Inv X pins σ H s1) E s
 self:∀ (A:Around) (i:Nat) (s:Shared) (Q:Value→Shared→Prop) (E:Value→Shared→Prop),tn i s.heap→Q (.ref it) s→wpAny (model P w) A (pyIter (.ref it)) Q E s
abbrev TI:=St→Hp→(It→Hp→Prop)→Prop
def PIE (X:Cx) (pins:List (Addr×Obj)) (σ:St) (tg:Expr) (R:It→Hp→Prop) (itv:Value) (s2:Shared):Prop :=
 ∃ (it:Addr) (fp:List Addr) (tn:Nat→Heap→Prop) (J:It) (H':Hp),itv=.ref it∧Inv X pins σ H' s2∧Turn X.prog X.w X.K tg J fp it tn∧tn 0 s2.heap∧(∀ b∈fp,FpOk X pins H' b)∧R J H'
def PI (X:Cx) (tg iter:Expr) (wi:TI):Prop :=
 ∀ (pins:List (Addr×Obj)) (s:Shared) (σ:St) (H:Hp) (R:It→Hp→Prop),Inv X pins σ H s→wi σ H R →
  wpAny (model X.prog X.w) X.A (eval iter X.env) (fun v s1=>wpAny (model X.prog X.w) X.A (pyIter v) (PIE X pins σ tg R) X.xe s1) X.xe s
theorem go_of {M:Model} {A:Around} {E:Value→Shared→Prop} {s:Shared} {tg:Expr} {it:Addr} {u:Value} {o:Obj} {n:String} {vs:Array Value} {Q:Unit→Shared→Prop} (ho:s.heap.get? it=some o) (hc:o.cls=.type n) (hd:o.data=.fields vs)
    (hn:["enumerate","zip","dict_itemiterator","dict_reverseitemiterator","odict_iterator","itertools.zip_longest","itertools.pairwise"].contains n=false) (hQ:Q () s):wpAny M A (letOwnedTupleGo tg (.ref it) u) Q E s:=by
  unfold letOwnedTupleGo
  cases tg <;> first
    | exact wpAny_pure hQ
    | (cases u <;> first
        | exact wpAny_pure hQ
        | (refine wpAny_bind (wpAny_load ho ?_)
           rw [hc,hd]
           show wpAny M A (if (["enumerate","zip","dict_itemiterator","dict_reverseitemiterator","odict_iterator","itertools.zip_longest","itertools.pairwise"].contains n && vs[0]? == some (rawInt _))=true then _ else _) Q E s
           rw [if_neg (by intro h; rw [hn,Bool.false_and] at h; cases h)]
           exact wpAny_pure hQ))
def Itl (K:PySem.W.Frag) (a:Addr):It :=
 ⟨fun i H=>∃ xs x,SqL K H a xs∧xs[i]?=some x,fun i H x H'=>H'=H∧∀ xs,SqL K H a xs→xs[i]?=some x,fun i H=>∃ xs,SqL K H a xs∧xs.length≤i⟩
def Itr (lo:Int) (n:Nat):It:=⟨fun i _=>i < n,fun i H x H'=>H'=H∧x=.int (lo + i),fun i _=>n≤i⟩
theorem turn_list {P:Program} {w:World} {K:PySem.W.Frag} {tg:Expr} (a it:Addr):Turn P w K tg (Itl K a) [it] it (fun i h=>h.IsListIter it a i) where
 mem:=by simp
 obj:=fun i h st b hb=>by
  have e:b=it:=by simpa using hb
  subst e
  obtain ⟨o,e,c,d⟩:=st
  exact ⟨o,e,fun v z=>by rw [d] at z; cases z⟩
 keep:=fun i h h' st k=>st.at fun o e=>k it (by simp) o e
 item:=by
  intro X hP hw hK hc i pins s σ H E I hf st hg
  subst hP hw hK
  obtain ⟨xs,x,hq,hx⟩:=hg
  obtain ⟨its,rv,p,hz⟩:=I.list hq
  obtain ⟨u,hu,ru⟩:=rv.get hx
  obtain ⟨f0,f1,f2,f3,f4,f5⟩:=hf it (by simp)
  refine wpAny_pyNext_list_item st p.isList (x:=u) (by simpa using hu) fun h' st' sb=>?_
  have I1:Inv X pins σ H { s with heap:=h' }:=I.turned (t':=s.toks) (fun b o hb e=>(sb.2 b hb).trans e) f0 f1 f3 f4 f5
  obtain ⟨o,e,c,d⟩:=id st'
  exact ⟨u,rfl,go_of (s:={ s with heap:=h' }) e c d (by decide) ⟨x,H,I1,ru,⟨rfl,fun ys hy=>by rw [I.list_inj hy hq]; exact hx⟩,st',fun b hb=>(hf b hb).1⟩⟩
 done:=by
  intro X hP hw hK hc i pins s σ H E I hf st hg
  subst hP hw hK
  obtain ⟨xs,hq,hx⟩:=hg
  obtain ⟨its,rv,p,hz⟩:=I.list hq
  obtain ⟨f0,f1,f2,f3,f4,f5⟩:=hf it (by simp)
  have hl:=rv.length
  exact wpAny_pyNext_list_end (I.ok.hd hc) st p.isList (by simp; omega) fun h' eb=>⟨rfl,I.turned (t':=s.toks) (fun b o hb e=>eb b o hb e) f0 f1 f3 f4 f5⟩
 self:=fun _ _ _ _ _ st h=>wpAny_pyIter_listiter st h
theorem turn_range {P:Program} {w:World} {K:PySem.W.Frag} {tg:Expr} (it:Addr) (lo:Int) (n:Nat):Turn P w K tg (Itr lo n) [it] it (fun i h=>IsRangeIter h it (lo + (i:Nat) * 1) ((n:Int) - (i:Nat)) 1) where
 mem:=by simp
 obj:=fun i h st b hb=>by
  have e:b=it:=by simpa using hb
  subst e
  exact ⟨_,st,fun v z=>by
   have z':Data.fields _=Data.cell v:=z
   cases z'⟩
 keep:=fun i h h' st k=>k it (by simp) _ st
 item:=by
  intro X hP hw hK hc i pins s σ H E I hf st hg
  subst hP hw hK
  obtain ⟨f0,f1,f2,f3,f4,f5⟩:=hf it (by simp)
  have W:=Walks.range (prog:=X.prog) (w:=X.w) (I.ok.hd hc) it lo 1 n
  refine W.item i s _ _ hg st fun v h' tk hv st' kk=>?_
  obtain ⟨t,rfl⟩:=hv
  have I1:Inv X pins σ H { s with heap:=h',toks:=tk }:=I.turned (fun b o hb e=>kk b o (by simpa using hb) e) f0 f1 f3 f4 f5
  refine ⟨_,rfl,go_of (s:={ s with heap:=h',toks:=tk }) (n:="range_iterator") st' rfl rfl (by decide) ⟨.int (lo + i),H,I1,⟨t,?_⟩,⟨rfl,rfl⟩,st',fun b hb=>(hf b hb).1⟩⟩
  rw [Int.mul_one]
 done:=by
  intro X hP hw hK hc i pins s σ H E I hf st hg
  subst hP hw hK
  obtain ⟨f0,f1,f2,f3,f4,f5⟩:=hf it (by simp)
  exact wpAny_pyNext_range_end (I.ok.hd hc) st (by have:n≤i:=hg; omega) fun h' eb=>⟨rfl,I.turned (t':=s.toks) (fun b o hb e=>eb b o hb e) f0 f1 f3 f4 f5⟩
 self:=fun _ _ _ _ _ st h=>wpAny_pyIter_rangeiter st h
section
variable {X:Cx} {tg:Expr}
def iList (K:PySem.W.Frag) (tl:TE):TI:=fun σ H R=>tl σ H fun x H1=>∃ a,x=.ref a∧(∃ xs,SqL K H1 a xs)∧R (Itl K a) H1
theorem pi_list {l:Expr} {tl:TE} (hl:PE X l tl):PI X tg l (iList X.K tl):=by
 intro pins s σ H R I h
 refine thn (hl pins s σ H _ I h) fun v s1 ⟨x,H1,I1,r1,q1⟩=>?_
 obtain ⟨a,e,⟨xs,hq⟩,q⟩:=q1
 subst e
 cases r1
 obtain ⟨its,rv,p,hz⟩:=I1.list hq
 refine wpAny_pyIter_list p.isList ?_
 refine ⟨s1.heap.objs.size,[s1.heap.objs.size],_,_,H1,rfl,I1.kept (t':=s1.toks) fun b o e=>Heap.get?_push_of_some _ e,turn_list a _,⟨_,Heap.get?_push_size _ rfl,rfl,rfl⟩,fun b hb=>?_,q⟩
 have e:b=s1.heap.objs.size:=by simpa using hb
 subst e
 exact I1.fpOk (Nat.le_refl _) (I1.hok.fresh (Nat.le_refl _))
theorem range_it {pins:List (Addr×Obj)} {σ:St} {H:Hp} {s:Shared} {R:It→Hp→Prop} {E:Value→Shared→Prop} {lo hi:Int} {t u v:Tok} {tk:Nat} (I:Inv X pins σ H s) (h1:-(2 ^ 62)≤lo) (h2:lo < 2 ^ 62) (h3:-(2 ^ 62)≤hi) (h4:hi < 2 ^ 62)
  (q:R (Itr lo (hi - lo).toNat) H):wpAny (model X.prog X.w) X.A (pyIter (.ref s.heap.objs.size)) (PIE X pins σ tg R) E { s with heap:=s.heap.push { cls:=.type "range",data:=.fields #[.int lo t,.int hi u,.int 1 v] },toks:=tk }:=by
 refine wpAny_pyIter_range (IsRange.new ..) (small_one h1 h2 h3 h4) ?_
 have I1:Inv X pins σ H { s with heap:=s.heap.push { cls:=.type "range",data:=.fields #[.int lo t,.int hi u,.int 1 v] },toks:=tk }:=I.kept fun b o e=>Heap.get?_push_of_some _ e
 refine ⟨(s.heap.push { cls:=.type "range",data:=.fields #[.int lo t,.int hi u,.int 1 v] }).objs.size,[(s.heap.push { cls:=.type "range",data:=.fields #[.int lo t,.int hi u,.int 1 v] }).objs.size],_,_,H,rfl,
  I1.kept (t':=tk) fun b o e=>Heap.get?_push_of_some _ e,turn_range _ lo (hi - lo).toNat,?_,fun b hb=>?_,q⟩
 ·have e1:lo + ((0:Nat):Int) * 1=lo:=by simp
  have e2:(((hi - lo).toNat:Nat):Int) - ((0:Nat):Int)=Builtin.Range.rangeSize lo hi 1:=by rw [rangeSize_one]; split <;> omega
  show IsRangeIter _ _ (lo + ((0:Nat):Int) * 1) ((((hi - lo).toNat:Nat):Int) - ((0:Nat):Int)) 1
  rw [e1,e2]
  exact Heap.get?_push_size _ rfl
 ·have e:b=(s.heap.push { cls:=.type "range",data:=.fields #[.int lo t,.int hi u,.int 1 v] }).objs.size:=by simpa using hb
  subst e
  exact I1.fpOk (Nat.le_refl _) (I1.hok.fresh (Nat.le_refl _))
def iRng1 (ta:TA):TI:=fun σ H R=>ta σ H fun vs H1=>∃ j:Int,vs=[.int j]∧-(2 ^ 62)≤j∧j < 2 ^ 62∧R (Itr 0 j.toNat) H1
theorem pi_range1 {a:Expr} {ta:TA} {p pos:Pos} (hg:Gl X "range") (hm:X.mg "range"=none) (ha:PA X [a] ta) (hs:starEach [a] X.env=[(false,eval a X.env)]:=by rfl):PI X tg (.Call (.Name "range" p) [a] [] pos) (iRng1 ta):=by
 intro pins s σ H R I h
 refine Call_ (ld_blt I hg hm boot_range (PyProof.Rows.callWith_type1 (thn (ha pos pins s σ H _ I h) fun us s1 ⟨vs,H1,I1,r1,q1⟩=>?_) hs rfl))
 obtain ⟨j,e,q1,q2,q⟩:=q1
 subst e
 cases r1 with
 | cons r rr =>
  cases rr
  obtain ⟨t,rfl⟩:=r
  exact call_range_1 (range_it I1 (by omega) (by omega) q1 q2 (by simpa using q))
def tFor (wi:TI) (g:TG) (tb:TS):TS:=fun D σ H=>wi σ H fun J H1=>∃ W:Nat→Nat→St→Hp→Prop,(∃ m,W 0 m σ H1)∧∀ i m σ H,W i m σ H →
 (J.stop i H∧D.nx σ H)∨(J.go i H∧∃ N:St→Hp→Prop,(∀ σ' H',N σ' H'→∃ m',m' < m∧W (i + 1) m' σ' H')∧∀ x H',J.yld i H x H'→g x σ H' fun σ2 H2=>tb { D with nx:=N,ct:=N,bk:=D.nx } σ2 H2)
def pinsAt (fp:List Addr) (h:Heap):List (Addr×Obj):=fp.filterMap fun b=>(h.get? b).map fun o=>(b,o)
theorem mem_pinsAt {fp:List Addr} {h:Heap} {b:Addr} {o:Obj} (hb:b∈fp) (e:h.get? b=some o):(b,o)∈pinsAt fp h:=List.mem_filterMap.mpr ⟨b,hb,by rw [e]; rfl⟩
theorem of_pinsAt {fp:List Addr} {h:Heap} {p:Addr×Obj} (hp:p∈pinsAt fp h):p.1∈fp∧h.get? p.1=some p.2:=by
 obtain ⟨b,hb,e⟩:=List.mem_filterMap.mp hp
 cases q:h.get? b with
 | none=>rw [q] at e; cases e
 | some o =>
  rw [q] at e
  have e':(b,o)=p:=Option.some.inj e
  subst e'
  exact ⟨hb,q⟩
theorem Inv.pinned {pins:List (Addr×Obj)} {σ:St} {H:Hp} {s:Shared} {fp:List Addr} (I:Inv X pins σ H s) (hf:∀ b∈fp,FpOk X pins H b) (ho:∀ b∈fp,∃ o,s.heap.get? b=some o∧∀ v,o.data≠.cell v):Inv X (pins ++ pinsAt fp s.heap) σ H s :=
 I.pins_of fun p hp=>(List.mem_append.mp hp).elim (fun z=>I.pin p (List.mem_append_right _ z)) fun z=>by
  obtain ⟨hb,e⟩:=of_pinsAt z
  obtain ⟨f0,f1,f2,_⟩:=hf p.1 hb
  obtain ⟨o,e',d⟩:=ho p.1 hb
  rw [e] at e'; cases e'
  exact ⟨e,f0,f1,f2,d⟩
theorem Inv.unpinned {pins pl:List (Addr×Obj)} {σ:St} {H:Hp} {s:Shared} (I:Inv X (pins ++ pl) σ H s):Inv X pins σ H s:=I.pins_of fun p hp=>I.pin p (List.mem_append_right _ (List.mem_append_left _ hp))
theorem ps_for {iter:Expr} {body:List Stmt} {wi:TI} {g:TG} {tb:TS} {pos:Pos} (hp:PassesOwn (model X.prog X.w) X.A X.env X.xe) (hc:X.calm=true) (hi:PI X tg iter wi) (hg:PG X tg g) (hb:PSs X body tb)
  (hs:∀ x,foldedSetIterable iter X.env x=pure x:=by intro _; rfl):PS X (.For tg iter body [] pos) (tFor wi g tb):=by
 intro pins s σ H D I h
 refine wpAny_For (thn (hi pins s σ H _ I h) fun v s1 h1=>thn h1 fun itv s2 h2=>?_) hs
 obtain ⟨it,fp,tn,J,H2,e,I2,T,st2,f2,W,⟨m0,w0⟩,turn⟩:=h2
 subst e
 have stat:∀ {H':Hp},(∀ b∈fp,H' b=none)→∀ b∈fp,FpOk X pins H' b:=fun hn b hb=>⟨hn b hb,(f2 b hb).2⟩
 refine codeAny_forLoop_any (fun n s'=>∃ i σ' H',Inv X pins σ' H' s'∧tn i s'.heap∧(∀ b∈fp,H' b=none)∧W i n σ' H') ?_ m0 ⟨0,σ,H2,I2,st2,fun b hb=>(f2 b hb).1,w0⟩
 rintro n s3 ⟨i,σ3,H3,I3,st3,fr3,w3⟩
 rcases turn i n σ3 H3 w3 with ⟨stop,qn⟩ | ⟨go,N,hN,step⟩
 ·refine wpAny_passesOwn hp (thn (T.done X rfl rfl rfl hc i pins s3 σ3 H3 X.xe I3 (stat fr3) st3 stop) fun r s4 ⟨hr,I4⟩=>?_)
  subst hr
  exact wpAny_execs_nil ⟨σ3,H3,I4,qn⟩
 ·refine wpAny_passesOwn hp (thn (T.item X rfl rfl rfl hc i pins s3 σ3 H3 X.xe I3 (stat fr3) st3 go) fun r s4 ⟨u,hr,h4⟩=>?_)
  subst hr
  refine wpAny_passesOwn hp (thn h4 fun _ s5 ⟨x,H5,I5,r5,y5,st5,fr5⟩=>?_)
  have I5':=I5.pinned (stat fr5) (T.obj _ _ st5)
  refine wpAny_passesOwn hp (thn (hg _ s5 σ3 H5 x u _ I5' r5 (step x H5 y5)) fun _ s6 ⟨σ6,H6,I6,q6⟩=>?_)
  refine wpAny_passesOwn hp (thn (hb _ s6 σ6 H6 _ I6 q6) fun f s7 q7=>?_)
  have again:∀ {σ7:St} {H7:Hp},Inv X (pins ++ pinsAt fp s5.heap) σ7 H7 s7→N σ7 H7→∃ m,m < n∧∃ i σ' H',Inv X pins σ' H' s7∧tn i s7.heap∧(∀ b∈fp,H' b=none)∧W i m σ' H':=fun {σ7 H7} I7 n7=>by
   obtain ⟨m',hm,w7⟩:=hN σ7 H7 n7
   refine ⟨m',hm,i + 1,σ7,H7,I7.unpinned,T.keep _ _ _ st5 fun b hb o e=>(I7.pin (b,o) (List.mem_append_right _ (List.mem_append_right _ (mem_pinsAt hb e)))).1,fun b hb=>?_,w7⟩
   obtain ⟨o,e,d⟩:=T.obj _ _ st5 b hb
   exact (I7.pin (b,o) (List.mem_append_right _ (List.mem_append_right _ (mem_pinsAt hb e)))).2.1
  cases f with
  | next=>obtain ⟨σ7,H7,I7,n7⟩:=q7; exact again I7 n7
  | cont=>obtain ⟨σ7,H7,I7,n7⟩:=q7; exact again I7 n7
  | brk=>obtain ⟨σ7,H7,I7,q7⟩:=q7; exact ⟨σ7,H7,I7.unpinned,q7⟩
  | ret v=>obtain ⟨x7,σ7,H7,I7,r7,q7⟩:=q7; exact ⟨x7,σ7,H7,I7.unpinned,r7,q7⟩
end
theorem for_list {K:PySem.W.Frag} {a:Addr} {xs:List V} {g:TG} {tb:TS} {D:Ends} {σ:St} {H:Hp} (Pv:Nat→St→Hp→Prop) (h0:Pv 0 σ H) (hl:∀ i σ H,i≤xs.length→Pv i σ H→SqL K H a xs)
  (hs:∀ i x σ H,xs[i]?=some x→Pv i σ H→g x σ H fun σ2 H2=>tb { D with nx:=Pv (i + 1),ct:=Pv (i + 1),bk:=D.nx } σ2 H2) (hd:∀ σ H,Pv xs.length σ H→D.nx σ H) :
  ∃ W:Nat→Nat→St→Hp→Prop,(∃ m,W 0 m σ H)∧∀ i m σ H,W i m σ H →
   ((Itl K a).stop i H∧D.nx σ H)∨((Itl K a).go i H∧∃ N:St→Hp→Prop,(∀ σ' H',N σ' H'→∃ m',m' < m∧W (i + 1) m' σ' H')∧∀ x H',(Itl K a).yld i H x H'→g x σ H' fun σ2 H2=>tb { D with nx:=N,ct:=N,bk:=D.nx } σ2 H2):=by
 refine ⟨fun i m σ H=>m=xs.length - i∧i≤xs.length∧Pv i σ H,⟨xs.length,by simp,Nat.zero_le _,h0⟩,?_⟩
 rintro i m σ H ⟨rfl,hi,p⟩
 have q:=hl i σ H hi p
 by_cases hlt:i < xs.length
 ·refine .inr ⟨⟨xs,xs[i],q,by simp [hlt]⟩,Pv (i + 1),fun σ' H' p'=>⟨xs.length - (i + 1),by omega,rfl,hlt,p'⟩,fun x H' y=>?_⟩
  obtain ⟨e,y⟩:=y
  subst e
  exact hs i x σ _ (y xs q) p
 ·have e:i=xs.length:=by omega
  subst e
  exact .inl ⟨⟨xs,q,Nat.le_refl _⟩,hd σ H p⟩
theorem for_range {lo:Int} {n:Nat} {g:TG} {tb:TS} {D:Ends} {σ:St} {H:Hp} (Pv:Nat→St→Hp→Prop) (h0:Pv 0 σ H)
  (hs:∀ i σ H,i < n→Pv i σ H→g (.int (lo + i)) σ H fun σ2 H2=>tb { D with nx:=Pv (i + 1),ct:=Pv (i + 1),bk:=D.nx } σ2 H2) (hd:∀ σ H,Pv n σ H→D.nx σ H) :
  ∃ W:Nat→Nat→St→Hp→Prop,(∃ m,W 0 m σ H)∧∀ i m σ H,W i m σ H →
   ((Itr lo n).stop i H∧D.nx σ H)∨((Itr lo n).go i H∧∃ N:St→Hp→Prop,(∀ σ' H',N σ' H'→∃ m',m' < m∧W (i + 1) m' σ' H')∧∀ x H',(Itr lo n).yld i H x H'→g x σ H' fun σ2 H2=>tb { D with nx:=N,ct:=N,bk:=D.nx } σ2 H2):=by
 refine ⟨fun i m σ H=>m=n - i∧i≤n∧Pv i σ H,⟨n,by simp,Nat.zero_le _,h0⟩,?_⟩
 rintro i m σ H ⟨rfl,hi,p⟩
 by_cases hlt:i < n
 ·refine .inr ⟨hlt,Pv (i + 1),fun σ' H' p'=>⟨n - (i + 1),by omega,rfl,hlt,p'⟩,fun x H' y=>?_⟩
  obtain ⟨e,y⟩:=y
  subst e y
  exact hs i σ _ hlt p
 ·have e:i=n:=by omega
  subst e
  exact .inl ⟨Nat.le_refl _,hd σ H p⟩
abbrev R2:=V→V→Hp→VK→Prop
def OpR (X:Cx) (f:Value→Value→Sem Value) (r:R2):Prop :=
 ∀ (pins:List (Addr×Obj)) (s:Shared) (σ:St) (H:Hp) (x y:V) (v u:Value) (Q:VK),Inv X pins σ H s→RelV x v→RelV y u→r x y H Q →
  wpAny (model X.prog X.w) X.A (f v u) (EP X pins σ Q) X.xe s
def UnR (X:Cx) (f:Value→Sem Value) (r:V→Hp→VK→Prop):Prop :=
 ∀ (pins:List (Addr×Obj)) (s:Shared) (σ:St) (H:Hp) (x:V) (v:Value) (Q:VK),Inv X pins σ H s→RelV x v→r x H Q →
  wpAny (model X.prog X.w) X.A (f v) (EP X pins σ Q) X.xe s
def CallR (X:Cx) (f:Value) (r:List V→Hp→VK→Prop):Prop :=
 ∀ (pins:List (Addr×Obj)) (s:Shared) (σ:St) (H:Hp) (xs:List V) (us:List Value) (Q:VK),Inv X pins σ H s→Vals xs us→r xs H Q →
  wpAny (model X.prog X.w) X.A (call f us) (EP X pins σ Q) X.xe s
def tOp (r:R2) (ta tb:TE):TE:=fun σ H Q=>ta σ H fun x H1=>tb σ H1 fun y H2=>r x y H2 Q
def tUn (r:V→Hp→VK→Prop) (ta:TE):TE:=fun σ H Q=>ta σ H fun x H1=>r x H1 Q
def rI (C:Int→Int→Prop) (g:Int→Int→V):R2:=fun x y H Q=>∃ i j,x=.int i∧y=.int j∧C i j∧Q (g i j) H
def rI0 (g:Int→Int→V):R2:=fun x y H Q=>∃ i j,x=.int i∧y=.int j∧Q (g i j) H
def rU (g:Int→V):V→Hp→VK→Prop:=fun x H Q=>∃ i,x=.int i∧Q (g i) H
section
variable {X:Cx} {a b c:Expr} {ta tb tc:TE} {pos:Pos}
theorem binT (ha:PE X a ta) (hb:PE X b tb) {pins:List (Addr×Obj)} {s:Shared} {σ:St} {H:Hp} {R:V→V→Hp→Prop} (I:Inv X pins σ H s)
  (h:ta σ H fun x H1=>tb σ H1 fun y H2=>R x y H2) {Q:Value→Shared→Prop} {f:Value→Value→Sem Value}
  (hf:∀ v u s2 x y H2,Inv X pins σ H2 s2→RelV x v→RelV y u→R x y H2→wpAny (model X.prog X.w) X.A (f v u) Q X.xe s2) :
  wpAny (model X.prog X.w) X.A (eval a X.env) (fun v s₁=>wpAny (model X.prog X.w) X.A (eval b X.env) (fun u s₂=>wpAny (model X.prog X.w) X.A (f v u) Q X.xe s₂) X.xe s₁) X.xe s:=by
 refine thn (ha pins s σ H _ I h) fun v s1 ⟨x,H1,I1,r1,q1⟩=>?_
 refine thn (hb pins s1 σ H1 _ I1 q1) fun u s2 ⟨y,H2,I2,r2,q2⟩=>?_
 exact hf v u s2 x y H2 I2 r1 r2 q2
theorem pe_op {op:Operator} {r:R2} (ho:OpR X (binaryOp op) r) (ha:PE X a ta) (hb:PE X b tb):PE X (.BinOp a op b pos) (tOp r ta tb):=by
 intro pins s σ H Q I h
 exact wpAny_BinOp (binT ha hb I h fun v u s2 x y H2 I2 rx ry q=>ho pins s2 σ H2 x y v u Q I2 rx ry q)
theorem pe_un {op:UnaryOp} {r:V→Hp→VK→Prop} (ho:UnR X (unaryOp op) r) (ha:PE X a ta):PE X (.UnaryOp op a pos) (tUn r ta):=by
 intro pins s σ H Q I h
 exact UnaryOp_ (thn (ha pins s σ H _ I h) fun v s1 ⟨x,H1,I1,r1,q1⟩=>ho pins s1 σ H1 x v Q I1 r1 q1)
theorem opI {f:Value→Value→Sem Value} {C:Int→Int→Prop} {g:Int→Int→Int}
  (rule:∀ (i j:Int) (t u:Tok) (s:Shared) (Q:Value→Shared→Prop) (E:Value→Shared→Prop),C i j→Q (.int (g i j) s.toks) { s with toks:=s.toks + 1 }→wpAny (model X.prog X.w) X.A (f (.int i t) (.int j u)) Q E s) :
  OpR X f (rI C fun i j=>.int (g i j)):=by
 intro pins s σ H x y v u Q I rx ry h
 obtain ⟨i,j,rfl,rfl,hc,q⟩:=h
 obtain ⟨t,rfl⟩:=rx
 obtain ⟨t',rfl⟩:=ry
 exact rule i j t t' s _ _ hc ⟨.int (g i j),H,I.tok _,⟨_,rfl⟩,q⟩
theorem opI0 {f:Value→Value→Sem Value} {g:Int→Int→Int}
  (rule:∀ (i j:Int) (t u:Tok) (s:Shared) (Q:Value→Shared→Prop) (E:Value→Shared→Prop),Q (.int (g i j) s.toks) { s with toks:=s.toks + 1 }→wpAny (model X.prog X.w) X.A (f (.int i t) (.int j u)) Q E s) :
  OpR X f (rI0 fun i j=>.int (g i j)):=by
 intro pins s σ H x y v u Q I rx ry h
 obtain ⟨i,j,rfl,rfl,q⟩:=h
 obtain ⟨t,rfl⟩:=rx
 obtain ⟨t',rfl⟩:=ry
 exact rule i j t t' s _ _ ⟨.int (g i j),H,I.tok _,⟨_,rfl⟩,q⟩
theorem opB0 {f:Value→Value→Sem Value} {g:Int→Int→Bool}
  (rule:∀ (i j:Int) (t u:Tok) (s:Shared) (Q:Value→Shared→Prop) (E:Value→Shared→Prop),Q (.bool (g i j)) s→wpAny (model X.prog X.w) X.A (f (.int i t) (.int j u)) Q E s) :
  OpR X f (rI0 fun i j=>.bl (g i j)):=by
 intro pins s σ H x y v u Q I rx ry h
 obtain ⟨i,j,rfl,rfl,q⟩:=h
 obtain ⟨t,rfl⟩:=rx
 obtain ⟨t',rfl⟩:=ry
 exact rule i j t t' s _ _ ⟨.bl (g i j),H,I,rfl,q⟩
def CDiv (i j:Int):Prop:=0 < j∧j < 1073741824
def CPow (i j:Int):Prop:=0≤j∧j≤1000000∧i.natAbs < 2 ^ 64
def CMul (i j:Int):Prop:=(-(2 ^ 64) < i∧i < 2 ^ 64)∨(-(2 ^ 64) < j∧j < 2 ^ 64)
theorem CMul.ok {i j:Int} (h:CMul i j):IntMulOk i j:=by
 rcases h with ⟨h1,h2⟩ | ⟨h1,h2⟩
 ·exact .of_left (intBits_le_64 h1 h2)
 ·exact .of_right (intBits_le_64 h1 h2)
theorem op_add:OpR X (binaryOp .Add) (rI0 fun i j=>.int (i + j)):=opI0 fun _ _ _ _ _ _ _ q=>add_int q
theorem op_sub:OpR X (binaryOp .Sub) (rI0 fun i j=>.int (i - j)):=opI0 fun _ _ _ _ _ _ _ q=>sub_int q
theorem op_mul:OpR X (binaryOp .Mult) (rI CMul fun i j=>.int (i * j)):=opI fun _ _ _ _ _ _ _ hc q=>mul_int q hc.ok
theorem op_fdiv:OpR X (binaryOp .FloorDiv) (rI CDiv fun i j=>.int (i / j)):=opI fun i j _ _ _ _ _ hc q=>by
 have h1:(0:Int) < j:=hc.1
 have h2:j < 1073741824:=hc.2
 exact floordiv_int (by omega) (by rw [Int.fdiv_eq_ediv_of_nonneg i (by omega)]; exact q) (.inl (PyProof.noPylong_small (by omega)))
theorem op_mod:OpR X (binaryOp .Mod) (rI (fun _ j=>0 < j) fun i j=>.int (i % j)):=opI fun i j _ _ _ _ _ hc q=>by
 have h1:(0:Int) < j:=hc
 exact mod_int' (by omega) (by rw [Int.fmod_eq_emod_of_nonneg i (by omega)]; exact q)
theorem op_pow:OpR X (binaryOp .Pow) (rI CPow fun i j=>.int (i ^ j.toNat)):=opI fun _ _ _ _ _ _ _ hc q=>pow_int_small hc.1 hc.2.1 hc.2.2 q
theorem unI {f:Value→Sem Value} {g:Int→Int}
  (rule:∀ (i:Int) (t:Tok) (s:Shared) (Q:Value→Shared→Prop) (E:Value→Shared→Prop),Q (.int (g i) s.toks) { s with toks:=s.toks + 1 }→wpAny (model X.prog X.w) X.A (f (.int i t)) Q E s) :
  UnR X f (rU fun i=>.int (g i)):=by
 intro pins s σ H x v Q I rx h
 obtain ⟨i,rfl,q⟩:=h
 obtain ⟨t,rfl⟩:=rx
 exact rule i t s _ _ ⟨.int (g i),H,I.tok _,⟨_,rfl⟩,q⟩
theorem un_neg:UnR X (unaryOp .USub) (rU fun i=>.int (-i)):=unI fun _ _ _ _ _ q=>neg_int q
end
def scal:V→V→Bool
 | .non,.non=>true | .non,.int _=>true | .int _,.non=>true | .non,.bl _=>true | .bl _,.non=>true | .non,.str _=>true | .str _,.non=>true
 | .int _,.int _=>true | .bl _,.bl _=>true | .str _,.str _=>true | .byt _,.byt _=>true
 | .int _,.str _=>true | .str _,.int _=>true | .bl _,.str _=>true | .str _,.bl _=>true
 | _,_=>false
def rEq:R2:=fun x y H Q=>scal x y=true∧Q (.bl (decide (x=y))) H
def rNe:R2:=fun x y H Q=>scal x y=true∧Q (.bl (!decide (x=y))) H
theorem dec_int {i j:Int}:decide (V.int i=V.int j)=(i == j):=by
 rw [Bool.eq_iff_iff]
 simp
theorem dec_bl {i j:Bool}:decide (V.bl i=V.bl j)=(i == j):=by
 rw [Bool.eq_iff_iff]
 simp
theorem dec_str {i j:Str}:decide (V.str i=V.str j)=(i == j):=by
 rw [Bool.eq_iff_iff]
 simp
theorem dec_byt {i j:Array UInt8}:decide (V.byt i=V.byt j)=(i.toList == j.toList):=by
 rw [Bool.eq_iff_iff]
 cases i
 cases j
 simp
section
variable {X:Cx} {a b c:Expr} {ta tb tc:TE} {pos:Pos}
theorem fin_bl {pins:List (Addr×Obj)} {σ:St} {H:Hp} {s:Shared} {Q:VK} {k k':Bool} (I:Inv X pins σ H s) (q:Q (.bl k) H) (e:k=k'):EP X pins σ Q (.bool k') s:=by
 subst e
 exact ⟨.bl k,H,I,rfl,q⟩
theorem op_eq:OpR X (compareOp .Eq) rEq:=by
 intro pins s σ H x y v u Q I rx ry h
 obtain ⟨hs,q⟩:=h
 cases x with
 | non =>
  cases rx
  cases y with
  | non=>cases ry; exact PySem.EqNone.eq_none_none (fin_bl I q (by simp))
  | bl j=>cases ry; exact PySem.EqNone.eq_none_bool (fin_bl I q (by simp))
  | int j=>obtain ⟨t',rfl⟩:=ry; exact PySem.EqNone.eq_none_int (fin_bl I q (by simp))
  | str j=>obtain ⟨t',rfl⟩:=ry; exact PySem.EqNone.eq_none_str (fin_bl I q (by simp))
  | _=>exact absurd (show false=true from hs) Bool.false_ne_true
 | bl i =>
  cases rx
  cases y with
  | non=>cases ry; exact PySem.EqNone.eq_bool_none (fin_bl I q (by simp))
  | bl j=>cases ry; exact eq_bool (fin_bl I q dec_bl)
  | str j=>obtain ⟨t',rfl⟩:=ry; exact PySem.EqMixed.eq_bool_str (fin_bl I q (by simp))
  | _=>exact absurd (show false=true from hs) Bool.false_ne_true
 | int i =>
  obtain ⟨t,rfl⟩:=rx
  cases y with
  | non=>cases ry; exact PySem.EqNone.eq_int_none (fin_bl I q (by simp))
  | int j=>obtain ⟨t',rfl⟩:=ry; exact eq_int (fin_bl I q dec_int)
  | str j=>obtain ⟨t',rfl⟩:=ry; exact PySem.EqMixed.eq_int_str (fin_bl I q (by simp))
  | _=>exact absurd (show false=true from hs) Bool.false_ne_true
 | str i =>
  obtain ⟨t,rfl⟩:=rx
  cases y with
  | non=>cases ry; exact PySem.EqNone.eq_str_none (fin_bl I q (by simp))
  | bl j=>cases ry; exact PySem.EqMixed.eq_str_bool (fin_bl I q (by simp))
  | int j=>obtain ⟨t',rfl⟩:=ry; exact PySem.EqMixed.eq_str_int (fin_bl I q (by simp))
  | str j=>obtain ⟨t',rfl⟩:=ry; exact eq_str (fin_bl I q dec_str)
  | _=>exact absurd (show false=true from hs) Bool.false_ne_true
 | byt i =>
  obtain ⟨t,rfl⟩:=rx
  cases y with
  | byt j=>obtain ⟨t',rfl⟩:=ry; exact PySem.W.eq_bytes (fin_bl I q dec_byt)
  | _=>exact absurd (show false=true from hs) Bool.false_ne_true
 | _=>cases y <;> exact absurd (show false=true from hs) Bool.false_ne_true
theorem op_ne:OpR X (compareOp .NotEq) rNe:=by
 intro pins s σ H x y v u Q I rx ry h
 obtain ⟨hs,q⟩:=h
 cases x with
 | non =>
  cases rx
  cases y with
  | non=>cases ry; exact PySem.EqNone.ne_none_none (fin_bl I q (by simp))
  | bl j=>cases ry; exact PySem.EqNone.ne_none_bool (fin_bl I q (by simp))
  | int j=>obtain ⟨t',rfl⟩:=ry; exact PySem.EqNone.ne_none_int (fin_bl I q (by simp))
  | str j=>obtain ⟨t',rfl⟩:=ry; exact PySem.EqNone.ne_none_str (fin_bl I q (by simp))
  | _=>exact absurd (show false=true from hs) Bool.false_ne_true
 | bl i =>
  cases rx
  cases y with
  | non=>cases ry; exact PySem.EqNone.ne_bool_none (fin_bl I q (by simp))
  | bl j=>cases ry; exact ne_bool (fin_bl I q (congrArg not dec_bl))
  | str j=>obtain ⟨t',rfl⟩:=ry; exact PySem.EqMixed.ne_bool_str (fin_bl I q (by simp))
  | _=>exact absurd (show false=true from hs) Bool.false_ne_true
 | int i =>
  obtain ⟨t,rfl⟩:=rx
  cases y with
  | non=>cases ry; exact PySem.EqNone.ne_int_none (fin_bl I q (by simp))
  | int j=>obtain ⟨t',rfl⟩:=ry; exact ne_int (fin_bl I q (congrArg not dec_int))
  | str j=>obtain ⟨t',rfl⟩:=ry; exact PySem.EqMixed.ne_int_str (fin_bl I q (by simp))
  | _=>exact absurd (show false=true from hs) Bool.false_ne_true
 | str i =>
  obtain ⟨t,rfl⟩:=rx
  cases y with
  | non=>cases ry; exact PySem.EqNone.ne_str_none (fin_bl I q (by simp))
  | bl j=>cases ry; exact PySem.EqMixed.ne_str_bool (fin_bl I q (by simp))
  | int j=>obtain ⟨t',rfl⟩:=ry; exact PySem.EqMixed.ne_str_int (fin_bl I q (by simp))
  | str j=>obtain ⟨t',rfl⟩:=ry; exact ne_str (fin_bl I q (congrArg not dec_str))
  | _=>exact absurd (show false=true from hs) Bool.false_ne_true
 | byt i =>
  obtain ⟨t,rfl⟩:=rx
  cases y with
  | byt j=>obtain ⟨t',rfl⟩:=ry; exact PySem.W.ne_bytes (fin_bl I q (congrArg not dec_byt))
  | _=>exact absurd (show false=true from hs) Bool.false_ne_true
 | _=>cases y <;> exact absurd (show false=true from hs) Bool.false_ne_true
theorem op_lt:OpR X (compareOp .Lt) (rI0 fun i j=>.bl (decide (i < j))):=opB0 fun _ _ _ _ _ _ _ q=>lt_int q
theorem op_le:OpR X (compareOp .LtE) (rI0 fun i j=>.bl (decide (i≤j))):=opB0 fun _ _ _ _ _ _ _ q=>le_int q
theorem op_gt:OpR X (compareOp .Gt) (rI0 fun i j=>.bl (decide (j < i))):=opB0 fun _ _ _ _ _ _ _ q=>gt_int q
theorem op_ge:OpR X (compareOp .GtE) (rI0 fun i j=>.bl (decide (j≤i))):=opB0 fun _ _ _ _ _ _ _ q=>ge_int q
theorem nomark (b:Expr) {op:CmpOp} (h:op≠.In:=by decide) (h2:op≠.NotIn:=by decide):behindInMarks op b=false:=by
 have e1:(op == CmpOp.In)=false:=by cases op <;> first | rfl | exact absurd rfl h
 have e2:(op == CmpOp.NotIn)=false:=by cases op <;> first | rfl | exact absurd rfl h2
 cases b <;> simp [behindInMarks,e1,e2]
theorem pe_cmpR {op:CmpOp} {r:R2} (ho:OpR X (compareOp op) r) (ha:PE X a ta) (hb:PE X b tb) (hm:behindInMarks op b=false):PE X (.Compare a [op] [b] pos) (tOp r ta tb):=by
 intro pins s σ H Q I h
 exact wpAny_Compare1 (binT ha hb I h fun v u s2 x y H2 I2 rx ry q=>ho pins s2 σ H2 x y v u Q I2 rx ry q) hm
def tTest (t:TE):TT:=fun σ H Q=>t σ H fun x H'=>∃ k,x=.bl k∧Q k H'
theorem pt_cmpR {op:CmpOp} {r:R2} (ho:OpR X (compareOp op) r) (ha:PE X a ta) (hb:PE X b tb) (hm:behindInMarks op b=false):PT X (.Compare a [op] [b] pos) (tTest (tOp r ta tb)):=by
 intro pins s σ H Q I h
 refine wpAny_isTrue_Compare1 (thn (ha pins s σ H _ I h) fun v s1 ⟨x,H1,I1,r1,q1⟩=>thn (hb pins s1 σ H1 _ I1 q1) fun u s2 ⟨y,H2,I2,r2,q2⟩ =>
  thn (ho pins s2 σ H2 x y v u _ I2 r1 r2 q2) fun c s3 ⟨z,H3,I3,r3,k,e,q3⟩=>?_) hm
 subst e
 cases r3
 exact wpAny_truthy_bool ⟨H3,I3,q3⟩
theorem line63:(sizeLine:Nat) < 2 ^ 63:=by rw [sizeLine_eq]; decide
theorem op_add_str:OpR X (binaryOp .Add) (fun x y H Q=>∃ i j,x=.str i∧y=.str j∧i.length + j.length≤sizeLine∧Q (.str (i ++ j)) H):=by
 intro pins s σ H x y v u Q I rx ry h
 obtain ⟨i,j,rfl,rfl,hz,q⟩:=h
 obtain ⟨t,rfl⟩:=rx
 obtain ⟨t',rfl⟩:=ry
 exact add_str (fun t' tk=>⟨.str (i ++ j),H,I.tok _,⟨_,rfl⟩,q⟩) hz
theorem vals1 {x:V} {us:List Value} (r:Vals [x] us):∃ u,us=[u]∧RelV x u:=by
 cases r with
 | cons r1 r2=>cases r2; exact ⟨_,rfl,r1⟩
theorem vals2 {x y:V} {us:List Value} (r:Vals [x,y] us):∃ u w',us=[u,w']∧RelV x u∧RelV y w':=by
 cases r with
 | cons r1 r2 =>
  cases r2 with
  | cons r3 r4=>cases r4; exact ⟨_,_,rfl,r1,r3⟩
theorem call_abs:CallR X (.builtin "abs") (fun xs H Q=>∃ i,xs=[.int i]∧Q (.int (if i < 0 then -i else i)) H):=by
 intro pins s σ H xs us Q I r h
 obtain ⟨i,rfl,q⟩:=h
 obtain ⟨u,rfl,t,rfl⟩:=vals1 r
 exact call_abs_int fun u tk=>⟨.int (if i < 0 then -i else i),H,I.tok _,⟨_,rfl⟩,q⟩
theorem call_max2 (hc:X.calm=true):CallR X (.builtin "max") (fun xs H Q=>∃ i j,xs=[.int i,.int j]∧Q (.int (if j > i then j else i)) H):=by
 intro pins s σ H xs us Q I r h
 obtain ⟨i,j,rfl,q⟩:=h
 obtain ⟨u,w',rfl,⟨t,rfl⟩,⟨t',rfl⟩⟩:=vals2 r
 refine max_two_ints (I.ok.hd hc) fun h' tk k=>⟨_,H,I.kept k,?_,q⟩
 by_cases hj:j > i
 ·rw [if_pos hj,if_pos hj]; exact ⟨_,rfl⟩
 ·rw [if_neg hj,if_neg hj]; exact ⟨_,rfl⟩
theorem call_min2 (hc:X.calm=true):CallR X (.builtin "min") (fun xs H Q=>∃ i j,xs=[.int i,.int j]∧Q (.int (if j < i then j else i)) H):=by
 intro pins s σ H xs us Q I r h
 obtain ⟨i,j,rfl,q⟩:=h
 obtain ⟨u,w',rfl,⟨t,rfl⟩,⟨t',rfl⟩⟩:=vals2 r
 refine min_two_ints (I.ok.hd hc) fun h' tk k=>⟨_,H,I.kept k,?_,q⟩
 by_cases hj:j < i
 ·rw [if_pos hj,if_pos hj]; exact ⟨_,rfl⟩
 ·rw [if_neg hj,if_neg hj]; exact ⟨_,rfl⟩
theorem call_int1:CallR X (.type "int") (fun xs H Q=>(∃ i,xs=[.int i]∧Q (.int i) H)∨∃ k,xs=[.bl k]∧Q (.int (if k then 1 else 0)) H):=by
 intro pins s σ H xs us Q I r h
 rcases h with ⟨i,rfl,q⟩ | ⟨k,rfl,q⟩
 ·obtain ⟨u,rfl,t,rfl⟩:=vals1 r
  exact call_int_int ⟨.int i,H,I,⟨_,rfl⟩,q⟩
 ·obtain ⟨u,rfl,r1⟩:=vals1 r
  cases r1
  exact call_int_bool ⟨.int (if k then 1 else 0),H,I.tok _,⟨_,rfl⟩,q⟩
end
section
variable {prog:Program} {w:World} {A:Around} {E:Value→Shared→Prop} {s:Shared} {K:PySem.W.Frag} {x dx C f:Addr} {mA:Str→Option Value} {name:Str} {v:Value}
end
section
variable {P:Program} {w:World} {H H':Hp} {h h':Heap} {a C dx:Addr} {fs fs':List (Str×V)}
end
section
variable {X:Cx} {pins:List (Addr×Obj)} {σ:St} {H:Hp} {s:Shared} {a C dx:Addr} {fs:List (Str×V)} {f:Str} {v:V} {A:Around} {E:Value→Shared→Prop}
end
section
variable {X:Cx} {o e value:Expr} {f:Str} {pos pos' tpos:Pos} {ta tv:TE}
end
section
variable {X:Cx} {pins:List (Addr×Obj)} {σ:St} {H:Hp} {s:Shared} {A:Around} {E:Value→Shared→Prop} {Q:Value→Shared→Prop} {c:Value} {b:Bool}
end
structure Room (k:Nat) (A:Around):Prop where
 hd:A.handled=none
 dp:A.depth + 3 * k + 5 < recursionLimit
 un:A.units + 16 * k + 200 < cLine
theorem Room.mono {j k:Nat} {A:Around} (r:Room k A) (h:j≤k):Room j A:=⟨r.hd,by have:=r.dp; omega,by have:=r.un; omega⟩
theorem Room.deeper {k:Nat} {A:Around} (r:Room (k + 1) A) (env:Env):Room k (A.deeper env) :=
 ⟨r.hd,by have:=r.dp; show A.depth + 1 + 3 * k + 5 < _; omega,by have:=r.un; show A.units + 3 + 16 * k + 200 < _; omega⟩
theorem Room.depth {k:Nat} {A:Around} (r:Room k A):A.depth < recursionLimit:=by have:=r.dp; omega
theorem Room.units {k:Nat} {A:Around} (r:Room k A):A.units + 64 < cLine:=by have:=r.un; omega
theorem Room.units0 {k:Nat} {A:Around} (r:Room k A):A.units < cLine:=by have:=r.un; omega
def tNil:TA:=fun _ H Q=>Q [] H
def tCons (ta:TE) (tr:TA):TA:=fun σ H Q=>ta σ H fun x H1=>tr σ H1 fun xs H2=>Q (x :: xs) H2
section
variable {X:Cx} {e:Expr} {es:List Expr} {te:TE} {t:TA} {pos:Pos}
theorem pa_nil:PA X [] tNil:=fun _ _ _ _ H Q I h=>Calls.spliced_nil ⟨[],H,I,.nil,h⟩
theorem pa_cons (ha:PE X e te) (hr:PA X es t) (hs:starEach (e :: es) X.env=(false,eval e X.env) :: starEach es X.env:=by rfl):PA X (e :: es) (tCons te t):=by
 intro pos pins s σ H Q I h
 rw [hs]
 show wpAny _ _ (spliced ((false,eval e X.env) :: backTo pos (starEach es X.env))) _ _ s
 refine Calls.spliced_cons (thn (ha pins s σ H _ I h) fun u s1 ⟨x,H1,I1,r1,q1⟩=>?_)
 exact thn (hr pos pins s1 σ H1 _ I1 q1) fun us s2 ⟨xs,H2,I2,r2,q2⟩=>⟨x :: xs,H2,I2,.cons r1 r2,q2⟩
def tTup (t:TA):TE:=fun σ H Q=>t σ H fun xs H1=>xs.length≤sizeLine∧∀ p,H1 p=none→Q (.ref p) (upd H1 p (.tup xs))
def tLst (t:TA):TE:=fun σ H Q=>t σ H fun xs H1=>xs.length≤sizeLine∧∀ p,H1 p=none→Q (.ref p) (upd H1 p (.lst xs))
theorem pe_tup {x1} (h:PA X es t):PE X (.Tuple es x1 pos) (tTup t):=by
 intro pins s σ H Q I hq
 refine wpAny_Tuple_spliced (thn (h pos pins s σ H _ I hq) fun us s1 ⟨xs,H1,I1,r,z,q⟩=>⟨by rw [← r.length]; exact z,?_⟩)
 have hf:H1 s1.heap.objs.size=none:=I1.hok.fresh (Nat.le_refl _)
 refine ⟨.ref s1.heap.objs.size,upd H1 s1.heap.objs.size (.tup xs),I1.laid (t':=s1.toks) (fun b u e=>Heap.get?_push_of_some _ e) (Nat.le_refl _) ?_,rfl,q _ hf⟩
 exact ⟨z,us,r,⟨_,Heap.get?_push_size _ rfl,rfl,_,rfl⟩⟩
theorem pe_lst (h:PA X es t):PE X (.List es pos) (tLst t):=by
 intro pins s σ H Q I hq
 refine wpAny_List_spliced (thn (h pos pins s σ H _ I hq) fun us s1 ⟨xs,H1,I1,r,z,q⟩=>⟨by rw [← r.length]; exact z,?_⟩)
 have hf:H1 s1.heap.objs.size=none:=I1.hok.fresh (Nat.le_refl _)
 refine ⟨.ref s1.heap.objs.size,upd H1 s1.heap.objs.size (.lst xs),I1.laid (t':=s1.toks) (fun b u e=>Heap.get?_push_of_some _ e) (Nat.le_refl _) ?_,rfl,q _ hf⟩
 exact ⟨z,us,0,r,Heap.get?_push_size _ rfl⟩
end
abbrev Sp:=List V→Hp→VK→XK→Prop
abbrev CXT:=List Env→Hp→Shared→XK→Value→Shared→Prop
structure Env0 (P:Program) (w:World) (K:PySem.W.Frag) (mg:Str→Option Value) (base:Heap) (A:Around) (outer:List Env) (s:Shared) (H:Hp):Prop where
 frames:A.frames=some outer
 mod:Mod K mg base
 bs:∀ b o,base.get? b=some o→s.heap.get? b=some o∧H b=none
 bsz:base.objs.size≤s.heap.objs.size
 funs:s.heap.FunFrames base outer
 frf:∀ b∈frs outer,H b=none
 hok:HOk P w H s.heap
 bare:AllBare s.gens
def CE (outer:List Env) (P:Program) (w:World) (H:Hp) (s:Shared) (Q:VK) (u:Value) (s':Shared):Prop :=
 ∃ v H',s'.os=s.os∧AllBare s'.gens∧Un (frs outer) [] H H' s.heap s'.heap∧HOk P w H' s'.heap∧RelV v u∧Q v H'
def CR (CX:CXT) (outer:List Env) (P:Program) (w:World) (H:Hp) (s:Shared) (Q:VK) (E:XK) (r:Result) (s':Shared):Prop :=
 match r with
 | .ok (.ret u)=>CE outer P w H s Q u s'
 | .ok _=>False
 | .error e=>CX outer H s E e s'
structure FnOk (P:Program) (w:World) (K:PySem.W.Frag) (mg:Str→Option Value) (base:Heap) (CX:CXT) (k:Nat) (f:Addr) (fd:FuncData) (ps:List Str) (sp:Sp):Prop where
 len:∀ vs H Q E,sp vs H Q E→vs.length=ps.length
 run:∀ (A:Around) (outer:List Env) (s:Shared) (H:Hp) (args:Args) (us:List Value) (vs:List V) (Q:VK) (E:XK),Room k A→Env0 P w K mg base A outer s H→BindsTo s fd args (ps.zip us)→Vals vs us→sp vs H Q E →
  codeAny (model P w) A (.call (.ref f) args) (CR CX outer P w H s Q E) s
section
variable {X:Cx} {pins:List (Addr×Obj)} {σ:St} {H:Hp} {s s':Shared}
theorem Inv.env0 (I:Inv X pins σ H s):Env0 X.prog X.w X.K X.mg X.base X.A X.stack s H :=
 ⟨I.ok.frames,I.ok.mod,I.bs,Nat.le_trans I.ok.bsz I.sz,I.stack,I.stkFree,I.hok,I.bare⟩
theorem Inv.after {Q:VK} {u:Value} (I:Inv X pins σ H s) (h:CE X.stack X.prog X.w H s Q u s'):EP X pins σ Q u s':=by
 obtain ⟨v,H',os,bare,un,hok,r,q⟩:=h
 obtain ⟨hh,g,d,t,os'⟩:=s'
 obtain rfl:os'=s.os:=os
 exact ⟨v,H',I.call (h':=hh) (g':=g) (d':=d) (t':=t) (ch:=[]) un hok bare (fun b z=>absurd z (by simp)),r,q⟩
end
def tCall (sp:Sp) (dvs:List V) (E:XK) (t:TA):TE:=fun σ H Q=>t σ H fun vs H1=>sp (vs ++ dvs) H1 Q E
def Binds (K:PySem.W.Frag) (fd:FuncData) (ps:List Str) (ds:List Value):Prop :=
 ∀ (s:Shared) (us:List Value),K.In s.heap→(us ++ ds).length=ps.length→BindsTo s fd ⟨us,[]⟩ (ps.zip (us ++ ds))
theorem Binds.all {K:PySem.W.Frag} {fd:FuncData} {ps:List Str} (h:∀ us:List Value,us.length=ps.length→bindArgs fd ⟨us,[]⟩=pure (ps.zip us)):Binds K fd ps []:=fun s us _ hl=>by
 rw [List.append_nil] at hl ⊢
 exact .of_eq (h us hl)
def Passes (CX:CXT) (X:Cx) (E:XK):Prop:=∀ (pins:List (Addr×Obj)) (σ:St) (H:Hp) (s:Shared) (e:Value) (s':Shared),Inv X pins σ H s→CX X.stack H s E e s'→X.xe e s'
section
variable {X:Cx} {CX:CXT} {k:Nat} {f C:Addr} {fd:FuncData} {ps:List Str} {sp:Sp} {dvs:List V} {ds:List Value} {E:XK} {x m:Str} {p pos apos:Pos} {e o:Expr} {es:List Expr} {ta:TE} {t:TA}
theorem run_fn {pins:List (Addr×Obj)} {σ:St} {H:Hp} {s:Shared} {Q:VK} {us:List Value} {vs:List V} (F:FnOk X.prog X.w X.K X.mg X.base CX k f fd ps sp) (hr:Room k X.A) (hb:Binds X.K fd ps ds) (hd:Vals dvs ds) (hx:Passes CX X E)
  (I:Inv X pins σ H s) (r:Vals vs us) (h:sp (vs ++ dvs) H Q E):wpAny (model X.prog X.w) X.A (call (.ref f) us) (EP X pins σ Q) X.xe s:=by
 have r2:Vals (vs ++ dvs) (us ++ ds):=r.append hd
 have hl:(us ++ ds).length=ps.length:=by rw [← r2.length]; exact F.len _ _ _ _ h
 refine wpAny_call (codeAny_mono (F.run X.A X.stack s H ⟨us,[]⟩ (us ++ ds) (vs ++ dvs) Q E hr I.env0 (hb s us I.kIn hl) r2 h) fun r s' hq=>?_)
 cases r with
 | error e=>exact hx pins σ H s e s' I hq
 | ok fl =>
  cases fl with
  | ret u=>exact I.after hq
  | next=>exact False.elim hq
  | brk=>exact False.elim hq
  | cont=>exact False.elim hq
theorem pe_call (F:FnOk X.prog X.w X.K X.mg X.base CX k f fd ps sp) (hr:Room k X.A) (hg:Gl X x) (hm:X.mg x=some (.ref f)) (hk:PySem.W.keepIn X.K (.ref f)=true) (hb:Binds X.K fd ps ds) (hd:Vals dvs ds) (hx:Passes CX X E)
  (ha:PA X (e :: es) t) (hdb:(x == ("__debug__":Str))=false:=by decide) (he:starEach (e :: es) X.env=(false,eval e X.env) :: starEach es X.env:=by rfl) (hpl:(backTo pos (starEach es X.env)).any (·.1)=false:=by rfl) :
  PE X (.Call (.Name x p) (e :: es) [] pos) (tCall sp dvs E t):=by
 intro pins s σ H Q I h
 refine wpAny_Call_Name_kw (ld_glob I hg hm ?_ hdb)
 refine PySem.W.callWith_K (h₀:=X.base) I.ok.mod.kin hk (thn (ha pos pins s σ H _ I h) fun us s1 ⟨vs,H1,I1,r,q⟩=>⟨I1.kIn,?_⟩) he hpl
 exact run_fn F hr hb hd hx I1 r q
end
section
variable {X:Cx} {CX:CXT} {k:Nat} {f C:Addr} {fd:FuncData} {ps ks:List Str} {sp:Sp} {E:XK} {x m:Str} {p pos apos kpos:Pos} {e o:Expr} {es:List Expr} {kws:List Keyword} {te ta:TE} {t tk:TA} {nm:Option Str}
variable {g:List Value→List Value→List Value} {gV:List V→List V→List V}
end
structure FnScope (N P:List Str) (sc:Scope):Prop where
 kind:sc.kind=.function
 co:sc.isCoroutine=false
 gen:sc.isGenerator=false
 nd:N.Nodup
 pre:N.take P.length=P
 par:∀ x∈P,sc.names.lookup x=some .local∨sc.names.lookup x=some .cell
 nofree:∀ y∈sc.names,y.2≠.free
theorem bindL_out {kindOf:Str→Option NameKind} {x:Str}:∀ {binds:List (Str×Value)} {m:Str→Option Value},(∀ v,(x,v) ∉ binds)→bindL kindOf binds m x=m x
 | [],_,_=>rfl
 | (n,v) :: r,m,h=>by
  unfold bindL
  rw [bindL_out fun w hw=>h w (List.mem_cons_of_mem _ hw)]
  split
  ·have:x≠n:=by rintro rfl; exact h v List.mem_cons_self
   simp [this]
  ·rfl
theorem bindC_out {kindOf:Str→Option NameKind} {x:Str}:∀ {binds:List (Str×Value)} {m:Str→Option Value},(∀ v,(x,v) ∉ binds)→bindC kindOf binds m x=m x
 | [],_,_=>rfl
 | (n,v) :: r,m,h=>by
  unfold bindC
  rw [bindC_out fun w hw=>h w (List.mem_cons_of_mem _ hw)]
  split
  ·rfl
  ·have:x≠n:=by rintro rfl; exact h v List.mem_cons_self
   simp [this]
theorem bindL_get {kindOf:Str→Option NameKind} {x:Str} {v:Value}:∀ {P:List Str} {vs:List Value} {i:Nat} {m:Str→Option Value},P.Nodup→P[i]?=some x→vs[i]?=some v→kindOf x=some .local →
  bindL kindOf (P.zip vs) m x=some v
 | [],_,_,_,_,h,_,_=>by simp at h
 | _ :: _,[],_,_,_,_,h,_=>by simp at h
 | p :: P,w :: vs,0,m,nd,h1,h2,hk=>by
  simp at h1 h2; subst h1; subst h2
  show bindL kindOf ((p,w) :: P.zip vs) m p=_
  unfold bindL
  rw [bindL_out fun v hv=>(List.nodup_cons.mp nd).1 (List.of_mem_zip hv).1,if_pos hk]
  simp
 | p :: P,w :: vs,i + 1,m,nd,h1,h2,hk=>by
  show bindL kindOf ((p,w) :: P.zip vs) m x=_
  unfold bindL
  exact bindL_get (i:=i) (List.nodup_cons.mp nd).2 (by simpa using h1) (by simpa using h2) hk
theorem bindC_get {kindOf:Str→Option NameKind} {x:Str} {v:Value}:∀ {P:List Str} {vs:List Value} {i:Nat} {m:Str→Option Value},P.Nodup→P[i]?=some x→vs[i]?=some v→kindOf x≠some .local →
  bindC kindOf (P.zip vs) m x=some v
 | [],_,_,_,_,h,_,_=>by simp at h
 | _ :: _,[],_,_,_,_,h,_=>by simp at h
 | p :: P,w :: vs,0,m,nd,h1,h2,hk=>by
  simp at h1 h2; subst h1; subst h2
  show bindC kindOf ((p,w) :: P.zip vs) m p=_
  unfold bindC
  rw [bindC_out fun v hv=>(List.nodup_cons.mp nd).1 (List.of_mem_zip hv).1,if_neg hk]
  simp
 | p :: P,w :: vs,i + 1,m,nd,h1,h2,hk=>by
  show bindC kindOf ((p,w) :: P.zip vs) m x=_
  unfold bindC
  exact bindC_get (i:=i) (List.nodup_cons.mp nd).2 (by simpa using h1) (by simpa using h2) hk
def start (N:List Str) (vs:List V):St:=vs.map some ++ List.replicate (N.length - vs.length) none
def cxOf (CX:CXT) (P:Program) (w:World) (K:PySem.W.Frag) (mg:Str→Option Value) (base:Heap) (N:List Str) (qual:Str) (scope:Scope) (f:Addr) (cd:Value) (A:Around) (outer:List Env) (s:Shared) (H:Hp) (E:XK):Cx where
 prog:=P
 w:=w
 K:=K
 mg:=mg
 base:=base
 A:=A.deeper (envOfC qual scope s.heap.objs.size f cd)
 N:=N
 s₀:=s
 H₀:=H
 env:=envOfC qual scope s.heap.objs.size f cd
 outer:=outer
 stack:=envOfC qual scope s.heap.objs.size f cd :: outer
 ex:=[]
 calm:=true
 fn:=fun _=>true
 pn:=[]
 xe:=fun e s'=>wpAny (model P w) (A.deeper (envOfC qual scope s.heap.objs.size f cd)) (leaving (envOfC qual scope s.heap.objs.size f cd) e) (fun _ s''=>CX outer H s E e s'') (fun e' s''=>CX outer H s E e' s'') s'
theorem cell_has {sc:Scope} {n:Nat} {x:Str} (h:sc.names.lookup x=some .cell):∃ c,(cellsFrom n sc.names []).lookup x=some c:=by
 have q:=PySem.W.cellsFrom_some sc.names n [] (.inl h)
 exact Option.isSome_iff_exists.mp q
theorem inv_start {CX:CXT} {P:Program} {w:World} {K:PySem.W.Frag} {mg:Str→Option Value} {base:Heap} {N ps:List Str} {qual:Str} {scope:Scope} {f:Addr} {cd:Value} {A:Around} {outer:List Env} {s s1:Shared} {H:Hp} {E:XK} {us:List Value} {vs:List V}
  (S:FnScope N ps scope) (hd:A.handled=none) (e0:Env0 P w K mg base A outer s H) (hl:vs.length=ps.length) (r:Vals vs us)
  (x:InCallC s s.heap.objs.size (bindL (envOfC qual scope s.heap.objs.size f cd).kindOf (ps.zip us) fun _=>none) (cellsFrom (s.heap.objs.size + 1) scope.names []) (bindC (envOfC qual scope s.heap.objs.size f cd).kindOf (ps.zip us) fun _=>none) s1) :
  Inv (cxOf CX P w K mg base N qual scope f cd A outer s H E) [] (start N vs) H s1:=by
 have hpl:ps.length≤N.length:=by have:=congrArg List.length S.pre; rw [List.length_take] at this; omega
 obtain ⟨h1,tk,rfl,hk⟩:=x.done
 have noA:∀ b:Addr,b ∉ (cxOf CX P w K mg base N qual scope f cd A outer s H E).ex:=fun b z=>absurd (show b∈([]:List Addr) from z) (by simp)
 refine ⟨⟨e0.mod,S.kind,rfl,rfl,Nat.le_refl _,fun y z c h1 h2=>?_,fun y hy=>?_,fun y c _ h=>?_,fun _=>hd,Around.frames_deeper e0.frames,.inr ⟨rfl,rfl⟩,fun b z=>absurd z (noA b),e0.bs,e0.bsz,fun b _ _=>noA b,fun b z=>absurd z (noA b),e0.funs,e0.frf⟩,
  rfl,e0.bare,Un.kept hk,⟨_,x.toInCall.ns,fun i y v h1 h2 h3=>?_⟩,fun y c h=>⟨_,x.cell y c h⟩,e0.hok.fresh (Nat.le_refl _),fun y c h=>?_,fun p hp=>absurd (show p∈([]:List (Addr×Obj)) from hp) (by simp),e0.hok.kept hk,?_⟩
 ·exact name_of_addr x.apart (PySem.mem_of_lookup h1) (PySem.mem_of_lookup h2)
 ·have hy:scope.names.lookup y=some .cell∨scope.names.lookup y=some .free:=hy
  rcases hy with hy | hy
  ·exact cell_has hy
  ·exact absurd rfl (S.nofree _ (PySem.mem_of_lookup hy))
 ·exact Nat.le_of_lt (x.above y c (PySem.mem_of_lookup h))
 ·have hi:i < vs.length:=by
   unfold start at h2
   by_cases hi:i < vs.length
   ·exact hi
   ·rw [List.getElem?_append_right (by simpa using hi)] at h2
    rw [List.getElem?_replicate] at h2
    split at h2 <;> cases h2
  have ha:vs[i]?=some v:=by
   unfold start at h2
   rw [List.getElem?_append_left (by simpa using hi),List.getElem?_map] at h2
   cases e:vs[i]? with
   | none=>rw [e] at h2; cases h2
   | some a=>rw [e] at h2; cases h2; rfl
  obtain ⟨u,hu,rv⟩:=r.get ha
  have hp:ps[i]?=some y:=by
   rw [← S.pre,List.getElem?_take_of_lt (by omega)]; exact h1
  have ndP:ps.Nodup:=by rw [← S.pre]; exact S.nd.sublist (List.take_sublist _ _)
  refine ⟨u,rv,?_⟩
  rcases S.par y (List.mem_of_getElem? hp) with k | k
  ·exact .inl ⟨k,bindL_get ndP hp hu k⟩
  ·obtain ⟨c,e⟩:=cell_has (n:=s.heap.objs.size + 1) k
   refine .inr ⟨.inl k,c,e,?_⟩
   have q:=x.cell y c e
   rw [bindC_get ndP hp hu (by show scope.names.lookup y≠_; rw [k]; decide)] at q
   exact q
 ·exact e0.hok.fresh (Nat.le_of_lt (x.above y c (PySem.mem_of_lookup h)))
 ·unfold start
  show _=N.length
  rw [List.length_append,List.length_map,List.length_replicate]
  omega
theorem fn_of {CX:CXT} {P:Program} {w:World} {K:PySem.W.Frag} {mg:Str→Option Value} {base:Heap} {k:Nat} {f:Addr} {name qual:Str} {params:Arguments} {body:List Stmt} {scope:Scope} {dV kV doc pm cdv ct oc:Value} {an od:Option Addr}
  {osl:Array (Option Value)} {N ps:List Str} {sp:Sp} (lk:K.lookup f=some ⟨oc,od,.func (PySem.W.fnOf name qual params body scope dV kV doc pm an cdv ct),osl⟩) (hcd:PySem.W.codeIn K cdv qual=true) (S:FnScope N ps scope)
  (len:∀ vs H Q E,sp vs H Q E→vs.length=ps.length)
  (hbody:∀ (A:Around) (outer:List Env) (s:Shared) (H:Hp) (vs:List V) (Q:VK) (E:XK),Room k (A.deeper (envOfC qual scope s.heap.objs.size f cdv))→sp vs H Q E →
   ∃ t,PSs (cxOf CX P w K mg base N qual scope f cdv A outer s H E) body t∧t { nx:=fun _ H'=>Q .non H',rt:=Q } (start N vs) H) :
  FnOk P w K mg base CX (k + 1) f (PySem.W.fnOf name qual params body scope dV kV doc pm an cdv ct) ps sp:=by
 refine ⟨len,fun A outer s H args us vs Q E hr e0 hb r hsp=>?_⟩
 have hl:=len _ _ _ _ hsp
 have KX:K.In s.heap:=e0.mod.kin.keeps fun b o e=>(e0.bs b o e).1
 have lim:s.heap.NoLimit:=e0.mod.nolimit.keeps fun b o e=>(e0.bs b o e).1
 have hkind:∀ y∈ps.zip us,scope.names.lookup y.1=some .local∨(scope.names.lookup y.1=some .cell∧((cellsFrom (s.heap.objs.size + 1) scope.names []).lookup y.1).isSome=true):=fun ⟨n,v⟩ hy=>by
  rcases S.par n (List.of_mem_zip hy).1 with q | q
  ·exact .inl q
  ·exact .inr ⟨q,PySem.W.cellsFrom_some _ _ _ (.inl q)⟩
 refine codeAny_call_function hr.depth (KX _ _ lk) rfl S.co S.gen rfl (PySem.W.codeRec_of KX hcd) (hb _ _ _ _ ?_)
 refine wpAny_newFunctionEnv_cells S.kind hkind fun env he s1 x=>?_
 subst he
 refine ⟨lim.keeps x.toInCall.keep,codeAny_func ?_⟩
 obtain ⟨t,ht,hq⟩:=hbody A outer s H vs Q E (hr.deeper _) hsp
 have I:Inv (cxOf CX P w K mg base N qual scope f cdv A outer s H E) [] (start N vs) H s1:=inv_start S hr.hd e0 hl r x
 refine wpAny_mono (ht [] s1 (start N vs) H _ I hq) (fun fl s' hs=>?_) fun e s' hs=>hs
 have fin:∀ {σ':St} {H':Hp} {v:V} {u:Value},Inv (cxOf CX P w K mg base N qual scope f cdv A outer s H E) [] σ' H' s'→RelV v u→Q v H'→CE outer P w H s Q u s' :=
  fun {σ' H' v u} J rv q=>⟨v,H',J.os,J.bare,J.base,J.hok,rv,q⟩
 cases fl with
 | ret u =>
  obtain ⟨v,σ',H',J,rv,q⟩:=hs
  exact fin J rv q
 | next =>
  obtain ⟨σ',H',J,q⟩:=hs
  exact fin (v:=V.non) (u:=Value.none) J rfl q
 | brk =>
  obtain ⟨_,_,_,q⟩:=hs
  exact False.elim q
 | cont =>
  obtain ⟨_,_,_,q⟩:=hs
  exact False.elim q
section
variable {X:Cx} {x:Str} {p pos:Pos} {e:Expr} {es:List Expr} {t:TA} {id T:String} {r:List V→Hp→VK→Prop}
def tCB (r:List V→Hp→VK→Prop) (t:TA):TE:=fun σ H Q=>t σ H fun vs H1=>r vs H1 Q
theorem pe_callB (hc:CallR X (.builtin id) r) (hg:Gl X x) (hm:X.mg x=none) (hv:bootBuiltins x=some (.builtin id)) (ha:PA X (e :: es) t) (hn:x≠"__name__":=by decide) (hdb:(x == ("__debug__":Str))=false:=by decide)
  (he:starEach (e :: es) X.env=(false,eval e X.env) :: starEach es X.env:=by rfl) (hpl:(backTo pos (starEach es X.env)).any (·.1)=false:=by rfl):PE X (.Call (.Name x p) (e :: es) [] pos) (tCB r t):=by
 intro pins s σ H Q I h
 refine wpAny_Call_Name_kw (ld_blt I hg hm hv ?_ hn hdb)
 exact PyProof.Rows.callWith_builtin1 (thn (ha pos pins s σ H _ I h) fun us s1 ⟨vs,H1,I1,r1,q1⟩=>hc pins s1 σ H1 vs us Q I1 r1 q1) he hpl
theorem pe_callTy (hc:CallR X (.type T) r) (hg:Gl X x) (hm:X.mg x=none) (hv:bootBuiltins x=some (.type T)) (ha:PA X (e :: es) t) (hn:x≠"__name__":=by decide) (hdb:(x == ("__debug__":Str))=false:=by decide)
  (he:starEach (e :: es) X.env=(false,eval e X.env) :: starEach es X.env:=by rfl) (hpl:(backTo pos (starEach es X.env)).any (·.1)=false:=by rfl):PE X (.Call (.Name x p) (e :: es) [] pos) (tCB r t):=by
 intro pins s σ H Q I h
 refine wpAny_Call_Name_kw (ld_blt I hg hm hv ?_ hn hdb)
 exact PyProof.Rows.callWith_type1 (thn (ha pos pins s σ H _ I h) fun us s1 ⟨vs,H1,I1,r1,q1⟩=>hc pins s1 σ H1 vs us Q I1 r1 q1) he hpl
end
end L2
namespace HT
open PySem PyProof.Rows
def lexLt:List Int→List Int→Bool
 | [],[]=>false
 | [],_ :: _=>true
 | _ :: _,[]=>false
 | x :: xs,y :: ys=>if x=y then lexLt xs ys else decide (x < y)
theorem lexLt_cons (x y:Int) (xs ys:List Int):lexLt (x :: xs) (y :: ys)=if x=y then lexLt xs ys else decide (x < y):=rfl
theorem lexLt_nil_nil:lexLt [] []=false:=rfl
theorem lexLt_nil_cons (y:Int) (ys:List Int):lexLt [] (y :: ys)=true:=rfl
theorem lexLt_cons_nil (x:Int) (xs:List Int):lexLt (x :: xs) []=false:=rfl
theorem eqAt_int (A:Around) (s:Shared) (a:Int) (t:Tok) (c:Int) (u:Tok):∃ e,SeqAt.EqAt A s (.int a t) (.int c u) e∧(e=true↔a=c) :=
 ⟨(a == c),SeqAt.EqAt.int_int a t c u,by simp⟩
theorem rcLt_int (A:Around) (s:Shared) (a:Int) (t:Tok) (c:Int) (u:Tok) (prog:Program) (w:World) (E:Value→Shared→Prop) (Q:Value→Shared→Prop) (h:Q (.bool (decide (a < c))) s) :
  wpAny (model prog w) A (richCompare .Lt (.int a t) (.int c u)) Q E s :=
 (PyProof.Rows.lt_int h:wpAny (model prog w) A (compareOp .Lt (.int a t) (.int c u)) Q E s)
section
open PySem.SeqAt
open PySem.AutoSeq1 (wpAny_loadPart')
open PySem.MeetsSeq PySem.MeetsSeq2 PySem.MeetsSeq3
theorem tuple_lt_ints (l b:Addr) (items items2:Array Value) (n n2:Nat) (dd dd2:Option Addr) (sl sl2:Array (Option Value)) (ns ms:List Int) (hi:IntsAre items.toList ns) (hj:IntsAre items2.toList ms) :
  Meets (Builtin.«tuple.__lt__» ⟨[.ref l,.ref b],[]⟩)
   (fun _ R s=>s.heap.get? l=some { cls:=.type "tuple",dict:=dd,data:=.seq items n,slots:=sl }∧s.heap.get? b=some { cls:=.type "tuple",dict:=dd2,data:=.seq items2 n2,slots:=sl2 } ∧
    R (.ok (.ret (.bool (lexLt ns ms)))) s) :=
 .of_wp fun prog w A R s h=>by
  obtain ⟨hp,g,d,tk,os⟩:=s; obtain ⟨hl,hb,h⟩:=h
  have f2:=AutoSeq1.sub_tuple_tuple
  have z1:items.size=ns.length:=by rw [← hi.length]; simp
  have z2:items2.size=ms.length:=by rw [← hj.length]; simp
  wp_walk using wpAny_loadPart' hl,wpAny_loadPart' hb,wpAny_forIn_list _ (fun rest b s'=>b.1=none∧s'=⟨hp,g,d,tk,os⟩∧∃ (vs ws:List Value) (ns' ms':List Int),rest=vs.zip ws ∧
   IntsAre vs ns'∧IntsAre ws ms'∧ns'.length + items2.size=ms'.length + items.size∧R (.ok (.ret (.bool (lexLt ns' ms')))) ⟨hp,g,d,tk,os⟩) _
  case turn =>
   rintro ⟨y,x⟩ rest b s' ⟨hb',rfl,vs,ws,ns',ms',hz,hvi,hwi,hlen,hR⟩
   cases hvi with
   | nil=>rw [List.zip_nil_left] at hz; cases hz
   | cons a t hvi' =>
    cases hwi with
    | nil=>rw [List.zip_nil_right] at hz; cases hz
    | cons c u hwi' =>
     rw [List.zip_cons_cons] at hz
     injection hz with hyx hrest
     injection hyx with hy hx
     subst hy hx
     rw [lexLt_cons] at hR
     simp only [List.length_cons] at hlen
     obtain ⟨e,he,hiff⟩:=eqAt_int A.in1 ⟨hp,g,d,tk,os⟩ a t c u
     refine wpAny_bind (he prog w _ _ ?_)
     cases e with
     | true =>
      rw [if_pos (hiff.mp rfl)] at hR
      wp_walk
      exact ⟨rfl,rfl,_,_,_,_,hrest,hvi',hwi',by omega,hR⟩
     | false =>
      rw [if_neg (fun q=>absurd (hiff.mpr q) Bool.false_ne_true)] at hR
      have hri:=rcLt_int A.in1 ⟨hp,g,d,tk,os⟩ a t c u prog w
      wp_walk using hri
      exact ⟨_,rfl,by simpa using hR⟩
  case fin =>
   rintro ⟨b1,b2⟩ s' ⟨hb',rfl,vs,ws,ns',ms',hz,hvi,hwi,hlen,hR⟩
   simp only at hb'
   subst hb'
   have hv:lexLt ns' ms'=decide (items.size < items2.size):=by
    cases hvi with
    | nil =>
     cases hwi with
     | nil =>
      simp only [List.length_nil] at hlen
      rw [lexLt_nil_nil]
      exact (decide_eq_false (by omega)).symm
     | cons c u hw =>
      simp only [List.length_nil,List.length_cons] at hlen
      rw [lexLt_nil_cons]
      exact (decide_eq_true (by omega)).symm
    | cons a t hv =>
     cases hwi with
     | nil =>
      simp only [List.length_nil,List.length_cons] at hlen
      rw [lexLt_cons_nil]
      exact (decide_eq_false (by omega)).symm
     | cons c u hw =>
      rw [List.zip_cons_cons] at hz
      cases hz
   rw [hv] at hR
   wp_walk
   exact ⟨_,rfl,by simpa [Builtin.Tuple.tupleCompareSizes] using hR⟩
  case h =>
   exact ⟨rfl,rfl,items.toList,items2.toList,ns,ms,rfl,hi,hj,by omega,h⟩
end
section
variable {prog:Program} {w:World} {A:Around} {E:Value→Shared→Prop} {s:Shared}
theorem lt_tupInts {l b:Addr} {items items2:Array Value} {ns ms:List Int} {Q:Value→Shared→Prop} (hl:IsTup s.heap l items) (hb:IsTup s.heap b items2) (hi:IntsAre items.toList ns) (hj:IntsAre items2.toList ms)
  (hu:A.units < cLine) (h:Q (.bool (lexLt ns ms)) s):wpAny (model prog w) A (compareOp .Lt (.ref l) (.ref b)) Q E s:=by
 obtain ⟨⟨cls,dd,data,sl⟩,ho,hc,n,hd⟩:=id hl
 obtain ⟨⟨cls2,dd2,data2,sl2⟩,ho2,hc2,n2,hd2⟩:=id hb
 simp only at hc hd hc2 hd2
 subst hc hd hc2 hd2
 exact richCompare_meets_room (op:=.Lt) ⟨_,ho,rfl⟩ ⟨_,ho2,rfl⟩ PySem.F.slot_tuple_lt PySem.F.entry_tuple_lt (PySem.F.args_tuple_lt_2 _ _) (tuple_lt_ints l b items items2 n n2 dd dd2 sl sl2 ns ms hi hj)
  ⟨ho,ho2,show Value.bool (lexLt ns ms)≠Value.notImplemented∧Q (.bool (lexLt ns ms)) s from ⟨(fun x=>nomatch x),h⟩⟩ hu
def sIx (n d:Nat):Option Int→Nat
 | none=>d
 | some v=>if v < 0 then (v + (n:Int)).toNat else min v.toNat n
end
end HT
namespace L2
open PySem PySem.Spec PyProof.Rows
abbrev TO:=St→Hp→(Option Int→Hp→Prop)→Prop
def PO (X:Cx) (e:Option Expr) (t:TO):Prop :=
 ∀ (pins:List (Addr×Obj)) (s:Shared) (σ:St) (H:Hp) (Q:Option Int→Hp→Prop),Inv X pins σ H s→t σ H Q →
  wpAny (model X.prog X.w) X.A (evalPart e X.env) (fun u s'=>∃ o H',Inv X pins σ H' s'∧IsPart u o∧Q o H') X.xe s
def tNoPart:TO:=fun _ H Q=>Q none H
def tPart (t:TE):TO:=fun σ H Q=>t σ H fun x H1=>∃ i,x=.int i∧Q (some i) H1
theorem intsAre_of {ns:List Int}:∀ {us:List Value},Vals (ns.map V.int) us→IntsAre us ns:=by
 induction ns with
 | nil=>intro us r; rw [List.map_nil] at r; cases r; exact .nil
 | cons n ns ih =>
  intro us r
  rw [List.map_cons] at r
  cases r with
  | cons r1 r2 =>
   obtain ⟨t,e⟩:=r1
   subst e
   exact .cons n t (ih r2)
section
variable {X:Cx} {e:Expr} {te:TE} {lo hi:Option Expr} {tl th:TO} {pos p2:Pos}
theorem po_none:PO X none tNoPart:=by
 intro pins s σ H Q I h
 rw [evalPart_none]
 exact wpAny_pure ⟨none,H,I,.none,h⟩
theorem po_some (h:PE X e te):PO X (some e) (tPart te):=by
 intro pins s σ H Q I hw
 rw [evalPart_some]
 refine thn (h pins s σ H _ I hw) fun u s1 ⟨x,H1,I1,r1,q1⟩=>?_
 obtain ⟨i,rfl,q⟩:=q1
 obtain ⟨t,rfl⟩:=r1
 exact ⟨some i,H1,I1,.int i t,q⟩
def SlR (X:Cx) (r:V→Option Int→Option Int→Hp→VK→Prop):Prop :=
 ∀ (pins:List (Addr×Obj)) (s:Shared) (σ:St) (H:Hp) (x:V) (v vl vu:Value) (lo hi:Option Int) (sl:Addr) (Q:VK),Inv X pins σ H s→RelV x v→s.heap.IsSliceOf sl vl vu .none→IsPart vl lo→IsPart vu hi→r x lo hi H Q →
  ∃ T id,typeLookup (.type T) "__getitem__"=pure (some (.builtin id))∧s.TypeIs v T∧wpAny (model X.prog X.w) X.A (getItem v (.ref sl)) (EP X pins σ Q) X.xe s
def tSl (r:V→Option Int→Option Int→Hp→VK→Prop) (te:TE) (tl th:TO):TE:=fun σ H Q=>te σ H fun x H1=>tl σ H1 fun l H2=>th σ H2 fun u H3=>r x l u H3 Q
theorem pe_slice {r:V→Option Int→Option Int→Hp→VK→Prop} (hr:SlR X r) (he:PE X e te) (hl:PO X lo tl) (hu:PO X hi th):PE X (.Subscript e (.Slice lo hi none p2) pos) (tSl r te tl th):=by
 intro pins s σ H Q I h
 refine Subscript_ (thn (he pins s σ H _ I h) fun v s1 ⟨x,H1,I1,r1,q1⟩=>?_)
 refine wpAny_Slice (thn (hl pins s1 σ H1 _ I1 q1) fun vl s2 ⟨l,H2,I2,pl,q2⟩=>thn (hu pins s2 σ H2 _ I2 q2) fun vu s3 ⟨u,H3,I3,pu,q3⟩=>?_)
 rw [evalPart_none]
 refine wpAny_pure ?_
 have I4:Inv X pins σ H3 { s3 with heap:=s3.heap.push { cls:=.type "slice",data:=.fields #[vl,vu,.none] } }:=I3.kept (t':=s3.toks) fun b ob q=>Heap.get?_push_of_some _ q
 obtain ⟨T,id,hT,ht,hg⟩:=hr pins { s3 with heap:=s3.heap.push { cls:=.type "slice",data:=.fields #[vl,vu,.none] } } σ H3 x v vl vu l u s3.heap.objs.size Q I4 r1 (Heap.IsSliceOf.new ..) pl pu q3
 show wpAny (model X.prog X.w) X.A (subscriptTail e (.Slice lo hi none p2) v (.ref s3.heap.objs.size)) (EP X pins σ Q) X.xe { s3 with heap:=s3.heap.push { cls:=.type "slice",data:=.fields #[vl,vu,.none] } }
 exact tail_any (ops:=[.ref s3.heap.objs.size,v]) ht hT hg (by with_unfolding_all rfl)
def cutV (xs:List V) (lo hi:Option Int):List V:=(xs.drop (HT.sIx xs.length 0 lo)).take (HT.sIx xs.length xs.length hi - HT.sIx xs.length 0 lo)
theorem cutV_length (xs:List V) (lo hi:Option Int):(cutV xs lo hi).length≤xs.length:=by
 unfold cutV
 rw [List.length_take,List.length_drop]
 omega
def rLtT (K:PySem.W.Frag):R2:=fun x y H Q=>∃ a b ns ms,x=.ref a∧y=.ref b∧SqT K H a (ns.map V.int)∧SqT K H b (ms.map V.int)∧Q (.bl (HT.lexLt ns ms)) H
theorem op_ltT (hu:X.A.units < cLine):OpR X (compareOp .Lt) (rLtT X.K):=by
 intro pins s σ H x y v u Q I rx ry h
 obtain ⟨a,b,ns,ms,rfl,rfl,ha,hb,q⟩:=h
 cases rx
 cases ry
 obtain ⟨its,r1,p1,_⟩:=I.tuple ha
 obtain ⟨its2,r2,p2,_⟩:=I.tuple hb
 have i1:IntsAre its.toArray.toList ns:=intsAre_of r1
 have i2:IntsAre its2.toArray.toList ms:=intsAre_of r2
 exact HT.lt_tupInts p1 p2 i1 i2 hu ⟨.bl (HT.lexLt ns ms),H,I,rfl,q⟩
end
def ixN (n:Nat) (i:Int):Option Nat:=if 0≤i then (if i < n then some i.toNat else none) else if -(n:Int)≤i then some (i + n).toNat else none
def atI {α:Type} (xs:List α) (i:Int):Option α:=(ixN xs.length i).bind fun j=>xs[j]?
theorem ixN_seq {n:Nat} {i:Int} {j:Nat} (h:ixN n i=some j):seqIndex? i n=some j∧j < n∧-(n:Int)≤i∧i < n:=by
 unfold ixN at h
 by_cases h0:0≤i
 ·rw [if_pos h0] at h
  by_cases h1:i < n
  ·rw [if_pos h1] at h
   have e:i.toNat=j:=Option.some.inj h
   exact ⟨by rw [seqIndex_of h0 h1,e],by omega,by omega,h1⟩
  ·rw [if_neg h1] at h; cases h
 ·rw [if_neg h0] at h
  by_cases h1:-(n:Int)≤i
  ·rw [if_pos h1] at h
   have e:(i + n).toNat=j:=Option.some.inj h
   exact ⟨by rw [seqIndex_neg (by omega) h1,e],by omega,h1,by omega⟩
  ·rw [if_neg h1] at h; cases h
theorem atI_get {α:Type} {xs:List α} {i:Int} {v:α} (h:atI xs i=some v):∃ j,seqIndex? i xs.length=some j∧xs[j]?=some v∧j < xs.length∧-(xs.length:Int)≤i∧i < xs.length:=by
 unfold atI at h
 cases e:ixN xs.length i with
 | none=>rw [e] at h; cases h
 | some j =>
  rw [e] at h
  obtain ⟨h1,h2,h3,h4⟩:=ixN_seq e
  exact ⟨j,h1,h,h2,h3,h4⟩
theorem atI_nat {α:Type} {xs:List α} {j:Nat} {v:α} (h:xs[j]?=some v):atI xs (j:Int)=some v:=by
 have hj:j < xs.length:=(List.getElem?_eq_some_iff.mp h).1
 have e:ixN xs.length (j:Int)=some j:=by
  unfold ixN
  rw [if_pos (by omega),if_pos (by omega)]; simp
 unfold atI; rw [e]; exact h
def PlainIx (b:Expr):Prop:=∀ o i,subscripted b false o i=operate [o,i] (getItem o i)
def IxR (X:Cx) (r:R2):Prop :=
 ∀ (value slice:Expr) (pins:List (Addr×Obj)) (s:Shared) (σ:St) (H:Hp) (x y:V) (v u:Value) (Q:VK),Inv X pins σ H s→RelV x v→RelV y u→r x y H Q →
  subscripted slice false v u=operate [v,u] (getItem v u)→wpAny (model X.prog X.w) X.A (subscriptTail value slice v u) (EP X pins σ Q) X.xe s
def MtR (X:Cx) (id:String) (r:V→List V→Hp→VK→Prop):Prop :=
 ∀ (pins:List (Addr×Obj)) (s:Shared) (σ:St) (H:Hp) (x:V) (xs:List V) (v:Value) (us:List Value) (Q:VK),Inv X pins σ H s→RelV x v→Vals xs us→r x xs H Q →
  wpAny (model X.prog X.w) X.A (call (.builtin id) (v :: us)) (EP X pins σ Q) X.xe s
section
variable {X:Cx} {a b:Expr} {ta tb:TE} {pos:Pos}
theorem pe_ix {r:R2} (hr:IxR X r) (ha:PE X a ta) (hb:PE X b tb) (hs:PlainIx b):PE X (.Subscript a b pos) (tOp r ta tb):=by
 intro pins s σ H Q I h
 exact Subscript_ (binT ha hb I h fun v u s2 x y H2 I2 rx ry q=>hr a b pins s2 σ H2 x y v u Q I2 rx ry q (hs _ _))
def rIxL (K:PySem.W.Frag):R2:=fun x y H Q=>∃ p xs i v,x=.ref p∧y=.int i∧SqL K H p xs∧atI xs i=some v∧Q v H
def rIxT (K:PySem.W.Frag):R2:=fun x y H Q=>∃ p xs i v,x=.ref p∧y=.int i∧SqT K H p xs∧atI xs i=some v∧Q v H
def rIxS:R2:=fun x y H Q=>∃ z i c,x=.str z∧y=.int i∧z.length≤sizeLine∧atI z.cps.toList i=some c∧Q (.str ⟨#[c]⟩) H
theorem ix_list:IxR X (rIxL X.K):=by
 intro value slice pins s σ H x y v u Q I rx ry h hs
 obtain ⟨p,xs,i,z,rfl,rfl,hq,he,q⟩:=h
 cases rx
 obtain ⟨t,rfl⟩:=ry
 obtain ⟨its,r,pl,hz⟩:=I.list hq
 obtain ⟨j,h1,h2,h3,h4,h5⟩:=atI_get he
 obtain ⟨w,ew,rw'⟩:=r.get h2
 have hl:=r.length
 have hn:=line63
 have fin:EP X pins σ Q w s:=⟨z,H,I,rw',q⟩
 by_cases h0:0≤i
 ·have hj:i.toNat=j:=by
   rw [seqIndex_of h0 h5] at h1
   exact Option.some.inj h1
  exact item_listR pl.isList h0 (by omega) (by rw [hj]; simpa using ew) fin hs
 ·have hj:(i + (its.toArray.size:Int)).toNat=j:=by
   rw [seqIndex_neg (by omega) h4] at h1
   rw [List.size_toArray,← hl]
   exact Option.some.inj h1
  exact subscriptTail_builtinR (x:=w) pl.isList.typeIs slot_list_getitem.lookup
   (wpAny_getItem_list_neg (Q:=fun r s'=>r=w∧EP X pins σ Q r s') pl.isList (by omega) (by rw [List.size_toArray] <;> omega) (by omega) (by rw [hj]; simpa using ew) ⟨rfl,fin⟩) hs
theorem ix_tup:IxR X (rIxT X.K):=by
 intro value slice pins s σ H x y v u Q I rx ry h hs
 obtain ⟨p,xs,i,z,rfl,rfl,hq,he,q⟩:=h
 cases rx
 obtain ⟨t,rfl⟩:=ry
 obtain ⟨its,r,pl,hz⟩:=I.tuple hq
 obtain ⟨j,h1,h2,h3,h4,h5⟩:=atI_get he
 obtain ⟨w,ew,rw'⟩:=r.get h2
 have hl:=r.length
 have hn:=line63
 have fin:EP X pins σ Q w s:=⟨z,H,I,rw',q⟩
 exact subscriptTail_builtinR (x:=w) pl.typeIs slot_tuple_getitem.lookup
  (getItem_tuple (j:=j) (Q:=fun r s'=>r=w∧EP X pins σ Q r s') pl (by omega) (by omega) (by rw [List.size_toArray,← hl]; exact h1) (by simpa using ew) ⟨rfl,fin⟩) hs
theorem ix_str:IxR X rIxS:=by
 intro value slice pins s σ H x y v u Q I rx ry h hs
 obtain ⟨z,i,c,rfl,rfl,hz,he,q⟩:=h
 obtain ⟨t,rfl⟩:=rx
 obtain ⟨t',rfl⟩:=ry
 obtain ⟨j,h1,h2,h3,h4,h5⟩:=atI_get he
 have hl:z.cps.toList.length=z.length:=by simp [Str.length]
 rw [hl] at h1 h4 h5
 have hn:=line63
 exact tail_any (typeIs_str s z t) slot_str_getitem.lookup (getItem_str (c:=c) (by
  have e1:decide (i < -(2 ^ 63:Int))=false:=decide_eq_false (by omega)
  have e2:decide (i ≥ 2 ^ 63)=false:=decide_eq_false (by omega)
  rw [e1,e2,Bool.or_false]) (by rw [h1]; simpa using h2) ⟨.str ⟨#[c]⟩,H,I.tok _,⟨_,rfl⟩,q⟩) hs
theorem slice_bounds (lo hi:Option Int) (n:Nat):(sliceBounds lo hi none n).1=((HT.sIx n 0 lo:Nat):Int)∧(sliceBounds lo hi none n).2.1=((HT.sIx n n hi:Nat):Int)∧(sliceBounds lo hi none n).2.2=1:=by
 refine ⟨?_,?_,rfl⟩
 ·cases lo with
  | none=>simp [sliceBounds,HT.sIx]
  | some i =>
   simp only [sliceBounds,HT.sIx,Option.getD_none,show (1:Int) > 0 by decide,if_true]
   by_cases h:i < 0
   ·simp only [h,if_true] <;> omega
   ·simp only [h,if_false] <;> omega
 ·cases hi with
  | none=>simp [sliceBounds,HT.sIx]
  | some i =>
   simp only [sliceBounds,HT.sIx,Option.getD_none,show (1:Int) > 0 by decide,if_true]
   by_cases h:i < 0
   ·simp only [h,if_true] <;> omega
   ·simp only [h,if_false] <;> omega
theorem slicePick_cut (its:List Value) (lo hi:Option Int):slicePick its.toArray lo hi none=((its.drop (HT.sIx its.length 0 lo)).take (HT.sIx its.length its.length hi - HT.sIx its.length 0 lo)).toArray:=by
 obtain ⟨h1,h2,h3⟩:=slice_bounds lo hi its.toArray.size
 unfold slicePick
 rw [h1,h2,h3]
 simp only [sliceRange_one,pick_run,List.size_toArray] <;> rfl
def rSlL (K:PySem.W.Frag):V→Option Int→Option Int→Hp→VK→Prop:=fun x lo hi H Q=>∃ a xs,x=.ref a∧SqL K H a xs∧∀ p,H p=none→Q (.ref p) (upd H p (.lst (cutV xs lo hi)))
theorem sl_list:SlR X (rSlL X.K):=by
 intro pins s σ H x v vl vu lo hi sl Q I rx hs pl pu h
 obtain ⟨a,xs,rfl,hx,q⟩:=h
 cases rx
 obtain ⟨its,r,ht,hz⟩:=I.list hx
 have hlen:=r.length
 refine ⟨"list",_,slot_list_getitem.lookup,ht.isList.typeIs,?_⟩
 refine wpAny_getItem_list_slice ht.isList hs pl pu .none (by simp) ?_ (by rw [List.size_toArray] <;> omega)
 rw [slicePick_cut,← hlen]
 refine ⟨.ref s.heap.objs.size,_,I.laid (t':=s.toks) (o:=.lst (cutV xs lo hi)) (fun b ob q=>Heap.get?_push_of_some _ q) (Nat.le_refl _) ?_,rfl,q _ (I.hok.fresh (Nat.le_refl _))⟩
 exact ⟨Nat.le_trans (cutV_length xs lo hi) hz,_,0,(r.drop (HT.sIx xs.length 0 lo)).take (HT.sIx xs.length xs.length hi - HT.sIx xs.length 0 lo),Heap.get?_push_size _ rfl⟩
theorem call_len_seq:CallR X (.builtin "len") (fun xs H Q=>∃ p ys,xs=[.ref p]∧(SqL X.K H p ys∨SqT X.K H p ys)∧Q (.int ys.length) H):=by
 intro pins s σ H xs us Q I r h
 obtain ⟨p,ys,rfl,hq,q⟩:=h
 obtain ⟨u,rfl,rx⟩:=vals1 r
 cases rx
 have hn:=line63
 rcases hq with hq | hq
 ·obtain ⟨its,r',pl,hz⟩:=I.list hq
  have hlen:=r'.length
  exact Calls.call_len_list pl.isList (by simp only [List.size_toArray] <;> omega) ⟨.int ys.length,H,I.tok _,⟨s.toks + 1,by rw [List.size_toArray,hlen]⟩,q⟩
 ·obtain ⟨its,r',pl,hz⟩:=I.tuple hq
  have hlen:=r'.length
  exact len_tuple pl (by simp only [List.size_toArray] <;> omega) ⟨.int ys.length,H,I.tok _,⟨s.toks + 1,by rw [List.size_toArray,hlen]⟩,q⟩
def tyV (K:PySem.W.Frag) (T:String) (x:V) (H:Hp):Prop:=match x with
 | .str _=>T="str"
 | .int _=>T="int"
 | .ref p=>(T="list"∧∃ xs,SqL K H p xs)∨(T="tuple"∧∃ o,K.lookup p=some o∧o.cls=.type "tuple"∧o.dict=none) ∨
   (T="dict"∧((∃ kvs,H p=some (.dK kvs))∨∃ kvs,H p=some (.dT kvs)))∨(T="set"∧∃ S n,H p=some (.set S n))
 | _=>False
theorem tyV_is {pins:List (Addr×Obj)} {σ:St} {H:Hp} {s:Shared} {T:String} {x:V} {v:Value} (I:Inv X pins σ H s) (r:RelV x v) (ty:tyV X.K T x H) :
  s.TypeIs v T∧∀ a,v=.ref a→∃ ob,s.heap.get? a=some ob∧ob.dict=none:=by
 cases x with
 | str z =>
  obtain ⟨t,rfl⟩:=r
  cases (show T="str" from ty)
  exact ⟨typeIs_str s z t,fun _ e=>nomatch e⟩
 | int i =>
  obtain ⟨t,rfl⟩:=r
  cases (show T="int" from ty)
  exact ⟨typeIs_int s i t,fun _ e=>nomatch e⟩
 | ref p =>
  cases r
  rcases ty with ⟨rfl,xs,hq⟩ | ⟨rfl,o,hk,hc,hd⟩ | ⟨rfl,hk⟩ | ⟨rfl,S,n,hk⟩
  ·obtain ⟨its,_,pl,_⟩:=I.list hq
   refine ⟨pl.isList.typeIs,fun a e=>?_⟩
   cases e
   obtain ⟨o,n,e,c,hd,_⟩:=pl
   exact ⟨o,e,hd⟩
  ·refine ⟨⟨o,I.kIn p o hk,hc⟩,fun a e=>?_⟩
   cases e
   exact ⟨o,I.kIn _ o hk,hd⟩
  ·have z:∃ o,s.heap.get? p=some o∧o.ExactDict:=by
    rcases hk with ⟨kvs,hk⟩ | ⟨kvs,hk⟩
    ·obtain ⟨_,_,_,_,o,_,_,e,ex,_⟩:=I.hok p _ hk
     exact ⟨o,e,ex⟩
    ·obtain ⟨_,_,_,_,o,_,_,e,ex,_⟩:=I.hok p _ hk
     exact ⟨o,e,ex⟩
   obtain ⟨o,e,ex⟩:=z
   refine ⟨⟨o,e,ex.1⟩,fun a e2=>?_⟩
   cases e2
   exact ⟨o,e,ex.2.1⟩
  ·obtain ⟨o,_,_,_,e,ex,_⟩:=I.hok p _ hk
   refine ⟨⟨o,e,ex.1⟩,fun a e2=>?_⟩
   cases e2
   exact ⟨o,e,ex.2.1⟩
 | _=>exact False.elim ty
def tBM (K:PySem.W.Frag) (T:String) (r:V→List V→Hp→VK→Prop) (to:TE) (t:TA):TE:=fun σ H Q=>to σ H fun x H1=>tyV K T x H1∧t σ H1 fun xs H2=>r x xs H2 Q
variable {o e:Expr} {es:List Expr} {to:TE} {t:TA} {name:Str} {apos cpos:Pos} {T id:String} {r:V→List V→Hp→VK→Prop}
theorem pe_bm (pa:PlainAttrs T) (slot:Slot T name id) (hty:typeOf (.builtin id)=pure (.type "method_descriptor")) (hm:MtR X id r) (ho:PE X o to) (ha:PA X (e :: es) t)
  (hbase:attributeBase o name X.env (eval o X.env)=eval o X.env:=by rfl)
  (hfew:((backTo cpos (starEach (e :: es) X.env)).all (fun x=>!x.1) && (backToKw cpos (keywordEach [] X.env)).all (fun x=>x.1.isSome)
   && decide ((e :: es).length + ([]:List Keyword).length + (if ([]:List Keyword).isEmpty then 0 else 1) < 30))=true:=by rfl)
  (hline:(apos.endLine == cpos.line)=true:=by rfl) (hs:starEach (e :: es) X.env=(false,eval e X.env) :: starEach es X.env:=by rfl) (hplain:(backTo cpos (starEach es X.env)).any (·.1)=false:=by rfl) :
  PE X (.Call (.Attribute o name apos) (e :: es) [] cpos) (tBM X.K T r to t):=by
 intro pins s σ H Q I h
 refine wpAny_Call_method_late hbase hfew hline rfl (thn (ho pins s σ H _ I h) fun v s1 ⟨x,H1,I1,r1,ty,q1⟩=>?_)
 obtain ⟨h1,h2⟩:=tyV_is I1 r1 ty
 refine ⟨T,id,pa,slot,hty,h1,h2,?_⟩
 have hA:=ha cpos pins s1 σ H1 _ I1 q1
 rw [hs] at hA ⊢
 refine Calls.callWith_builtin (by show (false || (backTo cpos (starEach es X.env)).any (·.1))=false; rw [hplain] <;> rfl) (Calls.evalArgs_plain ?_)
 exact thn hA fun us s2 ⟨vs,H2,I2,r2,q2⟩=>hm pins s2 σ H2 x vs v us Q I2 r1 r2 q2
/- xs.append(e),list.index on a module's tuple .. are MtR facts of 06m -/
end
def MtM (X:Cx) (id:String) (r:V→List V→Hp→VK→Prop):Prop :=
 ∀ (pins:List (Addr×Obj)) (s:Shared) (σ:St) (H:Hp) (x:V) (xs:List V) (v:Value) (us:List Value) (Q:VK),Inv X pins σ H s→RelV x v→Vals xs us→r x xs H Q →
  wpAny (model X.prog X.w) X.A (call (.builtin id) (v :: us)) (EP X pins σ Q) X.xe s
theorem Vals.one:∀ {x:V} {us:List Value},Vals [x] us→∃ u,us=[u]∧RelV x u
 | _,_,.cons r .nil=>⟨_,rfl,r⟩
section
variable {X:Cx} {pins:List (Addr×Obj)} {σ:St} {H:Hp} {s:Shared} {l b:Addr} {xs ys zs:List V}
theorem Inv.lset {its its':List Value} {n:Nat} {f:Array Value→Array Value} {t':Nat} (I:Inv X pins σ H s) (hH:H l=some (.lst xs))
  (e:s.heap.get? l=some { cls:=.type "list",data:=.seq its.toArray n }) (hf:f its.toArray=its'.toArray) (hv:Vals ys its') (hz:ys.length≤sizeLine) :
  Inv X pins σ (upd H l (.lst ys)) { s with heap:=s.heap.update l (Obj.mapSeq f),toks:=t' }:=by
 have q:=PySem.IsL.update e f
 rw [hf] at q
 refine I.write (x:=l) (e:=l) (by rw [hH]; exact trivial) (.inl rfl) (fun b' u hb hu=>(Heap.get?_update_other s.heap (Obj.mapSeq f) (Ne.symm hb)).trans hu) ⟨_,q⟩ ?_
 exact ⟨hz,its',_,hv,q⟩
theorem Inv.lnew {its:List Value} {t':Nat} (I:Inv X pins σ H s) (hv:Vals ys its) (hz:ys.length≤sizeLine) :
  Inv X pins σ (upd H s.heap.objs.size (.lst ys)) { s with heap:=s.heap.push { cls:=.type "list",data:=.seq its.toArray },toks:=t' } :=
 I.laid (fun _ _ q=>Heap.get?_push_of_some _ q) (Nat.le_refl _) ⟨hz,its,0,hv,Heap.get?_push_size _ rfl⟩
theorem Inv.fresh (I:Inv X pins σ H s):H s.heap.objs.size=none:=I.hok.fresh (Nat.le_refl _)
theorem Inv.lstM (I:Inv X pins σ H s) (hH:H l=some (.lst xs)):xs.length≤sizeLine∧∃ (its:List Value) (n:Nat),Vals xs its∧xs.length=its.length∧s.heap.get? l=some { cls:=.type "list",data:=.seq its.toArray n }:=by
 obtain ⟨z,its,n,r,e⟩:=I.hok l _ hH
 exact ⟨z,its,n,r,r.length,e⟩
end
section
variable {X:Cx}
def rAppend:V→List V→Hp→VK→Prop:=fun x vs H Q=>∃ l xs y,x=.ref l∧vs=[y]∧H l=some (.lst xs)∧xs.length < sizeLine∧Q .non (upd H l (.lst (xs ++ [y])))
theorem mt_append:MtM X "list.append" rAppend:=by
 intro pins s σ H x vs v us Q I rx rv h
 obtain ⟨l,xs,y,rfl,rfl,hH,hz,q⟩:=h
 cases rx
 obtain ⟨u,rfl,ru⟩:=rv.one
 obtain ⟨z,its,n,r,hl,e⟩:=I.lstM hH
 refine call_meets F.slot_list_append ⟨_,e,rfl⟩ F.entry_list_append (F.args_list_append_2 _ _) (PySem.list_append l its.toArray n u (by rw [List.size_toArray]; omega)) ⟨e,?_⟩
 refine ⟨.non,_,I.lset (its':=its ++ [u]) hH e (by simp) (r.append (.cons ru .nil)) ?_,rfl,q⟩
 rw [List.length_append,List.length_singleton]
 omega
def rCat:R2:=fun x y H Q=>∃ l b xs zs,x=.ref l∧y=.ref b∧H l=some (.lst xs)∧H b=some (.lst zs)∧xs.length + zs.length≤sizeLine∧∀ p,H p=none→Q (.ref p) (upd H p (.lst (xs ++ zs)))
theorem op_cat:OpR X (binaryOp .Add) rCat:=by
 intro pins s σ H x y v u Q I rx ry h
 obtain ⟨l,b,xs,zs,rfl,rfl,hH,hB,hz,q⟩:=h
 cases rx
 cases ry
 obtain ⟨z,its,n,r,hl,e⟩:=I.lstM hH
 obtain ⟨z2,its2,n2,r2,hl2,e2⟩:=I.lstM hB
 refine PySem.P.add_list e e2 ?_ (by rw [List.size_toArray,List.size_toArray]; omega)
 have ea:its.toArray ++ its2.toArray=(its ++ its2).toArray:=by simp
 rw [ea]
 exact ⟨.ref _,_,I.lnew (t':=s.toks) (r.append r2) (by rw [List.length_append]; omega),rfl,q _ I.fresh⟩
end
section
variable {prog:Program} {w:World} {A:Around} {E:Value→Shared→Prop} {s:Shared}
end
section
variable {X:Cx}
end
end L2
namespace Att
open PySem PySem.W PySem.Calls PyProof.Rows
theorem ints_of_wellAll {P:Params} {h:Heap}:∀ (ns:List Int) (vs:List Value),WellAll P h vs (ns.map WData.int)→IntsAre vs ns:=by
 intro ns
 induction ns with
 | nil =>
  intro vs w
  rw [List.map_nil] at w
  cases w
  exact .nil
 | cons n ns ih =>
  intro vs w
  rw [List.map_cons] at w
  cases w with
  | cons a b =>
   cases a
   exact .cons _ _ (ih _ b)
theorem script_of {l:OpenLaw} {n:Nat} (hn:l.most=some n) {P:Params} {h:Heap} {args:List WData} {vals:List Value}
  (hpre:l.row.toRowW.claim.pre args=true) (hwl:WellAll P h vals args) :
  ∃ a vs ns,vals=[Value.ref a]∧args=[WData.list (ns.map WData.int)]∧h.get? a=some { cls:=.type "list",data:=.seq vs.toArray }∧IntsAre vs ns∧ns.length≤n:=by
 have hsh:WShape.hasAll [] args [.list .int]=true:=(pre_splitW hpre).1
 have hc:l.pre.holds [] { args:=args }=true:=(pre_splitW hpre).2
 obtain ⟨d,r,rfl,h1,h2⟩:=hasAllW_cons hsh
 obtain rfl:=hasAllW_nil h2
 obtain ⟨xs,rfl,h3⟩:=hasW_list h1
 obtain ⟨ns,rfl⟩:=items_int h3
 have hlen:ns.length≤n:=by
  unfold OpenLaw.pre at hc
  have h4:(WTm.not (.lt (.lit (.int (n:Int))) (.len (.arg 0)))).holds [] { args:=[.list (ns.map .int)] }=true:=by
   have h4:=(holds_andW hc).1
   rw [hn] at h4
   exact h4
  have h5:=condW_of h4 (w_not (w_lt w_lit (w_len_list (w_arg rfl))))
  rw [List.length_map] at h5
  refine Nat.le_of_not_lt fun q=>?_
  have q':(n:Int) < ((ns.length:Nat):Int):=by omega
  first
   | (rw [decide_eq_true q'] at h5; exact absurd h5 (by decide))
   | (simp at h5; omega)
 cases hwl with
 | cons w1 w2 =>
  cases w2
  cases w1 with
  | list ho hall=>exact ⟨_,_,ns,rfl,rfl,ho,ints_of_wellAll ns _ hall,hlen⟩
theorem post_true (l:OpenLaw) (args:List WData):l.row.toRowW.claim.post args (.bool true) args=true :=
 postW_of (r:=l.row.toRowW) (X:=(true == true))
  (show WShape.has [] (.bool true) .bool=true by first | rfl | decide | simp [WShape.has,WShape.arms,WShape.armsAll])
  (show (WTm.eq .res (.lit (.bool true))).value [] { args:=args,res:=some (.bool true),after:=args }=some (.bool (true == true)) from w_eq_bool (w_res rfl) w_lit) rfl
theorem attach_call {l:OpenLaw} {n:Nat} {q:Program} {loose:List Str} {XP:(Str→Option Value)→Heap→Prop} {YP:World→Heap→Prop} {d:DefRec}
  (hn:l.most=some n) (hdf:d.params.defaults=[])
  (call:∀ (w:World) (s₀ s₁:Shared) (mg mb:Str→Option Value) (fa:Addr) (o:Obj) (pm cd doc:Value) (a:Addr) (vs:List Value) (ns:List Int),
   Ground q loose [] XP w s₀ mg mb s₁.heap→YP w s₁.heap →
   s₁.heap.get? fa=some o→o.data=.func (docDef d.name d.params d.body d.scope pm cd doc)→s₁.heap.CodeRec cd d.name→mg d.name=some (.ref fa) →
   s₁.heap.get? a=some { cls:=.type "list",data:=.seq vs.toArray }→IntsAre vs ns→ns.length≤n→s₁.gens=#[] →
   codeAny (model l.prog w) callerA (.call (.ref fa) ⟨[.ref a],[]⟩) (fun r s'=>r=.ok (.ret (.bool true))∧OldK s₁.heap s'.heap∧s'.os=s₁.os∧AllBare s'.gens) s₁) :
  WalkO q loose XP YP l.row.toRowW d [] (fun f vs=>PySem.call f vs):=by
 intro w s₀ s₁ mg mb G Y fa o pm cd doc dV kV ho hd hcd hD hmg hg args vals as hpre hlay hrd hwl hlo
 obtain rfl:dV=.none:=Dflts.none hD hdf
 obtain rfl:kV=.none:=Dflts.noKw hD
 obtain ⟨a,vs,ns,rfl,rfl,hobj,hints,hlen⟩:=script_of hn hpre hwl
 refine enter_call (codeAny_mono (call w s₀ s₁ mg mb fa o pm cd doc a vs ns G Y ho (fd_plain hd) hcd hmg hobj hints hlen hg) fun r s' hq=>?_)
 obtain ⟨rfl,h2,h3,h4⟩:=hq
 exact ⟨.inl ⟨.bool true,.bool true,[],rfl,fun _=>rfl,.bool true,post_true l _,fun _=>⟨List.Pairwise.nil,fun _ hm=>(nomatch hm)⟩⟩,h2,h3,h4⟩
section
variable {prog:Program} {w:World} {A:Around} {E:Value→Shared→Prop} {s:Shared} {K:Frag}
end
end Att
namespace L2
open PySem PySem.Spec PyProof.Rows
theorem vals_ints:∀ {vs:List Value} {ns:List Int},IntsAre vs ns→Vals (ns.map V.int) vs
 | _,_,.nil=>.nil
 | _,_,.cons n t h=>.cons ⟨t,rfl⟩ (vals_ints h)
def Only (H:Hp):Prop:=∀ b,H b=none∨∃ o xs,H b=some (.frz o (.lst xs))
theorem law_call {P:Program} {w:World} {K:PySem.W.Frag} {mg mb:Str→Option Value} {CX:CXT} {k:Nat} {fa a:Addr} {fd:FuncData} {x:Str} {sp:Sp} {s₁:Shared} {vs:List Value} {ns:List Int}
  (KX:K.In s₁.heap) (hns:s₁.heap.Ns mainGlobals mg) (hb:s₁.heap.Ns builtinsNs mb) (hbb:∀ x:Str,x≠"__name__"→mb x=bootBuiltins x) (hlim:s₁.heap.NoLimit) (hg:s₁.gens=#[])
  (ha:s₁.heap.get? a=some { cls:=.type "list",data:=.seq vs.toArray }) (hi:IntsAre vs ns) (hl:ns.length≤sizeLine) (hr:Room k callerA)
  (F:∀ base:Heap,K.In base→base.Ns mainGlobals mg→FnOk P w K mg base CX k fa fd [x] sp) (hbind:∀ (s:Shared) (u:Value),BindsTo s fd ⟨[u],[]⟩ [(x,u)])
  (hsp:∀ H:Hp,Only H→SqL K H a (ns.map V.int)→sp [.ref a] H (fun v _=>v=.bl true) fun _ _ _=>False)
  (hCX:∀ H e s',CX [] H s₁ (fun _ _ _=>False) e s'→False) :
  codeAny (model P w) callerA (.call (.ref fa) ⟨[.ref a],[]⟩) (fun r s'=>r=.ok (.ret (.bool true))∧OldK s₁.heap s'.heap∧s'.os=s₁.os∧AllBare s'.gens) s₁:=by
 have rv:=vals_ints hi
 have lenV:=hi.length
 have core:∀ H:Hp,Only H→SqL K H a (ns.map V.int)→HOk P w H s₁.heap→(∀ b,H b≠none→b=a)→(H a≠none→K.lookup a=none) →
   codeAny (model P w) callerA (.call (.ref fa) ⟨[.ref a],[]⟩) (fun r s'=>r=.ok (.ret (.bool true))∧OldK s₁.heap s'.heap∧s'.os=s₁.os∧AllBare s'.gens) s₁:=by
  intro H hO hS hok hA hK
  have base_of:∀ {b:Addr} {o:Obj},s₁.heap.get? b=some o→H b=none→(hidT s₁.heap H).get? b=some o:=fun e n=>hidT_get e n
  have noA:∀ {b:Addr} {o:Obj} {es:Array DictEntry} {ep:Nat},s₁.heap.get? b=some o→o.data=.dict es ep→H b=none:=fun {b o es ep} e d=>by
   cases q:H b with
   | none=>rfl
   | some u =>
    have e':b=a:=hA b (by rw [q]; simp)
    subst e'
    rw [ha] at e; cases e
    have d':Data.seq vs.toArray _=Data.dict es ep:=d
    cases d'
  have nsK:∀ {b:Addr} {m:Str→Option Value},s₁.heap.Ns b m→(hidT s₁.heap H).Ns b m:=fun {b m} ⟨o,es,ep,e,d,r⟩=>⟨o,es,ep,base_of e (noA e d),d,r⟩
  have hKb:K.In (hidT s₁.heap H):=fun b o e=>base_of (KX b o e) (by
   cases q:H b with
   | none=>rfl
   | some u =>
    have e':b=a:=hA b (by rw [q]; simp)
    subst e'
    rw [hK (by rw [q]; simp)] at e; cases e)
  have hM:Mod K mg (hidT s₁.heap H):=⟨hKb,nsK hns,⟨mb,nsK hb,hbb⟩,let ⟨mc,h1,h2⟩:=hlim; ⟨mc,nsK h1,h2⟩⟩
  have e0:Env0 P w K mg (hidT s₁.heap H) callerA [] s₁ H:=⟨rfl,hM,fun b o e=>of_hidT e,Nat.le_of_eq (hidT_size _ _),trivial,fun b hb=>absurd (show b∈([]:List Addr) from hb) (by simp),hok,.of_eq hg⟩
  refine codeAny_mono ((F _ hKb (nsK hns)).run callerA [] s₁ H ⟨[.ref a],[]⟩ [.ref a] [.ref a] _ _ hr e0 (hbind s₁ (.ref a)) (.cons rfl .nil) (hsp H hO hS)) fun r s' h=>?_
  cases r with
  | error e=>exact (hCX H e s' h).elim
  | ok fl =>
   cases fl with
   | next=>exact False.elim h
   | brk=>exact False.elim h
   | cont=>exact False.elim h
   | ret u =>
    obtain ⟨v,H',os,bare,un,hok',r',q⟩:=h
    have q':v=.bl true:=q
    subst q'
    obtain rfl:u=Value.bool true:=r'
    refine ⟨rfl,OldK.of_keep fun b o e=>?_,os,bare⟩
    cases q:H b with
    | none=>exact un.keep b o e q (by intro z; exact absurd (show b∈([]:List Addr) from z) (by simp)) (by simp)
    | some u =>
     rcases hO b with z | ⟨ob,xs,z⟩
     ·rw [q] at z; cases z
     ·have z2:=un.frzs b ob _ z
      obtain ⟨e1,_⟩:=hok b _ z
      obtain ⟨e2,_⟩:=hok' b _ z2
      rw [e] at e1; cases e1
      exact e2
 cases hk:K.lookup a with
 | some o =>
  have e:=KX a o hk
  rw [ha] at e
  cases e
  refine core (fun _=>none) (fun _=>.inl rfl) (.inr ⟨_,vs.toArray,_,hk,rfl,rfl,rfl,by rw [List.size_toArray,lenV]; exact hl,by simpa using rv⟩) (fun b u z=>by have z':(none:Option HO)=some u:=z; cases z') (fun b z=>absurd rfl z) fun z=>absurd rfl z
 | none =>
  refine core (fun b=>if b=a then some (.frz { cls:=.type "list",data:=.seq vs.toArray } (.lst (ns.map V.int))) else none) (fun b=>?_) (.inl (.inr ⟨{ cls:=.type "list",data:=.seq vs.toArray },if_pos rfl⟩)) (fun b u z=>?_) (fun b z=>?_) fun _=>hk
  ·by_cases hb:b=a
   ·exact .inr ⟨_,_,if_pos hb⟩
   ·exact .inl (if_neg hb)
  ·by_cases hb:b=a
   ·have z':=(if_pos hb).symm.trans z
    cases z'
    subst hb
    exact ⟨ha,by rw [List.length_map]; exact hl,vs,_,rv,ha⟩
   ·have z':=(if_neg hb).symm.trans z
    cases z'
  ·by_cases hb:b=a
   ·exact hb
   ·exact absurd (if_neg hb) z
theorem walk_of {l:PySem.W.OpenLaw} {n k:Nat} {q:Program} {loose:List Str} {XP:(Str→Option Value)→Heap→Prop} {YP:World→Heap→Prop} {d:DefRec} {K:Params→PySem.W.Frag} {CX:World→CXT} {sp:World→Sp} {x:Str}
  (hn:l.most=some n) (hn2:n≤sizeLine) (hdf:d.params.defaults=[]) (hr:Room k callerA)
  (hY:∀ (w:World) (h:Heap),YP w h→(K w.params).In h)
  (F:∀ (w:World) (mg:Str→Option Value) (fa:Addr) (h:Heap),(K w.params).In h→h.Ns mainGlobals mg→mg d.name=some (.ref fa) →
   ∃ fd:FuncData,(∀ (s:Shared) (u:Value),BindsTo s fd ⟨[u],[]⟩ [(x,u)]) ∧
    ∀ base:Heap,(K w.params).In base→base.Ns mainGlobals mg→FnOk l.prog w (K w.params) mg base (CX w) k fa fd [x] (sp w))
  (hsp:∀ (w:World) (H:Hp) (a:Addr) (ns:List Int),ns.length≤n→Only H→SqL (K w.params) H a (ns.map V.int)→sp w [.ref a] H (fun v _=>v=.bl true) fun _ _ _=>False)
  (hCX:∀ (w:World) (H:Hp) (s:Shared) (e:Value) (s':Shared),CX w [] H s (fun _ _ _=>False) e s'→False) :
  PySem.W.WalkO q loose XP YP l.row.toRowW d [] (fun f vs=>PySem.call f vs):=by
 refine Att.attach_call hn hdf fun w s₀ s₁ mg mb fa o pm cd doc a vs ns G Y ho hd hcd hmg hobj hints hlen hg=>?_
 have KX:=hY w _ Y
 obtain ⟨fd,hb,hF⟩:=F w mg fa _ KX G.T.g hmg
 exact law_call KX G.T.g G.T.b G.T.builtins G.T.nolimit hg hobj hints (Nat.le_trans hlen hn2) hr hF hb (fun H hO hS=>hsp w H a ns hlen hO hS) fun H e s'=>hCX w H s₁ e s'
end L2
/- THE LAST THEOREM (shape; LID,My.* are yours):
   My.Adr: a structure of the addresses that your layer names (classes,functions); My.Txt K t: a structure (Prop) of the equations over K;
   My.txt_mk:{K} {implicit addresses ..} (e1:nsIn K mainGlobals "law"=some (some (.ref f))) (e2:K.lookup f=some ⟨oc,od,.func (fnOf "law" "law" params body scope dV kV doc pm an cdv ct),sl⟩) (e3:codeIn K cdv "law"=true) ..:∃ t,My.Txt K t
set_option maxRecDepth 100000 in
set_option maxHeartbeats 0 in
theorem PySem.Challenge.cw_LID_holds : PySem.Challenge.rw_LID.Holds := by
 w_on; o_law; k_head; (case hw=>w_witness2)
 k_fill
 refine L2.walk_of (l:=PySem.Challenge.rw_LID) (n:=63) (k:=40) (x:="script") (CX:=fun w=>..) (sp:=fun _=>My.sp_law) rfl (by decide) rfl ⟨rfl,by decide,by decide⟩ (fun w h Y=>PySem.W.kIn_of Y) ?F ?S ?C
 case F =>
  intro w mg fa h KX G hmg
  have T:∃ t,My.Txt (L2.KOf KX) t:=by
   dsimp only [L2.KOf]                          -- K must stand as «<heap const> w.params» for k_is
   refine' My.txt_mk ?e1 ?e2 ?e3 ..
   (case e1=>PySem.W.k_is)                    -- in the order: a name -> its address -> its object -> its parts
   (case e2=>PySem.W.k_is)
   ..
  obtain ⟨t,T⟩:=T
  have e0:=hmg.symm.trans (PySem.W.mg_of KX G T.law)
  cases e0                                       -- fa is the law's own address
  exact ⟨_,fun s u=>.of_eq rfl,fun base kb nb=>My.law_fn T kb nb⟩     -- if «.of_eq rfl» comes too early: refine' ⟨_,?b,fun base kb nb=>My.law_fn T kb nb⟩; exact fun s u=>.of_eq rfl
 case S=>exact fun w H a ns hl hO hS=>..
 case C=>exact ..
(the tactic k_is has no namespace: write k_is) -/
namespace L2
open PySem PySem.Spec PyProof.Rows
def defArgs (s:Stmt):Arguments:=match s with
 | .FunctionDef _ a _ _ _ _ _ _ _ _=>a
 | _=>{ posonlyargs:=[],args:=[],vararg:=none,kwonlyargs:=[],kw_defaults:=[],kwarg:=none,defaults:=[] }
def defBody (s:Stmt):List Stmt:=match s with
 | .FunctionDef _ _ b _ _ _ _ _ _ _=>b
 | _=>[]
def defScope (s:Stmt):Scope:=match s with
 | .FunctionDef _ _ _ _ _ _ sc _ _ _=>sc
 | _=>{ kind:=.function,names:=[],isGenerator:=false,isCoroutine:=false }
abbrev CX0:CXT:=fun _ _ _ _ _ _=>False
abbrev E0:XK:=fun _ _ _=>False
theorem pass0 {X:Cx}:Passes CX0 X E0:=fun _ _ _ _ _ _ _ h=>h.elim
structure Fun (K:PySem.W.Frag) (x qual:Str) (st:Stmt) (f:Addr) (fd:FuncData):Prop where
 ex:∃ (oc:Value) (od:Option Addr) (kV doc pm:Value) (an:Option Addr) (cdv ct:Value) (osl:Array (Option Value)),
  fd=PySem.W.fnOf x qual (defArgs st) (defBody st) (defScope st) .none kV doc pm an cdv ct∧K.lookup f=some ⟨oc,od,.func fd,osl⟩∧PySem.W.codeIn K cdv qual=true
 kp:PySem.W.keepIn K (.ref f)=true
section
variable {P:Program} {w:World} {K:PySem.W.Frag} {mg:Str→Option Value} {base:Heap}
theorem Fun.ok {x qual:Str} {st:Stmt} {f:Addr} {fd:FuncData} {N ps:List Str} {k:Nat} {sp:Sp} (F:Fun K x qual st f fd) (S:FnScope N ps (defScope st)) (len:∀ vs H Q E,sp vs H Q E→vs.length=ps.length)
  (hbody:∀ (cdv:Value) (A:Around) (outer:List Env) (s:Shared) (H:Hp) (vs:List V) (Q:VK) (E:XK),Room k (A.deeper (envOfC qual (defScope st) s.heap.objs.size f cdv))→sp vs H Q E →
   ∃ t,PSs (cxOf CX0 P w K mg base N qual (defScope st) f cdv A outer s H E).nox (defBody st) t∧t { nx:=fun _ H'=>Q .non H',rt:=Q } (start N vs) H):FnOk P w K mg base CX0 (k + 1) f fd ps sp:=by
 obtain ⟨oc,od,kV,doc,pm,an,cdv,ct,osl,rfl,lk,hcd⟩:=F.ex
 refine fn_of lk hcd S len fun A outer s H vs Q E hr hsp=>?_
 obtain ⟨t,h,q⟩:=hbody cdv A outer s H vs Q E hr hsp
 exact ⟨t,h.nox,q⟩
theorem Fun.binds {x qual:Str} {st:Stmt} {f:Addr} {fd:FuncData} {ps:List Str} (F:Fun K x qual st f fd)
  (h:∀ (kV doc pm:Value) (an:Option Addr) (cdv ct:Value) (us:List Value),us.length=ps.length→bindArgs (PySem.W.fnOf x qual (defArgs st) (defBody st) (defScope st) .none kV doc pm an cdv ct) ⟨us,[]⟩=pure (ps.zip us)):Binds K fd ps []:=by
 obtain ⟨oc,od,kV,doc,pm,an,cdv,ct,osl,rfl,lk,hcd⟩:=F.ex
 exact .all (h kV doc pm an cdv ct)
theorem fun_mk {x qual:Str} {st:Stmt} {f:Addr} {oc:Value} {od an:Option Addr} {osl:Array (Option Value)} {kV doc pm cdv ct:Value} (l:K.lookup f=some ⟨oc,od,.func (PySem.W.fnOf x qual (defArgs st) (defBody st) (defScope st) .none kV doc pm an cdv ct),osl⟩)
  (c:PySem.W.codeIn K cdv qual=true) (k:PySem.W.keepIn K (.ref f)=true):Fun K x qual st f (PySem.W.fnOf x qual (defArgs st) (defBody st) (defScope st) .none kV doc pm an cdv ct):=⟨⟨oc,od,kV,doc,pm,an,cdv,ct,osl,rfl,l,c⟩,k⟩
end
theorem small1000 {n:Nat} (h:n≤1000):n < sizeLine:=Nat.lt_of_le_of_lt h (by decide)
section
variable {X:Cx}
theorem pv (i:Nat) {x:Str} {pos:Pos} (hN:X.N[i]?=some x:=by rfl) (hv:Vis X.env.scope x:=by first | exact Or.inl rfl | exact Or.inr (Or.inl rfl) | exact Or.inr (Or.inr rfl)) (hd:(x == ("__debug__":Str))=false:=by decide)
  (hcd:(x == ("__classdict__":Str))=false:=by decide):PE X (.Name x pos) (tVar i):=pe_var hN hv hd hcd
end
theorem iteF {A B:Prop} (h:B):if false=true then A else B:=by
 rw [if_neg Bool.false_ne_true]
 exact h
theorem iteT {A B:Prop} (h:A):if true=true then A else B:=by
 rw [if_pos rfl]
 exact h
def Same (H H':Hp):Prop:=∀ b o,H b=some o→H' b=some o
theorem Same.refl (H:Hp):Same H H:=fun _ _ h=>h
theorem Same.trans {H H1 H2:Hp} (a:Same H H1) (b:Same H1 H2):Same H H2:=fun c o h=>b c o (a c o h)
theorem Same.seq {K:PySem.W.Frag} {H H':Hp} {a:Addr} {xs:List V} (e:Same H H') (h:SqL K H a xs):SqL K H' a xs:=by
 rcases h with (h | ⟨o,h⟩) | h
 ·exact .inl (.inl (e _ _ h))
 ·exact .inl (.inr ⟨o,e _ _ h⟩)
 ·exact .inr h
section
variable {κ:Type} [DecidableEq κ]
def valV (kvs:List (κ×V)) (k:κ):Option V:=(kvs.find? fun kv=>decide (kv.1=k)).map (·.2)
def putK (kvs:List (κ×V)) (k:κ) (v:V):List (κ×V) :=
 if (kvs.any fun kv=>decide (kv.1=k))=true then kvs.map (fun kv=>if kv.1=k then (kv.1,v) else kv) else kvs ++ [(k,v)]
theorem valV_nil {k:κ}:valV ([]:List (κ×V)) k=none:=rfl
theorem valV_pos {p:κ×V} {r:List (κ×V)} {k:κ} (e:p.1=k):valV (p :: r) k=some p.2:=by simp [valV,List.find?_cons,e]
theorem valV_neg {p:κ×V} {r:List (κ×V)} {k:κ} (e:¬ p.1=k):valV (p :: r) k=valV r k:=by simp [valV,List.find?_cons,e]
theorem valV_any (k:κ):∀ kvs:List (κ×V),(kvs.any fun kv=>decide (kv.1=k))=(valV kvs k).isSome
 | []=>rfl
 | p :: r=>by
  rw [List.any_cons]
  by_cases e:p.1=k
  ·simp only [valV_pos e,decide_eq_true e,Bool.true_or,Option.isSome_some]
  ·rw [valV_neg e,decide_eq_false e,Bool.false_or]; exact valV_any k r
theorem valV_map (k j:κ) (y:V):∀ kvs:List (κ×V),valV (kvs.map fun kv=>if kv.1=k then (kv.1,y) else kv) j=(valV kvs j).map fun x=>if j=k then y else x
 | []=>rfl
 | p :: r=>by
  have ih:=valV_map k j y r
  rw [List.map_cons]
  by_cases h:p.1=k
  ·rw [if_pos h]
   by_cases e:p.1=j
   ·rw [valV_pos (p:=(p.1,y)) e,valV_pos e,Option.map_some,if_pos (e.symm.trans h)]
   ·rw [valV_neg (p:=(p.1,y)) e,valV_neg e,ih]
  ·rw [if_neg h]
   by_cases e:p.1=j
   ·rw [valV_pos (p:=p) e,valV_pos e,Option.map_some,if_neg (fun z=>h (e.trans z))]
   ·rw [valV_neg (p:=p) e,valV_neg e,ih]
theorem valV_snoc (k j:κ) (y:V):∀ kvs:List (κ×V),valV kvs k=none→valV (kvs ++ [(k,y)]) j=if j=k then some y else valV kvs j
 | [],_=>by
  by_cases e:k=j
  ·rw [if_pos e.symm]; exact valV_pos (p:=(k,y)) e
  ·rw [if_neg (fun z=>e z.symm)]; exact valV_neg (p:=(k,y)) e
 | p :: r,hn=>by
  rw [List.cons_append]
  have hk:¬ p.1=k:=fun z=>by rw [valV_pos z] at hn; cases hn
  rw [valV_neg hk] at hn
  have ih:=valV_snoc k j y r hn
  by_cases e:p.1=j
  ·rw [valV_pos e,valV_pos e,if_neg (fun z=>hk (e.trans z))]
  ·rw [valV_neg e,valV_neg e,ih]
theorem valV_put (kvs:List (κ×V)) (k j:κ) (y:V):valV (putK kvs k y) j=if j=k then some y else valV kvs j:=by
 unfold putK
 by_cases a:(kvs.any fun kv=>decide (kv.1=k))=true
 ·rw [if_pos a,valV_map]
  rw [valV_any] at a
  by_cases e:j=k
  ·obtain ⟨x,hx⟩:=Option.isSome_iff_exists.mp a
   rw [if_pos e,e,hx,Option.map_some,if_pos rfl]
  ·rw [if_neg e]
   cases valV kvs j with
   | none=>rfl
   | some x=>rw [Option.map_some,if_neg e]
 ·rw [if_neg a]
  refine valV_snoc k j y kvs ?_
  rw [valV_any] at a
  cases q:valV kvs k with
  | none=>rfl
  | some x=>rw [q] at a; exact (a rfl).elim
theorem putK_new {kvs:List (κ×V)} {k:κ} (v:V) (h:valV kvs k=none):putK kvs k v=kvs ++ [(k,v)]:=by
 unfold putK
 rw [valV_any,h]
 exact if_neg (by decide)
theorem RelO.isSome_eq {o:Option V} {u:Option Value} (r:RelO o u):o.isSome=u.isSome:=by
 cases o with
 | none=>cases u with
  | none=>rfl
  | some _=>exact (show False from r).elim
 | some _=>cases u with
  | none=>exact (show False from r).elim
  | some _=>rfl
end
section
variable {P:Program} {w:World} {H:Hp} {h:Heap} {a:Addr}
end
section
variable {X:Cx} {pins:List (Addr×Obj)} {σ:St} {H:Hp} {s:Shared} {a:Addr} {y v:V} {u r:Value} {o:Option V} {A:Around} {E:Value→Shared→Prop}
theorem Inv.big (I:Inv X pins σ H s):sysModules < s.heap.objs.size:=by
 have h:mainGlobals < s.heap.objs.size:=(I.mod.glob.keeps I.bk).lt
 exact Nat.lt_trans (by decide) h
theorem d_write {h':Heap} {t':Nat} {ob:HO} (I:Inv X pins σ H s) (mu:Mut (H a)) (hs:Heap.SameBut a s.heap h') (he:∃ q,h'.get? a=some q) (new:ObjOk X.prog X.w (upd H a ob) h' a ob) :
  Inv X pins σ (upd H a ob) { s with heap:=h',toks:=t' } :=
 I.write (x:=a) (e:=a) mu (.inl rfl) (fun b q hb z=>(hs.2 b hb).trans z) he new
end
section
variable {X:Cx} {pins:List (Addr×Obj)} {σ:St} {H:Hp} {s:Shared} {a:Addr} {kvs:List (Key×V)} {k:Key} {u:Value} {A:Around} {E:Value→Shared→Prop}
end
def NoSl (i:Expr):Prop:=∀ ov iv,subscripted i false ov iv=operate [ov,iv] (getItem ov iv)
theorem subD_of {prog:Program} {w:World} {A:Around} {E:Value→Shared→Prop} {s:Shared} {env:Env} {value slice:Expr} {pos:Pos} {T id:String} {Q:Value→Shared→Prop}
  (hl:typeLookup (.type T) "__getitem__"=pure (some (.builtin id))) (hs:NoSl slice)
  (h:wpAny (model prog w) A (eval value env) (fun o s₁=>wpAny (model prog w) A (eval slice env) (fun i s₂=>s₂.TypeIs o T∧wpAny (model prog w) A (getItem o i) Q E s₂) E s₁) E s) :
  wpAny (model prog w) A (eval (.Subscript value slice pos) env) Q E s:=by
 refine Subscript_ (wpAny_mono h (fun o s₁ h₁=>wpAny_mono h₁ (fun i s₂ h₂=>?_) fun _ _ x=>x) fun _ _ x=>x)
 obtain ⟨hT,h₂⟩:=h₂
 unfold subscriptTail
 refine wpAny_bind ?_
 rw [getitemInPython_of_ne hT.not_modules]
 refine wpAny_bind (wpAny_specialOf hT hl ?_)
 have fin:wpAny (model prog w) A (subscripted slice false o i) (fun r s₃=>wpAny (model prog w) A (letTemporaryGo value o r >>= fun _=>pure r) Q E s₃) E s₂:=by
  rw [hs o i]
  exact wpAny_operating (wpAny_mono h₂ (fun r s₃ h₃=>wpAny_bind (wpAny_letTemporaryGo (wpAny_pure h₃))) fun _ _ x=>x)
 first
  | exact wpAny_pure (wpAny_bind fin)
  | exact wpAny_bind (wpAny_pure (wpAny_bind fin))
  | exact wpAny_bind fin
section
variable {X:Cx} {o i e value:Expr} {pos pos' tpos:Pos} {td ty tv:TE}
end
section
variable {X:Cx} {pos:Pos}
end
section
variable {X:Cx} {pins:List (Addr×Obj)} {σ:St} {H:Hp} {s:Shared} {a:Addr} {y d:V} {u r:Value} {o:Option V} {A:Around} {E:Value→Shared→Prop}
end
section
variable {X:Cx} {o e f:Expr} {apos cpos:Pos} {td ty tx:TE}
end
section
variable {X:Cx} {pins:List (Addr×Obj)} {σ:St} {H:Hp} {s:Shared} {a:Addr} {kvs:List (Key×V)} {A:Around} {E:Value→Shared→Prop}
end
section
variable {X:Cx} {pins:List (Addr×Obj)} {σ:St} {H:Hp} {s:Shared} {a:Addr} {y:V} {u:Value} {A:Around} {E:Value→Shared→Prop}
end
section
variable {X:Cx}
end
section
variable {κ:Type} [DecidableEq κ]
theorem valV_not {kvs:List (κ×V)} {k:κ} (h:valV kvs k=none):¬ k∈kvs.map (·.1):=by
 intro m
 obtain ⟨p,hp,e⟩:=List.mem_map.mp m
 have q:(kvs.any fun kv=>decide (kv.1=k))=true:=List.any_eq_true.mpr ⟨p,hp,decide_eq_true e⟩
 rw [valV_any,h] at q
 exact absurd q (by simp)
theorem valV_in {kvs:List (κ×V)} {k:κ} {v:V} (h:valV kvs k=some v):k∈kvs.map (·.1):=by
 have q:(kvs.any fun kv=>decide (kv.1=k))=true:=by
  rw [valV_any,h]
  all_goals rfl
 obtain ⟨p,hp,e⟩:=List.any_eq_true.mp q
 exact List.mem_map.mpr ⟨p,hp,of_decide_eq_true e⟩
theorem nd_snoc:∀ {l:List κ} {k:κ},l.Nodup→¬ k∈l→(l ++ [k]).Nodup
 | [],k,_,_=>by simp
 | a :: r,k,h,hk=>by
  obtain ⟨h1,h2⟩:=List.nodup_cons.mp h
  show (a :: (r ++ [k])).Nodup
  refine List.nodup_cons.mpr ⟨fun m=>?_,nd_snoc h2 fun m=>hk (List.mem_cons.mpr (Or.inr m))⟩
  rcases List.mem_append.mp m with q | q
  ·exact h1 q
  ·exact hk (List.mem_cons.mpr (Or.inl (List.mem_singleton.mp q).symm))
theorem nd_putK {kvs:List (κ×V)} {k:κ} (v:V) (hn:(kvs.map (·.1)).Nodup) (h:valV kvs k=none):((putK kvs k v).map (·.1)).Nodup:=by
 rw [putK_new v h,List.map_append]
 exact nd_snoc hn (valV_not h)
end
end L2
namespace BF
open PySem PySem.Spec PyProof.Rows L2
theorem pe_imp {X:Cx} {e:Expr} {t t':TE} (h:PE X e t) (k:∀ σ H Q,t' σ H Q→t σ H Q):PE X e t' :=
 fun pins s σ H Q I hw=>h pins s σ H Q I (k σ H Q hw)
theorem pe_p9 {X:Cx} {j1 j2:Nat} {p1 p2 pos:Pos}:PE X (.BinOp (.Constant (.int 10) j1 p1) .Pow (.Constant (.int 9) j2 p2) pos) (tC (.int 1000000000)) :=
 pe_imp (pe_op op_pow pe_int pe_int) fun σ H Q q=>⟨10,9,rfl,rfl,⟨by decide,by decide,by decide⟩,by
  have e:((10:Int) ^ (9:Int).toNat)=1000000000:=by decide
  show Q (V.int _) H
  rw [e]; exact q⟩
theorem ifI_pos {i j:Int} {A B:Prop} (h:i=j) (a:A):if decide (V.int i=V.int j)=true then A else B:=by
 rw [if_pos (by rw [h]; exact decide_eq_true rfl)]; exact a
theorem ifI_neg {i j:Int} {A B:Prop} (h:i≠j) (b:B):if decide (V.int i=V.int j)=true then A else B:=by
 rw [if_neg (by intro z; have z':=of_decide_eq_true z; injection z' with z'; exact h z')]; exact b
theorem ifD_pos {p:Prop} [Decidable p] {A B:Prop} (h:p) (a:A):if decide p=true then A else B:=by
 rw [if_pos (decide_eq_true h)]; exact a
theorem ifD_neg {p:Prop} [Decidable p] {A B:Prop} (h:¬ p) (b:B):if decide p=true then A else B:=by
 rw [if_neg (by intro z; exact h (of_decide_eq_true z))]; exact b
theorem ifB_pos {c:Bool} {A B:Prop} (h:c=true) (a:A):if c=true then A else B:=by
 rw [if_pos h]; exact a
theorem ifB_neg {c:Bool} {A B:Prop} (h:c=false) (b:B):if c=true then A else B:=by
 rw [if_neg (by rw [h]; exact Bool.false_ne_true)]; exact b
theorem same_upd {H:Hp} {p:Addr} {o:HO} (h:H p=none):Same H (upd H p o):=fun b u e=>by
 rw [upd_ne (ne_of_none e h)]; exact e
theorem sz {n:Nat} (h:n≤1000):n≤sizeLine:=Nat.le_of_lt (small1000 h)
theorem szr {n:Nat} (h:Nat.ble n 1000=true):n≤sizeLine:=sz (Nat.le_of_ble_eq_true h)
structure Df (K:PySem.W.Frag) (mg:Str→Option Value) (x:Str) (st:Stmt) (f:Addr) (fd:FuncData):Prop where
 F:Fun K x x st f fd
 m:mg x=some (.ref f)
theorem df_mk {K:PySem.W.Frag} {mg:Str→Option Value} {h:Heap} (X:K.In h) (G:h.Ns mainGlobals mg) {x:Str} {st:Stmt} {f:Addr} {oc:Value} {od an:Option Addr} {osl:Array (Option Value)} {kV doc pm cdv ct:Value}
  (a:PySem.W.nsIn K mainGlobals x=some (some (.ref f))) (l:K.lookup f=some ⟨oc,od,.func (PySem.W.fnOf x x (defArgs st) (defBody st) (defScope st) .none kV doc pm an cdv ct),osl⟩)
  (c:PySem.W.codeIn K cdv x=true) (k:PySem.W.keepIn K (.ref f)=true):Df K mg x st f (PySem.W.fnOf x x (defArgs st) (defBody st) (defScope st) .none kV doc pm an cdv ct) :=
 ⟨fun_mk l c k,PySem.W.mg_of X G a⟩
def clOf (env:Env):List (Str×NameKind)→List (Str×Addr)→List (Str×Addr)
 | [],acc=>acc
 | (n,k) :: r,acc=>if (k == NameKind.free)=true then (match env.cells.lookup n with | some a=>clOf env r ((n,a) :: acc) | none=>clOf env r acc) else clOf env r acc
theorem clOf_sub (env:Env):∀ (l:List (Str×NameKind)) (acc:List (Str×Addr)),(∀ p∈acc,env.cells.lookup p.1=some p.2)→∀ p∈clOf env l acc,env.cells.lookup p.1=some p.2
 | [],_,h=>h
 | (n,k) :: r,acc,h=>by
  unfold clOf
  split
  ·split
   ·rename_i a e
    refine clOf_sub env r _ fun p hp=>?_
    rcases List.mem_cons.mp hp with rfl | hp
    ·exact e
    ·exact h p hp
   ·exact clOf_sub env r acc h
  ·exact clOf_sub env r acc h
theorem clOf_acc (env:Env):∀ (l:List (Str×NameKind)) (acc:List (Str×Addr)) (x:Str),(∃ c,acc.lookup x=some c)→∃ c,(clOf env l acc).lookup x=some c
 | [],_,_,h=>h
 | (n,k) :: r,acc,x,h=>by
  unfold clOf
  split
  ·split
   ·rename_i a e
    refine clOf_acc env r _ x ?_
    rw [List.lookup_cons]
    cases q:x == n with
    | true=>exact ⟨a,rfl⟩
    | false=>exact h
   ·exact clOf_acc env r acc x h
  ·exact clOf_acc env r acc x h
theorem clOf_has (env:Env):∀ (l:List (Str×NameKind)) (acc:List (Str×Addr)) (x:Str),l.lookup x=some NameKind.free→(∃ c,env.cells.lookup x=some c)→∃ c,(clOf env l acc).lookup x=some c
 | [],_,_,h,_=>by simp at h
 | (n,k) :: r,acc,x,h,hc=>by
  rw [List.lookup_cons] at h
  cases q:x == n with
  | true =>
   rw [q] at h
   have ek:k=NameKind.free:=Option.some.inj h
   have en:x=n:=eq_of_beq q
   subst ek en
   obtain ⟨c,e⟩:=hc
   unfold clOf
   rw [if_pos (by decide:(NameKind.free == NameKind.free)=true),e]
   refine clOf_acc env r _ x ⟨c,?_⟩
   rw [List.lookup_cons,q]
  | false =>
   rw [q] at h
   unfold clOf
   split
   ·split
    ·exact clOf_has env r _ x h hc
    ·exact clOf_has env r _ x h hc
   ·exact clOf_has env r _ x h hc
def lab (env:Env) (p:Str×NameKind):Str×NameKind:=if (p.2 == NameKind.free && env.scope.kind == .function && env.kindOf p.1 == some .cell) then (p.1,NameKind.cell) else (p.1,p.2)
theorem lab_eq (env:Env) (n:Str) (k:NameKind):lab env (n,k)=(n,if (k == NameKind.free && env.scope.kind == .function && env.kindOf n == some .cell) then NameKind.cell else k):=by
 unfold lab
 split <;> rfl
theorem relabel_names (scope:Scope) (env:Env):(relabel scope env).names=scope.names.map (lab env):=rfl
theorem relabel_lookup (env:Env):∀ (l:List (Str×NameKind)) (x:Str),
  (l.map (lab env)).lookup x=(l.lookup x).map fun k=>if (k == NameKind.free && env.scope.kind == .function && env.kindOf x == some .cell) then NameKind.cell else k
 | [],_=>rfl
 | (n,k) :: r,x=>by
  have ih:=relabel_lookup env r x
  rw [List.map_cons,lab_eq,List.lookup_cons,List.lookup_cons]
  cases q:x == n with
  | true =>
   have en:x=n:=eq_of_beq q
   subst en
   rfl
  | false=>exact ih
def compCx (X:Cx) (N':List Str) (scope:Scope) (C:Addr) (s₀:Shared) (H₀:Hp) (fp:List Addr) (pn:List (Addr×Obj)):Cx where
 prog:=X.prog
 w:=X.w
 K:=X.K
 mg:=X.mg
 base:=X.base
 A:=X.A
 N:=N'
 s₀:=s₀
 H₀:=H₀
 env:=compEnvC scope (clOf X.env scope.names []) C X.env
 outer:=X.stack
 stack:=X.stack
 ex:=fp
 fn:=fun _=>false
 calm:=X.calm
 pn:=pn
 xe:=fun _ _=>False
def pick (idx:List (Option Nat)) (σ:L2.St):L2.St:=idx.map fun o=>match o with | none=>none | some i=>(σ[i]?).getD none
structure CompOk (X:Cx) (scope:Scope) (N':List Str) (idx:List (Option Nat)):Prop where
 kind:scope.kind=.function
 cell:∀ y∈scope.names,y.2≠.cell
 names:∀ y∈scope.names,y.2=.local→scope.names.lookup y.1=some .local
 free:∀ y∈scope.names,y.2=.free→X.env.kindOf y.1=some .cell
 len:idx.length=N'.length
 idx:∀ p∈idx.zip N',∀ i,p.1=some i→X.N[i]?=some p.2∧X.env.kindOf p.2=some .cell∧scope.names.lookup p.2=some .free
def compB (osc scope:Scope) (ON N':List Str) (idx:List (Option Nat)):Bool :=
 (scope.kind == .function) && scope.names.all (fun y=>y.2 != .cell) && scope.names.all (fun y=>y.2 != .local || scope.names.lookup y.1 == some .local) &&
  scope.names.all (fun y=>y.2 != .free || osc.names.lookup y.1 == some .cell) && (idx.length == N'.length) &&
  (idx.zip N').all fun p=>match p.1 with | none=>true | some i=>(ON[i]? == some p.2) && (osc.names.lookup p.2 == some .cell) && (scope.names.lookup p.2 == some .free)
theorem compOk_of {X:Cx} {scope:Scope} {N':List Str} {idx:List (Option Nat)} (h:compB X.env.scope scope X.N N' idx=true):CompOk X scope N' idx:=by
 unfold compB at h
 simp only [Bool.and_eq_true,List.all_eq_true] at h
 obtain ⟨⟨⟨⟨⟨h1,h2⟩,h3⟩,h4⟩,h5⟩,h6⟩:=h
 refine ⟨by simpa using h1,fun y hy=>by simpa using h2 y hy,fun y hy e=>?_,fun y hy e=>?_,by simpa using h5,fun p hp i e=>?_⟩
 ·have:=h3 y hy
  rw [e] at this
  simpa using this
 ·have:=h4 y hy
  rw [e] at this
  show X.env.scope.names.lookup y.1=some .cell
  simpa using this
 ·have:=h6 p hp
  rw [e] at this
  simp only [Bool.and_eq_true] at this
  obtain ⟨⟨g1,g2⟩,g3⟩:=this
  exact ⟨by simpa using g1,by show X.env.scope.names.lookup p.2=some .cell; simpa using g2,by simpa using g3⟩
def CompW (J:It) (idx:List (Option Nat)) (g:TG) (tt:TT) (te:TE) (σ:L2.St) (H1:Hp) (D:Addr) (Q:VK):Prop :=
 ∃ W:Nat→Nat→L2.St→Hp→Prop,(∃ m,W 0 m (pick idx σ) (upd H1 D (.lst [])))∧∀ i m σ2 H2,W i m σ2 H2 →
  (J.stop i H2∧Q (.ref D) H2) ∨
  (J.go i H2∧∀ x H3,J.yld i H2 x H3→g x σ2 H3 fun σ4 H4=>tt σ4 H4 fun b H5 =>
   if b=true then te σ4 H5 fun v H6=>∃ ys,H6 D=some (.lst ys)∧ys.length < sizeLine∧∃ m',m' < m∧W (i + 1) m' σ4 (upd H6 D (.lst (ys ++ [v])))
   else ∃ m',m' < m∧W (i + 1) m' σ4 H5)
def tComp (wi:TI) (idx:List (Option Nat)) (g:TG) (tt:TT) (te:TE):TE:=fun σ H Q=>wi σ H fun J H1=>∀ D,H1 D=none→CompW J idx g tt te σ H1 D Q
def PTs (X:Cx) (ifs:List Expr) (t:TT):Prop :=
 ∀ (pins:List (Addr×Obj)) (s:Shared) (σ:L2.St) (H:Hp) (Q:Bool→Hp→Prop),Inv X pins σ H s→t σ H Q →
  wpAny (model X.prog X.w) X.A (forIn ifs true fun c r=>if r=true then do let ok ← isTrue c X.env (eval c X.env); pure (ForInStep.yield ok) else pure (ForInStep.yield r)) (TP X pins σ Q) X.xe s
def tYes:TT:=fun _ H Q=>Q true H
theorem pts_nil {X:Cx}:PTs X [] tYes:=fun pins s σ H Q I h=>wpAny_tests_nil ⟨H,I,h⟩
theorem pts_one {X:Cx} {c:Expr} {t:TT} (h:PT X c t):PTs X [c] t:=fun pins s σ H Q I hw=>wpAny_tests_one (h pins s σ H Q I hw)
theorem comp_loop {prog:Program} {w:World} {A:Around} {elt target iter:Expr} {ifs:List Expr} {scope:Scope} {pos:Pos} {it acc:Value} {env:Env} {R:Result→Shared→Prop} {s:Shared} (I:Nat→Shared→Prop)
  (turn:∀ n s,I n s→wpAny (model prog w) A (pyNext it) (fun r s₁=>match r with
   | none=>R (.ok .next) s₁
   | some v=>wpAny (model prog w) A (letOwnedTupleGo target it v) (fun _ s₀=>wpAny (model prog w) A (assign target env v) (fun _ s₂ =>
     wpAny (model prog w) A (forIn ifs true fun c r=>if r=true then do let ok ← isTrue c env (eval c env); pure (ForInStep.yield ok) else pure (ForInStep.yield r)) (fun ok s₃ =>
      if ok=true then wpAny (model prog w) A (eval elt env) (fun x s₄ =>
       wpAny (model prog w) A (call (.builtin "list.append") [acc,x]) (fun _ s₅=>∃ m,m < n∧I m s₅) (fun _ _=>False) s₄) (fun _ _=>False) s₃
      else ∃ m,m < n∧I m s₃) (fun _ _=>False) s₂) (fun _ _=>False) s₀) (fun _ _=>False) s₁) (fun _ _=>False) s)
  (n:Nat) (h:I n s):codeAny (model prog w) A (.compLoop (.ListComp elt [⟨target,iter,ifs,0⟩] scope pos) 0 it acc env) R s:=by
 refine codeAny_loop rfl I (fun n s hI=>?_) n h
 show wpAny _ A ((compTurn (.ListComp elt [⟨target,iter,ifs,0⟩] scope pos) 0 it acc env).onRaise (fun x=>do noteFrame x env; theTreesLotGoes x)) _ _ s
 refine wpAny_noted (wpAny_mono (E:=fun _ _=>False) ?_ (fun _ _ q=>q) fun _ _ z=>z.elim)
 rw [compTurn_list]
 refine wpAny_bind (wpAny_standAt (wpAny_bind (wpAny_mono (turn n s hI) (fun r s₁ h₁=>?_) fun _ _ h'=>h')))
 cases r with
 | none=>exact wpAny_pure h₁
 | some v =>
  refine wpAny_bind (wpAny_mono h₁ (fun _ s₀ h₀'=>?_) fun _ _ h'=>h')
  refine wpAny_bind (wpAny_mono h₀' (fun _ s₂ h₂=>?_) fun _ _ h'=>h')
  refine wpAny_bind (wpAny_mono h₂ (fun ok s₃ h₃=>?_) fun _ _ h'=>h')
  cases ok with
  | false=>exact wpAny_pure ⟨rfl,h₃⟩
  | true =>
   exact wpAny_bind (wpAny_bind (wpAny_mono h₃ (fun x s₄ h₄=>wpAny_bind (wpAny_mono h₄ (fun _ s₅ h₅=>wpAny_pure (wpAny_pure ⟨rfl,h₅⟩)) fun _ _ h'=>h')) fun _ _ h'=>h'))
section
variable {X:Cx} {elt tg iter:Expr} {ifs:List Expr} {scope:Scope} {pos:Pos} {N':List Str} {idx:List (Option Nat)} {wi:TI} {g:TG} {tt:TT} {te:TE}
theorem comp_ok {pins:List (Addr×Obj)} {σ:L2.St} {H:Hp} {s:Shared} {C:Addr} {fp:List Addr} (S:CompOk X scope N' idx) (I:Inv X pins σ H s) (hC:s.heap.objs.size≤C) (hf:∀ b∈fp,FpOk X pins H b) (hlt:∀ b∈fp,b < s.heap.objs.size) (pn:List (Addr×Obj)) :
  (compCx X N' scope C s H fp pn).Ok:=by
 have sub:∀ x c,(clOf X.env scope.names []).lookup x=some c→X.env.cells.lookup x=some c:=fun x c e=>clOf_sub X.env scope.names [] (fun p hp=>(nomatch hp)) (x,c) (PySem.mem_of_lookup e)
 have cne:∀ x c,(clOf X.env scope.names []).lookup x=some c→c < s.heap.objs.size:=fun x c e=>by
  obtain ⟨v,q⟩:=I.cell x c (sub x c e)
  exact q.lt
 refine ⟨I.ok.mod,S.kind,I.ok.glob,I.ok.blt,hC,fun x y c h1 h2=>I.ok.inj x y c (sub _ _ h1) (sub _ _ h2),fun x hx=>?_,fun x c h _=>absurd h Bool.false_ne_true,I.ok.hd,I.ok.frames,.inl rfl,fun b hb=>⟨?_,fun x c e z=>?_⟩,I.bs,Nat.le_trans I.ok.bsz I.sz,fun b o e hb=>?_,fun b hb z=>?_,I.stack,I.stkFree⟩
 ·have hx':((relabel scope X.env).names.lookup x=some .cell)∨((relabel scope X.env).names.lookup x=some .free):=hx
  rw [relabel_names,relabel_lookup] at hx'
  have hfr:scope.names.lookup x=some .free:=by
   cases q:scope.names.lookup x with
   | none=>rw [q] at hx'; rcases hx' with z | z <;> cases z
   | some k =>
    rw [q] at hx'
    simp only [Option.map_some,Option.some.injEq] at hx'
    cases k with
    | free=>rfl
    | cell=>exact absurd rfl (S.cell _ (PySem.mem_of_lookup q))
    | _=>exfalso; rcases hx' with z | z <;> simp at z
  exact clOf_has X.env scope.names [] x hfr (I.ok.has x (.inl (S.free _ (PySem.mem_of_lookup hfr) rfl)))
 ·exact Nat.ne_of_lt (Nat.lt_of_lt_of_le (hlt b hb) hC)
 ·exact (hf b hb).2.2.2.2.1 x c (sub x c e) z
 ·rcases (hf b hb).2.2.2.1 with z | z
  ·exact I.ok.noex b o e z
  ·exact absurd (Nat.lt_of_lt_of_le (Heap.lt_size (I.ok.bs b o e).1) z) (Nat.lt_irrefl _)
 ·rcases List.mem_cons.mp (I.stkSub b z) with e | e
  ·exact (hf b hb).2.1 e
  ·exact (hf b hb).2.2.1 e
theorem pe_comp (S:CompOk X scope N' idx) (hclos:closureFor scope X.env=pure (clOf X.env scope.names [])) (hc:X.calm=true) (hi:PI X tg iter wi)
  (hg:∀ C s₀ H₀ fp pn,PG (compCx X N' scope C s₀ H₀ fp pn) tg g) (ht:∀ C s₀ H₀ fp pn,PTs (compCx X N' scope C s₀ H₀ fp pn) ifs tt) (he:∀ C s₀ H₀ fp pn,PE (compCx X N' scope C s₀ H₀ fp pn) elt te)
  (hs:∀ x,foldedSetIterable iter X.env x=pure x:=by intro _; rfl):PE X (.ListComp elt [⟨tg,iter,ifs,0⟩] scope pos) (tComp wi idx g tt te):=by
 intro pins s σ H Q I h
 rw [eval_ListComp]
 refine wpAny_comprehension_free (use:=none) rfl hs hclos S.kind S.names (thn (hi pins s σ H _ I h) fun xv s₁ h₁=>thn h₁ fun itv s₂ h₂=>?_)
 obtain ⟨it,fp,tn,J,H2,e,I2,T,st2,f2,hJ⟩:=h₂
 subst e
 obtain ⟨W,⟨m0,w0⟩,turn⟩:=hJ s₂.heap.objs.size (I2.hok.fresh (Nat.le_refl _))
 have hlt:∀ b∈fp,b < s₂.heap.objs.size:=fun b hb=>by
  obtain ⟨o,e,_⟩:=T.obj _ _ st2 b hb
  exact Heap.lt_size e
 refine wpAny_newObj_type (wpAny_newFunctionEnv S.cell (by intro y hy; simp at hy) (fun h₁ hns₁ hsb₁=>?_) S.kind)
 dsimp only at hns₁ hsb₁ ⊢
 generalize hH2:s₂.heap.push { cls:=.type "list",dict:=none,data:=.seq ([]:List Value).toArray }=P2 at hns₁ hsb₁ ⊢
 have hC:P2.objs.size=s₂.heap.objs.size + 1:=by rw [← hH2,Heap.size_push]
 have neC:∀ b:Addr,b < s₂.heap.objs.size→b≠P2.objs.size:=fun b hb=>Nat.ne_of_lt (by rw [hC]; exact Nat.lt_succ_of_lt hb)
 have neD:s₂.heap.objs.size≠P2.objs.size:=Nat.ne_of_lt (by rw [hC]; exact Nat.lt_succ_self _)
 have old:∀ b o,s₂.heap.get? b=some o→h₁.get? b=some o:=fun b o e =>
  hsb₁.extBut b o (neC b (Heap.lt_size e)) (Heap.get?_push_of_some _ (hH2 ▸ Heap.get?_push_of_some _ e))
 have hacc:h₁.get? s₂.heap.objs.size=some { cls:=.type "list",data:=.seq ([]:List Value).toArray } :=
  hsb₁.extBut _ _ neD (Heap.get?_push_of_some _ (hH2 ▸ Heap.get?_push_size _ rfl))
 have nD:H2 s₂.heap.objs.size=none:=I2.hok.fresh (Nat.le_refl _)
 have nC:H2 P2.objs.size=none:=I2.hok.fresh (by omega)
 have ok:=comp_ok (C:=P2.objs.size) S I2 (by omega) f2 hlt (X.pn ++ pins)
 have pinlt:∀ p∈X.pn ++ pins,p.1 < s₂.heap.objs.size:=fun p hp=>Heap.lt_size (I2.pin p hp).1
 have sub:∀ x c,(clOf X.env scope.names []).lookup x=some c→X.env.cells.lookup x=some c:=fun x c e=>clOf_sub X.env scope.names [] (fun p hp=>(nomatch hp)) (x,c) (PySem.mem_of_lookup e)
 have I3:Inv (compCx X N' scope P2.objs.size s₂ H2 fp (X.pn ++ pins)) [] (pick idx σ) (upd H2 s₂.heap.objs.size (.lst [])) { s₂ with heap:=h₁,toks:=s₂.toks + ([]:List (Str×Value)).length }:=by
  refine ⟨ok,rfl,I2.bare,?_,⟨_,hns₁,fun j x v h1 h2 h3=>?_⟩,fun x c e=>?_,?_,fun x c e=>?_,fun p hp=>?_,?_,?_⟩
  ·exact Un.laid old (Nat.le_refl _) nD
  ·have hj:j < idx.length:=by
    have:=(List.getElem?_eq_some_iff.mp h2).1
    unfold pick at this
    rwa [List.length_map] at this
   unfold pick at h2
   rw [List.getElem?_map,List.getElem?_eq_getElem hj] at h2
   have h2':=Option.some.inj h2
   cases q:idx[j] with
   | none=>rw [q] at h2'; cases h2'
   | some i =>
    have h2':(σ[i]?).getD none=some v:=by rw [q] at h2'; exact h2'
    have hmem:(idx[j],x)∈idx.zip N':=by
     refine List.mem_iff_getElem?.mpr ⟨j,?_⟩
     rw [List.getElem?_zip_eq_some]
     exact ⟨List.getElem?_eq_getElem hj,h1⟩
    obtain ⟨z1,z2,z3⟩:=S.idx _ hmem i q
    have hσ:σ[i]?=some (some v):=by
     cases r:σ[i]? with
     | none=>rw [r] at h2'; cases h2'
     | some y=>rw [r] at h2'; rw [show y=some v from h2']
    obtain ⟨m,hn,hl⟩:=I2.loc
    obtain ⟨u,ru,lk⟩:=hl i x v z1 hσ (.inr (.inl z2))
    refine ⟨u,ru,.inr ⟨.inl ?_,?_⟩⟩
    ·show (relabel scope X.env).names.lookup x=some .cell
     rw [relabel_names,relabel_lookup,z3,I2.ok.kind]
     simp [z2]
    ·obtain ⟨c,hcl⟩:=clOf_has X.env scope.names [] x z3 (I2.ok.has x (.inl z2))
     rcases lk with ⟨k1,_⟩ | ⟨_,c',e1,e2⟩
     ·rw [z2] at k1; cases k1
     ·refine ⟨c,hcl,?_⟩
      have e3:=sub x c hcl
      rw [e1] at e3
      cases e3
      obtain ⟨o,ho,hd⟩:=e2
      exact ⟨o,old _ _ ho,hd⟩
  ·obtain ⟨v,o,ho,hd⟩:=I2.cell x c (sub x c e)
   exact ⟨v,o,old _ _ ho,hd⟩
  ·show upd H2 _ _ P2.objs.size=none
   rw [upd_ne (Ne.symm neD)]; exact nC
  ·obtain ⟨v,q⟩:=I2.cell x c (sub x c e)
   rw [upd_ne (Nat.ne_of_lt q.lt)]
   exact I2.freeC x c (sub x c e)
  ·rw [List.append_nil] at hp
   obtain ⟨e,n,ne,nf,d⟩:=I2.pin p hp
   refine ⟨old _ _ e,?_,?_,fun z=>?_,d⟩
   ·rw [upd_ne (Nat.ne_of_lt (pinlt p hp))]; exact n
   ·exact neC _ (pinlt p hp)
   ·rcases List.mem_cons.mp (I2.stkSub _ z) with z | z
    ·exact ne z
    ·exact nf z
  ·exact I2.hok.laid old (Nat.le_refl _) ⟨Nat.zero_le _,[],0,.nil,hacc⟩
  ·show (pick idx σ).length=N'.length
   unfold pick
   rw [List.length_map]
   exact S.len
 have stat:∀ {pl:List (Addr×Obj)} {H':Hp},(∀ b∈fp,H' b=none)→(∀ p∈pl,p.1 ∉ fp)→∀ b∈fp,FpOk (compCx X N' scope P2.objs.size s₂ H2 fp (X.pn ++ pins)) pl H' b:=fun {pl H'} hn hp b hb=>by
  refine ⟨hn b hb,(ok.exf b hb).1,ok.exfs b hb,.inl hb,(ok.exf b hb).2,fun p hpp z=>?_⟩
  rcases List.mem_append.mp hpp with h1 | h1
  ·exact (f2 b hb).2.2.2.2.2 p h1 z
  ·exact hp p h1 (z ▸ hb)
 have loop:codeAny (model X.prog X.w) X.A (.compLoop (.ListComp elt [⟨tg,iter,ifs,0⟩] scope pos) 0 (.ref it) (.ref s₂.heap.objs.size) (compEnvC scope (clOf X.env scope.names []) P2.objs.size X.env))
   (compPost (model X.prog X.w) X.A X.xe none (EP X pins σ Q) (.ref s₂.heap.objs.size) P2.objs.size) { s₂ with heap:=h₁,toks:=s₂.toks + ([]:List (Str×Value)).length }:=by
  refine comp_loop (fun n s'=>∃ i σ' H',Inv (compCx X N' scope P2.objs.size s₂ H2 fp (X.pn ++ pins)) [] σ' H' s'∧tn i s'.heap∧(∀ b∈fp,H' b=none)∧W i n σ' H') ?_ m0
   ⟨0,_,_,I3,T.keep _ _ _ st2 fun b _ o e=>old b o e,fun b hb=>by rw [upd_ne (Nat.ne_of_lt (hlt b hb))]; exact (f2 b hb).1,w0⟩
  rintro n s3 ⟨i,σ3,H3,J3,st3,fr3,w3⟩
  rcases turn i n σ3 H3 w3 with ⟨stop,q⟩ | ⟨go,step⟩
  ·refine wpAny_mono (T.done (compCx X N' scope P2.objs.size s₂ H2 fp (X.pn ++ pins)) rfl rfl rfl hc i [] s3 σ3 H3 (fun _ _=>False) J3 (stat fr3 (fun _ z=>nomatch z)) st3 stop) (fun r s4 hr=>?_) fun _ _ z=>z
   obtain ⟨rfl,J4⟩:=hr
   obtain ⟨m,hn,_⟩:=J4.loc
   refine ⟨m,hn,fun h' hs'=>?_⟩
   have fC:H3 P2.objs.size=none:=J4.free
   have up:∀ b o,b≠P2.objs.size→s4.heap.get? b=some o→h'.get? b=some o:=fun b o hb e=>hs'.extBut b o hb e
   have un:Un (frs X.stack) fp H2 H3 s₂.heap h':=by
    have u:=J4.base
    refine ⟨fun b o e n1 h1 h2=>?_,fun b o e n1 h1 h2=>?_,u.free,fun b o e h2=>?_,u.tups,u.frzs,u.tbls⟩
    ·exact up b o (neC b (Heap.lt_size e)) (u.keep b o e n1 h1 h2)
    ·obtain ⟨sl,e1⟩:=u.slot b o e n1 h1 h2
     exact ⟨sl,up b _ (neC b (Heap.lt_size e)) e1⟩
    ·obtain ⟨o',e1⟩:=u.there b o e h2
     exact ⟨o',up b _ (neC b (Heap.lt_size e)) e1⟩
   have hok:HOk X.prog X.w H3 h':=fun b o e=>(J4.hok b o e).stay (fun c v hcc e1=>up c v (fun z=>by
    subst z
    rcases hcc with z | z
    ·subst z; rw [fC] at e; cases e
    ·rw [fC] at z; cases z) e1) (fun _ z=>z) fun _ _ z=>z
   refine ⟨.ref s₂.heap.objs.size,H3,?_,rfl,q⟩
   refine I2.call' (s':={ s4 with heap:=h' }) (ch:=fp) ?_ un hok J4.bare fun b hb=>?_
   ·exact J4.os
   ·obtain ⟨f0,f1,f2',f3,f4,f5⟩:=f2 b hb
    exact ⟨f3,f1,f4,f5⟩
  ·refine wpAny_mono (T.item (compCx X N' scope P2.objs.size s₂ H2 fp (X.pn ++ pins)) rfl rfl rfl hc i [] s3 σ3 H3 (fun _ _=>False) J3 (stat fr3 (fun _ z=>nomatch z)) st3 go) (fun r s4 hr=>?_) fun _ _ z=>z
   obtain ⟨u,rfl,h4⟩:=hr
   refine wpAny_mono h4 (fun _ s5 h5=>?_) fun _ _ z=>z
   obtain ⟨x,H5,J5,r5,y5,st5,fr5⟩:=h5
   have J5':=J5.pinned (stat fr5 (fun _ z=>nomatch z)) (T.obj _ _ st5)
   refine wpAny_mono (hg _ _ _ _ _ _ s5 σ3 H5 x u _ J5' r5 (step x H5 y5)) (fun _ s6 h6=>?_) fun _ _ z=>z
   obtain ⟨σ6,H6,J6,q6⟩:=h6
   have again:∀ {s9:Shared} {σ9:L2.St} {H9:Hp},Inv (compCx X N' scope P2.objs.size s₂ H2 fp (X.pn ++ pins)) ([] ++ pinsAt fp s5.heap) σ9 H9 s9→(∃ m',m' < n∧W (i + 1) m' σ9 H9) →
     ∃ m,m < n∧∃ i σ' H',Inv (compCx X N' scope P2.objs.size s₂ H2 fp (X.pn ++ pins)) [] σ' H' s9∧tn i s9.heap∧(∀ b∈fp,H' b=none)∧W i m σ' H':=fun {s9 σ9 H9} J9 hw=>by
    obtain ⟨m',hm,w9⟩:=hw
    refine ⟨m',hm,i + 1,σ9,H9,J9.unpinned,T.keep _ _ _ st5 fun b hb o e=>(J9.pin (b,o) (List.mem_append_right _ (List.mem_append_right _ (mem_pinsAt hb e)))).1,fun b hb=>?_,w9⟩
    obtain ⟨o,e,d⟩:=T.obj _ _ st5 b hb
    exact (J9.pin (b,o) (List.mem_append_right _ (List.mem_append_right _ (mem_pinsAt hb e)))).2.1
   refine wpAny_mono (ht _ _ _ _ _ _ s6 σ6 H6 _ J6 q6) (fun ok' s7 h7=>?_) fun _ _ z=>z
   obtain ⟨H7,J7,q7⟩:=h7
   cases ok' with
   | false=>exact again J7 q7
   | true =>
    refine wpAny_mono (he _ _ _ _ _ _ s7 σ6 H7 _ J7 q7) (fun xv2 s8 h8=>?_) fun _ _ z=>z
    obtain ⟨v,H8,J8,r8,ys,hD,hz,hw⟩:=h8
    refine wpAny_mono (mt_append (X:=compCx X N' scope P2.objs.size s₂ H2 fp (X.pn ++ pins)) _ s8 σ6 H8 (.ref s₂.heap.objs.size) [v] (.ref s₂.heap.objs.size) [xv2] (fun _ H9=>∃ m',m' < n∧W (i + 1) m' σ6 H9) J8 rfl (.cons r8 .nil) ⟨_,ys,v,rfl,rfl,hD,hz,hw⟩) (fun _ s9 h9=>?_) fun _ _ z=>z
    obtain ⟨_,H9,J9,_,q9⟩:=h9
    exact again J9 q9
 exact codeAny_compStart_list loop (T.self X.A 0 _ _ _ (T.keep _ _ _ st2 fun b _ o e=>old b o e) loop)
end
theorem sl_str {X:Cx}:SlR X (fun x lo hi H Q=>∃ z,x=.str z∧z.length≤sizeLine∧Q (.str (Txt.slice z lo hi)) H):=by
 intro pins s σ H x v vl vu lo hi sl Q I rx hs pl pu h
 obtain ⟨z,rfl,hz,q⟩:=h
 obtain ⟨t,rfl⟩:=rx
 have part:∀ {v:Value} {o:Option Int},IsPart v o→∃ l:Option (Int×Tok),v=partValue l∧l.map (·.1)=o:=fun p=>by
  cases p with
  | none=>exact ⟨none,rfl,rfl⟩
  | int i t=>exact ⟨some (i,t),rfl,rfl⟩
 obtain ⟨l,e1,e2⟩:=part pl
 obtain ⟨u,e3,e4⟩:=part pu
 subst e1 e2 e3 e4
 refine ⟨"str",_,PySem.F.slot_str_getitem.lookup,typeIs_str _ _ _,?_⟩
 refine wpAny_getItem_str_slice (l:=l) (u:=u) (st:=none) hs rfl (post_val_or_str ⟨Nat.le_trans (Txt.slice_le z _ _) hz,fun t' k=>⟨.str _,H,I.tok k,⟨t',rfl⟩,q⟩⟩)
theorem comp_n {J:It} {n:Nat} {idx:List (Option Nat)} {g:TG} {tt:TT} {te:TE} {σ:L2.St} {H1:Hp} {D:Addr} {Q:VK} (Pv:Nat→L2.St→Hp→Prop)
  (h0:Pv 0 (pick idx σ) (upd H1 D (.lst []))) (hgo:∀ i σ2 H2,i < n→Pv i σ2 H2→J.go i H2) (hstop:∀ σ2 H2,Pv n σ2 H2→J.stop n H2∧Q (.ref D) H2)
  (hs:∀ i σ2 H2,i < n→Pv i σ2 H2→∀ x H3,J.yld i H2 x H3→g x σ2 H3 fun σ4 H4=>tt σ4 H4 fun b H5 =>
   if b=true then te σ4 H5 fun v H6=>∃ ys,H6 D=some (.lst ys)∧ys.length < sizeLine∧Pv (i + 1) σ4 (upd H6 D (.lst (ys ++ [v]))) else Pv (i + 1) σ4 H5) :
  CompW J idx g tt te σ H1 D Q:=by
 refine ⟨fun i m σ H=>m=n - i∧i≤n∧Pv i σ H,⟨n,by simp,Nat.zero_le _,h0⟩,?_⟩
 rintro i m σ2 H2 ⟨rfl,hi,p⟩
 by_cases hlt:i < n
 ·refine .inr ⟨hgo i σ2 H2 hlt p,fun x H3 y=>?_⟩
  have key:∀ (σ':L2.St) (H':Hp),(∃ m',m' < n - i∧m'=n - (i + 1)∧i + 1≤n∧Pv (i + 1) σ' H')=Pv (i + 1) σ' H':=fun σ' H' =>
   propext ⟨fun ⟨_,_,_,_,q⟩=>q,fun q=>⟨n - (i + 1),by omega,rfl,hlt,q⟩⟩
  simp only [key]
  exact hs i σ2 H2 hlt p x H3 y
 ·have e:i=n:=by omega
  subst e
  exact .inl (hstop σ2 H2 p)
theorem atI_of {α:Type} {xs:List α} {m:Int} (h0:0≤m) (h1:m < xs.length):∃ c,atI xs m=some c∧c∈xs:=by
 obtain ⟨j,rfl⟩:=Int.eq_ofNat_of_zero_le h0
 have hj:j < xs.length:=by omega
 exact ⟨xs[j],atI_nat (List.getElem?_eq_getElem hj),List.getElem_mem hj⟩
theorem app_len (a b:Str):(a ++ b).length=a.length + b.length:=by
 show (a.cps ++ b.cps).size=_
 exact Array.size_append
theorem len_cps (a:Str):a.length=a.cps.toList.length:=by
 show a.cps.size=_
 rw [Array.length_toList]
theorem cmulR {i j:Int} (h1:-(2 ^ 64) < j) (h2:j < 2 ^ 64):CMul i j:=Or.inr ⟨h1,h2⟩
section
variable {rest:List Expr} {env:Env}
theorem se_name {x p}:starEach (.Name x p :: rest) env=(false,eval (.Name x p) env) :: starEach rest env:=rfl
theorem se_const {c k p}:starEach (.Constant c k p :: rest) env=(false,eval (.Constant c k p) env) :: starEach rest env:=rfl
theorem se_sub {a b p}:starEach (.Subscript a b p :: rest) env=(false,eval (.Subscript a b p) env) :: starEach rest env:=rfl
theorem se_call {f a k p}:starEach (.Call f a k p :: rest) env=(false,eval (.Call f a k p) env) :: starEach rest env:=rfl
theorem se_bin {a o b p}:starEach (.BinOp a o b p :: rest) env=(false,eval (.BinOp a o b p) env) :: starEach rest env:=rfl
theorem se_tup {l k p}:starEach (.Tuple l k p :: rest) env=(false,eval (.Tuple l k p) env) :: starEach rest env:=rfl
theorem se_comp {e g s p}:starEach (.ListComp e g s p :: rest) env=(false,eval (.ListComp e g s p) env) :: starEach rest env:=rfl
theorem se_cmp {a o b p}:starEach (.Compare a o b p :: rest) env=(false,eval (.Compare a o b p) env) :: starEach rest env:=rfl
theorem se_un {o a p}:starEach (.UnaryOp o a p :: rest) env=(false,eval (.UnaryOp o a p) env) :: starEach rest env:=rfl
end
section
variable {X:Cx} {e:Expr} {es:List Expr} {te:TE} {t:TA} {pos:Pos}
theorem pac (ha:PE X e te) (hr:PA X es t) (hs:starEach (e :: es) X.env=(false,eval e X.env) :: starEach es X.env:=by
  first | exact se_name | exact se_const | exact se_sub | exact se_call | exact se_bin | exact se_tup | exact se_list | exact se_dict | exact se_comp | exact se_attr | exact se_cmp | exact se_bool | exact se_un | exact se_if) :
  PA X (e :: es) (tCons te t):=pa_cons ha hr hs
variable {CX:CXT} {k:Nat} {f:Addr} {fd:FuncData} {ps:List Str} {sp:Sp} {dvs:List V} {ds:List Value} {E:XK} {x:Str} {p:Pos}
theorem pec (F:FnOk X.prog X.w X.K X.mg X.base CX k f fd ps sp) (hr:Room k X.A) (hg:Gl X x) (hm:X.mg x=some (.ref f)) (hk:PySem.W.keepIn X.K (.ref f)=true) (hb:Binds X.K fd ps ds) (hd:Vals dvs ds) (hx:Passes CX X E)
  (ha:PA X (e :: es) t) (hdb:(x == ("__debug__":Str))=false:=by decide)
  (he:starEach (e :: es) X.env=(false,eval e X.env) :: starEach es X.env:=by
   first | exact se_name | exact se_const | exact se_sub | exact se_call | exact se_bin | exact se_tup | exact se_list | exact se_dict | exact se_comp | exact se_attr | exact se_cmp | exact se_bool | exact se_un | exact se_if)
  (hpl:(backTo pos (starEach es X.env)).any (·.1)=false:=by rfl):PE X (.Call (.Name x p) (e :: es) [] pos) (tCall sp dvs E t):=pe_call F hr hg hm hk hb hd hx ha hdb he hpl
end
end BF
namespace BF
open PySem PySem.Spec PyProof.Rows L2 PySem.SeqAt
inductive Dt where
 | int (i:Int)
 | str (x:Str)
 | tup (l:List Dt)
mutual
def Dt.beq:Dt→Dt→Bool
 | .int i,.int j=>i == j
 | .str x,.str y=>x == y
 | .tup l,.tup m=>Dt.beqs l m
 | _,_=>false
def Dt.beqs:List Dt→List Dt→Bool
 | [],[]=>true
 | a :: l,b :: m=>Dt.beq a b && Dt.beqs l m
 | _,_=>false
end
mutual
theorem Dt.beq_iff:∀ a b:Dt,Dt.beq a b=true↔a=b
 | .int i,.int j=>by simp [Dt.beq]
 | .str x,.str y=>by simp [Dt.beq]
 | .tup l,.tup m=>by simp [Dt.beq,Dt.beqs_iff l m]
 | .int i,.str y=>by simp [Dt.beq]
 | .int i,.tup m=>by simp [Dt.beq]
 | .str x,.int j=>by simp [Dt.beq]
 | .str x,.tup m=>by simp [Dt.beq]
 | .tup l,.int j=>by simp [Dt.beq]
 | .tup l,.str y=>by simp [Dt.beq]
theorem Dt.beqs_iff:∀ l m:List Dt,Dt.beqs l m=true↔l=m
 | [],[]=>by simp [Dt.beqs]
 | a :: l,b :: m=>by simp [Dt.beqs,Dt.beq_iff a b,Dt.beqs_iff l m]
 | [],b :: m=>by simp [Dt.beqs]
 | a :: l,[]=>by simp [Dt.beqs]
end
theorem Dt.beq_self (a:Dt):Dt.beq a a=true:=(Dt.beq_iff a a).mpr rfl
mutual
def Dt.dp:Dt→Nat
 | .int _=>0
 | .str _=>0
 | .tup l=>Dt.dps l + 1
def Dt.dps:List Dt→Nat
 | []=>0
 | a :: l=>max (Dt.dp a) (Dt.dps l)
end
mutual
inductive DtIs (H:Hp):V→Dt→Prop where
 | int (i:Int):DtIs H (.int i) (.int i)
 | str (x:Str):DtIs H (.str x) (.str x)
 | tup {a:Addr} {xs:List V} {ds:List Dt} (e:H a=some (.tup xs)) (h:DtsIs H xs ds):DtIs H (.ref a) (.tup ds)
inductive DtsIs (H:Hp):List V→List Dt→Prop where
 | nil:DtsIs H [] []
 | cons {v:V} {d:Dt} {vs:List V} {ds:List Dt} (h:DtIs H v d) (t:DtsIs H vs ds):DtsIs H (v :: vs) (d :: ds)
end
mutual
theorem DtIs.inj {H:Hp}:∀ {d:Dt} {v:V} {d':Dt},DtIs H v d→DtIs H v d'→d=d'
 | .int i,_,d',.int _,h=>by cases h; rfl
 | .str x,_,d',.str _,h=>by cases h; rfl
 | .tup ds,_,d',.tup e q,h=>by
  cases h with
  | tup e2 q2 =>
   rw [e] at e2
   cases e2
   rw [DtsIs.inj q q2]
theorem DtsIs.inj {H:Hp}:∀ {ds:List Dt} {vs:List V} {ds':List Dt},DtsIs H vs ds→DtsIs H vs ds'→ds=ds'
 | [],_,_,.nil,h=>by cases h; rfl
 | d :: ds,_,_,.cons q t,h=>by
  cases h with
  | cons q2 t2=>rw [DtIs.inj q q2,DtsIs.inj t t2]
end
mutual
theorem DtIs.same {H H':Hp} (S:Same H H'):∀ {d:Dt} {v:V},DtIs H v d→DtIs H' v d
 | .int i,_,.int _=>.int i
 | .str x,_,.str _=>.str x
 | .tup ds,_,.tup e q=>.tup (S _ _ e) (DtsIs.same S q)
theorem DtsIs.same {H H':Hp} (S:Same H H'):∀ {ds:List Dt} {vs:List V},DtsIs H vs ds→DtsIs H' vs ds
 | [],_,.nil=>.nil
 | d :: ds,_,.cons q t=>.cons (DtIs.same S q) (DtsIs.same S t)
end
theorem DtsIs.length {H:Hp}:∀ {ds:List Dt} {vs:List V},DtsIs H vs ds→vs.length=ds.length
 | [],_,.nil=>rfl
 | d :: ds,_,.cons q t=>by rw [List.length_cons,List.length_cons,DtsIs.length t]
def itEq (ds ds':List Dt) (j:Nat):Bool:=match ds[j]?,ds'[j]? with
 | some a,some b=>Dt.beq a b
 | _,_=>true
theorem all_itEq:∀ ds ds':List Dt,((List.range (min ds.length ds'.length)).all (itEq ds ds') && ds.length == ds'.length)=Dt.beqs ds ds'
 | [],[]=>rfl
 | [],b :: m=>by simp [Dt.beqs]
 | a :: l,[]=>by simp [Dt.beqs]
 | a :: l,b :: m=>by
  have ih:=all_itEq l m
  rw [List.length_cons,List.length_cons,Nat.succ_min_succ,List.range_succ_eq_map,List.all_cons,List.all_map]
  have e0:itEq (a :: l) (b :: m) 0=Dt.beq a b:=rfl
  have e1:(itEq (a :: l) (b :: m) ∘ Nat.succ)=itEq l m:=by
   funext j
   simp [itEq]
  rw [e0,e1]
  show _=(Dt.beq a b && Dt.beqs l m)
  rw [← ih,Bool.and_assoc]
  simp
section
variable {X:Cx} {pins:List (Addr×Obj)} {σ:L2.St} {H:Hp} {s:Shared}
theorem dp_at:∀ {ds:List Dt} {j:Nat} {d:Dt},ds[j]?=some d→d.dp≤Dt.dps ds
 | [],j,d,e=>by simp at e
 | a :: l,0,d,e=>by
  have e':=Option.some.inj e
  subst e'
  simp only [Dt.dps]
  omega
 | a :: l,j + 1,d,e=>by
  have:=dp_at (ds:=l) (j:=j) (d:=d) (by simpa using e)
  simp only [Dt.dps]
  omega
theorem rel_at:∀ {ds:List Dt} {vs:List V} {us:List Value},DtsIs H vs ds→Vals vs us→∀ {j:Nat} {u:Value},us[j]?=some u→∃ v d,ds[j]?=some d∧DtIs H v d∧RelV v u
 | _,_,_,.nil,.nil,j,u,e=>by simp at e
 | _,_,_,.cons h t,.cons r rs,0,u,e=>by
  have e':=Option.some.inj e
  subst e'
  exact ⟨_,_,rfl,h,r⟩
 | _,_,_,.cons h t,.cons r rs,j + 1,u,e=>by
  obtain ⟨v,d,a,b,c⟩:=rel_at t rs (j:=j) (u:=u) (by simpa using e)
  exact ⟨v,d,by simpa using a,b,c⟩
theorem eqAt_n (I:Inv X pins σ H s) (n:Nat):∀ {d d':Dt} {v v':V} {u u':Value} (A:Around),d.dp≤n→DtIs H v d→RelV v u→DtIs H v' d'→RelV v' u'→A.units + n < cLine→EqAt A s u u' (Dt.beq d d'):=by
 induction n with
 | zero =>
  intro d d' v v' u u' A hn h r h' r' hu
  cases h with
  | int i =>
   obtain ⟨t,rfl⟩:=r
   cases h' with
   | int j=>obtain ⟨t',rfl⟩:=r'; exact EqAt.int_int i t j t'
   | str y=>obtain ⟨t',rfl⟩:=r'; exact EqAt.int_str i t y t'
   | tup e q=>cases r'; obtain ⟨its,_,p,_⟩:=I.tuple (SqT.of e); exact EqAt.int_tuple i t p hu
  | str x =>
   obtain ⟨t,rfl⟩:=r
   cases h' with
   | int j=>obtain ⟨t',rfl⟩:=r'; exact EqAt.str_int x t j t'
   | str y=>obtain ⟨t',rfl⟩:=r'; exact EqAt.str_str x t y t'
   | tup e q=>cases r'; obtain ⟨its,_,p,_⟩:=I.tuple (SqT.of e); exact EqAt.str_tuple x t p hu
  | tup e q=>simp only [Dt.dp] at hn; omega
 | succ n ih =>
  intro d d' v v' u u' A hn h r h' r' hu
  by_cases h0:d.dp≤n
  ·exact ih A h0 h r h' r' (by omega)
  cases h with
  | int i=>simp only [Dt.dp] at h0; omega
  | str x=>simp only [Dt.dp] at h0; omega
  | @tup a xs l e q =>
   cases r
   cases h' with
   | int j=>obtain ⟨t',rfl⟩:=r'; obtain ⟨its,_,p,_⟩:=I.tuple (SqT.of e); exact EqAt.tuple_int j t' p (by omega)
   | str y=>obtain ⟨t',rfl⟩:=r'; obtain ⟨its,_,p,_⟩:=I.tuple (SqT.of e); exact EqAt.tuple_str y t' p (by omega)
   | @tup b ys m e' q' =>
    cases r'
    by_cases hab:a=b
    ·subst hab
     have z:=DtIs.inj (DtIs.tup e q) (DtIs.tup e' q')
     rw [z,Dt.beq_self]
     exact EqAt.same _
    ·obtain ⟨its,rv,p,_⟩:=I.tuple (SqT.of e)
     obtain ⟨its',rv',p',_⟩:=I.tuple (SqT.of e')
     have n1:its.toArray.size=l.length:=by rw [List.size_toArray,← rv.length,q.length]
     have n2:its'.toArray.size=m.length:=by rw [List.size_toArray,← rv'.length,q'.length]
     simp only [Dt.dp] at hn
     have R:=RcAt.tuples (A:=A) (s:=s) (e:=itEq l m) p p' (by omega) (fun j h1 h2=>by
      obtain ⟨v1,d1,a1,b1,c1⟩:=rel_at q rv (j:=j) (u:=its.toArray[j]) (by simp)
      obtain ⟨v2,d2,a2,b2,c2⟩:=rel_at q' rv' (j:=j) (u:=its'.toArray[j]) (by simp)
      have z:itEq l m j=Dt.beq d1 d2:=by unfold itEq; rw [a1,a2]
      rw [z]
      exact ih A.in1 (by have:=dp_at a1; omega) b1 c1 b2 c2 (by show A.units + 1 + _ < _; omega))
     rw [n1,n2,all_itEq] at R
     exact EqAt.of_refs hab R
theorem eqAt_D (I:Inv X pins σ H s) {d d':Dt} {v v':V} {u u':Value} (A:Around) (h:DtIs H v d) (r:RelV v u) (h':DtIs H v' d') (r':RelV v' u') (hu:A.units + d.dp < cLine):EqAt A s u u' (Dt.beq d d'):=eqAt_n I _ A (Nat.le_refl _) h r h' r' hu
theorem eqsAt_D (I:Inv X pins σ H s) {ds ds':List Dt} {vs vs':List V} {us us':List Value} (A:Around) (q:DtsIs H vs ds) (rv:Vals vs us) (q':DtsIs H vs' ds') (rv':Vals vs' us') (hu:A.units + Dt.dps ds < cLine)
  (j:Nat) (u u':Value) (e:us[j]?=some u) (e':us'[j]?=some u'):EqAt A s u u' (itEq ds ds' j):=by
 obtain ⟨v1,d1,a1,b1,c1⟩:=rel_at q rv e
 obtain ⟨v2,d2,a2,b2,c2⟩:=rel_at q' rv' e'
 have z:itEq ds ds' j=Dt.beq d1 d2:=by unfold itEq; rw [a1,a2]
 rw [z]
 exact eqAt_n I _ A (dp_at a1) b1 c1 b2 c2 hu
end
end BF
namespace BF
open PySem
def Trc (B:Heap) (e:Addr) (fl:Value) (vs:Array Value) (h:Heap):Prop :=
 vs[1]?=some .none∨∃ T oT ts,vs[1]?=some (.ref T)∧B.get? T=none∧T≠e∧h.get? T=some oT∧oT.data=.fields ts∧ts[3]?=some fl
structure Air (B:Heap) (l:List Env) (e:Addr) (cls fl:Value) (h:Heap):Prop where
 stays:B.StaysIn h
 new:B.get? e=none
 fr:h.FunFrames B l
 obj:∃ oe vs,h.get? e=some oe∧oe.cls=cls∧oe.dict=none∧oe.data=.fields vs∧2 < vs.size∧vs[2]?=some .none∧Trc B e fl vs h
theorem mapFields_dict (f:Array Value→Array Value) (o:Obj):(Obj.mapFields f o).dict=o.dict:=by
 obtain ⟨c,d,dt,sl⟩:=o
 cases dt <;> rfl
section
variable {M:Model} {A:Around} {E:Value→Shared→Prop} {s:Shared}
theorem air_entry {B:Heap} {env:Env} {outer:List Env} {L e:Addr} {cls head:Value} {had:Bool} {oe:Obj} {vs:Array Value} {Q:Unit→Shared→Prop}
  (hfr:A.frames=some (env :: outer)) (hf:env.frame=some L) (hB:B.StaysIn s.heap) (hn:B.get? e=none) (hl:s.heap.FunFrames B (env :: outer))
  (he:s.heap.get? e=some oe) (hc:oe.cls=cls) (hdi:oe.dict=none) (hd:oe.data=.fields vs) (hz:2 < vs.size) (h2:vs[2]?=some .none)
  (hQ:∀ h',Air B (env :: outer) e cls (rawInt L) h'→s.heap.UpToSlots h'→Q () { s with heap:=h' }) :
  wpAny M A (do let a ← frameOf env; let pl ← entryPlaceOf L had; let b ← EntryCells.newEntry head a .none (rawInt L) .none pl; setField (.ref e) 1 b) Q E s:=by
 have hne:e ∉ (env :: outer).filterMap (·.frame):=fun z=>by
  obtain ⟨_,o,ho,k⟩:=hl.mem z
  rw [he] at ho
  cases ho
  exact k vs hd
 refine wpAny_bind (wpAny_frameOf_fun hfr hl hf fun h1 so=>?_)
 refine wpAny_bind (wpAny_entryPlaceOf fun pl ip=>?_)
 unfold EntryCells.newEntry newFields
 refine wpAny_bind (wpAny_newObj_type ?_ (ip.sizeOk5 _ _ _ _ _))
 have e1:h1.get? e=some oe:=(so.2.1 e hne).trans he
 have B1:B.StaysIn h1:=fun b o q=>(so.2.1 b fun z=>by rw [(hl.mem z).1] at q; cases q).trans (hB b o q)
 generalize htb:({ cls:=.type "traceback",dict:=none,data:=.fields ([head,.ref L,.none,rawInt L,.none] ++ (if pl.isEmpty then List.replicate 6 Value.none else pl)).toArray }:Obj)=tb
 have tbd:tb.data=.fields ([head,.ref L,.none,rawInt L,.none] ++ (if pl.isEmpty then List.replicate 6 Value.none else pl)).toArray:=by rw [← htb]
 have e2:(h1.push tb).get? e=some oe:=Heap.get?_push_of_some _ e1
 refine wpAny_setField e2 hd (by omega) (hQ _ ?_ ?_)
 ·have ne:h1.objs.size≠e:=Nat.ne_of_gt (Heap.lt_size e1)
  have d3:=Obj.data_mapFields hd (·.setIfInBounds 1 (Value.ref h1.objs.size))
  have e3:=Heap.get?_update_self (Obj.mapFields (·.setIfInBounds 1 (Value.ref h1.objs.size))) e2 (Obj.isFreed_of_fields d3)
  have other:∀ b o,b≠e→h1.get? b=some o→((h1.push tb).update e (Obj.mapFields (·.setIfInBounds 1 (Value.ref h1.objs.size)))).get? b=some o:=fun b o hb q=>by
   rw [Heap.get?_update_other _ _ (Ne.symm hb)]
   exact Heap.get?_push_of_some _ q
  refine ⟨fun b o q=>other b o (fun z=>by rw [z,hn] at q; cases q) (B1 b o q),hn,hl.of_keeps fun b o q k=>?_,_,_,e3,(Obj.cls_mapFields _ _).trans hc,(mapFields_dict _ _).trans hdi,d3,by simpa using hz,?_,.inr ⟨h1.objs.size,tb,_,?_,B1.fresh,ne,?_,tbd,?_⟩⟩
  ·obtain ⟨sl,q1⟩:=so.2.2 b o q
   exact ⟨_,other b _ (fun z=>by rw [z,he] at q; cases q; exact k vs hd) q1,rfl⟩
  ·rw [Array.getElem?_setIfInBounds_ne (by decide)]; exact h2
  ·simp [show 1 < vs.size by omega]
  ·rw [Heap.get?_update_other _ _ (Ne.symm ne)]
   exact Heap.get?_push_size _ (by rw [← htb]; rfl)
  ·simp
 ·intro b o q k
  obtain ⟨sl,q1⟩:=so.2.2 b o q
  refine ⟨sl,?_⟩
  rw [Heap.get?_update_other _ _ (fun z=>by rw [← z,he] at q; cases q; exact k vs hd)]
  exact Heap.get?_push_of_some _ q1
theorem air_note {B:Heap} {env:Env} {outer:List Env} {L e:Addr} {cls:Value} {Q:Unit→Shared→Prop} (hfr:A.frames=some (env :: outer)) (hf:env.frame=some L)
  (a:Air B (env :: outer) e cls .none s.heap) (hQ:∀ h',Air B (env :: outer) e cls (rawInt L) h'→s.heap.UpToSlots h'→Q () { s with heap:=h' }):wpAny M A (noteFrame (.ref e) env) Q E s:=by
 obtain ⟨hB,hn,hl,oe,vs,he,hc,hdi,hd,hz,h2,tr⟩:=a
 unfold noteFrame
 simp only [hf]
 rcases tr with h1 | ⟨T,oT,ts,h1,nT,neT,hT,dT,h3⟩
 ·refine wpAny_bind (wpAny_field he hd h1 ?_)
  rw [if_neg (by decide)]
  exact air_entry hfr hf hB hn hl he hc hdi hd hz h2 hQ
 ·refine wpAny_bind (wpAny_field he hd h1 ?_)
  rw [if_pos (by simp:(Value.ref T != Value.none)=true)]
  refine wpAny_bind (wpAny_field hT dT h3 ?_)
  rw [if_neg (by simp [rawInt]:¬ ((Value.none == rawInt L)=true))]
  have zT:3 < ts.size:=(Array.getElem?_eq_some_iff.mp h3).1
  refine wpAny_bind (wpAny_setField hT dT zT ?_)
  have other:∀ b,b≠T→(s.heap.update T (Obj.mapFields (·.setIfInBounds 3 Value.none))).get? b=s.heap.get? b:=fun b hb=>Heap.get?_update_other _ _ (Ne.symm hb)
  have rcd:∀ b o,s.heap.get? b=some o→(∀ ws,o.data≠.fields ws)→b≠T:=fun b o q k z=>by
   rw [z,hT] at q
   cases q
   exact k ts dT
  refine air_entry (s:={ s with heap:=s.heap.update T (Obj.mapFields (·.setIfInBounds 3 Value.none)) }) hfr hf (fun b o q=>(other b fun z=>by rw [z,nT] at q; cases q).trans (hB b o q)) hn
   (hl.of_keeps fun b o q k=>⟨o,(other b (rcd b o q k)).trans q,rfl⟩) ((other e (Ne.symm neT)).trans he) hc hdi hd hz h2 fun h' x1 x2=>hQ h' x1 fun b o q k=>x2 b o ((other b (rcd b o q k)).trans q) k
theorem air_land {B:Heap} {l:List Env} {e:Addr} {cls fl:Value} {Q:Unit→Shared→Prop} (a:Air B l e cls fl s.heap)
  (hQ:∀ h',Air B l e cls .none h'→s.heap.UpToSlots h'→Q () { s with heap:=h' }):wpAny M A (setFlight (.ref e) none) Q E s:=by
 obtain ⟨hB,hn,hl,oe,vs,he,hc,hdi,hd,hz,h2,tr⟩:=a
 unfold setFlight
 rcases tr with h1 | ⟨T,oT,ts,h1,nT,neT,hT,dT,h3⟩
 ·refine wpAny_bind (wpAny_field he hd h1 ?_)
  rw [if_neg (by decide)]
  exact wpAny_pure (hQ s.heap ⟨hB,hn,hl,oe,vs,he,hc,hdi,hd,hz,h2,.inl h1⟩ (.refl _))
 ·refine wpAny_bind (wpAny_field he hd h1 ?_)
  rw [if_pos (by simp:(Value.ref T != Value.none)=true)]
  have zT:3 < ts.size:=(Array.getElem?_eq_some_iff.mp h3).1
  have other:∀ (v:Value) b,b≠T→(s.heap.update T (Obj.mapFields (·.setIfInBounds 3 v))).get? b=s.heap.get? b:=fun v b hb=>Heap.get?_update_other _ _ (Ne.symm hb)
  have rcd:∀ b o,s.heap.get? b=some o→(∀ ws,o.data≠.fields ws)→b≠T:=fun b o q k z=>by
   rw [z,hT] at q
   cases q
   exact k ts dT
  refine wpAny_setField hT dT zT (hQ _ ⟨fun b o q=>(other _ b fun z=>by rw [z,nT] at q; cases q).trans (hB b o q),hn,hl.of_keeps fun b o q k=>⟨o,(other _ b (rcd b o q k)).trans q,rfl⟩,
   oe,vs,(other _ e (Ne.symm neT)).trans he,hc,hdi,hd,hz,h2,.inr ⟨T,_,_,h1,nT,neT,Heap.get?_update_self _ hT (Obj.isFreed_of_fields (Obj.data_mapFields dT _)),Obj.data_mapFields dT _,by simp [zT]⟩⟩
   fun b o q k=>⟨o.slots,(other _ b (rcd b o q k)).trans q⟩)
theorem air_leave {B:Heap} {env:Env} {outer:List Env} {L e:Addr} {cls:Value} {Q:Unit→Shared→Prop} (hfr:A.frames=some (env :: outer)) (hf:env.frame=some L)
  (a:Air B (env :: outer) e cls .none s.heap) (hQ:∀ h',Air B outer e cls .none h'→s.heap.UpToSlots h'→Q () { s with heap:=h' }):wpAny M A (leaving env (.ref e)) Q E s:=by
 unfold leaving
 refine wpAny_bind (air_note hfr hf a fun h1 a1 u1=>?_)
 refine air_land a1 fun h2 a2 u2=>hQ h2 ⟨a2.stays,a2.new,a2.fr.2.2,a2.obj⟩ (u1.trans u2)
theorem air_made {B h h':Heap} {l:List Env} {e:Addr} {cls:Value} {args:List Value} (hB:B.StaysIn h) (hl:h.FunFrames B l) (hx:Heap.MadeExcOf h h' e cls args):Air B l e cls .none h':=by
 obtain ⟨t,he,_,_⟩:=hx.there
 refine ⟨fun b o q=>hx.keeps b o (hB b o q),?_,hl.of_keeps fun b o q _=>⟨o,hx.keeps b o q,rfl⟩,_,_,he,rfl,rfl,rfl,by simp,by simp,.inl (by simp)⟩
 cases q:B.get? e with
 | none=>rfl
 | some o =>
  have:=hB e o q
  rw [hx.new] at this
  cases this
end
end BF
namespace BF
open PySem PySem.Spec PyProof.Rows L2
structure Flew (P:Program) (w:World) (l:List Env) (H H':Hp) (x:Addr) (cls:Value) (h h' B:Heap):Prop where
 air:Air B l x cls .none h'
 hok:HOk P w H' B
 keep:∀ b o,h.get? b=some o→H b=none→b ∉ frs l→B.get? b=some o
 there:∀ b o,h.get? b=some o→b ∉ frs l→∃ o',B.get? b=some o'
 slot:∀ b o,h.get? b=some o→H b=none→b∈frs l→∃ sl,h'.get? b=some { o with slots:=sl }
 free:∀ b o,h.get? b=some o→H b=none→H' b=none
 tups:∀ b xs,H b=some (.tup xs)→H' b=some (.tup xs)
 frzs:∀ b o u,H b=some (.frz o u)→H' b=some (.frz o u)
 tbls:∀ b ps,H b=some (.tbl ps)→∃ more,H' b=some (.tbl (ps ++ more))
def CXE (P:Program) (w:World):CXT:=fun outer H s E e s'=>∃ x cls H' B,e=.ref x∧s'.os=s.os∧AllBare s'.gens∧Flew P w outer H H' x cls s.heap s'.heap B∧E cls none H'
theorem exc_of {K:PySem.W.Frag} {C:Addr} {bmB:List Value} {newId:String} (q:PySem.W.excIn K C bmB newId=true) {h:Heap} (X:K.In h) :
  ∃ nm qn N bs bm hdct sn sub ab col dd k0 k1 k2 k3 k5 mN,h.get? C=some (excClassObj nm qn C N bs bm hdct sn sub ab col dd k0 k1 k2 k3 k5 newId)∧h.Ns N mN∧mN "__init__"=none∧OwnTail h bmB bm:=by
 unfold PySem.W.excIn at q
 split at q
 ·rename_i dd cd sl ho
  split at q
  ·rename_i C' bm j0 j1 j2 j3 n j5 hm hs
   simp only [Bool.and_eq_true,beq_iff_eq,Bool.not_eq_true'] at q
   obtain ⟨⟨⟨⟨⟨rfl,rfl⟩,hdel⟩,ht⟩,hk⟩,hni⟩:=q
   obtain ⟨nm,bs,mro,ns,qn,hd,sn,sub,ab,col,del⟩:=cd
   dsimp only at hm hdel hk hni
   subst hm hdel
   obtain ⟨l⟩:=sl
   simp only at hs
   subst hs
   exact ⟨nm,qn,ns,bs,bm,hd,sn,sub,ab,col,dd,j0,j1,j2,j3,j5,_,X _ _ ho,.of_isNs (PySem.W.isNs_of_in X hk),PySem.W.nsMap_none_of_in X hk hni,PySem.W.tail_of_in X ht⟩
  ·cases q
 ·cases q
section
variable {P:Program} {w:World} {K:PySem.W.Frag} {mg:Str→Option Value} {base:Heap} {N:List Str} {qual:Str} {scope:Scope} {f:Addr} {cdv:Value} {A:Around} {outer:List Env} {s:Shared} {H:Hp} {E:XK}
theorem leave_made {pins:List (Addr×Obj)} {σ:L2.St} {H2:Hp} {s2:Shared} {h':Heap} {x:Addr} {cls:Value} {args:List Value}
  (I:Inv (cxOf (CXE P w) P w K mg base N qual scope f cdv A outer s H E) pins σ H2 s2) (hx:Heap.MadeExcOf s2.heap h' x cls args) (hE:E cls none H2) :
  (cxOf (CXE P w) P w K mg base N qual scope f cdv A outer s H E).xe (.ref x) { s2 with heap:=h' }:=by
 generalize hY:cxOf (CXE P w) P w K mg base N qual scope f cdv A outer s H E=Y at I
 have e1:Y.stack=envOfC qual scope s.heap.objs.size f cdv :: outer:=by rw [← hY]; rfl
 have e2:Y.fs=frs outer:=by rw [← hY]; rfl
 have e3:Y.ex=[]:=by rw [← hY]; rfl
 have e4:Y.s₀=s:=by rw [← hY]; rfl
 have e5:Y.H₀=H:=by rw [← hY]; rfl
 have e6:Y.env=envOfC qual scope s.heap.objs.size f cdv:=by rw [← hY]; rfl
 have e7:Y.prog=P:=by rw [← hY]; rfl
 have e8:Y.w=w:=by rw [← hY]; rfl
 have fr:=I.stack
 have sf:=I.stkFree
 have hb:=I.base
 have hfr:=I.ok.frames
 have ab:=I.ok.above
 have os:=I.os
 have hk:=I.hok
 rw [e1] at fr sf hfr
 rw [e2,e3,e4,e5] at hb
 rw [e4] at ab os
 rw [e6] at ab
 rw [e7,e8] at hk
 have hin:∀ b,b∈frs (envOfC qual scope s.heap.objs.size f cdv :: outer)→H2 b=none:=sf
 have inB:∀ b o,s2.heap.get? b=some o→b ∉ frs (envOfC qual scope s.heap.objs.size f cdv :: outer)→(PySem.W.hideAll s2.heap (frs (envOfC qual scope s.heap.objs.size f cdv :: outer))).get? b=some o:=fun b o q n=>PySem.W.hideAll_get _ q n
 have old:∀ b o,s.heap.get? b=some o→b ∉ frs outer→b ∉ frs (envOfC qual scope s.heap.objs.size f cdv :: outer):=fun b o q n z=>by
  rcases List.mem_cons.mp (show b∈s.heap.objs.size :: frs outer from z) with z | z
  ·exact absurd (Heap.lt_size q) (by rw [z]; exact Nat.lt_irrefl _)
  ·exact n z
 have a0:=air_made (fun b o q=>PySem.W.of_hideAll _ q) (PySem.W.funFrames_hide fr fun env he a ha=>List.mem_filterMap.mpr ⟨env,he,ha⟩) hx
 subst hY
 refine air_leave (s:={ s2 with heap:=h' }) (L:=s.heap.objs.size) hfr rfl a0 fun h3 a3 u3=>?_
 refine ⟨x,cls,H2,_,rfl,os,I.bare,⟨a3,fun b o q=>?_,fun b o q n hn=>?_,fun b o q hn=>?_,fun b o q n hn=>?_,fun b o q n=>hb.free b o q n (by simp),hb.tups,hb.frzs,hb.tbls⟩,hE⟩
 ·refine (hk b o q).stay (fun c u hc qc=>inB c u qc fun z=>?_) (fun _ z=>z) fun _ _ z=>z
  have:=hin c z
  rcases hc with e | e
  ·rw [e] at this; rw [this] at q; cases q
  ·rw [this] at e; cases e
 ·exact inB b o (hb.keep b o q n hn (by simp)) (old b o q hn)
 ·obtain ⟨o',q'⟩:=hb.there b o q (by simp)
  exact ⟨o',inB b o' q' (old b o q hn)⟩
 ·obtain ⟨sl,q1⟩:=hb.slot b o q n hn (by simp)
  obtain ⟨_,o',q2,k⟩:=fr.mem (List.mem_cons_of_mem _ hn:b∈s.heap.objs.size :: frs outer)
  rw [q1] at q2
  cases q2
  obtain ⟨sl2,q3⟩:=u3 b _ (hx.keeps b _ q1) k
  exact ⟨sl2,q3⟩
theorem ps_raise {x:Str} {np cpos pos:Pos} {a:Expr} {ta:TE} {C:Addr} (hg:Gl (cxOf (CXE P w) P w K mg base N qual scope f cdv A outer s H E) x) (hm:mg x=some (.ref C)) (hd:A.handled=none)
  (q:PySem.W.excIn K C [.type "ValueError",.type "Exception",.type "BaseException",.type "object"] "ValueError.__new__"=true)
  (ha:PE (cxOf (CXE P w) P w K mg base N qual scope f cdv A outer s H E) a ta)
  (hs:starEach [a] (cxOf (CXE P w) P w K mg base N qual scope f cdv A outer s H E).env=[(false,eval a (cxOf (CXE P w) P w K mg base N qual scope f cdv A outer s H E).env)]:=by rfl) (hdb:(x == ("__debug__":Str))=false:=by decide) :
  PS (cxOf (CXE P w) P w K mg base N qual scope f cdv A outer s H E) (.Raise (some (.Call (.Name x np) [a] [] cpos)) none pos) (fun D σ H1=>ta σ H1 fun v H2=>E (.ref C) none H2):=by
 intro pins s1 σ H1 D I h
 obtain ⟨nm,qn,N',bs,bm,hdct,sn,sub,ab,col,dd,k0,k1,k2,k3,k5,mN,hC,hN,hni,T⟩:=exc_of q I.ok.mod.kin
 refine wpAny_Raise_call_subT (C:=C) (nm:=nm) (q:=qn) (N:=N') (bs:=bs) (bm:=bm) (hdct:=hdct) (sn:=sn) (sub:=sub) (ab:=ab) (col:=col) (dd:=dd) (k0:=k0) (k1:=k1) (k2:=k2) (k3:=k3) (k5:=k5)
  PySem.F.excBase_ValueError (mN:=mN) (T.hasType PySem.F.excBase_ValueError.hasBase) hd (by rw [hs]; rfl) hni (ld_glob I hg hm ⟨rfl,?_⟩ hdb)
 rw [hs]
 refine Calls.evalArgs_plain (Calls.spliced_cons (thn (ha pins s1 σ H1 _ I h) fun u s2 ⟨v,H2,I2,r2,q2⟩=>Calls.spliced_nil ⟨rfl,szr rfl,I2.bk _ _ hC,hN.keeps I2.bk,T.keeps I2.bk,fun h' x hx=>?_⟩))
 exact leave_made I2 hx q2
end
end BF
namespace BF
open PySem PySem.Spec PyProof.Rows
structure XCls (K:PySem.W.Frag) (C:Addr):Prop where
 hd:PySem.W.hasDictIn K C=true
 ga:PySem.W.findIn K (.ref C) "__getattribute__"=some (some (.builtin "BaseException.__getattribute__"))
 gh:PySem.W.findIn K (.ref C) "__getattr__"=some none
 kl:PySem.W.findIn K (.ref C) "__class__"=some (some (.builtin "object.__class__"))
 gg:PySem.W.specialIn K (.builtin "object.__class__") "__get__"=some (some (.builtin "getset_descriptor.__get__"))
 tk:PySem.W.takesIn K (.builtin "object.__class__")=some true
 ob:PySem.W.mroIn K C (.type "object")=some true
 be:PySem.W.mroIn K C (.type "BaseException")=some true
section
variable {prog:Program} {w:World} {A:Around} {E:Value→Shared→Prop} {s:Shared} {K:PySem.W.Frag} {x C:Addr} {ox:Obj}
end
end BF
namespace BF
open PySem PySem.Spec PyProof.Rows L2
section
variable {prog:Program} {w:World} {A:Around} {E:Value→Shared→Prop} {s:Shared}
theorem two_min {a b:Value} {bt:Bool} {Q:Value→Shared→Prop} (hh:A.handled=none)
  (hcmp:∀ (s':Shared) (Q':Value→Shared→Prop) (E':Value→Shared→Prop),(∀ c o,s.heap.get? c=some o→s'.heap.get? c=some o)→Q' (.bool bt) s'→wpAny (model prog w) A.in1 (richCompare .Lt b a) Q' E' s')
  (h:∀ h' tk,(∀ c o,s.heap.get? c=some o→h'.get? c=some o)→Q (if bt=true then b else a) { s with heap:=h',toks:=tk }):wpAny (model prog w) A (call (.builtin "min") [a,b]) Q E s:=by
 have nm:(toString "min" ++ toString ".loop":String)="min.loop":=by decide
 refine call_function_tree F.kind_min F.plain_min F.entry_min (F.args_min2 a b) ?_
 refine wpAny_bind (m:=Builtin.Builtins.bindParams "min" ["key","default"] 0 ⟨[],[]⟩) (wpAny_of_eq (a:=[none,none]) rfl ?_)
 refine wpAny_bind (m:=newTuple [a,b]) (wpAny_newObj_type ?_)
 generalize ho:({ cls:=.type "tuple",dict:=none,data:=.seq [a,b].toArray }:Obj)=ot
 have k1:∀ c o,s.heap.get? c=some o→(s.heap.push ot).get? c=some o:=fun c o e=>Heap.get?_push_of_some _ e
 have t1:(s.heap.push ot).IsTuple s.heap.objs.size #[a,b]:=⟨ot,Heap.get?_push_size _ (by rw [← ho]; rfl),by rw [← ho],0,by rw [← ho]⟩
 have z1:s.heap.objs.size < (s.heap.push ot).objs.size:=by rw [Heap.size_push]; exact Nat.lt_succ_self _
 refine wpAny_bind (wpAny_pyIter_tuple t1 ?_)
 have zs:∀ c o,s.heap.get? c=some o→c < s.heap.objs.size:=fun c o e=>Heap.lt_size e
 generalize s.heap.push ot=h1 at k1 t1 z1 ⊢
 generalize hoi:({ cls:=.type "tuple_iterator",data:=.fields #[.ref s.heap.objs.size,.int 0 0] }:Obj)=oi
 dsimp only
 have i2:(h1.push oi).IsTupleIter h1.objs.size s.heap.objs.size 0:=⟨oi,Heap.get?_push_size _ (by rw [← hoi]; rfl),by rw [← hoi],by rw [← hoi]; rfl⟩
 have t2:(h1.push oi).IsTuple s.heap.objs.size #[a,b]:=t1.push _
 have z2:h1.objs.size < (h1.push oi).objs.size:=by rw [Heap.size_push]; exact Nat.lt_succ_self _
 have k2:∀ c o,s.heap.get? c=some o→(h1.push oi).get? c=some o:=fun c o e=>Heap.get?_push_of_some _ (k1 c o e)
 generalize hI:h1.objs.size=I at i2 z1 z2 ⊢
 generalize hT:s.heap.objs.size=T at i2 t2 z1 zs ⊢
 generalize h1.push oi=h2 at i2 t2 z2 k2 ⊢
 refine wpAny_bind (m:=newList []) (wpAny_newObj_type ?_)
 generalize hol:({ cls:=.type "list",dict:=none,data:=.seq ([]:List Value).toArray }:Obj)=ol
 have gS:(h2.push ol).get? h2.objs.size=some { cls:=.type "list",dict:=none,data:=.seq #[] 0,slots:=#[] }:=by rw [← hol]; exact Heap.get?_push_size _ rfl
 have i3:(h2.push ol).IsTupleIter I T 0:=by
  obtain ⟨o,e,c,d⟩:=i2
  exact ⟨o,Heap.get?_push_of_some _ e,c,d⟩
 have t3:=t2.push ol
 have k3:∀ c o,s.heap.get? c=some o→(h2.push ol).get? c=some o:=fun c o e=>Heap.get?_push_of_some _ (k2 c o e)
 have nSI:h2.objs.size≠I:=Nat.ne_of_gt z2
 have nST:h2.objs.size≠T:=Nat.ne_of_gt (Nat.lt_trans z1 z2)
 have nS:∀ c o,s.heap.get? c=some o→c≠h2.objs.size:=fun c o e=>Nat.ne_of_lt (Nat.lt_trans (zs c o e) (Nat.lt_trans z1 z2))
 have nI:∀ c o,s.heap.get? c=some o→c≠I:=fun c o e=>Nat.ne_of_lt (Nat.lt_trans (zs c o e) z1)
 generalize h2.objs.size=S at gS nSI nST nS ⊢
 generalize h2.push ol=h3 at gS i3 t3 k3 ⊢
 have W:Walks prog w A.in1 I [I,T] [I] 2 (fun i v=>(#[a,b]:Array Value)[i]?=some v) (fun i h=>h.IsTupleIter I T i∧h.IsTuple T #[a,b]):=Walks.tuple (A:=A.in1) hh I T (Nat.ne_of_lt z1) #[a,b]
 rw [nm]
 refine wpAny_pure ⟨plainId_quiet F.plain_min_loop _,?_⟩
 refine codeAny_builtin F.entry_min_loop ?_
 rw [Around.under_plainId F.plain_min_loop _]
 refine wpAny_bind (m:=seqItems? (.ref S)) (wpAny_seqItems gS rfl ?_)
 show wpAny _ A.in1 (tryCatch (pyNext (.ref I)) _ >>= _) _ _ _
 refine wpAny_bind (wpAny_tryCatch (W.item 0 _ _ _ (by decide) ⟨i3,t3⟩ fun v h4 tk hv st4 q4=>?_))
 have ev:a=v:=Option.some.inj hv
 subst ev
 have g4:=q4 S _ (by simpa using nSI) gS
 have k4:∀ c o,s.heap.get? c=some o→h4.get? c=some o:=fun c o e=>q4 c o (by simpa using nI c o e) (k3 c o e)
 refine wpAny_bind (m:=updateSeq S _) ?_
 refine wpAny_updateSeq g4 rfl ?_
 rw [nm]
 have st5:=W.frame 1 _ (h4.update S (Obj.mapSeq fun _=>#[a,a])) st4 fun c hc o e=>by
  rw [Heap.get?_update_other _ _ (fun z=>by subst z; simp at hc; rcases hc with z | z <;> contradiction)]; exact e
 have g5:=Heap.get?_update_self (Obj.mapSeq fun _=>#[a,a]) g4 rfl
 have k5:∀ c o,s.heap.get? c=some o→(h4.update S (Obj.mapSeq fun _=>#[a,a])).get? c=some o:=fun c o e=>(Heap.get?_update_other _ _ (Ne.symm (nS c o e))).trans (k4 c o e)
 dsimp only
 generalize h4.update S (Obj.mapSeq fun _=>#[a,a])=h5 at st5 g5 k5 ⊢
 refine wpAny_pure ⟨plainId_quiet F.plain_min_loop _,?_⟩
 refine codeAny_builtin F.entry_min_loop ?_
 rw [Around.under_plainId F.plain_min_loop _]
 refine wpAny_bind (m:=seqItems? (.ref S)) (wpAny_seqItems g5 rfl ?_)
 show wpAny _ A.in1 (tryCatch (pyNext (.ref I)) _ >>= _) _ _ _
 refine wpAny_bind (wpAny_tryCatch (W.item 1 _ _ _ (by decide) st5 fun v h6 tk6 hv st6 q6=>?_))
 have ev:b=v:=Option.some.inj hv
 subst ev
 have g6:=q6 S _ (by simpa using nSI) g5
 have k6:∀ c o,s.heap.get? c=some o→h6.get? c=some o:=fun c o e=>q6 c o (by simpa using nI c o e) (k5 c o e)
 show wpAny _ A.in1 (tryCatch (holding [b,b] (richCompare .Lt b a >>= _)) _ >>= _) _ _ _
 refine wpAny_bind (wpAny_tryCatch (wpAny_holding (wpAny_bind (hcmp _ _ _ k6 ?_))))
 refine wpAny_bind (wpAny_holding (wpAny_truthy_bool ?_))
 refine wpAny_bind (wpAny_letGo (wpAny_pure ?_))
 have fin:∀ (s7:Shared) (v:Value) (c:Nat),s7.heap.IsTupleIter I T 2∧s7.heap.IsTuple T #[a,b]→s7.heap.get? S=some { cls:=.type "list",dict:=none,data:=.seq #[v,v] c,slots:=#[] } →
   (∀ c o,s.heap.get? c=some o→s7.heap.get? c=some o)→(∀ h' tk,(∀ c o,s.heap.get? c=some o→h'.get? c=some o)→Q v { s7 with heap:=h',toks:=tk }) →
   codeAny (model prog w) A (.builtin "min.loop" ⟨[.ref I,.none,.ref S],[]⟩) (fun r s'=>match r with | .ok (.ret v)=>Q v s' | .ok _=>False | .error e=>E e s') s7:=fun s7 v c st7 g7 k7 hq=>by
  refine codeAny_builtin F.entry_min_loop ?_
  rw [Around.under_plainId F.plain_min_loop _]
  refine wpAny_bind (m:=seqItems? (.ref S)) (wpAny_seqItems g7 rfl ?_)
  show wpAny _ A.in1 (tryCatch (pyNext (.ref I)) _ >>= _) _ _ _
  refine wpAny_bind (wpAny_tryCatch (W.done _ _ _ st7 fun h8 tk8 q8=>?_))
  have g8:=q8 S _ (by simpa using nSI) g7
  refine wpAny_bind (m:=updateSeq S _) ?_
  refine wpAny_updateSeq g8 rfl (wpAny_bind (wpAny_letGo (wpAny_pure ?_)))
  exact hq _ tk8 fun c o e=>(Heap.get?_update_other _ _ (Ne.symm (nS c o e))).trans (q8 c o (by simpa using nI c o e) (k7 c o e))
 cases bt with
 | true =>
  simp only [if_true]
  refine wpAny_bind (m:=updateSeq S _) ?_
  refine wpAny_updateSeq g6 rfl (wpAny_bind (wpAny_letGo ?_))
  rw [nm]
  refine wpAny_pure ⟨plainId_quiet F.plain_min_loop _,fin _ b _ (W.frame 2 _ _ st6 fun c hc o e=>?_) (Heap.get?_update_self _ g6 rfl) (fun c o e=>?_) fun h' tk k=>?_⟩
  ·exact (Heap.get?_update_other _ _ (fun z=>by subst z; simp at hc; rcases hc with z | z <;> contradiction)).trans e
  ·exact (Heap.get?_update_other _ _ (Ne.symm (nS c o e))).trans (k6 c o e)
  ·have:=h h' tk k
   rw [if_pos rfl] at this
   exact this
 | false =>
  simp only [Bool.false_eq_true,if_false]
  refine wpAny_bind (wpAny_letGo ?_)
  rw [nm]
  refine wpAny_pure ⟨plainId_quiet F.plain_min_loop _,fin _ a _ st6 g6 k6 fun h' tk k=>?_⟩
  have:=h h' tk k
  rw [if_neg Bool.false_ne_true] at this
  exact this
theorem two_max {a b:Value} {bt:Bool} {Q:Value→Shared→Prop} (hh:A.handled=none)
  (hcmp:∀ (s':Shared) (Q':Value→Shared→Prop) (E':Value→Shared→Prop),(∀ c o,s.heap.get? c=some o→s'.heap.get? c=some o)→Q' (.bool bt) s'→wpAny (model prog w) A.in1 (richCompare .Gt b a) Q' E' s')
  (h:∀ h' tk,(∀ c o,s.heap.get? c=some o→h'.get? c=some o)→Q (if bt=true then b else a) { s with heap:=h',toks:=tk }):wpAny (model prog w) A (call (.builtin "max") [a,b]) Q E s:=by
 have nm:(toString "max" ++ toString ".loop":String)="max.loop":=by decide
 refine call_function_tree F.kind_max F.plain_max F.entry_max (F.args_max2 a b) ?_
 refine wpAny_bind (m:=Builtin.Builtins.bindParams "max" ["key","default"] 0 ⟨[],[]⟩) (wpAny_of_eq (a:=[none,none]) rfl ?_)
 refine wpAny_bind (m:=newTuple [a,b]) (wpAny_newObj_type ?_)
 generalize ho:({ cls:=.type "tuple",dict:=none,data:=.seq [a,b].toArray }:Obj)=ot
 have k1:∀ c o,s.heap.get? c=some o→(s.heap.push ot).get? c=some o:=fun c o e=>Heap.get?_push_of_some _ e
 have t1:(s.heap.push ot).IsTuple s.heap.objs.size #[a,b]:=⟨ot,Heap.get?_push_size _ (by rw [← ho]; rfl),by rw [← ho],0,by rw [← ho]⟩
 have z1:s.heap.objs.size < (s.heap.push ot).objs.size:=by rw [Heap.size_push]; exact Nat.lt_succ_self _
 refine wpAny_bind (wpAny_pyIter_tuple t1 ?_)
 have zs:∀ c o,s.heap.get? c=some o→c < s.heap.objs.size:=fun c o e=>Heap.lt_size e
 generalize s.heap.push ot=h1 at k1 t1 z1 ⊢
 generalize hoi:({ cls:=.type "tuple_iterator",data:=.fields #[.ref s.heap.objs.size,.int 0 0] }:Obj)=oi
 dsimp only
 have i2:(h1.push oi).IsTupleIter h1.objs.size s.heap.objs.size 0:=⟨oi,Heap.get?_push_size _ (by rw [← hoi]; rfl),by rw [← hoi],by rw [← hoi]; rfl⟩
 have t2:(h1.push oi).IsTuple s.heap.objs.size #[a,b]:=t1.push _
 have z2:h1.objs.size < (h1.push oi).objs.size:=by rw [Heap.size_push]; exact Nat.lt_succ_self _
 have k2:∀ c o,s.heap.get? c=some o→(h1.push oi).get? c=some o:=fun c o e=>Heap.get?_push_of_some _ (k1 c o e)
 generalize hI:h1.objs.size=I at i2 z1 z2 ⊢
 generalize hT:s.heap.objs.size=T at i2 t2 z1 zs ⊢
 generalize h1.push oi=h2 at i2 t2 z2 k2 ⊢
 refine wpAny_bind (m:=newList []) (wpAny_newObj_type ?_)
 generalize hol:({ cls:=.type "list",dict:=none,data:=.seq ([]:List Value).toArray }:Obj)=ol
 have gS:(h2.push ol).get? h2.objs.size=some { cls:=.type "list",dict:=none,data:=.seq #[] 0,slots:=#[] }:=by rw [← hol]; exact Heap.get?_push_size _ rfl
 have i3:(h2.push ol).IsTupleIter I T 0:=by
  obtain ⟨o,e,c,d⟩:=i2
  exact ⟨o,Heap.get?_push_of_some _ e,c,d⟩
 have t3:=t2.push ol
 have k3:∀ c o,s.heap.get? c=some o→(h2.push ol).get? c=some o:=fun c o e=>Heap.get?_push_of_some _ (k2 c o e)
 have nSI:h2.objs.size≠I:=Nat.ne_of_gt z2
 have nST:h2.objs.size≠T:=Nat.ne_of_gt (Nat.lt_trans z1 z2)
 have nS:∀ c o,s.heap.get? c=some o→c≠h2.objs.size:=fun c o e=>Nat.ne_of_lt (Nat.lt_trans (zs c o e) (Nat.lt_trans z1 z2))
 have nI:∀ c o,s.heap.get? c=some o→c≠I:=fun c o e=>Nat.ne_of_lt (Nat.lt_trans (zs c o e) z1)
 generalize h2.objs.size=S at gS nSI nST nS ⊢
 generalize h2.push ol=h3 at gS i3 t3 k3 ⊢
 have W:Walks prog w A.in1 I [I,T] [I] 2 (fun i v=>(#[a,b]:Array Value)[i]?=some v) (fun i h=>h.IsTupleIter I T i∧h.IsTuple T #[a,b]):=Walks.tuple (A:=A.in1) hh I T (Nat.ne_of_lt z1) #[a,b]
 rw [nm]
 refine wpAny_pure ⟨plainId_quiet F.plain_max_loop _,?_⟩
 refine codeAny_builtin F.entry_max_loop ?_
 rw [Around.under_plainId F.plain_max_loop _]
 refine wpAny_bind (m:=seqItems? (.ref S)) (wpAny_seqItems gS rfl ?_)
 show wpAny _ A.in1 (tryCatch (pyNext (.ref I)) _ >>= _) _ _ _
 refine wpAny_bind (wpAny_tryCatch (W.item 0 _ _ _ (by decide) ⟨i3,t3⟩ fun v h4 tk hv st4 q4=>?_))
 have ev:a=v:=Option.some.inj hv
 subst ev
 have g4:=q4 S _ (by simpa using nSI) gS
 have k4:∀ c o,s.heap.get? c=some o→h4.get? c=some o:=fun c o e=>q4 c o (by simpa using nI c o e) (k3 c o e)
 refine wpAny_bind (m:=updateSeq S _) ?_
 refine wpAny_updateSeq g4 rfl ?_
 rw [nm]
 have st5:=W.frame 1 _ (h4.update S (Obj.mapSeq fun _=>#[a,a])) st4 fun c hc o e=>by
  rw [Heap.get?_update_other _ _ (fun z=>by subst z; simp at hc; rcases hc with z | z <;> contradiction)]; exact e
 have g5:=Heap.get?_update_self (Obj.mapSeq fun _=>#[a,a]) g4 rfl
 have k5:∀ c o,s.heap.get? c=some o→(h4.update S (Obj.mapSeq fun _=>#[a,a])).get? c=some o:=fun c o e=>(Heap.get?_update_other _ _ (Ne.symm (nS c o e))).trans (k4 c o e)
 dsimp only
 generalize h4.update S (Obj.mapSeq fun _=>#[a,a])=h5 at st5 g5 k5 ⊢
 refine wpAny_pure ⟨plainId_quiet F.plain_max_loop _,?_⟩
 refine codeAny_builtin F.entry_max_loop ?_
 rw [Around.under_plainId F.plain_max_loop _]
 refine wpAny_bind (m:=seqItems? (.ref S)) (wpAny_seqItems g5 rfl ?_)
 show wpAny _ A.in1 (tryCatch (pyNext (.ref I)) _ >>= _) _ _ _
 refine wpAny_bind (wpAny_tryCatch (W.item 1 _ _ _ (by decide) st5 fun v h6 tk6 hv st6 q6=>?_))
 have ev:b=v:=Option.some.inj hv
 subst ev
 have g6:=q6 S _ (by simpa using nSI) g5
 have k6:∀ c o,s.heap.get? c=some o→h6.get? c=some o:=fun c o e=>q6 c o (by simpa using nI c o e) (k5 c o e)
 show wpAny _ A.in1 (tryCatch (holding [b,b] (richCompare .Gt b a >>= _)) _ >>= _) _ _ _
 refine wpAny_bind (wpAny_tryCatch (wpAny_holding (wpAny_bind (hcmp _ _ _ k6 ?_))))
 refine wpAny_bind (wpAny_holding (wpAny_truthy_bool ?_))
 refine wpAny_bind (wpAny_letGo (wpAny_pure ?_))
 have fin:∀ (s7:Shared) (v:Value) (c:Nat),s7.heap.IsTupleIter I T 2∧s7.heap.IsTuple T #[a,b]→s7.heap.get? S=some { cls:=.type "list",dict:=none,data:=.seq #[v,v] c,slots:=#[] } →
   (∀ c o,s.heap.get? c=some o→s7.heap.get? c=some o)→(∀ h' tk,(∀ c o,s.heap.get? c=some o→h'.get? c=some o)→Q v { s7 with heap:=h',toks:=tk }) →
   codeAny (model prog w) A (.builtin "max.loop" ⟨[.ref I,.none,.ref S],[]⟩) (fun r s'=>match r with | .ok (.ret v)=>Q v s' | .ok _=>False | .error e=>E e s') s7:=fun s7 v c st7 g7 k7 hq=>by
  refine codeAny_builtin F.entry_max_loop ?_
  rw [Around.under_plainId F.plain_max_loop _]
  refine wpAny_bind (m:=seqItems? (.ref S)) (wpAny_seqItems g7 rfl ?_)
  show wpAny _ A.in1 (tryCatch (pyNext (.ref I)) _ >>= _) _ _ _
  refine wpAny_bind (wpAny_tryCatch (W.done _ _ _ st7 fun h8 tk8 q8=>?_))
  have g8:=q8 S _ (by simpa using nSI) g7
  refine wpAny_bind (m:=updateSeq S _) ?_
  refine wpAny_updateSeq g8 rfl (wpAny_bind (wpAny_letGo (wpAny_pure ?_)))
  exact hq _ tk8 fun c o e=>(Heap.get?_update_other _ _ (Ne.symm (nS c o e))).trans (q8 c o (by simpa using nI c o e) (k7 c o e))
 cases bt with
 | true =>
  simp only [if_true]
  refine wpAny_bind (m:=updateSeq S _) ?_
  refine wpAny_updateSeq g6 rfl (wpAny_bind (wpAny_letGo ?_))
  rw [nm]
  refine wpAny_pure ⟨plainId_quiet F.plain_max_loop _,fin _ b _ (W.frame 2 _ _ st6 fun c hc o e=>?_) (Heap.get?_update_self _ g6 rfl) (fun c o e=>?_) fun h' tk k=>?_⟩
  ·exact (Heap.get?_update_other _ _ (fun z=>by subst z; simp at hc; rcases hc with z | z <;> contradiction)).trans e
  ·exact (Heap.get?_update_other _ _ (Ne.symm (nS c o e))).trans (k6 c o e)
  ·have:=h h' tk k
   rw [if_pos rfl] at this
   exact this
 | false =>
  simp only [Bool.false_eq_true,if_false]
  refine wpAny_bind (wpAny_letGo ?_)
  rw [nm]
  refine wpAny_pure ⟨plainId_quiet F.plain_max_loop _,fin _ a _ st6 g6 k6 fun h' tk k=>?_⟩
  have:=h h' tk k
  rw [if_neg Bool.false_ne_true] at this
  exact this
end
end BF
namespace BF
open PySem PySem.Spec PyProof.Rows
section
def lexGt:List Int→List Int→Bool
 | x :: xs,y :: ys=>if x=y then lexGt xs ys else decide (y < x)
 | _ :: _,[]=>true
 | [],_=>false
theorem lexGt_lt:∀ (xs ys:List Int),lexGt xs ys=HT.lexLt ys xs
 | [],[]=>rfl
 | [],_ :: _=>rfl
 | _ :: _,[]=>rfl
 | x :: xs,y :: ys=>by
  show (if x=y then lexGt xs ys else decide (y < x))=(if y=x then HT.lexLt ys xs else decide (y < x))
  by_cases h:x=y
  ·rw [if_pos h,if_pos h.symm,lexGt_lt xs ys]
  ·rw [if_neg h,if_neg (Ne.symm h)]
open PySem.SeqAt
open PySem.AutoSeq1 (wpAny_loadPart')
open PySem.MeetsSeq PySem.MeetsSeq2 PySem.MeetsSeq3
theorem tuple_gt_ints (l b:Addr) (pa pb:Array Value) (n n2:Nat) (dd dd2:Option Addr) (sl sl2:Array (Option Value)) (ns ms:List Int) (hi:IntsAre pa.toList ns) (hj:IntsAre pb.toList ms) :
  Meets (Builtin.«tuple.__gt__» ⟨[.ref l,.ref b],[]⟩)
   (fun _ R s=>s.heap.get? l=some { cls:=.type "tuple",dict:=dd,data:=.seq pa n,slots:=sl }∧s.heap.get? b=some { cls:=.type "tuple",dict:=dd2,data:=.seq pb n2,slots:=sl2 } ∧
    R (.ok (.ret (.bool (lexGt ns ms)))) s) :=
 .of_wp fun prog w A R s h=>by
  obtain ⟨hp,g,d,tk,os⟩:=s
  obtain ⟨hl,hb,h⟩:=h
  have f2:=AutoSeq1.sub_tuple_tuple
  have z1:pa.size=ns.length:=by rw [← hi.length]; simp
  have z2:pb.size=ms.length:=by rw [← hj.length]; simp
  wp_walk using wpAny_loadPart' hl,wpAny_loadPart' hb,wpAny_forIn_list _ (fun rest q s'=>q.1=none∧s'=⟨hp,g,d,tk,os⟩∧∃ (vs ws:List Value) (xs ys:List Int),rest=vs.zip ws ∧
   IntsAre vs xs∧IntsAre ws ys∧xs.length + pb.size=ys.length + pa.size∧R (.ok (.ret (.bool (lexGt xs ys)))) ⟨hp,g,d,tk,os⟩) _
  case turn =>
   rintro ⟨y,x⟩ rest q s' ⟨hq,rfl,vs,ws,xs,ys,hz,ix,iy,hlen,hR⟩
   cases ix with
   | nil=>rw [List.zip_nil_left] at hz; cases hz
   | cons a t ix' =>
    cases iy with
    | nil=>rw [List.zip_nil_right] at hz; cases hz
    | cons c u iy' =>
     rw [List.zip_cons_cons] at hz
     injection hz with hd hrest
     injection hd with e1 e2
     subst e1 e2
     simp only [List.length_cons] at hlen
     obtain ⟨e,he,hiff⟩:=HT.eqAt_int A.in1 ⟨hp,g,d,tk,os⟩ a t c u
     refine wpAny_bind (he prog w _ _ ?_)
     cases e with
     | true =>
      have hR':=hR
      rw [show lexGt (a :: _) (c :: _)=_ from if_pos (hiff.mp rfl)] at hR'
      wp_walk
      exact ⟨rfl,rfl,_,_,_,_,hrest,ix',iy',by omega,hR'⟩
     | false =>
      have hR':=hR
      rw [show lexGt (a :: _) (c :: _)=_ from if_neg (fun q=>absurd (hiff.mpr q) Bool.false_ne_true)] at hR'
      have hri:∀ (E:Value→Shared→Prop) (Q:Value→Shared→Prop),Q (.bool (decide (a > c))) ⟨hp,g,d,tk,os⟩→wpAny (model prog w) A.in1 (richCompare .Gt (.int a t) (.int c u)) Q E ⟨hp,g,d,tk,os⟩ :=
       fun E Q h=>(PyProof.Rows.gt_int h:wpAny (model prog w) A.in1 (compareOp .Gt (.int a t) (.int c u)) Q E ⟨hp,g,d,tk,os⟩)
      wp_walk using hri
      exact ⟨_,rfl,by simpa using hR'⟩
  case fin =>
   rintro ⟨b1,b2⟩ s' ⟨hq,rfl,vs,ws,xs,ys,hz,ix,iy,hlen,hR⟩
   simp only at hq
   subst hq
   have hv:lexGt xs ys=decide (pb.size < pa.size):=by
    cases ix with
    | nil =>
     simp only [List.length_nil] at hlen
     exact (decide_eq_false (by omega)).symm
    | cons a t hv =>
     cases iy with
     | nil =>
      simp only [List.length_nil,List.length_cons] at hlen
      exact (decide_eq_true (by omega)).symm
     | cons c u hw =>
      rw [List.zip_cons_cons] at hz
      cases hz
   rw [hv] at hR
   wp_walk
   exact ⟨_,rfl,by simpa [Builtin.Tuple.tupleCompareSizes] using hR⟩
  case h =>
   exact ⟨rfl,rfl,pa.toList,pb.toList,ns,ms,rfl,hi,hj,by omega,h⟩
end
section
variable {prog:Program} {w:World} {A:Around} {E:Value→Shared→Prop} {s:Shared}
theorem gt_tupInts {l b:Addr} {pa pb:Array Value} {ns ms:List Int} {Q:Value→Shared→Prop} (hl:IsTup s.heap l pa) (hb:IsTup s.heap b pb) (hi:IntsAre pa.toList ns) (hj:IntsAre pb.toList ms)
  (hu:A.units < cLine) (h:Q (.bool (HT.lexLt ms ns)) s):wpAny (model prog w) A (compareOp .Gt (.ref l) (.ref b)) Q E s:=by
 obtain ⟨⟨cls,dd,data,sl⟩,ho,hc,n,hd⟩:=id hl
 obtain ⟨⟨cls2,dd2,data2,sl2⟩,ho2,hc2,n2,hd2⟩:=id hb
 simp only at hc hd hc2 hd2
 subst hc hd hc2 hd2
 rw [← lexGt_lt] at h
 exact richCompare_meets_room (op:=.Gt) ⟨_,ho,rfl⟩ ⟨_,ho2,rfl⟩ PySem.F.slot_tuple_gt PySem.F.entry_tuple_gt (PySem.F.args_tuple_gt_2 _ _) (tuple_gt_ints l b pa pb n n2 dd dd2 sl sl2 ns ms hi hj)
  ⟨ho,ho2,show Value.bool (lexGt ns ms)≠Value.notImplemented∧Q (.bool (lexGt ns ms)) s from ⟨(fun x=>nomatch x),h⟩⟩ hu
end
section
open L2
variable {X:Cx}
theorem isTup_keep {h h':Heap} {l:Addr} {xs:Array Value} (p:IsTup h l xs) (k:∀ c o,h.get? c=some o→h'.get? c=some o):IsTup h' l xs:=by
 obtain ⟨o,e,r⟩:=p
 exact ⟨o,k _ _ e,r⟩
theorem call_minT (hc:X.calm=true) (hu:X.A.units + 1 < cLine):CallR X (.builtin "min") (fun xs H Q=>∃ a b ns ms,xs=[.ref a,.ref b]∧SqT X.K H a (ns.map V.int)∧SqT X.K H b (ms.map V.int)∧Q (if HT.lexLt ms ns=true then .ref b else .ref a) H):=by
 intro pins s σ H xs us Q I r h
 obtain ⟨a,b,ns,ms,rfl,ha,hb,q⟩:=h
 obtain ⟨u,w',rfl,r1,r2⟩:=vals2 r
 cases r1
 cases r2
 obtain ⟨its,r1,p1,_⟩:=I.tuple ha
 obtain ⟨its2,r2,p2,_⟩:=I.tuple hb
 refine two_min (bt:=HT.lexLt ms ns) (I.ok.hd hc) (fun s' Q' E' k hq=>?_) fun h' tk k=>⟨_,H,I.kept k,?_,q⟩
 ·exact HT.lt_tupInts (A:=X.A.in1) (isTup_keep p2 k) (isTup_keep p1 k) (intsAre_of r2) (intsAre_of r1) hu hq
 ·cases HT.lexLt ms ns <;> rfl
theorem call_maxT (hc:X.calm=true) (hu:X.A.units + 1 < cLine):CallR X (.builtin "max") (fun xs H Q=>∃ a b ns ms,xs=[.ref a,.ref b]∧SqT X.K H a (ns.map V.int)∧SqT X.K H b (ms.map V.int)∧Q (if HT.lexLt ns ms=true then .ref b else .ref a) H):=by
 intro pins s σ H xs us Q I r h
 obtain ⟨a,b,ns,ms,rfl,ha,hb,q⟩:=h
 obtain ⟨u,w',rfl,r1,r2⟩:=vals2 r
 cases r1
 cases r2
 obtain ⟨its,r1,p1,_⟩:=I.tuple ha
 obtain ⟨its2,r2,p2,_⟩:=I.tuple hb
 refine two_max (bt:=HT.lexLt ns ms) (I.ok.hd hc) (fun s' Q' E' k hq=>?_) fun h' tk k=>⟨_,H,I.kept k,?_,q⟩
 ·exact gt_tupInts (A:=X.A.in1) (isTup_keep p2 k) (isTup_keep p1 k) (intsAre_of r2) (intsAre_of r1) hu hq
 ·cases HT.lexLt ns ms <;> rfl
end
end BF
namespace BF
open PySem PySem.Spec PyProof.Rows L2
theorem lex2 (x y z w:Int):HT.lexLt [x,y] [z,w]=(decide (x < z) || (decide (x=z) && decide (y < w))):=by
 show (if x=z then (if y=w then false else decide (y < w)) else decide (x < z))=_
 by_cases h:x=z
 ·rw [if_pos h,decide_eq_true h,decide_eq_false (by omega:¬ x < z)]
  by_cases k:y=w
  ·rw [if_pos k,decide_eq_false (by omega:¬ y < w)]; rfl
  ·rw [if_neg k]; simp
 ·rw [if_neg h,decide_eq_false h]; simp
theorem lex_asy {x y z w:Int} (h:HT.lexLt [x,y] [z,w]=true):HT.lexLt [z,w] [x,y]=false:=by
 rw [lex2] at h ⊢
 simp at h ⊢
 omega
theorem fun_okX {P:Program} {w:World} {K:PySem.W.Frag} {mg:Str→Option Value} {base:Heap} {x qual:Str} {st:Stmt} {f:Addr} {fd:FuncData} {N ps:List Str} {k:Nat} {sp:Sp} (F:Fun K x qual st f fd) (S:FnScope N ps (defScope st)) (len:∀ vs H Q E,sp vs H Q E→vs.length=ps.length)
  (hbody:∀ (cdv:Value) (A:Around) (outer:List Env) (s:Shared) (H:Hp) (vs:List V) (Q:VK) (E:XK),Room k (A.deeper (envOfC qual (defScope st) s.heap.objs.size f cdv))→sp vs H Q E →
   ∃ t,PSs (cxOf (CXE P w) P w K mg base N qual (defScope st) f cdv A outer s H E) (defBody st) t∧t { nx:=fun _ H'=>Q .non H',rt:=Q } (start N vs) H):FnOk P w K mg base (CXE P w) (k + 1) f fd ps sp:=by
 obtain ⟨oc,od,kV,doc,pm,an,cdv,ct,osl,rfl,lk,hcd⟩:=F.ex
 exact fn_of lk hcd S len fun A outer s H vs Q E hr hsp=>hbody cdv A outer s H vs Q E hr hsp
def qtr (p:Int×Int):Int×Int:=(-p.2,p.1)
def qtrs:Nat→Int×Int→Int×Int
 | 0,p=>p
 | n + 1,p=>qtr (qtrs n p)
def mir (k:Nat) (p:Int×Int):Int×Int:=if 4≤k then (-p.1,p.2) else p
def turnN (k:Nat) (p:Int×Int):Int×Int:=qtrs (k % 4) (mir k p)
def tabN (k:Nat) (p:Int×Int):Int×Int:=match k with
 | 0=>(p.1,p.2)
 | 1=>(0 - p.2,p.1)
 | 2=>(0 - p.1,0 - p.2)
 | 3=>(p.2,0 - p.1)
 | 4=>(0 - p.1,p.2)
 | 5=>(0 - p.2,0 - p.1)
 | 6=>(p.1,0 - p.2)
 | _=>(p.2,p.1)
theorem turn_tab {k:Nat} (h:k < 8) (p:Int×Int):turnN k p=tabN k p:=by
 obtain ⟨x,y⟩:=p
 match k,h with
 | 0,_=>rfl
 | 1,_=>show (-y,x)=(0 - y,x); rw [Int.zero_sub]
 | 2,_=>show (-x,-y)=(0 - x,0 - y); rw [Int.zero_sub,Int.zero_sub]
 | 3,_=>show (- -y,-x)=(y,0 - x); rw [Int.zero_sub,Int.neg_neg]
 | 4,_=>show (-x,y)=(0 - x,y); rw [Int.zero_sub]
 | 5,_=>show (-y,-x)=(0 - y,0 - x); rw [Int.zero_sub,Int.zero_sub]
 | 6,_=>show (- -x,-y)=(x,0 - y); rw [Int.zero_sub,Int.neg_neg]
 | 7,_=>show (- -y,- -x)=(y,x); rw [Int.neg_neg,Int.neg_neg]
def two (H:Hp) (q:Addr) (p:Int×Int):Prop:=H q=some (.tup [.int p.1,.int p.2])
theorem two_dt {H:Hp} {q:Addr} {p:Int×Int} (h:two H q p):DtIs H (.ref q) (.tup [.int p.1,.int p.2]):=.tup h (.cons (.int _) (.cons (.int _) .nil))
theorem later2 {G:Prop} {A:Addr→Hp→Prop} (C:Addr→Hp→Prop) (main:(∀ q H',C q H'→A q H')→G) (last:∀ q H',C q H'→A q H'):G:=main last
end BF
namespace BF
open PySem PyProof.Rows
structure Ord (M:Model) (A:Around) (E:Value→Shared→Prop) (s:Shared) (kd:SortKind) where
 O:KeyOrd
 key:Keyed→O.α
 G:Keyed→Prop
 lt:∀ {st:SortSt} {x y:Keyed} {Q:Option Bool→SortSt→Prop},kindOf st=kd→G x→G y→Q (some (O.blt (key x) (key y))) st→wpS M A E s (lt' x y) Q st
section
variable {M:Model} {A:Around} {E:Value→Shared→Prop} {s:Shared} {kd:SortKind}
def Ord.le (o:Ord M A E s kd) (x y:Keyed):Prop:=o.O.kle (o.key x) (o.key y)
def Ord.b (o:Ord M A E s kd) (x y:Keyed):Bool:=o.O.blt (o.key x) (o.key y)
theorem Ord.le_refl (o:Ord M A E s kd) (x:Keyed):o.le x x:=KeyOrd.kle_refl _
theorem Ord.le_trans (o:Ord M A E s kd) {x y z:Keyed} (h:o.le x y) (k:o.le y z):o.le x z:=KeyOrd.kle_trans h k
theorem Ord.le_of_b (o:Ord M A E s kd) {x y:Keyed} (h:o.b x y=true):o.le x y:=KeyOrd.kle_of_klt h
theorem Ord.le_of_nb (o:Ord M A E s kd) {x y:Keyed} (h:o.b x y=false):o.le y x:=h
theorem Ord.b_le (o:Ord M A E s kd) {x y z:Keyed} (h:o.b x y=true) (k:o.le y z):o.b x z=true:=KeyOrd.klt_of_klt_of_kle h k
theorem Ord.le_b (o:Ord M A E s kd) {x y z:Keyed} (h:o.le x y) (k:o.b y z=true):o.b x z=true:=KeyOrd.klt_of_kle_of_klt h k
theorem Ord.nb_of_le (o:Ord M A E s kd) {x y:Keyed} (h:o.le x y):o.b y x=false:=h
def Ord.up (o:Ord M A E s kd) (xs:Array Keyed) (lo hi:Nat):Prop:=∀ i j x y,lo≤i→i≤j→j < hi→xs[i]?=some x→xs[j]?=some y→o.le x y
def Ord.all (o:Ord M A E s kd) (xs:Array Keyed):Prop:=∀ (i:Nat) x,xs[i]?=some x→o.G x
theorem wpS_elem {xs:Array Keyed} {i:Nat} {x:Keyed} {Q:Keyed→SortSt→Prop} {st:SortSt} (e:xs[i]?=some x) (h:Q x st):wpS M A E s (elem' xs i) Q st:=by
 rw [elem'_eq,e]; exact wpS_pure h
def gal:Bool→Keyed→Array Keyed→Nat→Nat→Nat→StateT SortSt Sem (Option Nat):=sortPriv% PySem.Builtin.gallop
def byd (left:Bool) (key:Keyed) (xs:Array Keyed) (base i:Nat):StateT SortSt Sem (Option Bool):=do
 let x ← elem' xs (base + i)
 if left then lt' x key else return (← lt' key x).map (!·)
def galEnd (left:Bool) (key:Keyed) (xs:Array Keyed) (base n l r:Nat):StateT SortSt Sem (Option Nat):=do
 let mut l:=l
 let mut r:=r
 for _ in [0:n] do
  if l ≥ r then break
  let some more ← byd left key xs base (l + (r - l) / 2) | return none
  if more then l:=l + (r - l) / 2 + 1 else r:=l + (r - l) / 2
 return some r
def galUp (left:Bool) (key:Keyed) (xs:Array Keyed) (base n hint:Nat):StateT SortSt Sem (Option Nat):=do
 let mut p:=0
 let mut q:=1
 for _ in [0:n] do
  if q ≥ n - hint then break
  let some more ← byd left key xs base (hint + q) | return none
  if !more then break
  p:=q
  q:=2 * q + 1
 galEnd left key xs base n (hint + p + 1) (hint + min q (n - hint))
def galDn (left:Bool) (key:Keyed) (xs:Array Keyed) (base n hint:Nat):StateT SortSt Sem (Option Nat):=do
 let mut p:=0
 let mut q:=1
 for _ in [0:n] do
  if q ≥ hint + 1 then break
  let some more ← byd left key xs base (hint - q) | return none
  if more then break
  p:=q
  q:=2 * q + 1
 galEnd left key xs base n (hint + 1 - min q (hint + 1)) (hint - p)
theorem gal_eq (left:Bool) (key:Keyed) (xs:Array Keyed) (base n hint:Nat):gal left key xs base n hint=(do
  let some right ← byd left key xs base hint | return none
  if right then galUp left key xs base n hint else galDn left key xs base n hint):=rfl
def Ord.byB (o:Ord M A E s kd) (left:Bool) (key x:Keyed):Bool:=if left then o.b x key else !o.b key x
theorem wpS_byd (o:Ord M A E s kd) {left:Bool} {key x:Keyed} {xs:Array Keyed} {base i:Nat} {Q:Option Bool→SortSt→Prop} {st:SortSt} (hk:kindOf st=kd) (gk:o.G key) (gx:o.G x) (e:xs[base + i]?=some x)
  (h:Q (some (o.byB left key x)) st):wpS M A E s (byd left key xs base i) Q st:=by
 unfold byd
 refine wpS_bind (wpS_elem e ?_)
 cases left with
 | true=>exact o.lt hk gx gk h
 | false=>exact wpS_bind (o.lt hk gk gx (wpS_pure h))
end
section
variable {M:Model} {A:Around} {E:Value→Shared→Prop} {s:Shared} {kd:SortKind}
theorem wpS_gal (o:Ord M A E s kd) {left:Bool} {key:Keyed} {xs:Array Keyed} {base n hint:Nat} {Q:Option Nat→SortSt→Prop} {st:SortSt} (hk:kindOf st=kd) (gk:o.G key) (ga:o.all xs) (hsz:base + n≤xs.size) (hh:hint < n)
  (up:o.up xs base (base + n)) (h:∀ k,k≤n→(∀ i x,i < k→xs[base + i]?=some x→o.byB left key x=true)→(∀ i x,k≤i→i < n→xs[base + i]?=some x→o.byB left key x=false)→Q (some k) st) :
  wpS M A E s (gal left key xs base n hint) Q st:=by
 rw [gal_eq]
 have at':∀ i,i < n→∃ x,xs[base + i]?=some x:=fun i hi=>⟨_,getElem?_pos _ _ (by omega)⟩
 have mono:∀ i j x y,i≤j→j < n→xs[base + i]?=some x→xs[base + j]?=some y→o.byB left key y=true→o.byB left key x=true:=fun i j x y hij hj ex ey hb=>by
  have le:=up (base + i) (base + j) x y (by omega) (by omega) (by omega) ex ey
  unfold Ord.byB at hb ⊢
  cases left with
  | true=>exact o.le_b le hb
  | false =>
   have hb':o.b key y=false:=by simpa using hb
   have:o.b key x=false:=o.nb_of_le (o.le_trans le hb')
   simp [this]
 have down:∀ m,m < n→(∃ x,xs[base + m]?=some x∧o.byB left key x=true)→∀ i x,i < m + 1→xs[base + i]?=some x→o.byB left key x=true:=fun m hm ⟨y,ey,hy⟩ i x hi ex=>mono i m x y (by omega) hm ex ey hy
 have upp:∀ m,(∃ x,xs[base + m]?=some x∧o.byB left key x=false)→∀ i x,m≤i→i < n→xs[base + i]?=some x→o.byB left key x=false:=fun m ⟨y,ey,hy⟩ i x hi hn ex=>by
  cases hb:o.byB left key x with
  | false=>rfl
  | true=>rw [mono m i y x hi hn ey ex hb] at hy; cases hy
 have fin:∀ l r,l≤r→r≤n→(∀ i x,i < l→xs[base + i]?=some x→o.byB left key x=true)→(∀ i x,r≤i→i < n→xs[base + i]?=some x→o.byB left key x=false)→wpS M A E s (galEnd left key xs base n l r) Q st:=fun l r hlr hrn h1 h2=>by
  unfold galEnd
  refine wpS_bind (wpS_mono (wpS_forRange (I:=fun t c st'=>st'=st∧∃ l r,c=(none,l,r)∧l≤r∧r≤n∧r - l≤n - t∧(∀ i x,i < l→xs[base + i]?=some x→o.byB left key x=true)∧(∀ i x,r≤i→i < n→xs[base + i]?=some x→o.byB left key x=false))
   (Q:=fun c st'=>st'=st∧∃ l,c=(none,l,l)∧l≤n∧(∀ i x,i < l→xs[base + i]?=some x→o.byB left key x=true)∧(∀ i x,l≤i→i < n→xs[base + i]?=some x→o.byB left key x=false)) ?step ?fin ⟨rfl,l,r,rfl,hlr,hrn,by omega,h1,h2⟩) ?post)
  case post =>
   rintro c st' ⟨rfl,l,rfl,hl,a1,a2⟩
   exact wpS_pure (h l hl a1 a2)
  case fin =>
   rintro c st' ⟨rfl,l,r,rfl,h3,h4,h5,a1,a2⟩
   have:l=r:=by omega
   subst this
   exact ⟨rfl,l,rfl,h4,a1,a2⟩
  case step =>
   rintro t c st' _ ht ⟨rfl,l,r,rfl,h3,h4,h5,a1,a2⟩
   dsimp only
   by_cases hge:l ≥ r
   ·rw [if_pos hge]
    have:l=r:=by omega
    subst this
    exact wpS_pure ⟨rfl,l,rfl,h4,a1,a2⟩
   ·rw [if_neg hge]
    obtain ⟨y,ey⟩:=at' (l + (r - l) / 2) (by omega)
    refine wpS_bind (wpS_byd o hk gk (ga _ _ ey) ey ?_)
    cases hb:o.byB left key y with
    | true =>
     refine wpS_pure ⟨rfl,l + (r - l) / 2 + 1,r,rfl,by omega,h4,by omega,fun i x hi ex=>down _ (by omega) ⟨y,ey,hb⟩ i x hi ex,a2⟩
    | false =>
     refine wpS_pure ⟨rfl,l,l + (r - l) / 2,rfl,by omega,by omega,by omega,a1,fun i x hi hn ex=>upp _ ⟨y,ey,hb⟩ i x hi hn ex⟩
 obtain ⟨xh,eh⟩:=at' hint hh
 refine wpS_bind (wpS_byd o hk gk (ga _ _ eh) eh ?_)
 cases hb:o.byB left key xh with
 | true =>
  show wpS M A E s (galUp left key xs base n hint) Q st
  unfold galUp
  refine wpS_bind (wpS_mono (wpS_forRange (I:=fun t c st'=>st'=st∧∃ p q,c=(none,p,q)∧p < q∧t < q∧hint + p < n∧∃ x,xs[base + (hint + p)]?=some x∧o.byB left key x=true)
   (Q:=fun c st'=>st'=st∧∃ p q,c=(none,p,q)∧p < q∧hint + p < n∧(∃ x,xs[base + (hint + p)]?=some x∧o.byB left key x=true)∧(n - hint≤q∨(hint + q < n∧∃ x,xs[base + (hint + q)]?=some x∧o.byB left key x=false))) ?step ?fin ⟨rfl,0,1,rfl,by omega,by omega,by omega,xh,eh,hb⟩) ?post)
  case post =>
   rintro c st' ⟨rfl,p,q,rfl,h1,h2,a1,a2⟩
   show wpS M A E s (galEnd left key xs base n (hint + p + 1) (hint + min q (n - hint))) Q _
   refine fin _ _ ?_ ?_ (fun i x hi ex=>down _ h2 a1 i x hi ex) fun i x hi hn ex=>?_
   ·rcases a2 with z | ⟨z,_⟩ <;> omega
   ·omega
   ·rcases a2 with z | ⟨z,y⟩
    ·omega
    ·exact upp _ y i x (by omega) hn ex
  case fin =>
   rintro c st' ⟨rfl,p,q,rfl,h1,h2,h3,a1⟩
   exact ⟨rfl,p,q,rfl,h1,h3,a1,.inl (by omega)⟩
  case step =>
   rintro t c st' _ ht ⟨rfl,p,q,rfl,h1,h2,h3,a1⟩
   dsimp only
   by_cases hge:q ≥ n - hint
   ·rw [if_pos hge]
    exact wpS_pure ⟨rfl,p,q,rfl,h1,h3,a1,.inl hge⟩
   ·rw [if_neg hge]
    obtain ⟨y,ey⟩:=at' (hint + q) (by omega)
    refine wpS_bind (wpS_byd o hk gk (ga _ _ ey) ey ?_)
    cases hy:o.byB left key y with
    | true=>exact wpS_pure ⟨rfl,q,2 * q + 1,rfl,by omega,by omega,by omega,y,ey,hy⟩
    | false=>exact wpS_pure ⟨rfl,p,q,rfl,h1,h3,a1,.inr ⟨by omega,y,ey,hy⟩⟩
 | false =>
  show wpS M A E s (galDn left key xs base n hint) Q st
  unfold galDn
  refine wpS_bind (wpS_mono (wpS_forRange (I:=fun t c st'=>st'=st∧∃ p q,c=(none,p,q)∧p < q∧t < q∧p≤hint∧∃ x,xs[base + (hint - p)]?=some x∧o.byB left key x=false)
   (Q:=fun c st'=>st'=st∧∃ p q,c=(none,p,q)∧p < q∧p≤hint∧(∃ x,xs[base + (hint - p)]?=some x∧o.byB left key x=false)∧(hint + 1≤q∨(q≤hint∧∃ x,xs[base + (hint - q)]?=some x∧o.byB left key x=true))) ?step ?fin ⟨rfl,0,1,rfl,by omega,by omega,by omega,xh,eh,hb⟩) ?post)
  case post =>
   rintro c st' ⟨rfl,p,q,rfl,h1,h2,a1,a2⟩
   show wpS M A E s (galEnd left key xs base n (hint + 1 - min q (hint + 1)) (hint - p)) Q _
   refine fin _ _ ?_ ?_ (fun i x hi ex=>?_) fun i x hi hn ex=>upp _ a1 i x hi hn ex
   ·rcases a2 with z | ⟨z,_⟩ <;> omega
   ·omega
   ·rcases a2 with z | ⟨z,y⟩
    ·omega
    ·exact down _ (by omega) y i x (by omega) ex
  case fin =>
   rintro c st' ⟨rfl,p,q,rfl,h1,h2,h3,a1⟩
   exact ⟨rfl,p,q,rfl,h1,h3,a1,.inl (by omega)⟩
  case step =>
   rintro t c st' _ ht ⟨rfl,p,q,rfl,h1,h2,h3,a1⟩
   dsimp only
   by_cases hge:q ≥ hint + 1
   ·rw [if_pos hge]
    exact wpS_pure ⟨rfl,p,q,rfl,h1,h3,a1,.inl hge⟩
   ·rw [if_neg hge]
    obtain ⟨y,ey⟩:=at' (hint - q) (by omega)
    refine wpS_bind (wpS_byd o hk gk (ga _ _ ey) ey ?_)
    cases hy:o.byB left key y with
    | false=>exact wpS_pure ⟨rfl,q,2 * q + 1,rfl,by omega,by omega,by omega,y,ey,hy⟩
    | true=>exact wpS_pure ⟨rfl,p,q,rfl,h1,h3,a1,.inr ⟨by omega,y,ey,hy⟩⟩
end
section
variable {M:Model} {A:Around} {E:Value→Shared→Prop} {s:Shared} {kd:SortKind}
structure Ord.Mg (o:Ord M A E s kd) (la lb out:List Keyed) (i j:Nat):Prop where
 perm:out.Perm (la.take i ++ lb.take j)
 up:out.Pairwise o.le
 la:∀ x∈out,∀ y∈la.drop i,o.le x y
 lb:∀ x∈out,∀ y∈lb.drop j,o.le x y
def Ord.Merged (o:Ord M A E s kd) (la lb out:List Keyed):Prop:=out.Perm (la ++ lb)∧out.Pairwise o.le
variable {o:Ord M A E s kd} {la lb out:List Keyed} {i j k:Nat}
theorem Ord.Mg.zero:o.Mg la lb [] 0 0:=⟨by simp,.nil,by simp,by simp⟩
theorem mem_take_drop {x:Keyed} {l:List Keyed} {i k:Nat} (h:x∈(l.drop i).take k):x∈l.drop i:=List.mem_of_mem_take h
theorem Ord.Mg.manyA (m:o.Mg la lb out i j) (ua:la.Pairwise o.le) (h:∀ x∈(la.drop i).take k,∀ y∈lb.drop j,o.le x y):o.Mg la lb (out ++ (la.drop i).take k) (i + k) j:=by
 have e:la.take (i + k)=la.take i ++ (la.drop i).take k:=List.take_add
 have ud:(la.drop i).Pairwise o.le:=ua.sublist (List.drop_sublist _ _)
 have ed:(la.drop i).take k ++ la.drop (i + k)=la.drop i:=by rw [← List.drop_drop]; exact List.take_append_drop k _
 refine ⟨?_,?_,?_,?_⟩
 ·rw [e]
  refine (m.perm.append_right _).trans ?_
  rw [List.append_assoc,List.append_assoc]
  exact List.Perm.append_left _ List.perm_append_comm
 ·exact List.pairwise_append.mpr ⟨m.up,ud.sublist (List.take_sublist _ _),fun x hx y hy=>m.la x hx y (mem_take_drop hy)⟩
 ·intro x hx y hy
  rcases List.mem_append.mp hx with hx | hx
  ·exact m.la x hx y (by rw [← ed]; exact List.mem_append_right _ hy)
  ·rw [← ed] at ud
   exact (List.pairwise_append.mp ud).2.2 x hx y hy
 ·intro x hx y hy
  rcases List.mem_append.mp hx with hx | hx
  ·exact m.lb x hx y hy
  ·exact h x hx y hy
theorem Ord.Mg.swap (m:o.Mg la lb out i j):o.Mg lb la out j i:=⟨m.perm.trans List.perm_append_comm,m.up,m.lb,m.la⟩
theorem Ord.Mg.manyB (m:o.Mg la lb out i j) (ub:lb.Pairwise o.le) (h:∀ x∈(lb.drop j).take k,∀ y∈la.drop i,o.le x y):o.Mg la lb (out ++ (lb.drop j).take k) i (j + k):=(m.swap.manyA ub h).swap
theorem Ord.Mg.endB (m:o.Mg la lb out i j) (ua:la.Pairwise o.le) (ub:lb.Pairwise o.le) (h:∀ x∈lb.drop j,∀ y∈la.drop i,o.le x y):o.Merged la lb (out ++ lb.drop j ++ la.drop i):=by
 refine ⟨?_,?_⟩
 ·refine ((m.perm.append_right _).append_right _).trans ?_
  have e1:la=la.take i ++ la.drop i:=(List.take_append_drop _ _).symm
  have e2:lb=lb.take j ++ lb.drop j:=(List.take_append_drop _ _).symm
  refine List.Perm.trans ?_ (show (la.take i ++ la.drop i ++ (lb.take j ++ lb.drop j)).Perm (la ++ lb) by rw [← e1,← e2])
  simp only [List.append_assoc]
  refine List.Perm.append_left _ ?_
  rw [← List.append_assoc]
  exact List.perm_append_comm
 ·have ua':(la.drop i).Pairwise o.le:=ua.sublist (List.drop_sublist _ _)
  have ub':(lb.drop j).Pairwise o.le:=ub.sublist (List.drop_sublist _ _)
  refine List.pairwise_append.mpr ⟨List.pairwise_append.mpr ⟨m.up,ub',m.lb⟩,ua',fun x hx y hy=>?_⟩
  rcases List.mem_append.mp hx with hx | hx
  ·exact m.la x hx y hy
  ·exact h x hx y hy
theorem Ord.Merged.swap (m:o.Merged la lb out):o.Merged lb la out:=⟨m.1.trans List.perm_append_comm,m.2⟩
theorem Ord.Mg.endA (m:o.Mg la lb out i j) (ua:la.Pairwise o.le) (ub:lb.Pairwise o.le) (h:∀ x∈la.drop i,∀ y∈lb.drop j,o.le x y):o.Merged la lb (out ++ la.drop i ++ lb.drop j):=(m.swap.endB ub ua h).swap
end
theorem bind2 {α β:Type} {m m':StateT SortSt Sem α} {f f':α→StateT SortSt Sem β} (h:m=m') (k:f=f'):m >>= f=m' >>= f':=by rw [h,k]
def setG (g:Nat):StateT SortSt Sem Unit:=modify fun st=>SortSt.mk' (kindOf st) (arrOf st) (pendingOf st) g (failedOf st)
section
abbrev MT1:=Option (Array Keyed)×Array Keyed×Nat×Nat×Nat×Nat
abbrev MT2:=Option (Array Keyed)×Array Keyed×Nat×Nat×Nat×Nat×Nat
abbrev MT0:=Option (Array Keyed)×Array Keyed×Nat×Nat×Nat
variable (u v:Array Keyed)
def loU (r:Array Keyed) (p q:Nat):Array Keyed:=r ++ u.extract p u.size ++ v.extract q v.size
def loV (r:Array Keyed) (p q:Nat):Array Keyed:=r ++ v.extract q v.size ++ u.extract p u.size
def loLin (g:Nat) (t:MT1):StateT SortSt Sem (ForInStep MT1):=do
 let y ← elem' v t.2.2.2.1
 let x ← elem' u t.2.2.1
 match ← lt' y x with
 | some less =>
  if less then do
   let y ← elem' v t.2.2.2.1
   if t.2.2.2.1 + 1 == v.size then pure (.done (some (loU u v (t.2.1.push y) t.2.2.1 (t.2.2.2.1 + 1)),t.2.1.push y,t.2.2.1,t.2.2.2.1 + 1,0,t.2.2.2.2.2 + 1))
   else if t.2.2.2.2.2 + 1 ≥ g then pure (.done (none,t.2.1.push y,t.2.2.1,t.2.2.2.1 + 1,0,t.2.2.2.2.2 + 1))
   else pure (.yield (none,t.2.1.push y,t.2.2.1,t.2.2.2.1 + 1,0,t.2.2.2.2.2 + 1))
  else do
   let x ← elem' u t.2.2.1
   if t.2.2.1 + 1 + 1 == u.size then pure (.done (some (loV u v (t.2.1.push x) (t.2.2.1 + 1) t.2.2.2.1),t.2.1.push x,t.2.2.1 + 1,t.2.2.2.1,t.2.2.2.2.1 + 1,0))
   else if t.2.2.2.2.1 + 1 ≥ g then pure (.done (none,t.2.1.push x,t.2.2.1 + 1,t.2.2.2.1,t.2.2.2.2.1 + 1,0))
   else pure (.yield (none,t.2.1.push x,t.2.2.1 + 1,t.2.2.2.1,t.2.2.2.2.1 + 1,0))
 | _=>pure (.done (some (loU u v t.2.1 t.2.2.1 t.2.2.2.1),t.2.1,t.2.2.1,t.2.2.2.1,t.2.2.2.2.1,t.2.2.2.2.2))
def lo4 (r:Array Keyed) (p q g cu cv:Nat):StateT SortSt Sem (ForInStep MT2):=do
 let x ← elem' u p
 if p + 1 + 1 == u.size then pure (.done (some (loV u v (r.push x) (p + 1) q),r.push x,p + 1,q,g,cu,cv))
 else if cu < 7 && cv < 7 then pure (.done (none,r.push x,p + 1,q,g,cu,cv))
 else pure (.yield (none,r.push x,p + 1,q,g,cu,cv))
def lo3 (r:Array Keyed) (p q g cu cv:Nat):StateT SortSt Sem (ForInStep MT2):=do
 let x ← elem' u p
 match ← gal true x v q (v.size - q) 0 with
 | some k =>
  if k > 0 then
   if q + k == v.size then pure (.done (some (loU u v (r ++ v.extract q (q + k)) p (q + k)),r ++ v.extract q (q + k),p,q + k,g,cu,k))
   else lo4 u v (r ++ v.extract q (q + k)) p (q + k) g cu k
  else lo4 u v r p q g cu k
 | _=>pure (.done (some (loU u v r p q),r,p,q,g,cu,cv))
def lo2 (r:Array Keyed) (p q g cu cv:Nat):StateT SortSt Sem (ForInStep MT2):=do
 let y ← elem' v q
 if q + 1 == v.size then pure (.done (some (loU u v (r.push y) p (q + 1)),r.push y,p,q + 1,g,cu,cv))
 else lo3 u v (r.push y) p (q + 1) g cu cv
def lo1 (r:Array Keyed) (p q g cu cv:Nat):StateT SortSt Sem (ForInStep MT2):=do
 setG g
 let y ← elem' v q
 match ← gal false y u p (u.size - p) 0 with
 | some k =>
  if k > 0 then
   if p + k + 1 == u.size then pure (.done (some (loV u v (r ++ u.extract p (p + k)) (p + k) q),r ++ u.extract p (p + k),p + k,q,g,k,cv))
   else if p + k == u.size then pure (.done (some (loU u v (r ++ u.extract p (p + k)) (p + k) q),r ++ u.extract p (p + k),p + k,q,g,k,cv))
   else lo2 u v (r ++ u.extract p (p + k)) (p + k) q g k cv
  else lo2 u v r p q g k cv
 | _=>pure (.done (some (loU u v r p q),r,p,q,g,cu,cv))
def lo0 (t:MT2):StateT SortSt Sem (ForInStep MT2) :=
 if t.2.2.2.2.1 > 1 then lo1 u v t.2.1 t.2.2.1 t.2.2.2.1 (t.2.2.2.2.1 - 1) t.2.2.2.2.2.1 t.2.2.2.2.2.2 else lo1 u v t.2.1 t.2.2.1 t.2.2.2.1 t.2.2.2.2.1 t.2.2.2.2.2.1 t.2.2.2.2.2.2
def loOut (t:MT0):StateT SortSt Sem (ForInStep MT0):=do
 let t1 ← forIn [0:u.size + v.size] ((none,t.2.1,t.2.2.1,t.2.2.2.1,0,0):MT1) (fun _ t1=>loLin u v t.2.2.2.2 t1)
 match t1.1 with
 | some z=>pure (.done (some z,t1.2.1,t1.2.2.1,t1.2.2.2.1,t.2.2.2.2))
 | none=>do
  rule "list.sort.gallop"
  let t2 ← forIn [0:u.size + v.size] ((none,t1.2.1,t1.2.2.1,t1.2.2.2.1,t.2.2.2.2 + 1,t1.2.2.2.2.1,t1.2.2.2.2.2):MT2) (fun _ t2=>lo0 u v t2)
  match t2.1 with
  | some z=>pure (.done (some z,t2.2.1,t2.2.2.1,t2.2.2.2.1,t2.2.2.2.2.1))
  | none=>do
   setG (t2.2.2.2.2.1 + 1)
   pure (.yield (none,t2.2.1,t2.2.2.1,t2.2.2.2.1,t2.2.2.2.2.1 + 1))
def mlo:Array Keyed→Array Keyed→StateT SortSt Sem (Array Keyed):=sortPriv% PySem.Builtin.mergeLo
theorem mlo_eq0 (u v:Array Keyed):mlo u v=(do
  rule "list.sort.merge-lo"
  let fullEnd (r:Array Keyed) (p q:Nat):=r ++ u.extract p u.size ++ v.extract q v.size
  let lastU (r:Array Keyed) (p q:Nat):=r ++ v.extract q v.size ++ u.extract p u.size
  let mut r:Array Keyed:=#[← elem' v 0]
  let mut p:=0
  let mut q:=1
  if q == v.size then return fullEnd r p q
  if p + 1 == u.size then return lastU r p q
  let mut g:=gallopOf (← get)
  for _ in [0:u.size + v.size] do
   let mut cu:=0
   let mut cv:=0
   for _ in [0:u.size + v.size] do
    let some less ← lt' (← elem' v q) (← elem' u p) | return fullEnd r p q
    if less then
     r:=r.push (← elem' v q); q:=q + 1; cv:=cv + 1; cu:=0
     if q == v.size then return fullEnd r p q
     if cv ≥ g then break
    else
     r:=r.push (← elem' u p); p:=p + 1; cu:=cu + 1; cv:=0
     if p + 1 == u.size then return lastU r p q
     if cu ≥ g then break
   rule "list.sort.gallop"
   g:=g + 1
   for _ in [0:u.size + v.size] do
    if g > 1 then g:=g - 1
    setG g
    let some k ← gal false (← elem' v q) u p (u.size - p) 0 | return fullEnd r p q
    cu:=k
    if k > 0 then
     r:=r ++ u.extract p (p + k); p:=p + k
     if p + 1 == u.size then return lastU r p q
     if p == u.size then return fullEnd r p q
    r:=r.push (← elem' v q); q:=q + 1
    if q == v.size then return fullEnd r p q
    let some k ← gal true (← elem' u p) v q (v.size - q) 0 | return fullEnd r p q
    cv:=k
    if k > 0 then
     r:=r ++ v.extract q (q + k); q:=q + k
     if q == v.size then return fullEnd r p q
    r:=r.push (← elem' u p); p:=p + 1
    if p + 1 == u.size then return lastU r p q
    if cu < 7 && cv < 7 then break
   g:=g + 1
   setG g
  unsupported "internal:list.sort.merge-bound"):=rfl
theorem mlo_eq:mlo u v=(do
  rule "list.sort.merge-lo"
  let y ← elem' v 0
  if 1 == v.size then pure (loU u v #[y] 0 1)
  else if 0 + 1 == u.size then pure (loV u v #[y] 0 1)
  else do
   let st ← get
   let t ← forIn [0:u.size + v.size] ((none,#[y],0,1,gallopOf st):MT0) (fun _ t=>loOut u v t)
   match t.1 with
   | some z=>pure z
   | none=>unsupported "internal:list.sort.merge-bound"):=by
 rw [mlo_eq0]
 dsimp only [loOut,lo0,lo1,lo2,lo3,lo4,loLin,loU,loV]
 refine bind_congr fun _=>bind_congr fun y=>?_
 refine ite_congr rfl (fun _=>rfl) fun _=>ite_congr rfl (fun _=>rfl) fun _=>?_
 refine bind_congr fun st=>?_
 refine bind2 (congrArg (forIn _ _) (funext fun x=>funext fun t=>?_)) ?_
 ·refine bind2 (congrArg (forIn _ _) (funext fun x=>funext fun t1=>?_)) (funext fun t1=>?_)
  ·refine bind_congr fun y=>bind_congr fun x=>bind_congr fun z=>?_
   cases z with
   | none=>with_reducible rfl
   | some z=>cases z <;> with_reducible rfl
  ·obtain ⟨z,t1⟩:=t1
   cases z with
   | some z=>with_reducible rfl
   | none =>
    dsimp only
    refine bind_congr fun _=>?_
    refine bind2 (congrArg (forIn _ _) (funext fun x=>funext fun t2=>?_)) (funext fun t2=>?_)
    ·refine ite_congr rfl (fun _=>?_) (fun _=>?_)
     all_goals (refine bind_congr fun _=>bind_congr fun y=>bind_congr fun k=>?_)
     all_goals cases k
     ·with_reducible rfl
     ·refine ite_congr rfl (fun _=>ite_congr rfl (fun _=>rfl) fun _=>ite_congr rfl (fun _=>rfl) fun _=>?_) (fun _=>?_)
      all_goals (refine bind_congr fun _=>ite_congr rfl (fun _=>rfl) fun _=>bind_congr fun _=>bind_congr fun k=>?_)
      all_goals cases k <;> with_reducible rfl
     ·with_reducible rfl
     ·refine ite_congr rfl (fun _=>ite_congr rfl (fun _=>rfl) fun _=>ite_congr rfl (fun _=>rfl) fun _=>?_) (fun _=>?_)
      all_goals (refine bind_congr fun _=>ite_congr rfl (fun _=>rfl) fun _=>bind_congr fun _=>bind_congr fun k=>?_)
      all_goals cases k <;> with_reducible rfl
    ·obtain ⟨z,t2⟩:=t2
     cases z <;> with_reducible rfl
 ·funext t
  obtain ⟨z,t⟩:=t
  cases z <;> with_reducible rfl
end
section
variable {M:Model} {A:Around} {E:Value→Shared→Prop} {s:Shared} {kd:SortKind}
structure Gs (st st':SortSt):Prop where
 k:kindOf st'=kindOf st
 a:arrOf st'=arrOf st
 p:pendingOf st'=pendingOf st
 f:failedOf st'=failedOf st
theorem Gs.refl (st:SortSt):Gs st st:=⟨rfl,rfl,rfl,rfl⟩
theorem wpS_setG {st st':SortSt} {g:Nat} {Q:Unit→SortSt→Prop} (h:Gs st st') (k:∀ st2,Gs st st2→Q () st2):wpS M A E s (setG g) Q st' :=
 wpS_modify (k _ ⟨h.k,h.a,h.p,h.f⟩)
theorem xt {u:Array Keyed} {p:Nat}:(u.extract p u.size).toList=u.toList.drop p:=by
 rw [Array.toList_extract]
 show (u.toList.drop p).take (u.size - p)=_
 exact List.take_of_length_le (by simp)
theorem xk {u:Array Keyed} {p k:Nat}:(u.extract p (p + k)).toList=(u.toList.drop p).take k:=by simp [Array.toList_extract,List.extract]
theorem at_lt {u:Array Keyed} {p:Nat} (h:p < u.size):∃ x,u[p]?=some x:=⟨u[p],getElem?_pos u p h⟩
theorem drop1 {u:Array Keyed} {p:Nat} {x:Keyed} (e:u[p]?=some x):(u.toList.drop p).take 1=[x]:=by
 have e':u.toList[p]?=some x:=by simpa using e
 obtain ⟨h,rfl⟩:=List.getElem?_eq_some_iff.mp e'
 rw [List.drop_eq_getElem_cons h]
 rfl
theorem mem_drop_iff {u:Array Keyed} {p:Nat} {y:Keyed}:y∈u.toList.drop p↔∃ i,p≤i∧u[i]?=some y:=by
 rw [List.mem_iff_getElem?]
 constructor
 ·rintro ⟨n,e⟩
  rw [List.getElem?_drop] at e
  exact ⟨p + n,by omega,by simpa using e⟩
 ·rintro ⟨i,hi,e⟩
  exact ⟨i - p,by rw [List.getElem?_drop,show p + (i - p)=i by omega]; simpa using e⟩
theorem up_at {o:Ord M A E s kd} {u:Array Keyed} (uu:u.toList.Pairwise o.le) {i j:Nat} {x y:Keyed} (hij:i≤j) (ex:u[i]?=some x) (ey:u[j]?=some y):o.le x y:=by
 have ex':u.toList[i]?=some x:=by simpa using ex
 have ey':u.toList[j]?=some y:=by simpa using ey
 obtain ⟨h1,rfl⟩:=List.getElem?_eq_some_iff.mp ex'
 obtain ⟨h2,rfl⟩:=List.getElem?_eq_some_iff.mp ey'
 rcases Nat.lt_or_eq_of_le hij with h | h
 ·exact List.pairwise_iff_getElem.mp uu i j h1 h2 h
 ·subst h; exact o.le_refl _
theorem up_of {o:Ord M A E s kd} {u:Array Keyed} (uu:u.toList.Pairwise o.le) (lo hi:Nat):o.up u lo hi:=fun i j x y _ h _ ex ey=>up_at uu h ex ey
theorem head_le {o:Ord M A E s kd} {u:Array Keyed} (uu:u.toList.Pairwise o.le) {p:Nat} {x:Keyed} (e:u[p]?=some x):∀ y∈u.toList.drop p,o.le x y:=fun y hy=>by
 obtain ⟨i,hi,ey⟩:=mem_drop_iff.mp hy
 exact up_at uu hi e ey
section
variable (o:Ord M A E s kd) (u v:Array Keyed)
structure LoPre:Prop where
 gu:o.all u
 gv:o.all v
 uu:u.toList.Pairwise o.le
 uv:v.toList.Pairwise o.le
 h2:∀ x y,x∈v.toList→u[u.size - 1]?=some y→o.le x y
def Live (r:Array Keyed) (p q:Nat):Prop:=o.Mg u.toList v.toList r.toList p q∧p + 1 < u.size∧q < v.size
def Res (z:Array Keyed):Prop:=o.Merged u.toList v.toList z.toList
end
variable {o:Ord M A E s kd} {u v:Array Keyed} {r:Array Keyed} {p q:Nat}
theorem Ord.Mg.pushA (m:o.Mg u.toList v.toList r.toList p q) (uu:u.toList.Pairwise o.le) {x:Keyed} (e:u[p]?=some x) (h:∀ y∈v.toList.drop q,o.le x y):o.Mg u.toList v.toList (r.push x).toList (p + 1) q:=by
 have:=m.manyA (k:=1) uu (by rw [drop1 e]; intro a ha y hy; rw [List.mem_singleton.mp ha]; exact h y hy)
 rw [drop1 e] at this
 simpa using this
theorem Ord.Mg.pushB (m:o.Mg u.toList v.toList r.toList p q) (uv:v.toList.Pairwise o.le) {y:Keyed} (e:v[q]?=some y) (h:∀ x∈u.toList.drop p,o.le y x):o.Mg u.toList v.toList (r.push y).toList p (q + 1):=by
 have:=m.manyB (k:=1) uv (by rw [drop1 e]; intro a ha y hy; rw [List.mem_singleton.mp ha]; exact h y hy)
 rw [drop1 e] at this
 simpa using this
theorem resU (m:o.Mg u.toList v.toList r.toList p q) (uu:u.toList.Pairwise o.le) (uv:v.toList.Pairwise o.le) (h:u.size≤p∨v.size≤q):Res o u v (loU u v r p q):=by
 unfold Res loU
 rw [Array.toList_append,Array.toList_append,xt,xt]
 refine m.endA uu uv fun x hx y hy=>?_
 rcases h with h | h
 ·rw [List.drop_eq_nil_of_le (by simpa using h)] at hx; cases hx
 ·rw [List.drop_eq_nil_of_le (by simpa using h)] at hy; cases hy
theorem resV (L:LoPre o u v) (m:o.Mg u.toList v.toList r.toList p q) (h:p + 1=u.size):Res o u v (loV u v r p q):=by
 unfold Res loV
 rw [Array.toList_append,Array.toList_append,xt,xt]
 refine m.endB L.uu L.uv fun x hx y hy=>?_
 obtain ⟨i,hi,ey⟩:=mem_drop_iff.mp hy
 have hi':i < u.size:=by
  rcases Nat.lt_or_ge i u.size with z | z
  ·exact z
  ·rw [getElem?_neg _ _ (by omega)] at ey; cases ey
 have:i=u.size - 1:=by omega
 subst this
 exact L.h2 x y (List.mem_of_mem_drop hx) ey
def lp (u v:Array Keyed) (o:Ord M A E s kd) (c:Nat):ForInStep MT1→Prop
 | .done (some z,_)=>Res o u v z
 | .done (none,r,p,q,_)=>Live o u v r p q∧c < p + q
 | .yield (some _,_)=>False
 | .yield (none,r,p,q,_)=>Live o u v r p q∧c < p + q
theorem wpS_loLin (L:LoPre o u v) {g a b:Nat} {st:SortSt} (hk:kindOf st=kd) (l:Live o u v r p q):wpS M A E s (loLin u v g (none,r,p,q,a,b)) (fun t st'=>st'=st∧lp u v o (p + q) t) st:=by
 obtain ⟨m,hp,hq⟩:=l
 obtain ⟨x,ex⟩:=at_lt (u:=u) (p:=p) (by omega)
 obtain ⟨y,ey⟩:=at_lt hq
 unfold loLin
 refine wpS_bind (wpS_elem ey (wpS_bind (wpS_elem ex (wpS_bind (o.lt hk (L.gv _ _ ey) (L.gu _ _ ex) ?_)))))
 dsimp only
 cases hb:o.O.blt (o.key y) (o.key x) with
 | true =>
  refine wpS_bind (wpS_elem ey ?_)
  have m':=m.pushB L.uv ey fun z hz=>o.le_trans (o.le_of_b hb) (head_le L.uu ex z hz)
  by_cases h1:q + 1=v.size
  ·rw [if_pos (by simpa using h1)]
   exact wpS_pure ⟨rfl,resU m' L.uu L.uv (.inr (by omega))⟩
  ·rw [if_neg (by simpa using h1)]
   split
   ·exact wpS_pure ⟨rfl,⟨m',hp,by omega⟩,by omega⟩
   ·exact wpS_pure ⟨rfl,⟨m',hp,by omega⟩,by omega⟩
 | false =>
  refine wpS_bind (wpS_elem ex ?_)
  have m':=m.pushA L.uu ex fun z hz=>o.le_trans (o.le_of_nb hb) (head_le L.uv ey z hz)
  by_cases h1:p + 1 + 1=u.size
  ·rw [if_pos (by simpa using h1)]
   exact wpS_pure ⟨rfl,resV L m' h1⟩
  ·rw [if_neg (by simpa using h1)]
   split
   ·exact wpS_pure ⟨rfl,⟨m',by omega,hq⟩,by omega⟩
   ·exact wpS_pure ⟨rfl,⟨m',by omega,hq⟩,by omega⟩
end
section
variable {M:Model} {A:Around} {E:Value→Shared→Prop} {s:Shared} {kd:SortKind} {o:Ord M A E s kd} {u v:Array Keyed} {r:Array Keyed} {p q g cu cv c:Nat} {st:SortSt}
theorem mem_take_iff {u:Array Keyed} {p k:Nat} {y:Keyed} (h:y∈(u.toList.drop p).take k):∃ i,i < k∧u[p + i]?=some y:=by
 obtain ⟨n,e⟩:=List.mem_iff_getElem?.mp h
 rw [List.getElem?_take] at e
 split at e
 ·rw [List.getElem?_drop] at e
  exact ⟨n,by assumption,by simpa using e⟩
 ·cases e
theorem lt_of_at {u:Array Keyed} {i:Nat} {y:Keyed} (e:u[i]?=some y):i < u.size:=by
 rcases Nat.lt_or_ge i u.size with z | z
 ·exact z
 ·rw [getElem?_neg u i (by omega)] at e; cases e
def gp (u v:Array Keyed) (o:Ord M A E s kd) (c:Nat):ForInStep MT2→Prop
 | .done (some z,_)=>Res o u v z
 | .done (none,r,p,q,_)=>Live o u v r p q∧c < p + q
 | .yield (some _,_)=>False
 | .yield (none,r,p,q,_)=>Live o u v r p q∧c < p + q
theorem wpS_lo4 (L:LoPre o u v) (m:o.Mg u.toList v.toList r.toList p q) (hp:p + 1 < u.size) (hq:q < v.size) (hc:c≤p + q) {x:Keyed} (ex:u[p]?=some x) (hx:∀ y∈v.toList.drop q,o.le x y) :
  wpS M A E s (lo4 u v r p q g cu cv) (fun t st'=>st'=st∧gp u v o c t) st:=by
 unfold lo4
 refine wpS_bind (wpS_elem ex ?_)
 have m':=m.pushA L.uu ex hx
 by_cases h1:p + 1 + 1=u.size
 ·rw [if_pos (by simpa using h1)]
  exact wpS_pure ⟨rfl,resV L m' h1⟩
 ·rw [if_neg (by simpa using h1)]
  split
  ·exact wpS_pure ⟨rfl,⟨m',by omega,hq⟩,by omega⟩
  ·exact wpS_pure ⟨rfl,⟨m',by omega,hq⟩,by omega⟩
theorem wpS_lo3 (L:LoPre o u v) (hk:kindOf st=kd) (m:o.Mg u.toList v.toList r.toList p q) (hp:p + 1 < u.size) (hq:q < v.size) (hc:c≤p + q) :
  wpS M A E s (lo3 u v r p q g cu cv) (fun t st'=>st'=st∧gp u v o c t) st:=by
 unfold lo3
 obtain ⟨x,ex⟩:=at_lt (u:=u) (p:=p) (by omega)
 refine wpS_bind (wpS_elem ex ?_)
 refine wpS_bind (wpS_gal o hk (L.gu _ _ ex) L.gv (by omega) (by omega) (up_of L.uv _ _) fun k hkn h1 h2=>?_)
 have rest:∀ y∈v.toList.drop (q + k),o.le x y:=fun y hy=>by
  obtain ⟨i,hi,ey⟩:=mem_drop_iff.mp hy
  have:=lt_of_at ey
  exact o.le_of_nb (h2 (i - q) y (by omega) (by omega) (by rw [show q + (i - q)=i by omega]; exact ey))
 dsimp only
 split
 ·have m':=m.manyB (k:=k) L.uv fun a ha y hy=>by
   obtain ⟨i,hi,ea⟩:=mem_take_iff ha
   exact o.le_trans (o.le_of_b (h1 i a hi ea)) (head_le L.uu ex y hy)
  have m'':o.Mg u.toList v.toList (r ++ v.extract q (q + k)).toList p (q + k):=by rw [Array.toList_append,xk]; exact m'
  by_cases h3:q + k=v.size
  ·rw [if_pos (by simpa using h3)]
   exact wpS_pure ⟨rfl,resU m'' L.uu L.uv (.inr (by omega))⟩
  ·rw [if_neg (by simpa using h3)]
   exact wpS_lo4 L m'' hp (by omega) (by omega) ex rest
 ·have:k=0:=by omega
  subst this
  exact wpS_lo4 L m hp hq hc ex rest
theorem wpS_lo2 (L:LoPre o u v) (hk:kindOf st=kd) (m:o.Mg u.toList v.toList r.toList p q) (hp:p + 1 < u.size) (hq:q < v.size) (hc:c≤p + q) {y:Keyed} (ey:v[q]?=some y) (hy:∀ x∈u.toList.drop p,o.le y x) :
  wpS M A E s (lo2 u v r p q g cu cv) (fun t st'=>st'=st∧gp u v o c t) st:=by
 unfold lo2
 refine wpS_bind (wpS_elem ey ?_)
 have m':=m.pushB L.uv ey hy
 by_cases h1:q + 1=v.size
 ·rw [if_pos (by simpa using h1)]
  exact wpS_pure ⟨rfl,resU m' L.uu L.uv (.inr (by omega))⟩
 ·rw [if_neg (by simpa using h1)]
  exact wpS_lo3 L hk m' hp (by omega) (by omega)
theorem wpS_lo1 (L:LoPre o u v) {st0:SortSt} (hs:Gs st0 st) (hk:kindOf st0=kd) (l:Live o u v r p q) :
  wpS M A E s (lo1 u v r p q g cu cv) (fun t st'=>Gs st0 st'∧gp u v o (p + q) t) st:=by
 obtain ⟨m,hp,hq⟩:=l
 unfold lo1
 refine wpS_bind (wpS_setG hs fun st2 hs2=>?_)
 have hk2:kindOf st2=kd:=hs2.k.trans hk
 obtain ⟨y,ey⟩:=at_lt hq
 refine wpS_bind (wpS_elem ey ?_)
 refine wpS_bind (wpS_gal o hk2 (L.gv _ _ ey) L.gu (by omega) (by omega) (up_of L.uu _ _) fun k hkn h1 h2=>?_)
 have rest:∀ x∈u.toList.drop (p + k),o.le y x:=fun x hx=>by
  obtain ⟨i,hi,ex⟩:=mem_drop_iff.mp hx
  have:=lt_of_at ex
  have z:=h2 (i - p) x (by omega) (by omega) (by rw [show p + (i - p)=i by omega]; exact ex)
  exact o.le_of_b (by simpa [Ord.byB] using z)
 dsimp only
 split
 ·have m':=m.manyA (k:=k) L.uu fun a ha b hb=>by
   obtain ⟨i,hi,ea⟩:=mem_take_iff ha
   have z:=h1 i a hi ea
   have z':o.b y a=false:=by simpa [Ord.byB] using z
   exact o.le_trans (o.le_of_nb z') (head_le L.uv ey b hb)
  have m'':o.Mg u.toList v.toList (r ++ u.extract p (p + k)).toList (p + k) q:=by rw [Array.toList_append,xk]; exact m'
  by_cases h3:p + k + 1=u.size
  ·rw [if_pos (by simpa using h3)]
   exact wpS_pure ⟨hs2,resV L m'' h3⟩
  ·rw [if_neg (by simpa using h3)]
   by_cases h4:p + k=u.size
   ·rw [if_pos (by simpa using h4)]
    exact wpS_pure ⟨hs2,resU m'' L.uu L.uv (.inl (by omega))⟩
   ·rw [if_neg (by simpa using h4)]
    exact wpS_mono (wpS_lo2 L hk2 m'' (by omega) hq (by omega) ey rest) fun t st' ⟨e,z⟩=>⟨e ▸ hs2,z⟩
 ·have:k=0:=by omega
  subst this
  exact wpS_mono (wpS_lo2 L hk2 m hp hq (by omega) ey rest) fun t st' ⟨e,z⟩=>⟨e ▸ hs2,z⟩
theorem wpS_lo0 (L:LoPre o u v) {st0:SortSt} (hs:Gs st0 st) (hk:kindOf st0=kd) (l:Live o u v r p q) :
  wpS M A E s (lo0 u v (none,r,p,q,g,cu,cv)) (fun t st'=>Gs st0 st'∧gp u v o (p + q) t) st:=by
 unfold lo0
 split
 ·exact wpS_lo1 L hs hk l
 ·exact wpS_lo1 L hs hk l
def op0 (u v:Array Keyed) (o:Ord M A E s kd) (c:Nat):ForInStep MT0→Prop
 | .done (some z,_)=>Res o u v z
 | .done (none,_)=>False
 | .yield (some _,_)=>False
 | .yield (none,r,p,q,_)=>Live o u v r p q∧c < p + q
theorem wpS_loOut (L:LoPre o u v) {st0:SortSt} (hs:Gs st0 st) (hk:kindOf st0=kd) (l:Live o u v r p q) :
  wpS M A E s (loOut u v (none,r,p,q,g)) (fun t st'=>Gs st0 st'∧op0 u v o (p + q) t) st:=by
 unfold loOut
 have hk1:kindOf st=kd:=hs.k.trans hk
 have hpos:0 < u.size + v.size:=by have:=l.2.1; omega
 refine wpS_bind (wpS_mono (wpS_forRange (I:=fun i t st'=>st'=st∧∃ r1 p1 q1 a b,t=(none,r1,p1,q1,a,b)∧Live o u v r1 p1 q1∧p + q + i≤p1 + q1)
  (Q:=fun t st'=>st'=st∧((∃ z t',t=(some z,t')∧Res o u v z)∨∃ r1 p1 q1 a b,t=(none,r1,p1,q1,a,b)∧Live o u v r1 p1 q1∧p + q < p1 + q1)) ?step ?fin ⟨rfl,r,p,q,0,0,rfl,l,by omega⟩) ?post)
 case fin =>
  rintro t st' ⟨rfl,r1,p1,q1,a,b,rfl,l1,hc⟩
  exact ⟨rfl,.inr ⟨r1,p1,q1,a,b,rfl,l1,by omega⟩⟩
 case step =>
  rintro i t st' _ hi ⟨rfl,r1,p1,q1,a,b,rfl,l1,hc⟩
  refine wpS_mono (wpS_loLin L hk1 l1) fun t st'' ⟨e,z⟩=>?_
  subst e
  match t,z with
  | .done (some z,t'),hz=>exact ⟨rfl,.inl ⟨z,t',rfl,hz⟩⟩
  | .done (none,r2,p2,q2,a2,b2),hz=>exact ⟨rfl,.inr ⟨r2,p2,q2,a2,b2,rfl,hz.1,by have:=hz.2; omega⟩⟩
  | .yield (none,r2,p2,q2,a2,b2),hz=>exact ⟨rfl,r2,p2,q2,a2,b2,rfl,hz.1,by have:=hz.2; omega⟩
 case post =>
  rintro t st' ⟨rfl,⟨z,t',rfl,hz⟩ | ⟨r1,p1,q1,a,b,rfl,l1,hc⟩⟩
  ·exact wpS_pure ⟨hs,hz⟩
  ·dsimp only
   refine wpS_bind (wpS_lift (wpAny_rule ⟨rfl,?_⟩))
   refine wpS_bind (wpS_mono (wpS_forRange (I:=fun i t st2=>Gs st0 st2∧∃ r2 p2 q2 g2 a b,t=(none,r2,p2,q2,g2,a,b)∧Live o u v r2 p2 q2∧p + q < p2 + q2)
    (Q:=fun t st2=>Gs st0 st2∧((∃ z t',t=(some z,t')∧Res o u v z)∨∃ r2 p2 q2 g2 a b,t=(none,r2,p2,q2,g2,a,b)∧Live o u v r2 p2 q2∧p + q < p2 + q2)) ?step2 ?fin2 ⟨hs,r1,p1,q1,_,_,_,rfl,l1,hc⟩) ?post2)
   case fin2 =>
    rintro t st2 ⟨hs2,r2,p2,q2,g2,a,b,rfl,l2,hc2⟩
    exact ⟨hs2,.inr ⟨r2,p2,q2,g2,a,b,rfl,l2,hc2⟩⟩
   case step2 =>
    rintro i t st2 _ hi ⟨hs2,r2,p2,q2,g2,a,b,rfl,l2,hc2⟩
    refine wpS_mono (wpS_lo0 L hs2 hk l2) fun t st3 ⟨hs3,z⟩=>?_
    match t,z with
    | .done (some z,t'),hz=>exact ⟨hs3,.inl ⟨z,t',rfl,hz⟩⟩
    | .done (none,r3,p3,q3,g3,a3,b3),hz=>exact ⟨hs3,.inr ⟨r3,p3,q3,g3,a3,b3,rfl,hz.1,by have:=hz.2; omega⟩⟩
    | .yield (none,r3,p3,q3,g3,a3,b3),hz=>exact ⟨hs3,r3,p3,q3,g3,a3,b3,rfl,hz.1,by have:=hz.2; omega⟩
   case post2 =>
    rintro t st2 ⟨hs2,⟨z,t',rfl,hz⟩ | ⟨r2,p2,q2,g2,a,b,rfl,l2,hc2⟩⟩
    ·exact wpS_pure ⟨hs2,hz⟩
    ·exact wpS_bind (wpS_setG hs2 fun st3 hs3=>wpS_pure ⟨hs3,l2,hc2⟩)
theorem wpS_mlo (L:LoPre o u v) {Q:Array Keyed→SortSt→Prop} (hk:kindOf st=kd) (hu:0 < u.size) (hv:0 < v.size)
  (h1:∀ x y,v[0]?=some x→y∈u.toList→o.le x y) (h:∀ st' out,Gs st st'→o.Merged u.toList v.toList out.toList→Q out st'):wpS M A E s (mlo u v) Q st:=by
 rw [mlo_eq]
 refine wpS_bind (wpS_lift (wpAny_rule ⟨rfl,?_⟩))
 obtain ⟨y,ey⟩:=at_lt hv
 refine wpS_bind (wpS_elem ey ?_)
 have m:o.Mg u.toList v.toList (#[y]:Array Keyed).toList 0 1:=by
  have:=(Ord.Mg.zero (o:=o) (la:=u.toList) (lb:=v.toList)).pushB (r:=#[]) L.uv ey (fun x hx=>h1 y x ey (by simpa using hx))
  simpa using this
 by_cases h3:1=v.size
 ·rw [if_pos (by simpa using h3)]
  exact wpS_pure (h _ _ (.refl _) (resU m L.uu L.uv (.inr (by omega))))
 ·rw [if_neg (by simpa using h3)]
  by_cases h4:0 + 1=u.size
  ·rw [if_pos (by simpa using h4)]
   exact wpS_pure (h _ _ (.refl _) (resV L m h4))
  ·rw [if_neg (by simpa using h4)]
   refine wpS_bind (wpS_get ?_)
   refine wpS_bind (wpS_mono (wpS_forRange (I:=fun i t st2=>Gs st st2∧∃ r2 p2 q2 g2,t=(none,r2,p2,q2,g2)∧Live o u v r2 p2 q2∧i < p2 + q2)
    (Q:=fun t st2=>Gs st st2∧∃ z t',t=(some z,t')∧Res o u v z) ?step ?fin ⟨.refl _,_,0,1,_,rfl,⟨m,by omega,by omega⟩,by omega⟩) ?post)
   case fin =>
    rintro t st2 ⟨hs2,r2,p2,q2,g2,rfl,l2,hc⟩
    have:=l2.2.1
    have:=l2.2.2
    omega
   case step =>
    rintro i t st2 _ hi ⟨hs2,r2,p2,q2,g2,rfl,l2,hc⟩
    refine wpS_mono (wpS_loOut L hs2 hk l2) fun t st3 ⟨hs3,z⟩=>?_
    match t,z with
    | .done (some z,t'),hz=>exact ⟨hs3,z,t',rfl,hz⟩
    | .yield (none,r3,p3,q3,g3),hz=>exact ⟨hs3,r3,p3,q3,g3,rfl,hz.1,by have:=hz.2; omega⟩
   case post =>
    rintro t st2 ⟨hs2,z,t',rfl,hz⟩
    exact wpS_pure (h _ _ hs2 hz)
end
section
abbrev NT1:=Option (Array Keyed)×Nat×Nat×Array Keyed×Nat×Nat
abbrev NT2:=Option (Array Keyed)×Nat×Nat×Array Keyed×Nat×Nat×Nat
abbrev NT0:=Option (Array Keyed)×Nat×Nat×Array Keyed×Nat
variable (u v:Array Keyed)
def hiU (p q:Nat) (r:Array Keyed):Array Keyed:=u.extract 0 p ++ v.extract 0 q ++ r.reverse
def hiV (p q:Nat) (r:Array Keyed):Array Keyed:=v.extract 0 q ++ u.extract 0 p ++ r.reverse
def hiLin (g:Nat) (t:NT1):StateT SortSt Sem (ForInStep NT1):=do
 let y ← elem' v (t.2.2.1 - 1)
 let x ← elem' u (t.2.1 - 1)
 match ← lt' y x with
 | some less =>
  if less then do
   let x ← elem' u (t.2.1 - 1)
   if t.2.1 - 1 == 0 then pure (.done (some (hiU u v (t.2.1 - 1) t.2.2.1 (t.2.2.2.1.push x)),t.2.1 - 1,t.2.2.1,t.2.2.2.1.push x,t.2.2.2.2.1 + 1,0))
   else if t.2.2.2.2.1 + 1 ≥ g then pure (.done (none,t.2.1 - 1,t.2.2.1,t.2.2.2.1.push x,t.2.2.2.2.1 + 1,0))
   else pure (.yield (none,t.2.1 - 1,t.2.2.1,t.2.2.2.1.push x,t.2.2.2.2.1 + 1,0))
  else do
   let y ← elem' v (t.2.2.1 - 1)
   if t.2.2.1 - 1 == 1 then pure (.done (some (hiV u v t.2.1 (t.2.2.1 - 1) (t.2.2.2.1.push y)),t.2.1,t.2.2.1 - 1,t.2.2.2.1.push y,0,t.2.2.2.2.2 + 1))
   else if t.2.2.2.2.2 + 1 ≥ g then pure (.done (none,t.2.1,t.2.2.1 - 1,t.2.2.2.1.push y,0,t.2.2.2.2.2 + 1))
   else pure (.yield (none,t.2.1,t.2.2.1 - 1,t.2.2.2.1.push y,0,t.2.2.2.2.2 + 1))
 | _=>pure (.done (some (hiU u v t.2.1 t.2.2.1 t.2.2.2.1),t.2.1,t.2.2.1,t.2.2.2.1,t.2.2.2.2.1,t.2.2.2.2.2))
def hi4 (p q:Nat) (r:Array Keyed) (g cu cv:Nat):StateT SortSt Sem (ForInStep NT2):=do
 let x ← elem' u (p - 1)
 if p - 1 == 0 then pure (.done (some (hiU u v (p - 1) q (r.push x)),p - 1,q,r.push x,g,cu,cv))
 else if cu < 7 && cv < 7 then pure (.done (none,p - 1,q,r.push x,g,cu,cv))
 else pure (.yield (none,p - 1,q,r.push x,g,cu,cv))
def hi3 (p q:Nat) (r:Array Keyed) (g cu cv:Nat):StateT SortSt Sem (ForInStep NT2):=do
 let x ← elem' u (p - 1)
 match ← gal true x v 0 q (q - 1) with
 | some k =>
  if q - k > 0 then
   if k == 1 then pure (.done (some (hiV u v p k (r ++ (v.extract k q).reverse)),p,k,r ++ (v.extract k q).reverse,g,cu,q - k))
   else if k == 0 then pure (.done (some (hiU u v p k (r ++ (v.extract k q).reverse)),p,k,r ++ (v.extract k q).reverse,g,cu,q - k))
   else hi4 u v p k (r ++ (v.extract k q).reverse) g cu (q - k)
  else hi4 u v p q r g cu (q - k)
 | _=>pure (.done (some (hiU u v p q r),p,q,r,g,cu,cv))
def hi2 (p q:Nat) (r:Array Keyed) (g cu cv:Nat):StateT SortSt Sem (ForInStep NT2):=do
 let y ← elem' v (q - 1)
 if q - 1 == 1 then pure (.done (some (hiV u v p (q - 1) (r.push y)),p,q - 1,r.push y,g,cu,cv))
 else hi3 u v p (q - 1) (r.push y) g cu cv
def hi1 (p q:Nat) (r:Array Keyed) (g cu cv:Nat):StateT SortSt Sem (ForInStep NT2):=do
 setG g
 let y ← elem' v (q - 1)
 match ← gal false y u 0 p (p - 1) with
 | some k =>
  if p - k > 0 then
   if k == 0 then pure (.done (some (hiU u v k q (r ++ (u.extract k p).reverse)),k,q,r ++ (u.extract k p).reverse,g,p - k,cv))
   else hi2 u v k q (r ++ (u.extract k p).reverse) g (p - k) cv
  else hi2 u v p q r g (p - k) cv
 | _=>pure (.done (some (hiU u v p q r),p,q,r,g,cu,cv))
def hi0 (t:NT2):StateT SortSt Sem (ForInStep NT2) :=
 if t.2.2.2.2.1 > 1 then hi1 u v t.2.1 t.2.2.1 t.2.2.2.1 (t.2.2.2.2.1 - 1) t.2.2.2.2.2.1 t.2.2.2.2.2.2 else hi1 u v t.2.1 t.2.2.1 t.2.2.2.1 t.2.2.2.2.1 t.2.2.2.2.2.1 t.2.2.2.2.2.2
def hiOut (t:NT0):StateT SortSt Sem (ForInStep NT0):=do
 let t1 ← forIn [0:u.size + v.size] ((none,t.2.1,t.2.2.1,t.2.2.2.1,0,0):NT1) (fun _ t1=>hiLin u v t.2.2.2.2 t1)
 match t1.1 with
 | some z=>pure (.done (some z,t1.2.1,t1.2.2.1,t1.2.2.2.1,t.2.2.2.2))
 | none=>do
  rule "list.sort.gallop"
  let t2 ← forIn [0:u.size + v.size] ((none,t1.2.1,t1.2.2.1,t1.2.2.2.1,t.2.2.2.2 + 1,t1.2.2.2.2.1,t1.2.2.2.2.2):NT2) (fun _ t2=>hi0 u v t2)
  match t2.1 with
  | some z=>pure (.done (some z,t2.2.1,t2.2.2.1,t2.2.2.2.1,t2.2.2.2.2.1))
  | none=>do
   setG (t2.2.2.2.2.1 + 1)
   pure (.yield (none,t2.2.1,t2.2.2.1,t2.2.2.2.1,t2.2.2.2.2.1 + 1))
def mhi:Array Keyed→Array Keyed→StateT SortSt Sem (Array Keyed):=sortPriv% PySem.Builtin.mergeHi
theorem mhi_eq0:mhi u v=(do
  rule "list.sort.merge-hi"
  let fullEnd (r:Array Keyed) (p q:Nat):=u.extract 0 p ++ v.extract 0 q ++ r.reverse
  let firstV (r:Array Keyed) (p q:Nat):=v.extract 0 q ++ u.extract 0 p ++ r.reverse
  let mut p:=u.size - 1
  let mut q:=v.size
  let mut r:Array Keyed:=#[← elem' u p]
  if p == 0 then return fullEnd r p q
  if q == 1 then return firstV r p q
  let mut g:=gallopOf (← get)
  for _ in [0:u.size + v.size] do
   let mut cu:=0
   let mut cv:=0
   for _ in [0:u.size + v.size] do
    let some less ← lt' (← elem' v (q - 1)) (← elem' u (p - 1)) | return fullEnd r p q
    if less then
     p:=p - 1; r:=r.push (← elem' u p); cu:=cu + 1; cv:=0
     if p == 0 then return fullEnd r p q
     if cu ≥ g then break
    else
     q:=q - 1; r:=r.push (← elem' v q); cv:=cv + 1; cu:=0
     if q == 1 then return firstV r p q
     if cv ≥ g then break
   rule "list.sort.gallop"
   g:=g + 1
   for _ in [0:u.size + v.size] do
    if g > 1 then g:=g - 1
    setG g
    let some m ← gal false (← elem' v (q - 1)) u 0 p (p - 1) | return fullEnd r p q
    let k:=p - m
    cu:=k
    if k > 0 then
     r:=r ++ (u.extract m p).reverse; p:=m
     if p == 0 then return fullEnd r p q
    q:=q - 1; r:=r.push (← elem' v q)
    if q == 1 then return firstV r p q
    let some m ← gal true (← elem' u (p - 1)) v 0 q (q - 1) | return fullEnd r p q
    let k:=q - m
    cv:=k
    if k > 0 then
     r:=r ++ (v.extract m q).reverse; q:=m
     if q == 1 then return firstV r p q
     if q == 0 then return fullEnd r p q
    p:=p - 1; r:=r.push (← elem' u p)
    if p == 0 then return fullEnd r p q
    if cu < 7 && cv < 7 then break
   g:=g + 1
   setG g
  unsupported "internal:list.sort.merge-bound"):=rfl
theorem mhi_eq:mhi u v=(do
  rule "list.sort.merge-hi"
  let x ← elem' u (u.size - 1)
  if u.size - 1 == 0 then pure (hiU u v (u.size - 1) v.size #[x])
  else if v.size == 1 then pure (hiV u v (u.size - 1) v.size #[x])
  else do
   let st ← get
   let t ← forIn [0:u.size + v.size] ((none,u.size - 1,v.size,#[x],gallopOf st):NT0) (fun _ t=>hiOut u v t)
   match t.1 with
   | some z=>pure z
   | none=>unsupported "internal:list.sort.merge-bound"):=by
 rw [mhi_eq0]
 dsimp only [hiOut,hi0,hi1,hi2,hi3,hi4,hiLin,hiU,hiV]
 refine bind_congr fun _=>bind_congr fun y=>?_
 refine ite_congr rfl (fun _=>rfl) fun _=>ite_congr rfl (fun _=>rfl) fun _=>?_
 refine bind_congr fun st=>?_
 refine bind2 (congrArg (forIn _ _) (funext fun x=>funext fun t=>?_)) ?_
 ·refine bind2 (congrArg (forIn _ _) (funext fun x=>funext fun t1=>?_)) (funext fun t1=>?_)
  ·refine bind_congr fun y=>bind_congr fun x=>bind_congr fun z=>?_
   cases z with
   | none=>with_reducible rfl
   | some z=>cases z <;> with_reducible rfl
  ·obtain ⟨z,t1⟩:=t1
   cases z with
   | some z=>with_reducible rfl
   | none =>
    dsimp only
    refine bind_congr fun _=>?_
    refine bind2 (congrArg (forIn _ _) (funext fun x=>funext fun t2=>?_)) (funext fun t2=>?_)
    ·refine ite_congr rfl (fun _=>?_) (fun _=>?_)
     all_goals (refine bind_congr fun _=>bind_congr fun y=>bind_congr fun k=>?_)
     all_goals cases k
     ·with_reducible rfl
     ·refine ite_congr rfl (fun _=>ite_congr rfl (fun _=>rfl) fun _=>?_) (fun _=>?_)
      all_goals (refine bind_congr fun _=>ite_congr rfl (fun _=>rfl) fun _=>bind_congr fun _=>bind_congr fun k=>?_)
      all_goals cases k <;> with_reducible rfl
     ·with_reducible rfl
     ·refine ite_congr rfl (fun _=>ite_congr rfl (fun _=>rfl) fun _=>?_) (fun _=>?_)
      all_goals (refine bind_congr fun _=>ite_congr rfl (fun _=>rfl) fun _=>bind_congr fun _=>bind_congr fun k=>?_)
      all_goals cases k <;> with_reducible rfl
    ·obtain ⟨z,t2⟩:=t2
     cases z <;> with_reducible rfl
 ·funext t
  obtain ⟨z,t⟩:=t
  cases z <;> with_reducible rfl
end
section
variable {M:Model} {A:Around} {E:Value→Shared→Prop} {s:Shared} {kd:SortKind}
structure Ord.Hg (o:Ord M A E s kd) (la lb out:List Keyed) (i j:Nat):Prop where
 perm:out.Perm (la.drop i ++ lb.drop j)
 up:out.Pairwise o.le
 la:∀ x∈out,∀ y∈la.take i,o.le y x
 lb:∀ x∈out,∀ y∈lb.take j,o.le y x
section
variable {o:Ord M A E s kd} {la lb out:List Keyed} {i j k:Nat}
theorem Ord.Hg.manyA (m:o.Hg la lb out i j) (ua:la.Pairwise o.le) (hk:k≤i) (h:∀ x∈(la.take i).drop k,∀ y∈lb.take j,o.le y x):o.Hg la lb ((la.take i).drop k ++ out) k j:=by
 have ut:(la.take i).Pairwise o.le:=ua.sublist (List.take_sublist _ _)
 have et:la.take k ++ (la.take i).drop k=la.take i:=by
  have:=List.take_append_drop k (la.take i)
  rwa [List.take_take,Nat.min_eq_left hk] at this
 have ed:(la.take i).drop k ++ la.drop i=la.drop k:=by
  have:(la.take i ++ la.drop i).drop k=la.drop k:=by rw [List.take_append_drop]
  rw [← this,List.drop_append]
  by_cases hl:k≤(la.take i).length
  ·rw [Nat.sub_eq_zero_of_le hl,List.drop_zero]
  ·have hl':la.length < k:=by
    rw [List.length_take] at hl
    omega
   rw [List.drop_eq_nil_of_le (show (la.take i).length≤k by rw [List.length_take]; omega),List.drop_eq_nil_of_le (show la.length≤i by omega)]
   simp
 refine ⟨?_,?_,?_,?_⟩
 ·rw [← ed,List.append_assoc]
  exact List.Perm.append_left _ m.perm
 ·exact List.pairwise_append.mpr ⟨ut.sublist (List.drop_sublist _ _),m.up,fun x hx y hy=>m.la y hy x (List.mem_of_mem_drop hx)⟩
 ·intro x hx y hy
  rcases List.mem_append.mp hx with hx | hx
  ·rw [← et] at ut
   exact (List.pairwise_append.mp ut).2.2 y hy x hx
  ·exact m.la x hx y (by rw [← et]; exact List.mem_append_left _ hy)
 ·intro x hx y hy
  rcases List.mem_append.mp hx with hx | hx
  ·exact h x hx y hy
  ·exact m.lb x hx y hy
theorem Ord.Hg.swap (m:o.Hg la lb out i j):o.Hg lb la out j i:=⟨m.perm.trans List.perm_append_comm,m.up,m.lb,m.la⟩
theorem Ord.Hg.manyB (m:o.Hg la lb out i j) (ub:lb.Pairwise o.le) (hk:k≤j) (h:∀ x∈(lb.take j).drop k,∀ y∈la.take i,o.le y x):o.Hg la lb ((lb.take j).drop k ++ out) i k:=(m.swap.manyA ub hk h).swap
theorem Ord.Hg.endA (m:o.Hg la lb out i j) (ua:la.Pairwise o.le) (ub:lb.Pairwise o.le) (h:∀ x∈la.take i,∀ y∈lb.take j,o.le x y):o.Merged la lb (la.take i ++ lb.take j ++ out):=by
 refine ⟨?_,?_⟩
 ·refine (List.Perm.append_left _ m.perm).trans ?_
  have e1:la=la.take i ++ la.drop i:=(List.take_append_drop _ _).symm
  have e2:lb=lb.take j ++ lb.drop j:=(List.take_append_drop _ _).symm
  refine List.Perm.trans ?_ (show (la.take i ++ la.drop i ++ (lb.take j ++ lb.drop j)).Perm (la ++ lb) by rw [← e1,← e2])
  simp only [List.append_assoc]
  refine List.Perm.append_left _ ?_
  rw [← List.append_assoc,← List.append_assoc]
  exact List.Perm.append_right _ List.perm_append_comm
 ·refine List.pairwise_append.mpr ⟨List.pairwise_append.mpr ⟨ua.sublist (List.take_sublist _ _),ub.sublist (List.take_sublist _ _),h⟩,m.up,fun x hx y hy=>?_⟩
  rcases List.mem_append.mp hx with hx | hx
  ·exact m.la y hy x hx
  ·exact m.lb y hy x hx
theorem Ord.Hg.endB (m:o.Hg la lb out i j) (ua:la.Pairwise o.le) (ub:lb.Pairwise o.le) (h:∀ x∈lb.take j,∀ y∈la.take i,o.le x y):o.Merged la lb (lb.take j ++ la.take i ++ out):=(m.swap.endA ub ua h).swap
end
theorem x0 {u:Array Keyed} {p:Nat}:(u.extract 0 p).toList=u.toList.take p:=by
 rw [Array.toList_extract]
 show (u.toList.drop 0).take (p - 0)=_
 simp
theorem xd {u:Array Keyed} {k p:Nat}:(u.extract k p).toList=(u.toList.take p).drop k:=by
 rw [Array.toList_extract,List.drop_take]
theorem mem_upto {u:Array Keyed} {p:Nat} {y:Keyed} (h:y∈u.toList.take p):∃ i,i < p∧u[i]?=some y:=by
 obtain ⟨i,hi,e⟩:=mem_take_iff (u:=u) (p:=0) (k:=p) (by simpa using h)
 exact ⟨i,hi,by simpa using e⟩
theorem mem_seg {u:Array Keyed} {k p:Nat} {y:Keyed} (h:y∈(u.toList.take p).drop k):∃ i,k≤i∧i < p∧u[i]?=some y:=by
 obtain ⟨n,e⟩:=List.mem_iff_getElem?.mp h
 rw [List.getElem?_drop,List.getElem?_take] at e
 split at e
 ·exact ⟨k + n,by omega,by assumption,by simpa using e⟩
 ·cases e
theorem seg1 {u:Array Keyed} {p:Nat} {x:Keyed} (h0:0 < p) (e:u[p - 1]?=some x):(u.toList.take p).drop (p - 1)=[x]:=by
 rw [List.drop_take,show p - (p - 1)=1 by omega]
 exact drop1 e
theorem last_ge {o:Ord M A E s kd} {u:Array Keyed} (uu:u.toList.Pairwise o.le) {p:Nat} {x:Keyed} (e:u[p - 1]?=some x):∀ y∈u.toList.take p,o.le y x:=fun y hy=>by
 obtain ⟨i,hi,ey⟩:=mem_upto hy
 exact up_at uu (by omega) ey e
section
variable (o:Ord M A E s kd) (u v:Array Keyed)
structure HiPre:Prop where
 gu:o.all u
 gv:o.all v
 uu:u.toList.Pairwise o.le
 uv:v.toList.Pairwise o.le
 h1:∀ x y,v[0]?=some x→y∈u.toList→o.le x y
def LiveH (p q:Nat) (r:Array Keyed):Prop:=o.Hg u.toList v.toList r.toList.reverse p q∧0 < p∧1 < q∧p≤u.size∧q≤v.size
end
variable {o:Ord M A E s kd} {u v:Array Keyed} {r:Array Keyed} {p q g cu cv c:Nat} {st:SortSt}
theorem Ord.Hg.pushA (m:o.Hg u.toList v.toList r.toList.reverse p q) (uu:u.toList.Pairwise o.le) (h0:0 < p) {x:Keyed} (e:u[p - 1]?=some x) (h:∀ y∈v.toList.take q,o.le y x):o.Hg u.toList v.toList (r.push x).toList.reverse (p - 1) q:=by
 have:=m.manyA (k:=p - 1) uu (by omega) (by rw [seg1 h0 e]; intro a ha y hy; rw [List.mem_singleton.mp ha]; exact h y hy)
 rw [seg1 h0 e] at this
 simpa using this
theorem Ord.Hg.pushB (m:o.Hg u.toList v.toList r.toList.reverse p q) (uv:v.toList.Pairwise o.le) (h0:0 < q) {y:Keyed} (e:v[q - 1]?=some y) (h:∀ x∈u.toList.take p,o.le x y):o.Hg u.toList v.toList (r.push y).toList.reverse p (q - 1):=by
 have:=m.manyB (k:=q - 1) uv (by omega) (by rw [seg1 h0 e]; intro a ha y hy; rw [List.mem_singleton.mp ha]; exact h y hy)
 rw [seg1 h0 e] at this
 simpa using this
theorem resHU (m:o.Hg u.toList v.toList r.toList.reverse p q) (uu:u.toList.Pairwise o.le) (uv:v.toList.Pairwise o.le) (h:p=0∨q=0):Res o u v (hiU u v p q r):=by
 unfold Res hiU
 rw [Array.toList_append,Array.toList_append,x0,x0,Array.toList_reverse]
 refine m.endA uu uv fun x hx y hy=>?_
 rcases h with rfl | rfl
 ·rw [List.take_zero] at hx; cases hx
 ·rw [List.take_zero] at hy; cases hy
theorem resHV (L:HiPre o u v) (m:o.Hg u.toList v.toList r.toList.reverse p q) (h:q=1):Res o u v (hiV u v p q r):=by
 unfold Res hiV
 rw [Array.toList_append,Array.toList_append,x0,x0,Array.toList_reverse]
 refine m.endB L.uu L.uv fun x hx y hy=>?_
 subst h
 obtain ⟨i,hi,ex⟩:=mem_upto hx
 have:i=0:=by omega
 subst this
 exact L.h1 x y ex (List.mem_of_mem_take hy)
def hlp (u v:Array Keyed) (o:Ord M A E s kd) (c:Nat):ForInStep NT1→Prop
 | .done (some z,_)=>Res o u v z
 | .done (none,p,q,r,_)=>LiveH o u v p q r∧p + q < c
 | .yield (some _,_)=>False
 | .yield (none,p,q,r,_)=>LiveH o u v p q r∧p + q < c
theorem wpS_hiLin (L:HiPre o u v) {a b:Nat} (hk:kindOf st=kd) (l:LiveH o u v p q r):wpS M A E s (hiLin u v g (none,p,q,r,a,b)) (fun t st'=>st'=st∧hlp u v o (p + q) t) st:=by
 obtain ⟨m,hp,hq,hpu,hqv⟩:=l
 obtain ⟨x,ex⟩:=at_lt (u:=u) (p:=p - 1) (by omega)
 obtain ⟨y,ey⟩:=at_lt (u:=v) (p:=q - 1) (by omega)
 unfold hiLin
 refine wpS_bind (wpS_elem ey (wpS_bind (wpS_elem ex (wpS_bind (o.lt hk (L.gv _ _ ey) (L.gu _ _ ex) ?_)))))
 dsimp only
 cases hb:o.O.blt (o.key y) (o.key x) with
 | true =>
  refine wpS_bind (wpS_elem ex ?_)
  have m':=m.pushA L.uu hp ex fun z hz=>o.le_trans (last_ge L.uv ey z hz) (o.le_of_b hb)
  by_cases h1:p - 1=0
  ·rw [if_pos (by simpa using h1)]
   exact wpS_pure ⟨rfl,resHU m' L.uu L.uv (.inl h1)⟩
  ·rw [if_neg (by simpa using h1)]
   split
   ·exact wpS_pure ⟨rfl,⟨m',by omega,hq,by omega,hqv⟩,by omega⟩
   ·exact wpS_pure ⟨rfl,⟨m',by omega,hq,by omega,hqv⟩,by omega⟩
 | false =>
  refine wpS_bind (wpS_elem ey ?_)
  have m':=m.pushB L.uv (by omega) ey fun z hz=>o.le_trans (last_ge L.uu ex z hz) (o.le_of_nb hb)
  by_cases h1:q - 1=1
  ·rw [if_pos (by simpa using h1)]
   exact wpS_pure ⟨rfl,resHV L m' h1⟩
  ·rw [if_neg (by simpa using h1)]
   split
   ·exact wpS_pure ⟨rfl,⟨m',hp,by omega,hpu,by omega⟩,by omega⟩
   ·exact wpS_pure ⟨rfl,⟨m',hp,by omega,hpu,by omega⟩,by omega⟩
def hgp (u v:Array Keyed) (o:Ord M A E s kd) (c:Nat):ForInStep NT2→Prop
 | .done (some z,_)=>Res o u v z
 | .done (none,p,q,r,_)=>LiveH o u v p q r∧p + q < c
 | .yield (some _,_)=>False
 | .yield (none,p,q,r,_)=>LiveH o u v p q r∧p + q < c
theorem wpS_hi4 (L:HiPre o u v) (l:LiveH o u v p q r) (hc:p + q≤c) {x:Keyed} (ex:u[p - 1]?=some x) (hx:∀ y∈v.toList.take q,o.le y x) :
  wpS M A E s (hi4 u v p q r g cu cv) (fun t st'=>st'=st∧hgp u v o c t) st:=by
 obtain ⟨m,hp,hq,hpu,hqv⟩:=l
 unfold hi4
 refine wpS_bind (wpS_elem ex ?_)
 have m':=m.pushA L.uu hp ex hx
 by_cases h1:p - 1=0
 ·rw [if_pos (by simpa using h1)]
  exact wpS_pure ⟨rfl,resHU m' L.uu L.uv (.inl h1)⟩
 ·rw [if_neg (by simpa using h1)]
  split
  ·exact wpS_pure ⟨rfl,⟨m',by omega,hq,by omega,hqv⟩,by omega⟩
  ·exact wpS_pure ⟨rfl,⟨m',by omega,hq,by omega,hqv⟩,by omega⟩
theorem wpS_hi3 (L:HiPre o u v) (hk:kindOf st=kd) (l:LiveH o u v p q r) (hc:p + q≤c) :
  wpS M A E s (hi3 u v p q r g cu cv) (fun t st'=>st'=st∧hgp u v o c t) st:=by
 obtain ⟨m,hp,hq,hpu,hqv⟩:=l
 unfold hi3
 obtain ⟨x,ex⟩:=at_lt (u:=u) (p:=p - 1) (by omega)
 refine wpS_bind (wpS_elem ex ?_)
 refine wpS_bind (wpS_gal o hk (L.gu _ _ ex) L.gv (by omega) (by omega) (up_of L.uv _ _) fun k hkn h1 h2=>?_)
 have rest:∀ y∈v.toList.take k,o.le y x:=fun y hy=>by
  obtain ⟨i,hi,ey⟩:=mem_upto hy
  exact o.le_of_b (h1 i y hi (by rw [Nat.zero_add]; exact ey))
 dsimp only
 split
 ·have m':=m.manyB (k:=k) L.uv hkn fun b hb a ha=>by
   obtain ⟨i,hi,hi2,eb⟩:=mem_seg hb
   exact o.le_trans (last_ge L.uu ex a ha) (o.le_of_nb (h2 i b hi hi2 (by rw [Nat.zero_add]; exact eb)))
  have m'':o.Hg u.toList v.toList (r ++ (v.extract k q).reverse).toList.reverse p k:=by
   rw [Array.toList_append,List.reverse_append,Array.toList_reverse,List.reverse_reverse,xd]; exact m'
  by_cases h3:k=1
  ·rw [if_pos (by simpa using h3)]
   exact wpS_pure ⟨rfl,resHV L m'' h3⟩
  ·rw [if_neg (by simpa using h3)]
   by_cases h4:k=0
   ·rw [if_pos (by simpa using h4)]
    exact wpS_pure ⟨rfl,resHU m'' L.uu L.uv (.inr h4)⟩
   ·rw [if_neg (by simpa using h4)]
    exact wpS_hi4 L ⟨m'',hp,by omega,hpu,by omega⟩ (by omega) ex rest
 ·have:k=q:=by omega
  subst this
  exact wpS_hi4 L ⟨m,hp,hq,hpu,hqv⟩ hc ex rest
theorem wpS_hi2 (L:HiPre o u v) (hk:kindOf st=kd) (l:LiveH o u v p q r) (hc:p + q≤c) {y:Keyed} (ey:v[q - 1]?=some y) (hy:∀ x∈u.toList.take p,o.le x y) :
  wpS M A E s (hi2 u v p q r g cu cv) (fun t st'=>st'=st∧hgp u v o c t) st:=by
 obtain ⟨m,hp,hq,hpu,hqv⟩:=l
 unfold hi2
 refine wpS_bind (wpS_elem ey ?_)
 have m':=m.pushB L.uv (by omega) ey hy
 by_cases h1:q - 1=1
 ·rw [if_pos (by simpa using h1)]
  exact wpS_pure ⟨rfl,resHV L m' h1⟩
 ·rw [if_neg (by simpa using h1)]
  exact wpS_hi3 L hk ⟨m',hp,by omega,hpu,by omega⟩ (by omega)
theorem wpS_hi1 (L:HiPre o u v) {st0:SortSt} (hs:Gs st0 st) (hk:kindOf st0=kd) (l:LiveH o u v p q r) :
  wpS M A E s (hi1 u v p q r g cu cv) (fun t st'=>Gs st0 st'∧hgp u v o (p + q) t) st:=by
 obtain ⟨m,hp,hq,hpu,hqv⟩:=id l
 unfold hi1
 refine wpS_bind (wpS_setG hs fun st2 hs2=>?_)
 have hk2:kindOf st2=kd:=hs2.k.trans hk
 obtain ⟨y,ey⟩:=at_lt (u:=v) (p:=q - 1) (by omega)
 refine wpS_bind (wpS_elem ey ?_)
 refine wpS_bind (wpS_gal o hk2 (L.gv _ _ ey) L.gu (by omega) (by omega) (up_of L.uu _ _) fun k hkn h1 h2=>?_)
 have rest:∀ x∈u.toList.take k,o.le x y:=fun x hx=>by
  obtain ⟨i,hi,ex⟩:=mem_upto hx
  have z:=h1 i x hi (by rw [Nat.zero_add]; exact ex)
  have z':o.b y x=false:=by simpa [Ord.byB] using z
  exact o.le_of_nb z'
 dsimp only
 split
 ·have m':=m.manyA (k:=k) L.uu hkn fun a ha b hb=>by
   obtain ⟨i,hi,hi2,ea⟩:=mem_seg ha
   have z:=h2 i a hi hi2 (by rw [Nat.zero_add]; exact ea)
   have z':o.b y a=true:=by simpa [Ord.byB] using z
   exact o.le_trans (last_ge L.uv ey b hb) (o.le_of_b z')
  have m'':o.Hg u.toList v.toList (r ++ (u.extract k p).reverse).toList.reverse k q:=by
   rw [Array.toList_append,List.reverse_append,Array.toList_reverse,List.reverse_reverse,xd]; exact m'
  by_cases h4:k=0
  ·rw [if_pos (by simpa using h4)]
   exact wpS_pure ⟨hs2,resHU m'' L.uu L.uv (.inl h4)⟩
  ·rw [if_neg (by simpa using h4)]
   exact wpS_mono (wpS_hi2 L hk2 ⟨m'',by omega,hq,by omega,hqv⟩ (by omega) ey rest) fun t st' ⟨e,z⟩=>⟨e ▸ hs2,z⟩
 ·have:k=p:=by omega
  subst this
  exact wpS_mono (wpS_hi2 L hk2 l (by omega) ey rest) fun t st' ⟨e,z⟩=>⟨e ▸ hs2,z⟩
theorem wpS_hi0 (L:HiPre o u v) {st0:SortSt} (hs:Gs st0 st) (hk:kindOf st0=kd) (l:LiveH o u v p q r) :
  wpS M A E s (hi0 u v (none,p,q,r,g,cu,cv)) (fun t st'=>Gs st0 st'∧hgp u v o (p + q) t) st:=by
 unfold hi0
 split
 ·exact wpS_hi1 L hs hk l
 ·exact wpS_hi1 L hs hk l
def hop (u v:Array Keyed) (o:Ord M A E s kd) (c:Nat):ForInStep NT0→Prop
 | .done (some z,_)=>Res o u v z
 | .done (none,_)=>False
 | .yield (some _,_)=>False
 | .yield (none,p,q,r,_)=>LiveH o u v p q r∧p + q < c
theorem wpS_hiOut (L:HiPre o u v) {st0:SortSt} (hs:Gs st0 st) (hk:kindOf st0=kd) (l:LiveH o u v p q r) :
  wpS M A E s (hiOut u v (none,p,q,r,g)) (fun t st'=>Gs st0 st'∧hop u v o (p + q) t) st:=by
 unfold hiOut
 have hk1:kindOf st=kd:=hs.k.trans hk
 have hpos:0 < u.size + v.size:=by have:=l.2.2.2.1; have:=l.2.1; omega
 refine wpS_bind (wpS_mono (wpS_forRange (I:=fun i t st'=>st'=st∧∃ p1 q1 r1 a b,t=(none,p1,q1,r1,a,b)∧LiveH o u v p1 q1 r1∧p1 + q1 + i≤p + q)
  (Q:=fun t st'=>st'=st∧((∃ z t',t=(some z,t')∧Res o u v z)∨∃ p1 q1 r1 a b,t=(none,p1,q1,r1,a,b)∧LiveH o u v p1 q1 r1∧p1 + q1 < p + q)) ?step ?fin ⟨rfl,p,q,r,0,0,rfl,l,by omega⟩) ?post)
 case fin =>
  rintro t st' ⟨rfl,p1,q1,r1,a,b,rfl,l1,hc⟩
  exact ⟨rfl,.inr ⟨p1,q1,r1,a,b,rfl,l1,by omega⟩⟩
 case step =>
  rintro i t st' _ hi ⟨rfl,p1,q1,r1,a,b,rfl,l1,hc⟩
  refine wpS_mono (wpS_hiLin L hk1 l1) fun t st'' ⟨e,z⟩=>?_
  subst e
  match t,z with
  | .done (some z,t'),hz=>exact ⟨rfl,.inl ⟨z,t',rfl,hz⟩⟩
  | .done (none,p2,q2,r2,a2,b2),hz=>exact ⟨rfl,.inr ⟨p2,q2,r2,a2,b2,rfl,hz.1,by have:=hz.2; omega⟩⟩
  | .yield (none,p2,q2,r2,a2,b2),hz=>exact ⟨rfl,p2,q2,r2,a2,b2,rfl,hz.1,by have:=hz.2; omega⟩
 case post =>
  rintro t st' ⟨rfl,⟨z,t',rfl,hz⟩ | ⟨p1,q1,r1,a,b,rfl,l1,hc⟩⟩
  ·exact wpS_pure ⟨hs,hz⟩
  ·dsimp only
   refine wpS_bind (wpS_lift (wpAny_rule ⟨rfl,?_⟩))
   refine wpS_bind (wpS_mono (wpS_forRange (I:=fun i t st2=>Gs st0 st2∧∃ p2 q2 r2 g2 a b,t=(none,p2,q2,r2,g2,a,b)∧LiveH o u v p2 q2 r2∧p2 + q2 < p + q)
    (Q:=fun t st2=>Gs st0 st2∧((∃ z t',t=(some z,t')∧Res o u v z)∨∃ p2 q2 r2 g2 a b,t=(none,p2,q2,r2,g2,a,b)∧LiveH o u v p2 q2 r2∧p2 + q2 < p + q)) ?step2 ?fin2 ⟨hs,p1,q1,r1,_,_,_,rfl,l1,hc⟩) ?post2)
   case fin2 =>
    rintro t st2 ⟨hs2,p2,q2,r2,g2,a,b,rfl,l2,hc2⟩
    exact ⟨hs2,.inr ⟨p2,q2,r2,g2,a,b,rfl,l2,hc2⟩⟩
   case step2 =>
    rintro i t st2 _ hi ⟨hs2,p2,q2,r2,g2,a,b,rfl,l2,hc2⟩
    refine wpS_mono (wpS_hi0 L hs2 hk l2) fun t st3 ⟨hs3,z⟩=>?_
    match t,z with
    | .done (some z,t'),hz=>exact ⟨hs3,.inl ⟨z,t',rfl,hz⟩⟩
    | .done (none,p3,q3,r3,g3,a3,b3),hz=>exact ⟨hs3,.inr ⟨p3,q3,r3,g3,a3,b3,rfl,hz.1,by have:=hz.2; omega⟩⟩
    | .yield (none,p3,q3,r3,g3,a3,b3),hz=>exact ⟨hs3,p3,q3,r3,g3,a3,b3,rfl,hz.1,by have:=hz.2; omega⟩
   case post2 =>
    rintro t st2 ⟨hs2,⟨z,t',rfl,hz⟩ | ⟨p2,q2,r2,g2,a,b,rfl,l2,hc2⟩⟩
    ·exact wpS_pure ⟨hs2,hz⟩
    ·exact wpS_bind (wpS_setG hs2 fun st3 hs3=>wpS_pure ⟨hs3,l2,hc2⟩)
theorem wpS_mhi (L:HiPre o u v) {Q:Array Keyed→SortSt→Prop} (hk:kindOf st=kd) (hu:0 < u.size) (hv:0 < v.size)
  (h2:∀ x y,x∈v.toList→u[u.size - 1]?=some y→o.le x y) (h:∀ st' out,Gs st st'→o.Merged u.toList v.toList out.toList→Q out st'):wpS M A E s (mhi u v) Q st:=by
 rw [mhi_eq]
 refine wpS_bind (wpS_lift (wpAny_rule ⟨rfl,?_⟩))
 obtain ⟨x,ex⟩:=at_lt (u:=u) (p:=u.size - 1) (by omega)
 refine wpS_bind (wpS_elem ex ?_)
 have m0:o.Hg u.toList v.toList (#[]:Array Keyed).toList.reverse u.size v.size:=⟨by simp,by simp,by simp,by simp⟩
 have m:o.Hg u.toList v.toList (#[x]:Array Keyed).toList.reverse (u.size - 1) v.size:=by
  have:=m0.pushA L.uu hu ex (fun y hy=>h2 y x (List.mem_of_mem_take hy) ex)
  simpa using this
 by_cases h3:u.size - 1=0
 ·rw [if_pos (by simpa using h3)]
  exact wpS_pure (h _ _ (.refl _) (resHU m L.uu L.uv (.inl h3)))
 ·rw [if_neg (by simpa using h3)]
  by_cases h4:v.size=1
  ·rw [if_pos (by simpa using h4)]
   exact wpS_pure (h _ _ (.refl _) (resHV L m h4))
  ·rw [if_neg (by simpa using h4)]
   refine wpS_bind (wpS_get ?_)
   refine wpS_bind (wpS_mono (wpS_forRange (I:=fun i t st2=>Gs st st2∧∃ p2 q2 r2 g2,t=(none,p2,q2,r2,g2)∧LiveH o u v p2 q2 r2∧p2 + q2 + i < u.size + v.size)
    (Q:=fun t st2=>Gs st st2∧∃ z t',t=(some z,t')∧Res o u v z) ?step ?fin ⟨.refl _,u.size - 1,v.size,_,_,rfl,⟨m,by omega,by omega,by omega,by omega⟩,by omega⟩) ?post)
   case fin =>
    rintro t st2 ⟨hs2,p2,q2,r2,g2,rfl,l2,hc⟩
    omega
   case step =>
    rintro i t st2 _ hi ⟨hs2,p2,q2,r2,g2,rfl,l2,hc⟩
    refine wpS_mono (wpS_hiOut L hs2 hk l2) fun t st3 ⟨hs3,z⟩=>?_
    match t,z with
    | .done (some z,t'),hz=>exact ⟨hs3,z,t',rfl,hz⟩
    | .yield (none,p3,q3,r3,g3),hz=>exact ⟨hs3,p3,q3,r3,g3,rfl,hz.1,by have:=hz.2; omega⟩
   case post =>
    rintro t st2 ⟨hs2,z,t',rfl,hz⟩
    exact wpS_pure (h _ _ hs2 hz)
end
section
theorem splice_go:∀ (zs:List Keyed) (n L:Nat) (xs:Array Keyed),L + n + zs.length≤xs.size →
  ((zs.zipIdx n).foldl (fun a (pj:Keyed×Nat)=>a.setIfInBounds (L + pj.2) pj.1) xs).toList=xs.toList.take (L + n) ++ zs ++ xs.toList.drop (L + n + zs.length)
 | [],n,L,xs,h=>by simp
 | z :: zs,n,L,xs,h=>by
  rw [List.zipIdx_cons,List.foldl_cons]
  simp only [List.length_cons] at h
  rw [splice_go zs (n + 1) L (xs.setIfInBounds (L + n) z) (by rw [Array.size_setIfInBounds]; omega)]
  have hlt:L + n < xs.toList.length:=by rw [Array.length_toList]; omega
  rw [Array.toList_setIfInBounds]
  have e1:(xs.toList.set (L + n) z).take (L + (n + 1))=xs.toList.take (L + n) ++ [z]:=by
   rw [show L + (n + 1)=(L + n) + 1 by omega,List.take_succ,List.take_set,List.getElem?_set_self hlt]
   congr 1
   exact List.set_eq_of_length_le (by rw [List.length_take]; omega)
  have e2:(xs.toList.set (L + n) z).drop (L + (n + 1) + zs.length)=xs.toList.drop (L + n + (z :: zs).length):=by
   rw [List.drop_set_of_lt (by omega),List.length_cons]
   congr 1
   omega
  rw [e1,e2]
  simp
theorem splice (zs xs:Array Keyed) (L:Nat) (h:L + zs.size≤xs.size) :
  (zs.toList.zipIdx.foldl (fun a (pj:Keyed×Nat)=>a.setIfInBounds (L + pj.2) pj.1) xs).toList=xs.toList.take L ++ zs.toList ++ xs.toList.drop (L + zs.size):=by
 have:=splice_go zs.toList 0 L xs (by rw [Array.length_toList]; omega)
 simpa using this
end
section
variable {M:Model} {A:Around} {E:Value→Shared→Prop} {s:Shared} {kd:SortKind} {o:Ord M A E s kd}
theorem at_mid {xs:Array Keyed} {pre B post:List Keyed} (e:xs.toList=pre ++ B ++ post) {i:Nat} (hi:i < B.length):xs[pre.length + i]?=B[i]?:=by
 have:xs.toList[pre.length + i]?=B[i]?:=by
  rw [e,List.append_assoc,List.getElem?_append_right (by omega),Nat.add_sub_cancel_left,List.getElem?_append_left hi]
 rw [← this]; simp
theorem size_mid {xs:Array Keyed} {l:List Keyed} (e:xs.toList=l):xs.size=l.length:=by rw [← e]; simp
theorem up_mid {xs:Array Keyed} {pre B post:List Keyed} (e:xs.toList=pre ++ B ++ post) (ub:B.Pairwise o.le):o.up xs pre.length (pre.length + B.length):=fun i j x y h1 h2 h3 ex ey=>by
 have ex':=at_mid e (i:=i - pre.length) (by omega)
 have ey':=at_mid e (i:=j - pre.length) (by omega)
 rw [show pre.length + (i - pre.length)=i by omega,ex] at ex'
 rw [show pre.length + (j - pre.length)=j by omega,ey] at ey'
 have bu:(B.toArray).toList.Pairwise o.le:=by simpa using ub
 exact up_at (u:=B.toArray) bu (i:=i - pre.length) (j:=j - pre.length) (by omega) (by simpa using ex'.symm) (by simpa using ey'.symm)
def mAt:Nat→StateT SortSt Sem Bool:=sortPriv% PySem.Builtin.mergeAt
theorem mAt_eq (i:Nat):mAt i=(do
  let st ← get
  let (some (p,n,pw),some (q,m,_)):=((pendingOf st)[i]?,(pendingOf st)[i + 1]?) | unsupported "internal:list.sort.pending"
  set (SortSt.mk' (kindOf st) (arrOf st) (((pendingOf st).setIfInBounds i (p,n + m,pw)).eraseIdxIfInBounds (i + 1)) (gallopOf st) (failedOf st))
  let some k ← gal false (← elem' (arrOf st) q) (arrOf st) p n 0 | return false
  let (p,n):=(p + k,n - k)
  if n == 0 then return true
  let some m ← gal true (← elem' (arrOf st) (p + n - 1)) (arrOf st) q m (m - 1) | return false
  if m == 0 then return true
  let x:=(arrOf st).extract p q
  let y:=(arrOf st).extract q (q + m)
  let z ← if n≤m then mlo x y else mhi x y
  modify fun st=>setArr st (z.toList.zipIdx.foldl (fun a (pj:Keyed×Nat)=>a.setIfInBounds (p + pj.2) pj.1) (arrOf st))
  return (failedOf (← get)).isNone):=rfl
end
section
variable {M:Model} {A:Around} {E:Value→Shared→Prop} {s:Shared} {kd:SortKind} {o:Ord M A E s kd}
theorem wpS_set {σ:Type} {st st2:σ} {Q:PUnit→σ→Prop} (h:Q ⟨⟩ st2):wpS M A E s (set st2:StateT σ Sem PUnit) Q st:=by
 unfold wpS; rw [StateT.run_set]; exact wpAny_pure ⟨rfl,h⟩
theorem mem_ix {l:List Keyed} {x:Keyed} (h:x∈l):∃ i,i < l.length∧l[i]?=some x:=by
 obtain ⟨i,e⟩:=List.mem_iff_getElem?.mp h
 exact ⟨i,(List.getElem?_eq_some_iff.mp e).1,e⟩
theorem wpS_mAt {st:SortSt} {i:Nat} {Q:Bool→SortSt→Prop} {pre B C post:List Keyed} {P1 P2:List (Nat×Nat×Nat)} {pw pw2:Nat} (hk:kindOf st=kd) (hf:failedOf st=none) (ga:o.all (arrOf st))
  (e:(arrOf st).toList=pre ++ B ++ C ++ post) (uB:B.Pairwise o.le) (uC:C.Pairwise o.le) (hB:0 < B.length) (hC:0 < C.length)
  (ep:(pendingOf st).toList=P1 ++ (pre.length,B.length,pw) :: (pre.length + B.length,C.length,pw2) :: P2) (hi:i=P1.length)
  (h:∀ st' D,kindOf st'=kd→failedOf st'=none→(arrOf st').toList=pre ++ D ++ post→D.Pairwise o.le→D.Perm (B ++ C)→(pendingOf st').toList=P1 ++ (pre.length,B.length + C.length,pw) :: P2→Q true st') :
  wpS M A E s (mAt i) Q st:=by
 subst hi
 have g1:(pendingOf st)[P1.length]?=some (pre.length,B.length,pw):=by
  rw [← Array.getElem?_toList,ep]; simp
 have g2:(pendingOf st)[P1.length + 1]?=some (pre.length + B.length,C.length,pw2):=by
  rw [← Array.getElem?_toList,ep,List.getElem?_append_right (by omega)]; simp
 rw [mAt_eq]
 refine wpS_bind (wpS_get ?_)
 rw [g1,g2]
 dsimp only
 refine wpS_bind (wpS_set ?_)
 have pp:(((pendingOf st).setIfInBounds P1.length (pre.length,B.length + C.length,pw)).eraseIdxIfInBounds (P1.length + 1)).toList=P1 ++ (pre.length,B.length + C.length,pw) :: P2:=by
  rw [Array.toList_eraseIdxIfInBounds,Array.toList_setIfInBounds,ep,List.set_append_right _ _ (Nat.le_refl _),Nat.sub_self,List.set_cons_zero,List.eraseIdx_append_of_length_le (by omega),Nat.add_sub_cancel_left]
  rfl
 have eB:(arrOf st).toList=pre ++ B ++ (C ++ post):=by rw [e]; simp
 have eC:(arrOf st).toList=(pre ++ B) ++ C ++ post:=e
 have lB:(pre ++ B).length=pre.length + B.length:=by simp
 have sz:=size_mid e
 simp only [List.length_append] at sz
 have aB:∀ j,j < B.length→(arrOf st)[pre.length + j]?=B[j]?:=fun j hj=>at_mid eB hj
 have aC:∀ j,j < C.length→(arrOf st)[pre.length + B.length + j]?=C[j]?:=fun j hj=>by have:=at_mid eC hj; rwa [lB] at this
 have gB:∀ x∈B,o.G x:=fun x hx=>by
  obtain ⟨j,hj,ej⟩:=mem_ix hx
  exact ga _ x ((aB j hj).trans ej)
 have gC:∀ x∈C,o.G x:=fun x hx=>by
  obtain ⟨j,hj,ej⟩:=mem_ix hx
  exact ga _ x ((aC j hj).trans ej)
 obtain ⟨c0,ec0⟩:∃ c,C[0]?=some c:=⟨C[0],List.getElem?_eq_getElem hC⟩
 have ac0:(arrOf st)[pre.length + B.length]?=some c0:=by have:=aC 0 hC; rw [Nat.add_zero] at this; rw [this,ec0]
 have c0C:∀ c∈C,o.le c0 c:=fun c hc=>head_le (u:=C.toArray) (by simpa using uC) (p:=0) (x:=c0) (by simpa using ec0) c (by simpa using hc)
 refine wpS_bind (wpS_elem ac0 ?_)
 refine wpS_bind (wpS_gal o (by exact hk) (gC _ (List.mem_of_getElem? ec0)) ga (by omega) hB (up_mid eB uB) fun k hkn k1 k2=>?_)
 have lo1:∀ x∈B.take k,o.le x c0:=fun x hx=>by
  obtain ⟨j,hj,ej⟩:=mem_ix hx
  rw [List.length_take] at hj
  rw [List.getElem?_take,if_pos (by omega)] at ej
  have z:=k1 j x (by omega) ((aB j (by omega)).trans ej)
  have z':o.b c0 x=false:=by simpa [Ord.byB] using z
  exact o.le_of_nb z'
 have hi1:∀ x∈B.drop k,o.le c0 x:=fun x hx=>by
  obtain ⟨j,hj,ej⟩:=mem_ix hx
  rw [List.length_drop] at hj
  rw [List.getElem?_drop] at ej
  have z:=k2 (k + j) x (by omega) (by omega) ((aB (k + j) (by omega)).trans ej)
  exact o.le_of_b (by simpa [Ord.byB] using z)
 dsimp only
 by_cases hn:B.length - k=0
 ·rw [if_pos (by simpa using hn)]
  refine wpS_pure (h _ (B ++ C) hk hf (by rw [e]; simp) (List.pairwise_append.mpr ⟨uB,uC,fun x hx y hy=>?_⟩) (List.Perm.refl _) pp)
  rw [← List.take_of_length_le (show B.length≤k by omega)] at hx
  exact o.le_trans (lo1 x hx) (c0C y hy)
 ·rw [if_neg (by simpa using hn)]
  obtain ⟨bl,ebl⟩:∃ b,B[B.length - 1]?=some b:=⟨B[B.length - 1],List.getElem?_eq_getElem (by omega)⟩
  have abl:(arrOf st)[pre.length + k + (B.length - k) - 1]?=some bl:=by
   rw [show pre.length + k + (B.length - k) - 1=pre.length + (B.length - 1) by omega,aB _ (by omega),ebl]
  have Bbl:∀ b∈B,o.le b bl:=fun b hb=>last_ge (u:=B.toArray) (by simpa using uB) (p:=B.length) (x:=bl) (by simpa using ebl) b (by simpa using hb)
  refine wpS_bind (wpS_elem abl ?_)
  have upC:=up_mid eC uC
  rw [lB] at upC
  refine wpS_bind (wpS_gal o (by exact hk) (gB _ (List.mem_of_getElem? ebl)) ga (by omega) (by omega) upC fun m hmn m1 m2=>?_)
  have lo2:∀ x∈C.take m,o.le x bl:=fun x hx=>by
   obtain ⟨j,hj,ej⟩:=mem_ix hx
   rw [List.length_take] at hj
   rw [List.getElem?_take,if_pos (by omega)] at ej
   exact o.le_of_b (m1 j x (by omega) ((aC j (by omega)).trans ej))
  have hi2:∀ x∈C.drop m,o.le bl x:=fun x hx=>by
   obtain ⟨j,hj,ej⟩:=mem_ix hx
   rw [List.length_drop] at hj
   rw [List.getElem?_drop] at ej
   exact o.le_of_nb (m2 (m + j) x (by omega) (by omega) ((aC (m + j) (by omega)).trans ej))
  dsimp only
  by_cases hm:m=0
  ·rw [if_pos (by simpa using hm)]
   subst hm
   refine wpS_pure (h _ (B ++ C) hk hf (by rw [e]; simp) (List.pairwise_append.mpr ⟨uB,uC,fun x hx y hy=>?_⟩) (List.Perm.refl _) pp)
   exact o.le_trans (Bbl x hx) (hi2 y (by simpa using hy))
  ·rw [if_neg (by simpa using hm)]
   generalize hX:(arrOf st).extract (pre.length + k) (pre.length + B.length)=X
   generalize hY:(arrOf st).extract (pre.length + B.length) (pre.length + B.length + m)=Y
   have lX:X.toList=B.drop k:=by
    rw [← hX,xd,eB,← lB,List.take_left,List.drop_append,List.drop_eq_nil_of_le (by omega),Nat.add_sub_cancel_left,List.nil_append]
   have lY:Y.toList=C.take m:=by
    rw [← hY,xk,eC,← lB,List.append_assoc,List.drop_left,List.take_append_of_le_length (by omega)]
   have szX:X.size=B.length - k:=by rw [size_mid lX,List.length_drop]
   have szY:Y.size=m:=by rw [size_mid lY,List.length_take]; omega
   have gX:o.all X:=fun i x ex=>gB x (List.mem_of_mem_drop (by rw [← lX]; exact Array.mem_toList_iff.mpr (Array.mem_of_getElem? ex)))
   have gY:o.all Y:=fun i x ex=>gC x (List.mem_of_mem_take (by rw [← lY]; exact Array.mem_toList_iff.mpr (Array.mem_of_getElem? ex)))
   have uX:X.toList.Pairwise o.le:=by rw [lX]; exact uB.sublist (List.drop_sublist _ _)
   have uY:Y.toList.Pairwise o.le:=by rw [lY]; exact uC.sublist (List.take_sublist _ _)
   have p1:∀ x y,Y[0]?=some x→y∈X.toList→o.le x y:=fun x y ex hy=>by
    have:x=c0:=by
     have e1:Y.toList[0]?=some x:=by simpa using ex
     rw [lY,List.getElem?_take,if_pos (by omega),ec0] at e1
     exact (Option.some.inj e1).symm
    rw [this]
    exact hi1 y (by rw [← lX]; exact hy)
   have p2:∀ x y,x∈Y.toList→X[X.size - 1]?=some y→o.le x y:=fun x y hx ey=>by
    have:y=bl:=by
     have e1:X.toList[X.size - 1]?=some y:=by simpa using ey
     rw [lX,List.getElem?_drop,szX,show k + (B.length - k - 1)=B.length - 1 by omega,ebl] at e1
     exact (Option.some.inj e1).symm
    rw [this]
    exact lo2 x (by rw [← lY]; exact hx)
   have fin:∀ (st':SortSt) (out:Array Keyed),kindOf st'=kd→arrOf st'=arrOf st→(pendingOf st').toList=P1 ++ (pre.length,B.length + C.length,pw) :: P2→failedOf st'=none→o.Merged X.toList Y.toList out.toList →
     wpS M A E s (do modify fun st=>setArr st (out.toList.zipIdx.foldl (fun a (pj:Keyed×Nat)=>a.setIfInBounds (pre.length + k + pj.2) pj.1) (arrOf st)); return (failedOf (← get)).isNone) Q st':=fun st' out hk' ha' hp' hf' hm'=>by
    refine wpS_bind (wpS_modify (wpS_bind (wpS_get ?_)))
    have hm1:=hm'.1
    rw [lX,lY] at hm1
    have szO:out.size=B.length - k + m:=by
     have:=hm1.length_eq
     rw [Array.length_toList,List.length_append,List.length_drop,List.length_take] at this
     omega
    have ef:(failedOf (setArr st' (out.toList.zipIdx.foldl (fun a (pj:Keyed×Nat)=>a.setIfInBounds (pre.length + k + pj.2) pj.1) (arrOf st')))).isNone=true:=by
     show (failedOf st').isNone=true
     rw [hf']; rfl
    rw [ef]
    refine wpS_pure (h _ (B.take k ++ out.toList ++ C.drop m) hk' hf' ?_ ?_ ?_ hp')
    ·show (out.toList.zipIdx.foldl (fun a (pj:Keyed×Nat)=>a.setIfInBounds (pre.length + k + pj.2) pj.1) (arrOf st')).toList=_
     rw [ha',splice _ _ _ (by rw [szO]; omega),szO]
     have t1:(arrOf st).toList.take (pre.length + k)=pre ++ B.take k:=by
      rw [eB,List.append_assoc,List.take_append,List.take_of_length_le (by omega),Nat.add_sub_cancel_left,List.take_append_of_le_length (by omega)]
     have t2:(arrOf st).toList.drop (pre.length + k + (B.length - k + m))=C.drop m ++ post:=by
      rw [eC,List.append_assoc,List.drop_append,List.drop_eq_nil_of_le (by omega),lB,show pre.length + k + (B.length - k + m) - (pre.length + B.length)=m by omega,List.nil_append,List.drop_append_of_le_length (by omega)]
     rw [t1,t2]
     simp
    ·have inO:∀ x∈out.toList,x∈B.drop k∨x∈C.take m:=fun x hx=>List.mem_append.mp (hm1.mem_iff.mp hx)
     have uB':=uB
     rw [← List.take_append_drop k B] at uB'
     have uC':=uC
     rw [← List.take_append_drop m C] at uC'
     refine List.pairwise_append.mpr ⟨List.pairwise_append.mpr ⟨uB.sublist (List.take_sublist _ _),hm'.2,fun x hx y hy=>?_⟩,uC.sublist (List.drop_sublist _ _),fun x hx y hy=>?_⟩
     ·rcases inO y hy with z | z
      ·exact (List.pairwise_append.mp uB').2.2 x hx y z
      ·exact o.le_trans (lo1 x hx) (c0C y (List.mem_of_mem_take z))
     ·rcases List.mem_append.mp hx with hx | hx
      ·exact o.le_trans (Bbl x (List.mem_of_mem_take hx)) (hi2 y hy)
      ·rcases inO x hx with z | z
       ·exact o.le_trans (Bbl x (List.mem_of_mem_drop z)) (hi2 y hy)
       ·exact (List.pairwise_append.mp uC').2.2 x z y hy
    ·refine ((List.Perm.append_left _ hm1).append_right _).trans ?_
     rw [← List.append_assoc,List.take_append_drop,List.append_assoc,List.take_append_drop]
   by_cases hnm:B.length - k≤m
   ·rw [if_pos hnm]
    refine wpS_bind (wpS_mlo ⟨gX,gY,uX,uY,p2⟩ (by exact hk) (by omega) (by omega) p1 fun st' out gs mg=>?_)
    exact fin st' out (gs.k.trans hk) gs.a (by rw [gs.p]; exact pp) (gs.f.trans hf) mg
   ·rw [if_neg hnm]
    refine wpS_bind (wpS_mhi ⟨gX,gY,uX,uY,p1⟩ (by exact hk) (by omega) (by omega) p2 fun st' out gs mg=>?_)
    exact fin st' out (gs.k.trans hk) gs.a (by rw [gs.p]; exact pp) (gs.f.trans hf) mg
end
section
variable {M:Model} {A:Around} {E:Value→Shared→Prop} {s:Shared} {kd:SortKind} {o:Ord M A E s kd}
structure As (lo:Nat) (st st':SortSt):Prop where
 k:kindOf st'=kindOf st
 p:pendingOf st'=pendingOf st
 f:failedOf st'=failedOf st
 perm:(arrOf st').Perm (arrOf st)
 pre:∀ j,j < lo→(arrOf st')[j]?=(arrOf st)[j]?
theorem As.refl (lo:Nat) (st:SortSt):As lo st st:=⟨rfl,rfl,rfl,.refl _,fun _ _=>rfl⟩
theorem As.arr {lo:Nat} {st st':SortSt} (h:As lo st st') {xs:Array Keyed} (hp:xs.Perm (arrOf st')) (hq:∀ j,j < lo→xs[j]?=(arrOf st')[j]?):As lo st (setArr st' xs) :=
 ⟨h.k,h.p,h.f,hp.trans h.perm,fun j hj=>(hq j hj).trans (h.pre j hj)⟩
theorem As.all {lo:Nat} {st st':SortSt} (h:As lo st st') (ga:o.all (arrOf st)):o.all (arrOf st'):=fun i x e=>by
 have:x∈(arrOf st'):=Array.mem_of_getElem? e
 have:x∈(arrOf st):=h.perm.mem_iff.mp this
 obtain ⟨j,e2⟩:=Array.getElem?_of_mem this
 exact ga j x e2
theorem As.size {lo:Nat} {st st':SortSt} (h:As lo st st'):(arrOf st').size=(arrOf st).size:=h.perm.size_eq
theorem wpS_ltA {st:SortSt} {i j:Nat} {x y:Keyed} {Q:Option Bool→SortSt→Prop} (hk:kindOf st=kd) (ga:o.all (arrOf st)) (ex:(arrOf st)[i]?=some x) (ey:(arrOf st)[j]?=some y) (h:Q (some (o.b x y)) st):wpS M A E s (ltAt' i j) Q st:=by
 rw [ltAt'_eq]
 refine wpS_bind (wpS_get ?_)
 exact wpS_bind (wpS_elem ex (wpS_bind (wpS_elem ey (o.lt hk (ga _ _ ex) (ga _ _ ey) h))))
def bsort:Nat→Nat→Nat→StateT SortSt Sem Bool:=sortPriv% PySem.Builtin.binarySort
theorem bsort_eq (lo n ok:Nat):bsort lo n ok=(do
  for t in [max ok 1:n] do
   let mut a:=0
   let mut b:=t
   for _ in [0:t] do
    if a ≥ b then break
    let some less ← ltAt' (lo + t) (lo + (a + b) / 2) | return false
    if less then b:=(a + b) / 2 else a:=(a + b) / 2 + 1
   moveDown' (lo + t) (lo + a)
  return true):=rfl
theorem wpS_bsort {st:SortSt} {lo n ok:Nat} {Q:Bool→SortSt→Prop} (hk:kindOf st=kd) (ga:o.all (arrOf st)) (hn:lo + n≤(arrOf st).size) (hok:ok≤n) (hs:o.up (arrOf st) lo (lo + ok))
  (h:∀ st',As lo st st'→o.up (arrOf st') lo (lo + n)→Q true st'):wpS M A E s (bsort lo n ok) Q st:=by
 rw [bsort_eq]
 refine wpS_bind (wpS_mono (wpS_forRange (I:=fun t c st'=>c=(none,())∧As lo st st'∧o.up (arrOf st') lo (lo + min t n)) (Q:=fun c st'=>c=(none,())∧As lo st st'∧o.up (arrOf st') lo (lo + n)) ?step ?fin ?init) ?post)
 case post =>
  rintro c st' ⟨rfl,h1,h2⟩
  exact wpS_pure (h st' h1 h2)
 case init =>
  refine ⟨rfl,.refl _ _,fun i j x y h1 h2 h3 ex ey=>?_⟩
  by_cases hz:ok=0
  ·have:i=j:=by omega
   subst this
   rw [ex] at ey
   cases ey
   exact o.le_refl _
  ·exact hs i j x y h1 h2 (by omega) ex ey
 case fin =>
  rintro c st' ⟨hc,h1,h2⟩
  refine ⟨hc,h1,?_⟩
  rwa [show min (max (max ok 1) n) n=n by omega] at h2
 case step =>
  rintro t c st' h1 h2 ⟨rfl,hA,hU⟩
  rw [show min t n=t by omega] at hU
  have hk':kindOf st'=kd:=hA.k.trans hk
  have ga':=hA.all ga
  have hsz:=hA.size
  obtain ⟨x,ex⟩:=at_lt (u:=arrOf st') (p:=lo + t) (by omega)
  refine wpS_bind (wpS_mono (wpS_forRange (I:=fun z c st''=>st''=st'∧∃ a b,c=(none,a,b)∧a≤b∧b≤t∧b - a≤t - z∧(∀ i y,i < a→(arrOf st')[lo + i]?=some y→o.le y x)∧(∀ i y,b≤i→i < t→(arrOf st')[lo + i]?=some y→o.b x y=true))
   (Q:=fun c st''=>st''=st'∧∃ a,c=(none,a,a)∧a≤t∧(∀ i y,i < a→(arrOf st')[lo + i]?=some y→o.le y x)∧(∀ i y,a≤i→i < t→(arrOf st')[lo + i]?=some y→o.b x y=true)) ?istep ?ifin ⟨rfl,0,t,rfl,by omega,by omega,by omega,fun i y hi=>by omega,fun i y p q=>by omega⟩) ?ipost)
  case ifin =>
   rintro c st'' ⟨rfl,a,b,rfl,h3,h4,h5,a1,a2⟩
   have:a=b:=by omega
   subst this
   exact ⟨rfl,a,rfl,h4,a1,a2⟩
  case istep =>
   rintro z c st'' _ hz ⟨rfl,a,b,rfl,h3,h4,h5,a1,a2⟩
   dsimp only
   by_cases hge:a ≥ b
   ·rw [if_pos hge]
    have:a=b:=by omega
    subst this
    exact wpS_pure ⟨rfl,a,rfl,h4,a1,a2⟩
   ·rw [if_neg hge]
    obtain ⟨y,ey⟩:=at_lt (u:=arrOf st'') (p:=lo + (a + b) / 2) (by omega)
    refine wpS_bind (wpS_ltA hk' ga' ex ey ?_)
    cases hb:o.b x y with
    | true =>
     refine wpS_pure ⟨rfl,a,(a + b) / 2,rfl,by omega,by omega,by omega,a1,fun i y' hi hi2 ey'=>?_⟩
     exact o.b_le hb (hU _ _ y y' (by omega) (by omega) (by omega) ey ey')
    | false =>
     refine wpS_pure ⟨rfl,(a + b) / 2 + 1,b,rfl,by omega,by omega,by omega,fun i y' hi ey'=>?_,a2⟩
     exact o.le_trans (hU _ _ y' y (by omega) (by omega) (by omega) ey' ey) (o.le_of_nb hb)
  case ipost =>
   rintro c st'' ⟨rfl,a,rfl,h3,a1,a2⟩
   show wpS _ _ _ _ (do moveDown' (lo + t) (lo + a); pure (ForInStep.yield (none,()))) _ _
   rw [moveDown'_eq]
   have hb:=getElem?_bubble (xs:=arrOf st'') (src:=lo + t) (by omega) (lo + t - (lo + a)) (by omega)
   rw [show lo + t - (lo + t - (lo + a))=lo + a by omega] at hb
   refine wpS_bind (wpS_modify (wpS_pure ⟨rfl,hA.arr (bubble_perm _ _ _) fun j hj=>?_,?_⟩))
   ·rw [hb j,if_neg (by omega),if_neg (by omega)]
   ·rw [show min (t + 1) n=t + 1 by omega]
    intro i j p q h5 h6 h7 ep eq
    have ep':(bubble (arrOf st'') (lo + t) (lo + t - (lo + a)))[i]?=some p:=ep
    have eq':(bubble (arrOf st'') (lo + t) (lo + t - (lo + a)))[j]?=some q:=eq
    rw [hb i] at ep'
    rw [hb j] at eq'
    by_cases c1:i=lo + a
    ·rw [if_pos c1] at ep'
     rw [ex] at ep'
     cases ep'
     by_cases c2:j=lo + a
     ·rw [if_pos c2,ex] at eq'
      cases eq'
      exact o.le_refl _
     ·rw [if_neg c2,if_pos (by omega)] at eq'
      exact o.le_of_b (a2 (j - 1 - lo) q (by omega) (by omega) (by rw [show lo + (j - 1 - lo)=j - 1 by omega]; exact eq'))
    ·rw [if_neg c1] at ep'
     by_cases c3:lo + a < i∧i≤lo + t
     ·rw [if_pos c3] at ep'
      rw [if_neg (by omega),if_pos (by omega)] at eq'
      exact hU _ _ p q (by omega) (by omega) (by omega) ep' eq'
     ·rw [if_neg c3] at ep'
      by_cases c2:j=lo + a
      ·rw [if_pos c2,ex] at eq'
       cases eq'
       exact a1 (i - lo) p (by omega) (by rw [show lo + (i - lo)=i by omega]; exact ep')
      ·rw [if_neg c2] at eq'
       by_cases c4:lo + a < j∧j≤lo + t
       ·rw [if_pos c4] at eq'
        exact hU _ _ p q (by omega) (by omega) (by omega) ep' eq'
       ·rw [if_neg c4] at eq'
        exact hU _ _ p q (by omega) (by omega) (by omega) ep' eq'
def crun:Nat→Nat→StateT SortSt Sem (Option Nat):=sortPriv% PySem.Builtin.countRun
theorem crun_eq (lo left:Nat):crun lo left=(do
  let mut n:=1
  for _ in [1:left] do
   let some less ← ltAt' (lo + n) (lo + n - 1) | return none
   if less then break
   n:=n + 1
  if n == left then return some n
  if n > 1 then
   let some rose ← ltAt' lo (lo + n - 1) | return none
   if rose then return some n
   reverseSlice' lo (lo + n)
  rule "list.sort.descending-run"
  n:=n + 1
  let mut same:=0
  for _ in [n:left] do
   let some less ← ltAt' (lo + n) (lo + n - 1) | return none
   if less then
    if same > 0 then reverseSlice' (lo + n - (same + 1)) (lo + n)
    same:=0
   else
    let some more ← ltAt' (lo + n - 1) (lo + n) | return none
    if more then break
    same:=same + 1
   n:=n + 1
  if same > 0 then reverseSlice' (lo + n - (same + 1)) (lo + n)
  reverseSlice' lo (lo + n)
  for _ in [n:left] do
   let some less ← ltAt' (lo + n) (lo + n - 1) | return none
   if less then break
   n:=n + 1
  return some n):=rfl
end
section
def cr3 (lo left n:Nat):StateT SortSt Sem (Option Nat):=do
 let mut n:=n
 for _ in [n:left] do
  let some less ← ltAt' (lo + n) (lo + n - 1) | return none
  if less then break
  n:=n + 1
 return some n
def cr2b (lo left n:Nat):StateT SortSt Sem (Option Nat):=do
 reverseSlice' lo (lo + n)
 cr3 lo left n
def cr2a (lo left n same:Nat):StateT SortSt Sem (Option Nat) :=
 if same > 0 then do
  reverseSlice' (lo + n - (same + 1)) (lo + n)
  cr2b lo left n
 else cr2b lo left n
abbrev CT:=Option (Option Nat)×Nat×Nat
def cr2s (lo:Nat) (t:CT):StateT SortSt Sem (ForInStep CT):=do
 match ← ltAt' (lo + t.2.1) (lo + t.2.1 - 1) with
 | some less =>
  if less then
   if t.2.2 > 0 then do
    reverseSlice' (lo + t.2.1 - (t.2.2 + 1)) (lo + t.2.1)
    pure (.yield (none,t.2.1 + 1,0))
   else pure (.yield (none,t.2.1 + 1,0))
  else do
   match ← ltAt' (lo + t.2.1 - 1) (lo + t.2.1) with
   | some more=>if more then pure (.done (none,t.2.1,t.2.2)) else pure (.yield (none,t.2.1 + 1,t.2.2 + 1))
   | _=>pure (.done (some none,t.2.1,t.2.2))
 | _=>pure (.done (some none,t.2.1,t.2.2))
def cr2 (lo left n:Nat):StateT SortSt Sem (Option Nat):=do
 rule "list.sort.descending-run"
 let t ← forIn [n + 1:left] ((none,n + 1,0):CT) (fun _ t=>cr2s lo t)
 match t.1 with
 | some z=>pure z
 | none=>cr2a lo left t.2.1 t.2.2
def cr1 (lo left n:Nat):StateT SortSt Sem (Option Nat) :=
 if n == left then pure (some n)
 else if n > 1 then do
  match ← ltAt' lo (lo + n - 1) with
  | some rose=>if rose then pure (some n) else do
   reverseSlice' lo (lo + n)
   cr2 lo left n
  | _=>pure none
 else cr2 lo left n
theorem crun_fac (lo left:Nat):crun lo left=(do
  let t ← forIn [1:left] ((none,1):Option (Option Nat)×Nat) (fun _ t=>do
   match ← ltAt' (lo + t.2) (lo + t.2 - 1) with
   | some less=>if less then pure (.done (none,t.2)) else pure (.yield (none,t.2 + 1))
   | _=>pure (.done (some none,t.2)))
  match t.1 with
  | some z=>pure z
  | none=>cr1 lo left t.2):=by
 rw [crun_eq]
 dsimp only [cr1,cr2,cr2s,cr2a,cr2b,cr3]
 refine bind2 (congrArg (forIn _ _) (funext fun x=>funext fun t=>?_)) (funext fun t=>?_)
 ·refine bind_congr fun z=>?_
  cases z <;> with_reducible rfl
 ·obtain ⟨z,n⟩:=t
  cases z with
  | some z=>with_reducible rfl
  | none =>
   dsimp only
   refine ite_congr rfl (fun _=>rfl) fun _=>ite_congr rfl (fun _=>?_) (fun _=>?_)
   ·refine bind_congr fun z=>?_
    cases z with
    | none=>with_reducible rfl
    | some z =>
     dsimp only
     refine ite_congr rfl (fun _=>rfl) fun _=>bind_congr fun _=>bind_congr fun _=>?_
     refine bind2 (congrArg (forIn _ _) (funext fun x=>funext fun t=>?_)) (funext fun t=>?_)
     ·refine bind_congr fun z=>?_
      cases z with
      | none=>with_reducible rfl
      | some z =>
       first
        | (dsimp only; done)
        | (dsimp only; refine ite_congr rfl (fun _=>rfl) fun _=>bind_congr fun z=>?_; cases z <;> first | with_reducible rfl | rfl)
     ·obtain ⟨z,t⟩:=t
      cases z <;> first | with_reducible rfl | rfl
   ·refine bind_congr fun _=>?_
    refine bind2 (congrArg (forIn _ _) (funext fun x=>funext fun t=>?_)) (funext fun t=>?_)
    ·refine bind_congr fun z=>?_
     cases z with
     | none=>with_reducible rfl
     | some z =>
      first
       | (dsimp only; done)
       | (dsimp only; refine ite_congr rfl (fun _=>rfl) fun _=>bind_congr fun z=>?_; cases z <;> first | with_reducible rfl | rfl)
    ·obtain ⟨z,t⟩:=t
     cases z <;> first | with_reducible rfl | rfl
end
section
variable {M:Model} {A:Around} {E:Value→Shared→Prop} {s:Shared} {kd:SortKind} {o:Ord M A E s kd}
def Ord.dn (o:Ord M A E s kd) (xs:Array Keyed) (lo hi:Nat):Prop:=∀ i j x y,lo≤i→i≤j→j < hi→xs[i]?=some x→xs[j]?=some y→o.le y x
def Ord.eqs (o:Ord M A E s kd) (xs:Array Keyed) (a b:Nat):Prop:=∀ i j x y,a≤i→i < b→a≤j→j < b→xs[i]?=some x→xs[j]?=some y→o.le x y
abbrev rv (xs:Array Keyed) (i j:Nat):Array Keyed:=mirror xs i j ((j - i) / 2)
theorem rv_at {xs:Array Keyed} {i j:Nat} (h:j≤xs.size) (k:Nat):(rv xs i j)[k]?=if i≤k∧k < j then xs[i + j - 1 - k]? else xs[k]?:=getElem?_mirror_all h k
theorem up_rv {xs:Array Keyed} {lo hi:Nat} (h:hi≤xs.size) (d:o.dn xs lo hi):o.up (rv xs lo hi) lo hi:=fun i j x y h1 h2 h3 ex ey=>by
 rw [rv_at h,if_pos (by omega)] at ex ey
 exact d _ _ y x (by omega) (by omega) (by omega) ey ex
theorem dn_rv {xs:Array Keyed} {lo a hi:Nat} (h:hi≤xs.size) (ha:lo≤a) (d:o.dn xs lo hi) (q:o.eqs xs a hi):o.dn (rv xs a hi) lo hi:=fun i j x y h1 h2 h3 ex ey=>by
 rw [rv_at h] at ex ey
 by_cases c1:a≤i
 ·rw [if_pos (by omega)] at ex ey
  exact q _ _ y x (by omega) (by omega) (by omega) (by omega) ey ex
 ·rw [if_neg (by omega)] at ex
  by_cases c2:a≤j
  ·rw [if_pos (by omega)] at ey
   exact d _ _ x y h1 (by omega) (by omega) ex ey
  ·rw [if_neg (by omega)] at ey
   exact d _ _ x y h1 h2 h3 ex ey
theorem wpS_rev {st:SortSt} {i j:Nat} {Q:Unit→SortSt→Prop} (h:Q () (setArr st (rv (arrOf st) i j))):wpS M A E s (reverseSlice' i j) Q st:=by
 rw [reverseSlice'_eq]; exact wpS_modify h
theorem As.rv {lo a b:Nat} {st st':SortSt} (h:As lo st st') (hb:b≤(arrOf st').size) (ha:lo≤a):As lo st (setArr st' (BF.rv (arrOf st') a b)) :=
 h.arr (mirror_perm _ _ _ _) fun j hj=>by rw [rv_at hb,if_neg (by omega)]
variable {st st':SortSt} {lo left n:Nat} {Q:Option Nat→SortSt→Prop}
theorem up_more {xs:Array Keyed} (h1:1≤n) (u:o.up xs lo (lo + n)) {x y:Keyed} (ex:xs[lo + n]?=some x) (ey:xs[lo + n - 1]?=some y) (hle:o.le y x):o.up xs lo (lo + (n + 1)):=fun i j a b h2 h3 h4 ea eb=>by
 by_cases c:j=lo + n
 ·subst c
  rw [ex] at eb
  cases eb
  by_cases c2:i=lo + n
  ·subst c2
   rw [ex] at ea
   cases ea
   exact o.le_refl _
  ·exact o.le_trans (u i (lo + n - 1) a y h2 (by omega) (by omega) ea ey) hle
 ·exact u i j a b h2 h3 (by omega) ea eb
theorem wpS_cr3 (hk:kindOf st=kd) (ga:o.all (arrOf st)) (hA:As lo st st') (hsz:lo + left≤(arrOf st).size) (h1:1≤n) (hn:n≤left) (u:o.up (arrOf st') lo (lo + n))
  (h:∀ m st2,As lo st st2→1≤m→m≤left→o.up (arrOf st2) lo (lo + m)→Q (some m) st2):wpS M A E s (cr3 lo left n) Q st':=by
 unfold cr3
 have sz:=hA.size
 refine wpS_bind (wpS_mono (wpS_forRange (I:=fun t c st2=>st2=st'∧c=(none,t)∧t≤left∧1≤t∧o.up (arrOf st') lo (lo + t)) (Q:=fun c st2=>st2=st'∧∃ t,c=(none,t)∧t≤left∧1≤t∧o.up (arrOf st') lo (lo + t)) ?step ?fin ⟨rfl,rfl,hn,h1,u⟩) ?post)
 case fin =>
  rintro c st2 ⟨rfl,rfl,h2,h3,h4⟩
  exact ⟨rfl,_,rfl,h2,h3,h4⟩
 case post =>
  rintro c st2 ⟨rfl,t,rfl,h2,h3,h4⟩
  exact wpS_pure (h t _ hA h3 h2 h4)
 case step =>
  rintro t c st2 _ ht ⟨rfl,rfl,h2,h3,h4⟩
  obtain ⟨x,ex⟩:=at_lt (u:=arrOf st2) (p:=lo + t) (by omega)
  obtain ⟨y,ey⟩:=at_lt (u:=arrOf st2) (p:=lo + t - 1) (by omega)
  dsimp only
  refine wpS_bind (wpS_ltA (hA.k.trans hk) (hA.all ga) ex ey ?_)
  cases hb:o.b x y with
  | true=>exact wpS_pure ⟨rfl,t,rfl,h2,h3,h4⟩
  | false=>exact wpS_pure ⟨rfl,rfl,by omega,by omega,up_more h3 h4 ex ey (o.le_of_nb hb)⟩
theorem wpS_cr2b (hk:kindOf st=kd) (ga:o.all (arrOf st)) (hA:As lo st st') (hsz:lo + left≤(arrOf st).size) (h1:1≤n) (hn:n≤left) (d:o.dn (arrOf st') lo (lo + n))
  (h:∀ m st2,As lo st st2→1≤m→m≤left→o.up (arrOf st2) lo (lo + m)→Q (some m) st2):wpS M A E s (cr2b lo left n) Q st':=by
 unfold cr2b
 have sz:=hA.size
 exact wpS_bind (wpS_rev (wpS_cr3 hk ga (hA.rv (by omega) (Nat.le_refl _)) hsz h1 hn (up_rv (by omega) d) h))
theorem wpS_cr2a {same:Nat} (hk:kindOf st=kd) (ga:o.all (arrOf st)) (hA:As lo st st') (hsz:lo + left≤(arrOf st).size) (hs:same + 1≤n) (hn:n≤left) (d:o.dn (arrOf st') lo (lo + n)) (q:o.eqs (arrOf st') (lo + n - (same + 1)) (lo + n))
  (h:∀ m st2,As lo st st2→1≤m→m≤left→o.up (arrOf st2) lo (lo + m)→Q (some m) st2):wpS M A E s (cr2a lo left n same) Q st':=by
 unfold cr2a
 have sz:=hA.size
 split
 ·exact wpS_bind (wpS_rev (wpS_cr2b hk ga (hA.rv (by omega) (by omega)) hsz (by omega) hn (dn_rv (by omega) (by omega) d q) h))
 ·exact wpS_cr2b hk ga hA hsz (by omega) hn d h
theorem dn_more {xs:Array Keyed} (h1:1≤n) (d:o.dn xs lo (lo + n)) {x y:Keyed} (ex:xs[lo + n]?=some x) (ey:xs[lo + n - 1]?=some y) (hle:o.le x y):o.dn xs lo (lo + (n + 1)):=fun i j a b h2 h3 h4 ea eb=>by
 by_cases c:j=lo + n
 ·subst c
  rw [ex] at eb
  cases eb
  by_cases c2:i=lo + n
  ·subst c2
   rw [ex] at ea
   cases ea
   exact o.le_refl _
  ·exact o.le_trans hle (d i (lo + n - 1) a y h2 (by omega) (by omega) ea ey)
 ·exact d i j a b h2 h3 (by omega) ea eb
theorem wpS_cr2 (hk:kindOf st=kd) (ga:o.all (arrOf st)) (hA:As lo st st') (hsz:lo + left≤(arrOf st).size) (h1:1≤n) (hn:n + 1≤left) (d:o.dn (arrOf st') lo (lo + (n + 1)))
  (h:∀ m st2,As lo st st2→1≤m→m≤left→o.up (arrOf st2) lo (lo + m)→Q (some m) st2):wpS M A E s (cr2 lo left n) Q st':=by
 unfold cr2
 refine wpS_bind (wpS_lift (wpAny_rule ⟨rfl,?_⟩))
 refine wpS_bind (wpS_mono (wpS_forRange (I:=fun t c st2=>As lo st st2∧∃ same,c=(none,t,same)∧t≤left∧same + 1≤t∧o.dn (arrOf st2) lo (lo + t)∧o.eqs (arrOf st2) (lo + t - (same + 1)) (lo + t))
  (Q:=fun c st2=>As lo st st2∧∃ t same,c=(none,t,same)∧t≤left∧same + 1≤t∧o.dn (arrOf st2) lo (lo + t)∧o.eqs (arrOf st2) (lo + t - (same + 1)) (lo + t)) ?step ?fin ⟨hA,0,rfl,hn,by omega,d,?init⟩) ?post)
 case init =>
  intro i j x y h2 h3 h4 h5 ex ey
  have:i=j:=by omega
  subst this
  rw [ex] at ey
  cases ey
  exact o.le_refl _
 case fin =>
  rintro c st2 ⟨hA2,same,rfl,h2,h3,h4,h5⟩
  exact ⟨hA2,_,same,rfl,h2,h3,h4,h5⟩
 case post =>
  rintro c st2 ⟨hA2,t,same,rfl,h2,h3,h4,h5⟩
  exact wpS_cr2a hk ga hA2 hsz h3 h2 h4 h5 h
 case step =>
  rintro t c st2 ht0 ht ⟨hA2,same,rfl,h2,h3,h4,h5⟩
  have sz:=hA2.size
  obtain ⟨x,ex⟩:=at_lt (u:=arrOf st2) (p:=lo + t) (by omega)
  obtain ⟨y,ey⟩:=at_lt (u:=arrOf st2) (p:=lo + t - 1) (by omega)
  unfold cr2s
  dsimp only
  refine wpS_bind (wpS_ltA (hA2.k.trans hk) (hA2.all ga) ex ey ?_)
  have one:∀ (zs:Array Keyed),o.eqs zs (lo + (t + 1) - (0 + 1)) (lo + (t + 1)):=fun zs i j p q a1 a2 a3 a4 ep eq=>by
   have:i=j:=by omega
   subst this
   rw [ep] at eq
   cases eq
   exact o.le_refl _
  cases hb:o.b x y with
  | true =>
   dsimp only
   rw [if_pos rfl]
   split
   ·refine wpS_bind (wpS_rev (wpS_pure ⟨hA2.rv (by omega) (by omega),0,rfl,by omega,by omega,?_,one _⟩))
    have ex':(rv (arrOf st2) (lo + t - (same + 1)) (lo + t))[lo + t]?=some x:=by rw [rv_at (by omega),if_neg (by omega)]; exact ex
    obtain ⟨y',ey'⟩:=at_lt (u:=rv (arrOf st2) (lo + t - (same + 1)) (lo + t)) (p:=lo + t - 1) (by rw [mirror_size]; omega)
    refine dn_more (by omega) (dn_rv (by omega) (by omega) h4 h5) ex' ey' ?_
    rw [rv_at (by omega),if_pos (by omega)] at ey'
    exact o.le_trans (o.le_of_b hb) (h5 _ _ y y' (by omega) (by omega) (by omega) (by omega) ey ey')
   ·exact wpS_pure ⟨hA2,0,rfl,by omega,by omega,dn_more (by omega) h4 ex ey (o.le_of_b hb),one _⟩
  | false =>
   dsimp only
   rw [if_neg Bool.false_ne_true]
   refine wpS_bind (wpS_ltA (hA2.k.trans hk) (hA2.all ga) ey ex ?_)
   cases hc:o.b y x with
   | true=>exact wpS_pure ⟨hA2,t,same,rfl,h2,h3,h4,h5⟩
   | false =>
    refine wpS_pure ⟨hA2,same + 1,rfl,by omega,by omega,dn_more (by omega) h4 ex ey (o.le_of_nb hc),fun i j p q a1 a2 a3 a4 ep eq=>?_⟩
    have lx:∀ i p,lo + t - (same + 1)≤i→i < lo + (t + 1)→(arrOf st2)[i]?=some p→o.le p x∧o.le x p:=fun i p b1 b2 e=>by
     by_cases c:i=lo + t
     ·subst c
      rw [ex] at e
      cases e
      exact ⟨o.le_refl _,o.le_refl _⟩
     ·exact ⟨o.le_trans (h5 _ _ p y b1 (by omega) (by omega) (by omega) e ey) (o.le_of_nb hb),o.le_trans (o.le_of_nb hc) (h5 _ _ y p (by omega) (by omega) b1 (by omega) ey e)⟩
    exact o.le_trans (lx i p (by omega) (by omega) ep).1 (lx j q (by omega) (by omega) eq).2
theorem wpS_crun (hk:kindOf st=kd) (ga:o.all (arrOf st)) (hsz:lo + left≤(arrOf st).size) (hl:1≤left)
  (h:∀ m st2,As lo st st2→1≤m→m≤left→o.up (arrOf st2) lo (lo + m)→Q (some m) st2):wpS M A E s (crun lo left) Q st:=by
 rw [crun_fac]
 have at0:∀ zs:Array Keyed,o.up zs lo (lo + 1):=fun zs i j p q a1 a2 a3 ep eq=>by
  have:i=j:=by omega
  subst this
  rw [ep] at eq
  cases eq
  exact o.le_refl _
 refine wpS_bind (wpS_mono (wpS_forRange (I:=fun t c st2=>st2=st∧c=(none,t)∧t≤left∧1≤t∧o.up (arrOf st) lo (lo + t))
  (Q:=fun c st2=>st2=st∧∃ t,c=(none,t)∧t≤left∧1≤t∧o.up (arrOf st) lo (lo + t)∧(t=left∨∃ x y,(arrOf st)[lo + t]?=some x∧(arrOf st)[lo + t - 1]?=some y∧o.b x y=true)) ?step ?fin ⟨rfl,rfl,hl,by omega,at0 _⟩) ?post)
 case fin =>
  rintro c st2 ⟨rfl,rfl,h2,h3,h4⟩
  exact ⟨rfl,_,rfl,h2,h3,h4,.inl (by omega)⟩
 case step =>
  rintro t c st2 _ ht ⟨rfl,rfl,h2,h3,h4⟩
  obtain ⟨x,ex⟩:=at_lt (u:=arrOf st2) (p:=lo + t) (by omega)
  obtain ⟨y,ey⟩:=at_lt (u:=arrOf st2) (p:=lo + t - 1) (by omega)
  dsimp only
  refine wpS_bind (wpS_ltA hk ga ex ey ?_)
  cases hb:o.b x y with
  | true=>exact wpS_pure ⟨rfl,t,rfl,h2,h3,h4,.inr ⟨x,y,ex,ey,hb⟩⟩
  | false=>exact wpS_pure ⟨rfl,rfl,by omega,by omega,up_more h3 h4 ex ey (o.le_of_nb hb)⟩
 case post =>
  rintro c st2 ⟨rfl,t,rfl,h2,h3,h4,h5⟩
  dsimp only
  unfold cr1
  by_cases c1:t=left
  ·rw [if_pos (by simpa using c1)]
   exact wpS_pure (h t _ (.refl _ _) h3 h2 h4)
  ·rw [if_neg (by simpa using c1)]
   rcases h5 with h5 | ⟨x,y,ex,ey,hb⟩
   ·exact absurd h5 c1
   ·split
    ·obtain ⟨z,ez⟩:=at_lt (u:=arrOf st2) (p:=lo) (by omega)
     refine wpS_bind (wpS_ltA hk ga ez ey ?_)
     cases hr:o.b z y with
     | true=>exact wpS_pure (h t _ (.refl _ _) h3 h2 h4)
     | false =>
      refine wpS_bind (wpS_rev (wpS_cr2 hk ga ((As.refl lo st2).rv (by omega) (Nat.le_refl _)) hsz h3 (by omega) ?_ h))
      have all:∀ i p,lo≤i→i < lo + t→(arrOf st2)[i]?=some p→o.le p y∧o.le y p:=fun i p b1 b2 e =>
       ⟨h4 i (lo + t - 1) p y b1 (by omega) (by omega) e ey,o.le_trans (o.le_of_nb hr) (h4 lo i z p (Nat.le_refl _) b1 b2 ez e)⟩
      have q:o.dn (rv (arrOf st2) lo (lo + t)) lo (lo + t):=fun i j p q a1 a2 a3 ep eq=>by
       rw [rv_at (by omega),if_pos (by omega)] at ep eq
       exact o.le_trans (all _ q (by omega) (by omega) eq).1 (all _ p (by omega) (by omega) ep).2
      have ex':(rv (arrOf st2) lo (lo + t))[lo + t]?=some x:=by rw [rv_at (by omega),if_neg (by omega)]; exact ex
      obtain ⟨y',ey'⟩:=at_lt (u:=rv (arrOf st2) lo (lo + t)) (p:=lo + t - 1) (by rw [mirror_size]; omega)
      refine dn_more h3 q ex' ey' ?_
      rw [rv_at (by omega),if_pos (by omega)] at ey'
      exact o.le_trans (o.le_of_b hb) (all _ y' (by omega) (by omega) ey').2
    ·have:t=1:=by omega
     subst this
     refine wpS_cr2 hk ga (.refl _ _) hsz (Nat.le_refl _) (by omega) (dn_more (Nat.le_refl _) ?_ ex ey (o.le_of_b hb)) h
     intro i j p q a1 a2 a3 ep eq
     have:i=j:=by omega
     subst this
     rw [ep] at eq
     cases eq
     exact o.le_refl _
end
section
def mrun:Nat→Nat→Nat→Nat:=sortPriv% PySem.Builtin.minRun
def pwr:Nat→Nat→Nat→Nat→Nat:=sortPriv% PySem.Builtin.power
def sruns:StateT SortSt Sem Unit:=sortPriv% PySem.Builtin.sortRuns
abbrev setPend (st:SortSt) (p:Array (Nat×Nat×Nat)):SortSt:=SortSt.mk' (kindOf st) (arrOf st) p (gallopOf st) (failedOf st)
theorem sruns_eq:sruns=(do
  let all:=(arrOf (← get)).size
  let least:=mrun all all 0
  let mut at_:=0
  for _ in [0:all] do
   if at_ ≥ all then break
   let some met ← crun at_ (all - at_) | return
   let mut n:=met
   if n < least then
    rule "list.sort.binary-insertion"
    let most:=min (all - at_) least
    if !(← bsort at_ most n) then return
    n:=most
   if let some (s1,n1,_):=(pendingOf (← get)).back? then
    let w:=pwr all (2 * s1 + n1) (2 * s1 + n1 + n1 + n) all
    for _ in [0:all] do
     let p:=pendingOf (← get)
     let some (_,_,older):=(if p.size > 1 then p[p.size - 2]? else none) | break
     if older≤w then break
     if !(← mAt (p.size - 2)) then return
    modify fun st=>setPend st ((pendingOf st).modify ((pendingOf st).size - 1) fun (x,y,_)=>(x,y,w))
   modify fun st=>setPend st ((pendingOf st).push (at_,n,0))
   at_:=at_ + n
  for _ in [0:all] do
   let p:=pendingOf (← get)
   if p.size≤1 then break
   let i:=p.size - 2
   let before:=if i > 0 then p[i - 1]?.map (·.2.1) else none
   let i:=if before.any (· < (p[i + 1]?.elim 0 (·.2.1))) then i - 1 else i
   if !(← mAt i) then return):=rfl
def srM (w:Nat):StateT SortSt Sem (ForInStep (Option Unit×Unit)):=do
 let st ← get
 match (if (pendingOf st).size > 1 then (pendingOf st)[(pendingOf st).size - 2]? else none) with
 | some (_,_,older) =>
  if older≤w then pure (.done (none,()))
  else do
   let b ← mAt ((pendingOf st).size - 2)
   if !b then pure (.done (some (),())) else pure (.yield (none,()))
 | _=>pure (.done (none,()))
def srP (lo n:Nat):StateT SortSt Sem (ForInStep (Option Unit×Nat)):=do
 modify fun st=>setPend st ((pendingOf st).push (lo,n,0))
 pure (.yield (none,lo + n))
def srT (all lo n:Nat):StateT SortSt Sem (ForInStep (Option Unit×Nat)):=do
 let st ← get
 match (pendingOf st).back? with
 | some (s1,n1,_)=>do
  let t ← forIn [0:all] ((none,()):Option Unit×Unit) (fun _ _=>srM (pwr all (2 * s1 + n1) (2 * s1 + n1 + n1 + n) all))
  match t.1 with
  | some r=>pure (.done (some r,lo))
  | none=>do
   modify fun st=>setPend st ((pendingOf st).modify ((pendingOf st).size - 1) fun x=>(x.1,x.2.1,pwr all (2 * s1 + n1) (2 * s1 + n1 + n1 + n) all))
   srP lo n
 | _=>srP lo n
end
section
variable {M:Model} {A:Around} {E:Value→Shared→Prop} {s:Shared} {kd:SortKind}
inductive Pend (o:Ord M A E s kd):Nat→List (Nat×Nat×Nat)→List (List Keyed)→Prop where
 | nil (n:Nat):Pend o n [] []
 | cons {n w:Nat} {R:List Keyed} {ps:List (Nat×Nat×Nat)} {Rs:List (List Keyed)} (u:R.Pairwise o.le) (h:0 < R.length) (t:Pend o (n + R.length) ps Rs):Pend o n ((n,R.length,w) :: ps) (R :: Rs)
variable {o:Ord M A E s kd}
theorem Pend.length {n:Nat} {ps:List (Nat×Nat×Nat)} {Rs:List (List Keyed)} (p:Pend o n ps Rs):ps.length=Rs.length:=by
 induction p with
 | nil=>rfl
 | cons u h t ih=>simp [ih]
theorem Pend.le {n:Nat} {ps:List (Nat×Nat×Nat)} {Rs:List (List Keyed)} (p:Pend o n ps Rs):ps.length≤Rs.flatten.length:=by
 induction p with
 | nil=>simp
 | cons u h t ih=>simp only [List.length_cons,List.flatten_cons,List.length_append]; omega
theorem Pend.snoc {n w:Nat} {ps:List (Nat×Nat×Nat)} {Rs:List (List Keyed)} (p:Pend o n ps Rs) {R:List Keyed} (u:R.Pairwise o.le) (h:0 < R.length):Pend o n (ps ++ [(n + Rs.flatten.length,R.length,w)]) (Rs ++ [R]):=by
 induction p with
 | nil n=>exact .cons u h (.nil _)
 | @cons n w' R' ps Rs u' h' t ih =>
  refine .cons u' h' ?_
  have:n + (R' :: Rs).flatten.length=n + R'.length + Rs.flatten.length:=by simp; omega
  rw [this]
  exact ih
theorem Pend.other {n:Nat} {ps:List (Nat×Nat×Nat)} {Rs:List (List Keyed)} (p:Pend o n ps Rs):∀ {ps':List (Nat×Nat×Nat)},ps'.map (fun x=>(x.1,x.2.1))=ps.map (fun x=>(x.1,x.2.1))→Pend o n ps' Rs:=by
 induction p with
 | nil n =>
  intro ps' e
  cases ps' with
  | nil=>exact .nil n
  | cons a l=>simp at e
 | @cons n w R ps Rs u h t ih =>
  intro ps' e
  cases ps' with
  | nil=>simp at e
  | cons a l =>
   obtain ⟨a1,a2,a3⟩:=a
   simp only [List.map_cons,List.cons.injEq,Prod.mk.injEq] at e
   obtain ⟨⟨rfl,rfl⟩,e2⟩:=e
   exact .cons u h (ih e2)
theorem Pend.pick {n:Nat} {ps:List (Nat×Nat×Nat)} {Rs:List (List Keyed)} (p:Pend o n ps Rs):∀ (i:Nat),i + 1 < ps.length→∃ P1 P2 Rs1 Rs2 B C w w2,P1.length=i∧ps=P1 ++ (n + Rs1.flatten.length,B.length,w) :: (n + Rs1.flatten.length + B.length,C.length,w2) :: P2 ∧
  Rs=Rs1 ++ B :: C :: Rs2∧B.Pairwise o.le∧C.Pairwise o.le∧0 < B.length∧0 < C.length∧∀ D:List Keyed,D.Pairwise o.le→D.length=B.length + C.length→Pend o n (P1 ++ (n + Rs1.flatten.length,B.length + C.length,w) :: P2) (Rs1 ++ D :: Rs2):=by
 induction p with
 | nil n=>intro i hi; simp at hi
 | @cons n w R ps Rs u h t ih =>
  intro i hi
  cases i with
  | zero =>
   cases t with
   | nil=>simp at hi
   | @cons _ w2 R2 ps2 Rs2 u2 h2 t2 =>
    refine ⟨[],ps2,[],Rs2,R,R2,w,w2,rfl,by simp,rfl,u,u2,h,h2,fun D uD lD=>?_⟩
    have t3:Pend o (n + D.length) ps2 Rs2:=by rw [lD,← Nat.add_assoc]; exact t2
    have:=Pend.cons (w:=w) uD (by omega) t3
    rw [lD] at this
    simpa using this
  | succ i =>
   simp only [List.length_cons] at hi
   obtain ⟨P1,P2,Rs1,Rs2,B,C,v,v2,e1,e2,e3,uB,uC,hB,hC,k⟩:=ih i (by omega)
   have e:n + (R :: Rs1).flatten.length=n + R.length + Rs1.flatten.length:=by simp; omega
   refine ⟨(n,R.length,w) :: P1,P2,R :: Rs1,Rs2,B,C,v,v2,by simp [e1],?_,by simp [e3],uB,uC,hB,hC,fun D uD lD=>?_⟩
   ·rw [e,e2]; rfl
   ·rw [e]
    exact .cons u h (k D uD lD)
structure SRun (o:Ord M A E s kd) (a₀:Array Keyed) (lo:Nat) (rest:List Keyed) (st:SortSt):Prop where
 k:kindOf st=kd
 f:failedOf st=none
 perm:(arrOf st).Perm a₀
 ex:∃ Rs,(arrOf st).toList=Rs.flatten ++ rest∧Rs.flatten.length=lo∧Pend o 0 (pendingOf st).toList Rs
variable {a₀:Array Keyed} {lo:Nat} {rest:List Keyed} {st:SortSt}
theorem all_perm {xs ys:Array Keyed} (p:ys.Perm xs) (ga:o.all xs):o.all ys:=fun i x e=>by
 obtain ⟨j,e2⟩:=Array.getElem?_of_mem (p.mem_iff.mp (Array.mem_of_getElem? e))
 exact ga j x e2
theorem SRun.merge (S:SRun o a₀ lo rest st) (ga:o.all a₀) {i:Nat} (hi:i + 1 < (pendingOf st).size) {Q:Bool→SortSt→Prop} (h:∀ st',SRun o a₀ lo rest st'→(pendingOf st').size + 1=(pendingOf st).size→Q true st'):wpS M A E s (mAt i) Q st:=by
 obtain ⟨Rs,e,el,p⟩:=S.ex
 obtain ⟨P1,P2,Rs1,Rs2,B,C,w,w2,e1,e2,e3,uB,uC,hB,hC,k⟩:=p.pick i (by simpa using hi)
 simp only [Nat.zero_add] at e2 k
 have ea:(arrOf st).toList=Rs1.flatten ++ B ++ C ++ (Rs2.flatten ++ rest):=by rw [e,e3]; simp
 refine wpS_mAt S.k S.f (all_perm S.perm ga) ea uB uC hB hC e2 e1.symm fun st' D hk' hf' ha' uD pD hp'=>?_
 have lD:D.length=B.length + C.length:=by rw [pD.length_eq,List.length_append]
 refine h st' ⟨hk',hf',?_,Rs1 ++ D :: Rs2,by rw [ha']; simp,?_,by rw [hp']; exact k D uD lD⟩ ?_
 ·refine Array.Perm.trans ?_ S.perm
  rw [Array.perm_iff_toList_perm,ha',ea]
  refine List.Perm.append_right _ ?_
  rw [List.append_assoc]
  exact List.Perm.append_left _ pD
 ·rw [← el,e3]
  simp [lD]
  omega
 ·have a1:=congrArg List.length hp'
  have a2:=congrArg List.length e2
  simp at a1 a2
  omega
theorem wpS_srM (S:SRun o a₀ lo rest st) (ga:o.all a₀) {w:Nat}:wpS M A E s (srM w) (fun t st'=>SRun o a₀ lo rest st'∧(t=.done (none,())∨t=.yield (none,()))) st:=by
 unfold srM
 refine wpS_bind (wpS_get ?_)
 by_cases h1:(pendingOf st).size > 1
 ·rw [if_pos h1]
  obtain ⟨x,ex⟩:∃ x,(pendingOf st)[(pendingOf st).size - 2]?=some x:=⟨(pendingOf st)[(pendingOf st).size - 2],getElem?_pos _ _ (by omega)⟩
  rw [ex]
  obtain ⟨x1,x2,x3⟩:=x
  dsimp only
  split
  ·exact wpS_pure ⟨S,.inl rfl⟩
  ·exact wpS_bind (S.merge ga (by omega) fun st' S' _=>wpS_pure ⟨S',.inr rfl⟩)
 ·rw [if_neg h1]
  exact wpS_pure ⟨S,.inl rfl⟩
theorem wpS_srP (S:SRun o a₀ lo rest st) {n:Nat} (hn:0 < n) (hr:n≤rest.length) (u:(rest.take n).Pairwise o.le):wpS M A E s (srP lo n) (fun t st'=>t=.yield (none,lo + n)∧SRun o a₀ (lo + n) (rest.drop n) st') st:=by
 unfold srP
 refine wpS_bind (wpS_modify (wpS_pure ⟨rfl,S.k,S.f,S.perm,?_⟩))
 obtain ⟨Rs,e,el,p⟩:=S.ex
 have ln:(rest.take n).length=n:=by rw [List.length_take]; omega
 refine ⟨Rs ++ [rest.take n],?_,by simp [el]; omega,?_⟩
 ·show (arrOf st).toList=_
  rw [e]
  simp
 ·have:=p.snoc (w:=0) u (by omega)
  rw [Nat.zero_add,el,ln] at this
  show Pend o 0 ((pendingOf st).push (lo,n,0)).toList _
  rw [Array.toList_push]
  exact this
theorem wpS_srT (S:SRun o a₀ lo rest st) (ga:o.all a₀) {all n:Nat} (hn:0 < n) (hr:n≤rest.length) (u:(rest.take n).Pairwise o.le):wpS M A E s (srT all lo n) (fun t st'=>t=.yield (none,lo + n)∧SRun o a₀ (lo + n) (rest.drop n) st') st:=by
 unfold srT
 refine wpS_bind (wpS_get ?_)
 cases hb:(pendingOf st).back? with
 | none=>exact wpS_srP S hn hr u
 | some x =>
  obtain ⟨s1,n1,w1⟩:=x
  dsimp only
  refine wpS_bind (wpS_mono (wpS_forRange (I:=fun t c st2=>c=(none,())∧SRun o a₀ lo rest st2) (Q:=fun c st2=>c=(none,())∧SRun o a₀ lo rest st2) ?step (fun c st2 hh=>hh) ⟨rfl,S⟩) ?post)
  case step =>
   rintro t c st2 _ _ ⟨rfl,S2⟩
   refine wpS_mono (wpS_srM S2 ga) fun t st3 ⟨S3,ht⟩=>?_
   rcases ht with rfl | rfl
   ·exact ⟨rfl,S3⟩
   ·exact ⟨rfl,S3⟩
  case post =>
   rintro c st2 ⟨rfl,S2⟩
   dsimp only
   refine wpS_bind (wpS_modify ?_)
   refine wpS_srP (lo:=lo) (rest:=rest) (SRun.mk (by exact S2.k) (by exact S2.f) (by exact S2.perm) ?_) hn hr u
   obtain ⟨Rs,e,el,p⟩:=S2.ex
   refine ⟨Rs,e,el,p.other ?_⟩
   show (((pendingOf st2).modify ((pendingOf st2).size - 1) _).toList).map _=_
   rw [Array.toList_modify]
   refine List.ext_getElem? fun i=>?_
   rw [List.getElem?_map,List.getElem?_map,List.getElem?_modify]
   split
   ·cases (pendingOf st2).toList[i]? <;> rfl
   ·cases (pendingOf st2).toList[i]? <;> rfl
end
section
variable {M:Model} {A:Around} {E:Value→Shared→Prop} {s:Shared} {kd:SortKind} {o:Ord M A E s kd} {a₀:Array Keyed} {lo:Nat} {rest:List Keyed} {st st':SortSt}
theorem SRun.as (S:SRun o a₀ lo rest st) (h:As lo st st'):SRun o a₀ lo ((arrOf st').toList.drop lo) st'∧lo + ((arrOf st').toList.drop lo).length=a₀.size:=by
 obtain ⟨Rs,e,el,p⟩:=S.ex
 have sz:(arrOf st').size=a₀.size:=(h.perm.trans S.perm).size_eq
 have sz0:(arrOf st).size=a₀.size:=S.perm.size_eq
 have le:lo≤a₀.size:=by
  have:=size_mid e
  rw [List.length_append] at this
  omega
 have et:(arrOf st').toList.take lo=Rs.flatten:=by
  have:(arrOf st').toList.take lo=(arrOf st).toList.take lo:=by
   refine List.ext_getElem? fun i=>?_
   rw [List.getElem?_take,List.getElem?_take]
   split
   ·have:=h.pre i (by assumption)
    simpa using this
   ·rfl
  rw [this,e,← el,List.take_left]
 refine ⟨⟨h.k.trans S.k,h.f.trans S.f,h.perm.trans S.perm,Rs,?_,el,by rw [h.p]; exact p⟩,?_⟩
 ·rw [← et,List.take_append_drop]
 ·rw [List.length_drop,Array.length_toList,sz]; omega
theorem up_take {xs:Array Keyed} {m:Nat} (h:o.up xs lo (lo + m)):((xs.toList.drop lo).take m).Pairwise o.le:=by
 rw [List.pairwise_iff_getElem]
 intro i j hi hj hij
 have bi:i < m:=by rw [List.length_take] at hi; omega
 have bj:j < m:=by rw [List.length_take] at hj; omega
 have ei:xs[lo + i]?=some ((xs.toList.drop lo).take m)[i]:=by
  have:=List.getElem?_eq_getElem hi
  rw [List.getElem?_take,if_pos bi,List.getElem?_drop] at this
  simpa using this
 have ej:xs[lo + j]?=some ((xs.toList.drop lo).take m)[j]:=by
  have:=List.getElem?_eq_getElem hj
  rw [List.getElem?_take,if_pos bj,List.getElem?_drop] at this
  simpa using this
 exact h _ _ _ _ (by omega) (by omega) (by omega) ei ej
theorem pick_ok (c:Prop) [Decidable c] (k:Nat) (h:1 < k):(if c then k - 2 - 1 else k - 2) + 1 < k:=by split <;> omega
theorem wpS_conv {α:Type} {m m':StateT SortSt Sem α} {Q:α→SortSt→Prop} (e:m=m') (h:wpS M A E s m Q st):wpS M A E s m' Q st:=e ▸ h
theorem wpS_sruns {Q:Unit→SortSt→Prop} (hk:kindOf st=kd) (hf:failedOf st=none) (ga:o.all (arrOf st)) (hp:pendingOf st=#[])
  (h:∀ st',failedOf st'=none→(arrOf st').Perm (arrOf st)→(arrOf st').toList.Pairwise o.le→Q () st'):wpS M A E s sruns Q st:=by
 rw [sruns_eq]
 refine wpS_bind (wpS_get ?_)
 dsimp only
 have S0:SRun o (arrOf st) 0 (arrOf st).toList st:=⟨hk,hf,.refl _,[],rfl,rfl,by rw [hp]; exact .nil 0⟩
 have z0:0 + (arrOf st).toList.length=(arrOf st).size:=by simp
 refine wpS_bind (wpS_mono (wpS_forRange (I:=fun t c st2=>∃ lo rest,c=(none,lo)∧SRun o (arrOf st) lo rest st2∧t≤lo∧lo + rest.length=(arrOf st).size)
  (Q:=fun c st2=>c=(none,(arrOf st).size)∧SRun o (arrOf st) (arrOf st).size [] st2) ?step ?fin ⟨0,_,rfl,S0,Nat.le_refl _,z0⟩) ?post)
 case fin =>
  rintro c st2 ⟨lo,rest,rfl,S,h1,h2⟩
  have h3:rest.length=0:=by omega
  have e1:rest=[]:=List.eq_nil_of_length_eq_zero h3
  subst e1
  have e2:lo=(arrOf st).size:=by simpa using h2
  subst e2
  exact ⟨rfl,S⟩
 case step =>
  rintro t c st2 _ ht ⟨lo,rest,rfl,S,h1,h2⟩
  dsimp only
  by_cases hge:lo ≥ (arrOf st).size
  ·rw [if_pos hge]
   have h3:rest.length=0:=by omega
   have e1:rest=[]:=List.eq_nil_of_length_eq_zero h3
   subst e1
   have e2:lo=(arrOf st).size:=by simpa using h2
   subst e2
   exact wpS_pure ⟨rfl,S⟩
  ·rw [if_neg hge]
   have ga2:=all_perm S.perm ga
   have sz2:(arrOf st2).size=(arrOf st).size:=S.perm.size_eq
   refine wpS_bind (wpS_crun S.k ga2 (by omega) (by omega) fun m st3 A3 m1 m2 u3=>?_)
   obtain ⟨S3,l3⟩:=S.as A3
   have ga3:=all_perm S3.perm ga
   have sz3:(arrOf st3).size=(arrOf st).size:=S3.perm.size_eq
   have tail:∀ (n:Nat) (st4:SortSt) (Q':ForInStep (Option Unit×Nat)→SortSt→Prop),SRun o (arrOf st) lo ((arrOf st4).toList.drop lo) st4→lo + ((arrOf st4).toList.drop lo).length=(arrOf st).size→0 < n→n≤(arrOf st).size - lo→o.up (arrOf st4) lo (lo + n) →
     (∀ st',(∃ lo' rest,((none,lo + n):Option Unit×Nat)=(none,lo')∧SRun o (arrOf st) lo' rest st'∧t + 1≤lo'∧lo' + rest.length=(arrOf st).size)→Q' (.yield (none,lo + n)) st')→wpS M A E s (srT (arrOf st).size lo n) Q' st4:=fun n st4 Q' S4 l4 n0 n1 u4 hq=>by
    refine wpS_mono (wpS_srT S4 ga n0 (by omega) (up_take u4)) fun r st5 ⟨er,S5⟩=>?_
    subst er
    exact hq st5 ⟨lo + n,_,rfl,S5,by omega,by rw [List.length_drop]; omega⟩
   dsimp only
   split
   ·refine wpS_bind (wpS_lift (wpAny_rule ⟨rfl,?_⟩))
    refine wpS_bind (wpS_bsort S3.k ga3 (by omega) (by omega) u3 fun st4 A4 u4=>?_)
    obtain ⟨S4,l4⟩:=S3.as A4
    rw [if_neg (by decide)]
    refine wpS_conv (m:=srT (arrOf st).size lo (min ((arrOf st).size - lo) (mrun (arrOf st).size (arrOf st).size 0))) ?_ (tail _ st4 _ S4 l4 (by omega) (by omega) u4 fun st' hh=>hh)
    ·dsimp only [srT,srM,srP]
     refine bind_congr fun sx=>?_
     cases (pendingOf sx).back? with
     | none=>rfl
     | some x =>
      obtain ⟨s1,n1,w1⟩:=x
      refine bind2 (congrArg (forIn _ _) (funext fun _=>funext fun _=>bind_congr fun sy=>?_)) (funext fun tt=>?_)
      ·generalize (if (pendingOf sy).size > 1 then (pendingOf sy)[(pendingOf sy).size - 2]? else none)=zz
       rcases zz with _ | ⟨_,_,_⟩ <;> rfl
      ·obtain ⟨z,_⟩:=tt
       cases z <;> rfl
   ·refine wpS_conv (m:=srT (arrOf st).size lo m) ?_ (tail m st3 _ S3 l3 (by omega) m2 u3 fun st' hh=>hh)
    ·dsimp only [srT,srM,srP]
     refine bind_congr fun sx=>?_
     cases (pendingOf sx).back? with
     | none=>rfl
     | some x =>
      obtain ⟨s1,n1,w1⟩:=x
      refine bind2 (congrArg (forIn _ _) (funext fun _=>funext fun _=>bind_congr fun sy=>?_)) (funext fun tt=>?_)
      ·generalize (if (pendingOf sy).size > 1 then (pendingOf sy)[(pendingOf sy).size - 2]? else none)=zz
       rcases zz with _ | ⟨_,_,_⟩ <;> rfl
      ·obtain ⟨z,_⟩:=tt
       cases z <;> rfl
 case post =>
  rintro c st2 ⟨rfl,S⟩
  dsimp only
  have p2:(pendingOf st2).size≤(arrOf st).size:=by
   obtain ⟨Rs,e,el,p⟩:=S.ex
   have:=p.le
   rw [el] at this
   simpa using this
  refine wpS_bind (wpS_mono (wpS_forRange (I:=fun t c st2=>c=(none,())∧SRun o (arrOf st) (arrOf st).size [] st2∧((pendingOf st2).size + t≤(arrOf st).size∨(pendingOf st2).size≤1))
   (Q:=fun c st2=>c=(none,())∧SRun o (arrOf st) (arrOf st).size [] st2∧(pendingOf st2).size≤1) ?step2 ?fin2 ⟨rfl,S,.inl (by omega)⟩) ?post2)
  case fin2 =>
   rintro c st3 ⟨rfl,S3,h3⟩
   exact ⟨rfl,S3,by omega⟩
  case step2 =>
   rintro t c st3 _ ht ⟨rfl,S3,h3⟩
   refine wpS_bind (wpS_get ?_)
   by_cases h4:(pendingOf st3).size≤1
   ·rw [if_pos h4]
    exact wpS_pure ⟨rfl,S3,h4⟩
   ·rw [if_neg h4]
    refine wpS_bind (S3.merge ga ?_ fun st4 S4 e4=>?_)
    ·exact pick_ok _ _ (by omega)
    ·exact wpS_pure ⟨rfl,S4,.inl (by omega)⟩
  case post2 =>
   rintro c st3 ⟨rfl,S3,h3⟩
   refine wpS_pure (h st3 S3.f S3.perm ?_)
   obtain ⟨Rs,e,el,p⟩:=S3.ex
   rw [e,List.append_nil]
   have hl:=p.length
   have hl2:Rs.length≤1:=by rw [← hl]; simpa using h3
   cases Rs with
   | nil=>exact List.Pairwise.nil
   | cons R Rs' =>
    cases Rs' with
    | cons R2 Rs2=>simp at hl2
    | nil =>
     generalize (pendingOf st3).toList=ps at p
     cases p with
     | cons u _ _=>simpa using u
end
section
variable {prog:Program} {w:World} {A:Around} {E:Value→Shared→Prop} {s:Shared}
abbrev midHeap (h:Heap) (a:Addr) (vs:List Value):Heap:=((h.update a (Obj.mapSeq fun _=>#[])).push (seqObj "tuple" vs.toArray 0)).push (seqObj "list" #[] 0)
theorem pw_short {α:Type} {R:α→α→Prop}:∀ {L:List α},L.length < 2→L.Pairwise R
 | [],_=>.nil
 | [_],_=>List.pairwise_singleton _ _
 | _ :: _ :: _,h=>absurd h (by simp)
theorem list_sort_any {a:Addr} {vs:List Value} {n:Nat} {P:Fin→Shared→Prop} {kd:SortKind} (ho:s.heap.get? a=some (seqObj "list" vs.toArray n)) (hle:vs.length≤sizeLine)
  (hkk:2≤vs.length→∀ Q:SortKind→Shared→Prop,Q kd { s with heap:=midHeap s.heap a vs }→wpAny (model prog w) A (keyKind' vs.toArray) Q E { s with heap:=midHeap s.heap a vs })
  (o:Ord (model prog w) A E { s with heap:=midHeap s.heap a vs } kd) (ga:o.all (pairsOf vs))
  (h:∀ ks:Array Keyed,ks.Perm (pairsOf vs)→ks.toList.Pairwise o.le→P (.done (.ret .none)) { s with heap:=sortedHeap s.heap a vs (ks.map (·.2)) }) :
  wpAny (model prog w) A (Builtin.«list.sort» ⟨[.ref a],[]⟩) P E s:=by
 rw [list_sort_plain]
 have ha:=Heap.lt_size ho
 refine wpAny_bind (listItems_at ho rfl (wpAny_bind (listUpdate_at ho rfl ?_)))
 obtain ⟨e1,h1⟩:∃ e1,(s.heap.update a (Obj.mapSeq fun _=>#[])).get? a=some (seqObj "list" #[] e1):=⟨_,get?_update_seq ho (fun _=>#[])⟩
 refine wpAny_bind (seqEpoch_at h1 rfl (wpAny_bind (wpAny_newTuple (wpAny_bind (wpAny_newList (wpAny_holding ?_))))))
 have h6:(midHeap s.heap a vs).get? a=some (seqObj "list" #[] e1):=by
  have n1:a≠(s.heap.update a (Obj.mapSeq fun _=>#[])).objs.size:=Nat.ne_of_lt (by rw [Heap.size_update]; exact ha)
  have n2:a≠((s.heap.update a (Obj.mapSeq fun _=>#[])).push (seqObj "tuple" vs.toArray 0)).objs.size:=Nat.ne_of_lt (by rw [size_push',Heap.size_update]; exact Nat.lt_succ_of_lt ha)
  rw [Heap.get?_push_ne _ _ _ n2,Heap.get?_push_ne _ _ _ n1]
  exact h1
 show wpAny (model prog w) A _ P E { s with heap:=midHeap s.heap a vs }
 dsimp only
 by_cases h2:vs.toArray.size < 2
 ·rw [if_pos h2,if_pos h2]
  refine wpAny_bind (wpAny_pure ?_)
  rw [StateT.run_pure]
  refine wpAny_bind (wpAny_pure (wpAny_bind (seqEpoch_at h6 rfl (wpAny_bind (listUpdate_at h6 rfl ?_ (hsz2:=?_))))))
  ·simp only [bne_self_eq_false,Bool.false_eq_true,if_false]
   refine wpAny_pure (h (pairsOf vs) (Array.Perm.refl _) ?_)
   have hl:(pairsOf vs).toList.length < 2:=by rw [Array.length_toList,pairsOf_size]; simpa using h2
   exact pw_short hl
  ·rw [Array.size_map]
   show (pairsOf vs).size≤_
   rw [pairsOf_size]
   omega
 ·rw [if_neg h2,if_neg h2]
  have h3:2≤vs.length:=by simpa using h2
  refine wpAny_bind (hkk h3 _ ?_)
  refine wpAny_bind (wpAny_mono (wpS_sruns (o:=o) (st:=SortSt.mk' kd (pairsOf vs) #[] 7 none) (Q:=fun _ st'=>failedOf st'=none∧(arrOf st').Perm (pairsOf vs)∧(arrOf st').toList.Pairwise o.le) rfl rfl ga rfl fun st' a1 a2 a3=>⟨a1,a2,a3⟩) ?_ fun _ _ e=>e)
  rintro ⟨⟨⟩,st'⟩ s' ⟨rfl,hf,hp,hs⟩
  refine wpAny_bind (seqEpoch_at h6 rfl (wpAny_bind (listUpdate_at h6 rfl ?_ (hsz2:=?_))))
  ·dsimp only at hf ⊢
   rw [hf]
   simp only [bne_self_eq_false,Bool.false_eq_true,if_false]
   exact wpAny_pure (h _ hp hs)
  ·refine Nat.le_trans (Nat.le_of_eq ((Array.size_map ..).trans (hp.size_eq.trans (pairsOf_size _)))) ?_
   omega
end
section
variable {prog:Program} {w:World} {A:Around} {E:Value→Shared→Prop} {s:Shared}
abbrev bagHeap (h:Heap) (vs:List Value):Heap:=((h.push (seqObj "list" #[] 0)).update h.objs.size (Obj.mapSeq (· ++ vs.toArray))).push (seqObj "list" vs.toArray 0)
theorem sorted_any {l:Addr} {vs:List Value} {Q:Value→Shared→Prop} {kd:SortKind} (hl:s.heap.IsList l vs.toArray) (hle:vs.length≤sizeLine) (le:Keyed→Keyed→Prop)
  (hkk:2≤vs.length→∀ (A':Around) (E':Value→Shared→Prop) (Q:SortKind→Shared→Prop),Q kd { s with heap:=midHeap (bagHeap s.heap vs) (s.heap.objs.size + 1) vs }→wpAny (model prog w) A' (keyKind' vs.toArray) Q E' { s with heap:=midHeap (bagHeap s.heap vs) (s.heap.objs.size + 1) vs })
  (ord:∀ (A':Around) (E':Value→Shared→Prop),A'.units≤A.units + 4→∃ o:Ord (model prog w) A' E' { s with heap:=midHeap (bagHeap s.heap vs) (s.heap.objs.size + 1) vs } kd,o.all (pairsOf vs)∧∀ x y,o.le x y→le x y)
  (h:∀ ks:Array Keyed,ks.Perm (pairsOf vs)→ks.toList.Pairwise le→Q (.ref (s.heap.objs.size + 1)) { s with heap:=sortedAll s.heap vs (ks.map (·.2)) }) :
  wpAny (model prog w) A (call (.builtin "sorted") [.ref l]) Q E s:=by
 refine Calls.call_function_entry kind_sorted plain_sorted entry_sorted (args_sorted1 _) ?_
 unfold Builtin.«sorted»
 refine wpAny_bind (m:=checkCount "sorted" 1 1 _) (wpAny_pure (wpAny_bind (collect_list hl (wpAny_bind (wpAny_newList ?_)) hle)))
 have hsz:((s.heap.push (seqObj "list" #[] 0)).update s.heap.objs.size (Obj.mapSeq (· ++ vs.toArray))).objs.size=s.heap.objs.size + 1:=by
  rw [Heap.size_update,size_push']
 have hb:(bagHeap s.heap vs).get? (s.heap.objs.size + 1)=some (seqObj "list" vs.toArray 0):=by
  rw [← hsz]; exact Heap.get?_push_size _ rfl
 show wpAny _ _ _ _ _ { s with heap:=bagHeap s.heap vs }
 rw [hsz]
 obtain ⟨o,ga,ho⟩:=ord A.in1.in1 E (by show A.units + 1 + 1≤_; omega)
 refine wpAny_bind (wpAny_holding (wpAny_call_entry slot_list_sort ⟨_,hb,rfl⟩ entry_list_sort (list_sort_any (s:={ s with heap:=bagHeap s.heap vs }) (kd:=kd) hb hle (fun h2 Q q=>hkk h2 _ _ Q q) o ga fun ks kp ku=>⟨_,rfl,?_⟩) (args_list_sort _)))
 exact wpAny_pure ⟨_,rfl,h ks kp (ku.imp fun {x y} z=>ho x y z)⟩
end
mutual
def Dt.blt:Dt→Dt→Bool
 | .int i,.int j=>decide (i < j)
 | .int _,.str _=>true
 | .int _,.tup _=>true
 | .str _,.int _=>false
 | .str x,.str y=>decide (x.cps.toList < y.cps.toList)
 | .str _,.tup _=>true
 | .tup _,.int _=>false
 | .tup _,.str _=>false
 | .tup l,.tup m=>Dt.blts l m
def Dt.blts:List Dt→List Dt→Bool
 | [],[]=>false
 | [],_ :: _=>true
 | _ :: _,[]=>false
 | a :: l,b :: m=>if Dt.beq a b=true then Dt.blts l m else Dt.blt a b
end
theorem Dt.beq_false {a b:Dt}:Dt.beq a b=false↔a≠b:=by
 rw [← Bool.not_eq_true,Dt.beq_iff]
mutual
theorem Dt.irr:∀ a:Dt,Dt.blt a a=false
 | .int i=>by simp [Dt.blt]
 | .str x=>by simp only [Dt.blt,decide_eq_false_iff_not]; exact List.lt_irrefl _
 | .tup l=>by simp only [Dt.blt]; exact Dt.irrs l
theorem Dt.irrs:∀ l:List Dt,Dt.blts l l=false
 | []=>by simp [Dt.blts]
 | a :: l=>by simp only [Dt.blts,Dt.beq_self,if_true]; exact Dt.irrs l
end
mutual
theorem Dt.tot:∀ a b:Dt,Dt.blt a b=false→Dt.blt b a=false→a=b
 | .int i,.int j=>by simp only [Dt.blt,decide_eq_false_iff_not]; intro h1 h2; congr 1; omega
 | .int i,.str y=>by simp [Dt.blt]
 | .int i,.tup m=>by simp [Dt.blt]
 | .str x,.int j=>by simp [Dt.blt]
 | .str x,.str y=>by
  simp only [Dt.blt,decide_eq_false_iff_not]
  intro h1 h2
  have:x.cps.toList=y.cps.toList:=List.le_antisymm (List.not_lt.mp h2) (List.not_lt.mp h1)
  cases x with | mk cx =>
  cases y with | mk cy =>
  have:cx=cy:=Array.toList_inj.mp this
  rw [this]
 | .str x,.tup m=>by simp [Dt.blt]
 | .tup l,.int j=>by simp [Dt.blt]
 | .tup l,.str y=>by simp [Dt.blt]
 | .tup l,.tup m=>by simp only [Dt.blt]; intro h1 h2; rw [Dt.tots l m h1 h2]
theorem Dt.tots:∀ l m:List Dt,Dt.blts l m=false→Dt.blts m l=false→l=m
 | [],[]=>by simp
 | [],b :: m=>by simp [Dt.blts]
 | a :: l,[]=>by simp [Dt.blts]
 | a :: l,b :: m=>by
  simp only [Dt.blts]
  intro h1 h2
  by_cases e:a=b
  ·subst e
   rw [if_pos (Dt.beq_self a)] at h1 h2
   rw [Dt.tots l m h1 h2]
  ·rw [if_neg (by rw [Dt.beq_iff]; exact e)] at h1
   rw [if_neg (by rw [Dt.beq_iff]; exact fun z=>e z.symm)] at h2
   exact absurd (Dt.tot a b h1 h2) e
end
mutual
theorem Dt.trn:∀ a b c:Dt,Dt.blt a b=true→Dt.blt b c=true→Dt.blt a c=true
 | .int i,.int j,.int k=>by simp only [Dt.blt,decide_eq_true_eq]; omega
 | .int i,.int j,.str z=>by simp [Dt.blt]
 | .int i,.int j,.tup n=>by simp [Dt.blt]
 | .int i,.str y,.int k=>by simp [Dt.blt]
 | .int i,.str y,.str z=>by simp [Dt.blt]
 | .int i,.str y,.tup n=>by simp [Dt.blt]
 | .int i,.tup m,.int k=>by simp [Dt.blt]
 | .int i,.tup m,.str z=>by simp [Dt.blt]
 | .int i,.tup m,.tup n=>by simp [Dt.blt]
 | .str x,.int j,c=>by intro h; simp only [Dt.blt,Bool.false_eq_true] at h
 | .str x,.str y,.int k=>by simp [Dt.blt]
 | .str x,.str y,.str z=>by simp only [Dt.blt,decide_eq_true_eq]; exact List.lt_trans
 | .str x,.str y,.tup n=>by simp [Dt.blt]
 | .str x,.tup m,.int k=>by simp [Dt.blt]
 | .str x,.tup m,.str z=>by simp [Dt.blt]
 | .str x,.tup m,.tup n=>by simp [Dt.blt]
 | .tup l,.int j,c=>by intro h; simp only [Dt.blt,Bool.false_eq_true] at h
 | .tup l,.str y,c=>by intro h; simp only [Dt.blt,Bool.false_eq_true] at h
 | .tup l,.tup m,.int k=>by simp [Dt.blt]
 | .tup l,.tup m,.str z=>by simp [Dt.blt]
 | .tup l,.tup m,.tup n=>by simp only [Dt.blt]; exact Dt.trns l m n
theorem Dt.trns:∀ l m n:List Dt,Dt.blts l m=true→Dt.blts m n=true→Dt.blts l n=true
 | [],[],n=>by intro h; simp only [Dt.blts,Bool.false_eq_true] at h
 | [],b :: m,[]=>by simp [Dt.blts]
 | [],b :: m,c :: n=>by simp [Dt.blts]
 | a :: l,[],n=>by intro h; simp only [Dt.blts,Bool.false_eq_true] at h
 | a :: l,b :: m,[]=>by simp [Dt.blts]
 | a :: l,b :: m,c :: n=>by
  simp only [Dt.blts]
  intro h1 h2
  by_cases e1:a=b
  ·subst e1
   rw [if_pos (Dt.beq_self a)] at h1
   by_cases e2:a=c
   ·subst e2
    rw [if_pos (Dt.beq_self a)] at h2 ⊢
    exact Dt.trns l m n h1 h2
   ·have ne:¬ Dt.beq a c=true:=by rw [Dt.beq_iff]; exact e2
    rw [if_neg ne] at h2 ⊢
    exact h2
  ·rw [if_neg (by rw [Dt.beq_iff]; exact e1)] at h1
   by_cases e2:b=c
   ·subst e2
    rw [if_neg (by rw [Dt.beq_iff]; exact e1)]
    exact h1
   ·rw [if_neg (by rw [Dt.beq_iff]; exact e2)] at h2
    have t:=Dt.trn a b c h1 h2
    by_cases e3:a=c
    ·subst e3
     rw [Dt.irr] at t
     cases t
    ·rw [if_neg (by rw [Dt.beq_iff]; exact e3)]
     exact t
end
def dtOrd:KeyOrd where
 α:=Dt
 blt:=Dt.blt
 irrefl:=Dt.irr
 trans:=Dt.trn
 negTrans a b c h:=by
  cases hb:Dt.blt a b with
  | true=>exact .inl rfl
  | false =>
   cases hc:Dt.blt b a with
   | true=>exact .inr (Dt.trn _ _ _ hc h)
   | false=>rw [← Dt.tot a b hb hc]; exact .inr h
 total:=Dt.tot
end BF
namespace BF
open PySem PySem.Spec PyProof.Rows L2 PySem.SeqAt
def LtAt (A:Around) (s:Shared) (x y:Value) (b:Bool):Prop:=∀ (prog:Program) (w:World) (Q E:Value→Shared→Prop),Q (.bool b) s→wpAny (model prog w) A (richCompare .Lt x y) Q E s
inductive Lx (A:Around) (s:Shared):List Value→List Value→Bool→Prop where
 | both:Lx A s [] [] false
 | left (y:Value) (ys:List Value):Lx A s [] (y :: ys) true
 | right (x:Value) (xs:List Value):Lx A s (x :: xs) [] false
 | like {x y:Value} {xs ys:List Value} {r:Bool} (h:EqAt A s x y true) (t:Lx A s xs ys r):Lx A s (x :: xs) (y :: ys) r
 | part {x y:Value} {r:Bool} (xs ys:List Value) (h:EqAt A s x y false) (k:LtAt A s x y r):Lx A s (x :: xs) (y :: ys) r
section
open PySem.AutoSeq1 (wpAny_loadPart')
open PySem.MeetsSeq PySem.MeetsSeq2 PySem.MeetsSeq3
theorem tuple_lt_lx (l b:Addr) (pa pb:Array Value) (n n2:Nat) (dd dd2:Option Addr) (sl sl2:Array (Option Value)) (r:Bool) :
  Meets (Builtin.«tuple.__lt__» ⟨[.ref l,.ref b],[]⟩)
   (fun A R s=>Lx A.in1 s pa.toList pb.toList r∧s.heap.get? l=some { cls:=.type "tuple",dict:=dd,data:=.seq pa n,slots:=sl }∧s.heap.get? b=some { cls:=.type "tuple",dict:=dd2,data:=.seq pb n2,slots:=sl2 } ∧
    R (.ok (.ret (.bool r))) s) :=
 .of_wp fun prog w A R s h=>by
  obtain ⟨hp,g,d,tk,os⟩:=s
  obtain ⟨lx,hl,hb,h⟩:=h
  have f2:=AutoSeq1.sub_tuple_tuple
  wp_walk using wpAny_loadPart' hl,wpAny_loadPart' hb,wpAny_forIn_list _ (fun rest q s'=>q.1=none∧s'=⟨hp,g,d,tk,os⟩∧∃ (vs ws:List Value),rest=vs.zip ws ∧
   Lx A.in1 ⟨hp,g,d,tk,os⟩ vs ws r∧vs.length + pb.size=ws.length + pa.size) _
  case turn =>
   rintro ⟨y,x⟩ rest q s' ⟨hq,rfl,vs,ws,hz,lx,hlen⟩
   cases lx with
   | both=>rw [List.zip_nil_left] at hz; cases hz
   | left=>rw [List.zip_nil_left] at hz; cases hz
   | right=>rw [List.zip_nil_right] at hz; cases hz
   | @like x' y' xs ys _ he t =>
    rw [List.zip_cons_cons] at hz
    injection hz with e1 e2
    injection e1 with e3 e4
    subst e3 e4
    simp only [List.length_cons] at hlen
    refine wpAny_bind (he prog w _ _ ?_)
    wp_walk
    exact ⟨rfl,rfl,_,_,e2,t,by omega⟩
   | @part x' y' _ xs ys he k =>
    rw [List.zip_cons_cons] at hz
    injection hz with e1 e2
    injection e1 with e3 e4
    subst e3 e4
    refine wpAny_bind (he prog w _ _ ?_)
    have kk:∀ (E:Value→Shared→Prop) (Q:Value→Shared→Prop),Q (.bool r) ⟨hp,g,d,tk,os⟩→wpAny (model prog w) A.in1 (richCompare .Lt y x) Q E ⟨hp,g,d,tk,os⟩:=fun E Q z=>k prog w Q E z
    wp_walk using kk
    exact ⟨_,rfl,by simpa using h⟩
  case fin =>
   rintro ⟨b1,b2⟩ s' ⟨hq,rfl,vs,ws,hz,lx,hlen⟩
   simp only at hq
   subst hq
   have hv:r=decide (pa.size < pb.size):=by
    cases lx with
    | both=>simp only [List.length_nil] at hlen; exact (decide_eq_false (by omega)).symm
    | left=>simp only [List.length_nil,List.length_cons] at hlen; exact (decide_eq_true (by omega)).symm
    | right=>simp only [List.length_nil,List.length_cons] at hlen; exact (decide_eq_false (by omega)).symm
    | like=>rw [List.zip_cons_cons] at hz; cases hz
    | part=>rw [List.zip_cons_cons] at hz; cases hz
   subst hv
   wp_walk
   exact ⟨_,rfl,by simpa [Builtin.Tuple.tupleCompareSizes] using h⟩
  case h =>
   exact ⟨rfl,rfl,pa.toList,pb.toList,rfl,lx,by simp; omega⟩
end
theorem ltAt_tuples {A:Around} {s:Shared} {l b:Addr} {pa pb:Array Value} {r:Bool} (hl:IsTup s.heap l pa) (hb:IsTup s.heap b pb) (lx:Lx A.in1 s pa.toList pb.toList r) (hu:A.units < cLine):LtAt A s (.ref l) (.ref b) r:=by
 intro prog w Q E h
 obtain ⟨⟨cls,dd,data,sl⟩,ho,hc,n,hd⟩:=id hl
 obtain ⟨⟨cls2,dd2,data2,sl2⟩,ho2,hc2,n2,hd2⟩:=id hb
 simp only at hc hd hc2 hd2
 subst hc hd hc2 hd2
 exact richCompare_meets_room (op:=.Lt) ⟨_,ho,rfl⟩ ⟨_,ho2,rfl⟩ PySem.F.slot_tuple_lt PySem.F.entry_tuple_lt (PySem.F.args_tuple_lt_2 _ _) (tuple_lt_lx l b pa pb n n2 dd dd2 sl sl2 r)
  ⟨lx,ho,ho2,show Value.bool r≠Value.notImplemented∧Q (.bool r) s from ⟨(fun x=>nomatch x),h⟩⟩ hu
mutual
def Dt.like:Dt→Dt→Bool
 | .int _,.int _=>true
 | .str _,.str _=>true
 | .tup l,.tup m=>Dt.likes l m
 | _,_=>false
def Dt.likes:List Dt→List Dt→Bool
 | a :: l,b :: m=>Dt.like a b && Dt.likes l m
 | _,_=>true
end
section
variable {X:Cx} {pins:List (Addr×Obj)} {σ:L2.St} {H:Hp} {s:Shared}
mutual
theorem ltAt_D (I:Inv X pins σ H s):∀ {d d':Dt} {v v':V} {u u':Value} (A:Around),DtIs H v d→RelV v u→DtIs H v' d'→RelV v' u'→Dt.like d d'=true→A.units + d.dp < cLine→LtAt A s u u' (Dt.blt d d')
 | .int i,.int j=>by
  intro A h r h' r' hk hu
  cases h
  cases h'
  obtain ⟨t,rfl⟩:=r
  obtain ⟨t',rfl⟩:=r'
  intro prog w Q E h
  rw [show Dt.blt (.int i) (.int j)=decide (i < j) by simp only [Dt.blt]] at h
  exact (PyProof.Rows.lt_int h:wpAny (model prog w) A (compareOp .Lt (.int i t) (.int j t')) Q E s)
 | .str x,.str y=>by
  intro A h r h' r' hk hu
  cases h
  cases h'
  obtain ⟨t,rfl⟩:=r
  obtain ⟨t',rfl⟩:=r'
  intro prog w Q E h
  rw [show Dt.blt (.str x) (.str y)=decide (x.cps.toList < y.cps.toList) by simp only [Dt.blt]] at h
  exact (PyProof.Rows.lt_str h:wpAny (model prog w) A (compareOp .Lt (.str x t) (.str y t')) Q E s)
 | .tup l,.tup m=>by
  intro A h r h' r' hk hu
  cases h with
  | tup e q =>
  cases h' with
  | tup e' q' =>
  cases r
  cases r'
  obtain ⟨its,rv,p,_⟩:=I.tuple (SqT.of e)
  obtain ⟨its',rv',p',_⟩:=I.tuple (SqT.of e')
  have hd:A.units + (Dt.dps l + 1) < cLine:=by simpa only [Dt.dp] using hu
  have hk':Dt.likes l m=true:=by simpa only [Dt.like] using hk
  rw [show Dt.blt (.tup l) (.tup m)=Dt.blts l m by simp only [Dt.blt]]
  exact ltAt_tuples p p' (lx_D I A.in1 q rv q' rv' hk' (by show A.units + 1 + _ < _; omega)) (by omega)
 | .int _,.str _=>by
  intro A h r h' r' hk hu
  simp only [Dt.like,Bool.false_eq_true] at hk
 | .int _,.tup _=>by
  intro A h r h' r' hk hu
  simp only [Dt.like,Bool.false_eq_true] at hk
 | .str _,.int _=>by
  intro A h r h' r' hk hu
  simp only [Dt.like,Bool.false_eq_true] at hk
 | .str _,.tup _=>by
  intro A h r h' r' hk hu
  simp only [Dt.like,Bool.false_eq_true] at hk
 | .tup _,.int _=>by
  intro A h r h' r' hk hu
  simp only [Dt.like,Bool.false_eq_true] at hk
 | .tup _,.str _=>by
  intro A h r h' r' hk hu
  simp only [Dt.like,Bool.false_eq_true] at hk
theorem lx_D (I:Inv X pins σ H s):∀ {ds ds':List Dt} {vs vs':List V} {us us':List Value} (A:Around),DtsIs H vs ds→Vals vs us→DtsIs H vs' ds'→Vals vs' us'→Dt.likes ds ds'=true→A.units + Dt.dps ds < cLine→Lx A s us us' (Dt.blts ds ds')
 | [],[]=>by
  intro A h r h' r' hk hu
  cases h
  cases r
  cases h'
  cases r'
  rw [show Dt.blts [] []=false by simp only [Dt.blts]]; exact .both
 | [],_ :: _=>by
  intro A h r h' r' hk hu
  cases h
  cases r
  cases h'
  cases r'
  rw [show ∀ a l,Dt.blts [] (a :: l)=true from fun a l=>by simp only [Dt.blts]]; exact .left _ _
 | _ :: _,[]=>by
  intro A h r h' r' hk hu
  cases h
  cases r
  cases h'
  cases r'
  rw [show ∀ a l,Dt.blts (a :: l) []=false from fun a l=>by simp only [Dt.blts]]; exact .right _ _
 | d :: ds,d' :: ds'=>by
  intro A h r h' r' hk hu
  cases h with
  | cons h t =>
  cases r with
  | cons r rs =>
  cases h' with
  | cons h' t' =>
  cases r' with
  | cons r' rs' =>
  have hk':Dt.like d d'=true∧Dt.likes ds ds'=true:=by simpa only [Dt.likes,Bool.and_eq_true] using hk
  have hu':A.units + max d.dp (Dt.dps ds) < cLine:=by simpa only [Dt.dps] using hu
  have hq:=eqAt_D I A h r h' r' (by omega)
  rw [show Dt.blts (d :: ds) (d' :: ds')=if Dt.beq d d'=true then Dt.blts ds ds' else Dt.blt d d' by simp only [Dt.blts]]
  cases hb:Dt.beq d d' with
  | true =>
   rw [hb] at hq
   rw [if_pos rfl]
   exact .like hq (lx_D I A t rs t' rs' hk'.2 (by omega))
  | false =>
   rw [hb] at hq
   rw [if_neg Bool.false_ne_true]
   exact .part _ _ hq (ltAt_D I A h r h' r' hk'.1 (by omega))
end
end
abbrev tupKind (f:Bool):SortKind:=(sortPriv% PySem.Builtin.KeyKind.tuples) f
theorem keyLt_tuples (f:Bool) (x y:Value):keyLt' (tupKind f) x y=(do
  let a ← Builtin.List.listItems x
  let b ← Builtin.List.listItems y
  for ((p,q),i) in (a.toList.zip b.toList).zipIdx do
   if !(← eqBool p q) then return ← oneLt' (f && i == 0) p q
  return a.size < b.size):=rfl
theorem oneLt_false (x y:Value):oneLt' false x y=(do truthOfDropped (← richCompare .Lt x y)):=rfl
inductive Lk (A:Around) (s:Shared) (prog:Program) (w:World) (f:Bool):Nat→List Value→List Value→Bool→Prop where
 | both (i:Nat):Lk A s prog w f i [] [] false
 | left (i:Nat) (y:Value) (ys:List Value):Lk A s prog w f i [] (y :: ys) true
 | right (i:Nat) (x:Value) (xs:List Value):Lk A s prog w f i (x :: xs) [] false
 | like {i:Nat} {x y:Value} {xs ys:List Value} {r:Bool} (h:EqAt A s x y true) (t:Lk A s prog w f (i + 1) xs ys r):Lk A s prog w f i (x :: xs) (y :: ys) r
 | part {i:Nat} {x y:Value} {r:Bool} (xs ys:List Value) (h:EqAt A s x y false) (k:∀ (E:Value→Shared→Prop) (Q:Bool→Shared→Prop),Q r s→wpAny (model prog w) A (oneLt' (f && i == 0) x y) Q E s):Lk A s prog w f i (x :: xs) (y :: ys) r
theorem keyLt_lk {A:Around} {s:Shared} {prog:Program} {w:World} {f:Bool} {l b:Addr} {pa pb:Array Value} {r:Bool} {Q:Bool→Shared→Prop} {E:Value→Shared→Prop} (hl:IsTup s.heap l pa) (hb:IsTup s.heap b pb) (lk:Lk A s prog w f 0 pa.toList pb.toList r) (h:Q r s) :
  wpAny (model prog w) A (keyLt' (tupKind f) (.ref l) (.ref b)) Q E s:=by
 obtain ⟨o1,ho,hc,n,hd⟩:=id hl
 obtain ⟨o2,ho2,hc2,n2,hd2⟩:=id hb
 rw [keyLt_tuples]
 refine wpAny_bind (listItems_at ho hd ?_)
 refine wpAny_bind (listItems_at ho2 hd2 ?_)
 refine wpAny_bind (wpAny_forIn_list _ (fun rest c s'=>c=(none,())∧s'=s∧∃ (i:Nat) (vs ws:List Value),rest=(vs.zip ws).zipIdx i∧Lk A s prog w f i vs ws r∧vs.length + pb.size=ws.length + pa.size)
  (fun c s'=>s'=s∧(c=(some r,())∨(c=(none,())∧r=decide (pa.size < pb.size)))) ?turn ?fin _ _ ⟨rfl,rfl,0,_,_,rfl,lk,by simp; omega⟩ |> fun z=>wpAny_mono z ?post fun _ _ e=>e)
 case turn =>
  rintro ⟨⟨p,q⟩,j⟩ rest c s' ⟨rfl,rfl,i,vs,ws,hz,lk,hlen⟩
  cases lk with
  | both=>simp at hz
  | left=>simp at hz
  | right=>simp at hz
  | @like _ x y xs ys _ he t =>
   rw [List.zip_cons_cons,List.zipIdx_cons] at hz
   injection hz with e1 e2
   injection e1 with e3 e4
   injection e3 with e5 e6
   subst e5 e6 e4
   simp only [List.length_cons] at hlen
   refine wpAny_bind (he prog w _ _ ?_)
   exact wpAny_pure ⟨rfl,rfl,_,_,_,e2,t,by omega⟩
  | @part _ x y _ xs ys he k =>
   rw [List.zip_cons_cons,List.zipIdx_cons] at hz
   injection hz with e1 e2
   injection e1 with e3 e4
   injection e3 with e5 e6
   subst e5 e6 e4
   refine wpAny_bind (he prog w _ _ ?_)
   exact wpAny_bind (k _ _ (wpAny_pure ⟨rfl,.inl rfl⟩))
 case fin =>
  rintro c s' ⟨rfl,rfl,i,vs,ws,hz,lk,hlen⟩
  refine ⟨rfl,.inr ⟨rfl,?_⟩⟩
  cases lk with
  | both=>simp only [List.length_nil] at hlen; exact (decide_eq_false (by omega)).symm
  | left=>simp only [List.length_nil,List.length_cons] at hlen; exact (decide_eq_true (by omega)).symm
  | right=>simp only [List.length_nil,List.length_cons] at hlen; exact (decide_eq_false (by omega)).symm
  | like=>simp at hz
  | part=>simp at hz
 case post =>
  rintro c s' ⟨rfl,rfl | ⟨rfl,hr⟩⟩
  ·exact wpAny_pure h
  ·subst hr
   exact wpAny_pure h
section
variable {X:Cx} {pins:List (Addr×Obj)} {σ:L2.St} {H:Hp} {s:Shared}
def Dt.flat:Dt→Bool
 | .tup _=>false
 | _=>true
theorem oneLt_D (I:Inv X pins σ H s) {d d':Dt} {v v':V} {u u':Value} {A:Around} {g:Bool} (h:DtIs H v d) (r:RelV v u) (h':DtIs H v' d') (r':RelV v' u') (hk:Dt.like d d'=true) (hu:A.units + d.dp < cLine) (hg:g=true→Dt.flat d=true)
  {prog:Program} {w:World} {E:Value→Shared→Prop} {Q:Bool→Shared→Prop} (q:Q (Dt.blt d d') s):wpAny (model prog w) A (oneLt' g u u') Q E s:=by
 cases g with
 | false =>
  rw [oneLt_false]
  exact wpAny_bind (ltAt_D I A h r h' r' hk hu prog w _ _ (wpAny_truthy_bool q))
 | true =>
  have hf:=hg rfl
  cases h with
  | int i =>
   cases h' with
   | int j =>
    obtain ⟨t,rfl⟩:=r
    obtain ⟨t',rfl⟩:=r'
    exact oneLt_int (by simpa only [Dt.blt] using q)
   | str y=>simp only [Dt.like,Bool.false_eq_true] at hk
   | tup _ _=>simp only [Dt.like,Bool.false_eq_true] at hk
  | str x =>
   cases h' with
   | str y =>
    obtain ⟨t,rfl⟩:=r
    obtain ⟨t',rfl⟩:=r'
    exact oneLt_str (by simpa only [Dt.blt] using q)
   | int j=>simp only [Dt.like,Bool.false_eq_true] at hk
   | tup _ _=>simp only [Dt.like,Bool.false_eq_true] at hk
  | tup _ _=>simp only [Dt.flat,Bool.false_eq_true] at hf
theorem lk_D (I:Inv X pins σ H s) {f:Bool} {prog:Program} {w:World}:∀ {ds ds':List Dt} {vs vs':List V} {us us':List Value} (A:Around) (i:Nat),DtsIs H vs ds→Vals vs us→DtsIs H vs' ds'→Vals vs' us'→Dt.likes ds ds'=true→A.units + Dt.dps ds < cLine →
  (f=true→i=0→∀ d,ds.head?=some d→Dt.flat d=true)→Lk A s prog w f i us us' (Dt.blts ds ds')
 | [],[]=>by
  intro A i h r h' r' hk hu hf
  cases h
  cases r
  cases h'
  cases r'
  rw [show Dt.blts [] []=false by simp only [Dt.blts]]; exact .both _
 | [],_ :: _=>by
  intro A i h r h' r' hk hu hf
  cases h
  cases r
  cases h'
  cases r'
  rw [show ∀ a l,Dt.blts [] (a :: l)=true from fun a l=>by simp only [Dt.blts]]; exact .left _ _ _
 | _ :: _,[]=>by
  intro A i h r h' r' hk hu hf
  cases h
  cases r
  cases h'
  cases r'
  rw [show ∀ a l,Dt.blts (a :: l) []=false from fun a l=>by simp only [Dt.blts]]; exact .right _ _ _
 | d :: ds,d' :: ds'=>by
  intro A i h r h' r' hk hu hf
  cases h with
  | cons h t =>
  cases r with
  | cons r rs =>
  cases h' with
  | cons h' t' =>
  cases r' with
  | cons r' rs' =>
  have hk':Dt.like d d'=true∧Dt.likes ds ds'=true:=by simpa only [Dt.likes,Bool.and_eq_true] using hk
  have hu':A.units + max d.dp (Dt.dps ds) < cLine:=by simpa only [Dt.dps] using hu
  have hq:=eqAt_D I A h r h' r' (by omega)
  rw [show Dt.blts (d :: ds) (d' :: ds')=if Dt.beq d d'=true then Dt.blts ds ds' else Dt.blt d d' by simp only [Dt.blts]]
  cases hb:Dt.beq d d' with
  | true =>
   rw [hb] at hq
   rw [if_pos rfl]
   exact .like hq (lk_D I A (i + 1) t rs t' rs' hk'.2 (by omega) (fun _ z=>absurd z (by omega)))
  | false =>
   rw [hb] at hq
   rw [if_neg Bool.false_ne_true]
   refine .part _ _ hq fun E Q q=>oneLt_D I h r h' r' hk'.1 (by omega) (fun hg=>?_) q
   rw [Bool.and_eq_true] at hg
   exact hf hg.1 (by simpa using hg.2) d rfl
end
section
variable {X:Cx} {pins:List (Addr×Obj)} {σ:L2.St} {H:Hp} {s:Shared}
def DatOf (H:Hp) (u:Value) (d:Dt):Prop:=∃ v,RelV v u∧DtIs H v d
theorem DatOf.inj {u:Value} {d d':Dt} (h:DatOf H u d) (h':DatOf H u d'):d=d':=by
 obtain ⟨v,r,q⟩:=h
 obtain ⟨v',r',q'⟩:=h'
 cases q with
 | int i =>
  obtain ⟨t,rfl⟩:=r
  cases q' with
  | int j=>obtain ⟨t',e⟩:=r'; cases e; rfl
  | str y=>obtain ⟨t',e⟩:=r'; cases e
  | tup e _=>cases r'
 | str x =>
  obtain ⟨t,rfl⟩:=r
  cases q' with
  | int j=>obtain ⟨t',e⟩:=r'; cases e
  | str y=>obtain ⟨t',e⟩:=r'; cases e; rfl
  | tup e _=>cases r'
 | @tup a xs ds e h =>
  cases r
  cases q' with
  | int j=>obtain ⟨t',e⟩:=r'; cases e
  | str y=>obtain ⟨t',e⟩:=r'; cases e
  | @tup a' xs' ds' e' h2 =>
   cases r'
   exact DtIs.inj (.tup e h) (.tup e' h2)
open Classical in
noncomputable def datKey (H:Hp) (p:Keyed):Dt:=if h:∃ d,DatOf H p.1 d then Classical.choose h else .int 0
theorem datKey_eq {p:Keyed} {d:Dt} (h:DatOf H p.1 d):datKey H p=d:=by
 have hx:∃ d,DatOf H p.1 d:=⟨d,h⟩
 unfold datKey
 rw [dif_pos hx]
 exact DatOf.inj (Classical.choose_spec hx) h
noncomputable def ordT (I:Inv X pins σ H s) (prog:Program) (w:World) (A:Around) (E:Value→Shared→Prop) (f:Bool) (P:Dt→Prop) (hP:∀ d d',P d→P d'→∃ l m,d=.tup l∧d'=.tup m∧Dt.likes l m=true∧A.units + Dt.dps l < cLine∧(f=true→∀ a,l.head?=some a→Dt.flat a=true)) :
  Ord (model prog w) A E s (tupKind f) where
 O:=dtOrd
 key:=datKey H
 G:=fun p=>∃ d,DatOf H p.1 d∧P d
 lt:=fun {st x y Q} hk gx gy h=>by
  obtain ⟨d,hd,pd⟩:=gx
  obtain ⟨d',hd',pd'⟩:=gy
  rw [datKey_eq hd,datKey_eq hd'] at h
  obtain ⟨l,m,rfl,rfl,lk,hu,hf⟩:=hP d d' pd pd'
  obtain ⟨v,r,q⟩:=hd
  obtain ⟨v',r',q'⟩:=hd'
  obtain ⟨x1,x2⟩:=x
  obtain ⟨y1,y2⟩:=y
  cases q with
  | tup e qs =>
   cases q' with
   | tup e' qs' =>
    cases r
    cases r'
    obtain ⟨its,rv,p,_⟩:=I.tuple (SqT.of e)
    obtain ⟨its',rv',p',_⟩:=I.tuple (SqT.of e')
    rw [lt'_eq]
    refine wpS_bind (wpS_get ?_)
    rw [hk]
    have hb:Q (some (Dt.blts l m)) st:=by
     have:dtOrd.blt (.tup l) (.tup m)=Dt.blts l m:=by show Dt.blt _ _=_; simp only [Dt.blt]
     rw [← this]; exact h
    refine wpS_bind (wpS_lift (wpAny_attempt (keyLt_lk p p' (lk_D I A 0 qs rv qs' rv' lk hu (fun z _=>hf z)) ⟨rfl,?_⟩)))
    exact wpS_pure hb
end
theorem vals_perm {us us':List Value} (p:us.Perm us'):∀ {ys:List V},Vals ys us→∃ zs,Vals zs us'∧ys.Perm zs:=by
 induction p with
 | nil=>intro ys r; exact ⟨ys,r,.refl _⟩
 | cons x _ ih =>
  intro ys r
  cases r with
  | cons r1 r2 =>
   obtain ⟨zs,a,b⟩:=ih r2
   exact ⟨_ :: zs,.cons r1 a,b.cons _⟩
 | swap x y l =>
  intro ys r
  cases r with
  | cons r1 r2 =>
   cases r2 with
   | cons r3 r4=>exact ⟨_ :: _ :: _,.cons r3 (.cons r1 r4),.swap _ _ _⟩
 | trans _ _ ih1 ih2 =>
  intro ys r
  obtain ⟨zs,a,b⟩:=ih1 r
  obtain ⟨ws,c,d⟩:=ih2 a
  exact ⟨ws,c,b.trans d⟩
theorem dts_perm {H:Hp} {ys zs:List V} (p:ys.Perm zs):∀ {ds:List Dt},DtsIs H ys ds→∃ es,DtsIs H zs es∧ds.Perm es:=by
 induction p with
 | nil=>intro ds r; exact ⟨ds,r,.refl _⟩
 | cons x _ ih =>
  intro ds r
  cases r with
  | cons r1 r2 =>
   obtain ⟨es,a,b⟩:=ih r2
   exact ⟨_ :: es,.cons r1 a,b.cons _⟩
 | swap x y l =>
  intro ds r
  cases r with
  | cons r1 r2 =>
   cases r2 with
   | cons r3 r4=>exact ⟨_ :: _ :: _,.cons r3 (.cons r1 r4),.swap _ _ _⟩
 | trans _ _ ih1 ih2 =>
  intro ds r
  obtain ⟨es,a,b⟩:=ih1 r
  obtain ⟨fs,c,d⟩:=ih2 a
  exact ⟨fs,c,b.trans d⟩
def Dt.tag:Dt→String
 | .int _=>"int"
 | .str _=>"str"
 | .tup _=>"tuple"
theorem mid_old {h:Heap} {vs:List Value} {c:Addr} {o:Obj} (e:h.get? c=some o):(midHeap (bagHeap h vs) (h.objs.size + 1) vs).get? c=some o:=by
 have hc:=Heap.lt_size e
 refine Heap.get?_push_of_some _ (Heap.get?_push_of_some _ ?_)
 rw [Heap.get?_update_other _ _ (Ne.symm (Nat.ne_of_lt (Nat.lt_succ_of_lt hc)))]
 refine Heap.get?_push_of_some _ ?_
 rw [Heap.get?_update_other _ _ (Ne.symm (Nat.ne_of_lt hc))]
 exact Heap.get?_push_of_some _ e
theorem dts_at {H:Hp}:∀ {ys:List V} {ds:List Dt} {us:List Value},DtsIs H ys ds→Vals ys us→∀ (i:Nat) (u:Value),us[i]?=some u→∃ d,ds[i]?=some d∧DatOf H u d
 | _,_,_,.nil,.nil,i,u,e=>by simp at e
 | _,_,_,.cons h t,.cons r rs,0,u,e=>by
  simp at e
  subst e
  exact ⟨_,rfl,_,r,h⟩
 | _,_,_,.cons h t,.cons r rs,i + 1,u,e=>by
  simp at e
  obtain ⟨d,e1,e2⟩:=dts_at t rs i u e
  exact ⟨d,by simpa using e1,e2⟩
section
variable {X:Cx}
theorem looks_D {M:Model} {pins:List (Addr×Obj)} {σ:L2.St} {H:Hp} {s:Shared} (I:Inv X pins σ H s) {u:Value} {d:Dt} (h:DatOf H u d):PySem.W.Looks M s.heap (typeOf u) (.type d.tag):=by
 obtain ⟨v,r,q⟩:=h
 cases q with
 | int i=>obtain ⟨t,rfl⟩:=r; exact .now
 | str x=>obtain ⟨t,rfl⟩:=r; exact .now
 | tup e _ =>
  cases r
  obtain ⟨its,_,⟨o,ho,hc,_⟩,_⟩:=I.tuple (SqT.of e)
  exact hc ▸ (show PySem.W.Looks M s.heap (typeOf (.ref _)) o.cls from (PySem.W.Looks.ld ho).andThen .now)
theorem katT {pins:List (Addr×Obj)} {σ:L2.St} {H:Hp} {s:Shared} (I:Inv X pins σ H s) {T:String}:∀ {ys:List V} {ds:List Dt} {us:List Value},DtsIs H ys ds→Vals ys us→(∀ d∈ds,∃ e r,d=.tup (e :: r)∧e.tag=T) →
  ∃ fs,PySem.W.KatTups s.heap us fs∧fs.length=us.length∧∀ f∈fs,∃ e,DatOf H f e∧e.tag=T
 | _,_,_,.nil,.nil,_=>⟨[],trivial,rfl,fun _ z=>nomatch z⟩
 | _,_,_,.cons h t,.cons r rs,hs=>by
  obtain ⟨fs,k,lf,hf⟩:=katT I t rs fun d hd=>hs d (List.mem_cons_of_mem _ hd)
  obtain ⟨e,r',rfl,et⟩:=hs _ (List.mem_cons_self ..)
  cases h with
  | tup ex qs =>
   cases r
   obtain ⟨its,rv,⟨o,ho,hc,n,hd⟩,_⟩:=I.tuple (SqT.of ex)
   cases qs with
   | cons q1 q2 =>
    cases rv with
    | cons r1 r2 =>
     refine ⟨_ :: fs,PySem.W.KatTups.cons ho hc hd rfl k,by simp [lf],fun f hf'=>?_⟩
     rcases List.mem_cons.mp hf' with rfl | hf'
     ·exact ⟨e,⟨_,r1,q1⟩,et⟩
     ·exact hf f hf'
def rSortT (X:Cx):List V→Hp→VK→Prop:=fun xs H Q=>∃ a ys ds T,xs=[.ref a]∧SqL X.K H a ys∧DtsIs H ys ds∧(∀ d∈ds,∃ e r,d=.tup (e :: r)∧e.tag=T) ∧
 (∀ d∈ds,∀ d'∈ds,Dt.like d d'=true)∧(∀ d∈ds,X.A.units + 4 + d.dp < cLine) ∧
 ∀ l zs es,H l=none→zs.Perm ys→DtsIs H zs es→es.Perm ds→es.Pairwise (fun d d'=>Dt.blt d' d=false)→Q (.ref l) (upd H l (.lst zs))
theorem call_sortedT:CallR X (.builtin "sorted") (rSortT X):=by
 intro pins s σ H xs us Q I r h
 obtain ⟨a,ys,ds,T,rfl,hS,hD,hT,hL,hu,q⟩:=h
 obtain ⟨u,rfl,r1⟩:=vals1 r
 cases r1
 obtain ⟨its,rv,p,hz⟩:=I.list hS
 have hlen:its.length≤sizeLine:=by rw [← rv.length]; exact hz
 have I6:Inv X pins σ H { s with heap:=midHeap (bagHeap s.heap its) (s.heap.objs.size + 1) its }:=I.kept (t':=s.toks) fun b o e=>mid_old e
 refine sorted_any (kd:=tupKind (Value.type T != Value.type "tuple")) p.isList hlen (fun x y=>Dt.blt (datKey H y) (datKey H x)=false) (fun h2 A' E' Q' q'=>?_) (fun A' E' hA=>?_) fun ks kp ku=>?_
 ·obtain ⟨fs,k,lf,hf⟩:=katT I6 hD rv hT
  refine PySem.W.kat_kind (T:=.type T) k (by omega) (fun v hv=>?_) (by simp) q'
  obtain ⟨e,he,et⟩:=hf v hv
  exact et ▸ looks_D I6 he
 ·refine ⟨ordT I6 X.prog X.w A' E' _ (fun d=>d∈ds) fun d d' hd hd'=>?_,fun i x ex=>?_,fun x y hxy=>hxy⟩
  ·obtain ⟨e,l,rfl,et⟩:=hT d hd
   obtain ⟨e',l',rfl,et'⟩:=hT d' hd'
   refine ⟨_,_,rfl,rfl,by simpa only [Dt.like] using hL _ hd _ hd',?_,fun hf b hb=>?_⟩
   ·have:=hu _ hd
    simp only [Dt.dp] at this
    omega
   ·have:e=b:=by simpa using hb
    subst this
    cases e with
    | int _=>rfl
    | str _=>rfl
    | tup m=>rw [← et] at hf; simp [Dt.tag] at hf
  ·have hx:(pairsOf its).toList[i]?=some x:=by simpa using ex
   rw [pairsOf_toList] at hx
   obtain ⟨d,e1,e2⟩:=dts_at hD rv i x.1 (by
    rw [List.getElem?_zip_eq_some] at hx
    exact hx.1)
   exact ⟨d,e2,List.mem_of_getElem? e1⟩
 ·-- the row told
  have kl:ks.toList.Perm (its.zip its):=by rw [← pairsOf_toList]; exact Array.perm_iff_toList_perm.mp kp
  have k2:((ks.map (·.2)).toList).Perm its:=by
   rw [Array.toList_map]
   have:=kl.map (·.2)
   rwa [List.map_snd_zip (by omega)] at this
  have k12:∀ x∈ks.toList,x.1=x.2:=fun x hx=>by
   have:=kl.mem_iff.mp hx
   obtain ⟨i,e⟩:=List.mem_iff_getElem?.mp this
   rw [List.getElem?_zip_eq_some] at e
   exact Option.some.inj (e.1.symm.trans e.2)
  obtain ⟨zs,vz,pz⟩:=vals_perm k2.symm rv
  obtain ⟨es,de,pe⟩:=dts_perm pz hD
  refine ⟨.ref (s.heap.objs.size + 1),upd H (s.heap.objs.size + 1) (.lst zs),I.laid (t':=s.toks) (fun b o e=>sortedAll_old e) (Nat.le_succ _) ?_,rfl,q _ zs es (I.hok.fresh (Nat.le_succ _)) pz.symm de pe.symm ?_⟩
  ·obtain ⟨n,e⟩:=sortedAll_at s.heap its (ks.map (·.2))
   refine ⟨by rw [← pz.length_eq]; exact hz,(ks.map (·.2)).toList,n,vz,?_⟩
   rw [e]
  ·rw [List.pairwise_iff_getElem] at ku ⊢
   intro i j hi hj hij
   have lks:ks.toList.length=es.length:=by
    rw [kl.length_eq,List.length_zip,← de.length,← pz.length_eq,rv.length,Nat.min_self]
   have z:=ku i j (by omega) (by omega) hij
   have key:∀ (i:Nat) (h1:i < ks.toList.length) (h2:i < es.length),datKey H ks.toList[i]=es[i]:=fun i h1 h2=>by
    have e0:((ks.map (·.2)).toList)[i]?=some ks.toList[i].2:=by
     rw [Array.toList_map,List.getElem?_map,List.getElem?_eq_getElem h1]; rfl
    obtain ⟨d,e1,e2⟩:=dts_at de vz i _ e0
    rw [List.getElem?_eq_getElem h2] at e1
    cases e1
    refine datKey_eq ?_
    rw [k12 _ (List.getElem_mem h1)]
    exact e2
   rw [key i (by omega) hi,key j (by omega) hj] at z
   exact z
end
end BF
namespace BF
open PySem PySem.SetTable
def lpN (m:Nat):Nat→Nat→Nat→Nat×Nat
 | 0,i,pt=>(i,pt)
 | n + 1,i,pt=>lpN m n ((i * 5 + 1 + pt / 32) % (m + 1)) (pt / 32)
def itf (m:Nat):Nat→Nat→Nat
 | 0,i=>i
 | n + 1,i=>itf m n ((i * 5 + 1) % (m + 1))
theorem lpN_zero (m:Nat):∀ n i,lpN m n i 0=(itf m n i,0)
 | 0,_=>rfl
 | n + 1,i=>lpN_zero m n _
theorem lpN_add (m:Nat):∀ a b i pt,lpN m (a + b) i pt=lpN m b (lpN m a i pt).1 (lpN m a i pt).2
 | 0,b,i,pt=>by rw [Nat.zero_add]; rfl
 | a + 1,b,i,pt=>by
  rw [Nat.succ_add]
  exact lpN_add m a b _ _
theorem lpN_pt (m:Nat):∀ n i pt,(lpN m n i pt).2=pt / 32 ^ n
 | 0,_,pt=>by rw [Nat.pow_zero,Nat.div_one]; rfl
 | n + 1,i,pt=>by
  rw [Nat.pow_succ,Nat.mul_comm,← Nat.div_div_eq_div_mul]
  exact lpN_pt m n _ _
theorem lpN_le (m:Nat):∀ n i pt,i≤m→(lpN m n i pt).1≤m
 | 0,i,pt,h=>h
 | n + 1,i,pt,h=>lpN_le m n _ _ (Nat.le_of_lt_succ (Nat.mod_lt _ (Nat.succ_pos m)))
theorem itf_add (m:Nat):∀ a b i,itf m (a + b) i=itf m b (itf m a i)
 | 0,b,i=>by rw [Nat.zero_add]; rfl
 | a + 1,b,i=>by
  rw [Nat.succ_add]
  exact itf_add m a b _
def orb (m:Nat):Nat→Nat→Nat
 | 0,_=>0
 | n + 1,i=>2 ^ i ||| orb m n ((i * 5 + 1) % (m + 1))
theorem orb_bit (m:Nat):∀ n i j,(orb m n i).testBit j=true→∃ b,b < n∧itf m b i=j
 | 0,i,j,h=>by simp [orb] at h
 | n + 1,i,j,h=>by
  rw [orb,Nat.testBit_or,Bool.or_eq_true] at h
  rcases h with h | h
  ·rw [Nat.testBit_two_pow] at h
   exact ⟨0,Nat.succ_pos _,by show i=j; simpa using h⟩
  ·obtain ⟨b,hb,e⟩:=orb_bit m n _ j h
   exact ⟨b + 1,Nat.succ_lt_succ hb,e⟩
def MaskOk (m:Nat):Prop:=m=7∨m=31∨m=127∨m=511
theorem orb_full {m:Nat} (h:MaskOk m):orb m (m + 1) 0=2 ^ (m + 1) - 1∧itf m (m + 1) 0=0:=by
 rcases h with rfl | rfl | rfl | rfl
 ·exact ⟨by decide +kernel,by decide +kernel⟩
 ·exact ⟨by decide +kernel,by decide +kernel⟩
 ·exact ⟨by decide +kernel,by decide +kernel⟩
 ·exact ⟨by decide +kernel,by decide +kernel⟩
theorem itf_zero {m:Nat} (h:MaskOk m) {j:Nat} (hj:j≤m):∃ b,b≤m∧itf m b 0=j:=by
 obtain ⟨b,hb,e⟩:=orb_bit m (m + 1) 0 j (by rw [(orb_full h).1,Nat.testBit_two_pow_sub_one]; exact decide_eq_true (Nat.lt_succ_of_le hj))
 exact ⟨b,Nat.le_of_lt_succ hb,e⟩
theorem itf_cover {m:Nat} (h:MaskOk m) {i j:Nat} (hi:i≤m) (hj:j≤m):∃ b,b≤m∧itf m b i=j:=by
 obtain ⟨a,ha,ea⟩:=itf_zero h hi
 obtain ⟨b,hb,eb⟩:=itf_zero h hj
 by_cases hab:a≤b
 ·refine ⟨b - a,by omega,?_⟩
  rw [← ea,← itf_add,Nat.add_sub_cancel' hab,eb]
 ·refine ⟨m + 1 - a + b,by omega,?_⟩
  rw [← ea,← itf_add]
  have:a + (m + 1 - a + b)=(m + 1) + b:=by omega
  rw [this,itf_add,(orb_full h).2,eb]
theorem lpN_cover {m:Nat} (h:MaskOk m) {i j pt:Nat} (hi:i≤m) (hp:pt < 2 ^ 64) (hj:j≤m):∃ b,b < m + 15∧(lpN m b i pt).1=j:=by
 obtain ⟨b,hb,e⟩:=itf_cover h (lpN_le m 13 i pt hi) hj
 refine ⟨13 + b,by omega,?_⟩
 rw [lpN_add,lpN_pt,Nat.div_eq_of_lt (Nat.lt_trans hp (by decide)),lpN_zero]
 exact e
def advM (m:Nat) (p:Probe):Probe :=
 if p.more > 0 then { p with j:=p.j + 1,more:=p.more - 1 } else
 { p with j:=(leap m p.i p.perturb).1,more:=runEnd m (leap m p.i p.perturb).1 - (leap m p.i p.perturb).1,i:=(leap m p.i p.perturb).1,perturb:=(leap m p.i p.perturb).2 }
theorem adv_eq (t:SetTable) (p:Probe):t.advance p=advM t.mask p:=rfl
def bst (m i pt k:Nat):Probe:={ j:=i + k,more:=runEnd m i - i - k,i:=i,perturb:=pt,dummy:=none }
theorem start_eq (t:SetTable) (h:Int):t.probeStart h=bst t.mask (bits h % (t.mask + 1)) (bits h) 0:=rfl
theorem bst_in {m i pt k:Nat} (h:k < runEnd m i - i):advM m (bst m i pt k)=bst m i pt (k + 1):=by
 unfold advM
 rw [if_pos (show (bst m i pt k).more > 0 by show runEnd m i - i - k > 0; omega)]
 rfl
theorem bst_out {m i pt k:Nat} (h:runEnd m i - i≤k):advM m (bst m i pt k)=bst m ((i * 5 + 1 + pt / 32) % (m + 1)) (pt / 32) 0:=by
 unfold advM
 rw [if_neg (show ¬ (bst m i pt k).more > 0 by show ¬ runEnd m i - i - k > 0; omega)]
 rfl
theorem run9 (m i:Nat):runEnd m i - i≤9:=by
 unfold runEnd; split <;> omega
def Hits (m:Nat) (occ:Nat→Prop):Nat→Probe→Prop
 | 0,p=>¬ occ p.j
 | n + 1,p=>¬ occ p.j∨Hits m occ n (advM m p)
theorem Hits.up {m:Nat} {occ:Nat→Prop}:∀ {n:Nat} {p:Probe},Hits m occ n p→Hits m occ (n + 1) p
 | 0,p,h=>.inl h
 | n + 1,p,.inl h=>.inl h
 | n + 1,p,.inr h=>.inr h.up
theorem Hits.mono {m:Nat} {occ:Nat→Prop} {n k:Nat} {p:Probe} (h:Hits m occ n p) (hk:n≤k):Hits m occ k p:=by
 induction hk with
 | refl=>exact h
 | step _ ih=>exact ih.up
theorem hits_in {m:Nat} {occ:Nat→Prop} {i pt n:Nat} (h:Hits m occ n (bst m ((i * 5 + 1 + pt / 32) % (m + 1)) (pt / 32) 0)) :
  ∀ d k,runEnd m i - i - k=d→k≤runEnd m i - i→Hits m occ (n + 1 + d) (bst m i pt k)
 | 0,k,hd,hk=>.inr (by rw [bst_out (by omega)]; exact h)
 | d + 1,k,hd,hk=>by
  refine .inr ?_
  rw [bst_in (by omega)]
  exact hits_in h d (k + 1) (by omega) (by omega)
theorem hits_of {m:Nat} {occ:Nat→Prop}:∀ (b i pt:Nat),¬ occ (lpN m b i pt).1→Hits m occ (10 * b) (bst m i pt 0)
 | 0,i,pt,h=>h
 | b + 1,i,pt,h=>by
  have r:=run9 m i
  exact (hits_in (hits_of b _ _ h) (runEnd m i - i) 0 (by omega) (Nat.zero_le _)).mono (by omega)
inductive Rch (m:Nat) (occ:Nat→Prop):Probe→Nat→Prop where
 | here (p:Probe):Rch m occ p p.j
 | next {p:Probe} {j:Nat} (h:occ p.j) (r:Rch m occ (advM m p) j):Rch m occ p j
theorem Rch.mono {m:Nat} {occ occ':Nat→Prop} (w:∀ j,occ j→occ' j) {p:Probe} {j:Nat} (h:Rch m occ p j):Rch m occ' p j:=by
 induction h with
 | here p=>exact .here p
 | next h _ ih=>exact .next (w _ h) ih
theorem bits_lt (h:Int):bits h < 2 ^ 64:=by
 unfold bits
 have h1:(0:Int)≤h % 2 ^ 64:=Int.emod_nonneg _ (by decide)
 have h2:h % 2 ^ 64 < 2 ^ 64:=Int.emod_lt_of_pos _ (by decide)
 omega
def startM (m:Nat) (h:Int):Probe:=bst m (bits h % (m + 1)) (bits h) 0
theorem hits_start {m:Nat} (hm:MaskOk m) {occ:Nat→Prop} {j:Nat} (hj:j≤m) (he:¬ occ j) (h:Int):Hits m occ (10 * (m + 14)) (startM m h):=by
 obtain ⟨b,hb,e⟩:=lpN_cover hm (Nat.le_of_lt_succ (Nat.mod_lt (bits h) (Nat.succ_pos m))) (bits_lt h) hj
 exact (hits_of b _ _ (by rw [e]; exact he)).mono (by omega)
theorem pigeon:∀ (n:Nat) (l:List Nat),(∀ j,j < n→j∈l)→n≤l.length
 | 0,l,_=>Nat.zero_le _
 | n + 1,l,h=>by
  have hn:=h n (Nat.lt_succ_self n)
  have:=pigeon n (l.erase n) fun j hj=>(List.mem_erase_of_ne (Nat.ne_of_lt hj)).mpr (h j (Nat.lt_succ_of_lt hj))
  rw [List.length_erase_of_mem hn] at this
  have:=List.length_pos_of_mem hn
  omega
theorem pigeon_free {n:Nat} {l:List Nat} (h:l.length < n):∃ j,j < n∧j ∉ l:=by
 refine Classical.byContradiction fun hc=>?_
 have:=pigeon n l fun j hj=>Classical.byContradiction fun hn=>hc ⟨j,hj,hn⟩
 omega
def Rises (xs:List Nat):Prop:=xs.Pairwise (· < ·)
theorem below_go (xs:Array Nat) (j:Nat) (hr:Rises xs.toList):∀ (fuel lo hi:Nat),hi - lo≤fuel→lo≤hi→hi≤xs.size→(∀ i,i < lo→∀ x,xs[i]?=some x→x < j)→(∀ i,hi≤i→∀ x,xs[i]?=some x→j≤x) →
  ∃ p,SetTable.below.go xs j fuel lo hi=p∧p≤xs.size∧(∀ i,i < p→∀ x,xs[i]?=some x→x < j)∧(∀ i,p≤i→∀ x,xs[i]?=some x→j≤x)
 | 0,lo,hi,hf,hl,hs,h1,h2=>by
  have:lo=hi:=by omega
  subst this
  exact ⟨lo,rfl,hs,h1,h2⟩
 | fuel + 1,lo,hi,hf,hl,hs,h1,h2=>by
  unfold SetTable.below.go
  by_cases hlt:lo < hi
  ·rw [if_pos hlt]
   have hm:(lo + hi) / 2 < xs.size:=by omega
   have em:xs.getD ((lo + hi) / 2) j=xs[(lo + hi) / 2]:=by simp [Array.getD,hm]
   have inc:∀ a b x y:Nat,a < b→xs[a]?=some x→xs[b]?=some y→x < y:=fun a b x y hab ea eb=>by
    have ea':xs.toList[a]?=some x:=by rw [Array.getElem?_toList]; exact ea
    have eb':xs.toList[b]?=some y:=by rw [Array.getElem?_toList]; exact eb
    obtain ⟨ha,ea'⟩:=List.getElem?_eq_some_iff.mp ea'
    obtain ⟨hb,eb'⟩:=List.getElem?_eq_some_iff.mp eb'
    have:=List.pairwise_iff_getElem.mp hr a b ha hb hab
    rw [ea',eb'] at this
    exact this
   dsimp only
   rw [em]
   by_cases hx:xs[(lo + hi) / 2] < j
   ·rw [if_pos hx]
    refine below_go xs j hr fuel ((lo + hi) / 2 + 1) hi (by omega) (by omega) hs (fun i hi' x ex=>?_) h2
    rcases Nat.lt_or_ge i ((lo + hi) / 2) with h | h
    ·exact Nat.lt_trans (inc i _ x _ h ex (Array.getElem?_eq_getElem hm)) hx
    ·have:i=(lo + hi) / 2:=by omega
     subst this
     rw [Array.getElem?_eq_getElem hm] at ex
     cases ex
     exact hx
   ·rw [if_neg hx]
    refine below_go xs j hr fuel lo ((lo + hi) / 2) (by omega) (by omega) (by omega) h1 (fun i hi' x ex=>?_)
    rcases Nat.lt_or_ge ((lo + hi) / 2) i with h | h
    ·have:=inc _ i _ x h (Array.getElem?_eq_getElem hm) ex
     omega
    ·have:i=(lo + hi) / 2:=by omega
     subst this
     rw [Array.getElem?_eq_getElem hm] at ex
     cases ex
     omega
  ·rw [if_neg hlt]
   have:lo=hi:=by omega
   subst this
   exact ⟨lo,rfl,hs,h1,h2⟩
theorem below_spec {xs:Array Nat} (hr:Rises xs.toList) (j:Nat):below xs j≤xs.size∧(∀ i,i < below xs j→∀ x,xs[i]?=some x→x < j)∧(∀ i,below xs j≤i→∀ x,xs[i]?=some x→j≤x):=by
 obtain ⟨p,e,h⟩:=below_go xs j hr xs.size 0 xs.size (by omega) (Nat.zero_le _) (Nat.le_refl _) (fun i h=>absurd h (Nat.not_lt_zero _)) (fun i h x ex=>by
  have:xs[i]?=none:=Array.getElem?_eq_none h
  rw [this] at ex; cases ex)
 have:below xs j=p:=e
 rw [this]
 exact h
theorem below_live {xs:Array Nat} (hr:Rises xs.toList) {i j:Nat} (h:xs[i]?=some j):below xs j=i:=by
 obtain ⟨_,h1,h2⟩:=below_spec hr j
 rcases Nat.lt_trichotomy (below xs j) i with h' | h' | h'
 ·-- the place at below is at least j and less than the one at i
  have hi:i < xs.size:=by
   rcases Nat.lt_or_ge i xs.size with z | z
   ·exact z
   ·rw [Array.getElem?_eq_none z] at h; cases h
  have hb:below xs j < xs.size:=Nat.lt_trans h' hi
  have h3:=h2 _ (Nat.le_refl _) _ (Array.getElem?_eq_getElem hb)
  have:=List.pairwise_iff_getElem.mp hr (below xs j) i (by simpa using hb) (by simpa using hi) h'
  rw [Array.getElem?_eq_getElem hi] at h
  cases h
  simp only [Array.getElem_toList] at this
  omega
 ·exact h'
 ·exact absurd (h1 i h' j h) (Nat.lt_irrefl _)
structure TabOk (t:SetTable) (n:Nat):Prop where
 mask:MaskOk t.mask
 rises:Rises t.place.toList
 size:t.place.size=n
 clean:t.dummies=#[]
 top:∀ j∈t.place.toList,j≤t.mask
 full:n * 5 < t.mask * 3
def Occ (t:SetTable) (j:Nat):Prop:=j∈t.place.toList
theorem slot_empty {t:SetTable} {n:Nat} (ok:TabOk t n) {j:Nat} (h:¬ Occ t j):t.slot j=.empty:=by
 unfold SetTable.slot
 have h1:(t.place[below t.place j]? == some j)=false:=by
  cases e:t.place[below t.place j]? with
  | none=>rfl
  | some x =>
   by_cases hx:x=j
   ·subst hx
    exact absurd (Array.mem_toList_iff.mpr (Array.mem_of_getElem? e)) h
   ·simpa using hx
 have h2:has t.dummies j=false:=by rw [ok.clean]; rfl
 dsimp only
 rw [h1,h2]
 rfl
theorem slot_live {t:SetTable} {n:Nat} (ok:TabOk t n) {i j:Nat} (h:t.place[i]?=some j):t.slot j=.live i:=by
 unfold SetTable.slot
 dsimp only
 rw [below_live ok.rises h,h]
 simp
theorem occ_at {t:SetTable} {j:Nat} (h:Occ t j):∃ i:Nat,t.place[i]?=some j:=by
 obtain ⟨i,e⟩:=List.mem_iff_getElem?.mp h
 exact ⟨i,by rw [← Array.getElem?_toList]; exact e⟩
theorem TabOk.free {t:SetTable} {n:Nat} (ok:TabOk t n):∃ j,j≤t.mask∧¬ Occ t j:=by
 have:t.place.toList.length < t.mask + 1:=by
  rw [Array.length_toList,ok.size]
  have:=ok.full
  omega
 obtain ⟨j,h1,h2⟩:=pigeon_free this
 exact ⟨j,Nat.le_of_lt_succ h1,h2⟩
theorem TabOk.fits {t:SetTable} {n:Nat} (ok:TabOk t n):t.fits n=true:=by
 unfold SetTable.fits SetTable.fill
 rw [ok.size,ok.clean]
 have:=ok.full
 simp
 omega
theorem TabOk.odd {t:SetTable} {n:Nat} (ok:TabOk t n):t.gaveWay=false:=by
 unfold SetTable.gaveWay
 rcases ok.mask with h | h | h | h <;> rw [h] <;> rfl
theorem probe_go {t:SetTable} {n:Nat} (ok:TabOk t n) (hashAt:Nat→Int) (h:Int):∀ (k fuel:Nat) (p:Probe),p.dummy=none→k < fuel→Hits t.mask (Occ t) k p →
  (∃ j,SetTable.probe.go t hashAt h fuel p=some (.empty j none)∧¬ Occ t j∧Rch t.mask (Occ t) p j∧(∀ j' i':Nat,Rch t.mask (Occ t) p j'→t.place[i']?=some j'→hashAt i'≠h)) ∨
  (∃ (j i:Nat) (q:Probe) (k':Nat),SetTable.probe.go t hashAt h fuel p=some (.candidate j i q)∧t.place[i]?=some j∧hashAt i=h∧q.dummy=none∧k' < k∧Hits t.mask (Occ t) k' q ∧
   (∀ j',Rch t.mask (Occ t) q j'→Rch t.mask (Occ t) p j')∧(∀ j' i':Nat,Rch t.mask (Occ t) p j'→t.place[i']?=some j'→hashAt i'≠h∨i'=i∨Rch t.mask (Occ t) q j'))
 | k,0,p,_,hf,_=>absurd hf (Nat.not_lt_zero _)
 | k,fuel + 1,p,hd,hf,hh=>by
  unfold SetTable.probe.go
  by_cases ho:Occ t p.j
  ·obtain ⟨i,ei⟩:=occ_at ho
   rw [slot_live ok ei]
   dsimp only
   have hh':∃ k',k=k' + 1∧Hits t.mask (Occ t) k' (advM t.mask p):=by
    cases k with
    | zero=>exact absurd ho hh
    | succ k'=>exact ⟨k',rfl,hh.resolve_left fun z=>z ho⟩
   obtain ⟨k',rfl,hh'⟩:=hh'
   have hd':(advM t.mask p).dummy=none:=by
    unfold advM; split <;> exact hd
   have un:∀ i',t.place[i']?=some p.j→i'=i:=fun i' e'=>by rw [← below_live ok.rises e',below_live ok.rises ei]
   by_cases hq:hashAt i=h
   ·rw [if_pos (by simpa using hq)]
    refine .inr ⟨p.j,i,advM t.mask p,k',rfl,ei,hq,hd',Nat.lt_succ_self _,hh',fun j' r=>.next ho r,fun j' i' r e'=>?_⟩
    cases r with
    | here=>exact .inr (.inl (un i' e'))
    | next _ r=>exact .inr (.inr r)
   ·rw [if_neg (by simpa using hq),adv_eq]
    rcases probe_go ok hashAt h k' fuel (advM t.mask p) hd' (by omega) hh' with ⟨j,e,h1,h2,h3⟩ | ⟨j,i2,q,k2,e,h1,h2,h3,h4,h5,h6,h7⟩
    ·refine .inl ⟨j,e,h1,.next ho h2,fun j' i' r e'=>?_⟩
     cases r with
     | here=>rw [un i' e']; exact hq
     | next _ r=>exact h3 j' i' r e'
    ·refine .inr ⟨j,i2,q,k2,e,h1,h2,h3,by omega,h5,fun j' r=>.next ho (h6 j' r),fun j' i' r e'=>?_⟩
     cases r with
     | here=>rw [un i' e']; exact .inl hq
     | next _ r=>exact h7 j' i' r e'
  ·rw [slot_empty ok ho]
   dsimp only
   refine .inl ⟨p.j,by rw [hd],ho,.here p,fun j' i' r e'=>?_⟩
   cases r with
   | here=>exact absurd (Array.mem_toList_iff.mpr (Array.mem_of_getElem? e')) ho
   | next h _=>exact absurd h ho
theorem insAt_get {α:Type} (xs:Array α) (p:Nat) (x:α) (hp:p≤xs.size) (i:Nat):(insertAt xs p x)[i]?=if i < p then xs[i]? else if i=p then some x else xs[i - 1]?:=by
 rw [← Array.getElem?_toList,SetTable.toList_insertAt]
 have hl:(xs.toList.take p).length=p:=by rw [List.length_take,Array.length_toList]; omega
 by_cases h1:i < p
 ·rw [if_pos h1]
  rw [List.getElem?_append_left (by omega),List.getElem?_take_of_lt h1,Array.getElem?_toList]
 ·rw [if_neg h1]
  rw [List.getElem?_append_right (by omega),hl]
  by_cases h2:i=p
  ·rw [if_pos h2,h2,Nat.sub_self]; rfl
  ·rw [if_neg h2]
   have:i - p=(i - 1 - p) + 1:=by omega
   rw [this,List.getElem?_cons_succ,List.getElem?_drop,Array.getElem?_toList]
   congr 1
   omega
theorem insAt_size {α:Type} (xs:Array α) (p:Nat) (x:α):(insertAt xs p x).size=xs.size + 1:=by
 rw [← Array.length_toList,(SetTable.insertAt_perm xs p x).length_eq,Array.toList_push,List.length_append,Array.length_toList]; rfl
structure SetPre (t:SetTable) (es:Array (Int×Value)):Prop where
 mask:MaskOk t.mask
 rises:Rises t.place.toList
 size:t.place.size=es.size
 clean:t.dummies=#[]
 top:∀ j∈t.place.toList,j≤t.mask
 reach:∀ (i j:Nat) (e:Int×Value),t.place[i]?=some j→es[i]?=some e→Rch t.mask (Occ t) (startM t.mask e.1) j
structure SetOk (t:SetTable) (es:Array (Int×Value)):Prop extends SetPre t es where
 full:es.size * 5 < t.mask * 3
theorem SetOk.tab {t:SetTable} {es:Array (Int×Value)} (h:SetOk t es):TabOk t es.size:=⟨h.mask,h.rises,h.size,h.clean,h.top,h.full⟩
theorem put_place {t:SetTable} (h:t.dummies=#[]) (j:Nat):(t.put j).1={ t with place:=insertAt t.place (below t.place j) j }∧(t.put j).2=below t.place j:=by
 unfold SetTable.put
 dsimp only
 refine ⟨?_,rfl⟩
 have:has t.dummies j=false:=by rw [h]; rfl
 rw [this]
 rfl
theorem SetOk.put {t:SetTable} {es:Array (Int×Value)} (h:SetOk t es) {j:Nat} (hj:j≤t.mask) (hf:¬ Occ t j) {e:Int×Value} (hr:Rch t.mask (Occ t) (startM t.mask e.1) j) :
  SetPre (t.put j).1 (insertAt es (t.put j).2 e):=by
 obtain ⟨e1,e2⟩:=put_place h.clean j
 rw [e1,e2]
 obtain ⟨b1,b2,b3⟩:=below_spec h.rises j
 have hp:below t.place j≤es.size:=by rw [← h.size]; exact b1
 have mem:∀ x,x∈(insertAt t.place (below t.place j) j).toList↔x=j∨x∈t.place.toList:=fun x=>by
  rw [(SetTable.insertAt_perm t.place (below t.place j) j).mem_iff,Array.toList_push,List.mem_append,List.mem_singleton,Or.comm]
 have oc:∀ x,Occ t x→Occ { t with place:=insertAt t.place (below t.place j) j } x:=fun x hx=>(mem x).mpr (.inr hx)
 refine ⟨h.mask,?_,?_,h.clean,fun x hx=>?_,fun i k e' ep ee=>?_⟩
 ·show Rises (insertAt t.place (below t.place j) j).toList
  rw [SetTable.toList_insertAt]
  have hr:=h.rises
  have sp:=List.take_append_drop (below t.place j) t.place.toList
  unfold Rises at hr ⊢
  rw [← sp,List.pairwise_append] at hr
  obtain ⟨r1,r2,r3⟩:=hr
  rw [List.pairwise_append]
  refine ⟨r1,List.pairwise_cons.mpr ⟨fun y hy=>?_,r2⟩,fun x hx y hy=>?_⟩
  ·obtain ⟨i,ei⟩:=List.mem_iff_getElem?.mp hy
   rw [List.getElem?_drop,Array.getElem?_toList] at ei
   have:=b3 _ (Nat.le_add_right _ _) _ ei
   have:y≠j:=fun z=>hf (by
    subst z
    exact Array.mem_toList_iff.mpr (Array.mem_of_getElem? ei))
   omega
  ·have hx2:x < j:=by
    obtain ⟨i,ei⟩:=List.mem_iff_getElem?.mp hx
    obtain ⟨hi,_⟩:=List.getElem?_eq_some_iff.mp ei
    rw [List.length_take] at hi
    rw [List.getElem?_take_of_lt (by omega),Array.getElem?_toList] at ei
    exact b2 i (by omega) x ei
   rcases List.mem_cons.mp hy with rfl | hy
   ·exact hx2
   ·exact r3 x hx y hy
 ·show (insertAt t.place (below t.place j) j).size=_
  rw [insAt_size,insAt_size,h.size]
 ·rcases (mem x).mp hx with rfl | hx
  ·exact hj
  ·exact h.top x hx
 ·show Rch t.mask _ (startM t.mask e'.1) k
  have ep':(insertAt t.place (below t.place j) j)[i]?=some k:=ep
  rw [insAt_get _ _ _ b1] at ep'
  rw [insAt_get _ _ _ hp] at ee
  by_cases h1:i < below t.place j
  ·rw [if_pos h1] at ep' ee
   exact (h.reach i k e' ep' ee).mono oc
  ·rw [if_neg h1] at ep' ee
   by_cases h2:i=below t.place j
   ·rw [if_pos h2] at ep' ee
    cases ep'
    cases ee
    exact hr.mono oc
   ·rw [if_neg h2] at ep' ee
    exact (h.reach _ k e' ep' ee).mono oc
theorem SetOk.off {t:SetTable} {es:Array (Int×Value)} (h:SetPre t es):SetPre { t with plain:=false } es:=⟨h.mask,h.rises,h.size,h.clean,h.top,h.reach⟩
def OccO (owner:Array (Option Nat)) (j:Nat):Prop:=∃ k,owner[j]?=some (some k)
theorem occO_iff {owner:Array (Option Nat)} {m j:Nat} (hs:owner.size=m + 1) (hj:j≤m):(owner.getD j (some 0)).isNone=true↔¬ OccO owner j:=by
 have hlt:j < owner.size:=by omega
 have e:owner[j]?=some owner[j]:=Array.getElem?_eq_getElem hlt
 have eg:owner.getD j (some 0)=owner[j]:=by simp [Array.getD,hlt]
 rw [eg]
 unfold OccO
 rw [e]
 cases owner[j] with
 | none=>simp
 | some k=>simp
theorem rch_in {m:Nat} {occ:Nat→Prop} {i pt k:Nat} (hk:k≤runEnd m i - i) (ho:∀ k',k' < k→occ (i + k')):∀ d a,k - a=d→a≤k→Rch m occ (bst m i pt a) (i + k)
 | 0,a,hd,ha=>by
  have:a=k:=by omega
  subst this
  exact .here (bst m i pt a)
 | d + 1,a,hd,ha=>by
  refine .next (ho a (by omega)) ?_
  rw [bst_in (by omega)]
  exact rch_in hk ho d (a + 1) (by omega) (by omega)
theorem rch_out {m:Nat} {occ:Nat→Prop} {i pt j:Nat} (ho:∀ k',k'≤runEnd m i - i→occ (i + k')) (r:Rch m occ (bst m ((i * 5 + 1 + pt / 32) % (m + 1)) (pt / 32) 0) j) :
  ∀ d a,runEnd m i - i - a=d→a≤runEnd m i - i→Rch m occ (bst m i pt a) j
 | 0,a,hd,ha=>.next (ho a ha) (by rw [bst_out (by omega)]; exact r)
 | d + 1,a,hd,ha=>by
  refine .next (ho a ha) ?_
  rw [bst_in (by omega)]
  exact rch_out ho r d (a + 1) (by omega) (by omega)
theorem runEnd_le {m i:Nat} (hi:i≤m):i≤runEnd m i∧runEnd m i≤m:=by
 unfold runEnd; split <;> omega
theorem free_spec {m:Nat} {owner:Array (Option Nat)} (hs:owner.size=m + 1):∀ (fuel i pt:Nat),i≤m→(∃ b,b < fuel∧¬ OccO owner (lpN m b i pt).1) →
  ∃ j,SetTable.layClean.free m owner fuel i pt=some j∧j≤m∧¬ OccO owner j∧Rch m (OccO owner) (bst m i pt 0) j
 | 0,i,pt,hi,h=>by obtain ⟨b,hb,_⟩:=h; exact absurd hb (Nat.not_lt_zero _)
 | fuel + 1,i,pt,hi,h=>by
  obtain ⟨r1,r2⟩:=runEnd_le hi
  unfold SetTable.layClean.free
  cases hf:(List.range (runEnd m i + 1 - i)).find? (fun k=>(owner.getD (i + k) (some 0)).isNone) with
  | some k =>
   dsimp only
   rw [List.find?_range_eq_some] at hf
   obtain ⟨h1,h2,h3⟩:=hf
   have hk:=List.mem_range.mp h2
   refine ⟨i + k,rfl,by omega,(occO_iff hs (by omega)).mp h1,rch_in (by omega) (fun k' hk'=>?_) k 0 (by omega) (Nat.zero_le _)⟩
   have:=h3 k' hk'
   refine Classical.byContradiction fun hc=>?_
   rw [(occO_iff hs (by omega)).mpr hc] at this
   simp at this
  | none =>
   dsimp only
   rw [List.find?_range_eq_none] at hf
   have all:∀ k',k'≤runEnd m i - i→OccO owner (i + k'):=fun k' hk'=>by
    have:=hf k' (by omega)
    refine Classical.byContradiction fun hc=>?_
    rw [(occO_iff hs (by omega)).mpr hc] at this
    simp at this
   obtain ⟨b,hb,hn⟩:=h
   cases b with
   | zero=>exact absurd (all 0 (Nat.zero_le _)) hn
   | succ b =>
    obtain ⟨j,e,h1,h2,h3⟩:=free_spec hs fuel ((i * 5 + 1 + pt / 32) % (m + 1)) (pt / 32) (Nat.le_of_lt_succ (Nat.mod_lt _ (Nat.succ_pos m))) ⟨b,by omega,hn⟩
    exact ⟨j,e,h1,h2,rch_out all h3 _ 0 rfl (Nat.zero_le _)⟩
structure Own (m:Nat) (owner:Array (Option Nat)) (js:List Nat) (hs:List Int):Prop where
 size:owner.size=m + 1
 len:js.length=hs.length
 iff:∀ j k:Nat,owner[j]?=some (some k)↔js[k]?=some j
 top:∀ j∈js,j≤m
 reach:∀ (k j:Nat) (h:Int),js[k]?=some j→hs[k]?=some h→Rch m (OccO owner) (startM m h) j
def layStep (m:Nat) (acc:Option (Array (Option Nat)×Nat)) (h:Int):Option (Array (Option Nat)×Nat):=do
 let (owner,k) ← acc
 let j ← SetTable.layClean.free m owner (turns m) (bits h % (m + 1)) (bits h)
 pure (owner.setIfInBounds j (some k),k + 1)
theorem Own.step {m:Nat} (hm:MaskOk m) {owner:Array (Option Nat)} {js:List Nat} {hs:List Int} (o:Own m owner js hs) (hl:hs.length≤m) (h:Int) :
  ∃ owner' js',layStep m (some (owner,hs.length)) h=some (owner',(hs ++ [h]).length)∧Own m owner' js' (hs ++ [h]):=by
 have:js.length < m + 1:=by rw [o.len]; omega
 obtain ⟨q,hq,hn⟩:=pigeon_free this
 have hno:¬ OccO owner q:=fun ⟨k,e⟩=>hn (List.mem_of_getElem? ((o.iff q k).mp e))
 obtain ⟨b,hb,eb⟩:=lpN_cover hm (Nat.le_of_lt_succ (Nat.mod_lt (bits h) (Nat.succ_pos m))) (bits_lt h) (Nat.le_of_lt_succ hq)
 obtain ⟨j,e,h1,h2,h3⟩:=free_spec o.size (turns m) (bits h % (m + 1)) (bits h) (Nat.le_of_lt_succ (Nat.mod_lt (bits h) (Nat.succ_pos m))) ⟨b,hb,by rw [eb]; exact hno⟩
 have oc:∀ x,OccO owner x→OccO (owner.setIfInBounds j (some hs.length)) x:=fun x ⟨k,ek⟩=>by
  refine ⟨k,?_⟩
  rw [Array.getElem?_setIfInBounds]
  by_cases hx:j=x
  ·subst hx; exact absurd ⟨k,ek⟩ h2
  ·rw [if_neg hx]; exact ek
 refine ⟨owner.setIfInBounds j (some hs.length),js ++ [j],?_,?_,?_,fun x k=>?_,fun x hx=>?_,fun k x h' ex eh=>?_⟩
 ·show (do let j ← SetTable.layClean.free m owner (turns m) (bits h % (m + 1)) (bits h); pure (owner.setIfInBounds j (some hs.length),hs.length + 1))=_
  rw [e,List.length_append]
  rfl
 ·rw [Array.size_setIfInBounds]; exact o.size
 ·rw [List.length_append,List.length_append,o.len]; rfl
 ·rw [Array.getElem?_setIfInBounds]
  by_cases hx:j=x
  ·subst hx
   rw [if_pos rfl,if_pos (by rw [o.size]; omega)]
   constructor
   ·intro z
    have:hs.length=k:=by simpa using z
    subst this
    rw [← o.len,List.getElem?_append_right (Nat.le_refl _),Nat.sub_self]; rfl
   ·intro z
    rcases Nat.lt_or_ge k js.length with hk | hk
    ·rw [List.getElem?_append_left hk] at z
     exact absurd ⟨k,(o.iff _ _).mpr z⟩ h2
    ·rw [List.getElem?_append_right hk] at z
     have:k - js.length=0:=by
      cases hc:k - js.length with
      | zero=>rfl
      | succ n=>rw [hc] at z; simp at z
     have hkk:=o.len
     have:k=hs.length:=by omega
     rw [this]
  ·rw [if_neg hx,o.iff]
   rcases Nat.lt_or_ge k js.length with hk | hk
   ·rw [List.getElem?_append_left hk]
   ·rw [List.getElem?_append_right hk,List.getElem?_eq_none hk]
    constructor
    ·intro z; cases z
    ·intro z
     cases hc:k - js.length with
     | zero=>rw [hc] at z; simp at z; exact absurd z hx
     | succ n=>rw [hc] at z; simp at z
 ·rcases List.mem_append.mp hx with hx | hx
  ·exact o.top x hx
  ·rw [List.mem_singleton] at hx; subst hx; exact h1
 ·rcases Nat.lt_or_ge k js.length with hk | hk
  ·rw [List.getElem?_append_left hk] at ex
   rw [List.getElem?_append_left (by rw [← o.len]; exact hk)] at eh
   exact (o.reach k x h' ex eh).mono oc
  ·rw [List.getElem?_append_right hk] at ex
   rw [List.getElem?_append_right (by rw [← o.len]; exact hk),← o.len] at eh
   cases hc:k - js.length with
   | succ n=>rw [hc] at ex; simp at ex
   | zero =>
    rw [hc] at ex eh
    simp at ex eh
    subst ex eh
    exact h3.mono oc
theorem lay_fold {m:Nat} (hm:MaskOk m):∀ (rest:List Int) (owner:Array (Option Nat)) (js:List Nat) (hs:List Int),Own m owner js hs→(hs ++ rest).length≤m →
  ∃ owner' js',rest.foldl (layStep m) (some (owner,hs.length))=some (owner',(hs ++ rest).length)∧Own m owner' js' (hs ++ rest)
 | [],owner,js,hs,o,hl=>⟨owner,js,by simp,by simpa using o⟩
 | h :: rest,owner,js,hs,o,hl=>by
  have e:hs ++ h :: rest=(hs ++ [h]) ++ rest:=by simp
  rw [e] at hl ⊢
  obtain ⟨o1,j1,e1,w1⟩:=o.step hm (by rw [List.length_append,List.length_append] at hl; omega) h
  rw [List.foldl_cons,e1]
  exact lay_fold hm rest o1 j1 (hs ++ [h]) w1 hl
theorem own_init (m:Nat):Own m (Array.replicate (m + 1) none) [] []:=by
 refine ⟨by simp,rfl,fun j k=>?_,fun j hj=>(by cases hj),fun k j h e=>(by simp at e)⟩
 constructor
 ·intro z
  rw [Array.getElem?_replicate] at z
  split at z <;> simp at z
 ·intro z; simp at z
theorem layClean_ok {m:Nat} (hm:MaskOk m) (hashes:Array Int) (hl:hashes.size≤m):∃ owner js,layClean m hashes=some owner∧Own m owner js hashes.toList:=by
 obtain ⟨owner,js,e,o⟩:=lay_fold hm hashes.toList _ _ _ (own_init m) (by simpa using hl)
 refine ⟨owner,js,?_,by simpa using o⟩
 have z:layClean m hashes=(hashes.foldl (layStep m) (some (Array.replicate (m + 1) none,0))).map (·.1):=rfl
 rw [z,← Array.foldl_toList]
 have e':hashes.toList.foldl (layStep m) (some (Array.replicate (m + 1) none,0))=some (owner,([] ++ hashes.toList).length):=e
 rw [e']
 rfl
theorem relaid_ok {t:SetTable} {es:Array (Int×Value)} {wanted:Nat} (hm:MaskOk (sizeAbove wanted - 1)) (hn:es.size * 5 < (sizeAbove wanted - 1) * 3) :
  ∃ t' order,t.relaid (es.map (·.1)) wanted=some (t',order)∧(order.filterMap (es[·]?)).toList.Perm es.toList∧SetOk t' (order.filterMap (es[·]?))∧t'.led=t.led:=by
 generalize hmm:sizeAbove wanted - 1=m at hm hn
 obtain ⟨owner,js,e,o⟩:=layClean_ok hm (es.map (·.1)) (by rw [Array.size_map]; omega)
 let live:=(List.range (m + 1)).filterMap fun j=>(owner.getD j none).map (j,·)
 have memL:∀ j k,(j,k)∈live↔js[k]?=some j:=fun j k=>by
  show (j,k)∈(List.range (m + 1)).filterMap _↔_
  rw [List.mem_filterMap]
  constructor
  ·rintro ⟨x,hx,ex⟩
   rw [List.mem_range] at hx
   have hlt:x < owner.size:=by rw [o.size]; exact hx
   have eg:owner.getD x none=owner[x]:=by simp [Array.getD,hlt]
   rw [eg] at ex
   cases hc:owner[x] with
   | none=>rw [hc] at ex; simp at ex
   | some k' =>
    rw [hc] at ex
    simp at ex
    obtain ⟨rfl,rfl⟩:=ex
    exact (o.iff _ _).mp (by rw [Array.getElem?_eq_getElem hlt,hc])
  ·intro z
   have hx:=o.top j (List.mem_of_getElem? z)
   have eo:=(o.iff j k).mpr z
   refine ⟨j,List.mem_range.mpr (by omega),?_⟩
   rw [Array.getD_eq_getD_getElem?,eo]
   rfl
 have pw:live.Pairwise (fun a b=>a.1 < b.1):=by
  refine List.Pairwise.filterMap _ (fun a a' haa b hb b' hb'=>?_) List.pairwise_lt_range
  cases hc:owner.getD a none with
  | none=>rw [hc] at hb; simp at hb
  | some k =>
   cases hc':owner.getD a' none with
   | none=>rw [hc'] at hb'; simp at hb'
   | some k' =>
    rw [hc] at hb; rw [hc'] at hb'
    simp at hb hb'
    subst hb hb'
    exact haa
 have hlen:js.length=es.size:=by rw [o.len]; simp
 have ordN:(live.map (·.2)).Nodup:=by
  unfold List.Nodup
  rw [List.pairwise_map]
  refine (List.pairwise_iff_getElem.mpr fun a b ha hb hab=>?_)
  have h1:=List.pairwise_iff_getElem.mp pw a b ha hb hab
  intro z
  have m1:=(memL live[a].1 live[a].2).mp (List.getElem_mem ha)
  have m2:=(memL live[b].1 live[b].2).mp (List.getElem_mem hb)
  rw [z,m2] at m1
  have:=Option.some.inj m1
  omega
 have ordP:(live.map (·.2)).Perm (List.range es.size):=by
  rw [List.perm_ext_iff_of_nodup ordN List.nodup_range]
  intro k
  rw [List.mem_range,List.mem_map]
  constructor
  ·rintro ⟨⟨j,k'⟩,hx,rfl⟩
   obtain ⟨hlt,_⟩:=List.getElem?_eq_some_iff.mp ((memL j k').mp hx)
   omega
  ·intro hk
   have hk':k < js.length:=by omega
   exact ⟨(js[k],k),(memL _ _).mpr (List.getElem?_eq_getElem hk'),rfl⟩
 have esL:((live.map (·.2)).toArray.filterMap (es[·]?)).toList=(live.map (·.2)).filterMap (fun i=>es[i]?):=by rw [Array.toList_filterMap]
 have esP:((live.map (·.2)).toArray.filterMap (es[·]?)).toList.Perm es.toList:=by
  rw [esL]
  refine (ordP.filterMap _).trans ?_
  rw [filterMap_getElem?_range]
 have esz:((live.map (·.2)).toArray.filterMap (es[·]?)).size=es.size:=by rw [← Array.length_toList,esP.length_eq,Array.length_toList]
 have esAt:(live.map (·.2)).filterMap (fun i=>es[i]?)=live.map (fun x=>(es[x.2]?).getD (0,.none)):=by
  have:∀ l:List (Nat×Nat),(∀ x∈l,x.2 < es.size)→(l.map (·.2)).filterMap (fun i=>es[i]?)=l.map (fun x=>(es[x.2]?).getD (0,.none)):=by
   intro l
   induction l with
   | nil=>intro _; rfl
   | cons x l ih =>
    intro h
    have hx:=h x List.mem_cons_self
    rw [List.map_cons,List.filterMap_cons,Array.getElem?_eq_getElem hx,ih fun y hy=>h y (List.mem_cons_of_mem _ hy),List.map_cons,Array.getElem?_eq_getElem hx]
    rfl
  refine this live fun x hx=>?_
  obtain ⟨hlt,_⟩:=List.getElem?_eq_some_iff.mp ((memL x.1 x.2).mp hx)
  omega
 refine ⟨{ mask:=m,place:=(live.map (·.1)).toArray,dummies:=#[],finger:=t.finger,led:=t.led,moves:=t.movedTo (sizeAbove wanted - 1),plain:=t.plain },(live.map (·.2)).toArray,?_,esP,⟨⟨hm,?_,?_,rfl,fun j hj=>?_,fun i j ev ep ee=>?_⟩,?_⟩,rfl⟩
 ·unfold SetTable.relaid SetTable.laid
  rw [hmm,e]
  rfl
 ·show (live.map (·.1)).toArray.toList.Pairwise (· < ·)
  rw [List.toList_toArray,List.pairwise_map]
  exact pw
 ·rw [esz]
  show (live.map (·.1)).toArray.size=_
  have:=ordP.length_eq
  rw [List.length_map,List.length_range] at this
  rw [List.size_toArray,List.length_map,this]
 ·have hj':j∈live.map (·.1):=by simpa using hj
  obtain ⟨⟨x,k⟩,hx,rfl⟩:=List.mem_map.mp hj'
  exact o.top _ (List.mem_of_getElem? ((memL x k).mp hx))
 ·have ep':(live.map (·.1)).toArray[i]?=some j:=ep
  rw [List.getElem?_toArray,List.getElem?_map] at ep'
  rw [← Array.getElem?_toList,esL,esAt,List.getElem?_map] at ee
  cases hc:live[i]? with
  | none=>rw [hc] at ep'; simp at ep'
  | some x =>
   rw [hc] at ep' ee
   simp at ep' ee
   subst ep'
   have mx:=(memL x.1 x.2).mp (List.mem_of_getElem? hc)
   obtain ⟨hlt,_⟩:=List.getElem?_eq_some_iff.mp mx
   have hlt':x.2 < es.size:=by omega
   rw [Array.getElem?_eq_getElem hlt'] at ee
   have hr:=o.reach x.2 x.1 ev.1 mx (by
    rw [Array.toList_map,List.getElem?_map,Array.getElem?_toList,Array.getElem?_eq_getElem hlt',← ee]
    rfl)
   refine hr.mono fun q ⟨k,ek⟩=>?_
   show q∈(live.map (·.1)).toArray.toList
   rw [List.toList_toArray,List.mem_map]
   exact ⟨(q,k),(memL q k).mpr ((o.iff q k).mp ek),rfl⟩
 ·rw [esz]; exact hn
end BF
namespace BF
open PySem PySem.Spec PyProof.Rows L2 PySem.W
mutual
inductive DatH (h:Heap):Value→Dt→Prop where
 | int (i:Int) (t:Tok):DatH h (.int i t) (.int i)
 | str (x:Str) (t:Tok):DatH h (.str x t) (.str x)
 | tup {a:Addr} {o:Obj} {items:Array Value} {n:Nat} {ds:List Dt} (ho:h.get? a=some o) (hc:o.cls=.type "tuple") (hd:o.data=.seq items n) (r:DatHs h items.toList ds):DatH h (.ref a) (.tup ds)
inductive DatHs (h:Heap):List Value→List Dt→Prop where
 | nil:DatHs h [] []
 | cons {v:Value} {d:Dt} {vs:List Value} {ds:List Dt} (q:DatH h v d) (t:DatHs h vs ds):DatHs h (v :: vs) (d :: ds)
end
mutual
theorem DatH.keep {h h':Heap} (k:∀ b o,h.get? b=some o→h'.get? b=some o):∀ {d:Dt} {v:Value},DatH h v d→DatH h' v d
 | _,_,.int i t=>.int i t
 | _,_,.str x t=>.str x t
 | .tup ds,_,.tup ho hc hd r=>.tup (k _ _ ho) hc hd (DatHs.keep k r)
theorem DatHs.keep {h h':Heap} (k:∀ b o,h.get? b=some o→h'.get? b=some o):∀ {ds:List Dt} {vs:List Value},DatHs h vs ds→DatHs h' vs ds
 | [],_,.nil=>.nil
 | d :: ds,_,.cons q t=>.cons (DatH.keep k q) (DatHs.keep k t)
end
mutual
def hashD (w:World):Dt→Int
 | .int i=>hashInt i
 | .str x=>hashStr w x
 | .tup l=>reduceHash (Builtin.Tuple.tupleHashOf (hashDs w l))
def hashDs (w:World):List Dt→List Int
 | []=>[]
 | d :: l=>hashD w d :: hashDs w l
end
section
variable {X:Cx} {pins:List (Addr×Obj)} {σ:L2.St} {H:Hp} {s:Shared}
mutual
theorem datH_of (I:Inv X pins σ H s):∀ {d:Dt} {v:V} {u:Value},DtIs H v d→RelV v u→DatH s.heap u d
 | _,_,_,.int i,r=>by obtain ⟨t,rfl⟩:=r; exact .int i t
 | _,_,_,.str x,r=>by obtain ⟨t,rfl⟩:=r; exact .str x t
 | .tup ds,_,_,.tup e q,r=>by
  cases r
  obtain ⟨its,rv,⟨o,ho,hc,n,hd⟩,_⟩:=I.tuple (SqT.of e)
  exact .tup ho hc hd (by rw [List.toList_toArray]; exact datHs_of I q rv)
theorem datHs_of (I:Inv X pins σ H s):∀ {ds:List Dt} {vs:List V} {us:List Value},DtsIs H vs ds→Vals vs us→DatHs s.heap us ds
 | [],_,_,.nil,.nil=>.nil
 | d :: ds,_,_,.cons q t,.cons r rs=>.cons (datH_of I q r) (datHs_of I t rs)
end
end
section
variable {prog:Program} {w:World} {E:Value→Shared→Prop}
set_option maxRecDepth 100000 in
mutual
theorem pyHash_D:∀ (d:Dt) (v:Value) (A:Around) (s:Shared) (Q:Int→Shared→Prop),DatH s.heap v d→A.units + d.dp < cLine→(∀ tk,s.toks≤tk→Q (hashD w d) { s with toks:=tk })→wpAny (model prog w) A (pyHash v) Q E s
 | .int i,_,A,s,Q,.int _ t,hu,h=>wpAny_pyHash_int (h _ (Nat.le_succ _))
 | .str x,_,A,s,Q,.str _ t,hu,h=>wpAny_pyHash_str (h _ (Nat.le_succ _))
 | .tup ds,_,A,s,Q,.tup (a:=a) (items:=items) ho hc hd r,hu,h=>by
  have hu':A.units + (Dt.dps ds + 1) < cLine:=by simpa only [Dt.dp] using hu
  refine pyHash_slot (T:="tuple") ⟨_,ho,hc⟩ F.slot_tuple_hash F.entry_tuple_hash (F.args_tuple_hash_1 _) (beq_builtin_none _) (.inr (by omega)) ?_
  show wpAny _ _ (Builtin.Tuple.tupleItemsOf (.ref a) >>= _) _ _ s
  refine wpAny_bind (wpAny_tupleItemsOf ho hd ?_)
  refine wpAny_bind ?_
  rw [← Array.forIn_toList]
  refine hashLoop_D ds items.toList A.in1 s #[] _ r (by simp only [Around.in1_units]; omega) fun tk htk b hb=>?_
  show wpAny _ _ (retInt (Builtin.Tuple.tupleHashOf b.toList)) _ _ _
  rw [hb]
  exact wpAny_bind (wpAny_mkInt (wpAny_pure ⟨_,_,rfl,by have:=h (tk + 1) (Nat.le_succ_of_le htk); rw [hashD] at this; exact this⟩))
theorem hashLoop_D:∀ (ds:List Dt) (vs:List Value) (A:Around) (s:Shared) (b:Array Int) (Q:Array Int→Shared→Prop),DatHs s.heap vs ds→A.units + Dt.dps ds < cLine →
  (∀ tk,s.toks≤tk→∀ b',b'.toList=b.toList ++ hashDs w ds→Q b' { s with toks:=tk }) →
  wpAny (model prog w) A (forIn vs b fun x r=>do let h ← pyHash x; pure PUnit.unit; pure (ForInStep.yield (r.push h))) Q E s
 | [],_,A,s,b,Q,.nil,_,h=>wpAny_pure (h s.toks (Nat.le_refl _) b (by simp [hashDs]))
 | d :: ds,_,A,s,b,Q,.cons q t,hu,h=>by
  simp only [Dt.dps] at hu
  rw [List.forIn_cons]
  refine wpAny_bind (wpAny_bind (pyHash_D d _ A s _ q (by omega) fun tk htk=>?_))
  refine wpAny_bind (wpAny_pure (wpAny_pure ?_))
  exact hashLoop_D ds _ A _ _ Q t (by omega) fun tk' htk' b' hb=>h tk' (Nat.le_trans htk htk') b' (by simp [hb,hashDs])
end
mutual
theorem byValue_D:∀ (d:Dt) (v:Value) (n:Nat) (A:Around) (s:Shared) (Q:Bool→Shared→Prop),DatH s.heap v d→(∀ b,Q b s)→wpAny (model prog w) A (hashByValue n v) Q E s
 | .int i,_,n,A,s,Q,.int _ t,h=>by
  have:hashByValue n (.int i t)=pure true:=by cases n <;> rfl
  rw [this]; exact wpAny_pure (h _)
 | .str x,_,n,A,s,Q,.str _ t,h=>by
  have:hashByValue n (.str x t)=pure false:=by cases n <;> rfl
  rw [this]; exact wpAny_pure (h _)
 | .tup ds,_,0,A,s,Q,.tup (a:=a) (items:=items) ho hc hd r,h=>wpAny_pure (h _)
 | .tup ds,_,n + 1,A,s,Q,.tup (a:=a) (items:=items) ho hc hd r,h=>by
  unfold hashByValue
  refine wpAny_bind (wpAny_specialOf ⟨_,ho,hc⟩ F.slot_tuple_hash.lookup ?_)
  dsimp only
  refine wpAny_bind (wpAny_seqItems ho hd ?_)
  show wpAny _ _ (forIn items _ _ >>= _) _ _ _
  rw [← Array.forIn_toList]
  refine wpAny_bind (byValues_D ds items.toList n A s _ r fun b=>?_)
  cases b with
  | none=>exact wpAny_pure (h _)
  | some b=>exact wpAny_pure (h _)
theorem byValues_D:∀ (ds:List Dt) (vs:List Value) (n:Nat) (A:Around) (s:Shared) (Q:Option Bool×PUnit→Shared→Prop),DatHs s.heap vs ds→(∀ b,Q (b,⟨⟩) s) →
  wpAny (model prog w) A (forIn vs ((none,⟨⟩):Option Bool×PUnit) fun x r=>do
   let c ← hashByValue n x
   if (!c)=true then pure (ForInStep.done (some false,⟨⟩)) else pure (ForInStep.yield (none,⟨⟩))) Q E s
 | [],_,n,A,s,Q,.nil,h=>wpAny_pure (h _)
 | d :: ds,_,n,A,s,Q,.cons q t,h=>by
  rw [List.forIn_cons]
  refine wpAny_bind (wpAny_bind (byValue_D d _ n A s _ q fun b=>?_))
  cases b with
  | false=>exact wpAny_pure (wpAny_pure (h _))
  | true=>exact wpAny_pure (byValues_D ds _ n A s Q t h)
end
end
section
variable {prog:Program} {w:World} {E:Value→Shared→Prop}
theorem sub_tt:isSubtype (.type "tuple") (.type "tuple")=pure true:=PySem.isSubtype_tuple_tuple
mutual
theorem quiet_D:∀ (d:Dt) (v:Value) (n:Nat) (A:Around) (s:Shared) (Q:Bool→Shared→Prop),DatH s.heap v d→d.dp≤n→Q true s→wpAny (model prog w) A (eqIsQuiet n v) Q E s
 | .int i,_,n,A,s,Q,.int _ t,hn,h=>by
  rw [eqIsQuiet_byValue n (v:=.int i t) rfl]; exact wpAny_pure h
 | .str x,_,n,A,s,Q,.str _ t,hn,h=>by
  rw [eqIsQuiet_byValue n (v:=.str x t) rfl]; exact wpAny_pure h
 | .tup ds,_,0,A,s,Q,.tup (a:=a) (items:=items) ho hc hd r,hn,h=>by
  simp only [Dt.dp] at hn
  omega
 | .tup ds,_,n + 1,A,s,Q,.tup (a:=a) (items:=items) ho hc hd r,hn,h=>by
  have hn':Dt.dps ds≤n:=by simp only [Dt.dp] at hn; omega
  unfold eqIsQuiet
  refine wpAny_bind (wpAny_specialOf ⟨_,ho,hc⟩ F.slot_tuple_eq.lookup ?_)
  dsimp only
  refine wpAny_bind (wpAny_isInstance ⟨_,ho,hc⟩ sub_tt ?_)
  simp only [Bool.not_true,Bool.false_eq_true,if_false]
  refine wpAny_bind (wpAny_seqItems ho hd ?_)
  show wpAny _ _ (forIn items _ _ >>= _) _ _ _
  rw [← Array.forIn_toList]
  exact wpAny_bind (quiets_D ds items.toList n A s _ r hn' (wpAny_pure h))
theorem quiets_D:∀ (ds:List Dt) (vs:List Value) (n:Nat) (A:Around) (s:Shared) (Q:Option Bool×PUnit→Shared→Prop),DatHs s.heap vs ds→Dt.dps ds≤n→Q (none,⟨⟩) s →
  wpAny (model prog w) A (forIn vs ((none,⟨⟩):Option Bool×PUnit) fun x r=>do
   let c ← eqIsQuiet n x
   if (!c)=true then pure (ForInStep.done (some false,⟨⟩)) else pure (ForInStep.yield (none,⟨⟩))) Q E s
 | [],_,n,A,s,Q,.nil,_,h=>wpAny_pure h
 | d :: ds,_,n,A,s,Q,.cons q t,hn,h=>by
  simp only [Dt.dps] at hn
  rw [List.forIn_cons]
  exact wpAny_bind (wpAny_bind (quiet_D d _ n A s _ q (by omega) (wpAny_pure (quiets_D ds _ n A s Q t (by omega) h))))
end
mutual
theorem ofCls_D:∀ (d:Dt) (v:Value) (n:Nat) (A:Around) (s:Shared) (Q:Bool→Shared→Prop),DatH s.heap v d→d.dp≤n→Q false s→wpAny (model prog w) A (ofAClassStatement n v) Q E s
 | .int i,_,n,A,s,Q,.int _ t,hn,h=>by
  have:ofAClassStatement n (.int i t)=pure false:=by cases n <;> rfl
  rw [this]; exact wpAny_pure h
 | .str x,_,n,A,s,Q,.str _ t,hn,h=>by
  have:ofAClassStatement n (.str x t)=pure false:=by cases n <;> rfl
  rw [this]; exact wpAny_pure h
 | .tup ds,_,0,A,s,Q,.tup (a:=a) (items:=items) ho hc hd r,hn,h=>by
  simp only [Dt.dp] at hn
  omega
 | .tup ds,_,n + 1,A,s,Q,.tup (a:=a) (items:=items) ho hc hd r,hn,h=>by
  have hn':Dt.dps ds≤n:=by simp only [Dt.dp] at hn; omega
  unfold ofAClassStatement
  refine wpAny_bind (wpAny_typeOf (T:="tuple") ⟨_,ho,hc⟩ ?_)
  dsimp only
  refine wpAny_bind (wpAny_pure ?_)
  simp only [Bool.not_true,Bool.false_eq_true,if_false]
  refine wpAny_bind (wpAny_seqItems ho hd ?_)
  show wpAny _ _ (forIn items _ _ >>= _) _ _ _
  rw [← Array.forIn_toList]
  exact wpAny_bind (ofClss_D ds items.toList n A s _ r hn' (wpAny_pure h))
theorem ofClss_D:∀ (ds:List Dt) (vs:List Value) (n:Nat) (A:Around) (s:Shared) (Q:Option Bool×PUnit→Shared→Prop),DatHs s.heap vs ds→Dt.dps ds≤n→Q (none,⟨⟩) s →
  wpAny (model prog w) A (forIn vs ((none,⟨⟩):Option Bool×PUnit) fun x r=>do
   let c ← ofAClassStatement n x
   if c=true then pure (ForInStep.done (some true,⟨⟩)) else pure (ForInStep.yield (none,⟨⟩))) Q E s
 | [],_,n,A,s,Q,.nil,_,h=>wpAny_pure h
 | d :: ds,_,n,A,s,Q,.cons q t,hn,h=>by
  simp only [Dt.dps] at hn
  rw [List.forIn_cons]
  exact wpAny_bind (wpAny_bind (ofCls_D d _ n A s _ q (by omega) (wpAny_pure (ofClss_D ds _ n A s Q t (by omega) h))))
end
theorem seen_D {x:Value} {dx:Dt} {A:Around} {s:Shared} {Q:Bool→Shared→Prop} (hx:DatH s.heap x dx) (h8:dx.dp≤8) (stored:List Value) (hs:∀ y∈stored,∃ dy,DatH s.heap y dy∧dy.dp≤8) (h:Q false s) :
  wpAny (model prog w) A (searchCouldBeSeen x stored) Q E s:=by
 unfold searchCouldBeSeen
 refine wpAny_bind (wpAny_forIn_list _ (fun rest r s'=>r.1=none∧s'=s∧∀ y∈rest,∃ dy,DatH s.heap y dy∧dy.dp≤8) _ ?_ ?_ stored _ ⟨rfl,rfl,hs⟩)
 ·rintro y rest r s' ⟨hr,rfl,hs'⟩
  obtain ⟨dy,hy,hy8⟩:=hs' y List.mem_cons_self
  have tl:∀ y∈rest,∃ dy,DatH s'.heap y dy∧dy.dp≤8:=fun z hz=>hs' z (List.mem_cons_of_mem _ hz)
  dsimp only
  split <;> (
   split
   ·exact wpAny_pure ⟨rfl,rfl,tl⟩
   ·refine wpAny_bind (quiet_D _ _ 8 A s' _ hx h8 ?_)
    simp only [Bool.not_true,Bool.false_eq_true,if_false]
    refine wpAny_bind (quiet_D _ _ 8 A s' _ hy hy8 ?_)
    simp only [Bool.not_true,Bool.false_eq_true,if_false]
    refine wpAny_bind (ofCls_D _ _ 8 A s' _ hx h8 ?_)
    simp only [Bool.false_eq_true,if_false]
    refine wpAny_bind (ofCls_D _ _ 8 A s' _ hy hy8 ?_)
    simp only [Bool.false_eq_true,if_false]
    exact wpAny_pure ⟨rfl,rfl,tl⟩)
 ·rintro ⟨r1,r2⟩ s' ⟨hr,rfl,_⟩
  have hr':r1=none:=hr
  subst hr'
  exact wpAny_pure h
end
end BF
namespace BF
open PySem PySem.Spec PyProof.Rows L2 PySem.SeqAt
theorem DatHs.length {h:Heap}:∀ {ds:List Dt} {vs:List Value},DatHs h vs ds→vs.length=ds.length
 | [],_,.nil=>rfl
 | d :: ds,_,.cons q t=>by rw [List.length_cons,List.length_cons,DatHs.length t]
mutual
theorem DatH.inj {h:Heap}:∀ {d:Dt} {v:Value} {d':Dt},DatH h v d→DatH h v d'→d=d'
 | .int i,_,d',.int _ _,q=>by cases q; rfl
 | .str x,_,d',.str _ _,q=>by cases q; rfl
 | .tup ds,_,d',.tup ho hc hd r,q=>by
  cases q with
  | tup ho2 hc2 hd2 r2 =>
   rw [ho] at ho2
   cases ho2
   rw [hd] at hd2
   cases hd2
   rw [DatHs.inj r r2]
theorem DatHs.inj {h:Heap}:∀ {ds:List Dt} {vs:List Value} {ds':List Dt},DatHs h vs ds→DatHs h vs ds'→ds=ds'
 | [],_,_,.nil,q=>by cases q; rfl
 | d :: ds,_,_,.cons q t,q2=>by
  cases q2 with
  | cons a b=>rw [DatH.inj q a,DatHs.inj t b]
end
section
variable {s:Shared}
theorem tup_H {h:Heap} {u:Value} {l:List Dt} (q:DatH h u (.tup l)):∃ a its o n,u=.ref a∧h.get? a=some o∧o.cls=.type "tuple"∧o.data=.seq its n∧DatHs h its.toList l:=by
 cases q with
 | tup ho hc hd r=>exact ⟨_,_,_,_,rfl,ho,hc,hd,r⟩
mutual
theorem eqAt_H:∀ {d d':Dt} {u u':Value} (A:Around),DatH s.heap u d→DatH s.heap u' d'→A.units + d.dp < cLine→EqAt A s u u' (Dt.beq d d')
 | .int i,.int j=>by
  intro A h h' hu
  cases h with
  | int _ t =>
  cases h' with
  | int _ t'=>exact EqAt.int_int i t j t'
 | .str x,.str y=>by
  intro A h h' hu
  cases h with
  | str _ t =>
  cases h' with
  | str _ t'=>exact EqAt.str_str x t y t'
 | .int i,.str y=>by
  intro A h h' hu
  cases h with
  | int _ t =>
  cases h' with
  | str _ t'=>exact EqAt.int_str i t y t'
 | .str x,.int j=>by
  intro A h h' hu
  cases h with
  | str _ t =>
  cases h' with
  | int _ t'=>exact EqAt.str_int x t j t'
 | .int i,.tup m=>by
  intro A h h' hu
  cases h with
  | int _ t =>
  cases h' with
  | tup ho hc hd r=>exact EqAt.int_tuple i t ⟨_,ho,hc,_,hd⟩ (by omega)
 | .str x,.tup m=>by
  intro A h h' hu
  cases h with
  | str _ t =>
  cases h' with
  | tup ho hc hd r=>exact EqAt.str_tuple x t ⟨_,ho,hc,_,hd⟩ (by omega)
 | .tup l,.int j=>by
  intro A h h' hu
  cases h with
  | tup ho hc hd r =>
  cases h' with
  | int _ t'=>exact EqAt.tuple_int j t' ⟨_,ho,hc,_,hd⟩ (by omega)
 | .tup l,.str y=>by
  intro A h h' hu
  cases h with
  | tup ho hc hd r =>
  cases h' with
  | str _ t'=>exact EqAt.tuple_str y t' ⟨_,ho,hc,_,hd⟩ (by omega)
 | .tup l,.tup m=>by
  intro A h h' hu
  obtain ⟨a,its,o,n,rfl,ho,hc,hd,r⟩:=tup_H h
  obtain ⟨b,its',o',n',rfl,ho',hc',hd',r'⟩:=tup_H h'
  by_cases hab:a=b
  ·subst hab
   have z:=DatH.inj (DatH.tup ho hc hd r) (DatH.tup ho' hc' hd' r')
   rw [z,Dt.beq_self]
   exact EqAt.same _
  ·have n1:its.size=l.length:=by rw [← Array.length_toList,r.length]
   have n2:its'.size=m.length:=by rw [← Array.length_toList,r'.length]
   have hd2:A.units + (Dt.dps l + 1) < cLine:=by simpa only [Dt.dp] using hu
   have R:=RcAt.tuples (A:=A) (s:=s) (e:=itEq l m) ⟨_,ho,hc,_,hd⟩ ⟨_,ho',hc',_,hd'⟩ (by omega) (fun j h1 h2=>by
    have:=eqsAt_H A.in1 r r' (by show A.units + 1 + _ < _; omega) j
    exact this _ _ (by simp) (by simp))
   rw [n1,n2,all_itEq] at R
   exact EqAt.of_refs hab R
theorem eqsAt_H:∀ {ds ds':List Dt} {us us':List Value} (A:Around),DatHs s.heap us ds→DatHs s.heap us' ds'→A.units + Dt.dps ds < cLine →
  ∀ (j:Nat) (u u':Value),us[j]?=some u→us'[j]?=some u'→EqAt A s u u' (itEq ds ds' j)
 | [],_=>by
  intro A h h' hu j u u' e e'
  cases h
  simp at e
 | d :: ds,[]=>by
  intro A h h' hu j u u' e e'
  cases h'
  simp at e'
 | d :: ds,d' :: ds'=>by
  intro A h h' hu j u u' e e'
  cases h with
  | cons h t =>
  cases h' with
  | cons h' t' =>
  simp only [Dt.dps] at hu
  cases j with
  | zero =>
   have e1:=Option.some.inj e
   have e2:=Option.some.inj e'
   subst e1 e2
   exact eqAt_H A h h' (by omega)
  | succ j =>
  have:=eqsAt_H A t t' (by omega) j u u' (by simpa using e) (by simpa using e')
  have z:itEq (d :: ds) (d' :: ds') (j + 1)=itEq ds ds' j:=by simp [itEq]
  rw [z]
  exact this
end
end
def EntOk (w:World) (h:Heap) (es:Array (Int×Value)):Prop:=∀ e∈es.toList,∃ d,DatH h e.2 d∧d.dp≤8∧e.1=hashD w d∧∃ l,d=.tup l
section
variable {prog:Program} {w:World} {E:Value→Shared→Prop} {A:Around} {s:Shared}
set_option maxHeartbeats 1000000 in
theorem search_D {S:Addr} {o:Obj} {es:Array (Int×Value)} {ep:Nat} {t:SetTable} (ok:SetOk t es) (ho:s.heap.get? S=some o) (hd:o.data=.set es ep t) (en:EntOk w s.heap es)
  {x:Value} {dx:Dt} (hx:DatH s.heap x dx) (h8:dx.dp≤8) (hu:A.units + 8 < cLine) {Q:SetFound→Shared→Prop} (h1:(∃ e∈es.toList,DatH s.heap e.2 dx)→Q (.there none) s) :
  ∀ (k fuel:Nat) (p:SetTable.Probe) (stand:Option SetTable.Probe),stand.getD (t.probeStart (hashD w dx))=p→p.dummy=none→k < fuel→k≤10 * (t.mask + 14)→Hits t.mask (Occ t) k p →
   (∀ j,¬ Occ t j→Rch t.mask (Occ t) p j→(∀ (j' i':Nat) (e:Int×Value),Rch t.mask (Occ t) p j'→t.place[i']?=some j'→es[i']?=some e→¬ DatH s.heap e.2 dx)→Q (.free j false) s) →
   wpAny (model prog w) A (setSearchFrom S x (hashD w dx) true fuel stand) Q E s
 | k,0,p,stand,_,_,hf,_,_,_=>absurd hf (Nat.not_lt_zero _)
 | k,fuel + 1,p,stand,hst,hpd,hf,hk,hh,h2=>by
  unfold setSearchFrom
  refine wpAny_bind (wpAny_setState_of ho hd ok.tab.fits ?_)
  dsimp only
  rw [ok.tab.odd,hst]
  simp only [Bool.false_eq_true,if_false]
  generalize hp:SetTable.probe t _ _ p=pr
  have hdat:∀ (i:Nat) (e:Int×Value),es[i]?=some e→DatH s.heap e.2 dx→W.hashAt es i=hashD w dx:=fun i e ee q=>by
   obtain ⟨d,q1,_,q3,_⟩:=en e (Array.mem_toList_iff.mpr (Array.mem_of_getElem? ee))
   unfold W.hashAt
   rw [ee]
   show e.1=_
   rw [q3,DatH.inj q1 q]
  rcases probe_go ok.tab (W.hashAt es) (hashD w dx) k (10 * SetTable.turns t.mask) p hpd (by show k < 10 * (t.mask + 15); omega) hh with ⟨j,e,e1,e2,e3⟩ | ⟨j,i,q,k',e,e1,e2,e3,e4,e5,e6,e7⟩
  ·have:pr=some (.empty j none):=hp.symm.trans e
   subst this
   dsimp only
   exact wpAny_pure (h2 j e1 e2 fun j' i' ev r pl ee q=>e3 j' i' r pl (hdat i' ev ee q))
  ·have:pr=some (.candidate j i q):=hp.symm.trans e
   subst this
   dsimp only
   have hi:i < es.size:=by
    rw [← ok.size]
    rcases Nat.lt_or_ge i t.place.size with z | z
    ·exact z
    ·rw [Array.getElem?_eq_none z] at e1; cases e1
   obtain ⟨⟨hy,y⟩,ei⟩:∃ ev,es[i]?=some ev:=⟨_,Array.getElem?_eq_getElem hi⟩
   have emem:(hy,y)∈es.toList:=Array.mem_toList_iff.mpr (Array.mem_of_getElem? ei)
   obtain ⟨dy,q1,q2,q3,l,rfl⟩:=en (hy,y) emem
   have main:wpAny (model prog w) A (do
     let some (_,y):=es[i]? | unsupported "internal:set-entry"
     let equal ← holding [y] (eqBool y x)
     let (es',_,t') ← setState S
     if true && equal then return .there none
     let some same:=t'.sameMemory t.moves t.mask | unsupported "set.changed-during-lookup:is-the-new-block-at-the-old-address"
     let still ← match (if same then t'.slot j else .empty) with
      | .live i'=>match es'[i']? with
       | some (_,y')=>do pure (if ← isSame y' y then some i' else none)
       | none=>pure none
      | _=>pure none
     match still with
     | none=>rule "set.search.anew"; setSearchFrom S x (hashD w dx) true fuel none
     | some i'=>if equal then return .there (some i') else setSearchFrom S x (hashD w dx) true fuel (some q)) Q E s:=by
    rw [ei]
    dsimp only
    refine wpAny_bind (wpAny_holding (eqAt_H A q1 hx (by omega) prog w E _ ?_))
    refine wpAny_bind (wpAny_setState_of ho hd ok.tab.fits ?_)
    dsimp only
    cases hb:Dt.beq (.tup l) dx with
    | true =>
     have:Dt.tup l=dx:=(Dt.beq_iff _ _).mp hb
     subst this
     simp only [Bool.and_self,if_true]
     exact wpAny_pure (h1 ⟨(hy,y),emem,q1⟩)
    | false =>
     have sm:t.sameMemory t.moves t.mask=some true:=by
      unfold SetTable.sameMemory
      rw [if_pos (by simp)]
     simp only [Bool.and_false,Bool.false_eq_true,if_false,sm,if_true,slot_live ok.tab e1,ei]
     cases q1 with
     | @tup b oo items nn _ ho' hc' hd' r' =>
      refine wpAny_bind (wpAny_isSame_ref_self (wpAny_bind (wpAny_pure ?_)))
      simp only [if_true]
      refine search_D ok ho hd en hx h8 hu h1 k' fuel q (some q) rfl e3 (by omega) (by omega) e5 fun j2 n2 r2 all2=>?_
      refine h2 j2 n2 (e6 j2 r2) fun j' i' ev r pl ee qq=>?_
      rcases e7 j' i' r pl with z | z | z
      ·exact z (hdat i' ev ee qq)
      ·subst z
       rw [ei] at ee
       cases ee
       have:=DatH.inj (DatH.tup ho' hc' hd' r') qq
       rw [this,Dt.beq_self] at hb
       cases hb
      ·exact all2 j' i' ev z pl ee qq
   cases hled:t.led with
   | true =>
    simp only [Bool.not_true,Bool.false_eq_true,if_false]
    exact main
   | false =>
    simp only [Bool.not_false,if_true]
    refine wpAny_bind (seen_D hx h8 _ (fun y' hy'=>?_) ?_)
    ·obtain ⟨e',he',rfl⟩:=List.mem_map.mp hy'
     have:e'∈es.toList:=by
      have:=Array.mem_toList_iff.mp he'
      exact Array.mem_toList_iff.mpr (Array.mem_filter.mp this).1
     obtain ⟨d,a1,a2,_,_⟩:=en e' this
     exact ⟨d,a1,a2⟩
    ·simp only [Bool.false_eq_true,if_false]
     exact main
end
theorem adv_le {m:Nat} {p:SetTable.Probe} (h:p.j + p.more≤m):(advM m p).j + (advM m p).more≤m:=by
 unfold advM
 split
 ·show p.j + 1 + (p.more - 1)≤m
  omega
 ·have h1:(SetTable.leap m p.i p.perturb).1≤m:=Nat.le_of_lt_succ (Nat.mod_lt _ (Nat.succ_pos m))
  have h2:=runEnd_le h1
  show (SetTable.leap m p.i p.perturb).1 + (SetTable.runEnd m (SetTable.leap m p.i p.perturb).1 - (SetTable.leap m p.i p.perturb).1)≤m
  omega
theorem Rch.le {m:Nat} {occ:Nat→Prop} {p:SetTable.Probe} {j:Nat} (r:Rch m occ p j):p.j + p.more≤m→j≤m:=by
 induction r with
 | here p=>intro h; omega
 | next _ _ ih=>intro h; exact ih (adv_le h)
theorem start_le (m:Nat) (h:Int):(startM m h).j + (startM m h).more≤m:=by
 have h1:SetTable.bits h % (m + 1)≤m:=Nat.le_of_lt_succ (Nat.mod_lt _ (Nat.succ_pos m))
 have h2:=runEnd_le h1
 show SetTable.bits h % (m + 1) + 0 + (SetTable.runEnd m (SetTable.bits h % (m + 1)) - SetTable.bits h % (m + 1) - 0)≤m
 omega
theorem grow_ok {m n:Nat} (hm:MaskOk m) (h1:n * 5 < m * 3) (h2:¬ (n + 1) * 5 < m * 3) (h3:n < 306):MaskOk (SetTable.sizeAbove (SetTable.grown (n + 1)) - 1)∧(n + 1) * 5 < (SetTable.sizeAbove (SetTable.grown (n + 1)) - 1) * 3∧SetTable.sizeAbove (SetTable.grown (n + 1))≤512:=by
 rcases hm with rfl | rfl | rfl | rfl
 ·have:n=4:=by omega
  subst this
  exact ⟨.inr (.inl (by decide +kernel)),by decide +kernel,by decide +kernel⟩
 ·have:n=18:=by omega
  subst this
  exact ⟨.inr (.inr (.inl (by decide +kernel))),by decide +kernel,by decide +kernel⟩
 ·have:n=76:=by omega
  subst this
  exact ⟨.inr (.inr (.inr (by decide +kernel))),by decide +kernel,by decide +kernel⟩
 ·omega
section
variable {prog:Program} {w:World} {E:Value→Shared→Prop} {A:Around} {s:Shared}
theorem size512 {n:Nat} (h:n≤512):n≤sizeLine:=by rw [sizeLine_eq]; omega
theorem setAt_store {h:Heap} {S:Addr} {o:Obj} {es es':Array (Int×Value)} {ep:Nat} {t t':SetTable} (ho:h.get? S=some o) (hd:o.data=.set es ep t) :
  (h.update S (Obj.putSet es' t')).get? S=some { o with data:=.set es' (ep + 1) t' }:=by
 have:=Heap.get?_update_self (Obj.putSet es' t') ho (by rw [putSet_of es' t' hd]; rfl)
 rw [putSet_of es' t' hd] at this
 exact this
theorem relay_D {S:Addr} {o:Obj} {es:Array (Int×Value)} {ep:Nat} {t:SetTable} {wanted:Nat} (hf:t.fits es.size=true) (ho:s.heap.get? S=some o) (hd:o.data=.set es ep t)
  (hm:MaskOk (SetTable.sizeAbove wanted - 1)) (hn:es.size * 5 < (SetTable.sizeAbove wanted - 1) * 3) (hw:SetTable.sizeAbove wanted≤512) {Q:Unit→Shared→Prop}
  (q:∀ h' es' ep' t',Heap.SameBut S s.heap h'→h'.get? S=some { o with data:=.set es' ep' t' }→SetOk t' es'→t'.led=t.led→es'.toList.Perm es.toList→Q () { s with heap:=h' }) :
  wpAny (model prog w) A (setRelay S wanted) Q E s:=by
 obtain ⟨t',order,e,hp,ok,hl⟩:=relaid_ok (t:=t) (es:=es) hm hn
 unfold setRelay
 refine wpAny_bind (wpAny_setState_of ho hd hf ?_)
 dsimp only
 rw [if_neg (Nat.not_lt.mpr (size512 hw)),e]
 have hsz:(order.filterMap (es[·]?)).size=es.size:=by rw [← Array.length_toList,hp.length_eq,Array.length_toList]
 refine wpAny_bind ?_
 show wpAny (model prog w) A (if ((order.filterMap (es[·]?)).size != es.size)=true then unsupported "internal:set-table-lost-an-element" else pure (order.filterMap (es[·]?),t')) _ E s
 rw [if_neg (by rw [hsz]; simp)]
 refine wpAny_pure ?_
 dsimp only
 refine wpAny_storeSet_of ho hd ?_ (by rw [hsz]; exact size512 (by omega))
 exact q _ _ _ t' (Heap.SameBut.update _ _ _) (setAt_store ho hd) ok hl hp
set_option maxHeartbeats 1000000 in
theorem add_D {S:Addr} {o:Obj} {es:Array (Int×Value)} {ep:Nat} {t:SetTable} (ok:SetOk t es) (ho:s.heap.get? S=some o) (hd:o.data=.set es ep t) (en:EntOk w s.heap es)
  {x:Value} {l:List Dt} (hx:DatH s.heap x (.tup l)) (h8:(Dt.tup l).dp≤8) (hu:A.units + 8 < cLine) (hn:es.size < 306) {Q:Bool→Shared→Prop}
  (q1:∀ tk,s.toks≤tk→(∃ e∈es.toList,DatH s.heap e.2 (.tup l))→Q false { s with toks:=tk })
  (q2:∀ tk h' es' ep' t',s.toks≤tk→(¬ ∃ e∈es.toList,DatH s.heap e.2 (.tup l))→Heap.SameBut S s.heap h'→h'.get? S=some { o with data:=.set es' ep' t' }→SetOk t' es'→t'.led=t.led→es'.toList.Perm ((hashD w (.tup l),x) :: es.toList)→Q true { s with heap:=h',toks:=tk }) :
  wpAny (model prog w) A (setAdd S x) Q E s:=by
 unfold setAdd
 refine wpAny_holding (wpAny_bind (pyHash_D _ _ A s _ hx (by omega) fun tk htk=>?_))
 unfold setAddHashed
 refine wpAny_holding ?_
 unfold setAddHashedIn
 have ho':({ s with toks:=tk }:Shared).heap.get? S=some o:=ho
 refine wpAny_bind (wpAny_setState_of (s:={ s with toks:=tk }) ho' hd ok.tab.fits ?_)
 dsimp only
 have hb:byScan x es=false:=by
  cases hx with
  | tup _ _ _ _=>rfl
 rw [hb]
 simp only [Bool.false_eq_true,if_false]
 obtain ⟨jf,hj1,hj2⟩:=ok.tab.free
 have hstart:t.probeStart (hashD w (.tup l))=startM t.mask (hashD w (.tup l)):=start_eq _ _
 have reachAll:∀ e∈es.toList,DatH s.heap e.2 (.tup l)→∃ (i j:Nat),t.place[i]?=some j∧es[i]?=some e∧Rch t.mask (Occ t) (startM t.mask (hashD w (.tup l))) j:=fun e he qe=>by
  obtain ⟨i,ei⟩:=List.mem_iff_getElem?.mp he
  rw [Array.getElem?_toList] at ei
  have hi:i < t.place.size:=by
   rw [ok.size]
   rcases Nat.lt_or_ge i es.size with z | z
   ·exact z
   ·rw [Array.getElem?_eq_none z] at ei; cases ei
  obtain ⟨d,a1,_,a3,_⟩:=en e he
  have:=ok.reach i _ e (Array.getElem?_eq_getElem hi) ei
  rw [a3,DatH.inj a1 qe] at this
  exact ⟨i,_,Array.getElem?_eq_getElem hi,ei,this⟩
 refine wpAny_bind ?_
 unfold setSearch
 refine search_D (s:={ s with toks:=tk }) ok ho' hd en hx h8 hu (fun he=>wpAny_pure (q1 tk htk he)) (10 * (t.mask + 14)) 100000 _ none rfl rfl ?_ (Nat.le_refl _) ?_ fun j nj rj all=>?_
 ·rcases ok.mask with h | h | h | h <;> rw [h] <;> decide
 ·show Hits _ _ _ (t.probeStart (hashD w (.tup l)))
  rw [hstart]
  exact hits_start ok.mask hj1 hj2 _
 ·have rj':Rch t.mask (Occ t) (startM t.mask (hashD w (.tup l))) j:=by rw [← hstart]; exact rj
  have none':¬ ∃ e∈es.toList,DatH s.heap e.2 (.tup l):=fun ⟨e,he,qe⟩=>by
   obtain ⟨i,j',p1,p2,p3⟩:=reachAll e he qe
   exact all j' i e (by show Rch _ _ (t.probeStart _) _; rw [hstart]; exact p3) p1 p2 qe
  have jm:j≤t.mask:=rj'.le (start_le _ _)
  have pre:=ok.put jm nj (e:=(hashD w (.tup l),x)) rj'
  dsimp only
  refine wpAny_bind (wpAny_setState_of (s:={ s with toks:=tk }) ho' hd ok.tab.fits ?_)
  dsimp only
  have fin:∀ t1:SetTable,SetPre t1 (SetTable.insertAt es (t.put j).2 (hashD w (.tup l),x))→t1.mask=t.mask→t1.led=t.led →
    wpAny (model prog w) A (do
     storeSet S (SetTable.insertAt es (t.put j).2 (hashD w (.tup l),x)) t1
     if (!false && t1.tooFull)=true then setRelay S (SetTable.grown (es.size + 1))
     pure true) Q E { s with toks:=tk }:=fun t1 p1 m1 l1=>by
   have sz1:(SetTable.insertAt es (t.put j).2 (hashD w (.tup l),x)).size=es.size + 1:=insAt_size _ _ _
   have per:=SetTable.insertAt_perm es (t.put j).2 (hashD w (.tup l),x)
   have per':(SetTable.insertAt es (t.put j).2 (hashD w (.tup l),x)).toList.Perm ((hashD w (.tup l),x) :: es.toList):=by
    refine per.trans ?_
    rw [Array.toList_push]
    exact List.perm_append_comm
   refine wpAny_bind (wpAny_storeSet_of ho' hd ?_ (by rw [sz1]; exact size512 (by omega)))
   have fill:t1.fill=es.size + 1:=by
    unfold SetTable.fill
    rw [p1.size,p1.clean,sz1]; rfl
   by_cases hf:(es.size + 1) * 5 < t.mask * 3
   ·have tf:t1.tooFull=false:=by
     unfold SetTable.tooFull
     rw [fill,m1]
     exact decide_eq_false (by omega)
    rw [tf]
    simp only [Bool.and_false,Bool.false_eq_true,if_false]
    refine wpAny_pure (q2 tk _ _ _ t1 htk none' (Heap.SameBut.update _ _ _) (setAt_store ho' hd) ⟨p1,?_⟩ l1 per')
    rw [sz1,m1]; exact hf
   ·have tf:t1.tooFull=true:=by
     unfold SetTable.tooFull
     rw [fill,m1]
     exact decide_eq_true (by omega)
    rw [tf]
    simp only [Bool.not_false,Bool.and_self,if_true]
    obtain ⟨g1,g2,g3⟩:=grow_ok ok.mask ok.full hf hn
    refine wpAny_bind (relay_D (s:={ s with heap:=s.heap.update S (Obj.putSet (SetTable.insertAt es (t.put j).2 (hashD w (.tup l),x)) t1),toks:=tk }) ?_ (setAt_store ho' hd) rfl g1 (by rw [sz1]; exact g2) g3 fun h' es' ep' t' sb g' ok' l' p'=>?_)
    ·unfold SetTable.fits
     rw [fill,p1.size,sz1,m1]
     have:=ok.full
     simp
     omega
    ·exact wpAny_pure (q2 tk _ _ _ t' htk none' ((Heap.SameBut.update _ _ _).trans sb) g' ok' (l'.trans l1) (p'.trans per'))
  cases hpl:(t.put j).1.plain with
  | true =>
   simp only [if_true]
   refine wpAny_bind (byValue_D _ _ 8 A { s with toks:=tk } _ hx fun b=>?_)
   cases b with
   | true=>exact fin _ pre rfl rfl
   | false=>exact fin _ (SetOk.off pre) rfl rfl
  | false =>
   simp only [Bool.false_eq_true,if_false]
   refine wpAny_bind (wpAny_pure ?_)
   exact fin _ pre rfl rfl
end
def setObj (es:Array (Int×Value)) (ep:Nat) (t:SetTable):Obj:={ cls:=.type "set",dict:=none,data:=.set es ep t }
def byText (w:World):Bool:=w.params.followText "set-order"
structure SetIs (w:World) (h0 h:Heap) (S:Addr) (vs:List Value) (ds:List Dt) (es:Array (Int×Value)) (ep:Nat) (t:SetTable) (dl:List Dt):Prop where
 get:h.get? S=some (setObj es ep t)
 ok:SetOk t es
 led:t.led=!byText w
 ent:EntOk w h0 es
 dat:DatHs h0 (es.toList.map (·.2)) dl
 nodup:dl.Nodup
 mem:∀ d,d∈dl↔d∈ds
 sub:∀ e∈es.toList,e.2∈vs
theorem EntOk.keep {w:World} {h h':Heap} {es:Array (Int×Value)} (k:∀ b o,h.get? b=some o→h'.get? b=some o) (en:EntOk w h es):EntOk w h' es:=fun e he=>by
 obtain ⟨d,a1,a2⟩:=en e he
 exact ⟨d,a1.keep k,a2⟩
theorem datHs_mem {h:Heap}:∀ {ds:List Dt} {vs:List Value},DatHs h vs ds→(∀ d∈ds,∃ v∈vs,DatH h v d)∧(∀ v∈vs,∃ d∈ds,DatH h v d)
 | [],_,.nil=>⟨fun _ h=>(nomatch h),fun _ h=>(nomatch h)⟩
 | d :: ds,_,.cons q t=>by
  obtain ⟨h1,h2⟩:=datHs_mem t
  refine ⟨fun d' hd=>?_,fun v hv=>?_⟩
  ·rcases List.mem_cons.mp hd with rfl | hd
   ·exact ⟨_,List.mem_cons_self,q⟩
   ·obtain ⟨v,a,b⟩:=h1 d' hd
    exact ⟨v,List.mem_cons_of_mem _ a,b⟩
  ·rcases List.mem_cons.mp hv with rfl | hv
   ·exact ⟨_,List.mem_cons_self,q⟩
   ·obtain ⟨v,a,b⟩:=h2 v hv
    exact ⟨v,List.mem_cons_of_mem _ a,b⟩
theorem datHs_perm {h:Heap} {ys zs:List Value} (p:ys.Perm zs):∀ {ds:List Dt},DatHs h ys ds→∃ es,DatHs h zs es∧ds.Perm es:=by
 induction p with
 | nil=>intro ds r; exact ⟨ds,r,.refl _⟩
 | cons x _ ih =>
  intro ds r
  cases r with
  | cons r1 r2 =>
   obtain ⟨es,a,b⟩:=ih r2
   exact ⟨_ :: es,.cons r1 a,b.cons _⟩
 | swap x y l =>
  intro ds r
  cases r with
  | cons r1 r2 =>
   cases r2 with
   | cons r3 r4=>exact ⟨_ :: _ :: _,.cons r3 (.cons r1 r4),.swap _ _ _⟩
 | trans _ _ ih1 ih2 =>
  intro ds r
  obtain ⟨es,a,b⟩:=ih1 r
  obtain ⟨fs,c,d⟩:=ih2 a
  exact ⟨fs,c,b.trans d⟩
theorem datHs_get {h:Heap}:∀ {ds:List Dt} {vs:List Value},DatHs h vs ds→∀ (i:Nat) (v:Value),vs[i]?=some v→∃ d,ds[i]?=some d∧DatH h v d
 | [],_,.nil,i,v,e=>by simp at e
 | d :: ds,_,.cons q t,0,v,e=>by simp at e; subst e; exact ⟨d,rfl,q⟩
 | d :: ds,_,.cons q t,i + 1,v,e=>by
  simp at e
  obtain ⟨d',a,b⟩:=datHs_get t i v e
  exact ⟨d',by simpa using a,b⟩
section
variable {prog:Program} {w:World} {A:Around} {R:Result→Shared→Prop} {I:Addr} {fp wr:List Addr} {G:Array GenState→Array GenState→Prop} {n:Nat} {P:Nat→Value→Prop} {St:Nat→Shared→Prop}
theorem update_loop_D (W:WalksS prog w A.in1 I fp wr G n P St) (h0:Heap) (S:Addr) (hSf:S ∉ fp) (hS0:h0.objs.size≤S) (hw0:∀ b∈wr,h0.objs.size≤b) (ds:List Dt) (hn:ds.length=n) (hb:n < 306) (vs:List Value) (hvs:∀ i v,P i v→v∈vs)
  (hval:∀ i v,P i v→∃ d,ds[i]?=some d∧DatH h0 v d) (htup:∀ d∈ds,∃ l,d=.tup l∧d.dp≤8) (hu:A.units + 9 < cLine) :
  ∀ (k i:Nat) (s:Shared),n - i=k→i≤n→St i s→(∀ b o,h0.get? b=some o→s.heap.get? b=some o) →
   (∃ es ep t dl,SetIs w h0 s.heap S vs (ds.take i) es ep t dl) →
   (∀ s',Moved (S :: wr) G s s'→(∀ b o,h0.get? b=some o→s'.heap.get? b=some o)→(∃ es ep t dl,SetIs w h0 s'.heap S vs ds es ep t dl)→R (.ok (.ret .none)) s') →
   codeAny (model prog w) A (.builtin "set.update.loop" ⟨[.ref S,.ref I],[]⟩) R s:=by
 have hSw:S ∉ wr:=fun h=>hSf (W.sub _ h)
 have hsub:∀ b∈wr,b∈S :: wr:=fun b hb=>List.mem_cons_of_mem _ hb
 have old:∀ {s s':Shared},Moved wr G s s'→(∀ b o,h0.get? b=some o→s.heap.get? b=some o)→(∀ b o,h0.get? b=some o→s'.heap.get? b=some o):=fun {s s'} hm hk b o e =>
  hm.heap b o (fun hb=>absurd (Heap.lt_size e) (Nat.not_lt.mpr (hw0 b hb))) (hk b o e)
 intro k
 induction k with
 | zero =>
  intro i s hk hi hst ho hS hR
  have hin:i=n:=by omega
  subst hin
  refine codeAny_builtin F.entry_set_update_loop ?_
  rw [Around.under_plainId F.plain_set_update_loop _]
  show wpAny _ A.in1 (pyNext (.ref I) >>= _) _ _ s
  refine wpAny_bind (W.done s _ _ hst fun s' hm=>?_)
  show wpAny _ A.in1 (ret Value.none) _ _ s'
  refine wpAny_pure (hR s' (hm.mono hsub) (old hm ho) ?_)
  obtain ⟨es,ep,t,dl,z⟩:=hS
  rw [List.take_of_length_le (by omega)] at z
  exact ⟨es,ep,t,dl,hm.heap S _ hSw z.get,z.ok,z.led,z.ent,z.dat,z.nodup,z.mem,z.sub⟩
 | succ k ih =>
  intro i s hk hi hst ho hS hR
  have hlt:i < n:=by omega
  refine codeAny_builtin F.entry_set_update_loop ?_
  rw [Around.under_plainId F.plain_set_update_loop _]
  show wpAny _ A.in1 (pyNext (.ref I) >>= _) _ _ s
  refine wpAny_bind (W.item i s _ _ hlt hst fun v s' hP hst' hm=>?_)
  obtain ⟨d,ed,dv⟩:=hval i v hP
  obtain ⟨l,rfl,h8⟩:=htup d (List.mem_of_getElem? ed)
  obtain ⟨es,ep,t,dl,z⟩:=hS
  have ho':=old hm ho
  have hget':s'.heap.get? S=some (setObj es ep t):=hm.heap S _ hSw z.get
  have tk1:ds.take (i + 1)=ds.take i ++ [.tup l]:=by
   rw [List.take_succ,ed]; rfl
  have hlen:es.size≤i:=by
   have h1:es.size=dl.length:=by rw [← z.dat.length,List.length_map,Array.length_toList]
   have h2:dl.length≤(ds.take i).length:=by
    refine List.Nodup.length_le_of_subset z.nodup fun x hx=>(z.mem x).mp hx
   rw [List.length_take] at h2
   omega
  show wpAny _ A.in1 (holding [v] (setAdd S v) >>= _) _ _ s'
  refine wpAny_bind (wpAny_holding ?_)
  have memIff:(∃ e∈es.toList,DatH s'.heap e.2 (.tup l))↔Dt.tup l∈dl:=by
   constructor
   ·rintro ⟨e,he,q⟩
    obtain ⟨d',hd',q'⟩:=(datHs_mem z.dat).2 e.2 (List.mem_map.mpr ⟨e,he,rfl⟩)
    rw [DatH.inj q (q'.keep ho')]
    exact hd'
   ·intro hd'
    obtain ⟨v',hv',q'⟩:=(datHs_mem z.dat).1 _ hd'
    obtain ⟨e,he,rfl⟩:=List.mem_map.mp hv'
    exact ⟨e,he,q'.keep ho'⟩
  refine add_D (A:=A.in1) z.ok hget' rfl (z.ent.keep ho') (dv.keep ho') h8 (by show A.units + 1 + 8 < _; omega) (by omega) (fun tk htk he=>?_) fun tk h' es' ep' t' htk he sb g' ok' l' p'=>?_
  ·refine wpAny_pure ⟨plainId_quiet F.plain_set_update_loop _,ih (i + 1) _ (by omega) hlt (W.frame _ s' _ _ hst' htk fun b hb o e=>e) ho' ?_ fun s'' hm'' ho'' hS''=>?_⟩
   ·rw [tk1]
    refine ⟨es,ep,t,dl,hget',z.ok,z.led,z.ent,z.dat,z.nodup,fun d=>?_,z.sub⟩
    rw [List.mem_append,List.mem_singleton,z.mem]
    constructor
    ·exact .inl
    ·rintro (q | rfl)
     ·exact q
     ·exact (z.mem _).mp (memIff.mp he)
   ·exact hR s'' (Moved.trans W.gtrans ((hm.mono hsub).then_heap htk fun b o hb e=>e) hm'') ho'' hS''
  ·refine wpAny_pure ⟨plainId_quiet F.plain_set_update_loop _,ih (i + 1) _ (by omega) hlt (W.frame _ s' _ _ hst' htk fun b hb o e=>?_) (fun b o e=>?_) ?_ fun s'' hm'' ho'' hS''=>?_⟩
   ·rw [sb.2 b (fun h:b=S=>hSf (by rw [← h]; exact hb))]; exact e
   ·rw [sb.2 b (fun h:b=S=>absurd (Heap.lt_size e) (Nat.not_lt.mpr (by rw [h]; exact hS0)))]; exact ho' b o e
   ·rw [tk1]
    have hl:dl.length=es.size:=by rw [← z.dat.length,List.length_map,Array.length_toList]
    obtain ⟨dl',q1,q2⟩:=datHs_perm ((p'.map (·.2)).symm) (ds:=.tup l :: dl) (.cons dv z.dat)
    refine ⟨es',ep',t',dl',g',ok',l'.trans z.led,fun e he=>?_,q1,?_,fun d=>?_,fun e he=>?_⟩
    ·rcases List.mem_cons.mp (p'.mem_iff.mp he) with rfl | he
     ·exact ⟨.tup l,dv,h8,rfl,l,rfl⟩
     ·exact z.ent e he
    ·refine q2.nodup_iff.mp (List.nodup_cons.mpr ⟨fun hc=>he (memIff.mpr hc),z.nodup⟩)
    ·rw [← q2.mem_iff,List.mem_cons,List.mem_append,List.mem_singleton,z.mem,Or.comm]
    ·rcases List.mem_cons.mp (p'.mem_iff.mp he) with rfl | he
     ·exact hvs i v hP
     ·exact z.sub e he
   ·refine hR s'' (Moved.trans W.gtrans ((hm.mono hsub).then_heap htk fun b o hb e=>?_) hm'') ho'' hS''
    rw [sb.2 b (fun h:b=S=>hb (by rw [h]; exact List.mem_cons_self))]; exact e
end
section
variable {prog:Program} {w:World} {A:Around} {E:Value→Shared→Prop} {s:Shared}
def set0 (w:World):Obj:=setObj #[] 0 (.fresh 0 0 (!byText w))
theorem setNew_D (v:Value) {Q:Value→Shared→Prop} (q:Q (.ref s.heap.objs.size) { s with heap:=s.heap.push (set0 w) }) :
  codeAny (model prog w) A (.call (.builtin "set.__new__") ⟨[.type "set",v],[]⟩) (wants Q E) s:=by
 refine codeAny_of_tree (show wpAny _ A.in1 (do checkBuiltinCall "set.__new__" ⟨[.type "set",v],[]⟩; again (.builtin "set.__new__" ⟨[.type "set",v],[]⟩)) _ _ s from ?_)
 refine wpAny_bind (wpAny_of_eq (PySem.F.newCall_set_1 v) (wpAny_pure ⟨plainId_quiet PySem.F.plain_set_new _,codeAny_builtin PySem.F.entry_set_new ?_⟩))
 rw [Around.under_plainId PySem.F.plain_set_new _]; unfold Builtin.«set.__new__» Builtin.Frozenset.newClass
 have hss:=sub_set_self
 obtain ⟨h1,h2,h3,h4,h5⟩:=s
 dsimp only; wp_walk
 refine wpAny_askSetting (wpAny_pure ?_); dsimp only; simp only [newObj]
 exact wpAny_bind (wpAny_alloc (wpAny_pure (wpAny_pure q)))
theorem set0_is (h0 h:Heap) (vs:List Value) {S:Addr} (e:h.get? S=some (set0 w)):∃ es ep t dl,SetIs w h0 h S vs [] es ep t dl:=by
 refine ⟨#[],0,.fresh 0 0 (!byText w),[],e,⟨⟨.inl rfl,List.Pairwise.nil,rfl,rfl,fun j hj=>?_,fun i j e' hp=>?_⟩,?_⟩,rfl,fun e' he=>?_,.nil,List.nodup_nil,fun d=>Iff.rfl,fun e' he=>?_⟩
 ·exact absurd hj (by simp [SetTable.fresh])
 ·simp [SetTable.fresh] at hp
 ·show 0 * 5 < 7 * 3; decide
 ·simp at he
 ·simp at he
set_option maxRecDepth 100000 in
set_option maxHeartbeats 3200000 in
theorem call_set_D {l:Addr} {its:Array Value} {ds:List Dt} {Q:Value→Shared→Prop} (hh:A.handled=none) (hl:s.heap.IsList l its) (hi:DatHs s.heap its.toList ds) (hb:its.size < 306)
  (htup:∀ d∈ds,∃ l,d=.tup l∧d.dp≤8) (hu:A.units + 12 < cLine)
  (q:∀ (h':Heap) (tk:Nat) es ep t dl,SetIs w s.heap h' s.heap.objs.size its.toList ds es ep t dl→(∀ b o,s.heap.get? b=some o→h'.get? b=some o)→s.heap.objs.size < h'.objs.size→Q (.ref s.heap.objs.size) { s with heap:=h',toks:=tk }) :
  wpAny (model prog w) A (call (.type "set") [.ref l]) Q E s:=by
 obtain ⟨c,tl,hmro⟩:=PySem.F.called_set.mro
 have hmd:=PySem.F.called_set.made
 have hsb:=PySem.F.called_set.sub
 have n1:=PySem.F.called_set.notType
 have n2:=PySem.F.called_set.canCreate
 have n3:=PySem.F.typeCall_set_1 (.ref l)
 refine wpAny_call (codeAny_of_tree (show wpAny _ _ (callAny (.type "set") _) _ _ _ from ?_))
 refine wpAny_pure ⟨Code.quiet_builtin _ (by decide +kernel),codeAny_builtin PySem.F.entry_type_call ?_⟩
 rw [Around.under_plain (weight_type_call_type "set" [.ref l] []) rfl]; repeat (any_goals (first | assumption | wp_step))
 refine codeAny_mono (setNew_D (.ref l) (E:=E) (Q:=fun r z=>r=.ref s.heap.objs.size∧z={ s with heap:=s.heap.push (set0 w) }) ⟨rfl,rfl⟩) fun res z hz=>?_
 cases res with
 | error e=>exact hz
 | ok fl =>
  cases fl with
  | ret r =>
   obtain ⟨rfl,rfl⟩:=hz
   have g0:(s.heap.push (set0 w)).get? s.heap.objs.size=some (set0 w):=Heap.get?_push_size _ rfl
   have hT:Shared.TypeIs { s with heap:=s.heap.push (set0 w) } (.ref s.heap.objs.size) "set":=⟨_,g0,rfl⟩
   have i1:=PySem.F.called_set.init.lookup
   have i2:=PySem.F.called_set.init.bind (.ref s.heap.objs.size)
   repeat (any_goals (first | assumption | wp_step))
   refine codeAny_mono (codeAny_call_builtin (R:=wants (fun r z=>r=.none∧∃ h' tk es ep t dl,z={ s with heap:=h',toks:=tk }∧SetIs w s.heap h' s.heap.objs.size its.toList ds es ep t dl∧(∀ b o,s.heap.get? b=some o→h'.get? b=some o)∧s.heap.objs.size < h'.objs.size) E)
    PySem.F.called_set.init.plain PySem.F.entry_set_init (check_set_init_1 hT ?_)) fun res z hz=>?_
   ·obtain ⟨ol,hol,hcl,nl,hdl⟩:=id hl
    obtain ⟨oc,od,oda,osl⟩:=ol
    simp only at hcl hdl
    subst hcl; subst hdl
    have hol':(s.heap.push (set0 w)).get? l=some { cls:=.type "list",dict:=od,data:=.seq its nl,slots:=osl }:=Heap.get?_push_of_some _ hol
    have j1:=PySem.F.sub_list_set
    have j2:=PySem.F.sub_list_frozenset
    have j3:(Value.type "list" == Value.type "dict")=false:=by decide
    have hl1:(s.heap.push (set0 w)).IsList l its:=⟨_,hol',rfl,nl,rfl⟩
    unfold Builtin.«set.__init__» noKeywords Builtin.Frozenset.updateFrom
    generalize hPI:pyIter=PI
    wp_walk
    subst hPI
    refine wpAny_pyIter_list hl1 (wpAny_bind (wpAny_runValue ?_))
    have hlS:l < s.heap.objs.size:=Heap.lt_size hol
    have hlI:l≠(s.heap.push (set0 w)).objs.size:=by rw [Heap.size_push]; exact Nat.ne_of_lt (Nat.lt_succ_of_lt hlS)
    have hSf:s.heap.objs.size ∉ [(s.heap.push (set0 w)).objs.size,l]:=by
     rw [Heap.size_push]; simp only [List.mem_cons,List.not_mem_nil,or_false,not_or]; exact ⟨Nat.ne_of_lt (Nat.lt_succ_self _),Nat.ne_of_gt hlS⟩
    have h3:A.in1.in1.in1.handled=none:=by simp [hh]
    refine update_loop_D ((Walks.list h3 _ l hlI its).toS) s.heap s.heap.objs.size hSf (Nat.le_refl _) (fun b hb=>?_) ds (by rw [← hi.length,Array.length_toList]) hb its.toList (fun i v hv=>Array.mem_toList_iff.mpr (Array.mem_of_getElem? hv)) (fun i v hv=>datHs_get hi i v (by rw [Array.getElem?_toList]; exact hv)) htup
     (by simp only [Around.in1_units]; omega) (its.size - 0) 0 _ (by omega) (Nat.zero_le _) ⟨⟨_,Heap.get?_push_size _ rfl,rfl,rfl⟩,hl1.push _⟩ (fun b o e=>Heap.get?_push_of_some _ (Heap.get?_push_of_some _ e)) ?_ ?_
    ·have:b=(s.heap.push (set0 w)).objs.size:=by simpa using hb
     rw [this,Heap.size_push]; exact Nat.le_succ _
    ·exact set0_is _ _ _ (Heap.get?_push_of_some _ g0)
    ·intro z hm old hS
     obtain ⟨h',g',d',tk',os'⟩:=z
     have e1:g'=s.gens:=hm.gens
     have e2:d'=s.drawn:=hm.drawn
     have e3:os'=s.os:=hm.os
     subst e1; subst e2; subst e3
     obtain ⟨es,ep,t,dl,hS⟩:=hS
     show wpAny _ _ _ _ _ _
     refine wpAny_pure (show wpAny _ _ (ret Value.none) _ _ _ from ?_)
     exact wpAny_pure ⟨rfl,h',tk',es,ep,t,dl,rfl,hS,old,Heap.lt_size hS.get⟩
   ·cases res with
    | error e=>exact hz
    | ok fl =>
     cases fl with
     | ret r =>
      obtain ⟨rfl,h',tk,es,ep,t,dl,rfl,hS,old,hlt⟩:=hz
      repeat (any_goals (first | assumption | wp_step))
      exact q h' tk es ep t dl hS old hlt
     | _=>exact hz.elim
  | _=>exact hz.elim
end
theorem slotSI:Slot "set_iterator" "__next__" "set_iterator.__next__" :=
 .of (owner:="set_iterator") (n:="__next__") (by rw [typeLookup_type,builtinLookup_eq_fast]; kernel_rfl) (by decide +kernel) (by decide +kernel) (by decide +kernel) (by first | exact .inl (by decide +kernel) | exact .inr (by decide +kernel)) (by rw [isSubtype_type]; kernel_rfl)
theorem entrySI:entryFor table "set_iterator.__next__"=some Builtin.«set_iterator.__next__»:=entryFor_of_tree (by kernel_rfl)
theorem ownSI:Manifest.owners.lookup (String.ofList ['r','o','t','a','r','e','t','i','_','t','e','s'].reverse)=some Manifest.sig_set_iterator:=by kernel_rfl
theorem argsSI (a:Value):argsOk "set_iterator.__next__" ⟨[a],[]⟩:=by
 unfold argsOk; rw [signature?_of (id:="set_iterator.__next__") (n:=['_','_','t','x','e','n','_','_']) (o:=['r','o','t','a','r','e','t','i','_','t','e','s']) (by kernel_rfl) ownSI]; kernel_rfl
theorem entrySIter:entryFor table "set.__iter__"=some Builtin.«frozenset.__iter__»:=entryFor_alias (id':="frozenset.__iter__") (by kernel_rfl) rfl (by decide +kernel) (by kernel_rfl)
section
variable {M:Model} {A:Around} {E:Value→Shared→Prop} {s:Shared}
theorem choose_any {src:Source} {n:Nat} {Q:Nat→Shared→Prop} (hn:n≠0) (q:∀ i d,i < n→Q i { s with drawn:=d }):wpAny M A (choose src n) Q E s:=fun Γ p hΓ=>by
 show Sem.wp M Γ (.choose src n .pure) _ _ p s
 rw [Sem.wp_choose]
 exact ⟨hn,q _ _ (Nat.mod_lt _ (Nat.pos_of_ne_zero hn))⟩
theorem perm_erase {α:Type} {xs:List α} {i:Nat} {x:α} (h:xs[i]?=some x):(x :: xs.eraseIdx i).Perm xs:=by
 induction xs generalizing i with
 | nil=>simp at h
 | cons y ys ih =>
  cases i with
  | zero=>simp at h; subst h; simp
  | succ i =>
   simp at h
   rw [List.eraseIdx_cons_succ]
   exact (List.Perm.swap y x _).trans ((ih h).cons y)
theorem drawOrder_any {α:Type}:∀ (n:Nat) (xs:List α) (s:Shared) {Q:List α→Shared→Prop},n=xs.length→(∀ ys d,ys.Perm xs→Q ys { s with drawn:=d })→wpAny M A (drawOrder n xs) Q E s
 | 0,xs,s,Q,hn,q=>by
  have:xs=[]:=List.length_eq_zero_iff.mp hn.symm
  subst this
  exact wpAny_pure (q [] s.drawn (.refl _))
 | n + 1,[],s,Q,hn,q=>by simp at hn
 | n + 1,x :: xs,s,Q,hn,q=>by
  unfold drawOrder
  refine wpAny_bind (choose_any (by simp) fun i d hi=>?_)
  have e:(x :: xs)[i]?=some (x :: xs)[i]:=List.getElem?_eq_getElem hi
  rw [e]
  dsimp only
  have hl:n=((x :: xs).eraseIdx i).length:=by
   have:=List.length_eraseIdx_of_lt hi
   rw [this]; simp at hn; simp [hn]
  refine wpAny_bind (drawOrder_any n _ { s with drawn:=d } hl fun ys d' hp=>wpAny_pure ?_)
  exact q _ d' ((hp.cons _).trans (perm_erase e))
end
theorem pick_go {α:Type} (next:Nat→Nat):∀ (fuel k:Nat) (left:List α) (out:Array α),fuel=left.length→∃ ys,ys.Perm left∧(pickOrder.go next fuel k left out).toList=out.toList ++ ys
 | 0,k,left,out,h=>by
  have:left=[]:=List.length_eq_zero_iff.mp h.symm
  subst this
  exact ⟨[],.refl _,by unfold pickOrder.go; simp⟩
 | fuel + 1,k,left,out,h=>by
  unfold pickOrder.go
  have hp:next k % left.length < left.length:=Nat.mod_lt _ (by omega)
  have e:left[next k % left.length]?=some left[next k % left.length]:=List.getElem?_eq_getElem hp
  rw [e]
  dsimp only
  obtain ⟨ys,p1,p2⟩:=pick_go next fuel (k + 1) (left.eraseIdx (next k % left.length)) (out.push left[next k % left.length]) (by
   rw [List.length_eraseIdx_of_lt hp]; omega)
  exact ⟨_ :: ys,(p1.cons _).trans (perm_erase e),by rw [p2,Array.toList_push]; simp⟩
theorem pick_perm {α:Type} (next:Nat→Nat) (xs:Array α):(pickOrder next xs).toList.Perm xs.toList:=by
 obtain ⟨ys,p1,p2⟩:=pick_go next xs.size 0 xs.toList #[] (by simp)
 show (pickOrder.go next xs.size 0 xs.toList #[]).toList.Perm _
 rw [p2]
 simpa using p1
def itObj (first:Value) (i n:Nat) (S:Addr) (ep:Nat):Obj:={ cls:=.type "set_iterator",data:=.fields #[first,.int i 0,.ref S,.int n 0,.int ep 0] }
inductive ItF (w:World) (h:Heap) (S:Addr) (es:Array (Int×Value)) (ep:Nat) (t:SetTable) (ord:List Value) (i:Nat):Value→List Addr→Prop where
 | text (hb:byText w=true) (ho:ord=(pickOrder (w.params.setOrder S ep) es).toList.map (·.2)):ItF w h S es ep t ord i (.int 0 0) []
 | drawn {T:Addr} {o:Obj} {nn:Nat} {pl:List Nat} (hb:byText w=false) (hd:(!t.plain && decide (es.size > 1))=true) (hT:h.get? T=some o) (hs:o.data=.seq (pl.map fun (k:Nat)=>Value.int (k:Int) 0).toArray nn) (hp:pl.Perm (List.range es.size))
   (ho:ord=pl.map fun k=>((es[k]?).map (·.2)).getD .none):ItF w h S es ep t ord i (.ref T) [T]
 | slots {sl:Nat} (hb:byText w=false) (hd:(!t.plain && decide (es.size > 1))=false) (hs:SetTable.below t.place sl=i) (ho:ord=es.toList.map (·.2)):ItF w h S es ep t ord i (.int sl 0) []
theorem it_set0 (first x:Value) (i n:Nat) (S:Addr) (ep:Nat):Obj.mapFields (·.setIfInBounds 0 x) (itObj first i n S ep)=itObj x i n S ep:=rfl
theorem it_set1 (first:Value) (i n:Nat) (S:Addr) (ep:Nat):Obj.mapFields (·.setIfInBounds 1 (.int ((i:Int) + 1) 0)) (itObj first i n S ep)=itObj first (i + 1) n S ep:=rfl
theorem ItF.keep {w:World} {h h':Heap} {S:Addr} {es:Array (Int×Value)} {ep:Nat} {t:SetTable} {ord:List Value} {i:Nat} {first:Value} {fp:List Addr} (x:ItF w h S es ep t ord i first fp) (k:∀ b∈fp,∀ o,h.get? b=some o→h'.get? b=some o):ItF w h' S es ep t ord i first fp:=by
 cases x with
 | text a b=>exact .text a b
 | drawn a b c d e f=>exact .drawn a b (k _ (by simp) _ c) d e f
 | slots a b c d=>exact .slots a b c d
section
variable {prog:Program} {w:World} {A:Around} {E:Value→Shared→Prop} {s:Shared} {I S:Addr} {es:Array (Int×Value)} {ep:Nat} {t:SetTable} {ord:List Value} {i:Nat} {first:Value} {fp:List Addr}
theorem byText_ask {α:Type} {f:Bool→Sem α} {Q:α→Shared→Prop} (q:wpAny (model prog w) A (f (byText w)) Q E s):wpAny (model prog w) A (setsByText >>= f) Q E s:=by
 unfold setsByText
 exact wpAny_bind (wpAny_bind (wpAny_askSetting (wpAny_pure q)))
set_option maxHeartbeats 1000000 in
theorem next_item (ok:SetOk t es) (hled:t.led=!byText w) (hS:s.heap.get? S=some (setObj es ep t)) (hI:s.heap.get? I=some (itObj first i es.size S ep)) (hf:ItF w s.heap S es ep t ord i first fp) (hne:S≠I) (hfp:∀ b∈fp,b≠I)
  {v:Value} (hv:ord[i]?=some v) {Q:Option Value→Shared→Prop} (q:∀ first' h',h'.get? I=some (itObj first' (i + 1) es.size S ep)→ItF w h' S es ep t ord (i + 1) first' fp→Heap.SameBut I s.heap h'→Q (some v) { s with heap:=h' }) :
  wpAny (model prog w) A (pyNext (.ref I)) Q E s:=by
 have hT:s.TypeIs (.ref I) "set_iterator":=⟨_,hI,rfl⟩
 unfold pyNext
 refine wpAny_bind (wpAny_attempt (wpAny_callSpecial?_slot (name:=Str.ofString "__next__") hT slotSI (wpAny_call_entry slotSI hT entrySI ?_ (argsSI _))))
 show wpAny _ _ (fieldsOf (.ref I) >>= _) _ _ s
 refine wpAny_bind (wpAny_fieldsOf hI rfl ?_)
 dsimp only
 refine wpAny_bind (wpAny_setEntries_of hS rfl ok.tab.fits ?_)
 rw [if_neg (by simp)]
 have upd2:∀ x:Value,((s.heap.update I (Obj.mapFields (·.setIfInBounds 0 x))).get? I)=some (itObj x i es.size S ep):=fun x=>by
  have:=Heap.get?_update_self (Obj.mapFields (·.setIfInBounds 0 x)) hI rfl
  rw [it_set0] at this; exact this
 have upd3:∀ (f:Value) (h:Heap),h.get? I=some (itObj f i es.size S ep)→(h.update I (Obj.mapFields (·.setIfInBounds 1 (.int ((i:Int) + 1) 0)))).get? I=some (itObj f (i + 1) es.size S ep):=fun f h e=>by
  have:=Heap.get?_update_self (Obj.mapFields (·.setIfInBounds 1 (.int ((i:Int) + 1) 0))) e rfl
  rw [it_set1] at this; exact this
 cases hf with
 | text hb ho =>
  dsimp only
  refine wpAny_bind ?_
  unfold setNext
  refine wpAny_bind (wpAny_setState_of hS rfl ok.tab.fits ?_)
  refine byText_ask ?_
  rw [hb]
  simp only [if_true,Int.toNat_natCast]
  rw [if_neg (by simp)]
  unfold setWalk
  refine wpAny_bind (wpAny_bind (wpAny_setState_of hS rfl ok.tab.fits ?_))
  refine byText_ask ?_
  rw [hb]
  simp only [if_true]
  refine wpAny_bind (wpAny_askSetting (wpAny_pure ?_))
  rw [ho,List.getElem?_map,Array.getElem?_toList] at hv
  cases hx:(pickOrder (w.params.setOrder S ep) es)[i]? with
  | none=>rw [hx] at hv; cases hv
  | some e =>
   rw [hx] at hv
   cases hv
   refine wpAny_pure ?_
   generalize hg:(pickOrder _ es)[i]?=g
   have:g=some e:=hg.symm.trans hx
   subst this
   dsimp only [Option.map]
   refine wpAny_bind (wpAny_setField hI rfl (by simp) (wpAny_bind (wpAny_setField (upd2 _) rfl (by simp) (wpAny_pure ⟨_,rfl,wpAny_pure ?_⟩))))
   exact q _ _ (upd3 _ _ (upd2 _)) (.text hb ho) ((Heap.SameBut.update _ _ _).trans (Heap.SameBut.update _ _ _))
 | @drawn T o nn pl hb hd hT' hs hp ho =>
  dsimp only
  refine wpAny_bind (wpAny_seqItems hT' hs ?_)
  dsimp only
  rw [ho,List.getElem?_map] at hv
  cases hx:pl[i]? with
  | none=>rw [hx] at hv; cases hv
  | some k =>
   rw [hx] at hv
   have hk:k < es.size:=List.mem_range.mp (hp.mem_iff.mp (List.mem_of_getElem? hx))
   have hev:v=es[k].2:=by
    have:=(Option.some.inj hv).symm
    rw [this]
    show ((es[k]?).map (·.2)).getD .none=_
    rw [Array.getElem?_eq_getElem hk]; rfl
   subst hev
   have e1:(pl.map fun (k:Nat)=>Value.int (k:Int) 0).toArray[((i:Int)).toNat]?=some (.int (k:Int) 0):=by
    rw [List.getElem?_toArray,List.getElem?_map,Int.toNat_natCast,hx]; rfl
   rw [e1]
   dsimp only
   refine wpAny_bind ?_
   unfold setNextDrawn
   refine wpAny_bind (wpAny_setState_of hS rfl ok.tab.fits ?_)
   dsimp only
   rw [if_neg (by simp)]
   rw [Int.toNat_natCast,Array.getElem?_eq_getElem hk]
   dsimp only
   refine wpAny_pure (wpAny_bind (wpAny_setField hI rfl (by simp) (wpAny_pure ⟨_,rfl,wpAny_pure ?_⟩)))
   refine q _ _ (upd3 _ _ hI) ?_ (Heap.SameBut.update _ _ _)
   refine ItF.keep (h:=s.heap) (.drawn hb hd hT' hs hp ho) fun b hb' o' e=>?_
   rw [Heap.get?_update_other _ _ (fun z=>hfp b hb' z.symm)]; exact e
 | @slots sl hb hd hs ho =>
  dsimp only
  refine wpAny_bind ?_
  unfold setNext
  refine wpAny_bind (wpAny_setState_of hS rfl ok.tab.fits ?_)
  refine byText_ask ?_
  rw [hb]
  simp only [Bool.false_eq_true,if_false,Int.toNat_natCast]
  have hlt:i < es.size:=by
   rw [ho] at hv
   obtain ⟨h1,_⟩:=List.getElem?_eq_some_iff.mp hv
   simpa using h1
  have hpl:i < t.place.size:=by rw [ok.size]; exact hlt
  have hev:v=es[i].2:=by
   rw [ho,List.getElem?_map,Array.getElem?_toList,Array.getElem?_eq_getElem hlt] at hv
   exact (Option.some.inj hv).symm
  subst hev
  split
  ·rename_i hc
   exact absurd (show (!t.plain && decide (es.size > 1))=true from hc) (by rw [hd]; simp)
  ·have hl:t.led=true:=by rw [hled,hb]; rfl
   refine wpAny_bind (m:=(if (!t.led && !es.isEmpty)=true then unsupported "set:maker-not-led" else pure ())) ?_
   rw [hl]
   simp only [Bool.not_true,Bool.false_and,Bool.false_eq_true,if_false]
   refine wpAny_pure ?_
   rw [hs,Array.getElem?_eq_getElem hlt,Array.getElem?_eq_getElem hpl]
   dsimp only
   refine wpAny_pure ?_
   dsimp only
   refine wpAny_bind (wpAny_setField hI rfl (by simp) (wpAny_bind (wpAny_setField (upd2 _) rfl (by simp) (wpAny_pure ⟨_,rfl,wpAny_pure ?_⟩))))
   refine q _ _ (upd3 _ _ (upd2 _)) (.slots (sl:=t.place[i] + 1) hb hd ?_ ho) ((Heap.SameBut.update _ _ _).trans (Heap.SameBut.update _ _ _))
   obtain ⟨b1,b2,b3⟩:=below_spec ok.rises (t.place[i] + 1)
   rcases Nat.lt_trichotomy (SetTable.below t.place (t.place[i] + 1)) (i + 1) with z | z | z
   ·have:=b3 i (by omega) _ (Array.getElem?_eq_getElem hpl)
    omega
   ·exact z
   ·have hb1:i + 1 < t.place.size:=by omega
    have h1:=b2 (i + 1) z _ (Array.getElem?_eq_getElem hb1)
    have h2:=List.pairwise_iff_getElem.mp ok.rises i (i + 1) (by simpa using hpl) (by simpa using hb1) (Nat.lt_succ_self i)
    simp only [Array.getElem_toList] at h2
    omega
end
section
variable {prog:Program} {w:World} {A:Around} {E:Value→Shared→Prop} {s:Shared}
theorem stop_any {α:Type} (hh:A.handled=none) {Q:α→Shared→Prop} (q:∀ h' v,(∀ b o,s.heap.get? b=some o→h'.get? b=some o)→Shared.TypeIs { s with heap:=h' } v "StopIteration"→E v { s with heap:=h' }) :
  wpAny (model prog w) A (newExc (.type "StopIteration") [] >>= fun e=>(raiseNew e:Sem α)) Q E s:=by
 refine wpAny_bind ?_
 simp only [newExc,newTuple]
 refine wpAny_bind (wpAny_newObj_type ?_ (by size_fits))
 refine wpAny_bind (m:=firstArgMember _ _) (wpAny_of_eq (a:=Value.none) (by first | rfl | (simp only [firstArgMember]; rfl)) (wpAny_newObj_type ?_ (by size_fits)))
 simp only [raiseNew]
 refine wpAny_bind (wpAny_handled (by
  rw [hh]
  refine wpAny_bind (wpAny_pure (wpAny_throw (q _ _ (fun b o e=>Heap.get?_push_of_some _ (Heap.get?_push_of_some _ e)) ?_)))
  exact ⟨_,Heap.get?_push_size _ rfl,rfl⟩))
variable {I S:Addr} {es:Array (Int×Value)} {ep:Nat} {t:SetTable} {ord:List Value} {i:Nat} {first:Value} {fp:List Addr}
set_option maxHeartbeats 1000000 in
theorem next_end (hh:A.handled=none) (ok:SetOk t es) (hled:t.led=!byText w) (hS:s.heap.get? S=some (setObj es ep t)) (hI:s.heap.get? I=some (itObj first i es.size S ep)) (hf:ItF w s.heap S es ep t ord i first fp)
  (hv:ord[i]?=none) {Q:Option Value→Shared→Prop} (q:∀ h',(∀ b o,b≠I→s.heap.get? b=some o→h'.get? b=some o)→Q none { s with heap:=h' }) :
  wpAny (model prog w) A (pyNext (.ref I)) Q E s:=by
 have hT:s.TypeIs (.ref I) "set_iterator":=⟨_,hI,rfl⟩
 unfold pyNext
 refine wpAny_bind (wpAny_attempt (wpAny_callSpecial?_slot (name:=Str.ofString "__next__") hT slotSI (wpAny_call_entry slotSI hT entrySI ?_ (argsSI _))))
 show wpAny _ _ (fieldsOf (.ref I) >>= _) _ _ s
 refine wpAny_bind (wpAny_fieldsOf hI rfl ?_)
 dsimp only
 refine wpAny_bind (wpAny_setEntries_of hS rfl ok.tab.fits ?_)
 rw [if_neg (by simp)]
 have hh1:A.in1.handled=none:=hh
 have fin:∀ (h1:Heap),(∀ b o,b≠I→s.heap.get? b=some o→h1.get? b=some o)→∀ (h':Heap) (v:Value),(∀ b o,h1.get? b=some o→h'.get? b=some o)→Shared.TypeIs { s with heap:=h' } v "StopIteration" →
   wpAny (model prog w) A (match (Except.error v:Except Value (Option Value)) with
    | .ok (some v)=>pure (some v)
    | .ok none=>unsupported "iter:the-iterator's-class-has-lost-its-__next__-amid-the-walk"
    | .error e=>do if ← isInstance e (.type "StopIteration") then pure none else throw e) Q E { s with heap:=h' }:=fun h1 k1 h' v k2 ht=>by
  dsimp only
  refine wpAny_bind (wpAny_isInstance (T:="StopIteration") (b:=true) ht isSubtype_stop ?_)
  exact wpAny_pure (q h' fun b o hb e=>k2 b o (k1 b o hb e))
 have up:∀ (h:Heap) (f:Obj→Obj) (b:Addr) (o:Obj),b≠I→h.get? b=some o→(h.update I f).get? b=some o:=fun h f b o hb e=>by
  rw [Heap.get?_update_other _ _ (fun z=>hb z.symm)]; exact e
 cases hf with
 | text hb ho =>
  dsimp only
  refine wpAny_bind ?_
  unfold setNext
  refine wpAny_bind (wpAny_setState_of hS rfl ok.tab.fits ?_)
  refine byText_ask ?_
  rw [hb]
  simp only [if_true,Int.toNat_natCast]
  rw [if_neg (by simp)]
  unfold setWalk
  refine wpAny_bind (wpAny_bind (wpAny_setState_of hS rfl ok.tab.fits ?_))
  refine byText_ask ?_
  rw [hb]
  simp only [if_true]
  refine wpAny_bind (wpAny_askSetting (wpAny_pure ?_))
  rw [ho,List.getElem?_map,Array.getElem?_toList] at hv
  have hx:(pickOrder (w.params.setOrder S ep) es)[i]?=none:=by simpa using hv
  refine wpAny_pure ?_
  generalize hg:(pickOrder _ es)[i]?=g
  have:g=none:=hg.symm.trans hx
  subst this
  dsimp only [Option.map]
  refine wpAny_bind (wpAny_setField hI rfl (by simp) ?_)
  exact stop_any hh1 (fin _ (up _ _))
 | @drawn T o nn pl hb hd hT' hs hp ho =>
  dsimp only
  refine wpAny_bind (wpAny_seqItems hT' hs ?_)
  dsimp only
  rw [ho,List.getElem?_map] at hv
  have hx:pl[i]?=none:=by simpa using hv
  have e1:(pl.map fun (k:Nat)=>Value.int (k:Int) 0).toArray[((i:Int)).toNat]?=none:=by
   rw [List.getElem?_toArray,List.getElem?_map,Int.toNat_natCast,hx]; rfl
  rw [e1]
  dsimp only
  have upd2:((s.heap.update I (Obj.mapFields (·.setIfInBounds 0 (.int 0 0)))).get? I)=some (itObj (.int 0 0) i es.size S ep):=by
   have:=Heap.get?_update_self (Obj.mapFields (·.setIfInBounds 0 (.int 0 0))) hI rfl
   rw [it_set0] at this; exact this
  refine wpAny_bind (wpAny_setField hI rfl (by simp) (wpAny_bind (wpAny_setField upd2 rfl (by simp) ?_)))
  exact stop_any hh1 (fin _ fun b o hb e=>up _ _ b o hb (up _ _ b o hb e))
 | @slots sl hb hd hs ho =>
  dsimp only
  refine wpAny_bind ?_
  unfold setNext
  refine wpAny_bind (wpAny_setState_of hS rfl ok.tab.fits ?_)
  refine byText_ask ?_
  rw [hb]
  simp only [Bool.false_eq_true,if_false,Int.toNat_natCast]
  have hge:es[i]?=none:=by
   rw [ho,List.getElem?_map,Array.getElem?_toList] at hv
   simpa using hv
  split
  ·rename_i hc
   exact absurd (show (!t.plain && decide (es.size > 1))=true from hc) (by rw [hd]; simp)
  ·have hl:t.led=true:=by rw [hled,hb]; rfl
   refine wpAny_bind (m:=(if (!t.led && !es.isEmpty)=true then unsupported "set:maker-not-led" else pure ())) ?_
   rw [hl]
   simp only [Bool.not_true,Bool.false_and,Bool.false_eq_true,if_false]
   refine wpAny_pure ?_
   rw [hs,hge]
   dsimp only
   refine wpAny_pure ?_
   dsimp only
   refine wpAny_bind (wpAny_setField hI rfl (by simp) ?_)
   exact stop_any hh1 (fin _ (up _ _))
end
theorem slotSII:Slot "set_iterator" "__iter__" "set_iterator.__iter__" :=
 .of (owner:="set_iterator") (n:="__iter__") (by rw [typeLookup_type,builtinLookup_eq_fast]; kernel_rfl) (by decide +kernel) (by decide +kernel) (by decide +kernel) (by first | exact .inl (by decide +kernel) | exact .inr (by decide +kernel)) (by rw [isSubtype_type]; kernel_rfl)
theorem entrySII:entryFor table "set_iterator.__iter__"=some Builtin.«dict_keyiterator.__iter__»:=entryFor_alias (id':="dict_keyiterator.__iter__") (by kernel_rfl) rfl (by decide +kernel) (by kernel_rfl)
theorem argsSII (a:Value):argsOk "set_iterator.__iter__" ⟨[a],[]⟩:=by
 unfold argsOk; rw [signature?_of (id:="set_iterator.__iter__") (n:=['_','_','r','e','t','i','_','_']) (o:=['r','o','t','a','r','e','t','i','_','t','e','s']) (by kernel_rfl) ownSI]; kernel_rfl
section
variable {prog:Program} {w:World} {A:Around} {E:Value→Shared→Prop} {s:Shared} {S:Addr} {es:Array (Int×Value)} {ep:Nat} {t:SetTable}
theorem hint_set {Q:Bool→Shared→Prop} (hT:s.TypeIs (.ref S) "set") (h:Q false s):wpAny (model prog w) A (Builtin.List.listLengthHint (.ref S)) Q E s:=by
 unfold Builtin.List.listLengthHint
 refine wpAny_bind (wpAny_specialOf hT PySem.F.slot_set_len.lookup ?_)
 generalize hid:("set.__len__":String)=id0
 wp_delta
 rw [show splitId id0=some ("set","__len__") from by subst hid; decide +kernel]
 subst hid
 refine wpAny_bind (wpAny_isInstance (T:="set") (b:=true) hT sub_set_self (wpAny_ite_split (fun hab=>absurd hab (by decide)) (fun _=>?_)))
 exact wpAny_ite_split (fun _=>wpAny_bind (wpAny_typeOf hT (wpAny_pure h))) (fun hab=>absurd (by decide +kernel) hab)
theorem walks_set (hh:A.handled=none) (ok:SetOk t es) (hled:t.led=!byText w) (ord:List Value) (hord:ord.length=es.size) (I:Addr) (fp:List Addr) (hne:S≠I) (hfp:∀ b∈fp,b≠I) :
  Walks prog w A I (I :: S :: fp) [I] es.size (fun i v=>ord[i]?=some v) (fun i h=>h.get? S=some (setObj es ep t)∧∃ first,h.get? I=some (itObj first i es.size S ep)∧ItF w h S es ep t ord i first fp) where
 sub:=fun b hb=>by simp at hb; simp [hb]
 frame:=fun i h h' st hk=>by
  obtain ⟨a,first,b,c⟩:=st
  exact ⟨hk S (by simp) _ a,first,hk I (by simp) _ b,c.keep fun b hb o e=>hk b (by simp [hb]) o e⟩
 item:=fun i s Q E hi st hQ=>by
  obtain ⟨a,first,b,c⟩:=st
  have hl:i < ord.length:=by omega
  refine next_item ok hled a b c hne hfp (List.getElem?_eq_getElem hl) fun first' h' e1 e2 e3=>?_
  exact hQ _ h' s.toks (List.getElem?_eq_getElem hl) ⟨by rw [e3.2 S hne]; exact a,first',e1,e2⟩ fun b o hb e=>by
   rw [e3.2 b (fun z=>hb (by simp [z]))]; exact e
 done:=fun s Q E st hQ=>by
  obtain ⟨a,first,b,c⟩:=st
  exact next_end hh ok hled a b c (List.getElem?_eq_none (by omega)) fun h' k=>hQ h' s.toks fun b o hb e=>k b o (fun z=>hb (by simp [z])) e
 self:=fun i s Q E st hQ=>by
  obtain ⟨a,first,b,c⟩:=st
  have hT:s.TypeIs (.ref I) "set_iterator":=⟨_,b,rfl⟩
  refine wpAny_pyIter_slot hT slotSII (wpAny_call_entry slotSII hT entrySII (show wpAny _ _ (ret (.ref I)) _ _ s from ?_) (argsSII _))
  exact wpAny_pure ⟨_,rfl,"set_iterator",_,hT,slotSI.lookup,hQ⟩
theorem iter_set (ok:SetOk t es) (hS:s.heap.get? S=some (setObj es ep t)) (h3:es.size≤400) {Q:Value→Shared→Prop}
  (q:∀ (h':Heap) d I fp first ord,(∀ b o,s.heap.get? b=some o→h'.get? b=some o)→s.heap.objs.size≤I→I < h'.objs.size→(∀ b∈fp,s.heap.objs.size≤b∧b≠I∧b < h'.objs.size)→h'.get? I=some (itObj first 0 es.size S ep)→ItF w h' S es ep t ord 0 first fp→ord.Perm (es.toList.map (·.2)) →
   Q (.ref I) { s with heap:=h',drawn:=d }) :
  wpAny (model prog w) A (pyIter (.ref S)) Q E s:=by
 have hT:s.TypeIs (.ref S) "set":=⟨_,hS,rfl⟩
 refine wpAny_pyIter_slot hT PySem.F.slot_set_iter (wpAny_call_entry PySem.F.slot_set_iter hT entrySIter ?_ (PySem.F.args_set_iter_1 _))
 unfold Builtin.«frozenset.__iter__»
 show wpAny _ _ (Builtin.Frozenset.sizeOf S >>= _) _ _ s
 unfold Builtin.Frozenset.sizeOf
 refine wpAny_bind (wpAny_bind (wpAny_setEntries_of hS rfl ok.tab.fits (wpAny_pure ?_)))
 unfold setDrawn
 refine wpAny_bind (wpAny_bind (wpAny_setState_of hS rfl ok.tab.fits ?_))
 refine byText_ask ?_
 dsimp only
 refine wpAny_pure ?_
 have tail:∀ (first:Value) (h1:Heap) (d:Drawn) (fp:List Addr) (ord:List Value),(∀ b o,s.heap.get? b=some o→h1.get? b=some o)→(∀ b∈fp,s.heap.objs.size≤b∧b < h1.objs.size)→s.heap.objs.size≤h1.objs.size →
   (∀ h':Heap,(∀ b o,h1.get? b=some o→h'.get? b=some o)→ItF w h' S es ep t ord 0 first fp)→ord.Perm (es.toList.map (·.2)) →
   wpAny (model prog w) A.in1 (do
    let e ← setEpoch S
    let r ← newFields "set_iterator" [first,rawInt 0,.ref S,rawInt es.size,rawInt e]
    ret r) (fun fin s'=>∃ r,fin=.done (.ret r)∧∃ T' r',s'.TypeIs r T'∧typeLookup (.type T') "__next__"=pure (some r')∧Q r s') E { s with heap:=h1,drawn:=d }:=fun first h1 d fp ord k1 k2 k3 k4 k5=>by
  refine wpAny_bind (wpAny_setEpoch_of (s:={ s with heap:=h1,drawn:=d }) (k1 _ _ hS) rfl ok.tab.fits ?_)
  refine wpAny_bind (wpAny_newObj_type ?_)
  refine wpAny_pure ⟨_,rfl,"set_iterator",_,⟨_,Heap.get?_push_size _ rfl,rfl⟩,slotSI.lookup,?_⟩
  refine q _ d h1.objs.size fp first ord (fun b o e=>Heap.get?_push_of_some _ (k1 b o e)) k3 (by rw [Heap.size_push]; exact Nat.lt_succ_self _) (fun b hb=>⟨(k2 b hb).1,Nat.ne_of_lt (k2 b hb).2,by rw [Heap.size_push]; exact Nat.lt_succ_of_lt (k2 b hb).2⟩) (Heap.get?_push_size _ rfl) (k4 _ fun b o e=>Heap.get?_push_of_some _ e) k5
 cases hb:byText w with
 | true =>
  simp only [Bool.not_true,Bool.false_and,Bool.false_eq_true,if_false]
  refine wpAny_bind (wpAny_pure ?_)
  exact tail _ s.heap s.drawn [] _ (fun b o e=>e) (fun b hb=>nomatch hb) (Nat.le_refl _) (fun h' k=>.text hb rfl) ((pick_perm _ _).map _)
 | false =>
  split
  ·rename_i hc
   have hd:(!t.plain && decide (es.size > 1))=true:=hc
   refine wpAny_bind (drawOrder_any es.size (List.range es.size) s (by simp) fun pl d hp=>?_)
   unfold newTuple
   refine wpAny_bind (wpAny_newObj_type ?_ ?_)
   ·refine tail _ _ d [s.heap.objs.size] _ (fun b o e=>Heap.get?_push_of_some _ e) (fun b hb=>by simp at hb; rw [hb,Heap.size_push]; exact ⟨Nat.le_refl _,Nat.lt_succ_self _⟩) (by rw [Heap.size_push]; exact Nat.le_succ _)
     (fun h' k=>.drawn hb hd (k _ _ (Heap.get?_push_size _ rfl)) rfl hp rfl) ?_
    refine (hp.map _).trans ?_
    have:(List.range es.size).map (fun k=>((es[k]?).map (·.2)).getD .none)=es.toList.map (·.2):=by
     refine List.ext_getElem (by simp) fun n h1 h2=>?_
     have hn:n < es.size:=by simpa using h1
     simp [hn]
    rw [this]
   ·have:(pl.map fun (i:Nat)=>rawInt (i:Int)).toArray.size≤sizeLine:=by
     rw [List.size_toArray,List.length_map,hp.length_eq,List.length_range]; exact size512 (by omega)
    exact this
  ·rename_i hc
   have hd:(!t.plain && decide (es.size > 1))=false:=by
    cases hx:(!t.plain && decide (es.size > 1)) with
    | false=>rfl
    | true=>exact absurd (show _=true from hx) hc
   refine wpAny_bind (wpAny_pure ?_)
   refine tail _ s.heap s.drawn [] _ (fun b o e=>e) (fun b hb=>nomatch hb) (Nat.le_refl _) (fun h' k=>.slots (sl:=0) hb hd ?_ rfl) (.refl _)
   obtain ⟨b1,b2,b3⟩:=below_spec ok.rises 0
   rcases Nat.eq_zero_or_pos (SetTable.below t.place 0) with z | z
   ·exact z
   ·have:0 < t.place.size:=by omega
    exact absurd (b2 0 z _ (Array.getElem?_eq_getElem this)) (Nat.not_lt_zero _)
end
section
variable {prog:Program} {w:World} {A:Around} {E:Value→Shared→Prop} {s:Shared} {S:Addr} {es:Array (Int×Value)} {ep:Nat} {t:SetTable}
set_option maxHeartbeats 1000000 in
theorem collect_set (hh:A.handled=none) (ok:SetOk t es) (hled:t.led=!byText w) (hS:s.heap.get? S=some (setObj es ep t)) (h3:es.size≤400) {Q:List Value→Shared→Prop}
  (q:∀ (h':Heap) d tk its,(∀ b o,s.heap.get? b=some o→h'.get? b=some o)→its.Perm (es.toList.map (·.2))→Q its { s with heap:=h',drawn:=d,toks:=tk }) :
  wpAny (model prog w) A (collect (.ref S)) Q E s:=by
 unfold collect
 refine wpAny_bind (wpAny_runValue (codeAny_builtin PySem.F.entry_proto_collect ?_))
 rw [Around.under_plainId PySem.F.plain_proto_collect _]
 have hlt:=Heap.lt_size hS
 have g0:(s.heap.push (seqObj "list" #[] 0)).get? s.heap.objs.size=some (seqObj "list" #[] 0):=Heap.get?_push_size _ rfl
 have g1:(s.heap.push (seqObj "list" #[] 0)).get? S=some (setObj es ep t):=Heap.get?_push_of_some _ hS
 show wpAny _ A.in1 (newList [] >>= fun b=>again (.builtin "list.__iadd__" ⟨[b,.ref S],[]⟩)) _ _ s
 refine wpAny_bind (wpAny_newList (wpAny_pure ⟨plainId_quiet PySem.F.plain_list_iadd _,codeAny_builtin PySem.F.entry_list_iadd ?_⟩))
 rw [Around.under_plainId PySem.F.plain_list_iadd _]
 show wpAny _ A.in1 (Builtin.List.listExtendWith (.ref s.heap.objs.size) (.ref S) (.ref s.heap.objs.size)) _ _ { s with heap:=s.heap.push (seqObj "list" #[] 0) }
 unfold Builtin.List.listExtendWith
 refine wpAny_bind (wpAny_typeOf (T:="set") ⟨_,g1,rfl⟩ ?_)
 have b1:Builtin.List.listSameRef (.ref s.heap.objs.size) (.ref S)=false:=by
  show (s.heap.objs.size == S)=false
  exact beq_eq_false_iff_ne.mpr (Ne.symm (Nat.ne_of_lt hlt))
 have b2:(Value.type "set" == Value.type "list")=false:=by decide
 have b3:(Value.type "set" == Value.type "tuple")=false:=by decide
 simp only [b1,b2,b3,Bool.or_false,Bool.false_eq_true,if_false]
 refine wpAny_bind (iter_set ok g1 h3 fun h1 d I fp first ord k1 k2 k3 k4 k5 k6 k7=>?_)
 have hlen:ord.length=es.size:=by rw [k7.length_eq,List.length_map,Array.length_toList]
 have gS:h1.get? S=some (setObj es ep t):=k1 _ _ g1
 have gL:h1.get? s.heap.objs.size=some (seqObj "list" #[] 0):=k1 _ _ g0
 have nLI:s.heap.objs.size≠I:=Nat.ne_of_lt (Nat.lt_of_lt_of_le (by rw [Heap.size_push]; exact Nat.lt_succ_self _) k2)
 have nSI:S≠I:=Nat.ne_of_lt (Nat.lt_of_lt_of_le (by rw [Heap.size_push]; exact Nat.lt_succ_of_lt hlt) k2)
 have W:=(walks_set (A:=A.in1) (ep:=ep) (S:=S) (prog:=prog) (by simp [hh]) ok hled ord hlen I fp nSI fun b hb=>(k4 b hb).2.1).toS
 have hLf:s.heap.objs.size ∉ I :: S :: fp:=by
  simp only [List.mem_cons,not_or]
  refine ⟨nLI,Ne.symm (Nat.ne_of_lt hlt),fun hb=>?_⟩
  have:=(k4 _ hb).1
  rw [Heap.size_push] at this
  exact absurd this (Nat.not_le.mpr (Nat.lt_succ_self _))
 refine wpAny_bind (wpAny_holding (hint_set ⟨_,gS,rfl⟩ ?_))
 refine wpAny_ite_split (fun _=>?_) (fun hab=>absurd (by decide +kernel) hab)
 refine wpAny_bind (wpAny_rule (wpAny_bind ?_))
 show wpAny _ A.in1 (updateSeq s.heap.objs.size (·.push .none) >>= fun _=>updateSeq s.heap.objs.size (·.pop)) _ _ _
 refine wpAny_bind (wpAny_updateSeq gL rfl ?_)
 have gL2:=Heap.get?_update_self (Obj.mapSeq (·.push Value.none)) gL rfl
 refine wpAny_updateSeq (hz:=by seq_fits) gL2 rfl ?_
 have gL3:=Heap.get?_update_self (Obj.mapSeq (·.pop)) gL2 rfl
 have oth:∀ b o,b≠s.heap.objs.size→h1.get? b=some o→((h1.update s.heap.objs.size (Obj.mapSeq (·.push Value.none))).update s.heap.objs.size (Obj.mapSeq (·.pop))).get? b=some o :=
  fun b o hb e=>(Heap.get?_update_other _ _ (Ne.symm hb)).trans ((Heap.get?_update_other _ _ (Ne.symm hb)).trans e)
 refine wpAny_pure ⟨plainId_quiet PySem.F.plain_extend_loop _,codeAny_extend_loopS W (size512 (by omega)) _ hLf _ es.size 0 _ #[] _ rfl (Nat.zero_le _) ?_ gL3 (ItemsOf.nil _) fun z acc c hm gz hacc=>?_⟩
 ·exact ⟨oth _ _ (Nat.ne_of_lt hlt) gS,first,oth _ _ (Ne.symm nLI) k5,k6.keep fun b hb o e=>oth b o (fun zz=>hLf (by simp [← zz,hb])) e⟩
 ·show wpAny _ A (load s.heap.objs.size >>= _) _ _ z
  refine wpAny_bind (wpAny_load gz (wpAny_pure ?_))
  obtain ⟨hz,gz',dz,tz,oz⟩:=z
  have e1:gz'=s.gens:=hm.gens
  have e2:dz=d:=hm.drawn
  have e3:oz=s.os:=hm.os
  subst e1; subst e2; subst e3
  refine q hz dz tz acc.toList (fun b o e=>?_) ?_
  ·have hb:b≠s.heap.objs.size:=Nat.ne_of_lt (Heap.lt_size e)
   refine hm.heap b o (fun hmem=>?_) (oth b o hb (k1 b o (Heap.get?_push_of_some _ e)))
   rcases List.mem_cons.mp hmem with z1 | z1
   ·exact hb z1
   ·have:b=I:=by simpa using z1
    rw [this] at e
    have k2':s.heap.objs.size + 1≤I:=by have:=k2; rwa [Heap.size_push] at this
    exact absurd (Nat.lt_of_lt_of_le (Heap.lt_size e) (Nat.le_trans (Nat.le_succ _) k2')) (Nat.lt_irrefl _)
  ·have:acc.toList=ord:=by
    refine List.ext_getElem? fun j=>?_
    cases hj:acc.toList[j]? with
    | none =>
     have:acc.toList.length≤j:=List.getElem?_eq_none_iff.mp hj
     rw [Array.length_toList,hacc.1] at this
     exact (List.getElem?_eq_none (by omega)).symm
    | some v=>exact (hacc.2 j v (by rw [← Array.getElem?_toList]; exact hj)).symm
   rw [this]
   exact k7
end
theorem Inv.drw {X:Cx} {pins:List (Addr×Obj)} {σ:L2.St} {H:Hp} {s:Shared} (I:Inv X pins σ H s) (d:Drawn):Inv X pins σ H { s with drawn:=d } :=
 ⟨I.ok,I.os,I.bare,I.base,I.loc,I.cell,I.free,I.freeC,I.pin,I.hok,I.len⟩
theorem mid_old1 {h:Heap} {vs:List Value} {c:Addr} {o:Obj} (e:h.get? c=some o):(midHeap (h.push (seqObj "list" vs.toArray 0)) h.objs.size vs).get? c=some o:=by
 have hc:=Heap.lt_size e
 refine Heap.get?_push_of_some _ (Heap.get?_push_of_some _ ?_)
 rw [Heap.get?_update_other _ _ (Ne.symm (Nat.ne_of_lt hc))]
 exact Heap.get?_push_of_some _ e
section
variable {X:Cx}
theorem sort_tail {pins:List (Addr×Obj)} {σ:L2.St} {H:Hp} {s:Shared} (I:Inv X pins σ H s) {A:Around} {E:Value→Shared→Prop} {its:List Value} {ys:List V} {ds:List Dt} {T:String} (rv:Vals ys its) (hlen:its.length≤sizeLine) (hD:DtsIs H ys ds)
  (hT:∀ d∈ds,∃ e r,d=.tup (e :: r)∧e.tag=T) (hL:∀ d∈ds,∀ d'∈ds,Dt.like d d'=true) (hu:∀ d∈ds,A.units + 4 + d.dp < cLine) {R:Fin→Shared→Prop}
  (q:∀ l zs es h',zs.Perm ys→DtsIs H zs es→es.Perm ds→es.Pairwise (fun d d'=>Dt.blt d' d=false)→H l=none→Inv X pins σ (upd H l (.lst zs)) { s with heap:=h' }→R (.done (.ret (.ref l))) { s with heap:=h' }) :
  wpAny (model X.prog X.w) A (do
   let l ← newList its
   let _ ← holding [l] (call (.builtin "list.sort") [l] [])
   ret l) R E s:=by
 have I6:Inv X pins σ H { s with heap:=midHeap (s.heap.push (seqObj "list" its.toArray 0)) s.heap.objs.size its }:=I.kept (t':=s.toks) fun b o e=>mid_old1 e
 refine wpAny_bind (wpAny_newList ?_)
 have hb:(s.heap.push (seqObj "list" its.toArray 0)).get? s.heap.objs.size=some (seqObj "list" its.toArray 0):=Heap.get?_push_size _ rfl
 have o:Σ' o:Ord (model X.prog X.w) A.in1 E { s with heap:=midHeap (s.heap.push (seqObj "list" its.toArray 0)) s.heap.objs.size its } (tupKind (Value.type T != Value.type "tuple")),o.all (pairsOf its)∧∀ x y,o.le x y→Dt.blt (datKey H y) (datKey H x)=false:=by
  refine ⟨ordT I6 X.prog X.w A.in1 E _ (fun d=>d∈ds) fun d d' hd hd'=>?_,fun i x ex=>?_,fun x y hxy=>hxy⟩
  ·obtain ⟨e,l,rfl,et⟩:=hT d hd
   obtain ⟨e',l',rfl,et'⟩:=hT d' hd'
   refine ⟨_,_,rfl,rfl,by simpa only [Dt.like] using hL _ hd _ hd',?_,fun hf b hb=>?_⟩
   ·have:=hu _ hd
    simp only [Dt.dp] at this
    show A.units + 1 + _ < _
    omega
   ·have:e=b:=by simpa using hb
    subst this
    cases e with
    | int _=>rfl
    | str _=>rfl
    | tup m=>rw [← et] at hf; simp [Dt.tag] at hf
  ·have hx:(pairsOf its).toList[i]?=some x:=by simpa using ex
   rw [pairsOf_toList] at hx
   obtain ⟨d,e1,e2⟩:=dts_at hD rv i x.1 (by
    rw [List.getElem?_zip_eq_some] at hx
    exact hx.1)
   exact ⟨d,e2,List.mem_of_getElem? e1⟩
 obtain ⟨o,ga,hle⟩:=o
 refine wpAny_bind (wpAny_holding (wpAny_call_entry slot_list_sort ⟨_,hb,rfl⟩ entry_list_sort (list_sort_any (s:={ s with heap:=s.heap.push (seqObj "list" its.toArray 0) }) (kd:=tupKind (Value.type T != Value.type "tuple")) hb hlen (fun h2 Q q'=>?_) o ga fun ks kp ku=>⟨_,rfl,?_⟩) (args_list_sort _)))
 ·obtain ⟨fs,k,lf,hf⟩:=katT I6 hD rv hT
  refine PySem.W.kat_kind (T:=.type T) k (by omega) (fun v hv=>?_) (by simp) q'
  obtain ⟨e,he,et⟩:=hf v hv
  exact et ▸ looks_D I6 he
 ·refine wpAny_pure ?_
  have kl:ks.toList.Perm (its.zip its):=by rw [← pairsOf_toList]; exact Array.perm_iff_toList_perm.mp kp
  have k2:((ks.map (·.2)).toList).Perm its:=by
   rw [Array.toList_map]
   have:=kl.map (·.2)
   rwa [List.map_snd_zip (by omega)] at this
  have k12:∀ x∈ks.toList,x.1=x.2:=fun x hx=>by
   have:=kl.mem_iff.mp hx
   obtain ⟨i,e⟩:=List.mem_iff_getElem?.mp this
   rw [List.getElem?_zip_eq_some] at e
   exact Option.some.inj (e.1.symm.trans e.2)
  obtain ⟨zs,vz,pz⟩:=vals_perm k2.symm rv
  obtain ⟨es,de,pe⟩:=dts_perm pz hD
  refine q s.heap.objs.size zs es _ pz.symm de pe.symm ?_ (I.hok.fresh (Nat.le_refl _)) (I.laid (t':=s.toks) (fun b o e=>?_) (Nat.le_refl _) ?_)
  ·have ku':=ku.imp fun {x y} z=>hle x y z
   rw [List.pairwise_iff_getElem] at ku' ⊢
   intro i j hi hj hij
   have lks:ks.toList.length=es.length:=by
    rw [kl.length_eq,List.length_zip,← de.length,← pz.length_eq,rv.length,Nat.min_self]
   have z:=ku' i j (by omega) (by omega) hij
   have key:∀ (i:Nat) (h1:i < ks.toList.length) (h2:i < es.length),datKey H ks.toList[i]=es[i]:=fun i h1 h2=>by
    have e0:((ks.map (·.2)).toList)[i]?=some ks.toList[i].2:=by
     rw [Array.toList_map,List.getElem?_map,List.getElem?_eq_getElem h1]; rfl
    obtain ⟨d,e1,e2⟩:=dts_at de vz i _ e0
    rw [List.getElem?_eq_getElem h2] at e1
    cases e1
    refine datKey_eq ?_
    rw [k12 _ (List.getElem_mem h1)]
    exact e2
   rw [key i (by omega) hi,key j (by omega) hj] at z
   exact z
  ·have hlt:=Heap.lt_size e
   rw [sortedHeap_old (Nat.ne_of_lt hlt) (by rw [Heap.size_push]; exact Nat.lt_succ_of_lt hlt)]
   exact Heap.get?_push_of_some _ e
  ·obtain ⟨n,e⟩:=sortedHeap_at (out:=ks.map (·.2)) hb
   refine ⟨by rw [← pz.length_eq,rv.length]; exact hlen,(ks.map (·.2)).toList,n,vz,?_⟩
   rw [e]
theorem pick_dts {H:Hp} {us:List Value} {ys:List V} {ds:List Dt} (hD:DtsIs H ys ds) (rv:Vals ys us):∀ its:List Value,(∀ u∈its,u∈us)→∃ zs es,Vals zs its∧DtsIs H zs es
 | [],_=>⟨[],[],.nil,.nil⟩
 | u :: its,h=>by
  obtain ⟨zs,es,a,b⟩:=pick_dts hD rv its fun x hx=>h x (List.mem_cons_of_mem _ hx)
  obtain ⟨i,ei⟩:=List.mem_iff_getElem?.mp (h u List.mem_cons_self)
  obtain ⟨d,_,v,r,q⟩:=dts_at hD rv i u ei
  exact ⟨v :: zs,d :: es,.cons r a,.cons q b⟩
def rSortSet (X:Cx):List V→Hp→VK→Prop:=fun xs H Q=>∃ a ys ds T,xs=[.ref a]∧SqL X.K H a ys∧DtsIs H ys ds∧ys.length < 306∧(∀ d∈ds,∃ e r,d=.tup (e :: r)∧e.tag=T) ∧
 (∀ d∈ds,∀ d'∈ds,Dt.like d d'=true)∧(∀ d∈ds,d.dp≤8) ∧
 ∀ l zs es,H l=none→DtsIs H zs es→es.Nodup→(∀ d,d∈es↔d∈ds)→es.Pairwise (fun d d'=>Dt.blt d' d=false)→zs.length≤ys.length→Q (.ref l) (upd H l (.lst zs))
set_option maxHeartbeats 1000000 in
theorem pe_sortSet {e:Expr} {t:TA} {p p' pos pos':Pos} {k:Nat} (hr:Room k X.A) (hg:Gl X "sorted") (hm:X.mg "sorted"=none) (hg':Gl X "set") (hm':X.mg "set"=none) (ha:PA X [e] t)
  (he:starEach [e] X.env=(false,eval e X.env) :: starEach [] X.env:=by first | exact se_name | exact se_call | exact se_list | exact se_comp | exact se_bin | rfl) :
  PE X (.Call (.Name "sorted" p) [.Call (.Name "set" p') [e] [] pos'] [] pos) (tCB (rSortSet X) t):=by
 intro pins s σ H Q I h
 have hu:=hr.units
 refine wpAny_Call_Name_kw (ld_blt I hg hm boot_sorted ?_)
 refine PyProof.Rows.callWith_builtin1 ?_ se_call rfl
 show wpAny _ _ (spliced ((false,eval (.Call (.Name "set" p') [e] [] pos') X.env) :: backTo pos (starEach [] X.env))) _ _ s
 refine Calls.spliced_cons ?_
 refine wpAny_Call_Name_kw (ld_blt I hg' hm' boot_set ?_)
 refine PyProof.Rows.callWith_type1 (thn (ha pos' pins s σ H _ I h) fun us s1 ⟨vs,H1,I1,r1,q1⟩=>?_) he rfl
 obtain ⟨a,ys,ds,T,rfl,hS,hD,hn,hT,hL,h8,q⟩:=q1
 obtain ⟨u,rfl,r2⟩:=vals1 r1
 cases r2
 obtain ⟨its,rv,pl,hz⟩:=I1.list hS
 have hd0:=datHs_of I1 hD rv
 have tup:∀ d∈ds,∃ l,d=.tup l∧d.dp≤8:=fun d hd=>by
  obtain ⟨e',r',rfl,_⟩:=hT d hd
  exact ⟨_,rfl,h8 _ hd⟩
 refine call_set_D hr.hd pl.isList (by rw [List.toList_toArray]; exact hd0) (by rw [List.size_toArray,← rv.length]; exact hn) tup (by omega) fun h' tk es ep tb dl hset old hlt=>?_
 refine Calls.spliced_nil ?_
 have I2:Inv X pins σ H1 { s1 with heap:=h',toks:=tk }:=I1.kept old
 have esn:es.size≤its.length:=by
  have h1:es.size=dl.length:=by rw [← hset.dat.length,List.length_map,Array.length_toList]
  have h2:dl.length≤ds.length:=List.Nodup.length_le_of_subset hset.nodup fun x hx=>(hset.mem x).mp hx
  rw [h1,rv.length.symm,hD.length]; exact h2
 have es3:es.size≤400:=by rw [← rv.length] at esn; omega
 show wpAny (model X.prog X.w) X.A (call (.builtin "sorted") [.ref s1.heap.objs.size]) _ _ { s1 with heap:=h',toks:=tk }
 refine Calls.call_function_entry kind_sorted plain_sorted entry_sorted (args_sorted1 _) ?_
 unfold Builtin.«sorted»
 refine wpAny_bind (m:=checkCount "sorted" 1 1 _) (wpAny_pure (wpAny_bind (collect_set (A:=X.A.in1) (s:={ s1 with heap:=h',toks:=tk }) (show X.A.in1.handled=none from hr.hd) hset.ok hset.led hset.get es3 fun h2 d tk2 jts k2 pj=>?_)))
 have I3:Inv X pins σ H1 { s1 with heap:=h2,drawn:=d,toks:=tk2 }:=Inv.drw (I2.kept (t':=tk2) k2) d
 have sub:∀ u∈jts,u∈its:=fun u hu'=>by
  obtain ⟨e',he',rfl⟩:=List.mem_map.mp (pj.mem_iff.mp hu')
  have:=hset.sub e' he'
  simpa using this
 obtain ⟨zs,es',vz,dz⟩:=pick_dts hD rv jts sub
 obtain ⟨dj,dj1,dj2⟩:=datHs_perm pj.symm (hset.dat.keep fun b o e'=>k2 b o (old b o e'))
 have edj:es'=dj:=DatHs.inj (datHs_of I3 dz vz) dj1
 subst edj
 have mem':∀ d',d'∈es'↔d'∈ds:=fun d'=>by rw [← dj2.mem_iff]; exact hset.mem d'
 have lenj:jts.length≤its.length:=by rw [pj.length_eq,List.length_map,Array.length_toList]; exact esn
 refine sort_tail I3 vz ?_ dz (fun d' hd'=>hT d' ((mem' d').mp hd')) (fun d1 h1 d2 h2'=>hL d1 ((mem' d1).mp h1) d2 ((mem' d2).mp h2')) (fun d' hd'=>?_) fun l zz ez h3 pz dzz pe srt hl J=>?_
 ·exact Nat.le_trans lenj (by rw [← rv.length]; exact hz)
 ·have:=h8 d' ((mem' d').mp hd')
  show X.A.units + 1 + 4 + _ < _
  omega
 ·refine ⟨_,rfl,.ref l,upd H1 l (.lst zz),J,rfl,q l zz ez hl dzz ?_ (fun d'=>by rw [pe.mem_iff]; exact mem' d') srt ?_⟩
  ·exact pe.nodup_iff.mpr (dj2.nodup_iff.mp hset.nodup)
  ·rw [pz.length_eq,vz.length,rv.length]; exact lenj
end
theorem dps_le:∀ {ds:List Dt} {n:Nat},(∀ d∈ds,d.dp≤n)→Dt.dps ds≤n
 | [],n,_=>by simp [Dt.dps]
 | d :: ds,n,h=>by
  simp only [Dt.dps]
  have:=h d List.mem_cons_self
  have:=dps_le (ds:=ds) fun x hx=>h x (List.mem_cons_of_mem _ hx)
  omega
section
variable {X:Cx}
theorem op_eqL {k:Nat} (hr:Room k X.A):OpR X (compareOp .Eq) (fun x y H Q=>∃ a b xs ys ds es,x=.ref a∧y=.ref b∧SqL X.K H a xs∧SqL X.K H b ys∧DtsIs H xs ds∧DtsIs H ys es∧(∀ d∈ds,d.dp≤50)∧Q (.bl (Dt.beqs ds es)) H):=by
 intro pins s σ H x y v u Q I rx ry h
 obtain ⟨a,b,xs,ys,ds,es,rfl,rfl,hx,hy,hd,he,h5,q⟩:=h
 have hu:=hr.units
 have h5':=dps_le h5
 cases rx
 cases ry
 obtain ⟨its,rv,p,_⟩:=I.list hx
 obtain ⟨its',rv',p',_⟩:=I.list hy
 have n1:its.toArray.size=ds.length:=by rw [List.size_toArray,← rv.length,hd.length]
 have n2:its'.toArray.size=es.length:=by rw [List.size_toArray,← rv'.length,he.length]
 have fin:∀ c,c=Dt.beqs ds es→RcAt X.A s (.ref a) (.ref b) c→wpAny (model X.prog X.w) X.A (richCompare .Eq (.ref a) (.ref b)) (EP X pins σ Q) X.xe s:=fun c hc R=>by
  subst hc
  exact R X.prog X.w X.xe _ ⟨.bl _,H,I,rfl,q⟩
 by_cases hl:ds.length=es.length
 ·have R:=RcAt.lists (A:=X.A) (s:=s) (e:=itEq ds es) p.isList p'.isList (by rw [n1,n2,hl]) (by omega) (fun j j1 j2=>eqsAt_D I X.A.in1 hd rv he rv' (by show X.A.units + 1 + _ < _; omega) j _ _ (by simp) (by simp))
  refine fin _ ?_ R
  rw [n1,← all_itEq,hl,Nat.min_self]
  simp
 ·refine fin false ?_ (RcAt.lists_lengths p.isList p'.isList (by rw [n1,n2]; simpa using hl) (by omega))
  rw [← all_itEq]
  simp [hl]
theorem op_neL {k:Nat} (hr:Room k X.A):OpR X (compareOp .NotEq) (fun x y H Q=>∃ a b xs ys ds es,x=.ref a∧y=.ref b∧SqL X.K H a xs∧SqL X.K H b ys∧DtsIs H xs ds∧DtsIs H ys es∧(∀ d∈ds,d.dp≤50)∧Q (.bl (!Dt.beqs ds es)) H):=by
 intro pins s σ H x y v u Q I rx ry h
 obtain ⟨a,b,xs,ys,ds,es,rfl,rfl,hx,hy,hd,he,h5,q⟩:=h
 have hu:=hr.units
 have h5':=dps_le h5
 cases rx
 cases ry
 obtain ⟨its,rv,p,_⟩:=I.list hx
 obtain ⟨its',rv',p',_⟩:=I.list hy
 have n1:its.toArray.size=ds.length:=by rw [List.size_toArray,← rv.length,hd.length]
 have n2:its'.toArray.size=es.length:=by rw [List.size_toArray,← rv'.length,he.length]
 have fin:∀ c,c=(!Dt.beqs ds es)→RcNeAt X.A s (.ref a) (.ref b) c→wpAny (model X.prog X.w) X.A (richCompare .NotEq (.ref a) (.ref b)) (EP X pins σ Q) X.xe s:=fun c hc R=>by
  subst hc
  exact R X.prog X.w X.xe _ ⟨.bl _,H,I,rfl,q⟩
 by_cases hl:ds.length=es.length
 ·have R:=RcNeAt.lists (A:=X.A) (s:=s) (e:=itEq ds es) p.isList p'.isList (by rw [n1,n2,hl]) (by omega) (fun j j1 j2=>eqsAt_D I X.A.in1 hd rv he rv' (by show X.A.units + 1 + _ < _; omega) j _ _ (by simp) (by simp))
  refine fin _ ?_ R
  rw [n1,← all_itEq,hl,Nat.min_self]
  simp
 ·refine fin true ?_ (RcNeAt.lists_lengths p.isList p'.isList (by rw [n1,n2]; simpa using hl) (by omega))
  rw [← all_itEq]
  simp [hl]
end
theorem Dt.beqs_self (l:List Dt):Dt.beqs l l=true:=(Dt.beqs_iff l l).mpr rfl
structure Pl where
 p:Int×Int
 q:Int×Int
 c:Str
def hD (p:Int×Int):Dt:=.tup [.int p.1,.int p.2]
def lD (a:Pl):Dt:=.tup [hD a.p,hD a.q]
def pD (a:Pl):Dt:=.tup [lD a,.str a.c]
def hLt (p q:Int×Int):Bool:=HT.lexLt [p.1,p.2] [q.1,q.2]
def Pl.ok (a:Pl):Prop:=hLt a.q a.p=false
theorem hLt_iff (p q:Int×Int):hLt p q=true↔p.1 < q.1∨(p.1=q.1∧p.2 < q.2):=by
 unfold hLt
 rw [lex2]
 simp
theorem hLt_same {p q:Int×Int} (h1:hLt p q=false) (h2:hLt q p=false):p=q:=by
 have a:¬ (p.1 < q.1∨(p.1=q.1∧p.2 < q.2)):=fun z=>by rw [(hLt_iff p q).mpr z] at h1; cases h1
 have b:¬ (q.1 < p.1∨(q.1=p.1∧q.2 < p.2)):=fun z=>by rw [(hLt_iff q p).mpr z] at h2; cases h2
 obtain ⟨x,y⟩:=p
 obtain ⟨z,w⟩:=q
 simp only at a b
 have e1:x=z:=by omega
 have e2:y=w:=by omega
 rw [e1,e2]
def turnP (k:Nat) (a:Pl):Pl:=if hLt (turnN k a.p) (turnN k a.q)=true then ⟨turnN k a.p,turnN k a.q,a.c⟩ else ⟨turnN k a.q,turnN k a.p,a.c⟩
theorem turnP_zero {a:Pl} (h:a.ok):turnP 0 a=a:=by
 have e:∀ p,turnN 0 p=p:=fun p=>by rw [turn_tab (by decide)]; rfl
 unfold turnP
 rw [e,e]
 cases hl:hLt a.p a.q with
 | true=>rfl
 | false =>
  have:=hLt_same hl h
  obtain ⟨p,q,c⟩:=a
  simp at this
  subst this
  rfl
theorem pD_dp (a:Pl):(pD a).dp=3:=by simp [pD,lD,hD,Dt.dp,Dt.dps]
theorem pD_like (a b:Pl):Dt.like (pD a) (pD b)=true:=by simp [pD,lD,hD,Dt.like,Dt.likes]
theorem pD_inj {a b:Pl} (h:pD a=pD b):a=b:=by
 obtain ⟨⟨p1,p2⟩,⟨q1,q2⟩,c⟩:=a
 obtain ⟨⟨p1',p2'⟩,⟨q1',q2'⟩,c'⟩:=b
 simp [pD,lD,hD] at h
 obtain ⟨⟨⟨rfl,rfl⟩,rfl,rfl⟩,rfl⟩:=h
 rfl
theorem rise_eq:∀ {l m:List Dt},l.Perm m→l.Pairwise (fun d d'=>Dt.blt d' d=false)→m.Pairwise (fun d d'=>Dt.blt d' d=false)→l=m
 | [],m,p,_,_=>(List.nil_perm.mp p).symm
 | a :: l,[],p,_,_=>(List.perm_nil.mp p)
 | a :: l,b :: m,p,h1,h2=>by
  rw [List.pairwise_cons] at h1 h2
  have e:a=b:=by
   rcases List.mem_cons.mp (p.mem_iff.mp (List.mem_cons_self (a:=a) (l:=l))) with z | z
   ·exact z
   ·rcases List.mem_cons.mp (p.mem_iff.mpr (List.mem_cons_self (a:=b) (l:=m))) with y | y
    ·exact y.symm
    ·exact Dt.tot a b (h2.1 a z) (h1.1 b y)
  subst e
  rw [rise_eq ((List.perm_cons a).mp p) h1.2 h2.2]
theorem as_pics {es:List Dt} {G:Pl→Prop} (h:∀ d∈es,∃ a,d=pD a∧G a):∃ ps:List Pl,es=ps.map pD∧∀ a∈ps,G a:=by
 induction es with
 | nil=>exact ⟨[],rfl,fun _ h=>nomatch h⟩
 | cons d es ih =>
  obtain ⟨ps,e,g⟩:=ih fun d hd=>h d (List.mem_cons_of_mem _ hd)
  obtain ⟨a,rfl,ga⟩:=h d List.mem_cons_self
  refine ⟨a :: ps,by rw [e]; rfl,fun b hb=>?_⟩
  rcases List.mem_cons.mp hb with rfl | hb
  ·exact ga
  ·exact g b hb
mutual
theorem DtIs.updL {H:Hp} {a:Addr} {xs:List V} {o:HO} (ha:H a=some (.lst xs)):∀ {d:Dt} {v:V},DtIs H v d→DtIs (upd H a o) v d
 | .int i,_,.int _=>.int i
 | .str x,_,.str _=>.str x
 | .tup ds,_,.tup (a:=b) e q=>.tup (by
   have:b≠a:=fun z=>by rw [z,ha] at e; cases e
   rw [upd_ne this]; exact e) (DtsIs.updL ha q)
theorem DtsIs.updL {H:Hp} {a:Addr} {xs:List V} {o:HO} (ha:H a=some (.lst xs)):∀ {ds:List Dt} {vs:List V},DtsIs H vs ds→DtsIs (upd H a o) vs ds
 | [],_,.nil=>.nil
 | d :: ds,_,.cons q t=>.cons (DtIs.updL ha q) (DtsIs.updL ha t)
end
end BF
namespace BF
open PySem PySem.Spec PyProof.Rows L2
theorem laterS {G:Prop} {A:L2.St→Hp→Prop} (C:L2.St→Hp→Prop) (main:(∀ σ H',C σ H'→A σ H')→G) (last:∀ σ H',C σ H'→A σ H'):G:=main last
theorem ifC {c:Bool} {A B:Prop} (a:c=true→A) (b:c=false→B):if c=true then A else B:=by
 cases c with
 | true=>exact a rfl
 | false=>exact b rfl
theorem abc26:("abcdefghijklmnopqrstuvwxyz":Str).cps.toList.length=26:=by decide +kernel
theorem abc_sz:("abcdefghijklmnopqrstuvwxyz":Str).length≤sizeLine:=sz (by rw [len_cps,abc26]; decide)
theorem same_updN {H H2:Hp} {L:Addr} {o:HO} (s:Same H H2) (n:H L=none):Same H (upd H2 L o):=fun b u e=>by
 rw [upd_ne (fun z=>by rw [z,n] at e; cases e)]
 exact s b u e
theorem DtsIs.snoc {H:Hp} {v:V} {d:Dt} (q:DtIs H v d):∀ {ds:List Dt} {vs:List V},DtsIs H vs ds→DtsIs H (vs ++ [v]) (ds ++ [d])
 | [],_,.nil=>.cons q .nil
 | _ :: _,_,.cons a t=>.cons a (DtsIs.snoc q t)
def Pic (H:Hp) (l:Addr) (ps:List Pl):Prop:=∃ xs,H l=some (.lst xs)∧DtsIs H xs (ps.map pD)
theorem Pic.same {H H':Hp} {l:Addr} {ps:List Pl} (h:Pic H l ps) (s:Same H H'):Pic H' l ps:=by
 obtain ⟨xs,a,b⟩:=h
 exact ⟨xs,s _ _ a,b.same s⟩
def Rise (ps:List Pl):Prop:=(ps.map pD).Pairwise (fun d d'=>Dt.blt d' d=false)
theorem pics_tup (ps:List Pl):∀ d∈ps.map pD,∃ e r,d=.tup (e :: r)∧e.tag="tuple":=fun d hd=>by
 obtain ⟨a,_,rfl⟩:=List.mem_map.mp hd
 exact ⟨_,_,rfl,rfl⟩
theorem pics_like (ps:List Pl):∀ d∈ps.map pD,∀ d'∈ps.map pD,Dt.like d d'=true:=fun d hd d' hd'=>by
 obtain ⟨a,_,rfl⟩:=List.mem_map.mp hd
 obtain ⟨b,_,rfl⟩:=List.mem_map.mp hd'
 exact pD_like a b
theorem pics_dp (ps:List Pl):∀ d∈ps.map pD,d.dp≤3:=fun d hd=>by
 obtain ⟨a,_,rfl⟩:=List.mem_map.mp hd
 rw [pD_dp]
 exact Nat.le_refl _
def ordP (p q:Int×Int):(Int×Int)×(Int×Int):=if hLt p q=true then (p,q) else (q,p)
theorem turnP_line (k:Nat) (a:Pl):lD (turnP k a)=.tup [hD (ordP (turnN k a.p) (turnN k a.q)).1,hD (ordP (turnN k a.p) (turnN k a.q)).2]:=by
 unfold turnP ordP
 split <;> rfl
theorem hD_two {H:Hp} {x:Addr} {p:Int×Int} (h:DtIs H (.ref x) (hD p)):two H x p:=by
 cases h with
 | tup e q =>
  cases q with
  | cons a b =>
   cases a
   cases b with
   | cons c d =>
    cases c
    cases d
    exact e
theorem line_two {H:Hp} {r:Addr} {a:Pl} (h:DtIs H (.ref r) (lD a)):∃ x y,H r=some (.tup [.ref x,.ref y])∧two H x a.p∧two H y a.q:=by
 cases h with
 | tup e q =>
  cases q with
  | @cons v1 _ _ _ h1 t =>
   cases t with
   | @cons v2 _ _ _ h2 t2 =>
    cases t2
    have z1:=h1
    have z2:=h2
    cases z1 with
    | tup _ _ =>
     cases z2 with
     | tup _ _=>exact ⟨_,_,e,hD_two h1,hD_two h2⟩
theorem pic_at {H:Hp} {v:V} {a:Pl} (h:DtIs H v (pD a)):∃ r x,v=.ref r∧H r=some (.tup [.ref x,.str a.c])∧DtIs H (.ref x) (lD a):=by
 cases h with
 | tup e q =>
  cases q with
  | @cons v1 _ _ _ h1 t =>
   cases t with
   | @cons v2 _ _ _ h2 t2 =>
    cases t2
    cases h2
    have z1:=h1
    cases z1 with
    | tup _ _=>exact ⟨_,_,rfl,e,h1⟩
theorem DtsIs.at {H:Hp}:∀ {ds:List Dt} {vs:List V},DtsIs H vs ds→∀ (i:Nat) (v:V),vs[i]?=some v→∃ d,ds[i]?=some d∧DtIs H v d
 | [],_,.nil,i,v,e=>by simp at e
 | d :: ds,_,.cons q t,0,v,e=>by simp at e; subst e; exact ⟨d,rfl,q⟩
 | d :: ds,_,.cons q t,i + 1,v,e=>by
  simp at e
  obtain ⟨d',a,b⟩:=DtsIs.at t i v e
  exact ⟨d',by simpa using a,b⟩
theorem none_same {H H':Hp} {l:Addr} (s:Same H H') (n:H' l=none):H l=none:=by
 cases h:H l with
 | none=>rfl
 | some u=>rw [s _ _ h] at n; cases n
theorem min_max {H:Hp} {x y:Addr} {p q:Int×Int} (hx:two H x p) (hy:two H y q) :
  DtIs H (if hLt q p=true then V.ref y else .ref x) (hD (ordP p q).1)∧DtIs H (if hLt p q=true then V.ref y else .ref x) (hD (ordP p q).2):=by
 unfold ordP
 cases h1:hLt p q with
 | true =>
  have h2:hLt q p=false:=lex_asy h1
  rw [h2]
  exact ⟨two_dt hx,two_dt hy⟩
 | false =>
  cases h2:hLt q p with
  | true=>exact ⟨two_dt hy,two_dt hx⟩
  | false =>
   have:=hLt_same h1 h2
   subst this
   exact ⟨two_dt hx,two_dt hx⟩
theorem eqv_two {p q:Int×Int}:hD p=hD q↔p=q:=by
 obtain ⟨a,b⟩:=p
 obtain ⟨c,d⟩:=q
 simp [hD]
def behN (a b:Nat):Nat:=((if 4≤b then (b:Int) - a else (b:Int) + a) % 4).toNat + (if decide (4≤a)=decide (4≤b) then 0 else 4)
theorem behN_lt (a b:Nat):behN a b < 8:=by
 unfold behN
 have:((if 4≤b then (b:Int) - a else (b:Int) + a) % 4).toNat < 4:=by
  generalize (if 4≤b then (b:Int) - a else (b:Int) + a)=z
  omega
 have h2:(if decide (4≤a)=decide (4≤b) then 0 else 4)≤4:=by split <;> omega
 omega
theorem beh_turn {a b:Nat} (ha:a < 8) (hb:b < 8) (p:Int×Int):turnN (behN a b) p=turnN b (turnN a p):=by
 rw [turn_tab (behN_lt a b),turn_tab hb,turn_tab ha]
 obtain ⟨x,y⟩:=p
 have ha':a=0∨a=1∨a=2∨a=3∨a=4∨a=5∨a=6∨a=7:=by omega
 have hb':b=0∨b=1∨b=2∨b=3∨b=4∨b=5∨b=6∨b=7:=by omega
 rcases ha' with rfl | rfl | rfl | rfl | rfl | rfl | rfl | rfl <;> rcases hb' with rfl | rfl | rfl | rfl | rfl | rfl | rfl | rfl <;> simp [behN,tabN]
theorem ordP_comm (p q:Int×Int):ordP p q=ordP q p:=by
 unfold ordP
 cases h1:hLt p q with
 | true =>
  have h2:hLt q p=false:=lex_asy h1
  rw [h2]
  rfl
 | false =>
  cases h2:hLt q p with
  | true=>rfl
  | false=>rw [hLt_same h1 h2]
theorem turnP_ord (k:Nat) (a:Pl):turnP k a=⟨(ordP (turnN k a.p) (turnN k a.q)).1,(ordP (turnN k a.p) (turnN k a.q)).2,a.c⟩:=by
 unfold turnP ordP
 split <;> rfl
theorem turnP_beh {a b:Nat} (ha:a < 8) (hb:b < 8) (x:Pl):turnP (behN a b) x=turnP b (turnP a x):=by
 rw [turnP_ord,turnP_ord b,turnP_ord a,beh_turn ha hb,beh_turn ha hb]
 have key:ordP (turnN b (ordP (turnN a x.p) (turnN a x.q)).1) (turnN b (ordP (turnN a x.p) (turnN a x.q)).2)=ordP (turnN b (turnN a x.p)) (turnN b (turnN a x.q)):=by
  generalize turnN a x.p=p
  generalize turnN a x.q=q
  have:ordP p q=(p,q)∨ordP p q=(q,p):=by
   unfold ordP
   split
   ·exact .inl rfl
   ·exact .inr rfl
  rcases this with e | e
  ·rw [e]
  ·rw [e]; exact ordP_comm _ _
 rw [key]
def unD:Dt→Pl
 | .tup [.tup [.tup [.int a,.int b],.tup [.int c,.int d]],.str s]=>⟨(a,b),(c,d),s⟩
 | _=>⟨(0,0),(0,0),""⟩
theorem perm_pics {l m:List Pl} (h:(l.map pD).Perm (m.map pD)):l.Perm m:=by
 have:=h.map unD
 rw [List.map_map,List.map_map] at this
 have e:∀ l:List Pl,l.map (unD ∘ pD)=l:=fun l=>by
  induction l with
  | nil=>rfl
  | cons a l ih=>rw [List.map_cons,ih]; rfl
 rwa [e,e] at this
def BestOk (ns:List Int) (j:Nat) (best:Option Int):Prop:=match best with
 | none=>j=0
 | some m=>m∈ns.take j∧∀ x∈ns.take j,m≤x
def bestArr (best:Option Int) (t:Tok):Array Value:=match best with
 | none=>#[]
 | some m=>#[.int m t,.int m t]
theorem best_sz (b:Option Int) (t:Tok):(bestArr b t).size≤sizeLine:=by
 cases b with
 | none=>exact size512 (by show 0≤512; decide)
 | some m=>exact size512 (by show 2≤512; decide)
theorem best_step {ns:List Int} {j:Nat} {best:Option Int} {x:Int} (h:BestOk ns j best) (e:ns[j]?=some x) :
  BestOk ns (j + 1) (some (match best with | none=>x | some m=>if x < m then x else m)):=by
 have tk:ns.take (j + 1)=ns.take j ++ [x]:=by rw [List.take_succ,e]; rfl
 unfold BestOk
 rw [tk]
 cases best with
 | none =>
  have:j=0:=h
  subst this
  simp
 | some m =>
  obtain ⟨h1,h2⟩:=h
  dsimp only
  by_cases hx:x < m
  ·rw [if_pos hx]
   refine ⟨by simp,fun y hy=>?_⟩
   rcases List.mem_append.mp hy with hy | hy
   ·have:=h2 y hy; omega
   ·rw [List.mem_singleton] at hy; omega
  ·rw [if_neg hx]
   refine ⟨by simp [h1],fun y hy=>?_⟩
   rcases List.mem_append.mp hy with hy | hy
   ·exact h2 y hy
   ·rw [List.mem_singleton] at hy; omega
section
variable {prog:Program} {w:World} {A:Around} {R:Result→Shared→Prop} {I:Addr} {fp wr:List Addr} {n:Nat} {P:Nat→Value→Prop} {St:Nat→Heap→Prop}
theorem minLoop (W:Walks prog w A.in1 I fp wr n P St) (ns:List Int) (hn:ns.length=n) (hP:∀ i v,P i v→∃ t,v=.int (ns.getD i 0) t) (S:Addr) (hSf:S ∉ fp) (kw:List (Str×Value)) :
  ∀ (k j:Nat) (s:Shared) (best:Option Int) (t:Tok) (c:Nat),n - j=k→j≤n→St j s.heap→BestOk ns j best→s.heap.get? S=some { cls:=.type "list",dict:=none,data:=.seq (bestArr best t) c,slots:=#[] } →
  (∀ m t h' tk,m∈ns→(∀ x∈ns,m≤x)→(∀ b o,b ∉ wr→b≠S→s.heap.get? b=some o→h'.get? b=some o)→R (.ok (.ret (.int m t))) { s with heap:=h',toks:=tk }) →
  (ns=[]→∃ nm d rest,kw=(nm,d) :: rest∧∀ h' tk,(∀ b o,b ∉ wr→b≠S→s.heap.get? b=some o→h'.get? b=some o)→R (.ok (.ret d)) { s with heap:=h',toks:=tk }) →
  codeAny (model prog w) A (.builtin "min.loop" ⟨[.ref I,.none,.ref S],kw⟩) R s:=by
 have hSw:S ∉ wr:=fun h=>hSf (W.sub _ h)
 have nm:(toString "min" ++ toString ".loop":String)="min.loop":=by decide
 intro k
 induction k with
 | zero =>
  intro j s best t c hk hj st hb hS q1 q2
  have hjn:j=n:=by omega
  subst hjn
  refine codeAny_builtin PySem.F.entry_min_loop ?_
  rw [Around.under_plainId PySem.F.plain_min_loop _]
  refine (show wpAny _ A.in1 (seqItems? (.ref S) >>= _) _ _ s from wpAny_bind (wpAny_seqItems hS rfl ?_))
  refine (show wpAny _ A.in1 (tryCatch (pyNext (.ref I)) _ >>= _) _ _ s from wpAny_bind (wpAny_tryCatch (W.done s _ _ st fun h' tk kp=>?_)))
  have hS':=kp S _ hSw hS
  cases best with
  | none =>
   have hj0:j=0:=hb
   have hn0:ns=[]:=List.length_eq_zero_iff.mp (by omega)
   obtain ⟨a,d,rest,rfl,q⟩:=q2 hn0
   show wpAny _ A.in1 (rule _ >>= fun _=>ret d) _ _ _
   exact wpAny_bind (wpAny_rule (wpAny_pure (q h' tk fun b o hbw hbS e=>kp b o hbw e)))
  | some m =>
   obtain ⟨h1,h2⟩:=hb
   rw [List.take_of_length_le (by omega)] at h1 h2
   refine (show wpAny _ A.in1 (updateSeq S (fun _=>#[]) >>= _) _ _ _ from wpAny_bind (wpAny_updateSeq (hz:=best_sz _ _) hS' rfl (wpAny_bind (wpAny_letGo (wpAny_pure ?_)))))
   exact q1 m t _ tk h1 h2 fun b o hbw hbS e=>(Heap.get?_update_other _ _ (Ne.symm hbS)).trans (kp b o hbw e)
 | succ k ih =>
  intro j s best t c hk hj st hb hS q1 q2
  have hlt:j < n:=by omega
  have hne:ns≠[]:=fun z=>by rw [z] at hn; simp at hn; omega
  refine codeAny_builtin PySem.F.entry_min_loop ?_
  rw [Around.under_plainId PySem.F.plain_min_loop _]
  refine (show wpAny _ A.in1 (seqItems? (.ref S) >>= _) _ _ s from wpAny_bind (wpAny_seqItems hS rfl ?_))
  refine (show wpAny _ A.in1 (tryCatch (pyNext (.ref I)) _ >>= _) _ _ s from wpAny_bind (wpAny_tryCatch (W.item j s _ _ hlt st fun v h' tk pv st' kp=>?_)))
  have hS':=kp S _ hSw hS
  obtain ⟨tv,rfl⟩:=hP j v pv
  have ex:ns[j]?=some (ns.getD j 0):=by
   have:j < ns.length:=by omega
   rw [List.getElem?_eq_getElem this,List.getD_eq_getElem?_getD,List.getElem?_eq_getElem this]; rfl
  have nb:=best_step hb ex
  have wr':∀ (arr:Array Value),St (j + 1) (h'.update S (Obj.mapSeq fun _=>arr)):=fun arr=>W.frame _ _ _ st' fun b hbf o e=>(Heap.get?_update_other _ _ (fun z:S=b=>hSf (by rw [z]; exact hbf))).trans e
  cases best with
  | none =>
   refine (show wpAny _ A.in1 (updateSeq S (fun _=>#[.int (ns.getD j 0) tv,.int (ns.getD j 0) tv]) >>= _) _ _ _ from wpAny_bind (wpAny_updateSeq (hz:=best_sz _ _) hS' rfl ?_))
   rw [nm]
   refine wpAny_pure ⟨plainId_quiet PySem.F.plain_min_loop _,ih (j + 1) _ (some (ns.getD j 0)) tv _ (by omega) hlt (wr' _) nb (Heap.get?_update_self _ hS' rfl) (fun m t h2 tk2 m1 m2 kp2=>?_) (fun z=>absurd z hne)⟩
   exact q1 m t h2 tk2 m1 m2 fun b o hbw hbS e=>kp2 b o hbw hbS ((Heap.get?_update_other _ _ (Ne.symm hbS)).trans (kp b o hbw e))
  | some m0 =>
   refine (show wpAny _ A.in1 (tryCatch (holding [.int (ns.getD j 0) tv,.int (ns.getD j 0) tv] (richCompare .Lt (.int (ns.getD j 0) tv) (.int m0 t) >>= _)) _ >>= _) _ _ _ from wpAny_bind (wpAny_tryCatch (wpAny_holding (wpAny_bind ?_))))
   refine (show wpAny _ _ (compareOp .Lt (.int (ns.getD j 0) tv) (.int m0 t)) _ _ _ from lt_int ?_)
   refine wpAny_bind (wpAny_holding (wpAny_truthy_bool (wpAny_bind (wpAny_letGo (wpAny_pure ?_)))))
   by_cases hx:ns.getD j 0 < m0
   ·rw [decide_eq_true hx]
    simp only [if_true]
    simp only [hx,if_true] at nb
    refine wpAny_bind (wpAny_updateSeq (hz:=best_sz _ _) hS' rfl (wpAny_bind (wpAny_letGo ?_)))
    rw [nm]
    refine wpAny_pure ⟨plainId_quiet PySem.F.plain_min_loop _,ih (j + 1) _ (some (ns.getD j 0)) tv _ (by omega) hlt (wr' _) nb (Heap.get?_update_self _ hS' rfl) (fun m t h2 tk2 m1 m2 kp2=>?_) (fun z=>absurd z hne)⟩
    exact q1 m t h2 tk2 m1 m2 fun b o hbw hbS e=>kp2 b o hbw hbS ((Heap.get?_update_other _ _ (Ne.symm hbS)).trans (kp b o hbw e))
   ·rw [decide_eq_false hx]
    simp only [Bool.false_eq_true,if_false]
    simp only [hx,if_false] at nb
    refine wpAny_bind (wpAny_letGo ?_)
    rw [nm]
    refine wpAny_pure ⟨plainId_quiet PySem.F.plain_min_loop _,ih (j + 1) _ (some m0) t c (by omega) hlt st' nb hS' (fun m t h2 tk2 m1 m2 kp2=>?_) (fun z=>absurd z hne)⟩
    exact q1 m t h2 tk2 m1 m2 fun b o hbw hbS e=>kp2 b o hbw hbS (kp b o hbw e)
variable {E:Value→Shared→Prop} {s:Shared}
theorem call_tree_kw {id:String} {b:Builtin} {args:List Value} {kw:List (Str×Value)} {Q:Value→Shared→Prop} (hk:builtinKind id=none) (hp:plainId id=true) (hb:entryFor table id=some b) (ha:argsOk id ⟨args,kw⟩)
  (hc:wpAny (model prog w) A.in1 (b ⟨args,kw⟩) (fun fin s'=>match fin with | .done f=>(wants Q E) (.ok f) s' | .again c'=>c'.quiet=true∧codeAny (model prog w) A c' (wants Q E) s') E s) :
  wpAny (model prog w) A (call (.builtin id) args kw) Q E s:=by
 refine wpAny_call (codeAny_mono (R:=wants Q E) (codeAny_call_builtin hp hb ?_) fun r s' h=>?_)
 ·simp only [checkBuiltinCall,hk]
  cases hsig:Manifest.signature? id with
  | none=>exact wpAny_pure hc
  | some sig =>
   simp only [argsOk,hsig] at ha
   have h2:Bind.checkArgs id sig ⟨args,kw⟩=pure ():=ha
   refine (show wpAny _ A.in1 (Bind.checkArgs id sig ⟨args,kw⟩) _ _ s from ?_)
   rw [h2]
   exact wpAny_pure hc
 ·cases r with
  | error e=>exact h
  | ok f=>cases f <;> exact h
theorem argsMinK (a d:Value):argsOk "min" ⟨[a],[(("default":Str),d)]⟩:=by unfold argsOk; kernel_rfl
theorem argsMin1 (a:Value):argsOk "min" ⟨[a],[]⟩:=by unfold argsOk; kernel_rfl
theorem min_listK {l:Addr} {vs:List Value} {ns:List Int} {kw:List (Str×Value)} {Q:Value→Shared→Prop} (hh:A.handled=none) (hl:s.heap.IsList l vs.toArray) (hi:IntsAre vs ns) (hk:kw=[]∧ns≠[]∨∃ d,kw=[(("default":Str),d)])
  (q1:∀ m t h' tk,m∈ns→(∀ x∈ns,m≤x)→(∀ b o,s.heap.get? b=some o→h'.get? b=some o)→Q (.int m t) { s with heap:=h',toks:=tk })
  (q2:∀ d h' tk,ns=[]→kw=[(("default":Str),d)]→(∀ b o,s.heap.get? b=some o→h'.get? b=some o)→Q d { s with heap:=h',toks:=tk }) :
  wpAny (model prog w) A (call (.builtin "min") [.ref l] kw) Q E s:=by
 have nm:(toString "min" ++ toString ".loop":String)="min.loop":=by decide
 have hlt:l < s.heap.objs.size:=by obtain ⟨o,ho,_⟩:=hl; exact Heap.lt_size ho
 have hlen:=hi.length
 have main:∀ kw':List (Str×Value),kw'=kw→wpAny (model prog w) A.in1 (do
   let it ← pyIter (.ref l)
   let b ← newList []
   again (.builtin (toString "min" ++ toString ".loop") ⟨[it,.none,b],kw'⟩)) (fun fin s'=>match fin with | .done f=>(wants Q E) (.ok f) s' | .again c'=>c'.quiet=true∧codeAny (model prog w) A c' (wants Q E) s') E s:=fun kw' hkw=>by
  refine wpAny_bind (wpAny_pyIter_list hl (wpAny_bind (wpAny_newObj_type ?_)))
  rw [nm]
  have hne:l≠s.heap.objs.size:=Nat.ne_of_lt hlt
  refine wpAny_pure ⟨plainId_quiet PySem.F.plain_min_loop _,minLoop (Walks.list (A:=A.in1) (by simp [hh]) s.heap.objs.size l hne vs.toArray) ns (by rw [List.size_toArray,hlen]) (fun i v e=>IntsAre.int_at hi i v (by simpa using e)) _ ?_ kw' (vs.toArray.size - 0) 0 _ none 0 0 rfl (Nat.zero_le _) ?_ rfl (Heap.get?_push_size _ rfl) (fun m t h' tk m1 m2 kp=>?_) (fun hz=>?_)⟩
  ·rw [Heap.size_push]; simp only [List.mem_cons,List.not_mem_nil,or_false,not_or]; exact ⟨Ne.symm (Nat.ne_of_lt (Nat.lt_succ_self _)),Nat.ne_of_gt (Nat.lt_succ_of_lt hlt)⟩
  ·exact ⟨⟨_,Heap.get?_push_of_some _ (Heap.get?_push_size _ rfl),rfl,rfl⟩,(hl.push _).push _⟩
  ·exact q1 m t h' tk m1 m2 fun b o e=>kp b o (fun hb=>by
    have:b=s.heap.objs.size:=by simpa using hb
    rw [this] at e
    exact absurd (Heap.lt_size e) (Nat.lt_irrefl _)) (fun hb=>by
    rw [hb,Heap.size_push] at e
    exact absurd (Heap.lt_size e) (Nat.not_lt.mpr (Nat.le_succ _))) (Heap.get?_push_of_some _ (Heap.get?_push_of_some _ e))
  ·subst hkw
   rcases hk with ⟨_,hk⟩ | ⟨d,hd⟩
   ·exact absurd hz hk
   ·refine ⟨_,d,[],hd,fun h' tk kp=>q2 d h' tk hz hd fun b o e=>kp b o (fun hb=>?_) (fun hb=>?_) (Heap.get?_push_of_some _ (Heap.get?_push_of_some _ e))⟩
    ·have:b=s.heap.objs.size:=by simpa using hb
     rw [this] at e
     exact absurd (Heap.lt_size e) (Nat.lt_irrefl _)
    ·rw [hb,Heap.size_push] at e
     exact absurd (Heap.lt_size e) (Nat.not_lt.mpr (Nat.le_succ _))
 rcases id hk with ⟨rfl,_⟩ | ⟨d,rfl⟩
 ·refine call_tree_kw PySem.F.kind_min PySem.F.plain_min PySem.F.entry_min (argsMin1 _) ?_
  refine (show wpAny _ A.in1 (Builtin.Builtins.bindParams "min" ["key","default"] 0 ⟨[],[]⟩ >>= _) _ _ s from wpAny_bind (wpAny_of_eq (show Builtin.Builtins.bindParams "min" ["key","default"] 0 ⟨[],[]⟩=pure [none,none] from rfl) ?_))
  exact wpAny_bind (wpAny_pure (main [] rfl))
 ·refine call_tree_kw PySem.F.kind_min PySem.F.plain_min PySem.F.entry_min (argsMinK _ _) ?_
  refine (show wpAny _ A.in1 (Builtin.Builtins.bindParams "min" ["key","default"] 0 ⟨[],[(("default":Str),d)]⟩ >>= _) _ _ s from wpAny_bind (wpAny_of_eq (show Builtin.Builtins.bindParams "min" ["key","default"] 0 ⟨[],[(("default":Str),d)]⟩=pure [none,some d] from ?_) ?_))
  ·kernel_rfl
  ·exact wpAny_bind (wpAny_pure (main _ rfl))
end
def mnL:List Int→Int
 | []=>0
 | [x]=>x
 | x :: y :: r=>if x < mnL (y :: r) then x else mnL (y :: r)
theorem mnL_ok:∀ {ns:List Int},ns≠[]→mnL ns∈ns∧∀ x∈ns,mnL ns≤x
 | [],h=>absurd rfl h
 | [x],_=>by simp [mnL]
 | x :: y :: r,_=>by
  obtain ⟨h1,h2⟩:=mnL_ok (ns:=y :: r) (by simp)
  simp only [mnL]
  by_cases hx:x < mnL (y :: r)
  ·rw [if_pos hx]
   refine ⟨by simp,fun z hz=>?_⟩
   rcases List.mem_cons.mp hz with rfl | hz
   ·omega
   ·have:=h2 z hz; omega
  ·rw [if_neg hx]
   refine ⟨List.mem_cons_of_mem _ h1,fun z hz=>?_⟩
   rcases List.mem_cons.mp hz with rfl | hz
   ·omega
   ·exact h2 z hz
theorem mnL_uniq {ns:List Int} {m:Int} (h1:m∈ns) (h2:∀ x∈ns,m≤x):m=mnL ns:=by
 have hne:ns≠[]:=fun z=>by rw [z] at h1; cases h1
 obtain ⟨a,b⟩:=mnL_ok hne
 have:=h2 _ a
 have:=b _ h1
 omega
section
variable {X:Cx}
theorem call_minI (hc:X.calm=true):CallR X (.builtin "min") (fun xs H Q=>∃ a ns,xs=[.ref a]∧SqL X.K H a (List.map V.int ns)∧ns≠[]∧Q (.int (mnL ns)) H):=by
 intro pins s σ H xs us Q I r h
 obtain ⟨a,ns,rfl,hS,hne,q⟩:=h
 obtain ⟨u,rfl,r1⟩:=vals1 r
 cases r1
 obtain ⟨its,rv,p,_⟩:=I.list hS
 refine min_listK (I.ok.hd hc) p.isList (intsAre_of rv) (.inl ⟨rfl,hne⟩) (fun m t h' tk m1 m2 kp=>?_) (fun d h' tk hz _ _=>absurd hz hne)
 exact ⟨.int m,H,I.kept kp,⟨t,rfl⟩,by rw [mnL_uniq m1 m2]; exact q⟩
def tMinD (K:PySem.W.Frag) (t:TA):TE:=fun σ H Q=>t σ H fun vs H1=>∃ a ns,vs=[.ref a]∧SqL K H1 a (List.map V.int ns)∧Q (.int (mnL ns)) H1
theorem pe_minD {e:Expr} {t:TA} {j:Nat} {p pos kp vp:Pos} (hc:X.calm=true) (hg:Gl X "min") (hm:X.mg "min"=none) (ha:PA X [e] t)
  (he:starEach [e] X.env=(false,eval e X.env) :: starEach [] X.env:=by first | exact se_name | exact se_call | exact se_list | exact se_comp | rfl) :
  PE X (.Call (.Name "min" p) [e] [⟨some "default",Expr.Constant (.int 0) j vp,kp⟩] pos) (tMinD X.K t):=by
 intro pins s σ H Q I h
 refine wpAny_Call_Name_kw (ld_blt I hg hm boot_min ?_)
 refine callWith_kw ?_ (by rw [he]; rfl) (by rw [he]; rfl) rfl rfl
 refine thn (ha pos pins s σ H _ I h) fun us s1 ⟨vs,H1,I1,r1,q1⟩=>?_
 obtain ⟨a,ns,rfl,hS,q1⟩:=q1
 obtain ⟨u,rfl,r2⟩:=vals1 r1
 cases r2
 refine kws_cons (wpAny_Constant_int (kws_nil ?_))
 have I2:=I1.tok (s1.toks + 1)
 obtain ⟨its,rv,pl,_⟩:=I2.list hS
 refine min_listK (s:={ s1 with toks:=s1.toks + 1 }) (I.ok.hd hc) pl.isList (intsAre_of rv) (.inr ⟨_,rfl⟩) (fun m t h' tk m1 m2 kp=>?_) (fun d h' tk hz hd kp=>?_)
 ·exact ⟨.int m,H1,I2.kept kp,⟨t,rfl⟩,by rw [mnL_uniq m1 m2]; exact q1⟩
 ·have:d=.int 0 s1.toks:=by
   have:=List.cons.inj hd
   have:=Prod.mk.inj this.1
   exact this.2.symm
  subst this
  exact ⟨.int 0,H1,I2.kept kp,⟨_,rfl⟩,by subst hz; exact q1⟩
end
def shH (e n:Int) (p:Int×Int):Int×Int:=(p.1 + e,p.2 + n)
def shiftP (e n:Int) (a:Pl):Pl:=⟨shH e n a.p,shH e n a.q,a.c⟩
def xsOf (ps:List Pl):List Int:=ps.map (fun a=>a.p.1) ++ ps.map (fun a=>a.q.1)
def ysOf (ps:List Pl):List Int:=ps.map (fun a=>a.p.2) ++ ps.map (fun a=>a.q.2)
theorem mnL_same {ns ms:List Int} (h:∀ x,x∈ns↔x∈ms):mnL ns=mnL ms:=by
 by_cases hne:ns=[]
 ·have:ms=[]:=by
   cases ms with
   | nil=>rfl
   | cons x r=>have:=(h x).mpr List.mem_cons_self; rw [hne] at this; cases this
  rw [hne,this]
 ·obtain ⟨a,b⟩:=mnL_ok hne
  exact mnL_uniq ((h _).mp a) fun x hx=>b x ((h x).mpr hx)
def homeP (ps:List Pl):List Pl:=ps.map (shiftP (-(mnL (xsOf ps))) (-(mnL (ysOf ps))))
theorem mem_xs {ps:List Pl} {x:Int}:x∈xsOf ps↔∃ a∈ps,x=a.p.1∨x=a.q.1:=by
 unfold xsOf
 rw [List.mem_append,List.mem_map,List.mem_map]
 constructor
 ·rintro (⟨a,ha,rfl⟩ | ⟨a,ha,rfl⟩)
  ·exact ⟨a,ha,.inl rfl⟩
  ·exact ⟨a,ha,.inr rfl⟩
 ·rintro ⟨a,ha,rfl | rfl⟩
  ·exact .inl ⟨a,ha,rfl⟩
  ·exact .inr ⟨a,ha,rfl⟩
theorem mem_ys {ps:List Pl} {x:Int}:x∈ysOf ps↔∃ a∈ps,x=a.p.2∨x=a.q.2:=by
 unfold ysOf
 rw [List.mem_append,List.mem_map,List.mem_map]
 constructor
 ·rintro (⟨a,ha,rfl⟩ | ⟨a,ha,rfl⟩)
  ·exact ⟨a,ha,.inl rfl⟩
  ·exact ⟨a,ha,.inr rfl⟩
 ·rintro ⟨a,ha,rfl | rfl⟩
  ·exact .inl ⟨a,ha,rfl⟩
  ·exact .inr ⟨a,ha,rfl⟩
theorem min_xs {ps:List Pl} (hne:ps≠[]):mnL (ps.map fun b:Pl=>if b.q.1 < b.p.1 then b.q.1 else b.p.1)=mnL (xsOf ps):=by
 have hne':(ps.map fun b:Pl=>if b.q.1 < b.p.1 then b.q.1 else b.p.1)≠[]:=fun z=>hne (List.map_eq_nil_iff.mp z)
 obtain ⟨h1,h2⟩:=mnL_ok hne'
 refine mnL_uniq ?_ fun x hx=>?_
 ·obtain ⟨b,hb,e⟩:=List.mem_map.mp h1
  rw [← e]
  refine mem_xs.mpr ⟨b,hb,?_⟩
  split
  ·exact .inr rfl
  ·exact .inl rfl
 ·obtain ⟨b,hb,h⟩:=mem_xs.mp hx
  have:=h2 _ (List.mem_map.mpr ⟨b,hb,rfl⟩)
  split at this <;> rcases h with rfl | rfl <;> omega
theorem min_ys {ps:List Pl} (hne:ps≠[]):mnL (ps.map fun b:Pl=>if b.q.2 < b.p.2 then b.q.2 else b.p.2)=mnL (ysOf ps):=by
 have hne':(ps.map fun b:Pl=>if b.q.2 < b.p.2 then b.q.2 else b.p.2)≠[]:=fun z=>hne (List.map_eq_nil_iff.mp z)
 obtain ⟨h1,h2⟩:=mnL_ok hne'
 refine mnL_uniq ?_ fun x hx=>?_
 ·obtain ⟨b,hb,e⟩:=List.mem_map.mp h1
  rw [← e]
  refine mem_ys.mpr ⟨b,hb,?_⟩
  split
  ·exact .inr rfl
  ·exact .inl rfl
 ·obtain ⟨b,hb,h⟩:=mem_ys.mp hx
  have:=h2 _ (List.mem_map.mpr ⟨b,hb,rfl⟩)
  split at this <;> rcases h with rfl | rfl <;> omega
theorem home_shift (e n:Int) {ps:List Pl}:homeP (ps.map (shiftP e n))=homeP ps:=by
 cases ps with
 | nil=>rfl
 | cons b r =>
  have kx:mnL (xsOf ((b :: r).map (shiftP e n)))=mnL (xsOf (b :: r)) + e:=by
   obtain ⟨h1,h2⟩:=mnL_ok (ns:=xsOf (b :: r)) (by simp [xsOf])
   symm
   refine mnL_uniq ?_ fun x hx=>?_
   ·obtain ⟨a,ha,h⟩:=mem_xs.mp h1
    refine mem_xs.mpr ⟨shiftP e n a,List.mem_map_of_mem ha,?_⟩
    rcases h with h | h
    ·left; rw [h]; rfl
    ·right; rw [h]; rfl
   ·obtain ⟨a,ha,h⟩:=mem_xs.mp hx
    obtain ⟨c,hc,rfl⟩:=List.mem_map.mp ha
    rcases h with rfl | rfl
    ·have:=h2 c.p.1 (mem_xs.mpr ⟨c,hc,.inl rfl⟩)
     show _≤c.p.1 + e
     omega
    ·have:=h2 c.q.1 (mem_xs.mpr ⟨c,hc,.inr rfl⟩)
     show _≤c.q.1 + e
     omega
  have ky:mnL (ysOf ((b :: r).map (shiftP e n)))=mnL (ysOf (b :: r)) + n:=by
   obtain ⟨h1,h2⟩:=mnL_ok (ns:=ysOf (b :: r)) (by simp [ysOf])
   symm
   refine mnL_uniq ?_ fun x hx=>?_
   ·obtain ⟨a,ha,h⟩:=mem_ys.mp h1
    refine mem_ys.mpr ⟨shiftP e n a,List.mem_map_of_mem ha,?_⟩
    rcases h with h | h
    ·left; rw [h]; rfl
    ·right; rw [h]; rfl
   ·obtain ⟨a,ha,h⟩:=mem_ys.mp hx
    obtain ⟨c,hc,rfl⟩:=List.mem_map.mp ha
    rcases h with rfl | rfl
    ·have:=h2 c.p.2 (mem_ys.mpr ⟨c,hc,.inl rfl⟩)
     show _≤c.p.2 + n
     omega
    ·have:=h2 c.q.2 (mem_ys.mpr ⟨c,hc,.inr rfl⟩)
     show _≤c.q.2 + n
     omega
  unfold homeP
  rw [kx,ky,List.map_map]
  refine List.map_congr_left fun a _=>?_
  show shiftP _ _ (shiftP e n a)=_
  unfold shiftP shH
  simp only [Pl.mk.injEq,Prod.mk.injEq,and_true]
  refine ⟨⟨?_,?_⟩,?_,?_⟩ <;> omega
def Lns (H:Hp) (l:Addr) (ps:List Pl):Prop:=∃ xs,H l=some (.lst xs)∧DtsIs H xs (ps.map lD)
theorem hD_dp (p:Int×Int):(hD p).dp=1:=by simp [hD,Dt.dp,Dt.dps]
theorem as_holes {es:List Dt} (h:∀ d∈es,∃ p,d=hD p):∃ ps:List (Int×Int),es=ps.map hD:=by
 induction es with
 | nil=>exact ⟨[],rfl⟩
 | cons d es ih =>
  obtain ⟨ps,e⟩:=ih fun d hd=>h d (List.mem_cons_of_mem _ hd)
  obtain ⟨a,rfl⟩:=h d List.mem_cons_self
  exact ⟨a :: ps,by rw [e]; rfl⟩
theorem DtsIs.app {H:Hp}:∀ {ds es:List Dt} {vs us:List V},DtsIs H vs ds→DtsIs H us es→DtsIs H (vs ++ us) (ds ++ es)
 | [],_,_,_,.nil,h=>h
 | _ :: _,_,_,_,.cons a t,h=>.cons a (DtsIs.app t h)
theorem hole_at {H:Hp} {v:V} {p:Int×Int} (h:DtIs H v (hD p)):∃ r,v=.ref r∧two H r p:=by
 have z:=h
 cases z with
 | tup _ _=>exact ⟨_,rfl,hD_two h⟩
theorem line_at {H:Hp} {v:V} {a:Pl} (h:DtIs H v (lD a)):∃ r,v=.ref r:=by
 cases h with
 | tup _ _=>exact ⟨_,rfl⟩
end BF
namespace BF
open PySem PySem.Spec PyProof.Rows L2 PySem.SeqAt
section
open PySem.AutoSeq1 (wpAny_loadPart')
open PySem.MeetsSeq PySem.MeetsSeq2 PySem.MeetsSeq3
theorem lt_loopAt (l b:Addr) (items items2:Array Value) (n n2:Nat) (dd dd2:Option Addr) (sl sl2:Array (Option Value)) (r:Bool) (k:Nat) :
  ∀ i:Nat,items.size - i=k→i≤items.size→i≤items2.size→Meets (Builtin.«list.__eq__.loop» ⟨[.ref l,.ref b,rawInt i,rawInt 0],[]⟩)
   (fun A R s=>s.heap.get? l=some { cls:=.type "list",dict:=dd,data:=.seq items n,slots:=sl }∧s.heap.get? b=some { cls:=.type "list",dict:=dd2,data:=.seq items2 n2,slots:=sl2 } ∧
    Lx A.in1 s (items.toList.drop i) (items2.toList.drop i) r∧R (.ok (.ret (.bool r))) s):=by
 induction k with
 | zero =>
  intro i hk h1 h2 prog w A R s h
  obtain ⟨hp,g,d,tk,os⟩:=s; obtain ⟨hl,hb,lx,h⟩:=h
  wp_walk using wpAny_loadPart' hl,wpAny_loadPart' hb
  have hi1:items[((i:Nat):Int).toNat]?=none:=by simp; omega
  have hd:items.toList.drop i=[]:=List.drop_eq_nil_of_le (by simp; omega)
  have hr:r=decide (items.size < items2.size):=by
   rw [hd] at lx
   by_cases hlt:i < items2.size
   ·have e:items2.toList.drop i=items2.toList[i] :: items2.toList.drop (i + 1):=List.drop_eq_getElem_cons (by simpa using hlt)
    rw [e] at lx
    cases lx
    exact (decide_eq_true (by omega)).symm
   ·have e:items2.toList.drop i=[]:=List.drop_eq_nil_of_le (by simp; omega)
    rw [e] at lx
    cases lx
    exact (decide_eq_false (by omega)).symm
  rw [hi1]
  wp_walk using wpAny_loadPart' hl,wpAny_loadPart' hb
  show R (.ok (.ret (.bool (decide (items.size < items2.size))))) _
  rw [← hr]
  exact h
 | succ k ih =>
  intro i hk h1 h2 prog w A R s h
  obtain ⟨hp,g,d,tk,os⟩:=s; obtain ⟨hl,hb,lx,h⟩:=h
  wp_walk using wpAny_loadPart' hl,wpAny_loadPart' hb
  have hlt:i < items.size:=by omega
  have hi1:items[((i:Nat):Int).toNat]?=some items[i]:=by simp [hlt]
  have e1:items.toList.drop i=items[i] :: items.toList.drop (i + 1):=by
   rw [List.drop_eq_getElem_cons (by simpa using hlt)]; simp
  by_cases hlt2:i < items2.size
  ·have hi2:items2[((i:Nat):Int).toNat]?=some items2[i]:=by simp [hlt2]
   have e2:items2.toList.drop i=items2[i] :: items2.toList.drop (i + 1):=by
    rw [List.drop_eq_getElem_cons (by simpa using hlt2)]; simp
   have hc:((i:Int) + 1)=((i + 1:Nat):Int):=by push_cast; rfl
   rw [e1,e2] at lx
   rw [hi1,hi2]
   cases lx with
   | like he t =>
    refine wpAny_bind (he prog w _ _ ?_)
    wp_walk
    rw [hc]
    exact ⟨plainId_quiet plain_eq_loop _,codeAny_builtin entry_eq_loop (by
     rw [Around.under_plainId plain_eq_loop _]
     exact ih (i + 1) (by omega) hlt hlt2 prog w A R _ ⟨hl,hb,t,h⟩)⟩
   | part _ _ he kl =>
    refine wpAny_bind (he prog w _ _ ?_)
    have kk:∀ (E:Value→Shared→Prop) (Q:Value→Shared→Prop),Q (.bool r) ⟨hp,g,d,tk,os⟩→wpAny (model prog w) A.in1 (richCompare .Lt items[i] items2[i]) Q E ⟨hp,g,d,tk,os⟩:=fun E Q z=>kl prog w Q E z
    wp_walk using wpAny_loadPart' hl,wpAny_loadPart' hb
    rw [hi1,hi2]
    wp_walk using kk
    exact h
  ·have hi2:items2[((i:Nat):Int).toNat]?=none:=by simp; omega
   have e2:items2.toList.drop i=[]:=List.drop_eq_nil_of_le (by simp; omega)
   rw [e1,e2] at lx
   cases lx
   rw [hi1,hi2]
   wp_walk using wpAny_loadPart' hl,wpAny_loadPart' hb
   show R (.ok (.ret (.bool (decide (items.size < items2.size))))) _
   rw [decide_eq_false (by omega)]
   exact h
theorem list_ltAt (l b:Addr) (items items2:Array Value) (n n2:Nat) (dd dd2:Option Addr) (sl sl2:Array (Option Value)) (r:Bool) :
  Meets (Builtin.«list.__lt__» ⟨[.ref l,.ref b],[]⟩)
   (fun A R s=>s.heap.get? l=some { cls:=.type "list",dict:=dd,data:=.seq items n,slots:=sl }∧s.heap.get? b=some { cls:=.type "list",dict:=dd2,data:=.seq items2 n2,slots:=sl2 } ∧
    Lx A.in1 s items.toList items2.toList r∧R (.ok (.ret (.bool r))) s):=by
 intro prog w A R s h
 obtain ⟨hp,g,d,tk,os⟩:=s; obtain ⟨hl,hb,lx,h⟩:=h
 have f3:=AutoSeq1.sub_list_list
 wp_walk using wpAny_loadPart' hl,wpAny_loadPart' hb
 exact ⟨plainId_quiet plain_eq_loop _,codeAny_builtin entry_eq_loop (by
  rw [Around.under_plainId plain_eq_loop _]
  exact lt_loopAt l b items items2 n n2 dd dd2 sl sl2 r _ 0 rfl (Nat.zero_le _) (Nat.zero_le _) prog w A R _ ⟨hl,hb,by simpa using lx,h⟩)⟩
end
theorem ltAt_lists {A:Around} {s:Shared} {l b:Addr} {pa pb:Array Value} {r:Bool} (hl:s.heap.IsList l pa) (hb:s.heap.IsList b pb) (lx:Lx A.in1 s pa.toList pb.toList r) (hu:A.units < cLine):LtAt A s (.ref l) (.ref b) r:=by
 intro prog w Q E h
 obtain ⟨⟨cls,dd,data,sl⟩,ho,hc,n,hd⟩:=id hl
 obtain ⟨⟨cls2,dd2,data2,sl2⟩,ho2,hc2,n2,hd2⟩:=id hb
 simp only at hc hd hc2 hd2
 subst hc hd hc2 hd2
 exact richCompare_meets_room (op:=.Lt) ⟨_,ho,rfl⟩ ⟨_,ho2,rfl⟩ PySem.F.slot_list_lt PySem.F.entry_list_lt (PySem.F.args_list_lt_2 _ _) (list_ltAt l b pa pb n n2 dd dd2 sl sl2 r)
  ⟨ho,ho2,lx,show Value.bool r≠Value.notImplemented∧Q (.bool r) s from ⟨(fun x=>nomatch x),h⟩⟩ hu
end BF
namespace BF
open PySem PySem.Spec PyProof.Rows L2
def BstOk (bt:Nat→Nat→Bool) (j:Nat) (best:Option Nat):Prop:=match best with
 | none=>j=0
 | some m=>m < j∧∀ i,i < j→bt i m=false
def bstArr (val:Nat→Value) (best:Option Nat):Array Value:=match best with
 | none=>#[]
 | some m=>#[val m,val m]
theorem bst_sz (val:Nat→Value) (b:Option Nat):(bstArr val b).size≤sizeLine:=by
 cases b with
 | none=>exact size512 (by show 0≤512; decide)
 | some m=>exact size512 (by show 2≤512; decide)
theorem bst_step {bt:Nat→Nat→Bool} (tr:∀ i j k,bt i j=true→bt j k=true→bt i k=true) (irr:∀ i,bt i i=false) {j m:Nat} (h:BstOk bt j (some m)):BstOk bt (j + 1) (some (if bt j m=true then j else m)):=by
 obtain ⟨h1,h2⟩:=h
 by_cases hb:bt j m=true
 ·rw [if_pos hb]
  refine ⟨Nat.lt_succ_self _,fun i hi=>?_⟩
  by_cases e:i=j
  ·rw [e]; exact irr j
  ·cases z:bt i j with
   | false=>rfl
   | true=>have:=tr _ _ _ z hb; rw [h2 i (by omega)] at this; cases this
 ·rw [if_neg hb]
  refine ⟨by omega,fun i hi=>?_⟩
  by_cases e:i=j
  ·rw [e]; simpa using hb
  ·exact h2 i (by omega)
section
variable {prog:Program} {w:World} {A:Around} {R:Result→Shared→Prop} {I:Addr} {fp wr:List Addr} {n:Nat} {P:Nat→Value→Prop} {St:Nat→Heap→Prop}
theorem minLoopL {s₀:Shared} (W:Walks prog w A.in1 I fp wr n P St) (val:Nat→Value) (hP:∀ i v,P i v→v=val i) {bt:Nat→Nat→Bool} (tr:∀ i j k,bt i j=true→bt j k=true→bt i k=true) (irr:∀ i,bt i i=false) (S:Addr) (hSf:S ∉ fp)
  (fr:∀ b o,s₀.heap.get? b=some o→b ∉ wr∧b≠S)
  (hcmp:∀ i j h' tk,i < n→j < n→(∀ b o,s₀.heap.get? b=some o→h'.get? b=some o)→LtAt A.in1 { s₀ with heap:=h',toks:=tk } (val i) (val j) (bt i j)) (hn:0 < n) :
  ∀ (k j:Nat) (h:Heap) (tk:Tok) (best:Option Nat) (c:Nat),n - j=k→j≤n→St j h→BstOk bt j best→h.get? S=some { cls:=.type "list",dict:=none,data:=.seq (bstArr val best) c,slots:=#[] }→(∀ b o,s₀.heap.get? b=some o→h.get? b=some o) →
  (∀ m h' tk,m < n→(∀ i,i < n→bt i m=false)→(∀ b o,s₀.heap.get? b=some o→h'.get? b=some o)→R (.ok (.ret (val m))) { s₀ with heap:=h',toks:=tk }) →
  codeAny (model prog w) A (.builtin "min.loop" ⟨[.ref I,.none,.ref S],[]⟩) R { s₀ with heap:=h,toks:=tk }:=by
 have hSw:S ∉ wr:=fun h=>hSf (W.sub _ h)
 have nm:(toString "min" ++ toString ".loop":String)="min.loop":=by decide
 intro k
 induction k with
 | zero =>
  intro j h tk best c hk hj st hb hS kp0 q1
  have hjn:j=n:=by omega
  subst hjn
  refine codeAny_builtin PySem.F.entry_min_loop ?_
  rw [Around.under_plainId PySem.F.plain_min_loop _]
  refine (show wpAny _ A.in1 (seqItems? (.ref S) >>= _) _ _ _ from wpAny_bind (wpAny_seqItems hS rfl ?_))
  refine (show wpAny _ A.in1 (tryCatch (pyNext (.ref I)) _ >>= _) _ _ _ from wpAny_bind (wpAny_tryCatch (W.done _ _ _ st fun h' tk kp=>?_)))
  have hS':=kp S _ hSw hS
  cases best with
  | none =>
   have hj0:j=0:=hb
   omega
  | some m =>
   obtain ⟨h1,h2⟩:=hb
   refine (show wpAny _ A.in1 (updateSeq S (fun _=>#[]) >>= _) _ _ _ from wpAny_bind (wpAny_updateSeq (hz:=bst_sz _ _) hS' rfl (wpAny_bind (wpAny_letGo (wpAny_pure ?_)))))
   exact q1 m _ tk h1 h2 fun b o e=>(Heap.get?_update_other _ _ (Ne.symm (fr b o e).2)).trans (kp b o (fr b o e).1 (kp0 b o e))
 | succ k ih =>
  intro j h tk best c hk hj st hb hS kp0 q1
  have hlt:j < n:=by omega
  refine codeAny_builtin PySem.F.entry_min_loop ?_
  rw [Around.under_plainId PySem.F.plain_min_loop _]
  refine (show wpAny _ A.in1 (seqItems? (.ref S) >>= _) _ _ _ from wpAny_bind (wpAny_seqItems hS rfl ?_))
  refine (show wpAny _ A.in1 (tryCatch (pyNext (.ref I)) _ >>= _) _ _ _ from wpAny_bind (wpAny_tryCatch (W.item j _ _ _ hlt st fun v h' tk pv st' kp=>?_)))
  have hS':=kp S _ hSw hS
  have hv:=hP j v pv
  subst hv
  have kp1:∀ b o,s₀.heap.get? b=some o→h'.get? b=some o:=fun b o e=>kp b o (fr b o e).1 (kp0 b o e)
  have wr':∀ (arr:Array Value),St (j + 1) (h'.update S (Obj.mapSeq fun _=>arr)):=fun arr=>W.frame _ _ _ st' fun b hbf o e=>(Heap.get?_update_other _ _ (fun z:S=b=>hSf (by rw [z]; exact hbf))).trans e
  have kp2:∀ (arr:Array Value),∀ b o,s₀.heap.get? b=some o→(h'.update S (Obj.mapSeq fun _=>arr)).get? b=some o:=fun arr b o e=>(Heap.get?_update_other _ _ (Ne.symm (fr b o e).2)).trans (kp1 b o e)
  cases best with
  | none =>
   have hj0:j=0:=hb
   subst hj0
   refine (show wpAny _ A.in1 (updateSeq S (fun _=>#[val 0,val 0]) >>= _) _ _ _ from wpAny_bind (wpAny_updateSeq (hz:=bst_sz _ _) hS' rfl ?_))
   rw [nm]
   exact wpAny_pure ⟨plainId_quiet PySem.F.plain_min_loop _,ih 1 _ _ (some 0) _ (by omega) hlt (wr' _) ⟨by decide,fun i hi=>by rw [show i=0 by omega]; exact irr 0⟩ (Heap.get?_update_self _ hS' rfl) (kp2 _) q1⟩
  | some m0 =>
   have nb:=bst_step tr irr hb
   have hm0:m0 < n:=by have:=hb.1; omega
   refine (show wpAny _ A.in1 (tryCatch (holding [val j,val j] (richCompare .Lt (val j) (val m0) >>= _)) _ >>= _) _ _ _ from wpAny_bind (wpAny_tryCatch (wpAny_holding (wpAny_bind ?_))))
   refine hcmp j m0 h' tk hlt hm0 kp1 prog w _ _ ?_
   refine wpAny_bind (wpAny_holding (wpAny_truthy_bool (wpAny_bind (wpAny_letGo (wpAny_pure ?_)))))
   cases hx:bt j m0 with
   | true =>
    simp only [if_true]
    rw [hx,if_pos rfl] at nb
    refine wpAny_bind (wpAny_updateSeq (hz:=bst_sz _ _) hS' rfl (wpAny_bind (wpAny_letGo ?_)))
    rw [nm]
    exact wpAny_pure ⟨plainId_quiet PySem.F.plain_min_loop _,ih (j + 1) _ _ (some j) _ (by omega) hlt (wr' _) nb (Heap.get?_update_self _ hS' rfl) (kp2 _) q1⟩
   | false =>
    simp only [Bool.false_eq_true,if_false]
    rw [hx,if_neg Bool.false_ne_true] at nb
    refine wpAny_bind (wpAny_letGo ?_)
    rw [nm]
    exact wpAny_pure ⟨plainId_quiet PySem.F.plain_min_loop _,ih (j + 1) _ _ (some m0) c (by omega) hlt st' nb hS' kp1 q1⟩
variable {E:Value→Shared→Prop} {s:Shared}
theorem min_lists {l:Addr} {vs:List Value} {bt:Nat→Nat→Bool} {Q:Value→Shared→Prop} (hh:A.handled=none) (hl:s.heap.IsList l vs.toArray) (hn:0 < vs.length) (tr:∀ i j k,bt i j=true→bt j k=true→bt i k=true) (irr:∀ i,bt i i=false)
  (hcmp:∀ i j h' tk,i < vs.length→j < vs.length→(∀ b o,s.heap.get? b=some o→h'.get? b=some o)→LtAt A.in1 { s with heap:=h',toks:=tk } (vs.getD i .none) (vs.getD j .none) (bt i j))
  (q1:∀ m h' tk,m < vs.length→(∀ i,i < vs.length→bt i m=false)→(∀ b o,s.heap.get? b=some o→h'.get? b=some o)→Q (vs.getD m .none) { s with heap:=h',toks:=tk }) :
  wpAny (model prog w) A (call (.builtin "min") [.ref l]) Q E s:=by
 have nm:(toString "min" ++ toString ".loop":String)="min.loop":=by decide
 have hlt:l < s.heap.objs.size:=by obtain ⟨o,ho,_⟩:=hl; exact Heap.lt_size ho
 refine call_tree_kw PySem.F.kind_min PySem.F.plain_min PySem.F.entry_min (argsMin1 _) ?_
 refine (show wpAny _ A.in1 (Builtin.Builtins.bindParams "min" ["key","default"] 0 ⟨[],[]⟩ >>= _) _ _ s from wpAny_bind (wpAny_of_eq (show Builtin.Builtins.bindParams "min" ["key","default"] 0 ⟨[],[]⟩=pure [none,none] from rfl) ?_))
 refine wpAny_bind (wpAny_pure ?_)
 refine wpAny_bind (wpAny_pyIter_list hl (wpAny_bind (wpAny_newObj_type ?_)))
 rw [nm]
 have hne:l≠s.heap.objs.size:=Nat.ne_of_lt hlt
 have hsz:vs.toArray.size=vs.length:=List.size_toArray
 refine wpAny_pure ⟨plainId_quiet PySem.F.plain_min_loop _,minLoopL (s₀:=s) (Walks.list (A:=A.in1) (by simp [hh]) s.heap.objs.size l hne vs.toArray) (fun i=>vs.getD i .none) (fun i v e=>?_) tr irr _ ?_ (fun b o e=>?_) (fun i j h' tk hi hj kp=>hcmp i j h' tk (by omega) (by omega) kp) (by omega) (vs.toArray.size - 0) 0 _ _ none 0 rfl (Nat.zero_le _) ?_ rfl (Heap.get?_push_size _ rfl) (fun b o e=>?_) (fun m h' tk m1 m2 kp=>?_)⟩
 ·have:vs[i]?=some v:=by simpa using e
  rw [List.getD_eq_getElem?_getD,this]; rfl
 ·rw [Heap.size_push]; simp only [List.mem_cons,List.not_mem_nil,or_false,not_or]; exact ⟨Ne.symm (Nat.ne_of_lt (Nat.lt_succ_self _)),Nat.ne_of_gt (Nat.lt_succ_of_lt hlt)⟩
 ·have hb:=Heap.lt_size e
  refine ⟨fun z=>?_,fun z=>?_⟩
  ·have:b=s.heap.objs.size:=by simpa using z
   rw [this] at hb
   exact absurd hb (Nat.lt_irrefl _)
  ·rw [Heap.size_push] at z
   rw [z] at hb
   exact absurd hb (Nat.not_lt.mpr (Nat.le_succ _))
 ·exact ⟨⟨_,Heap.get?_push_of_some _ (Heap.get?_push_size _ rfl),rfl,rfl⟩,(hl.push _).push _⟩
 ·exact Heap.get?_push_of_some _ (Heap.get?_push_of_some _ e)
 ·exact q1 m h' tk (by omega) (fun i hi=>m2 i (by omega)) kp
end
def Pics (H:Hp) (rs:List Addr) (pss:List (List Pl)):Prop:=rs.length=pss.length∧∀ (i:Nat) r ps,rs[i]?=some r→pss[i]?=some ps→Pic H r ps
theorem likes_pics:∀ (l m:List Pl),Dt.likes (l.map pD) (m.map pD)=true
 | [],m=>by simp [Dt.likes]
 | _ :: _,[]=>by simp [Dt.likes]
 | a :: l,b :: m=>by simp only [List.map_cons,Dt.likes,pD_like,likes_pics l m,Bool.and_self]
section
variable {X:Cx}
theorem call_minP {k:Nat} (hr:Room k X.A) (hc:X.calm=true):CallR X (.builtin "min") (fun xs H Q=>∃ (a:Addr) (rs:List Addr) (pss:List (List Pl)),xs=[.ref a]∧SqL X.K H a (List.map V.ref rs)∧Pics H rs pss∧rs≠[] ∧
  ∀ (i:Nat) r ps,rs[i]?=some r→pss[i]?=some ps→(∀ qs∈pss,Dt.blts (qs.map pD) (ps.map pD)=false)→Q (.ref r) H):=by
 intro pins s σ H xs us Q I r h
 obtain ⟨a,rs,pss,rfl,hS,⟨hl,hp⟩,hne,q⟩:=h
 have hu:=hr.units
 obtain ⟨u,rfl,r1⟩:=vals1 r
 cases r1
 obtain ⟨its,rv,p,_⟩:=I.list hS
 have hlen:its.length=rs.length:=by rw [← rv.length,List.length_map]
 have hat:∀ (i:Nat) (r:Addr),rs[i]?=some r→its[i]?=some (Value.ref r):=fun i r e=>by
  obtain ⟨v,hv,rel⟩:=rv.get (i:=i) (x:=.ref r) (by rw [List.getElem?_map,e]; rfl)
  cases rel
  exact hv
 refine min_lists (bt:=fun i j=>Dt.blts ((pss.getD i []).map pD) ((pss.getD j []).map pD)) (I.ok.hd hc) p.isList (by rw [hlen]; exact List.length_pos_iff.mpr hne) (fun i j k=>Dt.trns _ _ _) (fun i=>Dt.irrs _) (fun i j h' tk hi hj kp=>?_) (fun m h' tk hm hmin kp=>?_)
 ·have I':Inv X pins σ H { s with heap:=h',toks:=tk }:=I.kept kp
  have hi':i < rs.length:=by omega
  have hj':j < rs.length:=by omega
  have ei:=hat i _ (List.getElem?_eq_getElem hi')
  have ej:=hat j _ (List.getElem?_eq_getElem hj')
  have pi:pss[i]?=some (pss.getD i []):=by rw [List.getD_eq_getElem?_getD,List.getElem?_eq_getElem (by omega)]; rfl
  have pj:pss[j]?=some (pss.getD j []):=by rw [List.getD_eq_getElem?_getD,List.getElem?_eq_getElem (by omega)]; rfl
  obtain ⟨xs,ex,dx⟩:=hp i _ _ (List.getElem?_eq_getElem hi') pi
  obtain ⟨ys,ey,dy⟩:=hp j _ _ (List.getElem?_eq_getElem hj') pj
  rw [List.getD_eq_getElem?_getD,ei,List.getD_eq_getElem?_getD,ej]
  obtain ⟨ix,rx,px,_⟩:=I'.list (SqL.of ex)
  obtain ⟨iy,ry,py,_⟩:=I'.list (SqL.of ey)
  have h5:Dt.dps ((pss.getD i []).map pD)≤3:=dps_le (pics_dp _)
  refine ltAt_lists px.isList py.isList (lx_D I' X.A.in1.in1 dx rx dy ry (likes_pics _ _) ?_) ?_
  ·show X.A.units + 1 + 1 + _ < _; omega
  ·show X.A.units + 1 < _; omega
 ·have hm':m < rs.length:=by omega
  have pm:pss[m]?=some (pss.getD m []):=by rw [List.getD_eq_getElem?_getD,List.getElem?_eq_getElem (by omega)]; rfl
  rw [List.getD_eq_getElem?_getD,hat m _ (List.getElem?_eq_getElem hm')]
  refine ⟨.ref _,H,I.kept kp,rfl,q m _ _ (List.getElem?_eq_getElem hm') pm fun qs hq=>?_⟩
  obtain ⟨i,e⟩:=List.mem_iff_getElem?.mp hq
  have hi:i < pss.length:=(List.getElem?_eq_some_iff.mp e).1
  have:=hmin i (by omega)
  rw [List.getD_eq_getElem?_getD,e] at this
  exact this
end
theorem hLt_sh (e n:Int) (p q:Int×Int):hLt (shH e n p) (shH e n q)=hLt p q:=by
 have:hLt (shH e n p) (shH e n q)=true↔hLt p q=true:=by
  rw [hLt_iff,hLt_iff]
  unfold shH
  constructor
  ·rintro (h | ⟨h1,h2⟩)
   ·left; simp only at h; omega
   ·right; simp only at h1 h2; constructor <;> omega
  ·rintro (h | ⟨h1,h2⟩)
   ·left; simp only; omega
   ·right; simp only; constructor <;> omega
 cases h1:hLt p q with
 | true=>exact this.mpr h1
 | false =>
  cases h2:hLt (shH e n p) (shH e n q) with
  | true=>rw [this.mp h2] at h1; cases h1
  | false=>rfl
theorem turn_sh {k:Nat} (hk:k < 8) (e n:Int) (p:Int×Int):turnN k (shH e n p)=shH (turnN k (e,n)).1 (turnN k (e,n)).2 (turnN k p):=by
 rw [turn_tab hk,turn_tab hk,turn_tab hk]
 obtain ⟨x,y⟩:=p
 have hk':k=0∨k=1∨k=2∨k=3∨k=4∨k=5∨k=6∨k=7:=by omega
 rcases hk' with rfl | rfl | rfl | rfl | rfl | rfl | rfl | rfl <;> simp [tabN,shH] <;> omega
theorem turnP_sh {k:Nat} (hk:k < 8) (e n:Int) (a:Pl):turnP k (shiftP e n a)=shiftP (turnN k (e,n)).1 (turnN k (e,n)).2 (turnP k a):=by
 unfold turnP
 show (if hLt (turnN k (shH e n a.p)) (turnN k (shH e n a.q))=true then (⟨turnN k (shH e n a.p),turnN k (shH e n a.q),a.c⟩:Pl) else ⟨turnN k (shH e n a.q),turnN k (shH e n a.p),a.c⟩)=_
 rw [turn_sh hk,turn_sh hk,hLt_sh]
 split <;> rfl
theorem beq_sh (e n:Int) (p q:Int×Int):Dt.beq (hD (shH e n p)) (hD (shH e n q))=Dt.beq (hD p) (hD q):=by
 have:Dt.beq (hD (shH e n p)) (hD (shH e n q))=true↔Dt.beq (hD p) (hD q)=true:=by
  rw [Dt.beq_iff,Dt.beq_iff,eqv_two,eqv_two]
  obtain ⟨a,b⟩:=p
  obtain ⟨c,d⟩:=q
  simp only [shH,Prod.mk.injEq]
  omega
 cases h1:Dt.beq (hD p) (hD q) with
 | true=>exact this.mpr h1
 | false =>
  cases h2:Dt.beq (hD (shH e n p)) (hD (shH e n q)) with
  | true=>rw [this.mp h2] at h1; cases h1
  | false=>rfl
theorem blt_shH (e n:Int) (p q:Int×Int):Dt.blt (hD (shH e n p)) (hD (shH e n q))=Dt.blt (hD p) (hD q):=by
 have d1:∀ a b c:Int,decide (a + c < b + c)=decide (a < b):=fun a b c=>decide_eq_decide.mpr (by omega)
 have d2:∀ a b c:Int,Dt.beq (.int (a + c)) (.int (b + c))=Dt.beq (.int a) (.int b):=fun a b c=>by
  have:Dt.beq (.int (a + c)) (.int (b + c))=true↔Dt.beq (.int a) (.int b)=true:=by
   rw [Dt.beq_iff,Dt.beq_iff]
   constructor
   ·intro h; injection h with h; rw [show a=b by omega]
   ·intro h; injection h with h; rw [h]
  cases h1:Dt.beq (.int a) (.int b) with
  | true=>exact this.mpr h1
  | false =>
   cases h2:Dt.beq (.int (a + c)) (.int (b + c)) with
   | true=>rw [this.mp h2] at h1; cases h1
   | false=>rfl
 simp only [hD,shH,Dt.blt,Dt.blts,d1,d2]
theorem blt_sh (e n:Int) (a b:Pl):Dt.blt (pD (shiftP e n a)) (pD (shiftP e n b))=Dt.blt (pD a) (pD b):=by
 have h1:∀ a b:Pl,Dt.beq (lD (shiftP e n a)) (lD (shiftP e n b))=Dt.beq (lD a) (lD b):=fun a b=>by
  have:Dt.beq (lD (shiftP e n a)) (lD (shiftP e n b))=true↔Dt.beq (lD a) (lD b)=true:=by
   rw [Dt.beq_iff,Dt.beq_iff]
   have key:∀ x y:Pl,lD x=lD y↔(hD x.p=hD y.p∧hD x.q=hD y.q):=fun x y=>by simp [lD]
   rw [key,key,← Dt.beq_iff,← Dt.beq_iff,← Dt.beq_iff,← Dt.beq_iff]
   show (Dt.beq (hD (shH e n a.p)) (hD (shH e n b.p))=true∧Dt.beq (hD (shH e n a.q)) (hD (shH e n b.q))=true)↔_
   rw [beq_sh,beq_sh]
  cases h1:Dt.beq (lD a) (lD b) with
  | true=>exact this.mpr h1
  | false =>
   cases h2:Dt.beq (lD (shiftP e n a)) (lD (shiftP e n b)) with
   | true=>rw [this.mp h2] at h1; cases h1
   | false=>rfl
 have h2:Dt.blt (lD (shiftP e n a)) (lD (shiftP e n b))=Dt.blt (lD a) (lD b):=by
  show Dt.blt (.tup [hD (shH e n a.p),hD (shH e n a.q)]) (.tup [hD (shH e n b.p),hD (shH e n b.q)])=Dt.blt (.tup [hD a.p,hD a.q]) (.tup [hD b.p,hD b.q])
  rw [show ∀ l m,Dt.blt (.tup l) (.tup m)=Dt.blts l m from fun l m=>by simp only [Dt.blt],show ∀ l m,Dt.blt (.tup l) (.tup m)=Dt.blts l m from fun l m=>by simp only [Dt.blt]]
  simp only [Dt.blts]
  rw [beq_sh,beq_sh,blt_shH,blt_shH]
 show Dt.blt (.tup [lD (shiftP e n a),.str a.c]) (.tup [lD (shiftP e n b),.str b.c])=Dt.blt (.tup [lD a,.str a.c]) (.tup [lD b,.str b.c])
 rw [show ∀ l m,Dt.blt (.tup l) (.tup m)=Dt.blts l m from fun l m=>by simp only [Dt.blt],show ∀ l m,Dt.blt (.tup l) (.tup m)=Dt.blts l m from fun l m=>by simp only [Dt.blt]]
 simp only [Dt.blts]
 rw [h1,h2]
theorem rise_sh (e n:Int) {ps:List Pl} (h:Rise ps):Rise (ps.map (shiftP e n)):=by
 unfold Rise at h ⊢
 rw [List.map_map]
 rw [List.pairwise_map] at h ⊢
 exact h.imp fun {a b} hab=>by
  show Dt.blt (pD (shiftP e n b)) (pD (shiftP e n a))=false
  rw [blt_sh]; exact hab
theorem rise_pics {l m:List Pl} (p:l.Perm m) (h1:Rise l) (h2:Rise m):l=m:=by
 have:=rise_eq (p.map pD) h1 h2
 have e:∀ l:List Pl,(l.map pD).map unD=l:=fun l=>by
  rw [List.map_map]
  induction l with
  | nil=>rfl
  | cons a l ih=>rw [List.map_cons,ih]; rfl
 rw [← e l,← e m,this]
def TurnOf (k:Nat) (ps T:List Pl):Prop:=T.Perm (ps.map (turnP k))∧Rise T
def IsForm (ps d:List Pl):Prop:=∃ Ts:Nat→List Pl,(∀ k,k < 8→TurnOf k ps (Ts k))∧(∃ k,k < 8∧d=homeP (Ts k))∧∀ k,k < 8→Dt.blts ((homeP (Ts k)).map pD) (d.map pD)=false
def Moved8 (ps qs:List Pl):Prop:=∃ j e n,j < 8∧qs.Perm ((ps.map (turnP j)).map (shiftP e n))
theorem home_same {ps qs U T:List Pl} {j k:Nat} {e n:Int} (hj:j < 8) (hk:k < 8) (hq:qs.Perm ((ps.map (turnP j)).map (shiftP e n))) (hU:TurnOf k qs U) (hT:TurnOf (behN j k) ps T):homeP U=homeP T:=by
 obtain ⟨pU,rU⟩:=hU
 obtain ⟨pT,rT⟩:=hT
 have h1:(qs.map (turnP k)).Perm ((ps.map (turnP (behN j k))).map (shiftP (turnN k (e,n)).1 (turnN k (e,n)).2)):=by
  refine (hq.map (turnP k)).trans ?_
  rw [List.map_map,List.map_map,List.map_map]
  refine List.Perm.of_eq (List.map_congr_left fun x _=>?_)
  show turnP k (shiftP e n (turnP j x))=shiftP _ _ (turnP (behN j k) x)
  rw [turnP_sh hk,turnP_beh hj hk]
 have h2:U=T.map (shiftP (turnN k (e,n)).1 (turnN k (e,n)).2):=rise_pics ((pU.trans h1).trans (pT.map _).symm) rU (rise_sh _ _ rT)
 rw [h2,home_shift]
theorem beh_onto:∀ j,j < 8→∀ m,m < 8→∃ k,k < 8∧behN j k=m:=by decide +kernel
theorem form_uniq {ps qs d e:List Pl} (h:Moved8 ps qs) (h1:IsForm ps d) (h2:IsForm qs e):e.map pD=d.map pD:=by
 obtain ⟨j,ea,no,hj,hq⟩:=h
 obtain ⟨Ts,t1,⟨k1,hk1,rfl⟩,m1⟩:=h1
 obtain ⟨Us,u1,⟨k2,hk2,rfl⟩,m2⟩:=h2
 refine Dt.tots _ _ ?_ ?_
 ·rw [home_same hj hk2 hq (u1 k2 hk2) (t1 _ (behN_lt j k2))]
  exact m1 _ (behN_lt j k2)
 ·obtain ⟨k,hk,hb⟩:=beh_onto j hj k1 hk1
  have:=home_same hj hk hq (u1 k hk) (t1 _ (behN_lt j k))
  rw [hb] at this
  rw [← this]
  exact m2 k hk
theorem form_len {ps d:List Pl} (h:IsForm ps d):d.length=ps.length:=by
 obtain ⟨Ts,t1,⟨k,hk,rfl⟩,_⟩:=h
 unfold homeP
 rw [List.length_map,(t1 k hk).1.length_eq,List.length_map]
theorem moved_self {ps:List Pl} (hok:∀ p∈ps,p.ok):Moved8 ps ps:=by
 refine ⟨0,0,0,by decide,List.Perm.of_eq ?_⟩
 rw [List.map_map]
 have:∀ l:List Pl,(∀ p∈l,p.ok)→l.map (shiftP 0 0 ∘ turnP 0)=l:=fun l=>by
  induction l with
  | nil=>intro _; rfl
  | cons p l ih =>
   intro h
   rw [List.map_cons,ih fun q hq=>h q (List.mem_cons_of_mem _ hq)]
   congr 1
   show shiftP 0 0 (turnP 0 p)=p
   rw [turnP_zero (h p List.mem_cons_self)]
   simp [shiftP,shH]
 exact (this ps hok).symm
end BF
namespace BF
open PySem PySem.Spec PyProof.Rows L2 PySem.W
instance:DecidableEq Dt:=fun a b=>decidable_of_iff (Dt.beq a b=true) (Dt.beq_iff a b)
theorem Dt.dec_eq (a b:Dt):decide (a=b)=Dt.beq a b:=by
 cases h:Dt.beq a b with
 | true=>exact decide_eq_true ((Dt.beq_iff a b).mp h)
 | false=>exact decide_eq_false fun z=>by rw [(Dt.beq_iff a b).mpr z] at h; cases h
mutual
def drawsD:Dt→Nat
 | .int _=>1
 | .str _=>1
 | .tup l=>drawsDs l + 1
def drawsDs:List Dt→Nat
 | []=>0
 | d :: l=>drawsD d + drawsDs l
end
section
variable {prog:Program} {w:World} {E:Value→Shared→Prop}
set_option maxRecDepth 100000 in
mutual
theorem pyHash_X:∀ (d:Dt) (v:Value) (A:Around) (s:Shared) (Q:Int→Shared→Prop),DatH s.heap v d→A.units + d.dp < cLine→Q (hashD w d) { s with toks:=s.toks + drawsD d }→wpAny (model prog w) A (pyHash v) Q E s
 | .int i,_,A,s,Q,.int _ t,hu,h=>wpAny_pyHash_int (by rw [hashD,drawsD] at h; exact h)
 | .str x,_,A,s,Q,.str _ t,hu,h=>wpAny_pyHash_str (by rw [hashD,drawsD] at h; exact h)
 | .tup ds,_,A,s,Q,.tup (a:=a) (items:=items) ho hc hd r,hu,h=>by
  have hu':A.units + (Dt.dps ds + 1) < cLine:=by simpa only [Dt.dp] using hu
  refine pyHash_slot (T:="tuple") ⟨_,ho,hc⟩ F.slot_tuple_hash F.entry_tuple_hash (F.args_tuple_hash_1 _) (beq_builtin_none _) (.inr (by omega)) ?_
  show wpAny _ _ (Builtin.Tuple.tupleItemsOf (.ref a) >>= _) _ _ s
  refine wpAny_bind (wpAny_tupleItemsOf ho hd ?_)
  refine wpAny_bind ?_
  rw [← Array.forIn_toList]
  refine hashLoop_X ds items.toList A.in1 s #[] _ r (by simp only [Around.in1_units]; omega) fun b hb=>?_
  show wpAny _ _ (retInt (Builtin.Tuple.tupleHashOf b.toList)) _ _ _
  rw [hb]
  exact wpAny_bind (wpAny_mkInt (wpAny_pure ⟨_,_,rfl,by rw [hashD,drawsD,← Nat.add_assoc] at h; exact h⟩))
theorem hashLoop_X:∀ (ds:List Dt) (vs:List Value) (A:Around) (s:Shared) (b:Array Int) (Q:Array Int→Shared→Prop),DatHs s.heap vs ds→A.units + Dt.dps ds < cLine →
  (∀ b',b'.toList=b.toList ++ hashDs w ds→Q b' { s with toks:=s.toks + drawsDs ds }) →
  wpAny (model prog w) A (forIn vs b fun x r=>do let h ← pyHash x; pure PUnit.unit; pure (ForInStep.yield (r.push h))) Q E s
 | [],_,A,s,b,Q,.nil,_,h=>wpAny_pure (h b (by simp [hashDs]))
 | d :: ds,_,A,s,b,Q,.cons q t,hu,h=>by
  simp only [Dt.dps] at hu
  rw [List.forIn_cons]
  refine wpAny_bind (wpAny_bind (pyHash_X d _ A s _ q (by omega) ?_))
  refine wpAny_bind (wpAny_pure (wpAny_pure ?_))
  refine hashLoop_X ds _ A _ _ Q t (by omega) fun b' hb=>?_
  have:=h b' (by simp [hb,hashDs])
  rw [drawsDs,← Nat.add_assoc] at this
  exact this
end
end
mutual
theorem DatH.but {h h':Heap} {c:Addr} {o:Obj} {es:Array DictEntry} {ep:Nat} (ho:h.get? c=some o) (hd:o.data=.dict es ep) (k:Heap.SameBut c h h'):∀ {d:Dt} {v:Value},DatH h v d→DatH h' v d
 | _,_,.int i t=>.int i t
 | _,_,.str x t=>.str x t
 | .tup ds,_,.tup (a:=a) ho' hc hd' r=>.tup (k.extBut _ _ (fun z=>by
   rw [z,ho] at ho'
   cases ho'
   rw [hd] at hd'
   cases hd') ho') hc hd' (DatHs.but ho hd k r)
theorem DatHs.but {h h':Heap} {c:Addr} {o:Obj} {es:Array DictEntry} {ep:Nat} (ho:h.get? c=some o) (hd:o.data=.dict es ep) (k:Heap.SameBut c h h'):∀ {ds:List Dt} {vs:List Value},DatHs h vs ds→DatHs h' vs ds
 | [],_,.nil=>.nil
 | d :: ds,_,.cons q t=>.cons (DatH.but ho hd k q) (DatHs.but ho hd k t)
end
def dtKind (prog:Program) (w:World):HeapKind prog w Dt where
 is:=fun h d a=>DatH h (.ref a) d∧d.dp≤8
 hash:=hashD w
 draws:=drawsD
 room:=fun A=>A.units + 9 < cLine
 inj:=fun hx hy=>DatH.inj hx.1 hy.1
 keeps:=fun x ho hd hs=>⟨x.1.but ho hd hs,x.2⟩
 pyHash:=fun hu hk h=>pyHash_X _ _ _ _ _ hk.1 (by have:=hk.2; omega) h
 eqBool:=fun {A E s x y a b Q} hu hx hy h=>eqAt_H A hx.1 hy.1 (by have:=hx.2; omega) _ _ _ _ (by rw [← Dt.dec_eq]; exact h)
 quiet:=fun hk h=>quiet_D _ _ 8 _ _ _ hk.1 hk.2 h
end BF
namespace BF
open PySem PySem.Spec PyProof.Rows L2
section
variable {prog:Program} {w:World} {A:Around} {E:Value→Shared→Prop} {s:Shared}
theorem miss_keys:typeLookup (.type "list") "keys"=pure none:=am_miss_of_fast (by kernel_rfl)
set_option maxRecDepth 100000 in
theorem getAttrQ_keys {a:Addr} {o:Obj} {xs:Array Value} {k:Nat} {Q:Option Value→Shared→Prop} (hx:s.heap.get? a=some o) (hc:o.cls=.type "list") (hdat:o.data=.seq xs k) (hd:o.dict=none) (hA:A.handled=none)
  (h:∀ h' tk,(∀ b ob,s.heap.get? b=some ob→h'.get? b=some ob)→Q none { s with heap:=h',toks:=tk }):wpAny (model prog w) A (getAttr? (.ref a) "keys") Q E s:=by
 obtain ⟨c,dct,dat,sl⟩:=o
 simp only at hc hdat hd
 subst hc hdat hd
 obtain ⟨hp,g,d,tk,os⟩:=s
 have hT:∀ tk',(⟨hp,g,d,tk',os⟩:Shared).TypeIs (.ref a) "list":=fun _=>⟨_,hx,rfl⟩
 have f1:=sub_AttributeError
 have f3:=F.slot_list_getattribute.lookup
 have f4:=F.slot_list_getattribute.bind (.ref a)
 have f5:=am_list_getattr_none
 unfold getAttr? getAttrBy? getAttrBy
 repeat (any_goals (first | assumption | exact hT _ | ((with_reducible show wpAny _ _ (call (Value.builtin "list.__getattribute__") _ _) _ _ _); refine call_meets F.slot_list_getattribute (hT _) am_entry_list_getattribute (F.args_list_getattribute_2 _ _) (meets_getattribute_miss_list a xs k sl "keys" _ miss_keys (by decide +kernel)) ⟨hx,hA,fun h' tk' e hx'=>?_⟩) | wp_step))
 obtain ⟨t',u',he⟩:=hx'.there
 show wpAny _ _ (getattributeRaised _ _ _ _ _ _ _) _ _ _
 unfold getattributeRaised
 repeat (any_goals (first | assumption | wp_step))
 exact h _ _ hx'.keeps
end
theorem entry_dul:entryFor table "dict.update.loop"=some Builtin.«dict.update.loop»:=entryFor_of_tree (by kernel_rfl)
theorem plain_dul:plainId "dict.update.loop"=true:=by decide +kernel
def DicPart (P:Program) (w:World) (h:Heap) (D:Addr) (xs:List (Dt×Addr×Value)):Prop:=∃ o es ep,h.get? D=some o∧o.ExactDict∧o.data=.dict es ep∧es.toList=xs.map (entryOfKey (dtKind P w))∧(xs.map (·.1)).Nodup
theorem DicPart.full {P:Program} {w:World} {h:Heap} {D:Addr} {xs:List (Dt×Addr×Value)} (p:DicPart P w h D xs) (k:∀ x∈xs,DatH h (.ref x.2.1) x.1∧x.1.dp≤8):h.DictOfH (dtKind P w) D xs:=by
 obtain ⟨o,es,ep,a,b,c,d,e⟩:=p
 exact ⟨o,es,ep,a,b,c,d,k,e⟩
theorem DicPart.of {P:Program} {w:World} {h:Heap} {D:Addr} {xs:List (Dt×Addr×Value)} (p:h.DictOfH (dtKind P w) D xs):DicPart P w h D xs:=by
 obtain ⟨o,es,ep,a,b,c,d,_,e⟩:=p
 exact ⟨o,es,ep,a,b,c,d,e⟩
theorem DicPart.keep {P:Program} {w:World} {h h':Heap} {D:Addr} {xs:List (Dt×Addr×Value)} (p:DicPart P w h D xs) (k:∀ o,h.get? D=some o→h'.get? D=some o):DicPart P w h' D xs:=by
 obtain ⟨o,es,ep,a,b,c,d,e⟩:=p
 exact ⟨o,es,ep,k o a,b,c,d,e⟩
def putsH:List (Dt×Addr×Value)→List (Dt×Addr×Value)→List (Dt×Addr×Value)
 | acc,[]=>acc
 | acc,p :: ps=>putsH (storedH acc p.1 p.2.1 p.2.2) ps
theorem storedH_len (xs:List (Dt×Addr×Value)) (k:Dt) (a:Addr) (v:Value):(storedH xs k a v).length≤xs.length + 1:=by
 unfold storedH
 split
 ·rw [List.length_map]; omega
 ·rw [List.length_append]; exact Nat.le_refl _
theorem storedH_mem {xs:List (Dt×Addr×Value)} {k:Dt} {a:Addr} {v:Value} {x:Dt×Addr×Value} (h:x∈storedH xs k a v):(x.1=k∧x.2.1=a)∨∃ y∈xs,x.1=y.1∧x.2.1=y.2.1:=by
 unfold storedH at h
 split at h
 ·obtain ⟨y,hy,rfl⟩:=List.mem_map.mp h
  right
  refine ⟨y,hy,?_⟩
  unfold putAt
  split <;> exact ⟨rfl,rfl⟩
 ·rcases List.mem_append.mp h with h | h
  ·exact .inr ⟨x,h,rfl,rfl⟩
  ·rw [List.mem_singleton] at h
   rw [h]
   exact .inl ⟨rfl,rfl⟩
theorem storedH_keys (xs:List (Dt×Addr×Value)) (k:Dt) (a:Addr) (v:Value) (j:Dt):j∈(storedH xs k a v).map (·.1)↔j=k∨j∈xs.map (·.1):=by
 cases h:atKey xs k with
 | some p =>
  rw [storedH_old h,keys_map_putAt]
  refine ⟨.inr,fun z=>?_⟩
  rcases z with rfl | z
  ·unfold atKey at h
   cases hf:xs.find? (fun x=>decide (x.1=j)) with
   | none=>rw [hf] at h; cases h
   | some y =>
    have h1:=List.mem_of_find?_eq_some hf
    have h2:=List.find?_some hf
    exact List.mem_map.mpr ⟨y,h1,of_decide_eq_true h2⟩
  ·exact z
 | none =>
  rw [storedH_new h,List.map_append,List.mem_append]
  show _∨j∈[k]↔_
  rw [List.mem_singleton]
  exact Or.comm
theorem putsH_keys:∀ (ps acc:List (Dt×Addr×Value)) (j:Dt),j∈(putsH acc ps).map (·.1)↔j∈ps.map (·.1)∨j∈acc.map (·.1)
 | [],acc,j=>by simp [putsH]
 | p :: ps,acc,j=>by
  simp only [putsH]
  rw [putsH_keys ps,storedH_keys,List.map_cons,List.mem_cons]
  constructor
  ·rintro (h | h | h)
   ·exact .inl (.inr h)
   ·exact .inl (.inl h)
   ·exact .inr h
  ·rintro ((h | h) | h)
   ·exact .inr (.inl h)
   ·exact .inl h
   ·exact .inr (.inr h)
theorem atKey_mem (xs:List (Dt×Addr×Value)) (k:Dt):(atKey xs k).isSome=true↔k∈xs.map (·.1):=by
 unfold atKey
 rw [Option.isSome_map,List.find?_isSome]
 constructor
 ·rintro ⟨x,hx,h⟩
  exact List.mem_map.mpr ⟨x,hx,of_decide_eq_true h⟩
 ·intro h
  obtain ⟨x,hx,rfl⟩:=List.mem_map.mp h
  exact ⟨x,hx,decide_eq_true rfl⟩
inductive PairsAt (h:Heap):List Value→List (Dt×Addr×Value)→Prop where
 | nil:PairsAt h [] []
 | cons {t:Addr} {o:Obj} {n:Nat} {v:Value} {a:Addr} {d:Dt} {vs:List Value} {ps:List (Dt×Addr×Value)} (ho:h.get? t=some o) (hc:o.cls=.type "tuple") (hd:o.data=.seq #[.ref a,v] n) (k:DatH h (.ref a) d) (h8:d.dp≤8) (r:PairsAt h vs ps):PairsAt h (.ref t :: vs) ((d,a,v) :: ps)
section
variable {prog:Program} {w:World} {A:Around} {R:Result→Shared→Prop} {I:Addr} {fp wr:List Addr} {St:Nat→Heap→Prop}
theorem dictLoop {s₀:Shared} {vs:List Value} (W:Walks prog w A.in1 I fp wr vs.length (fun i v=>vs[i]?=some v) St) (D:Addr) (hDf:D ∉ fp) (hu:A.units + 12 < cLine) (hlen:vs.length≤1000)
  (fr:∀ b o,s₀.heap.get? b=some o→b ∉ wr∧b≠D) :
  ∀ {us:List Value} {ps:List (Dt×Addr×Value)},PairsAt s₀.heap us ps→∀ (j:Nat) (h:Heap) (tk:Tok) (acc:List (Dt×Addr×Value)) (i:Int),vs.drop j=us→j≤vs.length→St j h→DicPart prog w h D acc→acc.length≤j →
  (∀ x∈acc,DatH s₀.heap (.ref x.2.1) x.1∧x.1.dp≤8)→(∀ b o,s₀.heap.get? b=some o→h.get? b=some o) →
  (∀ h' tk xs,xs=putsH acc ps→xs.length≤vs.length→DicPart prog w h' D xs→(∀ x∈xs,DatH s₀.heap (.ref x.2.1) x.1∧x.1.dp≤8)→(∀ b o,s₀.heap.get? b=some o→h'.get? b=some o)→R (.ok (.ret .none)) { s₀ with heap:=h',toks:=tk }) →
  codeAny (model prog w) A (.builtin "dict.update.loop" ⟨[.ref D,.ref I,rawInt i,.none],[]⟩) R { s₀ with heap:=h,toks:=tk }:=by
 have hDw:D ∉ wr:=fun h=>hDf (W.sub _ h)
 intro us ps pa
 induction pa with
 | nil =>
  intro j h tk acc i e hj st dp hal hk kp q
  have hjn:j=vs.length:=by
   have:=congrArg List.length e
   rw [List.length_drop] at this
   simp only [List.length_nil] at this
   omega
  subst hjn
  refine codeAny_builtin entry_dul ?_
  rw [Around.under_plainId plain_dul _]
  refine (show wpAny _ A.in1 (pyNext (.ref I) >>= _) _ _ _ from wpAny_bind (W.done _ _ _ st fun h' tk' kp'=>?_))
  show wpAny _ _ (Builtin.Dict.addKeywords D [] >>= _) _ _ _
  exact wpAny_bind (wpAny_pure (wpAny_pure (q h' tk' acc rfl hal (dp.keep fun o e=>kp' D o hDw e) hk fun b o e=>kp' b o (fr b o e).1 (kp b o e))))
 | @cons t o n v a d us ps ho hc hd k h8 r ih =>
  intro j h tk acc i e hj st dp hal hk kp q
  have hlt:j < vs.length:=by
   have:=congrArg List.length e
   rw [List.length_drop] at this
   simp only [List.length_cons] at this
   omega
  have e2:vs[j]?=some (.ref t)∧vs.drop (j + 1)=us:=by
   rw [List.drop_eq_getElem_cons hlt] at e
   have h1:=List.cons.inj e
   exact ⟨by rw [List.getElem?_eq_getElem hlt,h1.1],h1.2⟩
  refine codeAny_builtin entry_dul ?_
  rw [Around.under_plainId plain_dul _]
  refine (show wpAny _ A.in1 (pyNext (.ref I) >>= _) _ _ _ from wpAny_bind (W.item j _ _ _ hlt st fun x h' tk' pv st' kp'=>?_))
  rw [e2.1] at pv
  cases pv
  have kp1:∀ b o,s₀.heap.get? b=some o→h'.get? b=some o:=fun b o e=>kp' b o (fr b o e).1 (kp b o e)
  have dp1:DicPart prog w h' D acc:=dp.keep fun o e=>kp' D o hDw e
  have hT:Shared.TypeIs { s₀ with heap:=h',toks:=tk' } (.ref t) "tuple":=⟨o,kp1 _ _ ho,hc⟩
  refine wpAny_bind (wpAny_holding ?_)
  refine wpAny_bind (wpAny_tryCatch ?_)
  refine (show wpAny _ _ (typeOf (.ref t) >>= _) _ _ _ from wpAny_bind (wpAny_typeOf hT ?_))
  rw [if_pos (by decide)]
  refine wpAny_bind (wpAny_seqItems (kp1 _ _ ho) hd (wpAny_pure ?_))
  refine (show wpAny _ _ (holding [.ref a,v] (dictSet D (.ref a) v)) _ _ _ from wpAny_holding ?_)
  refine wpAny_dictSet_heap (knd:=dtKind prog w) (k:=d) (xs:=acc) (by show A.units + 1 + 9 < cLine; omega) ⟨k.keep kp1,h8⟩ (dp1.full fun x hx=>⟨(hk x hx).1.keep kp1,(hk x hx).2⟩) (fun h2 hm2 sb=>?_) (by have:=small1000 (n:=acc.length) (by omega); omega)
  refine wpAny_pure ⟨plainId_quiet plain_dul _,ih (j + 1) h2 _ (storedH acc d a v) (i + 1) e2.2 hlt (W.frame _ _ _ st' fun b hb o e=>?_) (.of hm2) (Nat.le_trans (storedH_len _ _ _ _) (Nat.succ_le_succ hal)) (fun x hx=>?_) (fun b o e=>?_) (fun h3 tk3 xs hxs hl3 dp3 hk3 kp3=>?_)⟩
  ·exact sb.extBut b o (fun z=>hDf (by rw [← z]; exact hb)) e
  ·rcases storedH_mem hx with ⟨z1,z2⟩ | ⟨y,hy,z1,z2⟩
   ·rw [z1,z2]; exact ⟨k,h8⟩
   ·rw [z1,z2]; exact hk y hy
  ·exact sb.extBut b o (fr b o e).2 (kp1 b o e)
  ·exact q h3 tk3 xs hxs hl3 dp3 hk3 kp3
end
section
variable {prog:Program} {w:World} {A:Around} {E:Value→Shared→Prop} {s:Shared}
theorem call_dict_D {l:Addr} {o:Obj} {n:Nat} {vs:List Value} {ps:List (Dt×Addr×Value)} {Q:Value→Shared→Prop} (hh:A.handled=none) (ho:s.heap.get? l=some o) (hc:o.cls=.type "list") (hd:o.data=.seq vs.toArray n) (hdn:o.dict=none)
  (pa:PairsAt s.heap vs ps) (hlen:vs.length≤1000) (hu:A.units + 14 < cLine)
  (q:∀ h' tk xs,xs=putsH [] ps→xs.length≤vs.length→DicPart prog w h' s.heap.objs.size xs→(∀ x∈xs,DatH s.heap (.ref x.2.1) x.1∧x.1.dp≤8)→(∀ b o,s.heap.get? b=some o→h'.get? b=some o)→Q (.ref s.heap.objs.size) { s with heap:=h',toks:=tk }) :
  wpAny (model prog w) A (call (.type "dict") [.ref l]) Q E s:=by
 refine callType_codes (Q₁:=fun obj s₁=>obj=.ref s.heap.objs.size∧s₁={ s with heap:=s.heap.push { cls:=.type "dict",data:=.dict #[] } }) F.kt_called_dict (F.kt_typeCall_dict_1 _) F.entry_dict_init (kt_code_dict_new _ ⟨rfl,rfl⟩) ?_
 rintro obj s₁ ⟨rfl,rfl⟩
 have hnew:(s.heap.push { cls:=.type "dict",data:=.dict #[] }).DictOfH (dtKind prog w) s.heap.objs.size []:=Heap.DictOfH.new s.heap
 have hol:(s.heap.push { cls:=.type "dict",data:=.dict #[] }).get? l=some o:=Heap.get?_push_of_some _ ho
 have hlt:l < s.heap.objs.size:=Heap.lt_size ho
 refine ⟨hnew.typeIs,F.args_dict_init_2 _ _,?_⟩
 unfold Builtin.«dict.__init__»
 refine wpAny_bind ?_
 unfold Builtin.Dict.selfAndRest
 refine wpAny_bind (wpAny_notOrdered_dict hnew.typeIs ?_)
 show wpAny _ _ (pure (s.heap.objs.size,[Value.ref l])) _ _ _
 refine wpAny_pure ?_
 show wpAny _ _ (Builtin.Dict.updateFrom "dict.__init__" s.heap.objs.size (.ref l) [] .none) _ _ _
 unfold Builtin.Dict.updateFrom
 refine wpAny_bind (wpAny_typeOf (T:="list") ⟨o,hol,hc⟩ ?_)
 rw [if_pos (by decide)]
 refine wpAny_bind (getAttrQ_keys hol hc hd hdn (by simp [hh]) fun h1 tk1 kp1=>?_)
 rw [if_pos (by rfl)]
 refine wpAny_bind (wpAny_rule ?_)
 have hol1:=kp1 _ _ hol
 have sz1:s.heap.objs.size < h1.objs.size:=Heap.lt_size (kp1 _ _ (Heap.get?_push_size _ rfl))
 have hl1:h1.IsList l vs.toArray:=⟨_,hol1,hc,n,hd⟩
 refine wpAny_bind (wpAny_pyIter_list hl1 ?_)
 have hne:l≠h1.objs.size:=Nat.ne_of_lt (Nat.lt_trans hlt sz1)
 refine wpAny_pure ⟨plainId_quiet plain_dul _,?_⟩
 have W:=Walks.list (prog:=prog) (w:=w) (A:=A.in1.in1) (by simp [hh]) h1.objs.size l hne vs.toArray
 have W2:Walks prog w A.in1.in1 h1.objs.size [h1.objs.size,l] [h1.objs.size] vs.length (fun i v=>vs[i]?=some v) (fun i h=>h.IsListIter h1.objs.size l i∧h.IsList l vs.toArray):=by
  have e1:vs.toArray.size=vs.length:=List.size_toArray
  have e2:(fun (i:Nat) (v:Value)=>vs.toArray[i]?=some v)=fun i v=>vs[i]?=some v:=by funext i v; simp
  rw [e1,e2] at W
  exact W
 refine dictLoop (s₀:=s) W2 s.heap.objs.size ?_ (by show A.units + 1 + 12 < cLine; omega) hlen (fun b o e=>?_) pa 0 _ _ [] 0 rfl (Nat.zero_le _) ?_ ((DicPart.of hnew).keep fun o e=>Heap.get?_push_of_some _ (kp1 _ _ e)) (Nat.le_refl _) (fun _ hx=>nomatch hx) (fun b o e=>Heap.get?_push_of_some _ (kp1 _ _ (Heap.get?_push_of_some _ e))) fun h' tk xs hxs hl dp hk kp=>?_
 ·intro z
  rcases List.mem_cons.mp z with z | z
  ·exact absurd z (Nat.ne_of_lt sz1)
  ·rw [List.mem_singleton] at z
   exact absurd z (Nat.ne_of_gt hlt)
 ·have hb:=Heap.lt_size e
  refine ⟨fun z=>?_,Nat.ne_of_lt hb⟩
  rw [List.mem_singleton] at z
  rw [z] at hb
  exact absurd hb (Nat.not_lt.mpr (Nat.le_of_lt sz1))
 ·exact ⟨⟨_,Heap.get?_push_size _ rfl,rfl,rfl⟩,hl1.push _⟩
 ·exact ⟨rfl,q h' tk xs hxs hl dp hk kp⟩
end
theorem putsH_mem:∀ {ps acc:List (Dt×Addr×Value)} {x:Dt×Addr×Value},x∈putsH acc ps→(∃ y∈ps,x.1=y.1∧x.2.1=y.2.1)∨∃ y∈acc,x.1=y.1∧x.2.1=y.2.1
 | [],acc,x,h=>.inr ⟨x,h,rfl,rfl⟩
 | p :: ps,acc,x,h=>by
  simp only [putsH] at h
  rcases putsH_mem h with ⟨y,hy,e⟩ | ⟨y,hy,e1,e2⟩
  ·exact .inl ⟨y,List.mem_cons_of_mem _ hy,e⟩
  ·rcases storedH_mem hy with ⟨z1,z2⟩ | ⟨z,hz,z1,z2⟩
   ·exact .inl ⟨p,List.mem_cons_self,e1.trans z1,e2.trans z2⟩
   ·exact .inr ⟨z,hz,e1.trans z1,e2.trans z2⟩
def dicO (P:Program) (w:World) (a:Addr) (xs:List (Dt×Addr×Value)):HO:=.ext fun h=>DicPart P w h a xs
structure DicH (P:Program) (w:World) (H:Hp) (a:Addr) (xs:List (Dt×Addr×Value)):Prop where
 at_:H a=some (dicO P w a xs)
 sys:(a == sysModules)=false
 len:xs.length≤1000
 key:∀ x∈xs,DtIs H (.ref x.2.1) x.1∧x.1.dp≤8
theorem DicH.same {P:Program} {w:World} {H H':Hp} {a:Addr} {xs:List (Dt×Addr×Value)} (d:DicH P w H a xs) (s:Same H H'):DicH P w H' a xs :=
 ⟨s _ _ d.at_,d.sys,d.len,fun x hx=>⟨(d.key x hx).1.same s,(d.key x hx).2⟩⟩
section
variable {X:Cx} {pins:List (Addr×Obj)} {σ:L2.St} {H:Hp} {s:Shared}
theorem dicH_of {a:Addr} {xs:List (Dt×Addr×Value)} (I:Inv X pins σ H s) (d:DicH X.prog X.w H a xs):s.heap.DictOfH (dtKind X.prog X.w) a xs:=by
 have ok:=I.hok a _ d.at_
 exact DicPart.full ok.1 fun x hx=>⟨datH_of I (d.key x hx).1 rfl,(d.key x hx).2⟩
theorem pairs_of (I:Inv X pins σ H s):∀ {kvs:List (Dt×Dt)} {ys:List V} {us:List Value},DtsIs H ys (kvs.map fun p=>.tup [p.1,p.2])→Vals ys us→(∀ p∈kvs,(∃ l,p.1=.tup l)∧p.1.dp≤8) →
  ∃ ps,PairsAt s.heap us ps∧ps.map (·.1)=kvs.map (·.1)∧∀ x∈ps,DtIs H (.ref x.2.1) x.1∧x.1.dp≤8
 | [],_,_,.nil,.nil,_=>⟨[],.nil,rfl,fun _ h=>nomatch h⟩
 | (k,v) :: kvs,_,_,.cons (.tup (a:=t) e q) tl,.cons r rs,hk=>by
  obtain ⟨ps,p1,p2,p3⟩:=pairs_of I tl rs fun p hp=>hk p (List.mem_cons_of_mem _ hp)
  obtain ⟨⟨l,rfl⟩,h8⟩:=hk (k,v) List.mem_cons_self
  cases r
  obtain ⟨its,rv,⟨o,ho,hc,n,hd⟩,_⟩:=I.tuple (SqT.of e)
  cases q with
  | cons qk qt =>
   cases qt with
   | cons qv qn =>
    cases qn
    cases qk with
    | @tup a _ _ ea qa =>
     cases rv with
     | cons r1 rt =>
      cases rt with
      | cons r2 rn =>
       cases rn
       cases r1
       refine ⟨_,PairsAt.cons (d:=.tup l) ho hc hd (datH_of I (.tup ea qa) rfl) h8 p1,?_,fun x hx=>?_⟩
       ·rw [List.map_cons,List.map_cons,p2]
       ·rcases List.mem_cons.mp hx with rfl | hx
        ·exact ⟨.tup ea qa,h8⟩
        ·exact p3 x hx
end
section
variable {X:Cx}
def rNotInD (P:Program) (w:World):R2:=fun x y H Q=>∃ (b a:Addr) (d:Dt) (xs:List (Dt×Addr×Value)),x=.ref b∧y=.ref a∧DtIs H (.ref b) d∧d.dp≤8∧DicH P w H a xs∧Q (.bl (!decide (d∈xs.map (·.1)))) H
theorem call_dict_of {k:Nat} (hr:Room k X.A):CallR X (.type "dict") (fun xs H Q=>∃ (p:Addr) (ys:List V) (kvs:List (Dt×Dt)),xs=[.ref p]∧SqL X.K H p ys∧DtsIs H ys (kvs.map fun p=>.tup [p.1,p.2])∧ys.length≤1000∧(∀ p∈kvs,(∃ l,p.1=.tup l)∧p.1.dp≤8) ∧
  ∀ a xs,H a=none→(∀ d,d∈xs.map (·.1)↔d∈kvs.map (·.1))→DicH X.prog X.w (upd H a (dicO X.prog X.w a xs)) a xs→Q (.ref a) (upd H a (dicO X.prog X.w a xs))):=by
 intro pins s σ H xs us Q I r h
 obtain ⟨p,ys,kvs,rfl,hS,hD,hl,hk,q⟩:=h
 have hu:=hr.units
 obtain ⟨u,rfl,rx⟩:=vals1 r
 cases rx
 obtain ⟨its,rv,pl,hz⟩:=I.list hS
 obtain ⟨o,n,ho,hc,hd,hdn⟩:=pl
 obtain ⟨ps,pa,pk,pd⟩:=pairs_of I hD rv hk
 refine call_dict_D hr.hd ho hc (by first | exact hd | exact hdn) (by first | exact hdn | exact hd) pa (by rw [← rv.length]; exact hl) (by omega) fun h' tk zs hzs hzl dp hdk kp=>?_
 have fr:H s.heap.objs.size=none:=I.hok.fresh (Nat.le_refl _)
 refine ⟨.ref s.heap.objs.size,_,I.laid (o:=dicO X.prog X.w s.heap.objs.size zs) (t':=tk) kp (Nat.le_refl _) ⟨dp,?_,fun h1 h2 p1 k=>p1.keep k⟩,rfl,q _ zs fr (fun d=>?_) ⟨upd_same,?_,?_,fun x hx=>?_⟩⟩
 ·obtain ⟨o',_,_,e,_⟩:=dp
  exact ⟨o',e⟩
 ·rw [hzs,putsH_keys,pk]
  simp
 ·have:=I.big
  exact beq_eq_false_iff_ne.mpr (Nat.ne_of_gt this)
 ·exact Nat.le_trans hzl (by rw [← rv.length]; exact hl)
 ·rw [hzs] at hx
  rcases putsH_mem hx with ⟨y,hy,e1,e2⟩ | ⟨y,hy,_⟩
  ·rw [e1,e2]
   exact ⟨(pd y hy).1.same (same_upd fr),(pd y hy).2⟩
  ·cases hy
theorem op_notInD {k:Nat} (hr:Room k X.A):OpR X (compareOp .NotIn) (rNotInD X.prog X.w):=by
 intro pins s σ H x y v u Q I rx ry h
 obtain ⟨b,a,d,xs,rfl,rfl,hd,h8,hdic,q⟩:=h
 have hu:=hr.units
 cases rx
 cases ry
 refine wpAny_notIn_heap (knd:=dtKind X.prog X.w) (k:=d) (by show X.A.units + 1 + 9 < cLine; omega) ⟨datH_of I hd rfl,h8⟩ hdic.sys (dicH_of I hdic) ?_
 have e:(atKey xs d).isSome=decide (d∈xs.map (·.1)):=by
  cases hs:(atKey xs d).isSome with
  | true=>exact (decide_eq_true ((atKey_mem xs d).mp hs)).symm
  | false=>exact (decide_eq_false fun z=>by rw [(atKey_mem xs d).mpr z] at hs; cases hs).symm
 rw [e]
 exact ⟨.bl _,H,I.tok _,rfl,q⟩
end
abbrev KD:List (Dt×V)→List (Dt×Addr×Value)→Prop:=Paired fun (p:Dt×V) (q:Dt×Addr×Value)=>p.1=q.1∧RelV p.2 q.2.2
theorem KD.val {kvs:List (Dt×V)} {xs:List (Dt×Addr×Value)} (r:KD kvs xs) (k:Dt):RelO (valV kvs k) ((atKey xs k).map (·.2)):=by
 induction r with
 | nil=>exact True.intro
 | @cons p q ps qs h t ih =>
  obtain ⟨h1,h2⟩:=h
  by_cases e:p.1=k
  ·have e':q.1=k:=h1.symm.trans e
   have b:atKey (q :: qs) k=some q.2:=by simp [atKey,List.find?_cons,e']
   rw [valV_pos e,b]; exact h2
  ·have e':¬ q.1=k:=fun z=>e (h1.trans z)
   have b:atKey (q :: qs) k=atKey qs k:=by simp [atKey,List.find?_cons,e']
   rw [valV_neg e,b]; exact ih
theorem KD.repl {kvs:List (Dt×V)} {xs:List (Dt×Addr×Value)} (r:KD kvs xs) (k:Dt) {y:V} {u:Value} (ry:RelV y u):KD (kvs.map fun kv=>if kv.1=k then (kv.1,y) else kv) (xs.map (putAt k u)):=by
 induction r with
 | nil=>exact .nil
 | @cons p q ps qs h t ih =>
  rw [List.map_cons,List.map_cons]
  refine .cons ?_ ih
  obtain ⟨h1,h3⟩:=h
  unfold putAt
  by_cases e:p.1=k
  ·rw [if_pos e,if_pos (h1.symm.trans e)]; exact ⟨h1,ry⟩
  ·rw [if_neg e,if_neg (fun z=>e (h1.trans z))]; exact ⟨h1,h3⟩
theorem KD.put {kvs:List (Dt×V)} {xs:List (Dt×Addr×Value)} (r:KD kvs xs) (k:Dt) {b:Addr} {y:V} {u:Value} (ry:RelV y u):KD (putK kvs k y) (storedH xs k b u):=by
 have e:(kvs.any fun kv=>decide (kv.1=k))=(atKey xs k).isSome:=by
  rw [valV_any,(r.val k).isSome_eq,Option.isSome_map]
 unfold putK storedH
 rw [e]
 by_cases q:(atKey xs k).isSome=true
 ·rw [if_pos q,if_pos q]; exact r.repl k ry
 ·rw [if_neg q,if_neg q]; exact Paired.snoc r ⟨rfl,ry⟩
def DicV (P:Program) (w:World) (H:Hp) (a:Addr) (kvs:List (Dt×V)):Prop:=∃ xs,DicH P w H a xs∧KD kvs xs
theorem DicV.same {P:Program} {w:World} {H H':Hp} {a:Addr} {kvs:List (Dt×V)} (d:DicV P w H a kvs) (s:Same H H'):DicV P w H' a kvs:=by
 obtain ⟨xs,h,r⟩:=d
 exact ⟨xs,h.same s,r⟩
theorem DicV.ext {P:Program} {w:World} {H:Hp} {a:Addr} {kvs:List (Dt×V)} (d:DicV P w H a kvs):∃ φ,H a=some (.ext φ):=by
 obtain ⟨xs,h,_⟩:=d
 exact ⟨_,h.at_⟩
mutual
theorem DtIs.updX {H:Hp} {a:Addr} {φ:Heap→Prop} {o:HO} (ha:H a=some (.ext φ)):∀ {d:Dt} {v:V},DtIs H v d→DtIs (upd H a o) v d
 | .int i,_,.int _=>.int i
 | .str x,_,.str _=>.str x
 | .tup ds,_,.tup (a:=b) e q=>.tup (by
   have:b≠a:=fun z=>by rw [z,ha] at e; cases e
   rw [upd_ne this]; exact e) (DtsIs.updX ha q)
theorem DtsIs.updX {H:Hp} {a:Addr} {φ:Heap→Prop} {o:HO} (ha:H a=some (.ext φ)):∀ {ds:List Dt} {vs:List V},DtsIs H vs ds→DtsIs (upd H a o) vs ds
 | [],_,.nil=>.nil
 | d :: ds,_,.cons q t=>.cons (DtIs.updX ha q) (DtsIs.updX ha t)
end
section
variable {X:Cx}
def tDNewD (P:Program) (w:World):TE:=fun _ H Q=>∀ a o,H a=none→DicV P w (upd H a o) a []→Q (.ref a) (upd H a o)
theorem pe_dnewD {pos:Pos}:PE X (.Dict [] [] pos) (tDNewD X.prog X.w):=fun pins s σ H Q I h=>by
 have fr:=I.hok.fresh (Nat.le_refl s.heap.objs.size)
 have dp:DicPart X.prog X.w (s.heap.push { cls:=.type "dict",data:=.dict #[] }) s.heap.objs.size []:=.of (Heap.DictOfH.new s.heap)
 refine wpAny_Dict_empty ⟨.ref s.heap.objs.size,_,I.laid (a:=s.heap.objs.size) (o:=dicO X.prog X.w s.heap.objs.size []) (t':=s.toks) (fun _ _ q=>Heap.get?_push_of_some _ q) (Nat.le_refl _) ⟨dp,⟨_,Heap.get?_push_size _ rfl⟩,fun h1 h2 p1 k=>p1.keep k⟩,rfl,h _ _ fr ⟨[],⟨upd_same,?_,Nat.zero_le _,fun _ hx=>nomatch hx⟩,.nil⟩⟩
 exact beq_eq_false_iff_ne.mpr (Nat.ne_of_gt I.big)
def tDGetD (P:Program) (w:World) (td ty:TE):TE:=fun σ H Q=>td σ H fun x H1=>ty σ H1 fun y H2=>∃ a b d kvs v,x=.ref a∧y=.ref b∧DtIs H2 (.ref b) d∧d.dp≤8∧DicV P w H2 a kvs∧valV kvs d=some v∧Q v H2
theorem pe_dgetD {k:Nat} {o i:Expr} {td ty:TE} {pos:Pos} (hr:Room k X.A) (ho:PE X o td) (hi:PE X i ty) (hs:NoSl i):PE X (.Subscript o i pos) (tDGetD X.prog X.w td ty):=by
 intro pins s σ H Q I h
 have hu:=hr.units
 refine subD_of PySem.F.slot_dict_getitem.lookup hs (thn (ho pins s σ H _ I h) fun u s1 ⟨x,H1,I1,rx,q1⟩=>thn (hi pins s1 σ H1 _ I1 q1) fun iv s2 ⟨y,H2,I2,ry,a,b,d,kvs,v,ex,ey,hd,h8,⟨xs,dic,r⟩,hv,q2⟩=>?_)
 subst ex ey
 obtain rfl:u=Value.ref a:=rx
 obtain rfl:iv=Value.ref b:=ry
 have full:=dicH_of I2 dic
 have rel:=r.val d
 rw [hv] at rel
 cases hk:atKey xs d with
 | none=>rw [hk] at rel; exact absurd rel id
 | some p =>
  rw [hk] at rel
  refine ⟨full.typeIs,wpAny_getItem_heap (knd:=dtKind X.prog X.w) (by show X.A.units + 1 + 9 < cLine; omega) ⟨datH_of I2 hd rfl,h8⟩ full hk ⟨v,H2,I2.tok _,rel,q2⟩⟩
def sDPutD (P:Program) (w:World) (td ty tv:TE):TS:=fun D σ H=>tv σ H fun v H1=>td σ H1 fun x H2=>ty σ H2 fun y H3=>∃ a b d kvs,x=.ref a∧y=.ref b∧DtIs H3 (.ref b) d∧d.dp≤8∧DicV P w H3 a kvs∧kvs.length < 1000 ∧
 ∀ o,DicV P w (upd H3 a o) a (putK kvs d v)→D.nx σ (upd H3 a o)
theorem ps_dputD {k:Nat} {o i value:Expr} {td ty tv:TE} {pos' pos:Pos} (hr:Room k X.A) (ho:PE X o td) (hi:PE X i ty) (hv:PE X value tv) (hs:swapsWith value (some (.Subscript o i pos')) pos.line X.env=pure false) :
  PS X (.Assign [.Subscript o i pos'] value pos) (sDPutD X.prog X.w td ty tv):=by
 intro pins s σ H D I h
 have hu:=hr.units
 refine wpAny_Assign_Subscript (thn (hv pins s σ H _ I h) fun r s1 ⟨v,H1,I1,rv,q1⟩=>thn (ho pins s1 σ H1 _ I1 q1) fun u s2 ⟨x,H2,I2,rx,q2⟩=>thn (hi pins s2 σ H2 _ I2 q2) fun iv s3 ⟨y,H3,I3,ry,a,b,d,kvs,ex,ey,hd,h8,⟨xs,dic,rel⟩,hl,q3⟩=>?_) hs
 subst ex ey
 obtain rfl:u=Value.ref a:=rx
 obtain rfl:iv=Value.ref b:=ry
 have full:=dicH_of I3 dic
 have xl:xs.length < 1000:=by rw [← Paired.length rel]; exact hl
 refine wpAny_setItem_heap (knd:=dtKind X.prog X.w) (k:=d) (by show X.A.units + 1 + 9 < cLine; omega) ⟨datH_of I3 hd rfl,h8⟩ full (fun h' dd' hsb=>?_) (sz (by omega))
 have dp:DicPart X.prog X.w h' a (storedH xs d b r):=.of dd'
 refine ⟨σ,upd H3 a (dicO X.prog X.w a (storedH xs d b r)),d_write I3 (by rw [dic.at_]; exact True.intro) hsb (let ⟨q,_,_,hq,_⟩:=dd'; ⟨q,hq⟩) ⟨dp,(let ⟨q,_,_,hq,_⟩:=dd'; ⟨q,hq⟩),fun h1 h2 p1 k=>p1.keep k⟩,q3 _ ⟨_,⟨upd_same,dic.sys,?_,fun z hz=>?_⟩,rel.put d rv⟩⟩
 ·exact Nat.le_trans (storedH_len _ _ _ _) (by omega)
 ·rcases storedH_mem hz with ⟨z1,z2⟩ | ⟨y,hy,z1,z2⟩
  ·rw [z1,z2]; exact ⟨DtIs.updX dic.at_ hd,h8⟩
  ·rw [z1,z2]; exact ⟨DtIs.updX dic.at_ (dic.key y hy).1,(dic.key y hy).2⟩
end
def DRaw (h:Heap) (d:Addr) (ks:List Value) (ep:Nat):Prop:=∃ o es,h.get? d=some o∧o.ExactDict∧o.data=.dict es ep∧es.toList.map (·.key)=ks
theorem DRaw.at' {h h':Heap} {d:Addr} {ks:List Value} {ep:Nat} (q:DRaw h d ks ep) (k:∀ o,h.get? d=some o→h'.get? d=some o):DRaw h' d ks ep:=let ⟨o,es,ho,r⟩:=q; ⟨o,es,k o ho,r⟩
theorem DRaw.lt {h:Heap} {d:Addr} {ks:List Value} {ep:Nat} (q:DRaw h d ks ep):d < h.objs.size:=let ⟨_,_,ho,_⟩:=q; Heap.lt_size ho
theorem DRaw.typeIs {s:Shared} {d:Addr} {ks:List Value} {ep:Nat} (q:DRaw s.heap d ks ep):s.TypeIs (.ref d) "dict":=let ⟨o,_,ho,hc,_⟩:=q; ⟨o,ho,hc.1⟩
section
variable {P:Program} {w:World} {A:Around} {E:Value→Shared→Prop} {s:Shared} {d it:Addr} {ks:List Value} {ep n:Nat}
theorem drw_iter {Q:Value→Shared→Prop} (hd:(d == sysModules)=false) (q:DRaw s.heap d ks ep)
  (z:Q (.ref s.heap.objs.size) { s with heap:=s.heap.push { cls:=.type "dict_keyiterator",data:=.fields #[.ref d,.int 0 0,.int ks.length 0,.int ep 0] } }):wpAny (model P w) A (pyIter (.ref d)) Q E s:=by
 obtain ⟨o,es,ho,hc,dat,ek⟩:=id q
 have ty:=q.typeIs
 refine wpAny_pyIter_slot ty F.slot_dict_iter (wpAny_call_entry F.slot_dict_iter ty F.entry_dict_iter ?_ (F.args_dict_iter_1 _))
 unfold Builtin.«dict.__iter__»; refine wpAny_bind ?_; unfold Builtin.Dict.dictSlotNone; refine wpAny_bind (wpAny_notOrdered_dict ty ?_)
 show wpAny _ _ (pure (Value.ref d)) _ _ _
 refine wpAny_pure ?_; show wpAny _ _ (Builtin.Dict.showsAll d >>= _) _ _ _; unfold Builtin.Dict.showsAll
 rw [if_neg (fun e=>by rw [hd] at e; cases e)]
 refine wpAny_bind (wpAny_pure (wpAny_bind (wpAny_dictEntries ho dat (wpAny_bind (wpAny_dictEpoch ho dat ?_)))))
 have hn:es.size=ks.length:=by rw [← ek,List.length_map,Array.length_toList]
 refine wpAny_bind (wpAny_newObj_type (wpAny_pure ⟨_,rfl,"dict_keyiterator",_,⟨_,Heap.get?_push_size _ rfl,rfl⟩,F.slot_dict_keyiterator_next.lookup,by simpa [rawInt,hn] using z⟩))
theorem drw_item {u:Value} {Q:Option Value→Shared→Prop} (ik:s.heap.IsKeyIter it d n ks.length ep) (q:DRaw s.heap d ks ep) (hu:ks[n]?=some u)
  (z:∀ h',h'.IsKeyIter it d (n + 1) ks.length ep→Heap.SameBut it s.heap h'→Q (some u) { s with heap:=h' }):wpAny (model P w) A (pyNext (.ref it)) Q E s:=by
 obtain ⟨o,ho,hc,dat⟩:=id ik
 obtain ⟨od,es,hod,hcd,dd,ek⟩:=id q
 have hn:es.size=ks.length:=by rw [← ek,List.length_map,Array.length_toList]
 unfold pyNext
 refine wpAny_bind (wpAny_attempt (wpAny_callSpecial?_slot (name:=Str.ofString "__next__") ik.typeIs F.slot_dict_keyiterator_next (wpAny_call_entry F.slot_dict_keyiterator_next ik.typeIs F.entry_dict_keyiterator_next ?_ (F.args_dict_keyiterator_next_1 _))))
 refine wpAny_bind (wpAny_pure (wpAny_bind (wpAny_bind ?_)))
 first | refine wpAny_bind (wpAny_typeNameOfWhole_keyiter ik.typeIs (wpAny_pure ?_)) | refine wpAny_bind (wpAny_typeNameOf_keyiter ik.typeIs (wpAny_pure ?_))
 refine wpAny_bind (wpAny_fieldsOf ho dat ?_)
 have own:Builtin.Dict_items.ownsTuple "dict_keyiterator"=false:=by decide
 simp only [own,Bool.false_eq_true,if_false]
 show wpAny _ _ (if (Value.ref d == Value.none)=true then _ else _) _ _ _
 rw [if_neg (fun e:(Value.ref d == Value.none)=true=>Bool.false_ne_true e)]
 refine wpAny_bind (wpAny_pure (wpAny_bind (wpAny_dictEntries hod dd ?_)))
 rw [if_neg (by rw [hn]; simp)]
 refine wpAny_bind (wpAny_pure (wpAny_bind (wpAny_dictEpoch hod dd ?_)))
 rw [if_neg (by simp)]; refine wpAny_pure ?_
 have lt:n < es.size:=by rw [hn]; exact (List.getElem?_eq_some_iff.mp hu).1
 have key:es[n].key=u:=by
  rw [← ek,List.getElem?_map,Array.getElem?_toList,Array.getElem?_eq_getElem lt] at hu
  exact Option.some.inj hu
 simp only [show ¬ ((n:Int) < 0) from by omega,if_false,Int.toNat_natCast,Array.getElem?_eq_getElem lt]
 refine wpAny_bind ?_; first | refine wpAny_bind (wpAny_typeNameOfWhole_keyiter ik.typeIs (wpAny_pure ?_)) | refine wpAny_bind (wpAny_typeNameOf_keyiter ik.typeIs (wpAny_pure ?_))
 refine wpAny_bind (wpAny_isOneOf_keyiter ik.typeIs ?_)
 show wpAny _ _ (setField (.ref it) 1 (rawInt ((n:Int) + 1)) >>= _) _ _ s
 refine wpAny_bind (wpAny_setField ho dat (by simp) ?_)
 have ik':(s.heap.update it (Obj.mapFields (·.setIfInBounds 1 (rawInt ((n:Int) + 1))))).IsKeyIter it d (n + 1) ks.length ep :=
  ⟨_,Heap.get?_update_self _ ho (Obj.isFreed_of_fields (Obj.data_mapFields dat _)),(Obj.cls_mapFields ..).trans hc,by rw [Obj.data_mapFields dat]; simp [rawInt]⟩
 refine wpAny_bind (wpAny_holding (wpAny_bind (wpAny_isOneOf_keyiter (s:={ s with heap:=s.heap.update it (Obj.mapFields (·.setIfInBounds 1 (rawInt ((n:Int) + 1)))) }) ik'.typeIs ?_)))
 show wpAny _ _ (pure es[n].key) _ _ _
 rw [key]
 exact wpAny_pure (wpAny_pure ⟨_,rfl,wpAny_pure (z _ ik' (Heap.SameBut.update ..))⟩)
theorem drw_end {Q:Option Value→Shared→Prop} (hh:A.handled=none) (ik:s.heap.IsKeyIter it d n ks.length ep) (q:DRaw s.heap d ks ep) (hu:ks[n]?=none)
  (z:∀ h',Heap.ExtBut it s.heap h'→Q none { s with heap:=h' }):wpAny (model P w) A (pyNext (.ref it)) Q E s:=by
 obtain ⟨o,ho,hc,dat⟩:=id ik
 obtain ⟨od,es,hod,hcd,dd,ek⟩:=id q
 have hn:es.size=ks.length:=by rw [← ek,List.length_map,Array.length_toList]
 unfold pyNext
 refine wpAny_bind (wpAny_attempt (wpAny_callSpecial?_slot (name:=Str.ofString "__next__") ik.typeIs F.slot_dict_keyiterator_next (wpAny_call_entry F.slot_dict_keyiterator_next ik.typeIs F.entry_dict_keyiterator_next ?_ (F.args_dict_keyiterator_next_1 _))))
 refine wpAny_bind (wpAny_pure (wpAny_bind (wpAny_bind ?_)))
 first | refine wpAny_bind (wpAny_typeNameOfWhole_keyiter ik.typeIs (wpAny_pure ?_)) | refine wpAny_bind (wpAny_typeNameOf_keyiter ik.typeIs (wpAny_pure ?_))
 refine wpAny_bind (wpAny_fieldsOf ho dat ?_)
 have own:Builtin.Dict_items.ownsTuple "dict_keyiterator"=false:=by decide
 simp only [own,Bool.false_eq_true,if_false]
 show wpAny _ _ (if (Value.ref d == Value.none)=true then _ else _) _ _ _
 rw [if_neg (fun e:(Value.ref d == Value.none)=true=>Bool.false_ne_true e)]
 refine wpAny_bind (wpAny_pure (wpAny_bind (wpAny_dictEntries hod dd ?_)))
 rw [if_neg (by rw [hn]; simp)]
 refine wpAny_bind (wpAny_pure (wpAny_bind (wpAny_dictEpoch hod dd ?_)))
 rw [if_neg (by simp)]; refine wpAny_pure ?_
 have ge:es.size≤n:=by rw [hn]; simpa using hu
 simp only [show ¬ ((n:Int) < 0) from by omega,if_false,Int.toNat_natCast,Array.getElem?_eq_none ge]
 refine wpAny_bind ?_; first | refine wpAny_bind (wpAny_typeNameOfWhole_keyiter ik.typeIs (wpAny_pure ?_)) | refine wpAny_bind (wpAny_typeNameOf_keyiter ik.typeIs (wpAny_pure ?_))
 show wpAny _ _ (setField (.ref it) 0 .none >>= _) _ _ s
 refine wpAny_bind (wpAny_setField ho dat (by simp) ?_)
 show wpAny _ _ (newExc (.type "StopIteration") [] >>= _) _ _ (_:Shared)
 refine wpAny_bind ?_; simp only [newExc,newTuple]; refine wpAny_bind (wpAny_newObj_type ?_ (by size_fits)); refine wpAny_bind (m:=firstArgMember _ _) (wpAny_of_eq (a:=Value.none) (by first | rfl | (simp only [firstArgMember]; rfl)) ?_)
 refine wpAny_newObj_type ?_ (by size_fits); simp only [raiseNew]; refine wpAny_bind (wpAny_handled ?_)
 first | rw [show A.in1.handled=none from hh] | rw [hh]
 refine wpAny_bind (wpAny_pure (wpAny_throw ?_))
 exact wpAny_bind (wpAny_isInstance (T:="StopIteration") (b:=true) ⟨_,Heap.get?_push_size _ rfl,rfl⟩ isSubtype_stop (wpAny_pure (z _ (((Heap.SameBut.update ..).extBut.push _).push _))))
theorem walks_drw (hh:A.handled=none) (I d:Addr) (ne:d≠I) (ks:List Value) (ep:Nat) :
  Walks P w A I [I,d] [I] ks.length (fun i v=>ks[i]?=some v) (fun i h=>h.IsKeyIter I d i ks.length ep∧DRaw h d ks ep) where
 sub:=fun b hb=>by simp at hb; simp [hb]
 frame:=fun _ _ _ st k=>⟨st.1.at fun o e=>k I (by simp) o e,st.2.at' fun o e=>k d (by simp) o e⟩
 item:=fun i s Q E hi st z=>by
  refine drw_item st.1 st.2 (List.getElem?_eq_getElem hi) fun h' ik sb=>?_
  exact z _ h' s.toks (List.getElem?_eq_getElem hi) ⟨ik,st.2.at' fun o e=>sb.extBut _ _ ne e⟩ fun b o hb e=>sb.extBut b o (fun t=>hb (by simp [t])) e
 done:=fun s Q E st z=>drw_end hh st.1 st.2 (by simp) fun h' sb=>z h' s.toks fun b o hb e=>sb b o (fun t=>hb (by simp [t])) e
 self:=fun _ _ _ _ st z=>wpAny_pyIter_keyiter st.1 z
theorem src_drw (lo:(d == sysModules)=false):PySem.W.KdlSrc P w "dict" d d ks.length (fun i v=>ks[i]?=some v) (fun h=>DRaw h d ks ep) where
 type:=fun _ q=>q.typeIs
 there:=fun _ q=>⟨q.lt,q.lt⟩
 keep:=fun _ _ q k=>q.at' fun o e=>k d (.inl rfl) o e
 notList:=by decide
 notTuple:=by decide
 hint:=fun _ _ _ _ q z=>PySem.W.kdl_hint_dict q.typeIs z
 iter:=fun _ _ hh q=>⟨_,_,(fun _ _ z=>drw_iter lo q z),walks_drw hh _ d (Nat.ne_of_lt q.lt) ks ep,⟨⟨_,Heap.get?_push_size _ rfl,rfl,rfl⟩,q.at' fun o e=>Heap.get?_push_of_some _ e⟩⟩
theorem items_eq {P':Nat→Value→Prop} {acc:Array Value} (h:ItemsOf (fun i v=>ks[i]?=some v) acc ks.length):acc.toList=ks:=by
 obtain ⟨h1,h2⟩:=h
 apply List.ext_getElem?
 intro i
 by_cases hi:i < ks.length
 ·have:=h2 i (acc[i]'(by omega)) (by simp [show i < acc.size by omega])
  rw [this,Array.getElem?_toList,Array.getElem?_eq_getElem (by omega)]
 ·rw [List.getElem?_eq_none (by rw [Array.length_toList]; omega),List.getElem?_eq_none (by omega)]
theorem collect_drw (hh:A.handled=none) (lo:(d == sysModules)=false) (q:DRaw s.heap d ks ep) (hz:ks.length≤sizeLine) {Q:List Value→Shared→Prop}
  (k:∀ (h':Heap) tk,(∀ b o,s.heap.get? b=some o→h'.get? b=some o)→Q ks { s with heap:=h',toks:=tk }):wpAny (model P w) A (collect (.ref d)) Q E s:=by
 unfold collect
 refine wpAny_bind (wpAny_runValue (codeAny_builtin PySem.F.entry_proto_collect ?_))
 rw [Around.under_plainId PySem.F.plain_proto_collect _]
 have hlt:=q.lt
 have g0:(s.heap.push (seqObj "list" #[] 0)).get? s.heap.objs.size=some (seqObj "list" #[] 0):=Heap.get?_push_size _ rfl
 have q1:DRaw (s.heap.push (seqObj "list" #[] 0)) d ks ep:=q.at' fun o e=>Heap.get?_push_of_some _ e
 show wpAny _ A.in1 (newList [] >>= fun b=>again (.builtin "list.__iadd__" ⟨[b,.ref d],[]⟩)) _ _ s
 refine wpAny_bind (wpAny_newList (wpAny_pure ⟨plainId_quiet PySem.F.plain_list_iadd _,codeAny_builtin PySem.F.entry_list_iadd ?_⟩))
 rw [Around.under_plainId PySem.F.plain_list_iadd _]
 show wpAny _ A.in1 (Builtin.List.listExtendWith (.ref s.heap.objs.size) (.ref d) (.ref s.heap.objs.size)) _ _ { s with heap:=s.heap.push (seqObj "list" #[] 0) }
 have ne:s.heap.objs.size≠d:=Ne.symm (Nat.ne_of_lt hlt)
 refine PySem.W.kdl_extend (R:=fun r s'=>match r with
  | .ok (.ret v)=>wpAny (model P w) A (match v with
   | .ref a=>do
    match (← load a).data with
    | .seq xs _=>pure xs.toList
    | _=>unsupported "internal:collect"
   | _=>unsupported "internal:collect") Q E s'
  | .ok _=>False
  | .error e=>E e s') (s:={ s with heap:=s.heap.push (seqObj "list" #[] 0) }) (src_drw lo) hh q1 s.heap.objs.size ne ne (.ref s.heap.objs.size) 0 g0 (fun h' tk acc c kk gS it=>?_) hz
 show wpAny _ A (load s.heap.objs.size >>= _) _ _ _
 refine wpAny_bind (wpAny_load (s:={ s with heap:=h',toks:=tk }) gS (wpAny_pure ?_))
 have e:acc.toList=ks:=items_eq (P':=fun _ _=>True) it
 show Q acc.toList _
 rw [e]
 exact k h' tk fun b o eb=>kk b o (fun t=>by rw [t] at eb; exact absurd (Heap.lt_size eb) (Nat.lt_irrefl _)) (Heap.get?_push_of_some _ eb)
end
end BF
namespace BF
open PySem PySem.Spec PyProof.Rows L2 PySem.SeqAt
theorem KD.keys {kvs:List (Dt×V)} {xs:List (Dt×Addr×Value)} (r:KD kvs xs):kvs.map (·.1)=xs.map (·.1):=by
 induction r with
 | nil=>rfl
 | cons h _ ih=>rw [List.map_cons,List.map_cons,ih,h.1]
theorem vals_refs (xs:List (Dt×Addr×Value)):Vals (xs.map fun x=>V.ref x.2.1) (xs.map fun x=>Value.ref x.2.1):=by
 induction xs with
 | nil=>exact .nil
 | cons x _ ih=>exact .cons rfl ih
theorem dts_keys {P:Program} {w:World} {H:Hp}:∀ {xs:List (Dt×Addr×Value)},(∀ x∈xs,DtIs H (.ref x.2.1) x.1∧x.1.dp≤8)→DtsIs H (xs.map fun x=>V.ref x.2.1) (xs.map (·.1))
 | [],_=>.nil
 | x :: xs,h=>.cons (h x List.mem_cons_self).1 (dts_keys (P:=P) (w:=w) fun y hy=>h y (List.mem_cons_of_mem _ hy))
section
variable {X:Cx}
theorem raw_of {pins:List (Addr×Obj)} {σ:L2.St} {H:Hp} {s:Shared} {a:Addr} {xs:List (Dt×Addr×Value)} (I:Inv X pins σ H s) (d:DicH X.prog X.w H a xs):∃ ep,DRaw s.heap a (xs.map fun x=>Value.ref x.2.1) ep:=by
 obtain ⟨o,es,ep,ho,hc,dat,ek,_⟩:=dicH_of I d
 refine ⟨ep,o,es,ho,hc,dat,?_⟩
 rw [ek,List.map_map]
 rfl
theorem call_sortedD {k:Nat} (hr:Room k X.A):CallR X (.builtin "sorted") (fun xs H Q=>∃ (a:Addr) (kvs:List (Dt×V)) (T:String),xs=[.ref a]∧DicV X.prog X.w H a kvs∧(∀ p∈kvs,∃ e r,p.1=.tup (e :: r)∧e.tag=T)∧(∀ p∈kvs,∀ p'∈kvs,Dt.like p.1 p'.1=true) ∧
  ∀ l zs es,H l=none→DtsIs H zs es→es.Perm (kvs.map (·.1))→es.Pairwise (fun d d'=>Dt.blt d' d=false)→Q (.ref l) (upd H l (.lst zs))):=by
 intro pins s σ H xs us Q I r h
 obtain ⟨a,kvs,T,rfl,⟨ys,dic,kd⟩,hT,hL,q⟩:=h
 have hu:=hr.units
 obtain ⟨u,rfl,rx⟩:=vals1 r
 cases rx
 obtain ⟨ep,raw⟩:=raw_of I dic
 have hk:=kd.keys
 have kmem:∀ d∈ys.map (·.1),∃ p∈kvs,p.1=d:=fun d hd=>by
  rw [← hk] at hd
  obtain ⟨p,hp,e⟩:=List.mem_map.mp hd
  exact ⟨p,hp,e⟩
 have dk:=dts_keys (P:=X.prog) (w:=X.w) (H:=H) dic.key
 refine Calls.call_function_entry kind_sorted plain_sorted entry_sorted (args_sorted1 _) ?_
 unfold Builtin.«sorted»
 refine wpAny_bind (m:=checkCount "sorted" 1 1 _) (wpAny_pure (wpAny_bind (collect_drw (A:=X.A.in1) (show X.A.in1.handled=none from hr.hd) dic.sys raw (by rw [List.length_map]; exact sz dic.len) fun h' tk kk=>?_)))
 have I2:Inv X pins σ H { s with heap:=h',toks:=tk }:=I.kept kk
 refine sort_tail (T:=T) I2 (vals_refs ys) (by rw [List.length_map]; exact sz dic.len) dk (fun d hd=>?_) (fun d1 h1 d2 h2=>?_) (fun d hd=>?_) fun l zz ez h3 pz dz pe srt hl J=>?_
 ·obtain ⟨p,hp,rfl⟩:=kmem d hd
  exact hT p hp
 ·obtain ⟨p1,hp1,rfl⟩:=kmem d1 h1
  obtain ⟨p2,hp2,rfl⟩:=kmem d2 h2
  exact hL p1 hp1 p2 hp2
 ·obtain ⟨x,hx,rfl⟩:=List.mem_map.mp hd
  have:=(dic.key x hx).2
  show X.A.units + 1 + 4 + _ < _
  omega
 ·exact ⟨_,rfl,.ref l,upd H l (.lst zz),J,rfl,q l zz ez hl dz (by rw [hk]; exact pe) srt⟩
end
end BF
namespace BF
open PySem PySem.Spec PyProof.Rows L2
section
variable {X:Cx} {o e:Expr} {es:List Expr} {to:TE} {t:TA} {name:Str} {apos cpos:Pos} {id:String} {r:V→List V→Hp→VK→Prop}
def tBMD (P:Program) (w:World) (r:V→List V→Hp→VK→Prop) (to:TE) (t:TA):TE:=fun σ H Q=>to σ H fun x H1=>(∃ a kvs,x=.ref a∧DicV P w H1 a kvs)∧t σ H1 fun xs H2=>r x xs H2 Q
theorem pe_bmD (slot:Slot "dict" name id) (hty:typeOf (.builtin id)=pure (.type "method_descriptor")) (hm:MtR X id r) (ho:PE X o to) (ha:PA X (e :: es) t)
  (hbase:attributeBase o name X.env (eval o X.env)=eval o X.env:=by rfl)
  (hfew:((backTo cpos (starEach (e :: es) X.env)).all (fun x=>!x.1) && (backToKw cpos (keywordEach [] X.env)).all (fun x=>x.1.isSome) && decide ((e :: es).length + ([]:List Keyword).length + (if ([]:List Keyword).isEmpty then 0 else 1) < 30))=true:=by rfl)
  (hline:(apos.endLine == cpos.line)=true:=by rfl) (hs:starEach (e :: es) X.env=(false,eval e X.env) :: starEach es X.env:=by rfl) (hplain:(backTo cpos (starEach es X.env)).any (·.1)=false:=by rfl) :
  PE X (.Call (.Attribute o name apos) (e :: es) [] cpos) (tBMD X.prog X.w r to t):=by
 intro pins s σ H Q I h
 refine wpAny_Call_method_late hbase hfew hline rfl (thn (ho pins s σ H _ I h) fun v s1 ⟨x,H1,I1,r1,⟨a,kvs,ex,⟨xs,dic,_⟩⟩,q1⟩=>?_)
 subst ex
 cases r1
 obtain ⟨ob,_,_,e1,ex,_⟩:=dicH_of I1 dic
 refine ⟨"dict",id,F.plainAttrs_dict,slot,hty,⟨ob,e1,ex.1⟩,fun b e2=>by cases e2; exact ⟨ob,e1,ex.2.1⟩,?_⟩
 have hA:=ha cpos pins s1 σ H1 _ I1 q1
 rw [hs] at hA ⊢
 refine Calls.callWith_builtin (by show (false || (backTo cpos (starEach es X.env)).any (·.1))=false; rw [hplain] <;> rfl) (Calls.evalArgs_plain (thn hA fun us s2 ⟨vs,H2,I2,r2,q2⟩=>hm pins s2 σ H2 (.ref a) vs (.ref a) us Q I2 rfl r2 q2))
end
section
variable {P:Program} {w:World} {A:Around} {E:Value→Shared→Prop} {s:Shared} {K:Type} [DecidableEq K] {knd:HeapKind P w K}
theorem setDef_heap {d a:Addr} {xs:List (K×Addr×Value)} {k:K} {v:Value} {Q:Value→Shared→Prop} (hu:knd.room A) (hkey:knd.is s.heap k a) (hm:s.heap.DictOfH knd d xs)
  (h1:∀ p,atKey xs k=some p→Q p.2 { s with toks:=s.toks + knd.draws k })
  (h2:atKey xs k=none→∀ h',h'.DictOfH knd d (storedH xs k a v)→Heap.SameBut d s.heap h'→Q v { s with heap:=h',toks:=s.toks + knd.draws k }) (hsz:xs.length≤sizeLine) :
  wpAny (model P w) A (dictSetDefault d (.ref a) v) Q E s:=by
 obtain ⟨o,es,ep,ho,hc,hd,he,his,hn⟩:=hm
 unfold dictSetDefault; try with_reducible refine wpAny_holding ?_
 refine wpAny_bind (knd.pyHash hu hkey (wpAny_bind (wpAny_dictFind_heap (s:={ s with toks:=s.toks + knd.draws k }) hu hkey ho hd he his hn (fun hno=>?_) fun j p hj=>?_)))
 ·have hnot:k ∉ xs.map (·.1):=not_mem_keys_of_get hno
  refine wpAny_bind (wpAny_rule (wpAny_bind (wpAny_updateDictKeys (hz:=by have e:=size_of_entries he; omega) (s:={ s with toks:=s.toks + knd.draws k }) ho hd (wpAny_pure (h2 (atKey_none_of_get hno) _ ⟨_,_,ep + 1,Heap.get?_update_self _ ho (Obj.isFreed_of_dict (Obj.data_mapDictKeys hd _)),hc.mapDictKeys _,Obj.data_mapDictKeys hd _,?_,fun x hx=>?_,?_⟩ (Heap.SameBut.update ..))))))
  ·rw [storedH_new (atKey_none_of_get hno)]; simp [he,entryOfKey]
  ·rw [storedH_new (atKey_none_of_get hno)] at hx
   rcases List.mem_append.mp hx with hx | hx
   ·exact knd.keeps (his x hx) ho hd (Heap.SameBut.update ..)
   ·have e':=List.mem_singleton.mp hx
    subst e'
    exact knd.keeps hkey ho hd (Heap.SameBut.update ..)
  ·rw [storedH_new (atKey_none_of_get hno),List.map_append,List.nodup_append]
   refine ⟨hn,by simp,fun x hx y hy e'=>?_⟩
   have ey:=List.mem_singleton.mp hy
   rw [e',ey] at hx
   exact hnot hx
 ·refine wpAny_bind (wpAny_dictEntries (s:={ s with toks:=s.toks + knd.draws k }) ho hd ?_)
  rw [entry_at he j,hj]
  exact wpAny_bind (wpAny_rule (wpAny_pure (h1 p (atKey_of_get hn hj))))
end
section
variable {X:Cx}
theorem mt_setDef {k:Nat} (hr:Room k X.A):MtR X "dict.setdefault" (fun x vs H Q=>∃ (a b:Addr) (d:Dt) (kvs:List (Dt×V)) (v:V),x=.ref a∧vs=[.ref b,v]∧DtIs H (.ref b) d∧d.dp≤8∧DicV X.prog X.w H a kvs∧kvs.length < 1000 ∧
  (∀ u,valV kvs d=some u→Q u H)∧(valV kvs d=none→∀ o,DicV X.prog X.w (upd H a o) a (putK kvs d v)→Q v (upd H a o))):=by
 intro pins s σ H x vs v us Q I rx rv h
 obtain ⟨a,b,d,kvs,y,rfl,rfl,hd,h8,⟨xs,dic,kd⟩,hl,q1,q2⟩:=h
 have hu:=hr.units
 cases rx
 cases rv with
 | cons r1 r2 =>
  cases r2 with
  | cons r2 r3 =>
   cases r3
   cases r1
   rename_i dv
   have full:=dicH_of I dic
   have xl:xs.length < 1000:=by rw [← Paired.length kd]; exact hl
   have rel:=kd.val d
   refine wpAny_call_entry F.slot_dict_setdefault full.typeIs F.entry_dict_setdefault ?_ (F.args_dict_setdefault_3 _ _ _)
   unfold Builtin.«dict.setdefault»
   refine wpAny_bind ?_; unfold Builtin.Dict.keyAndDefault; refine wpAny_bind (wpAny_notOrdered_dict full.typeIs ?_)
   show wpAny _ _ (pure (a,Value.ref b,some dv)) _ _ s
   refine wpAny_pure ?_
   show wpAny _ _ (if (a == sysModules)=true then _ else (dictSetDefault a (.ref b) dv >>= _)) _ _ s
   rw [if_neg (fun e=>by rw [dic.sys] at e; cases e)]
   refine wpAny_bind (setDef_heap (knd:=dtKind X.prog X.w) (k:=d) (by show X.A.units + 1 + 9 < cLine; omega) ⟨datH_of I hd rfl,h8⟩ full (fun p hp=>?_) (fun hno h' dd' hsb=>?_) (sz (by omega)))
   ·rw [hp] at rel
    cases hv:valV kvs d with
    | none=>rw [hv] at rel; exact absurd rel id
    | some u=>rw [hv] at rel; exact wpAny_pure ⟨p.2,rfl,u,H,I.tok _,rel,q1 u hv⟩
   ·rw [hno] at rel
    cases hv:valV kvs d with
    | some u=>rw [hv] at rel; exact absurd rel id
    | none =>
     have dp:DicPart X.prog X.w h' a (storedH xs d b dv):=.of dd'
     refine wpAny_pure ⟨dv,rfl,y,upd H a (dicO X.prog X.w a (storedH xs d b dv)),d_write I (by rw [dic.at_]; exact True.intro) hsb (let ⟨q,_,_,hq,_⟩:=dd'; ⟨q,hq⟩) ⟨dp,(let ⟨q,_,_,hq,_⟩:=dd'; ⟨q,hq⟩),fun h1 h2 p1 k=>p1.keep k⟩,r2,q2 hv _ ⟨_,⟨upd_same,dic.sys,?_,fun z hz=>?_⟩,kd.put d r2⟩⟩
     ·exact Nat.le_trans (storedH_len _ _ _ _) (by omega)
     ·rcases storedH_mem hz with ⟨z1,z2⟩ | ⟨y',hy,z1,z2⟩
      ·rw [z1,z2]; exact ⟨DtIs.updX dic.at_ hd,h8⟩
      ·rw [z1,z2]; exact ⟨DtIs.updX dic.at_ (dic.key y' hy).1,(dic.key y' hy).2⟩
end
theorem putK_mem (kvs:List (Dt×V)) (k:Dt) (v:V) (d:Dt):d∈(putK kvs k v).map (·.1)↔d=k∨d∈kvs.map (·.1):=by
 constructor
 ·intro h
  by_cases e:d=k
  ·exact .inl e
  ·right
   cases hv:valV kvs d with
   | some u=>exact valV_in hv
   | none =>
    have h2:=valV_put kvs k d v
    rw [if_neg e,hv] at h2
    exact absurd h (valV_not h2)
 ·rintro (e | e)
  ·have h2:=valV_put kvs k d v
   rw [if_pos e] at h2
   exact valV_in h2
  ·by_cases e':d=k
   ·have h2:=valV_put kvs k d v
    rw [if_pos e'] at h2
    exact valV_in h2
   ·have h2:=valV_put kvs k d v
    rw [if_neg e'] at h2
    cases hv:valV kvs d with
    | some u=>rw [hv] at h2; exact valV_in h2
    | none=>exact absurd e (valV_not hv)
theorem putK_nd (kvs:List (Dt×V)) (k:Dt) (v:V) (hn:(kvs.map (·.1)).Nodup):((putK kvs k v).map (·.1)).Nodup:=by
 cases hv:valV kvs k with
 | none=>exact nd_putK v hn hv
 | some u =>
  have e:(putK kvs k v).map (·.1)=kvs.map (·.1):=by
   unfold putK
   rw [if_pos (by rw [valV_any,hv]; rfl),List.map_map]
   apply List.map_congr_left
   intro p _
   show (if p.1=k then (p.1,v) else p).1=p.1
   split <;> rfl
  rw [e]
  exact hn
theorem putK_len (kvs:List (Dt×V)) (k:Dt) (v:V):(putK kvs k v).length≤kvs.length + 1:=by
 unfold putK
 split
 ·rw [List.length_map]; omega
 ·simp
section
variable {X:Cx} {pins:List (Addr×Obj)} {σ:L2.St} {H:Hp} {s:Shared} {h':Heap}
theorem inv_turns {t':Nat} {L:List Addr} (I:Inv X pins σ H s) (k:∀ b o,b ∉ L→s.heap.get? b=some o→h'.get? b=some o) (f:∀ b∈L,FpOk X pins H b):Inv X pins σ H { s with heap:=h',toks:=t' }:=by
 have nl:∀ b u,H b=some u→b ∉ L:=fun b u e z=>by rw [(f b z).1] at e; cases e
 have hL:X.env.locals ∉ L:=fun z=>(f _ z).2.1 rfl
 refine I.step (g':=s.gens) (d':=s.drawn) (ch:=L) (fun b hb=>?_) (fun b o _ _ hc e _=>k b o hc e) (fun b o _ _ hc e _=>⟨o.slots,k b o hc e⟩) (fun _ _ _ _ n=>n)
  (fun b o hc e=>⟨o,k b o hc e⟩) (fun _ _ e=>e) (fun _ _ _ e=>e) (fun b ps e=>⟨#[],by rw [e]; simp⟩) (fun m hm=>?_) (fun b u e=>?_) I.bare
 ·obtain ⟨f0,f1,f2,f3,f4,f5⟩:=f b hb
  exact ⟨f3,f1,f4,f5⟩
 ·obtain ⟨o,es,ep,ho,r⟩:=hm
  exact ⟨o,es,ep,k _ o hL ho,r⟩
 ·refine (I.hok b u e).stay (fun c v hc q=>k c v ?_ q) (fun _ q=>q) fun _ _ q=>q
  rcases hc with z | z
  ·rw [z]; exact nl b u e
  ·exact nl c _ z
end
def Ite (K:PySem.W.Frag) (a:Addr):It :=
 ⟨fun i H=>∃ xs x,SqL K H a xs∧xs[i]?=some x,fun i H v H'=>∃ p x,v=.ref p∧H p=none∧H'=upd H p (.tup [.int i,x])∧∀ xs,SqL K H a xs→xs[i]?=some x,fun i H=>∃ xs,SqL K H a xs∧xs.length≤i⟩
theorem two_fits:2≤sizeLine:=by decide
theorem enum_self {P:Program} {w:World} {A:Around} {E:Value→Shared→Prop} {s:Shared} {e it:Addr} {i:Int} {old:Value} {Q:Value→Shared→Prop} (he:IsEnum s.heap e it i old) (q:Q (.ref e) s):wpAny (model P w) A (pyIter (.ref e)) Q E s:=by
 have ty:s.TypeIs (.ref e) "enumerate":=⟨_,he,rfl⟩
 refine wpAny_pyIter_slot ty F.slot_enumerate_iter (wpAny_call_entry F.slot_enumerate_iter ty F.entry_enumerate_iter ?_ (F.args_enumerate_iter_1 _))
 show wpAny _ _ (ret (.ref e)) _ _ s
 exact wpAny_pure ⟨_,rfl,"enumerate",_,ty,F.slot_enumerate_next.lookup,q⟩
theorem turn_enum {P:Program} {w:World} {K:PySem.W.Frag} {es:List Expr} {n:Nat} {p:Pos} {e it a:Addr} (ne:e≠it) :
  Turn P w K (.Tuple es n p) (Ite K a) [e,it] e (fun i h=>(∃ old,IsEnum h e it (i:Int) old)∧h.IsListIter it a i) where
 mem:=by simp
 obj:=fun i h st c hc=>by
  obtain ⟨⟨old,he⟩,hi⟩:=st
  simp only [List.mem_cons,List.not_mem_nil,or_false] at hc
  rcases hc with rfl | rfl
  ·exact ⟨_,he,fun v t=>by have t':Data.fields _=Data.cell v:=t; cases t'⟩
  ·obtain ⟨o,e',_,d⟩:=hi
   exact ⟨o,e',fun v z=>by rw [d] at z; cases z⟩
 keep:=fun i h h' st k=>by
  obtain ⟨⟨old,he⟩,hi⟩:=st
  exact ⟨⟨old,k e (by simp) _ he⟩,hi.at fun o e'=>k it (by simp) o e'⟩
 item:=by
  intro X hP hw hK hc i pins s σ H E I hf st hg
  subst hP hw hK
  obtain ⟨xs,x,q,hx⟩:=hg
  obtain ⟨⟨old,he⟩,hi⟩:=st
  obtain ⟨us,ru,pu,_⟩:=I.list q
  obtain ⟨u,hu,eu⟩:=ru.get hx
  refine wpAny_pyNext_enum_item he hi pu.isList (x:=u) (by simpa using hu) ne fun h1 he1 hi1 pr sz1 k1=>?_
  refine ⟨_,rfl,wpAny_letOwnedTupleGo_enum (s:={ s with heap:=h1,toks:=s.toks + 1 }) he1 fun h2 he2 sb=>?_⟩
  have hfr:H s.heap.objs.size=none:=I.hok.fresh (Nat.le_refl _)
  have Im:Inv X pins σ (upd H s.heap.objs.size (.tup [.int (i:Int),x])) { s with heap:=s.heap.push { cls:=.type "tuple",data:=.seq #[.int i s.toks,u] },toks:=s.toks + 1 } :=
   I.laid (fun b o e=>Heap.get?_push_of_some _ e) (Nat.le_refl _) ⟨two_fits,[.int i s.toks,u],.cons ⟨_,rfl⟩ (.cons eu .nil),⟨_,Heap.get?_push_size _ rfl,rfl,_,rfl⟩⟩
  have nfp:∀ c∈[e,it],c≠s.heap.objs.size:=fun c hc' t=>by
   have lt:c < s.heap.objs.size:=by
    simp only [List.mem_cons,List.not_mem_nil,or_false] at hc'
    rcases hc' with rfl | rfl
    ·exact Heap.lt_size he
    ·obtain ⟨o,e',_⟩:=hi; exact Heap.lt_size e'
   exact absurd lt (by rw [t]; exact Nat.lt_irrefl _)
  have ff:∀ c∈[e,it],FpOk X pins (upd H s.heap.objs.size (.tup [.int (i:Int),x])) c:=fun c hc'=>by
   obtain ⟨f0,fr⟩:=hf c hc'
   exact ⟨by rw [upd_ne (nfp c hc')]; exact f0,fr⟩
  have kk:∀ c o,c ∉ [e,it]→(s.heap.push { cls:=.type "tuple",data:=.seq #[.int i s.toks,u] }).get? c=some o→h2.get? c=some o:=fun c o hc' e'=>by
   have ce:c≠e:=fun t=>hc' (by simp [t])
   have ci:c≠it:=fun t=>hc' (by simp [t])
   rcases Heap.get?_push_cases e' with ⟨rfl,rfl⟩ | e'
   ·exact sb.extBut _ _ ce pr
   ·exact sb.extBut _ _ ce (k1 c o ce ci e')
  have I2:=inv_turns (h':=h2) (t':=s.toks + 1) Im kk ff
  refine ⟨.ref s.heap.objs.size,upd H s.heap.objs.size (.tup [.int (i:Int),x]),I2,rfl,⟨_,x,rfl,hfr,rfl,fun xs' q'=>?_⟩,?_,fun c hc'=>(ff c hc').1⟩
  ·rw [I.list_inj q' q]; exact hx
  ·exact ⟨⟨u,he2⟩,hi1.at fun o e'=>sb.extBut _ _ (Ne.symm ne) e'⟩
 done:=by
  intro X hP hw hK hc i pins s σ H E I hf st hg
  subst hP hw hK
  obtain ⟨xs,q,hl⟩:=hg
  obtain ⟨⟨old,he⟩,hi⟩:=st
  obtain ⟨us,ru,pu,_⟩:=I.list q
  have l1:=ru.length
  exact wpAny_pyNext_enum_end (I.ok.hd hc) he hi pu.isList (by simp; omega) fun h1 k1 =>
   ⟨rfl,inv_turns (t':=s.toks) (L:=[e,it]) I (fun c o hc' e'=>k1 c o (fun t=>hc' (by simp [t])) e') hf⟩
 self:=fun _ _ _ _ _ st h=>by
  obtain ⟨⟨old,he⟩,_⟩:=st
  exact enum_self he h
section
variable {X:Cx}
def iEnum (K:PySem.W.Frag) (ta:TA):TI:=fun σ H R=>ta σ H fun vs H1=>∃ a xs,vs=[.ref a]∧SqL K H1 a xs∧R (Ite K a) H1
theorem pi_enum {es:List Expr} {n:Nat} {pt:Pos} {a:Expr} {ta:TA} {p pos:Pos} (hg:Gl X "enumerate") (hm:X.mg "enumerate"=none) (ha:PA X [a] ta) (hs:starEach [a] X.env=[(false,eval a X.env)]:=by rfl) :
  PI X (.Tuple es n pt) (.Call (.Name "enumerate" p) [a] [] pos) (iEnum X.K ta):=by
 intro pins s σ H R I h
 refine Call_ (ld_blt I hg hm boot_enumerate (PyProof.Rows.callWith_type1 (thn (ha pos pins s σ H _ I h) fun us s1 ⟨vs,H1,I1,r1,q1⟩=>?_) hs rfl))
 obtain ⟨x,xs,e,q,qr⟩:=q1
 subst e
 cases r1 with
 | cons r rr =>
  cases rr
  cases r
  obtain ⟨us,ru,pu,_⟩:=I1.list q
  refine call_enumerate_list pu.isList fun h' he hi _ k=>?_
  refine enum_self (s:={ s1 with heap:=h' }) he ?_
  refine ⟨_,_,_,_,H1,rfl,I1.kept (t':=s1.toks) k,turn_enum (Ne.symm (Nat.ne_of_lt (Nat.lt_succ_self _))),⟨⟨_,he⟩,hi⟩,fun c hc=>?_,qr⟩
  have hs:s1.heap.objs.size≤c:=by
   simp only [List.mem_cons,List.not_mem_nil,or_false] at hc
   rcases hc with rfl | rfl
   ·exact Nat.le_succ _
   ·exact Nat.le_refl _
  exact I1.fpOk hs (I1.hok.fresh hs)
end
section
variable {X:Cx}
theorem call_lenV:CallR X (.builtin "len") (fun xs H Q=>∃ (a:Addr) (kvs:List (Dt×V)),xs=[.ref a]∧DicV X.prog X.w H a kvs∧Q (.int kvs.length) H):=by
 intro pins s σ H xs us Q I r h
 obtain ⟨a,kvs,rfl,⟨ys,dic,kd⟩,q⟩:=h
 obtain ⟨u,rfl,rx⟩:=vals1 r
 cases rx
 obtain ⟨ep,raw⟩:=raw_of I dic
 obtain ⟨o,es,ho,hex,dat,ek⟩:=id raw
 have ty:=raw.typeIs
 have hn:es.size=kvs.length:=by
  have h1:es.toList.length=ys.length:=by rw [← List.length_map (f:=(·.key)),ek,List.length_map]
  have h2:kvs.length=ys.length:=Paired.length kd
  rw [← Array.length_toList,h1,h2]
 have hl:kvs.length≤1000:=by rw [show kvs.length=ys.length from Paired.length kd]; exact dic.len
 refine PyProof.Rows.call_len_slot (n:=(kvs.length:Int)) ty F.slot_dict_len (fun Q' hq=>?_) (by omega) (by omega) ⟨.int kvs.length,H,I.tok _,⟨_,rfl⟩,q⟩
 refine wpAny_call_entry F.slot_dict_len ty F.entry_dict_len ?_ (F.args_dict_len_1 _)
 unfold Builtin.«dict.__len__»; refine wpAny_bind ?_; unfold Builtin.Dict.dictSlotNone; refine wpAny_bind (wpAny_notOrdered_dict ty ?_)
 show wpAny _ _ (pure (Value.ref a)) _ _ _
 refine wpAny_pure ?_
 show wpAny _ _ (dictSize a >>= _) _ _ s
 unfold dictSize
 refine wpAny_bind (wpAny_bind (wpAny_dictEntries ho dat (wpAny_pure ?_)))
 refine wpAny_bind (m:=Builtin.Dict.pendingCount a) (wpAny_pendingCount_other dic.sys ?_)
 have e0:((es.size:Int) + ((0:Nat):Int))=(kvs.length:Int):=by rw [hn]; simp
 show wpAny _ _ (retInt ((es.size:Int) + ((0:Nat):Int))) _ _ s
 rw [e0]
 exact wpAny_bind (wpAny_mkInt (wpAny_pure ⟨_,rfl,hq⟩))
end
end BF
namespace BF
open PySem PySem.Spec PySem.Calls PyProof.Rows L2
def DEnt (h:Heap) (d:Addr) (es:Array DictEntry) (ep:Nat):Prop:=∃ o,h.get? d=some o∧o.ExactDict∧o.data=.dict es ep
theorem DEnt.at' {h h':Heap} {d:Addr} {es:Array DictEntry} {ep:Nat} (q:DEnt h d es ep) (k:∀ o,h.get? d=some o→h'.get? d=some o):DEnt h' d es ep:=let ⟨o,ho,r⟩:=q; ⟨o,k o ho,r⟩
theorem DEnt.lt {h:Heap} {d:Addr} {es:Array DictEntry} {ep:Nat} (q:DEnt h d es ep):d < h.objs.size:=let ⟨_,ho,_⟩:=q; Heap.lt_size ho
theorem DEnt.typeIs {s:Shared} {d:Addr} {es:Array DictEntry} {ep:Nat} (q:DEnt s.heap d es ep):s.TypeIs (.ref d) "dict":=let ⟨o,ho,hc,_⟩:=q; ⟨o,ho,hc.1⟩
abbrev itO (x:Value) (f:Bool) (d:Addr) (i n ep:Nat) (ok ov:Value):Obj:={ cls:=.type "dict_itemiterator",dict:=none,data:=.fields #[x,.bool f,.ref d,.int i 0,.int n 0,.int ep 0,ok,ov],slots:=#[] }
def ItS (h:Heap) (it d S:Addr) (i n ep:Nat):Prop:=∃ x f ok ov,h.get? it=some (itO x f d i n ep ok ov)∧((x=.none∧f=false)∨∃ (a:Addr) (oa:Obj),x=rawInt a∧h.get? a=some oa∧a≠it∧a≠S)
theorem ItS.keep {h h':Heap} {it d S:Addr} {i n ep:Nat} (q:ItS h it d S i n ep) (k:∀ b o,b≠S→h.get? b=some o→h'.get? b=some o) (ne:it≠S):ItS h' it d S i n ep:=by
 obtain ⟨x,f,ok,ov,e,r⟩:=q
 refine ⟨x,f,ok,ov,k _ _ ne e,r.imp id fun ⟨a,oa,e1,e2,e3,e4⟩=>⟨a,oa,e1,k _ _ e4 e2,e3,e4⟩⟩
section
variable {P:Program} {w:World} {A:Around} {E:Value→Shared→Prop} {s:Shared} {d it S:Addr} {es:Array DictEntry} {ep i:Nat}
theorem it_view {Q:Value→Shared→Prop} (lo:(d == sysModules)=false) (q:DEnt s.heap d es ep)
  (z:Q (.ref s.heap.objs.size) { s with heap:=s.heap.push { cls:=.type "dict_items",data:=.fields #[.ref d] } }):wpAny (model P w) A (call (.builtin "dict.items") [.ref d]) Q E s:=by
 refine wpAny_call_entry PySem.F.slot_dict_items q.typeIs PySem.F.entry_dict_items ?_ (PySem.F.args_dict_items_1 _)
 unfold Builtin.«dict.items»
 refine wpAny_bind ?_
 unfold Builtin.Dict.noArgs
 refine wpAny_bind (wpAny_notOrdered_dict q.typeIs ?_)
 show wpAny _ _ (pure d) _ _ s
 refine wpAny_pure ?_
 show wpAny _ _ (Builtin.Dict.showsAll d >>= _) _ _ s
 unfold Builtin.Dict.showsAll
 rw [if_neg (by rw [lo]; exact Bool.false_ne_true)]
 exact wpAny_bind (wpAny_pure (wpAny_bind (wpAny_newObj_type (wpAny_pure ⟨_,rfl,z⟩))))
theorem it_iter {v:Addr} {Q:Value→Shared→Prop} (hv:s.heap.IsItemsView v d) (q:DEnt s.heap d es ep)
  (z:Q (.ref s.heap.objs.size) { s with heap:=s.heap.push (itO .none false d 0 es.size ep .none .none) }):wpAny (model P w) A (pyIter (.ref v)) Q E s:=by
 obtain ⟨ov,hov,hcv,hdv⟩:=id hv
 obtain ⟨o,ho,hc,dat⟩:=id q
 refine wpAny_pyIter_slot hv.typeIs F.slot_dict_items_iter (wpAny_call_entry F.slot_dict_items_iter hv.typeIs F.entry_dict_items_iter ?_ (F.args_dict_items_iter_1 _))
 unfold Builtin.«dict_items.__iter__»
 refine wpAny_bind (wpAny_pure (wpAny_bind ?_))
 unfold Builtin.Dict_items.dictOf
 refine wpAny_bind (wpAny_field hov hdv (x:=.ref d) rfl (wpAny_pure (wpAny_bind ?_)))
 unfold Builtin.Dict_items.newIterator
 refine wpAny_bind (wpAny_dictEntries ho dat (wpAny_bind (wpAny_dictEpoch ho dat ?_)))
 have own:Builtin.Dict_items.ownsTuple "dict_itemiterator"=true:=by decide
 simp only [own,if_true]
 refine wpAny_newObj_type (wpAny_pure ⟨_,rfl,"dict_itemiterator",_,⟨_,Heap.get?_push_size _ rfl,rfl⟩,F.slot_dict_itemiterator_next.lookup,?_⟩)
  (by simp only [sizeOk,Builtin.Dict_items.ownedTupleFields,List.size_toArray,List.length_append,List.length_cons,List.length_nil,sizeLine_eq]; omega)
 simpa [itO,rawInt,Builtin.Dict_items.ownedTupleFields] using z
theorem it_next {e:DictEntry} {Q:Option Value→Shared→Prop} (st:ItS s.heap it d S i es.size ep) (q:DEnt s.heap d es ep) (hS:S < s.heap.objs.size) (hx:es[i]?=some e)
  (z:∀ h',ItS h' it d S (i + 1) es.size ep→h'.get? s.heap.objs.size=some { cls:=.type "tuple",data:=.seq #[e.key,e.val] }→h'.objs.size=s.heap.objs.size + 1 →
   (∀ b o,b≠it→s.heap.get? b=some o→h'.get? b=some o)→Q (some (.ref s.heap.objs.size)) { s with heap:=h' }):wpAny (model P w) A (pyNext (.ref it)) Q E s:=by
 obtain ⟨hp,g,dr,tk,os⟩:=s
 obtain ⟨x0,f,ok,ov,hit,own⟩:=st
 obtain ⟨od,hod,hcd,hdd⟩:=id q
 dsimp only at hit hS z
 have hT:Shared.TypeIs ⟨hp,g,dr,tk,os⟩ (.ref it) "dict_itemiterator":=⟨_,hit,rfl⟩
 unfold pyNext
 refine wpAny_bind (wpAny_attempt (wpAny_callSpecial?_slot (name:=Str.ofString "__next__") hT F.slot_dict_itemiterator_next
  (wpAny_call_entry F.slot_dict_itemiterator_next hT F.entry_dict_itemiterator_next ?_ (F.args_dict_itemiterator_next_1 _))))
 refine wpAny_bind (wpAny_pure (wpAny_bind (wpAny_bind ?_)))
 first | refine wpAny_bind (wpAny_typeNameOfWhole_itemiter hT (wpAny_pure ?_)) | refine wpAny_bind (wpAny_typeNameOf_itemiter hT (wpAny_pure ?_))
 refine wpAny_bind (wpAny_fieldsOf hit rfl ?_)
 have hown:Builtin.Dict_items.ownsTuple "dict_itemiterator"=true:=by decide
 simp only [hown,if_true]
 show wpAny _ _ (if (Value.ref d == Value.none)=true then _ else _) _ _ _
 rw [if_neg (show ¬ ((Value.ref d == Value.none)=true) from Bool.false_ne_true)]
 refine wpAny_bind (wpAny_pure (wpAny_bind (wpAny_dictEntries hod hdd ?_)))
 rw [if_neg (by simp)]
 refine wpAny_bind (wpAny_pure (wpAny_bind (wpAny_dictEpoch hod hdd ?_)))
 rw [if_neg (by simp)]
 refine wpAny_pure ?_
 have lt:i < es.size:=by
  rcases Nat.lt_or_ge i es.size with h | h
  ·exact h
  ·rw [Array.getElem?_eq_none h] at hx; cases hx
 have ee:es[i]=e:=by rw [Array.getElem?_eq_getElem lt] at hx; exact Option.some.inj hx
 simp only [show ¬ ((i:Int) < 0) from by omega,if_false,Int.toNat_natCast,Array.getElem?_eq_getElem lt]
 rw [ee]
 refine wpAny_bind ?_
 first | refine wpAny_bind (wpAny_typeNameOfWhole_itemiter hT (wpAny_pure ?_)) | refine wpAny_bind (wpAny_typeNameOf_itemiter hT (wpAny_pure ?_))
 refine wpAny_bind (wpAny_isOneOf_itemiter hT ?_)
 show wpAny _ _ (setField (.ref it) 3 (rawInt ((i:Int) + 1)) >>= _) _ _ ⟨hp,g,dr,tk,os⟩
 refine wpAny_bind (wpAny_setField_rec hit (by simp) fun h1 e1 s1=>?_)
 replace s1:Heap.SameBut it hp h1:=s1
 replace e1:h1.get? it=some (itO x0 f d (i + 1) es.size ep ok ov):=by
  have e:((i + 1:Nat):Int)=(i:Int) + 1:=by omega
  unfold itO; rw [e]; simpa [rawInt] using e1
 have hT1:Shared.TypeIs ⟨h1,g,dr,tk,os⟩ (.ref it) "dict_itemiterator":=⟨_,e1,rfl⟩
 refine wpAny_bind (wpAny_holding (wpAny_bind (wpAny_isOneOf_itemiter hT1 (wpAny_bind (wpAny_isOneOf_itemiter hT1 ?_)))))
 show wpAny _ _ (Builtin.Dict_items.pairFromOwner (.ref it) 6 e.key e.val) _ _ ⟨h1,g,dr,tk,os⟩
 unfold Builtin.Dict_items.pairFromOwner
 refine wpAny_bind (wpAny_newTuple ?_)
 have sz1:h1.objs.size=hp.objs.size:=s1.1
 have il:it < hp.objs.size:=Heap.lt_size hit
 have e2:(h1.push { cls:=.type "tuple",data:=.seq #[e.key,e.val] }).get? it=some (itO x0 f d (i + 1) es.size ep ok ov):=Heap.get?_push_of_some _ e1
 have t2:(h1.push { cls:=.type "tuple",data:=.seq #[e.key,e.val] }).get? hp.objs.size=some { cls:=.type "tuple",data:=.seq #[e.key,e.val] }:=by rw [← sz1]; exact Heap.get?_push_size _ rfl
 have z2:(h1.push { cls:=.type "tuple",data:=.seq #[e.key,e.val] }).objs.size=hp.objs.size + 1:=by rw [Heap.size_push,sz1]
 have k2:∀ b o,b≠it→hp.get? b=some o→(h1.push { cls:=.type "tuple",data:=.seq #[e.key,e.val] }).get? b=some o:=fun b o hb e'=>Heap.get?_push_of_some _ (s1.extBut b o hb e')
 rw [sz1]
 revert e2 t2 z2 k2
 generalize h1.push { cls:=.type "tuple",data:=.seq #[e.key,e.val] }=h2
 intro e2 t2 z2 k2
 have fin:∀ (h3:Heap) (x:Value) (f':Bool) (k' v':Value),h3.get? it=some (itO x f' d (i + 1) es.size ep k' v')→Heap.SameBut it h2 h3→((∃ (a:Addr) (oa:Obj),x=rawInt a∧h2.get? a=some oa∧a≠it∧a≠S))→Q (some (.ref hp.objs.size)) ⟨h3,g,dr,tk,os⟩:=fun h3 x f' k' v' e3 s3 ⟨a,oa,r1,r2,r3,r4⟩ =>
  z h3 ⟨x,f',k',v',e3,.inr ⟨a,oa,r1,s3.extBut _ _ r3 r2,r3,r4⟩⟩ (s3.extBut _ _ (Nat.ne_of_gt il) t2) (by show h3.objs.size=hp.objs.size + 1; rw [s3.1,z2]) fun b o hb e'=>s3.extBut b o hb (k2 b o hb e')
 show wpAny _ _ (Builtin.Dict_items.ownedTupleIsFree (.ref it) >>= _) _ _ ⟨h2,g,dr,tk,os⟩
 refine wpAny_bind ?_
 unfold Builtin.Dict_items.ownedTupleIsFree
 rcases own with ⟨rfl,rfl⟩ | ⟨a,oa,rfl,ha,ai,aS⟩
 ·refine wpAny_bind (wpAny_field e2 rfl (x:=.none) rfl (wpAny_pure ?_))
  simp only [if_true]
  refine wpAny_bind (wpAny_field e2 rfl (x:=ok) rfl (wpAny_bind (wpAny_field e2 rfl (x:=ov) rfl ?_)))
  refine wpAny_bind (wpAny_setField_rec e2 (by simp) fun h3 e3 s3=>?_)
  replace s3:Heap.SameBut it h2 h3:=s3
  replace e3:h3.get? it=some (itO .none false d (i + 1) es.size ep e.key ov):=e3
  refine wpAny_bind (wpAny_setField_rec e3 (by simp) fun h4 e4 s4=>?_)
  replace s4:Heap.SameBut it h3 h4:=s4
  replace e4:h4.get? it=some (itO .none false d (i + 1) es.size ep e.key e.val):=e4
  refine wpAny_bind (wpAny_setField_rec e4 (by simp) fun h5 e5 s5=>?_)
  replace s5:Heap.SameBut it h4 h5:=s5
  replace e5:h5.get? it=some (itO (rawInt hp.objs.size) false d (i + 1) es.size ep e.key e.val):=e5
  refine wpAny_bind (wpAny_setField_rec e5 (by simp) fun h6 e6 s6=>?_)
  replace s6:Heap.SameBut it h5 h6:=s6
  replace e6:h6.get? it=some (itO (rawInt hp.objs.size) false d (i + 1) es.size ep e.key e.val):=e6
  refine wpAny_bind (wpAny_letGo (wpAny_pure (wpAny_pure ⟨_,rfl,wpAny_pure (fin h6 _ _ _ _ e6 (((s3.trans s4).trans s5).trans s6) ⟨_,_,rfl,t2,Nat.ne_of_gt il,Nat.ne_of_gt hS⟩)⟩)))
 ·have ha2:h2.get? a=some oa:=k2 a oa ai ha
  refine wpAny_bind (wpAny_field e2 rfl (x:=rawInt a) rfl ?_)
  show wpAny _ _ (loadIfAlive ((a:Int).toNat) >>= _) _ _ _
  rw [Int.toNat_natCast]
  refine wpAny_bind (PySem.W.kdx_alive ha2 ?_)
  simp only [Option.isNone_some,Bool.false_eq_true,if_false]
  refine wpAny_bind (wpAny_field e2 rfl (x:=.bool f) rfl ?_)
  cases f with
  | true =>
   rw [if_neg (show ¬ ((Value.bool true != Value.bool true)=true) from Bool.false_ne_true)]
   refine wpAny_pure ?_
   simp only [Bool.false_eq_true,if_false]
   exact wpAny_pure (wpAny_pure ⟨_,rfl,wpAny_pure (fin h2 _ _ _ _ e2 (Heap.SameBut.refl _ _) ⟨a,oa,rfl,ha2,ai,aS⟩)⟩)
  | false =>
   rw [if_pos (show (Value.bool false != Value.bool true)=true from rfl)]
   refine wpAny_bind (wpAny_setField_rec e2 (by simp) fun h3 e3 s3=>?_)
   replace s3:Heap.SameBut it h2 h3:=s3
   replace e3:h3.get? it=some (itO (rawInt a) true d (i + 1) es.size ep ok ov):=e3
   refine wpAny_pure ?_
   simp only [Bool.false_eq_true,if_false]
   exact wpAny_pure (wpAny_pure ⟨_,rfl,wpAny_pure (fin h3 _ _ _ _ e3 s3 ⟨a,oa,rfl,ha2,ai,aS⟩)⟩)
theorem it_end {Q:Option Value→Shared→Prop} (hh:A.handled=none) (st:ItS s.heap it d S es.size es.size ep) (q:DEnt s.heap d es ep)
  (z:∀ h',Heap.ExtBut it s.heap h'→Q none { s with heap:=h' }):wpAny (model P w) A (pyNext (.ref it)) Q E s:=by
 obtain ⟨x0,f,ok,ov,hit,own⟩:=st
 obtain ⟨od,hod,hcd,hdd⟩:=id q
 have hT:s.TypeIs (.ref it) "dict_itemiterator":=⟨_,hit,rfl⟩
 unfold pyNext
 refine wpAny_bind (wpAny_attempt (wpAny_callSpecial?_slot (name:=Str.ofString "__next__") hT F.slot_dict_itemiterator_next
  (wpAny_call_entry F.slot_dict_itemiterator_next hT F.entry_dict_itemiterator_next ?_ (F.args_dict_itemiterator_next_1 _))))
 refine wpAny_bind (wpAny_pure (wpAny_bind (wpAny_bind ?_)))
 first | refine wpAny_bind (wpAny_typeNameOfWhole_itemiter hT (wpAny_pure ?_)) | refine wpAny_bind (wpAny_typeNameOf_itemiter hT (wpAny_pure ?_))
 refine wpAny_bind (wpAny_fieldsOf hit rfl ?_)
 have hown:Builtin.Dict_items.ownsTuple "dict_itemiterator"=true:=by decide
 simp only [hown,if_true]
 show wpAny _ _ (if (Value.ref d == Value.none)=true then _ else _) _ _ s
 rw [if_neg (show ¬ ((Value.ref d == Value.none)=true) from Bool.false_ne_true)]
 refine wpAny_bind (wpAny_pure (wpAny_bind (wpAny_dictEntries hod hdd ?_)))
 rw [if_neg (by simp)]
 refine wpAny_bind (wpAny_pure (wpAny_bind (wpAny_dictEpoch hod hdd ?_)))
 rw [if_neg (by simp)]
 refine wpAny_pure ?_
 simp only [show ¬ ((es.size:Int) < 0) from by omega,if_false,Int.toNat_natCast,Array.getElem?_eq_none (Nat.le_refl es.size)]
 refine wpAny_bind ?_
 first | refine wpAny_bind (wpAny_typeNameOfWhole_itemiter hT (wpAny_pure ?_)) | refine wpAny_bind (wpAny_typeNameOf_itemiter hT (wpAny_pure ?_))
 show wpAny _ _ (setField (.ref it) 2 .none >>= _) _ _ s
 refine wpAny_bind (wpAny_setField hit rfl (by simp) ?_)
 show wpAny _ _ (newExc (.type "StopIteration") [] >>= _) _ _ (_:Shared)
 refine wpAny_bind ?_
 simp only [newExc,newTuple]
 refine wpAny_bind (wpAny_newObj_type ?_ (by size_fits))
 refine wpAny_bind (m:=firstArgMember _ _) (wpAny_of_eq (a:=Value.none) (by first | rfl | (simp only [firstArgMember]; rfl)) ?_)
 refine wpAny_newObj_type ?_ (by size_fits)
 simp only [raiseNew]
 refine wpAny_bind (wpAny_handled ?_)
 rw [show A.in1.handled=none from hh]
 refine wpAny_bind (wpAny_pure (wpAny_throw ?_))
 exact wpAny_bind (wpAny_isInstance (T:="StopIteration") (b:=true) ⟨_,Heap.get?_push_size _ rfl,rfl⟩ isSubtype_stop (wpAny_pure (z _ (((Heap.SameBut.update ..).extBut.push _).push _))))
end
abbrev pairO (e:DictEntry):Obj:={ cls:=.type "tuple",data:=.seq #[e.key,e.val] }
abbrev listO (acc:Array Value) (c:Nat):Obj:={ cls:=.type "list",dict:=none,data:=.seq acc c,slots:=#[] }
structure ItG (es:Array DictEntry) (lo:Addr) (h:Heap) (as:List Addr):Prop where
 rise:as.Pairwise (· < ·)
 above:∀ a∈as,lo < a
 pairs:∀ (j:Nat) (a:Addr),as[j]?=some a→∃ e,es[j]?=some e∧h.get? a=some (pairO e)
theorem ItG.there {es:Array DictEntry} {lo:Addr} {h:Heap} {as:List Addr} (g:ItG es lo h as) {a:Addr} (ha:a∈as):a < h.objs.size:=by
 obtain ⟨j,hj⟩:=List.mem_iff_getElem?.mp ha
 obtain ⟨_,_,e⟩:=g.pairs j a hj
 exact Heap.lt_size e
section
variable {P:Program} {w:World} {A:Around} {s:Shared} {R:Result→Shared→Prop} {es:Array DictEntry} {ep:Nat}
theorem it_loop {S I d:Addr} (hh:A.handled=none) (hSI:S < I) (hSd:d≠S) (hId:d≠I) (hn:es.size≤sizeLine) (res:Value) {h0:Heap}
  (fin:∀ h' tk acc c as,(∀ b o,b≠S→b≠I→h0.get? b=some o→h'.get? b=some o)→h'.get? S=some (listO acc c)→as.length=es.size→ItG es I h' as→acc.toList=as.map Value.ref→R (.ok (.ret res)) { s with heap:=h',toks:=tk }) :
  ∀ (k i:Nat) (h:Heap) (tk c:Nat) (acc:Array Value) (as:List Addr),es.size - i=k→i≤es.size→ItS h I d S i es.size ep→DEnt h d es ep→(∀ b o,b≠S→b≠I→h0.get? b=some o→h.get? b=some o) →
   h.get? S=some (listO acc c)→acc.toList=as.map Value.ref→as.length=i→ItG es I h as→I < h.objs.size →
   codeAny (model P w) A (.builtin "list.extend.loop" ⟨[.ref S,.ref I,res],[]⟩) R { s with heap:=h,toks:=tk }:=by
 have ne:S≠I:=Nat.ne_of_lt hSI
 intro k
 induction k with
 | zero =>
  intro i h tk c acc as hk hi st q keep hS hacc al G hI
  obtain rfl:i=es.size:=by omega
  refine codeAny_builtin PySem.F.entry_extend_loop ?_
  rw [Around.under_plainId PySem.F.plain_extend_loop _]
  show wpAny _ A.in1 (pyNext (.ref I) >>= _) _ _ _
  refine wpAny_bind (it_end (s:={ s with heap:=h,toks:=tk }) (A:=A.in1) hh st q fun h' he=>wpAny_pure ?_)
  refine fin h' tk acc c as (fun b o h1 h2 e=>he b o h2 (keep b o h1 h2 e)) (he S _ ne hS) al ⟨G.rise,G.above,fun j a hj=>?_⟩ hacc
  obtain ⟨e,e1,e2⟩:=G.pairs j a hj
  exact ⟨e,e1,he a _ (Nat.ne_of_gt (G.above a (List.mem_of_getElem? hj))) e2⟩
 | succ k ih =>
  intro i h tk c acc as hk hi st q keep hS hacc al G hI
  have lt:i < es.size:=by omega
  have hx:es[i]?=some es[i]:=Array.getElem?_eq_getElem lt
  have sz:acc.size=i:=by rw [← Array.length_toList,hacc,List.length_map,al]
  refine codeAny_builtin PySem.F.entry_extend_loop ?_
  rw [Around.under_plainId PySem.F.plain_extend_loop _]
  show wpAny _ A.in1 (pyNext (.ref I) >>= _) _ _ _
  refine wpAny_bind (it_next (s:={ s with heap:=h,toks:=tk }) (S:=S) st q (Heap.lt_size hS) hx fun h' st' ht hz kp=>?_)
  dsimp only at ht hz kp ⊢
  have hS':=kp S _ ne hS
  have hSl:S < h.objs.size:=Heap.lt_size hS
  have up:∀ b o,b≠S→h'.get? b=some o→(h'.update S (Obj.mapSeq (·.push (Value.ref h.objs.size)))).get? b=some o:=fun b o hb e=>(Heap.get?_update_other _ _ (Ne.symm hb)).trans e
  have tn:=up h.objs.size _ (Nat.ne_of_gt hSl) ht
  show wpAny _ A.in1 (updateSeq S (·.push (Value.ref h.objs.size)) >>= _) _ _ _
  refine wpAny_bind (wpAny_updateSeq hS' rfl (wpAny_pure ⟨plainId_quiet PySem.F.plain_extend_loop _,ih (i + 1) _ tk _ (acc.push (Value.ref h.objs.size)) (as ++ [h.objs.size]) (by omega) lt (st'.keep up (Ne.symm ne)) (q.at' fun o e=>up d o hSd (kp d o hId e))
   (fun b o h1 h2 e=>up b o h1 (kp b o h2 (keep b o h1 h2 e))) (Heap.get?_update_self _ hS' rfl) (by rw [Array.toList_push,hacc,List.map_append]; rfl) (by rw [List.length_append,al]; rfl) ⟨?_,?_,?_⟩ (Nat.lt_trans hI (Heap.lt_size tn))⟩) (by rw [sz]; omega) (by show (acc.push (Value.ref h.objs.size)).size≤sizeLine + 1; rw [Array.size_push,sz]; omega))
  ·refine List.pairwise_append.mpr ⟨G.rise,List.pairwise_singleton _ _,fun a ha b hb=>?_⟩
   rw [List.mem_singleton.mp hb]
   exact G.there ha
  ·intro a ha
   rcases List.mem_append.mp ha with ha | ha
   ·exact G.above a ha
   ·rw [List.mem_singleton.mp ha]; exact hI
  ·intro j b hj
   by_cases h1:j < as.length
   ·rw [List.getElem?_append_left h1] at hj
    obtain ⟨e,e1,e2⟩:=G.pairs j b hj
    have hb:=G.above b (List.mem_of_getElem? hj)
    exact ⟨e,e1,up b _ (Nat.ne_of_gt (Nat.lt_trans hSI hb)) (kp b _ (Nat.ne_of_gt hb) e2)⟩
   ·have hj2:=(List.getElem?_eq_some_iff.mp hj).1
    rw [List.length_append,List.length_singleton] at hj2
    obtain rfl:j=as.length:=by omega
    rw [List.getElem?_append_right (Nat.le_refl _),Nat.sub_self] at hj
    cases hj
    exact ⟨_,by rw [al]; exact hx,tn⟩
end
section
variable {P:Program} {w:World} {A:Around} {E:Value→Shared→Prop} {s:Shared} {v d:Addr} {es:Array DictEntry} {ep:Nat}
theorem it_extend {R:Result→Shared→Prop} (hh:A.handled=none) (hv:s.heap.IsItemsView v d) (q:DEnt s.heap d es ep) (S:Addr) (hSv:S≠v) (hSd:d≠S) (res:Value) (c0:Nat) (hS:s.heap.get? S=some (listO #[] c0))
  (fin:∀ h' tk acc c as,(∀ b o,b≠S→s.heap.get? b=some o→h'.get? b=some o)→h'.get? S=some (listO acc c)→as.length=es.size→ItG es s.heap.objs.size h' as→acc.toList=as.map Value.ref→R (.ok (.ret res)) { s with heap:=h',toks:=tk }) (hn:es.size≤sizeLine) :
  wpAny (model P w) A.in1 (Builtin.List.listExtendWith (.ref S) (.ref v) res)
   (fun f s'=>match f with | .done f=>R (.ok f) s' | .again c'=>c'.quiet=true∧codeAny (model P w) A c' R s') (fun e s'=>R (.error e) s') s:=by
 have hSI:S < s.heap.objs.size:=Heap.lt_size hS
 have hdI:=q.lt
 have key:∀ (h:Heap) (c1 tk:Nat),(∀ b o,b≠S→(s.heap.push (itO .none false d 0 es.size ep .none .none)).get? b=some o→h.get? b=some o)→h.get? S=some (listO #[] c1) →
   codeAny (model P w) A (.builtin "list.extend.loop" ⟨[.ref S,.ref s.heap.objs.size,res],[]⟩) R { s with heap:=h,toks:=tk }:=fun h c1 tk hk hS1=>by
  have hI:=hk s.heap.objs.size _ (Nat.ne_of_gt hSI) (Heap.get?_push_size _ rfl)
  exact it_loop (s:=s) (h0:=s.heap) hh hSI hSd (Nat.ne_of_lt hdI) hn res (fun h' tk' acc c as k' a b g e=>fin h' tk' acc c as (fun b o hb e=>k' b o hb (Nat.ne_of_lt (Heap.lt_size e)) e) a b g e)
   es.size 0 h tk c1 #[] [] (Nat.sub_zero _) (Nat.zero_le _) ⟨_,_,_,_,hI,.inl ⟨rfl,rfl⟩⟩ (q.at' fun o e=>hk d o hSd (Heap.get?_push_of_some _ e)) (fun b o hb _ e=>hk b o hb (Heap.get?_push_of_some _ e)) hS1 rfl rfl
   ⟨List.Pairwise.nil,(fun _ ha=>nomatch ha),(fun j a hj=>by simp at hj)⟩ (Heap.lt_size hI)
 unfold Builtin.List.listExtendWith
 refine wpAny_bind (wpAny_typeOf (T:="dict_items") hv.typeIs ?_)
 have h1:Builtin.List.listSameRef (.ref S) (.ref v)=false:=by simp [Builtin.List.listSameRef,hSv]
 have h2:(Value.type "dict_items" == Value.type "list")=false:=by decide
 have h3:(Value.type "dict_items" == Value.type "tuple")=false:=by decide
 simp only [h1,h2,h3,Bool.or_false,Bool.false_eq_true,if_false]
 refine wpAny_bind (it_iter hv q ?_)
 have hS1:=Heap.get?_push_of_some (itO .none false d 0 es.size ep .none .none) hS
 refine wpAny_bind (wpAny_holding (PySem.W.kdx_hint (let ⟨o,ho,hc,_⟩:=hv; ⟨o,Heap.get?_push_of_some _ ho,hc⟩) ?_))
 refine wpAny_ite_split (fun _=>?_) (fun _=>wpAny_pure ⟨plainId_quiet PySem.F.plain_extend_loop _,key _ c0 _ (fun b o _ e=>e) hS1⟩)
 refine wpAny_bind (wpAny_rule (wpAny_bind ?_))
 show wpAny _ _ (updateSeq S (·.push .none) >>= fun _=>updateSeq S (·.pop)) _ _ _
 refine wpAny_bind (wpAny_updateSeq hS1 rfl ?_)
 have hS2:=Heap.get?_update_self (Obj.mapSeq (·.push Value.none)) hS1 rfl
 refine wpAny_updateSeq (hz:=by seq_fits) hS2 rfl ?_
 have hS3:=Heap.get?_update_self (Obj.mapSeq (·.pop)) hS2 rfl
 refine wpAny_pure ⟨plainId_quiet PySem.F.plain_extend_loop _,key _ _ _ (fun b o hb e=>?_) hS3⟩
 exact (Heap.get?_update_other _ _ (Ne.symm hb)).trans ((Heap.get?_update_other _ _ (Ne.symm hb)).trans e)
theorem it_collect {R:List Value→Shared→Prop} (hh:A.handled=none) (hv:s.heap.IsItemsView v d) (q:DEnt s.heap d es ep) (hn:es.size≤sizeLine)
  (k:∀ (h':Heap) (tk:Nat) (as:List Addr),(∀ b o,s.heap.get? b=some o→h'.get? b=some o)→as.length=es.size→ItG es s.heap.objs.size h' as→R (as.map Value.ref) { s with heap:=h',toks:=tk }) :
  wpAny (model P w) A (collect (.ref v)) R E s:=by
 have hvl:v < s.heap.objs.size:=let ⟨_,ho,_⟩:=hv; Heap.lt_size ho
 unfold collect
 refine wpAny_bind (wpAny_runValue (codeAny_builtin PySem.F.entry_proto_collect ?_))
 rw [Around.under_plainId PySem.F.plain_proto_collect _]
 have g0:(s.heap.push (listO #[] 0)).get? s.heap.objs.size=some (listO #[] 0):=Heap.get?_push_size _ rfl
 show wpAny _ A.in1 (newList [] >>= fun b=>again (.builtin "list.__iadd__" ⟨[b,.ref v],[]⟩)) _ _ s
 refine wpAny_bind (wpAny_newList (wpAny_pure ⟨plainId_quiet PySem.F.plain_list_iadd _,codeAny_builtin PySem.F.entry_list_iadd ?_⟩))
 rw [Around.under_plainId PySem.F.plain_list_iadd _]
 show wpAny _ A.in1 (Builtin.List.listExtendWith (.ref s.heap.objs.size) (.ref v) (.ref s.heap.objs.size)) _ _ { s with heap:=s.heap.push (listO #[] 0) }
 refine it_extend (R:=fun r s'=>match r with
  | .ok (.ret u)=>wpAny (model P w) A (match u with
   | .ref a=>do
    match (← load a).data with
    | .seq xs _=>pure xs.toList
    | _=>unsupported "internal:collect"
   | _=>unsupported "internal:collect") R E s'
  | .ok _=>False
  | .error e=>E e s') (s:={ s with heap:=s.heap.push (listO #[] 0) }) hh (let ⟨o,ho,x⟩:=hv; ⟨o,Heap.get?_push_of_some _ ho,x⟩) (q.at' fun o e=>Heap.get?_push_of_some _ e) s.heap.objs.size (Nat.ne_of_gt hvl) (Nat.ne_of_lt q.lt) (.ref s.heap.objs.size) 0 g0 (fun h' tk acc c as kk gS al G ea=>?_) hn
 show wpAny _ A (load s.heap.objs.size >>= _) _ _ _
 refine wpAny_bind (wpAny_load (s:={ s with heap:=h',toks:=tk }) gS (wpAny_pure ?_))
 show R acc.toList _
 rw [ea]
 refine k h' tk as (fun b o e=>kk b o (Nat.ne_of_lt (Heap.lt_size e)) (Heap.get?_push_of_some _ e)) al ⟨G.rise,fun a ha=>?_,G.pairs⟩
 have:(s.heap.push (listO #[] 0)).objs.size < a:=G.above a ha
 rw [Heap.size_push] at this
 exact Nat.lt_trans (Nat.lt_succ_self _) this
end
def layT (H:Hp) (as:List Addr) (ps:List (V×V)):Hp:=fun b=>if b∈as then (ps[as.idxOf b]?).map (fun p=>HO.tup [p.1,p.2]) else H b
theorem layT_no {H:Hp} {as:List Addr} {ps:List (V×V)} {b:Addr} (h:b ∉ as):layT H as ps b=H b:=if_neg h
theorem layT_at {H:Hp} {as:List Addr} {ps:List (V×V)} (nd:as.Nodup) {j:Nat} {a:Addr} {p:V×V} (ha:as[j]?=some a) (hp:ps[j]?=some p):layT H as ps a=some (.tup [p.1,p.2]):=by
 have hm:=List.mem_of_getElem? ha
 have hi:as.idxOf a < as.length:=List.idxOf_lt_length_iff.mpr hm
 have:as.idxOf a=j:=(List.getElem?_inj hi nd).mp (by rw [ha,List.getElem?_eq_getElem hi,List.getElem_idxOf])
 unfold layT
 rw [if_pos hm,this,hp]
 rfl
theorem layT_same {H:Hp} {as:List Addr} {ps:List (V×V)} (n:∀ a∈as,H a=none):Same H (layT H as ps):=fun b v e=>by
 rw [layT_no fun h=>by rw [n b h] at e; cases e]
 exact e
theorem dts_idx {H:Hp}:∀ (vs:List V) (ds:List Dt),vs.length=ds.length→(∀ (j:Nat) v d,vs[j]?=some v→ds[j]?=some d→DtIs H v d)→DtsIs H vs ds
 | [],[],_,_=>.nil
 | [],_ :: _,h,_=>by simp at h
 | _ :: _,[],h,_=>by simp at h
 | v :: vs,d :: ds,h,k=>.cons (k 0 v d rfl rfl) (dts_idx vs ds (by simpa using h) fun j v' d' h1 h2=>k (j + 1) v' d' (by simpa using h1) (by simpa using h2))
theorem dts_atI {H:Hp}:∀ {vs:List V} {ds:List Dt},DtsIs H vs ds→∀ (j:Nat) (v:V),vs[j]?=some v→∃ d,ds[j]?=some d∧DtIs H v d
 | _,_,.nil,_,_,h=>by simp at h
 | _,_,.cons q _,0,_,h=>by cases h; exact ⟨_,rfl,q⟩
 | _,_,.cons _ t,j + 1,v,h=>dts_atI t j v (by simpa using h)
theorem vals_refsA (as:List Addr):Vals (as.map V.ref) (as.map Value.ref):=by
 induction as with
 | nil=>exact .nil
 | cons x _ ih=>exact .cons rfl ih
theorem kd_at {kvs:List (Dt×V)} {xs:List (Dt×Addr×Value)} (r:KD kvs xs):∀ {j:Nat} {x:Dt×Addr×Value},xs[j]?=some x→∃ p,kvs[j]?=some p∧p.1=x.1∧RelV p.2 x.2.2:=by
 induction r with
 | nil=>exact fun h=>by simp at h
 | @cons p q ps qs h t ih =>
  intro j x e
  cases j with
  | zero=>cases e; exact ⟨p,rfl,h⟩
  | succ j=>exact ih (by simpa using e)
theorem kd_len {kvs:List (Dt×V)} {xs:List (Dt×Addr×Value)} (r:KD kvs xs):kvs.length=xs.length:=by
 induction r with
 | nil=>rfl
 | cons _ _ ih=>rw [List.length_cons,List.length_cons,ih]
section
variable {X:Cx} {pins:List (Addr×Obj)} {σ:L2.St} {H H':Hp} {s:Shared} {h':Heap}
theorem Inv.many {t':Nat} (I:Inv X pins σ H s) (k:∀ b u,s.heap.get? b=some u→h'.get? b=some u) (S:Same H H') (lo:∀ b,b < s.heap.objs.size→H' b=H b) (new:∀ b o,H' b=some o→H b=none→ObjOk X.prog X.w H' h' b o):Inv X pins σ H' { s with heap:=h',toks:=t' }:=by
 refine I.un ⟨fun b u q _ _ _=>k b u q,fun b u q _ _ _=>⟨u.slots,k b u q⟩,fun b u q n _=>by rw [lo b (Heap.lt_size q)]; exact n,fun b u q _=>⟨u,k b u q⟩,fun b xs q=>S _ _ q,fun b u xs q=>S _ _ q,fun b ps q=>⟨#[],by rw [S _ _ q]; simp⟩⟩ fun b o e=>?_
 cases hb:H b with
 | none=>exact new b o e hb
 | some o' =>
  have:o'=o:=Option.some.inj ((S _ _ hb).symm.trans e)
  subst this
  exact (I.hok b o' hb).stay (fun c v _ q=>k c v q) (fun c q=>S _ _ q) fun c xs q=>S _ _ q
def itemD (kvs:List (Dt×V)) (vds:List Dt):List Dt:=List.zipWith (fun (p:Dt×V) d=>Dt.tup [p.1,d]) kvs vds
def tSortI (P:Program) (w:World) (to:TE):TE:=fun σ H Q=>to σ H fun x H1=>∃ (a:Addr) (kvs:List (Dt×V)) (vds:List Dt) (T:String),x=.ref a∧DicV P w H1 a kvs∧DtsIs H1 (kvs.map (·.2)) vds∧(∀ p∈kvs,p.1.tag=T)∧(∀ d∈vds,d.dp≤8) ∧
 (∀ d∈itemD kvs vds,∀ d'∈itemD kvs vds,Dt.like d d'=true) ∧
 ∀ H2 l zs es,Same H1 H2→H2 l=none→DtsIs H2 zs es→es.Perm (itemD kvs vds)→es.Pairwise (fun d d'=>Dt.blt d' d=false)→Q (.ref l) (upd H2 l (.lst zs))
set_option maxHeartbeats 1000000 in
theorem pe_sortItems {o:Expr} {to:TE} {p apos cpos pos:Pos} {n:Nat} (hr:Room n X.A) (hg:Gl X "sorted") (hm:X.mg "sorted"=none) (ho:PE X o to)
  (hbase:attributeBase o "items" X.env (eval o X.env)=eval o X.env:=by rfl) (hline:(apos.endLine == cpos.line)=true:=by rfl) :
  PE X (.Call (.Name "sorted" p) [.Call (.Attribute o "items" apos) [] [] cpos] [] pos) (tSortI X.prog X.w to):=by
 intro pins s σ H Q I h
 have hu:=hr.units
 refine wpAny_Call_Name_kw (ld_blt I hg hm boot_sorted ?_)
 refine PyProof.Rows.callWith_builtin1 ?_ se_call rfl
 show wpAny _ _ (spliced ((false,eval (.Call (.Attribute o "items" apos) [] [] cpos) X.env) :: backTo pos (starEach [] X.env))) _ _ s
 refine Calls.spliced_cons ?_
 refine wpAny_Call_method0_late hbase hline (thn (ho pins s σ H _ I h) fun v s1 ⟨x,H1,I1,r1,a,kvs,vds,T,ex,⟨xs,dic,kd⟩,dv,hT,h8,hL,q⟩=>?_)
 subst ex
 cases r1
 obtain ⟨ob,es,ep,e1,exd,dat,ek,_,_⟩:=dicH_of I1 dic
 refine ⟨"dict","dict.items",F.plainAttrs_dict,F.slot_dict_items,F.type_dict_items,⟨ob,e1,exd.1⟩,fun b e2=>by cases e2; exact ⟨ob,e1,exd.2.1⟩,Calls.callWith_builtin rfl (PySem.evalArgs_none ?_)⟩
 have de:DEnt s1.heap a es ep:=⟨ob,e1,exd,dat⟩
 refine it_view dic.sys de ?_
 refine Calls.spliced_nil ?_
 have vw:(s1.heap.push { cls:=.type "dict_items",data:=.fields #[.ref a] }).IsItemsView s1.heap.objs.size a:=⟨_,Heap.get?_push_size _ rfl,rfl,rfl⟩
 have de2:DEnt (s1.heap.push { cls:=.type "dict_items",data:=.fields #[.ref a] }) a es ep:=de.at' fun o e=>Heap.get?_push_of_some _ e
 have esz:es.size=xs.length:=size_of_entries ek
 show wpAny (model X.prog X.w) X.A (call (.builtin "sorted") [.ref s1.heap.objs.size]) _ _ { s1 with heap:=s1.heap.push { cls:=.type "dict_items",data:=.fields #[.ref a] } }
 refine Calls.call_function_entry kind_sorted plain_sorted entry_sorted (args_sorted1 _) ?_
 unfold Builtin.«sorted»
 refine wpAny_bind (m:=checkCount "sorted" 1 1 _) (wpAny_pure (wpAny_bind (it_collect (A:=X.A.in1) (s:={ s1 with heap:=s1.heap.push { cls:=.type "dict_items",data:=.fields #[.ref a] } }) (show X.A.in1.handled=none from hr.hd) vw de2 (by rw [esz]; exact sz dic.len) fun h' tk as kk al G=>?_)))
 have old:∀ b u,s1.heap.get? b=some u→h'.get? b=some u:=fun b u e=>kk b u (Heap.get?_push_of_some _ e)
 have high:∀ b∈as,s1.heap.objs.size≤b:=fun b hb=>by
  have:(s1.heap.push { cls:=.type "dict_items",data:=.fields #[.ref a] }).objs.size < b:=G.above b hb
  rw [Heap.size_push] at this
  exact Nat.le_of_lt (Nat.lt_trans (Nat.lt_succ_self _) this)
 have nd:as.Nodup:=G.rise.imp fun h=>Nat.ne_of_lt h
 have none1:∀ b∈as,H1 b=none:=fun b hb=>I1.hok.fresh (high b hb)
 have kl:=kd_len kd
 have row:∀ (j:Nat) b,as[j]?=some b→∃ x p,xs[j]?=some x∧kvs[j]?=some p∧p.1=x.1∧RelV p.2 x.2.2∧h'.get? b=some { cls:=.type "tuple",data:=.seq #[.ref x.2.1,x.2.2] }:=fun j b hj=>by
  obtain ⟨e,e2,e3⟩:=G.pairs j b hj
  rw [entry_at ek] at e2
  cases hx:xs[j]? with
  | none=>rw [hx] at e2; cases e2
  | some x =>
   rw [hx] at e2
   cases e2
   obtain ⟨p,p1,p2,p3⟩:=kd_at kd hx
   exact ⟨x,p,rfl,p1,p2,p3,e3⟩
 have S:=layT_same (ps:=(kvs.zip xs).map fun q=>(V.ref q.2.2.1,q.1.2)) none1
 have zat:∀ (j:Nat) x p,xs[j]?=some x→kvs[j]?=some p→((kvs.zip xs).map fun q=>(V.ref q.2.2.1,q.1.2))[j]?=some (V.ref x.2.1,p.2):=fun j x p h1 h2=>by
  rw [List.getElem?_map,List.getElem?_zip_eq_some (z:=(p,x)) |>.mpr ⟨h2,h1⟩]
  rfl
 have I2:Inv X pins σ (layT H1 as ((kvs.zip xs).map fun q=>(V.ref q.2.2.1,q.1.2))) { s1 with heap:=h',toks:=tk }:=by
  refine Inv.many I1 old S (fun b hb=>layT_no fun z=>absurd hb (Nat.not_lt.mpr (high b z))) fun b o e n=>?_
  have hb:b∈as:=Classical.byContradiction fun z=>by rw [layT_no z,n] at e; cases e
  obtain ⟨j,hj⟩:=List.mem_iff_getElem?.mp hb
  obtain ⟨x,p,hx,hp,e1,rv,e3⟩:=row j b hj
  rw [layT_at nd hj (zat j x p hx hp)] at e
  cases e
  exact ⟨by rw [sizeLine_eq]; show 2≤16777216; decide,[.ref x.2.1,x.2.2],.cons rfl (.cons rv .nil),_,e3,rfl,_,rfl⟩
 have dvl:=dv.length
 rw [List.length_map] at dvl
 have dd:DtsIs (layT H1 as ((kvs.zip xs).map fun q=>(V.ref q.2.2.1,q.1.2))) (as.map V.ref) (itemD kvs vds):=by
  refine dts_idx _ _ ?_ fun j v d h1 h2=>?_
  ·unfold itemD
   rw [List.length_map,al,esz,List.length_zipWith]
   omega
  ·rw [List.getElem?_map] at h1
   cases hj:as[j]? with
   | none=>rw [hj] at h1; cases h1
   | some b =>
    rw [hj] at h1
    cases h1
    obtain ⟨x,p,hx,hp,e1,rv,e3⟩:=row j b hj
    obtain ⟨d2,hd2,dd2⟩:=dts_atI dv j p.2 (by rw [List.getElem?_map,hp]; rfl)
    unfold itemD at h2
    rw [List.getElem?_zipWith,hp,hd2] at h2
    cases h2
    refine .tup (layT_at nd hj (zat j x p hx hp)) (.cons ?_ (.cons (dd2.same S) .nil))
    rw [e1]
    exact ((dic.key x (List.mem_of_getElem? hx)).1).same S
 have mem:∀ d∈itemD kvs vds,∃ p v,p∈kvs∧v∈vds∧d=.tup [p.1,v]:=fun d hd=>by
  obtain ⟨j,hj⟩:=List.mem_iff_getElem?.mp hd
  unfold itemD at hj
  rw [List.getElem?_zipWith] at hj
  cases h1:kvs[j]? with
  | none=>rw [h1] at hj; cases hj
  | some p =>
   cases h2:vds[j]? with
   | none=>rw [h1,h2] at hj; cases hj
   | some v =>
    rw [h1,h2] at hj
    cases hj
    exact ⟨p,v,List.mem_of_getElem? h1,List.mem_of_getElem? h2,rfl⟩
 have key8:∀ p∈kvs,p.1.dp≤8:=fun p hp=>by
  obtain ⟨j,hj⟩:=List.mem_iff_getElem?.mp hp
  have hlt:j < xs.length:=by rw [← kl]; exact (List.getElem?_eq_some_iff.mp hj).1
  obtain ⟨p',p1,p2,_⟩:=kd_at kd (List.getElem?_eq_getElem hlt)
  rw [hj] at p1
  cases p1
  rw [p2]
  exact (dic.key _ (List.getElem_mem hlt)).2
 refine sort_tail (T:=T) I2 (vals_refsA as) (by rw [List.length_map,al,esz]; exact sz dic.len) dd (fun d hd=>?_) hL (fun d hd=>?_) fun l zz ez h3 pz dz pe srt hl J=>?_
 ·obtain ⟨p,v,hp,_,rfl⟩:=mem d hd
  exact ⟨p.1,[v],rfl,hT p hp⟩
 ·obtain ⟨p,v,hp,hv,rfl⟩:=mem d hd
  have a1:=key8 p hp
  have a2:=h8 v hv
  have:(Dt.tup [p.1,v]).dp≤10:=by simp only [Dt.dp,Dt.dps]; omega
  show X.A.units + 1 + 4 + _ < _
  omega
 ·exact ⟨_,rfl,.ref l,upd _ l (.lst zz),J,rfl,q _ l zz ez S hl dz pe srt⟩
end
end BF
namespace BF
open PySem PySem.Spec PyProof.Rows L2
section
variable {P:Program} {w:World} {K:PySem.W.Frag} {mg:Str→Option Value} {base:Heap} {N:List Str} {qual:Str} {scope:Scope} {f:Addr} {cdv:Value} {A:Around} {outer:List Env} {s:Shared} {H:Hp} {E:XK}
theorem passE:Passes (CXE P w) (cxOf (CXE P w) P w K mg base N qual scope f cdv A outer s H E) E:=by
 intro pins σ H2 s2 e s3 I h
 obtain ⟨x,cls,H',B,rfl,os3,bare3,F,hE⟩:=h
 generalize hY:cxOf (CXE P w) P w K mg base N qual scope f cdv A outer s H E=Y at I
 have e1:Y.stack=envOfC qual scope s.heap.objs.size f cdv :: outer:=by rw [← hY]; rfl
 have e2:Y.fs=frs outer:=by rw [← hY]; rfl
 have e3:Y.ex=[]:=by rw [← hY]; rfl
 have e4:Y.s₀=s:=by rw [← hY]; rfl
 have e5:Y.H₀=H:=by rw [← hY]; rfl
 have hb:=I.base
 have hfr:=I.ok.frames
 have os:=I.os
 rw [e1] at hfr
 rw [e2,e3,e4,e5] at hb
 rw [e4] at os
 replace F:Flew P w (envOfC qual scope s.heap.objs.size f cdv :: outer) H2 H' x cls s2.heap s3.heap B:=F
 subst hY
 have old:∀ b o,s.heap.get? b=some o→b ∉ frs outer→b ∉ frs (envOfC qual scope s.heap.objs.size f cdv :: outer):=fun b o q n z=>by
  rcases List.mem_cons.mp (show b∈s.heap.objs.size :: frs outer from z) with z | z
  ·exact absurd (Heap.lt_size q) (by rw [z]; exact Nat.lt_irrefl _)
  ·exact n z
 refine air_leave (s:=s3) (L:=s.heap.objs.size) hfr rfl F.air fun h3 a3 u3=>?_
 refine ⟨x,cls,H',B,rfl,os3.trans os,bare3,⟨a3,F.hok,fun b o q n hn=>?_,fun b o q hn=>?_,fun b o q n hn=>?_,fun b o q n=>?_,fun b xs q=>F.tups b xs (hb.tups b xs q),fun b o u q=>F.frzs b o u (hb.frzs b o u q),fun b ps q=>?_⟩,hE⟩
 ·exact F.keep b o (hb.keep b o q n hn (by simp)) (hb.free b o q n (by simp)) (old b o q hn)
 ·obtain ⟨o',q'⟩:=hb.there b o q (by simp)
  exact F.there b o' q' (old b o q hn)
 ·obtain ⟨sl,q1⟩:=hb.slot b o q n hn (by simp)
  have hm:b∈frs (envOfC qual scope s.heap.objs.size f cdv :: outer):=(List.mem_cons_of_mem _ hn:b∈s.heap.objs.size :: frs outer)
  obtain ⟨sl2,q2⟩:=F.slot b _ q1 (hb.free b o q n (by simp)) hm
  obtain ⟨_,o',q3,k⟩:=F.air.fr.mem hm
  rw [q2] at q3
  cases q3
  obtain ⟨sl3,q4⟩:=u3 b _ q2 k
  exact ⟨sl3,q4⟩
 ·obtain ⟨o',q'⟩:=hb.there b o q (by simp)
  exact F.free b o' q' (hb.free b o q n (by simp))
 ·obtain ⟨m1,h1⟩:=hb.tbls b ps q
  obtain ⟨m2,h2⟩:=F.tbls b _ h1
  exact ⟨m1 ++ m2,by rw [h2,Array.append_assoc]⟩
end
end BF
namespace BF
open PySem PySem.Spec PyProof.Rows L2 PySem.SeqAt
theorem freeSlot_ok {t:SetTable} {n:Nat} (ok:TabOk t n) (h:Int):∃ j,t.freeSlot h=some (j,false)∧¬ Occ t j∧Rch t.mask (Occ t) (startM t.mask h) j:=by
 obtain ⟨jf,hj1,hj2⟩:=ok.free
 have hit:=hits_start ok.mask hj1 hj2 h
 rcases probe_go ok (fun _=>h + 1) h (10 * (t.mask + 14)) (10 * SetTable.turns t.mask) (t.probeStart h) rfl (by unfold SetTable.turns; omega) (by rw [start_eq]; exact hit) with ⟨j,e,h1,h2,_⟩ | ⟨j,i,q,k',e,h1,h2,_⟩
 ·refine ⟨j,?_,h1,by rw [start_eq] at h2; exact h2⟩
  unfold SetTable.freeSlot SetTable.probe
  rw [e]
  rfl
 ·exact absurd h2 (by omega)
structure SetIsT (w:World) (h:Heap) (S:Addr) (vs:List Value) (ds:List Dt) (es:Array (Int×Value)) (ep:Nat) (t:SetTable) (dl:List Dt):Prop where
 get:h.get? S=some (setObj es ep t)
 ok:SetOk t es
 led:t.led=!byText w
 ent:∀ e∈es.toList,∃ x u,e=(hashInt x,Value.int x u)
 dat:∀ h0:Heap,DatHs h0 (es.toList.map (·.2)) dl
 nodup:dl.Nodup
 mem:∀ d,d∈dl↔d∈ds
 sub:∀ e∈es.toList,e.2∈vs
open PySem.SetTable in
theorem relaid_okP {t:SetTable} {es:Array (Int×Value)} {wanted:Nat} (hm:MaskOk (sizeAbove wanted - 1)) (hn:es.size * 5 < (sizeAbove wanted - 1) * 3) :
  ∃ t' order,t.relaid (es.map (·.1)) wanted=some (t',order)∧(order.filterMap (es[·]?)).toList.Perm es.toList∧SetOk t' (order.filterMap (es[·]?))∧t'.led=t.led∧order.toList.Perm (List.range es.size):=by
 generalize hmm:sizeAbove wanted - 1=m at hm hn
 obtain ⟨owner,js,e,o⟩:=layClean_ok hm (es.map (·.1)) (by rw [Array.size_map]; omega)
 let live:=(List.range (m + 1)).filterMap fun j=>(owner.getD j none).map (j,·)
 have memL:∀ j k,(j,k)∈live↔js[k]?=some j:=fun j k=>by
  show (j,k)∈(List.range (m + 1)).filterMap _↔_
  rw [List.mem_filterMap]
  constructor
  ·rintro ⟨x,hx,ex⟩
   rw [List.mem_range] at hx
   have hlt:x < owner.size:=by rw [o.size]; exact hx
   have eg:owner.getD x none=owner[x]:=by simp [Array.getD,hlt]
   rw [eg] at ex
   cases hc:owner[x] with
   | none=>rw [hc] at ex; simp at ex
   | some k' =>
    rw [hc] at ex
    simp at ex
    obtain ⟨rfl,rfl⟩:=ex
    exact (o.iff _ _).mp (by rw [Array.getElem?_eq_getElem hlt,hc])
  ·intro z
   have hx:=o.top j (List.mem_of_getElem? z)
   have eo:=(o.iff j k).mpr z
   refine ⟨j,List.mem_range.mpr (by omega),?_⟩
   rw [Array.getD_eq_getD_getElem?,eo]
   rfl
 have pw:live.Pairwise (fun a b=>a.1 < b.1):=by
  refine List.Pairwise.filterMap _ (fun a a' haa b hb b' hb'=>?_) List.pairwise_lt_range
  cases hc:owner.getD a none with
  | none=>rw [hc] at hb; simp at hb
  | some k =>
   cases hc':owner.getD a' none with
   | none=>rw [hc'] at hb'; simp at hb'
   | some k' =>
    rw [hc] at hb; rw [hc'] at hb'
    simp at hb hb'
    subst hb hb'
    exact haa
 have hlen:js.length=es.size:=by rw [o.len]; simp
 have ordN:(live.map (·.2)).Nodup:=by
  unfold List.Nodup
  rw [List.pairwise_map]
  refine (List.pairwise_iff_getElem.mpr fun a b ha hb hab=>?_)
  have h1:=List.pairwise_iff_getElem.mp pw a b ha hb hab
  intro z
  have m1:=(memL live[a].1 live[a].2).mp (List.getElem_mem ha)
  have m2:=(memL live[b].1 live[b].2).mp (List.getElem_mem hb)
  rw [z,m2] at m1
  have:=Option.some.inj m1
  omega
 have ordP:(live.map (·.2)).Perm (List.range es.size):=by
  rw [List.perm_ext_iff_of_nodup ordN List.nodup_range]
  intro k
  rw [List.mem_range,List.mem_map]
  constructor
  ·rintro ⟨⟨j,k'⟩,hx,rfl⟩
   obtain ⟨hlt,_⟩:=List.getElem?_eq_some_iff.mp ((memL j k').mp hx)
   omega
  ·intro hk
   have hk':k < js.length:=by omega
   exact ⟨(js[k],k),(memL _ _).mpr (List.getElem?_eq_getElem hk'),rfl⟩
 have esL:((live.map (·.2)).toArray.filterMap (es[·]?)).toList=(live.map (·.2)).filterMap (fun i=>es[i]?):=by rw [Array.toList_filterMap]
 have esP:((live.map (·.2)).toArray.filterMap (es[·]?)).toList.Perm es.toList:=by
  rw [esL]
  refine (ordP.filterMap _).trans ?_
  rw [filterMap_getElem?_range]
 have esz:((live.map (·.2)).toArray.filterMap (es[·]?)).size=es.size:=by rw [← Array.length_toList,esP.length_eq,Array.length_toList]
 have esAt:(live.map (·.2)).filterMap (fun i=>es[i]?)=live.map (fun x=>(es[x.2]?).getD (0,.none)):=by
  have:∀ l:List (Nat×Nat),(∀ x∈l,x.2 < es.size)→(l.map (·.2)).filterMap (fun i=>es[i]?)=l.map (fun x=>(es[x.2]?).getD (0,.none)):=by
   intro l
   induction l with
   | nil=>intro _; rfl
   | cons x l ih =>
    intro h
    have hx:=h x List.mem_cons_self
    rw [List.map_cons,List.filterMap_cons,Array.getElem?_eq_getElem hx,ih fun y hy=>h y (List.mem_cons_of_mem _ hy),List.map_cons,Array.getElem?_eq_getElem hx]
    rfl
  refine this live fun x hx=>?_
  obtain ⟨hlt,_⟩:=List.getElem?_eq_some_iff.mp ((memL x.1 x.2).mp hx)
  omega
 refine ⟨{ mask:=m,place:=(live.map (·.1)).toArray,dummies:=#[],finger:=t.finger,led:=t.led,moves:=t.movedTo (sizeAbove wanted - 1),plain:=t.plain },(live.map (·.2)).toArray,?_,esP,⟨⟨hm,?_,?_,rfl,fun j hj=>?_,fun i j ev ep ee=>?_⟩,?_⟩,rfl,by rw [List.toList_toArray]; exact ordP⟩
 ·unfold SetTable.relaid SetTable.laid
  rw [hmm,e]
  rfl
 ·show (live.map (·.1)).toArray.toList.Pairwise (· < ·)
  rw [List.toList_toArray,List.pairwise_map]
  exact pw
 ·rw [esz]
  show (live.map (·.1)).toArray.size=_
  have:=ordP.length_eq
  rw [List.length_map,List.length_range] at this
  rw [List.size_toArray,List.length_map,this]
 ·have hj':j∈live.map (·.1):=by simpa using hj
  obtain ⟨⟨x,k⟩,hx,rfl⟩:=List.mem_map.mp hj'
  exact o.top _ (List.mem_of_getElem? ((memL x k).mp hx))
 ·have ep':(live.map (·.1)).toArray[i]?=some j:=ep
  rw [List.getElem?_toArray,List.getElem?_map] at ep'
  rw [← Array.getElem?_toList,esL,esAt,List.getElem?_map] at ee
  cases hc:live[i]? with
  | none=>rw [hc] at ep'; simp at ep'
  | some x =>
   rw [hc] at ep' ee
   simp at ep' ee
   subst ep'
   have mx:=(memL x.1 x.2).mp (List.mem_of_getElem? hc)
   obtain ⟨hlt,_⟩:=List.getElem?_eq_some_iff.mp mx
   have hlt':x.2 < es.size:=by omega
   rw [Array.getElem?_eq_getElem hlt'] at ee
   have hr:=o.reach x.2 x.1 ev.1 mx (by
    rw [Array.toList_map,List.getElem?_map,Array.getElem?_toList,Array.getElem?_eq_getElem hlt',← ee]
    rfl)
   refine hr.mono fun q ⟨k,ek⟩=>?_
   show q∈(live.map (·.1)).toArray.toList
   rw [List.toList_toArray,List.mem_map]
   exact ⟨(q,k),(memL q k).mpr ((o.iff q k).mp ek),rfl⟩
 ·rw [esz]; exact hn
theorem relayAll_ok {t:SetTable} {es:Array (Int×Value)} {wanted:Nat} (hm:MaskOk (SetTable.sizeAbove wanted - 1)) (hn:es.size * 5 < (SetTable.sizeAbove wanted - 1) * 3) :
  ∃ es' t',relayAll t es wanted=(es',t',false)∧es'.toList.Perm es.toList∧SetOk t' es'∧t'.led=t.led:=by
 obtain ⟨t',order,e,hp,ok,hl,po⟩:=relaid_okP (t:=t) hm hn
 refine ⟨_,t',?_,hp,ok,hl⟩
 unfold relayAll
 rw [e]
 dsimp only
 rw [if_pos]
 have c:coversAll order es.size=true:=by
  unfold coversAll
  exact List.isPerm_iff.mpr po
 rw [c,ok.tab.fits]
 rfl
section
variable {prog:Program} {w:World} {A:Around} {E:Value→Shared→Prop} {s:Shared}
set_option maxHeartbeats 1000000 in
theorem add_S {S:Addr} {o:Obj} {es:Array (Int×Value)} {ep:Nat} {t:SetTable} (ok:SetOk t es) (h8:es.size≤8) (ho:s.heap.get? S=some o) (hd:o.data=.set es ep t) (en:∀ e∈es.toList,∃ x u,e=(hashInt x,Value.int x u))
  {x:Int} {u:Tok} (hn:(¬ ∃ e∈es.toList,∃ u',e.2=.int x u')→es.size < 8) {Q:Bool→Shared→Prop}
  (q1:(∃ e∈es.toList,∃ u',e.2=.int x u')→Q false { s with toks:=s.toks + 1 })
  (q2:∀ h' es' ep' t',(¬ ∃ e∈es.toList,∃ u',e.2=.int x u')→Heap.SameBut S s.heap h'→h'.get? S=some { o with data:=.set es' ep' t' }→SetOk t' es'→t'.led=t.led→es'.toList.Perm ((hashInt x,.int x u) :: es.toList)→Q true { s with heap:=h',toks:=s.toks + 1 }) :
  wpAny (model prog w) A (setAdd S (.int x u)) Q E s:=by
 have full:=ok.full
 have hkey:(intKind prog w).is x (.int x u)=true:=intKind_is _ _ _ _
 have hel:ElemsOf (intKind prog w) es.toList:=fun e he=>by
  obtain ⟨y,v,rfl⟩:=en e he
  exact ⟨⟨y,intKind_is _ _ _ _,rfl⟩,rfl⟩
 have hb:es.size < scanBound:=by show es.size < 4096; omega
 have isx:∀ e∈es.toList,(intKind prog w).is x e.2=true→∃ u',e.2=.int x u':=fun e he h=>by
  obtain ⟨y,v,rfl⟩:=en e he
  obtain ⟨u',e'⟩:=Value.isInt_shape (show Value.isInt x (Value.int y v)=true from h)
  exact ⟨u',e'⟩
 unfold setAdd
 refine wpAny_holding (wpAny_bind ((intKind prog w).pyHash (k:=x) hkey ?_))
 unfold setAddHashed setAddHashedIn
 have ho':({ s with toks:=s.toks + 1 }:Shared).heap.get? S=some o:=ho
 refine wpAny_holding (wpAny_bind (wpAny_setState_of (s:={ s with toks:=s.toks + 1 }) ho' hd ok.tab.fits ?_))
 dsimp only
 rw [byScan_of (knd:=intKind prog w) rfl hb hel]
 simp only [↓reduceIte]
 unfold setAddByScan
 refine wpAny_bind ?_
 refine wpAny_bind (wpAny_rule ?_)
 refine wpAny_bind (wpAny_setScan_of (knd:=intKind prog w) (s:={ s with toks:=s.toks + 1 }) hkey ho' hd ok.tab.fits hel ?_)
 cases hr:List.findIdx? (fun e=>(intKind prog w).is x e.2) es.toList with
 | some j =>
  dsimp only
  obtain ⟨hj,hpj,_⟩:=List.findIdx?_eq_some_iff_getElem.mp hr
  exact wpAny_pure (wpAny_pure (q1 ⟨es.toList[j],List.getElem_mem hj,isx _ (List.getElem_mem hj) hpj⟩))
 | none =>
  dsimp only
  have none':¬ ∃ e∈es.toList,∃ u',e.2=.int x u':=fun ⟨e,he,u',eq⟩=>by
   have:=List.findIdx?_eq_none_iff.mp hr e he
   rw [eq,intKind_is] at this
   cases this
  have h4:=hn none'
  obtain ⟨j,e1,nj,rj⟩:=freeSlot_ok ok.tab (hashInt x)
  have jm:j≤t.mask:=rj.le (start_le _ _)
  have pre:=ok.put jm nj (e:=(hashInt x,Value.int x u)) rj
  have sz1:(SetTable.insertAt es (t.put j).2 (hashInt x,Value.int x u)).size=es.size + 1:=insAt_size _ _ _
  have per:(SetTable.insertAt es (t.put j).2 (hashInt x,Value.int x u)).toList.Perm ((hashInt x,.int x u) :: es.toList):=by
   refine (SetTable.insertAt_perm es (t.put j).2 (hashInt x,Value.int x u)).trans ?_
   rw [Array.toList_push]
   exact List.perm_append_comm
  have fits1:(t.put j).1.fits (SetTable.insertAt es (t.put j).2 (hashInt x,Value.int x u)).size=true:=by
   have fill:(t.put j).1.fill=es.size + 1:=by
    unfold SetTable.fill
    rw [pre.size,pre.clean,sz1]; rfl
   unfold SetTable.fits
   rw [fill,pre.size,sz1]
   simp
   show es.size + 1≤t.mask
   omega
  have hlay:layNew t es ((intKind prog w).hash x) (.int x u)=(SetTable.insertAt es (t.put j).2 (hashInt x,Value.int x u),(t.put j).1,false,false):=by
   unfold layNew
   rw [show t.freeSlot ((intKind prog w).hash x)=some (j,false) from e1]
   show (SetTable.insertAt es (t.put j).2 (hashInt x,Value.int x u),(t.put j).1.orStandIn (SetTable.insertAt es (t.put j).2 (hashInt x,Value.int x u)).size,false,!(t.put j).1.fits (SetTable.insertAt es (t.put j).2 (hashInt x,Value.int x u)).size)=_
   unfold SetTable.orStandIn
   rw [fits1]
   rfl
  rw [hlay]
  dsimp only
  have hgw:∀ (b:Bool) {s₁:Shared} {Q':Unit→Shared→Prop},Q' () s₁→wpAny (model prog w) A (match b with | true=>rule "set.scan.the-table-gave-way" | false=>pure ()) Q' E s₁ :=
   fun b s₁ Q' hq=>by cases b <;> first | exact wpAny_pure hq | exact wpAny_rule hq
  refine wpAny_bind (hgw false ?_)
  have fin:∀ t1:SetTable,SetPre t1 (SetTable.insertAt es (t.put j).2 (hashInt x,Value.int x u))→t1.mask=t.mask→t1.led=t.led →
    wpAny (model prog w) A (do
     storeSet S (SetTable.insertAt es (t.put j).2 (hashInt x,Value.int x u)) t1
     if (!false && t1.tooFull)=true then (match relayAll t1 (SetTable.insertAt es (t.put j).2 (hashInt x,Value.int x u)) (SetTable.grown (SetTable.insertAt es (t.put j).2 (hashInt x,Value.int x u)).size) with
      | (es',t',gave)=>do
       (match gave with | true=>rule "set.scan.the-table-gave-way" | false=>pure ())
       storeSet S es' t'
       pure (some true)) else pure (some true)) (fun r s'=>wpAny (model prog w) A (match r with | some added=>pure added | none=>setAddHashedIn S (.int x u) ((intKind prog w).hash x) 99999) Q E s') E { s with toks:=s.toks + 1 }:=fun t1 p1 m1 l1=>by
   refine wpAny_bind (wpAny_storeSet_of ho' hd ?_ (by rw [sz1]; exact size512 (by omega)))
   have fill:t1.fill=es.size + 1:=by
    unfold SetTable.fill
    rw [p1.size,p1.clean,sz1]; rfl
   by_cases hf:(es.size + 1) * 5 < t.mask * 3
   ·have tf:t1.tooFull=false:=by
     unfold SetTable.tooFull
     rw [fill,m1]
     exact decide_eq_false (by omega)
    rw [tf]
    simp only [Bool.and_false,Bool.false_eq_true,if_false]
    refine wpAny_pure ?_
    exact wpAny_pure (q2 _ _ _ t1 none' (Heap.SameBut.update _ _ _) (setAt_store ho' hd) ⟨p1,by rw [sz1,m1]; exact hf⟩ l1 per)
   ·have tf:t1.tooFull=true:=by
     unfold SetTable.tooFull
     rw [fill,m1]
     exact decide_eq_true (by omega)
    rw [tf]
    simp only [Bool.not_false,Bool.and_self,if_true]
    obtain ⟨g1,g2,g3⟩:=grow_ok ok.mask ok.full hf (by omega)
    obtain ⟨es2,t2,er,pe2,ok2,led2⟩:=relayAll_ok (t:=t1) (es:=SetTable.insertAt es (t.put j).2 (hashInt x,Value.int x u)) (wanted:=SetTable.grown (SetTable.insertAt es (t.put j).2 (hashInt x,Value.int x u)).size) (by rw [sz1]; exact g1) (by rw [sz1]; exact g2)
    rw [er]
    dsimp only
    refine wpAny_bind (wpAny_pure ?_)
    have sz2:es2.size=es.size + 1:=by rw [← Array.length_toList,pe2.length_eq,Array.length_toList,sz1]
    have st1:=setAt_store (es':=SetTable.insertAt es (t.put j).2 (hashInt x,Value.int x u)) (t':=t1) ho' hd
    have st2:=setAt_store (es':=es2) (t':=t2) st1 rfl
    refine wpAny_bind (wpAny_storeSet_of st1 rfl ?_ (by rw [sz2]; exact size512 (by omega)))
    refine wpAny_pure ?_
    exact wpAny_pure (q2 _ _ _ t2 none' ((Heap.SameBut.update _ _ _).trans (Heap.SameBut.update _ _ _)) st2 ok2 (led2.trans l1) (pe2.trans per))
  split
  ·refine wpAny_bind ?_
   rw [hashByValue_scannable 8 rfl]
   refine wpAny_pure ?_
   exact fin _ pre rfl rfl
  ·refine wpAny_bind (wpAny_pure ?_)
   simp only [↓reduceIte]
   exact fin _ pre rfl rfl
end
theorem strH {h h':Heap}:∀ {vs:List Value} {ds:List Dt},(∀ v∈vs,∃ x u,v=Value.int x u)→DatHs h vs ds→DatHs h' vs ds
 | [],_,_,.nil=>.nil
 | v :: vs,_,hv,.cons q t=>by
  obtain ⟨x,u,rfl⟩:=hv v (List.mem_cons_self ..)
  cases q
  exact .cons (.int x u) (strH (fun v hv'=>hv v (List.mem_cons_of_mem _ hv')) t)
section
variable {prog:Program} {w:World} {A:Around} {R:Result→Shared→Prop} {I:Addr} {fp wr:List Addr} {G:Array GenState→Array GenState→Prop} {n:Nat} {P:Nat→Value→Prop} {St:Nat→Shared→Prop}
theorem update_loop_S (W:WalksS prog w A.in1 I fp wr G n P St) (h0:Heap) (S:Addr) (hSf:S ∉ fp) (hS0:h0.objs.size≤S) (hw0:∀ b∈wr,h0.objs.size≤b) (ds:List Dt) (hn:ds.length=n) (h4:∀ l:List Dt,l.Nodup→(∀ d∈l,d∈ds)→l.length≤8) (vs:List Value) (hvs:∀ i v,P i v→v∈vs)
  (hval:∀ i v,P i v→∃ x u,v=.int x u∧ds[i]?=some (.int x)) :
  ∀ (k i:Nat) (s:Shared),n - i=k→i≤n→St i s→(∀ b o,h0.get? b=some o→s.heap.get? b=some o) →
   (∃ es ep t dl,SetIsT w s.heap S vs (ds.take i) es ep t dl) →
   (∀ s',Moved (S :: wr) G s s'→(∀ b o,h0.get? b=some o→s'.heap.get? b=some o)→(∃ es ep t dl,SetIsT w s'.heap S vs ds es ep t dl)→R (.ok (.ret .none)) s') →
   codeAny (model prog w) A (.builtin "set.update.loop" ⟨[.ref S,.ref I],[]⟩) R s:=by
 have hSw:S ∉ wr:=fun h=>hSf (W.sub _ h)
 have hsub:∀ b∈wr,b∈S :: wr:=fun b hb=>List.mem_cons_of_mem _ hb
 have old:∀ {s s':Shared},Moved wr G s s'→(∀ b o,h0.get? b=some o→s.heap.get? b=some o)→(∀ b o,h0.get? b=some o→s'.heap.get? b=some o):=fun {s s'} hm hk b o e =>
  hm.heap b o (fun hb=>absurd (Heap.lt_size e) (Nat.not_lt.mpr (hw0 b hb))) (hk b o e)
 intro k
 induction k with
 | zero =>
  intro i s hk hi hst ho hS hR
  have hin:i=n:=by omega
  subst hin
  refine codeAny_builtin F.entry_set_update_loop ?_
  rw [Around.under_plainId F.plain_set_update_loop _]
  show wpAny _ A.in1 (pyNext (.ref I) >>= _) _ _ s
  refine wpAny_bind (W.done s _ _ hst fun s' hm=>?_)
  show wpAny _ A.in1 (ret Value.none) _ _ s'
  refine wpAny_pure (hR s' (hm.mono hsub) (old hm ho) ?_)
  obtain ⟨es,ep,t,dl,z⟩:=hS
  rw [List.take_of_length_le (by omega)] at z
  exact ⟨es,ep,t,dl,hm.heap S _ hSw z.get,z.ok,z.led,z.ent,z.dat,z.nodup,z.mem,z.sub⟩
 | succ k ih =>
  intro i s hk hi hst ho hS hR
  have hlt:i < n:=by omega
  refine codeAny_builtin F.entry_set_update_loop ?_
  rw [Around.under_plainId F.plain_set_update_loop _]
  show wpAny _ A.in1 (pyNext (.ref I) >>= _) _ _ s
  refine wpAny_bind (W.item i s _ _ hlt hst fun v s' hP hst' hm=>?_)
  obtain ⟨x,u,rfl,ed⟩:=hval i v hP
  obtain ⟨es,ep,t,dl,z⟩:=hS
  have ho':=old hm ho
  have hget':s'.heap.get? S=some (setObj es ep t):=hm.heap S _ hSw z.get
  have tk1:ds.take (i + 1)=ds.take i ++ [.int x]:=by
   rw [List.take_succ,ed]; rfl
  have hl:dl.length=es.size:=by rw [← (z.dat h0).length,List.length_map,Array.length_toList]
  show wpAny _ A.in1 (holding [Value.int x u] (setAdd S (.int x u)) >>= _) _ _ s'
  refine wpAny_bind (wpAny_holding ?_)
  have memIff:(∃ e∈es.toList,∃ u',e.2=Value.int x u')↔Dt.int x∈dl:=by
   constructor
   ·rintro ⟨e,he,u',q⟩
    obtain ⟨d',hd',q'⟩:=(datHs_mem (z.dat h0)).2 e.2 (List.mem_map.mpr ⟨e,he,rfl⟩)
    rw [q] at q'
    cases q'
    exact hd'
   ·intro hd'
    obtain ⟨v',hv',q'⟩:=(datHs_mem (z.dat h0)).1 _ hd'
    obtain ⟨e,he,rfl⟩:=List.mem_map.mp hv'
    obtain ⟨y,u',rfl⟩:=z.ent e he
    cases q'
    exact ⟨_,he,u',rfl⟩
  refine add_S (A:=A.in1) z.ok (by have:=h4 dl z.nodup fun d hd=>List.mem_of_mem_take ((z.mem d).mp hd); omega) hget' rfl z.ent (fun nx=>?_) (fun he=>?_) fun h' es' ep' t' he sb g' ok' l' p'=>?_
  ·have:(Dt.int x :: dl).length≤8:=h4 _ (List.nodup_cons.mpr ⟨fun hc=>nx (memIff.mpr hc),z.nodup⟩) fun d hd=>by
    rcases List.mem_cons.mp hd with rfl | hd
    ·exact List.mem_of_getElem? ed
    ·exact List.mem_of_mem_take ((z.mem d).mp hd)
   rw [List.length_cons] at this
   omega
  ·refine wpAny_pure ⟨plainId_quiet F.plain_set_update_loop _,ih (i + 1) _ (by omega) hlt (W.frame _ s' _ _ hst' (Nat.le_succ _) fun b hb o e=>e) ho' ?_ fun s'' hm'' ho'' hS''=>?_⟩
   ·rw [tk1]
    refine ⟨es,ep,t,dl,hget',z.ok,z.led,z.ent,z.dat,z.nodup,fun d=>?_,z.sub⟩
    rw [List.mem_append,List.mem_singleton,z.mem]
    constructor
    ·exact .inl
    ·rintro (q | rfl)
     ·exact q
     ·exact (z.mem _).mp (memIff.mp he)
   ·exact hR s'' (Moved.trans W.gtrans ((hm.mono hsub).then_heap (Nat.le_succ _) fun b o hb e=>e) hm'') ho'' hS''
  ·refine wpAny_pure ⟨plainId_quiet F.plain_set_update_loop _,ih (i + 1) _ (by omega) hlt (W.frame _ s' _ _ hst' (Nat.le_succ _) fun b hb o e=>?_) (fun b o e=>?_) ?_ fun s'' hm'' ho'' hS''=>?_⟩
   ·rw [sb.2 b (fun h:b=S=>hSf (by rw [← h]; exact hb))]; exact e
   ·rw [sb.2 b (fun h:b=S=>absurd (Heap.lt_size e) (Nat.not_lt.mpr (by rw [h]; exact hS0)))]; exact ho' b o e
   ·rw [tk1]
    obtain ⟨dl',q1,q2⟩:=datHs_perm ((p'.map (·.2)).symm) (ds:=.int x :: dl) (.cons (.int x u) (z.dat h0))
    have q1':∀ g0:Heap,DatHs g0 (es'.toList.map (·.2)) dl':=fun g0=>by
     obtain ⟨dl2,r1,r2⟩:=datHs_perm ((p'.map (·.2)).symm) (ds:=.int x :: dl) (.cons (.int x u) (z.dat g0))
     exact strH (fun v hv=>by
      obtain ⟨e,he,rfl⟩:=List.mem_map.mp hv
      rcases List.mem_cons.mp (p'.mem_iff.mp he) with rfl | he
      ·exact ⟨_,_,rfl⟩
      ·obtain ⟨y,u',rfl⟩:=z.ent e he
       exact ⟨_,_,rfl⟩) q1
    refine ⟨es',ep',t',dl',g',ok',l'.trans z.led,fun e he=>?_,q1',?_,fun d=>?_,fun e he=>?_⟩
    ·rcases List.mem_cons.mp (p'.mem_iff.mp he) with rfl | he
     ·exact ⟨x,u,rfl⟩
     ·exact z.ent e he
    ·refine q2.nodup_iff.mp (List.nodup_cons.mpr ⟨fun hc=>he (memIff.mpr hc),z.nodup⟩)
    ·rw [← q2.mem_iff,List.mem_cons,List.mem_append,List.mem_singleton,z.mem,Or.comm]
    ·rcases List.mem_cons.mp (p'.mem_iff.mp he) with rfl | he
     ·exact hvs i _ hP
     ·exact z.sub e he
   ·refine hR s'' (Moved.trans W.gtrans ((hm.mono hsub).then_heap (Nat.le_succ _) fun b o hb e=>?_) hm'') ho'' hS''
    rw [sb.2 b (fun h:b=S=>hb (by rw [h]; exact List.mem_cons_self))]; exact e
end
section
variable {prog:Program} {w:World} {A:Around} {E:Value→Shared→Prop} {s:Shared}
theorem set0_isT (h:Heap) (vs:List Value) {S:Addr} (e:h.get? S=some (set0 w)):∃ es ep t dl,SetIsT w h S vs [] es ep t dl:=by
 obtain ⟨es,ep,t,dl,z⟩:=set0_is h h vs e
 have g:=z.get
 rw [e] at g
 have g':(#[],0,SetTable.fresh 0 0 (!byText w))=(es,ep,t):=by
  have:=Option.some.inj g
  unfold set0 setObj at this
  simp only [Obj.mk.injEq,Data.set.injEq,true_and,and_true] at this
  obtain ⟨a,b,c⟩:=this
  exact Prod.ext a (Prod.ext b c)
 cases g'
 refine ⟨_,_,_,[],e,z.ok,rfl,fun e' he=>?_,fun _=>.nil,List.nodup_nil,fun d=>Iff.rfl,fun e' he=>?_⟩
 ·simp at he
 ·simp at he
set_option maxRecDepth 100000 in
set_option maxHeartbeats 3200000 in
theorem call_set_S {l:Addr} {its:Array Value} {ds:List Dt} {Q:Value→Shared→Prop} (hh:A.handled=none) (hl:s.heap.IsList l its) (hi:DatHs s.heap its.toList ds) (hx:∀ d∈ds,∃ x,d=.int x) (h4:∀ l:List Dt,l.Nodup→(∀ d∈l,d∈ds)→l.length≤8)
  (q:∀ (h':Heap) (tk:Nat) es ep t dl,SetIsT w h' s.heap.objs.size its.toList ds es ep t dl→(∀ b o,s.heap.get? b=some o→h'.get? b=some o)→s.heap.objs.size < h'.objs.size→Q (.ref s.heap.objs.size) { s with heap:=h',toks:=tk }) :
  wpAny (model prog w) A (call (.type "set") [.ref l]) Q E s:=by
 obtain ⟨c,tl,hmro⟩:=PySem.F.called_set.mro
 have hmd:=PySem.F.called_set.made
 have hsb:=PySem.F.called_set.sub
 have n1:=PySem.F.called_set.notType
 have n2:=PySem.F.called_set.canCreate
 have n3:=PySem.F.typeCall_set_1 (.ref l)
 refine wpAny_call (codeAny_of_tree (show wpAny _ _ (callAny (.type "set") _) _ _ _ from ?_))
 refine wpAny_pure ⟨Code.quiet_builtin _ (by decide +kernel),codeAny_builtin PySem.F.entry_type_call ?_⟩
 rw [Around.under_plain (weight_type_call_type "set" [.ref l] []) rfl]; repeat (any_goals (first | assumption | wp_step))
 refine codeAny_mono (setNew_D (.ref l) (E:=E) (Q:=fun r z=>r=.ref s.heap.objs.size∧z={ s with heap:=s.heap.push (set0 w) }) ⟨rfl,rfl⟩) fun res z hz=>?_
 cases res with
 | error e=>exact hz
 | ok fl =>
  cases fl with
  | ret r =>
   obtain ⟨rfl,rfl⟩:=hz
   have g0:(s.heap.push (set0 w)).get? s.heap.objs.size=some (set0 w):=Heap.get?_push_size _ rfl
   have hT:Shared.TypeIs { s with heap:=s.heap.push (set0 w) } (.ref s.heap.objs.size) "set":=⟨_,g0,rfl⟩
   have i1:=PySem.F.called_set.init.lookup
   have i2:=PySem.F.called_set.init.bind (.ref s.heap.objs.size)
   repeat (any_goals (first | assumption | wp_step))
   refine codeAny_mono (codeAny_call_builtin (R:=wants (fun r z=>r=.none∧∃ h' tk es ep t dl,z={ s with heap:=h',toks:=tk }∧SetIsT w h' s.heap.objs.size its.toList ds es ep t dl∧(∀ b o,s.heap.get? b=some o→h'.get? b=some o)∧s.heap.objs.size < h'.objs.size) E)
    PySem.F.called_set.init.plain PySem.F.entry_set_init (check_set_init_1 hT ?_)) fun res z hz=>?_
   ·obtain ⟨ol,hol,hcl,nl,hdl⟩:=id hl
    obtain ⟨oc,od,oda,osl⟩:=ol
    simp only at hcl hdl
    subst hcl; subst hdl
    have hol':(s.heap.push (set0 w)).get? l=some { cls:=.type "list",dict:=od,data:=.seq its nl,slots:=osl }:=Heap.get?_push_of_some _ hol
    have j1:=PySem.F.sub_list_set
    have j2:=PySem.F.sub_list_frozenset
    have j3:(Value.type "list" == Value.type "dict")=false:=by decide
    have hl1:(s.heap.push (set0 w)).IsList l its:=⟨_,hol',rfl,nl,rfl⟩
    unfold Builtin.«set.__init__» noKeywords Builtin.Frozenset.updateFrom
    generalize hPI:pyIter=PI
    wp_walk
    subst hPI
    refine wpAny_pyIter_list hl1 (wpAny_bind (wpAny_runValue ?_))
    have hlS:l < s.heap.objs.size:=Heap.lt_size hol
    have hlI:l≠(s.heap.push (set0 w)).objs.size:=by rw [Heap.size_push]; exact Nat.ne_of_lt (Nat.lt_succ_of_lt hlS)
    have hSf:s.heap.objs.size ∉ [(s.heap.push (set0 w)).objs.size,l]:=by
     rw [Heap.size_push]; simp only [List.mem_cons,List.not_mem_nil,or_false,not_or]; exact ⟨Nat.ne_of_lt (Nat.lt_succ_self _),Nat.ne_of_gt hlS⟩
    have h3:A.in1.in1.in1.handled=none:=by simp [hh]
    refine update_loop_S ((Walks.list h3 _ l hlI its).toS) s.heap s.heap.objs.size hSf (Nat.le_refl _) (fun b hb=>?_) ds (by rw [← hi.length,Array.length_toList]) h4 its.toList (fun i v hv=>Array.mem_toList_iff.mpr (Array.mem_of_getElem? hv)) (fun i v hv=>?_)
     (its.size - 0) 0 _ (by omega) (Nat.zero_le _) ⟨⟨_,Heap.get?_push_size _ rfl,rfl,rfl⟩,hl1.push _⟩ (fun b o e=>Heap.get?_push_of_some _ (Heap.get?_push_of_some _ e)) ?_ ?_
    ·have:b=(s.heap.push (set0 w)).objs.size:=by simpa using hb
     rw [this,Heap.size_push]; exact Nat.le_succ _
    ·obtain ⟨d,e1,e2⟩:=datHs_get hi i v (by rw [Array.getElem?_toList]; exact hv)
     obtain ⟨x,rfl⟩:=hx d (List.mem_of_getElem? e1)
     cases e2
     exact ⟨_,_,rfl,e1⟩
    ·exact set0_isT _ _ (Heap.get?_push_of_some _ g0)
    ·intro z hm old hS
     obtain ⟨h',g',d',tk',os'⟩:=z
     have e1:g'=s.gens:=hm.gens
     have e2:d'=s.drawn:=hm.drawn
     have e3:os'=s.os:=hm.os
     subst e1; subst e2; subst e3
     obtain ⟨es,ep,t,dl,hS⟩:=hS
     show wpAny _ _ _ _ _ _
     refine wpAny_pure (show wpAny _ _ (ret Value.none) _ _ _ from ?_)
     exact wpAny_pure ⟨rfl,h',tk',es,ep,t,dl,rfl,hS,old,Heap.lt_size hS.get⟩
   ·cases res with
    | error e=>exact hz
    | ok fl =>
     cases fl with
     | ret r =>
      obtain ⟨rfl,h',tk,es,ep,t,dl,rfl,hS,old,hlt⟩:=hz
      repeat (any_goals (first | assumption | wp_step))
      exact q h' tk es ep t dl hS old hlt
     | _=>exact hz.elim
  | _=>exact hz.elim
end
theorem ints_of {H:Hp}:∀ {ys:List V} {ds:List Dt} {its:List Value},DtsIs H ys ds→Vals ys its→(∀ d∈ds,∃ x,d=Dt.int x)→∃ ss,IntsAre its ss∧ds=ss.map Dt.int
 | _,_,_,.nil,.nil,_=>⟨[],.nil,rfl⟩
 | _,_,_,.cons q t,.cons r rs,h=>by
  obtain ⟨ss,a,b⟩:=ints_of t rs fun d hd=>h d (List.mem_cons_of_mem _ hd)
  obtain ⟨x,rfl⟩:=h _ (List.mem_cons_self ..)
  cases q
  obtain ⟨tk,rfl⟩:=r
  exact ⟨x :: ss,.cons x tk a,by rw [b]; rfl⟩
theorem ints_to {H:Hp}:∀ {its:List Value} {ss:List Int},IntsAre its ss→∃ zs,Vals zs its∧DtsIs H zs (ss.map Dt.int)
 | _,_,.nil=>⟨[],.nil,.nil⟩
 | _,_,.cons x tk a=>by
  obtain ⟨zs,p,q⟩:=ints_to (H:=H) a
  exact ⟨.int x :: zs,.cons ⟨tk,rfl⟩ p,.cons (.int x) q⟩
theorem ints_len:∀ {its:List Value} {ss:List Int},IntsAre its ss→ss.length=its.length
 | _,_,.nil=>rfl
 | _,_,.cons _ _ a=>by rw [List.length_cons,List.length_cons,ints_len a]
theorem rise_ints {ss:List Int} (h:ss.Pairwise (·≤·)):(ss.map Dt.int).Pairwise (fun d d'=>Dt.blt d' d=false):=by
 rw [List.pairwise_map]
 refine h.imp fun {a b} z=>?_
 simp only [Dt.blt]
 exact decide_eq_false (by omega)
section
variable {X:Cx}
theorem sort_tailS {pins:List (Addr×Obj)} {σ:L2.St} {H:Hp} {s:Shared} (I:Inv X pins σ H s) {A:Around} {E:Value→Shared→Prop} {its:List Value} {ss:List Int} (h64:its.length < 64) (hS:IntsAre its ss) {R:Fin→Shared→Prop}
  (q:∀ (l:Addr) (zs:List V) (ss':List Int) (h':Heap),DtsIs H zs (ss'.map Dt.int)→ss'.Perm ss→(ss'.map Dt.int).Pairwise (fun d d'=>Dt.blt d' d=false)→H l=none→Inv X pins σ (upd H l (.lst zs)) { s with heap:=h' }→R (.done (.ret (.ref l))) { s with heap:=h' }) :
  wpAny (model X.prog X.w) A (do
   let l ← newList its
   let _ ← holding [l] (call (.builtin "list.sort") [l] [])
   ret l) R E s:=by
 refine wpAny_bind (wpAny_newList ?_)
 have hb:(s.heap.push (seqObj "list" its.toArray 0)).get? s.heap.objs.size=some (seqObj "list" its.toArray 0):=Heap.get?_push_size _ rfl
 refine wpAny_bind (wpAny_holding (wpAny_call_entry slot_list_sort ⟨_,hb,rfl⟩ entry_list_sort (list_sort_tree (s:={ s with heap:=s.heap.push (seqObj "list" its.toArray 0) }) hb hS h64 fun out ss' b1 b2 b3=>⟨_,rfl,?_⟩) (args_list_sort _)))
 refine wpAny_pure ?_
 obtain ⟨zs,vz,dz⟩:=ints_to (H:=H) b1
 refine q s.heap.objs.size zs ss' _ dz b2 (rise_ints b3) (I.hok.fresh (Nat.le_refl _)) (I.laid (t':=s.toks) (fun b o e=>?_) (Nat.le_refl _) ?_)
 ·have hlt:=Heap.lt_size e
  rw [sortedHeap_old (Nat.ne_of_lt hlt) (by rw [Heap.size_push]; exact Nat.lt_succ_of_lt hlt)]
  exact Heap.get?_push_of_some _ e
 ·obtain ⟨n,e⟩:=sortedHeap_at (out:=out) hb
  have l1:zs.length=its.length:=by
   have h1:=dz.length
   rw [List.length_map,b2.length_eq] at h1
   have h2:ss.length=its.length:=ints_len hS
   omega
  refine ⟨by rw [l1,sizeLine_eq]; omega,out.toList,n,vz,?_⟩
  rw [e]
def rSortSetS (X:Cx):List V→Hp→VK→Prop:=fun xs H Q=>∃ a ys ds,xs=[.ref a]∧SqL X.K H a ys∧DtsIs H ys ds∧(∀ d∈ds,∃ x,d=Dt.int x)∧(∀ l:List Dt,l.Nodup→(∀ d∈l,d∈ds)→l.length≤8) ∧
 ∀ l zs es,H l=none→DtsIs H zs es→es.Nodup→(∀ d,d∈es↔d∈ds)→es.Pairwise (fun d d'=>Dt.blt d' d=false)→Q (.ref l) (upd H l (.lst zs))
set_option maxHeartbeats 1000000 in
theorem pe_sortSetS {e:Expr} {t:TA} {p p' pos pos':Pos} {k:Nat} (hr:Room k X.A) (hg:Gl X "sorted") (hm:X.mg "sorted"=none) (hg':Gl X "set") (hm':X.mg "set"=none) (ha:PA X [e] t)
  (he:starEach [e] X.env=(false,eval e X.env) :: starEach [] X.env:=by first | exact se_name | exact se_call | exact se_list | exact se_comp | exact se_bin | rfl) :
  PE X (.Call (.Name "sorted" p) [.Call (.Name "set" p') [e] [] pos'] [] pos) (tCB (rSortSetS X) t):=by
 intro pins s σ H Q I h
 have hu:=hr.units
 refine wpAny_Call_Name_kw (ld_blt I hg hm boot_sorted ?_)
 refine PyProof.Rows.callWith_builtin1 ?_ se_call rfl
 show wpAny _ _ (spliced ((false,eval (.Call (.Name "set" p') [e] [] pos') X.env) :: backTo pos (starEach [] X.env))) _ _ s
 refine Calls.spliced_cons ?_
 refine wpAny_Call_Name_kw (ld_blt I hg' hm' boot_set ?_)
 refine PyProof.Rows.callWith_type1 (thn (ha pos' pins s σ H _ I h) fun us s1 ⟨vs,H1,I1,r1,q1⟩=>?_) he rfl
 obtain ⟨a,ys,ds,rfl,hS,hD,hx,h4,q⟩:=q1
 obtain ⟨u,rfl,r2⟩:=vals1 r1
 cases r2
 obtain ⟨its,rv,pl,hz⟩:=I1.list hS
 have hd0:=datHs_of I1 hD rv
 refine call_set_S hr.hd pl.isList (by rw [List.toList_toArray]; exact hd0) hx h4 fun h' tk es ep tb dl hset old hlt=>?_
 refine Calls.spliced_nil ?_
 have I2:Inv X pins σ H1 { s1 with heap:=h',toks:=tk }:=I1.kept old
 have esn:es.size≤8:=by
  have h1:es.size=dl.length:=by rw [← (hset.dat s1.heap).length,List.length_map,Array.length_toList]
  rw [h1]
  exact h4 dl hset.nodup fun d hd=>(hset.mem d).mp hd
 show wpAny (model X.prog X.w) X.A (call (.builtin "sorted") [.ref s1.heap.objs.size]) _ _ { s1 with heap:=h',toks:=tk }
 refine Calls.call_function_entry kind_sorted plain_sorted entry_sorted (args_sorted1 _) ?_
 unfold Builtin.«sorted»
 refine wpAny_bind (m:=checkCount "sorted" 1 1 _) (wpAny_pure (wpAny_bind (collect_set (A:=X.A.in1) (s:={ s1 with heap:=h',toks:=tk }) (show X.A.in1.handled=none from hr.hd) hset.ok hset.led hset.get (by omega) fun h2 d tk2 jts k2 pj=>?_)))
 have I3:Inv X pins σ H1 { s1 with heap:=h2,drawn:=d,toks:=tk2 }:=Inv.drw (I2.kept (t':=tk2) k2) d
 have sub:∀ u∈jts,u∈its:=fun u hu'=>by
  obtain ⟨e',he',rfl⟩:=List.mem_map.mp (pj.mem_iff.mp hu')
  have:=hset.sub e' he'
  simpa using this
 obtain ⟨zs,es',vz,dz⟩:=pick_dts hD rv jts sub
 obtain ⟨dj,dj1,dj2⟩:=datHs_perm pj.symm (hset.dat h2)
 have edj:es'=dj:=DatHs.inj (datHs_of I3 dz vz) dj1
 subst edj
 have mem':∀ d',d'∈es'↔d'∈ds:=fun d'=>by rw [← dj2.mem_iff]; exact hset.mem d'
 obtain ⟨ss,sA,sE⟩:=ints_of dz vz fun d' hd'=>hx d' ((mem' d').mp hd')
 have lenj:jts.length < 64:=by rw [pj.length_eq,List.length_map,Array.length_toList]; omega
 refine sort_tailS I3 lenj sA fun l zz ss' h3 dzz pe srt hl J=>?_
 refine ⟨_,rfl,.ref l,upd H1 l (.lst zz),J,rfl,q l zz _ hl dzz ?_ (fun d'=>?_) srt⟩
 ·have:=dj2.nodup_iff.mp hset.nodup
  rw [sE] at this
  exact (pe.map Dt.int).nodup_iff.mpr this
 ·rw [(pe.map Dt.int).mem_iff,← sE]
  exact mem' d'
end
end BF
namespace BF
open PySem PySem.Spec PyProof.Rows L2
section
variable {X:Cx}
def CDivX (i j:Int):Prop:=0 < j∧j < 2 ^ 250
theorem op_fdivX:OpR X (binaryOp .FloorDiv) (rI CDivX fun i j=>.int (i / j)):=opI fun i j _ _ _ _ _ hc q=>by
 have h1:(0:Int) < j:=hc.1
 have h2:j < 2 ^ 250:=hc.2
 refine floordiv_int (by omega) (by rw [Int.fdiv_eq_ediv_of_nonneg i (by omega)]; exact q) (.inl (PyProof.noPylong_of_log2 ?_))
 have h3:j.natAbs < 2 ^ 250:=by omega
 have:=(Nat.log2_lt (by omega)).mpr h3
 omega
theorem pe_pow {j1 j2:Nat} {p1 p2 pos:Pos} {n v:Int} (hn:0≤n∧n≤1000000) (hv:(10:Int) ^ n.toNat=v):PE X (.BinOp (.Constant (.int 10) j1 p1) .Pow (.Constant (.int n) j2 p2) pos) (tC (.int v)) :=
 pe_imp (pe_op op_pow pe_int pe_int) fun σ H Q q=>⟨10,n,rfl,rfl,⟨hn.1,hn.2,by decide⟩,by
  show Q (V.int _) H
  rw [hv]; exact q⟩
end
end BF
namespace K20
open PySem PySem.Spec PyProof.Rows L2 BF
def top (i:Nat):Stmt:=PySem.Challenge.pw_bothfaces_k20_whole_forms_tell_pictures.main.body.getD i (.Pass ⟨0,0,0,0⟩)
abbrev sPict:Stmt:=top 6
abbrev sHolesOf:Stmt:=top 7
abbrev sOrd:Stmt:=top 9
abbrev sMir:Stmt:=top 12
abbrev sTurn:Stmt:=top 13
abbrev sTLine:Stmt:=top 14
abbrev sTurned:Stmt:=top 15
abbrev sBeh:Stmt:=top 16
abbrev sShHole:Stmt:=top 17
abbrev sShLine:Stmt:=top 18
abbrev sShifted:Stmt:=top 19
abbrev sJoin:Stmt:=top 22
abbrev sLess:Stmt:=top 23
abbrev sHome:Stmt:=top 24
abbrev sHomes:Stmt:=top 25
abbrev sForm:Stmt:=top 26
abbrev sAlike:Stmt:=top 27
abbrev sCell:Stmt:=top 29
abbrev sMixd:Stmt:=top 30
abbrev sFill:Stmt:=top 31
abbrev sOneN:Stmt:=top 32
abbrev sNumb:Stmt:=top 33
abbrev sLine:Stmt:=top 34
abbrev sColr:Stmt:=top 35
abbrev sPairs:Stmt:=top 36
abbrev sLTurn:Stmt:=top 37
abbrev sLTurned:Stmt:=top 38
abbrev sLHome:Stmt:=top 39
abbrev sOth:Stmt:=top 40
abbrev sTurns:Stmt:=top 41
abbrev sLaw:Stmt:=top 42
seal L2.PE L2.PA L2.PS L2.PSs L2.PT L2.PW L2.PG L2.PGs L2.PI BF.PTs L2.PO
theorem lD_inj {a b:Pl} (h:lD a=lD b):a.p=b.p∧a.q=b.q:=by
 unfold lD at h
 simp only [Dt.tup.injEq,List.cons.injEq,and_true] at h
 exact ⟨eqv_two.mp h.1,eqv_two.mp h.2⟩
theorem pl_eq {a b:Pl} (h:lD a=lD b) (c:a.c=b.c):a=b:=by
 obtain ⟨p,q⟩:=lD_inj h
 cases a; cases b
 simp_all
theorem nd_inj {α β:Type} {f:α→β}:∀ {l:List α},(l.map f).Nodup→∀ {x y:α},x∈l→y∈l→f x=f y→x=y
 | [],_,_,_,h,_,_=>nomatch h
 | a :: l,nd,x,y,hx,hy,e=>by
  obtain ⟨n,nd'⟩:=List.nodup_cons.mp (show (f a :: l.map f).Nodup from nd)
  rcases List.mem_cons.mp hx with e1 | hx1
  ·rcases List.mem_cons.mp hy with e2 | hy1
   ·rw [e1,e2]
   ·exact absurd (List.mem_map.mpr ⟨y,hy1,by rw [← e,e1]⟩) n
  ·rcases List.mem_cons.mp hy with e2 | hy1
   ·exact absurd (List.mem_map.mpr ⟨x,hx1,by rw [e,e2]⟩) n
   ·exact nd_inj nd' hx1 hy1 e
def kvP (a:Pl):Dt×V:=(lD a,.str a.c)
def twoC (ps:List Pl):Prop:=∃ a∈ps,∃ b∈ps,lD a=lD b∧a.c≠b.c
theorem kvP_val {rs:List Pl} {d:Dt} {v:V} (h:valV (rs.map kvP) d=some v):∃ b∈rs,lD b=d∧v=.str b.c:=by
 unfold valV at h
 cases hf:(rs.map kvP).find? fun kv=>decide (kv.1=d) with
 | none=>rw [hf] at h; cases h
 | some p =>
  rw [hf] at h
  obtain ⟨b,hb,rfl⟩:=List.mem_map.mp (List.mem_of_find?_eq_some hf)
  cases h
  have e:=List.find?_some (p:=fun kv:Dt×V=>decide (kv.1=d)) hf
  exact ⟨b,hb,of_decide_eq_true e,rfl⟩
theorem kvP_keys (rs:List Pl):(rs.map kvP).map (·.1)=rs.map lD:=by rw [List.map_map]; rfl
theorem kvP_put {rs:List Pl} {a:Pl} (h:∀ b∈rs,lD b≠lD a):putK (rs.map kvP) (lD a) (.str a.c)=(rs ++ [a]).map kvP:=by
 unfold putK
 rw [if_neg,List.map_append]
 ·rfl
 ·intro z
  rw [List.any_eq_true] at z
  obtain ⟨p,hp,e⟩:=z
  obtain ⟨b,hb,rfl⟩:=List.mem_map.mp hp
  exact h b hb (of_decide_eq_true e)
theorem kvP_items (rs:List Pl):itemD (rs.map kvP) (rs.map fun a=>Dt.str a.c)=rs.map pD:=by
 unfold itemD
 induction rs with
 | nil=>rfl
 | cons a rs ih=>rw [List.map_cons,List.map_cons,List.map_cons,List.zipWith_cons_cons,ih]; rfl
theorem kvP_dts {H:Hp}:∀ rs:List Pl,DtsIs H ((rs.map kvP).map (·.2)) (rs.map fun a=>Dt.str a.c)
 | []=>.nil
 | a :: rs=>.cons (.str _) (kvP_dts rs)
theorem pD_inj' {a b:Pl} (h:pD a=pD b):a=b:=by
 unfold pD at h
 simp only [Dt.tup.injEq,List.cons.injEq,Dt.str.injEq,and_true] at h
 exact pl_eq h.1 h.2
theorem as_pD:∀ {es:List Dt} {rs:List Pl},(∀ d∈es,d∈rs.map pD)→∃ qs:List Pl,es=qs.map pD
 | [],_,_=>⟨[],rfl⟩
 | e :: es,rs,h=>by
  obtain ⟨qs,rfl⟩:=as_pD (es:=es) fun d hd=>h d (List.mem_cons_of_mem _ hd)
  obtain ⟨a,_,rfl⟩:=List.mem_map.mp (h e List.mem_cons_self)
  exact ⟨a :: qs,rfl⟩
section
variable {P:Program} {w:World} {K:PySem.W.Frag} {mg:Str→Option Value} {base:Heap} {c2 c3:Addr}
structure PicOut (H:Hp) (ps:List Pl) (l:Addr) (H':Hp) (qs:List Pl):Prop where
 same:Same H H'
 new:H l=none
 pic:Pic H' l qs
 nd:qs.Nodup
 mem:∀ a,a∈qs↔a∈ps
 rise:Rise qs
def spPict (K:PySem.W.Frag) (c2 c3:Addr):Sp:=fun vs H Q E=>∃ (a:Addr) (xs:List V) (ps:List Pl) (ls:List Dt),vs=[.ref a]∧SqL K H a xs∧DtsIs H xs (ps.map pD)∧ps.length≤300∧ls.Nodup∧(∀ d,d∈ls↔d∈ps.map lD) ∧
 (twoC ps→∀ H',Same H H'→E (.ref c2) none H')∧(¬ twoC ps→120 < ls.length→∀ H',Same H H'→E (.ref c3) none H')∧(¬ twoC ps→ls.length≤120→∀ l qs H',PicOut H ps l H' qs→Q (.ref l) H')
theorem scPict:FnScope ["pairs","colour_by_line","line","colour"] ["pairs"] (defScope sPict):=⟨rfl,rfl,rfl,by decide +kernel,rfl,by decide +kernel,by decide +kernel⟩
theorem ok_pict {f:Addr} {fd:FuncData} {tm:Tok} (D:Df K mg "picture" sPict f fd) (m2:mg "TwoColours"=some (.ref c2)) (m3:mg "TooMany"=some (.ref c3))
  (q2:PySem.W.excIn K c2 [.type "ValueError",.type "Exception",.type "BaseException",.type "object"] "ValueError.__new__"=true) (q3:PySem.W.excIn K c3 [.type "ValueError",.type "Exception",.type "BaseException",.type "object"] "ValueError.__new__"=true)
  (mm:mg "MOST_LINES"=some (.int 120 tm)) (hlen:mg "len"=none) (hsorted:mg "sorted"=none):FnOk P w K mg base (CXE P w) 1 f fd ["pairs"] (spPict K c2 c3):=by
 refine fun_okX D.F scPict (fun vs H Q E h=>?_) (fun cdv A outer s H vs Q E hr h=>?_)
 ·obtain ⟨a,xs,ps,ls,rfl,_⟩:=h
  rfl
 ·obtain ⟨a,xs,ps,ls,rfl,hS,hD',pl,lnd,lmem,k2,k3,kq⟩:=h
  have xl:xs.length=ps.length:=by rw [hD'.length,List.length_map]
  refine ⟨_,(pss_cons (ps_set (i:=1) scPict.nd rfl (Or.inl rfl) pe_dnewD)
   (pss_cons (ps_for PassesOwn.leaving rfl (pi_list (pv 0)) (pg_tup (n:=2) rfl (pgs_cons (pg_name (i:=2) scPict.nd rfl (Or.inl rfl)) (pgs_cons (pg_name (i:=3) scPict.nd rfl (Or.inl rfl)) pgs_nil))) (pss_one (ps_if (pt_cmpR op_ne (pe_bmD PySem.F.slot_dict_setdefault PySem.F.type_dict_setdefault (mt_setDef hr) (pv 1) (pac (pv 2) (pac (pv 3) pa_nil))) (pv 3) (nomark _)) (pss_one (ps_raise rfl m2 hr.hd q2 pe_str)) pss_nil)))
   (pss_cons (ps_if (pt_cmpR op_gt (pe_callB call_lenV (by rfl) hlen PySem.boot_len (pac (pv 1) pa_nil)) (pe_glob (v:=.int 120) rfl mm ⟨_,rfl⟩) (nomark _)) (pss_one (ps_raise rfl m3 hr.hd q3 pe_str)) pss_nil)
   (pss_one (ps_ret (pe_sortItems hr rfl hsorted (pv 1))))))),?_⟩
  have lD8:∀ b:Pl,(lD b).dp≤8:=fun b=>by simp [lD,hD,Dt.dp,Dt.dps]
  intro d o nd dv0
  refine ⟨_,rfl,a,rfl,⟨_,(same_upd nd).seq hS⟩,?_⟩
  refine for_list (K:=K) (a:=a) (xs:=xs) (fun i σ H2=>(∃ v2 v3,σ=[some (.ref a),some (.ref d),v2,v3])∧Same H H2∧∃ rs:List Pl,DicV P w H2 d (rs.map kvP)∧(rs.map lD).Nodup∧(∀ b∈rs,b∈ps)∧(∀ b∈ps.take i,b∈rs)∧rs.length≤i)
   ⟨⟨_,_,rfl⟩,same_upd nd,[],dv0,List.nodup_nil,fun _ z=>(nomatch z),fun _ z=>(nomatch z),Nat.le_refl _⟩ (fun i σ H2 _ ⟨_,s2,_⟩=>s2.seq hS) ?_ ?_
  ·rintro i x σ H2 hx ⟨⟨v2,v3,rfl⟩,S2,rs,dd,rnd,rin,rall,rl⟩
   obtain ⟨e,ed,dx⟩:=(hD'.same S2).at i x hx
   rw [List.getElem?_map] at ed
   cases hp:ps[i]? with
   | none=>rw [hp] at ed; cases ed
   | some b =>
    rw [hp] at ed
    cases ed
    have hi:=(List.getElem?_eq_some_iff.mp hx).1
    have bin:b∈ps:=List.mem_of_getElem? hp
    obtain ⟨r,xl',rfl,er,hl⟩:=pic_at dx
    have tk:ps.take (i + 1)=ps.take i ++ [b]:=by rw [List.take_succ,hp]; rfl
    have fin:∀ rs':List Pl,(∀ c∈rs,c∈rs')→b∈rs'→∀ c∈ps.take (i + 1),c∈rs':=fun rs' h1 h2 c hc=>by
     rw [tk] at hc
     rcases List.mem_append.mp hc with hc | hc
     ·exact h1 c (rall c hc)
     ·rw [List.mem_singleton.mp hc]; exact h2
    refine ⟨r,_,rfl,SqT.of er,rfl,_,_,rfl,_,_,rfl,rfl,?_⟩
    refine ⟨_,rfl,⟨d,_,rfl,dd⟩,_,rfl,_,rfl,d,xl',lD b,rs.map kvP,.str b.c,rfl,rfl,hl,lD8 b,dd,by rw [List.length_map]; omega,fun u hu=>?_,fun hn o' dn=>?_⟩
    ·obtain ⟨c,hc,ec,rfl⟩:=kvP_val hu
     refine ⟨_,rfl,rfl,_,rfl,?_⟩
     by_cases hcc:c.c=b.c
     ·refine ifB_neg (by rw [hcc]; simp) ⟨⟨_,_,rfl⟩,S2,rs,dd,rnd,rin,fin rs (fun _ z=>z) ?_,by omega⟩
      rw [← pl_eq ec hcc]
      exact hc
     ·exact ifB_pos (by simp [hcc]) (k2 ⟨c,rin c hc,b,bin,ec,hcc⟩ H2 S2)
    ·have nk:∀ c∈rs,lD c≠lD b:=fun c hc e=>by
      have:lD b∈(rs.map kvP).map (·.1):=by rw [kvP_keys,← e]; exact List.mem_map.mpr ⟨c,hc,rfl⟩
      obtain ⟨v,hv⟩:∃ v,valV (rs.map kvP) (lD b)=some v:=by
       cases hv:valV (rs.map kvP) (lD b) with
       | some v=>exact ⟨v,rfl⟩
       | none=>exact absurd this (by
         unfold valV at hv
         rw [Option.map_eq_none_iff,List.find?_eq_none] at hv
         intro z
         obtain ⟨p,hp,e⟩:=List.mem_map.mp z
         exact hv p hp (decide_eq_true e))
      rw [hn] at hv
      cases hv
     rw [kvP_put nk] at dn
     refine ⟨_,rfl,rfl,_,rfl,ifB_neg (by simp) ⟨⟨_,_,rfl⟩,same_updN S2 nd,rs ++ [b],dn,?_,?_,fin _ (fun c hc=>List.mem_append_left _ hc) (List.mem_append_right _ (List.mem_singleton.mpr rfl)),by rw [List.length_append]; show rs.length + 1≤_; omega⟩⟩
     ·rw [List.map_append]
      refine List.nodup_append.mpr ⟨rnd,List.pairwise_singleton _ _,fun c hc c' hc' e=>?_⟩
      obtain ⟨c0,hc0,rfl⟩:=List.mem_map.mp hc
      rw [List.mem_singleton.mp hc'] at e
      exact nk c0 hc0 e
     ·intro c hc
      rcases List.mem_append.mp hc with hc | hc
      ·exact rin c hc
      ·rw [List.mem_singleton.mp hc]; exact bin
  ·rintro σ H2 ⟨⟨v2,v3,rfl⟩,S2,rs,dd,rnd,rin,rall,rl⟩
   rw [List.take_of_length_le (by omega)] at rall
   have no:¬ twoC ps:=fun ⟨x,hx,y,hy,e1,e2⟩=>e2 (by rw [nd_inj rnd (rall x hx) (rall y hy) e1])
   have ll:(rs.map kvP).length=ls.length:=by
    have:(rs.map lD).Perm ls:=(List.perm_ext_iff_of_nodup rnd lnd).mpr fun d'=>by
     rw [lmem]
     constructor
     ·intro h
      obtain ⟨c,hc,e⟩:=List.mem_map.mp h
      exact List.mem_map.mpr ⟨c,rin c hc,e⟩
     ·intro h
      obtain ⟨c,hc,e⟩:=List.mem_map.mp h
      exact List.mem_map.mpr ⟨c,rall c hc,e⟩
    rw [← this.length_eq,List.length_map,List.length_map]
   refine ⟨_,rfl,d,_,rfl,dd,_,_,rfl,rfl,_,rfl,?_⟩
   by_cases big:120 < ls.length
   ·exact ifB_pos (by rw [ll]; exact decide_eq_true (by omega)) (k3 no big H2 S2)
   refine ifB_neg (by rw [ll]; exact decide_eq_false (by omega)) ?_
   have itm:=kvP_items rs
   refine ⟨_,rfl,d,rs.map kvP,rs.map (fun a=>Dt.str a.c),"tuple",rfl,dd,kvP_dts rs,fun p hp=>?_,fun v hv=>?_,?_,fun H3 l zs es S3 nl dz pe srt=>?_⟩
   ·obtain ⟨b,_,rfl⟩:=List.mem_map.mp hp
    rfl
   ·obtain ⟨b,_,rfl⟩:=List.mem_map.mp hv
    exact Nat.zero_le _
   ·rw [itm]
    exact pics_like rs
   ·rw [itm] at pe
    obtain ⟨qs,rfl⟩:=as_pD fun e he=>pe.mem_iff.mp he
    have S:=S2.trans S3
    have nl0:=none_same S nl
    have rnd':=List.pairwise_map.mp (show ((rs.map lD).Pairwise (·≠·)) from rnd)
    have pnd:(rs.map pD).Nodup:=List.pairwise_map.mpr (rnd'.imp fun h e=>h (by rw [pD_inj' e]))
    have qnd:=pe.nodup_iff.mpr pnd
    refine kq no (by omega) l qs _ ⟨same_updN S nl0,nl0,⟨zs,upd_same,dz.same (same_upd nl)⟩,(List.pairwise_map.mp (show ((qs.map pD).Pairwise (·≠·)) from qnd)).imp fun n e=>n (by rw [e]),fun b=>?_,srt⟩
    constructor
    ·intro hb
     obtain ⟨c,hc,e⟩:=List.mem_map.mp (pe.mem_iff.mp (List.mem_map.mpr ⟨b,hb,rfl⟩))
     rw [← pD_inj' e]
     exact rin c hc
    ·intro hb
     obtain ⟨c,hc,e⟩:=List.mem_map.mp (pe.mem_iff.mpr (List.mem_map.mpr ⟨b,rall b hb,rfl⟩))
     rw [← pD_inj' e]
     exact hc
end
section
variable {P:Program} {w:World} {K:PySem.W.Frag} {mg:Str→Option Value} {base:Heap}
def spCell (K:PySem.W.Frag):Sp:=fun vs H Q _=>∃ (a:Addr) (ns:List Int) (k:Nat),vs=[.ref a,.int k]∧SqL K H a (ns.map V.int)∧∀ c,Q (.int c) H
theorem scCell:FnScope ["_law_script","_law_k"] ["_law_script","_law_k"] (defScope sCell):=⟨rfl,rfl,rfl,by decide +kernel,rfl,by decide +kernel,by decide +kernel⟩
theorem ok_cell {f:Addr} {fd:FuncData} (D:Df K mg "_law_cell_at" sCell f fd) (hlen:mg "len"=none):FnOk P w K mg base CX0 1 f fd ["_law_script","_law_k"] (spCell K):=by
 refine D.F.ok scCell (fun vs H Q E h=>?_) (fun cdv A outer s H vs Q E hr h=>?_)
 ·obtain ⟨a,ns,k,rfl,_⟩:=h
  rfl
 ·obtain ⟨a,ns,k,rfl,hS,q⟩:=h
  refine ⟨_,pss_cons (ps_if (pt_cmpR op_lt (pv 1) (pe_callB call_len_seq (by rfl) hlen PySem.boot_len (pac (pv 0) pa_nil)) (nomark _)) (pss_one (ps_ret (pe_ix ix_list (pv 0) (pv 1) (fun _ _=>rfl)))) pss_nil) (pss_one (ps_ret pe_int)),?_⟩
  refine ⟨_,rfl,_,rfl,a,_,rfl,.inl hS,_,_,rfl,rfl,_,rfl,?_⟩
  rw [List.length_map]
  by_cases hk:(k:Int) < (ns.length:Int)
  ·refine ifD_pos hk ?_
   obtain ⟨c,hc,hm⟩:=atI_of (xs:=ns.map V.int) (m:=(k:Int)) (by omega) (by rw [List.length_map]; exact hk)
   obtain ⟨z,_,rfl⟩:=List.mem_map.mp hm
   exact ⟨_,rfl,_,rfl,a,_,_,_,rfl,rfl,hS,hc,q z⟩
  ·exact ifD_neg hk (q 0)
def spMixd (K:PySem.W.Frag):Sp:=fun vs H Q _=>∃ (a:Addr) (ns:List Int) (k:Nat),vs=[.ref a,.int k]∧SqL K H a (ns.map V.int)∧k≤100000∧∀ m:Int,0≤m→m < 2147483587→Q (.int m) H
theorem scMixd:FnScope ["_law_script","_law_k","_law_cell","_law_one_here"] ["_law_script","_law_k"] (defScope sMixd):=⟨rfl,rfl,rfl,by decide +kernel,rfl,by decide +kernel,by decide +kernel⟩
theorem ok_mixd {f fC:Addr} {fd fdC:FuncData} (D:Df K mg "_law_mixed" sMixd f fd) (DC:Df K mg "_law_cell_at" sCell fC fdC) (bC:Binds K fdC ["_law_script","_law_k"] []) (GC:FnOk P w K mg base CX0 1 fC fdC ["_law_script","_law_k"] (spCell K)) (hlen:mg "len"=none) (hmax:mg "max"=none):FnOk P w K mg base CX0 2 f fd ["_law_script","_law_k"] (spMixd K):=by
 refine D.F.ok scMixd (fun vs H Q E h=>?_) (fun cdv A outer s H vs Q E hr h=>?_)
 ·obtain ⟨a,ns,k,rfl,_⟩:=h
  rfl
 ·obtain ⟨a,ns,k,rfl,hS,hk,z⟩:=h
  refine ⟨_,(pss_cons (ps_set (i:=2) scMixd.nd rfl (Or.inl rfl) (pec GC hr rfl DC.m DC.F.kp bC .nil pass0 (pac (pv 0) (pac (pe_op op_mod (pv 1) (pe_callB (call_max2 rfl) (by rfl) hmax boot_max (pac (pe_int) (pac (pe_callB call_len_seq (by rfl) hlen PySem.boot_len (pac (pv 0) pa_nil)) pa_nil)))) pa_nil))))
   (pss_cons (ps_set (i:=3) scMixd.nd rfl (Or.inl rfl) (pe_op op_mod (pe_op op_add (pe_op op_add (pe_op op_add (pe_op op_mul (pe_op op_mod (pv 2) pe_int) pe_int) (pe_op op_mul (pe_op op_mul pe_int (pv 1)) (pv 1))) (pe_op op_mul pe_int (pv 1))) pe_int) pe_int))
   (pss_one (ps_ret (pe_op op_mod (pe_op op_mul (pe_op op_mod (pe_op op_mul (pv 3) (pv 3)) pe_int) pe_int) pe_int))))),?_⟩
  have ck:∀ i:Int,CMul i (k:Int):=fun i=>cmulR (by omega) (by omega)
  have mp:(0:Int) < (if ((ns.map V.int).length:Int) > 1 then ((ns.map V.int).length:Int) else 1):=by split <;> omega
  obtain ⟨kk,hkk⟩:∃ kk:Nat,(k:Int) % (if ((ns.map V.int).length:Int) > 1 then ((ns.map V.int).length:Int) else 1)=(kk:Int):=⟨_,(Int.toNat_of_nonneg (Int.emod_nonneg _ (by omega))).symm⟩
  refine ⟨_,rfl,_,rfl,_,rfl,a,_,rfl,.inl hS,_,_,rfl,_,_,rfl,rfl,mp,a,ns,kk,?_,hS,fun c=>?_⟩
  ·show [V.ref a,V.int ((k:Int) % _)]=_
   rw [hkk]
  refine ⟨_,rfl,_,_,rfl,rfl,(by show (0:Int) < _; decide),_,_,rfl,rfl,cmulR (by decide) (by decide),_,rfl,_,_,rfl,rfl,ck _,_,rfl,_,_,rfl,rfl,ck _,_,_,rfl,rfl,_,rfl,_,_,rfl,rfl,ck _,_,_,rfl,rfl,_,_,rfl,rfl,_,_,rfl,rfl,(by show (0:Int) < _; decide),?_⟩
  have u1:=Int.emod_nonneg (c % 2147483647 * 48271 + 7919 * (k:Int) * (k:Int) + 104729 * (k:Int) + 11) (show (2147483647:Int)≠0 by decide)
  have u2:=Int.emod_lt_of_pos (c % 2147483647 * 48271 + 7919 * (k:Int) * (k:Int) + 104729 * (k:Int) + 11) (show (0:Int) < 2147483647 by decide)
  refine ⟨_,rfl,_,rfl,_,_,rfl,rfl,cmulR (by show -(2 ^ 64) < _ % _; omega) (by show _ % _ < 2 ^ 64; omega),_,_,rfl,rfl,(by show (0:Int) < _; decide),_,_,rfl,rfl,cmulR (by decide) (by decide),_,_,rfl,rfl,(by show (0:Int) < _; decide),z _ (Int.emod_nonneg _ (by decide)) (Int.emod_lt_of_pos _ (by decide))⟩
def spFill (K:PySem.W.Frag):Sp:=fun vs H Q _=>∃ (a:Addr) (ns:List Int) (k:Nat) (n:Int),vs=[.ref a,.int k,.int n]∧SqL K H a (ns.map V.int)∧k≤90000∧∀ m:Int,Q (.int m) H
theorem scFill:FnScope ["_law_script","_law_k","_law_number","_law_size","_law_j"] ["_law_script","_law_k","_law_number"] (defScope sFill):=⟨rfl,rfl,rfl,by decide +kernel,rfl,by decide +kernel,by decide +kernel⟩
theorem ok_fill {f fM:Addr} {fd fdM:FuncData} (D:Df K mg "_law_filled" sFill f fd) (DM:Df K mg "_law_mixed" sMixd fM fdM) (bM:Binds K fdM ["_law_script","_law_k"] []) (GM:FnOk P w K mg base CX0 2 fM fdM ["_law_script","_law_k"] (spMixd K)) (hrange:mg "range"=none):FnOk P w K mg base CX0 3 f fd ["_law_script","_law_k","_law_number"] (spFill K):=by
 refine D.F.ok scFill (fun vs H Q E h=>?_) (fun cdv A outer s H vs Q E hr h=>?_)
 ·obtain ⟨a,ns,k,n,rfl,_⟩:=h
  rfl
 ·obtain ⟨a,ns,k,n,rfl,hS,hk,z⟩:=h
  refine ⟨_,(pss_cons (ps_set (i:=3) scFill.nd rfl (Or.inl rfl) pe_int)
   (pss_cons (ps_while PassesOwn.never (pt_cmpR op_le (pv 3) (pv 2) (nomark _)) (pss_one (ps_set (i:=3) scFill.nd rfl (Or.inl rfl) (pe_op op_mul (pv 3) (pe_pow (v:=1000000) (by decide) (by decide))))))
   (pss_cons (ps_for PassesOwn.never rfl (pi_range1 rfl hrange (pac (pe_int) pa_nil)) (pg_name (i:=4) scFill.nd rfl (Or.inl rfl))
     (pss_cons (ps_set (i:=2) scFill.nd rfl (Or.inl rfl) (pe_op op_add (pv 2) (pe_op op_mul (pv 3) (pec GM hr rfl DM.m DM.F.kp bM .nil pass0 (pac (pv 0) (pac (pe_op op_add (pv 1) (pv 4)) pa_nil))))))
   (pss_one (ps_set (i:=3) scFill.nd rfl (Or.inl rfl) (pe_op op_mul (pv 3) pe_int)))))
   (pss_one (ps_ret (pv 2)))))),?_⟩
  refine' laterS (fun σ H1=>∃ sz:Int,σ=[some (.ref a),some (.int k),some (.int n),some (.int sz),none]∧H1=H) (fun fin=>_) _
  rotate_left
  ·refine ⟨fun m σ H1=>∃ sz:Int,σ=[some (.ref a),some (.int k),some (.int n),some (.int sz),none]∧H1=H∧1≤sz∧m=(n + 1 - sz).toNat,⟨_,1,rfl,rfl,by decide,rfl⟩,?_⟩
   rintro m σ H1 ⟨sz,rfl,rfl,hz,rfl⟩
   refine ⟨_,rfl,_,rfl,_,_,rfl,rfl,_,rfl,?_⟩
   by_cases hle:sz≤n
   rotate_left
   ·exact ifD_neg hle (fin _ _ ⟨sz,rfl,rfl⟩)
   ·refine ifD_pos hle ?_
    refine ⟨fun σ H2=>∃ m',m' < (n + 1 - sz).toNat∧∃ sz':Int,σ=[some (.ref a),some (.int k),some (.int n),some (.int sz'),none]∧H2=H1∧1≤sz'∧m'=(n + 1 - sz').toNat,fun σ' H' q=>q,?_⟩
    refine ⟨_,rfl,_,_,rfl,rfl,cmulR (by decide) (by decide),_,?_,sz * 1000000,rfl,rfl,by omega,rfl⟩
    omega
  rintro σ H1 ⟨sz,rfl,rfl⟩
  refine ⟨_,rfl,by decide,by decide,?_⟩
  refine for_range (fun i σ H2=>(∃ n' sz' v4,σ=[some (.ref a),some (.int k),some (.int n'),some (.int sz'),v4])∧H2=H1) ⟨⟨_,_,_,rfl⟩,rfl⟩ ?_ ?_
  ·rintro i σ H2 hi ⟨⟨n',sz',v4,rfl⟩,rfl⟩
   have hi7:i < 7:=hi
   refine ⟨_,rfl,_,rfl,_,rfl,_,rfl,_,rfl,_,_,rfl,rfl,a,ns,k + i,?_,hS,by omega,fun m m0 m1=>?_⟩
   ·show [V.ref a,V.int ((k:Int) + (0 + (i:Int)))]=[V.ref a,V.int ((k + i:Nat):Int)]
    rw [show (k:Int) + (0 + (i:Int))=((k + i:Nat):Int) by omega]
   refine ⟨_,_,rfl,rfl,cmulR (by omega) (by omega),_,_,rfl,rfl,?_⟩
   exact ⟨_,rfl,_,_,rfl,rfl,cmulR (by decide) (by decide),⟨_,_,_,rfl⟩,rfl⟩
  ·rintro σ H2 ⟨⟨n',sz',v4,rfl⟩,rfl⟩
   exact ⟨_,rfl,z n'⟩
def spNumb (K:PySem.W.Frag):Sp:=fun vs H Q _=>∃ (a:Addr) (ns:List Int) (st mo:Nat),vs=[.ref a,.int st,.int mo]∧SqL K H a (ns.map V.int)∧st≤63∧mo≤60 ∧
 ∀ (l:Addr) (ms:List Int) H',Same H H'→H l=none→H' l=some (.lst (ms.map V.int))→ms.length≤mo→Q (.ref l) H'
theorem scNumb:FnScope ["_law_script","_law_start","_law_most","_law_found","_law_left","_law_many","_law_k","_law_number"] ["_law_script","_law_start","_law_most"] (defScope sNumb):=⟨rfl,rfl,rfl,by decide +kernel,rfl,by decide +kernel,by decide +kernel⟩
theorem ok_numb {f fC fM fF:Addr} {fd fdC fdM fdF:FuncData} (D:Df K mg "_law_numbers" sNumb f fd) (DC:Df K mg "_law_cell_at" sCell fC fdC) (bC:Binds K fdC ["_law_script","_law_k"] []) (GC:FnOk P w K mg base CX0 1 fC fdC ["_law_script","_law_k"] (spCell K))
  (DM:Df K mg "_law_mixed" sMixd fM fdM) (bM:Binds K fdM ["_law_script","_law_k"] []) (GM:FnOk P w K mg base CX0 2 fM fdM ["_law_script","_law_k"] (spMixd K))
  (DF:Df K mg "_law_filled" sFill fF fdF) (bF:Binds K fdF ["_law_script","_law_k","_law_number"] []) (GF:FnOk P w K mg base CX0 3 fF fdF ["_law_script","_law_k","_law_number"] (spFill K))
  (hrange:mg "range"=none) (habs:mg "abs"=none) (hint:mg "int"=none):FnOk P w K mg base CX0 4 f fd ["_law_script","_law_start","_law_most"] (spNumb K):=by
 refine D.F.ok scNumb (fun vs H Q E h=>?_) (fun cdv A outer s H vs Q E hr h=>?_)
 ·obtain ⟨a,ns,st,mo,rfl,_⟩:=h
  rfl
 ·obtain ⟨a,ns,st,mo,rfl,hS,hst,hmo,z⟩:=h
  have hr1:Room 1 _:=hr.mono (by decide)
  have hr2:Room 2 _:=hr.mono (by decide)
  refine ⟨_,(pss_cons (ps_set (i:=3) scNumb.nd rfl (Or.inl rfl) (pe_lst pa_nil))
   (pss_cons (ps_set (i:=4) scNumb.nd rfl (Or.inl rfl) (pe_op op_mul (pe_callB call_abs (by rfl) habs boot_abs (pac (pec GC hr1 rfl DC.m DC.F.kp bC .nil pass0 (pac (pv 0) (pac (pv 1) pa_nil))) pa_nil)) (pe_callTy call_int1 (by rfl) hint boot_int (pac (pe_cmpR op_eq (pe_op op_mod (pec GC hr1 rfl DC.m DC.F.kp bC .nil pass0 (pac (pv 0) (pac (pe_int) pa_nil))) pe_int) pe_int (nomark _)) pa_nil))))
   (pss_cons (ps_set (i:=5) scNumb.nd rfl (Or.inl rfl) (pe_op op_mod (pe_op op_add (pv 4) (pe_op op_mul (pec GM hr2 rfl DM.m DM.F.kp bM .nil pass0 (pac (pv 0) (pac (pv 1) pa_nil))) (pe_callTy call_int1 (by rfl) hint boot_int (pac (pe_cmpR op_eq (pv 4) pe_int (nomark _)) pa_nil)))) (pe_op op_add (pv 2) pe_int)))
   (pss_cons (ps_set (i:=4) scNumb.nd rfl (Or.inl rfl) (pe_op op_fdiv (pv 4) (pe_op op_add (pv 2) pe_int)))
   (pss_cons (ps_for PassesOwn.never rfl (pi_range1 rfl hrange (pac (pv 5) pa_nil)) (pg_name (i:=6) scNumb.nd rfl (Or.inl rfl))
     (pss_cons (ps_set (i:=7) scNumb.nd rfl (Or.inl rfl) (pe_op op_mod (pv 4) (pe_pow (v:=1000000000000000000000000000000000000000000000000000000000000) (by decide) (by decide))))
   (pss_cons (ps_set (i:=4) scNumb.nd rfl (Or.inl rfl) (pe_op op_fdivX (pv 4) (pe_pow (v:=1000000000000000000000000000000000000000000000000000000000000) (by decide) (by decide))))
   (pss_cons (ps_if (pt_cmpR op_eq (pv 4) pe_int (nomark _)) (pss_one (ps_set (i:=7) scNumb.nd rfl (Or.inl rfl) (pec GF hr rfl DF.m DF.F.kp bF .nil pass0 (pac (pv 0) (pac (pe_op op_add (pe_op op_mul pe_int (pv 1)) (pe_op op_mul pe_int (pv 6))) (pac (pv 7) pa_nil)))))) pss_nil)
   (pss_one (ps_expr (pe_bm PySem.F.plainAttrs_list PySem.F.slot_list_append PySem.F.type_list_append mt_append (pv 3) (pac (pv 7) pa_nil))))))))
   (pss_one (ps_ret (pv 3)))))))),?_⟩
  refine ⟨szr rfl,fun L nL=>?_⟩
  have S0:=same_upd (o:=HO.lst []) nL
  have e0:(upd H L (.lst [])) L=some (.lst []):=upd_same
  revert S0 e0
  generalize (upd H L (.lst []))=H0
  intro S0 e0
  refine ⟨_,rfl,_,rfl,a,ns,st,rfl,S0.seq hS,fun c1=>⟨_,rfl,_,rfl,a,ns,0,rfl,S0.seq hS,fun c0=>⟨_,_,rfl,rfl,(by show (0:Int) < _; decide),rfl,.inr ⟨_,rfl,_,_,rfl,rfl,cmulR (by split <;> decide) (by split <;> decide),?_⟩⟩⟩⟩
  refine' laterS (fun σ H1=>∃ le:Int,σ=[some (.ref a),some (.int st),some (.int mo),some (.ref L),some (.int le),none,none,none]∧H1=H0) (fun fin=>_) _
  rotate_left
  ·exact fin _ _ ⟨_,rfl,rfl⟩
  rintro σ H1 ⟨le,rfl,rfl⟩
  refine ⟨_,rfl,_,rfl,_,rfl,a,ns,st,rfl,S0.seq hS,by omega,fun mx m0 m1=>⟨_,rfl,rfl,.inr ⟨_,rfl,_,_,rfl,rfl,cmulR (by split <;> decide) (by split <;> decide),_,_,rfl,rfl,_,rfl,_,_,rfl,rfl,_,_,rfl,rfl,(by show (0:Int) < (mo:Int) + 1; omega),?_⟩⟩⟩
  refine' laterS (fun σ H2=>∃ many:Nat,many≤mo∧σ=[some (.ref a),some (.int st),some (.int mo),some (.ref L),some (.int le),some (.int many),none,none]∧H2=H1) (fun fin=>_) _
  rotate_left
  ·have q1:=Int.emod_nonneg (le + mx * (if decide (V.int le=V.int 0)=true then 1 else 0)) (show ((mo:Int) + 1)≠0 by omega)
   have q2:=Int.emod_lt_of_pos (le + mx * (if decide (V.int le=V.int 0)=true then 1 else 0)) (show (0:Int) < (mo:Int) + 1 by omega)
   obtain ⟨many,hm⟩:=Int.eq_ofNat_of_zero_le q1
   dsimp only [gName]
   rw [hm]
   exact fin _ _ ⟨many,by omega,rfl,rfl⟩
  rintro σ H2 ⟨many,hmany,rfl,rfl⟩
  refine ⟨_,rfl,_,rfl,_,_,rfl,rfl,_,_,rfl,rfl,⟨by show (0:Int) < (mo:Int) + 1; omega,by show (mo:Int) + 1 < _; omega⟩,?_⟩
  refine ⟨_,rfl,_,rfl,by show -2 ^ 62≤(many:Int); omega,by show (many:Int) < 2 ^ 62; omega,?_⟩
  refine for_range (fun i σ H3=>(∃ le' v6 v7,σ=[some (.ref a),some (.int st),some (.int mo),some (.ref L),some (.int le'),some (.int many),v6,v7])∧Same H H3∧∃ ms:List Int,ms.length=i∧H3 L=some (.lst (ms.map V.int))) ⟨⟨_,_,_,rfl⟩,S0,[],rfl,e0⟩ ?_ ?_
  ·rintro i σ H3 hi ⟨⟨le',v6,v7,rfl⟩,S3,ms,ml,e3⟩
   have hi':i < many:=by
    have:i < ((many:Int)).toNat:=hi
    omega
   refine ⟨_,rfl,_,_,rfl,rfl,(by show (0:Int) < _; decide),?_⟩
   refine ⟨_,rfl,_,_,rfl,rfl,⟨by decide,by decide⟩,?_⟩
   refine' laterS (fun σ H4=>(∃ le' v6 n7,σ=[some (.ref a),some (.int st),some (.int mo),some (.ref L),some (.int le'),some (.int many),v6,some (.int n7)])∧H4=H3) (fun fin=>_) _
   rotate_left
   ·refine ⟨_,rfl,rfl,_,rfl,ifC (fun _=>?_) (fun _=>fin _ _ ⟨⟨_,_,_,rfl⟩,rfl⟩)⟩
    refine ⟨_,rfl,_,rfl,_,_,rfl,rfl,cmulR (by omega) (by omega),_,rfl,_,_,rfl,rfl,cmulR (by show -(2 ^ 64) < (0 + (i:Int)); omega) (by show (0 + (i:Int)) < 2 ^ 64; omega),_,_,rfl,rfl,_,rfl,a,ns,64 * st + 7 * i,le' % 1000000000000000000000000000000000000000000000000000000000000,?_,S3.seq hS,by omega,fun m=>fin _ _ ⟨⟨_,_,_,rfl⟩,rfl⟩⟩
    show [V.ref a,V.int (64 * (st:Int) + 7 * (0 + (i:Int))),_]=_
    rw [show 64 * (st:Int) + 7 * (0 + (i:Int))=((64 * st + 7 * i:Nat):Int) by omega]
   rintro σ H4 ⟨⟨le2,v6',n7,rfl⟩,rfl⟩
   refine ⟨_,rfl,.inl ⟨rfl,_,SqL.of e3⟩,_,rfl,L,_,_,rfl,rfl,e3,small1000 (by rw [List.length_map]; omega),⟨_,_,_,rfl⟩,same_updN S3 nL,ms ++ [n7],by rw [List.length_append,ml]; rfl,?_⟩
   rw [upd_same,List.map_append]
   rfl
  ·rintro σ H3 ⟨⟨le',v6,v7,rfl⟩,S3,ms,ml,e3⟩
   have:ms.length≤mo:=by
    have e:((many:Int)).toNat=many:=Int.toNat_natCast _
    omega
   exact ⟨_,rfl,z L ms H3 S3 nL e3 this⟩
end
theorem mm_ok (a b:Int×Int):hLt (if hLt a b=true then b else a) (if hLt b a=true then b else a)=false:=by
 have irr:∀ p:Int×Int,hLt p p=false:=fun p=>by
  cases h:hLt p p with
  | false=>rfl
  | true=>have:=(hLt_iff p p).mp h; omega
 by_cases h1:hLt a b=true
 ·rw [if_pos h1]
  by_cases h2:hLt b a=true
  ·rw [if_pos h2]; exact irr b
  ·rw [if_neg h2]; simpa using h2
 ·rw [if_neg h1]
  by_cases h2:hLt b a=true
  ·rw [if_pos h2]; simpa using h1
  ·rw [if_neg h2]; exact irr a
section
variable {P:Program} {w:World} {K:PySem.W.Frag} {mg:Str→Option Value} {base:Heap}
def spLine:Sp:=fun vs H Q _=>∃ n:Int,vs=[.int n]∧∀ (r x y:Addr) (p q:Int×Int) H',Same H H'→H' r=some (.tup [.ref x,.ref y])→two H' x p→two H' y q→hLt q p=false→Q (.ref r) H'
def lnS (H:Hp) (f:Int) (σ:L2.St) (H1:Hp):Prop:=∃ n x y e o:Int,σ=[some (.int n),some (.int f),some (.int x),some (.int y),some (.int e),some (.int o),some (.int (2 * 1000000000 + 1))]∧H1=H
theorem scLine:FnScope ["_law_number","_law_far","_law_x","_law_y","_law_east","_law_north","_law_wide"] ["_law_number"] (defScope sLine):=⟨rfl,rfl,rfl,by decide +kernel,rfl,by decide +kernel,by decide +kernel⟩
theorem ok_line {f:Addr} {fd:FuncData} (D:Df K mg "_law_line" sLine f fd) (habs:mg "abs"=none) (hmin:mg "min"=none) (hmax:mg "max"=none):FnOk P w K mg base CX0 2 f fd ["_law_number"] spLine:=by
 refine D.F.ok scLine (fun vs H Q E h=>?_) (fun cdv A outer s H vs Q E hr h=>?_)
 ·obtain ⟨n,rfl,_⟩:=h
  rfl
 ·obtain ⟨n,rfl,z⟩:=h
  have hu0:=hr.units
  have hu:(A.deeper (envOfC "_law_line" (defScope sLine) s.heap.objs.size f cdv)).units + 1 < cLine:=by omega
  refine ⟨_,(pss_cons (ps_set (i:=1) scLine.nd rfl (Or.inl rfl) (pe_op op_mod (pv 0) pe_int))
   (pss_cons (ps_set (i:=0) scLine.nd rfl (Or.inl rfl) (pe_op op_fdiv (pv 0) pe_int))
   (pss_cons (ps_set (i:=2) scLine.nd rfl (Or.inl rfl) (pe_op op_sub (pe_op op_mod (pv 0) pe_int) pe_int))
   (pss_cons (ps_set (i:=3) scLine.nd rfl (Or.inl rfl) (pe_op op_sub (pe_op op_mod (pe_op op_fdiv (pv 0) pe_int) pe_int) pe_int))
   (pss_cons (ps_set (i:=4) scLine.nd rfl (Or.inl rfl) (pe_op op_sub (pe_op op_mod (pe_op op_fdiv (pv 0) pe_int) pe_int) pe_int))
   (pss_cons (ps_set (i:=5) scLine.nd rfl (Or.inl rfl) (pe_op op_sub (pe_op op_mod (pe_op op_fdiv (pv 0) pe_int) pe_int) pe_int))
   (pss_cons (ps_set (i:=6) scLine.nd rfl (Or.inl rfl) (pe_op op_add (pe_op op_mul pe_int pe_p9) pe_int))
   (pss_cons (ps_if (pt_cmpR op_eq (pv 1) pe_int (nomark _)) (pss_one (ps_set (i:=2) scLine.nd rfl (Or.inl rfl) (pe_op op_sub pe_p9 (pe_op op_mod (pv 0) pe_int)))) pss_nil)
   (pss_cons (ps_if (pt_cmpR op_eq (pv 1) pe_int (nomark _)) (pss_one (ps_set (i:=3) scLine.nd rfl (Or.inl rfl) (pe_op op_sub (pe_op op_mod (pe_op op_fdiv (pv 0) pe_int) pe_int) pe_p9))) pss_nil)
   (pss_cons (ps_if (pt_cmpR op_eq (pv 1) pe_int (nomark _)) (pss_cons (ps_set (i:=2) scLine.nd rfl (Or.inl rfl) (pe_op op_sub (pe_op op_mod (pe_op op_fdiv (pv 0) pe_int) (pv 6)) pe_p9))
   (pss_one (ps_set (i:=3) scLine.nd rfl (Or.inl rfl) (pe_op op_sub (pe_op op_mod (pe_op op_fdivX (pe_op op_fdiv (pv 0) pe_int) (pv 6)) (pv 6)) pe_p9)))) pss_nil)
   (pss_cons (ps_if (PW.pt (pw_and (pt_cmpR op_eq (pv 4) pe_int (nomark _)) (pw_and1 (pt_cmpR op_eq (pv 5) pe_int (nomark _))))) (pss_one (ps_set (i:=4) scLine.nd rfl (Or.inl rfl) pe_int)) pss_nil)
   (pss_cons (ps_if (pt_cmpR op_gt (pe_callB call_abs (by rfl) habs boot_abs (pac (pe_op op_add (pv 2) (pv 4)) pa_nil)) pe_p9 (nomark _)) (pss_one (ps_set (i:=4) scLine.nd rfl (Or.inl rfl) (pe_op op_sub pe_int (pv 4)))) pss_nil)
   (pss_cons (ps_if (pt_cmpR op_gt (pe_callB call_abs (by rfl) habs boot_abs (pac (pe_op op_add (pv 3) (pv 5)) pa_nil)) pe_p9 (nomark _)) (pss_one (ps_set (i:=5) scLine.nd rfl (Or.inl rfl) (pe_op op_sub pe_int (pv 5)))) pss_nil)
   (pss_one (ps_ret (pe_tup (pac (pe_callB (call_minT rfl hu) (by rfl) hmin boot_min (pac (pe_tup (pac (pv 2) (pac (pv 3) pa_nil))) (pac (pe_tup (pac (pe_op op_add (pv 2) (pv 4)) (pac (pe_op op_add (pv 3) (pv 5)) pa_nil))) pa_nil))) (pac (pe_callB (call_maxT rfl hu) (by rfl) hmax boot_max (pac (pe_tup (pac (pv 2) (pac (pv 3) pa_nil))) (pac (pe_tup (pac (pe_op op_add (pv 2) (pv 4)) (pac (pe_op op_add (pv 3) (pv 5)) pa_nil))) pa_nil))) pa_nil)))))))))))))))))),?_⟩
  refine ⟨_,rfl,_,_,rfl,rfl,(by show (0:Int) < _; decide),?_⟩
  refine ⟨_,rfl,_,_,rfl,rfl,⟨by decide,by decide⟩,?_⟩
  refine ⟨_,rfl,_,_,rfl,rfl,(by show (0:Int) < _; decide),_,_,rfl,rfl,?_⟩
  refine ⟨_,rfl,_,_,rfl,rfl,⟨by decide,by decide⟩,_,_,rfl,rfl,(by show (0:Int) < _; decide),_,_,rfl,rfl,?_⟩
  refine ⟨_,rfl,_,_,rfl,rfl,⟨by decide,by decide⟩,_,_,rfl,rfl,(by show (0:Int) < _; decide),_,_,rfl,rfl,?_⟩
  refine ⟨_,rfl,_,_,rfl,rfl,⟨by decide,by decide⟩,_,_,rfl,rfl,(by show (0:Int) < _; decide),_,_,rfl,rfl,?_⟩
  refine ⟨_,_,rfl,rfl,cmulR (by decide) (by decide),_,_,rfl,rfl,?_⟩
  refine' laterS (lnS H (n % 4)) (fun fin=>_) _
  rotate_left
  ·refine ⟨_,rfl,rfl,_,rfl,ifC (fun _=>?_) (fun _=>fin _ _ ⟨_,_,_,_,_,rfl,rfl⟩)⟩
   exact ⟨_,rfl,_,_,rfl,rfl,(by show (0:Int) < _; decide),_,_,rfl,rfl,fin _ _ ⟨_,_,_,_,_,rfl,rfl⟩⟩
  rintro σ H1 ⟨n1,x1,y1,ea1,no1,rfl,rfl⟩
  refine' laterS (lnS H1 (n % 4)) (fun fin=>_) _
  rotate_left
  ·refine ⟨_,rfl,rfl,_,rfl,ifC (fun _=>?_) (fun _=>fin _ _ ⟨_,_,_,_,_,rfl,rfl⟩)⟩
   exact ⟨_,rfl,_,_,rfl,rfl,⟨by decide,by decide⟩,_,_,rfl,rfl,(by show (0:Int) < _; decide),_,_,rfl,rfl,fin _ _ ⟨_,_,_,_,_,rfl,rfl⟩⟩
  rintro σ H1 ⟨n2,x2,y2,ea2,no2,rfl,rfl⟩
  refine' laterS (lnS H1 (n % 4)) (fun fin=>_) _
  rotate_left
  ·refine ⟨_,rfl,rfl,_,rfl,ifC (fun _=>?_) (fun _=>fin _ _ ⟨_,_,_,_,_,rfl,rfl⟩)⟩
   refine ⟨_,rfl,_,_,rfl,rfl,⟨by decide,by decide⟩,_,rfl,_,_,rfl,rfl,(by show (0:Int) < _; decide),_,_,rfl,rfl,?_⟩
   exact ⟨_,rfl,_,_,rfl,rfl,⟨by decide,by decide⟩,_,rfl,_,_,rfl,rfl,⟨by decide,by decide⟩,_,rfl,_,_,rfl,rfl,(by show (0:Int) < _; decide),_,_,rfl,rfl,fin _ _ ⟨_,_,_,_,_,rfl,rfl⟩⟩
  rintro σ H1 ⟨n3,x3,y3,ea3,no3,rfl,rfl⟩
  refine' laterS (lnS H1 (n % 4)) (fun fin=>_) _
  rotate_left
  ·refine ⟨_,rfl,rfl,_,rfl,ifC (fun _=>?_) (fun _=>iteF (fin _ _ ⟨_,_,_,_,_,rfl,rfl⟩))⟩
   exact ⟨_,rfl,rfl,_,rfl,ifC (fun _=>fin _ _ ⟨_,_,_,_,_,rfl,rfl⟩) (fun _=>fin _ _ ⟨_,_,_,_,_,rfl,rfl⟩)⟩
  rintro σ H1 ⟨n4,x4,y4,ea4,no4,rfl,rfl⟩
  refine' laterS (lnS H1 (n % 4)) (fun fin=>_) _
  rotate_left
  ·exact ⟨_,rfl,_,rfl,_,_,rfl,rfl,_,rfl,_,_,rfl,rfl,_,rfl,ifC (fun _=>⟨_,rfl,_,_,rfl,rfl,fin _ _ ⟨_,_,_,_,_,rfl,rfl⟩⟩) (fun _=>fin _ _ ⟨_,_,_,_,_,rfl,rfl⟩)⟩
  rintro σ H1 ⟨n5,x5,y5,ea5,no5,rfl,rfl⟩
  refine' laterS (lnS H1 (n % 4)) (fun fin=>_) _
  rotate_left
  ·exact ⟨_,rfl,_,rfl,_,_,rfl,rfl,_,rfl,_,_,rfl,rfl,_,rfl,ifC (fun _=>⟨_,rfl,_,_,rfl,rfl,fin _ _ ⟨_,_,_,_,_,rfl,rfl⟩⟩) (fun _=>fin _ _ ⟨_,_,_,_,_,rfl,rfl⟩)⟩
  rintro σ H1 ⟨n6,x,y,ea,no,rfl,rfl⟩
  refine ⟨_,rfl,_,rfl,szr rfl,fun t1 m1=>⟨_,rfl,_,rfl,_,_,rfl,rfl,_,rfl,_,rfl,_,_,rfl,rfl,szr rfl,fun t2 m2=>?_⟩⟩
  have T1:=same_upd (o:=HO.tup [V.int x,.int y]) m1
  have T2:=same_upd (o:=HO.tup [V.int (x + ea),.int (y + no)]) m2
  have T12:=T1.trans T2
  have w1:two (upd (upd H1 t1 (.tup [V.int x,.int y])) t2 (.tup [V.int (x + ea),.int (y + no)])) t1 (x,y):=T2 _ _ upd_same
  have w2:two (upd (upd H1 t1 (.tup [V.int x,.int y])) t2 (.tup [V.int (x + ea),.int (y + no)])) t2 (x + ea,y + no):=upd_same
  revert T12 w1 w2
  generalize (upd (upd H1 t1 (.tup [V.int x,.int y])) t2 (.tup [V.int (x + ea),.int (y + no)]))=H2
  intro T12 w1 w2
  obtain ⟨r1,p1,er1,wr1,ep1⟩:∃ (r1:Addr) (p1:Int×Int),(if HT.lexLt [x + ea,y + no] [x,y]=true then V.ref t2 else V.ref t1)=V.ref r1∧two H2 r1 p1∧p1=(if hLt (x + ea,y + no) (x,y)=true then (x + ea,y + no) else (x,y)):=by
   by_cases hh:HT.lexLt [x + ea,y + no] [x,y]=true
   ·exact ⟨t2,_,by rw [if_pos hh],w2,(if_pos hh).symm⟩
   ·exact ⟨t1,_,by rw [if_neg hh],w1,(if_neg hh).symm⟩
  refine ⟨t1,t2,[x,y],[x + ea,y + no],rfl,SqT.of w1,SqT.of w2,?_⟩
  rw [er1]
  refine ⟨_,rfl,_,rfl,szr rfl,fun t3 m3=>⟨_,rfl,_,rfl,_,_,rfl,rfl,_,rfl,_,rfl,_,_,rfl,rfl,szr rfl,fun t4 m4=>?_⟩⟩
  have T3:=same_upd (o:=HO.tup [V.int x,.int y]) m3
  have T4:=same_upd (o:=HO.tup [V.int (x + ea),.int (y + no)]) m4
  have T34:=T3.trans T4
  have w3:two (upd (upd H2 t3 (.tup [V.int x,.int y])) t4 (.tup [V.int (x + ea),.int (y + no)])) t3 (x,y):=T4 _ _ upd_same
  have w4:two (upd (upd H2 t3 (.tup [V.int x,.int y])) t4 (.tup [V.int (x + ea),.int (y + no)])) t4 (x + ea,y + no):=upd_same
  have wr1:=T34 _ _ wr1
  revert T34 w3 w4 wr1
  generalize (upd (upd H2 t3 (.tup [V.int x,.int y])) t4 (.tup [V.int (x + ea),.int (y + no)]))=H3
  intro T34 w3 w4 wr1
  obtain ⟨r2,p2,er2,wr2,ep2⟩:∃ (r2:Addr) (p2:Int×Int),(if HT.lexLt [x,y] [x + ea,y + no]=true then V.ref t4 else V.ref t3)=V.ref r2∧two H3 r2 p2∧p2=(if hLt (x,y) (x + ea,y + no)=true then (x + ea,y + no) else (x,y)):=by
   by_cases hh:HT.lexLt [x,y] [x + ea,y + no]=true
   ·exact ⟨t4,_,by rw [if_pos hh],w4,(if_pos hh).symm⟩
   ·exact ⟨t3,_,by rw [if_neg hh],w3,(if_neg hh).symm⟩
  have ord:hLt p2 p1=false:=by
   rw [ep1,ep2]
   exact mm_ok _ _
  refine ⟨t3,t4,[x,y],[x + ea,y + no],rfl,SqT.of w3,SqT.of w4,?_⟩
  rw [er2]
  refine ⟨szr rfl,fun r nr=>?_⟩
  have Tr:=same_upd (o:=HO.tup [V.ref r1,.ref r2]) nr
  exact z r r1 r2 p1 p2 _ ((T12.trans T34).trans Tr) upd_same (Tr _ _ wr1) (Tr _ _ wr2) ord
def spColr:Sp:=fun vs H Q _=>∃ n:Int,vs=[.int n]∧∀ s:Str,1≤s.length→s.length≤8→Q (.str s) H
theorem scColr:FnScope ["_law_number","_law_letters","_law_signs","_law_many","_law_k"] ["_law_number"] (defScope sColr):=⟨rfl,rfl,rfl,by decide +kernel,rfl,by decide +kernel,by decide +kernel⟩
theorem ok_colr {f:Addr} {fd:FuncData} (D:Df K mg "_law_colour" sColr f fd) (hrange:mg "range"=none):FnOk P w K mg base CX0 1 f fd ["_law_number"] spColr:=by
 refine D.F.ok scColr (fun vs H Q E h=>?_) (fun cdv A outer s H vs Q E hr h=>?_)
 ·obtain ⟨n,rfl,_⟩:=h
  rfl
 ·obtain ⟨n,rfl,z⟩:=h
  refine ⟨_,(pss_cons (ps_set (i:=1) scColr.nd rfl (Or.inl rfl) pe_str)
   (pss_cons (ps_set (i:=2) scColr.nd rfl (Or.inl rfl) pe_str)
   (pss_cons (ps_set (i:=3) scColr.nd rfl (Or.inl rfl) (pe_op op_add pe_int (pe_op op_mod (pv 0) pe_int)))
   (pss_cons (ps_set (i:=0) scColr.nd rfl (Or.inl rfl) (pe_op op_fdiv (pv 0) pe_int))
   (pss_cons (ps_for PassesOwn.never rfl (pi_range1 rfl hrange (pac (pv 3) pa_nil)) (pg_name (i:=4) scColr.nd rfl (Or.inl rfl))
     (pss_cons (ps_set (i:=2) scColr.nd rfl (Or.inl rfl) (pe_op op_add_str (pv 2) (pe_ix ix_str (pv 1) (pe_op op_mod (pv 0) pe_int) (fun _ _=>rfl))))
   (pss_one (ps_set (i:=0) scColr.nd rfl (Or.inl rfl) (pe_op op_fdiv (pv 0) pe_int)))))
   (pss_one (ps_ret (pv 2)))))))),?_⟩
  have hm1:1≤1 + n % 8∧1 + n % 8≤8:=by omega
  refine ⟨_,rfl,_,_,rfl,rfl,(by show (0:Int) < _; decide),_,_,rfl,rfl,?_⟩
  refine ⟨_,rfl,_,_,rfl,rfl,⟨by decide,by decide⟩,?_⟩
  refine ⟨_,rfl,_,rfl,by show -2 ^ 62≤1 + n % 8; omega,by show 1 + n % 8 < 2 ^ 62; omega,?_⟩
  refine for_range (fun i σ H2=>(∃ (n':Int) (sg:Str) (v4:Option V),σ=[some (.int n'),some (.str "abcdefghijklmnopqrstuvwxyz"),some (.str sg),some (.int (1 + n % 8)),v4]∧sg.length=i)∧H2=H) ⟨⟨_,_,_,rfl,rfl⟩,rfl⟩ ?_ ?_
  ·rintro i σ H2 hi ⟨⟨n',sg,v4,rfl,sl⟩,rfl⟩
   have hi8:i < 8:=by have:i < (1 + n % 8).toNat:=hi; omega
   obtain ⟨x,hat,_⟩:=atI_of (xs:=("abcdefghijklmnopqrstuvwxyz":Str).cps.toList) (m:=n' % 26) (by omega) (by rw [abc26]; omega)
   refine ⟨_,rfl,_,rfl,_,rfl,_,_,rfl,rfl,(by show (0:Int) < 26; decide),_,_,x,rfl,rfl,abc_sz,hat,_,_,rfl,rfl,by rw [sizeLine_eq]; show sg.length + 1≤_; omega,?_⟩
   refine ⟨_,rfl,_,_,rfl,rfl,⟨by decide,by decide⟩,⟨_,_,_,rfl,?_⟩,rfl⟩
   rw [app_len,sl]
   rfl
  ·rintro σ H2 ⟨⟨n',sg,v4,rfl,sl⟩,rfl⟩
   have sl':sg.length=(1 + n % 8).toNat:=sl
   exact ⟨_,rfl,z sg (by omega) (by omega)⟩
end
theorem dicV_in {P:Program} {w:World} {H:Hp} {a:Addr} {kvs:List (Dt×V)} (h:DicV P w H a kvs):∃ xs,DicH P w H a xs∧∀ d,d∈xs.map (·.1)↔∃ v,valV kvs d=some v:=by
 obtain ⟨xs,dx,kd⟩:=h
 refine ⟨xs,dx,fun d=>?_⟩
 rw [← kd.keys]
 constructor
 ·intro m
  cases hv:valV kvs d with
  | none=>exact absurd m (valV_not hv)
  | some v=>exact ⟨v,rfl⟩
 ·rintro ⟨v,hv⟩
  exact valV_in hv
theorem dicV_updL {P:Program} {w:World} {H:Hp} {a r:Addr} {ys:List V} {o:HO} {kvs:List (Dt×V)} (d:DicV P w H a kvs) (er:H r=some (.lst ys)):DicV P w (upd H r o) a kvs:=by
 obtain ⟨xs,h,kd⟩:=d
 have ne:a≠r:=fun z=>by
  have:=h.at_
  rw [z,er] at this
  cases this
 exact ⟨xs,⟨by rw [upd_ne ne]; exact h.at_,h.sys,h.len,fun x hx=>⟨(h.key x hx).1.updL er,(h.key x hx).2⟩⟩,kd⟩
section
variable {P:Program} {w:World} {K:PySem.W.Frag} {mg:Str→Option Value} {base:Heap}
def spPairs (K:PySem.W.Frag):Sp:=fun vs H Q _=>∃ (a nm:Addr) (ms:List Int) (names:List Str),vs=[.ref a,.ref nm]∧SqL K H a (ms.map V.int)∧ms.length≤60∧H nm=some (.lst (names.map V.str))∧1≤names.length∧names.length≤100 ∧
 ∀ l ps H',Same H H'→H l=none→Pic H' l ps→ps.length=ms.length→(∀ p∈ps,p.c∈names)→(∀ p∈ps,p.ok)→(∀ a∈ps,∀ b∈ps,lD a=lD b→a.c=b.c)→Q (.ref l) H'
theorem scPairs:FnScope ["_law_numbers_here","_law_names","_law_inks","_law_pairs_here","_law_number","_law_ends"] ["_law_numbers_here","_law_names"] (defScope sPairs):=⟨rfl,rfl,rfl,by decide +kernel,rfl,by decide +kernel,by decide +kernel⟩
theorem ok_pairs {f fL:Addr} {fd fdL:FuncData} (D:Df K mg "_law_pairs" sPairs f fd) (DL:Df K mg "_law_line" sLine fL fdL) (bL:Binds K fdL ["_law_number"] []) (GL:FnOk P w K mg base CX0 2 fL fdL ["_law_number"] spLine) (hlen:mg "len"=none) :
  FnOk P w K mg base CX0 3 f fd ["_law_numbers_here","_law_names"] (spPairs K):=by
 refine D.F.ok scPairs (fun vs H Q E h=>?_) (fun cdv A outer s H vs Q E hr h=>?_)
 ·obtain ⟨a,nm,ms,names,rfl,_⟩:=h
  rfl
 ·obtain ⟨a,nm,ms,names,rfl,hS,hl,hN,n1,n8,z⟩:=h
  have hr1:Room 1 _:=hr.mono (by decide)
  refine ⟨_,(pss_cons (ps_set (i:=2) scPairs.nd rfl (Or.inl rfl) pe_dnewD)
   (pss_cons (ps_set (i:=3) scPairs.nd rfl (Or.inl rfl) (pe_lst pa_nil))
   (pss_cons (ps_for PassesOwn.never rfl (pi_list (pv 0)) (pg_name (i:=4) scPairs.nd rfl (Or.inl rfl)) (pss_cons (ps_set (i:=5) scPairs.nd rfl (Or.inl rfl) (pec GL hr rfl DL.m DL.F.kp bL .nil pass0 (pac (pv 4) pa_nil)))
   (pss_cons (ps_if (pt_cmpR (op_notInD hr1) (pv 5) (pv 2) rfl) (pss_one (ps_dputD hr1 (pv 2) (pv 5) (pe_ix ix_list (pv 1) (pe_op op_mod (pe_op op_fdivX (pv 4) (pe_pow (v:=1000000000000000000000000000000) (by decide) (by decide))) (pe_callB call_len_seq (by rfl) hlen PySem.boot_len (pac (pv 1) pa_nil))) (fun _ _=>rfl)) rfl)) pss_nil)
   (pss_one (ps_expr (pe_bm PySem.F.plainAttrs_list PySem.F.slot_list_append PySem.F.type_list_append mt_append (pv 3) (pac (pe_tup (pac (pv 5) (pac (pe_dgetD hr1 (pv 2) (pv 5) (fun _ _=>rfl)) pa_nil))) pa_nil)))))))
   (pss_one (ps_ret (pv 3)))))),?_⟩
  refine fun dI oI nI dd=>⟨szr rfl,fun L nL'=>?_⟩
  have TI:=same_upd (o:=oI) nI
  have nL:H L=none:=none_same TI nL'
  have neL:L≠dI:=fun e=>by
   obtain ⟨φ,ee⟩:=dd.ext
   rw [e,ee] at nL'
   cases nL'
  have TL:=same_upd (o:=HO.lst []) nL'
  refine ⟨_,rfl,a,rfl,⟨_,(TI.trans TL).seq hS⟩,?_⟩
  refine for_list (K:=K) (a:=a) (xs:=ms.map V.int) (fun i σ H2=>(∃ v4 v5,σ=[some (.ref a),some (.ref nm),some (.ref dI),some (.ref L),v4,v5])∧Same H H2∧∃ kvs xs ps,DicV P w H2 dI kvs∧kvs.length≤i∧H2 L=some (.lst xs)∧DtsIs H2 xs (List.map pD ps)∧ps.length=i∧(∀ p∈ps,valV kvs (lD p)=some (.str p.c))∧(∀ d v,valV kvs d=some v→∃ c∈names,v=.str c)∧∀ p∈ps,p.ok)
   ⟨⟨_,_,rfl⟩,TI.trans TL,[],[],[],dd.same TL,Nat.le_refl _,upd_same,.nil,rfl,fun _ h=>(nomatch h),fun d v e=>(by cases e),fun _ h=>(nomatch h)⟩ (fun i σ H2 _ ⟨_,s2,_⟩=>s2.seq hS) ?_ ?_
  ·rintro i y σ H2 hi ⟨⟨v4,v5,rfl⟩,S2,kvs,xs,ps,dk,kl,eL,dL,pl,pv,kn,pok⟩
   obtain ⟨c,_,rfl⟩:=List.mem_map.mp (List.mem_of_getElem? hi)
   have hi60:i < ms.length:=by
    obtain ⟨h1,_⟩:=List.getElem?_eq_some_iff.mp hi
    simpa using h1
   refine ⟨_,rfl,c,rfl,fun r x y p q H3 S3 er hx hy hpq=>?_⟩
   have dl3:DtIs H3 (.ref r) (lD ⟨p,q,""⟩):=.tup er (.cons (two_dt hx) (.cons (two_dt hy) .nil))
   have dk3:=dk.same S3
   have eL3:=S3 _ _ eL
   have dL3:=dL.same S3
   have hN3:=(S2.trans S3) _ _ hN
   have ldp:(lD ⟨p,q,""⟩).dp≤8:=by simp [lD,hD,Dt.dp,Dt.dps]
   have SH3:=S2.trans S3
   refine' laterS (fun σ H4=>∃ (kvs':List (Dt×V)) (col:Str),σ=[some (.ref a),some (.ref nm),some (.ref dI),some (.ref L),some (.int c),some (.ref r)]∧Same H H4∧DicV P w H4 dI kvs'∧kvs'.length≤i + 1∧H4 L=some (.lst xs)∧DtsIs H4 xs (List.map pD ps)∧DtIs H4 (.ref r) (lD ⟨p,q,""⟩)∧valV kvs' (lD ⟨p,q,""⟩)=some (.str col)∧(∀ p∈ps,valV kvs' (lD p)=some (.str p.c))∧(∀ d v,valV kvs' d=some v→∃ c∈names,v=.str c)) (fun fin=>_) _
   rotate_left
   ·obtain ⟨xk,dx,mk⟩:=dicV_in dk3
    refine ⟨_,rfl,_,rfl,r,dI,_,xk,rfl,rfl,dl3,ldp,dx,_,rfl,?_⟩
    by_cases hin:lD ⟨p,q,""⟩∈xk.map (·.1)
    ·refine ifB_neg (by rw [decide_eq_true hin]; rfl) ?_
     obtain ⟨v,hv⟩:=(mk _).mp hin
     obtain ⟨col,hcol,rfl⟩:=kn _ _ hv
     exact fin _ _ ⟨kvs,col,rfl,SH3,dk3,by omega,eL3,dL3,dl3,hv,pv,kn⟩
    ·refine ifB_pos (by rw [decide_eq_false hin]; rfl) ?_
     have no:valV kvs (lD ⟨p,q,""⟩)=none:=by
      cases hv:valV kvs (lD ⟨p,q,""⟩) with
      | none=>rfl
      | some v=>exact absurd ((mk _).mpr ⟨v,hv⟩) hin
     obtain ⟨cv,hcat,hcm⟩:=atI_of (xs:=names.map V.str) (m:=c / 1000000000000000000000000000000 % ((names.map V.str).length:Int)) (Int.emod_nonneg _ (by rw [List.length_map]; omega)) (Int.emod_lt_of_pos _ (by rw [List.length_map]; omega))
     obtain ⟨col,hcol,rfl⟩:=List.mem_map.mp hcm
     refine ⟨_,rfl,_,rfl,_,_,rfl,rfl,⟨by decide,by decide⟩,_,rfl,nm,_,rfl,.inl (SqL.of hN3),_,_,rfl,rfl,(by show (0:Int) < ((names.map V.str).length:Int); rw [List.length_map]; omega),nm,_,_,_,rfl,rfl,SqL.of hN3,hcat,_,rfl,_,rfl,dI,r,_,kvs,rfl,rfl,dl3,ldp,dk3,by omega,fun o4 dk4=>?_⟩
     obtain ⟨φ,ext⟩:=dk3.ext
     have up:∀ d v,valV (putK kvs (lD ⟨p,q,""⟩) (.str col)) d=some v→(d=lD ⟨p,q,""⟩∧v=.str col)∨valV kvs d=some v:=fun d v e=>by
      rw [valV_put] at e
      split at e
      ·rename_i h
       exact .inl ⟨h,(Option.some.inj e).symm⟩
      ·exact .inr e
     refine fin _ _ ⟨putK kvs (lD ⟨p,q,""⟩) (.str col),col,rfl,?_,dk4,Nat.le_trans (putK_len _ _ _) (by omega),?_,dL3.updX ext,dl3.updX ext,by rw [valV_put,if_pos rfl],fun p' hp'=>?_,fun d v e=>?_⟩
     ·exact same_updN SH3 nI
     ·rw [upd_ne neL]
      exact eL3
     ·rw [valV_put,if_neg,pv p' hp']
      intro e
      have:=pv p' hp'
      rw [e,no] at this
      cases this
     ·rcases up d v e with ⟨_,rfl⟩ | e
      ·exact ⟨col,hcol,rfl⟩
      ·exact kn d v e
   rintro σ H4 ⟨kvs',col,rfl,S4,dk4,kl4,eL4,dL4,dl4,hv4,pv4,kn4⟩
   refine ⟨_,rfl,.inl ⟨rfl,_,SqL.of eL4⟩,_,rfl,_,rfl,_,rfl,dI,r,_,kvs',_,rfl,rfl,dl4,ldp,dk4,hv4,szr rfl,fun t nt=>?_⟩
   have Tt:=same_upd (o:=HO.tup [V.ref r,.str col]) nt
   have eL5:=Tt _ _ eL4
   have xl:xs.length=ps.length:=by rw [dL.length,List.length_map]
   have dt:DtIs (upd H4 t (.tup [.ref r,.str col])) (.ref t) (pD ⟨p,q,col⟩):=.tup upd_same (.cons (dl4.same Tt) (.cons (.str _) .nil))
   refine ⟨L,xs,_,rfl,rfl,eL5,small1000 (by omega),⟨_,_,rfl⟩,same_updN (S4.trans Tt) nL,kvs',xs ++ [.ref t],ps ++ [⟨p,q,col⟩],?_,kl4,upd_same,?_,by rw [List.length_append,pl]; rfl,fun p' hp'=>?_,kn4,fun p' hp'=>?_⟩
   ·exact dicV_updL (dk4.same Tt) eL5
   ·rw [List.map_append]
    exact DtsIs.snoc (DtIs.updL eL5 dt) (DtsIs.updL eL5 (dL4.same Tt))
   ·rcases List.mem_append.mp hp' with h | h
    ·exact pv4 p' h
    ·rw [List.mem_singleton.mp h]
     exact hv4
   ·rcases List.mem_append.mp hp' with h | h
    ·exact pok p' h
    ·rw [List.mem_singleton.mp h]
     exact hpq
  ·rintro σ H2 ⟨⟨v4,v5,rfl⟩,S2,kvs,xs,ps,dk,kl,eL,dL,pl,pv,kn,pok⟩
   refine ⟨_,rfl,z L ps H2 S2 nL ⟨xs,eL,dL⟩ (by rw [pl,List.length_map]) (fun p hp=>?_) pok fun b hb c hc e=>?_⟩
   ·obtain ⟨c,hc,e⟩:=kn _ _ (pv p hp)
    rw [V.str.inj e]
    exact hc
   ·have h1:=pv b hb
    rw [e,pv c hc] at h1
    exact (V.str.inj (Option.some.inj h1)).symm
end
section
variable {P:Program} {w:World} {K:PySem.W.Frag} {mg:Str→Option Value} {base:Heap}
def spMir:Sp:=fun vs H Q _=>∃ k:Nat,vs=[.int k]∧Q (.bl (decide (4≤k))) H
theorem scMir:FnScope ["way"] ["way"] (defScope sMir):=⟨rfl,rfl,rfl,by decide +kernel,rfl,by decide +kernel,by decide +kernel⟩
theorem ok_mir {f:Addr} {fd:FuncData} (D:Df K mg "is_mirroring" sMir f fd) (hqua:∃ t,mg "QUARTERS"=some (.int 4 t)):FnOk P w K mg base CX0 1 f fd ["way"] spMir:=by
 obtain ⟨tq,qua⟩:=hqua
 refine D.F.ok scMir (fun vs H Q E h=>?_) (fun cdv A outer s H vs Q E hr h=>?_)
 ·obtain ⟨k,rfl,_⟩:=h
  rfl
 ·obtain ⟨k,rfl,q⟩:=h
  refine ⟨_,pss_one (ps_ret (pe_cmpR op_ge (pv 0) (pe_glob (v:=.int 4) rfl qua ⟨_,rfl⟩) (nomark _))),?_⟩
  have e:decide (4≤k)=decide ((4:Int)≤(k:Int)):=decide_eq_decide.mpr (by omega)
  rw [e] at q
  exact ⟨_,rfl,_,_,rfl,rfl,q⟩
def spTurn:Sp:=fun vs H Q _=>∃ (q:Addr) (p:Int×Int) (k:Nat),vs=[.ref q,.int k]∧two H q p∧k < 8∧∀ r H',Same H H'→two H' r (turnN k p)→Q (.ref r) H'
theorem scTurn:FnScope ["hole","way","quarter"] ["hole","way"] (defScope sTurn):=⟨rfl,rfl,rfl,by decide +kernel,rfl,by decide +kernel,by decide +kernel⟩
theorem ok_turn {f fM:Addr} {fd fdM:FuncData} (D:Df K mg "turned_hole" sTurn f fd) (DM:Df K mg "is_mirroring" sMir fM fdM) (bM:Binds K fdM ["way"] []) (GM:FnOk P w K mg base CX0 1 fM fdM ["way"] spMir) (hqua:∃ t,mg "QUARTERS"=some (.int 4 t)) (hrange:mg "range"=none):FnOk P w K mg base CX0 2 f fd ["hole","way"] spTurn:=by
 obtain ⟨tq,qua⟩:=hqua
 refine D.F.ok scTurn (fun vs H Q E h=>?_) (fun cdv A outer s H vs Q E hr h=>?_)
 ·obtain ⟨q,p,k,rfl,_⟩:=h
  rfl
 ·obtain ⟨q,p,k,rfl,hq,hk,z⟩:=h
  have hr1:Room 1 _:=hr.mono (by decide)
  refine ⟨_,pss_cons (ps_if (pt_val (pec GM hr1 rfl DM.m DM.F.kp bM .nil pass0 (pac (pv 1) pa_nil))) (pss_one (ps_set (i:=0) scTurn.nd rfl (Or.inl rfl)
    (pe_tup (pa_cons (pe_un un_neg (pe_ix ix_tup (pv 0) pe_int (fun _ _=>rfl))) (pa_cons (pe_ix ix_tup (pv 0) pe_int (fun _ _=>rfl)) pa_nil))))) pss_nil)
   (pss_cons (ps_for PassesOwn.never rfl (pi_range1 rfl hrange (pa_cons (pe_op op_mod (pv 1) (pe_glob (v:=.int 4) rfl qua ⟨_,rfl⟩)) pa_nil)) (pg_name (i:=2) scTurn.nd rfl (Or.inl rfl))
    (pss_one (ps_set (i:=0) scTurn.nd rfl (Or.inl rfl) (pe_tup (pa_cons (pe_un un_neg (pe_ix ix_tup (pv 0) pe_int (fun _ _=>rfl))) (pa_cons (pe_ix ix_tup (pv 0) pe_int (fun _ _=>rfl)) pa_nil))))))
   (pss_one (ps_ret (pv 0)))),?_⟩
  refine ⟨_,rfl,k,rfl,_,rfl,?_⟩
  refine' later2 (fun q1 H1=>Same H H1∧two H1 q1 (mir k p)) (fun fin=>_) _
  rotate_left
  ·by_cases h4:4≤k
   ·refine ifD_pos h4 ?_
    refine ⟨_,rfl,q,_,_,_,rfl,rfl,SqT.of hq,rfl,_,rfl,_,rfl,q,_,_,_,rfl,rfl,SqT.of hq,rfl,szr rfl,fun q1 n1=>?_⟩
    have S1:Same H (upd H q1 (.tup [.int (-p.1),.int p.2])):=same_upd n1
    have h1:two (upd H q1 (.tup [.int (-p.1),.int p.2])) q1 (mir k p):=by
     unfold mir; rw [if_pos h4]; exact upd_same
    revert S1 h1
    generalize (upd H q1 (.tup [.int (-p.1),.int p.2]))=H1
    intro S1 h1
    exact fin q1 H1 ⟨S1,h1⟩
   ·refine ifD_neg h4 ?_
    exact fin q H ⟨Same.refl _,by unfold mir; rw [if_neg h4]; exact hq⟩
  ·rintro q1 H1 ⟨S1,h1⟩
   refine ⟨_,rfl,_,_,rfl,rfl,(by show (0:Int) < 4; decide),_,rfl,by show -2 ^ 62≤(k:Int) % 4; omega,by show (k:Int) % 4 < 2 ^ 62; omega,?_⟩
   have e4:((k:Int) % 4).toNat=k % 4:=by omega
   rw [e4]
   refine for_range (fun i σ H2=>∃ r v,σ=[some (.ref r),some (.int k),v]∧Same H H2∧two H2 r (qtrs i (mir k p))) ⟨q1,_,rfl,S1,h1⟩ ?_ ?_
   ·rintro i σ H2 hi ⟨r,v,rfl,S2,h2⟩
    refine ⟨_,rfl,r,_,_,_,rfl,rfl,SqT.of h2,rfl,_,rfl,_,rfl,r,_,_,_,rfl,rfl,SqT.of h2,rfl,szr rfl,fun r1 n1=>?_⟩
    exact ⟨r1,_,rfl,S2.trans (same_upd n1),upd_same⟩
   ·rintro σ H2 ⟨r,v,rfl,S2,h2⟩
    exact ⟨_,rfl,z r H2 S2 h2⟩
def spOrd:Sp:=fun vs H Q _=>∃ (x y:Addr) (p q:Int×Int),vs=[.ref x,.ref y]∧two H x p∧two H y q∧∀ r H',Same H H'→DtIs H' (.ref r) (.tup [hD (ordP p q).1,hD (ordP p q).2])→Q (.ref r) H'
theorem scOrd:FnScope ["one","other"] ["one","other"] (defScope sOrd):=⟨rfl,rfl,rfl,by decide +kernel,rfl,by decide +kernel,by decide +kernel⟩
theorem ok_ord {f:Addr} {fd:FuncData} (D:Df K mg "ordered" sOrd f fd):FnOk P w K mg base CX0 1 f fd ["one","other"] spOrd:=by
 refine D.F.ok scOrd (fun vs H Q E h=>?_) (fun cdv A outer s H vs Q E hr h=>?_)
 ·obtain ⟨x,y,p,q,rfl,_⟩:=h
  rfl
 ·obtain ⟨x,y,p,q,rfl,hx,hy,z⟩:=h
  refine ⟨_,(pss_one (ps_ret (pe_ifExp (pt_cmpR (op_ltT hr.units0) (pv 0) (pv 1) (nomark _)) (pe_tup (pac (pv 0) (pac (pv 1) pa_nil))) (pe_tup (pac (pv 1) (pac (pv 0) pa_nil)))))),?_⟩
  refine ⟨_,rfl,_,rfl,x,y,[p.1,p.2],[q.1,q.2],rfl,rfl,SqT.of hx,SqT.of hy,_,rfl,ifC (fun hl=>?_) (fun hl=>?_)⟩
  ·refine ⟨_,rfl,_,rfl,szr rfl,fun r nr=>z r _ (same_upd nr) ?_⟩
   have:ordP p q=(p,q):=by unfold ordP; rw [if_pos (show hLt p q=true from hl)]
   rw [this]
   exact .tup upd_same (.cons (two_dt ((same_upd nr) _ _ hx)) (.cons (two_dt ((same_upd nr) _ _ hy)) .nil))
  ·refine ⟨_,rfl,_,rfl,szr rfl,fun r nr=>z r _ (same_upd nr) ?_⟩
   have:ordP p q=(q,p):=by unfold ordP; rw [if_neg (show ¬ hLt p q=true by rw [show hLt p q=false from hl]; simp)]
   rw [this]
   exact .tup upd_same (.cons (two_dt ((same_upd nr) _ _ hy)) (.cons (two_dt ((same_upd nr) _ _ hx)) .nil))
def spTLine:Sp:=fun vs H Q _=>∃ (r:Addr) (a:Pl) (k:Nat),vs=[.ref r,.int k]∧DtIs H (.ref r) (lD a)∧k < 8∧∀ r' H',Same H H'→DtIs H' (.ref r') (lD (turnP k a))→Q (.ref r') H'
theorem scTLine:FnScope ["line","way"] ["line","way"] (defScope sTLine):=⟨rfl,rfl,rfl,by decide +kernel,rfl,by decide +kernel,by decide +kernel⟩
theorem ok_tline {f fT fO:Addr} {fd fdT fdO:FuncData} (D:Df K mg "turned_line" sTLine f fd) (DT:Df K mg "turned_hole" sTurn fT fdT) (bT:Binds K fdT ["hole","way"] []) (GT:FnOk P w K mg base CX0 2 fT fdT ["hole","way"] spTurn)
  (DO:Df K mg "ordered" sOrd fO fdO) (bO:Binds K fdO ["one","other"] []) (GO:FnOk P w K mg base CX0 1 fO fdO ["one","other"] spOrd):FnOk P w K mg base CX0 3 f fd ["line","way"] spTLine:=by
 refine D.F.ok scTLine (fun vs H Q E h=>?_) (fun cdv A outer s H vs Q E hr h=>?_)
 ·obtain ⟨r,a,k,rfl,_⟩:=h
  rfl
 ·obtain ⟨r,a,k,rfl,hl,hk,z⟩:=h
  have hr1:Room 1 _:=hr.mono (by decide)
  refine ⟨_,(pss_one (ps_ret (pec GO hr1 rfl DO.m DO.F.kp bO .nil pass0 (pac (pec GT hr rfl DT.m DT.F.kp bT .nil pass0 (pac (pe_ix ix_tup (pv 0) pe_int (fun _ _=>rfl)) (pac (pv 1) pa_nil))) (pac (pec GT hr rfl DT.m DT.F.kp bT .nil pass0 (pac (pe_ix ix_tup (pv 0) pe_int (fun _ _=>rfl)) (pac (pv 1) pa_nil))) pa_nil))))),?_⟩
  obtain ⟨x,y,e,hx,hy⟩:=line_two hl
  refine ⟨_,rfl,r,_,_,_,rfl,rfl,SqT.of e,rfl,_,rfl,x,a.p,k,rfl,hx,hk,fun r1 H1 S1 h1=>?_⟩
  refine ⟨_,rfl,r,_,_,_,rfl,rfl,SqT.of (S1 _ _ e),rfl,_,rfl,y,a.q,k,rfl,S1 _ _ hy,hk,fun r2 H2 S2 h2=>?_⟩
  exact ⟨r1,r2,turnN k a.p,turnN k a.q,rfl,S2 _ _ h1,h2,fun r3 H3 S3 h3=>z r3 H3 ((S1.trans S2).trans S3) (by rw [turnP_line]; exact h3)⟩
def spTurned (K:PySem.W.Frag):Sp:=fun vs H Q _=>∃ (a:Addr) (ps:List Pl) (k:Nat),vs=[.ref a,.int k]∧Pic H a ps∧ps.length≤200∧k < 8∧∀ l qs H',Same H H'→H l=none→Pic H' l qs→(qs.map pD).Perm ((ps.map (turnP k)).map pD)→Rise qs→Q (.ref l) H'
theorem scTurned:FnScope ["one","way"] ["one","way"] (defScope sTurned):=⟨rfl,rfl,rfl,by decide +kernel,rfl,by decide +kernel,by decide +kernel⟩
theorem ok_turned {f fL:Addr} {fd fdL:FuncData} (D:Df K mg "turned" sTurned f fd) (DL:Df K mg "turned_line" sTLine fL fdL) (bL:Binds K fdL ["line","way"] []) (GL:FnOk P w K mg base CX0 3 fL fdL ["line","way"] spTLine) (hsorted:mg "sorted"=none) :
  FnOk P w K mg base CX0 4 f fd ["one","way"] (spTurned K):=by
 refine D.F.ok scTurned (fun vs H Q E h=>?_) (fun cdv A outer s H vs Q E hr h=>?_)
 ·obtain ⟨a,ps,k,rfl,_⟩:=h
  rfl
 ·obtain ⟨a,ps,k,rfl,hp,hlen,hk,z⟩:=h
  obtain ⟨xs,ea,hD⟩:=hp
  have hxl:xs.length=ps.length:=by rw [hD.length,List.length_map]
  have hu:=hr.un
  refine ⟨_,(pss_one (ps_ret (pe_callB call_sortedT (by rfl) hsorted boot_sorted (pac (pe_comp (g:=gTup K 2 (gCons (gName 0) (gCons (gName 1) gNil))) (N':=["line","colour","way"]) (idx:=[none,none,some 1]) (compOk_of (by kernel_rfl)) (by kernel_rfl) rfl (pi_list (pv 0))
    (fun _ _ _ _ _=>pg_tup (n:=2) rfl (pgs_cons (pg_name (i:=0) (show (["line","colour","way"]:List Str).Nodup by decide +kernel) rfl (Or.inl rfl)) (pgs_cons (pg_name (i:=1) (show (["line","colour","way"]:List Str).Nodup by decide +kernel) rfl (Or.inl rfl)) pgs_nil))) (fun _ _ _ _ _=>pts_nil)
    (fun _ _ _ _ _=>pe_tup (pac (pec GL hr rfl DL.m DL.F.kp bL .nil pass0 (pac (pv 0) (pac (pv 2) pa_nil))) (pac (pv 1) pa_nil)))) pa_nil)))),?_⟩
  refine ⟨_,rfl,a,rfl,⟨_,SqL.of ea⟩,fun L nL=>?_⟩
  refine comp_n (J:=Itl K a) (n:=xs.length) (fun i σ2 H2=>(∃ v0 v1,σ2=[v0,v1,some (.int k)])∧Same H H2∧∃ ys qs,H2 L=some (.lst ys)∧DtsIs H2 ys (List.map pD qs)∧qs=(ps.map (turnP k)).take i) ?_ ?_ ?_ ?_
  ·exact ⟨⟨_,_,rfl⟩,same_upd nL,[],[],upd_same,.nil,by simp⟩
  ·rintro i σ2 H2 hi ⟨⟨v0,v1,rfl⟩,S2,_⟩
   exact ⟨xs,_,SqL.of (S2 _ _ ea),List.getElem?_eq_getElem hi⟩
  ·rintro σ2 H2 ⟨⟨v0,v1,rfl⟩,S2,ys,qs,eL,hD2,hq⟩
   refine ⟨⟨xs,SqL.of (S2 _ _ ea),Nat.le_refl _⟩,L,ys,_,"tuple",rfl,SqL.of eL,hD2,pics_tup _,pics_like _,fun d hd=>?_,fun l zs es nl pz dz pe srt=>?_⟩
   ·have:=pics_dp _ d hd
    show (A.deeper _).units + 4 + _ < _
    omega
   ·obtain ⟨rs,rfl,_⟩:=as_pics (es:=es) (G:=fun _=>True) fun d hd=>by
     obtain ⟨p,_,rfl⟩:=List.mem_map.mp (pe.mem_iff.mp hd)
     exact ⟨p,rfl,trivial⟩
    refine z l rs _ (S2.trans (same_upd nl)) (none_same S2 nl) ⟨zs,upd_same,dz.same (same_upd nl)⟩ ?_ srt
    have:qs=ps.map (turnP k):=by rw [hq,List.take_of_length_le (by rw [List.length_map]; omega)]
    rw [← this]
    exact pe
  ·rintro i σ2 H2 hi ⟨⟨v0,v1,rfl⟩,S2,ys,qs,eL,hD2,hq⟩ x H3 ⟨rfl,hx⟩
   have hx:=hx xs (SqL.of (S2 _ _ ea))
   obtain ⟨d,ed,dx⟩:=(hD.same S2).at i x hx
   rw [List.getElem?_map] at ed
   cases hp:ps[i]? with
   | none=>rw [hp] at ed; cases ed
   | some b =>
    rw [hp] at ed
    cases ed
    obtain ⟨r,xl,rfl,er,hl⟩:=pic_at dx
    refine ⟨r,_,rfl,SqT.of er,rfl,_,_,rfl,_,_,rfl,rfl,?_⟩
    refine ⟨_,rfl,_,rfl,xl,b,k,rfl,hl,hk,fun r' H4 S4 h4=>⟨_,rfl,szr rfl,fun t nt=>?_⟩⟩
    have Tt:=same_upd (o:=.tup [.ref r',.str b.c]) nt
    have eL4:=Tt _ _ (S4 _ _ eL)
    have dt:DtIs (upd H4 t (.tup [.ref r',.str b.c])) (.ref t) (pD (turnP k b)):=by
     have:pD (turnP k b)=.tup [lD (turnP k b),.str b.c]:=by unfold turnP; split <;> rfl
     rw [this]
     exact .tup upd_same (.cons (h4.same Tt) (.cons (.str _) .nil))
    refine ⟨ys,eL4,?_,⟨_,_,rfl⟩,same_updN ((S2.trans S4).trans Tt) nL,ys ++ [.ref t],qs ++ [turnP k b],upd_same,?_,?_⟩
    ·have h1:ys.length=qs.length:=by rw [hD2.length,List.length_map]
     have h2:qs.length≤ps.length:=by rw [hq,List.length_take,List.length_map]; omega
     exact small1000 (by omega)
    ·rw [List.map_append]
     exact DtsIs.snoc (DtIs.updL eL4 dt) (DtsIs.updL eL4 ((hD2.same S4).same Tt))
    ·rw [hq,List.take_succ,List.getElem?_map,hp]; rfl
end
section
variable {P:Program} {w:World} {K:PySem.W.Frag} {mg:Str→Option Value} {base:Heap}
def spLTurn:Sp:=fun vs H Q _=>∃ (q:Addr) (p:Int×Int) (k:Nat),vs=[.ref q,.int k]∧two H q p∧k < 8∧∀ r H',Same H H'→two H' r (turnN k p)→Q (.ref r) H'
theorem scLTurn:FnScope ["_law_hole","_law_number","_law_x","_law_y","_law_some"] ["_law_hole","_law_number"] (defScope sLTurn):=⟨rfl,rfl,rfl,by decide +kernel,rfl,by decide +kernel,by decide +kernel⟩
theorem ok_lturn {f:Addr} {fd:FuncData} (D:Df K mg "_law_turned_hole" sLTurn f fd):FnOk P w K mg base CX0 1 f fd ["_law_hole","_law_number"] spLTurn:=by
 refine D.F.ok scLTurn (fun vs H Q E h=>?_) (fun cdv A outer s H vs Q E hr h=>?_)
 ·obtain ⟨q,p,k,rfl,_⟩:=h
  rfl
 ·obtain ⟨q,p,k,rfl,hp,hk,z⟩:=h
  refine ⟨_,pss_cons (ps_asg (pv 0) (pg_tup rfl (pgs_cons (pg_name (i:=2) scLTurn.nd rfl (Or.inl rfl)) (pgs_cons (pg_name (i:=3) scLTurn.nd rfl (Or.inl rfl)) pgs_nil))))
   (pss_cons (ps_set (i:=4) scLTurn.nd rfl (Or.inl rfl) (pe_lst
    (pac (pe_tup (pac (pv 2) (pac (pv 3) pa_nil)))
    (pac (pe_tup (pac (pe_op op_sub pe_int (pv 3)) (pac (pv 2) pa_nil)))
    (pac (pe_tup (pac (pe_op op_sub pe_int (pv 2)) (pac (pe_op op_sub pe_int (pv 3)) pa_nil)))
    (pac (pe_tup (pac (pv 3) (pac (pe_op op_sub pe_int (pv 2)) pa_nil)))
    (pac (pe_tup (pac (pe_op op_sub pe_int (pv 2)) (pac (pv 3) pa_nil)))
    (pac (pe_tup (pac (pe_op op_sub pe_int (pv 3)) (pac (pe_op op_sub pe_int (pv 2)) pa_nil)))
    (pac (pe_tup (pac (pv 2) (pac (pe_op op_sub pe_int (pv 3)) pa_nil)))
    (pac (pe_tup (pac (pv 3) (pac (pv 2) pa_nil)))
    pa_nil))))))))))
   (pss_one (ps_ret (pe_ix ix_list (pv 4) (pv 1) (fun _ _=>rfl))))),?_⟩
  refine ⟨_,rfl,q,_,rfl,SqT.of hp,rfl,_,_,rfl,_,_,rfl,rfl,?_⟩
  refine ⟨_,rfl,_,rfl,szr rfl,fun p1 n1=>?_⟩
  refine ⟨_,rfl,_,_,rfl,rfl,_,rfl,szr rfl,fun p2 n2=>?_⟩
  refine ⟨_,rfl,_,_,rfl,rfl,_,rfl,_,_,rfl,rfl,szr rfl,fun p3 n3=>?_⟩
  refine ⟨_,rfl,_,rfl,_,_,rfl,rfl,szr rfl,fun p4 n4=>?_⟩
  refine ⟨_,rfl,_,_,rfl,rfl,_,rfl,szr rfl,fun p5 n5=>?_⟩
  refine ⟨_,rfl,_,_,rfl,rfl,_,rfl,_,_,rfl,rfl,szr rfl,fun p6 n6=>?_⟩
  refine ⟨_,rfl,_,rfl,_,_,rfl,rfl,szr rfl,fun p7 n7=>?_⟩
  refine ⟨_,rfl,_,rfl,szr rfl,fun p8 n8=>?_⟩
  refine ⟨szr rfl,fun l1 m1=>?_⟩
  have U:=same_upd (o:=HO.lst [.ref p1,.ref p2,.ref p3,.ref p4,.ref p5,.ref p6,.ref p7,.ref p8]) m1
  have T8:=(same_upd (o:=HO.tup [.int p.2,.int p.1]) n8).trans U
  have T7:=(same_upd (o:=HO.tup [.int p.1,.int (0 - p.2)]) n7).trans T8
  have T6:=(same_upd (o:=HO.tup [.int (0 - p.2),.int (0 - p.1)]) n6).trans T7
  have T5:=(same_upd (o:=HO.tup [.int (0 - p.1),.int p.2]) n5).trans T6
  have T4:=(same_upd (o:=HO.tup [.int p.2,.int (0 - p.1)]) n4).trans T5
  have T3:=(same_upd (o:=HO.tup [.int (0 - p.1),.int (0 - p.2)]) n3).trans T4
  have T2:=(same_upd (o:=HO.tup [.int (0 - p.2),.int p.1]) n2).trans T3
  have T1:=(same_upd (o:=HO.tup [.int p.1,.int p.2]) n1).trans T2
  suffices hv:∃ r,atI [V.ref p1,.ref p2,.ref p3,.ref p4,.ref p5,.ref p6,.ref p7,.ref p8] (k:Int)=some (.ref r)∧two _ r (tabN k p) by
   obtain ⟨r,hat,hh⟩:=hv
   rw [← turn_tab hk] at hh
   exact ⟨_,rfl,_,rfl,l1,_,_,_,rfl,rfl,SqL.of upd_same,hat,z r _ T1 hh⟩
  match k,hk with
  | 0,_=>exact ⟨p1,rfl,T2 _ _ upd_same⟩
  | 1,_=>exact ⟨p2,rfl,T3 _ _ upd_same⟩
  | 2,_=>exact ⟨p3,rfl,T4 _ _ upd_same⟩
  | 3,_=>exact ⟨p4,rfl,T5 _ _ upd_same⟩
  | 4,_=>exact ⟨p5,rfl,T6 _ _ upd_same⟩
  | 5,_=>exact ⟨p6,rfl,T7 _ _ upd_same⟩
  | 6,_=>exact ⟨p7,rfl,T8 _ _ upd_same⟩
  | 7,_=>exact ⟨p8,rfl,U _ _ upd_same⟩
theorem scLTurned:FnScope ["_law_pairs_here","_law_number","_law_found","_law_ends","_law_colour_here","_law_one_here","_law_other_here"] ["_law_pairs_here","_law_number"] (defScope sLTurned):=⟨rfl,rfl,rfl,by decide +kernel,rfl,by decide +kernel,by decide +kernel⟩
theorem ok_lturned {f fU:Addr} {fd fdU:FuncData} (D:Df K mg "_law_turned" sLTurned f fd) (DU:Df K mg "_law_turned_hole" sLTurn fU fdU) (bU:Binds K fdU ["_law_hole","_law_number"] []) (GU:FnOk P w K mg base CX0 1 fU fdU ["_law_hole","_law_number"] spLTurn)
  (hsorted:mg "sorted"=none) (hmin:mg "min"=none) (hmax:mg "max"=none):FnOk P w K mg base CX0 2 f fd ["_law_pairs_here","_law_number"] (spTurned K):=by
 refine D.F.ok scLTurned (fun vs H Q E h=>?_) (fun cdv A outer s H vs Q E hr h=>?_)
 ·obtain ⟨a,ps,k,rfl,_⟩:=h
  rfl
 ·obtain ⟨a,ps,k,rfl,hp,hlen,hk,z⟩:=h
  obtain ⟨xs,ea,hD⟩:=hp
  have hxl:xs.length=ps.length:=by rw [hD.length,List.length_map]
  have hu:=hr.un
  have hu1:=hr.units
  have hu2:(A.deeper (envOfC "_law_turned" (defScope sLTurned) s.heap.objs.size f cdv)).units + 1 < cLine:=by omega
  refine ⟨_,(pss_cons (ps_set (i:=2) scLTurned.nd rfl (Or.inl rfl) (pe_lst pa_nil))
   (pss_cons (ps_for PassesOwn.never rfl (pi_list (pv 0)) (pg_tup rfl (pgs_cons (pg_name (i:=3) scLTurned.nd rfl (Or.inl rfl)) (pgs_cons (pg_name (i:=4) scLTurned.nd rfl (Or.inl rfl)) pgs_nil)))
    (pss_cons (ps_set (i:=5) scLTurned.nd rfl (Or.inl rfl) (pec GU hr rfl DU.m DU.F.kp bU .nil pass0 (pac (pe_ix ix_tup (pv 3) pe_int (fun _ _=>rfl)) (pac (pv 1) pa_nil))))
   (pss_cons (ps_set (i:=6) scLTurned.nd rfl (Or.inl rfl) (pec GU hr rfl DU.m DU.F.kp bU .nil pass0 (pac (pe_ix ix_tup (pv 3) pe_int (fun _ _=>rfl)) (pac (pv 1) pa_nil))))
   (pss_one (ps_expr (pe_bm PySem.F.plainAttrs_list PySem.F.slot_list_append PySem.F.type_list_append mt_append (pv 2) (pac (pe_tup (pac (pe_tup (pac (pe_callB (call_minT rfl hu2) (by rfl) hmin boot_min (pac (pv 5) (pac (pv 6) pa_nil))) (pac (pe_callB (call_maxT rfl hu2) (by rfl) hmax boot_max (pac (pv 5) (pac (pv 6) pa_nil))) pa_nil))) (pac (pv 4) pa_nil))) pa_nil)))))))
   (pss_one (ps_ret (pe_callB call_sortedT (by rfl) hsorted boot_sorted (pac (pv 2) pa_nil)))))),?_⟩
  refine ⟨szr rfl,fun L nL=>?_⟩
  refine ⟨_,rfl,a,rfl,⟨_,SqL.of ((same_upd nL) _ _ ea)⟩,?_⟩
  refine for_list (K:=K) (a:=a) (xs:=xs) (fun i σ H2=>(∃ v3 v4 v5 v6,σ=[some (.ref a),some (.int k),some (.ref L),v3,v4,v5,v6])∧Same H H2∧∃ ys qs,H2 L=some (.lst ys)∧DtsIs H2 ys (List.map pD qs)∧qs=(ps.map (turnP k)).take i)
   ⟨⟨_,_,_,_,rfl⟩,same_upd nL,[],[],upd_same,.nil,by simp⟩ (fun i σ H2 _ ⟨_,s2,_⟩=>SqL.of (s2 _ _ ea)) ?_ ?_
  ·rintro i x σ H2 hx ⟨⟨v3,v4,v5,v6,rfl⟩,S2,ys,qs,eL,hD2,hq⟩
   obtain ⟨d,ed,dx⟩:=(hD.same S2).at i x hx
   rw [List.getElem?_map] at ed
   cases hp:ps[i]? with
   | none=>rw [hp] at ed; cases ed
   | some b =>
    rw [hp] at ed
    cases ed
    have hi:i < ps.length:=(List.getElem?_eq_some_iff.mp hp).1
    obtain ⟨r,xl,rfl,er,hl⟩:=pic_at dx
    obtain ⟨x1,y1,el,hx1,hy1⟩:=line_two hl
    refine ⟨r,_,rfl,SqT.of er,rfl,_,_,rfl,_,_,rfl,rfl,?_⟩
    refine ⟨_,rfl,xl,_,_,_,rfl,rfl,SqT.of el,rfl,_,rfl,x1,b.p,k,rfl,hx1,hk,fun r1 H3 S3 h3=>?_⟩
    refine ⟨_,rfl,xl,_,_,_,rfl,rfl,SqT.of (S3 _ _ el),rfl,_,rfl,y1,b.q,k,rfl,S3 _ _ hy1,hk,fun r2 H4 S4 h4=>?_⟩
    have h3':=S4 _ _ h3
    have eL4:=S4 _ _ (S3 _ _ eL)
    refine ⟨_,rfl,.inl ⟨rfl,_,SqL.of eL4⟩,?_⟩
    refine ⟨_,rfl,_,rfl,r1,r2,[(turnN k b.p).1,(turnN k b.p).2],[(turnN k b.q).1,(turnN k b.q).2],rfl,SqT.of h3',SqT.of h4,?_⟩
    refine ⟨_,rfl,_,rfl,r1,r2,[(turnN k b.p).1,(turnN k b.p).2],[(turnN k b.q).1,(turnN k b.q).2],rfl,SqT.of h3',SqT.of h4,?_⟩
    refine ⟨szr rfl,fun t1 nt1=>⟨_,rfl,szr rfl,fun t nt=>?_⟩⟩
    obtain ⟨m1,m2⟩:=min_max h3' h4
    have T1:=same_upd (o:=.tup [(if hLt (turnN k b.q) (turnN k b.p)=true then V.ref r2 else .ref r1),(if hLt (turnN k b.p) (turnN k b.q)=true then V.ref r2 else .ref r1)]) nt1
    have T2:=same_upd (o:=.tup [.ref t1,.str b.c]) nt
    have dl:DtIs (upd H4 t1 (.tup [(if hLt (turnN k b.q) (turnN k b.p)=true then V.ref r2 else .ref r1),(if hLt (turnN k b.p) (turnN k b.q)=true then V.ref r2 else .ref r1)])) (.ref t1) (lD (turnP k b)):=by
     rw [turnP_line]
     exact .tup upd_same (.cons (m1.same T1) (.cons (m2.same T1) .nil))
    have eL6:=T2 _ _ (T1 _ _ eL4)
    refine ⟨L,ys,_,rfl,rfl,eL6,?_,⟨_,_,_,_,rfl⟩,same_updN ((((S2.trans S3).trans S4).trans T1).trans T2) nL,ys ++ [.ref t],qs ++ [turnP k b],upd_same,?_,?_⟩
    ·have h1:ys.length=qs.length:=by rw [hD2.length,List.length_map]
     have h2:qs.length≤ps.length:=by rw [hq,List.length_take,List.length_map]; omega
     exact small1000 (by omega)
    ·rw [List.map_append]
     refine DtsIs.snoc (DtIs.updL eL6 ?_) (DtsIs.updL eL6 ((((hD2.same S3).same S4).same T1).same T2))
     have:pD (turnP k b)=.tup [lD (turnP k b),.str b.c]:=by unfold turnP; split <;> rfl
     rw [this]
     exact .tup upd_same (.cons (dl.same T2) (.cons (.str _) .nil))
    ·rw [hq,List.take_succ,List.getElem?_map,hp]; rfl
  ·rintro σ H2 ⟨⟨v3,v4,v5,v6,rfl⟩,S2,ys,qs,eL,hD2,hq⟩
   refine ⟨_,rfl,L,ys,_,"tuple",rfl,SqL.of eL,hD2,pics_tup _,pics_like _,fun d hd=>?_,fun l zs es nl pz dz pe srt=>?_⟩
   ·have:=pics_dp _ d hd
    show (A.deeper _).units + 4 + _ < _
    omega
   ·obtain ⟨rs,rfl,_⟩:=as_pics (es:=es) (G:=fun _=>True) fun d hd=>by
     obtain ⟨p,_,rfl⟩:=List.mem_map.mp (pe.mem_iff.mp hd)
     exact ⟨p,rfl,trivial⟩
    refine z l rs _ (S2.trans (same_upd nl)) (none_same S2 nl) ⟨zs,upd_same,dz.same (same_upd nl)⟩ ?_ srt
    have:qs=ps.map (turnP k):=by rw [hq,List.take_of_length_le (by rw [List.length_map]; omega)]
    rw [← this]
    exact pe
end
section
variable {P:Program} {w:World} {K:PySem.W.Frag} {mg:Str→Option Value} {base:Heap}
theorem comp_end {H1:Hp} {a D:Addr} {xs:List V} {ps:List Pl} (i:Int) (g:Pl→Int×Int) (hg:∀ (H:Hp) (r:Addr) (b:Pl),DtIs H (.ref r) (lD b)→∃ u v w,H r=some (.tup [u,v])∧atI [u,v] i=some w∧DtIs H w (hD (g b)))
  (ea:H1 a=some (.lst xs)) (hD':DtsIs H1 xs (ps.map lD)) (hlen:ps.length≤150) (nD:H1 D=none) {σ:L2.St} {Q:VK} {X:PySem.W.Frag} (hX:X=K)
  (q:∀ H2 ys,Same H1 H2→H2 D=some (.lst ys)→DtsIs H2 ys ((ps.map g).map hD)→Q (.ref D) H2) :
  CompW (Itl X a) [none] (gName 0) tYes (tOp (rIxT X) (tVar 0) (tC (.int i))) σ H1 D Q:=by
 subst hX
 have hxl:xs.length=ps.length:=by rw [hD'.length,List.length_map]
 refine comp_n (J:=Itl X a) (n:=xs.length) (fun j σ2 H2=>(∃ v0,σ2=[v0])∧Same H1 H2∧∃ ys,H2 D=some (.lst ys)∧DtsIs H2 ys (((ps.map g).take j).map hD)) ?_ ?_ ?_ ?_
 ·exact ⟨⟨_,rfl⟩,same_upd nD,[],upd_same,.nil⟩
 ·rintro j σ2 H2 hj ⟨⟨v0,rfl⟩,S2,_⟩
  exact ⟨xs,_,SqL.of (S2 _ _ ea),List.getElem?_eq_getElem hj⟩
 ·rintro σ2 H2 ⟨⟨v0,rfl⟩,S2,ys,eD,hy⟩
  refine ⟨⟨xs,SqL.of (S2 _ _ ea),Nat.le_refl _⟩,q H2 ys S2 eD ?_⟩
  rw [List.take_of_length_le (by rw [List.length_map]; omega)] at hy
  exact hy
 ·rintro j σ2 H2 hj ⟨⟨v0,rfl⟩,S2,ys,eD,hy⟩ x H3 ⟨rfl,hx⟩
  have hx:=hx xs (SqL.of (S2 _ _ ea))
  obtain ⟨d,ed,dx⟩:=(hD'.same S2).at j x hx
  rw [List.getElem?_map] at ed
  cases hp:ps[j]? with
  | none=>rw [hp] at ed; cases ed
  | some b =>
   rw [hp] at ed
   cases ed
   obtain ⟨r,rfl⟩:=line_at dx
   obtain ⟨u,v,w',er,hat,dw⟩:=hg _ r b dx
   refine ⟨_,rfl,r,_,_,w',rfl,rfl,SqT.of er,hat,ys,eD,?_,⟨_,rfl⟩,same_updN S2 nD,ys ++ [w'],upd_same,?_⟩
   ·have h1:ys.length=(((ps.map g).take j).map hD).length:=hy.length
    rw [List.length_map,List.length_take] at h1
    exact small1000 (by omega)
   ·have tk:(ps.map g).take (j + 1)=(ps.map g).take j ++ [g b]:=by rw [List.take_succ,List.getElem?_map,hp]; rfl
    rw [tk,List.map_append]
    exact DtsIs.snoc (DtIs.updL eD dw) (DtsIs.updL eD hy)
def spHolesOf:Sp:=fun vs H Q _=>∃ (a:Addr) (ps:List Pl),vs=[.ref a]∧Lns H a ps∧ps.length≤150∧∀ l zs hs H',Same H H'→H' l=some (.lst zs)→DtsIs H' zs (List.map hD hs)→hs.length≤300→(∀ p,p∈hs↔∃ b∈ps,p=b.p∨p=b.q)→Q (.ref l) H'
theorem scHolesOf:FnScope ["lines"] ["lines"] (defScope sHolesOf):=⟨rfl,rfl,rfl,by decide +kernel,rfl,by decide +kernel,by decide +kernel⟩
theorem ok_holesOf {f:Addr} {fd:FuncData} (D:Df K mg "holes_of" sHolesOf f fd) (hsorted:mg "sorted"=none) (hset:mg "set"=none):FnOk P w K mg base CX0 1 f fd ["lines"] spHolesOf:=by
 refine D.F.ok scHolesOf (fun vs H Q E h=>?_) (fun cdv A outer s H vs Q E hr h=>?_)
 ·obtain ⟨a,ps,rfl,_⟩:=h
  rfl
 ·obtain ⟨a,ps,rfl,⟨xs,ea,hD'⟩,hlen,z⟩:=h
  refine ⟨_,(pss_one (ps_ret (pe_sortSet hr rfl hsorted rfl hset (pac (pe_op op_cat
    (pe_comp (N':=["line"]) (idx:=[none]) (compOk_of (by kernel_rfl)) (by kernel_rfl) rfl (pi_list (pv 0)) (fun _ _ _ _ _=>pg_name (i:=0) (show (["line"]:List Str).Nodup by decide +kernel) rfl (Or.inl rfl)) (fun _ _ _ _ _=>pts_nil) (te:=tOp (rIxT K) (tVar 0) (tC (.int 0))) (fun _ _ _ _ _=>pe_ix ix_tup (pv 0) pe_int (fun _ _=>rfl)))
    (pe_comp (N':=["line"]) (idx:=[none]) (compOk_of (by kernel_rfl)) (by kernel_rfl) rfl (pi_list (pv 0)) (fun _ _ _ _ _=>pg_name (i:=0) (show (["line"]:List Str).Nodup by decide +kernel) rfl (Or.inl rfl)) (fun _ _ _ _ _=>pts_nil) (te:=tOp (rIxT K) (tVar 0) (tC (.int 1))) (fun _ _ _ _ _=>pe_ix ix_tup (pv 0) pe_int (fun _ _=>rfl)))) pa_nil)))),?_⟩
  refine ⟨_,rfl,a,rfl,⟨_,SqL.of ea⟩,fun D1 n1=>comp_end 0 (fun b=>b.p) (fun H r b h=>?_) ea hD' hlen n1 rfl fun H2 ys S2 e2 h2=>?_⟩
  ·obtain ⟨x,y,e,hx,hy⟩:=line_two h
   exact ⟨_,_,_,e,rfl,two_dt hx⟩
  refine ⟨_,rfl,a,rfl,⟨_,SqL.of (S2 _ _ ea)⟩,fun D2 n2=>comp_end 1 (fun b=>b.q) (fun H r b h=>?_) (S2 _ _ ea) (hD'.same S2) hlen n2 rfl fun H3 zs S3 e3 h3=>?_⟩
  ·obtain ⟨x,y,e,hx,hy⟩:=line_two h
   exact ⟨_,_,_,e,rfl,two_dt hy⟩
  have l2:ys.length=ps.length:=by rw [h2.length,List.length_map,List.length_map]
  have l3:zs.length=ps.length:=by rw [h3.length,List.length_map,List.length_map]
  refine ⟨D1,D2,ys,zs,rfl,rfl,S3 _ _ e2,e3,sz (by omega),fun D3 n3=>?_⟩
  have T3:=same_upd (o:=.lst (ys ++ zs)) n3
  have all:DtsIs (upd H3 D3 (.lst (ys ++ zs))) (ys ++ zs) ((ps.map (fun b=>b.p)).map hD ++ (ps.map (fun b=>b.q)).map hD):=((h2.same S3).same T3).app (h3.same T3)
  rw [← List.map_append] at all
  have hol:∀ d∈List.map hD (ps.map (fun b=>b.p) ++ ps.map (fun b=>b.q)),∃ p,d=hD p∧p∈(ps.map (fun b=>b.p) ++ ps.map (fun b=>b.q)):=fun d hd=>by
   obtain ⟨p,hp,rfl⟩:=List.mem_map.mp hd
   exact ⟨p,rfl,hp⟩
  refine ⟨D3,ys ++ zs,_,"int",rfl,SqL.of upd_same,all,by rw [List.length_append]; omega,fun d hd=>?_,fun d hd d' hd'=>?_,fun d hd=>?_,fun l ws es nl dw nd mem srt wl=>?_⟩
  ·obtain ⟨p,rfl,_⟩:=hol d hd
   exact ⟨_,_,rfl,rfl⟩
  ·obtain ⟨p,rfl,_⟩:=hol d hd
   obtain ⟨p',rfl,_⟩:=hol d' hd'
   simp [hD,Dt.like,Dt.likes]
  ·obtain ⟨p,rfl,_⟩:=hol d hd
   rw [hD_dp]; decide
  ·obtain ⟨hs,rfl⟩:=as_holes (es:=es) fun d hd=>by
    obtain ⟨p,rfl,_⟩:=hol d ((mem d).mp hd)
    exact ⟨p,rfl⟩
   have hl:ws.length=hs.length:=by rw [dw.length,List.length_map]
   refine z l ws hs _ (((S2.trans S3).trans T3).trans (same_upd nl)) upd_same (dw.same (same_upd nl)) (by rw [← hl]; rw [List.length_append] at wl; omega) fun p=>?_
   constructor
   ·intro hp
    obtain ⟨p',e',hp'⟩:=hol (hD p) ((mem _).mp (List.mem_map_of_mem hp))
    rw [eqv_two] at e'
    subst e'
    rcases List.mem_append.mp hp' with h | h
    ·obtain ⟨b,hb,rfl⟩:=List.mem_map.mp h
     exact ⟨b,hb,.inl rfl⟩
    ·obtain ⟨b,hb,rfl⟩:=List.mem_map.mp h
     exact ⟨b,hb,.inr rfl⟩
   ·rintro ⟨b,hb,h⟩
    have:hD p∈List.map hD (ps.map (fun b=>b.p) ++ ps.map (fun b=>b.q)):=by
     refine List.mem_map_of_mem (List.mem_append.mpr ?_)
     rcases h with rfl | rfl
     ·exact .inl (List.mem_map.mpr ⟨b,hb,rfl⟩)
     ·exact .inr (List.mem_map.mpr ⟨b,hb,rfl⟩)
    obtain ⟨p',hp',e'⟩:=List.mem_map.mp ((mem _).mpr this)
    rw [eqv_two] at e'
    rw [← e']
    exact hp'
def spShHole:Sp:=fun vs H Q _=>∃ (x:Addr) (p:Int×Int) (e n:Int),vs=[.ref x,.int e,.int n]∧two H x p∧∀ r H',Same H H'→two H' r (shH e n p)→Q (.ref r) H'
theorem scShHole:FnScope ["hole","east","north"] ["hole","east","north"] (defScope sShHole):=⟨rfl,rfl,rfl,by decide +kernel,rfl,by decide +kernel,by decide +kernel⟩
theorem ok_shHole {f:Addr} {fd:FuncData} (D:Df K mg "shifted_hole" sShHole f fd):FnOk P w K mg base CX0 1 f fd ["hole","east","north"] spShHole:=by
 refine D.F.ok scShHole (fun vs H Q E h=>?_) (fun cdv A outer s H vs Q E hr h=>?_)
 ·obtain ⟨x,p,e,n,rfl,_⟩:=h
  rfl
 ·obtain ⟨x,p,e,n,rfl,hx,z⟩:=h
  refine ⟨_,(pss_one (ps_ret (pe_tup (pac (pe_op op_add (pe_ix ix_tup (pv 0) pe_int (fun _ _=>rfl)) (pv 1)) (pac (pe_op op_add (pe_ix ix_tup (pv 0) pe_int (fun _ _=>rfl)) (pv 2)) pa_nil))))),?_⟩
  exact ⟨_,rfl,x,_,_,_,rfl,rfl,SqT.of hx,rfl,_,rfl,_,_,rfl,rfl,_,rfl,x,_,_,_,rfl,rfl,SqT.of hx,rfl,_,rfl,_,_,rfl,rfl,szr rfl,fun r nr=>z r _ (same_upd nr) upd_same⟩
def spShLine:Sp:=fun vs H Q _=>∃ (r:Addr) (a:Pl) (e n:Int),vs=[.ref r,.int e,.int n]∧DtIs H (.ref r) (lD a)∧∀ r' H',Same H H'→DtIs H' (.ref r') (lD (shiftP e n a))→Q (.ref r') H'
theorem scShLine:FnScope ["line","east","north"] ["line","east","north"] (defScope sShLine):=⟨rfl,rfl,rfl,by decide +kernel,rfl,by decide +kernel,by decide +kernel⟩
theorem ok_shLine {f fH:Addr} {fd fdH:FuncData} (D:Df K mg "shifted_line" sShLine f fd) (DH:Df K mg "shifted_hole" sShHole fH fdH) (bH:Binds K fdH ["hole","east","north"] []) (GH:FnOk P w K mg base CX0 1 fH fdH ["hole","east","north"] spShHole):FnOk P w K mg base CX0 2 f fd ["line","east","north"] spShLine:=by
 refine D.F.ok scShLine (fun vs H Q E h=>?_) (fun cdv A outer s H vs Q E hr h=>?_)
 ·obtain ⟨r,a,e,n,rfl,_⟩:=h
  rfl
 ·obtain ⟨r,a,e,n,rfl,hl,z⟩:=h
  refine ⟨_,(pss_one (ps_ret (pe_tup (pac (pec GH hr rfl DH.m DH.F.kp bH .nil pass0 (pac (pe_ix ix_tup (pv 0) pe_int (fun _ _=>rfl)) (pac (pv 1) (pac (pv 2) pa_nil)))) (pac (pec GH hr rfl DH.m DH.F.kp bH .nil pass0 (pac (pe_ix ix_tup (pv 0) pe_int (fun _ _=>rfl)) (pac (pv 1) (pac (pv 2) pa_nil)))) pa_nil))))),?_⟩
  obtain ⟨x,y,el,hx,hy⟩:=line_two hl
  refine ⟨_,rfl,r,_,_,_,rfl,rfl,SqT.of el,rfl,_,rfl,_,rfl,x,a.p,e,n,rfl,hx,fun r1 H1 S1 h1=>?_⟩
  refine ⟨_,rfl,r,_,_,_,rfl,rfl,SqT.of (S1 _ _ el),rfl,_,rfl,_,rfl,y,a.q,e,n,rfl,S1 _ _ hy,fun r2 H2 S2 h2=>?_⟩
  refine ⟨szr rfl,fun t nt=>z t _ ((S1.trans S2).trans (same_upd nt)) ?_⟩
  exact .tup upd_same (.cons (two_dt ((same_upd nt) _ _ (S2 _ _ h1))) (.cons (two_dt ((same_upd nt) _ _ h2)) .nil))
def spShifted:Sp:=fun vs H Q _=>∃ (a:Addr) (ps:List Pl) (e n:Int),vs=[.ref a,.int e,.int n]∧Pic H a ps∧ps.length≤150∧∀ l H',Same H H'→H l=none→Pic H' l (ps.map (shiftP e n))→Q (.ref l) H'
theorem scShifted:FnScope ["one","east","north"] ["one","east","north"] (defScope sShifted):=⟨rfl,rfl,rfl,by decide +kernel,rfl,by decide +kernel,by decide +kernel⟩
theorem ok_shifted {f fL:Addr} {fd fdL:FuncData} (D:Df K mg "shifted" sShifted f fd) (DL:Df K mg "shifted_line" sShLine fL fdL) (bL:Binds K fdL ["line","east","north"] []) (GL:FnOk P w K mg base CX0 2 fL fdL ["line","east","north"] spShLine):FnOk P w K mg base CX0 3 f fd ["one","east","north"] spShifted:=by
 refine D.F.ok scShifted (fun vs H Q E h=>?_) (fun cdv A outer s H vs Q E hr h=>?_)
 ·obtain ⟨a,ps,e,n,rfl,_⟩:=h
  rfl
 ·obtain ⟨a,ps,e,n,rfl,hp,hlen,z⟩:=h
  obtain ⟨xs,ea,hD'⟩:=hp
  have hxl:xs.length=ps.length:=by rw [hD'.length,List.length_map]
  refine ⟨_,(pss_one (ps_ret (pe_comp (g:=gTup K 2 (gCons (gName 0) (gCons (gName 1) gNil))) (N':=["line","colour","east","north"]) (idx:=[none,none,some 1,some 2]) (compOk_of (by kernel_rfl)) (by kernel_rfl) rfl (pi_list (pv 0))
    (fun _ _ _ _ _=>pg_tup (n:=2) rfl (pgs_cons (pg_name (i:=0) (show (["line","colour","east","north"]:List Str).Nodup by decide +kernel) rfl (Or.inl rfl)) (pgs_cons (pg_name (i:=1) (show (["line","colour","east","north"]:List Str).Nodup by decide +kernel) rfl (Or.inl rfl)) pgs_nil))) (fun _ _ _ _ _=>pts_nil)
    (fun _ _ _ _ _=>pe_tup (pac (pec GL hr rfl DL.m DL.F.kp bL .nil pass0 (pac (pv 0) (pac (pv 2) (pac (pv 3) pa_nil)))) (pac (pv 1) pa_nil)))))),?_⟩
  refine ⟨_,rfl,a,rfl,⟨_,SqL.of ea⟩,fun L nL=>?_⟩
  refine comp_n (J:=Itl K a) (n:=xs.length) (fun i σ2 H2=>(∃ v0 v1,σ2=[v0,v1,some (.int e),some (.int n)])∧Same H H2∧∃ ys,H2 L=some (.lst ys)∧DtsIs H2 ys (((ps.map (shiftP e n)).take i).map pD)) ?_ ?_ ?_ ?_
  ·exact ⟨⟨_,_,rfl⟩,same_upd nL,[],upd_same,.nil⟩
  ·rintro i σ2 H2 hi ⟨⟨v0,v1,rfl⟩,S2,_⟩
   exact ⟨xs,_,SqL.of (S2 _ _ ea),List.getElem?_eq_getElem hi⟩
  ·rintro σ2 H2 ⟨⟨v0,v1,rfl⟩,S2,ys,eL,hD2⟩
   rw [List.take_of_length_le (by rw [List.length_map]; omega)] at hD2
   exact ⟨⟨xs,SqL.of (S2 _ _ ea),Nat.le_refl _⟩,z L H2 S2 nL ⟨ys,eL,hD2⟩⟩
  ·rintro i σ2 H2 hi ⟨⟨v0,v1,rfl⟩,S2,ys,eL,hD2⟩ x H3 ⟨rfl,hx⟩
   have hx:=hx xs (SqL.of (S2 _ _ ea))
   obtain ⟨d,ed,dx⟩:=(hD'.same S2).at i x hx
   rw [List.getElem?_map] at ed
   cases hp:ps[i]? with
   | none=>rw [hp] at ed; cases ed
   | some b =>
    rw [hp] at ed
    cases ed
    obtain ⟨r,xl,rfl,er,hl⟩:=pic_at dx
    refine ⟨r,_,rfl,SqT.of er,rfl,_,_,rfl,_,_,rfl,rfl,?_⟩
    refine ⟨_,rfl,_,rfl,_,rfl,xl,b,e,n,rfl,hl,fun r' H4 S4 h4=>⟨_,rfl,szr rfl,fun t nt=>?_⟩⟩
    have Tt:=same_upd (o:=.tup [.ref r',.str b.c]) nt
    have eL4:=Tt _ _ (S4 _ _ eL)
    have dt:DtIs (upd H4 t (.tup [.ref r',.str b.c])) (.ref t) (pD (shiftP e n b)):=.tup upd_same (.cons (h4.same Tt) (.cons (.str _) .nil))
    have tk:(ps.map (shiftP e n)).take (i + 1)=(ps.map (shiftP e n)).take i ++ [shiftP e n b]:=by rw [List.take_succ,List.getElem?_map,hp]; rfl
    refine ⟨ys,eL4,?_,⟨_,_,rfl⟩,same_updN ((S2.trans S4).trans Tt) nL,ys ++ [.ref t],upd_same,?_⟩
    ·have h1:ys.length=(((ps.map (shiftP e n)).take i).map pD).length:=hD2.length
     rw [List.length_map,List.length_take] at h1
     exact small1000 (by omega)
    ·rw [tk,List.map_append]
     exact DtsIs.snoc (DtIs.updL eL4 dt) (DtsIs.updL eL4 ((hD2.same S4).same Tt))
theorem comp_ints {H1:Hp} {a D:Addr} {xs:List V} {hs:List (Int×Int)} (i:Int) (g:Int×Int→Int) (hg:∀ p:Int×Int,atI [V.int p.1,V.int p.2] i=some (.int (g p)))
  (ea:H1 a=some (.lst xs)) (hD':DtsIs H1 xs (hs.map hD)) (hlen:hs.length≤300) (nD:H1 D=none) {σ:L2.St} {Q:VK} {X:PySem.W.Frag} (hX:X=K)
  (q:∀ H2,Same H1 H2→H2 D=some (.lst ((hs.map g).map V.int))→Q (.ref D) H2) :
  CompW (Itl X a) [none] (gName 0) tYes (tOp (rIxT X) (tVar 0) (tC (.int i))) σ H1 D Q:=by
 subst hX
 have hxl:xs.length=hs.length:=by rw [hD'.length,List.length_map]
 refine comp_n (J:=Itl X a) (n:=xs.length) (fun j σ2 H2=>(∃ v0,σ2=[v0])∧Same H1 H2∧H2 D=some (.lst (((hs.map g).take j).map V.int))) ?_ ?_ ?_ ?_
 ·exact ⟨⟨_,rfl⟩,same_upd nD,upd_same⟩
 ·rintro j σ2 H2 hj ⟨⟨v0,rfl⟩,S2,_⟩
  exact ⟨xs,_,SqL.of (S2 _ _ ea),List.getElem?_eq_getElem hj⟩
 ·rintro σ2 H2 ⟨⟨v0,rfl⟩,S2,eD⟩
  rw [List.take_of_length_le (by rw [List.length_map]; omega)] at eD
  exact ⟨⟨xs,SqL.of (S2 _ _ ea),Nat.le_refl _⟩,q H2 S2 eD⟩
 ·rintro j σ2 H2 hj ⟨⟨v0,rfl⟩,S2,eD⟩ x H3 ⟨rfl,hx⟩
  have hx:=hx xs (SqL.of (S2 _ _ ea))
  obtain ⟨d,ed,dx⟩:=(hD'.same S2).at j x hx
  rw [List.getElem?_map] at ed
  cases hp:hs[j]? with
  | none=>rw [hp] at ed; cases ed
  | some b =>
   rw [hp] at ed
   cases ed
   obtain ⟨r,rfl,hr⟩:=hole_at dx
   refine ⟨_,rfl,r,_,_,_,rfl,rfl,SqT.of hr,hg b,_,eD,?_,⟨_,rfl⟩,same_updN S2 nD,?_⟩
   ·rw [List.length_map,List.length_take]
    exact small1000 (by omega)
   ·have tk:(hs.map g).take (j + 1)=(hs.map g).take j ++ [g b]:=by rw [List.take_succ,List.getElem?_map,hp]; rfl
    rw [upd_same,tk,List.map_append]; rfl
def spHome:Sp:=fun vs H Q _=>∃ (a:Addr) (ps:List Pl),vs=[.ref a]∧Pic H a ps∧ps.length≤150∧∀ l H',Same H H'→H l=none→Pic H' l (homeP ps)→Q (.ref l) H'
theorem scHome:FnScope ["one","holes","west","south"] ["one"] (defScope sHome):=⟨rfl,rfl,rfl,by decide +kernel,rfl,by decide +kernel,by decide +kernel⟩
theorem ok_home {f fO fS:Addr} {fd fdO fdS:FuncData} (D:Df K mg "home" sHome f fd) (DO:Df K mg "holes_of" sHolesOf fO fdO) (bO:Binds K fdO ["lines"] []) (GO:FnOk P w K mg base CX0 1 fO fdO ["lines"] spHolesOf)
  (DS:Df K mg "shifted" sShifted fS fdS) (bS:Binds K fdS ["one","east","north"] []) (GS:FnOk P w K mg base CX0 3 fS fdS ["one","east","north"] spShifted) (hmin:mg "min"=none):FnOk P w K mg base CX0 4 f fd ["one"] spHome:=by
 refine D.F.ok scHome (fun vs H Q E h=>?_) (fun cdv A outer s H vs Q E hr h=>?_)
 ·obtain ⟨a,ps,rfl,_⟩:=h
  rfl
 ·obtain ⟨a,ps,rfl,hp,hlen,z⟩:=h
  have hr1:Room 1 _:=hr.mono (by decide)
  obtain ⟨xs,ea,hD'⟩:=hp
  have hxl:xs.length=ps.length:=by rw [hD'.length,List.length_map]
  refine ⟨_,(pss_cons (ps_set (i:=1) scHome.nd rfl (Or.inl rfl) (pec GO hr1 rfl DO.m DO.F.kp bO .nil pass0 (pac (pe_comp (g:=gTup K 2 (gCons (gName 0) (gCons (gName 1) gNil))) (N':=["line","colour"]) (idx:=[none,none]) (compOk_of (by kernel_rfl)) (by kernel_rfl) rfl (pi_list (pv 0))
     (fun _ _ _ _ _=>pg_tup (n:=2) rfl (pgs_cons (pg_name (i:=0) (show (["line","colour"]:List Str).Nodup by decide +kernel) rfl (Or.inl rfl)) (pgs_cons (pg_name (i:=1) (show (["line","colour"]:List Str).Nodup by decide +kernel) rfl (Or.inl rfl)) pgs_nil))) (fun _ _ _ _ _=>pts_nil)
     (fun _ _ _ _ _=>pv 0)) pa_nil)))
   (pss_cons (ps_set (i:=2) scHome.nd rfl (Or.inl rfl) (pe_minD rfl rfl hmin (pac (pe_comp (N':=["hole"]) (idx:=[none]) (compOk_of (by kernel_rfl)) (by kernel_rfl) rfl (pi_list (pv 1)) (fun _ _ _ _ _=>pg_name (i:=0) (show (["hole"]:List Str).Nodup by decide +kernel) rfl (Or.inl rfl)) (fun _ _ _ _ _=>pts_nil) (te:=tOp (rIxT K) (tVar 0) (tC (.int 0))) (fun _ _ _ _ _=>pe_ix ix_tup (pv 0) pe_int (fun _ _=>rfl))) pa_nil)))
   (pss_cons (ps_set (i:=3) scHome.nd rfl (Or.inl rfl) (pe_minD rfl rfl hmin (pac (pe_comp (N':=["hole"]) (idx:=[none]) (compOk_of (by kernel_rfl)) (by kernel_rfl) rfl (pi_list (pv 1)) (fun _ _ _ _ _=>pg_name (i:=0) (show (["hole"]:List Str).Nodup by decide +kernel) rfl (Or.inl rfl)) (fun _ _ _ _ _=>pts_nil) (te:=tOp (rIxT K) (tVar 0) (tC (.int 1))) (fun _ _ _ _ _=>pe_ix ix_tup (pv 0) pe_int (fun _ _=>rfl))) pa_nil)))
   (pss_one (ps_ret (pec GS hr rfl DS.m DS.F.kp bS .nil pass0 (pac (pv 0) (pac (pe_un un_neg (pv 2)) (pac (pe_un un_neg (pv 3)) pa_nil))))))))),?_⟩
  refine ⟨_,rfl,a,rfl,⟨_,SqL.of ea⟩,fun L nL=>?_⟩
  refine comp_n (J:=Itl K a) (n:=xs.length) (fun i σ2 H2=>(∃ v0 v1,σ2=[v0,v1])∧Same H H2∧∃ ys,H2 L=some (.lst ys)∧DtsIs H2 ys ((ps.take i).map lD)) ?_ ?_ ?_ ?_
  ·exact ⟨⟨_,_,rfl⟩,same_upd nL,[],upd_same,.nil⟩
  ·rintro i σ2 H2 hi ⟨⟨v0,v1,rfl⟩,S2,_⟩
   exact ⟨xs,_,SqL.of (S2 _ _ ea),List.getElem?_eq_getElem hi⟩
  rotate_left
  ·rintro i σ2 H2 hi ⟨⟨v0,v1,rfl⟩,S2,ys,eL,hD2⟩ x H3 ⟨rfl,hx⟩
   have hx:=hx xs (SqL.of (S2 _ _ ea))
   obtain ⟨d,ed,dx⟩:=(hD'.same S2).at i x hx
   rw [List.getElem?_map] at ed
   cases hp:ps[i]? with
   | none=>rw [hp] at ed; cases ed
   | some b =>
    rw [hp] at ed
    cases ed
    obtain ⟨r,xl,rfl,er,hl⟩:=pic_at dx
    refine ⟨r,_,rfl,SqT.of er,rfl,_,_,rfl,_,_,rfl,rfl,?_⟩
    have tk:ps.take (i + 1)=ps.take i ++ [b]:=by rw [List.take_succ,hp]; rfl
    refine ⟨_,rfl,ys,eL,?_,⟨_,_,rfl⟩,same_updN S2 nL,ys ++ [.ref xl],upd_same,?_⟩
    ·have h1:ys.length=((ps.take i).map lD).length:=hD2.length
     rw [List.length_map,List.length_take] at h1
     exact small1000 (by omega)
    ·rw [tk,List.map_append]
     exact DtsIs.snoc (DtIs.updL eL hl) (DtsIs.updL eL hD2)
  ·rintro σ2 H2 ⟨⟨v0,v1,rfl⟩,S2,ys,eL,hD2⟩
   rw [List.take_of_length_le (by omega)] at hD2
   refine ⟨⟨xs,SqL.of (S2 _ _ ea),Nat.le_refl _⟩,L,ps,rfl,⟨ys,eL,hD2⟩,hlen,fun l zs hs H3 S3 el hz hl mem=>?_⟩
   have ex:mnL (hs.map (fun p=>p.1))=mnL (xsOf ps):=mnL_same fun x=>by
    rw [mem_xs,List.mem_map]
    constructor
    ·rintro ⟨p,hp,rfl⟩
     obtain ⟨b,hb,h⟩:=(mem p).mp hp
     rcases h with rfl | rfl
     ·exact ⟨b,hb,.inl rfl⟩
     ·exact ⟨b,hb,.inr rfl⟩
    ·rintro ⟨b,hb,rfl | rfl⟩
     ·exact ⟨b.p,(mem _).mpr ⟨b,hb,.inl rfl⟩,rfl⟩
     ·exact ⟨b.q,(mem _).mpr ⟨b,hb,.inr rfl⟩,rfl⟩
   have ey:mnL (hs.map (fun p=>p.2))=mnL (ysOf ps):=mnL_same fun x=>by
    rw [mem_ys,List.mem_map]
    constructor
    ·rintro ⟨p,hp,rfl⟩
     obtain ⟨b,hb,h⟩:=(mem p).mp hp
     rcases h with rfl | rfl
     ·exact ⟨b,hb,.inl rfl⟩
     ·exact ⟨b,hb,.inr rfl⟩
    ·rintro ⟨b,hb,rfl | rfl⟩
     ·exact ⟨b.p,(mem _).mpr ⟨b,hb,.inl rfl⟩,rfl⟩
     ·exact ⟨b.q,(mem _).mpr ⟨b,hb,.inr rfl⟩,rfl⟩
   refine ⟨_,rfl,l,rfl,⟨_,SqL.of el⟩,fun D1 n1=>comp_ints 0 (fun p=>p.1) (fun p=>rfl) el hz hl n1 rfl fun H4 S4 e4=>?_⟩
   refine ⟨D1,_,rfl,SqL.of e4,?_⟩
   refine ⟨_,rfl,l,rfl,⟨_,SqL.of (S4 _ _ el)⟩,fun D2 n2=>comp_ints 1 (fun p=>p.2) (fun p=>rfl) (S4 _ _ el) (hz.same S4) hl n2 rfl fun H5 S5 e5=>?_⟩
   refine ⟨D2,_,rfl,SqL.of e5,?_⟩
   have SA:=((S2.trans S3).trans S4).trans S5
   refine ⟨_,rfl,_,rfl,_,rfl,_,rfl,_,rfl,a,ps,-(mnL (hs.map (fun p=>p.1))),-(mnL (hs.map (fun p=>p.2))),rfl,⟨xs,SA _ _ ea,hD'.same SA⟩,hlen,fun l2 H6 S6 nl2 hp6=>?_⟩
   rw [ex,ey] at hp6
   exact z l2 H6 (SA.trans S6) (none_same SA nl2) hp6
end
section
variable {P:Program} {w:World} {K:PySem.W.Frag} {mg:Str→Option Value} {base:Heap}
def teMin (K:PySem.W.Frag) (j:Int):TE:=tCB (fun xs H Q=>∃ i j,xs=[V.int i,.int j]∧Q (.int (if j < i then j else i)) H) (tCons (tOp (rIxT K) (tOp (rIxT K) (tVar 0) (tC (.int 0))) (tC (.int j))) (tCons (tOp (rIxT K) (tOp (rIxT K) (tVar 0) (tC (.int 1))) (tC (.int j))) tNil))
theorem comp_mins {H1:Hp} {a D:Addr} {xs:List V} {ps:List Pl} (j:Int) (g:Int×Int→Int) (hg:∀ p:Int×Int,atI [V.int p.1,V.int p.2] j=some (.int (g p)))
  (ea:H1 a=some (.lst xs)) (hD':DtsIs H1 xs (ps.map pD)) (hlen:ps.length≤150) (nD:H1 D=none) {σ:L2.St} {Q:VK}
  (q:∀ H2,Same H1 H2→H2 D=some (.lst ((ps.map fun b=>if g b.q < g b.p then g b.q else g b.p).map V.int))→Q (.ref D) H2) :
  CompW (Itl K a) [none,none] (gTup K 2 (gCons (gName 0) (gCons (gName 1) gNil))) tYes (teMin K j) σ H1 D Q:=by
 have hxl:xs.length=ps.length:=by rw [hD'.length,List.length_map]
 refine comp_n (J:=Itl K a) (n:=xs.length) (fun i σ2 H2=>(∃ v0 v1,σ2=[v0,v1])∧Same H1 H2∧H2 D=some (.lst (((ps.map fun b=>if g b.q < g b.p then g b.q else g b.p).take i).map V.int))) ?_ ?_ ?_ ?_
 ·exact ⟨⟨_,_,rfl⟩,same_upd nD,upd_same⟩
 ·rintro i σ2 H2 hi ⟨⟨v0,v1,rfl⟩,S2,_⟩
  exact ⟨xs,_,SqL.of (S2 _ _ ea),List.getElem?_eq_getElem hi⟩
 ·rintro σ2 H2 ⟨⟨v0,v1,rfl⟩,S2,eD⟩
  rw [List.take_of_length_le (by rw [List.length_map]; omega)] at eD
  exact ⟨⟨xs,SqL.of (S2 _ _ ea),Nat.le_refl _⟩,q H2 S2 eD⟩
 ·rintro i σ2 H2 hi ⟨⟨v0,v1,rfl⟩,S2,eD⟩ x H3 ⟨rfl,hx⟩
  have hx:=hx xs (SqL.of (S2 _ _ ea))
  obtain ⟨d,ed,dx⟩:=(hD'.same S2).at i x hx
  rw [List.getElem?_map] at ed
  cases hp:ps[i]? with
  | none=>rw [hp] at ed; cases ed
  | some b =>
   rw [hp] at ed
   cases ed
   obtain ⟨r,xl,rfl,er,hl⟩:=pic_at dx
   obtain ⟨x1,y1,el,hx1,hy1⟩:=line_two hl
   refine ⟨r,_,rfl,SqT.of er,rfl,_,_,rfl,_,_,rfl,rfl,?_⟩
   refine ⟨_,rfl,xl,_,_,_,rfl,rfl,SqT.of el,rfl,x1,_,_,_,rfl,rfl,SqT.of hx1,hg b.p,?_⟩
   refine ⟨_,rfl,xl,_,_,_,rfl,rfl,SqT.of el,rfl,y1,_,_,_,rfl,rfl,SqT.of hy1,hg b.q,?_⟩
   refine ⟨_,_,rfl,_,eD,?_,⟨_,_,rfl⟩,same_updN S2 nD,?_⟩
   ·rw [List.length_map,List.length_take]
    exact small1000 (by omega)
   ·have tk:(ps.map fun b=>if g b.q < g b.p then g b.q else g b.p).take (i + 1)=(ps.map fun b=>if g b.q < g b.p then g b.q else g b.p).take i ++ [if g b.q < g b.p then g b.q else g b.p]:=by rw [List.take_succ,List.getElem?_map,hp]; rfl
    rw [upd_same,tk,List.map_append]; rfl
theorem scLHome:FnScope ["_law_pairs_here","_law_east","_law_north","_law_found","_law_ends","_law_colour_here","_law_one_here"] ["_law_pairs_here"] (defScope sLHome):=⟨rfl,rfl,rfl,by decide +kernel,rfl,by decide +kernel,by decide +kernel⟩
theorem ok_lhome {f:Addr} {fd:FuncData} (D:Df K mg "_law_home" sLHome f fd) (hmin:mg "min"=none):FnOk P w K mg base CX0 1 f fd ["_law_pairs_here"] spHome:=by
 refine D.F.ok scLHome (fun vs H Q E h=>?_) (fun cdv A outer s H vs Q E hr h=>?_)
 ·obtain ⟨a,ps,rfl,_⟩:=h
  rfl
 ·obtain ⟨a,ps,rfl,hp,hlen,z⟩:=h
  obtain ⟨xs,ea,hD'⟩:=hp
  have hxl:xs.length=ps.length:=by rw [hD'.length,List.length_map]
  refine ⟨_,(pss_cons (ps_if (pt_cmpR (op_eqL hr) (pv 0) (pe_lst pa_nil) (nomark _)) (pss_one (ps_ret (pe_lst pa_nil))) pss_nil)
   (pss_cons (ps_set (i:=1) scLHome.nd rfl (Or.inl rfl) (pe_callB (call_minI rfl) (by rfl) hmin boot_min (pac (pe_comp (g:=gTup K 2 (gCons (gName 0) (gCons (gName 1) gNil))) (te:=teMin K 0) (N':=["_law_ends","_law_colour_here"]) (idx:=[none,none]) (compOk_of (by kernel_rfl)) (by kernel_rfl) rfl (pi_list (pv 0))
     (fun _ _ _ _ _=>pg_tup (n:=2) rfl (pgs_cons (pg_name (i:=0) (show (["_law_ends","_law_colour_here"]:List Str).Nodup by decide +kernel) rfl (Or.inl rfl)) (pgs_cons (pg_name (i:=1) (show (["_law_ends","_law_colour_here"]:List Str).Nodup by decide +kernel) rfl (Or.inl rfl)) pgs_nil))) (fun _ _ _ _ _=>pts_nil)
     (fun _ _ _ _ _=>pe_callB (call_min2 rfl) (by rfl) hmin boot_min (pac (pe_ix ix_tup (pe_ix ix_tup (pv 0) pe_int (fun _ _=>rfl)) pe_int (fun _ _=>rfl)) (pac (pe_ix ix_tup (pe_ix ix_tup (pv 0) pe_int (fun _ _=>rfl)) pe_int (fun _ _=>rfl)) pa_nil)))) pa_nil)))
   (pss_cons (ps_set (i:=2) scLHome.nd rfl (Or.inl rfl) (pe_callB (call_minI rfl) (by rfl) hmin boot_min (pac (pe_comp (g:=gTup K 2 (gCons (gName 0) (gCons (gName 1) gNil))) (te:=teMin K 1) (N':=["_law_ends","_law_colour_here"]) (idx:=[none,none]) (compOk_of (by kernel_rfl)) (by kernel_rfl) rfl (pi_list (pv 0))
     (fun _ _ _ _ _=>pg_tup (n:=2) rfl (pgs_cons (pg_name (i:=0) (show (["_law_ends","_law_colour_here"]:List Str).Nodup by decide +kernel) rfl (Or.inl rfl)) (pgs_cons (pg_name (i:=1) (show (["_law_ends","_law_colour_here"]:List Str).Nodup by decide +kernel) rfl (Or.inl rfl)) pgs_nil))) (fun _ _ _ _ _=>pts_nil)
     (fun _ _ _ _ _=>pe_callB (call_min2 rfl) (by rfl) hmin boot_min (pac (pe_ix ix_tup (pe_ix ix_tup (pv 0) pe_int (fun _ _=>rfl)) pe_int (fun _ _=>rfl)) (pac (pe_ix ix_tup (pe_ix ix_tup (pv 0) pe_int (fun _ _=>rfl)) pe_int (fun _ _=>rfl)) pa_nil)))) pa_nil)))
   (pss_cons (ps_set (i:=3) scLHome.nd rfl (Or.inl rfl) (pe_lst pa_nil))
   (pss_cons (ps_for PassesOwn.never rfl (pi_list (pv 0)) (pg_tup rfl (pgs_cons (pg_name (i:=4) scLHome.nd rfl (Or.inl rfl)) (pgs_cons (pg_name (i:=5) scLHome.nd rfl (Or.inl rfl)) pgs_nil)))
    (pss_cons (ps_set (i:=6) scLHome.nd rfl (Or.inl rfl) (pe_tup (pac (pe_op op_sub (pe_ix ix_tup (pe_ix ix_tup (pv 4) pe_int (fun _ _=>rfl)) pe_int (fun _ _=>rfl)) (pv 1)) (pac (pe_op op_sub (pe_ix ix_tup (pe_ix ix_tup (pv 4) pe_int (fun _ _=>rfl)) pe_int (fun _ _=>rfl)) (pv 2)) pa_nil))))
   (pss_one (ps_expr (pe_bm PySem.F.plainAttrs_list PySem.F.slot_list_append PySem.F.type_list_append mt_append (pv 3) (pac (pe_tup (pac (pe_tup (pac (pv 6) (pac (pe_tup (pac (pe_op op_sub (pe_ix ix_tup (pe_ix ix_tup (pv 4) pe_int (fun _ _=>rfl)) pe_int (fun _ _=>rfl)) (pv 1)) (pac (pe_op op_sub (pe_ix ix_tup (pe_ix ix_tup (pv 4) pe_int (fun _ _=>rfl)) pe_int (fun _ _=>rfl)) (pv 2)) pa_nil))) pa_nil))) (pac (pv 5) pa_nil))) pa_nil))))))
   (pss_one (ps_ret (pv 3)))))))),?_⟩
  refine ⟨_,rfl,szr rfl,fun m0 n0=>?_⟩
  have T0:=same_upd (o:=.lst ([]:List V)) n0
  refine ⟨a,m0,xs,[],_,_,rfl,rfl,SqL.of (T0 _ _ ea),SqL.of upd_same,hD'.same T0,.nil,fun d hd=>Nat.le_trans (pics_dp _ d hd) (by decide),_,rfl,?_⟩
  cases hps:ps with
  | nil =>
   subst hps
   refine ifB_pos rfl ?_
   refine ⟨szr rfl,fun l nl=>z l _ (T0.trans (same_upd nl)) (none_same T0 nl) ⟨[],upd_same,.nil⟩⟩
  | cons b0 r0 =>
   rw [← hps]
   have hne:ps≠[]:=by rw [hps]; simp
   refine ifB_neg (by rw [hps]; rfl) ?_
   refine ⟨_,rfl,a,rfl,⟨_,SqL.of (T0 _ _ ea)⟩,fun D1 n1=>comp_mins 0 (fun p=>p.1) (fun p=>rfl) (T0 _ _ ea) (hD'.same T0) hlen n1 fun H2 S2 e2=>?_⟩
   refine ⟨D1,_,rfl,SqL.of e2,by simpa using hne,?_⟩
   have SA:=T0.trans S2
   refine ⟨_,rfl,a,rfl,⟨_,SqL.of (SA _ _ ea)⟩,fun D2 n2=>comp_mins 1 (fun p=>p.2) (fun p=>rfl) (SA _ _ ea) (hD'.same SA) hlen n2 fun H3 S3 e3=>?_⟩
   refine ⟨D2,_,rfl,SqL.of e3,by simpa using hne,?_⟩
   have ex:=min_xs hne
   have ey:=min_ys hne
   have SB:=SA.trans S3
   refine ⟨szr rfl,fun L nL=>?_⟩
   have HL:=none_same SB nL
   refine ⟨_,rfl,a,rfl,⟨_,SqL.of ((same_upd nL) _ _ (SB _ _ ea))⟩,?_⟩
   refine for_list (K:=K) (a:=a) (xs:=xs) (fun i σ H4=>(∃ v4 v5 v6,σ=[some (.ref a),some (.int (mnL (xsOf ps))),some (.int (mnL (ysOf ps))),some (.ref L),v4,v5,v6])∧Same H H4∧∃ ys,H4 L=some (.lst ys)∧DtsIs H4 ys (List.map pD ((homeP ps).take i)))
    ⟨⟨none,none,none,by rw [← ex,← ey]; rfl⟩,SB.trans (same_upd nL),[],upd_same,.nil⟩ (fun i σ H4 _ ⟨_,s2,_⟩=>SqL.of (s2 _ _ ea)) ?_ ?_
   ·rintro i x σ H4 hx ⟨⟨v4,v5,v6,rfl⟩,S4,ys,eL,hD4⟩
    obtain ⟨d,ed,dx⟩:=(hD'.same S4).at i x hx
    rw [List.getElem?_map] at ed
    cases hp:ps[i]? with
    | none=>rw [hp] at ed; cases ed
    | some b =>
     rw [hp] at ed
     cases ed
     have hi:i < ps.length:=(List.getElem?_eq_some_iff.mp hp).1
     obtain ⟨r,xl,rfl,er,hl⟩:=pic_at dx
     obtain ⟨x1,y1,el,hx1,hy1⟩:=line_two hl
     refine ⟨r,_,rfl,SqT.of er,rfl,_,_,rfl,_,_,rfl,rfl,?_⟩
     refine ⟨_,rfl,xl,_,_,_,rfl,rfl,SqT.of el,rfl,x1,_,_,_,rfl,rfl,SqT.of hx1,rfl,_,rfl,_,_,rfl,rfl,?_⟩
     refine ⟨_,rfl,xl,_,_,_,rfl,rfl,SqT.of el,rfl,x1,_,_,_,rfl,rfl,SqT.of hx1,rfl,_,rfl,_,_,rfl,rfl,szr rfl,fun t1 nt1=>?_⟩
     have T1:=same_upd (o:=.tup [.int (b.p.1 - mnL (xsOf ps)),.int (b.p.2 - mnL (ysOf ps))]) nt1
     have eL1:=T1 _ _ eL
     refine ⟨_,rfl,.inl ⟨rfl,_,SqL.of eL1⟩,?_⟩
     refine ⟨_,rfl,?_⟩
     refine ⟨_,rfl,xl,_,_,_,rfl,rfl,SqT.of (T1 _ _ el),rfl,y1,_,_,_,rfl,rfl,SqT.of (T1 _ _ hy1),rfl,_,rfl,_,_,rfl,rfl,?_⟩
     refine ⟨_,rfl,xl,_,_,_,rfl,rfl,SqT.of (T1 _ _ el),rfl,y1,_,_,_,rfl,rfl,SqT.of (T1 _ _ hy1),rfl,_,rfl,_,_,rfl,rfl,szr rfl,fun t2 nt2=>?_⟩
     have T2:=same_upd (o:=.tup [.int (b.q.1 - mnL (xsOf ps)),.int (b.q.2 - mnL (ysOf ps))]) nt2
     refine ⟨szr rfl,fun t3 nt3=>⟨_,rfl,szr rfl,fun t4 nt4=>?_⟩⟩
     have T3:=same_upd (o:=.tup [.ref t1,.ref t2]) nt3
     have T4:=same_upd (o:=.tup [.ref t3,.str b.c]) nt4
     have eL4:=T4 _ _ (T3 _ _ (T2 _ _ eL1))
     refine ⟨L,ys,_,rfl,rfl,eL4,?_,⟨_,_,_,rfl⟩,same_updN ((((S4.trans T1).trans T2).trans T3).trans T4) HL,ys ++ [.ref t4],upd_same,?_⟩
     ·have h1:ys.length=(((homeP ps).take i).map pD).length:=hD4.length
      rw [List.length_map,List.length_take] at h1
      exact small1000 (by omega)
     ·have tk:(homeP ps).take (i + 1)=(homeP ps).take i ++ [shiftP (-(mnL (xsOf ps))) (-(mnL (ysOf ps))) b]:=by
       unfold homeP
       rw [List.take_succ,List.getElem?_map,hp]; rfl
      rw [tk,List.map_append]
      refine DtsIs.snoc (DtIs.updL eL4 ?_) (DtsIs.updL eL4 ((((hD4.same T1).same T2).same T3).same T4))
      have d1:DtIs (upd H4 t1 (.tup [.int (b.p.1 - mnL (xsOf ps)),.int (b.p.2 - mnL (ysOf ps))])) (.ref t1) (hD (shH (-(mnL (xsOf ps))) (-(mnL (ysOf ps))) b.p)):=.tup upd_same (.cons (.int _) (.cons (.int _) .nil))
      have d2:=DtIs.tup (H:=upd (upd H4 t1 (.tup [.int (b.p.1 - mnL (xsOf ps)),.int (b.p.2 - mnL (ysOf ps))])) t2 (.tup [.int (b.q.1 - mnL (xsOf ps)),.int (b.q.2 - mnL (ysOf ps))])) (a:=t2) upd_same (.cons (.int (b.q.1 - mnL (xsOf ps))) (.cons (.int (b.q.2 - mnL (ysOf ps))) .nil))
      exact .tup upd_same (.cons (.tup (T4 _ _ upd_same) (.cons (((d1.same T2).same T3).same T4) (.cons ((d2.same T3).same T4) .nil))) (.cons (.str _) .nil))
   ·rintro σ H4 ⟨⟨v4,v5,v6,rfl⟩,S4,ys,eL,hD4⟩
    refine ⟨_,rfl,z L H4 S4 HL ⟨ys,eL,?_⟩⟩
    have:(homeP ps).take xs.length=homeP ps:=List.take_of_length_le (by unfold homeP; rw [List.length_map]; omega)
    rw [this] at hD4
    exact hD4
end
theorem Pic.updL {H:Hp} {r L:Addr} {ps:List Pl} {xs:List V} {o:HO} (h:Pic H r ps) (ne:r≠L) (e:H L=some (.lst xs)):Pic (upd H L o) r ps:=by
 obtain ⟨ys,a,b⟩:=h
 exact ⟨ys,by rw [upd_ne ne]; exact a,DtsIs.updL e b⟩
theorem Pics.snoc {H:Hp} {rs:List Addr} {pss:List (List Pl)} {r:Addr} {ps:List Pl} (h:Pics H rs pss) (p:Pic H r ps):Pics H (rs ++ [r]) (pss ++ [ps]):=by
 obtain ⟨hl,h⟩:=h
 refine ⟨by rw [List.length_append,List.length_append,hl]; rfl,fun i r' ps' e1 e2=>?_⟩
 by_cases hi:i < rs.length
 ·rw [List.getElem?_append_left hi] at e1
  rw [List.getElem?_append_left (by omega)] at e2
  exact h i r' ps' e1 e2
 ·rw [List.getElem?_append_right (by omega)] at e1
  rw [List.getElem?_append_right (by omega)] at e2
  have hi':i < (rs ++ [r]).length:=by
   cases z:i - rs.length with
   | zero=>rw [List.length_append]; show i < rs.length + 1; omega
   | succ m=>rw [z] at e1; simp at e1
  rw [List.length_append] at hi'
  have z:i - rs.length=0:=by have:i < rs.length + 1:=hi'; omega
  have z2:i - pss.length=0:=by omega
  rw [z] at e1
  rw [z2] at e2
  cases e1
  cases e2
  exact p
section
variable {P:Program} {w:World} {K:PySem.W.Frag} {mg:Str→Option Value} {base:Heap}
def Eight (ps:List Pl) (n:Nat) (Tl:List (List Pl)):Prop:=Tl.length=n∧∀ (k:Nat) T,Tl[k]?=some T→TurnOf k ps T
theorem comp_homes {H:Hp} {a D:Addr} {ps:List Pl} {j:Nat} {σ:L2.St} {E1 E2:XK} {Q:VK} (hp:Pic H a ps) (hlen:ps.length≤150) (nD:H D=none) (hσ:pick [none,some j] σ=[none,some (.ref a)])
  (q:∀ H2 rs Tl,Same H H2→H2 D=some (.lst (rs.map V.ref))→Pics H2 rs (Tl.map homeP)→(∀ r∈rs,H r=none)→Eight ps 8 Tl→Q (.ref D) H2) :
  CompW (Itr 0 8) [none,some j] (gName 0) tYes (tCall spHome [] E1 (tCons (tCall (spTurned K) [] E2 (tCons (tVar 1) (tCons (tVar 0) tNil))) tNil)) σ H D Q:=by
 refine comp_n (J:=Itr 0 8) (n:=8) (fun i σ2 H2=>(∃ v,σ2=[v,some (.ref a)])∧Same H H2∧∃ rs Tl,H2 D=some (.lst (rs.map V.ref))∧Pics H2 rs (Tl.map homeP)∧(∀ r∈rs,H r=none∧r≠D)∧Eight ps i Tl) ?_ (fun i σ2 H2 hi _=>hi) ?_ ?_
 ·exact ⟨⟨_,hσ⟩,same_upd nD,[],[],upd_same,⟨rfl,fun i r ps' e _=>by simp at e⟩,fun _ h=>(nomatch h),rfl,fun k T e=>by simp at e⟩
 ·rintro σ2 H2 ⟨⟨v,rfl⟩,S2,rs,Tl,eD,pp,fr,ei⟩
  exact ⟨Nat.le_refl _,q H2 rs Tl S2 eD pp (fun r hr=>(fr r hr).1) ei⟩
 ·rintro i σ2 H2 hi ⟨⟨v,rfl⟩,S2,rs,Tl,eD,pp,fr,⟨tl,ei⟩⟩ x H3 ⟨rfl,rfl⟩
  have ez:(0:Int) + (i:Int)=(i:Int):=Int.zero_add _
  refine ⟨_,rfl,_,rfl,a,ps,i,?_,hp.same S2,by omega,hi,fun l qs H4 S4 nl pq perm rise=>?_⟩
  ·show [V.ref a,V.int (0 + (i:Int))]=_; rw [ez]
  have hT:TurnOf i ps qs:=⟨perm_pics perm,rise⟩
  have lq:qs.length=ps.length:=by rw [hT.1.length_eq,List.length_map]
  refine ⟨l,qs,rfl,pq,by omega,fun h H5 S5 nh ph=>?_⟩
  have eD5:=S5 _ _ (S4 _ _ eD)
  have nh2:=none_same S4 nh
  have hne:h≠D:=fun z=>by rw [z,eD] at nh2; cases nh2
  refine ⟨rs.map V.ref,eD5,?_,⟨_,rfl⟩,same_updN ((S2.trans S4).trans S5) nD,rs ++ [h],Tl ++ [qs],?_,?_,fun r hr=>?_,?_,fun k T e=>?_⟩
  ·have:=pp.1
   rw [List.length_map] at this ⊢
   exact small1000 (by omega)
  ·rw [upd_same,List.map_append]; rfl
  ·rw [List.map_append]
   refine Pics.snoc ⟨pp.1,fun k r ps' e1 e2=>?_⟩ (Pic.updL ph hne eD5)
   exact Pic.updL (((pp.2 k r ps' e1 e2).same S4).same S5) (fr r (List.mem_of_getElem? e1)).2 eD5
  ·rcases List.mem_append.mp hr with h' | h'
   ·exact fr r h'
   ·rw [List.mem_singleton] at h'
    rw [h']
    exact ⟨none_same S2 nh2,hne⟩
  ·rw [List.length_append,tl]; rfl
  ·by_cases hk:k < Tl.length
   ·rw [List.getElem?_append_left hk] at e
    exact ei k T e
   ·rw [List.getElem?_append_right (by omega)] at e
    have z:k - Tl.length=0:=by
     cases z:k - Tl.length with
     | zero=>rfl
     | succ m=>rw [z] at e; simp at e
    rw [z] at e
    cases e
    have:k=i:=by omega
    rw [this]
    exact hT
theorem form_of {ps d:List Pl} {Tl:List (List Pl)} {i:Nat} (h:Eight ps 8 Tl) (e:(Tl.map homeP)[i]?=some d) (m:∀ qs∈Tl.map homeP,Dt.blts (qs.map pD) (d.map pD)=false):IsForm ps d:=by
 obtain ⟨h8,h⟩:=h
 have at':∀ k,k < 8→Tl[k]?=some (Tl.getD k []):=fun k hk=>by rw [List.getD_eq_getElem?_getD,List.getElem?_eq_getElem (by omega)]; rfl
 have hi:i < 8:=by
  have:=(List.getElem?_eq_some_iff.mp e).1
  rw [List.length_map] at this
  omega
 refine ⟨fun k=>Tl.getD k [],fun k hk=>h k _ (at' k hk),⟨i,hi,?_⟩,fun k hk=>m _ (List.mem_map_of_mem (List.mem_of_getElem? (at' k hk)))⟩
 rw [List.getElem?_map,at' i hi] at e
 cases e
 rfl
def spHomes:Sp:=fun vs H Q _=>∃ (a:Addr) (ps:List Pl),vs=[.ref a]∧Pic H a ps∧ps.length≤150∧∀ l rs Tl H',Same H H'→H' l=some (.lst (List.map V.ref rs))→Pics H' rs (Tl.map homeP)→(∀ r∈rs,H r=none)→Eight ps 8 Tl→Q (.ref l) H'
theorem scHomes:FnScope ["one"] ["one"] (defScope sHomes):=⟨rfl,rfl,rfl,by decide +kernel,rfl,by decide +kernel,by decide +kernel⟩
theorem ok_homes {f fM fT:Addr} {fd fdM fdT:FuncData} (D:Df K mg "homes" sHomes f fd) (DM:Df K mg "home" sHome fM fdM) (bM:Binds K fdM ["one"] []) (GM:FnOk P w K mg base CX0 4 fM fdM ["one"] spHome)
  (DT:Df K mg "turned" sTurned fT fdT) (bT:Binds K fdT ["one","way"] []) (GT:FnOk P w K mg base CX0 4 fT fdT ["one","way"] (spTurned K)) (htur:∃ t,mg "TURNINGS"=some (.int 8 t)) (hrange:mg "range"=none):FnOk P w K mg base CX0 5 f fd ["one"] spHomes:=by
 obtain ⟨tq,tur⟩:=htur
 refine D.F.ok scHomes (fun vs H Q E h=>?_) (fun cdv A outer s H vs Q E hr h=>?_)
 ·obtain ⟨a,ps,rfl,_⟩:=h
  rfl
 ·obtain ⟨a,ps,rfl,hp,hlen,z⟩:=h
  refine ⟨_,(pss_one (ps_ret (pe_comp (N':=["way","one"]) (idx:=[none,some 0]) (compOk_of (by kernel_rfl)) (by kernel_rfl) rfl (pi_range1 rfl hrange (pac (pe_glob (v:=.int 8) rfl tur ⟨_,rfl⟩) pa_nil))
    (fun _ _ _ _ _=>pg_name (i:=0) (show (["way","one"]:List Str).Nodup by decide +kernel) rfl (Or.inl rfl)) (fun _ _ _ _ _=>pts_nil)
    (fun _ _ _ _ _=>pec GM hr rfl DM.m DM.F.kp bM .nil pass0 (pac (pec GT hr rfl DT.m DT.F.kp bT .nil pass0 (pac (pv 1) (pac (pv 0) pa_nil))) pa_nil))))),?_⟩
  refine ⟨_,rfl,by decide,by decide,fun L nL=>?_⟩
  exact comp_homes hp hlen nL rfl fun H2 rs Tl S2 e2 pp fr ei=>z L rs Tl H2 S2 e2 pp fr ei
def spForm:Sp:=fun vs H Q _=>∃ (a:Addr) (ps:List Pl),vs=[.ref a]∧Pic H a ps∧ps.length≤150∧∀ l d H',Same H H'→H l=none→Pic H' l d→IsForm ps d→Q (.ref l) H'
theorem scForm:FnScope ["one"] ["one"] (defScope sForm):=⟨rfl,rfl,rfl,by decide +kernel,rfl,by decide +kernel,by decide +kernel⟩
theorem ok_form {f fO:Addr} {fd fdO:FuncData} (D:Df K mg "form" sForm f fd) (DO:Df K mg "homes" sHomes fO fdO) (bO:Binds K fdO ["one"] []) (GO:FnOk P w K mg base CX0 5 fO fdO ["one"] spHomes) (hmin:mg "min"=none):FnOk P w K mg base CX0 6 f fd ["one"] spForm:=by
 refine D.F.ok scForm (fun vs H Q E h=>?_) (fun cdv A outer s H vs Q E hr h=>?_)
 ·obtain ⟨a,ps,rfl,_⟩:=h
  rfl
 ·obtain ⟨a,ps,rfl,hp,hlen,z⟩:=h
  refine ⟨_,(pss_one (ps_ret (pe_callB (call_minP hr rfl) (by rfl) hmin boot_min (pac (pec GO hr rfl DO.m DO.F.kp bO .nil pass0 (pac (pv 0) pa_nil)) pa_nil)))),?_⟩
  refine ⟨_,rfl,a,ps,rfl,hp,hlen,fun l rs Tl H2 S2 e2 pp fr ei=>?_⟩
  refine ⟨l,rs,Tl.map homeP,rfl,SqL.of e2,pp,fun z0=>?_,fun i r d e1 e3 m=>?_⟩
  ·have h1:=pp.1
   rw [z0,List.length_map,ei.1] at h1
   cases h1
  ·exact z r d H2 S2 (fr r (List.mem_of_getElem? e1)) (pp.2 i r d e1 e3) (form_of ei e3 m)
end
def Al (ps:List Pl) (k:Nat):Prop:=∃ T,TurnOf k ps T∧homeP T=homeP ps
theorem turn_one {k:Nat} {ps T U:List Pl} (h1:TurnOf k ps T) (h2:TurnOf k ps U):T=U:=rise_pics (h1.1.trans h2.1.symm) h1.2 h2.2
theorem al_iff {k:Nat} {ps T:List Pl} (h:TurnOf k ps T):Dt.beqs ((homeP T).map pD) ((homeP ps).map pD)=true↔Al ps k:=by
 rw [Dt.beqs_iff]
 constructor
 ·intro e
  refine ⟨T,h,?_⟩
  have inj:∀ {l m:List Pl},l.map pD=m.map pD→l=m:=by
   intro l
   induction l with
   | nil=>intro m hm; cases m with
    | nil=>rfl
    | cons _ _=>simp at hm
   | cons a l ih=>intro m hm; cases m with
    | nil=>simp at hm
    | cons b m =>
     simp only [List.map_cons,List.cons.injEq] at hm
     rw [pD_inj hm.1,ih hm.2]
  exact inj e
 ·rintro ⟨U,hU,e⟩
  rw [turn_one h hU,e]
def alL (f:Nat→Bool) (n:Nat):List V:=((List.range n).filter f).map fun (k:Nat)=>V.int (k:Int)
theorem alL_succ (f:Nat→Bool) (n:Nat):alL f (n + 1)=alL f n ++ (if f n=true then [V.int (n:Int)] else []):=by
 unfold alL
 rw [List.range_succ,List.filter_append,List.map_append,List.filter_cons]
 split <;> rfl
theorem alL_len (f:Nat→Bool) (n:Nat):(alL f n).length≤n:=by
 unfold alL
 rw [List.length_map]
 exact Nat.le_trans (List.length_filter_le _ _) (by rw [List.length_range]; exact Nat.le_refl _)
abbrev rEqL (K:PySem.W.Frag):R2:=fun x y H Q=>∃ a b xs ys ds es,x=.ref a∧y=.ref b∧SqL K H a xs∧SqL K H b ys∧DtsIs H xs ds∧DtsIs H ys es∧(∀ d∈ds,d.dp≤50)∧Q (.bl (Dt.beqs ds es)) H
theorem pics_50 (ps:List Pl):∀ d∈ps.map pD,d.dp≤50:=fun d hd=>by
 obtain ⟨a,_,rfl⟩:=List.mem_map.mp hd
 rw [pD_dp]
 decide
section
variable {P:Program} {w:World} {K:PySem.W.Frag} {mg:Str→Option Value} {base:Heap}
def spAlike:Sp:=fun vs H Q _=>∃ (a:Addr) (ps:List Pl),vs=[.ref a]∧Pic H a ps∧ps.length≤150∧∀ l f H',Same H H'→H l=none→(∀ k,k < 8→(f k=true↔Al ps k))→H' l=some (.lst (alL f 8))→Q (.ref l) H'
theorem scAlike:FnScope ["one","own"] ["one"] (defScope sAlike):=⟨rfl,rfl,rfl,by decide +kernel,rfl,by decide +kernel,by decide +kernel⟩
theorem ok_alike {f fM fQ:Addr} {fd fdM fdQ:FuncData} (D:Df K mg "alike_by" sAlike f fd) (DM:Df K mg "home" sHome fM fdM) (bM:Binds K fdM ["one"] []) (GM:FnOk P w K mg base CX0 4 fM fdM ["one"] spHome)
  (DQ:Df K mg "homes" sHomes fQ fdQ) (bQ:Binds K fdQ ["one"] []) (GQ:FnOk P w K mg base CX0 5 fQ fdQ ["one"] spHomes) (henum:mg "enumerate"=none):FnOk P w K mg base CX0 6 f fd ["one"] spAlike:=by
 refine D.F.ok scAlike (fun vs H Q E h=>?_) (fun cdv A outer s H vs Q E hr h=>?_)
 ·obtain ⟨a,ps,rfl,_⟩:=h
  rfl
 ·obtain ⟨a,ps,rfl,hp,hlen,z⟩:=h
  have hr4:Room 4 _:=hr.mono (by decide)
  refine ⟨_,(pss_cons (ps_set (i:=1) scAlike.nd rfl (Or.inr rfl) (pec GM hr4 rfl DM.m DM.F.kp bM .nil pass0 (pac (pv 0) pa_nil)))
   (pss_one (ps_ret (pe_comp (g:=gTup K 2 (gCons (gName 0) (gCons (gName 1) gNil))) (tt:=tTest (tOp (rEqL K) (tVar 1) (tVar 2))) (N':=["way","other","own"]) (idx:=[none,none,some 1]) (compOk_of (by kernel_rfl)) (by kernel_rfl) rfl
    (pi_enum rfl henum (pac (pec GQ hr rfl DQ.m DQ.F.kp bQ .nil pass0 (pac (pv 0) pa_nil)) pa_nil))
    (fun _ _ _ _ _=>pg_tup (n:=2) rfl (pgs_cons (pg_name (i:=0) (show (["way","other","own"]:List Str).Nodup by decide +kernel) rfl (Or.inl rfl)) (pgs_cons (pg_name (i:=1) (show (["way","other","own"]:List Str).Nodup by decide +kernel) rfl (Or.inl rfl)) pgs_nil)))
    (fun _ _ _ _ _=>pts_one (pt_cmpR (op_eqL hr) (pv 1) (pv 2) (nomark _)))
    (fun _ _ _ _ _=>pv 0))))),?_⟩
  refine ⟨_,rfl,a,ps,rfl,hp,hlen,fun o H1 S1 no ho=>?_⟩
  refine ⟨_,rfl,a,ps,rfl,hp.same S1,hlen,fun l rs Tl H2 S2 e2 pp fr ei=>?_⟩
  refine ⟨l,_,rfl,SqL.of e2,fun L nL=>?_⟩
  have rl:rs.length=8:=by rw [pp.1,List.length_map,ei.1]
  have hT:∀ k,k < 8→∃ T,Tl[k]?=some T∧TurnOf k ps T:=fun k hk=>by
   have:k < Tl.length:=by rw [ei.1]; exact hk
   exact ⟨_,List.getElem?_eq_getElem this,ei.2 k _ (List.getElem?_eq_getElem this)⟩
  have ho2:=ho.same S2
  let f:Nat→Bool:=fun k=>Dt.beqs ((homeP (Tl.getD k [])).map pD) ((homeP ps).map pD)
  have hf:∀ k,k < 8→(f k=true↔Al ps k):=fun k hk=>by
   obtain ⟨T,eT,tT⟩:=hT k hk
   show Dt.beqs ((homeP (Tl.getD k [])).map pD) _=true↔_
   rw [List.getD_eq_getElem?_getD,eT]
   exact al_iff tT
  refine comp_n (J:=Ite K l) (n:=8) (fun i σ2 H3=>(∃ v0 v1,σ2=[v0,v1,some (.ref o)])∧Same H2 H3∧H3 L=some (.lst (alL f i))) ?_ ?_ ?_ ?_
  ·exact ⟨⟨_,_,rfl⟩,same_upd nL,upd_same⟩
  ·rintro i σ2 H3 hi ⟨⟨v0,v1,rfl⟩,S3,_⟩
   exact ⟨_,_,SqL.of (S3 _ _ e2),List.getElem?_eq_getElem (by rw [List.length_map]; omega)⟩
  ·rintro σ2 H3 ⟨⟨v0,v1,rfl⟩,S3,e3⟩
   refine ⟨⟨_,SqL.of (S3 _ _ e2),by rw [List.length_map]; omega⟩,?_⟩
   exact z L f H3 ((S1.trans S2).trans S3) (none_same (S1.trans S2) nL) hf e3
  ·rintro i σ2 H3 hi ⟨⟨v0,v1,rfl⟩,S3,e3⟩ x H4 ⟨p,y,rfl,np,rfl,hx⟩
   have hx:=hx _ (SqL.of (S3 _ _ e2))
   have T:=same_upd (o:=HO.tup [V.int (i:Int),y]) np
   rw [List.getElem?_map] at hx
   cases hr':rs[i]? with
   | none=>rw [hr'] at hx; cases hx
   | some r =>
    rw [hr'] at hx
    cases hx
    obtain ⟨U,eU,tU⟩:=hT i hi
    have pr:Pic H2 r (homeP U):=pp.2 i r _ hr' (by rw [List.getElem?_map,eU]; rfl)
    obtain ⟨xs,ex,dx⟩:=(pr.same S3).same T
    obtain ⟨os,eo,dO⟩:=(ho2.same S3).same T
    have e4:=T _ _ e3
    have fi:f i=Dt.beqs ((homeP U).map pD) ((homeP ps).map pD):=by
     show Dt.beqs ((homeP (Tl.getD i [])).map pD) _=_
     rw [List.getD_eq_getElem?_getD,eU]; rfl
    have sc:=alL_succ f i
    have al:=alL_len f i
    refine ⟨p,_,rfl,SqT.of upd_same,rfl,_,_,rfl,_,_,rfl,rfl,?_⟩
    refine ⟨_,rfl,_,rfl,r,o,_,_,_,_,rfl,rfl,SqL.of ex,SqL.of eo,dx,dO,pics_50 _,_,rfl,?_⟩
    rw [← fi]
    by_cases hc:f i=true
    ·rw [if_pos hc] at sc
     refine ifB_pos hc ⟨_,rfl,_,e4,small1000 (by omega),⟨_,_,rfl⟩,same_updN (S3.trans T) nL,?_⟩
     rw [upd_same,sc]
    ·rw [if_neg hc,List.append_nil] at sc
     refine ifB_neg (by simpa using hc) ⟨⟨_,_,rfl⟩,S3.trans T,?_⟩
     rw [sc]
     exact e4
end
section
variable {P:Program} {w:World} {K:PySem.W.Frag} {mg:Str→Option Value} {base:Heap}
def spBeh:Sp:=fun vs H Q _=>∃ a b:Nat,vs=[.int a,.int b]∧a < 8∧b < 8∧Q (.int (behN a b:Nat)) H
theorem scBeh:FnScope ["first","second","quarters","mirrored"] ["first","second"] (defScope sBeh):=⟨rfl,rfl,rfl,by decide +kernel,rfl,by decide +kernel,by decide +kernel⟩
theorem ok_beh {f fM:Addr} {fd fdM:FuncData} (D:Df K mg "behind" sBeh f fd) (DM:Df K mg "is_mirroring" sMir fM fdM) (bM:Binds K fdM ["way"] []) (GM:FnOk P w K mg base CX0 1 fM fdM ["way"] spMir) (hqua:∃ t,mg "QUARTERS"=some (.int 4 t)) :
  FnOk P w K mg base CX0 2 f fd ["first","second"] spBeh:=by
 obtain ⟨tq,qua⟩:=hqua
 refine D.F.ok scBeh (fun vs H Q E h=>?_) (fun cdv A outer s H vs Q E hr h=>?_)
 ·obtain ⟨a,b,rfl,_⟩:=h
  rfl
 ·obtain ⟨a,b,rfl,ha,hb,z⟩:=h
  refine ⟨_,(pss_cons (ps_set (i:=2) scBeh.nd rfl (Or.inl rfl) (pe_ifExp (pt_val (pec GM hr rfl DM.m DM.F.kp bM .nil pass0 (pac (pv 1) pa_nil))) (pe_op op_sub (pv 1) (pv 0)) (pe_op op_add (pv 1) (pv 0))))
   (pss_cons (ps_set (i:=3) scBeh.nd rfl (Or.inl rfl) (pe_cmpR op_ne (pec GM hr rfl DM.m DM.F.kp bM .nil pass0 (pac (pv 0) pa_nil)) (pec GM hr rfl DM.m DM.F.kp bM .nil pass0 (pac (pv 1) pa_nil)) (nomark _)))
   (pss_one (ps_ret (pe_op op_add (pe_op op_mod (pv 2) (pe_glob (v:=.int 4) rfl qua ⟨_,rfl⟩)) (pe_ifExp (pt_val (pv 3)) (pe_glob (v:=.int 4) rfl qua ⟨_,rfl⟩) pe_int)))))),?_⟩
  have fin:∀ m:Int,m=(if 4≤b then (b:Int) - a else (b:Int) + a)→m % 4 + (if decide (4≤a)=decide (4≤b) then 0 else 4)=((behN a b:Nat):Int):=fun m hm=>by
   unfold behN
   rw [← hm]
   have:=Int.emod_nonneg m (show (4:Int)≠0 by decide)
   split <;> omega
  refine' laterS (fun σ H2=>(∃ m v,σ=[some (.int a),some (.int b),some (.int m),v]∧m=(if 4≤b then (b:Int) - a else (b:Int) + a))∧H2=H) (fun go=>_) _
  rotate_left
  ·refine ⟨_,rfl,b,rfl,_,rfl,ifC (fun hc=>?_) (fun hc=>?_)⟩
   ·have h4:4≤b:=of_decide_eq_true hc
    exact ⟨_,rfl,_,rfl,_,_,rfl,rfl,go _ _ ⟨⟨_,_,rfl,by rw [if_pos h4]⟩,rfl⟩⟩
   ·have h4:¬ 4≤b:=of_decide_eq_false hc
    exact ⟨_,rfl,_,rfl,_,_,rfl,rfl,go _ _ ⟨⟨_,_,rfl,by rw [if_neg h4]⟩,rfl⟩⟩
  ·rintro σ H2 ⟨⟨m,v,rfl,hm⟩,rfl⟩
   refine ⟨_,rfl,a,rfl,_,rfl,b,rfl,rfl,?_⟩
   refine ⟨_,rfl,_,_,rfl,rfl,(by show (0:Int) < 4; decide),_,rfl,_,rfl,ifC (fun hc=>?_) (fun hc=>?_)⟩
   ·refine ⟨_,_,rfl,rfl,?_⟩
    have hne:decide (4≤a)≠decide (4≤b):=fun e=>by rw [e] at hc; simp at hc
    have:=fin m hm
    rw [if_neg hne] at this
    show Q (.int (m % 4 + 4)) _
    rw [this]
    exact z
   ·refine ⟨_,_,rfl,rfl,?_⟩
    have he:decide (4≤a)=decide (4≤b):=by
     simpa using hc
    have:=fin m hm
    rw [if_pos he] at this
    show Q (.int (m % 4 + 0)) _
    rw [this]
    exact z
end
theorem lD_tup (a:Pl):∃ l,lD a=.tup l:=⟨_,rfl⟩
theorem lD_dp (a:Pl):(lD a).dp=2:=by simp [lD,hD,Dt.dp,Dt.dps]
def lessP (ps qs:List Pl):List Pl:=ps.filter fun a=>!decide (lD a∈qs.map lD)
section
variable {P:Program} {w:World} {K:PySem.W.Frag} {mg:Str→Option Value} {base:Heap}
def spLess:Sp:=fun vs H Q _=>∃ (a b:Addr) (ps qs:List Pl),vs=[.ref a,.ref b]∧Pic H a ps∧Pic H b qs∧ps.length≤200∧qs.length≤200∧∀ l H',Same H H'→H l=none→Pic H' l (lessP ps qs)→Q (.ref l) H'
theorem scLess:FnScope ["one","other","colour_by_line"] ["one","other"] (defScope sLess):=⟨rfl,rfl,rfl,by decide +kernel,rfl,by decide +kernel,by decide +kernel⟩
theorem ok_less {f:Addr} {fd:FuncData} (D:Df K mg "less" sLess f fd) (hdict:mg "dict"=none):FnOk P w K mg base CX0 1 f fd ["one","other"] spLess:=by
 refine D.F.ok scLess (fun vs H Q E h=>?_) (fun cdv A outer s H vs Q E hr h=>?_)
 ·obtain ⟨a,b,ps,qs,rfl,_⟩:=h
  rfl
 ·obtain ⟨a,b,ps,qs,rfl,hp,hq,lp,lq,z⟩:=h
  refine ⟨_,(pss_cons (ps_set (i:=2) scLess.nd rfl (Or.inr rfl) (pe_callTy (call_dict_of hr) (by rfl) hdict boot_dict (pac (pv 1) pa_nil)))
   (pss_one (ps_ret (pe_comp (g:=gTup K 2 (gCons (gName 0) (gCons (gName 1) gNil))) (tt:=tTest (tOp (rNotInD P w) (tVar 0) (tVar 2))) (N':=["line","colour","colour_by_line"]) (idx:=[none,none,some 2]) (compOk_of (by kernel_rfl)) (by kernel_rfl) rfl (pi_list (pv 0))
    (fun _ _ _ _ _=>pg_tup (n:=2) rfl (pgs_cons (pg_name (i:=0) (show (["line","colour","colour_by_line"]:List Str).Nodup by decide +kernel) rfl (Or.inl rfl)) (pgs_cons (pg_name (i:=1) (show (["line","colour","colour_by_line"]:List Str).Nodup by decide +kernel) rfl (Or.inl rfl)) pgs_nil)))
    (fun _ _ _ _ _=>pts_one (pt_cmpR (op_notInD hr) (pv 0) (pv 2) rfl)) (fun _ _ _ _ _=>pe_tup (pac (pv 0) (pac (pv 1) pa_nil))))))),?_⟩
  obtain ⟨xs,ea,hD⟩:=hp
  obtain ⟨ys,eb,hE⟩:=hq
  have hxl:xs.length=ps.length:=by rw [hD.length,List.length_map]
  have hyl:ys.length=qs.length:=by rw [hE.length,List.length_map]
  have mp:qs.map pD=(qs.map fun q=>(lD q,Dt.str q.c)).map fun p=>.tup [p.1,p.2]:=by rw [List.map_map]; rfl
  have mk:(qs.map fun q=>(lD q,Dt.str q.c)).map (·.1)=qs.map lD:=by rw [List.map_map]; rfl
  refine ⟨_,rfl,b,ys,qs.map fun q=>(lD q,Dt.str q.c),rfl,SqL.of eb,by rw [← mp]; exact hE,by omega,fun p hp=>?_,fun c cs nc hk dic=>?_⟩
  ·obtain ⟨q,_,rfl⟩:=List.mem_map.mp hp
   exact ⟨lD_tup q,by rw [lD_dp]; decide⟩
  rw [mk] at hk
  have S1:=same_upd (o:=dicO P w c cs) nc
  refine ⟨_,rfl,a,rfl,⟨_,SqL.of (S1 _ _ ea)⟩,fun L nL=>?_⟩
  have HL:=none_same S1 nL
  refine comp_n (J:=Itl K a) (n:=xs.length) (fun i σ2 H2=>(∃ v0 v1,σ2=[v0,v1,some (.ref c)])∧Same (upd H c (dicO P w c cs)) H2∧∃ zs,H2 L=some (.lst zs)∧DtsIs H2 zs ((lessP (ps.take i) qs).map pD)) ?_ ?_ ?_ ?_
  ·exact ⟨⟨_,_,rfl⟩,same_upd nL,[],upd_same,.nil⟩
  ·rintro i σ2 H2 hi ⟨⟨v0,v1,rfl⟩,S2,_⟩
   exact ⟨xs,_,SqL.of (S2 _ _ (S1 _ _ ea)),List.getElem?_eq_getElem hi⟩
  ·rintro σ2 H2 ⟨⟨v0,v1,rfl⟩,S2,zs,eL,hZ⟩
   rw [List.take_of_length_le (by omega)] at hZ
   exact ⟨⟨xs,SqL.of (S2 _ _ (S1 _ _ ea)),Nat.le_refl _⟩,z L H2 (S1.trans S2) HL ⟨zs,eL,hZ⟩⟩
  ·rintro i σ2 H2 hi ⟨⟨v0,v1,rfl⟩,S2,zs,eL,hZ⟩ x H3 ⟨rfl,hx⟩
   have hx:=hx xs (SqL.of (S2 _ _ (S1 _ _ ea)))
   obtain ⟨d,ed,dx⟩:=((hD.same S1).same S2).at i x hx
   rw [List.getElem?_map] at ed
   cases hp:ps[i]? with
   | none=>rw [hp] at ed; cases ed
   | some p =>
    rw [hp] at ed
    cases ed
    obtain ⟨r,xl,rfl,er,hl⟩:=pic_at dx
    have tk:ps.take (i + 1)=ps.take i ++ [p]:=by rw [List.take_succ,hp]; rfl
    have zl:zs.length≤ps.length:=by
     rw [hZ.length,List.length_map]
     exact Nat.le_trans (List.length_filter_le _ _) (by rw [List.length_take]; omega)
    refine ⟨r,_,rfl,SqT.of er,rfl,_,_,rfl,_,_,rfl,rfl,?_⟩
    refine ⟨_,rfl,_,rfl,xl,c,lD p,cs,rfl,rfl,hl,by rw [lD_dp]; decide,dic.same S2,_,rfl,ifC (fun hc=>?_) (fun hc=>?_)⟩
    ·have hn:¬ lD p∈qs.map lD:=fun zz=>by
      rw [decide_eq_true ((hk (lD p)).mpr zz)] at hc
      cases hc
     have e1:lessP (ps.take (i + 1)) qs=lessP (ps.take i) qs ++ [p]:=by
      rw [tk]
      unfold lessP
      rw [List.filter_append]
      congr 1
      rw [List.filter_cons,decide_eq_false hn]
      rfl
     refine ⟨_,rfl,_,rfl,szr rfl,fun t nt=>?_⟩
     have Tt:=same_upd (o:=.tup [.ref xl,.str p.c]) nt
     have eL4:=Tt _ _ eL
     refine ⟨zs,eL4,small1000 (by omega),⟨_,_,rfl⟩,same_updN (S2.trans Tt) nL,zs ++ [.ref t],upd_same,?_⟩
     rw [e1,List.map_append]
     exact DtsIs.snoc (DtIs.updL eL4 (.tup upd_same (.cons (hl.same Tt) (.cons (.str _) .nil)))) (DtsIs.updL eL4 (hZ.same Tt))
    ·have hn:lD p∈qs.map lD:=by
      refine (hk (lD p)).mp ?_
      cases hd:decide (lD p∈cs.map (·.1)) with
      | true=>exact of_decide_eq_true hd
      | false=>rw [hd] at hc; cases hc
     have e1:lessP (ps.take (i + 1)) qs=lessP (ps.take i) qs:=by
      rw [tk]
      unfold lessP
      rw [List.filter_append,List.filter_cons,decide_eq_true hn]
      exact List.append_nil _
     refine ⟨⟨_,_,rfl⟩,S2,zs,eL,?_⟩
     rw [e1]
     exact hZ
end
section
variable {P:Program} {w:World} {K:PySem.W.Frag} {mg:Str→Option Value} {base:Heap} {c2 c3:Addr}
def spJoin (c2 c3:Addr):Sp:=fun vs H Q E=>∃ (a b:Addr) (ps qs:List Pl) (ls:List Dt),vs=[.ref a,.ref b]∧Pic H a ps∧Pic H b qs∧ps.length + qs.length≤300∧ls.Nodup∧(∀ d,d∈ls↔d∈(ps ++ qs).map lD) ∧
 (twoC (ps ++ qs)→∀ H',Same H H'→E (.ref c2) none H')∧(¬ twoC (ps ++ qs)→120 < ls.length→∀ H',Same H H'→E (.ref c3) none H')∧(¬ twoC (ps ++ qs)→ls.length≤120→∀ l rs H',PicOut H (ps ++ qs) l H' rs→Q (.ref l) H')
theorem scJoin:FnScope ["one","other"] ["one","other"] (defScope sJoin):=⟨rfl,rfl,rfl,by decide +kernel,rfl,by decide +kernel,by decide +kernel⟩
theorem ok_join {f fP:Addr} {fd fdP:FuncData} (D:Df K mg "joined" sJoin f fd) (DP:Df K mg "picture" sPict fP fdP) (bP:Binds K fdP ["pairs"] []) (GP:FnOk P w K mg base (CXE P w) 1 fP fdP ["pairs"] (spPict K c2 c3)):FnOk P w K mg base (CXE P w) 2 f fd ["one","other"] (spJoin c2 c3):=by
 refine fun_okX D.F scJoin (fun vs H Q E h=>?_) (fun cdv A outer s H vs Q E hr h=>?_)
 ·obtain ⟨a,b,ps,qs,ls,rfl,_⟩:=h
  rfl
 ·obtain ⟨a,b,ps,qs,ls,rfl,⟨xs,ea,da⟩,⟨ys,eb,db⟩,pl,lnd,lmem,k2,k3,kq⟩:=h
  have xl:xs.length=ps.length:=by rw [da.length,List.length_map]
  have yl:ys.length=qs.length:=by rw [db.length,List.length_map]
  refine ⟨_,(pss_one (ps_ret (pec GP hr rfl DP.m DP.F.kp bP .nil passE (pac (pe_op op_cat (pv 0) (pv 1)) pa_nil)))),?_⟩
  refine ⟨_,rfl,_,rfl,a,b,xs,ys,rfl,rfl,ea,eb,sz (by omega),fun C nC=>?_⟩
  have T:=same_upd (o:=HO.lst (xs ++ ys)) nC
  refine ⟨C,xs ++ ys,ps ++ qs,ls,rfl,SqL.of upd_same,?_,by rw [List.length_append]; exact pl,lnd,lmem,fun t H' S=>k2 t H' (T.trans S),fun n g H' S=>k3 n g H' (T.trans S),fun n g l rs H' o=>kq n g l rs H' ⟨T.trans o.same,none_same T o.new,o.pic,o.nd,o.mem,o.rise⟩⟩
  rw [List.map_append]
  exact DtsIs.app (da.same T) (db.same T)
end
def Mv (k:Nat) (p q:List Pl):Prop:=∃ e n:Int,q.Perm ((p.map (turnP k)).map (shiftP e n))
theorem sh_sh (e n e' n':Int) (a:Pl):shiftP e' n' (shiftP e n a)=shiftP (e + e') (n + n') a:=by
 simp only [shiftP,shH,Int.add_assoc]
theorem sh_zero (a:Pl):shiftP 0 0 a=a:=by simp [shiftP,shH]
theorem map_pD_inj:∀ {l m:List Pl},l.map pD=m.map pD→l=m
 | [],[],_=>rfl
 | [],_ :: _,h=>by simp at h
 | _ :: _,[],h=>by simp at h
 | a :: l,b :: m,h=>by
  simp only [List.map_cons,List.cons.injEq] at h
  rw [pD_inj h.1,map_pD_inj h.2]
theorem mv_comp {i j:Nat} {p q r:List Pl} (hi:i < 8) (hj:j < 8) (h1:Mv i p q) (h2:Mv j q r):Mv (behN i j) p r:=by
 obtain ⟨e,n,P1⟩:=h1
 obtain ⟨e',n',P2⟩:=h2
 refine ⟨(turnN j (e,n)).1 + e',(turnN j (e,n)).2 + n',P2.trans ?_⟩
 refine ((P1.map (turnP j)).map (shiftP e' n')).trans (List.Perm.of_eq ?_)
 rw [List.map_map,List.map_map,List.map_map,List.map_map]
 refine List.map_congr_left fun x _=>?_
 show shiftP e' n' (turnP j (shiftP e n (turnP i x)))=shiftP _ _ (turnP (behN i j) x)
 rw [turnP_sh hj,sh_sh,turnP_beh hi hj]
theorem mv_inv {i i':Nat} {p q:List Pl} (hi:i < 8) (hi':i' < 8) (e0:behN i i'=0) (okp:∀ a∈p,a.ok) (h:Mv i p q):Mv i' q p:=by
 obtain ⟨e,n,P1⟩:=h
 refine ⟨-(turnN i' (e,n)).1,-(turnN i' (e,n)).2,?_⟩
 refine List.Perm.symm (((P1.map (turnP i')).map (shiftP _ _)).trans (List.Perm.of_eq ?_))
 rw [List.map_map,List.map_map,List.map_map]
 refine (List.map_congr_left fun x hx=>?_).trans (List.map_id _)
 show shiftP _ _ (turnP i' (shiftP e n (turnP i x)))=x
 rw [turnP_sh hi',sh_sh,← turnP_beh hi hi',e0,turnP_zero (okp x hx)]
 rw [Int.add_right_neg,Int.add_right_neg,sh_zero]
theorem beh_inv:∀ i,i < 8→∃ i',i' < 8∧behN i i'=0∧∀ m,m < 8→behN (behN m i') i=m:=by decide +kernel
theorem home_mv (T:List Pl):∃ e n:Int,homeP T=T.map (shiftP e n):=⟨_,_,rfl⟩
theorem home_iff {k:Nat} {p q T:List Pl} (hT:TurnOf k p T) (rq:Rise q):homeP T=homeP q↔Mv k p q:=by
 constructor
 ·intro h
  obtain ⟨a,b,e1⟩:=home_mv T
  obtain ⟨c,d,e2⟩:=home_mv q
  rw [e1,e2] at h
  have h2:=congrArg (List.map (shiftP (-c) (-d))) h
  rw [List.map_map,List.map_map] at h2
  have h3:q.map (shiftP (-c) (-d) ∘ shiftP c d)=q:=by
   refine (List.map_congr_left fun x _=>?_).trans (List.map_id _)
   show shiftP (-c) (-d) (shiftP c d x)=x
   rw [sh_sh,Int.add_right_neg,Int.add_right_neg,sh_zero]
  rw [h3] at h2
  refine ⟨a + -c,b + -d,?_⟩
  rw [← h2]
  refine (hT.1.map _).trans (List.Perm.of_eq (List.map_congr_left fun x _=>?_))
  exact sh_sh _ _ _ _ _
 ·rintro ⟨e,n,P1⟩
  have h1:q=T.map (shiftP e n):=rise_pics (P1.trans (hT.1.symm.map _)) rq (rise_sh e n hT.2)
  rw [h1,home_shift]
theorem form_mv {p d:List Pl} (h:IsForm p d):∃ i,i < 8∧Mv i p d:=by
 obtain ⟨Ts,t1,⟨k,hk,rfl⟩,_⟩:=h
 obtain ⟨e,n,e1⟩:=home_mv (Ts k)
 exact ⟨k,hk,e,n,by rw [e1]; exact (t1 k hk).1.map _⟩
theorem form_eq {p q d e:List Pl} (okq:∀ a∈q,a.ok) (h1:IsForm p d) (h2:IsForm q e):d.map pD=e.map pD↔∃ k,k < 8∧Mv k p q:=by
 constructor
 ·intro h
  have h:=map_pD_inj h
  subst h
  obtain ⟨i,hi,mi⟩:=form_mv h1
  obtain ⟨j,hj,mj⟩:=form_mv h2
  obtain ⟨j',hj',e0,_⟩:=beh_inv j hj
  exact ⟨_,behN_lt _ _,mv_comp hi hj' mi (mv_inv hj hj' e0 okq mj)⟩
 ·rintro ⟨k,hk,e',n',P1⟩
  exact (form_uniq ⟨k,e',n',hk,P1⟩ h1 h2).symm
theorem turn_ex {p d:List Pl} (h:IsForm p d) (k:Nat) (hk:k < 8):∃ T,TurnOf k p T:=let ⟨Ts,t1,_⟩:=h; ⟨Ts k,t1 k hk⟩
theorem al_mv {p d:List Pl} (h:IsForm p d) (rp:Rise p) {k:Nat} (hk:k < 8):Al p k↔Mv k p p:=by
 obtain ⟨T,hT⟩:=turn_ex h k hk
 constructor
 ·rintro ⟨U,hU,e⟩
  exact (home_iff hU rp).mp e
 ·intro m
  exact ⟨T,hT,(home_iff hT rp).mpr m⟩
theorem ways {p q:List Pl} (okp:∀ a∈p,a.ok) {d0:Nat} (h0:d0 < 8) (m0:Mv d0 p q) (m:Nat) (hm:m < 8):Mv m p q↔∃ k,k < 8∧Mv k p p∧m=behN k d0:=by
 constructor
 ·intro h
  obtain ⟨i',hi',e0,e1⟩:=beh_inv d0 h0
  exact ⟨behN m i',behN_lt _ _,mv_comp hm hi' h (mv_inv h0 hi' e0 okp m0),(e1 m hm).symm⟩
 ·rintro ⟨k,hk,mk,rfl⟩
  exact mv_comp hk h0 mk m0
theorem pl_eq' {a b:Pl} (e:lD a=lD b) (c:a.c=b.c):a=b:=by
 cases a with
 | mk p q c1 =>
  cases b with
  | mk p' q' c2 =>
   simp only [lD,hD,Dt.tup.injEq,List.cons.injEq,Dt.int.injEq,and_true] at e
   obtain ⟨⟨h1,h2⟩,h3,h4⟩:=e
   cases c
   rw [show p=p' from Prod.ext h1 h2,show q=q' from Prod.ext h3 h4]
def One (p:List Pl):Prop:=∀ a∈p,∀ b∈p,lD a=lD b→a=b
theorem one_nd {p:List Pl} (h:(p.map lD).Nodup):One p:=fun a ha b hb e=>by
 have:∀ l:List Pl,(l.map lD).Nodup→a∈l→b∈l→a=b:=fun l=>by
  induction l with
  | nil=>intro _ h; cases h
  | cons c l ih =>
   intro nd h1 h2
   rw [List.map_cons,List.nodup_cons] at nd
   rcases List.mem_cons.mp h1 with e1 | h1'
   ·rcases List.mem_cons.mp h2 with e2 | h2'
    ·rw [e1,e2]
    ·exact absurd (List.mem_map.mpr ⟨b,h2',by rw [← e,e1]⟩) nd.1
   ·rcases List.mem_cons.mp h2 with e2 | h2'
    ·exact absurd (List.mem_map.mpr ⟨a,h1',by rw [e,e2]⟩) nd.1
    ·exact ih nd.2 h1' h2'
 exact this p h ha hb
theorem nd_one {p:List Pl} (n:p.Nodup) (h:One p):(p.map lD).Nodup:=List.pairwise_map.mpr (List.Pairwise.imp_of_mem (fun {a b} ha hb ne e=>ne (h a ha b hb e)) n)
theorem less_mem {p q:List Pl} {a:Pl}:a∈lessP p q↔a∈p∧lD a ∉ q.map lD:=by
 unfold lessP
 rw [List.mem_filter]
 simp
theorem less_rise {p q:List Pl} (h:Rise p):Rise (lessP p q):=(List.Pairwise.sublist (List.filter_sublist.map pD) h)
theorem less_nd {p q:List Pl} (h:p.Nodup):(lessP p q).Nodup:=h.sublist List.filter_sublist
theorem rise_uniq {ps qs:List Pl} (n1:ps.Nodup) (n2:qs.Nodup) (m:∀ a,a∈ps↔a∈qs) (r1:Rise ps) (r2:Rise qs):ps.map pD=qs.map pD :=
 rise_eq (((List.perm_ext_iff_of_nodup n1 n2).mpr m).map pD) r1 r2
theorem lines_rise {os:List Pl} (h:Rise os):(os.map lD).Pairwise (fun d d'=>Dt.blt d' d=false):=by
 have h1:os.Pairwise (fun a b=>Dt.blt (pD b) (pD a)=false):=List.pairwise_map.mp h
 rw [List.pairwise_map]
 refine h1.imp fun {a b} z=>?_
 unfold pD at z
 simp only [Dt.blt,Dt.blts] at z
 by_cases e:Dt.beq (lD b) (lD a)=true
 ·rw [(Dt.beq_iff _ _).mp e]
  exact Dt.irr _
 ·rw [if_neg e] at z
  exact z
theorem both_one {p q:List Pl} (op:One p) (oq:One q):One (p ++ lessP q p):=fun a ha b hb e=>by
 rcases List.mem_append.mp ha with ha | ha <;> rcases List.mem_append.mp hb with hb | hb
 ·exact op a ha b hb e
 ·exact absurd (List.mem_map.mpr ⟨a,ha,e⟩) (less_mem.mp hb).2
 ·exact absurd (List.mem_map.mpr ⟨b,hb,e.symm⟩) (less_mem.mp ha).2
 ·exact oq a (less_mem.mp ha).1 b (less_mem.mp hb).1 e
theorem less_a {p q os:List Pl} (m:∀ a,a∈os↔a∈p ++ lessP q p) (a:Pl):a∈lessP os (lessP q p)↔a∈p:=by
 rw [less_mem,m,List.mem_append]
 constructor
 ·rintro ⟨h | h,n⟩
  ·exact h
  ·exact absurd (List.mem_map.mpr ⟨a,h,rfl⟩) n
 ·intro h
  refine ⟨.inl h,fun z=>?_⟩
  obtain ⟨b,hb,e⟩:=List.mem_map.mp z
  exact (less_mem.mp hb).2 (List.mem_map.mpr ⟨a,h,e.symm⟩)
theorem less_b {p q os:List Pl} (m:∀ a,a∈os↔a∈p ++ lessP q p) (a:Pl):a∈lessP os p↔a∈lessP q p:=by
 rw [less_mem,m,List.mem_append]
 constructor
 ·rintro ⟨h | h,n⟩
  ·exact absurd (List.mem_map.mpr ⟨a,h,rfl⟩) n
  ·exact h
 ·intro h
  exact ⟨.inr h,(less_mem.mp h).2⟩
theorem both_lines {p q os:List Pl} (m:∀ a,a∈os↔a∈p ++ lessP q p) (d:Dt):d∈os.map lD↔d∈(p ++ q).map lD:=by
 rw [List.mem_map,List.mem_map]
 constructor
 ·rintro ⟨a,ha,e⟩
  rcases List.mem_append.mp ((m a).mp ha) with h | h
  ·exact ⟨a,List.mem_append_left _ h,e⟩
  ·exact ⟨a,List.mem_append_right _ (less_mem.mp h).1,e⟩
 ·rintro ⟨a,ha,e⟩
  rcases List.mem_append.mp ha with h | h
  ·exact ⟨a,(m a).mpr (List.mem_append_left _ h),e⟩
  ·by_cases hp:lD a∈p.map lD
   ·obtain ⟨b,hb,eb⟩:=List.mem_map.mp hp
    exact ⟨b,(m b).mpr (List.mem_append_left _ hb),eb.trans e⟩
   ·exact ⟨a,(m a).mpr (List.mem_append_right _ (less_mem.mpr ⟨h,hp⟩)),e⟩
def LdK (kvs:List (Dt×V)):Prop:=∀ p∈kvs,∃ a:Pl,p.1=lD a∧a.ok
theorem LdK.put {kvs:List (Dt×V)} (h:LdK kvs) {a:Pl} (ok:a.ok) (v:V):LdK (putK kvs (lD a) v):=fun p hp=>by
 have hm:p.1∈(putK kvs (lD a) v).map (·.1):=List.mem_map.mpr ⟨p,hp,rfl⟩
 rcases (putK_mem kvs (lD a) v p.1).mp hm with e | e
 ·exact ⟨a,e,ok⟩
 ·obtain ⟨q,hq,e'⟩:=List.mem_map.mp e
  obtain ⟨b,hb,hn⟩:=h q hq
  exact ⟨b,by rw [← e']; exact hb,hn⟩
theorem as_lD:∀ {es:List Dt},(∀ d∈es,∃ a:Pl,d=lD a∧a.ok)→∃ ls:List Pl,es=ls.map lD∧∀ a∈ls,a.ok
 | [],_=>⟨[],rfl,fun _ h=>nomatch h⟩
 | d :: es,h=>by
  obtain ⟨ls,e,k⟩:=as_lD (es:=es) fun x hx=>h x (List.mem_cons_of_mem _ hx)
  obtain ⟨a,ha,hn⟩:=h d (List.mem_cons_self ..)
  refine ⟨a :: ls,by rw [e,ha]; rfl,fun b hb=>?_⟩
  rcases List.mem_cons.mp hb with rfl | hb
  ·exact hn
  ·exact k b hb
def StK (kvs:List (Dt×V)):Prop:=∀ d v,valV kvs d=some v→∃ c:Str,v=.str c
theorem StK.nil:StK []:=fun _ _ h=>by rw [valV_nil] at h; cases h
theorem StK.put {kvs:List (Dt×V)} (h:StK kvs) (d:Dt) (c:Str):StK (putK kvs d (.str c)):=fun e v hv=>by
 rw [valV_put] at hv
 split at hv
 ·exact ⟨c,(Option.some.inj hv).symm⟩
 ·exact h e v hv
def colOf (kvs:List (Dt×V)) (a:Pl):Pl:=⟨a.p,a.q,match valV kvs (lD a) with | some (.str c)=>c | _=>""⟩
theorem col_val {kvs:List (Dt×V)} (h:StK kvs) {a:Pl} (hm:lD a∈kvs.map (·.1)):valV kvs (lD a)=some (.str (colOf kvs a).c):=by
 cases q:valV kvs (lD a) with
 | none=>exact absurd hm (valV_not q)
 | some v =>
  obtain ⟨c,rfl⟩:=h _ _ q
  unfold colOf
  rw [q]
theorem lD_like (a b:Pl):Dt.like (lD a) (lD b)=true:=by simp [lD,hD,Dt.like,Dt.likes]
theorem turnP_ok (k:Nat) (a:Pl):(turnP k a).ok:=by
 unfold turnP
 cases h:hLt (turnN k a.p) (turnN k a.q) with
 | true =>
  rw [if_pos rfl]
  exact lex_asy h
 | false =>
  rw [if_neg (by decide)]
  exact h
theorem rise_of {kk:List (Dt×V)}:∀ {ls:List Pl},(ls.map lD).Pairwise (fun d d'=>Dt.blt d' d=false)→(ls.map lD).Nodup→Rise (ls.map (colOf kk))
 | [],_,_=>.nil
 | a :: ls,h,n=>by
  rw [List.map_cons,List.pairwise_cons] at h
  rw [List.map_cons,List.nodup_cons] at n
  have ih:=rise_of (kk:=kk) h.2 n.2
  unfold Rise at ih ⊢
  rw [List.map_cons,List.map_cons,List.pairwise_cons]
  refine ⟨fun d hd=>?_,ih⟩
  rw [List.map_map] at hd
  obtain ⟨b,hb,rfl⟩:=List.mem_map.mp hd
  have hbl:lD b∈ls.map lD:=List.mem_map.mpr ⟨b,hb,rfl⟩
  have ne:Dt.beq (lD b) (lD a)=false:=Dt.beq_false.mpr fun e=>n.1 (e ▸ hbl)
  have lt:=h.1 _ hbl
  show Dt.blt (.tup [lD b,.str (colOf kk b).c]) (.tup [lD a,.str (colOf kk a).c])=false
  simp only [Dt.blt,Dt.blts]
  rw [if_neg (by rw [ne]; decide)]
  exact lt
theorem pd_at {H:Hp} {vs:List V} {ps:List Pl} (h:DtsIs H vs (ps.map pD)) {i:Nat} {v:V} (e:vs[i]?=some v):∃ a,ps[i]?=some a∧DtIs H v (pD a):=by
 obtain ⟨d,ed,dv⟩:=h.at i v e
 rw [List.getElem?_map] at ed
 cases hp:ps[i]? with
 | none=>rw [hp] at ed; cases ed
 | some a=>rw [hp] at ed; cases ed; exact ⟨a,rfl,dv⟩
theorem dts_drop {H:Hp}:∀ (n:Nat) {ds:List Dt} {vs:List V},DtsIs H vs ds→DtsIs H (vs.drop n) (ds.drop n)
 | 0,_,_,h=>h
 | _ + 1,_,_,.nil=>.nil
 | n + 1,_,_,.cons _ t=>dts_drop n t
theorem dts_take {H:Hp}:∀ (n:Nat) {ds:List Dt} {vs:List V},DtsIs H vs ds→DtsIs H (vs.take n) (ds.take n)
 | 0,_,_,_=>.nil
 | _ + 1,_,_,.nil=>.nil
 | n + 1,_,_,.cons a t=>.cons a (dts_take n t)
theorem cut_pd {H:Hp} {vs:List V} {qs:List Pl} (lo hi:Option Int) (d:DtsIs H vs (qs.map pD)):∃ rs:List Pl,DtsIs H (cutV vs lo hi) (rs.map pD)∧rs.length≤qs.length∧(∀ p∈rs,p∈qs)∧(cutV vs lo hi).length=rs.length:=by
 refine ⟨(qs.drop (HT.sIx vs.length 0 lo)).take (HT.sIx vs.length vs.length hi - HT.sIx vs.length 0 lo),?_,by rw [List.length_take,List.length_drop]; omega,fun p h=>List.mem_of_mem_drop (List.mem_of_mem_take h),?_⟩
 ·unfold cutV
  rw [List.map_take,List.map_drop]
  exact dts_take _ (dts_drop _ d)
 ·have l:vs.length=qs.length:=by rw [d.length,List.length_map]
  unfold cutV
  simp only [List.length_take,List.length_drop,l]
open PySem.Builtin PySem.Builtin.Str in
theorem slice_le (x:Str) (l u:Option Int):(Txt.slice x l u).length≤x.length:=by
 unfold Txt.slice
 split
 ·exact Nat.le_refl _
 ·show (List.toArray _).size≤_
  rw [List.size_toArray]
  exact Nat.le_trans (List.length_filterMap_le _ _) (sliceIndices_le _ _ _)
section
variable {P:Program} {w:World} {K:PySem.W.Frag} {mg:Str→Option Value} {base:Heap}
def spOneN (K:PySem.W.Frag):Sp:=fun vs H Q _=>∃ (a:Addr) (ns:List Int) (st:Nat),vs=[.ref a,.int st]∧SqL K H a (ns.map V.int)∧st≤63∧∀ m:Int,Q (.int m) H
theorem scOneN:FnScope ["_law_script","_law_start","_law_number"] ["_law_script","_law_start"] (defScope sOneN):=⟨rfl,rfl,rfl,by decide +kernel,rfl,by decide +kernel,by decide +kernel⟩
theorem ok_oneN {f fC fF:Addr} {fd fdC fdF:FuncData} (D:Df K mg "_law_one" sOneN f fd) (DC:Df K mg "_law_cell_at" sCell fC fdC) (bC:Binds K fdC ["_law_script","_law_k"] []) (GC:FnOk P w K mg base CX0 1 fC fdC ["_law_script","_law_k"] (spCell K))
  (DF:Df K mg "_law_filled" sFill fF fdF) (bF:Binds K fdF ["_law_script","_law_k","_law_number"] []) (GF:FnOk P w K mg base CX0 3 fF fdF ["_law_script","_law_k","_law_number"] (spFill K)) (habs:mg "abs"=none) (hint:mg "int"=none):FnOk P w K mg base CX0 4 f fd ["_law_script","_law_start"] (spOneN K):=by
 refine D.F.ok scOneN (fun vs H Q E h=>?_) (fun cdv A outer s H vs Q E hr h=>?_)
 ·obtain ⟨a,ns,st,rfl,_⟩:=h
  rfl
 ·obtain ⟨a,ns,st,rfl,hS,hst,z⟩:=h
  have hr1:Room 1 _:=hr.mono (by decide)
  refine ⟨_,(pss_cons (ps_set (i:=2) scOneN.nd rfl (Or.inl rfl) (pe_op op_mul (pe_callB call_abs (by rfl) habs boot_abs (pac (pec GC hr1 rfl DC.m DC.F.kp bC .nil pass0 (pac (pv 0) (pac (pv 1) pa_nil))) pa_nil)) (pe_callTy call_int1 (by rfl) hint boot_int (pac (pe_cmpR op_eq (pe_op op_mod (pec GC hr1 rfl DC.m DC.F.kp bC .nil pass0 (pac (pv 0) (pac (pe_int) pa_nil))) pe_int) pe_int (nomark _)) pa_nil))))
   (pss_one (ps_ret (pec GF hr rfl DF.m DF.F.kp bF .nil pass0 (pac (pv 0) (pac (pe_op op_mul pe_int (pv 1)) (pac (pv 2) pa_nil))))))),?_⟩
  refine ⟨_,rfl,_,rfl,a,ns,st,rfl,hS,fun c1=>⟨_,rfl,_,rfl,a,ns,0,rfl,hS,fun c0=>⟨_,_,rfl,rfl,(by show (0:Int) < _; decide),rfl,.inr ⟨_,rfl,_,_,rfl,rfl,cmulR (by split <;> decide) (by split <;> decide),?_⟩⟩⟩⟩
  refine' laterS (fun σ H1=>∃ le:Int,σ=[some (.ref a),some (.int st),some (.int le)]∧H1=H) (fun fin=>_) _
  rotate_left
  ·exact fin _ _ ⟨_,rfl,rfl⟩
  rintro σ H1 ⟨le,rfl,rfl⟩
  refine ⟨_,rfl,_,rfl,_,_,rfl,rfl,cmulR (by omega) (by omega),_,rfl,a,ns,64 * st,le,?_,hS,by omega,fun m=>z m⟩
  show [V.ref a,V.int (64 * (st:Int)),_]=_
  rw [show 64 * (st:Int)=((64 * st:Nat):Int) by omega]
def spOth:Sp:=fun vs H Q _=>∃ (a:Addr) (ps:List Pl) (n:Int),vs=[.ref a,.int n]∧Pic H a ps∧ps.length≤12∧(∀ p∈ps,p.c.length≤8)∧∀ l qs H',Same H H'→Pic H' l qs→(∀ q∈qs,q.ok)→Rise qs→(qs.map lD).Nodup→qs.length≤30→Q (.ref l) H'
def othI (H:Hp) (a:Addr) (n kd at_:Int) (σ:L2.St) (H1:Hp):Prop:=∃ (M:Addr) (os:List Pl) (v5:Option V),σ=[some (.ref a),some (.int n),some (.ref M),some (.int kd),some (.int at_),v5,none,none,none]∧Same H H1∧Pic H1 M os∧os.length≤30∧∀ p∈os,p.ok
theorem scOth:FnScope ["_law_pairs_here","_law_number","_law_other_here","_law_kind","_law_at","_law_one_here","_law_found","_law_ends","_law_colour_here"] ["_law_pairs_here","_law_number"] (defScope sOth):=⟨rfl,rfl,rfl,by decide +kernel,rfl,by decide +kernel,by decide +kernel⟩
theorem ok_oth {f fI:Addr} {fd fdI:FuncData} (D:Df K mg "_law_other" sOth f fd) (DI:Df K mg "_law_turned" sLTurned fI fdI) (bI:Binds K fdI ["_law_pairs_here","_law_number"] []) (GI:FnOk P w K mg base CX0 2 fI fdI ["_law_pairs_here","_law_number"] (spTurned K))
  (hlen:mg "len"=none) (hmax:mg "max"=none) (hsorted:mg "sorted"=none):FnOk P w K mg base CX0 3 f fd ["_law_pairs_here","_law_number"] spOth:=by
 refine D.F.ok scOth (fun vs H Q E h=>?_) (fun cdv A outer s H vs Q E hr h=>?_)
 ·obtain ⟨a,ps,n,rfl,_⟩:=h
  rfl
 ·obtain ⟨a,ps,n,rfl,hp,pl,c8,z⟩:=h
  have hr1:Room 1 _:=hr.mono (by decide)
  refine ⟨_,(pss_cons (ps_set (i:=2) scOth.nd rfl (Or.inl rfl) (pec GI hr rfl DI.m DI.F.kp bI .nil pass0 (pac (pv 0) (pac (pe_op op_mod (pv 1) pe_int) pa_nil))))
   (pss_cons (ps_set (i:=3) scOth.nd rfl (Or.inl rfl) (pe_op op_mod (pe_op op_fdiv (pv 1) pe_int) pe_int))
   (pss_cons (ps_set (i:=4) scOth.nd rfl (Or.inl rfl) (pe_op op_mod (pe_op op_fdiv (pv 1) pe_int) (pe_callB (call_max2 rfl) (by rfl) hmax boot_max (pac (pe_int) (pac (pe_callB call_len_seq (by rfl) hlen PySem.boot_len (pac (pv 2) pa_nil)) pa_nil)))))
   (pss_cons (ps_if (pt_cmpR op_eq (pv 3) pe_int (nomark _)) (pss_one (ps_set (i:=2) scOth.nd rfl (Or.inl rfl) (pe_op op_cat (pe_slice sl_list (pv 2) po_none (po_some (pv 4))) (pe_slice sl_list (pv 2) (po_some (pe_op op_add (pv 4) pe_int)) po_none)))) pss_nil)
   (pss_cons (ps_if (PW.pt (pw_and (pt_cmpR op_eq (pv 3) pe_int (nomark _)) (pw_and1 (pt_cmpR (op_neL hr1) (pv 2) (pe_lst pa_nil) (nomark _))))) (pss_one (ps_set (i:=2) scOth.nd rfl (Or.inl rfl) (pe_op op_cat (pe_op op_cat (pe_slice sl_list (pv 2) po_none (po_some (pv 4))) (pe_lst (pac (pe_tup (pac (pe_ix ix_tup (pe_ix ix_list (pv 2) (pv 4) (fun _ _=>rfl)) pe_int (fun _ _=>rfl)) (pac (pe_op op_add_str (pe_slice sl_str (pe_ix ix_tup (pe_ix ix_list (pv 2) (pv 4) (fun _ _=>rfl)) pe_int (fun _ _=>rfl)) po_none (po_some pe_int)) pe_str) pa_nil))) pa_nil))) (pe_slice sl_list (pv 2) (po_some (pe_op op_add (pv 4) pe_int)) po_none)))) pss_nil)
   (pss_cons (ps_if (pt_cmpR op_eq (pv 3) pe_int (nomark _)) (pss_one (ps_set (i:=2) scOth.nd rfl (Or.inl rfl) (pe_op op_cat (pv 2) (pe_lst (pac (pe_tup (pac (pe_tup (pac (pe_tup (pac (pe_int) (pac (pe_int) pa_nil))) (pac (pe_tup (pac (pe_int) (pac (pe_int) pa_nil))) pa_nil))) (pac (pe_str) pa_nil))) pa_nil))))) pss_nil)
   (pss_cons (ps_if (PW.pt (pw_and (pt_cmpR op_eq (pv 3) pe_int (nomark _)) (pw_and1 (pt_cmpR (op_neL hr1) (pv 2) (pe_lst pa_nil) (nomark _))))) (pss_cons (ps_set (i:=5) scOth.nd rfl (Or.inl rfl) (pe_ix ix_tup (pe_ix ix_tup (pe_ix ix_list (pv 2) (pv 4) (fun _ _=>rfl)) pe_int (fun _ _=>rfl)) pe_int (fun _ _=>rfl)))
   (pss_one (ps_set (i:=2) scOth.nd rfl (Or.inl rfl) (pe_op op_cat (pe_op op_cat (pe_slice sl_list (pv 2) po_none (po_some (pv 4))) (pe_slice sl_list (pv 2) (po_some (pe_op op_add (pv 4) pe_int)) po_none)) (pe_lst (pac (pe_tup (pac (pe_tup (pac (pv 5) (pac (pe_tup (pac (pe_op op_add (pe_ix ix_tup (pv 5) pe_int (fun _ _=>rfl)) pe_int) (pac (pe_op op_add (pe_ix ix_tup (pv 5) pe_int (fun _ _=>rfl)) pe_int) pa_nil))) pa_nil))) (pac (pe_ix ix_tup (pe_ix ix_list (pv 2) (pv 4) (fun _ _=>rfl)) pe_int (fun _ _=>rfl)) pa_nil))) pa_nil)))))) pss_nil)
   (pss_cons (ps_set (i:=6) scOth.nd rfl (Or.inr rfl) pe_dnewD)
   (pss_cons (ps_for PassesOwn.never rfl (pi_list (pv 2)) (pg_tup rfl (pgs_cons (pg_name (i:=7) scOth.nd rfl (Or.inl rfl)) (pgs_cons (pg_name (i:=8) scOth.nd rfl (Or.inl rfl)) pgs_nil))) (pss_cons (ps_set (i:=5) scOth.nd rfl (Or.inl rfl) (pe_tup (pac (pe_op op_sub (pe_op op_add (pe_ix ix_tup (pe_ix ix_tup (pv 7) pe_int (fun _ _=>rfl)) pe_int (fun _ _=>rfl)) (pe_op op_mod (pe_op op_fdiv (pv 1) pe_int) pe_int)) pe_int) (pac (pe_op op_sub (pe_op op_add (pe_ix ix_tup (pe_ix ix_tup (pv 7) pe_int (fun _ _=>rfl)) pe_int (fun _ _=>rfl)) (pe_op op_mod (pe_op op_fdiv (pv 1) pe_int) pe_int)) pe_int) pa_nil))))
   (pss_one (ps_dputD hr1 (pv 6) (pe_tup (pac (pv 5) (pac (pe_tup (pac (pe_op op_sub (pe_op op_add (pe_ix ix_tup (pv 5) pe_int (fun _ _=>rfl)) (pe_ix ix_tup (pe_ix ix_tup (pv 7) pe_int (fun _ _=>rfl)) pe_int (fun _ _=>rfl))) (pe_ix ix_tup (pe_ix ix_tup (pv 7) pe_int (fun _ _=>rfl)) pe_int (fun _ _=>rfl))) (pac (pe_op op_sub (pe_op op_add (pe_ix ix_tup (pv 5) pe_int (fun _ _=>rfl)) (pe_ix ix_tup (pe_ix ix_tup (pv 7) pe_int (fun _ _=>rfl)) pe_int (fun _ _=>rfl))) (pe_ix ix_tup (pe_ix ix_tup (pv 7) pe_int (fun _ _=>rfl)) pe_int (fun _ _=>rfl))) pa_nil))) pa_nil))) (pv 8) rfl))))
   (pss_one (ps_ret (pe_comp (tt:=tYes) (te:=tTup (tCons (tVar 0) (tCons (tDGetD P w (tVar 1) (tVar 0)) tNil))) (N':=["_law_ends","_law_found"]) (idx:=[none,some 6]) (compOk_of (by kernel_rfl)) (by kernel_rfl) rfl (pi_list (pe_callB (call_sortedD hr) (by rfl) hsorted boot_sorted (pac (pv 6) pa_nil)))
     (fun _ _ _ _ _=>pg_name (i:=0) (show (["_law_ends","_law_found"]:List Str).Nodup by decide +kernel) rfl (Or.inl rfl)) (fun _ _ _ _ _=>pts_nil)
     (fun _ _ _ _ _=>pe_tup (pac (pv 0) (pac (pe_dgetD hr1 (pv 1) (pv 0) (fun _ _=>rfl)) pa_nil))))))))))))))),?_⟩
  obtain ⟨k,hk⟩:=Int.eq_ofNat_of_zero_le (Int.emod_nonneg n (show (8:Int)≠0 by decide))
  refine ⟨_,rfl,_,rfl,_,_,rfl,rfl,(by show (0:Int) < 8; decide),a,ps,k,?_,hp,by omega,by omega,fun M qs H1 S1 _ hM perm rise=>?_⟩
  ·show [V.ref a,V.int (n % 8)]=_
   rw [hk]
  have hT:TurnOf k ps qs:=⟨perm_pics perm,rise⟩
  have ql:qs.length=ps.length:=by rw [hT.1.length_eq,List.length_map]
  have qok:∀ q∈qs,q.ok:=fun q hq=>by
   obtain ⟨b,_,rfl⟩:=List.mem_map.mp (hT.1.mem_iff.mp hq)
   exact turnP_ok k b
  have qc:∀ q∈qs,q.c.length≤8:=fun q hq=>by
   obtain ⟨b,hb,rfl⟩:=List.mem_map.mp (hT.1.mem_iff.mp hq)
   have:(turnP k b).c=b.c:=by unfold turnP; split <;> rfl
   rw [this]
   exact c8 b hb
  obtain ⟨xs,eM,dM⟩:=id hM
  have xl:xs.length=qs.length:=by rw [dM.length,List.length_map]
  have mp:(0:Int) < (if ((xs.length:Nat):Int) > 1 then ((xs.length:Nat):Int) else 1):=by split <;> omega
  have at0:=Int.emod_nonneg (n / 64) (Int.ne_of_gt mp)
  have at1:=Int.emod_lt_of_pos (n / 64) mp
  refine ⟨_,rfl,_,_,rfl,rfl,⟨by decide,by decide⟩,_,_,rfl,rfl,(by show (0:Int) < 8; decide),?_⟩
  refine ⟨_,rfl,_,_,rfl,rfl,⟨by decide,by decide⟩,_,rfl,M,xs,rfl,.inl (SqL.of eM),_,_,rfl,_,_,rfl,rfl,mp,?_⟩
  have dp50:∀ d∈qs.map pD,d.dp≤50:=fun d hd=>Nat.le_trans (pics_dp qs d hd) (by decide)
  refine' laterS (othI H a n (n / 8 % 8) (n / 64 % (if ((xs.length:Nat):Int) > 1 then ((xs.length:Nat):Int) else 1))) (fun fin=>_) _
  rotate_left
  ·have pick:qs≠[]→∃ (r x:Addr) (b:Pl),b∈qs∧atI xs (n / 64 % (if ((xs.length:Nat):Int) > 1 then ((xs.length:Nat):Int) else 1))=some (.ref r)∧H1 r=some (.tup [.ref x,.str b.c])∧DtIs H1 (.ref x) (lD b):=fun ne=>by
    have pos:0 < qs.length:=List.length_pos_iff.mpr ne
    obtain ⟨v,hv,hm⟩:=atI_of (xs:=xs) (m:=n / 64 % (if ((xs.length:Nat):Int) > 1 then ((xs.length:Nat):Int) else 1)) at0 (by split at at1 <;> omega)
    obtain ⟨j,hj⟩:=List.getElem?_of_mem hm
    obtain ⟨b,hb,db⟩:=pd_at dM hj
    obtain ⟨r,x,rfl,er,hl⟩:=pic_at db
    exact ⟨r,x,b,List.mem_of_getElem? hb,hv,er,hl⟩
   by_cases h0:n / 8 % 8=0
   ·refine ⟨_,rfl,rfl,_,rfl,ifI_pos h0 ?_⟩
    refine ⟨_,rfl,_,rfl,_,rfl,M,xs,rfl,SqL.of eM,fun C nC=>?_⟩
    obtain ⟨r1,d1,l1,s1,e1⟩:=cut_pd none (some (n / 64 % (if ((xs.length:Nat):Int) > 1 then ((xs.length:Nat):Int) else 1))) dM
    obtain ⟨r2,d2,l2,s2,e2⟩:=cut_pd (some (n / 64 % (if ((xs.length:Nat):Int) > 1 then ((xs.length:Nat):Int) else 1) + 1)) none dM
    have TC:=same_upd (o:=HO.lst (cutV xs none (some (n / 64 % (if ((xs.length:Nat):Int) > 1 then ((xs.length:Nat):Int) else 1))))) nC
    refine ⟨_,rfl,_,rfl,_,_,rfl,rfl,_,rfl,M,xs,rfl,SqL.of (TC _ _ eM),fun D nD=>?_⟩
    have TD:=same_upd (o:=HO.lst (cutV xs (some (n / 64 % (if ((xs.length:Nat):Int) > 1 then ((xs.length:Nat):Int) else 1) + 1)) none)) nD
    refine ⟨C,D,_,_,rfl,rfl,TD _ _ upd_same,upd_same,sz (Nat.le_trans (Nat.add_le_add (Nat.le_of_eq e1) (Nat.le_of_eq e2)) (by omega)),fun G nG=>?_⟩
    have TG:=same_upd (o:=HO.lst (cutV xs none (some (n / 64 % (if ((xs.length:Nat):Int) > 1 then ((xs.length:Nat):Int) else 1))) ++ cutV xs (some (n / 64 % (if ((xs.length:Nat):Int) > 1 then ((xs.length:Nat):Int) else 1) + 1)) none)) nG
    have T:=TC.trans (TD.trans TG)
    refine ⟨_,rfl,rfl,_,rfl,ifI_neg (by omega) (iteF ⟨_,rfl,rfl,_,rfl,ifI_neg (by omega) ⟨_,rfl,rfl,_,rfl,ifI_neg (by omega) (iteF (fin _ _ ⟨G,r1 ++ r2,_,rfl,S1.trans T,⟨_,upd_same,?_⟩,by rw [List.length_append]; omega,fun p h=>?_⟩))⟩⟩)⟩
    ·rw [List.map_append]
     exact (d1.same T).app (d2.same T)
    ·rcases List.mem_append.mp h with h | h
     ·exact qok p (s1 p h)
     ·exact qok p (s2 p h)
   refine ⟨_,rfl,rfl,_,rfl,ifI_neg h0 ?_⟩
   by_cases h1:n / 8 % 8=1
   ·refine ⟨_,rfl,rfl,_,rfl,ifI_pos h1 ⟨_,rfl,szr rfl,fun u nu=>?_⟩⟩
    have Tu:=same_upd (o:=HO.lst []) nu
    refine ⟨M,u,_,_,_,_,rfl,rfl,SqL.of (Tu _ _ eM),SqL.of upd_same,dM.same Tu,.nil,dp50,_,rfl,?_⟩
    by_cases hq:qs=[]
    ·refine ifB_neg (by rw [hq]; rfl) ⟨_,rfl,rfl,_,rfl,ifI_neg (by omega) ⟨_,rfl,rfl,_,rfl,ifI_neg (by omega) (iteF (fin _ _ ⟨M,qs,_,rfl,S1.trans Tu,hM.same Tu,by omega,qok⟩))⟩⟩
    refine ifB_pos (by cases qs with
     | nil=>exact absurd rfl hq
     | cons=>rfl) ?_
    obtain ⟨r,x,b,hb,hv,er,hl⟩:=pick hq
    have eM':=Tu _ _ eM
    refine ⟨_,rfl,_,rfl,_,rfl,M,xs,rfl,SqL.of eM',fun C nC=>?_⟩
    obtain ⟨r1,d1,l1,s1,e1⟩:=cut_pd none (some (n / 64 % (if ((xs.length:Nat):Int) > 1 then ((xs.length:Nat):Int) else 1))) (dM.same Tu)
    obtain ⟨r2,d2,l2,s2,e2⟩:=cut_pd (some (n / 64 % (if ((xs.length:Nat):Int) > 1 then ((xs.length:Nat):Int) else 1) + 1)) none (dM.same Tu)
    have TC:=same_upd (o:=HO.lst (cutV xs none (some (n / 64 % (if ((xs.length:Nat):Int) > 1 then ((xs.length:Nat):Int) else 1))))) nC
    have eMC:=TC _ _ eM'
    have erC:=TC _ _ (Tu _ _ er)
    have bc:=qc b hb
    have sl:=slice_le b.c none (some 7)
    refine ⟨_,rfl,_,rfl,M,_,_,_,rfl,rfl,SqL.of eMC,hv,r,_,_,_,rfl,rfl,SqT.of erC,rfl,_,rfl,_,rfl,M,_,_,_,rfl,rfl,SqL.of eMC,hv,r,_,_,_,rfl,rfl,SqT.of erC,rfl,_,rfl,b.c,rfl,by rw [sizeLine_eq]; omega,_,_,rfl,rfl,by rw [sizeLine_eq]; show _ + 1≤_; omega,szr rfl,fun t nt=>⟨szr rfl,fun g ng=>?_⟩⟩
    have Tt:=same_upd (o:=HO.tup [V.ref x,.str (Txt.slice b.c none (some 7) ++ "y")]) nt
    have Tg:=same_upd (o:=HO.lst [V.ref t]) ng
    refine ⟨C,g,_,_,rfl,rfl,Tg _ _ (Tt _ _ upd_same),upd_same,sz (Nat.le_trans (Nat.add_le_add (Nat.le_of_eq e1) (Nat.le_refl 1)) (by omega)),fun G nG=>?_⟩
    have TG:=same_upd (o:=HO.lst (cutV xs none (some (n / 64 % (if ((xs.length:Nat):Int) > 1 then ((xs.length:Nat):Int) else 1))) ++ [V.ref t])) nG
    have T1:=TC.trans (Tt.trans (Tg.trans TG))
    refine ⟨_,rfl,_,rfl,_,_,rfl,rfl,_,rfl,M,xs,rfl,SqL.of (T1 _ _ eM'),fun D nD=>?_⟩
    have TD:=same_upd (o:=HO.lst (cutV xs (some (n / 64 % (if ((xs.length:Nat):Int) > 1 then ((xs.length:Nat):Int) else 1) + 1)) none)) nD
    refine ⟨G,D,_,_,rfl,rfl,TD _ _ upd_same,upd_same,sz (by rw [List.length_append]; exact Nat.le_trans (Nat.add_le_add (Nat.add_le_add (Nat.le_of_eq e1) (Nat.le_refl 1)) (Nat.le_of_eq e2)) (by omega)),fun W nW=>?_⟩
    have TW:=same_upd (o:=HO.lst ((cutV xs none (some (n / 64 % (if ((xs.length:Nat):Int) > 1 then ((xs.length:Nat):Int) else 1))) ++ [V.ref t]) ++ cutV xs (some (n / 64 % (if ((xs.length:Nat):Int) > 1 then ((xs.length:Nat):Int) else 1) + 1)) none)) nW
    have T2:=T1.trans (TD.trans TW)
    refine ⟨_,rfl,rfl,_,rfl,ifI_neg (by omega) ⟨_,rfl,rfl,_,rfl,ifI_neg (by omega) (iteF (fin _ _ ⟨W,(r1 ++ [⟨b.p,b.q,Txt.slice b.c none (some 7) ++ "y"⟩]) ++ r2,_,rfl,(S1.trans Tu).trans T2,⟨_,upd_same,?_⟩,?_,fun p h=>?_⟩))⟩⟩
    ·rw [List.map_append,List.map_append]
     exact ((d1.same T2).snoc (.tup (TW _ _ (TD _ _ (TG _ _ (Tg _ _ upd_same)))) (.cons ((hl.same Tu).same T2) (.cons (.str _) .nil)))).app (d2.same T2)
    ·rw [List.length_append,List.length_append]
     show _ + 1 + _≤_
     omega
    ·rcases List.mem_append.mp h with h | h
     ·rcases List.mem_append.mp h with h | h
      ·exact qok p (s1 p h)
      ·rw [List.mem_singleton.mp h]
       exact qok b hb
     ·exact qok p (s2 p h)
   refine ⟨_,rfl,rfl,_,rfl,ifI_neg h1 (iteF ?_)⟩
   by_cases h2:n / 8 % 8=2
   ·refine ⟨_,rfl,rfl,_,rfl,ifI_pos h2 ⟨_,rfl,szr rfl,fun t1 n1=>⟨szr rfl,fun t2 n2=>⟨szr rfl,fun t3 n3=>⟨szr rfl,fun t4 n4=>⟨szr rfl,fun g ng=>?_⟩⟩⟩⟩⟩⟩
    have T1:=same_upd (o:=HO.tup [V.int 40,.int 0]) n1
    have T2:=same_upd (o:=HO.tup [V.int 41,.int 0]) n2
    have T3:=same_upd (o:=HO.tup [V.ref t1,.ref t2]) n3
    have T4:=same_upd (o:=HO.tup [V.ref t3,.str "a"]) n4
    have Tg:=same_upd (o:=HO.lst [V.ref t4]) ng
    have T:=T1.trans (T2.trans (T3.trans (T4.trans Tg)))
    refine ⟨M,g,xs,_,rfl,rfl,T _ _ eM,upd_same,sz (by show xs.length + 1≤_; omega),fun W nW=>?_⟩
    have TW:=same_upd (o:=HO.lst (xs ++ [V.ref t4])) nW
    have T':=T.trans TW
    refine ⟨_,rfl,rfl,_,rfl,ifI_neg (by omega) (iteF (fin _ _ ⟨W,qs ++ [⟨(40,0),(41,0),"a"⟩],_,rfl,S1.trans T',⟨_,upd_same,?_⟩,by rw [List.length_append]; show _ + 1≤_; omega,fun p h=>?_⟩))⟩
    ·rw [List.map_append]
     have u1:two (upd (upd (upd (upd (upd (upd H1 t1 (.tup [V.int 40,.int 0])) t2 (.tup [V.int 41,.int 0])) t3 (.tup [V.ref t1,.ref t2])) t4 (.tup [V.ref t3,.str "a"])) g (.lst [V.ref t4])) W (.lst (xs ++ [V.ref t4]))) t1 (40,0):=(T2.trans (T3.trans (T4.trans (Tg.trans TW)))) _ _ upd_same
     have u2:two (upd (upd (upd (upd (upd (upd H1 t1 (.tup [V.int 40,.int 0])) t2 (.tup [V.int 41,.int 0])) t3 (.tup [V.ref t1,.ref t2])) t4 (.tup [V.ref t3,.str "a"])) g (.lst [V.ref t4])) W (.lst (xs ++ [V.ref t4]))) t2 (41,0):=(T3.trans (T4.trans (Tg.trans TW))) _ _ upd_same
     exact (dM.same T').snoc (.tup ((Tg.trans TW) _ _ upd_same) (.cons (.tup ((T4.trans (Tg.trans TW)) _ _ upd_same) (.cons (two_dt u1) (.cons (two_dt u2) .nil))) (.cons (.str _) .nil)))
    ·rcases List.mem_append.mp h with h | h
     ·exact qok p h
     ·rw [List.mem_singleton.mp h]
      show hLt (41,0) (40,0)=false
      decide
   refine ⟨_,rfl,rfl,_,rfl,ifI_neg h2 ?_⟩
   by_cases h3:n / 8 % 8=3
   rotate_left
   ·exact ⟨_,rfl,rfl,_,rfl,ifI_neg h3 (iteF (fin _ _ ⟨M,qs,_,rfl,S1,hM,by omega,qok⟩))⟩
   refine ⟨_,rfl,rfl,_,rfl,ifI_pos h3 ⟨_,rfl,szr rfl,fun u nu=>?_⟩⟩
   have Tu:=same_upd (o:=HO.lst []) nu
   refine ⟨M,u,_,_,_,_,rfl,rfl,SqL.of (Tu _ _ eM),SqL.of upd_same,dM.same Tu,.nil,dp50,_,rfl,?_⟩
   by_cases hq:qs=[]
   ·exact ifB_neg (by rw [hq]; rfl) (fin _ _ ⟨M,qs,_,rfl,S1.trans Tu,hM.same Tu,by omega,qok⟩)
   refine ifB_pos (by cases qs with
    | nil=>exact absurd rfl hq
    | cons=>rfl) ?_
   obtain ⟨r,x,b,hb,hv,er,hl⟩:=pick hq
   have eM':=Tu _ _ eM
   have er':=Tu _ _ er
   obtain ⟨hx,hy,ex,tx,ty⟩:=line_two (hl.same Tu)
   refine ⟨_,rfl,_,rfl,M,_,_,_,rfl,rfl,SqL.of eM',hv,r,_,_,_,rfl,rfl,SqT.of er',rfl,x,_,_,_,rfl,rfl,SqT.of ex,rfl,?_⟩
   refine ⟨_,rfl,_,rfl,_,rfl,M,xs,rfl,SqL.of eM',fun C nC=>?_⟩
   obtain ⟨r1,d1,l1,s1,e1⟩:=cut_pd none (some (n / 64 % (if ((xs.length:Nat):Int) > 1 then ((xs.length:Nat):Int) else 1))) (dM.same Tu)
   obtain ⟨r2,d2,l2,s2,e2⟩:=cut_pd (some (n / 64 % (if ((xs.length:Nat):Int) > 1 then ((xs.length:Nat):Int) else 1) + 1)) none (dM.same Tu)
   have TC:=same_upd (o:=HO.lst (cutV xs none (some (n / 64 % (if ((xs.length:Nat):Int) > 1 then ((xs.length:Nat):Int) else 1))))) nC
   refine ⟨_,rfl,_,rfl,_,_,rfl,rfl,_,rfl,M,xs,rfl,SqL.of (TC _ _ eM'),fun D nD=>?_⟩
   have TD:=same_upd (o:=HO.lst (cutV xs (some (n / 64 % (if ((xs.length:Nat):Int) > 1 then ((xs.length:Nat):Int) else 1) + 1)) none)) nD
   refine ⟨C,D,_,_,rfl,rfl,TD _ _ upd_same,upd_same,sz (Nat.le_trans (Nat.add_le_add (Nat.le_of_eq e1) (Nat.le_of_eq e2)) (by omega)),fun G nG=>?_⟩
   have TG:=same_upd (o:=HO.lst (cutV xs none (some (n / 64 % (if ((xs.length:Nat):Int) > 1 then ((xs.length:Nat):Int) else 1))) ++ cutV xs (some (n / 64 % (if ((xs.length:Nat):Int) > 1 then ((xs.length:Nat):Int) else 1) + 1)) none)) nG
   have T1:=TC.trans (TD.trans TG)
   have tx1:=T1 _ _ tx
   refine ⟨_,rfl,_,rfl,hx,_,_,_,rfl,rfl,SqT.of tx1,rfl,_,_,rfl,rfl,_,rfl,hx,_,_,_,rfl,rfl,SqT.of tx1,rfl,_,_,rfl,rfl,szr rfl,fun t2 n2=>⟨szr rfl,fun t3 n3=>?_⟩⟩
   have T2:=same_upd (o:=HO.tup [V.int (b.p.1 + 9),.int (b.p.2 + 1)]) n2
   have T3:=same_upd (o:=HO.tup [V.ref hx,.ref t2]) n3
   have T13:=T1.trans (T2.trans T3)
   refine ⟨_,rfl,_,rfl,M,_,_,_,rfl,rfl,SqL.of (T13 _ _ eM'),hv,r,_,_,_,rfl,rfl,SqT.of (T13 _ _ er'),rfl,szr rfl,fun t4 n4=>⟨szr rfl,fun g ng=>?_⟩⟩
   have T4:=same_upd (o:=HO.tup [V.ref t3,.str b.c]) n4
   have Tg:=same_upd (o:=HO.lst [V.ref t4]) ng
   refine ⟨G,g,_,_,rfl,rfl,(T2.trans (T3.trans (T4.trans Tg))) _ _ upd_same,upd_same,sz (by rw [List.length_append]; exact Nat.le_trans (Nat.add_le_add (Nat.add_le_add (Nat.le_of_eq e1) (Nat.le_of_eq e2)) (Nat.le_refl 1)) (by omega)),fun W nW=>?_⟩
   have TW:=same_upd (o:=HO.lst ((cutV xs none (some (n / 64 % (if ((xs.length:Nat):Int) > 1 then ((xs.length:Nat):Int) else 1))) ++ cutV xs (some (n / 64 % (if ((xs.length:Nat):Int) > 1 then ((xs.length:Nat):Int) else 1) + 1)) none) ++ [V.ref t4])) nW
   have T':=T13.trans (T4.trans (Tg.trans TW))
   refine fin _ _ ⟨W,(r1 ++ r2) ++ [⟨b.p,(b.p.1 + 9,b.p.2 + 1),b.c⟩],_,rfl,(S1.trans Tu).trans T',⟨_,upd_same,?_⟩,?_,fun p h=>?_⟩
   ·rw [List.map_append,List.map_append]
    refine ((d1.same T').app (d2.same T')).snoc (.tup ((Tg.trans TW) _ _ upd_same) (.cons (.tup ((T4.trans (Tg.trans TW)) _ _ upd_same) (.cons (two_dt (T' _ _ tx)) (.cons ?_ .nil))) (.cons (.str _) .nil)))
    exact two_dt (p:=(b.p.1 + 9,b.p.2 + 1)) ((T3.trans (T4.trans (Tg.trans TW))) _ _ upd_same)
   ·rw [List.length_append,List.length_append]
    show _ + _ + 1≤_
    omega
   ·rcases List.mem_append.mp h with h | h
    ·rcases List.mem_append.mp h with h | h
     ·exact qok p (s1 p h)
     ·exact qok p (s2 p h)
    ·rw [List.mem_singleton.mp h]
     show hLt (b.p.1 + 9,b.p.2 + 1) b.p=false
     cases hh:hLt (b.p.1 + 9,b.p.2 + 1) b.p with
     | false=>rfl
     | true =>
      have:=(hLt_iff _ _).mp hh
      simp only at this
      omega
  generalize (n / 64 % (if ((xs.length:Nat):Int) > 1 then ((xs.length:Nat):Int) else 1))=at_
  generalize n / 8 % 8=kd
  clear at0 at1 mp dp50 xl eM dM hM qc qok ql hT perm rise
  rintro σ H2 ⟨M',os,v5,rfl,S2,pM,lM,okM⟩
  obtain ⟨ms,eM,dM⟩:=id pM
  have msl:ms.length=os.length:=by rw [dM.length,List.length_map]
  refine fun dI oI nI dd=>?_
  have TI:=same_upd (o:=oI) nI
  have nI0:=none_same S2 nI
  have keepX:∀ {H':Hp} {dd b:Addr} {kvs:List (Dt×V)} {o:HO} {v:HO},DicV P w H' dd kvs→H' b=some v→(∀ φ,v≠.ext φ)→(upd H' dd o) b=some v:=fun {H' dd b kvs o v} dd' hb hv=>by
   obtain ⟨φ,ee⟩:=dd'.ext
   rw [upd_ne (fun e=>by rw [e,ee] at hb; exact hv φ (Option.some.inj hb).symm)]
   exact hb
  refine ⟨_,rfl,M',rfl,⟨_,SqL.of (TI _ _ eM)⟩,?_⟩
  refine for_list (K:=K) (a:=M') (xs:=ms) (fun i σ H3=>(∃ v5 v7 v8,σ=[some (.ref a),some (.int n),some (.ref M'),some (.int kd),some (.int at_),v5,some (.ref dI),v7,v8])∧Same H H3∧H3 M'=some (.lst ms)∧DtsIs H3 ms (os.map pD)∧∃ kvs,DicV P w H3 dI kvs∧LdK kvs∧StK kvs∧(kvs.map (·.1)).Nodup∧kvs.length≤i)
   ⟨⟨_,_,_,rfl⟩,S2.trans TI,TI _ _ eM,dM.same TI,[],dd,(fun _ h=>nomatch h),.nil,.nil,Nat.le_refl _⟩ (fun i σ H3 _ ⟨_,_,e,_⟩=>SqL.of e) ?_ ?_
  ·rintro i y σ H3 hy' ⟨⟨v5,v7,v8,rfl⟩,S3,e3,d3,kvs,dic,lk,sk,nd,kn⟩
   have hi:i < ms.length:=(List.getElem?_eq_some_iff.mp hy').1
   obtain ⟨b,hb,dy⟩:=pd_at d3 hy'
   have bok:=okM b (List.mem_of_getElem? hb)
   obtain ⟨t,xb,rfl,et,hl⟩:=pic_at dy
   obtain ⟨hx,hy,exb,tx,ty⟩:=line_two hl
   refine ⟨t,_,rfl,SqT.of et,rfl,_,_,rfl,_,_,rfl,rfl,?_⟩
   refine ⟨_,rfl,xb,_,_,_,rfl,rfl,SqT.of exb,rfl,hx,_,_,_,rfl,rfl,SqT.of tx,rfl,_,rfl,_,_,rfl,rfl,⟨by decide,by decide⟩,_,_,rfl,rfl,(by show (0:Int) < 601; decide),_,_,rfl,rfl,_,_,rfl,rfl,?_⟩
   refine ⟨_,rfl,xb,_,_,_,rfl,rfl,SqT.of exb,rfl,hx,_,_,_,rfl,rfl,SqT.of tx,rfl,_,rfl,_,_,rfl,rfl,⟨by decide,by decide⟩,_,_,rfl,rfl,(by show (0:Int) < 601; decide),_,_,rfl,rfl,_,_,rfl,rfl,szr rfl,fun o no=>?_⟩
   have To:=same_upd (o:=HO.tup [V.int (b.p.1 + n / 512 % 601 - 300),.int (b.p.2 + n / 307712 % 601 - 300)]) no
   have eo:two (upd H3 o (.tup [V.int (b.p.1 + n / 512 % 601 - 300),.int (b.p.2 + n / 307712 % 601 - 300)])) o (b.p.1 + n / 512 % 601 - 300,b.p.2 + n / 307712 % 601 - 300):=upd_same
   have dic2:=dic.same To
   have e32:=To _ _ e3
   have d32:=d3.same To
   have exb2:=To _ _ exb
   have tx2:=To _ _ tx
   have ty2:=To _ _ ty
   have S32:=S3.trans To
   revert eo dic2 e32 d32 exb2 tx2 ty2 S32
   generalize (upd H3 o (.tup [V.int (b.p.1 + n / 512 % 601 - 300),.int (b.p.2 + n / 307712 % 601 - 300)]))=H4
   generalize hu:b.p.1 + n / 512 % 601 - 300=u1
   generalize hv:b.p.2 + n / 307712 % 601 - 300=u2
   intro eo dic2 e32 d32 exb2 tx2 ty2 S32
   refine ⟨_,rfl,_,rfl,_,rfl,?_⟩
   refine ⟨_,rfl,o,_,_,_,rfl,rfl,SqT.of eo,rfl,_,rfl,xb,_,_,_,rfl,rfl,SqT.of exb2,rfl,hy,_,_,_,rfl,rfl,SqT.of ty2,rfl,_,_,rfl,rfl,_,rfl,xb,_,_,_,rfl,rfl,SqT.of exb2,rfl,hx,_,_,_,rfl,rfl,SqT.of tx2,rfl,_,_,rfl,rfl,?_⟩
   refine ⟨_,rfl,o,_,_,_,rfl,rfl,SqT.of eo,rfl,_,rfl,xb,_,_,_,rfl,rfl,SqT.of exb2,rfl,hy,_,_,_,rfl,rfl,SqT.of ty2,rfl,_,_,rfl,rfl,_,rfl,xb,_,_,_,rfl,rfl,SqT.of exb2,rfl,hx,_,_,_,rfl,rfl,SqT.of tx2,rfl,_,_,rfl,rfl,szr rfl,fun w1 m1=>⟨szr rfl,fun kt mk=>?_⟩⟩
   have T1:=same_upd (o:=HO.tup [V.int (u1 + b.q.1 - b.p.1),.int (u2 + b.q.2 - b.p.2)]) m1
   have T2:=same_upd (o:=HO.tup [V.ref o,.ref w1]) mk
   have T12:=T1.trans T2
   have dk:DtIs (upd (upd H4 w1 (.tup [V.int (u1 + b.q.1 - b.p.1),.int (u2 + b.q.2 - b.p.2)])) kt (.tup [V.ref o,.ref w1])) (.ref kt) (lD ⟨(u1,u2),(u1 + b.q.1 - b.p.1,u2 + b.q.2 - b.p.2),""⟩) :=
    .tup upd_same (.cons (two_dt (T12 _ _ eo)) (.cons (two_dt (p:=(u1 + b.q.1 - b.p.1,u2 + b.q.2 - b.p.2)) (T2 _ _ upd_same)) .nil))
   have kok:(⟨(u1,u2),(u1 + b.q.1 - b.p.1,u2 + b.q.2 - b.p.2),""⟩:Pl).ok:=by
    show hLt (u1 + b.q.1 - b.p.1,u2 + b.q.2 - b.p.2) (u1,u2)=false
    cases hh:hLt (u1 + b.q.1 - b.p.1,u2 + b.q.2 - b.p.2) (u1,u2) with
    | false=>rfl
    | true =>
     have h1:=(hLt_iff _ _).mp hh
     simp only at h1
     have h2:hLt b.q b.p=true:=(hLt_iff _ _).mpr (by omega)
     have h3:hLt b.q b.p=false:=bok
     rw [h3] at h2
     cases h2
   refine ⟨dI,kt,_,kvs,rfl,rfl,dk,by rw [lD_dp]; decide,dic2.same T12,by omega,fun o' dic'=>?_⟩
   obtain ⟨φ,ee⟩:=(dic2.same T12).ext
   exact ⟨⟨_,_,_,rfl⟩,same_updN (S32.trans T12) nI0,keepX (dic2.same T12) (T12 _ _ e32) (fun _ zz=>nomatch zz),(d32.same T12).updX ee,_,dic',lk.put kok _,sk.put _ _,putK_nd _ _ _ nd,Nat.le_trans (putK_len _ _ _) (by omega)⟩
  ·rintro σ H7 ⟨⟨v5,v7,v8,rfl⟩,S7,_,_,kvs,dic,lk,sk,nd,kn⟩
   refine ⟨_,rfl,dI,kvs,"tuple",rfl,dic,fun p hp=>?_,fun p hp p' hp'=>?_,fun l zs es nl dz pe srt=>?_⟩
   ·obtain ⟨b,hb,_⟩:=lk p hp
    exact ⟨_,_,hb,rfl⟩
   ·obtain ⟨b,hb,_⟩:=lk p hp
    obtain ⟨b',hb',_⟩:=lk p' hp'
    rw [hb,hb']
    exact lD_like b b'
   obtain ⟨ls,rfl,hls⟩:=as_lD (es:=es) fun d hd=>by
    obtain ⟨p,hp,rfl⟩:=List.mem_map.mp (pe.mem_iff.mp hd)
    exact lk p hp
   have lsl:ls.length=kvs.length:=by
    have:=pe.length_eq
    rw [List.length_map,List.length_map] at this
    exact this
   have lnd:(ls.map lD).Nodup:=pe.nodup_iff.mpr nd
   have zl:zs.length=ls.length:=by rw [dz.length,List.length_map]
   have T:=same_upd (o:=HO.lst zs) nl
   have ez:(upd H7 l (.lst zs)) l=some (.lst zs):=upd_same
   have dz2:=dz.same T
   have dk2:=dic.same T
   have S72:=S7.trans T
   revert ez dz2 dk2 S72
   generalize (upd H7 l (.lst zs))=H9
   intro ez dz2 dk2 S72
   refine ⟨l,rfl,⟨_,SqL.of ez⟩,fun M nM=>?_⟩
   refine comp_n (J:=Itl K l) (n:=zs.length) (fun j σ3 H10=>(∃ v0,σ3=[v0,some (.ref dI)])∧Same H9 H10∧Pic H10 M ((ls.take j).map (colOf kvs))) ?_ ?_ ?_ ?_
   ·exact ⟨⟨_,rfl⟩,same_upd nM,[],upd_same,.nil⟩
   ·rintro j σ3 H10 hj ⟨⟨v1,rfl⟩,S10,_⟩
    exact ⟨zs,_,SqL.of (S10 _ _ ez),List.getElem?_eq_getElem hj⟩
   ·rintro σ3 H10 ⟨⟨v1,rfl⟩,S10,hM⟩
    rw [List.take_of_length_le (by omega)] at hM
    refine ⟨⟨zs,SqL.of (S10 _ _ ez),Nat.le_refl _⟩,z M _ H10 (S72.trans S10) hM (fun p hp=>?_) (rise_of srt lnd) ?_ (by rw [List.length_map]; omega)⟩
    ·obtain ⟨b,hb,rfl⟩:=List.mem_map.mp hp
     exact hls b hb
    ·rw [List.map_map]
     exact lnd
   ·rintro j σ3 H10 hj ⟨⟨v1,rfl⟩,S10,us,eM,dM⟩ y H11 ⟨e11,hy⟩
    have hy:=hy zs (SqL.of (S10 _ _ ez))
    rw [e11]
    obtain ⟨d,ed,dy⟩:=(dz2.same S10).at j y hy
    rw [List.getElem?_map] at ed
    cases ha:ls[j]? with
    | none=>rw [ha] at ed; cases ed
    | some an =>
     rw [ha] at ed
     cases ed
     have hmem:lD an∈kvs.map (·.1):=pe.mem_iff.mp (List.mem_map.mpr ⟨an,List.mem_of_getElem? ha,rfl⟩)
     obtain ⟨r',rfl⟩:=line_at dy
     refine ⟨_,rfl,_,rfl,_,rfl,dI,r',lD an,kvs,_,rfl,rfl,dy,by rw [lD_dp]; decide,dk2.same S10,col_val sk hmem,szr rfl,fun q nq=>?_⟩
     have Tq:=same_upd (o:=HO.tup [V.ref r',.str (colOf kvs an).c]) nq
     have eM2:=Tq _ _ eM
     have ul:us.length=j:=by
      rw [dM.length,List.length_map,List.length_map,List.length_take]
      omega
     refine ⟨_,eM2,small1000 (by omega),⟨_,rfl⟩,same_updN (S10.trans Tq) nM,_,upd_same,?_⟩
     rw [List.take_add_one,ha,List.map_append,List.map_append]
     refine DtsIs.snoc ?_ ((dM.same Tq).updL eM2)
     have dd2:DtIs (upd H10 q (HO.tup [V.ref r',.str (colOf kvs an).c])) (.ref q) (pD (colOf kvs an)):=.tup upd_same (.cons (dy.same Tq) (.cons (.str _) .nil))
     exact dd2.updL eM2
end
theorem comp_lin {K:PySem.W.Frag} {F L:Addr} {fv:List V} {qs:List Pl} {H:Hp} {σ:L2.St} {Q:VK} {idx:List (Option Nat)} (eF:H F=some (.lst fv)) (dF:DtsIs H fv (qs.map pD)) (ll:qs.length≤250) (nL:H L=none) (hσ:pick idx σ=[none,none])
  (z:∀ ys H',Same H H'→H' L=some (.lst ys)→DtsIs H' ys (qs.map lD)→Q (.ref L) H'):CompW (Itl K F) idx (gTup K 2 (gCons (gName 0) (gCons (gName 1) gNil))) tYes (tVar 0) σ H L Q:=by
 have fvl:fv.length=qs.length:=by rw [dF.length,List.length_map]
 refine comp_n (J:=Itl K F) (n:=fv.length) (fun i σ2 H2=>(∃ v0 v1,σ2=[v0,v1])∧Same H H2∧∃ ys,H2 L=some (.lst ys)∧DtsIs H2 ys ((qs.take i).map lD)) ?_ ?_ ?_ ?_
 ·exact ⟨⟨_,_,hσ⟩,same_upd nL,[],upd_same,.nil⟩
 ·rintro i σ2 H2 hi ⟨⟨v0,v1,rfl⟩,S2,_⟩
  exact ⟨fv,_,SqL.of (S2 _ _ eF),List.getElem?_eq_getElem hi⟩
 ·rintro σ2 H2 ⟨⟨v0,v1,rfl⟩,S2,ys,eL,dL⟩
  rw [List.take_of_length_le (by omega)] at dL
  exact ⟨⟨fv,SqL.of (S2 _ _ eF),Nat.le_refl _⟩,z ys H2 S2 eL dL⟩
 ·rintro i σ2 H2 hi ⟨⟨v0,v1,rfl⟩,S2,ys,eL,dL⟩ x H3 ⟨rfl,hx⟩
  have hx:=hx fv (SqL.of (S2 _ _ eF))
  obtain ⟨a,ha,da⟩:=pd_at (dF.same S2) hx
  obtain ⟨r,xl,rfl,er,hl⟩:=pic_at da
  have yl:ys.length≤250:=by rw [dL.length,List.length_map,List.length_take]; omega
  refine ⟨r,_,rfl,SqT.of er,rfl,_,_,rfl,_,_,rfl,rfl,_,rfl,ys,eL,small1000 (by omega),⟨_,_,rfl⟩,same_updN S2 nL,_,upd_same,?_⟩
  rw [List.take_add_one,ha,List.map_append]
  exact (dL.updL eL).snoc (hl.updL eL)
theorem ex_ls:∀ l:List Dt,∃ ls:List Dt,ls.Nodup∧(∀ d,d∈ls↔d∈l)∧ls.length≤l.length
 | []=>⟨[],List.nodup_nil,fun _=>Iff.rfl,Nat.le_refl _⟩
 | a :: l=>by
  obtain ⟨ls,nd,m,ll⟩:=ex_ls l
  by_cases h:a∈l
  ·refine ⟨ls,nd,fun d=>?_,Nat.le_succ_of_le ll⟩
   rw [m,List.mem_cons]
   exact ⟨.inr,fun z=>z.elim (fun e=>e ▸ h) id⟩
  ·refine ⟨a :: ls,List.nodup_cons.mpr ⟨fun z=>h ((m a).mp z),nd⟩,fun d=>?_,Nat.succ_le_succ ll⟩
   rw [List.mem_cons,List.mem_cons,m]
def kV (ks:List Nat):List V:=ks.map fun (k:Nat)=>V.int (k:Int)
def kD (ks:List Nat):List Dt:=ks.map fun (k:Nat)=>Dt.int (k:Int)
theorem ints_dts {H:Hp}:∀ ks:List Nat,DtsIs H (kV ks) (kD ks)
 | []=>.nil
 | k :: ks=>.cons (.int _) (ints_dts ks)
theorem kD_50 (ks:List Nat):∀ d∈kD ks,d.dp≤50:=fun d hd=>by
 obtain ⟨k,_,rfl⟩:=List.mem_map.mp hd
 simp [Dt.dp]
theorem kD_mem {ks:List Nat} {d:Dt}:d∈kD ks↔∃ k∈ks,d=Dt.int (k:Int):=by
 unfold kD
 rw [List.mem_map]
 exact ⟨fun ⟨k,h,e⟩=>⟨k,h,e.symm⟩,fun ⟨k,h,e⟩=>⟨k,h,e.symm⟩⟩
def wy (f:Nat→Bool):List Nat:=(List.range 8).filter f
theorem wy_mem {f:Nat→Bool} {k:Nat}:k∈wy f↔k < 8∧f k=true:=by
 unfold wy
 rw [List.mem_filter,List.mem_range]
theorem wy_len (f:Nat→Bool):(wy f).length≤8:=Nat.le_trans (List.length_filter_le _ _) (by simp)
theorem wy_eq {f g:Nat→Bool} (h:∀ k,k < 8→(f k=true↔g k=true)):wy f=wy g:=by
 unfold wy
 refine List.filter_congr fun k hk=>?_
 have:=h k (List.mem_range.mp hk)
 cases h1:f k <;> cases h2:g k <;> simp_all
theorem wy_lt (f:Nat→Bool):(wy f).Pairwise (· < ·):=List.pairwise_lt_range.sublist List.filter_sublist
theorem wy_nd (f:Nat→Bool):(kD (wy f)).Nodup:=List.pairwise_map.mpr ((wy_lt f).imp fun {a b} h e=>by
 have:=Dt.int.inj e
 omega)
theorem wy_rise (f:Nat→Bool):(kD (wy f)).Pairwise (fun d d'=>Dt.blt d' d=false):=List.pairwise_map.mpr ((wy_lt f).imp fun {a b} h=>by
 simp only [Dt.blt]
 exact decide_eq_false (by omega))
theorem pics_50' (ps:List Pl):∀ d∈ps.map pD,d.dp≤50:=fun d hd=>Nat.le_trans (pics_dp ps d hd) (by decide)
section
variable {P:Program} {w:World} {K:PySem.W.Frag} {mg:Str→Option Value} {base:Heap} {c1 c2:Addr}
theorem comp_col {F L:Addr} {ms:List Int} {H:Hp} {σ:L2.St} {E:XK} {Q:VK} {idx:List (Option Nat)} (eF:H F=some (.lst (ms.map V.int))) (ml:ms.length≤100) (nL:H L=none) (hσ:pick idx σ=[none])
  (z:∀ (ss:List Str) H',Same H H'→H' L=some (.lst (ss.map V.str))→ss.length=ms.length→(∀ s∈ss,s.length≤8)→Q (.ref L) H'):CompW (Itl K F) idx (gName 0) tYes (tCall spColr [] E (tCons (tVar 0) tNil)) σ H L Q:=by
 refine comp_n (J:=Itl K F) (n:=(ms.map V.int).length) (fun i σ2 H2=>(∃ v0,σ2=[v0])∧Same H H2∧∃ ss:List Str,H2 L=some (.lst (ss.map V.str))∧ss.length=i∧∀ s∈ss,s.length≤8) ?_ ?_ ?_ ?_
 ·exact ⟨⟨_,hσ⟩,same_upd nL,[],upd_same,rfl,fun _ h=>(nomatch h)⟩
 ·rintro i σ2 H2 hi ⟨⟨v0,rfl⟩,S2,_⟩
  exact ⟨_,_,SqL.of (S2 _ _ eF),List.getElem?_eq_getElem hi⟩
 ·rintro σ2 H2 ⟨⟨v0,rfl⟩,S2,ss,eL,sl,s8⟩
  exact ⟨⟨_,SqL.of (S2 _ _ eF),Nat.le_refl _⟩,z ss H2 S2 eL (by rw [sl,List.length_map]) s8⟩
 ·rintro i σ2 H2 hi ⟨⟨v0,rfl⟩,S2,ss,eL,sl,s8⟩ x H3 ⟨rfl,hx⟩
  have hx:=hx _ (SqL.of (S2 _ _ eF))
  obtain ⟨n,_,rfl⟩:=List.mem_map.mp (List.mem_of_getElem? hx)
  rw [List.length_map] at hi
  refine ⟨_,rfl,n,rfl,fun s s1 s8'=>⟨_,eL,small1000 (by rw [List.length_map]; omega),⟨_,rfl⟩,same_updN S2 nL,ss ++ [s],?_,by rw [List.length_append,sl]; rfl,fun t ht=>?_⟩⟩
  ·rw [upd_same,List.map_append]; rfl
  ·rcases List.mem_append.mp ht with h | h
   ·exact s8 t h
   ·rw [List.mem_singleton.mp h]; exact s8'
theorem passF {X:Cx}:Passes (CXE X.prog X.w) X (fun _ _ _=>False):=fun _ _ _ _ _ _ _ h=>by
 obtain ⟨_,_,_,_,_,_,_,_,e⟩:=h
 exact e.elim
theorem comp_four {F L:Addr} {ms:List Int} {H:Hp} {σ:L2.St} {Q:VK} {idx:List (Option Nat)} (eF:H F=some (.lst (ms.map V.int))) (ml:ms.length≤100) (nL:H L=none) (hσ:pick idx σ=[none])
  (z:∀ (rs:List Int) H',Same H H'→H' L=some (.lst (rs.map V.int))→rs.length=ms.length→Q (.ref L) H'):CompW (Itl K F) idx (gName 0) tYes (tOp (rI CMul fun i j=>.int (i * j)) (tOp (rI CDiv fun i j=>.int (i / j)) (tVar 0) (tC (.int 4))) (tC (.int 4))) σ H L Q:=by
 refine comp_n (J:=Itl K F) (n:=(ms.map V.int).length) (fun i σ2 H2=>(∃ v0,σ2=[v0])∧Same H H2∧∃ rs:List Int,H2 L=some (.lst (rs.map V.int))∧rs.length=i) ?_ ?_ ?_ ?_
 ·exact ⟨⟨_,hσ⟩,same_upd nL,[],upd_same,rfl⟩
 ·rintro i σ2 H2 hi ⟨⟨v0,rfl⟩,S2,_⟩
  exact ⟨_,_,SqL.of (S2 _ _ eF),List.getElem?_eq_getElem hi⟩
 ·rintro σ2 H2 ⟨⟨v0,rfl⟩,S2,rs,eL,rl⟩
  exact ⟨⟨_,SqL.of (S2 _ _ eF),Nat.le_refl _⟩,z rs H2 S2 eL (by rw [rl,List.length_map])⟩
 ·rintro i σ2 H2 hi ⟨⟨v0,rfl⟩,S2,rs,eL,rl⟩ x H3 ⟨rfl,hx⟩
  have hx:=hx _ (SqL.of (S2 _ _ eF))
  obtain ⟨n,_,rfl⟩:=List.mem_map.mp (List.mem_of_getElem? hx)
  rw [List.length_map] at hi
  refine ⟨_,rfl,_,_,rfl,rfl,⟨by decide,by decide⟩,_,_,rfl,rfl,cmulR (by decide) (by decide),_,eL,small1000 (by rw [List.length_map]; omega),⟨_,rfl⟩,same_updN S2 nL,rs ++ [n / 4 * 4],?_,by rw [List.length_append,rl]; rfl⟩
  rw [upd_same,List.map_append]; rfl
theorem comp_due {a b L:Addr} {ps qs:List Pl} {H:Hp} {σ:L2.St} {E1 E2 E3:XK} {Q:VK} {idx:List (Option Nat)} (hp:Pic H a ps) (hq:Pic H b qs) (rq:Rise qs) (lp:ps.length≤100) (lq:qs.length≤100) (nL:H L=none) (hσ:pick idx σ=[none,some (.ref a),some (.ref b)])
  (z:∀ (f:Nat→Bool) H',Same H H'→(∀ k,k < 8→(f k=true↔Mv k ps qs))→H' L=some (.lst (kV (wy f)))→Q (.ref L) H') :
  CompW (Itr 0 8) idx (gName 0) (tTest (tOp (rEqL K) (tCall spHome [] E1 (tCons (tCall (spTurned K) [] E2 (tCons (tVar 1) (tCons (tVar 0) tNil))) tNil)) (tCall spHome [] E3 (tCons (tVar 2) tNil)))) (tVar 0) σ H L Q:=by
 let g:Nat→Bool:=fun n=>@decide (Mv n ps qs) (Classical.propDecidable _)
 have hg:∀ n,n < 8→(g n=true↔Mv n ps qs):=fun n _=>by
  show @decide (Mv n ps qs) (Classical.propDecidable _)=true↔_
  exact @decide_eq_true_iff _ (Classical.propDecidable _)
 refine comp_n (J:=Itr 0 8) (n:=8) (fun i σ2 H4=>(∃ v0,σ2=[v0,some (.ref a),some (.ref b)])∧Same H H4∧H4 L=some (.lst (alL g i))) ?_ (fun i σ2 H4 hi _=>hi) ?_ ?_
 ·exact ⟨⟨_,hσ⟩,same_upd nL,upd_same⟩
 ·rintro σ2 H4 ⟨⟨v0,rfl⟩,S4,e4⟩
  exact ⟨Nat.le_refl _,z g H4 S4 hg e4⟩
 ·rintro i σ2 H4 hi ⟨⟨v0,rfl⟩,S4,e4⟩ x H5 ⟨rfl,rfl⟩
  have ez:(0:Int) + (i:Int)=(i:Int):=Int.zero_add _
  refine ⟨_,rfl,_,rfl,a,ps,i,?_,hp.same S4,by omega,hi,fun l ts H6 S6 nl pt perm riset=>?_⟩
  ·show [V.ref a,V.int (0 + (i:Int))]=_; rw [ez]
  have hT:TurnOf i ps ts:=⟨perm_pics perm,riset⟩
  have lt:ts.length=ps.length:=by rw [hT.1.length_eq,List.length_map]
  refine ⟨l,ts,rfl,pt,by omega,fun h1 H7 S7 n1 p1=>?_⟩
  have S47:=S6.trans S7
  refine ⟨_,rfl,b,qs,rfl,(hq.same S4).same S47,by omega,fun h2 H8 S8 n2 p2=>?_⟩
  have S48:=S47.trans S8
  obtain ⟨us,eu,du⟩:=p1.same S8
  obtain ⟨vs,ev,dv⟩:=p2
  have e8:=S48 _ _ e4
  have gi:Dt.beqs ((homeP ts).map pD) ((homeP qs).map pD)=g i:=by
   have h1:Dt.beqs ((homeP ts).map pD) ((homeP qs).map pD)=true↔Mv i ps qs:=by
    rw [Dt.beqs_iff,← home_iff hT rq]
    exact ⟨map_pD_inj,fun e=>by rw [e]⟩
   have h2:=hg i hi
   cases z1:Dt.beqs ((homeP ts).map pD) ((homeP qs).map pD) <;> cases z2:g i
   ·rfl
   ·exact absurd (h1.mpr (h2.mp z2)) (by rw [z1]; decide)
   ·exact absurd (h2.mpr (h1.mp z1)) (by rw [z2]; decide)
   ·rfl
  have sc:=alL_succ g i
  have al:=alL_len g i
  refine ⟨h1,h2,_,_,_,_,rfl,rfl,SqL.of eu,SqL.of ev,du,dv,pics_50 _,_,rfl,?_⟩
  rw [gi]
  by_cases hc:g i=true
  ·rw [if_pos hc] at sc
   refine ifB_pos hc ⟨_,rfl,_,e8,small1000 (by omega),⟨_,rfl⟩,same_updN (S4.trans S48) nL,?_⟩
   rw [upd_same,sc,ez]
  ·rw [if_neg hc,List.append_nil] at sc
   refine ifB_neg (by simpa using hc) ⟨⟨_,rfl⟩,S4.trans S48,?_⟩
   rw [sc]
   exact e8
theorem comp_beh {F D L:Addr} {ks:List Nat} {dv:List V} {d0:Nat} {H:Hp} {σ:L2.St} {E:XK} {Q:VK} {idx:List (Option Nat)} (eF:H F=some (.lst (kV ks))) (k8:∀ k∈ks,k < 8) (kl:ks.length≤8) (eD:H D=some (.lst dv)) (h0:atI dv 0=some (.int (d0:Int))) (d8:d0 < 8) (nL:H L=none) (hσ:pick idx σ=[none,some (.ref D)])
  (z:∀ H',Same H H'→H' L=some (.lst (kV (ks.map fun k=>behN k d0)))→Q (.ref L) H'):CompW (Itl K F) idx (gName 0) tYes (tCall spBeh [] E (tCons (tVar 0) (tCons (tOp (rIxL K) (tVar 1) (tC (.int 0))) tNil))) σ H L Q:=by
 refine comp_n (J:=Itl K F) (n:=(kV ks).length) (fun i σ2 H2=>(∃ v0,σ2=[v0,some (.ref D)])∧Same H H2∧H2 L=some (.lst (kV ((ks.take i).map fun k=>behN k d0)))) ?_ ?_ ?_ ?_
 ·exact ⟨⟨_,hσ⟩,same_upd nL,upd_same⟩
 ·rintro i σ2 H2 hi ⟨⟨v0,rfl⟩,S2,_⟩
  exact ⟨_,_,SqL.of (S2 _ _ eF),List.getElem?_eq_getElem hi⟩
 ·rintro σ2 H2 ⟨⟨v0,rfl⟩,S2,eL⟩
  rw [List.take_of_length_le (by unfold kV; rw [List.length_map]; exact Nat.le_refl _)] at eL
  exact ⟨⟨_,SqL.of (S2 _ _ eF),Nat.le_refl _⟩,z H2 S2 eL⟩
 ·rintro i σ2 H2 hi ⟨⟨v0,rfl⟩,S2,eL⟩ x H3 ⟨rfl,hx⟩
  have hx:=hx _ (SqL.of (S2 _ _ eF))
  unfold kV at hx
  rw [List.getElem?_map] at hx
  cases hk:ks[i]? with
  | none=>rw [hk] at hx; cases hx
  | some k =>
   rw [hk] at hx
   cases hx
   have hkm:=List.mem_of_getElem? hk
   refine ⟨_,rfl,_,rfl,D,_,_,_,rfl,rfl,SqL.of (S2 _ _ eD),h0,k,d0,rfl,k8 k hkm,d8,_,eL,small1000 ?_,⟨_,rfl⟩,same_updN S2 nL,?_⟩
   ·unfold kV
    rw [List.length_map,List.length_map,List.length_take]
    omega
   ·rw [upd_same,List.take_add_one,hk]
    simp [kV]
def spTurns:Sp:=fun vs H Q _=>∃ (a b:Addr) (ps qs:List Pl),vs=[.ref a,.ref b]∧Pic H a ps∧Pic H b qs∧ps.length≤100∧qs.length≤100∧Rise qs∧∀ (l:Addr) (f:Nat→Bool) H',Same H H'→H l=none→(∀ k,k < 8→(f k=true↔Mv k ps qs))→H' l=some (.lst (kV (wy f)))→Q (.ref l) H'
theorem scTurns:FnScope ["_law_one_here","_law_other_here"] ["_law_one_here","_law_other_here"] (defScope sTurns):=⟨rfl,rfl,rfl,by decide +kernel,rfl,by decide +kernel,by decide +kernel⟩
theorem ok_turns {f fI fV:Addr} {fd fdI fdV:FuncData} (D:Df K mg "_law_turnings" sTurns f fd) (DI:Df K mg "_law_turned" sLTurned fI fdI) (bI:Binds K fdI ["_law_pairs_here","_law_number"] []) (GI:FnOk P w K mg base CX0 2 fI fdI ["_law_pairs_here","_law_number"] (spTurned K))
  (DV:Df K mg "_law_home" sLHome fV fdV) (bV:Binds K fdV ["_law_pairs_here"] []) (GV:FnOk P w K mg base CX0 1 fV fdV ["_law_pairs_here"] spHome) (hrange:mg "range"=none):FnOk P w K mg base CX0 3 f fd ["_law_one_here","_law_other_here"] spTurns:=by
 refine D.F.ok scTurns (fun vs H Q E h=>?_) (fun cdv A outer s H vs Q E hr h=>?_)
 ·obtain ⟨a,b,ps,qs,rfl,_⟩:=h
  rfl
 ·obtain ⟨a,b,ps,qs,rfl,hp,hq,lp,lq,rq,z⟩:=h
  have hr1:Room 1 _:=hr.mono (by decide)
  refine ⟨_,(pss_one (ps_ret (pe_comp (tt:=tTest (tOp (rEqL K) (tCall spHome [] _ (tCons (tCall (spTurned K) [] _ (tCons (tVar 1) (tCons (tVar 0) tNil))) tNil)) (tCall spHome [] _ (tCons (tVar 2) tNil)))) (te:=tVar 0) (N':=["_law_k","_law_one_here","_law_other_here"]) (idx:=[none,some 0,some 1]) (compOk_of (by kernel_rfl)) (by kernel_rfl) rfl (pi_range1 rfl hrange (pac (pe_int) pa_nil))
     (fun _ _ _ _ _=>pg_name (i:=0) (show (["_law_k","_law_one_here","_law_other_here"]:List Str).Nodup by decide +kernel) rfl (Or.inl rfl))
     (fun _ _ _ _ _=>pts_one (pt_cmpR (op_eqL hr1) (pec GV hr1 rfl DV.m DV.F.kp bV .nil pass0 (pac (pec GI hr rfl DI.m DI.F.kp bI .nil pass0 (pac (pv 1) (pac (pv 0) pa_nil))) pa_nil)) (pec GV hr1 rfl DV.m DV.F.kp bV .nil pass0 (pac (pv 2) pa_nil)) (nomark _)))
     (fun _ _ _ _ _=>pv 0)))),?_⟩
  refine ⟨_,rfl,by decide,by decide,fun L nL=>?_⟩
  exact comp_due hp hq rq lp lq nL rfl fun f H' S hf e=>z L f H' S nL hf e
end
structure Blt (mg:Str→Option Value):Prop where
 int:mg "int"=none
 len:mg "len"=none
 range:mg "range"=none
 abs:mg "abs"=none
 min:mg "min"=none
 max:mg "max"=none
 set:mg "set"=none
 sorted:mg "sorted"=none
 dict:mg "dict"=none
 enum:mg "enumerate"=none
 most:∃ t,mg "MOST_LINES"=some (.int 120 t)
 qua:∃ t,mg "QUARTERS"=some (.int 4 t)
 tur:∃ t,mg "TURNINGS"=some (.int 8 t)
structure Nam3 (mg:Str→Option Value) (c0 c1 c2:Addr):Prop where
 m0:mg "ClothError"=some (.ref c0)
 m1:mg "TwoColours"=some (.ref c1)
 m2:mg "TooMany"=some (.ref c2)
structure Kit3 (K:PySem.W.Frag) (c0 c1 c2 r:Addr) (j:Nat):Prop where
 x:XCls K r
 q:PySem.W.excIn K r [.type "ValueError",.type "Exception",.type "BaseException",.type "object"] "ValueError.__new__"=true
 ex:PySem.W.exmOne K (.ref r) (.ref c0)=some true
 v:PySem.W.kitOne K (.ref r) (.type "ValueError")=some true
 k1:PySem.W.kitOne K (.ref r) (.ref c1)=some (j == 0)
 k2:PySem.W.kitOne K (.ref r) (.ref c2)=some (j == 1)
section
variable {P:Program} {w:World} {K:PySem.W.Frag} {mg:Str→Option Value} {base:Heap} {c1 c2:Addr}
def spLaw (K:PySem.W.Frag):Sp:=fun vs H Q _=>∃ (a:Addr) (ns:List Int),vs=[.ref a]∧SqL K H a (ns.map V.int)∧ns.length≤63∧∀ H',Q (.bl true) H'
theorem scLaw:FnScope ["_law_script","_law_names","_law_pairs_here","_law_number","_law_other_here","_law_due","_law_own","_law_again","_law_ways","_law_apart","_law_both"] ["_law_script"] (defScope sLaw):=⟨rfl,rfl,rfl,by decide +kernel,rfl,by decide +kernel,by decide +kernel⟩
theorem ok_law {f fN fR fQ fU fO fT fF fM fK fA fB fL fJ:Addr} {fd fdN fdR fdQ fdU fdO fdT fdF fdM fdK fdA fdB fdL fdJ:FuncData} (D:Df K mg "law" sLaw f fd) (B:Blt mg)
  (DN:Df K mg "_law_numbers" sNumb fN fdN) (bN:Binds K fdN ["_law_script","_law_start","_law_most"] []) (GN:FnOk P w K mg base CX0 4 fN fdN ["_law_script","_law_start","_law_most"] (spNumb K))
  (DR:Df K mg "_law_colour" sColr fR fdR) (bR:Binds K fdR ["_law_number"] []) (GR:FnOk P w K mg base CX0 1 fR fdR ["_law_number"] spColr)
  (DQ:Df K mg "_law_pairs" sPairs fQ fdQ) (bQ:Binds K fdQ ["_law_numbers_here","_law_names"] []) (GQ:FnOk P w K mg base CX0 3 fQ fdQ ["_law_numbers_here","_law_names"] (spPairs K))
  (DU:Df K mg "_law_one" sOneN fU fdU) (bU:Binds K fdU ["_law_script","_law_start"] []) (GU:FnOk P w K mg base CX0 4 fU fdU ["_law_script","_law_start"] (spOneN K))
  (DO:Df K mg "_law_other" sOth fO fdO) (bO:Binds K fdO ["_law_pairs_here","_law_number"] []) (GO:FnOk P w K mg base CX0 3 fO fdO ["_law_pairs_here","_law_number"] spOth)
  (DT:Df K mg "_law_turnings" sTurns fT fdT) (bT:Binds K fdT ["_law_one_here","_law_other_here"] []) (GT:FnOk P w K mg base CX0 3 fT fdT ["_law_one_here","_law_other_here"] spTurns)
  (DF:Df K mg "form" sForm fF fdF) (bF:Binds K fdF ["one"] []) (GF:FnOk P w K mg base CX0 6 fF fdF ["one"] spForm)
  (DM:Df K mg "home" sHome fM fdM) (bM:Binds K fdM ["one"] []) (GM:FnOk P w K mg base CX0 4 fM fdM ["one"] spHome)
  (DK:Df K mg "turned" sTurned fK fdK) (bK:Binds K fdK ["one","way"] []) (GK:FnOk P w K mg base CX0 4 fK fdK ["one","way"] (spTurned K))
  (DA:Df K mg "alike_by" sAlike fA fdA) (bA:Binds K fdA ["one"] []) (GA:FnOk P w K mg base CX0 6 fA fdA ["one"] spAlike)
  (DB:Df K mg "behind" sBeh fB fdB) (bB:Binds K fdB ["first","second"] []) (GB:FnOk P w K mg base CX0 2 fB fdB ["first","second"] spBeh)
  (DL:Df K mg "less" sLess fL fdL) (bL:Binds K fdL ["one","other"] []) (GL:FnOk P w K mg base CX0 1 fL fdL ["one","other"] spLess)
  (DJ:Df K mg "joined" sJoin fJ fdJ) (bJ:Binds K fdJ ["one","other"] []) (GJ:FnOk P w K mg base (CXE P w) 2 fJ fdJ ["one","other"] (spJoin c1 c2)) :
  FnOk P w K mg base CX0 7 f fd ["_law_script"] (spLaw K):=by
 refine D.F.ok scLaw (fun vs H Q E h=>?_) (fun cdv Ar outer s H vs Q E hr h=>?_)
 ·obtain ⟨a,ns,rfl,_⟩:=h
  rfl
 ·obtain ⟨a,ns,rfl,hS,hlen,k⟩:=h
  have hr1:Room 1 _:=hr.mono (by decide)
  have hr2:Room 2 _:=hr.mono (by decide)
  have hr3:Room 3 _:=hr.mono (by decide)
  have hr4:Room 4 _:=hr.mono (by decide)
  refine ⟨_,(pss_cons (ps_set (i:=1) scLaw.nd rfl (Or.inl rfl) (pe_op op_cat (pe_comp (tt:=tYes) (N':=["_law_number"]) (idx:=[none]) (compOk_of (by kernel_rfl)) (by kernel_rfl) rfl (pi_list (pec GN hr4 rfl DN.m DN.F.kp bN .nil pass0 (pac (pv 0) (pac (pe_int) (pac (pe_int) pa_nil)))))
     (fun _ _ _ _ _=>pg_name (i:=0) (show (["_law_number"]:List Str).Nodup by decide +kernel) rfl (Or.inl rfl)) (fun _ _ _ _ _=>pts_nil) (fun _ _ _ _ _=>pec GR hr1 rfl DR.m DR.F.kp bR .nil pass0 (pac (pv 0) pa_nil))) (pe_lst (pac (pe_str) pa_nil))))
   (pss_cons (ps_set (i:=2) scLaw.nd rfl (Or.inr rfl) (pe_sortSet hr1 rfl B.sorted rfl B.set (pac (pec GQ hr3 rfl DQ.m DQ.F.kp bQ .nil pass0 (pac (pe_comp (tt:=tYes) (te:=tOp (rI CMul fun i j=>.int (i * j)) (tOp (rI CDiv fun i j=>.int (i / j)) (tVar 0) (tC (.int 4))) (tC (.int 4))) (N':=["_law_number"]) (idx:=[none]) (compOk_of (by kernel_rfl)) (by kernel_rfl) rfl (pi_list (pec GN hr4 rfl DN.m DN.F.kp bN .nil pass0 (pac (pv 0) (pac (pe_int) (pac (pe_int) pa_nil)))))
     (fun _ _ _ _ _=>pg_name (i:=0) (show (["_law_number"]:List Str).Nodup by decide +kernel) rfl (Or.inl rfl)) (fun _ _ _ _ _=>pts_nil) (fun _ _ _ _ _=>pe_op op_mul (pe_op op_fdiv (pv 0) pe_int) pe_int)) (pac (pv 1) pa_nil))) pa_nil)))
   (pss_cons (ps_set (i:=3) scLaw.nd rfl (Or.inl rfl) (pec GU hr4 rfl DU.m DU.F.kp bU .nil pass0 (pac (pv 0) (pac (pe_int) pa_nil))))
   (pss_cons (ps_set (i:=4) scLaw.nd rfl (Or.inr rfl) (pec GO hr3 rfl DO.m DO.F.kp bO .nil pass0 (pac (pv 2) (pac (pv 3) pa_nil))))
   (pss_cons (ps_set (i:=5) scLaw.nd rfl (Or.inr rfl) (pec GT hr3 rfl DT.m DT.F.kp bT .nil pass0 (pac (pv 2) (pac (pv 4) pa_nil))))
   (pss_cons (ps_if (pt_cmpR op_ne (pe_cmpR (op_eqL hr1) (pec GF hr rfl DF.m DF.F.kp bF .nil pass0 (pac (pv 2) pa_nil)) (pec GF hr rfl DF.m DF.F.kp bF .nil pass0 (pac (pv 4) pa_nil)) (nomark _)) (pe_cmpR (op_neL hr1) (pv 5) (pe_lst pa_nil) (nomark _)) (nomark _)) (pss_one (ps_ret pe_bl)) pss_nil)
   (pss_cons (ps_set (i:=6) scLaw.nd rfl (Or.inl rfl) (pec GF hr rfl DF.m DF.F.kp bF .nil pass0 (pac (pv 2) pa_nil)))
   (pss_cons (ps_set (i:=7) scLaw.nd rfl (Or.inl rfl) (pec GF hr rfl DF.m DF.F.kp bF .nil pass0 (pac (pv 6) pa_nil)))
   (pss_cons (ps_if (pt_cmpR (op_neL hr1) (pv 7) (pv 6) (nomark _)) (pss_one (ps_ret pe_bl)) pss_nil)
   (pss_cons (ps_expr (pe_bm PySem.F.plainAttrs_list PySem.F.slot_list_append PySem.F.type_list_append mt_append (pv 7) (pac (pe_non) pa_nil)))
   (pss_cons (ps_if (pt_cmpR (op_neL hr1) (pv 6) (pec GF hr rfl DF.m DF.F.kp bF .nil pass0 (pac (pv 2) pa_nil)) (nomark _)) (pss_one (ps_ret pe_bl)) pss_nil)
   (pss_cons (ps_if (pt_cmpR (op_neL hr1) (pe_comp (tt:=tTest (tOp (rEqL K) (tCall spHome [] _ (tCons (tCall (spTurned K) [] _ (tCons (tVar 1) (tCons (tVar 0) tNil))) tNil)) (tCall spHome [] _ (tCons (tVar 2) tNil)))) (te:=tVar 0) (N':=["_law_k","_law_pairs_here","_law_other_here"]) (idx:=[none,some 2,some 4]) (compOk_of (by kernel_rfl)) (by kernel_rfl) rfl (pi_range1 rfl B.range (pac (pe_int) pa_nil))
     (fun _ _ _ _ _=>pg_name (i:=0) (show (["_law_k","_law_pairs_here","_law_other_here"]:List Str).Nodup by decide +kernel) rfl (Or.inl rfl))
     (fun _ _ _ _ _=>pts_one (pt_cmpR (op_eqL hr1) (pec GM hr4 rfl DM.m DM.F.kp bM .nil pass0 (pac (pec GK hr4 rfl DK.m DK.F.kp bK .nil pass0 (pac (pv 1) (pac (pv 0) pa_nil))) pa_nil)) (pec GM hr4 rfl DM.m DM.F.kp bM .nil pass0 (pac (pv 2) pa_nil)) (nomark _)))
     (fun _ _ _ _ _=>pv 0)) (pv 5) (nomark _)) (pss_one (ps_ret pe_bl)) pss_nil)
   (pss_cons (ps_if (pt_cmpR (op_neL hr1) (pv 5) (pe_lst pa_nil) (nomark _)) (pss_cons (ps_set (i:=8) scLaw.nd rfl (Or.inl rfl) (pe_sortSetS hr1 rfl B.sorted rfl B.set (pac (pe_comp (tt:=tYes) (te:=tCall spBeh [] _ (tCons (tVar 0) (tCons (tOp (rIxL K) (tVar 1) (tC (.int 0))) tNil))) (N':=["_law_k","_law_due"]) (idx:=[none,some 5]) (compOk_of (by kernel_rfl)) (by kernel_rfl) rfl (pi_list (pec GA hr rfl DA.m DA.F.kp bA .nil pass0 (pac (pv 2) pa_nil)))
      (fun _ _ _ _ _=>pg_name (i:=0) (show (["_law_k","_law_due"]:List Str).Nodup by decide +kernel) rfl (Or.inl rfl)) (fun _ _ _ _ _=>pts_nil)
      (fun _ _ _ _ _=>pec GB hr2 rfl DB.m DB.F.kp bB .nil pass0 (pac (pv 0) (pac (pe_ix ix_list (pv 1) pe_int (fun _ _=>rfl)) pa_nil)))) pa_nil)))
   (pss_one (ps_if (pt_cmpR (op_neL hr1) (pv 8) (pv 5) (nomark _)) (pss_one (ps_ret pe_bl)) pss_nil))) pss_nil)
   (pss_cons (ps_set (i:=9) scLaw.nd rfl (Or.inl rfl) (pec GL hr1 rfl DL.m DL.F.kp bL .nil pass0 (pac (pv 4) (pac (pv 2) pa_nil))))
   (pss_cons (ps_set (i:=10) scLaw.nd rfl (Or.inl rfl) (pec GJ hr2 rfl DJ.m DJ.F.kp bJ .nil passF (pac (pv 2) (pac (pv 9) pa_nil))))
   (pss_cons (ps_if (pt_cmpR (op_neL hr1) (pe_sortSet hr1 rfl B.sorted rfl B.set (pac (pe_comp (g:=gTup K 2 (gCons (gName 0) (gCons (gName 1) gNil))) (tt:=tYes) (te:=tVar 0) (N':=["_law_ends","_law_colour_here"]) (idx:=[none,none]) (compOk_of (by kernel_rfl)) (by kernel_rfl) rfl (pi_list (pe_op op_cat (pv 2) (pv 4)))
      (fun _ _ _ _ _=>pg_tup (n:=2) rfl (pgs_cons (pg_name (i:=0) (show (["_law_ends","_law_colour_here"]:List Str).Nodup by decide +kernel) rfl (Or.inl rfl)) (pgs_cons (pg_name (i:=1) (show (["_law_ends","_law_colour_here"]:List Str).Nodup by decide +kernel) rfl (Or.inl rfl)) pgs_nil))) (fun _ _ _ _ _=>pts_nil) (fun _ _ _ _ _=>pv 0)) pa_nil))
     (pe_comp (g:=gTup K 2 (gCons (gName 0) (gCons (gName 1) gNil))) (tt:=tYes) (te:=tVar 0) (N':=["_law_ends","_law_colour_here"]) (idx:=[none,none]) (compOk_of (by kernel_rfl)) (by kernel_rfl) rfl (pi_list (pv 10))
      (fun _ _ _ _ _=>pg_tup (n:=2) rfl (pgs_cons (pg_name (i:=0) (show (["_law_ends","_law_colour_here"]:List Str).Nodup by decide +kernel) rfl (Or.inl rfl)) (pgs_cons (pg_name (i:=1) (show (["_law_ends","_law_colour_here"]:List Str).Nodup by decide +kernel) rfl (Or.inl rfl)) pgs_nil))) (fun _ _ _ _ _=>pts_nil) (fun _ _ _ _ _=>pv 0)) (nomark _)) (pss_one (ps_ret pe_bl)) pss_nil)
   (pss_one (ps_ret (pe_and (pe_cmpR (op_eqL hr1) (pec GL hr1 rfl DL.m DL.F.kp bL .nil pass0 (pac (pv 10) (pac (pv 9) pa_nil))) (pv 2) (nomark _)) (pe_one (pe_cmpR (op_eqL hr1) (pec GL hr1 rfl DL.m DL.F.kp bL .nil pass0 (pac (pv 10) (pac (pv 2) pa_nil))) (pv 9) (nomark _)))))))))))))))))))))),?_⟩
  refine ⟨_,rfl,a,ns,1,7,rfl,hS,by decide,by decide,fun l1 ms1 H1 S1 _ e1 ml1=>⟨l1,rfl,⟨_,SqL.of e1⟩,fun L nL=>?_⟩⟩
  refine comp_col e1 (by omega) nL rfl fun ss H2 S2 eL sl s8=>?_
  refine ⟨szr rfl,fun R nR=>?_⟩
  have TR:=same_upd (o:=HO.lst [V.str "red"]) nR
  refine ⟨L,R,_,_,rfl,rfl,TR _ _ eL,upd_same,sz (by rw [List.length_map]; show ss.length + 1≤_; omega),fun N0 nN=>?_⟩
  have TN:=same_upd (o:=HO.lst (ss.map V.str ++ [V.str "red"])) nN
  have S3:=(S1.trans S2).trans (TR.trans TN)
  have eN:(upd (upd H2 R (.lst [V.str "red"])) N0 (.lst (ss.map V.str ++ [V.str "red"]))) N0=some (.lst ((ss ++ [("red":Str)]).map V.str)):=by rw [upd_same,List.map_append]; rfl
  revert S3 eN
  generalize (upd (upd H2 R (.lst [V.str "red"])) N0 (.lst (ss.map V.str ++ [V.str "red"])))=H3
  intro S3 eN
  have nl:(ss ++ [("red":Str)]).length=ss.length + 1:=by rw [List.length_append]; rfl
  have n8:∀ x∈ss ++ [("red":Str)],x.length≤8:=fun x hx=>by
   rcases List.mem_append.mp hx with h | h
   ·exact s8 x h
   ·rw [List.mem_singleton.mp h]; decide
  revert nl n8 eN
  generalize (ss ++ [("red":Str)])=names
  intro eN nl n8
  refine ⟨_,rfl,a,ns,2,12,rfl,S3.seq hS,by decide,by decide,fun l2 ms0 H4 S4 _ e4 ml=>⟨l2,rfl,⟨_,SqL.of e4⟩,fun L2 nL2=>?_⟩⟩
  refine comp_four e4 (by omega) nL2 rfl fun ms H5 S5 e5 ml5=>?_
  refine ⟨_,rfl,L2,N0,ms,names,rfl,SqL.of e5,by omega,(S4.trans S5) _ _ eN,by omega,by omega,fun A0 ps0 H6 S6 _ pA0 pl pc pok pf=>?_⟩
  obtain ⟨xs0,eA0,dA0⟩:=id pA0
  have xl0:xs0.length=ps0.length:=by rw [dA0.length,List.length_map]
  have S36:=(S4.trans S5).trans S6
  refine ⟨A0,xs0,_,"tuple",rfl,SqL.of eA0,dA0,by omega,pics_tup _,pics_like _,fun d hd=>Nat.le_trans (pics_dp ps0 d hd) (by decide),fun A xs es nA dz ndz memz srt zl=>?_⟩
  have TA:=same_upd (o:=HO.lst xs) nA
  obtain ⟨ps,rfl⟩:=as_pD fun e he=>(memz e).mp he
  have pnd:ps.Nodup:=(List.pairwise_map.mp (show ((ps.map pD).Pairwise (·≠·)) from ndz)).imp fun n e=>n (by rw [e])
  have pm:∀ b,b∈ps↔b∈ps0:=fun b=>by
   constructor
   ·intro h
    obtain ⟨c,hc,e⟩:=List.mem_map.mp ((memz _).mp (List.mem_map.mpr ⟨b,h,rfl⟩))
    rw [← pD_inj e]; exact hc
   ·intro h
    obtain ⟨c,hc,e⟩:=List.mem_map.mp ((memz _).mpr (List.mem_map.mpr ⟨b,h,rfl⟩))
    rw [← pD_inj e]; exact hc
  have xl:xs.length=ps.length:=by rw [dz.length,List.length_map]
  have psl:ps.length≤12:=by
   have:ps.length≤ps0.length:=List.Nodup.length_le_of_subset pnd fun b h=>(pm b).mp h
   omega
  have okp:∀ b∈ps,b.ok:=fun b hb=>pok b ((pm b).mp hb)
  have c8:∀ b∈ps,b.c.length≤8:=fun b hb=>n8 _ (pc b ((pm b).mp hb))
  have onep:One ps:=fun b hb c hc e=>pl_eq' e (pf b ((pm b).mp hb) c ((pm c).mp hc) e)
  have risep:Rise ps:=srt
  have eA:(upd H6 A (.lst xs)) A=some (.lst xs):=upd_same
  have dA:DtsIs (upd H6 A (.lst xs)) xs (ps.map pD):=dz.same TA
  have S37:=S36.trans TA
  have S07:=S3.trans S37
  revert eA dA S07
  generalize (upd H6 A (.lst xs))=H7
  intro eA dA S07
  have pA:Pic H7 A ps:=⟨xs,eA,dA⟩
  refine ⟨_,rfl,a,ns,3,rfl,S07.seq hS,by decide,fun n=>?_⟩
  refine ⟨_,rfl,_,rfl,A,ps,n,rfl,pA,by omega,c8,fun Bq qs H8 S8 pB okq riseq ndq lq=>?_⟩
  refine ⟨_,rfl,_,rfl,A,Bq,ps,qs,rfl,pA.same S8,pB,by omega,by omega,riseq,fun Du ff H9 S9 _ hf eD=>?_⟩
  have pA:=(pA.same S8).same S9
  have pB:=pB.same S9
  have eA:=S9 _ _ (S8 _ _ eA)
  have dA:=(dA.same S8).same S9
  obtain ⟨ys,eB,dB⟩:=id pB
  have yl:ys.length=qs.length:=by rw [dB.length,List.length_map]
  clear S07 S37 TA S36 pA0 eA0 dA0 pm pc pok pf ndz memz dz nA e5 S5 S4 e4 eN S3
  have kl:=wy_len ff
  refine ⟨_,rfl,A,ps,rfl,pA,by omega,fun F1 d1 HA SA _ p1 f1=>⟨_,rfl,Bq,qs,rfl,pB.same SA,by omega,fun F2 d2 HB SB _ p2 f2=>?_⟩⟩
  obtain ⟨v1,g1,t1⟩:=p1.same SB
  obtain ⟨v2,g2,t2⟩:=p2
  refine ⟨F1,F2,_,_,_,_,rfl,rfl,SqL.of g1,SqL.of g2,t1,t2,pics_50' _,?_⟩
  have S9B:=SA.trans SB
  refine ⟨_,rfl,szr rfl,fun u nu=>?_⟩
  have Tu:=same_upd (o:=HO.lst []) nu
  refine ⟨Du,u,_,_,_,_,rfl,rfl,SqL.of ((S9B.trans Tu) _ _ eD),SqL.of upd_same,ints_dts _,.nil,kD_50 _,rfl,_,rfl,?_⟩
  have some_iff:wy ff≠[]↔∃ k,k < 8∧Mv k ps qs:=by
   constructor
   ·intro ne
    obtain ⟨k,hk⟩:=List.exists_mem_of_ne_nil _ ne
    obtain ⟨h8,hfk⟩:=wy_mem.mp hk
    exact ⟨k,h8,(hf k h8).mp hfk⟩
   ·rintro ⟨k,h8,mk⟩ e
    have:k∈wy ff:=wy_mem.mpr ⟨h8,(hf k h8).mpr mk⟩
    rw [e] at this
    cases this
  have nilb:Dt.beqs (kD (wy ff)) []=true↔wy ff=[]:=by
   rw [Dt.beqs_iff]
   unfold kD
   exact List.map_eq_nil_iff
  have key:Dt.beqs (d1.map pD) (d2.map pD)=!Dt.beqs (kD (wy ff)) []:=by
   have h1:Dt.beqs (d1.map pD) (d2.map pD)=true↔wy ff≠[]:=by
    rw [Dt.beqs_iff,some_iff]
    exact form_eq okq f1 f2
   cases z1:Dt.beqs (d1.map pD) (d2.map pD) <;> cases z2:Dt.beqs (kD (wy ff)) []
   ·exact absurd (h1.mpr fun e=>by rw [nilb.mpr e] at z2; cases z2) (by rw [z1]; decide)
   ·rfl
   ·rfl
   ·exact absurd (nilb.mp z2) (h1.mp z1)
  refine ifB_neg (by rw [key]; simp) ?_
  have S9C:=S9B.trans Tu
  refine ⟨_,rfl,A,ps,rfl,pA.same S9C,by omega,fun F3 d3 HD SD _ p3 f3=>?_⟩
  have l3:=form_len f3
  refine ⟨_,rfl,F3,d3,rfl,p3,by omega,fun F4 d4 HE SE n4 p4 f4=>?_⟩
  have l4:=form_len f4
  obtain ⟨v4,g4,t4⟩:=id p4
  obtain ⟨v3,g3,t3⟩:=id p3
  have q4:d4.map pD=d3.map pD:=by
   obtain ⟨i,hi,e,n',P1⟩:=form_mv f3
   exact form_uniq ⟨i,e,n',hi,P1⟩ f3 f4
  refine ⟨_,rfl,_,rfl,F4,F3,_,_,_,_,rfl,rfl,SqL.of g4,SqL.of (SE _ _ g3),t4,t3.same SE,pics_50' _,_,rfl,?_⟩
  rw [q4,Dt.beqs_self]
  refine iteF ?_
  have v4l:v4.length=d4.length:=by rw [t4.length,List.length_map]
  refine ⟨_,rfl,.inl ⟨rfl,_,SqL.of g4⟩,F4,v4,_,rfl,rfl,g4,small1000 (by omega),?_⟩
  have SDF:Same HD (upd HE F4 (.lst (v4 ++ [V.non]))):=same_updN SE n4
  revert SDF
  generalize (upd HE F4 (.lst (v4 ++ [V.non])))=HF
  intro SDF
  have S9F:=(S9C.trans SD).trans SDF
  refine ⟨_,rfl,_,rfl,A,ps,rfl,pA.same S9F,by omega,fun F5 d5 HG SG _ p5 f5=>?_⟩
  obtain ⟨v5,g5,t5⟩:=id p5
  have q5:d5.map pD=d3.map pD:=form_uniq (moved_self okp) f3 f5
  refine ⟨F3,F5,_,_,_,_,rfl,rfl,SqL.of ((SDF.trans SG) _ _ g3),SqL.of g5,t3.same (SDF.trans SG),t5,pics_50' _,_,rfl,?_⟩
  rw [q5,Dt.beqs_self]
  refine iteF ?_
  have S9G:=S9F.trans SG
  refine ⟨_,rfl,by decide,by decide,fun L6 n6=>?_⟩
  refine comp_due (pA.same S9G) (pB.same S9G) riseq (by omega) (by omega) n6 rfl fun gg HH SH hg eL6=>?_
  have wq:wy gg=wy ff:=wy_eq fun k hk=>(hg k hk).trans (hf k hk).symm
  have S9H:=S9G.trans SH
  refine ⟨_,rfl,L6,Du,_,_,_,_,rfl,rfl,SqL.of eL6,SqL.of (S9H _ _ eD),ints_dts _,ints_dts _,kD_50 _,_,rfl,?_⟩
  rw [wq,Dt.beqs_self]
  refine iteF ?_
  refine' laterS (fun σ HI=>(∃ v8,σ=[some (.ref a),some (.ref N0),some (.ref A),some (.int n),some (.ref Bq),some (.ref Du),some (.ref F3),some (.ref F4),v8,none,none])∧Same HH HI) (fun fin=>_) _
  rotate_left
  ·refine ⟨_,rfl,szr rfl,fun u2 nu2=>?_⟩
   have Tu2:=same_upd (o:=HO.lst []) nu2
   have eD2:=(S9H.trans Tu2) _ _ eD
   refine ⟨Du,u2,_,_,_,_,rfl,rfl,SqL.of eD2,SqL.of upd_same,ints_dts _,.nil,kD_50 _,_,rfl,?_⟩
   by_cases hne:wy ff=[]
   ·exact ifB_neg (by rw [nilb.mpr hne]; rfl) (fin _ _ ⟨⟨_,rfl⟩,Tu2⟩)
   refine ifB_pos (by
    cases z2:Dt.beqs (kD (wy ff)) [] with
    | false=>rfl
    | true=>exact absurd (nilb.mp z2) hne) ?_
   have S9I:=S9H.trans Tu2
   refine ⟨_,rfl,A,ps,rfl,pA.same S9I,by omega,fun J al HJ SJ _ hal eJ=>⟨J,rfl,⟨_,SqL.of eJ⟩,fun L7 n7=>?_⟩⟩
   obtain ⟨d0,rs,hw⟩:∃ d0 rs,wy ff=d0 :: rs:=by
    cases hw:wy ff with
    | nil=>exact absurd hw hne
    | cons d0 rs=>exact ⟨d0,rs,rfl⟩
   have d0m:=wy_mem.mp (show d0∈wy ff by rw [hw]; exact List.mem_cons_self)
   have m0:=(hf d0 d0m.1).mp d0m.2
   have at0:atI (kV (wy ff)) 0=some (.int (d0:Int)):=by
    rw [hw]
    show atI (V.int (d0:Int) :: kV rs) 0=_
    unfold atI ixN
    simp
   refine comp_beh (ks:=wy al) (d0:=d0) eJ (fun k hk=>(wy_mem.mp hk).1) (wy_len al) (SJ _ _ eD2) at0 d0m.1 n7 rfl fun HK SK eL7=>?_
   have wl:=wy_len al
   refine ⟨L7,_,kD ((wy al).map fun k=>behN k d0),rfl,SqL.of eL7,ints_dts _,fun d hd=>?_,fun l hn hl=>?_,fun Wy zs es nW dzw ndw memw srtw=>?_⟩
   ·obtain ⟨k,_,rfl⟩:=kD_mem.mp hd
    exact ⟨_,rfl⟩
   ·have:l.length≤(kD ((wy al).map fun k=>behN k d0)).length:=List.Nodup.length_le_of_subset hn fun d hd=>hl d hd
    unfold kD at this
    rw [List.length_map,List.length_map] at this
    omega
   have TW:=same_upd (o:=HO.lst zs) nW
   have ees:es=kD (wy ff):=rise_eq ((List.perm_ext_iff_of_nodup ndw (wy_nd ff)).mpr fun d=>by
    rw [memw,kD_mem,kD_mem]
    constructor
    ·rintro ⟨m,hm,rfl⟩
     obtain ⟨k,hk,rfl⟩:=List.mem_map.mp hm
     obtain ⟨k8,ak⟩:=wy_mem.mp hk
     have mk:=(al_mv f1 risep k8).mp ((hal k k8).mp ak)
     exact ⟨_,wy_mem.mpr ⟨behN_lt _ _,(hf _ (behN_lt _ _)).mpr (mv_comp k8 d0m.1 mk m0)⟩,rfl⟩
    ·rintro ⟨m,hm,rfl⟩
     obtain ⟨m8,fm⟩:=wy_mem.mp hm
     obtain ⟨k,k8,mk,e⟩:=(ways okp d0m.1 m0 m m8).mp ((hf m m8).mp fm)
     exact ⟨m,List.mem_map.mpr ⟨k,wy_mem.mpr ⟨k8,(hal k k8).mpr ((al_mv f1 risep k8).mpr mk)⟩,e.symm⟩,rfl⟩) srtw (wy_rise ff)
   subst ees
   have SIW:=(SJ.trans SK).trans TW
   refine ⟨_,rfl,_,rfl,Wy,Du,_,_,_,_,rfl,rfl,SqL.of upd_same,SqL.of (SIW _ _ eD2),dzw.same TW,ints_dts _,kD_50 _,_,rfl,?_⟩
   rw [Dt.beqs_self]
   exact iteF (fin _ _ ⟨⟨_,rfl⟩,Tu2.trans SIW⟩)
  rintro σ HI ⟨⟨v8,rfl⟩,SHI⟩
  have S9I:=S9H.trans SHI
  have ll:(lessP qs ps).length≤qs.length:=List.length_filter_le _ _
  refine ⟨_,rfl,_,rfl,Bq,A,qs,ps,rfl,pB.same S9I,pA.same S9I,by omega,by omega,fun C HJ SJ _ pC=>?_⟩
  have oneq:=one_nd ndq
  have oneb:=both_one onep oneq
  have no:¬ twoC (ps ++ lessP qs ps):=fun ⟨b,hb,c,hc,e,ne⟩=>ne (by rw [oneb b hb c hc e])
  obtain ⟨ls,lnd,lmem,lsl⟩:=ex_ls ((ps ++ lessP qs ps).map lD)
  have lsl:ls.length≤60:=by
   rw [List.length_map,List.length_append] at lsl
   omega
  have S9J:=S9I.trans SJ
  refine ⟨_,rfl,_,rfl,A,C,ps,lessP qs ps,ls,rfl,pA.same S9J,pC,by omega,lnd,lmem,fun t=>(no t).elim,fun _ g=>absurd g (by omega),fun _ _ Jb os HK oK=>?_⟩
  have osl:os.length≤(ps ++ lessP qs ps).length:=List.Nodup.length_le_of_subset oK.nd fun b h=>(oK.mem b).mp h
  rw [List.length_append] at osl
  have oneo:One os:=fun b hb c hc e=>oneb b ((oK.mem b).mp hb) c ((oK.mem c).mp hc) e
  have S9K:=S9J.trans oK.same
  obtain ⟨ov,eO,dO⟩:=id oK.pic
  have ovl:ov.length=os.length:=by rw [dO.length,List.length_map]
  refine ⟨_,rfl,_,rfl,A,Bq,xs,ys,rfl,rfl,S9K _ _ eA,S9K _ _ eB,sz (by omega),fun G nG=>?_⟩
  have TG:=same_upd (o:=HO.lst (xs ++ ys)) nG
  refine ⟨G,rfl,⟨_,SqL.of upd_same⟩,fun L8 n8'=>?_⟩
  have dG:DtsIs (upd HK G (.lst (xs ++ ys))) (xs ++ ys) ((ps ++ qs).map pD):=by
   rw [List.map_append]
   exact DtsIs.app ((dA.same S9K).same TG) ((dB.same S9K).same TG)
  refine comp_lin upd_same dG (by rw [List.length_append]; omega) n8' rfl fun vs8 HL SL eL8 dL8=>?_
  have v8l:vs8.length=ps.length + qs.length:=by rw [dL8.length,List.length_map,List.length_append]
  refine ⟨L8,vs8,_,"tuple",rfl,SqL.of eL8,dL8,by omega,fun d hd=>?_,fun d hd d' hd'=>?_,fun d hd=>?_,fun Ws zs es nW dzw ndw memw srtw zlw=>?_⟩
  ·obtain ⟨b,_,rfl⟩:=List.mem_map.mp hd
   exact ⟨_,_,rfl,rfl⟩
  ·obtain ⟨b,_,rfl⟩:=List.mem_map.mp hd
   obtain ⟨b',_,rfl⟩:=List.mem_map.mp hd'
   exact lD_like b b'
  ·obtain ⟨b,_,rfl⟩:=List.mem_map.mp hd
   rw [lD_dp]; decide
  have TW:=same_upd (o:=HO.lst zs) nW
  have ees:es=os.map lD:=rise_eq ((List.perm_ext_iff_of_nodup ndw (nd_one oK.nd oneo)).mpr fun d=>by
   rw [memw]
   exact (both_lines oK.mem d).symm) srtw (lines_rise oK.rise)
  subst ees
  have SKW:=(TG.trans SL).trans TW
  refine ⟨_,rfl,Jb,rfl,⟨_,SqL.of (SKW _ _ eO)⟩,fun L9 n9=>?_⟩
  refine comp_lin (SKW _ _ eO) (dO.same SKW) (by omega) n9 rfl fun vs9 HM SM eL9 dL9=>?_
  refine ⟨Ws,L9,_,_,_,_,rfl,rfl,SqL.of (SM _ _ upd_same),SqL.of eL9,(dzw.same TW).same SM,dL9,fun d hd=>?_,_,rfl,?_⟩
  ·obtain ⟨b,_,rfl⟩:=List.mem_map.mp hd
   rw [lD_dp]; decide
  rw [Dt.beqs_self]
  refine iteF ?_
  have SKM:=SKW.trans SM
  have S9M:=S9K.trans SKM
  have pC':=(pC.same oK.same).same SKM
  refine ⟨_,rfl,_,rfl,Jb,C,os,lessP qs ps,rfl,oK.pic.same SKM,pC',by omega,by omega,fun X1 HN SN _ ⟨x1,ex1,dx1⟩=>?_⟩
  have q1:(lessP os (lessP qs ps)).map pD=ps.map pD:=rise_uniq (less_nd oK.nd) pnd (less_a oK.mem) (less_rise oK.rise) risep
  have S9N:=S9M.trans SN
  refine ⟨_,rfl,X1,A,_,_,_,_,rfl,rfl,SqL.of ex1,SqL.of (S9N _ _ eA),dx1,dA.same S9N,pics_50' _,_,rfl,?_⟩
  rw [q1,Dt.beqs_self]
  refine iteT ⟨_,rfl,_,rfl,Jb,A,os,ps,rfl,(oK.pic.same SKM).same SN,pA.same S9N,by omega,by omega,fun X2 HO' SO _ ⟨x2,ex2,dx2⟩=>?_⟩
  obtain ⟨cv,eC,dC⟩:=(pC'.same SN).same SO
  have qnd:qs.Nodup:=(List.pairwise_map.mp (show ((qs.map lD).Pairwise (·≠·)) from ndq)).imp fun n e=>n (by rw [e])
  have q2:(lessP os ps).map pD=(lessP qs ps).map pD:=rise_uniq (less_nd oK.nd) (less_nd qnd) (less_b oK.mem) (less_rise oK.rise) (less_rise riseq)
  refine ⟨_,rfl,X2,C,_,_,_,_,rfl,rfl,SqL.of ex2,SqL.of eC,dx2,dC,pics_50' _,?_⟩
  rw [q2,Dt.beqs_self]
  exact k _
end
end K20
def PySem.W.Fast.tw4788855453794827717:=0
def PySem.W.Fast.tw7977855358696667075:=0
def PySem.W.Fast.tw7382016782916343104:=0
def PySem.W.Fast.tw17250478521355357202:=0
def PySem.W.Fast.tw13062165121151516650:=0
def PySem.W.Fast.tw13671074324431666332:=0
def PySem.W.Fast.tw8395201067543085690:=0
def PySem.W.Fast.tw9851039926577853191:=0
def PySem.W.Fast.tw8072485302546044548:=0
def PySem.W.Fast.tw3260417066324502117:=0
def PySem.W.Fast.tw15239299867728930384:=0
def PySem.W.Fast.tw3955196445740653446:=0
def PySem.W.Fast.tw17524207942015927646:=0
def PySem.W.Fast.tw17365718717064629128:=0
def PySem.W.Fast.tw7680640430768551108:=0
def PySem.W.Fast.tw15427044645305133121:=0
def PySem.W.Fast.tw4194293366755317283:=0
def PySem.W.Fast.tw7134876864281571222:=0
def PySem.W.Fast.tw6417108665078915585:=0
def PySem.W.Fast.tw15320397050026689529:=0
def PySem.W.Fast.tw10201956389244924724:=0
def PySem.W.Fast.tw3252354639256345586:=0
def PySem.W.Fast.tw6682092131911967146:=0
def PySem.W.Fast.tw413425132290722448:=0
def PySem.W.Fast.tw1857111292004990881:=0
def PySem.W.Fast.tw16452373104809201327:=0
def PySem.W.Fast.tw14645340388177803412:=0
def PySem.W.Fast.tw8229288081898850852:=0
def PySem.W.Fast.tw158428220039191033:=0
def PySem.W.Fast.tw8116221971275358635:=0
def PySem.W.Fast.tw560921772930459961:=0
def PySem.W.Fast.tw12621777376745312816:=0
def PySem.W.Fast.tw12260941712638201118:=0
def PySem.W.Fast.tw15948054277223829758:=0
def PySem.W.Fast.tw5913555409359456671:=0
def PySem.W.Fast.tw508492552094261295:=0
def PySem.W.Fast.tw447114244964447057:=0
def PySem.W.Fast.tw10139453644429924016:=0
def PySem.W.Fast.tw8062358013138547813:=0
def PySem.W.Fast.tw335657081983946788:=0
def PySem.W.Fast.tw16480796648956900437:=0
def PySem.W.Fast.tw2298695573579801984:=0
def PySem.W.Fast.tw17404590311920352383:=0
def PySem.W.Fast.tw6945957596232880504:=0
def PySem.W.Fast.tw12570196480467624678:=0
def PySem.W.Fast.tw7669567719609691972:=0
def PySem.W.Fast.tw29208336236567103:=0
def PySem.W.Fast.tw4533169327765808390:=0
def PySem.W.Fast.tw1443230413166181327:=0
def PySem.W.Fast.tw6333859562020317134:=0
def PySem.W.Fast.tw8053221480087204228:=0
def PySem.W.Fast.tw1643351558128840445:=0
def PySem.W.Fast.tw17648553644733642348:=0
def PySem.W.Fast.tw1114425366547791031:=0
def PySem.W.Fast.tw9856216486707087393:=0
def PySem.W.Fast.tw16735422518044957810:=0
def PySem.W.Fast.tw531412613166585127:=0
def PySem.W.Fast.tw8828530817189151988:=0
def PySem.W.Fast.tw2443920321229407198:=0
def PySem.W.Fast.tw16059047653231343701:=0
def PySem.W.Fast.tw10189933585279507614:=0
def PySem.W.Fast.tw16510886415382561071:=0
namespace K20
open PySem PySem.Spec PyProof.Rows L2 BF
theorem ln1 {us:List Value} (h:us.length=1):∃ a0,us=[a0]:=match us,h with | [a0],_=>⟨a0,rfl⟩
theorem ln2 {us:List Value} (h:us.length=2):∃ a0 a1,us=[a0,a1]:=match us,h with | [a0,a1],_=>⟨a0,a1,rfl⟩
theorem ln3 {us:List Value} (h:us.length=3):∃ a0 a1 a2,us=[a0,a1,a2]:=match us,h with | [a0,a1,a2],_=>⟨a0,a1,a2,rfl⟩
theorem all_mk {l:PySem.W.OpenLaw} {w:World} {K:PySem.W.Frag} {h:Heap} {mg:Str→Option Value} {fa fV fH fA fB fD fF fK fG fT fL fR fJn fLs fM fQ fFm fJ fC fMx fFi fOn fN fLi fCo fP fU fI fW fOt fTu fZ:Addr} (X:K.In h) (G:h.Ns mainGlobals mg) (hfa:mg "law"=some (.ref fa))
  {odV anV odH anH odA anA odB anB odD anD odF anF odK anK odG anG odT anT odL anL odR anR odJn anJn odLs anLs odM anM odQ anQ odFm anFm odJ anJ odC anC odMx anMx odFi anFi odOn anOn odN anN odLi anLi odCo anCo odP anP odU anU odI anI odW anW odOt anOt odTu anTu odZ anZ:Option Addr} {slV slH slA slB slD slF slK slG slT slL slR slJn slLs slM slQ slFm slJ slC slMx slFi slOn slN slLi slCo slP slU slI slW slOt slTu slZ:Array (Option Value)} {ocV kVV dcV pmV cdV ctV ocH kVH dcH pmH cdH ctH ocA kVA dcA pmA cdA ctA ocB kVB dcB pmB cdB ctB ocD kVD dcD pmD cdD ctD ocF kVF dcF pmF cdF ctF ocK kVK dcK pmK cdK ctK ocG kVG dcG pmG cdG ctG ocT kVT dcT pmT cdT ctT ocL kVL dcL pmL cdL ctL ocR kVR dcR pmR cdR ctR ocJn kVJn dcJn pmJn cdJn ctJn ocLs kVLs dcLs pmLs cdLs ctLs ocM kVM dcM pmM cdM ctM ocQ kVQ dcQ pmQ cdQ ctQ ocFm kVFm dcFm pmFm cdFm ctFm ocJ kVJ dcJ pmJ cdJ ctJ ocC kVC dcC pmC cdC ctC ocMx kVMx dcMx pmMx cdMx ctMx ocFi kVFi dcFi pmFi cdFi ctFi ocOn kVOn dcOn pmOn cdOn ctOn ocN kVN dcN pmN cdN ctN ocLi kVLi dcLi pmLi cdLi ctLi ocCo kVCo dcCo pmCo cdCo ctCo ocP kVP dcP pmP cdP ctP ocU kVU dcU pmU cdU ctU ocI kVI dcI pmI cdI ctI ocW kVW dcW pmW cdW ctW ocOt kVOt dcOt pmOt cdOt ctOt ocTu kVTu dcTu pmTu cdTu ctTu ocZ kVZ dcZ pmZ cdZ ctZ:Value} {t_most t_qua t_tur:Tok}
  (aV:PySem.W.nsIn K mainGlobals "picture"=some (some (.ref fV))) (lV:K.lookup fV=some ⟨ocV,odV,.func (PySem.W.fnOf "picture" "picture" (defArgs sPict) (defBody sPict) (defScope sPict) .none kVV dcV pmV anV cdV ctV),slV⟩) (cV:PySem.W.codeIn K cdV "picture"=true) (kV:PySem.W.keepIn K (.ref fV)=true)
  (aH:PySem.W.nsIn K mainGlobals "holes_of"=some (some (.ref fH))) (lH:K.lookup fH=some ⟨ocH,odH,.func (PySem.W.fnOf "holes_of" "holes_of" (defArgs sHolesOf) (defBody sHolesOf) (defScope sHolesOf) .none kVH dcH pmH anH cdH ctH),slH⟩) (cH:PySem.W.codeIn K cdH "holes_of"=true) (kH:PySem.W.keepIn K (.ref fH)=true)
  (aA:PySem.W.nsIn K mainGlobals "ordered"=some (some (.ref fA))) (lA:K.lookup fA=some ⟨ocA,odA,.func (PySem.W.fnOf "ordered" "ordered" (defArgs sOrd) (defBody sOrd) (defScope sOrd) .none kVA dcA pmA anA cdA ctA),slA⟩) (cA:PySem.W.codeIn K cdA "ordered"=true) (kA:PySem.W.keepIn K (.ref fA)=true)
  (aB:PySem.W.nsIn K mainGlobals "is_mirroring"=some (some (.ref fB))) (lB:K.lookup fB=some ⟨ocB,odB,.func (PySem.W.fnOf "is_mirroring" "is_mirroring" (defArgs sMir) (defBody sMir) (defScope sMir) .none kVB dcB pmB anB cdB ctB),slB⟩) (cB:PySem.W.codeIn K cdB "is_mirroring"=true) (kB:PySem.W.keepIn K (.ref fB)=true)
  (aD:PySem.W.nsIn K mainGlobals "turned_hole"=some (some (.ref fD))) (lD:K.lookup fD=some ⟨ocD,odD,.func (PySem.W.fnOf "turned_hole" "turned_hole" (defArgs sTurn) (defBody sTurn) (defScope sTurn) .none kVD dcD pmD anD cdD ctD),slD⟩) (cD:PySem.W.codeIn K cdD "turned_hole"=true) (kD:PySem.W.keepIn K (.ref fD)=true)
  (aF:PySem.W.nsIn K mainGlobals "turned_line"=some (some (.ref fF))) (lF:K.lookup fF=some ⟨ocF,odF,.func (PySem.W.fnOf "turned_line" "turned_line" (defArgs sTLine) (defBody sTLine) (defScope sTLine) .none kVF dcF pmF anF cdF ctF),slF⟩) (cF:PySem.W.codeIn K cdF "turned_line"=true) (kF:PySem.W.keepIn K (.ref fF)=true)
  (aK:PySem.W.nsIn K mainGlobals "turned"=some (some (.ref fK))) (lK:K.lookup fK=some ⟨ocK,odK,.func (PySem.W.fnOf "turned" "turned" (defArgs sTurned) (defBody sTurned) (defScope sTurned) .none kVK dcK pmK anK cdK ctK),slK⟩) (cK:PySem.W.codeIn K cdK "turned"=true) (kK:PySem.W.keepIn K (.ref fK)=true)
  (aG:PySem.W.nsIn K mainGlobals "behind"=some (some (.ref fG))) (lG:K.lookup fG=some ⟨ocG,odG,.func (PySem.W.fnOf "behind" "behind" (defArgs sBeh) (defBody sBeh) (defScope sBeh) .none kVG dcG pmG anG cdG ctG),slG⟩) (cG:PySem.W.codeIn K cdG "behind"=true) (kG:PySem.W.keepIn K (.ref fG)=true)
  (aT:PySem.W.nsIn K mainGlobals "shifted_hole"=some (some (.ref fT))) (lT:K.lookup fT=some ⟨ocT,odT,.func (PySem.W.fnOf "shifted_hole" "shifted_hole" (defArgs sShHole) (defBody sShHole) (defScope sShHole) .none kVT dcT pmT anT cdT ctT),slT⟩) (cT:PySem.W.codeIn K cdT "shifted_hole"=true) (kT:PySem.W.keepIn K (.ref fT)=true)
  (aL:PySem.W.nsIn K mainGlobals "shifted_line"=some (some (.ref fL))) (lL:K.lookup fL=some ⟨ocL,odL,.func (PySem.W.fnOf "shifted_line" "shifted_line" (defArgs sShLine) (defBody sShLine) (defScope sShLine) .none kVL dcL pmL anL cdL ctL),slL⟩) (cL:PySem.W.codeIn K cdL "shifted_line"=true) (kL:PySem.W.keepIn K (.ref fL)=true)
  (aR:PySem.W.nsIn K mainGlobals "shifted"=some (some (.ref fR))) (lR:K.lookup fR=some ⟨ocR,odR,.func (PySem.W.fnOf "shifted" "shifted" (defArgs sShifted) (defBody sShifted) (defScope sShifted) .none kVR dcR pmR anR cdR ctR),slR⟩) (cR:PySem.W.codeIn K cdR "shifted"=true) (kR:PySem.W.keepIn K (.ref fR)=true)
  (aJn:PySem.W.nsIn K mainGlobals "joined"=some (some (.ref fJn))) (lJn:K.lookup fJn=some ⟨ocJn,odJn,.func (PySem.W.fnOf "joined" "joined" (defArgs sJoin) (defBody sJoin) (defScope sJoin) .none kVJn dcJn pmJn anJn cdJn ctJn),slJn⟩) (cJn:PySem.W.codeIn K cdJn "joined"=true) (kJn:PySem.W.keepIn K (.ref fJn)=true)
  (aLs:PySem.W.nsIn K mainGlobals "less"=some (some (.ref fLs))) (lLs:K.lookup fLs=some ⟨ocLs,odLs,.func (PySem.W.fnOf "less" "less" (defArgs sLess) (defBody sLess) (defScope sLess) .none kVLs dcLs pmLs anLs cdLs ctLs),slLs⟩) (cLs:PySem.W.codeIn K cdLs "less"=true) (kLs:PySem.W.keepIn K (.ref fLs)=true)
  (aM:PySem.W.nsIn K mainGlobals "home"=some (some (.ref fM))) (lM:K.lookup fM=some ⟨ocM,odM,.func (PySem.W.fnOf "home" "home" (defArgs sHome) (defBody sHome) (defScope sHome) .none kVM dcM pmM anM cdM ctM),slM⟩) (cM:PySem.W.codeIn K cdM "home"=true) (kM:PySem.W.keepIn K (.ref fM)=true)
  (aQ:PySem.W.nsIn K mainGlobals "homes"=some (some (.ref fQ))) (lQ:K.lookup fQ=some ⟨ocQ,odQ,.func (PySem.W.fnOf "homes" "homes" (defArgs sHomes) (defBody sHomes) (defScope sHomes) .none kVQ dcQ pmQ anQ cdQ ctQ),slQ⟩) (cQ:PySem.W.codeIn K cdQ "homes"=true) (kQ:PySem.W.keepIn K (.ref fQ)=true)
  (aFm:PySem.W.nsIn K mainGlobals "form"=some (some (.ref fFm))) (lFm:K.lookup fFm=some ⟨ocFm,odFm,.func (PySem.W.fnOf "form" "form" (defArgs sForm) (defBody sForm) (defScope sForm) .none kVFm dcFm pmFm anFm cdFm ctFm),slFm⟩) (cFm:PySem.W.codeIn K cdFm "form"=true) (kFm:PySem.W.keepIn K (.ref fFm)=true)
  (aJ:PySem.W.nsIn K mainGlobals "alike_by"=some (some (.ref fJ))) (lJ:K.lookup fJ=some ⟨ocJ,odJ,.func (PySem.W.fnOf "alike_by" "alike_by" (defArgs sAlike) (defBody sAlike) (defScope sAlike) .none kVJ dcJ pmJ anJ cdJ ctJ),slJ⟩) (cJ:PySem.W.codeIn K cdJ "alike_by"=true) (kJ:PySem.W.keepIn K (.ref fJ)=true)
  (aC:PySem.W.nsIn K mainGlobals "_law_cell_at"=some (some (.ref fC))) (lC:K.lookup fC=some ⟨ocC,odC,.func (PySem.W.fnOf "_law_cell_at" "_law_cell_at" (defArgs sCell) (defBody sCell) (defScope sCell) .none kVC dcC pmC anC cdC ctC),slC⟩) (cC:PySem.W.codeIn K cdC "_law_cell_at"=true) (kC:PySem.W.keepIn K (.ref fC)=true)
  (aMx:PySem.W.nsIn K mainGlobals "_law_mixed"=some (some (.ref fMx))) (lMx:K.lookup fMx=some ⟨ocMx,odMx,.func (PySem.W.fnOf "_law_mixed" "_law_mixed" (defArgs sMixd) (defBody sMixd) (defScope sMixd) .none kVMx dcMx pmMx anMx cdMx ctMx),slMx⟩) (cMx:PySem.W.codeIn K cdMx "_law_mixed"=true) (kMx:PySem.W.keepIn K (.ref fMx)=true)
  (aFi:PySem.W.nsIn K mainGlobals "_law_filled"=some (some (.ref fFi))) (lFi:K.lookup fFi=some ⟨ocFi,odFi,.func (PySem.W.fnOf "_law_filled" "_law_filled" (defArgs sFill) (defBody sFill) (defScope sFill) .none kVFi dcFi pmFi anFi cdFi ctFi),slFi⟩) (cFi:PySem.W.codeIn K cdFi "_law_filled"=true) (kFi:PySem.W.keepIn K (.ref fFi)=true)
  (aOn:PySem.W.nsIn K mainGlobals "_law_one"=some (some (.ref fOn))) (lOn:K.lookup fOn=some ⟨ocOn,odOn,.func (PySem.W.fnOf "_law_one" "_law_one" (defArgs sOneN) (defBody sOneN) (defScope sOneN) .none kVOn dcOn pmOn anOn cdOn ctOn),slOn⟩) (cOn:PySem.W.codeIn K cdOn "_law_one"=true) (kOn:PySem.W.keepIn K (.ref fOn)=true)
  (aN:PySem.W.nsIn K mainGlobals "_law_numbers"=some (some (.ref fN))) (lN:K.lookup fN=some ⟨ocN,odN,.func (PySem.W.fnOf "_law_numbers" "_law_numbers" (defArgs sNumb) (defBody sNumb) (defScope sNumb) .none kVN dcN pmN anN cdN ctN),slN⟩) (cN:PySem.W.codeIn K cdN "_law_numbers"=true) (kN:PySem.W.keepIn K (.ref fN)=true)
  (aLi:PySem.W.nsIn K mainGlobals "_law_line"=some (some (.ref fLi))) (lLi:K.lookup fLi=some ⟨ocLi,odLi,.func (PySem.W.fnOf "_law_line" "_law_line" (defArgs sLine) (defBody sLine) (defScope sLine) .none kVLi dcLi pmLi anLi cdLi ctLi),slLi⟩) (cLi:PySem.W.codeIn K cdLi "_law_line"=true) (kLi:PySem.W.keepIn K (.ref fLi)=true)
  (aCo:PySem.W.nsIn K mainGlobals "_law_colour"=some (some (.ref fCo))) (lCo:K.lookup fCo=some ⟨ocCo,odCo,.func (PySem.W.fnOf "_law_colour" "_law_colour" (defArgs sColr) (defBody sColr) (defScope sColr) .none kVCo dcCo pmCo anCo cdCo ctCo),slCo⟩) (cCo:PySem.W.codeIn K cdCo "_law_colour"=true) (kCo:PySem.W.keepIn K (.ref fCo)=true)
  (aP:PySem.W.nsIn K mainGlobals "_law_pairs"=some (some (.ref fP))) (lP:K.lookup fP=some ⟨ocP,odP,.func (PySem.W.fnOf "_law_pairs" "_law_pairs" (defArgs sPairs) (defBody sPairs) (defScope sPairs) .none kVP dcP pmP anP cdP ctP),slP⟩) (cP:PySem.W.codeIn K cdP "_law_pairs"=true) (kP:PySem.W.keepIn K (.ref fP)=true)
  (aU:PySem.W.nsIn K mainGlobals "_law_turned_hole"=some (some (.ref fU))) (lU:K.lookup fU=some ⟨ocU,odU,.func (PySem.W.fnOf "_law_turned_hole" "_law_turned_hole" (defArgs sLTurn) (defBody sLTurn) (defScope sLTurn) .none kVU dcU pmU anU cdU ctU),slU⟩) (cU:PySem.W.codeIn K cdU "_law_turned_hole"=true) (kU:PySem.W.keepIn K (.ref fU)=true)
  (aI:PySem.W.nsIn K mainGlobals "_law_turned"=some (some (.ref fI))) (lI:K.lookup fI=some ⟨ocI,odI,.func (PySem.W.fnOf "_law_turned" "_law_turned" (defArgs sLTurned) (defBody sLTurned) (defScope sLTurned) .none kVI dcI pmI anI cdI ctI),slI⟩) (cI:PySem.W.codeIn K cdI "_law_turned"=true) (kI:PySem.W.keepIn K (.ref fI)=true)
  (aW:PySem.W.nsIn K mainGlobals "_law_home"=some (some (.ref fW))) (lW:K.lookup fW=some ⟨ocW,odW,.func (PySem.W.fnOf "_law_home" "_law_home" (defArgs sLHome) (defBody sLHome) (defScope sLHome) .none kVW dcW pmW anW cdW ctW),slW⟩) (cW:PySem.W.codeIn K cdW "_law_home"=true) (kW:PySem.W.keepIn K (.ref fW)=true)
  (aOt:PySem.W.nsIn K mainGlobals "_law_other"=some (some (.ref fOt))) (lOt:K.lookup fOt=some ⟨ocOt,odOt,.func (PySem.W.fnOf "_law_other" "_law_other" (defArgs sOth) (defBody sOth) (defScope sOth) .none kVOt dcOt pmOt anOt cdOt ctOt),slOt⟩) (cOt:PySem.W.codeIn K cdOt "_law_other"=true) (kOt:PySem.W.keepIn K (.ref fOt)=true)
  (aTu:PySem.W.nsIn K mainGlobals "_law_turnings"=some (some (.ref fTu))) (lTu:K.lookup fTu=some ⟨ocTu,odTu,.func (PySem.W.fnOf "_law_turnings" "_law_turnings" (defArgs sTurns) (defBody sTurns) (defScope sTurns) .none kVTu dcTu pmTu anTu cdTu ctTu),slTu⟩) (cTu:PySem.W.codeIn K cdTu "_law_turnings"=true) (kTu:PySem.W.keepIn K (.ref fTu)=true)
  (aZ:PySem.W.nsIn K mainGlobals "law"=some (some (.ref fZ))) (lZ:K.lookup fZ=some ⟨ocZ,odZ,.func (PySem.W.fnOf "law" "law" (defArgs sLaw) (defBody sLaw) (defScope sLaw) .none kVZ dcZ pmZ anZ cdZ ctZ),slZ⟩) (cZ:PySem.W.codeIn K cdZ "law"=true) (kZ:PySem.W.keepIn K (.ref fZ)=true)
  {c0 c1 c2:Addr} (n0:PySem.W.nsIn K mainGlobals "ClothError"=some (some (.ref c0))) (n1:PySem.W.nsIn K mainGlobals "TwoColours"=some (some (.ref c1))) (n2:PySem.W.nsIn K mainGlobals "TooMany"=some (some (.ref c2))) (T1:Kit3 K c0 c1 c2 c1 0) (T2:Kit3 K c0 c1 c2 c2 1)
  (z_int:PySem.W.nsIn K mainGlobals "int"=some none)
  (z_len:PySem.W.nsIn K mainGlobals "len"=some none)
  (z_range:PySem.W.nsIn K mainGlobals "range"=some none)
  (z_abs:PySem.W.nsIn K mainGlobals "abs"=some none)
  (z_min:PySem.W.nsIn K mainGlobals "min"=some none)
  (z_max:PySem.W.nsIn K mainGlobals "max"=some none)
  (z_set:PySem.W.nsIn K mainGlobals "set"=some none)
  (z_sorted:PySem.W.nsIn K mainGlobals "sorted"=some none)
  (z_dict:PySem.W.nsIn K mainGlobals "dict"=some none)
  (z_enum:PySem.W.nsIn K mainGlobals "enumerate"=some none)
  (g_most:PySem.W.nsIn K mainGlobals "MOST_LINES"=some (some (.int 120 t_most)))
  (g_qua:PySem.W.nsIn K mainGlobals "QUARTERS"=some (some (.int 4 t_qua)))
  (g_tur:PySem.W.nsIn K mainGlobals "TURNINGS"=some (some (.int 8 t_tur))) :
  ∃ fd:FuncData,(∀ (s:Shared) (v:Value),BindsTo s fd ⟨[v],[]⟩ [("_law_script",v)])∧∀ base:Heap,K.In base→base.Ns mainGlobals mg→FnOk l.prog w K mg base CX0 7 fa fd ["_law_script"] (spLaw K):=by
 have e:=hfa.symm.trans (PySem.W.mg_of X G aZ)
 cases e
 have DV:=df_mk (st:=sPict) X G aV lV cV kV
 have DH:=df_mk (st:=sHolesOf) X G aH lH cH kH
 have DA:=df_mk (st:=sOrd) X G aA lA cA kA
 have DB:=df_mk (st:=sMir) X G aB lB cB kB
 have DD:=df_mk (st:=sTurn) X G aD lD cD kD
 have DF:=df_mk (st:=sTLine) X G aF lF cF kF
 have DK:=df_mk (st:=sTurned) X G aK lK cK kK
 have DG:=df_mk (st:=sBeh) X G aG lG cG kG
 have DT:=df_mk (st:=sShHole) X G aT lT cT kT
 have DL:=df_mk (st:=sShLine) X G aL lL cL kL
 have DR:=df_mk (st:=sShifted) X G aR lR cR kR
 have DJn:=df_mk (st:=sJoin) X G aJn lJn cJn kJn
 have DLs:=df_mk (st:=sLess) X G aLs lLs cLs kLs
 have DM:=df_mk (st:=sHome) X G aM lM cM kM
 have DQ:=df_mk (st:=sHomes) X G aQ lQ cQ kQ
 have DFm:=df_mk (st:=sForm) X G aFm lFm cFm kFm
 have DJ:=df_mk (st:=sAlike) X G aJ lJ cJ kJ
 have DC:=df_mk (st:=sCell) X G aC lC cC kC
 have DMx:=df_mk (st:=sMixd) X G aMx lMx cMx kMx
 have DFi:=df_mk (st:=sFill) X G aFi lFi cFi kFi
 have DOn:=df_mk (st:=sOneN) X G aOn lOn cOn kOn
 have DN:=df_mk (st:=sNumb) X G aN lN cN kN
 have DLi:=df_mk (st:=sLine) X G aLi lLi cLi kLi
 have DCo:=df_mk (st:=sColr) X G aCo lCo cCo kCo
 have DP:=df_mk (st:=sPairs) X G aP lP cP kP
 have DU:=df_mk (st:=sLTurn) X G aU lU cU kU
 have DI:=df_mk (st:=sLTurned) X G aI lI cI kI
 have DW:=df_mk (st:=sLHome) X G aW lW cW kW
 have DOt:=df_mk (st:=sOth) X G aOt lOt cOt kOt
 have DTu:=df_mk (st:=sTurns) X G aTu lTu cTu kTu
 have DZ:=df_mk (st:=sLaw) X G aZ lZ cZ kZ
 have B:Blt mg:=⟨PySem.W.mg_none_of X G z_int,PySem.W.mg_none_of X G z_len,PySem.W.mg_none_of X G z_range,PySem.W.mg_none_of X G z_abs,PySem.W.mg_none_of X G z_min,PySem.W.mg_none_of X G z_max,PySem.W.mg_none_of X G z_set,PySem.W.mg_none_of X G z_sorted,PySem.W.mg_none_of X G z_dict,PySem.W.mg_none_of X G z_enum,⟨t_most,PySem.W.mg_of X G g_most⟩,⟨t_qua,PySem.W.mg_of X G g_qua⟩,⟨t_tur,PySem.W.mg_of X G g_tur⟩⟩
 have N:Nam3 mg c0 c1 c2:=⟨PySem.W.mg_of X G n0,PySem.W.mg_of X G n1,PySem.W.mg_of X G n2⟩
 have bV:=DV.F.binds (ps:=["pairs"]) fun _ _ _ _ _ _ us hl=>by obtain ⟨_,rfl⟩:=ln1 hl; rfl
 have bH:=DH.F.binds (ps:=["lines"]) fun _ _ _ _ _ _ us hl=>by obtain ⟨_,rfl⟩:=ln1 hl; rfl
 have bA:=DA.F.binds (ps:=["one","other"]) fun _ _ _ _ _ _ us hl=>by obtain ⟨_,_,rfl⟩:=ln2 hl; rfl
 have bB:=DB.F.binds (ps:=["way"]) fun _ _ _ _ _ _ us hl=>by obtain ⟨_,rfl⟩:=ln1 hl; rfl
 have bD:=DD.F.binds (ps:=["hole","way"]) fun _ _ _ _ _ _ us hl=>by obtain ⟨_,_,rfl⟩:=ln2 hl; rfl
 have bF:=DF.F.binds (ps:=["line","way"]) fun _ _ _ _ _ _ us hl=>by obtain ⟨_,_,rfl⟩:=ln2 hl; rfl
 have bK:=DK.F.binds (ps:=["one","way"]) fun _ _ _ _ _ _ us hl=>by obtain ⟨_,_,rfl⟩:=ln2 hl; rfl
 have bG:=DG.F.binds (ps:=["first","second"]) fun _ _ _ _ _ _ us hl=>by obtain ⟨_,_,rfl⟩:=ln2 hl; rfl
 have bT:=DT.F.binds (ps:=["hole","east","north"]) fun _ _ _ _ _ _ us hl=>by obtain ⟨_,_,_,rfl⟩:=ln3 hl; rfl
 have bL:=DL.F.binds (ps:=["line","east","north"]) fun _ _ _ _ _ _ us hl=>by obtain ⟨_,_,_,rfl⟩:=ln3 hl; rfl
 have bR:=DR.F.binds (ps:=["one","east","north"]) fun _ _ _ _ _ _ us hl=>by obtain ⟨_,_,_,rfl⟩:=ln3 hl; rfl
 have bJn:=DJn.F.binds (ps:=["one","other"]) fun _ _ _ _ _ _ us hl=>by obtain ⟨_,_,rfl⟩:=ln2 hl; rfl
 have bLs:=DLs.F.binds (ps:=["one","other"]) fun _ _ _ _ _ _ us hl=>by obtain ⟨_,_,rfl⟩:=ln2 hl; rfl
 have bM:=DM.F.binds (ps:=["one"]) fun _ _ _ _ _ _ us hl=>by obtain ⟨_,rfl⟩:=ln1 hl; rfl
 have bQ:=DQ.F.binds (ps:=["one"]) fun _ _ _ _ _ _ us hl=>by obtain ⟨_,rfl⟩:=ln1 hl; rfl
 have bFm:=DFm.F.binds (ps:=["one"]) fun _ _ _ _ _ _ us hl=>by obtain ⟨_,rfl⟩:=ln1 hl; rfl
 have bJ:=DJ.F.binds (ps:=["one"]) fun _ _ _ _ _ _ us hl=>by obtain ⟨_,rfl⟩:=ln1 hl; rfl
 have bC:=DC.F.binds (ps:=["_law_script","_law_k"]) fun _ _ _ _ _ _ us hl=>by obtain ⟨_,_,rfl⟩:=ln2 hl; rfl
 have bMx:=DMx.F.binds (ps:=["_law_script","_law_k"]) fun _ _ _ _ _ _ us hl=>by obtain ⟨_,_,rfl⟩:=ln2 hl; rfl
 have bFi:=DFi.F.binds (ps:=["_law_script","_law_k","_law_number"]) fun _ _ _ _ _ _ us hl=>by obtain ⟨_,_,_,rfl⟩:=ln3 hl; rfl
 have bOn:=DOn.F.binds (ps:=["_law_script","_law_start"]) fun _ _ _ _ _ _ us hl=>by obtain ⟨_,_,rfl⟩:=ln2 hl; rfl
 have bN:=DN.F.binds (ps:=["_law_script","_law_start","_law_most"]) fun _ _ _ _ _ _ us hl=>by obtain ⟨_,_,_,rfl⟩:=ln3 hl; rfl
 have bLi:=DLi.F.binds (ps:=["_law_number"]) fun _ _ _ _ _ _ us hl=>by obtain ⟨_,rfl⟩:=ln1 hl; rfl
 have bCo:=DCo.F.binds (ps:=["_law_number"]) fun _ _ _ _ _ _ us hl=>by obtain ⟨_,rfl⟩:=ln1 hl; rfl
 have bP:=DP.F.binds (ps:=["_law_numbers_here","_law_names"]) fun _ _ _ _ _ _ us hl=>by obtain ⟨_,_,rfl⟩:=ln2 hl; rfl
 have bU:=DU.F.binds (ps:=["_law_hole","_law_number"]) fun _ _ _ _ _ _ us hl=>by obtain ⟨_,_,rfl⟩:=ln2 hl; rfl
 have bI:=DI.F.binds (ps:=["_law_pairs_here","_law_number"]) fun _ _ _ _ _ _ us hl=>by obtain ⟨_,_,rfl⟩:=ln2 hl; rfl
 have bW:=DW.F.binds (ps:=["_law_pairs_here"]) fun _ _ _ _ _ _ us hl=>by obtain ⟨_,rfl⟩:=ln1 hl; rfl
 have bOt:=DOt.F.binds (ps:=["_law_pairs_here","_law_number"]) fun _ _ _ _ _ _ us hl=>by obtain ⟨_,_,rfl⟩:=ln2 hl; rfl
 have bTu:=DTu.F.binds (ps:=["_law_one_here","_law_other_here"]) fun _ _ _ _ _ _ us hl=>by obtain ⟨_,_,rfl⟩:=ln2 hl; rfl
 refine ⟨PySem.W.fnOf "law" "law" (defArgs sLaw) (defBody sLaw) (defScope sLaw) .none kVZ dcZ pmZ anZ cdZ ctZ,fun s v=>.of_eq rfl,fun base _ _=>?_⟩
 obtain ⟨tm,mm⟩:=B.most
 have GV:FnOk l.prog w K mg base (CXE l.prog w) 1 fV _ ["pairs"] (spPict K c1 c2):=ok_pict DV N.m1 N.m2 T1.q T2.q mm B.len B.sorted
 have GJn:FnOk l.prog w K mg base (CXE l.prog w) 2 fJn _ ["one","other"] (spJoin c1 c2):=ok_join DJn DV bV GV
 have GLs:FnOk l.prog w K mg base CX0 1 fLs _ ["one","other"] spLess:=ok_less DLs B.dict
 have GB:FnOk l.prog w K mg base CX0 1 fB _ ["way"] spMir:=ok_mir DB B.qua
 have GD:FnOk l.prog w K mg base CX0 2 fD _ ["hole","way"] spTurn:=ok_turn DD DB bB GB B.qua B.range
 have GF:FnOk l.prog w K mg base CX0 3 fF _ ["line","way"] spTLine:=ok_tline DF DD bD GD DA bA (ok_ord DA)
 have GK:FnOk l.prog w K mg base CX0 4 fK _ ["one","way"] (spTurned K):=ok_turned DK DF bF GF B.sorted
 have GG:FnOk l.prog w K mg base CX0 2 fG _ ["first","second"] spBeh:=ok_beh DG DB bB GB B.qua
 have GH:FnOk l.prog w K mg base CX0 1 fH _ ["lines"] spHolesOf:=ok_holesOf DH B.sorted B.set
 have GL:FnOk l.prog w K mg base CX0 2 fL _ ["line","east","north"] spShLine:=ok_shLine DL DT bT (ok_shHole DT)
 have GR:FnOk l.prog w K mg base CX0 3 fR _ ["one","east","north"] spShifted:=ok_shifted DR DL bL GL
 have GM:FnOk l.prog w K mg base CX0 4 fM _ ["one"] spHome:=ok_home DM DH bH GH DR bR GR B.min
 have GQ:FnOk l.prog w K mg base CX0 5 fQ _ ["one"] spHomes:=ok_homes DQ DM bM GM DK bK GK B.tur B.range
 have GFm:FnOk l.prog w K mg base CX0 6 fFm _ ["one"] spForm:=ok_form DFm DQ bQ GQ B.min
 have GJ:FnOk l.prog w K mg base CX0 6 fJ _ ["one"] spAlike:=ok_alike DJ DM bM GM DQ bQ GQ B.enum
 have GC:FnOk l.prog w K mg base CX0 1 fC _ ["_law_script","_law_k"] (spCell K):=ok_cell DC B.len
 have GMx:FnOk l.prog w K mg base CX0 2 fMx _ ["_law_script","_law_k"] (spMixd K):=ok_mixd DMx DC bC GC B.len B.max
 have GFi:FnOk l.prog w K mg base CX0 3 fFi _ ["_law_script","_law_k","_law_number"] (spFill K):=ok_fill DFi DMx bMx GMx B.range
 have GOn:FnOk l.prog w K mg base CX0 4 fOn _ ["_law_script","_law_start"] (spOneN K):=ok_oneN DOn DC bC GC DFi bFi GFi B.abs B.int
 have GN:FnOk l.prog w K mg base CX0 4 fN _ ["_law_script","_law_start","_law_most"] (spNumb K):=ok_numb DN DC bC GC DMx bMx GMx DFi bFi GFi B.range B.abs B.int
 have GLi:FnOk l.prog w K mg base CX0 2 fLi _ ["_law_number"] spLine:=ok_line DLi B.abs B.min B.max
 have GCo:FnOk l.prog w K mg base CX0 1 fCo _ ["_law_number"] spColr:=ok_colr DCo B.range
 have GP:FnOk l.prog w K mg base CX0 3 fP _ ["_law_numbers_here","_law_names"] (spPairs K):=ok_pairs DP DLi bLi GLi B.len
 have GU:FnOk l.prog w K mg base CX0 1 fU _ ["_law_hole","_law_number"] spLTurn:=ok_lturn DU
 have GI:FnOk l.prog w K mg base CX0 2 fI _ ["_law_pairs_here","_law_number"] (spTurned K):=ok_lturned DI DU bU GU B.sorted B.min B.max
 have GW:FnOk l.prog w K mg base CX0 1 fW _ ["_law_pairs_here"] spHome:=ok_lhome DW B.min
 have GOt:FnOk l.prog w K mg base CX0 3 fOt _ ["_law_pairs_here","_law_number"] spOth:=ok_oth DOt DI bI GI B.len B.max B.sorted
 have GTu:FnOk l.prog w K mg base CX0 3 fTu _ ["_law_one_here","_law_other_here"] spTurns:=ok_turns DTu DI bI GI DW bW GW B.range
 exact ok_law DZ B DN bN GN DCo bCo GCo DP bP GP DOn bOn GOn DOt bOt GOt DTu bTu GTu DFm bFm GFm DM bM GM DK bK GK DJ bJ GJ DG bG GG DLs bLs GLs DJn bJn GJn
theorem walk {l:PySem.W.OpenLaw} {q:Program} {loose:List Str} {XP:(Str→Option Value)→Heap→Prop} {YP:World→Heap→Prop} {d:DefRec} {K:Params→PySem.W.Frag} (hn:l.most=some 63) (hdf:d.params.defaults=[])
  (hY:∀ (w:World) (h:Heap),YP w h→(K w.params).In h)
  (F:∀ (w:World) (mg:Str→Option Value) (fa:Addr) (h:Heap),(K w.params).In h→h.Ns mainGlobals mg→mg d.name=some (.ref fa) →
   ∃ fd:FuncData,(∀ (s:Shared) (u:Value),BindsTo s fd ⟨[u],[]⟩ [("_law_script",u)])∧∀ base:Heap,(K w.params).In base→base.Ns mainGlobals mg→FnOk l.prog w (K w.params) mg base CX0 7 fa fd ["_law_script"] (spLaw (K w.params))) :
  PySem.W.WalkO q loose XP YP l.row.toRowW d [] (fun f vs=>PySem.call f vs) :=
 L2.walk_of (n:=63) (k:=7) (x:="_law_script") (CX:=fun _=>CX0) (sp:=fun w=>spLaw (K w.params)) hn (by decide) hdf ⟨rfl,by decide,by decide⟩ hY F (fun _ _ a ns hl _ hS=>⟨a,ns,rfl,hS,hl,fun _=>rfl⟩) fun _ _ _ _ _ z=>z
end K20
open PySem PySem.W PyProof.Rows
set_option maxRecDepth 100000 in
set_option maxHeartbeats 0 in
theorem PySem.Challenge.cw_bothfaces_k20_whole_forms_tell_pictures_holds : PySem.Challenge.rw_bothfaces_k20_whole_forms_tell_pictures.Holds := by
 w_on; o_law; k_head; (case hw=>w_witness2)
 k_fill
 refine K20.walk (l:=PySem.Challenge.rw_bothfaces_k20_whole_forms_tell_pictures) rfl rfl (fun w h Y=>PySem.W.kIn_of Y) ?F
 case F =>
  intro w mg fa h KX G hmg
  refine' K20.all_mk KX G hmg ?aV ?lV ?cV ?kV ?aH ?lH ?cH ?kH ?aA ?lA ?cA ?kA ?aB ?lB ?cB ?kB ?aD ?lD ?cD ?kD ?aF ?lF ?cF ?kF ?aK ?lK ?cK ?kK ?aG ?lG ?cG ?kG ?aT ?lT ?cT ?kT ?aL ?lL ?cL ?kL ?aR ?lR ?cR ?kR ?aJn ?lJn ?cJn ?kJn ?aLs ?lLs ?cLs ?kLs ?aM ?lM ?cM ?kM ?aQ ?lQ ?cQ ?kQ ?aFm ?lFm ?cFm ?kFm ?aJ ?lJ ?cJ ?kJ ?aC ?lC ?cC ?kC ?aMx ?lMx ?cMx ?kMx ?aFi ?lFi ?cFi ?kFi ?aOn ?lOn ?cOn ?kOn ?aN ?lN ?cN ?kN ?aLi ?lLi ?cLi ?kLi ?aCo ?lCo ?cCo ?kCo ?aP ?lP ?cP ?kP ?aU ?lU ?cU ?kU ?aI ?lI ?cI ?kI ?aW ?lW ?cW ?kW ?aOt ?lOt ?cOt ?kOt ?aTu ?lTu ?cTu ?kTu ?aZ ?lZ ?cZ ?kZ ?n0 ?n1 ?n2 ?T1 ?T2 ?z_int ?z_len ?z_range ?z_abs ?z_min ?z_max ?z_set ?z_sorted ?z_dict ?z_enum ?g_most ?g_qua ?g_tur
  (case aV=>k_is)
  (case lV=>k_is)
  (case cV=>k_is)
  (case kV=>k_is)
  (case aH=>k_is)
  (case lH=>k_is)
  (case cH=>k_is)
  (case kH=>k_is)
  (case aA=>k_is)
  (case lA=>k_is)
  (case cA=>k_is)
  (case kA=>k_is)
  (case aB=>k_is)
  (case lB=>k_is)
  (case cB=>k_is)
  (case kB=>k_is)
  (case aD=>k_is)
  (case lD=>k_is)
  (case cD=>k_is)
  (case kD=>k_is)
  (case aF=>k_is)
  (case lF=>k_is)
  (case cF=>k_is)
  (case kF=>k_is)
  (case aK=>k_is)
  (case lK=>k_is)
  (case cK=>k_is)
  (case kK=>k_is)
  (case aG=>k_is)
  (case lG=>k_is)
  (case cG=>k_is)
  (case kG=>k_is)
  (case aT=>k_is)
  (case lT=>k_is)
  (case cT=>k_is)
  (case kT=>k_is)
  (case aL=>k_is)
  (case lL=>k_is)
  (case cL=>k_is)
  (case kL=>k_is)
  (case aR=>k_is)
  (case lR=>k_is)
  (case cR=>k_is)
  (case kR=>k_is)
  (case aJn=>k_is)
  (case lJn=>k_is)
  (case cJn=>k_is)
  (case kJn=>k_is)
  (case aLs=>k_is)
  (case lLs=>k_is)
  (case cLs=>k_is)
  (case kLs=>k_is)
  (case aM=>k_is)
  (case lM=>k_is)
  (case cM=>k_is)
  (case kM=>k_is)
  (case aQ=>k_is)
  (case lQ=>k_is)
  (case cQ=>k_is)
  (case kQ=>k_is)
  (case aFm=>k_is)
  (case lFm=>k_is)
  (case cFm=>k_is)
  (case kFm=>k_is)
  (case aJ=>k_is)
  (case lJ=>k_is)
  (case cJ=>k_is)
  (case kJ=>k_is)
  (case aC=>k_is)
  (case lC=>k_is)
  (case cC=>k_is)
  (case kC=>k_is)
  (case aMx=>k_is)
  (case lMx=>k_is)
  (case cMx=>k_is)
  (case kMx=>k_is)
  (case aFi=>k_is)
  (case lFi=>k_is)
  (case cFi=>k_is)
  (case kFi=>k_is)
  (case aOn=>k_is)
  (case lOn=>k_is)
  (case cOn=>k_is)
  (case kOn=>k_is)
  (case aN=>k_is)
  (case lN=>k_is)
  (case cN=>k_is)
  (case kN=>k_is)
  (case aLi=>k_is)
  (case lLi=>k_is)
  (case cLi=>k_is)
  (case kLi=>k_is)
  (case aCo=>k_is)
  (case lCo=>k_is)
  (case cCo=>k_is)
  (case kCo=>k_is)
  (case aP=>k_is)
  (case lP=>k_is)
  (case cP=>k_is)
  (case kP=>k_is)
  (case aU=>k_is)
  (case lU=>k_is)
  (case cU=>k_is)
  (case kU=>k_is)
  (case aI=>k_is)
  (case lI=>k_is)
  (case cI=>k_is)
  (case kI=>k_is)
  (case aW=>k_is)
  (case lW=>k_is)
  (case cW=>k_is)
  (case kW=>k_is)
  (case aOt=>k_is)
  (case lOt=>k_is)
  (case cOt=>k_is)
  (case kOt=>k_is)
  (case aTu=>k_is)
  (case lTu=>k_is)
  (case cTu=>k_is)
  (case kTu=>k_is)
  (case aZ=>k_is)
  (case lZ=>k_is)
  (case cZ=>k_is)
  (case kZ=>k_is)
  (case n0=>k_is)
  (case n1=>k_is)
  (case n2=>k_is)
  (case T1=>exact ⟨⟨by k_is,by k_is,by k_is,by k_is,by k_is,by k_is,by k_is,by k_is⟩,by k_exc,by kts_exm,by kit_is,by kit_is,by kit_is⟩)
  (case T2=>exact ⟨⟨by k_is,by k_is,by k_is,by k_is,by k_is,by k_is,by k_is,by k_is⟩,by k_exc,by kts_exm,by kit_is,by kit_is,by kit_is⟩)
  (case z_int=>k_is)
  (case z_len=>k_is)
  (case z_range=>k_is)
  (case z_abs=>k_is)
  (case z_min=>k_is)
  (case z_max=>k_is)
  (case z_set=>k_is)
  (case z_sorted=>k_is)
  (case z_dict=>k_is)
  (case z_enum=>k_is)
  (case g_most=>k_is)
  (case g_qua=>k_is)
  (case g_tur=>k_is)
