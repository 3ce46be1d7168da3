import PyProof.Rows.All
import Wide.All
import OpenK.AllK
import Wide.FinOn
import Lean
import PyProof.EqAt
import PyProof.EqKinds
import PyProof.TupleCall
import PyProof.NeKinds
import Wide.Seal
import KE.KDictList
import KE.KSortTup
import KE.KDictOf
import KE.KTryMore
import PyProof.CompUse
import PyProof.AttrMissHeap
import PyProof.Rows.TupTab
import PyProof.ZipIter
import PyProof.Rows.ZipGen
import PyProof.LayNew
import KE.KRevSl
import PyProof.SumWalk
import PyProof.EnumMake
import PyProof.EnumFor
import PyProof.Rows.EnumRows
import PyProof.ListRange
import PyProof.Rows.Range3
import PyProof.Rows.TupDisplay
import PyProof.ListIndex
import PyProof.StrOps2
import PyProof.NoPylong
import PyProof.Draws
import PyProof.Conv_int_bool
import KE.KItemsList
import PyProof.FactsAll.set_2
import PyProof.MeetsSeq2
import PyProof.StrCalls2
import KE.KIntText
import PyProof.Rows.StrItems
import PyProof.MeetsStr2
import PyProof.StrLawsChain
import PyProof.StrLawsTight
import PyProof.StrLaws
import PyProof.Rows.ReprOcc
import KE.KRevIter
import PyProof.CollectWalk
import PyProof.ListNew
import PyProof.WalksS
import PyProof.DictItems
import KE.KPairComp
import PyProof.Rows.FStr
import KE.KxText
import PyProof.Rows.CatFin
import KE.IntTextText
import PyProof.StrLawsIn
import PyProof.Rows.StrClip
import PySem.Challenge.RW_bothfaces_k22_no_drawings
set_option Elab.async false
set_option linter.all false
set_option maxRecDepth 100000
set_option maxHeartbeats 4000000
namespace L2
open PySem PySem.Spec PyProof.Rows
abbrev Key:=Sum Int Str
def keyIs:Key→Value→Bool
 | .inl k,v=>Value.isInt k v
 | .inr x,v=>Value.isStrOf x v
def keyH (w:World):Key→Int
 | .inl k=>hashInt k
 | .inr x=>hashStr w x
theorem keyIs_shape:∀ {k:Key} {v:Value},keyIs k v=true→(∃ i t,k=Sum.inl i∧v=Value.int i t)∨(∃ x t,k=Sum.inr x∧v=Value.str x t)
 | .inl i,v,h=>by
  obtain ⟨t,e⟩:=Value.isInt_shape (k:=i) (v:=v) h
  exact .inl ⟨i,t,rfl,e⟩
 | .inr x,v,h=>by
  obtain ⟨t,e⟩:=Value.isStrOf_shape (x:=x) (v:=v) h
  exact .inr ⟨x,t,rfl,e⟩
theorem keyIs_int (i:Int) (t:Tok):keyIs (.inl i) (.int i t)=true:=by simp [keyIs,Value.isInt]
theorem keyIs_str (x:Str) (t:Tok):keyIs (.inr x) (.str x t)=true:=by simp [keyIs,Value.isStrOf]
theorem key_ll (a b:Int):decide ((Sum.inl a:Key)=Sum.inl b)=(a == b):=by
 by_cases e:a=b
 ·subst e; simp
 ·have h:¬ (Sum.inl a:Key)=Sum.inl b:=fun q=>e (Sum.inl.inj q)
  rw [decide_eq_false h]
  exact (beq_eq_false_iff_ne.mpr e).symm
theorem key_rr (a b:Str):decide ((Sum.inr a:Key)=Sum.inr b)=decide (a=b):=by
 by_cases e:a=b
 ·subst e; simp
 ·have h:¬ (Sum.inr a:Key)=Sum.inr b:=fun q=>e (Sum.inr.inj q)
  rw [decide_eq_false h,decide_eq_false e]
theorem key_lr (a:Int) (b:Str):decide ((Sum.inl a:Key)=Sum.inr b)=false:=decide_eq_false (fun q=>nomatch q)
theorem key_rl (a:Str) (b:Int):decide ((Sum.inr a:Key)=Sum.inl b)=false:=decide_eq_false (fun q=>nomatch q)
def mixKind (prog:Program) (w:World):PySem.KeyKind prog w Key where
 is:=keyIs
 hash:=keyH w
 inj:=fun v a b ha hb=>by
  rcases keyIs_shape ha with ⟨i,t,rfl,rfl⟩ | ⟨x,t,rfl,rfl⟩
  ·rcases keyIs_shape hb with ⟨j,u,rfl,e⟩ | ⟨y,u,rfl,e⟩
   ·injection e with e1 _; rw [e1]
   ·exact nomatch e
  ·rcases keyIs_shape hb with ⟨j,u,rfl,e⟩ | ⟨y,u,rfl,e⟩
   ·exact nomatch e
   ·injection e with e1 _; rw [e1]
 byValue:=fun k v h=>by
  rcases keyIs_shape h with ⟨i,t,rfl,rfl⟩ | ⟨x,t,rfl,rfl⟩ <;> rfl
 pyHash:=fun hv h=>by
  rcases keyIs_shape hv with ⟨i,t,rfl,rfl⟩ | ⟨x,t,rfl,rfl⟩
  ·exact wpAny_pyHash_int h
  ·exact wpAny_pyHash_str h
 eqBool:=fun hu hv h=>by
  rcases keyIs_shape hu with ⟨i,t,rfl,rfl⟩ | ⟨x,t,rfl,rfl⟩
  ·rcases keyIs_shape hv with ⟨j,u,rfl,rfl⟩ | ⟨y,u,rfl,rfl⟩
   ·rw [key_ll] at h; exact wpAny_eqBool_int h
   ·rw [key_lr] at h; exact SeqAt.EqAt.int_str i t y u _ _ _ _ h
  ·rcases keyIs_shape hv with ⟨j,u,rfl,rfl⟩ | ⟨y,u,rfl,rfl⟩
   ·rw [key_rl] at h; exact SeqAt.EqAt.str_int x t j u _ _ _ _ h
   ·rw [key_rr] at h; exact wpAny_eqBool_str h
 «strs»:=fun k x t v h=>by
  rcases keyIs_shape h with ⟨i,u,rfl,e⟩ | ⟨y,u,rfl,e⟩
  ·exact nomatch e
  ·injection e with e1 _
   subst e1
   cases v <;> rfl
theorem mixKind_int (prog:Program) (w:World) (i:Int) (t:Tok):(mixKind prog w).is (.inl i) (.int i t)=true:=keyIs_int i t
theorem mixKind_str (prog:Program) (w:World) (x:Str) (t:Tok):(mixKind prog w).is (.inr x) (.str x t)=true:=keyIs_str x t
inductive V where
 | non | bl (b:Bool) | int (i:Int) | str (x:Str) | byt (b:Array UInt8) | flt (b:UInt64) | ref (a:Addr) | ty (n:String)
 deriving DecidableEq
def RelV:V→Value→Prop
 | .non,u=>u=Value.none
 | .bl b,u=>u=Value.bool b
 | .int i,u=>∃ t,u=Value.int i t
 | .str x,u=>∃ t,u=Value.str x t
 | .byt b,u=>∃ t,u=Value.bytes b t
 | .flt b,u=>∃ t,u=Value.float b t
 | .ref a,u=>u=Value.ref a
 | .ty n,u=>u=Value.type n
abbrev Vals:List V→List Value→Prop:=Paired RelV
theorem Vals.length {xs:List V} {us:List Value} (r:Vals xs us):xs.length=us.length:=Paired.length r
theorem Vals.get:∀ {xs:List V} {us:List Value} {i:Nat} {x:V},Vals xs us→xs[i]?=some x→∃ u,us[i]?=some u∧RelV x u
 | _,_,_,_,.nil,e=>by simp at e
 | _,_,0,_,.cons r _,e=>by simp at e; subst e; exact ⟨_,rfl,r⟩
 | _,_,i + 1,x,.cons _ t,e=>by
  obtain ⟨u,h1,h2⟩:=Vals.get (i:=i) (x:=x) t (by simpa using e)
  exact ⟨u,by simpa using h1,h2⟩
theorem Vals.append:∀ {xs ys:List V} {us ws:List Value},Vals xs us→Vals ys ws→Vals (xs ++ ys) (us ++ ws)
 | _,_,_,_,.nil,s=>s
 | _,_,_,_,.cons r t,s=>.cons r (Vals.append t s)
theorem Vals.take:∀ {xs:List V} {us:List Value} (n:Nat),Vals xs us→Vals (xs.take n) (us.take n)
 | _,_,0,_=>.nil
 | _,_,_ + 1,.nil=>.nil
 | _,_,n + 1,.cons r t=>.cons r (Vals.take n t)
theorem Vals.drop:∀ {xs:List V} {us:List Value} (n:Nat),Vals xs us→Vals (xs.drop n) (us.drop n)
 | _,_,0,r=>r
 | _,_,_ + 1,.nil=>.nil
 | _,_,n + 1,.cons _ t=>Vals.drop n t
def RelO:Option V→Option Value→Prop
 | some v,some u=>RelV v u
 | none,none=>True
 | _,_=>False
def KV {κ:Type}:List (κ×V)→List (κ×Value)→Prop:=Paired fun (p:κ×V) (q:κ×Value)=>p.1=q.1∧RelV p.2 q.2
def kV:Key→V
 | .inl i=>.int i
 | .inr x=>.str x
inductive HO where
 | lst (xs:List V)
 | tup (xs:List V)
 | dK (kvs:List (Key×V)) | dT (kvs:List (List Key×V))
 | set (S:Int→Bool) (n:Nat)
 | ins (C dx:Addr) (fs:List (Str×V))
 | own (x:Addr)
 | xd (fs:List (Str×V))
 | met (f x:Addr)
 | rng (lo hi:Int)
 | frz (o:Obj) (u:HO)
 | tbl (ps:Array Value)
 | ext (φ:Heap→Prop)
abbrev Hp:=Addr→Option HO
def upd (H:Hp) (a:Addr) (o:HO):Hp:=fun b=>if b=a then some o else H b
theorem upd_same {H:Hp} {a:Addr} {o:HO}:upd H a o a=some o:=by unfold upd; rw [if_pos rfl]
theorem upd_ne {H:Hp} {a b:Addr} {o:HO} (h:b≠a):upd H a o b=H b:=by unfold upd; rw [if_neg h]
theorem ne_of {H:Hp} {a b:Addr} {o u:HO} (h:H a=some o) (h':H b=some u) (d:o≠u):a≠b:=by
 intro e; subst e; rw [h] at h'; exact d (Option.some.inj h')
theorem ne_of_none {H:Hp} {a b:Addr} {o:HO} (h:H a=some o) (h':H b=none):a≠b:=by
 intro e; subst e; rw [h] at h'; cases h'
def TupX (h:Heap) (a:Addr) (items:Array Value):Prop:=∃ o,h.get? a=some o∧o.cls=.type "tuple"∧∃ n,(o.data,o.dict)=(.seq items n,(none:Option Addr))
theorem TupX.tup {h:Heap} {a:Addr} {items:Array Value} (p:TupX h a items):IsTup h a items:=by
 obtain ⟨o,e,c,n,d⟩:=p
 exact ⟨o,e,c,n,congrArg Prod.fst d⟩
theorem TupX.new (h:Heap) (items:Array Value):TupX (h.push { cls:=.type "tuple",data:=.seq items }) h.objs.size items:=⟨_,Heap.get?_push_size _ rfl,rfl,_,rfl⟩
section
variable (P:Program) (w:World)
def ObjOk (H:Hp) (h:Heap) (a:Addr):HO→Prop
 | .lst xs=>xs.length≤sizeLine∧∃ (its:List Value) (n:Nat),Vals xs its∧h.get? a=some { cls:=.type "list",data:=.seq its.toArray n }
 | .tup xs=>xs.length≤sizeLine∧∃ its:List Value,Vals xs its∧TupX h a its.toArray
 | .dK kvs=>kvs.length≤sizeLine∧(a == sysModules)=false∧∃ vs,KV kvs vs∧h.DictOf (mixKind P w) a vs
 | .dT kvs=>kvs.length≤sizeLine∧(a == sysModules)=false∧∃ xs:List (List Key×Addr×Value),
   Paired (fun (p:List Key×V) (q:List Key×Addr×Value)=>p.1=q.1∧H q.2.1=some (.tup (p.1.map kV))∧RelV p.2 q.2.2) kvs xs ∧
   ∃ o es ep,h.get? a=some o∧o.ExactDict∧o.data=.dict es ep∧es.toList=xs.map (entryOfKey (tupleKind (mixKind P w)))∧(xs.map (·.1)).Nodup
 | .set S n=>h.SetOf (intKind P w) a S n
 | .ins C dx fs=>H dx=some (.own a)∧fs.length≤1000∧dx≠a∧h.get? a=some (PySem.W.instObj C dx) ∧
   ∃ mA,h.Ns1 dx mA∧(∀ f,RelO (fs.lookup f) (mA f))∧PySem.Within mA (fs.map (·.1))
 | .own _=>∃ o,h.get? a=some o
 | .xd fs=>∃ mA,h.Ns1 a mA∧∀ f,RelO (fs.lookup f) (mA f)
 | .rng lo hi=>∃ t u v,h.get? a=some { cls:=.type "range",data:=.fields #[.int lo t,.int hi u,.int 1 v] }
 | .frz o u=>h.get? a=some o∧ObjOk H h a u
 | .tbl ps=>h.get? a=some { cls:=.none,data:=.fields ps }
 | .met f x=>h.get? a=some (PySem.W.methodObj (.ref f) (.ref x))
 | .ext φ=>φ h∧(∃ o,h.get? a=some o)∧∀ h1 h2:Heap,φ h1→(∀ o,h1.get? a=some o→h2.get? a=some o)→φ h2
def HOk (H:Hp) (h:Heap):Prop:=∀ a o,H a=some o→ObjOk P w H h a o
end
section
variable {P:Program} {w:World} {H H':Hp} {h h':Heap} {a:Addr} {o:HO}
theorem ObjOk.lt (x:ObjOk P w H h a o):a < h.objs.size:=by
 cases o with
 | lst xs=>obtain ⟨_,_,_,_,e⟩:=x; exact Heap.lt_size e
 | tup xs=>obtain ⟨_,_,_,p⟩:=x; exact p.tup.lt
 | dK kvs=>obtain ⟨_,_,_,_,o,_,_,e,_⟩:=x; exact Heap.lt_size e
 | dT kvs=>obtain ⟨_,_,_,_,o,_,_,e,_⟩:=x; exact Heap.lt_size e
 | set S n=>obtain ⟨o,_,_,_,e,_⟩:=x; exact Heap.lt_size e
 | ins C dx fs=>obtain ⟨_,_,_,e,_⟩:=x; exact Heap.lt_size e
 | own y=>obtain ⟨_,e⟩:=x; exact Heap.lt_size e
 | xd fs=>obtain ⟨_,⟨_,_,_,e,_⟩,_⟩:=x; exact Heap.lt_size e
 | rng lo hi=>obtain ⟨_,_,_,e⟩:=x; exact Heap.lt_size e
 | frz ob u=>obtain ⟨e,_⟩:=x; exact Heap.lt_size e
 | tbl ps=>exact Heap.lt_size (show h.get? a=some _ from x)
 | met f y=>exact Heap.lt_size (show h.get? a=some _ from x)
 | ext φ=>obtain ⟨_,⟨_,e⟩,_⟩:=x; exact Heap.lt_size e
theorem Paired.mapP {α β:Type} {F G:α→β→Prop}:∀ {l₁:List α} {l₂:List β},Paired F l₁ l₂→(∀ a b,F a b→G a b)→Paired G l₁ l₂
 | _,_,.nil,_=>.nil
 | _,_,.cons r t,f=>.cons (f _ _ r) (Paired.mapP t f)
theorem ObjOk.stay (x:ObjOk P w H h a o) (k:∀ b u,(b=a∨H b=some (.own a))→h.get? b=some u→h'.get? b=some u)
  (ho:∀ b,H b=some (.own a)→H' b=some (.own a)) (ht:∀ b xs,H b=some (.tup xs)→H' b=some (.tup xs)):ObjOk P w H' h' a o:=by
 induction o with
 | lst xs=>obtain ⟨z,its,n,r,e⟩:=x; exact ⟨z,its,n,r,k _ _ (.inl rfl) e⟩
 | tup xs=>obtain ⟨z,its,r,ob,e,c⟩:=x; exact ⟨z,its,r,ob,k _ _ (.inl rfl) e,c⟩
 | dK kvs=>obtain ⟨z,y,vs,r,ob,es,ep,e,c⟩:=x; exact ⟨z,y,vs,r,ob,es,ep,k _ _ (.inl rfl) e,c⟩
 | dT kvs =>
  obtain ⟨z,y,xs,r,ob,es,ep,e,c⟩:=x
  exact ⟨z,y,xs,Paired.mapP r fun p q z=>⟨z.1,ht _ _ z.2.1,z.2.2⟩,ob,es,ep,k _ _ (.inl rfl) e,c⟩
 | set S n=>obtain ⟨ob,es,ep,t,e,c⟩:=x; exact ⟨ob,es,ep,t,k _ _ (.inl rfl) e,c⟩
 | ins C dx fs =>
  obtain ⟨d,z,ne,e,mA,⟨od,es,ep,e2,c⟩,r⟩:=x
  exact ⟨ho _ d,z,ne,k _ _ (.inl rfl) e,mA,⟨od,es,ep,k _ _ (.inr d) e2,c⟩,r⟩
 | own y=>obtain ⟨ob,e⟩:=x; exact ⟨ob,k _ _ (.inl rfl) e⟩
 | xd fs=>obtain ⟨mA,⟨od,es,ep,e,c⟩,r⟩:=x; exact ⟨mA,⟨od,es,ep,k _ _ (.inl rfl) e,c⟩,r⟩
 | rng lo hi=>obtain ⟨t,u,v,e⟩:=x; exact ⟨t,u,v,k _ _ (.inl rfl) e⟩
 | frz ob u ih=>obtain ⟨e,q⟩:=x; exact ⟨k _ _ (.inl rfl) e,ih q⟩
 | tbl ps =>
  have e:h.get? a=some { cls:=.none,data:=.fields ps }:=x
  show h'.get? a=some { cls:=.none,data:=.fields ps }
  exact k a _ (.inl rfl) e
 | met f y =>
  have e:h.get? a=some (PySem.W.methodObj (.ref f) (.ref y)):=x
  show h'.get? a=some (PySem.W.methodObj (.ref f) (.ref y))
  exact k a _ (.inl rfl) e
 | ext φ=>obtain ⟨p,⟨o,e⟩,st⟩:=x; exact ⟨st _ _ p fun o q=>k _ _ (.inl rfl) q,⟨o,k _ _ (.inl rfl) e⟩,st⟩
theorem HOk.lt (x:HOk P w H h) (e:H a=some o):a < h.objs.size:=(x a o e).lt
theorem HOk.fresh (x:HOk P w H h) (e:h.objs.size≤a):H a=none:=by
 cases q:H a with
 | none=>rfl
 | some u=>exact absurd (Nat.lt_of_lt_of_le (x.lt q) e) (Nat.lt_irrefl _)
theorem HOk.kept (x:HOk P w H h) (k:∀ b u,h.get? b=some u→h'.get? b=some u):HOk P w H h':=fun a o e =>
 (x a o e).stay (fun b u _ q=>k b u q) (fun _ q=>q) fun _ _ q=>q
theorem HOk.laid (x:HOk P w H h) (k:∀ b u,h.get? b=some u→h'.get? b=some u) (hp:h.objs.size≤a) (new:ObjOk P w (upd H a o) h' a o):HOk P w (upd H a o) h':=fun b u e=>by
 have hn:=x.fresh hp
 by_cases hb:b=a
 ·subst hb; rw [upd_same] at e; cases e; exact new
 ·rw [upd_ne hb] at e
  exact (x b u e).stay (fun c v _ q=>k c v q) (fun c q=>by rw [upd_ne (ne_of_none q hn)]; exact q) fun c xs q=>by rw [upd_ne (ne_of_none q hn)]; exact q
end
def Rd (H:Hp) (a:Addr) (u:HO):Prop:=H a=some u∨∃ o,H a=some (.frz o u)
theorem Rd.ok {P:Program} {w:World} {H:Hp} {h:Heap} {a:Addr} {u:HO} (r:Rd H a u) (x:HOk P w H h):ObjOk P w H h a u:=by
 rcases r with r | ⟨o,r⟩
 ·exact x a u r
 ·obtain ⟨_,q⟩:=x a _ r
  exact q
def Mut:Option HO→Prop
 | some (.lst _)=>True
 | some (.dK _)=>True
 | some (.dT _)=>True
 | some (.set _ _)=>True
 | some (.ins _ _ _)=>True
 | some (.ext _)=>True
 | _=>False
section
variable {P:Program} {w:World} {H:Hp} {h h':Heap} {x e:Addr} {o':HO}
theorem HOk.write (ok:HOk P w H h) (mu:Mut (H x)) (he:e=x∨H e=some (.own x)) (k:∀ b u,b≠e→h.get? b=some u→h'.get? b=some u) (heo:∃ u,h'.get? e=some u)
  (new:ObjOk P w (upd H x o') h' x o'):HOk P w (upd H x o') h':=fun b u q=>by
 have nown:∀ c y,H c=some (.own y)→c≠x:=fun c y r z=>by subst z; rw [r] at mu; exact mu
 have ntup:∀ c xs,H c=some (.tup xs)→c≠x:=fun c xs r z=>by subst z; rw [r] at mu; exact mu
 by_cases hb:b=x
 ·subst hb; rw [upd_same] at q; cases q; exact new
 ·rw [upd_ne hb] at q
  by_cases hbe:b=e
  ·have q':H b=some (.own x):=by
    rcases he with z | z
    ·exact absurd (hbe.trans z) hb
    ·rw [hbe]; exact z
   rw [q] at q'; cases q'
   obtain ⟨v,hv⟩:=heo
   exact ⟨v,by rw [hbe]; exact hv⟩
  ·refine (ok b u q).stay (fun c v hc r=>k c v ?_ r) (fun c r=>by rw [upd_ne (nown c b r)]; exact r) fun c xs r=>by rw [upd_ne (ntup c xs r)]; exact r
   rcases hc with rfl | hc
   ·exact hbe
   ·rintro rfl
    rcases he with z | z
    ·exact nown c b hc z
    ·rw [hc] at z; cases z; exact hb rfl
end
structure Un (fs ex:List Addr) (H H':Hp) (h h':Heap):Prop where
 keep:∀ b o,h.get? b=some o→H b=none→b ∉ fs→b ∉ ex→h'.get? b=some o
 slot:∀ b o,h.get? b=some o→H b=none→b∈fs→b ∉ ex→∃ sl,h'.get? b=some { o with slots:=sl }
 free:∀ b o,h.get? b=some o→H b=none→b ∉ ex→H' b=none
 there:∀ b o,h.get? b=some o→b ∉ ex→∃ o',h'.get? b=some o'
 tups:∀ b xs,H b=some (.tup xs)→H' b=some (.tup xs)
 frzs:∀ b o u,H b=some (.frz o u)→H' b=some (.frz o u)
 tbls:∀ b ps,H b=some (.tbl ps)→∃ more,H' b=some (.tbl (ps ++ more))
section
variable {fs fs' ex ex':List Addr} {H H1 H2:Hp} {h h1 h2 h':Heap} {a x e:Addr} {o:HO}
theorem Un.any (u:Un fs ex H H1 h h1) {b:Addr} {ob:Obj} (q:h.get? b=some ob) (n:H b=none) (hx:b ∉ ex):∃ sl,h1.get? b=some { ob with slots:=sl }:=by
 by_cases hb:b∈fs
 ·exact u.slot b ob q n hb hx
 ·exact ⟨ob.slots,u.keep b ob q n hb hx⟩
theorem Un.kept (k:∀ b u,h.get? b=some u→h'.get? b=some u):Un fs ex H H h h' :=
 ⟨fun b ob q _ _ _=>k b ob q,fun b ob q _ _ _=>⟨ob.slots,k b ob q⟩,fun _ _ _ n _=>n,fun b ob q _=>⟨ob,k b ob q⟩,fun _ _ q=>q,fun _ _ _ q=>q,fun _ ps q=>⟨#[],by rw [q]; simp⟩⟩
theorem Un.refl:Un fs ex H H h h:=Un.kept fun _ _ q=>q
theorem Un.laid (k:∀ b u,h.get? b=some u→h'.get? b=some u) (hp:h.objs.size≤a) (hn:H a=none):Un fs ex H (upd H a o) h h' where
 keep:=fun b u q _ _ _=>k b u q
 slot:=fun b u q _ _ _=>⟨u.slots,k b u q⟩
 free:=fun b u q n _=>by rw [upd_ne (Nat.ne_of_lt (Nat.lt_of_lt_of_le (Heap.lt_size q) hp))]; exact n
 there:=fun b u q _=>⟨u,k b u q⟩
 tups:=fun b xs q=>by rw [upd_ne (ne_of_none q hn)]; exact q
 frzs:=fun b u xs q=>by rw [upd_ne (ne_of_none q hn)]; exact q
 tbls:=fun b ps q=>⟨#[],by rw [upd_ne (ne_of_none q hn),q]; simp⟩
theorem Un.write (mu:Mut (H x)) (he:e=x∨H e=some (.own x)) (k:∀ b u,b≠e→h.get? b=some u→h'.get? b=some u) (heo:∃ u,h'.get? e=some u):Un fs ex H (upd H x o) h h':=by
 have hx:∀ b,H b=none→b≠x:=fun b n z=>by subst z; rw [n] at mu; exact mu
 have hb:∀ b,H b=none→b≠e:=fun b n z=>by
  subst z
  rcases he with r | r
  ·exact hx b n r
  ·rw [n] at r; cases r
 have hm:∀ b u,H b=some u→¬ Mut (some u)→b≠x:=fun b u q nm z=>by subst z; rw [q] at mu; exact nm mu
 refine ⟨fun b u q n _ _=>k b u (hb b n) q,fun b u q n _ _=>⟨u.slots,k b u (hb b n) q⟩,fun b u q n _=>by rw [upd_ne (hx b n)]; exact n,fun b u q _=>?_,
  fun b xs q=>by rw [upd_ne (hm b _ q fun z=>z)]; exact q,fun b u xs q=>by rw [upd_ne (hm b _ q fun z=>z)]; exact q,fun b ps q=>⟨#[],by rw [upd_ne (hm b _ q fun z=>z),q]; simp⟩⟩
 by_cases hbe:b=e
 ·subst hbe; exact heo
 ·exact ⟨u,k b u hbe q⟩
end
def trk (h:Heap) (H:Hp):List Addr:=(List.range h.objs.size).filter fun a=>(H a).isSome
def hidT (h:Heap) (H:Hp):Heap:=PySem.W.hideAll h (trk h H)
theorem hidT_size (h:Heap) (H:Hp):(hidT h H).objs.size=h.objs.size:=PySem.W.hideAll_size _ _
theorem hidT_get {h:Heap} {H:Hp} {b:Addr} {o:Obj} (e:h.get? b=some o) (n:H b=none):(hidT h H).get? b=some o :=
 PySem.W.hideAll_get _ e fun hm=>by
  have q:(H b).isSome=true:=(List.mem_filter.mp hm).2
  rw [n] at q; simp at q
theorem of_hidT {h:Heap} {H:Hp} {b:Addr} {o:Obj} (e:(hidT h H).get? b=some o):h.get? b=some o∧H b=none:=by
 have e':h.get? b=some o:=PySem.W.of_hideAll (trk h H) e
 refine ⟨e',?_⟩
 cases q:H b with
 | none=>rfl
 | some x =>
  have hm:b∈trk h H:=List.mem_filter.mpr ⟨List.mem_range.mpr (Heap.lt_size e'),by simp [q]⟩
  have z:(hidT h H).get? b=none:=PySem.W.hideAll_none (trk h H) hm
  rw [z] at e; cases e
structure Mod (K:PySem.W.Frag) (mg:Str→Option Value) (base:Heap):Prop where
 kin:K.In base
 glob:base.Ns mainGlobals mg
 blt:∃ mb,base.Ns builtinsNs mb∧∀ x:Str,x≠"__name__"→mb x=bootBuiltins x
 nolimit:base.NoLimit
structure Cx where
 prog:Program
 w:World
 K:PySem.W.Frag
 mg:Str→Option Value
 base:Heap
 A:Around
 N:List Str
 s₀:Shared
 H₀:Hp
 env:Env
 outer:List Env
 stack:List Env
 ex:List Addr
 fn:Str→Bool
 calm:Bool
 pn:List (Addr×Obj)
 xe:Value→Shared→Prop
def frs (l:List Env):List Addr:=l.filterMap (·.frame)
abbrev Cx.fs (X:Cx):List Addr:=frs X.outer
def Vis (sc:Scope) (x:Str):Prop:=sc.names.lookup x=some .local∨sc.names.lookup x=some .cell∨sc.names.lookup x=some .free
def Loc (sc:Scope) (x:Str):Prop:=sc.names.lookup x=some .local∨sc.names.lookup x=some .cell
def Look (env:Env) (h:Heap) (m:Str→Option Value) (x:Str) (u:Value):Prop :=
 (env.kindOf x=some .local∧m x=some u)∨((env.kindOf x=some .cell∨env.kindOf x=some .free)∧∃ c,env.cells.lookup x=some c∧h.IsCell c (some u))
structure Cx.Ok (X:Cx):Prop where
 mod:Mod X.K X.mg X.base
 kind:X.env.scope.kind=.function
 glob:X.env.globals=mainGlobals
 blt:X.env.builtins=builtinsNs
 above:X.s₀.heap.objs.size≤X.env.locals
 inj:∀ x y c,X.env.cells.lookup x=some c→X.env.cells.lookup y=some c→x=y
 has:∀ x,(X.env.kindOf x=some .cell∨X.env.kindOf x=some .free)→∃ c,X.env.cells.lookup x=some c
 cab:∀ x c,X.fn x=true→X.env.cells.lookup x=some c→X.s₀.heap.objs.size≤c
 hd:X.calm=true→X.A.handled=none
 frames:X.A.frames=some X.stack
 stk:X.stack=X.outer∨(X.stack=X.env :: X.outer∧X.env.frame=some X.env.locals)
 exf:∀ b∈X.ex,b≠X.env.locals∧∀ x c,X.env.cells.lookup x=some c→c≠b
 bs:∀ b o,X.base.get? b=some o→X.s₀.heap.get? b=some o∧X.H₀ b=none
 bsz:X.base.objs.size≤X.s₀.heap.objs.size
 noex:∀ b o,X.base.get? b=some o→b ∉ X.ex
 exfs:∀ b∈X.ex,b ∉ X.fs
 funs:X.s₀.heap.FunFrames X.base X.outer
 frf:∀ b∈X.fs,X.H₀ b=none
structure Inv (X:Cx) (pins:List (Addr×Obj)) (σ:List (Option V)) (H:Hp) (s:Shared):Prop where
 ok:X.Ok
 os:s.os=X.s₀.os
 bare:AllBare s.gens
 base:Un X.fs X.ex X.H₀ H X.s₀.heap s.heap
 loc:∃ m,s.heap.Ns X.env.locals m∧∀ (i:Nat) (x:Str) (v:V),X.N[i]?=some x→σ[i]?=some (some v)→Vis X.env.scope x→∃ u,RelV v u∧Look X.env s.heap m x u
 cell:∀ x c,X.env.cells.lookup x=some c→∃ v,s.heap.IsCell c v
 free:H X.env.locals=none
 freeC:∀ x c,X.env.cells.lookup x=some c→H c=none
 pin:∀ p∈X.pn ++ pins,s.heap.get? p.1=some p.2∧H p.1=none∧p.1≠X.env.locals∧p.1 ∉ X.fs∧∀ v,p.2.data≠.cell v
 hok:HOk X.prog X.w H s.heap
 len:σ.length=X.N.length
section
variable {X:Cx} {pins:List (Addr×Obj)} {σ:List (Option V)} {H H':Hp} {s:Shared} {h':Heap}
theorem Cx.Ok.nofr (ok:X.Ok) {b:Addr} {o:Obj} (e:X.base.get? b=some o):b ∉ X.fs:=fun hb=>by
 have:=(ok.funs.mem hb).1
 rw [e] at this; cases this
theorem Inv.bs (I:Inv X pins σ H s):∀ b o,X.base.get? b=some o→s.heap.get? b=some o∧H b=none:=fun b o e =>
 ⟨I.base.keep b o (I.ok.bs b o e).1 (I.ok.bs b o e).2 (I.ok.nofr e) (I.ok.noex b o e),I.base.free b o (I.ok.bs b o e).1 (I.ok.bs b o e).2 (I.ok.noex b o e)⟩
theorem Inv.bk (I:Inv X pins σ H s):∀ b o,X.base.get? b=some o→s.heap.get? b=some o:=fun b o e=>(I.bs b o e).1
theorem Inv.mod (I:Inv X pins σ H s):Mod X.K X.mg X.base:=I.ok.mod
theorem Inv.kIn (I:Inv X pins σ H s):X.K.In s.heap:=I.ok.mod.kin.keeps I.bk
theorem Inv.lt (I:Inv X pins σ H s):X.env.locals < s.heap.objs.size:=let ⟨_,hn,_⟩:=I.loc; hn.lt
theorem Inv.sz (I:Inv X pins σ H s):X.s₀.heap.objs.size≤s.heap.objs.size:=Nat.le_trans I.ok.above (Nat.le_of_lt I.lt)
theorem Inv.nofs (I:Inv X pins σ H s) {a:Addr} (h:s.heap.objs.size≤a):a ∉ X.fs:=fun hb=>by
 obtain ⟨_,o,ho,_⟩:=I.ok.funs.mem hb
 exact absurd (Nat.lt_of_lt_of_le (Heap.lt_size ho) (Nat.le_trans I.sz h)) (Nat.lt_irrefl _)
theorem Inv.cne (I:Inv X pins σ H s):∀ x c,X.env.cells.lookup x=some c→c≠X.env.locals:=fun x c e z=>by
 obtain ⟨v,o,ho,hd⟩:=I.cell x c e
 obtain ⟨m,⟨o',es,ep,ho',hd',_⟩,_⟩:=I.loc
 rw [z,ho'] at ho; cases ho; rw [hd'] at hd; cases hd
theorem Inv.funs (I:Inv X pins σ H s):s.heap.FunFrames X.base X.outer:=by
 have all:∀ (l:List Env),(∀ b∈frs l,b∈X.fs)→X.s₀.heap.FunFrames X.base l→s.heap.FunFrames X.base l:=by
  intro l
  induction l with
  | nil=>intro _ _; trivial
  | cons env r ih =>
   intro hs hl
   obtain ⟨hk,⟨L,o,hf,hn,ho,hd⟩,hr⟩:=hl
   have hL:L∈X.fs:=hs L (by unfold frs; rw [List.filterMap_cons,hf]; exact List.mem_cons_self)
   obtain ⟨sl,e⟩:=I.base.slot L o ho (I.ok.frf L hL) hL fun z=>I.ok.exfs L z hL
   exact ⟨hk,⟨L,_,hf,hn,e,hd⟩,ih (fun b hb=>hs b (by unfold frs; rw [List.filterMap_cons,hf]; exact List.mem_cons_of_mem _ hb)) hr⟩
 exact all X.outer (fun _ hb=>hb) I.ok.funs
theorem Inv.stack (I:Inv X pins σ H s):s.heap.FunFrames X.base X.stack:=by
 rcases I.ok.stk with e | ⟨e,hf⟩
 ·rw [e]; exact I.funs
 ·rw [e]
  obtain ⟨m,hn,_⟩:=I.loc
  refine .cons (by rw [I.ok.kind]; decide) hf hn ?_ I.funs
  exact Heap.get?_none_of_le (Nat.le_trans I.ok.bsz I.ok.above)
theorem Inv.stkSub (I:Inv X pins σ H s):∀ b∈frs X.stack,b∈X.env.locals :: X.fs:=fun b hb=>by
 rcases I.ok.stk with e | ⟨e,hf⟩
 ·rw [e] at hb; exact List.mem_cons_of_mem _ hb
 ·rw [e] at hb
  unfold frs at hb
  rw [List.filterMap_cons,hf] at hb
  exact hb
theorem Inv.stkFree (I:Inv X pins σ H s):∀ b∈frs X.stack,H b=none:=fun b hb=>by
 rcases List.mem_cons.mp (I.stkSub b hb) with e | hb
 ·rw [e]; exact I.free
 ·obtain ⟨_,o,ho,_⟩:=I.ok.funs.mem hb
  exact I.base.free b o ho (I.ok.frf b hb) fun z=>I.ok.exfs b z hb
theorem Inv.step {g':Array GenState} {t':Nat} {d':Drawn} {ch:List Addr} (I:Inv X pins σ H s)
  (hch:∀ b∈ch,(b∈X.ex∨X.s₀.heap.objs.size≤b)∧b≠X.env.locals∧(∀ x c,X.env.cells.lookup x=some c→c≠b)∧∀ p∈X.pn ++ pins,p.1≠b)
  (keep:∀ b o,b≠X.env.locals→b ∉ X.fs→b ∉ ch→s.heap.get? b=some o→H b=none→h'.get? b=some o)
  (slot:∀ b o,b≠X.env.locals→b∈X.fs→b ∉ ch→s.heap.get? b=some o→H b=none→∃ sl,h'.get? b=some { o with slots:=sl }) (free:∀ b o,b ∉ ch→s.heap.get? b=some o→H b=none→H' b=none)
  (there:∀ b o,b ∉ ch→s.heap.get? b=some o→∃ o',h'.get? b=some o')
  (tups:∀ b xs,H b=some (.tup xs)→H' b=some (.tup xs)) (frzs:∀ b o u,H b=some (.frz o u)→H' b=some (.frz o u)) (tbls:∀ b ps,H b=some (.tbl ps)→∃ more,H' b=some (.tbl (ps ++ more)))
  (ns:∀ m,s.heap.Ns X.env.locals m→h'.Ns X.env.locals m) (hok:HOk X.prog X.w H' h') (hg:AllBare g') :
  Inv X pins σ H' { s with heap:=h',gens:=g',drawn:=d',toks:=t' }:=by
 have neL:∀ b o,X.s₀.heap.get? b=some o→b≠X.env.locals:=fun b o e=>Nat.ne_of_lt (Nat.lt_of_lt_of_le (Heap.lt_size e) I.ok.above)
 have neC:∀ b o,X.s₀.heap.get? b=some o→b ∉ X.ex→b ∉ ch:=fun b o e hx hb=>by
  rcases (hch b hb).1 with z | z
  ·exact hx z
  ·exact absurd (Nat.lt_of_lt_of_le (Heap.lt_size e) z) (Nat.lt_irrefl _)
 have cellK:∀ x c,X.env.cells.lookup x=some c→∀ v,s.heap.IsCell c v→h'.IsCell c v:=fun x c e v ⟨o,ho,hd⟩=>by
  have nch:c ∉ ch:=fun z=>(hch c z).2.2.1 x c e rfl
  by_cases hc:c∈X.fs
  ·obtain ⟨sl,q⟩:=slot c o (I.cne x c e) hc nch ho (I.freeC x c e)
   exact ⟨_,q,hd⟩
  ·exact ⟨o,keep c o (I.cne x c e) hc nch ho (I.freeC x c e),hd⟩
 refine ⟨I.ok,I.os,hg,⟨fun b o e n hb hx=>?_,fun b o e n hb hx=>?_,fun b o e n hx=>?_,fun b o e hx=>?_,fun b xs e=>tups b xs (I.base.tups b xs e),fun b o xs e=>frzs b o xs (I.base.frzs b o xs e),fun b ps e=>?_⟩,?_,fun x c e=>?_,?_,fun x c e=>?_,fun p hp=>?_,hok,I.len⟩
 ·exact keep b o (neL b o e) hb (neC b o e hx) (I.base.keep b o e n hb hx) (I.base.free b o e n hx)
 ·obtain ⟨sl,e1⟩:=I.base.slot b o e n hb hx
  obtain ⟨sl',e2⟩:=slot b _ (neL b o e) hb (neC b o e hx) e1 (I.base.free b o e n hx)
  exact ⟨sl',e2⟩
 ·obtain ⟨o',e1⟩:=I.base.there b o e hx
  exact free b o' (neC b o e hx) e1 (I.base.free b o e n hx)
 ·obtain ⟨o',e1⟩:=I.base.there b o e hx
  exact there b o' (neC b o e hx) e1
 ·obtain ⟨m1,e1⟩:=I.base.tbls b ps e
  obtain ⟨m2,e2⟩:=tbls b _ e1
  exact ⟨m1 ++ m2,by rw [e2,Array.append_assoc]⟩
 ·obtain ⟨m,hn,hl⟩:=I.loc
  refine ⟨m,ns m hn,fun i x v e1 e2 e3=>?_⟩
  obtain ⟨u,r,l⟩:=hl i x v e1 e2 e3
  refine ⟨u,r,?_⟩
  rcases l with l | ⟨k,c,e,z⟩
  ·exact .inl l
  ·exact .inr ⟨k,c,e,cellK x c e _ z⟩
 ·obtain ⟨v,z⟩:=I.cell x c e
  exact ⟨v,cellK x c e v z⟩
 ·obtain ⟨m,⟨o,_,_,ho,_⟩,_⟩:=I.loc
  exact free _ o (fun z=>(hch _ z).2.1 rfl) ho I.free
 ·obtain ⟨v,o,ho,hd⟩:=I.cell x c e
  exact free c o (fun z=>(hch c z).2.2.1 x c e rfl) ho (I.freeC x c e)
 ·obtain ⟨e,n,ne,nf,d⟩:=I.pin p hp
  have nch:p.1 ∉ ch:=fun z=>(hch p.1 z).2.2.2 p hp rfl
  exact ⟨keep p.1 p.2 ne nf nch e n,free p.1 p.2 nch e n,ne,nf,d⟩
theorem Inv.un {t':Nat} (I:Inv X pins σ H s) (u:Un X.fs [] H H' s.heap h') (hok:HOk X.prog X.w H' h'):Inv X pins σ H' { s with heap:=h',toks:=t' }:=by
 obtain ⟨m,⟨o,es,ep,ho,r⟩,_⟩:=id I.loc
 obtain ⟨sl,hL⟩:=u.any ho I.free (by simp)
 exact I.step (g':=s.gens) (d':=s.drawn) (ch:=[]) (fun _ z=>nomatch z) (fun b o _ hb _ e n=>u.keep b o e n hb (by simp)) (fun b o _ hb _ e n=>u.slot b o e n hb (by simp)) (fun b o _ e n=>u.free b o e n (by simp)) (fun b o _ e=>u.there b o e (by simp)) u.tups u.frzs u.tbls (fun m' hm=>by
  obtain ⟨o',es',ep',ho',r'⟩:=hm
  rw [ho] at ho'; cases ho'
  exact ⟨_,es',ep',hL,r'⟩) hok I.bare
theorem Inv.call {g':Array GenState} {t':Nat} {d':Drawn} {ch:List Addr} (I:Inv X pins σ H s) (u:Un (frs X.stack) ch H H' s.heap h') (hok:HOk X.prog X.w H' h') (hg:AllBare g')
  (hch:∀ b∈ch,(b∈X.ex∨X.s₀.heap.objs.size≤b)∧b≠X.env.locals∧(∀ x c,X.env.cells.lookup x=some c→c≠b)∧∀ p∈X.pn ++ pins,p.1≠b) :
  Inv X pins σ H' { s with heap:=h',gens:=g',drawn:=d',toks:=t' }:=by
 obtain ⟨m,⟨o,es,ep,ho,r⟩,_⟩:=id I.loc
 obtain ⟨sl,hL⟩:=u.any ho I.free fun z=>(hch _ z).2.1 rfl
 exact I.step (ch:=ch) hch (fun b o hL hb hc e n=>u.keep b o e n (fun z=>(List.mem_cons.mp (I.stkSub b z)).elim hL hb) hc) (fun b o _ _ hc e n=>u.any e n hc) (fun b o hc e n=>u.free b o e n hc) (fun b o hc e=>u.there b o e hc) u.tups u.frzs u.tbls (fun m' hm=>by
  obtain ⟨o',es',ep',ho',r'⟩:=hm
  rw [ho] at ho'; cases ho'
  exact ⟨_,es',ep',hL,r'⟩) hok hg
theorem Inv.turned {t':Nat} {it:Addr} (I:Inv X pins σ H s) (k:∀ b o,b≠it→s.heap.get? b=some o→h'.get? b=some o) (hn:H it=none) (hL:it≠X.env.locals)
  (h1:it∈X.ex∨X.s₀.heap.objs.size≤it) (h2:∀ x c,X.env.cells.lookup x=some c→c≠it) (h3:∀ p∈X.pn ++ pins,p.1≠it):Inv X pins σ H { s with heap:=h',toks:=t' }:=by
 have nit:∀ b u,H b=some u→b≠it:=fun b u e z=>by rw [z,hn] at e; cases e
 refine I.step (g':=s.gens) (d':=s.drawn) (ch:=[it]) (fun b hb=>?_) (fun b o _ _ hc e _=>k b o (fun z=>hc (by simp [z])) e) (fun b o _ _ hc e _=>⟨o.slots,k b o (fun z=>hc (by simp [z])) e⟩) (fun _ _ _ _ n=>n)
  (fun b o hc e=>⟨o,k b o (fun z=>hc (by simp [z])) e⟩) (fun _ _ e=>e) (fun _ _ _ e=>e) (fun b ps e=>⟨#[],by rw [e]; simp⟩) (fun m hm=>?_) (fun b u e=>?_) I.bare
 ·have e:b=it:=by simpa using hb
  subst e
  exact ⟨h1,hL,h2,h3⟩
 ·obtain ⟨o,es,ep,ho,r⟩:=hm
  exact ⟨o,es,ep,k _ o (Ne.symm hL) ho,r⟩
 ·refine (I.hok b u e).stay (fun c v hc q=>k c v ?_ q) (fun _ q=>q) fun _ _ q=>q
  rcases hc with z | z
  ·rw [z]; exact nit b u e
  ·exact nit c _ z
theorem Inv.tok (I:Inv X pins σ H s) (t:Nat):Inv X pins σ H { s with toks:=t }:=I.un (h':=s.heap) (t':=t) Un.refl I.hok
theorem Inv.kept {t':Nat} (I:Inv X pins σ H s) (k:∀ b u,s.heap.get? b=some u→h'.get? b=some u):Inv X pins σ H { s with heap:=h',toks:=t' }:=I.un (Un.kept k) (I.hok.kept k)
theorem Inv.laid {a:Addr} {o:HO} {t':Nat} (I:Inv X pins σ H s) (k:∀ b u,s.heap.get? b=some u→h'.get? b=some u) (hp:s.heap.objs.size≤a) (new:ObjOk X.prog X.w (upd H a o) h' a o) :
  Inv X pins σ (upd H a o) { s with heap:=h',toks:=t' }:=I.un (Un.laid k hp (I.hok.fresh hp)) (I.hok.laid k hp new)
theorem Inv.write {x e:Addr} {o:HO} {t':Nat} (I:Inv X pins σ H s) (mu:Mut (H x)) (he:e=x∨H e=some (.own x)) (k:∀ b u,b≠e→s.heap.get? b=some u→h'.get? b=some u) (heo:∃ u,h'.get? e=some u)
  (new:ObjOk X.prog X.w (upd H x o) h' x o):Inv X pins σ (upd H x o) { s with heap:=h',toks:=t' }:=I.un (Un.write mu he k heo) (I.hok.write mu he k heo new)
theorem Inv.pins_of {pins':List (Addr×Obj)} (I:Inv X pins σ H s) (h:∀ p∈pins',s.heap.get? p.1=some p.2∧H p.1=none∧p.1≠X.env.locals∧p.1 ∉ X.fs∧∀ v,p.2.data≠.cell v):Inv X pins' σ H s :=
 ⟨I.ok,I.os,I.bare,I.base,I.loc,I.cell,I.free,I.freeC,fun p hp=>(List.mem_append.mp hp).elim (fun z=>I.pin p (List.mem_append_left _ z)) (h p),I.hok,I.len⟩
theorem nodup_ix {N:List Str} (hN:N.Nodup) {i j:Nat} {x:Str} (a:N[i]?=some x) (b:N[j]?=some x):i=j:=by
 obtain ⟨h1,e1⟩:=List.getElem?_eq_some_iff.mp a
 obtain ⟨h2,e2⟩:=List.getElem?_eq_some_iff.mp b
 exact (List.getElem_inj hN).mp (e1.trans e2.symm)
theorem store_ok2 {M:Model} {A:Around} {E:Value→Shared→Prop} {i:Nat} {x:Str} {v:V} {u:Value} {Q:Unit→Shared→Prop} (I:Inv X pins σ H s) (hN:X.N.Nodup) (hi:X.N[i]?=some x) (hx:Loc X.env.scope x) (r:RelV v u)
  (h:∀ s',Inv X pins (σ.set i (some v)) H s'→(∃ a,Heap.SameBut a s.heap s'.heap∧(a=X.env.locals∨X.env.cells.lookup x=some a))→Q () s') (hf:X.fn x=true∨X.env.scope.names.lookup x=some .local:=by first | exact .inl rfl | exact .inr rfl | assumption):wpAny M A (storeName X.env x u) Q E s:=by
 obtain ⟨m,hn,hl⟩:=id I.loc
 have hcls:(X.env.scope.kind == .class || (X.env.scope.kind == .module && X.env.locals != X.env.globals))=false:=by rw [I.ok.kind]; rfl
 have hiσ:i < σ.length:=by rw [I.len]; exact (List.getElem?_eq_some_iff.mp hi).1
 have cne:=I.cne
 have tracked:∀ {a:Addr} {h':Heap},(∃ o,s.heap.get? a=some o∧H a=none)→Heap.SameBut a s.heap h'→HOk X.prog X.w H h':=fun {a h'} ha hs b ob e=>by
  obtain ⟨_,_,hfree⟩:=ha
  refine (I.hok b ob e).stay (fun c w' hc q=>(hs.2 c ?_).trans q) (fun _ q=>q) fun _ _ q=>q
  rintro rfl
  rcases hc with rfl | hc
  ·rw [hfree] at e; cases e
  ·rw [hfree] at hc; cases hc
 rcases hx with hk | hk
 ·refine wpAny_storeName_local hk hn (fun h' hn' hs=>?_) hcls
  obtain ⟨oL,_,_,hoL,_⟩:=id hn
  refine h _ ⟨I.ok,I.os,I.bare,⟨fun b o e n hb hx=>?_,fun b o e n hb hx=>?_,I.base.free,fun b o e hx=>?_,I.base.tups,I.base.frzs,I.base.tbls⟩,⟨_,hn',fun j y v' e1 e2 e3=>?_⟩,fun y c e=>?_,I.free,I.freeC,fun p hp=>?_,tracked ⟨oL,hoL,I.free⟩ hs,by simpa using I.len⟩ ⟨_,hs,.inl rfl⟩
  ·exact (hs.2 b (Nat.ne_of_lt (Nat.lt_of_lt_of_le (Heap.lt_size e) I.ok.above))).trans (I.base.keep b o e n hb hx)
  ·obtain ⟨sl,e1⟩:=I.base.slot b o e n hb hx
   exact ⟨sl,(hs.2 b (Nat.ne_of_lt (Nat.lt_of_lt_of_le (Heap.lt_size e) I.ok.above))).trans e1⟩
  ·obtain ⟨o',e1⟩:=I.base.there b o e hx
   exact ⟨o',(hs.2 b (Nat.ne_of_lt (Nat.lt_of_lt_of_le (Heap.lt_size e) I.ok.above))).trans e1⟩
  ·by_cases hj:j=i
   ·subst hj
    rw [hi] at e1; cases e1
    rw [List.getElem?_set_self hiσ] at e2
    cases e2
    exact ⟨u,r,.inl ⟨hk,by simp⟩⟩
   ·rw [List.getElem?_set_ne (Ne.symm hj)] at e2
    obtain ⟨u',r',q⟩:=hl j y v' e1 e2 e3
    refine ⟨u',r',?_⟩
    rcases q with ⟨k,e⟩ | ⟨k,c,e,z⟩
    ·refine .inl ⟨k,?_⟩
     have:y≠x:=fun e=>hj (nodup_ix hN e1 (e ▸ hi))
     simp [this,e]
    ·exact .inr ⟨k,c,e,z.sameBut hs (cne y c e)⟩
  ·obtain ⟨w',z⟩:=I.cell y c e
   exact ⟨w',z.sameBut hs (cne y c e)⟩
  ·obtain ⟨e,n,ne,nf,d⟩:=I.pin p hp
   exact ⟨(hs.2 p.1 ne).trans e,n,ne,nf,d⟩
 ·have hfn:X.fn x=true:=by
   rcases hf with z | z
   ·exact z
   ·rw [z] at hk; cases hk
  obtain ⟨c,hc⟩:=I.ok.has x (.inl hk)
  obtain ⟨w',z⟩:=I.cell x c hc
  refine wpAny_storeName_cell I.ok.kind hk hc z (fun h' hc' hs=>?_)
  obtain ⟨oc,hoc,hocd⟩:=id z
  refine h { s with heap:=h' } ⟨I.ok,I.os,I.bare,⟨fun b o e n hb hx=>?_,fun b o e n hb hx=>?_,I.base.free,fun b o e hx=>?_,I.base.tups,I.base.frzs,I.base.tbls⟩,⟨m,hn.sameBut hs (Ne.symm (cne x c hc)),fun j y v' e1 e2 e3=>?_⟩,fun y c' e=>?_,I.free,I.freeC,fun p hp=>?_,tracked ⟨oc,hoc,I.freeC x c hc⟩ hs,by simpa using I.len⟩ ⟨c,hs,.inr hc⟩
  ·exact (hs.2 b (Nat.ne_of_lt (Nat.lt_of_lt_of_le (Heap.lt_size e) (I.ok.cab x c hfn hc)))).trans (I.base.keep b o e n hb hx)
  ·obtain ⟨sl,e1⟩:=I.base.slot b o e n hb hx
   exact ⟨sl,(hs.2 b (Nat.ne_of_lt (Nat.lt_of_lt_of_le (Heap.lt_size e) (I.ok.cab x c hfn hc)))).trans e1⟩
  ·obtain ⟨o',e1⟩:=I.base.there b o e hx
   exact ⟨o',(hs.2 b (Nat.ne_of_lt (Nat.lt_of_lt_of_le (Heap.lt_size e) (I.ok.cab x c hfn hc)))).trans e1⟩
  ·by_cases hj:j=i
   ·subst hj
    rw [hi] at e1; cases e1
    rw [List.getElem?_set_self hiσ] at e2
    cases e2
    exact ⟨u,r,.inr ⟨.inl hk,c,hc,hc'⟩⟩
   ·rw [List.getElem?_set_ne (Ne.symm hj)] at e2
    obtain ⟨u',r',q⟩:=hl j y v' e1 e2 e3
    refine ⟨u',r',?_⟩
    rcases q with q | ⟨k,c',e,z'⟩
    ·exact .inl q
    ·refine .inr ⟨k,c',e,z'.sameBut hs ?_⟩
     rintro rfl
     exact hj (nodup_ix hN e1 (I.ok.inj _ _ _ e hc ▸ hi))
  ·by_cases hcc:c'=c
   ·subst hcc; exact ⟨_,hc'⟩
   ·obtain ⟨w2,z2⟩:=I.cell y c' e
    exact ⟨w2,z2.sameBut hs hcc⟩
  ·obtain ⟨e,n,ne,nf,d⟩:=I.pin p hp
   refine ⟨(hs.2 p.1 ?_).trans e,n,ne,nf,d⟩
   intro q
   rw [q,hoc] at e
   have q':oc=p.2:=Option.some.inj e
   exact d w' (by rw [← q']; exact hocd)
theorem store_ok {M:Model} {A:Around} {E:Value→Shared→Prop} {i:Nat} {x:Str} {v:V} {u:Value} {Q:Unit→Shared→Prop} (I:Inv X pins σ H s) (hN:X.N.Nodup) (hi:X.N[i]?=some x) (hx:Loc X.env.scope x) (r:RelV v u)
  (h:∀ s',Inv X pins (σ.set i (some v)) H s'→Q () s') (hf:X.fn x=true∨X.env.scope.names.lookup x=some .local:=by first | exact .inl rfl | exact .inr rfl | assumption):wpAny M A (storeName X.env x u) Q E s :=
 store_ok2 I hN hi hx r (fun s' I' _=>h s' I') hf
theorem Inv.call' {s':Shared} {ch:List Addr} (I:Inv X pins σ H s) (ho:s'.os=s.os) (u:Un (frs X.stack) ch H H' s.heap s'.heap) (hok:HOk X.prog X.w H' s'.heap) (hg:AllBare s'.gens)
  (hch:∀ b∈ch,(b∈X.ex∨X.s₀.heap.objs.size≤b)∧b≠X.env.locals∧(∀ x c,X.env.cells.lookup x=some c→c≠b)∧∀ p∈X.pn ++ pins,p.1≠b):Inv X pins σ H' s':=by
 obtain ⟨h',g',d',t',o'⟩:=s'
 have e:o'=s.os:=ho
 subst e
 exact I.call (g':=g') (t':=t') (d':=d') u hok hg hch
end
abbrev XK:=Value→Option Addr→Hp→Prop
abbrev St:=List (Option V)
abbrev VK:=V→Hp→Prop
abbrev TE:=St→Hp→VK→Prop
abbrev TT:=St→Hp→(Bool→Hp→Prop)→Prop
abbrev TA:=St→Hp→(List V→Hp→Prop)→Prop
structure Ends where
 nx:St→Hp→Prop
 rt:VK
 bk:St→Hp→Prop:=fun _ _=>False
 ct:St→Hp→Prop:=fun _ _=>False
abbrev TS:=Ends→St→Hp→Prop
def EP (X:Cx) (pins:List (Addr×Obj)) (σ:St) (Q:VK) (u:Value) (s':Shared):Prop:=∃ v H',Inv X pins σ H' s'∧RelV v u∧Q v H'
def TP (X:Cx) (pins:List (Addr×Obj)) (σ:St) (Q:Bool→Hp→Prop) (b:Bool) (s':Shared):Prop:=∃ H',Inv X pins σ H' s'∧Q b H'
def AP (X:Cx) (pins:List (Addr×Obj)) (σ:St) (Q:List V→Hp→Prop) (us:List Value) (s':Shared):Prop:=∃ vs H',Inv X pins σ H' s'∧Vals vs us∧Q vs H'
def SP (X:Cx) (pins:List (Addr×Obj)) (D:Ends) (f:Flow) (s':Shared):Prop :=
 match f with
 | .next=>∃ σ' H',Inv X pins σ' H' s'∧D.nx σ' H'
 | .brk=>∃ σ' H',Inv X pins σ' H' s'∧D.bk σ' H'
 | .cont=>∃ σ' H',Inv X pins σ' H' s'∧D.ct σ' H'
 | .ret u=>∃ v σ' H',Inv X pins σ' H' s'∧RelV v u∧D.rt v H'
def PE (X:Cx) (e:Expr) (t:TE):Prop :=
 ∀ (pins:List (Addr×Obj)) (s:Shared) (σ:St) (H:Hp) (Q:VK),Inv X pins σ H s→t σ H Q→wpAny (model X.prog X.w) X.A (eval e X.env) (EP X pins σ Q) X.xe s
def PT (X:Cx) (e:Expr) (t:TT):Prop :=
 ∀ (pins:List (Addr×Obj)) (s:Shared) (σ:St) (H:Hp) (Q:Bool→Hp→Prop),Inv X pins σ H s→t σ H Q→wpAny (model X.prog X.w) X.A (isTrue e X.env (eval e X.env)) (TP X pins σ Q) X.xe s
def PW (X:Cx) (e:Expr) (t:TT):Prop :=
 ∀ (whole:Sem Value) (pins:List (Addr×Obj)) (s:Shared) (σ:St) (H:Hp) (Q:Bool→Hp→Prop),Inv X pins σ H s→t σ H Q→wpAny (model X.prog X.w) X.A (isTrue e X.env whole) (TP X pins σ Q) X.xe s
theorem PW.pt {X:Cx} {e:Expr} {t:TT} (h:PW X e t):PT X e t:=h _
def PA (X:Cx) (es:List Expr) (t:TA):Prop :=
 ∀ (pos:Pos) (pins:List (Addr×Obj)) (s:Shared) (σ:St) (H:Hp) (Q:List V→Hp→Prop),Inv X pins σ H s→t σ H Q→wpAny (model X.prog X.w) X.A (spliced (backTo pos (starEach es X.env))) (AP X pins σ Q) X.xe s
def PS (X:Cx) (st:Stmt) (t:TS):Prop :=
 ∀ (pins:List (Addr×Obj)) (s:Shared) (σ:St) (H:Hp) (D:Ends),Inv X pins σ H s→t D σ H→wpAny (model X.prog X.w) X.A (exec st X.env) (SP X pins D) X.xe s
def PSs (X:Cx) (st:List Stmt) (t:TS):Prop :=
 ∀ (pins:List (Addr×Obj)) (s:Shared) (σ:St) (H:Hp) (D:Ends),Inv X pins σ H s→t D σ H→wpAny (model X.prog X.w) X.A (execs st X.env) (SP X pins D) X.xe s
theorem thn {α:Type} {t:Sem α} {Q Q':α→Shared→Prop} {M:Model} {A:Around} {E:Value→Shared→Prop} {s:Shared} (h:wpAny M A t Q E s) (hQ:∀ a s,Q a s→Q' a s):wpAny M A t Q' E s:=wpAny_mono h hQ fun _ _ x=>x
section
variable {X:Cx}
def tVar (i:Nat):TE:=fun σ H Q=>∃ v,σ[i]?=some (some v)∧Q v H
def tC (v:V):TE:=fun _ H Q=>Q v H
theorem pe_var {i:Nat} {x:Str} {pos:Pos} (hN:X.N[i]?=some x) (hv:Vis X.env.scope x) (hd:(x == ("__debug__":Str))=false:=by decide) (hcd:(x == ("__classdict__":Str))=false:=by decide):PE X (.Name x pos) (tVar i):=by
 intro pins s σ H Q I h
 obtain ⟨v,e,h⟩:=h
 obtain ⟨m,hn,hl⟩:=I.loc
 obtain ⟨u,r,l⟩:=hl i x v hN e hv
 have fin:EP X pins σ Q u s:=⟨v,H,I,r,h⟩
 rcases l with ⟨hk,hm⟩ | ⟨hk,c,hc,hcell⟩
 ·exact wpAny_Name (wpAny_loadName_local I.ok.kind hk hn hm fin) hd
 ·rcases hk with hk | hk
  ·exact wpAny_Name (wpAny_loadName_cell I.ok.kind hk hc hcell fin) hd
  ·exact wpAny_Name (wpAny_loadName_free I.ok.kind hk hc hcell fin hcd) hd
theorem pe_int {i j pos}:PE X (.Constant (.int i) j pos) (tC (.int i)):=fun _ _ _ H _ I h=>wpAny_Constant_int ⟨.int i,H,I.tok _,⟨_,rfl⟩,h⟩
theorem pe_bl {b j pos}:PE X (.Constant (.bool b) j pos) (tC (.bl b)):=fun _ _ _ H _ I h=>Constant_bool ⟨.bl b,H,I,rfl,h⟩
theorem pe_non {j pos}:PE X (.Constant .none j pos) (tC .non):=fun _ _ _ H _ I h=>Constant_none ⟨.non,H,I,rfl,h⟩
theorem pe_str {x j pos}:PE X (.Constant (.str x) j pos) (tC (.str x)):=fun _ _ _ H _ I h=>Calls.Constant_str ⟨.str x,H,I.tok _,⟨_,rfl⟩,h⟩
def Gl (X:Cx) (x:Str):Prop:=X.env.kindOf x=some .globalImplicit
theorem ld_glob {E:Value→Shared→Prop} {pins:List (Addr×Obj)} {s:Shared} {σ:St} {H:Hp} {x:Str} {u:Value} {pos:Pos} {Q:Value→Shared→Prop} (I:Inv X pins σ H s) (hg:Gl X x) (hm:X.mg x=some u) (h:Q u s)
  (hd:(x == ("__debug__":Str))=false:=by decide):wpAny (model X.prog X.w) X.A (eval (.Name x pos) X.env) Q E s :=
 Calls.Name_function_global I.ok.kind hg (Calls.loadGlobal_global (by rw [I.ok.glob]; exact I.mod.glob.keeps I.bk) hm h) hd
theorem ld_blt {E:Value→Shared→Prop} {pins:List (Addr×Obj)} {s:Shared} {σ:St} {H:Hp} {x:Str} {u:Value} {pos:Pos} {Q:Value→Shared→Prop} (I:Inv X pins σ H s) (hg:Gl X x) (hm:X.mg x=none) (hv:bootBuiltins x=some u) (h:Q u s)
  (hn:x≠"__name__":=by decide) (hd:(x == ("__debug__":Str))=false:=by decide):wpAny (model X.prog X.w) X.A (eval (.Name x pos) X.env) Q E s:=by
 obtain ⟨mb,h1,h2⟩:=I.mod.blt
 exact Calls.Name_function_global I.ok.kind hg (Calls.loadGlobal_builtin (by rw [I.ok.glob]; exact I.mod.glob.keeps I.bk) hm (by rw [I.ok.blt]; exact h1.keeps I.bk) ((h2 x hn).trans hv) h) hd
theorem pe_glob {x:Str} {v:V} {u:Value} {pos:Pos} (hg:Gl X x) (hm:X.mg x=some u) (r:RelV v u) (hd:(x == ("__debug__":Str))=false:=by decide):PE X (.Name x pos) (tC v) :=
 fun _ _ _ H _ I h=>ld_glob I hg hm ⟨v,H,I,r,h⟩ hd
theorem pe_bltn {x:Str} {v:V} {u:Value} {pos:Pos} (hg:Gl X x) (hm:X.mg x=none) (hv:bootBuiltins x=some u) (r:RelV v u) (hn:x≠"__name__":=by decide) (hd:(x == ("__debug__":Str))=false:=by decide):PE X (.Name x pos) (tC v) :=
 fun _ _ _ H _ I h=>ld_blt I hg hm hv ⟨v,H,I,r,h⟩ hn hd
variable {a b:Expr} {ta tb:TE} {pos:Pos}
def PC (X:Cx) (op:CmpOp) (a b:Expr) (t:TE):Prop :=
 ∀ (pins:List (Addr×Obj)) (s:Shared) (σ:St) (H:Hp) (Q:VK),Inv X pins σ H s→t σ H Q →
  wpAny (model X.prog X.w) X.A (eval a X.env) (fun v s₁=>wpAny (model X.prog X.w) X.A (eval b X.env) (fun u s₂=>wpAny (model X.prog X.w) X.A (compareOp op v u) (EP X pins σ Q) X.xe s₂) X.xe s₁) X.xe s
def tB (t:TE):TT:=fun σ H Q=>t σ H fun x H1=>∃ c,x=.bl c∧Q c H1
theorem pt_cmp {op:CmpOp} {t:TE} (h:PC X op a b t) (h1:behindInMarks op b=false:=by first | exact nobehind _ (by decide) (by decide) | rfl):PT X (.Compare a [op] [b] pos) (tB t):=by
 intro pins s σ H Q I hw
 refine wpAny_isTrue_Compare1 (thn (h pins s σ H _ I hw) fun v s1 h1=>thn h1 fun u s2 h2=>thn h2 fun c s3 ⟨x,H1,I1,r1,q1⟩=>?_) h1
 obtain ⟨d,rfl,q⟩:=q1
 cases r1
 exact wpAny_truthy_bool ⟨H1,I1,q⟩
theorem pt_val {e:Expr} {t:TE} (h:PE X e t) (he:∀ whole,isTrue e X.env whole=(do let v ← whole; standAt e.pos; holding [v] (truthy v)):=by intro _; rfl):PT X e (tB t):=by
 intro pins s σ H Q I hw
 refine isTrue_plain (thn (h pins s σ H _ I hw) fun v s1 ⟨x,H1,I1,r1,q1⟩=>?_) (he _)
 obtain ⟨d,rfl,q⟩:=q1
 cases r1
 exact wpAny_truthy_bool ⟨H1,I1,q⟩
variable {tA tB':TT} {rest:List Expr}
def tAnd (t u:TT):TT:=fun σ H Q=>t σ H fun c H1=>if c=true then u σ H1 Q else Q false H1
def tOr (t u:TT):TT:=fun σ H Q=>t σ H fun c H1=>if c=true then Q true H1 else u σ H1 Q
def tNot (t:TT):TT:=fun σ H Q=>t σ H fun c H1=>Q (!c) H1
theorem pw_and1 (ha:PT X a tA):PW X (.BoolOp .And [a] pos) tA:=by
 intro wh pins s σ H Q I h
 refine isTrue_and (thn (ha pins s σ H Q I h) fun c s1 e=>?_)
 cases c with
 | true=>exact isTrue_and_nil e
 | false=>exact e
theorem pw_or1 (ha:PT X a tA):PW X (.BoolOp .Or [a] pos) tA:=by
 intro wh pins s σ H Q I h
 refine isTrue_or (thn (ha pins s σ H Q I h) fun c s1 e=>?_)
 cases c with
 | false=>exact isTrue_or_nil e
 | true=>exact e
theorem pw_and (ha:PT X a tA) (hb:PW X (.BoolOp .And (b :: rest) pos) tB'):PW X (.BoolOp .And (a :: b :: rest) pos) (tAnd tA tB'):=by
 intro wh pins s σ H Q I h
 refine isTrue_and (thn (ha pins s σ H _ I h) fun c s1 ⟨H1,I1,q1⟩=>?_)
 cases c with
 | true=>exact hb wh pins s1 σ H1 Q I1 q1
 | false=>exact ⟨H1,I1,q1⟩
theorem pw_or (ha:PT X a tA) (hb:PW X (.BoolOp .Or (b :: rest) pos) tB'):PW X (.BoolOp .Or (a :: b :: rest) pos) (tOr tA tB'):=by
 intro wh pins s σ H Q I h
 refine isTrue_or (thn (ha pins s σ H _ I h) fun c s1 ⟨H1,I1,q1⟩=>?_)
 cases c with
 | true=>exact ⟨H1,I1,q1⟩
 | false=>exact hb wh pins s1 σ H1 Q I1 q1
theorem pt_not (ha:PT X a tA):PT X (.UnaryOp .Not a pos) (tNot tA):=by
 intro pins s σ H Q I h
 exact isTrue_not (ha pins s σ H (fun c H1=>Q (!c) H1) I h)
def tAndV (ta tb:TE):TE:=fun σ H Q=>ta σ H fun x H1=>∃ c,x=.bl c∧if c=true then tb σ H1 Q else Q (.bl false) H1
def tOrV (ta tb:TE):TE:=fun σ H Q=>ta σ H fun x H1=>∃ c,x=.bl c∧if c=true then Q (.bl true) H1 else tb σ H1 Q
def tNotV (ta:TE):TE:=fun σ H Q=>ta σ H fun x H1=>∃ c,x=.bl c∧Q (.bl (!c)) H1
theorem pe_one {op} {t:TE} (h:PE X a t):PE X (.BoolOp op [a] pos) t:=fun pins s σ H Q I hw=>BoolOp_one (h pins s σ H Q I hw)
theorem pe_and (ha:PE X a ta) (hb:PE X (.BoolOp .And (b :: rest) pos) tb):PE X (.BoolOp .And (a :: b :: rest) pos) (tAndV ta tb):=by
 intro pins s σ H Q I h
 refine BoolOp_and (thn (ha pins s σ H _ I h) fun v s1 ⟨x,H1,I1,r1,q1⟩=>?_)
 obtain ⟨c,rfl,q1⟩:=q1
 cases r1
 refine wpAny_truthy_bool ?_
 cases c with
 | true=>exact hb pins s1 σ H1 Q I1 q1
 | false=>exact ⟨.bl false,H1,I1,rfl,q1⟩
theorem pe_or (ha:PE X a ta) (hb:PE X (.BoolOp .Or (b :: rest) pos) tb):PE X (.BoolOp .Or (a :: b :: rest) pos) (tOrV ta tb):=by
 intro pins s σ H Q I h
 refine BoolOp_or (thn (ha pins s σ H _ I h) fun v s1 ⟨x,H1,I1,r1,q1⟩=>?_)
 obtain ⟨c,rfl,q1⟩:=q1
 cases r1
 refine wpAny_truthy_bool ?_
 cases c with
 | false=>exact hb pins s1 σ H1 Q I1 q1
 | true=>exact ⟨.bl true,H1,I1,rfl,q1⟩
theorem pe_not (ha:PE X a ta):PE X (.UnaryOp .Not a pos) (tNotV ta):=by
 intro pins s σ H Q I h
 refine UnaryOp_ (thn (ha pins s σ H _ I h) fun v s1 ⟨x,H1,I1,r1,q1⟩=>?_)
 obtain ⟨c,rfl,q1⟩:=q1
 cases r1
 exact not_of (wpAny_truthy_bool ⟨.bl (!c),H1,I1,rfl,q1⟩)
def tIf (t:TT) (ta tb:TE):TE:=fun σ H Q=>t σ H fun c H1=>if c=true then ta σ H1 Q else tb σ H1 Q
theorem pe_ifExp {c:Expr} (hc:PT X c tA) (ha:PE X a ta) (hb:PE X b tb):PE X (.IfExp c a b pos) (tIf tA ta tb):=by
 intro pins s σ H Q I h
 refine wpAny_IfExp (thn (hc pins s σ H _ I h) fun d s1 ⟨H1,I1,q1⟩=>?_)
 cases d with
 | true=>exact ha pins s1 σ H1 Q I1 q1
 | false=>exact hb pins s1 σ H1 Q I1 q1
end
def SqL (K:PySem.W.Frag) (H:Hp) (a:Addr) (xs:List V):Prop :=
 Rd H a (.lst xs) ∨
  ∃ (o:Obj) (its:Array Value) (n:Nat),K.lookup a=some o∧o.cls=.type "list"∧o.dict=none∧o.data=.seq its n∧its.size≤sizeLine∧Vals xs its.toList
def SqT (K:PySem.W.Frag) (H:Hp) (a:Addr) (xs:List V):Prop :=
 Rd H a (.tup xs) ∨
  ∃ (o:Obj) (its:Array Value) (n:Nat),K.lookup a=some o∧o.cls=.type "tuple"∧o.data=.seq its n∧its.size≤sizeLine∧Vals xs its.toList
def absV:Value→Option V
 | .none=>some .non
 | .bool b=>some (.bl b)
 | .int i _=>some (.int i)
 | .str x _=>some (.str x)
 | .bytes b _=>some (.byt b)
 | .float b _=>some (.flt b)
 | .ref a=>some (.ref a)
 | .type n=>some (.ty n)
 | _=>none
theorem RelV.abs {x:V} {u:Value} (r:RelV x u):absV u=some x:=by
 cases x with
 | non=>cases r; rfl
 | bl _=>cases r; rfl
 | int _=>obtain ⟨t,rfl⟩:=r; rfl
 | str _=>obtain ⟨t,rfl⟩:=r; rfl
 | byt _=>obtain ⟨t,rfl⟩:=r; rfl
 | flt _=>obtain ⟨t,rfl⟩:=r; rfl
 | ref _=>cases r; rfl
 | ty _=>cases r; rfl
theorem RelV.inj {x y:V} {u:Value} (r:RelV x u) (q:RelV y u):x=y:=Option.some.inj (r.abs.symm.trans q.abs)
theorem Vals.inj:∀ {xs ys:List V} {us:List Value},Vals xs us→Vals ys us→xs=ys
 | _,_,_,.nil,.nil=>rfl
 | _,_,_,.cons r t,.cons r' t'=>by rw [r.inj r',Vals.inj t t']
section
variable {X:Cx} {pins:List (Addr×Obj)} {σ:St} {H:Hp} {s:Shared} {a:Addr} {xs ys:List V}
theorem SqL.of {K:PySem.W.Frag} (h:H a=some (.lst xs)):SqL K H a xs:=.inl (.inl h)
theorem SqT.of {K:PySem.W.Frag} (h:H a=some (.tup xs)):SqT K H a xs:=.inl (.inl h)
theorem Inv.list (I:Inv X pins σ H s) (h:SqL X.K H a xs):∃ its:List Value,Vals xs its∧PlainL s.heap a its.toArray∧xs.length≤sizeLine:=by
 rcases h with h | ⟨o,its,n,hk,hc,hd,hs,hz,r⟩
 ·obtain ⟨z,its,n,r,e⟩:=h.ok I.hok
  exact ⟨its,r,⟨_,n,e,rfl,rfl,rfl⟩,z⟩
 ·refine ⟨its.toList,r,⟨o,n,I.kIn a o hk,hc,hd,by simpa using hs⟩,?_⟩
  have e:=r.length
  simp only [Array.length_toList] at e
  omega
theorem Inv.tuple (I:Inv X pins σ H s) (h:SqT X.K H a xs):∃ its:List Value,Vals xs its∧IsTup s.heap a its.toArray∧xs.length≤sizeLine:=by
 rcases h with h | ⟨o,its,n,hk,hc,hs,hz,r⟩
 ·obtain ⟨z,its,r,p⟩:=h.ok I.hok
  exact ⟨its,r,p.tup,z⟩
 ·refine ⟨its.toList,r,⟨o,I.kIn a o hk,hc,n,by simpa using hs⟩,?_⟩
  have e:=r.length
  simp only [Array.length_toList] at e
  omega
theorem Inv.list_inj (I:Inv X pins σ H s) (h:SqL X.K H a xs) (h':SqL X.K H a ys):xs=ys:=by
 obtain ⟨its,r,⟨o,n,e,_,_,d⟩,_⟩:=I.list h
 obtain ⟨its',r',⟨o',n',e',_,_,d'⟩,_⟩:=I.list h'
 rw [e] at e'; cases e'
 rw [d] at d'
 injection d' with d1 _
 have:its=its':=by simpa using congrArg Array.toList d1
 subst this
 exact r.inj r'
end
abbrev Cx.wish (X:Cx) (E:Value→Shared→Prop):Cx:={ X with xe:=E }
abbrev Cx.nox (X:Cx):Cx:=X.wish fun _ _=>False
theorem Cx.Ok.wish {X:Cx} (ok:X.Ok) (E:Value→Shared→Prop):(X.wish E).Ok :=
 ⟨ok.mod,ok.kind,ok.glob,ok.blt,ok.above,ok.inj,ok.has,ok.cab,ok.hd,ok.frames,ok.stk,ok.exf,ok.bs,ok.bsz,ok.noex,ok.exfs,ok.funs,ok.frf⟩
theorem Cx.Ok.unwish {X:Cx} {E:Value→Shared→Prop} (ok:(X.wish E).Ok):X.Ok :=
 ⟨ok.mod,ok.kind,ok.glob,ok.blt,ok.above,ok.inj,ok.has,ok.cab,ok.hd,ok.frames,ok.stk,ok.exf,ok.bs,ok.bsz,ok.noex,ok.exfs,ok.funs,ok.frf⟩
section
variable {X:Cx} {pins:List (Addr×Obj)} {σ:St} {H:Hp} {s:Shared} {E:Value→Shared→Prop}
theorem Inv.wish (I:Inv X pins σ H s) (E:Value→Shared→Prop):Inv (X.wish E) pins σ H s:=⟨I.ok.wish E,I.os,I.bare,I.base,I.loc,I.cell,I.free,I.freeC,I.pin,I.hok,I.len⟩
theorem Inv.unwish (I:Inv (X.wish E) pins σ H s):Inv X pins σ H s:=⟨I.ok.unwish,I.os,I.bare,I.base,I.loc,I.cell,I.free,I.freeC,I.pin,I.hok,I.len⟩
theorem SP.unwish {D:Ends} {f:Flow} {s':Shared} (h:SP (X.wish E) pins D f s'):SP X pins D f s':=by
 cases f with
 | next=>obtain ⟨σ',H',I,q⟩:=h; exact ⟨σ',H',I.unwish,q⟩
 | brk=>obtain ⟨σ',H',I,q⟩:=h; exact ⟨σ',H',I.unwish,q⟩
 | cont=>obtain ⟨σ',H',I,q⟩:=h; exact ⟨σ',H',I.unwish,q⟩
 | ret u=>obtain ⟨v,σ',H',I,r,q⟩:=h; exact ⟨v,σ',H',I.unwish,r,q⟩
theorem PSs.nox {st:List Stmt} {t:TS} (h:PSs X.nox st t):PSs X st t:=fun pins s σ H D I hw =>
 wpAny_mono (h pins s σ H D (I.wish _) hw) (fun _ _ q=>q.unwish) fun _ _ z=>False.elim z
end
section
variable {X:Cx} {st:Stmt} {rest:List Stmt} {t u:TS} {e:Expr} {te:TE} {pos:Pos}
def tNext:TS:=fun D σ H=>D.nx σ H
def tSeq (t u:TS):TS:=fun D σ H=>t { D with nx:=u D } σ H
theorem pss_nil:PSs X [] tNext:=fun _ _ σ H _ I h=>wpAny_execs_nil ⟨σ,H,I,h⟩
theorem pss_cons (h1:PS X st t) (h2:PSs X rest u):PSs X (st :: rest) (tSeq t u):=by
 intro pins s σ H D I h
 refine wpAny_execs_cons (thn (h1 pins s σ H { D with nx:=u D } I h) fun f s1 q=>?_)
 cases f with
 | next =>
  obtain ⟨σ',H',I',q⟩:=q
  exact h2 pins s1 σ' H' D I' q
 | ret v=>exact q
 | brk=>exact q
 | cont=>exact q
theorem pss_one (h1:PS X st t):PSs X [st] t:=by
 intro pins s σ H D I h
 refine wpAny_execs_cons (thn (h1 pins s σ H D I h) fun f s1 q=>?_)
 cases f with
 | next=>exact wpAny_execs_nil q
 | ret v=>exact q
 | brk=>exact q
 | cont=>exact q
theorem Inv.quiet {pins:List (Addr×Obj)} {σ:St} {H:Hp} {s:Shared} (I:Inv X pins σ H s):interactive X.env=false:=by simp [interactive,I.ok.kind]
def tDrop (te:TE):TS:=fun D σ H=>te σ H fun _ H1=>D.nx σ H1
theorem ps_expr (he:PE X e te) (hs:swapsWith e none pos.line X.env=pure false:=by rfl):PS X (.Expr e pos) (tDrop te):=by
 intro pins s σ H D I h
 exact wpAny_Expr_any (thn (he pins s σ H _ I h) fun v s1 ⟨x,H1,I1,r1,q1⟩=>⟨σ,H1,I1,q1⟩) I.quiet hs
def tRet (te:TE):TS:=fun D σ H=>te σ H D.rt
theorem ps_ret (he:PE X e te):PS X (.Return (some e) pos) (tRet te):=by
 intro pins s σ H D I h
 exact wpAny_Return_some (thn (he pins s σ H _ I h) fun v s1 ⟨x,H1,I1,r1,q1⟩=>⟨x,σ,H1,I1,r1,q1⟩)
def tIfS (c:TT) (t u:TS):TS:=fun D σ H=>c σ H fun b H1=>if b=true then t D σ H1 else u D σ H1
theorem ps_if {c:Expr} {a b:List Stmt} {tc:TT} (hc:PT X c tc) (ha:PSs X a t) (hb:PSs X b u):PS X (.If c a b pos) (tIfS tc t u):=by
 intro pins s σ H D I h
 refine wpAny_If (thn (hc pins s σ H _ I h) fun d s1 ⟨H1,I1,q1⟩=>?_)
 cases d with
 | true=>exact ha pins s1 σ H1 D I1 q1
 | false=>exact hb pins s1 σ H1 D I1 q1
def tNever:TS:=fun _ _ _=>False
theorem ps_never:PS X st tNever:=fun _ _ _ _ _ _ h=>h.elim
end
abbrev TG:=V→St→Hp→(St→Hp→Prop)→Prop
abbrev TGs:=List V→St→Hp→(St→Hp→Prop)→Prop
def PG (X:Cx) (target:Expr) (t:TG):Prop :=
 ∀ (pins:List (Addr×Obj)) (s:Shared) (σ:St) (H:Hp) (v:V) (u:Value) (Q:St→Hp→Prop),Inv X pins σ H s→RelV v u→t v σ H Q →
  wpAny (model X.prog X.w) X.A (assign target X.env u) (fun _ s'=>∃ σ' H',Inv X pins σ' H' s'∧Q σ' H') X.xe s
def PGs (X:Cx) (ts:List Expr) (t:TGs):Prop :=
 ∀ (pins:List (Addr×Obj)) (s:Shared) (σ:St) (H:Hp) (vs:List V) (us:List Value) (Q:St→Hp→Prop),Inv X pins σ H s→Vals vs us→t vs σ H Q →
  wpAny (model X.prog X.w) X.A (assignInOrder ((assignEach ts X.env).map (·.2)) us) (fun _ s'=>∃ σ' H',Inv X pins σ' H' s'∧Q σ' H') X.xe s
section
variable {X:Cx} {pos:Pos}
def gName (i:Nat):TG:=fun v σ H Q=>Q (σ.set i (some v)) H
theorem pg_name {i:Nat} {x:Str} (hN:X.N.Nodup) (hi:X.N[i]?=some x) (hx:Loc X.env.scope x) (hf:X.fn x=true∨X.env.scope.names.lookup x=some .local:=by first | exact .inl rfl | exact .inr rfl | assumption):PG X (.Name x pos) (gName i):=by
 intro pins s σ H v u Q I r h
 exact wpAny_assign_Name (store_ok I hN hi hx r (fun s' I'=>⟨_,H,I',h⟩) hf)
def gNil:TGs:=fun vs σ H Q=>vs=[]∧Q σ H
def gCons (t:TG) (u:TGs):TGs:=fun vs σ H Q=>∃ v r,vs=v :: r∧t v σ H fun σ' H'=>u r σ' H' Q
theorem pgs_nil:PGs X [] gNil:=by
 intro pins s σ H vs us Q I r h
 obtain ⟨e,h⟩:=h
 subst e
 cases r
 exact assignInOrder_nil ⟨σ,H,I,h⟩
theorem pgs_cons {e:Expr} {es:List Expr} {t:TG} {u:TGs} (h1:PG X e t) (h2:PGs X es u)
  (hs:(assignEach (e :: es) X.env).map (·.2)=assign e X.env :: (assignEach es X.env).map (·.2):=by rfl):PGs X (e :: es) (gCons t u):=by
 intro pins s σ H vs us Q I r h
 obtain ⟨v,vr,e1,h⟩:=h
 subst e1
 cases r with
 | cons r rr =>
  rw [hs]
  refine assignInOrder_cons (thn (h1 pins s σ H _ _ _ I r h) fun _ s1 ⟨σ1,H1,I1,q1⟩=>?_)
  exact h2 pins s1 σ1 H1 _ _ Q I1 rr q1
def gTup (K:PySem.W.Frag) (n:Nat) (t:TGs):TG:=fun v σ H Q=>∃ a xs,v=.ref a∧SqT K H a xs∧xs.length=n∧t xs σ H Q
theorem pg_tup {es:List Expr} {k:Nat} {t:TGs} {n:Nat} (hc:X.calm=true) (h:PGs X es t)
  (hn:(assignEach es X.env).length=n:=by rfl) (hst:(assignEach es X.env).findIdx? (·.1)=none:=by rfl):PG X (.Tuple es k pos) (gTup X.K n t):=by
 intro pins s σ H v u Q I r hw
 obtain ⟨a,xs,e1,hq,hl,hw⟩:=hw
 subst e1
 cases r
 obtain ⟨its,rv,ht,hz⟩:=I.tuple hq
 refine assign_Tuple_tuple (I.ok.hd hc) ht (by simp [hn,← hl,rv.length]) hst fun h' hx=>?_
 have I1:Inv X pins σ H { s with heap:=h' }:=I.kept (t':=s.toks) fun b o e=>hx b o (Nat.ne_of_lt (Heap.lt_size e)) e
 exact h pins _ σ H xs _ Q I1 (by simpa using rv) hw
def tAsg (te:TE) (g:TG):TS:=fun D σ H=>te σ H fun x H1=>g x σ H1 D.nx
theorem ps_asg {tg e:Expr} {te:TE} {g:TG} (he:PE X e te) (hg:PG X tg g) (hs:swapsWithSole [tg] e pos.line X.env=pure false:=by rfl) (hw:swappedStores [tg] e X.env=pure none:=by rfl)
  (h1:(assignEach [tg] X.env).map (·.2)=[assign tg X.env]:=by rfl):PS X (.Assign [tg] e pos) (tAsg te g):=by
 intro pins s σ H D I h
 refine wpAny_Assign_stores (thn (he pins s σ H _ I h) fun v s1 ⟨x,H1,I1,r1,q1⟩=>?_) hs hw
 rw [h1]
 exact thn (hg pins s1 σ H1 x v _ I1 r1 q1) fun _ s2 q=>q
theorem ps_set {i:Nat} {x:Str} {e:Expr} {te:TE} {pos':Pos} (hN:X.N.Nodup) (hi:X.N[i]?=some x) (hx:Loc X.env.scope x) (he:PE X e te) (hs:swapsWith e (some (.Name x pos')) pos.line X.env=pure false:=by rfl) (hf:X.fn x=true∨X.env.scope.names.lookup x=some .local:=by first | exact .inl rfl | exact .inr rfl | assumption) :
  PS X (.Assign [.Name x pos'] e pos) (tAsg te (gName i)):=by
 intro pins s σ H D I h
 refine wpAny_Assign_Name (thn (he pins s σ H _ I h) fun v s1 ⟨y,H1,I1,r1,q1⟩=>?_) hs
 exact store_ok I1 hN hi hx r1 (fun s2 I2=>⟨_,H1,I2,q1⟩) hf
end
section
variable {X:Cx} {pos:Pos}
def tWhile (c:TT) (tb:TS):TS:=fun D σ H=>∃ W:Nat→St→Hp→Prop,(∃ m,W m σ H)∧∀ m σ H,W m σ H →
 c σ H fun b H1=>if b=true then ∃ N:St→Hp→Prop,(∀ σ' H',N σ' H'→∃ m',m' < m∧W m' σ' H')∧tb { D with nx:=N,ct:=N,bk:=D.nx } σ H1 else D.nx σ H1
theorem ps_while {c:Expr} {body:List Stmt} {tc:TT} {tb:TS} (hp:PassesOwn (model X.prog X.w) X.A X.env X.xe) (hc:PT X c tc) (hb:PSs X body tb):PS X (.While c body [] pos) (tWhile tc tb):=by
 intro pins s σ H D I h
 obtain ⟨W,⟨m0,w0⟩,turn⟩:=h
 refine wpAny_While (codeAny_whileLoop (fun n s'=>∃ σ' H',Inv X pins σ' H' s'∧W n σ' H') ?_ m0 ⟨σ,H,I,w0⟩)
 rintro n s1 ⟨σ1,H1,I1,w1⟩
 refine wpAny_passesOwn hp (thn (hc pins s1 σ1 H1 _ I1 (turn n σ1 H1 w1)) fun b s2 ⟨H2,I2,q2⟩=>?_)
 cases b with
 | true =>
  obtain ⟨N,hN,q2⟩:=q2
  rw [if_pos rfl]
  refine wpAny_passesOwn hp (thn (hb pins s2 σ1 H2 _ I2 q2) fun f s3 q3=>?_)
  cases f with
  | next =>
   obtain ⟨σ3,H3,I3,n3⟩:=q3
   obtain ⟨m',hm,w3⟩:=hN σ3 H3 n3
   exact ⟨m',hm,σ3,H3,I3,w3⟩
  | cont =>
   obtain ⟨σ3,H3,I3,n3⟩:=q3
   obtain ⟨m',hm,w3⟩:=hN σ3 H3 n3
   exact ⟨m',hm,σ3,H3,I3,w3⟩
  | brk=>exact q3
  | ret v=>exact q3
 | false =>
  rw [if_neg Bool.false_ne_true]
  exact wpAny_execs_nil ⟨σ1,H2,I2,q2⟩
end
structure It where
 go:Nat→Hp→Prop
 yld:Nat→Hp→V→Hp→Prop
 stop:Nat→Hp→Prop
def FpOk (X:Cx) (pins:List (Addr×Obj)) (H:Hp) (b:Addr):Prop :=
 H b=none∧b≠X.env.locals∧b ∉ X.fs∧(b∈X.ex∨X.s₀.heap.objs.size≤b)∧(∀ x c,X.env.cells.lookup x=some c→c≠b)∧∀ p∈X.pn ++ pins,p.1≠b
theorem Inv.fpOk {X:Cx} {pins:List (Addr×Obj)} {σ:St} {H H':Hp} {s:Shared} {b:Addr} (I:Inv X pins σ H s) (hb:s.heap.objs.size≤b) (hn:H' b=none):FpOk X pins H' b:=by
 refine ⟨hn,Nat.ne_of_gt (Nat.lt_of_lt_of_le I.lt hb),I.nofs hb,.inr (Nat.le_trans I.sz hb),fun x c e z=>?_,fun p hp z=>?_⟩
 ·obtain ⟨v,q⟩:=I.cell x c e
  exact absurd (Nat.lt_of_lt_of_le q.lt (by rw [z]; exact hb)) (Nat.lt_irrefl _)
 ·exact absurd (Nat.lt_of_lt_of_le (Heap.lt_size (I.pin p hp).1) (by rw [z]; exact hb)) (Nat.lt_irrefl _)
structure Turn (P:Program) (w:World) (K:PySem.W.Frag) (tg:Expr) (J:It) (fp:List Addr) (it:Addr) (tn:Nat→Heap→Prop):Prop where
 mem:it∈fp
 obj:∀ i h,tn i h→∀ b∈fp,∃ o,h.get? b=some o∧∀ v,o.data≠.cell v
 keep:∀ i h h',tn i h→(∀ b∈fp,∀ o,h.get? b=some o→h'.get? b=some o)→tn i h'
 item:∀ (X:Cx),X.prog=P→X.w=w→X.K=K→X.calm=true→∀ (i:Nat) (pins:List (Addr×Obj)) (s:Shared) (σ:St) (H:Hp) (E:Value→Shared→Prop),Inv X pins σ H s→(∀ b∈fp,FpOk X pins H b)→tn i s.heap→J.go i H →
  wpAny (model P w) X.A (pyNext (.ref it)) (fun r s1=>∃ u,r=some u ∧
   wpAny (model P w) X.A (letOwnedTupleGo tg (.ref it) u) (fun _ s2=>∃ x H',Inv X pins σ H' s2∧RelV x u∧J.yld i H x H'∧tn (i + 1) s2.heap∧∀ b∈fp,H' b=none) E s1) E s
 done:∀ (X:Cx),X.prog=P→X.w=w→X.K=K→X.calm=true→∀ (i:Nat) (pins:List (Addr×Obj)) (s:Shared) (σ:St) (H:Hp) (E:Value→Shared→Prop),Inv X pins σ H s→(∀ b∈fp,FpOk X pins H b)→tn i s.heap→J.stop i H →
  wpAny (model P w) X.A (pyNext (.ref it)) (fun r s1=>r=none∧Inv X pins σ H s1) E s
 self:∀ (A:Around) (i:Nat) (s:Shared) (Q:Value→Shared→Prop) (E:Value→Shared→Prop),tn i s.heap→Q (.ref it) s→wpAny (model P w) A (pyIter (.ref it)) Q E s
abbrev TI:=St→Hp→(It→Hp→Prop)→Prop
def PIE (X:Cx) (pins:List (Addr×Obj)) (σ:St) (tg:Expr) (R:It→Hp→Prop) (itv:Value) (s2:Shared):Prop :=
 ∃ (it:Addr) (fp:List Addr) (tn:Nat→Heap→Prop) (J:It) (H':Hp),itv=.ref it∧Inv X pins σ H' s2∧Turn X.prog X.w X.K tg J fp it tn∧tn 0 s2.heap∧(∀ b∈fp,FpOk X pins H' b)∧R J H'
def PI (X:Cx) (tg iter:Expr) (wi:TI):Prop :=
 ∀ (pins:List (Addr×Obj)) (s:Shared) (σ:St) (H:Hp) (R:It→Hp→Prop),Inv X pins σ H s→wi σ H R →
  wpAny (model X.prog X.w) X.A (eval iter X.env) (fun v s1=>wpAny (model X.prog X.w) X.A (pyIter v) (PIE X pins σ tg R) X.xe s1) X.xe s
theorem go_of {M:Model} {A:Around} {E:Value→Shared→Prop} {s:Shared} {tg:Expr} {it:Addr} {u:Value} {o:Obj} {n:String} {vs:Array Value} {Q:Unit→Shared→Prop} (ho:s.heap.get? it=some o) (hc:o.cls=.type n) (hd:o.data=.fields vs)
    (hn:["enumerate","zip","dict_itemiterator","dict_reverseitemiterator","odict_iterator","itertools.zip_longest","itertools.pairwise"].contains n=false) (hQ:Q () s):wpAny M A (letOwnedTupleGo tg (.ref it) u) Q E s:=by
  unfold letOwnedTupleGo
  cases tg <;> first
    | exact wpAny_pure hQ
    | (cases u <;> first
        | exact wpAny_pure hQ
        | (refine wpAny_bind (wpAny_load ho ?_)
           rw [hc,hd]
           show wpAny M A (if (["enumerate","zip","dict_itemiterator","dict_reverseitemiterator","odict_iterator","itertools.zip_longest","itertools.pairwise"].contains n && vs[0]? == some (rawInt _))=true then _ else _) Q E s
           rw [if_neg (by intro h; rw [hn,Bool.false_and] at h; cases h)]
           exact wpAny_pure hQ))
def Itl (K:PySem.W.Frag) (a:Addr):It :=
 ⟨fun i H=>∃ xs x,SqL K H a xs∧xs[i]?=some x,fun i H x H'=>H'=H∧∀ xs,SqL K H a xs→xs[i]?=some x,fun i H=>∃ xs,SqL K H a xs∧xs.length≤i⟩
def Itr (lo:Int) (n:Nat):It:=⟨fun i _=>i < n,fun i H x H'=>H'=H∧x=.int (lo + i),fun i _=>n≤i⟩
theorem turn_list {P:Program} {w:World} {K:PySem.W.Frag} {tg:Expr} (a it:Addr):Turn P w K tg (Itl K a) [it] it (fun i h=>h.IsListIter it a i) where
 mem:=by simp
 obj:=fun i h st b hb=>by
  have e:b=it:=by simpa using hb
  subst e
  obtain ⟨o,e,c,d⟩:=st
  exact ⟨o,e,fun v z=>by rw [d] at z; cases z⟩
 keep:=fun i h h' st k=>st.at fun o e=>k it (by simp) o e
 item:=by
  intro X hP hw hK hc i pins s σ H E I hf st hg
  subst hP hw hK
  obtain ⟨xs,x,hq,hx⟩:=hg
  obtain ⟨its,rv,p,hz⟩:=I.list hq
  obtain ⟨u,hu,ru⟩:=rv.get hx
  obtain ⟨f0,f1,f2,f3,f4,f5⟩:=hf it (by simp)
  refine wpAny_pyNext_list_item st p.isList (x:=u) (by simpa using hu) fun h' st' sb=>?_
  have I1:Inv X pins σ H { s with heap:=h' }:=I.turned (t':=s.toks) (fun b o hb e=>(sb.2 b hb).trans e) f0 f1 f3 f4 f5
  obtain ⟨o,e,c,d⟩:=id st'
  exact ⟨u,rfl,go_of (s:={ s with heap:=h' }) e c d (by decide) ⟨x,H,I1,ru,⟨rfl,fun ys hy=>by rw [I.list_inj hy hq]; exact hx⟩,st',fun b hb=>(hf b hb).1⟩⟩
 done:=by
  intro X hP hw hK hc i pins s σ H E I hf st hg
  subst hP hw hK
  obtain ⟨xs,hq,hx⟩:=hg
  obtain ⟨its,rv,p,hz⟩:=I.list hq
  obtain ⟨f0,f1,f2,f3,f4,f5⟩:=hf it (by simp)
  have hl:=rv.length
  exact wpAny_pyNext_list_end (I.ok.hd hc) st p.isList (by simp; omega) fun h' eb=>⟨rfl,I.turned (t':=s.toks) (fun b o hb e=>eb b o hb e) f0 f1 f3 f4 f5⟩
 self:=fun _ _ _ _ _ st h=>wpAny_pyIter_listiter st h
theorem turn_range {P:Program} {w:World} {K:PySem.W.Frag} {tg:Expr} (it:Addr) (lo:Int) (n:Nat):Turn P w K tg (Itr lo n) [it] it (fun i h=>IsRangeIter h it (lo + (i:Nat) * 1) ((n:Int) - (i:Nat)) 1) where
 mem:=by simp
 obj:=fun i h st b hb=>by
  have e:b=it:=by simpa using hb
  subst e
  exact ⟨_,st,fun v z=>by
   have z':Data.fields _=Data.cell v:=z
   cases z'⟩
 keep:=fun i h h' st k=>k it (by simp) _ st
 item:=by
  intro X hP hw hK hc i pins s σ H E I hf st hg
  subst hP hw hK
  obtain ⟨f0,f1,f2,f3,f4,f5⟩:=hf it (by simp)
  have W:=Walks.range (prog:=X.prog) (w:=X.w) (I.ok.hd hc) it lo 1 n
  refine W.item i s _ _ hg st fun v h' tk hv st' kk=>?_
  obtain ⟨t,rfl⟩:=hv
  have I1:Inv X pins σ H { s with heap:=h',toks:=tk }:=I.turned (fun b o hb e=>kk b o (by simpa using hb) e) f0 f1 f3 f4 f5
  refine ⟨_,rfl,go_of (s:={ s with heap:=h',toks:=tk }) (n:="range_iterator") st' rfl rfl (by decide) ⟨.int (lo + i),H,I1,⟨t,?_⟩,⟨rfl,rfl⟩,st',fun b hb=>(hf b hb).1⟩⟩
  rw [Int.mul_one]
 done:=by
  intro X hP hw hK hc i pins s σ H E I hf st hg
  subst hP hw hK
  obtain ⟨f0,f1,f2,f3,f4,f5⟩:=hf it (by simp)
  exact wpAny_pyNext_range_end (I.ok.hd hc) st (by have:n≤i:=hg; omega) fun h' eb=>⟨rfl,I.turned (t':=s.toks) (fun b o hb e=>eb b o hb e) f0 f1 f3 f4 f5⟩
 self:=fun _ _ _ _ _ st h=>wpAny_pyIter_rangeiter st h
section
variable {X:Cx} {tg:Expr}
def iList (K:PySem.W.Frag) (tl:TE):TI:=fun σ H R=>tl σ H fun x H1=>∃ a,x=.ref a∧(∃ xs,SqL K H1 a xs)∧R (Itl K a) H1
theorem pi_list {l:Expr} {tl:TE} (hl:PE X l tl):PI X tg l (iList X.K tl):=by
 intro pins s σ H R I h
 refine thn (hl pins s σ H _ I h) fun v s1 ⟨x,H1,I1,r1,q1⟩=>?_
 obtain ⟨a,e,⟨xs,hq⟩,q⟩:=q1
 subst e
 cases r1
 obtain ⟨its,rv,p,hz⟩:=I1.list hq
 refine wpAny_pyIter_list p.isList ?_
 refine ⟨s1.heap.objs.size,[s1.heap.objs.size],_,_,H1,rfl,I1.kept (t':=s1.toks) fun b o e=>Heap.get?_push_of_some _ e,turn_list a _,⟨_,Heap.get?_push_size _ rfl,rfl,rfl⟩,fun b hb=>?_,q⟩
 have e:b=s1.heap.objs.size:=by simpa using hb
 subst e
 exact I1.fpOk (Nat.le_refl _) (I1.hok.fresh (Nat.le_refl _))
theorem range_it {pins:List (Addr×Obj)} {σ:St} {H:Hp} {s:Shared} {R:It→Hp→Prop} {E:Value→Shared→Prop} {lo hi:Int} {t u v:Tok} {tk:Nat} (I:Inv X pins σ H s) (h1:-(2 ^ 62)≤lo) (h2:lo < 2 ^ 62) (h3:-(2 ^ 62)≤hi) (h4:hi < 2 ^ 62)
  (q:R (Itr lo (hi - lo).toNat) H):wpAny (model X.prog X.w) X.A (pyIter (.ref s.heap.objs.size)) (PIE X pins σ tg R) E { s with heap:=s.heap.push { cls:=.type "range",data:=.fields #[.int lo t,.int hi u,.int 1 v] },toks:=tk }:=by
 refine wpAny_pyIter_range (IsRange.new ..) (small_one h1 h2 h3 h4) ?_
 have I1:Inv X pins σ H { s with heap:=s.heap.push { cls:=.type "range",data:=.fields #[.int lo t,.int hi u,.int 1 v] },toks:=tk }:=I.kept fun b o e=>Heap.get?_push_of_some _ e
 refine ⟨(s.heap.push { cls:=.type "range",data:=.fields #[.int lo t,.int hi u,.int 1 v] }).objs.size,[(s.heap.push { cls:=.type "range",data:=.fields #[.int lo t,.int hi u,.int 1 v] }).objs.size],_,_,H,rfl,
  I1.kept (t':=tk) fun b o e=>Heap.get?_push_of_some _ e,turn_range _ lo (hi - lo).toNat,?_,fun b hb=>?_,q⟩
 ·have e1:lo + ((0:Nat):Int) * 1=lo:=by simp
  have e2:(((hi - lo).toNat:Nat):Int) - ((0:Nat):Int)=Builtin.Range.rangeSize lo hi 1:=by rw [rangeSize_one]; split <;> omega
  show IsRangeIter _ _ (lo + ((0:Nat):Int) * 1) ((((hi - lo).toNat:Nat):Int) - ((0:Nat):Int)) 1
  rw [e1,e2]
  exact Heap.get?_push_size _ rfl
 ·have e:b=(s.heap.push { cls:=.type "range",data:=.fields #[.int lo t,.int hi u,.int 1 v] }).objs.size:=by simpa using hb
  subst e
  exact I1.fpOk (Nat.le_refl _) (I1.hok.fresh (Nat.le_refl _))
def iRng1 (ta:TA):TI:=fun σ H R=>ta σ H fun vs H1=>∃ j:Int,vs=[.int j]∧-(2 ^ 62)≤j∧j < 2 ^ 62∧R (Itr 0 j.toNat) H1
theorem pi_range1 {a:Expr} {ta:TA} {p pos:Pos} (hg:Gl X "range") (hm:X.mg "range"=none) (ha:PA X [a] ta) (hs:starEach [a] X.env=[(false,eval a X.env)]:=by rfl):PI X tg (.Call (.Name "range" p) [a] [] pos) (iRng1 ta):=by
 intro pins s σ H R I h
 refine Call_ (ld_blt I hg hm boot_range (PyProof.Rows.callWith_type1 (thn (ha pos pins s σ H _ I h) fun us s1 ⟨vs,H1,I1,r1,q1⟩=>?_) hs rfl))
 obtain ⟨j,e,q1,q2,q⟩:=q1
 subst e
 cases r1 with
 | cons r rr =>
  cases rr
  obtain ⟨t,rfl⟩:=r
  exact call_range_1 (range_it I1 (by omega) (by omega) q1 q2 (by simpa using q))
def tFor (wi:TI) (g:TG) (tb:TS):TS:=fun D σ H=>wi σ H fun J H1=>∃ W:Nat→Nat→St→Hp→Prop,(∃ m,W 0 m σ H1)∧∀ i m σ H,W i m σ H →
 (J.stop i H∧D.nx σ H)∨(J.go i H∧∃ N:St→Hp→Prop,(∀ σ' H',N σ' H'→∃ m',m' < m∧W (i + 1) m' σ' H')∧∀ x H',J.yld i H x H'→g x σ H' fun σ2 H2=>tb { D with nx:=N,ct:=N,bk:=D.nx } σ2 H2)
def pinsAt (fp:List Addr) (h:Heap):List (Addr×Obj):=fp.filterMap fun b=>(h.get? b).map fun o=>(b,o)
theorem mem_pinsAt {fp:List Addr} {h:Heap} {b:Addr} {o:Obj} (hb:b∈fp) (e:h.get? b=some o):(b,o)∈pinsAt fp h:=List.mem_filterMap.mpr ⟨b,hb,by rw [e]; rfl⟩
theorem of_pinsAt {fp:List Addr} {h:Heap} {p:Addr×Obj} (hp:p∈pinsAt fp h):p.1∈fp∧h.get? p.1=some p.2:=by
 obtain ⟨b,hb,e⟩:=List.mem_filterMap.mp hp
 cases q:h.get? b with
 | none=>rw [q] at e; cases e
 | some o =>
  rw [q] at e
  have e':(b,o)=p:=Option.some.inj e
  subst e'
  exact ⟨hb,q⟩
theorem Inv.pinned {pins:List (Addr×Obj)} {σ:St} {H:Hp} {s:Shared} {fp:List Addr} (I:Inv X pins σ H s) (hf:∀ b∈fp,FpOk X pins H b) (ho:∀ b∈fp,∃ o,s.heap.get? b=some o∧∀ v,o.data≠.cell v):Inv X (pins ++ pinsAt fp s.heap) σ H s :=
 I.pins_of fun p hp=>(List.mem_append.mp hp).elim (fun z=>I.pin p (List.mem_append_right _ z)) fun z=>by
  obtain ⟨hb,e⟩:=of_pinsAt z
  obtain ⟨f0,f1,f2,_⟩:=hf p.1 hb
  obtain ⟨o,e',d⟩:=ho p.1 hb
  rw [e] at e'; cases e'
  exact ⟨e,f0,f1,f2,d⟩
theorem Inv.unpinned {pins pl:List (Addr×Obj)} {σ:St} {H:Hp} {s:Shared} (I:Inv X (pins ++ pl) σ H s):Inv X pins σ H s:=I.pins_of fun p hp=>I.pin p (List.mem_append_right _ (List.mem_append_left _ hp))
theorem ps_for {iter:Expr} {body:List Stmt} {wi:TI} {g:TG} {tb:TS} {pos:Pos} (hp:PassesOwn (model X.prog X.w) X.A X.env X.xe) (hc:X.calm=true) (hi:PI X tg iter wi) (hg:PG X tg g) (hb:PSs X body tb)
  (hs:∀ x,foldedSetIterable iter X.env x=pure x:=by intro _; rfl):PS X (.For tg iter body [] pos) (tFor wi g tb):=by
 intro pins s σ H D I h
 refine wpAny_For (thn (hi pins s σ H _ I h) fun v s1 h1=>thn h1 fun itv s2 h2=>?_) hs
 obtain ⟨it,fp,tn,J,H2,e,I2,T,st2,f2,W,⟨m0,w0⟩,turn⟩:=h2
 subst e
 have stat:∀ {H':Hp},(∀ b∈fp,H' b=none)→∀ b∈fp,FpOk X pins H' b:=fun hn b hb=>⟨hn b hb,(f2 b hb).2⟩
 refine codeAny_forLoop_any (fun n s'=>∃ i σ' H',Inv X pins σ' H' s'∧tn i s'.heap∧(∀ b∈fp,H' b=none)∧W i n σ' H') ?_ m0 ⟨0,σ,H2,I2,st2,fun b hb=>(f2 b hb).1,w0⟩
 rintro n s3 ⟨i,σ3,H3,I3,st3,fr3,w3⟩
 rcases turn i n σ3 H3 w3 with ⟨stop,qn⟩ | ⟨go,N,hN,step⟩
 ·refine wpAny_passesOwn hp (thn (T.done X rfl rfl rfl hc i pins s3 σ3 H3 X.xe I3 (stat fr3) st3 stop) fun r s4 ⟨hr,I4⟩=>?_)
  subst hr
  exact wpAny_execs_nil ⟨σ3,H3,I4,qn⟩
 ·refine wpAny_passesOwn hp (thn (T.item X rfl rfl rfl hc i pins s3 σ3 H3 X.xe I3 (stat fr3) st3 go) fun r s4 ⟨u,hr,h4⟩=>?_)
  subst hr
  refine wpAny_passesOwn hp (thn h4 fun _ s5 ⟨x,H5,I5,r5,y5,st5,fr5⟩=>?_)
  have I5':=I5.pinned (stat fr5) (T.obj _ _ st5)
  refine wpAny_passesOwn hp (thn (hg _ s5 σ3 H5 x u _ I5' r5 (step x H5 y5)) fun _ s6 ⟨σ6,H6,I6,q6⟩=>?_)
  refine wpAny_passesOwn hp (thn (hb _ s6 σ6 H6 _ I6 q6) fun f s7 q7=>?_)
  have again:∀ {σ7:St} {H7:Hp},Inv X (pins ++ pinsAt fp s5.heap) σ7 H7 s7→N σ7 H7→∃ m,m < n∧∃ i σ' H',Inv X pins σ' H' s7∧tn i s7.heap∧(∀ b∈fp,H' b=none)∧W i m σ' H':=fun {σ7 H7} I7 n7=>by
   obtain ⟨m',hm,w7⟩:=hN σ7 H7 n7
   refine ⟨m',hm,i + 1,σ7,H7,I7.unpinned,T.keep _ _ _ st5 fun b hb o e=>(I7.pin (b,o) (List.mem_append_right _ (List.mem_append_right _ (mem_pinsAt hb e)))).1,fun b hb=>?_,w7⟩
   obtain ⟨o,e,d⟩:=T.obj _ _ st5 b hb
   exact (I7.pin (b,o) (List.mem_append_right _ (List.mem_append_right _ (mem_pinsAt hb e)))).2.1
  cases f with
  | next=>obtain ⟨σ7,H7,I7,n7⟩:=q7; exact again I7 n7
  | cont=>obtain ⟨σ7,H7,I7,n7⟩:=q7; exact again I7 n7
  | brk=>obtain ⟨σ7,H7,I7,q7⟩:=q7; exact ⟨σ7,H7,I7.unpinned,q7⟩
  | ret v=>obtain ⟨x7,σ7,H7,I7,r7,q7⟩:=q7; exact ⟨x7,σ7,H7,I7.unpinned,r7,q7⟩
end
theorem for_list {K:PySem.W.Frag} {a:Addr} {xs:List V} {g:TG} {tb:TS} {D:Ends} {σ:St} {H:Hp} (Pv:Nat→St→Hp→Prop) (h0:Pv 0 σ H) (hl:∀ i σ H,i≤xs.length→Pv i σ H→SqL K H a xs)
  (hs:∀ i x σ H,xs[i]?=some x→Pv i σ H→g x σ H fun σ2 H2=>tb { D with nx:=Pv (i + 1),ct:=Pv (i + 1),bk:=D.nx } σ2 H2) (hd:∀ σ H,Pv xs.length σ H→D.nx σ H) :
  ∃ W:Nat→Nat→St→Hp→Prop,(∃ m,W 0 m σ H)∧∀ i m σ H,W i m σ H →
   ((Itl K a).stop i H∧D.nx σ H)∨((Itl K a).go i H∧∃ N:St→Hp→Prop,(∀ σ' H',N σ' H'→∃ m',m' < m∧W (i + 1) m' σ' H')∧∀ x H',(Itl K a).yld i H x H'→g x σ H' fun σ2 H2=>tb { D with nx:=N,ct:=N,bk:=D.nx } σ2 H2):=by
 refine ⟨fun i m σ H=>m=xs.length - i∧i≤xs.length∧Pv i σ H,⟨xs.length,by simp,Nat.zero_le _,h0⟩,?_⟩
 rintro i m σ H ⟨rfl,hi,p⟩
 have q:=hl i σ H hi p
 by_cases hlt:i < xs.length
 ·refine .inr ⟨⟨xs,xs[i],q,by simp [hlt]⟩,Pv (i + 1),fun σ' H' p'=>⟨xs.length - (i + 1),by omega,rfl,hlt,p'⟩,fun x H' y=>?_⟩
  obtain ⟨e,y⟩:=y
  subst e
  exact hs i x σ _ (y xs q) p
 ·have e:i=xs.length:=by omega
  subst e
  exact .inl ⟨⟨xs,q,Nat.le_refl _⟩,hd σ H p⟩
theorem for_range {lo:Int} {n:Nat} {g:TG} {tb:TS} {D:Ends} {σ:St} {H:Hp} (Pv:Nat→St→Hp→Prop) (h0:Pv 0 σ H)
  (hs:∀ i σ H,i < n→Pv i σ H→g (.int (lo + i)) σ H fun σ2 H2=>tb { D with nx:=Pv (i + 1),ct:=Pv (i + 1),bk:=D.nx } σ2 H2) (hd:∀ σ H,Pv n σ H→D.nx σ H) :
  ∃ W:Nat→Nat→St→Hp→Prop,(∃ m,W 0 m σ H)∧∀ i m σ H,W i m σ H →
   ((Itr lo n).stop i H∧D.nx σ H)∨((Itr lo n).go i H∧∃ N:St→Hp→Prop,(∀ σ' H',N σ' H'→∃ m',m' < m∧W (i + 1) m' σ' H')∧∀ x H',(Itr lo n).yld i H x H'→g x σ H' fun σ2 H2=>tb { D with nx:=N,ct:=N,bk:=D.nx } σ2 H2):=by
 refine ⟨fun i m σ H=>m=n - i∧i≤n∧Pv i σ H,⟨n,by simp,Nat.zero_le _,h0⟩,?_⟩
 rintro i m σ H ⟨rfl,hi,p⟩
 by_cases hlt:i < n
 ·refine .inr ⟨hlt,Pv (i + 1),fun σ' H' p'=>⟨n - (i + 1),by omega,rfl,hlt,p'⟩,fun x H' y=>?_⟩
  obtain ⟨e,y⟩:=y
  subst e y
  exact hs i σ _ hlt p
 ·have e:i=n:=by omega
  subst e
  exact .inl ⟨Nat.le_refl _,hd σ H p⟩
abbrev R2:=V→V→Hp→VK→Prop
def OpR (X:Cx) (f:Value→Value→Sem Value) (r:R2):Prop :=
 ∀ (pins:List (Addr×Obj)) (s:Shared) (σ:St) (H:Hp) (x y:V) (v u:Value) (Q:VK),Inv X pins σ H s→RelV x v→RelV y u→r x y H Q →
  wpAny (model X.prog X.w) X.A (f v u) (EP X pins σ Q) X.xe s
def UnR (X:Cx) (f:Value→Sem Value) (r:V→Hp→VK→Prop):Prop :=
 ∀ (pins:List (Addr×Obj)) (s:Shared) (σ:St) (H:Hp) (x:V) (v:Value) (Q:VK),Inv X pins σ H s→RelV x v→r x H Q →
  wpAny (model X.prog X.w) X.A (f v) (EP X pins σ Q) X.xe s
def CallR (X:Cx) (f:Value) (r:List V→Hp→VK→Prop):Prop :=
 ∀ (pins:List (Addr×Obj)) (s:Shared) (σ:St) (H:Hp) (xs:List V) (us:List Value) (Q:VK),Inv X pins σ H s→Vals xs us→r xs H Q →
  wpAny (model X.prog X.w) X.A (call f us) (EP X pins σ Q) X.xe s
def TruR (X:Cx) (r:V→Hp→(Bool→Hp→Prop)→Prop):Prop :=
 ∀ (pins:List (Addr×Obj)) (s:Shared) (σ:St) (H:Hp) (x:V) (v:Value) (Q:Bool→Hp→Prop),Inv X pins σ H s→RelV x v→r x H Q →
  wpAny (model X.prog X.w) X.A (truthy v) (TP X pins σ Q) X.xe s
def tOp (r:R2) (ta tb:TE):TE:=fun σ H Q=>ta σ H fun x H1=>tb σ H1 fun y H2=>r x y H2 Q
def tUn (r:V→Hp→VK→Prop) (ta:TE):TE:=fun σ H Q=>ta σ H fun x H1=>r x H1 Q
def rI (C:Int→Int→Prop) (g:Int→Int→V):R2:=fun x y H Q=>∃ i j,x=.int i∧y=.int j∧C i j∧Q (g i j) H
def rI0 (g:Int→Int→V):R2:=fun x y H Q=>∃ i j,x=.int i∧y=.int j∧Q (g i j) H
def rU (g:Int→V):V→Hp→VK→Prop:=fun x H Q=>∃ i,x=.int i∧Q (g i) H
section
variable {X:Cx} {a b c:Expr} {ta tb tc:TE} {pos:Pos}
theorem binT (ha:PE X a ta) (hb:PE X b tb) {pins:List (Addr×Obj)} {s:Shared} {σ:St} {H:Hp} {R:V→V→Hp→Prop} (I:Inv X pins σ H s)
  (h:ta σ H fun x H1=>tb σ H1 fun y H2=>R x y H2) {Q:Value→Shared→Prop} {f:Value→Value→Sem Value}
  (hf:∀ v u s2 x y H2,Inv X pins σ H2 s2→RelV x v→RelV y u→R x y H2→wpAny (model X.prog X.w) X.A (f v u) Q X.xe s2) :
  wpAny (model X.prog X.w) X.A (eval a X.env) (fun v s₁=>wpAny (model X.prog X.w) X.A (eval b X.env) (fun u s₂=>wpAny (model X.prog X.w) X.A (f v u) Q X.xe s₂) X.xe s₁) X.xe s:=by
 refine thn (ha pins s σ H _ I h) fun v s1 ⟨x,H1,I1,r1,q1⟩=>?_
 refine thn (hb pins s1 σ H1 _ I1 q1) fun u s2 ⟨y,H2,I2,r2,q2⟩=>?_
 exact hf v u s2 x y H2 I2 r1 r2 q2
theorem pe_op {op:Operator} {r:R2} (ho:OpR X (binaryOp op) r) (ha:PE X a ta) (hb:PE X b tb):PE X (.BinOp a op b pos) (tOp r ta tb):=by
 intro pins s σ H Q I h
 exact wpAny_BinOp (binT ha hb I h fun v u s2 x y H2 I2 rx ry q=>ho pins s2 σ H2 x y v u Q I2 rx ry q)
theorem pe_un {op:UnaryOp} {r:V→Hp→VK→Prop} (ho:UnR X (unaryOp op) r) (ha:PE X a ta):PE X (.UnaryOp op a pos) (tUn r ta):=by
 intro pins s σ H Q I h
 exact UnaryOp_ (thn (ha pins s σ H _ I h) fun v s1 ⟨x,H1,I1,r1,q1⟩=>ho pins s1 σ H1 x v Q I1 r1 q1)
theorem opI {f:Value→Value→Sem Value} {C:Int→Int→Prop} {g:Int→Int→Int}
  (rule:∀ (i j:Int) (t u:Tok) (s:Shared) (Q:Value→Shared→Prop) (E:Value→Shared→Prop),C i j→Q (.int (g i j) s.toks) { s with toks:=s.toks + 1 }→wpAny (model X.prog X.w) X.A (f (.int i t) (.int j u)) Q E s) :
  OpR X f (rI C fun i j=>.int (g i j)):=by
 intro pins s σ H x y v u Q I rx ry h
 obtain ⟨i,j,rfl,rfl,hc,q⟩:=h
 obtain ⟨t,rfl⟩:=rx
 obtain ⟨t',rfl⟩:=ry
 exact rule i j t t' s _ _ hc ⟨.int (g i j),H,I.tok _,⟨_,rfl⟩,q⟩
theorem opI0 {f:Value→Value→Sem Value} {g:Int→Int→Int}
  (rule:∀ (i j:Int) (t u:Tok) (s:Shared) (Q:Value→Shared→Prop) (E:Value→Shared→Prop),Q (.int (g i j) s.toks) { s with toks:=s.toks + 1 }→wpAny (model X.prog X.w) X.A (f (.int i t) (.int j u)) Q E s) :
  OpR X f (rI0 fun i j=>.int (g i j)):=by
 intro pins s σ H x y v u Q I rx ry h
 obtain ⟨i,j,rfl,rfl,q⟩:=h
 obtain ⟨t,rfl⟩:=rx
 obtain ⟨t',rfl⟩:=ry
 exact rule i j t t' s _ _ ⟨.int (g i j),H,I.tok _,⟨_,rfl⟩,q⟩
theorem opB0 {f:Value→Value→Sem Value} {g:Int→Int→Bool}
  (rule:∀ (i j:Int) (t u:Tok) (s:Shared) (Q:Value→Shared→Prop) (E:Value→Shared→Prop),Q (.bool (g i j)) s→wpAny (model X.prog X.w) X.A (f (.int i t) (.int j u)) Q E s) :
  OpR X f (rI0 fun i j=>.bl (g i j)):=by
 intro pins s σ H x y v u Q I rx ry h
 obtain ⟨i,j,rfl,rfl,q⟩:=h
 obtain ⟨t,rfl⟩:=rx
 obtain ⟨t',rfl⟩:=ry
 exact rule i j t t' s _ _ ⟨.bl (g i j),H,I,rfl,q⟩
def CDiv (i j:Int):Prop:=0 < j∧j < 1073741824
def CPow (i j:Int):Prop:=0≤j∧j≤1000000∧i.natAbs < 2 ^ 64
def CMul (i j:Int):Prop:=(-(2 ^ 64) < i∧i < 2 ^ 64)∨(-(2 ^ 64) < j∧j < 2 ^ 64)
theorem CMul.ok {i j:Int} (h:CMul i j):IntMulOk i j:=by
 rcases h with ⟨h1,h2⟩ | ⟨h1,h2⟩
 ·exact .of_left (intBits_le_64 h1 h2)
 ·exact .of_right (intBits_le_64 h1 h2)
theorem op_add:OpR X (binaryOp .Add) (rI0 fun i j=>.int (i + j)):=opI0 fun _ _ _ _ _ _ _ q=>add_int q
theorem op_sub:OpR X (binaryOp .Sub) (rI0 fun i j=>.int (i - j)):=opI0 fun _ _ _ _ _ _ _ q=>sub_int q
theorem op_mul:OpR X (binaryOp .Mult) (rI CMul fun i j=>.int (i * j)):=opI fun _ _ _ _ _ _ _ hc q=>mul_int q hc.ok
theorem op_fdiv:OpR X (binaryOp .FloorDiv) (rI CDiv fun i j=>.int (i / j)):=opI fun i j _ _ _ _ _ hc q=>by
 have h1:(0:Int) < j:=hc.1
 have h2:j < 1073741824:=hc.2
 exact floordiv_int (by omega) (by rw [Int.fdiv_eq_ediv_of_nonneg i (by omega)]; exact q) (.inl (PyProof.noPylong_small (by omega)))
theorem op_mod:OpR X (binaryOp .Mod) (rI (fun _ j=>0 < j) fun i j=>.int (i % j)):=opI fun i j _ _ _ _ _ hc q=>by
 have h1:(0:Int) < j:=hc
 exact mod_int' (by omega) (by rw [Int.fmod_eq_emod_of_nonneg i (by omega)]; exact q)
theorem op_pow:OpR X (binaryOp .Pow) (rI CPow fun i j=>.int (i ^ j.toNat)):=opI fun _ _ _ _ _ _ _ hc q=>pow_int_small hc.1 hc.2.1 hc.2.2 q
theorem unI {f:Value→Sem Value} {g:Int→Int}
  (rule:∀ (i:Int) (t:Tok) (s:Shared) (Q:Value→Shared→Prop) (E:Value→Shared→Prop),Q (.int (g i) s.toks) { s with toks:=s.toks + 1 }→wpAny (model X.prog X.w) X.A (f (.int i t)) Q E s) :
  UnR X f (rU fun i=>.int (g i)):=by
 intro pins s σ H x v Q I rx h
 obtain ⟨i,rfl,q⟩:=h
 obtain ⟨t,rfl⟩:=rx
 exact rule i t s _ _ ⟨.int (g i),H,I.tok _,⟨_,rfl⟩,q⟩
theorem un_neg:UnR X (unaryOp .USub) (rU fun i=>.int (-i)):=unI fun _ _ _ _ _ q=>neg_int q
end
def scal:V→V→Bool
 | .non,.non=>true | .non,.int _=>true | .int _,.non=>true | .non,.bl _=>true | .bl _,.non=>true | .non,.str _=>true | .str _,.non=>true
 | .int _,.int _=>true | .bl _,.bl _=>true | .str _,.str _=>true | .byt _,.byt _=>true
 | .int _,.str _=>true | .str _,.int _=>true | .bl _,.str _=>true | .str _,.bl _=>true
 | _,_=>false
def rEq:R2:=fun x y H Q=>scal x y=true∧Q (.bl (decide (x=y))) H
def rNe:R2:=fun x y H Q=>scal x y=true∧Q (.bl (!decide (x=y))) H
theorem dec_int {i j:Int}:decide (V.int i=V.int j)=(i == j):=by
 rw [Bool.eq_iff_iff]
 simp
theorem dec_bl {i j:Bool}:decide (V.bl i=V.bl j)=(i == j):=by
 rw [Bool.eq_iff_iff]
 simp
theorem dec_str {i j:Str}:decide (V.str i=V.str j)=(i == j):=by
 rw [Bool.eq_iff_iff]
 simp
theorem dec_byt {i j:Array UInt8}:decide (V.byt i=V.byt j)=(i.toList == j.toList):=by
 rw [Bool.eq_iff_iff]
 cases i
 cases j
 simp
section
variable {X:Cx} {a b c:Expr} {ta tb tc:TE} {pos:Pos}
theorem fin_bl {pins:List (Addr×Obj)} {σ:St} {H:Hp} {s:Shared} {Q:VK} {k k':Bool} (I:Inv X pins σ H s) (q:Q (.bl k) H) (e:k=k'):EP X pins σ Q (.bool k') s:=by
 subst e
 exact ⟨.bl k,H,I,rfl,q⟩
theorem op_eq:OpR X (compareOp .Eq) rEq:=by
 intro pins s σ H x y v u Q I rx ry h
 obtain ⟨hs,q⟩:=h
 cases x with
 | non =>
  cases rx
  cases y with
  | non=>cases ry; exact PySem.EqNone.eq_none_none (fin_bl I q (by simp))
  | bl j=>cases ry; exact PySem.EqNone.eq_none_bool (fin_bl I q (by simp))
  | int j=>obtain ⟨t',rfl⟩:=ry; exact PySem.EqNone.eq_none_int (fin_bl I q (by simp))
  | str j=>obtain ⟨t',rfl⟩:=ry; exact PySem.EqNone.eq_none_str (fin_bl I q (by simp))
  | _=>exact absurd (show false=true from hs) Bool.false_ne_true
 | bl i =>
  cases rx
  cases y with
  | non=>cases ry; exact PySem.EqNone.eq_bool_none (fin_bl I q (by simp))
  | bl j=>cases ry; exact eq_bool (fin_bl I q dec_bl)
  | str j=>obtain ⟨t',rfl⟩:=ry; exact PySem.EqMixed.eq_bool_str (fin_bl I q (by simp))
  | _=>exact absurd (show false=true from hs) Bool.false_ne_true
 | int i =>
  obtain ⟨t,rfl⟩:=rx
  cases y with
  | non=>cases ry; exact PySem.EqNone.eq_int_none (fin_bl I q (by simp))
  | int j=>obtain ⟨t',rfl⟩:=ry; exact eq_int (fin_bl I q dec_int)
  | str j=>obtain ⟨t',rfl⟩:=ry; exact PySem.EqMixed.eq_int_str (fin_bl I q (by simp))
  | _=>exact absurd (show false=true from hs) Bool.false_ne_true
 | str i =>
  obtain ⟨t,rfl⟩:=rx
  cases y with
  | non=>cases ry; exact PySem.EqNone.eq_str_none (fin_bl I q (by simp))
  | bl j=>cases ry; exact PySem.EqMixed.eq_str_bool (fin_bl I q (by simp))
  | int j=>obtain ⟨t',rfl⟩:=ry; exact PySem.EqMixed.eq_str_int (fin_bl I q (by simp))
  | str j=>obtain ⟨t',rfl⟩:=ry; exact eq_str (fin_bl I q dec_str)
  | _=>exact absurd (show false=true from hs) Bool.false_ne_true
 | byt i =>
  obtain ⟨t,rfl⟩:=rx
  cases y with
  | byt j=>obtain ⟨t',rfl⟩:=ry; exact PySem.W.eq_bytes (fin_bl I q dec_byt)
  | _=>exact absurd (show false=true from hs) Bool.false_ne_true
 | _=>cases y <;> exact absurd (show false=true from hs) Bool.false_ne_true
theorem op_ne:OpR X (compareOp .NotEq) rNe:=by
 intro pins s σ H x y v u Q I rx ry h
 obtain ⟨hs,q⟩:=h
 cases x with
 | non =>
  cases rx
  cases y with
  | non=>cases ry; exact PySem.EqNone.ne_none_none (fin_bl I q (by simp))
  | bl j=>cases ry; exact PySem.EqNone.ne_none_bool (fin_bl I q (by simp))
  | int j=>obtain ⟨t',rfl⟩:=ry; exact PySem.EqNone.ne_none_int (fin_bl I q (by simp))
  | str j=>obtain ⟨t',rfl⟩:=ry; exact PySem.EqNone.ne_none_str (fin_bl I q (by simp))
  | _=>exact absurd (show false=true from hs) Bool.false_ne_true
 | bl i =>
  cases rx
  cases y with
  | non=>cases ry; exact PySem.EqNone.ne_bool_none (fin_bl I q (by simp))
  | bl j=>cases ry; exact ne_bool (fin_bl I q (congrArg not dec_bl))
  | str j=>obtain ⟨t',rfl⟩:=ry; exact PySem.EqMixed.ne_bool_str (fin_bl I q (by simp))
  | _=>exact absurd (show false=true from hs) Bool.false_ne_true
 | int i =>
  obtain ⟨t,rfl⟩:=rx
  cases y with
  | non=>cases ry; exact PySem.EqNone.ne_int_none (fin_bl I q (by simp))
  | int j=>obtain ⟨t',rfl⟩:=ry; exact ne_int (fin_bl I q (congrArg not dec_int))
  | str j=>obtain ⟨t',rfl⟩:=ry; exact PySem.EqMixed.ne_int_str (fin_bl I q (by simp))
  | _=>exact absurd (show false=true from hs) Bool.false_ne_true
 | str i =>
  obtain ⟨t,rfl⟩:=rx
  cases y with
  | non=>cases ry; exact PySem.EqNone.ne_str_none (fin_bl I q (by simp))
  | bl j=>cases ry; exact PySem.EqMixed.ne_str_bool (fin_bl I q (by simp))
  | int j=>obtain ⟨t',rfl⟩:=ry; exact PySem.EqMixed.ne_str_int (fin_bl I q (by simp))
  | str j=>obtain ⟨t',rfl⟩:=ry; exact ne_str (fin_bl I q (congrArg not dec_str))
  | _=>exact absurd (show false=true from hs) Bool.false_ne_true
 | byt i =>
  obtain ⟨t,rfl⟩:=rx
  cases y with
  | byt j=>obtain ⟨t',rfl⟩:=ry; exact PySem.W.ne_bytes (fin_bl I q (congrArg not dec_byt))
  | _=>exact absurd (show false=true from hs) Bool.false_ne_true
 | _=>cases y <;> exact absurd (show false=true from hs) Bool.false_ne_true
theorem op_lt:OpR X (compareOp .Lt) (rI0 fun i j=>.bl (decide (i < j))):=opB0 fun _ _ _ _ _ _ _ q=>lt_int q
theorem op_le:OpR X (compareOp .LtE) (rI0 fun i j=>.bl (decide (i≤j))):=opB0 fun _ _ _ _ _ _ _ q=>le_int q
theorem op_gt:OpR X (compareOp .Gt) (rI0 fun i j=>.bl (decide (j < i))):=opB0 fun _ _ _ _ _ _ _ q=>gt_int q
theorem op_ge:OpR X (compareOp .GtE) (rI0 fun i j=>.bl (decide (j≤i))):=opB0 fun _ _ _ _ _ _ _ q=>ge_int q
theorem op_isN:OpR X (compareOp .Is) (fun x y H Q=>y=.non∧Q (.bl (decide (x=.non))) H):=by
 intro pins s σ H x y v u Q I rx ry h
 obtain ⟨rfl,q⟩:=h
 cases ry
 refine is_none_gen (fin_bl I q ?_)
 cases x <;> first
  | (cases rx; rfl)
  | (obtain ⟨t,rfl⟩:=rx; rfl)
theorem op_notN:OpR X (compareOp .IsNot) (fun x y H Q=>y=.non∧Q (.bl (!decide (x=.non))) H):=by
 intro pins s σ H x y v u Q I rx ry h
 obtain ⟨rfl,q⟩:=h
 cases ry
 refine isnot_none_gen (fin_bl I q ?_)
 cases x <;> first
  | (cases rx; rfl)
  | (obtain ⟨t,rfl⟩:=rx; rfl)
theorem op_notin_str:OpR X (compareOp .NotIn) (fun x y H Q=>∃ i j,x=.str i∧y=.str j∧Q (.bl (!(!(Builtin.Str.occurrences j i 0 j.length 1).isEmpty))) H):=by
 intro pins s σ H x y v u Q I rx ry h
 obtain ⟨i,j,rfl,rfl,q⟩:=h
 obtain ⟨t,rfl⟩:=rx
 obtain ⟨t',rfl⟩:=ry
 exact notIn_str (fin_bl I q rfl)
theorem nomark (b:Expr) {op:CmpOp} (h:op≠.In:=by decide) (h2:op≠.NotIn:=by decide):behindInMarks op b=false:=by
 have e1:(op == CmpOp.In)=false:=by cases op <;> first | rfl | exact absurd rfl h
 have e2:(op == CmpOp.NotIn)=false:=by cases op <;> first | rfl | exact absurd rfl h2
 cases b <;> simp [behindInMarks,e1,e2]
theorem pe_cmpR {op:CmpOp} {r:R2} (ho:OpR X (compareOp op) r) (ha:PE X a ta) (hb:PE X b tb) (hm:behindInMarks op b=false):PE X (.Compare a [op] [b] pos) (tOp r ta tb):=by
 intro pins s σ H Q I h
 exact wpAny_Compare1 (binT ha hb I h fun v u s2 x y H2 I2 rx ry q=>ho pins s2 σ H2 x y v u Q I2 rx ry q) hm
def tTest (t:TE):TT:=fun σ H Q=>t σ H fun x H'=>∃ k,x=.bl k∧Q k H'
theorem pt_cmpR {op:CmpOp} {r:R2} (ho:OpR X (compareOp op) r) (ha:PE X a ta) (hb:PE X b tb) (hm:behindInMarks op b=false):PT X (.Compare a [op] [b] pos) (tTest (tOp r ta tb)):=by
 intro pins s σ H Q I h
 refine wpAny_isTrue_Compare1 (thn (ha pins s σ H _ I h) fun v s1 ⟨x,H1,I1,r1,q1⟩=>thn (hb pins s1 σ H1 _ I1 q1) fun u s2 ⟨y,H2,I2,r2,q2⟩ =>
  thn (ho pins s2 σ H2 x y v u _ I2 r1 r2 q2) fun c s3 ⟨z,H3,I3,r3,k,e,q3⟩=>?_) hm
 subst e
 cases r3
 exact wpAny_truthy_bool ⟨H3,I3,q3⟩
def tChain (r r':R2) (ta tb tc:TE):TE:=fun σ H Q=>ta σ H fun x H1=>tb σ H1 fun y H2=>r x y H2 fun z H3=>∃ k,z=.bl k ∧
 (if k=true then tc σ H3 fun w' H4=>r' y w' H4 Q else Q (.bl false) H3)
theorem pe_chain {op op':CmpOp} {r r':R2} (ho:OpR X (compareOp op) r) (ho':OpR X (compareOp op') r') (ha:PE X a ta) (hb:PE X b tb) (hc:PE X c tc)
  (hm:lastMarks [op,op'] [b,c]=false:=by with_unfolding_all rfl):PE X (.Compare a [op,op'] [b,c] pos) (tChain r r' ta tb tc):=by
 intro pins s σ H Q I h
 refine Compare_chain (thn (ha pins s σ H _ I h) fun v s1 ⟨x,H1,I1,r1,q1⟩=>chain_link (thn (hb pins s1 σ H1 _ I1 q1) fun u s2 ⟨y,H2,I2,r2,q2⟩ =>
  thn (ho pins s2 σ H2 x y v u _ I2 r1 r2 q2) fun d s3 ⟨z,H3,I3,r3,k,e,q3⟩=>?_)) hm
 subst e
 cases r3
 refine wpAny_truthy_bool ?_
 cases k with
 | false=>exact ite_ff ⟨.bl false,H3,I3,rfl,q3⟩
 | true=>exact ite_tt (chain_last (thn (hc pins s3 σ H3 _ I3 q3) fun w' s4 ⟨z',H4,I4,r4,q4⟩=>ho' pins s4 σ H4 y z' u w' Q I4 r2 r4 q4))
theorem pt_chain {op op':CmpOp} {r r':R2} (ho:OpR X (compareOp op) r) (ho':OpR X (compareOp op') r') (ha:PE X a ta) (hb:PE X b tb) (hc:PE X c tc)
  (hm:lastMarks [op,op'] [b,c]=false:=by with_unfolding_all rfl):PT X (.Compare a [op,op'] [b,c] pos) (tTest (tChain r r' ta tb tc)):=by
 intro pins s σ H Q I h
 refine isTrue_chain (thn (ha pins s σ H _ I h) fun v s1 ⟨x,H1,I1,r1,q1⟩=>test_link (thn (hb pins s1 σ H1 _ I1 q1) fun u s2 ⟨y,H2,I2,r2,q2⟩ =>
  thn (ho pins s2 σ H2 x y v u _ I2 r1 r2 q2) fun d s3 ⟨z,H3,I3,r3,k,e,q3⟩=>?_)) hm
 subst e
 cases r3
 refine wpAny_truthy_bool ?_
 cases k with
 | false =>
  obtain ⟨k',e',q'⟩:=q3
  cases e'
  exact ite_ff ⟨H3,I3,q'⟩
 | true =>
  refine ite_tt (test_last (thn (hc pins s3 σ H3 _ I3 q3) fun w' s4 ⟨z',H4,I4,r4,q4⟩=>thn (ho' pins s4 σ H4 y z' u w' _ I4 r2 r4 q4) fun d' s5 ⟨z2,H5,I5,r5,k2,e2,q5⟩=>?_))
  subst e2
  cases r5
  exact wpAny_truthy_bool ⟨H5,I5,q5⟩
def TruV (K:PySem.W.Frag) (x:V) (H:Hp) (k:Bool):Prop :=
 match x with
 | .non=>k=false
 | .bl b=>k=b
 | .int i=>k=(i != 0)
 | .str y=>y.length≤sizeLine∧k=((y.length:Int) != 0)
 | .byt y=>y.size≤sizeLine∧k=((y.size:Int) != 0)
 | .ref p=>(∃ xs,SqL K H p xs∧k=!xs.isEmpty)∨(∃ xs,SqT K H p xs∧k=!xs.isEmpty)∨∃ kvs,H p=some (.dK kvs)∧k=!kvs.isEmpty
 | _=>False
theorem isEmpty_kv {κ:Type} {kvs:List (κ×V)} {vs:List (κ×Value)} (r:KV kvs vs):(!vs.isEmpty)=!kvs.isEmpty:=by
 cases r <;> rfl
theorem isEmpty_of {xs:List V} {its:List Value} (r:Vals xs its):(!its.toArray.isEmpty)=!xs.isEmpty:=by
 cases r <;> simp
theorem line63:(sizeLine:Nat) < 2 ^ 63:=by rw [sizeLine_eq]; decide
theorem tru_ok:TruR X (fun x H Q=>∃ k,TruV X.K x H k∧Q k H):=by
 intro pins s σ H x v Q I rx h
 obtain ⟨k,e,q⟩:=h
 have hl:=line63
 have hs:sizeLine=16777216:=sizeLine_eq
 cases x with
 | non =>
  cases rx
  have e':k=false:=e
  subst e'
  exact truthy_none ⟨H,I,q⟩
 | bl b =>
  cases rx
  have e':k=b:=e
  subst e'
  exact wpAny_truthy_bool ⟨H,I,q⟩
 | int i =>
  obtain ⟨t,rfl⟩:=rx
  have e':k=(i != 0):=e
  subst e'
  exact PySem.P.truthy_int ⟨H,I,q⟩
 | str y =>
  obtain ⟨t,rfl⟩:=rx
  obtain ⟨hy,e'⟩:y.length≤sizeLine∧k=((y.length:Int) != 0):=e
  subst e'
  exact PySem.P.truthy_str (by omega) ⟨H,I.tok _,q⟩
 | byt y =>
  obtain ⟨t,rfl⟩:=rx
  obtain ⟨hy,e'⟩:y.size≤sizeLine∧k=((y.size:Int) != 0):=e
  subst e'
  exact PySem.W.truthy_bytes (by omega) ⟨H,I.tok _,q⟩
 | ref p =>
  cases rx
  have e':(∃ xs,SqL X.K H p xs∧k=!xs.isEmpty)∨(∃ xs,SqT X.K H p xs∧k=!xs.isEmpty)∨∃ kvs,H p=some (.dK kvs)∧k=!kvs.isEmpty:=e
  rcases e' with ⟨xs,hx,e'⟩ | ⟨xs,hx,e'⟩ | ⟨kvs,hx,e'⟩
  ·subst e'
   obtain ⟨its,r,pl,hz⟩:=I.list hx
   have hlen:=r.length
   exact wpAny_truthy_list pl.isList (by simp only [List.size_toArray]; omega) ⟨H,I.tok _,by rw [isEmpty_of r]; exact q⟩
  ·subst e'
   obtain ⟨its,r,pl,hz⟩:=I.tuple hx
   have hlen:=r.length
   exact truthy_tuple pl (by simp only [List.size_toArray]; omega) ⟨H,I.tok _,by rw [isEmpty_of r]; exact q⟩
  ·subst e'
   obtain ⟨hz,hS,vs,r,m⟩:kvs.length≤sizeLine∧(p == sysModules)=false∧∃ vs,KV kvs vs∧s.heap.DictOf (mixKind X.prog X.w) p vs:=I.hok p _ hx
   have hlen:kvs.length=vs.length:=Paired.length r
   exact wpAny_truthy_dict hS m (by omega) ⟨H,I.tok _,by rw [isEmpty_kv r]; exact q⟩
 | _=>exact (show False from e).elim
theorem pt_truth (ha:PE X a ta) (he:∀ whole,isTrue a X.env whole=(do let v ← whole; standAt a.pos; holding [v] (truthy v))) :
  PT X a (fun σ H Q=>ta σ H fun x H'=>∃ k,TruV X.K x H' k∧Q k H'):=by
 intro pins s σ H Q I h
 exact isTrue_plain (thn (ha pins s σ H _ I h) fun v s1 ⟨x,H1,I1,r1,q1⟩=>tru_ok pins s1 σ H1 x v Q I1 r1 q1) (he _)
theorem op_add_str:OpR X (binaryOp .Add) (fun x y H Q=>∃ i j,x=.str i∧y=.str j∧i.length + j.length≤sizeLine∧Q (.str (i ++ j)) H):=by
 intro pins s σ H x y v u Q I rx ry h
 obtain ⟨i,j,rfl,rfl,hz,q⟩:=h
 obtain ⟨t,rfl⟩:=rx
 obtain ⟨t',rfl⟩:=ry
 exact add_str (fun t' tk=>⟨.str (i ++ j),H,I.tok _,⟨_,rfl⟩,q⟩) hz
theorem vals1 {x:V} {us:List Value} (r:Vals [x] us):∃ u,us=[u]∧RelV x u:=by
 cases r with
 | cons r1 r2=>cases r2; exact ⟨_,rfl,r1⟩
theorem vals2 {x y:V} {us:List Value} (r:Vals [x,y] us):∃ u w',us=[u,w']∧RelV x u∧RelV y w':=by
 cases r with
 | cons r1 r2 =>
  cases r2 with
  | cons r3 r4=>cases r4; exact ⟨_,_,rfl,r1,r3⟩
theorem call_abs:CallR X (.builtin "abs") (fun xs H Q=>∃ i,xs=[.int i]∧Q (.int (if i < 0 then -i else i)) H):=by
 intro pins s σ H xs us Q I r h
 obtain ⟨i,rfl,q⟩:=h
 obtain ⟨u,rfl,t,rfl⟩:=vals1 r
 exact call_abs_int fun u tk=>⟨.int (if i < 0 then -i else i),H,I.tok _,⟨_,rfl⟩,q⟩
theorem call_max2 (hc:X.calm=true):CallR X (.builtin "max") (fun xs H Q=>∃ i j,xs=[.int i,.int j]∧Q (.int (if j > i then j else i)) H):=by
 intro pins s σ H xs us Q I r h
 obtain ⟨i,j,rfl,q⟩:=h
 obtain ⟨u,w',rfl,⟨t,rfl⟩,⟨t',rfl⟩⟩:=vals2 r
 refine max_two_ints (I.ok.hd hc) fun h' tk k=>⟨_,H,I.kept k,?_,q⟩
 by_cases hj:j > i
 ·rw [if_pos hj,if_pos hj]; exact ⟨_,rfl⟩
 ·rw [if_neg hj,if_neg hj]; exact ⟨_,rfl⟩
theorem call_min2 (hc:X.calm=true):CallR X (.builtin "min") (fun xs H Q=>∃ i j,xs=[.int i,.int j]∧Q (.int (if j < i then j else i)) H):=by
 intro pins s σ H xs us Q I r h
 obtain ⟨i,j,rfl,q⟩:=h
 obtain ⟨u,w',rfl,⟨t,rfl⟩,⟨t',rfl⟩⟩:=vals2 r
 refine min_two_ints (I.ok.hd hc) fun h' tk k=>⟨_,H,I.kept k,?_,q⟩
 by_cases hj:j < i
 ·rw [if_pos hj,if_pos hj]; exact ⟨_,rfl⟩
 ·rw [if_neg hj,if_neg hj]; exact ⟨_,rfl⟩
theorem call_str_int:CallR X (.type "str") (fun xs H Q=>∃ i,xs=[.int i]∧i.natAbs.log2 < 1920∧Q (.str (toString i)) H):=by
 intro pins s σ H xs us Q I r h
 obtain ⟨i,rfl,hz,q⟩:=h
 obtain ⟨u,rfl,t,rfl⟩:=vals1 r
 exact PySem.P.str_of_int hz ⟨.str _,H,I.tok _,⟨_,rfl⟩,q⟩
end
structure ObjM (h:Heap) (x dx C:Addr) (mA:Str→Option Value):Prop where
 obj:h.get? x=some (PySem.W.instObj C dx)
 ns:h.Ns1 dx mA
 ne:dx≠x
theorem lookIn_ns {h:Heap} {dx:Addr} {mA:Str→Option Value} (n:h.Ns1 dx mA):∃ od,h.get? dx=some od∧∀ name,PySem.W.lookIn name od=some (mA name):=by
 obtain ⟨o,es,ep,ho,hd,hk,_,hm⟩:=n
 refine ⟨o,ho,fun name=>?_⟩
 have e:=hm name
 unfold nsFind findBy at e
 rw [← Array.find?_toList] at e
 unfold PySem.W.lookIn
 rw [hd]
 dsimp only
 split
 ·rename_i y q
  rw [q] at e
  exact congrArg some e
 ·rename_i q
  rw [q] at e
  have a:es.toList.any (·.refKey)=false:=by
   rw [List.any_eq_false]
   intro y hy
   obtain ⟨z,t,hkey⟩:=hk y (Array.mem_toList_iff.mp hy)
   simp [DictEntry.refKey,hkey]
  have a':¬ es.toList.any (·.refKey)=true:=by rw [a]; exact Bool.false_ne_true
  rw [if_neg a']
  exact congrArg some e
theorem ObjM.look {h:Heap} {x dx C:Addr} {mA:Str→Option Value} (I:ObjM h x dx C mA):∃ od,PySem.W.InstAt h x (PySem.W.instObj C dx) C (some od)∧∀ name,PySem.W.lookIn name od=some (mA name) :=
 let ⟨od,ho,hl⟩:=lookIn_ns I.ns
 ⟨od,⟨I.obj,rfl,rfl,ho⟩,hl⟩
section
variable {prog:Program} {w:World} {A:Around} {E:Value→Shared→Prop} {s:Shared} {K:PySem.W.Frag} {x dx C f:Addr} {mA:Str→Option Value} {name:Str} {v:Value}
end
theorem RelO.some_of {v:V} {o:Option Value} (r:RelO (some v) o):∃ u,o=some u∧RelV v u:=by
 cases o with
 | none=>exact (show False from r).elim
 | some u=>exact ⟨u,rfl,r⟩
section
variable {P:Program} {w:World} {H H':Hp} {h h':Heap} {a C dx:Addr} {fs fs':List (Str×V)}
theorem ins_get (hok:HOk P w H h) (e:H a=some (.ins C dx fs)):∃ mA,ObjM h a dx C mA∧(∀ f,RelO (fs.lookup f) (mA f))∧PySem.Within mA (fs.map (·.1))∧fs.length≤1000∧H dx=some (.own a):=by
 obtain ⟨d,z,ne,ob,mA,n,r,q⟩:=(show ObjOk P w H h a (.ins C dx fs) from hok a _ e)
 exact ⟨mA,⟨ob,n,ne⟩,r,q,z,d⟩
end
structure Cls (K:PySem.W.Frag) (C:Addr):Prop where
 pg:PySem.W.plainGet K C Str.empty=true
 hd:PySem.W.hasDictIn K C=true
 po:PySem.W.plainOver K C=true
 sa:PySem.W.findIn K (.ref C) "__setattr__"=some (some (.builtin "object.__setattr__"))
theorem Cls.get {K:PySem.W.Frag} {C:Addr} (c:Cls K C) (f:Str):PySem.W.plainGet K C f=true:=c.pg
section
variable {X:Cx} {pins:List (Addr×Obj)} {σ:St} {H:Hp} {s:Shared} {a C dx:Addr} {fs:List (Str×V)} {f:Str} {v:V} {A:Around} {E:Value→Shared→Prop}
end
section
variable {X:Cx} {o e value:Expr} {f:Str} {pos pos' tpos:Pos} {ta tv:TE}
end
section
variable {X:Cx} {pins:List (Addr×Obj)} {σ:St} {H:Hp} {s:Shared} {A:Around} {E:Value→Shared→Prop} {Q:Value→Shared→Prop} {c:Value} {b:Bool}
inductive TyOf (K:PySem.W.Frag) (H:Hp):V→Value→Prop where
 | non:TyOf K H .non (.type "NoneType")
 | bl (x:Bool):TyOf K H (.bl x) (.type "bool")
 | int (i:Int):TyOf K H (.int i) (.type "int")
 | str (x:Str):TyOf K H (.str x) (.type "str")
 | flt (x:UInt64):TyOf K H (.flt x) (.type "float")
 | lst {a:Addr} {xs:List V} (e:H a=some (.lst xs)):TyOf K H (.ref a) (.type "list")
 | frz {a:Addr} {o:Obj} {xs:List V} (e:H a=some (.frz o (.lst xs))):TyOf K H (.ref a) (.type "list")
 | tup {a:Addr} {xs:List V} (e:H a=some (.tup xs)):TyOf K H (.ref a) (.type "tuple")
 | dK {a:Addr} {kvs:List (Key×V)} (e:H a=some (.dK kvs)):TyOf K H (.ref a) (.type "dict")
 | dT {a:Addr} {kvs:List (List Key×V)} (e:H a=some (.dT kvs)):TyOf K H (.ref a) (.type "dict")
 | ins {a C dx:Addr} {fs:List (Str×V)} (e:H a=some (.ins C dx fs)) (cl:Cls K C) (ha:PySem.W.findIn K (.ref C) "__class__"=some (some (.builtin "object.__class__")))
   (hn:PySem.W.specialIn K (.builtin "object.__class__") "__get__"=some (some (.builtin "getset_descriptor.__get__"))) (htk:PySem.W.takesIn K (.builtin "object.__class__")=some true)
   (hm:PySem.W.mroIn K C (.type "object")=some true):TyOf K H (.ref a) (.ref C)
theorem isinst_ok {x:V} {u t:Value} (I:Inv X pins σ H s) (rx:RelV x u) (ty:TyOf X.K H x t) (e:PySem.W.kitOne X.K t c=some b) (h:∀ tk,Q (.bool b) { s with toks:=tk }) :
  wpAny (model X.prog X.w) A (call (.builtin "isinstance") [u,c]) Q E s:=by
 cases ty with
 | non=>cases (show u=Value.none from rx); exact PySem.W.kia_one PySem.W.kitx_none I.kIn True.intro e (fun z=>nomatch z) h
 | bl y=>cases (show u=Value.bool y from rx); exact PySem.W.kia_one PySem.W.kitx_bool I.kIn True.intro e (fun z=>nomatch z) h
 | int i=>obtain ⟨t,q⟩:=(show ∃ t,u=Value.int i t from rx); cases q; exact PySem.W.kia_one PySem.W.kitx_int I.kIn True.intro e (fun z=>nomatch z) h
 | str y=>obtain ⟨t,q⟩:=(show ∃ t,u=Value.str y t from rx); cases q; exact PySem.W.kia_one PySem.W.kitx_str I.kIn True.intro e (fun z=>nomatch z) h
 | flt y=>obtain ⟨t,q⟩:=(show ∃ t,u=Value.float y t from rx); cases q; exact PySem.W.kia_one PySem.W.kitx_float I.kIn True.intro e (fun z=>nomatch z) h
 | @lst a xs ea =>
  cases (show u=Value.ref a from rx)
  obtain ⟨_,_,n,_,h1⟩:=(show ObjOk X.prog X.w H s.heap a (.lst xs) from I.hok a _ ea)
  exact PySem.W.kia_one PySem.W.kitx_list I.kIn ⟨_,h1,rfl⟩ e (fun z=>nomatch z) h
 | @frz a ob xs ea =>
  cases (show u=Value.ref a from rx)
  obtain ⟨_,_,_,n,_,h1⟩:=(show ObjOk X.prog X.w H s.heap a (.frz ob (.lst xs)) from I.hok a _ ea)
  exact PySem.W.kia_one PySem.W.kitx_list I.kIn ⟨_,h1,rfl⟩ e (fun z=>nomatch z) h
 | @tup a xs ea =>
  cases (show u=Value.ref a from rx)
  obtain ⟨_,_,_,p⟩:=(show ObjOk X.prog X.w H s.heap a (.tup xs) from I.hok a _ ea)
  obtain ⟨o,h1,h2,_⟩:=p
  exact PySem.W.kia_one PySem.W.kitx_tuple I.kIn ⟨o,h1,h2⟩ e (fun z=>nomatch z) h
 | @dK a kvs ea =>
  cases (show u=Value.ref a from rx)
  obtain ⟨_,_,vs,_,p⟩:=(show ObjOk X.prog X.w H s.heap a (.dK kvs) from I.hok a _ ea)
  obtain ⟨o,es,ep,h1,h2,_⟩:=p
  exact PySem.W.kia_one PySem.W.kitx_dict I.kIn ⟨o,h1,h2.1⟩ e (fun z=>nomatch z) h
 | @dT a kvs ea =>
  cases (show u=Value.ref a from rx)
  obtain ⟨_,_,xs,_,o,es,ep,h1,h2,_⟩:=(show ObjOk X.prog X.w H s.heap a (.dT kvs) from I.hok a _ ea)
  exact PySem.W.kia_one PySem.W.kitx_dict I.kIn ⟨o,h1,h2.1⟩ e (fun z=>nomatch z) h
 | @ins a C dx fs ea cl ha hn htk hm =>
  cases (show u=Value.ref a from rx)
  obtain ⟨mA,O,_⟩:=ins_get I.hok ea
  obtain ⟨od,J,_⟩:=O.look
  exact PySem.W.kia_one (PySem.W.kitx_own (cl.get _) cl.hd ha hn htk hm) I.kIn J e (fun z=>nomatch z) h
end
structure Room (k:Nat) (A:Around):Prop where
 hd:A.handled=none
 dp:A.depth + 3 * k + 5 < recursionLimit
 un:A.units + 16 * k + 200 < cLine
theorem Room.mono {j k:Nat} {A:Around} (r:Room k A) (h:j≤k):Room j A:=⟨r.hd,by have:=r.dp; omega,by have:=r.un; omega⟩
theorem Room.deeper {k:Nat} {A:Around} (r:Room (k + 1) A) (env:Env):Room k (A.deeper env) :=
 ⟨r.hd,by have:=r.dp; show A.depth + 1 + 3 * k + 5 < _; omega,by have:=r.un; show A.units + 3 + 16 * k + 200 < _; omega⟩
theorem Room.depth {k:Nat} {A:Around} (r:Room k A):A.depth < recursionLimit:=by have:=r.dp; omega
theorem Room.units {k:Nat} {A:Around} (r:Room k A):A.units + 64 < cLine:=by have:=r.un; omega
def tNil:TA:=fun _ H Q=>Q [] H
def tCons (ta:TE) (tr:TA):TA:=fun σ H Q=>ta σ H fun x H1=>tr σ H1 fun xs H2=>Q (x :: xs) H2
section
variable {X:Cx} {e:Expr} {es:List Expr} {te:TE} {t:TA} {pos:Pos}
theorem pa_nil:PA X [] tNil:=fun _ _ _ _ H Q I h=>Calls.spliced_nil ⟨[],H,I,.nil,h⟩
theorem pa_cons (ha:PE X e te) (hr:PA X es t) (hs:starEach (e :: es) X.env=(false,eval e X.env) :: starEach es X.env:=by rfl):PA X (e :: es) (tCons te t):=by
 intro pos pins s σ H Q I h
 rw [hs]
 show wpAny _ _ (spliced ((false,eval e X.env) :: backTo pos (starEach es X.env))) _ _ s
 refine Calls.spliced_cons (thn (ha pins s σ H _ I h) fun u s1 ⟨x,H1,I1,r1,q1⟩=>?_)
 exact thn (hr pos pins s1 σ H1 _ I1 q1) fun us s2 ⟨xs,H2,I2,r2,q2⟩=>⟨x :: xs,H2,I2,.cons r1 r2,q2⟩
def tTup (t:TA):TE:=fun σ H Q=>t σ H fun xs H1=>xs.length≤sizeLine∧∀ p,H1 p=none→Q (.ref p) (upd H1 p (.tup xs))
def tLst (t:TA):TE:=fun σ H Q=>t σ H fun xs H1=>xs.length≤sizeLine∧∀ p,H1 p=none→Q (.ref p) (upd H1 p (.lst xs))
theorem pe_tup {x1} (h:PA X es t):PE X (.Tuple es x1 pos) (tTup t):=by
 intro pins s σ H Q I hq
 refine wpAny_Tuple_spliced (thn (h pos pins s σ H _ I hq) fun us s1 ⟨xs,H1,I1,r,z,q⟩=>⟨by rw [← r.length]; exact z,?_⟩)
 have hf:H1 s1.heap.objs.size=none:=I1.hok.fresh (Nat.le_refl _)
 refine ⟨.ref s1.heap.objs.size,upd H1 s1.heap.objs.size (.tup xs),I1.laid (t':=s1.toks) (fun b u e=>Heap.get?_push_of_some _ e) (Nat.le_refl _) ?_,rfl,q _ hf⟩
 exact ⟨z,us,r,⟨_,Heap.get?_push_size _ rfl,rfl,_,rfl⟩⟩
theorem pe_lst (h:PA X es t):PE X (.List es pos) (tLst t):=by
 intro pins s σ H Q I hq
 refine wpAny_List_spliced (thn (h pos pins s σ H _ I hq) fun us s1 ⟨xs,H1,I1,r,z,q⟩=>⟨by rw [← r.length]; exact z,?_⟩)
 have hf:H1 s1.heap.objs.size=none:=I1.hok.fresh (Nat.le_refl _)
 refine ⟨.ref s1.heap.objs.size,upd H1 s1.heap.objs.size (.lst xs),I1.laid (t':=s1.toks) (fun b u e=>Heap.get?_push_of_some _ e) (Nat.le_refl _) ?_,rfl,q _ hf⟩
 exact ⟨z,us,0,r,Heap.get?_push_size _ rfl⟩
end
abbrev Sp:=List V→Hp→VK→XK→Prop
abbrev CXT:=List Env→Hp→Shared→XK→Value→Shared→Prop
structure Env0 (P:Program) (w:World) (K:PySem.W.Frag) (mg:Str→Option Value) (base:Heap) (A:Around) (outer:List Env) (s:Shared) (H:Hp):Prop where
 frames:A.frames=some outer
 mod:Mod K mg base
 bs:∀ b o,base.get? b=some o→s.heap.get? b=some o∧H b=none
 bsz:base.objs.size≤s.heap.objs.size
 funs:s.heap.FunFrames base outer
 frf:∀ b∈frs outer,H b=none
 hok:HOk P w H s.heap
 bare:AllBare s.gens
def CE (outer:List Env) (P:Program) (w:World) (H:Hp) (s:Shared) (Q:VK) (u:Value) (s':Shared):Prop :=
 ∃ v H',s'.os=s.os∧AllBare s'.gens∧Un (frs outer) [] H H' s.heap s'.heap∧HOk P w H' s'.heap∧RelV v u∧Q v H'
def CR (CX:CXT) (outer:List Env) (P:Program) (w:World) (H:Hp) (s:Shared) (Q:VK) (E:XK) (r:Result) (s':Shared):Prop :=
 match r with
 | .ok (.ret u)=>CE outer P w H s Q u s'
 | .ok _=>False
 | .error e=>CX outer H s E e s'
structure FnOk (P:Program) (w:World) (K:PySem.W.Frag) (mg:Str→Option Value) (base:Heap) (CX:CXT) (k:Nat) (f:Addr) (fd:FuncData) (ps:List Str) (sp:Sp):Prop where
 len:∀ vs H Q E,sp vs H Q E→vs.length=ps.length
 run:∀ (A:Around) (outer:List Env) (s:Shared) (H:Hp) (args:Args) (us:List Value) (vs:List V) (Q:VK) (E:XK),Room k A→Env0 P w K mg base A outer s H→BindsTo s fd args (ps.zip us)→Vals vs us→sp vs H Q E →
  codeAny (model P w) A (.call (.ref f) args) (CR CX outer P w H s Q E) s
section
variable {X:Cx} {pins:List (Addr×Obj)} {σ:St} {H:Hp} {s s':Shared}
theorem Inv.env0 (I:Inv X pins σ H s):Env0 X.prog X.w X.K X.mg X.base X.A X.stack s H :=
 ⟨I.ok.frames,I.ok.mod,I.bs,Nat.le_trans I.ok.bsz I.sz,I.stack,I.stkFree,I.hok,I.bare⟩
theorem Inv.after {Q:VK} {u:Value} (I:Inv X pins σ H s) (h:CE X.stack X.prog X.w H s Q u s'):EP X pins σ Q u s':=by
 obtain ⟨v,H',os,bare,un,hok,r,q⟩:=h
 obtain ⟨hh,g,d,t,os'⟩:=s'
 obtain rfl:os'=s.os:=os
 exact ⟨v,H',I.call (h':=hh) (g':=g) (d':=d) (t':=t) (ch:=[]) un hok bare (fun b z=>absurd z (by simp)),r,q⟩
end
def tCall (sp:Sp) (dvs:List V) (E:XK) (t:TA):TE:=fun σ H Q=>t σ H fun vs H1=>sp (vs ++ dvs) H1 Q E
def Binds (K:PySem.W.Frag) (fd:FuncData) (ps:List Str) (ds:List Value):Prop :=
 ∀ (s:Shared) (us:List Value),K.In s.heap→(us ++ ds).length=ps.length→BindsTo s fd ⟨us,[]⟩ (ps.zip (us ++ ds))
theorem Binds.all {K:PySem.W.Frag} {fd:FuncData} {ps:List Str} (h:∀ us:List Value,us.length=ps.length→bindArgs fd ⟨us,[]⟩=pure (ps.zip us)):Binds K fd ps []:=fun s us _ hl=>by
 rw [List.append_nil] at hl ⊢
 exact .of_eq (h us hl)
def Passes (CX:CXT) (X:Cx) (E:XK):Prop:=∀ (pins:List (Addr×Obj)) (σ:St) (H:Hp) (s:Shared) (e:Value) (s':Shared),Inv X pins σ H s→CX X.stack H s E e s'→X.xe e s'
section
variable {X:Cx} {CX:CXT} {k:Nat} {f C:Addr} {fd:FuncData} {ps:List Str} {sp:Sp} {dvs:List V} {ds:List Value} {E:XK} {x m:Str} {p pos apos:Pos} {e o:Expr} {es:List Expr} {ta:TE} {t:TA}
theorem run_fn {pins:List (Addr×Obj)} {σ:St} {H:Hp} {s:Shared} {Q:VK} {us:List Value} {vs:List V} (F:FnOk X.prog X.w X.K X.mg X.base CX k f fd ps sp) (hr:Room k X.A) (hb:Binds X.K fd ps ds) (hd:Vals dvs ds) (hx:Passes CX X E)
  (I:Inv X pins σ H s) (r:Vals vs us) (h:sp (vs ++ dvs) H Q E):wpAny (model X.prog X.w) X.A (call (.ref f) us) (EP X pins σ Q) X.xe s:=by
 have r2:Vals (vs ++ dvs) (us ++ ds):=r.append hd
 have hl:(us ++ ds).length=ps.length:=by rw [← r2.length]; exact F.len _ _ _ _ h
 refine wpAny_call (codeAny_mono (F.run X.A X.stack s H ⟨us,[]⟩ (us ++ ds) (vs ++ dvs) Q E hr I.env0 (hb s us I.kIn hl) r2 h) fun r s' hq=>?_)
 cases r with
 | error e=>exact hx pins σ H s e s' I hq
 | ok fl =>
  cases fl with
  | ret u=>exact I.after hq
  | next=>exact False.elim hq
  | brk=>exact False.elim hq
  | cont=>exact False.elim hq
theorem pe_call (F:FnOk X.prog X.w X.K X.mg X.base CX k f fd ps sp) (hr:Room k X.A) (hg:Gl X x) (hm:X.mg x=some (.ref f)) (hk:PySem.W.keepIn X.K (.ref f)=true) (hb:Binds X.K fd ps ds) (hd:Vals dvs ds) (hx:Passes CX X E)
  (ha:PA X (e :: es) t) (hdb:(x == ("__debug__":Str))=false:=by decide) (he:starEach (e :: es) X.env=(false,eval e X.env) :: starEach es X.env:=by rfl) (hpl:(backTo pos (starEach es X.env)).any (·.1)=false:=by rfl) :
  PE X (.Call (.Name x p) (e :: es) [] pos) (tCall sp dvs E t):=by
 intro pins s σ H Q I h
 refine wpAny_Call_Name_kw (ld_glob I hg hm ?_ hdb)
 refine PySem.W.callWith_K (h₀:=X.base) I.ok.mod.kin hk (thn (ha pos pins s σ H _ I h) fun us s1 ⟨vs,H1,I1,r,q⟩=>⟨I1.kIn,?_⟩) he hpl
 exact run_fn F hr hb hd hx I1 r q
theorem pe_call0 (F:FnOk X.prog X.w X.K X.mg X.base CX k f fd ps sp) (hr:Room k X.A) (hg:Gl X x) (hm:X.mg x=some (.ref f)) (hk:PySem.W.keepIn X.K (.ref f)=true) (hb:Binds X.K fd ps ds) (hd:Vals dvs ds) (hx:Passes CX X E)
  (hdb:(x == ("__debug__":Str))=false:=by decide):PE X (.Call (.Name x p) [] [] pos) (tCall sp dvs E tNil):=by
 intro pins s σ H Q I h
 refine wpAny_Call_Name_kw (ld_glob I hg hm ?_ hdb)
 exact PySem.W.callWith_K0 I.kIn hk (run_fn (us:=[]) F hr hb hd hx I .nil h)
end
section
variable {X:Cx} {CX:CXT} {k:Nat} {f C:Addr} {fd:FuncData} {ps ks:List Str} {sp:Sp} {E:XK} {x m:Str} {p pos apos kpos:Pos} {e o:Expr} {es:List Expr} {kws:List Keyword} {te ta:TE} {t tk:TA} {nm:Option Str}
variable {g:List Value→List Value→List Value} {gV:List V→List V→List V}
end
structure FnScope (N P:List Str) (sc:Scope):Prop where
 kind:sc.kind=.function
 co:sc.isCoroutine=false
 gen:sc.isGenerator=false
 nd:N.Nodup
 pre:N.take P.length=P
 par:∀ x∈P,sc.names.lookup x=some .local∨sc.names.lookup x=some .cell
 nofree:∀ y∈sc.names,y.2≠.free
theorem bindL_out {kindOf:Str→Option NameKind} {x:Str}:∀ {binds:List (Str×Value)} {m:Str→Option Value},(∀ v,(x,v) ∉ binds)→bindL kindOf binds m x=m x
 | [],_,_=>rfl
 | (n,v) :: r,m,h=>by
  unfold bindL
  rw [bindL_out fun w hw=>h w (List.mem_cons_of_mem _ hw)]
  split
  ·have:x≠n:=by rintro rfl; exact h v List.mem_cons_self
   simp [this]
  ·rfl
theorem bindC_out {kindOf:Str→Option NameKind} {x:Str}:∀ {binds:List (Str×Value)} {m:Str→Option Value},(∀ v,(x,v) ∉ binds)→bindC kindOf binds m x=m x
 | [],_,_=>rfl
 | (n,v) :: r,m,h=>by
  unfold bindC
  rw [bindC_out fun w hw=>h w (List.mem_cons_of_mem _ hw)]
  split
  ·rfl
  ·have:x≠n:=by rintro rfl; exact h v List.mem_cons_self
   simp [this]
theorem bindL_get {kindOf:Str→Option NameKind} {x:Str} {v:Value}:∀ {P:List Str} {vs:List Value} {i:Nat} {m:Str→Option Value},P.Nodup→P[i]?=some x→vs[i]?=some v→kindOf x=some .local →
  bindL kindOf (P.zip vs) m x=some v
 | [],_,_,_,_,h,_,_=>by simp at h
 | _ :: _,[],_,_,_,_,h,_=>by simp at h
 | p :: P,w :: vs,0,m,nd,h1,h2,hk=>by
  simp at h1 h2; subst h1; subst h2
  show bindL kindOf ((p,w) :: P.zip vs) m p=_
  unfold bindL
  rw [bindL_out fun v hv=>(List.nodup_cons.mp nd).1 (List.of_mem_zip hv).1,if_pos hk]
  simp
 | p :: P,w :: vs,i + 1,m,nd,h1,h2,hk=>by
  show bindL kindOf ((p,w) :: P.zip vs) m x=_
  unfold bindL
  exact bindL_get (i:=i) (List.nodup_cons.mp nd).2 (by simpa using h1) (by simpa using h2) hk
theorem bindC_get {kindOf:Str→Option NameKind} {x:Str} {v:Value}:∀ {P:List Str} {vs:List Value} {i:Nat} {m:Str→Option Value},P.Nodup→P[i]?=some x→vs[i]?=some v→kindOf x≠some .local →
  bindC kindOf (P.zip vs) m x=some v
 | [],_,_,_,_,h,_,_=>by simp at h
 | _ :: _,[],_,_,_,_,h,_=>by simp at h
 | p :: P,w :: vs,0,m,nd,h1,h2,hk=>by
  simp at h1 h2; subst h1; subst h2
  show bindC kindOf ((p,w) :: P.zip vs) m p=_
  unfold bindC
  rw [bindC_out fun v hv=>(List.nodup_cons.mp nd).1 (List.of_mem_zip hv).1,if_neg hk]
  simp
 | p :: P,w :: vs,i + 1,m,nd,h1,h2,hk=>by
  show bindC kindOf ((p,w) :: P.zip vs) m x=_
  unfold bindC
  exact bindC_get (i:=i) (List.nodup_cons.mp nd).2 (by simpa using h1) (by simpa using h2) hk
def start (N:List Str) (vs:List V):St:=vs.map some ++ List.replicate (N.length - vs.length) none
def cxOf (CX:CXT) (P:Program) (w:World) (K:PySem.W.Frag) (mg:Str→Option Value) (base:Heap) (N:List Str) (qual:Str) (scope:Scope) (f:Addr) (cd:Value) (A:Around) (outer:List Env) (s:Shared) (H:Hp) (E:XK):Cx where
 prog:=P
 w:=w
 K:=K
 mg:=mg
 base:=base
 A:=A.deeper (envOfC qual scope s.heap.objs.size f cd)
 N:=N
 s₀:=s
 H₀:=H
 env:=envOfC qual scope s.heap.objs.size f cd
 outer:=outer
 stack:=envOfC qual scope s.heap.objs.size f cd :: outer
 ex:=[]
 calm:=true
 fn:=fun _=>true
 pn:=[]
 xe:=fun e s'=>wpAny (model P w) (A.deeper (envOfC qual scope s.heap.objs.size f cd)) (leaving (envOfC qual scope s.heap.objs.size f cd) e) (fun _ s''=>CX outer H s E e s'') (fun e' s''=>CX outer H s E e' s'') s'
theorem cell_has {sc:Scope} {n:Nat} {x:Str} (h:sc.names.lookup x=some .cell):∃ c,(cellsFrom n sc.names []).lookup x=some c:=by
 have q:=PySem.W.cellsFrom_some sc.names n [] (.inl h)
 exact Option.isSome_iff_exists.mp q
theorem inv_start {CX:CXT} {P:Program} {w:World} {K:PySem.W.Frag} {mg:Str→Option Value} {base:Heap} {N ps:List Str} {qual:Str} {scope:Scope} {f:Addr} {cd:Value} {A:Around} {outer:List Env} {s s1:Shared} {H:Hp} {E:XK} {us:List Value} {vs:List V}
  (S:FnScope N ps scope) (hd:A.handled=none) (e0:Env0 P w K mg base A outer s H) (hl:vs.length=ps.length) (r:Vals vs us)
  (x:InCallC s s.heap.objs.size (bindL (envOfC qual scope s.heap.objs.size f cd).kindOf (ps.zip us) fun _=>none) (cellsFrom (s.heap.objs.size + 1) scope.names []) (bindC (envOfC qual scope s.heap.objs.size f cd).kindOf (ps.zip us) fun _=>none) s1) :
  Inv (cxOf CX P w K mg base N qual scope f cd A outer s H E) [] (start N vs) H s1:=by
 have hpl:ps.length≤N.length:=by have:=congrArg List.length S.pre; rw [List.length_take] at this; omega
 obtain ⟨h1,tk,rfl,hk⟩:=x.done
 have noA:∀ b:Addr,b ∉ (cxOf CX P w K mg base N qual scope f cd A outer s H E).ex:=fun b z=>absurd (show b∈([]:List Addr) from z) (by simp)
 refine ⟨⟨e0.mod,S.kind,rfl,rfl,Nat.le_refl _,fun y z c h1 h2=>?_,fun y hy=>?_,fun y c _ h=>?_,fun _=>hd,Around.frames_deeper e0.frames,.inr ⟨rfl,rfl⟩,fun b z=>absurd z (noA b),e0.bs,e0.bsz,fun b _ _=>noA b,fun b z=>absurd z (noA b),e0.funs,e0.frf⟩,
  rfl,e0.bare,Un.kept hk,⟨_,x.toInCall.ns,fun i y v h1 h2 h3=>?_⟩,fun y c h=>⟨_,x.cell y c h⟩,e0.hok.fresh (Nat.le_refl _),fun y c h=>?_,fun p hp=>absurd (show p∈([]:List (Addr×Obj)) from hp) (by simp),e0.hok.kept hk,?_⟩
 ·exact name_of_addr x.apart (PySem.mem_of_lookup h1) (PySem.mem_of_lookup h2)
 ·have hy:scope.names.lookup y=some .cell∨scope.names.lookup y=some .free:=hy
  rcases hy with hy | hy
  ·exact cell_has hy
  ·exact absurd rfl (S.nofree _ (PySem.mem_of_lookup hy))
 ·exact Nat.le_of_lt (x.above y c (PySem.mem_of_lookup h))
 ·have hi:i < vs.length:=by
   unfold start at h2
   by_cases hi:i < vs.length
   ·exact hi
   ·rw [List.getElem?_append_right (by simpa using hi)] at h2
    rw [List.getElem?_replicate] at h2
    split at h2 <;> cases h2
  have ha:vs[i]?=some v:=by
   unfold start at h2
   rw [List.getElem?_append_left (by simpa using hi),List.getElem?_map] at h2
   cases e:vs[i]? with
   | none=>rw [e] at h2; cases h2
   | some a=>rw [e] at h2; cases h2; rfl
  obtain ⟨u,hu,rv⟩:=r.get ha
  have hp:ps[i]?=some y:=by
   rw [← S.pre,List.getElem?_take_of_lt (by omega)]; exact h1
  have ndP:ps.Nodup:=by rw [← S.pre]; exact S.nd.sublist (List.take_sublist _ _)
  refine ⟨u,rv,?_⟩
  rcases S.par y (List.mem_of_getElem? hp) with k | k
  ·exact .inl ⟨k,bindL_get ndP hp hu k⟩
  ·obtain ⟨c,e⟩:=cell_has (n:=s.heap.objs.size + 1) k
   refine .inr ⟨.inl k,c,e,?_⟩
   have q:=x.cell y c e
   rw [bindC_get ndP hp hu (by show scope.names.lookup y≠_; rw [k]; decide)] at q
   exact q
 ·exact e0.hok.fresh (Nat.le_of_lt (x.above y c (PySem.mem_of_lookup h)))
 ·unfold start
  show _=N.length
  rw [List.length_append,List.length_map,List.length_replicate]
  omega
theorem fn_of {CX:CXT} {P:Program} {w:World} {K:PySem.W.Frag} {mg:Str→Option Value} {base:Heap} {k:Nat} {f:Addr} {name qual:Str} {params:Arguments} {body:List Stmt} {scope:Scope} {dV kV doc pm cdv ct oc:Value} {an od:Option Addr}
  {osl:Array (Option Value)} {N ps:List Str} {sp:Sp} (lk:K.lookup f=some ⟨oc,od,.func (PySem.W.fnOf name qual params body scope dV kV doc pm an cdv ct),osl⟩) (hcd:PySem.W.codeIn K cdv qual=true) (S:FnScope N ps scope)
  (len:∀ vs H Q E,sp vs H Q E→vs.length=ps.length)
  (hbody:∀ (A:Around) (outer:List Env) (s:Shared) (H:Hp) (vs:List V) (Q:VK) (E:XK),Room k (A.deeper (envOfC qual scope s.heap.objs.size f cdv))→sp vs H Q E →
   ∃ t,PSs (cxOf CX P w K mg base N qual scope f cdv A outer s H E) body t∧t { nx:=fun _ H'=>Q .non H',rt:=Q } (start N vs) H) :
  FnOk P w K mg base CX (k + 1) f (PySem.W.fnOf name qual params body scope dV kV doc pm an cdv ct) ps sp:=by
 refine ⟨len,fun A outer s H args us vs Q E hr e0 hb r hsp=>?_⟩
 have hl:=len _ _ _ _ hsp
 have KX:K.In s.heap:=e0.mod.kin.keeps fun b o e=>(e0.bs b o e).1
 have lim:s.heap.NoLimit:=e0.mod.nolimit.keeps fun b o e=>(e0.bs b o e).1
 have hkind:∀ y∈ps.zip us,scope.names.lookup y.1=some .local∨(scope.names.lookup y.1=some .cell∧((cellsFrom (s.heap.objs.size + 1) scope.names []).lookup y.1).isSome=true):=fun ⟨n,v⟩ hy=>by
  rcases S.par n (List.of_mem_zip hy).1 with q | q
  ·exact .inl q
  ·exact .inr ⟨q,PySem.W.cellsFrom_some _ _ _ (.inl q)⟩
 refine codeAny_call_function hr.depth (KX _ _ lk) rfl S.co S.gen rfl (PySem.W.codeRec_of KX hcd) (hb _ _ _ _ ?_)
 refine wpAny_newFunctionEnv_cells S.kind hkind fun env he s1 x=>?_
 subst he
 refine ⟨lim.keeps x.toInCall.keep,codeAny_func ?_⟩
 obtain ⟨t,ht,hq⟩:=hbody A outer s H vs Q E (hr.deeper _) hsp
 have I:Inv (cxOf CX P w K mg base N qual scope f cdv A outer s H E) [] (start N vs) H s1:=inv_start S hr.hd e0 hl r x
 refine wpAny_mono (ht [] s1 (start N vs) H _ I hq) (fun fl s' hs=>?_) fun e s' hs=>hs
 have fin:∀ {σ':St} {H':Hp} {v:V} {u:Value},Inv (cxOf CX P w K mg base N qual scope f cdv A outer s H E) [] σ' H' s'→RelV v u→Q v H'→CE outer P w H s Q u s' :=
  fun {σ' H' v u} J rv q=>⟨v,H',J.os,J.bare,J.base,J.hok,rv,q⟩
 cases fl with
 | ret u =>
  obtain ⟨v,σ',H',J,rv,q⟩:=hs
  exact fin J rv q
 | next =>
  obtain ⟨σ',H',J,q⟩:=hs
  exact fin (v:=V.non) (u:=Value.none) J rfl q
 | brk =>
  obtain ⟨_,_,_,q⟩:=hs
  exact False.elim q
 | cont =>
  obtain ⟨_,_,_,q⟩:=hs
  exact False.elim q
section
variable {X:Cx} {x:Str} {p pos:Pos} {e:Expr} {es:List Expr} {t:TA} {id T:String} {r:List V→Hp→VK→Prop}
def tCB (r:List V→Hp→VK→Prop) (t:TA):TE:=fun σ H Q=>t σ H fun vs H1=>r vs H1 Q
theorem pe_callB (hc:CallR X (.builtin id) r) (hg:Gl X x) (hm:X.mg x=none) (hv:bootBuiltins x=some (.builtin id)) (ha:PA X (e :: es) t) (hn:x≠"__name__":=by decide) (hdb:(x == ("__debug__":Str))=false:=by decide)
  (he:starEach (e :: es) X.env=(false,eval e X.env) :: starEach es X.env:=by rfl) (hpl:(backTo pos (starEach es X.env)).any (·.1)=false:=by rfl):PE X (.Call (.Name x p) (e :: es) [] pos) (tCB r t):=by
 intro pins s σ H Q I h
 refine wpAny_Call_Name_kw (ld_blt I hg hm hv ?_ hn hdb)
 exact PyProof.Rows.callWith_builtin1 (thn (ha pos pins s σ H _ I h) fun us s1 ⟨vs,H1,I1,r1,q1⟩=>hc pins s1 σ H1 vs us Q I1 r1 q1) he hpl
theorem pe_callTy (hc:CallR X (.type T) r) (hg:Gl X x) (hm:X.mg x=none) (hv:bootBuiltins x=some (.type T)) (ha:PA X (e :: es) t) (hn:x≠"__name__":=by decide) (hdb:(x == ("__debug__":Str))=false:=by decide)
  (he:starEach (e :: es) X.env=(false,eval e X.env) :: starEach es X.env:=by rfl) (hpl:(backTo pos (starEach es X.env)).any (·.1)=false:=by rfl):PE X (.Call (.Name x p) (e :: es) [] pos) (tCB r t):=by
 intro pins s σ H Q I h
 refine wpAny_Call_Name_kw (ld_blt I hg hm hv ?_ hn hdb)
 exact PyProof.Rows.callWith_type1 (thn (ha pos pins s σ H _ I h) fun us s1 ⟨vs,H1,I1,r1,q1⟩=>hc pins s1 σ H1 vs us Q I1 r1 q1) he hpl
end
end L2
namespace HT
open PySem PyProof.Rows
section
open PySem.SeqAt
open PySem.AutoSeq1 (wpAny_loadPart')
open PySem.MeetsSeq PySem.MeetsSeq2 PySem.MeetsSeq3
end
section
variable {prog:Program} {w:World} {A:Around} {E:Value→Shared→Prop} {s:Shared}
theorem cat_tup {t b:Addr} {vs ws:List Value} {Q:Value→Shared→Prop} (ht:IsTup s.heap t vs.toArray) (hb:IsTup s.heap b ws.toArray) (hv:vs≠[])
  (h1:ws=[]→Q (.ref t) s) (h2:ws≠[]→Q (.ref s.heap.objs.size) { s with heap:=s.heap.push { cls:=.type "tuple",data:=.seq (vs ++ ws).toArray } })
  (hsz:vs.length + ws.length≤sizeLine):wpAny (model prog w) A (binaryOp .Add (.ref t) (.ref b)) Q E s:=by
 obtain ⟨⟨cls,dd,data,sl⟩,ho,hc,n,hd⟩:=id ht
 obtain ⟨⟨cls2,dd2,data2,sl2⟩,ho2,hc2,n2,hd2⟩:=id hb
 simp only at hc hd hc2 hd2
 subst hc hd hc2 hd2
 have e:vs.toArray ++ ws.toArray=(vs ++ ws).toArray:=by simp
 by_cases hw:ws=[]
 ·exact concat_meets ⟨_,ho,rfl⟩ ⟨_,ho2,rfl⟩ noFill_tuple_add seq_tuple_add PySem.F.slot_tuple_add PySem.F.entry_tuple_add (PySem.F.args_tuple_add_2 _ _)
   (tuple_addW1 t b vs.toArray ws.toArray n n2 dd dd2 sl sl2 (by simpa using hv) (by simp [hw])) ⟨ho,ho2,h1 hw⟩
 ·refine concat_meets ⟨_,ho,rfl⟩ ⟨_,ho2,rfl⟩ noFill_tuple_add seq_tuple_add PySem.F.slot_tuple_add PySem.F.entry_tuple_add (PySem.F.args_tuple_add_2 _ _)
   (tuple_addW2 t b vs.toArray ws.toArray n n2 dd dd2 sl sl2 (by simpa using hv) (by simpa using hw) (by rw [List.size_toArray,List.size_toArray]; exact hsz)) ⟨ho,ho2,?_⟩
  rw [e]
  exact h2 hw
def sIx (n d:Nat):Option Int→Nat
 | none=>d
 | some v=>if v < 0 then (v + (n:Int)).toNat else min v.toNat n
end
end HT
namespace L2
open PySem PySem.Spec PyProof.Rows
abbrev TO:=St→Hp→(Option Int→Hp→Prop)→Prop
def PO (X:Cx) (e:Option Expr) (t:TO):Prop :=
 ∀ (pins:List (Addr×Obj)) (s:Shared) (σ:St) (H:Hp) (Q:Option Int→Hp→Prop),Inv X pins σ H s→t σ H Q →
  wpAny (model X.prog X.w) X.A (evalPart e X.env) (fun u s'=>∃ o H',Inv X pins σ H' s'∧IsPart u o∧Q o H') X.xe s
def tNoPart:TO:=fun _ H Q=>Q none H
def tPart (t:TE):TO:=fun σ H Q=>t σ H fun x H1=>∃ i,x=.int i∧Q (some i) H1
section
variable {X:Cx} {e:Expr} {te:TE} {lo hi:Option Expr} {tl th:TO} {pos p2:Pos}
theorem po_none:PO X none tNoPart:=by
 intro pins s σ H Q I h
 rw [evalPart_none]
 exact wpAny_pure ⟨none,H,I,.none,h⟩
theorem po_some (h:PE X e te):PO X (some e) (tPart te):=by
 intro pins s σ H Q I hw
 rw [evalPart_some]
 refine thn (h pins s σ H _ I hw) fun u s1 ⟨x,H1,I1,r1,q1⟩=>?_
 obtain ⟨i,rfl,q⟩:=q1
 obtain ⟨t,rfl⟩:=r1
 exact ⟨some i,H1,I1,.int i t,q⟩
def SlR (X:Cx) (r:V→Option Int→Option Int→Hp→VK→Prop):Prop :=
 ∀ (pins:List (Addr×Obj)) (s:Shared) (σ:St) (H:Hp) (x:V) (v vl vu:Value) (lo hi:Option Int) (sl:Addr) (Q:VK),Inv X pins σ H s→RelV x v→s.heap.IsSliceOf sl vl vu .none→IsPart vl lo→IsPart vu hi→r x lo hi H Q →
  ∃ T id,typeLookup (.type T) "__getitem__"=pure (some (.builtin id))∧s.TypeIs v T∧wpAny (model X.prog X.w) X.A (getItem v (.ref sl)) (EP X pins σ Q) X.xe s
def tSl (r:V→Option Int→Option Int→Hp→VK→Prop) (te:TE) (tl th:TO):TE:=fun σ H Q=>te σ H fun x H1=>tl σ H1 fun l H2=>th σ H2 fun u H3=>r x l u H3 Q
theorem pe_slice {r:V→Option Int→Option Int→Hp→VK→Prop} (hr:SlR X r) (he:PE X e te) (hl:PO X lo tl) (hu:PO X hi th):PE X (.Subscript e (.Slice lo hi none p2) pos) (tSl r te tl th):=by
 intro pins s σ H Q I h
 refine Subscript_ (thn (he pins s σ H _ I h) fun v s1 ⟨x,H1,I1,r1,q1⟩=>?_)
 refine wpAny_Slice (thn (hl pins s1 σ H1 _ I1 q1) fun vl s2 ⟨l,H2,I2,pl,q2⟩=>thn (hu pins s2 σ H2 _ I2 q2) fun vu s3 ⟨u,H3,I3,pu,q3⟩=>?_)
 rw [evalPart_none]
 refine wpAny_pure ?_
 have I4:Inv X pins σ H3 { s3 with heap:=s3.heap.push { cls:=.type "slice",data:=.fields #[vl,vu,.none] } }:=I3.kept (t':=s3.toks) fun b ob q=>Heap.get?_push_of_some _ q
 obtain ⟨T,id,hT,ht,hg⟩:=hr pins { s3 with heap:=s3.heap.push { cls:=.type "slice",data:=.fields #[vl,vu,.none] } } σ H3 x v vl vu l u s3.heap.objs.size Q I4 r1 (Heap.IsSliceOf.new ..) pl pu q3
 show wpAny (model X.prog X.w) X.A (subscriptTail e (.Slice lo hi none p2) v (.ref s3.heap.objs.size)) (EP X pins σ Q) X.xe { s3 with heap:=s3.heap.push { cls:=.type "slice",data:=.fields #[vl,vu,.none] } }
 exact tail_any (ops:=[.ref s3.heap.objs.size,v]) ht hT hg (by with_unfolding_all rfl)
def cutV (xs:List V) (lo hi:Option Int):List V:=(xs.drop (HT.sIx xs.length 0 lo)).take (HT.sIx xs.length xs.length hi - HT.sIx xs.length 0 lo)
theorem cutV_length (xs:List V) (lo hi:Option Int):(cutV xs lo hi).length≤xs.length:=by
 unfold cutV
 rw [List.length_take,List.length_drop]
 omega
def rCatT (K:PySem.W.Frag):R2:=fun x y H Q=>∃ a b xs ys,x=.ref a∧y=.ref b∧SqT K H a xs∧SqT K H b ys∧xs≠[]∧xs.length + ys.length≤sizeLine ∧
 (ys=[]→Q (.ref a) H)∧(ys≠[]→∀ p,H p=none→Q (.ref p) (upd H p (.tup (xs ++ ys))))
theorem Vals.nil_iff {xs:List V} {us:List Value} (r:Vals xs us):us=[]↔xs=[]:=by
 cases r with
 | nil=>simp
 | cons _ _=>simp
theorem op_catT:OpR X (binaryOp .Add) (rCatT X.K):=by
 intro pins s σ H x y v u Q I rx ry h
 obtain ⟨a,b,xs,ys,rfl,rfl,ha,hb,hx,hz,q1,q2⟩:=h
 cases rx
 cases ry
 obtain ⟨its,r1,p1,_⟩:=I.tuple ha
 obtain ⟨its2,r2,p2,_⟩:=I.tuple hb
 refine HT.cat_tup p1 p2 (fun z=>hx (r1.nil_iff.mp z)) (fun z=>⟨.ref a,H,I,rfl,q1 (r2.nil_iff.mp z)⟩) (fun z=>?_) (by rw [← r1.length,← r2.length]; exact hz)
 refine ⟨.ref s.heap.objs.size,_,I.laid (t':=s.toks) (o:=.tup (xs ++ ys)) (fun b ob q=>Heap.get?_push_of_some _ q) (Nat.le_refl _) ?_,rfl,q2 (fun w=>z (r2.nil_iff.mpr w)) _ (I.hok.fresh (Nat.le_refl _))⟩
 exact ⟨by rw [List.length_append]; exact hz,_,r1.append r2,TupX.new _ _⟩
end
def ixN (n:Nat) (i:Int):Option Nat:=if 0≤i then (if i < n then some i.toNat else none) else if -(n:Int)≤i then some (i + n).toNat else none
def atI {α:Type} (xs:List α) (i:Int):Option α:=(ixN xs.length i).bind fun j=>xs[j]?
theorem ixN_seq {n:Nat} {i:Int} {j:Nat} (h:ixN n i=some j):seqIndex? i n=some j∧j < n∧-(n:Int)≤i∧i < n:=by
 unfold ixN at h
 by_cases h0:0≤i
 ·rw [if_pos h0] at h
  by_cases h1:i < n
  ·rw [if_pos h1] at h
   have e:i.toNat=j:=Option.some.inj h
   exact ⟨by rw [seqIndex_of h0 h1,e],by omega,by omega,h1⟩
  ·rw [if_neg h1] at h; cases h
 ·rw [if_neg h0] at h
  by_cases h1:-(n:Int)≤i
  ·rw [if_pos h1] at h
   have e:(i + n).toNat=j:=Option.some.inj h
   exact ⟨by rw [seqIndex_neg (by omega) h1,e],by omega,h1,by omega⟩
  ·rw [if_neg h1] at h; cases h
theorem atI_get {α:Type} {xs:List α} {i:Int} {v:α} (h:atI xs i=some v):∃ j,seqIndex? i xs.length=some j∧xs[j]?=some v∧j < xs.length∧-(xs.length:Int)≤i∧i < xs.length:=by
 unfold atI at h
 cases e:ixN xs.length i with
 | none=>rw [e] at h; cases h
 | some j =>
  rw [e] at h
  obtain ⟨h1,h2,h3,h4⟩:=ixN_seq e
  exact ⟨j,h1,h,h2,h3,h4⟩
theorem atI_nat {α:Type} {xs:List α} {j:Nat} {v:α} (h:xs[j]?=some v):atI xs (j:Int)=some v:=by
 have hj:j < xs.length:=(List.getElem?_eq_some_iff.mp h).1
 have e:ixN xs.length (j:Int)=some j:=by
  unfold ixN
  rw [if_pos (by omega),if_pos (by omega)]; simp
 unfold atI; rw [e]; exact h
theorem atI_last {α:Type} (xs:List α) (v:α):atI (xs ++ [v]) (-1)=some v:=by
 have hl:(xs ++ [v]).length=xs.length + 1:=by simp
 have e:ixN (xs ++ [v]).length (-1)=some xs.length:=by
  unfold ixN
  rw [hl,if_neg (by decide),if_pos (by omega)]
  congr 1
  omega
 unfold atI
 rw [e]
 show (xs ++ [v])[xs.length]?=some v
 simp
def PlainIx (b:Expr):Prop:=∀ o i,subscripted b false o i=operate [o,i] (getItem o i)
def IxR (X:Cx) (r:R2):Prop :=
 ∀ (value slice:Expr) (pins:List (Addr×Obj)) (s:Shared) (σ:St) (H:Hp) (x y:V) (v u:Value) (Q:VK),Inv X pins σ H s→RelV x v→RelV y u→r x y H Q →
  subscripted slice false v u=operate [v,u] (getItem v u)→wpAny (model X.prog X.w) X.A (subscriptTail value slice v u) (EP X pins σ Q) X.xe s
def MtR (X:Cx) (id:String) (r:V→List V→Hp→VK→Prop):Prop :=
 ∀ (pins:List (Addr×Obj)) (s:Shared) (σ:St) (H:Hp) (x:V) (xs:List V) (v:Value) (us:List Value) (Q:VK),Inv X pins σ H s→RelV x v→Vals xs us→r x xs H Q →
  wpAny (model X.prog X.w) X.A (call (.builtin id) (v :: us)) (EP X pins σ Q) X.xe s
section
variable {X:Cx} {a b:Expr} {ta tb:TE} {pos:Pos}
theorem pe_ix {r:R2} (hr:IxR X r) (ha:PE X a ta) (hb:PE X b tb) (hs:PlainIx b):PE X (.Subscript a b pos) (tOp r ta tb):=by
 intro pins s σ H Q I h
 exact Subscript_ (binT ha hb I h fun v u s2 x y H2 I2 rx ry q=>hr a b pins s2 σ H2 x y v u Q I2 rx ry q (hs _ _))
def rIxL (K:PySem.W.Frag):R2:=fun x y H Q=>∃ p xs i v,x=.ref p∧y=.int i∧SqL K H p xs∧atI xs i=some v∧Q v H
def rIxT (K:PySem.W.Frag):R2:=fun x y H Q=>∃ p xs i v,x=.ref p∧y=.int i∧SqT K H p xs∧atI xs i=some v∧Q v H
def rIxS:R2:=fun x y H Q=>∃ z i c,x=.str z∧y=.int i∧z.length≤sizeLine∧atI z.cps.toList i=some c∧Q (.str ⟨#[c]⟩) H
theorem ix_list:IxR X (rIxL X.K):=by
 intro value slice pins s σ H x y v u Q I rx ry h hs
 obtain ⟨p,xs,i,z,rfl,rfl,hq,he,q⟩:=h
 cases rx
 obtain ⟨t,rfl⟩:=ry
 obtain ⟨its,r,pl,hz⟩:=I.list hq
 obtain ⟨j,h1,h2,h3,h4,h5⟩:=atI_get he
 obtain ⟨w,ew,rw'⟩:=r.get h2
 have hl:=r.length
 have hn:=line63
 have fin:EP X pins σ Q w s:=⟨z,H,I,rw',q⟩
 by_cases h0:0≤i
 ·have hj:i.toNat=j:=by
   rw [seqIndex_of h0 h5] at h1
   exact Option.some.inj h1
  exact item_listR pl.isList h0 (by omega) (by rw [hj]; simpa using ew) fin hs
 ·have hj:(i + (its.toArray.size:Int)).toNat=j:=by
   rw [seqIndex_neg (by omega) h4] at h1
   rw [List.size_toArray,← hl]
   exact Option.some.inj h1
  exact subscriptTail_builtinR (x:=w) pl.isList.typeIs slot_list_getitem.lookup
   (wpAny_getItem_list_neg (Q:=fun r s'=>r=w∧EP X pins σ Q r s') pl.isList (by omega) (by rw [List.size_toArray] <;> omega) (by omega) (by rw [hj]; simpa using ew) ⟨rfl,fin⟩) hs
theorem ix_tup:IxR X (rIxT X.K):=by
 intro value slice pins s σ H x y v u Q I rx ry h hs
 obtain ⟨p,xs,i,z,rfl,rfl,hq,he,q⟩:=h
 cases rx
 obtain ⟨t,rfl⟩:=ry
 obtain ⟨its,r,pl,hz⟩:=I.tuple hq
 obtain ⟨j,h1,h2,h3,h4,h5⟩:=atI_get he
 obtain ⟨w,ew,rw'⟩:=r.get h2
 have hl:=r.length
 have hn:=line63
 have fin:EP X pins σ Q w s:=⟨z,H,I,rw',q⟩
 exact subscriptTail_builtinR (x:=w) pl.typeIs slot_tuple_getitem.lookup
  (getItem_tuple (j:=j) (Q:=fun r s'=>r=w∧EP X pins σ Q r s') pl (by omega) (by omega) (by rw [List.size_toArray,← hl]; exact h1) (by simpa using ew) ⟨rfl,fin⟩) hs
theorem ix_str:IxR X rIxS:=by
 intro value slice pins s σ H x y v u Q I rx ry h hs
 obtain ⟨z,i,c,rfl,rfl,hz,he,q⟩:=h
 obtain ⟨t,rfl⟩:=rx
 obtain ⟨t',rfl⟩:=ry
 obtain ⟨j,h1,h2,h3,h4,h5⟩:=atI_get he
 have hl:z.cps.toList.length=z.length:=by simp [Str.length]
 rw [hl] at h1 h4 h5
 have hn:=line63
 exact tail_any (typeIs_str s z t) slot_str_getitem.lookup (getItem_str (c:=c) (by
  have e1:decide (i < -(2 ^ 63:Int))=false:=decide_eq_false (by omega)
  have e2:decide (i ≥ 2 ^ 63)=false:=decide_eq_false (by omega)
  rw [e1,e2,Bool.or_false]) (by rw [h1]; simpa using h2) ⟨.str ⟨#[c]⟩,H,I.tok _,⟨_,rfl⟩,q⟩) hs
theorem slice_bounds (lo hi:Option Int) (n:Nat):(sliceBounds lo hi none n).1=((HT.sIx n 0 lo:Nat):Int)∧(sliceBounds lo hi none n).2.1=((HT.sIx n n hi:Nat):Int)∧(sliceBounds lo hi none n).2.2=1:=by
 refine ⟨?_,?_,rfl⟩
 ·cases lo with
  | none=>simp [sliceBounds,HT.sIx]
  | some i =>
   simp only [sliceBounds,HT.sIx,Option.getD_none,show (1:Int) > 0 by decide,if_true]
   by_cases h:i < 0
   ·simp only [h,if_true] <;> omega
   ·simp only [h,if_false] <;> omega
 ·cases hi with
  | none=>simp [sliceBounds,HT.sIx]
  | some i =>
   simp only [sliceBounds,HT.sIx,Option.getD_none,show (1:Int) > 0 by decide,if_true]
   by_cases h:i < 0
   ·simp only [h,if_true] <;> omega
   ·simp only [h,if_false] <;> omega
theorem slicePick_cut (its:List Value) (lo hi:Option Int):slicePick its.toArray lo hi none=((its.drop (HT.sIx its.length 0 lo)).take (HT.sIx its.length its.length hi - HT.sIx its.length 0 lo)).toArray:=by
 obtain ⟨h1,h2,h3⟩:=slice_bounds lo hi its.toArray.size
 unfold slicePick
 rw [h1,h2,h3]
 simp only [sliceRange_one,pick_run,List.size_toArray] <;> rfl
def rSlL (K:PySem.W.Frag):V→Option Int→Option Int→Hp→VK→Prop:=fun x lo hi H Q=>∃ a xs,x=.ref a∧SqL K H a xs∧∀ p,H p=none→Q (.ref p) (upd H p (.lst (cutV xs lo hi)))
theorem sl_list:SlR X (rSlL X.K):=by
 intro pins s σ H x v vl vu lo hi sl Q I rx hs pl pu h
 obtain ⟨a,xs,rfl,hx,q⟩:=h
 cases rx
 obtain ⟨its,r,ht,hz⟩:=I.list hx
 have hlen:=r.length
 refine ⟨"list",_,slot_list_getitem.lookup,ht.isList.typeIs,?_⟩
 refine wpAny_getItem_list_slice ht.isList hs pl pu .none (by simp) ?_ (by rw [List.size_toArray] <;> omega)
 rw [slicePick_cut,← hlen]
 refine ⟨.ref s.heap.objs.size,_,I.laid (t':=s.toks) (o:=.lst (cutV xs lo hi)) (fun b ob q=>Heap.get?_push_of_some _ q) (Nat.le_refl _) ?_,rfl,q _ (I.hok.fresh (Nat.le_refl _))⟩
 exact ⟨Nat.le_trans (cutV_length xs lo hi) hz,_,0,(r.drop (HT.sIx xs.length 0 lo)).take (HT.sIx xs.length xs.length hi - HT.sIx xs.length 0 lo),Heap.get?_push_size _ rfl⟩
theorem call_len_seq:CallR X (.builtin "len") (fun xs H Q=>∃ p ys,xs=[.ref p]∧(SqL X.K H p ys∨SqT X.K H p ys)∧Q (.int ys.length) H):=by
 intro pins s σ H xs us Q I r h
 obtain ⟨p,ys,rfl,hq,q⟩:=h
 obtain ⟨u,rfl,rx⟩:=vals1 r
 cases rx
 have hn:=line63
 rcases hq with hq | hq
 ·obtain ⟨its,r',pl,hz⟩:=I.list hq
  have hlen:=r'.length
  exact Calls.call_len_list pl.isList (by simp only [List.size_toArray] <;> omega) ⟨.int ys.length,H,I.tok _,⟨s.toks + 1,by rw [List.size_toArray,hlen]⟩,q⟩
 ·obtain ⟨its,r',pl,hz⟩:=I.tuple hq
  have hlen:=r'.length
  exact len_tuple pl (by simp only [List.size_toArray] <;> omega) ⟨.int ys.length,H,I.tok _,⟨s.toks + 1,by rw [List.size_toArray,hlen]⟩,q⟩
theorem call_len_str:CallR X (.builtin "len") (fun xs H Q=>∃ z,xs=[.str z]∧z.length≤sizeLine∧Q (.int z.length) H):=by
 intro pins s σ H xs us Q I r h
 obtain ⟨z,rfl,hz,q⟩:=h
 obtain ⟨u,rfl,t,rfl⟩:=vals1 r
 have hn:=line63
 exact len_str (by omega) ⟨.int z.length,H,I.tok _,⟨_,rfl⟩,q⟩
def tyV (K:PySem.W.Frag) (T:String) (x:V) (H:Hp):Prop:=match x with
 | .str _=>T="str"
 | .int _=>T="int"
 | .ref p=>(T="list"∧∃ xs,SqL K H p xs)∨(T="tuple"∧∃ o,K.lookup p=some o∧o.cls=.type "tuple"∧o.dict=none) ∨
   (T="dict"∧((∃ kvs,H p=some (.dK kvs))∨∃ kvs,H p=some (.dT kvs)))∨(T="set"∧∃ S n,H p=some (.set S n))
 | _=>False
theorem tyV_is {pins:List (Addr×Obj)} {σ:St} {H:Hp} {s:Shared} {T:String} {x:V} {v:Value} (I:Inv X pins σ H s) (r:RelV x v) (ty:tyV X.K T x H) :
  s.TypeIs v T∧∀ a,v=.ref a→∃ ob,s.heap.get? a=some ob∧ob.dict=none:=by
 cases x with
 | str z =>
  obtain ⟨t,rfl⟩:=r
  cases (show T="str" from ty)
  exact ⟨typeIs_str s z t,fun _ e=>nomatch e⟩
 | int i =>
  obtain ⟨t,rfl⟩:=r
  cases (show T="int" from ty)
  exact ⟨typeIs_int s i t,fun _ e=>nomatch e⟩
 | ref p =>
  cases r
  rcases ty with ⟨rfl,xs,hq⟩ | ⟨rfl,o,hk,hc,hd⟩ | ⟨rfl,hk⟩ | ⟨rfl,S,n,hk⟩
  ·obtain ⟨its,_,pl,_⟩:=I.list hq
   refine ⟨pl.isList.typeIs,fun a e=>?_⟩
   cases e
   obtain ⟨o,n,e,c,hd,_⟩:=pl
   exact ⟨o,e,hd⟩
  ·refine ⟨⟨o,I.kIn p o hk,hc⟩,fun a e=>?_⟩
   cases e
   exact ⟨o,I.kIn _ o hk,hd⟩
  ·have z:∃ o,s.heap.get? p=some o∧o.ExactDict:=by
    rcases hk with ⟨kvs,hk⟩ | ⟨kvs,hk⟩
    ·obtain ⟨_,_,_,_,o,_,_,e,ex,_⟩:=I.hok p _ hk
     exact ⟨o,e,ex⟩
    ·obtain ⟨_,_,_,_,o,_,_,e,ex,_⟩:=I.hok p _ hk
     exact ⟨o,e,ex⟩
   obtain ⟨o,e,ex⟩:=z
   refine ⟨⟨o,e,ex.1⟩,fun a e2=>?_⟩
   cases e2
   exact ⟨o,e,ex.2.1⟩
  ·obtain ⟨o,_,_,_,e,ex,_⟩:=I.hok p _ hk
   refine ⟨⟨o,e,ex.1⟩,fun a e2=>?_⟩
   cases e2
   exact ⟨o,e,ex.2.1⟩
 | _=>exact False.elim ty
def tBM0 (K:PySem.W.Frag) (T:String) (r:V→List V→Hp→VK→Prop) (to:TE):TE:=fun σ H Q=>to σ H fun x H1=>tyV K T x H1∧r x [] H1 Q
def tBM (K:PySem.W.Frag) (T:String) (r:V→List V→Hp→VK→Prop) (to:TE) (t:TA):TE:=fun σ H Q=>to σ H fun x H1=>tyV K T x H1∧t σ H1 fun xs H2=>r x xs H2 Q
variable {o e:Expr} {es:List Expr} {to:TE} {t:TA} {name:Str} {apos cpos:Pos} {T id:String} {r:V→List V→Hp→VK→Prop}
theorem pe_bm0 (pa:PlainAttrs T) (slot:Slot T name id) (hty:typeOf (.builtin id)=pure (.type "method_descriptor")) (hm:MtR X id r) (ho:PE X o to)
  (hbase:attributeBase o name X.env (eval o X.env)=eval o X.env:=by rfl) (hline:(apos.endLine == cpos.line)=true:=by rfl):PE X (.Call (.Attribute o name apos) [] [] cpos) (tBM0 X.K T r to):=by
 intro pins s σ H Q I h
 refine wpAny_Call_method0_late hbase hline (thn (ho pins s σ H _ I h) fun v s1 ⟨x,H1,I1,r1,ty,q1⟩=>?_)
 obtain ⟨h1,h2⟩:=tyV_is I1 r1 ty
 exact ⟨T,id,pa,slot,hty,h1,h2,Calls.callWith_builtin rfl (PySem.evalArgs_none (hm pins s1 σ H1 x [] v [] Q I1 r1 .nil q1))⟩
theorem pe_bm (pa:PlainAttrs T) (slot:Slot T name id) (hty:typeOf (.builtin id)=pure (.type "method_descriptor")) (hm:MtR X id r) (ho:PE X o to) (ha:PA X (e :: es) t)
  (hbase:attributeBase o name X.env (eval o X.env)=eval o X.env:=by rfl)
  (hfew:((backTo cpos (starEach (e :: es) X.env)).all (fun x=>!x.1) && (backToKw cpos (keywordEach [] X.env)).all (fun x=>x.1.isSome)
   && decide ((e :: es).length + ([]:List Keyword).length + (if ([]:List Keyword).isEmpty then 0 else 1) < 30))=true:=by rfl)
  (hline:(apos.endLine == cpos.line)=true:=by rfl) (hs:starEach (e :: es) X.env=(false,eval e X.env) :: starEach es X.env:=by rfl) (hplain:(backTo cpos (starEach es X.env)).any (·.1)=false:=by rfl) :
  PE X (.Call (.Attribute o name apos) (e :: es) [] cpos) (tBM X.K T r to t):=by
 intro pins s σ H Q I h
 refine wpAny_Call_method_late hbase hfew hline rfl (thn (ho pins s σ H _ I h) fun v s1 ⟨x,H1,I1,r1,ty,q1⟩=>?_)
 obtain ⟨h1,h2⟩:=tyV_is I1 r1 ty
 refine ⟨T,id,pa,slot,hty,h1,h2,?_⟩
 have hA:=ha cpos pins s1 σ H1 _ I1 q1
 rw [hs] at hA ⊢
 refine Calls.callWith_builtin (by show (false || (backTo cpos (starEach es X.env)).any (·.1))=false; rw [hplain] <;> rfl) (Calls.evalArgs_plain ?_)
 exact thn hA fun us s2 ⟨vs,H2,I2,r2,q2⟩=>hm pins s2 σ H2 x vs v us Q I2 r1 r2 q2
/- xs.append(e),list.index on a module's tuple .. are MtR facts of 06m -/
end
def MtM (X:Cx) (id:String) (r:V→List V→Hp→VK→Prop):Prop :=
 ∀ (pins:List (Addr×Obj)) (s:Shared) (σ:St) (H:Hp) (x:V) (xs:List V) (v:Value) (us:List Value) (Q:VK),Inv X pins σ H s→RelV x v→Vals xs us→r x xs H Q →
  wpAny (model X.prog X.w) X.A (call (.builtin id) (v :: us)) (EP X pins σ Q) X.xe s
theorem Vals.one:∀ {x:V} {us:List Value},Vals [x] us→∃ u,us=[u]∧RelV x u
 | _,_,.cons r .nil=>⟨_,rfl,r⟩
theorem Vals.zero:∀ {us:List Value},Vals [] us→us=[]
 | _,.nil=>rfl
theorem Vals.dropLast {xs:List V} {us:List Value} (h:Vals xs us):Vals xs.dropLast us.dropLast:=by
 induction h with
 | nil=>exact .nil
 | cons r t ih =>
  cases t with
  | nil=>exact .nil
  | cons q t'=>exact .cons r ih
theorem Vals.rep {xs:List V} {us:List Value} (h:Vals xs us):∀ k:Nat,Vals (List.replicate k xs).flatten (List.replicate k us).flatten
 | 0=>.nil
 | k + 1=>by
  rw [List.replicate_succ,List.replicate_succ,List.flatten_cons,List.flatten_cons]
  exact Vals.append h (Vals.rep h k)
theorem erase_last {α:Type} (l:List α):l.eraseIdx (l.length - 1)=l.dropLast:=by
 induction l with
 | nil=>rfl
 | cons a r ih =>
  cases r with
  | nil=>rfl
  | cons b r =>
   have e:(a :: b :: r).length - 1=((b :: r).length - 1) + 1:=by
    have h1:(a :: b :: r).length=r.length + 2:=rfl
    have h2:(b :: r).length=r.length + 1:=rfl
    omega
   rw [e,List.eraseIdx_cons_succ,ih]
   all_goals rfl
theorem foldl_rep (its:List Value):∀ (k:Nat) (acc:List Value),
  List.foldl (fun x1 x2=>x1 ++ x2) acc.toArray (List.replicate k its.toArray)=(acc ++ (List.replicate k its).flatten).toArray
 | 0,acc=>by simp
 | k + 1,acc=>by
  have e:acc.toArray ++ its.toArray=(acc ++ its).toArray:=by simp
  have e2:(acc ++ its) ++ (List.replicate k its).flatten=acc ++ (List.replicate (k + 1) its).flatten:=by
   rw [List.replicate_succ,List.flatten_cons,List.append_assoc]
  rw [← e2,← foldl_rep its k (acc ++ its),← e,List.replicate_succ,List.foldl_cons]
section
variable {X:Cx} {pins:List (Addr×Obj)} {σ:St} {H:Hp} {s:Shared} {l b:Addr} {xs ys zs:List V}
theorem Inv.lset {its its':List Value} {n:Nat} {f:Array Value→Array Value} {t':Nat} (I:Inv X pins σ H s) (hH:H l=some (.lst xs))
  (e:s.heap.get? l=some { cls:=.type "list",data:=.seq its.toArray n }) (hf:f its.toArray=its'.toArray) (hv:Vals ys its') (hz:ys.length≤sizeLine) :
  Inv X pins σ (upd H l (.lst ys)) { s with heap:=s.heap.update l (Obj.mapSeq f),toks:=t' }:=by
 have q:=PySem.IsL.update e f
 rw [hf] at q
 refine I.write (x:=l) (e:=l) (by rw [hH]; exact trivial) (.inl rfl) (fun b' u hb hu=>(Heap.get?_update_other s.heap (Obj.mapSeq f) (Ne.symm hb)).trans hu) ⟨_,q⟩ ?_
 exact ⟨hz,its',_,hv,q⟩
theorem Inv.lnew {its:List Value} {t':Nat} (I:Inv X pins σ H s) (hv:Vals ys its) (hz:ys.length≤sizeLine) :
  Inv X pins σ (upd H s.heap.objs.size (.lst ys)) { s with heap:=s.heap.push { cls:=.type "list",data:=.seq its.toArray },toks:=t' } :=
 I.laid (fun _ _ q=>Heap.get?_push_of_some _ q) (Nat.le_refl _) ⟨hz,its,0,hv,Heap.get?_push_size _ rfl⟩
theorem Inv.fresh (I:Inv X pins σ H s):H s.heap.objs.size=none:=I.hok.fresh (Nat.le_refl _)
theorem Inv.lstM (I:Inv X pins σ H s) (hH:H l=some (.lst xs)):xs.length≤sizeLine∧∃ (its:List Value) (n:Nat),Vals xs its∧xs.length=its.length∧s.heap.get? l=some { cls:=.type "list",data:=.seq its.toArray n }:=by
 obtain ⟨z,its,n,r,e⟩:=I.hok l _ hH
 exact ⟨z,its,n,r,r.length,e⟩
theorem notLongL {n:Nat} (h:n≤sizeLine):Builtin.List.listTooLong n=false:=by
 unfold Builtin.List.listTooLong
 exact decide_eq_false (by omega)
end
section
variable {X:Cx}
def rAppend:V→List V→Hp→VK→Prop:=fun x vs H Q=>∃ l xs y,x=.ref l∧vs=[y]∧H l=some (.lst xs)∧xs.length < sizeLine∧Q .non (upd H l (.lst (xs ++ [y])))
theorem mt_append:MtM X "list.append" rAppend:=by
 intro pins s σ H x vs v us Q I rx rv h
 obtain ⟨l,xs,y,rfl,rfl,hH,hz,q⟩:=h
 cases rx
 obtain ⟨u,rfl,ru⟩:=rv.one
 obtain ⟨z,its,n,r,hl,e⟩:=I.lstM hH
 refine call_meets F.slot_list_append ⟨_,e,rfl⟩ F.entry_list_append (F.args_list_append_2 _ _) (PySem.list_append l its.toArray n u (by rw [List.size_toArray]; omega)) ⟨e,?_⟩
 refine ⟨.non,_,I.lset (its':=its ++ [u]) hH e (by simp) (r.append (.cons ru .nil)) ?_,rfl,q⟩
 rw [List.length_append,List.length_singleton]
 omega
def rPop:V→List V→Hp→VK→Prop:=fun x vs H Q=>∃ l xs y,x=.ref l∧vs=[]∧H l=some (.lst xs)∧xs[xs.length - 1]?=some y∧Q y (upd H l (.lst xs.dropLast))
theorem mt_pop:MtM X "list.pop" rPop:=by
 intro pins s σ H x vs v us Q I rx rv h
 obtain ⟨l,xs,y,rfl,rfl,hH,hy,q⟩:=h
 cases rx
 have hus:=rv.zero
 subst hus
 obtain ⟨z,its,n,r,hl,e⟩:=I.lstM hH
 obtain ⟨u,hu,ru⟩:=r.get hy
 have hy':its.toArray[its.toArray.size - 1]?=some u:=by
  show its.toArray[its.length - 1]?=some u
  rw [← Array.getElem?_toList,← hl]
  exact hu
 refine call_meets F.slot_list_pop ⟨_,e,rfl⟩ F.entry_list_pop (F.args_list_pop_1 _) (MeetsSeq.list_pop_last l its.toArray n u hy' (by rw [List.size_toArray]; omega)) ⟨e,?_⟩
 refine ⟨y,_,I.lset (its':=its.dropLast) hH e ?_ r.dropLast ?_,ru,q⟩
 ·show its.toArray.eraseIdxIfInBounds (its.toArray.size - 1)=its.dropLast.toArray
  rw [List.size_toArray,List.eraseIdxIfInBounds_toArray,erase_last]
 ·rw [List.length_dropLast]
  omega
def rCat:R2:=fun x y H Q=>∃ l b xs zs,x=.ref l∧y=.ref b∧H l=some (.lst xs)∧H b=some (.lst zs)∧xs.length + zs.length≤sizeLine∧∀ p,H p=none→Q (.ref p) (upd H p (.lst (xs ++ zs)))
theorem op_cat:OpR X (binaryOp .Add) rCat:=by
 intro pins s σ H x y v u Q I rx ry h
 obtain ⟨l,b,xs,zs,rfl,rfl,hH,hB,hz,q⟩:=h
 cases rx
 cases ry
 obtain ⟨z,its,n,r,hl,e⟩:=I.lstM hH
 obtain ⟨z2,its2,n2,r2,hl2,e2⟩:=I.lstM hB
 refine PySem.P.add_list e e2 ?_ (by rw [List.size_toArray,List.size_toArray]; omega)
 have ea:its.toArray ++ its2.toArray=(its ++ its2).toArray:=by simp
 rw [ea]
 exact ⟨.ref _,_,I.lnew (t':=s.toks) (r.append r2) (by rw [List.length_append]; omega),rfl,q _ I.fresh⟩
def rRep:R2:=fun x y H Q=>∃ l k xs,x=.ref l∧y=.int k∧H l=some (.lst xs)∧-(2 ^ 63)≤k∧k < 2 ^ 63∧xs.length * k.toNat≤sizeLine ∧
 ∀ p,H p=none→Q (.ref p) (upd H p (.lst (List.replicate k.toNat xs).flatten))
theorem len_rep {α:Type} (xs:List α) (k:Nat):(List.replicate k xs).flatten.length=k * xs.length:=by
 induction k with
 | zero=>simp
 | succ k ih=>rw [List.replicate_succ,List.flatten_cons,List.length_append,ih,Nat.succ_mul,Nat.add_comm]
theorem op_rep:OpR X (binaryOp .Mult) rRep:=by
 intro pins s σ H x y v u Q I rx ry h
 obtain ⟨l,k,xs,rfl,rfl,hH,h1,h2,hz,q⟩:=h
 cases rx
 obtain ⟨t,rfl⟩:=ry
 obtain ⟨z,its,n,r,hl,e⟩:=I.lstM hH
 have hlen:its.toArray.size * k.toNat≤sizeLine:=by rw [List.size_toArray,← hl]; exact hz
 have hcap:¬ its.toArray.size * k.toNat > (2 ^ 63 - 1) / 8:=by
  have:(sizeLine:Nat)≤(2 ^ 63 - 1) / 8:=by decide
  omega
 have hfit:¬ (!Builtin.List.listFitsIndex k)=true:=by
  rw [fitsIndex_both h1 h2]
  exact Bool.false_ne_true
 have hlong:¬ Builtin.List.listTooLong (its.toArray.size * k.toNat)=true:=by
  rw [notLongL hlen]
  exact Bool.false_ne_true
 have hnew:List.foldl (fun x1 x2=>x1 ++ x2) #[] (List.replicate (if its.toArray.isEmpty=true then 0 else k.toNat) its.toArray)=(List.replicate k.toNat its).flatten.toArray:=by
  have f0:∀ m:Nat,List.foldl (fun x1 x2=>x1 ++ x2) #[] (List.replicate m its.toArray)=(List.replicate m its).flatten.toArray:=fun m=>by
   have:=foldl_rep its m []
   rw [List.nil_append] at this
   exact this
  rw [f0]
  cases its with
  | nil=>simp
  | cons a r'=>rw [if_neg (by simp)]
 refine wpAny_binaryOp_repeat_ref (T:="list") (U:="int") (by decide) ⟨_,e,rfl⟩ (fun s'=>typeIs_int s' k t) noFill_list_mul F.fills_int_mul F.slot_int_rmul repeat_list F.slot_int_index.lookup
  (call_meets F.slot_int_rmul (typeIs_int s k t) F.entry_int_rmul (F.args_int_rmul_2 _ _) (int___rmul___int_list k t l its.toArray n)
   ⟨e,rfl,⟨_,e,rfl⟩,call_meets F.slot_list_mul ⟨_,e,rfl⟩ F.entry_list_mul (F.args_list_mul_2 _ _) (AutoListH.list___mul___list_int_3 l its.toArray n k t hfit hcap hlong) ⟨e,?_⟩⟩)
 rw [hnew]
 exact ⟨.ref _,_,I.lnew (t':=s.toks) (r.rep k.toNat) (by rw [len_rep,Nat.mul_comm]; exact hz),rfl,q _ I.fresh⟩
end
section
variable {prog:Program} {w:World} {A:Around} {E:Value→Shared→Prop} {s:Shared}
end
section
variable {X:Cx}
end
end L2
namespace Att
open PySem PySem.W PySem.Calls PyProof.Rows
theorem ints_of_wellAll {P:Params} {h:Heap}:∀ (ns:List Int) (vs:List Value),WellAll P h vs (ns.map WData.int)→IntsAre vs ns:=by
 intro ns
 induction ns with
 | nil =>
  intro vs w
  rw [List.map_nil] at w
  cases w
  exact .nil
 | cons n ns ih =>
  intro vs w
  rw [List.map_cons] at w
  cases w with
  | cons a b =>
   cases a
   exact .cons _ _ (ih _ b)
theorem script_of {l:OpenLaw} {n:Nat} (hn:l.most=some n) {P:Params} {h:Heap} {args:List WData} {vals:List Value}
  (hpre:l.row.toRowW.claim.pre args=true) (hwl:WellAll P h vals args) :
  ∃ a vs ns,vals=[Value.ref a]∧args=[WData.list (ns.map WData.int)]∧h.get? a=some { cls:=.type "list",data:=.seq vs.toArray }∧IntsAre vs ns∧ns.length≤n:=by
 have hsh:WShape.hasAll [] args [.list .int]=true:=(pre_splitW hpre).1
 have hc:l.pre.holds [] { args:=args }=true:=(pre_splitW hpre).2
 obtain ⟨d,r,rfl,h1,h2⟩:=hasAllW_cons hsh
 obtain rfl:=hasAllW_nil h2
 obtain ⟨xs,rfl,h3⟩:=hasW_list h1
 obtain ⟨ns,rfl⟩:=items_int h3
 have hlen:ns.length≤n:=by
  unfold OpenLaw.pre at hc
  have h4:(WTm.not (.lt (.lit (.int (n:Int))) (.len (.arg 0)))).holds [] { args:=[.list (ns.map .int)] }=true:=by
   have h4:=(holds_andW hc).1
   rw [hn] at h4
   exact h4
  have h5:=condW_of h4 (w_not (w_lt w_lit (w_len_list (w_arg rfl))))
  rw [List.length_map] at h5
  refine Nat.le_of_not_lt fun q=>?_
  have q':(n:Int) < ((ns.length:Nat):Int):=by omega
  first
   | (rw [decide_eq_true q'] at h5; exact absurd h5 (by decide))
   | (simp at h5; omega)
 cases hwl with
 | cons w1 w2 =>
  cases w2
  cases w1 with
  | list ho hall=>exact ⟨_,_,ns,rfl,rfl,ho,ints_of_wellAll ns _ hall,hlen⟩
theorem post_true (l:OpenLaw) (args:List WData):l.row.toRowW.claim.post args (.bool true) args=true :=
 postW_of (r:=l.row.toRowW) (X:=(true == true))
  (show WShape.has [] (.bool true) .bool=true by first | rfl | decide | simp [WShape.has,WShape.arms,WShape.armsAll])
  (show (WTm.eq .res (.lit (.bool true))).value [] { args:=args,res:=some (.bool true),after:=args }=some (.bool (true == true)) from w_eq_bool (w_res rfl) w_lit) rfl
theorem attach_call {l:OpenLaw} {n:Nat} {q:Program} {loose:List Str} {XP:(Str→Option Value)→Heap→Prop} {YP:World→Heap→Prop} {d:DefRec}
  (hn:l.most=some n) (hdf:d.params.defaults=[])
  (call:∀ (w:World) (s₀ s₁:Shared) (mg mb:Str→Option Value) (fa:Addr) (o:Obj) (pm cd doc:Value) (a:Addr) (vs:List Value) (ns:List Int),
   Ground q loose [] XP w s₀ mg mb s₁.heap→YP w s₁.heap →
   s₁.heap.get? fa=some o→o.data=.func (docDef d.name d.params d.body d.scope pm cd doc)→s₁.heap.CodeRec cd d.name→mg d.name=some (.ref fa) →
   s₁.heap.get? a=some { cls:=.type "list",data:=.seq vs.toArray }→IntsAre vs ns→ns.length≤n→s₁.gens=#[] →
   codeAny (model l.prog w) callerA (.call (.ref fa) ⟨[.ref a],[]⟩) (fun r s'=>r=.ok (.ret (.bool true))∧OldK s₁.heap s'.heap∧s'.os=s₁.os∧AllBare s'.gens) s₁) :
  WalkO q loose XP YP l.row.toRowW d [] (fun f vs=>PySem.call f vs):=by
 intro w s₀ s₁ mg mb G Y fa o pm cd doc dV kV ho hd hcd hD hmg hg args vals as hpre hlay hrd hwl hlo
 obtain rfl:dV=.none:=Dflts.none hD hdf
 obtain rfl:kV=.none:=Dflts.noKw hD
 obtain ⟨a,vs,ns,rfl,rfl,hobj,hints,hlen⟩:=script_of hn hpre hwl
 refine enter_call (codeAny_mono (call w s₀ s₁ mg mb fa o pm cd doc a vs ns G Y ho (fd_plain hd) hcd hmg hobj hints hlen hg) fun r s' hq=>?_)
 obtain ⟨rfl,h2,h3,h4⟩:=hq
 exact ⟨.inl ⟨.bool true,.bool true,[],rfl,fun _=>rfl,.bool true,post_true l _,fun _=>⟨List.Pairwise.nil,fun _ hm=>(nomatch hm)⟩⟩,h2,h3,h4⟩
section
variable {prog:Program} {w:World} {A:Around} {E:Value→Shared→Prop} {s:Shared} {K:Frag}
end
end Att
namespace L2
open PySem PySem.Spec PyProof.Rows
theorem vals_ints:∀ {vs:List Value} {ns:List Int},IntsAre vs ns→Vals (ns.map V.int) vs
 | _,_,.nil=>.nil
 | _,_,.cons n t h=>.cons ⟨t,rfl⟩ (vals_ints h)
def Only (H:Hp):Prop:=∀ b,H b=none∨∃ o xs,H b=some (.frz o (.lst xs))
theorem law_call {P:Program} {w:World} {K:PySem.W.Frag} {mg mb:Str→Option Value} {CX:CXT} {k:Nat} {fa a:Addr} {fd:FuncData} {x:Str} {sp:Sp} {s₁:Shared} {vs:List Value} {ns:List Int}
  (KX:K.In s₁.heap) (hns:s₁.heap.Ns mainGlobals mg) (hb:s₁.heap.Ns builtinsNs mb) (hbb:∀ x:Str,x≠"__name__"→mb x=bootBuiltins x) (hlim:s₁.heap.NoLimit) (hg:s₁.gens=#[])
  (ha:s₁.heap.get? a=some { cls:=.type "list",data:=.seq vs.toArray }) (hi:IntsAre vs ns) (hl:ns.length≤sizeLine) (hr:Room k callerA)
  (F:∀ base:Heap,K.In base→base.Ns mainGlobals mg→FnOk P w K mg base CX k fa fd [x] sp) (hbind:∀ (s:Shared) (u:Value),BindsTo s fd ⟨[u],[]⟩ [(x,u)])
  (hsp:∀ H:Hp,Only H→SqL K H a (ns.map V.int)→sp [.ref a] H (fun v _=>v=.bl true) fun _ _ _=>False)
  (hCX:∀ H e s',CX [] H s₁ (fun _ _ _=>False) e s'→False) :
  codeAny (model P w) callerA (.call (.ref fa) ⟨[.ref a],[]⟩) (fun r s'=>r=.ok (.ret (.bool true))∧OldK s₁.heap s'.heap∧s'.os=s₁.os∧AllBare s'.gens) s₁:=by
 have rv:=vals_ints hi
 have lenV:=hi.length
 have core:∀ H:Hp,Only H→SqL K H a (ns.map V.int)→HOk P w H s₁.heap→(∀ b,H b≠none→b=a)→(H a≠none→K.lookup a=none) →
   codeAny (model P w) callerA (.call (.ref fa) ⟨[.ref a],[]⟩) (fun r s'=>r=.ok (.ret (.bool true))∧OldK s₁.heap s'.heap∧s'.os=s₁.os∧AllBare s'.gens) s₁:=by
  intro H hO hS hok hA hK
  have base_of:∀ {b:Addr} {o:Obj},s₁.heap.get? b=some o→H b=none→(hidT s₁.heap H).get? b=some o:=fun e n=>hidT_get e n
  have noA:∀ {b:Addr} {o:Obj} {es:Array DictEntry} {ep:Nat},s₁.heap.get? b=some o→o.data=.dict es ep→H b=none:=fun {b o es ep} e d=>by
   cases q:H b with
   | none=>rfl
   | some u =>
    have e':b=a:=hA b (by rw [q]; simp)
    subst e'
    rw [ha] at e; cases e
    have d':Data.seq vs.toArray _=Data.dict es ep:=d
    cases d'
  have nsK:∀ {b:Addr} {m:Str→Option Value},s₁.heap.Ns b m→(hidT s₁.heap H).Ns b m:=fun {b m} ⟨o,es,ep,e,d,r⟩=>⟨o,es,ep,base_of e (noA e d),d,r⟩
  have hKb:K.In (hidT s₁.heap H):=fun b o e=>base_of (KX b o e) (by
   cases q:H b with
   | none=>rfl
   | some u =>
    have e':b=a:=hA b (by rw [q]; simp)
    subst e'
    rw [hK (by rw [q]; simp)] at e; cases e)
  have hM:Mod K mg (hidT s₁.heap H):=⟨hKb,nsK hns,⟨mb,nsK hb,hbb⟩,let ⟨mc,h1,h2⟩:=hlim; ⟨mc,nsK h1,h2⟩⟩
  have e0:Env0 P w K mg (hidT s₁.heap H) callerA [] s₁ H:=⟨rfl,hM,fun b o e=>of_hidT e,Nat.le_of_eq (hidT_size _ _),trivial,fun b hb=>absurd (show b∈([]:List Addr) from hb) (by simp),hok,.of_eq hg⟩
  refine codeAny_mono ((F _ hKb (nsK hns)).run callerA [] s₁ H ⟨[.ref a],[]⟩ [.ref a] [.ref a] _ _ hr e0 (hbind s₁ (.ref a)) (.cons rfl .nil) (hsp H hO hS)) fun r s' h=>?_
  cases r with
  | error e=>exact (hCX H e s' h).elim
  | ok fl =>
   cases fl with
   | next=>exact False.elim h
   | brk=>exact False.elim h
   | cont=>exact False.elim h
   | ret u =>
    obtain ⟨v,H',os,bare,un,hok',r',q⟩:=h
    have q':v=.bl true:=q
    subst q'
    obtain rfl:u=Value.bool true:=r'
    refine ⟨rfl,OldK.of_keep fun b o e=>?_,os,bare⟩
    cases q:H b with
    | none=>exact un.keep b o e q (by intro z; exact absurd (show b∈([]:List Addr) from z) (by simp)) (by simp)
    | some u =>
     rcases hO b with z | ⟨ob,xs,z⟩
     ·rw [q] at z; cases z
     ·have z2:=un.frzs b ob _ z
      obtain ⟨e1,_⟩:=hok b _ z
      obtain ⟨e2,_⟩:=hok' b _ z2
      rw [e] at e1; cases e1
      exact e2
 cases hk:K.lookup a with
 | some o =>
  have e:=KX a o hk
  rw [ha] at e
  cases e
  refine core (fun _=>none) (fun _=>.inl rfl) (.inr ⟨_,vs.toArray,_,hk,rfl,rfl,rfl,by rw [List.size_toArray,lenV]; exact hl,by simpa using rv⟩) (fun b u z=>by have z':(none:Option HO)=some u:=z; cases z') (fun b z=>absurd rfl z) fun z=>absurd rfl z
 | none =>
  refine core (fun b=>if b=a then some (.frz { cls:=.type "list",data:=.seq vs.toArray } (.lst (ns.map V.int))) else none) (fun b=>?_) (.inl (.inr ⟨{ cls:=.type "list",data:=.seq vs.toArray },if_pos rfl⟩)) (fun b u z=>?_) (fun b z=>?_) fun _=>hk
  ·by_cases hb:b=a
   ·exact .inr ⟨_,_,if_pos hb⟩
   ·exact .inl (if_neg hb)
  ·by_cases hb:b=a
   ·have z':=(if_pos hb).symm.trans z
    cases z'
    subst hb
    exact ⟨ha,by rw [List.length_map]; exact hl,vs,_,rv,ha⟩
   ·have z':=(if_neg hb).symm.trans z
    cases z'
  ·by_cases hb:b=a
   ·exact hb
   ·exact absurd (if_neg hb) z
theorem walk_of {l:PySem.W.OpenLaw} {n k:Nat} {q:Program} {loose:List Str} {XP:(Str→Option Value)→Heap→Prop} {YP:World→Heap→Prop} {d:DefRec} {K:Params→PySem.W.Frag} {CX:World→CXT} {sp:World→Sp} {x:Str}
  (hn:l.most=some n) (hn2:n≤sizeLine) (hdf:d.params.defaults=[]) (hr:Room k callerA)
  (hY:∀ (w:World) (h:Heap),YP w h→(K w.params).In h)
  (F:∀ (w:World) (mg:Str→Option Value) (fa:Addr) (h:Heap),(K w.params).In h→h.Ns mainGlobals mg→mg d.name=some (.ref fa) →
   ∃ fd:FuncData,(∀ (s:Shared) (u:Value),BindsTo s fd ⟨[u],[]⟩ [(x,u)]) ∧
    ∀ base:Heap,(K w.params).In base→base.Ns mainGlobals mg→FnOk l.prog w (K w.params) mg base (CX w) k fa fd [x] (sp w))
  (hsp:∀ (w:World) (H:Hp) (a:Addr) (ns:List Int),ns.length≤n→Only H→SqL (K w.params) H a (ns.map V.int)→sp w [.ref a] H (fun v _=>v=.bl true) fun _ _ _=>False)
  (hCX:∀ (w:World) (H:Hp) (s:Shared) (e:Value) (s':Shared),CX w [] H s (fun _ _ _=>False) e s'→False) :
  PySem.W.WalkO q loose XP YP l.row.toRowW d [] (fun f vs=>PySem.call f vs):=by
 refine Att.attach_call hn hdf fun w s₀ s₁ mg mb fa o pm cd doc a vs ns G Y ho hd hcd hmg hobj hints hlen hg=>?_
 have KX:=hY w _ Y
 obtain ⟨fd,hb,hF⟩:=F w mg fa _ KX G.T.g hmg
 exact law_call KX G.T.g G.T.b G.T.builtins G.T.nolimit hg hobj hints (Nat.le_trans hlen hn2) hr hF hb (fun H hO hS=>hsp w H a ns hlen hO hS) fun H e s'=>hCX w H s₁ e s'
end L2
/- THE LAST THEOREM (shape; LID,My.* are yours):
   My.Adr: a structure of the addresses that your layer names (classes,functions); My.Txt K t: a structure (Prop) of the equations over K;
   My.txt_mk:{K} {implicit addresses ..} (e1:nsIn K mainGlobals "law"=some (some (.ref f))) (e2:K.lookup f=some ⟨oc,od,.func (fnOf "law" "law" params body scope dV kV doc pm an cdv ct),sl⟩) (e3:codeIn K cdv "law"=true) ..:∃ t,My.Txt K t
set_option maxRecDepth 100000 in
set_option maxHeartbeats 0 in
theorem PySem.Challenge.cw_LID_holds : PySem.Challenge.rw_LID.Holds := by
 w_on; o_law; k_head; (case hw=>w_witness2)
 k_fill
 refine L2.walk_of (l:=PySem.Challenge.rw_LID) (n:=63) (k:=40) (x:="script") (CX:=fun w=>..) (sp:=fun _=>My.sp_law) rfl (by decide) rfl ⟨rfl,by decide,by decide⟩ (fun w h Y=>PySem.W.kIn_of Y) ?F ?S ?C
 case F =>
  intro w mg fa h KX G hmg
  have T:∃ t,My.Txt (L2.KOf KX) t:=by
   dsimp only [L2.KOf]                          -- K must stand as «<heap const> w.params» for k_is
   refine' My.txt_mk ?e1 ?e2 ?e3 ..
   (case e1=>PySem.W.k_is)                    -- in the order: a name -> its address -> its object -> its parts
   (case e2=>PySem.W.k_is)
   ..
  obtain ⟨t,T⟩:=T
  have e0:=hmg.symm.trans (PySem.W.mg_of KX G T.law)
  cases e0                                       -- fa is the law's own address
  exact ⟨_,fun s u=>.of_eq rfl,fun base kb nb=>My.law_fn T kb nb⟩     -- if «.of_eq rfl» comes too early: refine' ⟨_,?b,fun base kb nb=>My.law_fn T kb nb⟩; exact fun s u=>.of_eq rfl
 case S=>exact fun w H a ns hl hO hS=>..
 case C=>exact ..
(the tactic k_is has no namespace: write k_is) -/
namespace L2
open PySem PySem.Spec PyProof.Rows
def defArgs (s:Stmt):Arguments:=match s with
 | .FunctionDef _ a _ _ _ _ _ _ _ _=>a
 | _=>{ posonlyargs:=[],args:=[],vararg:=none,kwonlyargs:=[],kw_defaults:=[],kwarg:=none,defaults:=[] }
def defBody (s:Stmt):List Stmt:=match s with
 | .FunctionDef _ _ b _ _ _ _ _ _ _=>b
 | _=>[]
def defScope (s:Stmt):Scope:=match s with
 | .FunctionDef _ _ _ _ _ _ sc _ _ _=>sc
 | _=>{ kind:=.function,names:=[],isGenerator:=false,isCoroutine:=false }
abbrev CX0:CXT:=fun _ _ _ _ _ _=>False
abbrev E0:XK:=fun _ _ _=>False
theorem pass0 {X:Cx}:Passes CX0 X E0:=fun _ _ _ _ _ _ _ h=>h.elim
structure Fun (K:PySem.W.Frag) (x qual:Str) (st:Stmt) (f:Addr) (fd:FuncData):Prop where
 ex:∃ (oc:Value) (od:Option Addr) (kV doc pm:Value) (an:Option Addr) (cdv ct:Value) (osl:Array (Option Value)),
  fd=PySem.W.fnOf x qual (defArgs st) (defBody st) (defScope st) .none kV doc pm an cdv ct∧K.lookup f=some ⟨oc,od,.func fd,osl⟩∧PySem.W.codeIn K cdv qual=true
 kp:PySem.W.keepIn K (.ref f)=true
section
variable {P:Program} {w:World} {K:PySem.W.Frag} {mg:Str→Option Value} {base:Heap}
theorem Fun.ok {x qual:Str} {st:Stmt} {f:Addr} {fd:FuncData} {N ps:List Str} {k:Nat} {sp:Sp} (F:Fun K x qual st f fd) (S:FnScope N ps (defScope st)) (len:∀ vs H Q E,sp vs H Q E→vs.length=ps.length)
  (hbody:∀ (cdv:Value) (A:Around) (outer:List Env) (s:Shared) (H:Hp) (vs:List V) (Q:VK) (E:XK),Room k (A.deeper (envOfC qual (defScope st) s.heap.objs.size f cdv))→sp vs H Q E →
   ∃ t,PSs (cxOf CX0 P w K mg base N qual (defScope st) f cdv A outer s H E).nox (defBody st) t∧t { nx:=fun _ H'=>Q .non H',rt:=Q } (start N vs) H):FnOk P w K mg base CX0 (k + 1) f fd ps sp:=by
 obtain ⟨oc,od,kV,doc,pm,an,cdv,ct,osl,rfl,lk,hcd⟩:=F.ex
 refine fn_of lk hcd S len fun A outer s H vs Q E hr hsp=>?_
 obtain ⟨t,h,q⟩:=hbody cdv A outer s H vs Q E hr hsp
 exact ⟨t,h.nox,q⟩
theorem Fun.binds {x qual:Str} {st:Stmt} {f:Addr} {fd:FuncData} {ps:List Str} (F:Fun K x qual st f fd)
  (h:∀ (kV doc pm:Value) (an:Option Addr) (cdv ct:Value) (us:List Value),us.length=ps.length→bindArgs (PySem.W.fnOf x qual (defArgs st) (defBody st) (defScope st) .none kV doc pm an cdv ct) ⟨us,[]⟩=pure (ps.zip us)):Binds K fd ps []:=by
 obtain ⟨oc,od,kV,doc,pm,an,cdv,ct,osl,rfl,lk,hcd⟩:=F.ex
 exact .all (h kV doc pm an cdv ct)
theorem fun_mk {x qual:Str} {st:Stmt} {f:Addr} {oc:Value} {od an:Option Addr} {osl:Array (Option Value)} {kV doc pm cdv ct:Value} (l:K.lookup f=some ⟨oc,od,.func (PySem.W.fnOf x qual (defArgs st) (defBody st) (defScope st) .none kV doc pm an cdv ct),osl⟩)
  (c:PySem.W.codeIn K cdv qual=true) (k:PySem.W.keepIn K (.ref f)=true):Fun K x qual st f (PySem.W.fnOf x qual (defArgs st) (defBody st) (defScope st) .none kV doc pm an cdv ct):=⟨⟨oc,od,kV,doc,pm,an,cdv,ct,osl,rfl,l,c⟩,k⟩
end
theorem small1000 {n:Nat} (h:n≤1000):n < sizeLine:=Nat.lt_of_le_of_lt h (by decide)
section
variable {X:Cx}
theorem pv (i:Nat) {x:Str} {pos:Pos} (hN:X.N[i]?=some x:=by rfl) (hv:Vis X.env.scope x:=by first | exact Or.inl rfl | exact Or.inr (Or.inl rfl) | exact Or.inr (Or.inr rfl)) (hd:(x == ("__debug__":Str))=false:=by decide)
  (hcd:(x == ("__classdict__":Str))=false:=by decide):PE X (.Name x pos) (tVar i):=pe_var hN hv hd hcd
end
theorem iteF {A B:Prop} (h:B):if false=true then A else B:=by
 rw [if_neg Bool.false_ne_true]
 exact h
theorem iteT {A B:Prop} (h:A):if true=true then A else B:=by
 rw [if_pos rfl]
 exact h
def Same (H H':Hp):Prop:=∀ b o,H b=some o→H' b=some o
theorem Same.refl (H:Hp):Same H H:=fun _ _ h=>h
theorem Same.trans {H H1 H2:Hp} (a:Same H H1) (b:Same H1 H2):Same H H2:=fun c o h=>b c o (a c o h)
theorem Same.seq {K:PySem.W.Frag} {H H':Hp} {a:Addr} {xs:List V} (e:Same H H') (h:SqL K H a xs):SqL K H' a xs:=by
 rcases h with (h | ⟨o,h⟩) | h
 ·exact .inl (.inl (e _ _ h))
 ·exact .inl (.inr ⟨o,e _ _ h⟩)
 ·exact .inr h
section
variable {κ:Type} [DecidableEq κ]
def valV (kvs:List (κ×V)) (k:κ):Option V:=(kvs.find? fun kv=>decide (kv.1=k)).map (·.2)
def putK (kvs:List (κ×V)) (k:κ) (v:V):List (κ×V) :=
 if (kvs.any fun kv=>decide (kv.1=k))=true then kvs.map (fun kv=>if kv.1=k then (kv.1,v) else kv) else kvs ++ [(k,v)]
theorem valV_pos {p:κ×V} {r:List (κ×V)} {k:κ} (e:p.1=k):valV (p :: r) k=some p.2:=by simp [valV,List.find?_cons,e]
theorem valV_neg {p:κ×V} {r:List (κ×V)} {k:κ} (e:¬ p.1=k):valV (p :: r) k=valV r k:=by simp [valV,List.find?_cons,e]
theorem valV_any (k:κ):∀ kvs:List (κ×V),(kvs.any fun kv=>decide (kv.1=k))=(valV kvs k).isSome
 | []=>rfl
 | p :: r=>by
  rw [List.any_cons]
  by_cases e:p.1=k
  ·simp only [valV_pos e,decide_eq_true e,Bool.true_or,Option.isSome_some]
  ·rw [valV_neg e,decide_eq_false e,Bool.false_or]; exact valV_any k r
theorem valV_map (k j:κ) (y:V):∀ kvs:List (κ×V),valV (kvs.map fun kv=>if kv.1=k then (kv.1,y) else kv) j=(valV kvs j).map fun x=>if j=k then y else x
 | []=>rfl
 | p :: r=>by
  have ih:=valV_map k j y r
  rw [List.map_cons]
  by_cases h:p.1=k
  ·rw [if_pos h]
   by_cases e:p.1=j
   ·rw [valV_pos (p:=(p.1,y)) e,valV_pos e,Option.map_some,if_pos (e.symm.trans h)]
   ·rw [valV_neg (p:=(p.1,y)) e,valV_neg e,ih]
  ·rw [if_neg h]
   by_cases e:p.1=j
   ·rw [valV_pos (p:=p) e,valV_pos e,Option.map_some,if_neg (fun z=>h (e.trans z))]
   ·rw [valV_neg (p:=p) e,valV_neg e,ih]
theorem valV_snoc (k j:κ) (y:V):∀ kvs:List (κ×V),valV kvs k=none→valV (kvs ++ [(k,y)]) j=if j=k then some y else valV kvs j
 | [],_=>by
  by_cases e:k=j
  ·rw [if_pos e.symm]; exact valV_pos (p:=(k,y)) e
  ·rw [if_neg (fun z=>e z.symm)]; exact valV_neg (p:=(k,y)) e
 | p :: r,hn=>by
  rw [List.cons_append]
  have hk:¬ p.1=k:=fun z=>by rw [valV_pos z] at hn; cases hn
  rw [valV_neg hk] at hn
  have ih:=valV_snoc k j y r hn
  by_cases e:p.1=j
  ·rw [valV_pos e,valV_pos e,if_neg (fun z=>hk (e.trans z))]
  ·rw [valV_neg e,valV_neg e,ih]
theorem valV_put (kvs:List (κ×V)) (k j:κ) (y:V):valV (putK kvs k y) j=if j=k then some y else valV kvs j:=by
 unfold putK
 by_cases a:(kvs.any fun kv=>decide (kv.1=k))=true
 ·rw [if_pos a,valV_map]
  rw [valV_any] at a
  by_cases e:j=k
  ·obtain ⟨x,hx⟩:=Option.isSome_iff_exists.mp a
   rw [if_pos e,e,hx,Option.map_some,if_pos rfl]
  ·rw [if_neg e]
   cases valV kvs j with
   | none=>rfl
   | some x=>rw [Option.map_some,if_neg e]
 ·rw [if_neg a]
  refine valV_snoc k j y kvs ?_
  rw [valV_any] at a
  cases q:valV kvs k with
  | none=>rfl
  | some x=>rw [q] at a; exact (a rfl).elim
theorem length_putK (kvs:List (κ×V)) (k:κ) (v:V):(putK kvs k v).length≤kvs.length + 1:=by
 unfold putK
 split
 ·rw [List.length_map]; omega
 ·rw [List.length_append,List.length_cons,List.length_nil]; omega
theorem RelO.isSome_eq {o:Option V} {u:Option Value} (r:RelO o u):o.isSome=u.isSome:=by
 cases o with
 | none=>cases u with
  | none=>rfl
  | some _=>exact (show False from r).elim
 | some _=>cases u with
  | none=>exact (show False from r).elim
  | some _=>rfl
theorem KV.val {kvs:List (κ×V)} {vs:List (κ×Value)} (r:KV kvs vs) (k:κ):RelO (valV kvs k) (valueAt vs k):=by
 unfold KV at r
 induction r with
 | nil=>exact True.intro
 | @cons p q ps qs h t ih =>
  obtain ⟨h1,h2⟩:=h
  by_cases e:p.1=k
  ·have e':q.1=k:=h1.symm.trans e
   have b:valueAt (q :: qs) k=some q.2:=by simp [valueAt,List.find?_cons,e']
   rw [valV_pos e,b]; exact h2
  ·have e':¬ q.1=k:=fun z=>e (h1.trans z)
   have b:valueAt (q :: qs) k=valueAt qs k:=by simp [valueAt,List.find?_cons,e']
   rw [valV_neg e,b]; exact ih
theorem KV.any {kvs:List (κ×V)} {vs:List (κ×Value)} (r:KV kvs vs) (k:κ):(kvs.any fun kv=>decide (kv.1=k))=vs.any fun kv=>decide (kv.1=k):=by
 unfold KV at r
 induction r with
 | nil=>rfl
 | cons h t ih=>rw [List.any_cons,List.any_cons,ih,h.1]
theorem KV.repl {kvs:List (κ×V)} {vs:List (κ×Value)} (r:KV kvs vs) (k:κ) {y:V} {u:Value} (ry:RelV y u) :
  KV (kvs.map fun kv=>if kv.1=k then (kv.1,y) else kv) (vs.map fun kv=>if kv.1=k then (kv.1,u) else kv):=by
 unfold KV at r ⊢
 induction r with
 | nil=>exact .nil
 | @cons p q ps qs h t ih =>
  rw [List.map_cons,List.map_cons]
  refine .cons ?_ ih
  obtain ⟨h1,h2⟩:=h
  by_cases e:p.1=k
  ·rw [if_pos e,if_pos (h1.symm.trans e)]; exact ⟨h1,ry⟩
  ·rw [if_neg e,if_neg (fun z=>e (h1.trans z))]; exact ⟨h1,h2⟩
theorem KV.put {kvs:List (κ×V)} {vs:List (κ×Value)} (r:KV kvs vs) (k:κ) {y:V} {u:Value} (ry:RelV y u):KV (putK kvs k y) (stored vs k u):=by
 unfold putK stored
 rw [r.any k]
 by_cases e:(vs.any fun kv=>decide (kv.1=k))=true
 ·rw [if_pos e,if_pos e]; exact r.repl k ry
 ·rw [if_neg e,if_neg e]; exact Paired.snoc r ⟨rfl,ry⟩
theorem KV.length {kvs:List (κ×V)} {vs:List (κ×Value)} (r:KV kvs vs):kvs.length=vs.length:=Paired.length r
end
theorem kV_is {P:Program} {w:World} {k:Key} {u:Value} (r:RelV (kV k) u):(mixKind P w).is k u=true:=by
 cases k with
 | inl i=>obtain ⟨t,e⟩:=(show ∃ t,u=Value.int i t from r); subst e; exact mixKind_int P w i t
 | inr x=>obtain ⟨t,e⟩:=(show ∃ t,u=Value.str x t from r); subst e; exact mixKind_str P w x t
theorem items_are {P:Program} {w:World}:∀ {ks:List Key} {us:List Value},Vals (ks.map kV) us→ItemsAre (mixKind P w) ks us
 | [],_,r=>by rw [List.map_nil] at r; cases r; exact .nil
 | k :: ks,_,r=>by
  rw [List.map_cons] at r
  cases r with
  | cons h t=>exact .cons (kV_is h) (items_are t)
abbrev KT (H:Hp):List (List Key×V)→List (List Key×Addr×Value)→Prop:=Paired fun p q=>p.1=q.1∧H q.2.1=some (.tup (p.1.map kV))∧RelV p.2 q.2.2
theorem KT.val {H:Hp} {kvs:List (List Key×V)} {xs:List (List Key×Addr×Value)} (r:KT H kvs xs) (k:List Key):RelO (valV kvs k) ((atKey xs k).map (·.2)):=by
 induction r with
 | nil=>exact True.intro
 | @cons p q ps qs h t ih =>
  obtain ⟨h1,_,h2⟩:=h
  by_cases e:p.1=k
  ·have e':q.1=k:=h1.symm.trans e
   have b:atKey (q :: qs) k=some q.2:=by simp [atKey,List.find?_cons,e']
   rw [valV_pos e,b]; exact h2
  ·have e':¬ q.1=k:=fun z=>e (h1.trans z)
   have b:atKey (q :: qs) k=atKey qs k:=by simp [atKey,List.find?_cons,e']
   rw [valV_neg e,b]; exact ih
theorem KT.repl {H:Hp} {kvs:List (List Key×V)} {xs:List (List Key×Addr×Value)} (r:KT H kvs xs) (k:List Key) {y:V} {u:Value} (ry:RelV y u) :
  KT H (kvs.map fun kv=>if kv.1=k then (kv.1,y) else kv) (xs.map (putAt k u)):=by
 induction r with
 | nil=>exact .nil
 | @cons p q ps qs h t ih =>
  rw [List.map_cons,List.map_cons]
  refine .cons ?_ ih
  obtain ⟨h1,h2,h3⟩:=h
  unfold putAt
  by_cases e:p.1=k
  ·rw [if_pos e,if_pos (h1.symm.trans e)]; exact ⟨h1,h2,ry⟩
  ·rw [if_neg e,if_neg (fun z=>e (h1.trans z))]; exact ⟨h1,h2,h3⟩
theorem KT.put {H:Hp} {kvs:List (List Key×V)} {xs:List (List Key×Addr×Value)} (r:KT H kvs xs) (k:List Key) {b:Addr} {y:V} {u:Value} (hb:H b=some (.tup (k.map kV))) (ry:RelV y u) :
  KT H (putK kvs k y) (storedH xs k b u):=by
 have e:(kvs.any fun kv=>decide (kv.1=k))=(atKey xs k).isSome:=by
  rw [valV_any,(r.val k).isSome_eq,Option.isSome_map]
 unfold putK storedH
 rw [e]
 by_cases q:(atKey xs k).isSome=true
 ·rw [if_pos q,if_pos q]; exact r.repl k ry
 ·rw [if_neg q,if_neg q]; exact Paired.snoc r ⟨rfl,hb,ry⟩
theorem KT.keeps {H H':Hp} {kvs:List (List Key×V)} {xs:List (List Key×Addr×Value)} (r:KT H kvs xs) (ht:∀ b ys,H b=some (.tup ys)→H' b=some (.tup ys)):KT H' kvs xs :=
 Paired.mapP r fun _ _ z=>⟨z.1,ht _ _ z.2.1,z.2.2⟩
section
variable {P:Program} {w:World} {H:Hp} {h:Heap} {a:Addr}
theorem rd_of {u:HO} (ok:HOk P w H h) (e:Rd H a u):ObjOk P w H h a u:=e.ok ok
theorem dk_rd {kvs:List (Key×V)} (ok:HOk P w H h) (e:Rd H a (.dK kvs)):kvs.length≤sizeLine∧(a == sysModules)=false∧∃ vs,KV kvs vs∧h.DictOf (mixKind P w) a vs :=
 show ObjOk P w H h a (.dK kvs) from rd_of ok e
theorem dk_of {kvs:List (Key×V)} (ok:HOk P w H h) (e:H a=some (.dK kvs)):kvs.length≤sizeLine∧(a == sysModules)=false∧∃ vs,KV kvs vs∧h.DictOf (mixKind P w) a vs:=dk_rd ok (.inl e)
theorem key_of {ks:List Key} (ok:HOk P w H h) (e:H a=some (.tup (ks.map kV))):(tupleKind (mixKind P w)).is h ks a:=by
 obtain ⟨_,its,r,tx⟩:=(show ObjOk P w H h a (.tup (ks.map kV)) from ok a _ e); obtain ⟨o,h1,h2,n,h3⟩:=tx.tup
 exact ⟨o,its.toArray,n,h1,h2,h3,by simpa using items_are r⟩
theorem dt_rd {kvs:List (List Key×V)} (ok:HOk P w H h) (e:Rd H a (.dT kvs)):kvs.length≤sizeLine∧(a == sysModules)=false ∧
  ∃ xs,KT H kvs xs∧h.DictOfH (tupleKind (mixKind P w)) a xs:=by
 obtain ⟨z,y,xs,r,o,es,ep,h1,h2,h3,h4,h5⟩:=(show ObjOk P w H h a (.dT kvs) from rd_of ok e)
 refine ⟨z,y,xs,r,o,es,ep,h1,h2,h3,h4,fun x hx=>?_,h5⟩
 have all:∀ {l:List (List Key×V)} {m:List (List Key×Addr×Value)},KT H l m→∀ x∈m,(tupleKind (mixKind P w)).is h x.1 x.2.1:=by
  intro l m q
  induction q with
  | nil=>intro x hx; exact nomatch hx
  | @cons p q ps qs hq t ih =>
   intro x hx
   rcases List.mem_cons.mp hx with e | hx
   ·subst e
    exact key_of ok (by rw [← hq.1]; exact hq.2.1)
   ·exact ih x hx
 exact all r x hx
theorem dt_of {kvs:List (List Key×V)} (ok:HOk P w H h) (e:H a=some (.dT kvs)):kvs.length≤sizeLine∧(a == sysModules)=false ∧
  ∃ xs,KT H kvs xs∧h.DictOfH (tupleKind (mixKind P w)) a xs:=dt_rd ok (.inl e)
end
def DGet (H:Hp) (a:Addr) (y:V) (r:Option V):Prop :=
 (∃ kvs k,Rd H a (.dK kvs)∧y=kV k∧r=valV kvs k)∨∃ kvs k b,Rd H a (.dT kvs)∧y=.ref b∧H b=some (.tup (k.map kV))∧r=valV kvs k
def DPut (H:Hp) (a:Addr) (y v:V) (H':Hp):Prop :=
 (∃ kvs k,H a=some (.dK kvs)∧y=kV k∧kvs.length < sizeLine∧H'=upd H a (.dK (putK kvs k v))) ∨
 ∃ kvs k b,H a=some (.dT kvs)∧y=.ref b∧H b=some (.tup (k.map kV))∧kvs.length < sizeLine∧H'=upd H a (.dT (putK kvs k v))
theorem DGet.k {H:Hp} {a:Addr} {kvs:List (Key×V)} {k:Key} (e:H a=some (.dK kvs)):DGet H a (kV k) (valV kvs k):=.inl ⟨kvs,k,.inl e,rfl,rfl⟩
theorem DPut.k {H:Hp} {a:Addr} {kvs:List (Key×V)} {k:Key} {v:V} (e:H a=some (.dK kvs)) (hl:kvs.length < sizeLine):DPut H a (kV k) v (upd H a (.dK (putK kvs k v))):=.inl ⟨kvs,k,e,rfl,hl,rfl⟩
section
variable {X:Cx} {pins:List (Addr×Obj)} {σ:St} {H:Hp} {s:Shared} {a:Addr} {y v:V} {u r:Value} {o:Option V} {A:Around} {E:Value→Shared→Prop}
theorem Inv.big (I:Inv X pins σ H s):sysModules < s.heap.objs.size:=by
 have h:mainGlobals < s.heap.objs.size:=(I.mod.glob.keeps I.bk).lt
 exact Nat.lt_trans (by decide) h
theorem d_getItem {Q:Value→Shared→Prop} (hu:A.units + 1 < cLine) (I:Inv X pins σ H s) (g:DGet H a y (some v)) (ry:RelV y u) (h:∀ w' s',Inv X pins σ H s'→RelV v w'→Q w' s') :
  wpAny (model X.prog X.w) A (getItem (.ref a) u) Q E s:=by
 rcases g with ⟨kvs,k,e,ey,l⟩ | ⟨kvs,k,b,e,ey,eb,l⟩
 ·subst ey
  obtain ⟨z,hd,vs,rel,dd⟩:=dk_rd I.hok e
  obtain ⟨w',hw,rw'⟩:=RelO.some_of (v:=v) (o:=valueAt vs k) (by rw [l]; exact rel.val k)
  exact wpAny_getItem_of (kV_is ry) dd.mapOf hw (h w' _ (I.tok _) rw')
 ·subst ey
  cases (show u=Value.ref b from ry)
  obtain ⟨z,hd,xs,rel,dd⟩:=dt_rd I.hok e
  obtain ⟨w',hw,rw'⟩:=RelO.some_of (v:=v) (o:=(atKey xs k).map (·.2)) (by rw [l]; exact rel.val k)
  obtain ⟨p,hp,hp2⟩:=Option.map_eq_some_iff.mp hw
  refine wpAny_getItem_heap (tupleKind_room_in1 hu) (key_of I.hok eb) dd hp ?_
  rw [hp2]
  exact h w' _ (I.tok _) rw'
theorem d_in {Q:Value→Shared→Prop} (hu:A.units + 1 < cLine) (I:Inv X pins σ H s) (g:DGet H a y o) (ry:RelV y u) (h:∀ s',Inv X pins σ H s'→Q (.bool o.isSome) s') :
  wpAny (model X.prog X.w) A (compareOp .In u (.ref a)) Q E s:=by
 rcases g with ⟨kvs,k,e,ey,l⟩ | ⟨kvs,k,b,e,ey,eb,l⟩
 ·subst ey
  obtain ⟨z,hd,vs,rel,dd⟩:=dk_rd I.hok e
  refine wpAny_in_of (kV_is ry) hd dd.mapOf ?_
  rw [← (rel.val k).isSome_eq,← l]
  exact h _ (I.tok _)
 ·subst ey
  cases (show u=Value.ref b from ry)
  obtain ⟨z,hd,xs,rel,dd⟩:=dt_rd I.hok e
  refine wpAny_in_heap (tupleKind_room_in1 hu) (key_of I.hok eb) hd dd ?_
  have q:=(rel.val k).isSome_eq
  rw [Option.isSome_map] at q
  rw [← q,← l]
  exact h _ (I.tok _)
theorem d_write {h':Heap} {t':Nat} {ob:HO} (I:Inv X pins σ H s) (mu:Mut (H a)) (hs:Heap.SameBut a s.heap h') (he:∃ q,h'.get? a=some q) (new:ObjOk X.prog X.w (upd H a ob) h' a ob) :
  Inv X pins σ (upd H a ob) { s with heap:=h',toks:=t' } :=
 I.write (x:=a) (e:=a) mu (.inl rfl) (fun b q hb z=>(hs.2 b hb).trans z) he new
theorem dk_new {P:Program} {w:World} {H':Hp} {h':Heap} {kvs:List (Key×V)} {vs:List (Key×Value)} (z:kvs.length≤sizeLine) (hd:(a == sysModules)=false) (rel:KV kvs vs) (dd:h'.DictOf (mixKind P w) a vs) :
  ObjOk P w H' h' a (.dK kvs):=⟨z,hd,vs,rel,dd⟩
theorem d_setItem {H':Hp} {Q:Unit→Shared→Prop} (hu:A.units + 1 < cLine) (I:Inv X pins σ H s) (g:DPut H a y v H') (ry:RelV y u) (rv:RelV v r) (h:∀ s',Inv X pins σ H' s'→Q () s') :
  wpAny (model X.prog X.w) A (setItem (.ref a) u r) Q E s:=by
 rcases g with ⟨kvs,k,e,ey,l,eH⟩ | ⟨kvs,k,b,e,ey,eb,l,eH⟩
 ·subst ey eH
  obtain ⟨z,hd,vs,rel,dd⟩:=dk_of I.hok e
  have hz:vs.length≤sizeLine:=by rw [← rel.length]; exact z
  have hl:(putK kvs k v).length≤sizeLine:=by have:=length_putK kvs k v; omega
  refine wpAny_setItem_pairs (hsz:=hz) (kV_is ry) dd fun h' dd' hs=>h _ ?_
  have he:∃ q,h'.get? a=some q:=let ⟨q,_,_,hq,_⟩:=dd'; ⟨q,hq⟩
  exact d_write I (by rw [e]; exact True.intro) hs he (dk_new hl hd (rel.put k rv) dd')
 ·subst ey eH
  cases (show u=Value.ref b from ry)
  obtain ⟨z,hd,xs,rel,dd⟩:=dt_of I.hok e
  have hz:xs.length≤sizeLine:=by rw [← Paired.length rel]; exact z
  have hl:(putK kvs k v).length≤sizeLine:=by have:=length_putK kvs k v; omega
  refine wpAny_setItem_heap (hsz:=hz) (tupleKind_room_in1 hu) (key_of I.hok eb) dd fun h' dd' hs=>h _ ?_
  obtain ⟨q,es,ep,hq,h2,h3,h4,_,h5⟩:=dd'
  refine d_write I (by rw [e]; exact True.intro) hs ⟨q,hq⟩ ⟨hl,hd,_,(rel.put k eb rv).keeps fun c ys ec=>?_,q,es,ep,hq,h2,h3,h4,h5⟩
  rw [upd_ne (ne_of ec e (fun z=>nomatch z))]
  exact ec
end
section
variable {X:Cx} {pins:List (Addr×Obj)} {σ:St} {H:Hp} {s:Shared} {a:Addr} {kvs:List (Key×V)} {k:Key} {u:Value} {A:Around} {E:Value→Shared→Prop}
end
def NoSl (i:Expr):Prop:=∀ ov iv,subscripted i false ov iv=operate [ov,iv] (getItem ov iv)
theorem subD_of {prog:Program} {w:World} {A:Around} {E:Value→Shared→Prop} {s:Shared} {env:Env} {value slice:Expr} {pos:Pos} {T id:String} {Q:Value→Shared→Prop}
  (hl:typeLookup (.type T) "__getitem__"=pure (some (.builtin id))) (hs:NoSl slice)
  (h:wpAny (model prog w) A (eval value env) (fun o s₁=>wpAny (model prog w) A (eval slice env) (fun i s₂=>s₂.TypeIs o T∧wpAny (model prog w) A (getItem o i) Q E s₂) E s₁) E s) :
  wpAny (model prog w) A (eval (.Subscript value slice pos) env) Q E s:=by
 refine Subscript_ (wpAny_mono h (fun o s₁ h₁=>wpAny_mono h₁ (fun i s₂ h₂=>?_) fun _ _ x=>x) fun _ _ x=>x)
 obtain ⟨hT,h₂⟩:=h₂
 unfold subscriptTail
 refine wpAny_bind ?_
 rw [getitemInPython_of_ne hT.not_modules]
 refine wpAny_bind (wpAny_specialOf hT hl ?_)
 have fin:wpAny (model prog w) A (subscripted slice false o i) (fun r s₃=>wpAny (model prog w) A (letTemporaryGo value o r >>= fun _=>pure r) Q E s₃) E s₂:=by
  rw [hs o i]
  exact wpAny_operating (wpAny_mono h₂ (fun r s₃ h₃=>wpAny_bind (wpAny_letTemporaryGo (wpAny_pure h₃))) fun _ _ x=>x)
 first
  | exact wpAny_pure (wpAny_bind fin)
  | exact wpAny_bind (wpAny_pure (wpAny_bind fin))
  | exact wpAny_bind fin
theorem dict_typeIs {X:Cx} {pins:List (Addr×Obj)} {σ:St} {H:Hp} {s:Shared} {a:Addr} {y:V} {o:Option V} (I:Inv X pins σ H s) (g:DGet H a y o):s.TypeIs (.ref a) "dict":=by
 rcases g with ⟨kvs,k,e,_,_⟩ | ⟨kvs,k,b,e,_,_,_⟩
 ·obtain ⟨_,_,vs,_,dd⟩:=dk_rd I.hok e
  exact dd.typeIs
 ·obtain ⟨_,_,xs,_,dd⟩:=dt_rd I.hok e
  exact dd.typeIs
def tDGet (td ty:TE):TE:=fun σ H Q=>td σ H fun x H1=>ty σ H1 fun y H2=>∃ a v,x=.ref a∧DGet H2 a y (some v)∧Q v H2
def tDIn (ty td:TE):TE:=fun σ H Q=>ty σ H fun y H1=>td σ H1 fun x H2=>∃ a o,x=.ref a∧DGet H2 a y o∧Q (.bl o.isSome) H2
def sDPut (td ty tv:TE):TS:=fun D σ H=>tv σ H fun v H1=>td σ H1 fun x H2=>ty σ H2 fun y H3=>∃ a H4,x=.ref a∧DPut H3 a y v H4∧D.nx σ H4
section
variable {X:Cx} {o i e value:Expr} {pos pos' tpos:Pos} {td ty tv:TE}
theorem pe_dget (hu:X.A.units + 1 < cLine) (ho:PE X o td) (hi:PE X i ty) (hs:NoSl i):PE X (.Subscript o i pos) (tDGet td ty):=by
 intro pins s σ H Q I h
 refine subD_of PySem.F.slot_dict_getitem.lookup hs (thn (ho pins s σ H _ I h) fun u s1 ⟨x,H1,I1,rx,q1⟩=>thn (hi pins s1 σ H1 _ I1 q1) fun iv s2 ⟨y,H2,I2,ry,a,v,ex,g,q2⟩=>?_)
 subst ex
 obtain rfl:u=Value.ref a:=rx
 exact ⟨dict_typeIs I2 g,d_getItem hu I2 g ry fun w' s3 I3 rw'=>⟨v,H2,I3,rw',q2⟩⟩
theorem pc_din (hu:X.A.units + 1 < cLine) (hi:PE X i ty) (ho:PE X o td):PC X .In i o (tDIn ty td):=by
 intro pins s σ H Q I h
 refine thn (hi pins s σ H _ I h) fun iv s1 ⟨y,H1,I1,ry,q1⟩=>thn (ho pins s1 σ H1 _ I1 q1) fun u s2 ⟨x,H2,I2,rx,a,ov,ex,g,q2⟩=>?_
 subst ex
 obtain rfl:u=Value.ref a:=rx
 exact d_in hu I2 g ry fun s3 I3=>⟨.bl ov.isSome,H2,I3,rfl,q2⟩
theorem ps_dput (hu:X.A.units + 1 < cLine) (ho:PE X o td) (hi:PE X i ty) (hv:PE X value tv) (hs:swapsWith value (some (.Subscript o i pos')) pos.line X.env=pure false) :
  PS X (.Assign [.Subscript o i pos'] value pos) (sDPut td ty tv):=by
 intro pins s σ H D I h
 refine wpAny_Assign_Subscript (thn (hv pins s σ H _ I h) fun r s1 ⟨v,H1,I1,rv,q1⟩=>thn (ho pins s1 σ H1 _ I1 q1) fun u s2 ⟨x,H2,I2,rx,q2⟩=>thn (hi pins s2 σ H2 _ I2 q2) fun iv s3 ⟨y,H3,I3,ry,a,H4,ex,g,q3⟩=>?_) hs
 subst ex
 obtain rfl:u=Value.ref a:=rx
 exact d_setItem hu I3 g ry rv fun s4 I4=>⟨σ,H4,I4,q3⟩
end
theorem dk_empty {P:Program} {w:World} {H:Hp} (h:Heap) (hb:sysModules < h.objs.size):ObjOk P w H (h.push { cls:=.type "dict",data:=.dict #[] }) h.objs.size (.dK []) :=
 ⟨Nat.zero_le _,beq_eq_false_iff_ne.mpr (Ne.symm (Nat.ne_of_lt hb)),[],.nil,Heap.DictOf.new h⟩
section
variable {X:Cx} {pos:Pos}
end
def tPairs:List (TE×TE)→St→Hp→(List (V×V)→Hp→Prop)→Prop
 | [],_,H,Q=>Q [] H
 | (tk,tv) :: r,σ,H,Q=>tk σ H fun x H1=>tv σ H1 fun y H2=>tPairs r σ H2 fun ps H3=>Q ((x,y) :: ps) H3
abbrev VV:List (V×V)→List (Value×Value)→Prop:=Paired fun p q=>RelV p.1 q.1∧RelV p.2 q.2
def PPs (X:Cx) (pos:Pos) (keys:List (Option Expr)) (values:List Expr) (trs:List (TE×TE)):Prop :=
 ∀ (pins:List (Addr×Obj)) (s:Shared) (σ:St) (H:Hp) (Q:List (V×V)→Hp→Prop),Inv X pins σ H s→tPairs trs σ H Q →
  wpAny (model X.prog X.w) X.A (evalPairs (pairTrees keys values X.env pos)) (fun vs s'=>∃ ps H',Inv X pins σ H' s'∧VV ps vs∧Q ps H') X.xe s
theorem pps_nil {X:Cx} {pos:Pos}:PPs X pos [] [] []:=fun pins s σ H Q I h=>pairTrees_nil_walk ⟨[],H,I,.nil,h⟩
theorem pps_cons {X:Cx} {pos:Pos} {k v:Expr} {ks:List (Option Expr)} {vs:List Expr} {tk tv:TE} {trs:List (TE×TE)} (hk:PE X k tk) (hv:PE X v tv) (hr:PPs X pos ks vs trs) :
  PPs X pos (some k :: ks) (v :: vs) ((tk,tv) :: trs):=fun pins s σ H Q I h =>
 pairTrees_cons_walk (thn (hk pins s σ H _ I h) fun u s1 ⟨x,H1,I1,rx,q1⟩=>thn (hv pins s1 σ H1 _ I1 q1) fun w2 s2 ⟨y,H2,I2,ry,q2⟩ =>
  thn (hr pins s2 σ H2 _ I2 q2) fun ws s3 ⟨ps,H3,I3,rel,q3⟩=>⟨(x,y) :: ps,H3,I3,.cons ⟨rx,ry⟩ rel,q3⟩)
def mergeK (kvs more:List (Key×V)):List (Key×V):=more.foldl (fun acc kv=>putK acc kv.1 kv.2) kvs
theorem KV.merge:∀ {more:List (Key×V)} {rs:List (Key×Value)} {kvs:List (Key×V)} {vs:List (Key×Value)},KV more rs→KV kvs vs→KV (mergeK kvs more) (merged vs rs):=by
 intro more rs kvs vs r
 unfold KV at r
 induction r generalizing kvs vs with
 | nil=>intro q; exact q
 | @cons p q ps qs h t ih =>
  intro r0
  have e:KV (putK kvs p.1 p.2) (stored vs q.1 q.2):=by
   have:=r0.put p.1 h.2
   rw [← h.1]; exact this
  exact ih e
theorem length_mergeK:∀ (more kvs:List (Key×V)),(mergeK kvs more).length≤kvs.length + more.length
 | [],kvs=>by show kvs.length≤kvs.length + 0; omega
 | p :: r,kvs=>by
  have h1:=length_mergeK r (putK kvs p.1 p.2)
  have h2:=length_putK kvs p.1 p.2
  show (mergeK (putK kvs p.1 p.2) r).length≤_
  rw [List.length_cons]; omega
theorem carries_of {P:Program} {w:World}:∀ {kvs:List (Key×V)} {ws:List (Value×Value)},VV (kvs.map fun kv=>(kV kv.1,kv.2)) ws→∃ rs,Carries (mixKind P w) ws rs∧KV kvs rs
 | [],_,r=>by rw [List.map_nil] at r; cases r; exact ⟨[],True.intro,.nil⟩
 | p :: kvs,_,r=>by
  rw [List.map_cons] at r
  cases r with
  | @cons a b as bs h t =>
   obtain ⟨rs,c,q⟩:=carries_of (P:=P) (w:=w) t
   obtain ⟨b1,b2⟩:=b
   exact ⟨(p.1,b2) :: rs,⟨kV_is h.1,rfl,c⟩,.cons ⟨rfl,h.2⟩ q⟩
def tDisp (trs:List (TE×TE)):TE:=fun σ H Q=>∀ p,H p=none→tPairs trs σ (upd H p (.dK [])) fun ps H2=>H2 p=some (.dK [])∧∃ kvs:List (Key×V),ps=kvs.map (fun kv=>(kV kv.1,kv.2))∧kvs.length≤15∧Q (.ref p) (upd H2 p (.dK (mergeK [] kvs)))
theorem pe_disp {X:Cx} {pos:Pos} {keys:List (Option Expr)} {values:List Expr} {trs:List (TE×TE)} (h:PPs X pos keys values trs) (hall:keys.all (·.isSome)=true) (hl:keys.length=values.length) (h0:keys≠[])
  (h15:keys.length≤15):PE X (.Dict keys values pos) (tDisp trs):=by
 intro pins s σ H Q I q
 have hn:=I.hok.fresh (Nat.le_refl s.heap.objs.size)
 have I1:=I.laid (a:=s.heap.objs.size) (o:=.dK []) (h':=s.heap.push { cls:=.type "dict",data:=.dict #[] }) (t':=s.toks) (fun _ _ q=>Heap.get?_push_of_some _ q) (Nat.le_refl _) (dk_empty s.heap I.big)
 refine wpAny_Dict_walk (knd:=mixKind X.prog X.w) hall hl h0 h15 (thn (h pins _ σ _ _ I1 (q _ hn)) fun ws s2 ⟨ps,H2,I2,rel,e,kvs,ep,lk,q2⟩=>?_)
 subst ep
 obtain ⟨rs,c,rk⟩:=carries_of (P:=X.prog) (w:=X.w) rel
 obtain ⟨z,hd,vs0,r0,dd⟩:=dk_of I2.hok e
 cases r0
 refine ⟨rs,c,dd,fun h' dd' hs=>⟨.ref s.heap.objs.size,_,?_,rfl,q2⟩⟩
 have hz:(mergeK [] kvs).length≤sizeLine:=by
  have h1:=length_mergeK kvs []
  rw [List.length_nil] at h1
  rw [sizeLine_eq]; omega
 have he:∃ q,h'.get? s.heap.objs.size=some q:=let ⟨q,_,_,hq,_⟩:=dd'; ⟨q,hq⟩
 exact d_write I2 (by rw [e]; exact True.intro) hs he (dk_new hz hd (rk.merge .nil) dd')
section
variable {X:Cx} {pins:List (Addr×Obj)} {σ:St} {H:Hp} {s:Shared} {a:Addr} {y d:V} {u r:Value} {o:Option V} {A:Around} {E:Value→Shared→Prop}
end
section
variable {X:Cx} {o e f:Expr} {apos cpos:Pos} {td ty tx:TE}
end
section
variable {X:Cx} {pins:List (Addr×Obj)} {σ:St} {H:Hp} {s:Shared} {a:Addr} {kvs:List (Key×V)} {A:Around} {E:Value→Shared→Prop}
end
section
variable {X:Cx} {pins:List (Addr×Obj)} {σ:St} {H:Hp} {s:Shared} {a:Addr} {y:V} {u:Value} {A:Around} {E:Value→Shared→Prop}
end
section
variable {X:Cx}
end
section
variable {κ:Type} [DecidableEq κ]
end
end L2
namespace BF
open PySem PySem.Spec PyProof.Rows L2
theorem pe_imp {X:Cx} {e:Expr} {t t':TE} (h:PE X e t) (k:∀ σ H Q,t' σ H Q→t σ H Q):PE X e t' :=
 fun pins s σ H Q I hw=>h pins s σ H Q I (k σ H Q hw)
inductive Kn where
 | non | bl | int | str | lst | tup | dic
def Kn.nm:Kn→String
 | .non=>"NoneType" | .bl=>"bool" | .int=>"int" | .str=>"str" | .lst=>"list" | .tup=>"tuple" | .dic=>"dict"
inductive Knd (H:Hp):V→Kn→Prop where
 | non:Knd H .non .non
 | bl (b:Bool):Knd H (.bl b) .bl
 | int (i:Int):Knd H (.int i) .int
 | str (x:Str):Knd H (.str x) .str
 | lst {a:Addr} {xs:List V} (e:H a=some (.lst xs)):Knd H (.ref a) .lst
 | tup {a:Addr} {xs:List V} (e:H a=some (.tup xs)):Knd H (.ref a) .tup
 | dic {a:Addr} {kvs:List (Key×V)} (e:H a=some (.dK kvs)):Knd H (.ref a) .dic
theorem Knd.ty {K:PySem.W.Frag} {H:Hp} {v:V} {k:Kn} (h:Knd H v k):TyOf K H v (.type k.nm):=by
 cases h with
 | non=>exact .non
 | bl b=>exact .bl b
 | int i=>exact .int i
 | str x=>exact .str x
 | lst e=>exact .lst e
 | tup e=>exact .tup e
 | dic e=>exact .dK e
def isaK:Kn→Kn→Bool
 | .non,.non=>true
 | .bl,.bl=>true
 | .bl,.int=>true
 | .int,.int=>true
 | .str,.str=>true
 | .lst,.lst=>true
 | .tup,.tup=>true
 | .dic,.dic=>true
 | _,_=>false
theorem kit_of (K:PySem.W.Frag) (k c:Kn):PySem.W.kitOne K (.type k.nm) (.type c.nm)=some (isaK k c):=by
 cases k <;> cases c <;> kernel_rfl
theorem call_isi {X:Cx}:CallR X (.builtin "isinstance") (fun xs H Q=>∃ x k c,xs=[x,.ty (Kn.nm c)]∧Knd H x k∧Q (.bl (isaK k c)) H):=by
 intro pins s σ H xs us Q I r h
 obtain ⟨x,k,c,rfl,kd,q⟩:=h
 obtain ⟨u,w',rfl,r1,r2⟩:=vals2 r
 have e:w'=Value.type (Kn.nm c):=r2
 subst e
 exact isinst_ok I r1 kd.ty (kit_of X.K k c) fun tk=>⟨.bl (isaK k c),H,I.tok tk,rfl,q⟩
theorem pe_p9 {X:Cx} {j1 j2:Nat} {p1 p2 pos:Pos}:PE X (.BinOp (.Constant (.int 10) j1 p1) .Pow (.Constant (.int 9) j2 p2) pos) (tC (.int 1000000000)) :=
 pe_imp (pe_op op_pow pe_int pe_int) fun σ H Q q=>⟨10,9,rfl,rfl,⟨by decide,by decide,by decide⟩,by
  have e:((10:Int) ^ (9:Int).toNat)=1000000000:=by decide
  show Q (V.int _) H
  rw [e]; exact q⟩
theorem ifD_pos {p:Prop} [Decidable p] {A B:Prop} (h:p) (a:A):if decide p=true then A else B:=by
 rw [if_pos (decide_eq_true h)]; exact a
theorem ifD_neg {p:Prop} [Decidable p] {A B:Prop} (h:¬ p) (b:B):if decide p=true then A else B:=by
 rw [if_neg (by intro z; exact h (of_decide_eq_true z))]; exact b
theorem ifB_pos {c:Bool} {A B:Prop} (h:c=true) (a:A):if c=true then A else B:=by
 rw [if_pos h]; exact a
theorem ifB_neg {c:Bool} {A B:Prop} (h:c=false) (b:B):if c=true then A else B:=by
 rw [if_neg (by rw [h]; exact Bool.false_ne_true)]; exact b
theorem same_upd {H:Hp} {p:Addr} {o:HO} (h:H p=none):Same H (upd H p o):=fun b u e=>by
 rw [upd_ne (ne_of_none e h)]; exact e
theorem sz {n:Nat} (h:n≤1000):n≤sizeLine:=Nat.le_of_lt (small1000 h)
theorem szr {n:Nat} (h:Nat.ble n 1000=true):n≤sizeLine:=sz (Nat.le_of_ble_eq_true h)
structure Df (K:PySem.W.Frag) (mg:Str→Option Value) (x:Str) (st:Stmt) (f:Addr) (fd:FuncData):Prop where
 F:Fun K x x st f fd
 m:mg x=some (.ref f)
theorem df_mk {K:PySem.W.Frag} {mg:Str→Option Value} {h:Heap} (X:K.In h) (G:h.Ns mainGlobals mg) {x:Str} {st:Stmt} {f:Addr} {oc:Value} {od an:Option Addr} {osl:Array (Option Value)} {kV doc pm cdv ct:Value}
  (a:PySem.W.nsIn K mainGlobals x=some (some (.ref f))) (l:K.lookup f=some ⟨oc,od,.func (PySem.W.fnOf x x (defArgs st) (defBody st) (defScope st) .none kV doc pm an cdv ct),osl⟩)
  (c:PySem.W.codeIn K cdv x=true) (k:PySem.W.keepIn K (.ref f)=true):Df K mg x st f (PySem.W.fnOf x x (defArgs st) (defBody st) (defScope st) .none kV doc pm an cdv ct) :=
 ⟨fun_mk l c k,PySem.W.mg_of X G a⟩
def clOf (env:Env):List (Str×NameKind)→List (Str×Addr)→List (Str×Addr)
 | [],acc=>acc
 | (n,k) :: r,acc=>if (k == NameKind.free)=true then (match env.cells.lookup n with | some a=>clOf env r ((n,a) :: acc) | none=>clOf env r acc) else clOf env r acc
theorem clOf_sub (env:Env):∀ (l:List (Str×NameKind)) (acc:List (Str×Addr)),(∀ p∈acc,env.cells.lookup p.1=some p.2)→∀ p∈clOf env l acc,env.cells.lookup p.1=some p.2
 | [],_,h=>h
 | (n,k) :: r,acc,h=>by
  unfold clOf
  split
  ·split
   ·rename_i a e
    refine clOf_sub env r _ fun p hp=>?_
    rcases List.mem_cons.mp hp with rfl | hp
    ·exact e
    ·exact h p hp
   ·exact clOf_sub env r acc h
  ·exact clOf_sub env r acc h
theorem clOf_acc (env:Env):∀ (l:List (Str×NameKind)) (acc:List (Str×Addr)) (x:Str),(∃ c,acc.lookup x=some c)→∃ c,(clOf env l acc).lookup x=some c
 | [],_,_,h=>h
 | (n,k) :: r,acc,x,h=>by
  unfold clOf
  split
  ·split
   ·rename_i a e
    refine clOf_acc env r _ x ?_
    rw [List.lookup_cons]
    cases q:x == n with
    | true=>exact ⟨a,rfl⟩
    | false=>exact h
   ·exact clOf_acc env r acc x h
  ·exact clOf_acc env r acc x h
theorem clOf_has (env:Env):∀ (l:List (Str×NameKind)) (acc:List (Str×Addr)) (x:Str),l.lookup x=some NameKind.free→(∃ c,env.cells.lookup x=some c)→∃ c,(clOf env l acc).lookup x=some c
 | [],_,_,h,_=>by simp at h
 | (n,k) :: r,acc,x,h,hc=>by
  rw [List.lookup_cons] at h
  cases q:x == n with
  | true =>
   rw [q] at h
   have ek:k=NameKind.free:=Option.some.inj h
   have en:x=n:=eq_of_beq q
   subst ek en
   obtain ⟨c,e⟩:=hc
   unfold clOf
   rw [if_pos (by decide:(NameKind.free == NameKind.free)=true),e]
   refine clOf_acc env r _ x ⟨c,?_⟩
   rw [List.lookup_cons,q]
  | false =>
   rw [q] at h
   unfold clOf
   split
   ·split
    ·exact clOf_has env r _ x h hc
    ·exact clOf_has env r _ x h hc
   ·exact clOf_has env r _ x h hc
def lab (env:Env) (p:Str×NameKind):Str×NameKind:=if (p.2 == NameKind.free && env.scope.kind == .function && env.kindOf p.1 == some .cell) then (p.1,NameKind.cell) else (p.1,p.2)
theorem lab_eq (env:Env) (n:Str) (k:NameKind):lab env (n,k)=(n,if (k == NameKind.free && env.scope.kind == .function && env.kindOf n == some .cell) then NameKind.cell else k):=by
 unfold lab
 split <;> rfl
theorem relabel_names (scope:Scope) (env:Env):(relabel scope env).names=scope.names.map (lab env):=rfl
theorem relabel_lookup (env:Env):∀ (l:List (Str×NameKind)) (x:Str),
  (l.map (lab env)).lookup x=(l.lookup x).map fun k=>if (k == NameKind.free && env.scope.kind == .function && env.kindOf x == some .cell) then NameKind.cell else k
 | [],_=>rfl
 | (n,k) :: r,x=>by
  have ih:=relabel_lookup env r x
  rw [List.map_cons,lab_eq,List.lookup_cons,List.lookup_cons]
  cases q:x == n with
  | true =>
   have en:x=n:=eq_of_beq q
   subst en
   rfl
  | false=>exact ih
def compCx (X:Cx) (N':List Str) (scope:Scope) (C:Addr) (s₀:Shared) (H₀:Hp) (fp:List Addr) (pn:List (Addr×Obj)):Cx where
 prog:=X.prog
 w:=X.w
 K:=X.K
 mg:=X.mg
 base:=X.base
 A:=X.A
 N:=N'
 s₀:=s₀
 H₀:=H₀
 env:=compEnvC scope (clOf X.env scope.names []) C X.env
 outer:=X.stack
 stack:=X.stack
 ex:=fp
 fn:=fun _=>false
 calm:=X.calm
 pn:=pn
 xe:=fun _ _=>False
def pick (idx:List (Option Nat)) (σ:L2.St):L2.St:=idx.map fun o=>match o with | none=>none | some i=>(σ[i]?).getD none
structure CompOk (X:Cx) (scope:Scope) (N':List Str) (idx:List (Option Nat)):Prop where
 kind:scope.kind=.function
 cell:∀ y∈scope.names,y.2≠.cell
 names:∀ y∈scope.names,y.2=.local→scope.names.lookup y.1=some .local
 free:∀ y∈scope.names,y.2=.free→X.env.kindOf y.1=some .cell
 len:idx.length=N'.length
 idx:∀ p∈idx.zip N',∀ i,p.1=some i→X.N[i]?=some p.2∧X.env.kindOf p.2=some .cell∧scope.names.lookup p.2=some .free
def compB (osc scope:Scope) (ON N':List Str) (idx:List (Option Nat)):Bool :=
 (scope.kind == .function) && scope.names.all (fun y=>y.2 != .cell) && scope.names.all (fun y=>y.2 != .local || scope.names.lookup y.1 == some .local) &&
  scope.names.all (fun y=>y.2 != .free || osc.names.lookup y.1 == some .cell) && (idx.length == N'.length) &&
  (idx.zip N').all fun p=>match p.1 with | none=>true | some i=>(ON[i]? == some p.2) && (osc.names.lookup p.2 == some .cell) && (scope.names.lookup p.2 == some .free)
theorem compOk_of {X:Cx} {scope:Scope} {N':List Str} {idx:List (Option Nat)} (h:compB X.env.scope scope X.N N' idx=true):CompOk X scope N' idx:=by
 unfold compB at h
 simp only [Bool.and_eq_true,List.all_eq_true] at h
 obtain ⟨⟨⟨⟨⟨h1,h2⟩,h3⟩,h4⟩,h5⟩,h6⟩:=h
 refine ⟨by simpa using h1,fun y hy=>by simpa using h2 y hy,fun y hy e=>?_,fun y hy e=>?_,by simpa using h5,fun p hp i e=>?_⟩
 ·have:=h3 y hy
  rw [e] at this
  simpa using this
 ·have:=h4 y hy
  rw [e] at this
  show X.env.scope.names.lookup y.1=some .cell
  simpa using this
 ·have:=h6 p hp
  rw [e] at this
  simp only [Bool.and_eq_true] at this
  obtain ⟨⟨g1,g2⟩,g3⟩:=this
  exact ⟨by simpa using g1,by show X.env.scope.names.lookup p.2=some .cell; simpa using g2,by simpa using g3⟩
def CompW (J:It) (idx:List (Option Nat)) (g:TG) (tt:TT) (te:TE) (σ:L2.St) (H1:Hp) (D:Addr) (Q:VK):Prop :=
 ∃ W:Nat→Nat→L2.St→Hp→Prop,(∃ m,W 0 m (pick idx σ) (upd H1 D (.lst [])))∧∀ i m σ2 H2,W i m σ2 H2 →
  (J.stop i H2∧Q (.ref D) H2) ∨
  (J.go i H2∧∀ x H3,J.yld i H2 x H3→g x σ2 H3 fun σ4 H4=>tt σ4 H4 fun b H5 =>
   if b=true then te σ4 H5 fun v H6=>∃ ys,H6 D=some (.lst ys)∧ys.length < sizeLine∧∃ m',m' < m∧W (i + 1) m' σ4 (upd H6 D (.lst (ys ++ [v])))
   else ∃ m',m' < m∧W (i + 1) m' σ4 H5)
def tComp (wi:TI) (idx:List (Option Nat)) (g:TG) (tt:TT) (te:TE):TE:=fun σ H Q=>wi σ H fun J H1=>∀ D,H1 D=none→CompW J idx g tt te σ H1 D Q
def PTs (X:Cx) (ifs:List Expr) (t:TT):Prop :=
 ∀ (pins:List (Addr×Obj)) (s:Shared) (σ:L2.St) (H:Hp) (Q:Bool→Hp→Prop),Inv X pins σ H s→t σ H Q →
  wpAny (model X.prog X.w) X.A (forIn ifs true fun c r=>if r=true then do let ok ← isTrue c X.env (eval c X.env); pure (ForInStep.yield ok) else pure (ForInStep.yield r)) (TP X pins σ Q) X.xe s
def tYes:TT:=fun _ H Q=>Q true H
theorem pts_nil {X:Cx}:PTs X [] tYes:=fun pins s σ H Q I h=>wpAny_tests_nil ⟨H,I,h⟩
theorem pts_one {X:Cx} {c:Expr} {t:TT} (h:PT X c t):PTs X [c] t:=fun pins s σ H Q I hw=>wpAny_tests_one (h pins s σ H Q I hw)
theorem comp_loop {prog:Program} {w:World} {A:Around} {elt target iter:Expr} {ifs:List Expr} {scope:Scope} {pos:Pos} {it acc:Value} {env:Env} {R:Result→Shared→Prop} {s:Shared} (I:Nat→Shared→Prop)
  (turn:∀ n s,I n s→wpAny (model prog w) A (pyNext it) (fun r s₁=>match r with
   | none=>R (.ok .next) s₁
   | some v=>wpAny (model prog w) A (letOwnedTupleGo target it v) (fun _ s₀=>wpAny (model prog w) A (assign target env v) (fun _ s₂ =>
     wpAny (model prog w) A (forIn ifs true fun c r=>if r=true then do let ok ← isTrue c env (eval c env); pure (ForInStep.yield ok) else pure (ForInStep.yield r)) (fun ok s₃ =>
      if ok=true then wpAny (model prog w) A (eval elt env) (fun x s₄ =>
       wpAny (model prog w) A (call (.builtin "list.append") [acc,x]) (fun _ s₅=>∃ m,m < n∧I m s₅) (fun _ _=>False) s₄) (fun _ _=>False) s₃
      else ∃ m,m < n∧I m s₃) (fun _ _=>False) s₂) (fun _ _=>False) s₀) (fun _ _=>False) s₁) (fun _ _=>False) s)
  (n:Nat) (h:I n s):codeAny (model prog w) A (.compLoop (.ListComp elt [⟨target,iter,ifs,0⟩] scope pos) 0 it acc env) R s:=by
 refine codeAny_loop rfl I (fun n s hI=>?_) n h
 show wpAny _ A ((compTurn (.ListComp elt [⟨target,iter,ifs,0⟩] scope pos) 0 it acc env).onRaise (fun x=>do noteFrame x env; theTreesLotGoes x)) _ _ s
 refine wpAny_noted (wpAny_mono (E:=fun _ _=>False) ?_ (fun _ _ q=>q) fun _ _ z=>z.elim)
 rw [compTurn_list]
 refine wpAny_bind (wpAny_standAt (wpAny_bind (wpAny_mono (turn n s hI) (fun r s₁ h₁=>?_) fun _ _ h'=>h')))
 cases r with
 | none=>exact wpAny_pure h₁
 | some v =>
  refine wpAny_bind (wpAny_mono h₁ (fun _ s₀ h₀'=>?_) fun _ _ h'=>h')
  refine wpAny_bind (wpAny_mono h₀' (fun _ s₂ h₂=>?_) fun _ _ h'=>h')
  refine wpAny_bind (wpAny_mono h₂ (fun ok s₃ h₃=>?_) fun _ _ h'=>h')
  cases ok with
  | false=>exact wpAny_pure ⟨rfl,h₃⟩
  | true =>
   exact wpAny_bind (wpAny_bind (wpAny_mono h₃ (fun x s₄ h₄=>wpAny_bind (wpAny_mono h₄ (fun _ s₅ h₅=>wpAny_pure (wpAny_pure ⟨rfl,h₅⟩)) fun _ _ h'=>h')) fun _ _ h'=>h'))
section
variable {X:Cx} {elt tg iter:Expr} {ifs:List Expr} {scope:Scope} {pos:Pos} {N':List Str} {idx:List (Option Nat)} {wi:TI} {g:TG} {tt:TT} {te:TE}
theorem comp_ok {pins:List (Addr×Obj)} {σ:L2.St} {H:Hp} {s:Shared} {C:Addr} {fp:List Addr} (S:CompOk X scope N' idx) (I:Inv X pins σ H s) (hC:s.heap.objs.size≤C) (hf:∀ b∈fp,FpOk X pins H b) (hlt:∀ b∈fp,b < s.heap.objs.size) (pn:List (Addr×Obj)) :
  (compCx X N' scope C s H fp pn).Ok:=by
 have sub:∀ x c,(clOf X.env scope.names []).lookup x=some c→X.env.cells.lookup x=some c:=fun x c e=>clOf_sub X.env scope.names [] (fun p hp=>(nomatch hp)) (x,c) (PySem.mem_of_lookup e)
 have cne:∀ x c,(clOf X.env scope.names []).lookup x=some c→c < s.heap.objs.size:=fun x c e=>by
  obtain ⟨v,q⟩:=I.cell x c (sub x c e)
  exact q.lt
 refine ⟨I.ok.mod,S.kind,I.ok.glob,I.ok.blt,hC,fun x y c h1 h2=>I.ok.inj x y c (sub _ _ h1) (sub _ _ h2),fun x hx=>?_,fun x c h _=>absurd h Bool.false_ne_true,I.ok.hd,I.ok.frames,.inl rfl,fun b hb=>⟨?_,fun x c e z=>?_⟩,I.bs,Nat.le_trans I.ok.bsz I.sz,fun b o e hb=>?_,fun b hb z=>?_,I.stack,I.stkFree⟩
 ·have hx':((relabel scope X.env).names.lookup x=some .cell)∨((relabel scope X.env).names.lookup x=some .free):=hx
  rw [relabel_names,relabel_lookup] at hx'
  have hfr:scope.names.lookup x=some .free:=by
   cases q:scope.names.lookup x with
   | none=>rw [q] at hx'; rcases hx' with z | z <;> cases z
   | some k =>
    rw [q] at hx'
    simp only [Option.map_some,Option.some.injEq] at hx'
    cases k with
    | free=>rfl
    | cell=>exact absurd rfl (S.cell _ (PySem.mem_of_lookup q))
    | _=>exfalso; rcases hx' with z | z <;> simp at z
  exact clOf_has X.env scope.names [] x hfr (I.ok.has x (.inl (S.free _ (PySem.mem_of_lookup hfr) rfl)))
 ·exact Nat.ne_of_lt (Nat.lt_of_lt_of_le (hlt b hb) hC)
 ·exact (hf b hb).2.2.2.2.1 x c (sub x c e) z
 ·rcases (hf b hb).2.2.2.1 with z | z
  ·exact I.ok.noex b o e z
  ·exact absurd (Nat.lt_of_lt_of_le (Heap.lt_size (I.ok.bs b o e).1) z) (Nat.lt_irrefl _)
 ·rcases List.mem_cons.mp (I.stkSub b z) with e | e
  ·exact (hf b hb).2.1 e
  ·exact (hf b hb).2.2.1 e
theorem pe_comp (S:CompOk X scope N' idx) (hclos:closureFor scope X.env=pure (clOf X.env scope.names [])) (hc:X.calm=true) (hi:PI X tg iter wi)
  (hg:∀ C s₀ H₀ fp pn,PG (compCx X N' scope C s₀ H₀ fp pn) tg g) (ht:∀ C s₀ H₀ fp pn,PTs (compCx X N' scope C s₀ H₀ fp pn) ifs tt) (he:∀ C s₀ H₀ fp pn,PE (compCx X N' scope C s₀ H₀ fp pn) elt te)
  (hs:∀ x,foldedSetIterable iter X.env x=pure x:=by intro _; rfl):PE X (.ListComp elt [⟨tg,iter,ifs,0⟩] scope pos) (tComp wi idx g tt te):=by
 intro pins s σ H Q I h
 rw [eval_ListComp]
 refine wpAny_comprehension_free (use:=none) rfl hs hclos S.kind S.names (thn (hi pins s σ H _ I h) fun xv s₁ h₁=>thn h₁ fun itv s₂ h₂=>?_)
 obtain ⟨it,fp,tn,J,H2,e,I2,T,st2,f2,hJ⟩:=h₂
 subst e
 obtain ⟨W,⟨m0,w0⟩,turn⟩:=hJ s₂.heap.objs.size (I2.hok.fresh (Nat.le_refl _))
 have hlt:∀ b∈fp,b < s₂.heap.objs.size:=fun b hb=>by
  obtain ⟨o,e,_⟩:=T.obj _ _ st2 b hb
  exact Heap.lt_size e
 refine wpAny_newObj_type (wpAny_newFunctionEnv S.cell (by intro y hy; simp at hy) (fun h₁ hns₁ hsb₁=>?_) S.kind)
 dsimp only at hns₁ hsb₁ ⊢
 generalize hH2:s₂.heap.push { cls:=.type "list",dict:=none,data:=.seq ([]:List Value).toArray }=P2 at hns₁ hsb₁ ⊢
 have hC:P2.objs.size=s₂.heap.objs.size + 1:=by rw [← hH2,Heap.size_push]
 have neC:∀ b:Addr,b < s₂.heap.objs.size→b≠P2.objs.size:=fun b hb=>Nat.ne_of_lt (by rw [hC]; exact Nat.lt_succ_of_lt hb)
 have neD:s₂.heap.objs.size≠P2.objs.size:=Nat.ne_of_lt (by rw [hC]; exact Nat.lt_succ_self _)
 have old:∀ b o,s₂.heap.get? b=some o→h₁.get? b=some o:=fun b o e =>
  hsb₁.extBut b o (neC b (Heap.lt_size e)) (Heap.get?_push_of_some _ (hH2 ▸ Heap.get?_push_of_some _ e))
 have hacc:h₁.get? s₂.heap.objs.size=some { cls:=.type "list",data:=.seq ([]:List Value).toArray } :=
  hsb₁.extBut _ _ neD (Heap.get?_push_of_some _ (hH2 ▸ Heap.get?_push_size _ rfl))
 have nD:H2 s₂.heap.objs.size=none:=I2.hok.fresh (Nat.le_refl _)
 have nC:H2 P2.objs.size=none:=I2.hok.fresh (by omega)
 have ok:=comp_ok (C:=P2.objs.size) S I2 (by omega) f2 hlt (X.pn ++ pins)
 have pinlt:∀ p∈X.pn ++ pins,p.1 < s₂.heap.objs.size:=fun p hp=>Heap.lt_size (I2.pin p hp).1
 have sub:∀ x c,(clOf X.env scope.names []).lookup x=some c→X.env.cells.lookup x=some c:=fun x c e=>clOf_sub X.env scope.names [] (fun p hp=>(nomatch hp)) (x,c) (PySem.mem_of_lookup e)
 have I3:Inv (compCx X N' scope P2.objs.size s₂ H2 fp (X.pn ++ pins)) [] (pick idx σ) (upd H2 s₂.heap.objs.size (.lst [])) { s₂ with heap:=h₁,toks:=s₂.toks + ([]:List (Str×Value)).length }:=by
  refine ⟨ok,rfl,I2.bare,?_,⟨_,hns₁,fun j x v h1 h2 h3=>?_⟩,fun x c e=>?_,?_,fun x c e=>?_,fun p hp=>?_,?_,?_⟩
  ·exact Un.laid old (Nat.le_refl _) nD
  ·have hj:j < idx.length:=by
    have:=(List.getElem?_eq_some_iff.mp h2).1
    unfold pick at this
    rwa [List.length_map] at this
   unfold pick at h2
   rw [List.getElem?_map,List.getElem?_eq_getElem hj] at h2
   have h2':=Option.some.inj h2
   cases q:idx[j] with
   | none=>rw [q] at h2'; cases h2'
   | some i =>
    have h2':(σ[i]?).getD none=some v:=by rw [q] at h2'; exact h2'
    have hmem:(idx[j],x)∈idx.zip N':=by
     refine List.mem_iff_getElem?.mpr ⟨j,?_⟩
     rw [List.getElem?_zip_eq_some]
     exact ⟨List.getElem?_eq_getElem hj,h1⟩
    obtain ⟨z1,z2,z3⟩:=S.idx _ hmem i q
    have hσ:σ[i]?=some (some v):=by
     cases r:σ[i]? with
     | none=>rw [r] at h2'; cases h2'
     | some y=>rw [r] at h2'; rw [show y=some v from h2']
    obtain ⟨m,hn,hl⟩:=I2.loc
    obtain ⟨u,ru,lk⟩:=hl i x v z1 hσ (.inr (.inl z2))
    refine ⟨u,ru,.inr ⟨.inl ?_,?_⟩⟩
    ·show (relabel scope X.env).names.lookup x=some .cell
     rw [relabel_names,relabel_lookup,z3,I2.ok.kind]
     simp [z2]
    ·obtain ⟨c,hcl⟩:=clOf_has X.env scope.names [] x z3 (I2.ok.has x (.inl z2))
     rcases lk with ⟨k1,_⟩ | ⟨_,c',e1,e2⟩
     ·rw [z2] at k1; cases k1
     ·refine ⟨c,hcl,?_⟩
      have e3:=sub x c hcl
      rw [e1] at e3
      cases e3
      obtain ⟨o,ho,hd⟩:=e2
      exact ⟨o,old _ _ ho,hd⟩
  ·obtain ⟨v,o,ho,hd⟩:=I2.cell x c (sub x c e)
   exact ⟨v,o,old _ _ ho,hd⟩
  ·show upd H2 _ _ P2.objs.size=none
   rw [upd_ne (Ne.symm neD)]; exact nC
  ·obtain ⟨v,q⟩:=I2.cell x c (sub x c e)
   rw [upd_ne (Nat.ne_of_lt q.lt)]
   exact I2.freeC x c (sub x c e)
  ·rw [List.append_nil] at hp
   obtain ⟨e,n,ne,nf,d⟩:=I2.pin p hp
   refine ⟨old _ _ e,?_,?_,fun z=>?_,d⟩
   ·rw [upd_ne (Nat.ne_of_lt (pinlt p hp))]; exact n
   ·exact neC _ (pinlt p hp)
   ·rcases List.mem_cons.mp (I2.stkSub _ z) with z | z
    ·exact ne z
    ·exact nf z
  ·exact I2.hok.laid old (Nat.le_refl _) ⟨Nat.zero_le _,[],0,.nil,hacc⟩
  ·show (pick idx σ).length=N'.length
   unfold pick
   rw [List.length_map]
   exact S.len
 have stat:∀ {pl:List (Addr×Obj)} {H':Hp},(∀ b∈fp,H' b=none)→(∀ p∈pl,p.1 ∉ fp)→∀ b∈fp,FpOk (compCx X N' scope P2.objs.size s₂ H2 fp (X.pn ++ pins)) pl H' b:=fun {pl H'} hn hp b hb=>by
  refine ⟨hn b hb,(ok.exf b hb).1,ok.exfs b hb,.inl hb,(ok.exf b hb).2,fun p hpp z=>?_⟩
  rcases List.mem_append.mp hpp with h1 | h1
  ·exact (f2 b hb).2.2.2.2.2 p h1 z
  ·exact hp p h1 (z ▸ hb)
 have loop:codeAny (model X.prog X.w) X.A (.compLoop (.ListComp elt [⟨tg,iter,ifs,0⟩] scope pos) 0 (.ref it) (.ref s₂.heap.objs.size) (compEnvC scope (clOf X.env scope.names []) P2.objs.size X.env))
   (compPost (model X.prog X.w) X.A X.xe none (EP X pins σ Q) (.ref s₂.heap.objs.size) P2.objs.size) { s₂ with heap:=h₁,toks:=s₂.toks + ([]:List (Str×Value)).length }:=by
  refine comp_loop (fun n s'=>∃ i σ' H',Inv (compCx X N' scope P2.objs.size s₂ H2 fp (X.pn ++ pins)) [] σ' H' s'∧tn i s'.heap∧(∀ b∈fp,H' b=none)∧W i n σ' H') ?_ m0
   ⟨0,_,_,I3,T.keep _ _ _ st2 fun b _ o e=>old b o e,fun b hb=>by rw [upd_ne (Nat.ne_of_lt (hlt b hb))]; exact (f2 b hb).1,w0⟩
  rintro n s3 ⟨i,σ3,H3,J3,st3,fr3,w3⟩
  rcases turn i n σ3 H3 w3 with ⟨stop,q⟩ | ⟨go,step⟩
  ·refine wpAny_mono (T.done (compCx X N' scope P2.objs.size s₂ H2 fp (X.pn ++ pins)) rfl rfl rfl hc i [] s3 σ3 H3 (fun _ _=>False) J3 (stat fr3 (fun _ z=>nomatch z)) st3 stop) (fun r s4 hr=>?_) fun _ _ z=>z
   obtain ⟨rfl,J4⟩:=hr
   obtain ⟨m,hn,_⟩:=J4.loc
   refine ⟨m,hn,fun h' hs'=>?_⟩
   have fC:H3 P2.objs.size=none:=J4.free
   have up:∀ b o,b≠P2.objs.size→s4.heap.get? b=some o→h'.get? b=some o:=fun b o hb e=>hs'.extBut b o hb e
   have un:Un (frs X.stack) fp H2 H3 s₂.heap h':=by
    have u:=J4.base
    refine ⟨fun b o e n1 h1 h2=>?_,fun b o e n1 h1 h2=>?_,u.free,fun b o e h2=>?_,u.tups,u.frzs,u.tbls⟩
    ·exact up b o (neC b (Heap.lt_size e)) (u.keep b o e n1 h1 h2)
    ·obtain ⟨sl,e1⟩:=u.slot b o e n1 h1 h2
     exact ⟨sl,up b _ (neC b (Heap.lt_size e)) e1⟩
    ·obtain ⟨o',e1⟩:=u.there b o e h2
     exact ⟨o',up b _ (neC b (Heap.lt_size e)) e1⟩
   have hok:HOk X.prog X.w H3 h':=fun b o e=>(J4.hok b o e).stay (fun c v hcc e1=>up c v (fun z=>by
    subst z
    rcases hcc with z | z
    ·subst z; rw [fC] at e; cases e
    ·rw [fC] at z; cases z) e1) (fun _ z=>z) fun _ _ z=>z
   refine ⟨.ref s₂.heap.objs.size,H3,?_,rfl,q⟩
   refine I2.call' (s':={ s4 with heap:=h' }) (ch:=fp) ?_ un hok J4.bare fun b hb=>?_
   ·exact J4.os
   ·obtain ⟨f0,f1,f2',f3,f4,f5⟩:=f2 b hb
    exact ⟨f3,f1,f4,f5⟩
  ·refine wpAny_mono (T.item (compCx X N' scope P2.objs.size s₂ H2 fp (X.pn ++ pins)) rfl rfl rfl hc i [] s3 σ3 H3 (fun _ _=>False) J3 (stat fr3 (fun _ z=>nomatch z)) st3 go) (fun r s4 hr=>?_) fun _ _ z=>z
   obtain ⟨u,rfl,h4⟩:=hr
   refine wpAny_mono h4 (fun _ s5 h5=>?_) fun _ _ z=>z
   obtain ⟨x,H5,J5,r5,y5,st5,fr5⟩:=h5
   have J5':=J5.pinned (stat fr5 (fun _ z=>nomatch z)) (T.obj _ _ st5)
   refine wpAny_mono (hg _ _ _ _ _ _ s5 σ3 H5 x u _ J5' r5 (step x H5 y5)) (fun _ s6 h6=>?_) fun _ _ z=>z
   obtain ⟨σ6,H6,J6,q6⟩:=h6
   have again:∀ {s9:Shared} {σ9:L2.St} {H9:Hp},Inv (compCx X N' scope P2.objs.size s₂ H2 fp (X.pn ++ pins)) ([] ++ pinsAt fp s5.heap) σ9 H9 s9→(∃ m',m' < n∧W (i + 1) m' σ9 H9) →
     ∃ m,m < n∧∃ i σ' H',Inv (compCx X N' scope P2.objs.size s₂ H2 fp (X.pn ++ pins)) [] σ' H' s9∧tn i s9.heap∧(∀ b∈fp,H' b=none)∧W i m σ' H':=fun {s9 σ9 H9} J9 hw=>by
    obtain ⟨m',hm,w9⟩:=hw
    refine ⟨m',hm,i + 1,σ9,H9,J9.unpinned,T.keep _ _ _ st5 fun b hb o e=>(J9.pin (b,o) (List.mem_append_right _ (List.mem_append_right _ (mem_pinsAt hb e)))).1,fun b hb=>?_,w9⟩
    obtain ⟨o,e,d⟩:=T.obj _ _ st5 b hb
    exact (J9.pin (b,o) (List.mem_append_right _ (List.mem_append_right _ (mem_pinsAt hb e)))).2.1
   refine wpAny_mono (ht _ _ _ _ _ _ s6 σ6 H6 _ J6 q6) (fun ok' s7 h7=>?_) fun _ _ z=>z
   obtain ⟨H7,J7,q7⟩:=h7
   cases ok' with
   | false=>exact again J7 q7
   | true =>
    refine wpAny_mono (he _ _ _ _ _ _ s7 σ6 H7 _ J7 q7) (fun xv2 s8 h8=>?_) fun _ _ z=>z
    obtain ⟨v,H8,J8,r8,ys,hD,hz,hw⟩:=h8
    refine wpAny_mono (mt_append (X:=compCx X N' scope P2.objs.size s₂ H2 fp (X.pn ++ pins)) _ s8 σ6 H8 (.ref s₂.heap.objs.size) [v] (.ref s₂.heap.objs.size) [xv2] (fun _ H9=>∃ m',m' < n∧W (i + 1) m' σ6 H9) J8 rfl (.cons r8 .nil) ⟨_,ys,v,rfl,rfl,hD,hz,hw⟩) (fun _ s9 h9=>?_) fun _ _ z=>z
    obtain ⟨_,H9,J9,_,q9⟩:=h9
    exact again J9 q9
 exact codeAny_compStart_list loop (T.self X.A 0 _ _ _ (T.keep _ _ _ st2 fun b _ o e=>old b o e) loop)
end
def Its (x:Str):It:=⟨fun i _=>i < x.cps.size,fun i H v H'=>H'=H∧∃ c,x.cps[i]?=some c∧v=.str ⟨#[c]⟩,fun i _=>i=x.cps.size⟩
theorem turn_str {P:Program} {w:World} {K:PySem.W.Frag} {tg:Expr} {T:String} {x:Str} {t:Tok} {it:Addr}
  (W:∀ A:Around,A.handled=none→Walks P w A it [it] [it] x.cps.size (SignAt x) (fun i h=>h.IsStrIter it T x t i))
  (hT:["enumerate","zip","dict_itemiterator","dict_reverseitemiterator","odict_iterator","itertools.zip_longest","itertools.pairwise"].contains T=false)
  (hs:∀ (A:Around) (i:Nat) (s:Shared) (Q:Value→Shared→Prop) (E:Value→Shared→Prop),s.heap.IsStrIter it T x t i→Q (.ref it) s→wpAny (model P w) A (pyIter (.ref it)) Q E s) :
  Turn P w K tg (Its x) [it] it (fun i h=>h.IsStrIter it T x t i) where
 mem:=by simp
 obj:=fun i h st b hb=>by
  have e:b=it:=by simpa using hb
  subst e
  obtain ⟨o,e,c,d⟩:=st
  exact ⟨o,e,fun v z=>by rw [d] at z; cases z⟩
 keep:=fun i h h' st k=>let ⟨o,ho,r⟩:=st; ⟨o,k it (by simp) o ho,r⟩
 item:=by
  intro X hP hw hK hc i pins s σ H E I hf st hg
  subst hP hw hK
  obtain ⟨f0,f1,f2,f3,f4,f5⟩:=hf it (by simp)
  refine (W X.A (I.ok.hd hc)).item i s _ _ hg st fun v h' tk hv st' kk=>?_
  obtain ⟨c,u,hc',rfl⟩:=hv
  have I1:Inv X pins σ H { s with heap:=h',toks:=tk }:=I.turned (fun b o hb e=>kk b o (by simpa using hb) e) f0 f1 f3 f4 f5
  obtain ⟨o,e,c2,d2⟩:=id st'
  exact ⟨_,rfl,go_of (s:={ s with heap:=h',toks:=tk }) e c2 d2 hT ⟨.str ⟨#[c]⟩,H,I1,⟨u,rfl⟩,⟨rfl,c,hc',rfl⟩,st',fun b hb=>(hf b hb).1⟩⟩
 done:=by
  intro X hP hw hK hc i pins s σ H E I hf st hg
  subst hP hw hK
  obtain ⟨f0,f1,f2,f3,f4,f5⟩:=hf it (by simp)
  have e:i=x.cps.size:=hg
  subst e
  exact (W X.A (I.ok.hd hc)).done s _ _ st fun h' tk kk=>⟨rfl,I.turned (t':=tk) (fun b o hb e=>kk b o (by simpa using hb) e) f0 f1 f3 f4 f5⟩
 self:=fun A i s Q E st h=>hs A i s Q E st h
def iStr (tl:TE):TI:=fun σ H R=>tl σ H fun x H1=>∃ z,x=.str z∧R (Its z) H1
theorem pi_str {X:Cx} {tg l:Expr} {tl:TE} (hl:PE X l tl):PI X tg l (iStr tl):=by
 intro pins s σ H R I h
 refine thn (hl pins s σ H _ I h) fun v s1 ⟨y,H1,I1,r1,q1⟩=>?_
 obtain ⟨z,e,q⟩:=q1
 subst e
 obtain ⟨t,rfl⟩:=r1
 cases ha:z.cps.all (· < 128)
 ·refine wpAny_pyIter_wide ha ?_
  refine ⟨s1.heap.objs.size,[s1.heap.objs.size],_,_,H1,rfl,I1.kept (t':=s1.toks) fun b o e=>Heap.get?_push_of_some _ e,
   turn_str (T:="str_iterator") (t:=t) (fun A hA=>Walks.strWide hA _ z t) (by decide) (fun A i s Q E st h=>wpAny_pyIter_striter_wide st h),⟨_,Heap.get?_push_size _ rfl,rfl,rfl⟩,fun b hb=>?_,q⟩
  have e:b=s1.heap.objs.size:=by simpa using hb
  subst e
  exact I1.fpOk (Nat.le_refl _) (I1.hok.fresh (Nat.le_refl _))
 ·refine wpAny_pyIter_ascii ha ?_
  refine ⟨s1.heap.objs.size,[s1.heap.objs.size],_,_,H1,rfl,I1.kept (t':=s1.toks) fun b o e=>Heap.get?_push_of_some _ e,
   turn_str (T:="str_ascii_iterator") (t:=t) (fun A hA=>Walks.strAscii hA _ z t) (by decide) (fun A i s Q E st h=>wpAny_pyIter_striter_ascii st h),⟨_,Heap.get?_push_size _ rfl,rfl,rfl⟩,fun b hb=>?_,q⟩
  have e:b=s1.heap.objs.size:=by simpa using hb
  subst e
  exact I1.fpOk (Nat.le_refl _) (I1.hok.fresh (Nat.le_refl _))
theorem op_leS {X:Cx}:OpR X (compareOp .LtE) (fun x y H Q=>∃ i j,x=.str i∧y=.str j∧Q (.bl (!decide (j.cps.toList < i.cps.toList))) H):=by
 intro pins s σ H x y v u Q I rx ry h
 obtain ⟨i,j,rfl,rfl,q⟩:=h
 obtain ⟨t,rfl⟩:=rx
 obtain ⟨t',rfl⟩:=ry
 exact PySem.P.le_str (fin_bl I q rfl)
theorem sl_str {X:Cx}:SlR X (fun x lo hi H Q=>∃ z,x=.str z∧z.length≤sizeLine∧Q (.str (Txt.slice z lo hi)) H):=by
 intro pins s σ H x v vl vu lo hi sl Q I rx hs pl pu h
 obtain ⟨z,rfl,hz,q⟩:=h
 obtain ⟨t,rfl⟩:=rx
 have part:∀ {v:Value} {o:Option Int},IsPart v o→∃ l:Option (Int×Tok),v=partValue l∧l.map (·.1)=o:=fun p=>by
  cases p with
  | none=>exact ⟨none,rfl,rfl⟩
  | int i t=>exact ⟨some (i,t),rfl,rfl⟩
 obtain ⟨l,e1,e2⟩:=part pl
 obtain ⟨u,e3,e4⟩:=part pu
 subst e1 e2 e3 e4
 refine ⟨"str",_,PySem.F.slot_str_getitem.lookup,typeIs_str _ _ _,?_⟩
 refine wpAny_getItem_str_slice (l:=l) (u:=u) (st:=none) hs rfl (post_val_or_str ⟨Nat.le_trans (Txt.slice_le z _ _) hz,fun t' k=>⟨.str _,H,I.tok k,⟨t',rfl⟩,q⟩⟩)
theorem strsAre_of:∀ {ys:List Str} {us:List Value},Vals (ys.map V.str) us→StrsAre us ys
 | [],us,r=>by rw [List.map_nil] at r; cases r; exact .nil
 | y :: ys,us,r=>by
  rw [List.map_cons] at r
  cases r with
  | cons r1 r2 =>
   obtain ⟨t,e⟩:=r1
   subst e
   exact .cons y t (strsAre_of r2)
theorem mt_join {X:Cx}:MtR X "str.join" (fun x vs H Q=>∃ z p ys,x=.str z∧vs=[.ref p]∧SqL X.K H p (List.map V.str ys)∧(ys.map (·.length)).sum + ys.length * z.length≤16777216∧Q (.str (Txt.join z ys)) H):=by
 intro pins s σ H x vs v us Q I rx rv h
 obtain ⟨z,p,ys,rfl,rfl,hp,hz,q⟩:=h
 obtain ⟨t,rfl⟩:=rx
 obtain ⟨u,rfl,ru⟩:=vals1 rv
 have e:u=Value.ref p:=ru
 subst e
 obtain ⟨its,r,pl,_⟩:=I.list hp
 exact join_list pl.isList (strsAre_of r) hz fun t' k=>⟨.str _,H,I.tok k,⟨t',rfl⟩,q⟩
def trB (bs:List Bool) (j:Nat):Bool:=(bs[j]?).getD true
theorem trB_all (bs:List Bool):(List.range bs.length).all (trB bs)=bs.all id:=by
 rw [Bool.eq_iff_iff,List.all_eq_true,List.all_eq_true]
 constructor
 ·intro h x hx
  obtain ⟨j,hj⟩:=List.mem_iff_getElem?.mp hx
  have q:=h j (List.mem_range.mpr (List.getElem?_eq_some_iff.mp hj).1)
  unfold trB at q
  rw [hj] at q
  exact q
 ·intro h j hj
  have hj':=List.mem_range.mp hj
  unfold trB
  rw [List.getElem?_eq_getElem hj']
  exact h _ (List.getElem_mem hj')
theorem call_all {X:Cx} (hc:X.calm=true):CallR X (.builtin "all") (fun xs H Q=>∃ p bs,xs=[.ref p]∧SqL X.K H p (List.map V.bl bs)∧Q (.bl (bs.all id)) H):=by
 intro pins s σ H xs us Q I r h
 obtain ⟨p,bs,rfl,hp,q⟩:=h
 obtain ⟨u,rfl,ru⟩:=vals1 r
 have e:u=Value.ref p:=ru
 subst e
 obtain ⟨its,rv,pl,_⟩:=I.list hp
 have hlen:=rv.length
 rw [List.length_map] at hlen
 have hpl:p < s.heap.objs.size:=by
  obtain ⟨o,n,e,_⟩:=pl
  exact Heap.lt_size e
 refine call_all_walk (wpAny_pyIter_list pl.isList ?_)
 refine ⟨s.heap.objs.size,_,_,_,_,_,trB bs,rfl,Walks.list (A:=X.A.in1) (I.ok.hd hc) s.heap.objs.size p (Nat.ne_of_lt hpl) its.toArray,
  ⟨⟨_,Heap.get?_push_size _ rfl,rfl,rfl⟩,pl.isList.push _⟩,?_,fun h' tk kk=>?_⟩
 ·intro i v s' Q' E' hi hq
  have hi':its[i]?=some v:=by simpa using hi
  have hlt:i < bs.length:=by rw [hlen]; exact (List.getElem?_eq_some_iff.mp hi').1
  obtain ⟨w',hw,rw'⟩:=rv.get (i:=i) (x:=.bl bs[i]) (by rw [List.getElem?_map,List.getElem?_eq_getElem hlt]; rfl)
  rw [hi'] at hw
  cases hw
  have e:v=Value.bool bs[i]:=rw'
  subst e
  unfold trB at hq
  rw [List.getElem?_eq_getElem hlt] at hq
  exact wpAny_truthy_bool hq
 ·refine ⟨.bl (bs.all id),H,I.kept (t':=tk) fun b o e=>kk b o (by simpa using Nat.ne_of_lt (Heap.lt_size e)) (Heap.get?_push_of_some _ e),?_,q⟩
  have e:its.toArray.size=bs.length:=by rw [List.size_toArray]; exact hlen.symm
  rw [e,trB_all bs]
  rfl
theorem comp_n {J:It} {n:Nat} {idx:List (Option Nat)} {g:TG} {tt:TT} {te:TE} {σ:L2.St} {H1:Hp} {D:Addr} {Q:VK} (Pv:Nat→L2.St→Hp→Prop)
  (h0:Pv 0 (pick idx σ) (upd H1 D (.lst []))) (hgo:∀ i σ2 H2,i < n→Pv i σ2 H2→J.go i H2) (hstop:∀ σ2 H2,Pv n σ2 H2→J.stop n H2∧Q (.ref D) H2)
  (hs:∀ i σ2 H2,i < n→Pv i σ2 H2→∀ x H3,J.yld i H2 x H3→g x σ2 H3 fun σ4 H4=>tt σ4 H4 fun b H5 =>
   if b=true then te σ4 H5 fun v H6=>∃ ys,H6 D=some (.lst ys)∧ys.length < sizeLine∧Pv (i + 1) σ4 (upd H6 D (.lst (ys ++ [v]))) else Pv (i + 1) σ4 H5) :
  CompW J idx g tt te σ H1 D Q:=by
 refine ⟨fun i m σ H=>m=n - i∧i≤n∧Pv i σ H,⟨n,by simp,Nat.zero_le _,h0⟩,?_⟩
 rintro i m σ2 H2 ⟨rfl,hi,p⟩
 by_cases hlt:i < n
 ·refine .inr ⟨hgo i σ2 H2 hlt p,fun x H3 y=>?_⟩
  have key:∀ (σ':L2.St) (H':Hp),(∃ m',m' < n - i∧m'=n - (i + 1)∧i + 1≤n∧Pv (i + 1) σ' H')=Pv (i + 1) σ' H':=fun σ' H' =>
   propext ⟨fun ⟨_,_,_,_,q⟩=>q,fun q=>⟨n - (i + 1),by omega,rfl,hlt,q⟩⟩
  simp only [key]
  exact hs i σ2 H2 hlt p x H3 y
 ·have e:i=n:=by omega
  subst e
  exact .inl (hstop σ2 H2 p)
theorem atI_of {α:Type} {xs:List α} {m:Int} (h0:0≤m) (h1:m < xs.length):∃ c,atI xs m=some c∧c∈xs:=by
 obtain ⟨j,rfl⟩:=Int.eq_ofNat_of_zero_le h0
 have hj:j < xs.length:=by omega
 exact ⟨xs[j],atI_nat (List.getElem?_eq_getElem hj),List.getElem_mem hj⟩
theorem app_len (a b:Str):(a ++ b).length=a.length + b.length:=by
 show (a.cps ++ b.cps).size=_
 exact Array.size_append
theorem len_cps (a:Str):a.length=a.cps.toList.length:=by
 show a.cps.size=_
 rw [Array.length_toList]
theorem lt1 (a b:Nat):decide (([a]:List Nat) < [b])=decide (a < b):=by
 rw [decide_eq_decide]
 simp [List.cons_lt_cons_iff]
def okSign (c:Nat):Bool:=decide (97≤c) && decide (c≤122)
def colB:V→Bool
 | .str z=>decide (1≤z.length) && decide (z.length≤8) && z.cps.toList.all okSign
 | _=>false
theorem cps_a:("a":Str).cps.toList=[97]:=by decide +kernel
theorem cps_z:("z":Str).cps.toList=[122]:=by decide +kernel
theorem cmulR {i j:Int} (h1:-(2 ^ 64) < j) (h2:j < 2 ^ 64):CMul i j:=Or.inr ⟨h1,h2⟩
section
variable {rest:List Expr} {env:Env}
theorem se_name {x p}:starEach (.Name x p :: rest) env=(false,eval (.Name x p) env) :: starEach rest env:=rfl
theorem se_const {c k p}:starEach (.Constant c k p :: rest) env=(false,eval (.Constant c k p) env) :: starEach rest env:=rfl
theorem se_sub {a b p}:starEach (.Subscript a b p :: rest) env=(false,eval (.Subscript a b p) env) :: starEach rest env:=rfl
theorem se_call {f a k p}:starEach (.Call f a k p :: rest) env=(false,eval (.Call f a k p) env) :: starEach rest env:=rfl
theorem se_bin {a o b p}:starEach (.BinOp a o b p :: rest) env=(false,eval (.BinOp a o b p) env) :: starEach rest env:=rfl
theorem se_tup {l k p}:starEach (.Tuple l k p :: rest) env=(false,eval (.Tuple l k p) env) :: starEach rest env:=rfl
theorem se_list {l p}:starEach (.List l p :: rest) env=(false,eval (.List l p) env) :: starEach rest env:=rfl
theorem se_comp {e g s p}:starEach (.ListComp e g s p :: rest) env=(false,eval (.ListComp e g s p) env) :: starEach rest env:=rfl
theorem se_cmp {a o b p}:starEach (.Compare a o b p :: rest) env=(false,eval (.Compare a o b p) env) :: starEach rest env:=rfl
theorem se_un {o a p}:starEach (.UnaryOp o a p :: rest) env=(false,eval (.UnaryOp o a p) env) :: starEach rest env:=rfl
end
section
variable {X:Cx} {e:Expr} {es:List Expr} {te:TE} {t:TA} {pos:Pos}
theorem pac (ha:PE X e te) (hr:PA X es t) (hs:starEach (e :: es) X.env=(false,eval e X.env) :: starEach es X.env:=by
  first | exact se_name | exact se_const | exact se_sub | exact se_call | exact se_bin | exact se_tup | exact se_list | exact se_dict | exact se_comp | exact se_attr | exact se_cmp | exact se_bool | exact se_un | exact se_if) :
  PA X (e :: es) (tCons te t):=pa_cons ha hr hs
variable {CX:CXT} {k:Nat} {f:Addr} {fd:FuncData} {ps:List Str} {sp:Sp} {dvs:List V} {ds:List Value} {E:XK} {x:Str} {p:Pos}
theorem pec (F:FnOk X.prog X.w X.K X.mg X.base CX k f fd ps sp) (hr:Room k X.A) (hg:Gl X x) (hm:X.mg x=some (.ref f)) (hk:PySem.W.keepIn X.K (.ref f)=true) (hb:Binds X.K fd ps ds) (hd:Vals dvs ds) (hx:Passes CX X E)
  (ha:PA X (e :: es) t) (hdb:(x == ("__debug__":Str))=false:=by decide)
  (he:starEach (e :: es) X.env=(false,eval e X.env) :: starEach es X.env:=by
   first | exact se_name | exact se_const | exact se_sub | exact se_call | exact se_bin | exact se_tup | exact se_list | exact se_dict | exact se_comp | exact se_attr | exact se_cmp | exact se_bool | exact se_un | exact se_if)
  (hpl:(backTo pos (starEach es X.env)).any (·.1)=false:=by rfl):PE X (.Call (.Name x p) (e :: es) [] pos) (tCall sp dvs E t):=pe_call F hr hg hm hk hb hd hx ha hdb he hpl
end
end BF
namespace BF
open PySem PySem.Spec PyProof.Rows L2 PySem.SeqAt
inductive Dt where
 | int (i:Int)
 | str (x:Str)
 | tup (l:List Dt)
mutual
def Dt.beq:Dt→Dt→Bool
 | .int i,.int j=>i == j
 | .str x,.str y=>x == y
 | .tup l,.tup m=>Dt.beqs l m
 | _,_=>false
def Dt.beqs:List Dt→List Dt→Bool
 | [],[]=>true
 | a :: l,b :: m=>Dt.beq a b && Dt.beqs l m
 | _,_=>false
end
mutual
theorem Dt.beq_iff:∀ a b:Dt,Dt.beq a b=true↔a=b
 | .int i,.int j=>by simp [Dt.beq]
 | .str x,.str y=>by simp [Dt.beq]
 | .tup l,.tup m=>by simp [Dt.beq,Dt.beqs_iff l m]
 | .int i,.str y=>by simp [Dt.beq]
 | .int i,.tup m=>by simp [Dt.beq]
 | .str x,.int j=>by simp [Dt.beq]
 | .str x,.tup m=>by simp [Dt.beq]
 | .tup l,.int j=>by simp [Dt.beq]
 | .tup l,.str y=>by simp [Dt.beq]
theorem Dt.beqs_iff:∀ l m:List Dt,Dt.beqs l m=true↔l=m
 | [],[]=>by simp [Dt.beqs]
 | a :: l,b :: m=>by simp [Dt.beqs,Dt.beq_iff a b,Dt.beqs_iff l m]
 | [],b :: m=>by simp [Dt.beqs]
 | a :: l,[]=>by simp [Dt.beqs]
end
theorem Dt.beq_self (a:Dt):Dt.beq a a=true:=(Dt.beq_iff a a).mpr rfl
mutual
def Dt.dp:Dt→Nat
 | .int _=>0
 | .str _=>0
 | .tup l=>Dt.dps l + 1
def Dt.dps:List Dt→Nat
 | []=>0
 | a :: l=>max (Dt.dp a) (Dt.dps l)
end
mutual
inductive DtIs (H:Hp):V→Dt→Prop where
 | int (i:Int):DtIs H (.int i) (.int i)
 | str (x:Str):DtIs H (.str x) (.str x)
 | tup {a:Addr} {xs:List V} {ds:List Dt} (e:H a=some (.tup xs)) (h:DtsIs H xs ds):DtIs H (.ref a) (.tup ds)
inductive DtsIs (H:Hp):List V→List Dt→Prop where
 | nil:DtsIs H [] []
 | cons {v:V} {d:Dt} {vs:List V} {ds:List Dt} (h:DtIs H v d) (t:DtsIs H vs ds):DtsIs H (v :: vs) (d :: ds)
end
mutual
theorem DtIs.inj {H:Hp}:∀ {d:Dt} {v:V} {d':Dt},DtIs H v d→DtIs H v d'→d=d'
 | .int i,_,d',.int _,h=>by cases h; rfl
 | .str x,_,d',.str _,h=>by cases h; rfl
 | .tup ds,_,d',.tup e q,h=>by
  cases h with
  | tup e2 q2 =>
   rw [e] at e2
   cases e2
   rw [DtsIs.inj q q2]
theorem DtsIs.inj {H:Hp}:∀ {ds:List Dt} {vs:List V} {ds':List Dt},DtsIs H vs ds→DtsIs H vs ds'→ds=ds'
 | [],_,_,.nil,h=>by cases h; rfl
 | d :: ds,_,_,.cons q t,h=>by
  cases h with
  | cons q2 t2=>rw [DtIs.inj q q2,DtsIs.inj t t2]
end
mutual
theorem DtIs.same {H H':Hp} (S:Same H H'):∀ {d:Dt} {v:V},DtIs H v d→DtIs H' v d
 | .int i,_,.int _=>.int i
 | .str x,_,.str _=>.str x
 | .tup ds,_,.tup e q=>.tup (S _ _ e) (DtsIs.same S q)
theorem DtsIs.same {H H':Hp} (S:Same H H'):∀ {ds:List Dt} {vs:List V},DtsIs H vs ds→DtsIs H' vs ds
 | [],_,.nil=>.nil
 | d :: ds,_,.cons q t=>.cons (DtIs.same S q) (DtsIs.same S t)
end
theorem DtsIs.length {H:Hp}:∀ {ds:List Dt} {vs:List V},DtsIs H vs ds→vs.length=ds.length
 | [],_,.nil=>rfl
 | d :: ds,_,.cons q t=>by rw [List.length_cons,List.length_cons,DtsIs.length t]
def itEq (ds ds':List Dt) (j:Nat):Bool:=match ds[j]?,ds'[j]? with
 | some a,some b=>Dt.beq a b
 | _,_=>true
theorem all_itEq:∀ ds ds':List Dt,((List.range (min ds.length ds'.length)).all (itEq ds ds') && ds.length == ds'.length)=Dt.beqs ds ds'
 | [],[]=>rfl
 | [],b :: m=>by simp [Dt.beqs]
 | a :: l,[]=>by simp [Dt.beqs]
 | a :: l,b :: m=>by
  have ih:=all_itEq l m
  rw [List.length_cons,List.length_cons,Nat.succ_min_succ,List.range_succ_eq_map,List.all_cons,List.all_map]
  have e0:itEq (a :: l) (b :: m) 0=Dt.beq a b:=rfl
  have e1:(itEq (a :: l) (b :: m) ∘ Nat.succ)=itEq l m:=by
   funext j
   simp [itEq]
  rw [e0,e1]
  show _=(Dt.beq a b && Dt.beqs l m)
  rw [← ih,Bool.and_assoc]
  simp
section
variable {X:Cx} {pins:List (Addr×Obj)} {σ:L2.St} {H:Hp} {s:Shared}
theorem dp_at:∀ {ds:List Dt} {j:Nat} {d:Dt},ds[j]?=some d→d.dp≤Dt.dps ds
 | [],j,d,e=>by simp at e
 | a :: l,0,d,e=>by
  have e':=Option.some.inj e
  subst e'
  simp only [Dt.dps]
  omega
 | a :: l,j + 1,d,e=>by
  have:=dp_at (ds:=l) (j:=j) (d:=d) (by simpa using e)
  simp only [Dt.dps]
  omega
theorem rel_at:∀ {ds:List Dt} {vs:List V} {us:List Value},DtsIs H vs ds→Vals vs us→∀ {j:Nat} {u:Value},us[j]?=some u→∃ v d,ds[j]?=some d∧DtIs H v d∧RelV v u
 | _,_,_,.nil,.nil,j,u,e=>by simp at e
 | _,_,_,.cons h t,.cons r rs,0,u,e=>by
  have e':=Option.some.inj e
  subst e'
  exact ⟨_,_,rfl,h,r⟩
 | _,_,_,.cons h t,.cons r rs,j + 1,u,e=>by
  obtain ⟨v,d,a,b,c⟩:=rel_at t rs (j:=j) (u:=u) (by simpa using e)
  exact ⟨v,d,by simpa using a,b,c⟩
theorem eqAt_n (I:Inv X pins σ H s) (n:Nat):∀ {d d':Dt} {v v':V} {u u':Value} (A:Around),d.dp≤n→DtIs H v d→RelV v u→DtIs H v' d'→RelV v' u'→A.units + n < cLine→EqAt A s u u' (Dt.beq d d'):=by
 induction n with
 | zero =>
  intro d d' v v' u u' A hn h r h' r' hu
  cases h with
  | int i =>
   obtain ⟨t,rfl⟩:=r
   cases h' with
   | int j=>obtain ⟨t',rfl⟩:=r'; exact EqAt.int_int i t j t'
   | str y=>obtain ⟨t',rfl⟩:=r'; exact EqAt.int_str i t y t'
   | tup e q=>cases r'; obtain ⟨its,_,p,_⟩:=I.tuple (SqT.of e); exact EqAt.int_tuple i t p hu
  | str x =>
   obtain ⟨t,rfl⟩:=r
   cases h' with
   | int j=>obtain ⟨t',rfl⟩:=r'; exact EqAt.str_int x t j t'
   | str y=>obtain ⟨t',rfl⟩:=r'; exact EqAt.str_str x t y t'
   | tup e q=>cases r'; obtain ⟨its,_,p,_⟩:=I.tuple (SqT.of e); exact EqAt.str_tuple x t p hu
  | tup e q=>simp only [Dt.dp] at hn; omega
 | succ n ih =>
  intro d d' v v' u u' A hn h r h' r' hu
  by_cases h0:d.dp≤n
  ·exact ih A h0 h r h' r' (by omega)
  cases h with
  | int i=>simp only [Dt.dp] at h0; omega
  | str x=>simp only [Dt.dp] at h0; omega
  | @tup a xs l e q =>
   cases r
   cases h' with
   | int j=>obtain ⟨t',rfl⟩:=r'; obtain ⟨its,_,p,_⟩:=I.tuple (SqT.of e); exact EqAt.tuple_int j t' p (by omega)
   | str y=>obtain ⟨t',rfl⟩:=r'; obtain ⟨its,_,p,_⟩:=I.tuple (SqT.of e); exact EqAt.tuple_str y t' p (by omega)
   | @tup b ys m e' q' =>
    cases r'
    by_cases hab:a=b
    ·subst hab
     have z:=DtIs.inj (DtIs.tup e q) (DtIs.tup e' q')
     rw [z,Dt.beq_self]
     exact EqAt.same _
    ·obtain ⟨its,rv,p,_⟩:=I.tuple (SqT.of e)
     obtain ⟨its',rv',p',_⟩:=I.tuple (SqT.of e')
     have n1:its.toArray.size=l.length:=by rw [List.size_toArray,← rv.length,q.length]
     have n2:its'.toArray.size=m.length:=by rw [List.size_toArray,← rv'.length,q'.length]
     simp only [Dt.dp] at hn
     have R:=RcAt.tuples (A:=A) (s:=s) (e:=itEq l m) p p' (by omega) (fun j h1 h2=>by
      obtain ⟨v1,d1,a1,b1,c1⟩:=rel_at q rv (j:=j) (u:=its.toArray[j]) (by simp)
      obtain ⟨v2,d2,a2,b2,c2⟩:=rel_at q' rv' (j:=j) (u:=its'.toArray[j]) (by simp)
      have z:itEq l m j=Dt.beq d1 d2:=by unfold itEq; rw [a1,a2]
      rw [z]
      exact ih A.in1 (by have:=dp_at a1; omega) b1 c1 b2 c2 (by show A.units + 1 + _ < _; omega))
     rw [n1,n2,all_itEq] at R
     exact EqAt.of_refs hab R
theorem eqAt_D (I:Inv X pins σ H s) {d d':Dt} {v v':V} {u u':Value} (A:Around) (h:DtIs H v d) (r:RelV v u) (h':DtIs H v' d') (r':RelV v' u') (hu:A.units + d.dp < cLine):EqAt A s u u' (Dt.beq d d'):=eqAt_n I _ A (Nat.le_refl _) h r h' r' hu
theorem eqsAt_D (I:Inv X pins σ H s) {ds ds':List Dt} {vs vs':List V} {us us':List Value} (A:Around) (q:DtsIs H vs ds) (rv:Vals vs us) (q':DtsIs H vs' ds') (rv':Vals vs' us') (hu:A.units + Dt.dps ds < cLine)
  (j:Nat) (u u':Value) (e:us[j]?=some u) (e':us'[j]?=some u'):EqAt A s u u' (itEq ds ds' j):=by
 obtain ⟨v1,d1,a1,b1,c1⟩:=rel_at q rv e
 obtain ⟨v2,d2,a2,b2,c2⟩:=rel_at q' rv' e'
 have z:itEq ds ds' j=Dt.beq d1 d2:=by unfold itEq; rw [a1,a2]
 rw [z]
 exact eqAt_n I _ A (dp_at a1) b1 c1 b2 c2 hu
theorem op_neD {k:Nat} (hr:Room k X.A):OpR X (compareOp .NotEq) (fun x y H Q=>∃ d d',DtIs H x d∧DtIs H y d'∧d.dp≤60∧(∃ l,d=.tup l)∧(∃ l,d'=.tup l)∧Q (.bl (!Dt.beq d d')) H):=by
 intro pins s σ H x y v u Q I rx ry h
 obtain ⟨d,d',hd,hd',h60,⟨l,rfl⟩,⟨m,rfl⟩,q⟩:=h
 have hu:=hr.units
 cases hd with
 | @tup a xs _ e h1 =>
  cases hd' with
  | @tup b ys _ e' h2 =>
   cases rx
   cases ry
   obtain ⟨its,rv,p,_⟩:=I.tuple (SqT.of e)
   obtain ⟨its',rv',p',_⟩:=I.tuple (SqT.of e')
   have n1:its.toArray.size=l.length:=by rw [List.size_toArray,← rv.length,h1.length]
   have n2:its'.toArray.size=m.length:=by rw [List.size_toArray,← rv'.length,h2.length]
   have hd:Dt.dps l + 1≤60:=by simpa only [Dt.dp] using h60
   have R:=RcNeAt.tuples (A:=X.A) (s:=s) (e:=itEq l m) p p' (by omega) (fun j j1 j2=>eqsAt_D I X.A.in1 h1 rv h2 rv' (by show X.A.units + 1 + _ < _; omega) j _ _ (by simp) (by simp))
   rw [n1,n2,all_itEq] at R
   exact R X.prog X.w X.xe _ ⟨.bl _,H,I,rfl,q⟩
end
end BF
namespace BF
open PySem
def Trc (B:Heap) (e:Addr) (fl:Value) (vs:Array Value) (h:Heap):Prop :=
 vs[1]?=some .none∨∃ T oT ts,vs[1]?=some (.ref T)∧B.get? T=none∧T≠e∧h.get? T=some oT∧oT.data=.fields ts∧ts[3]?=some fl
structure Air (B:Heap) (l:List Env) (e:Addr) (cls fl:Value) (h:Heap):Prop where
 stays:B.StaysIn h
 new:B.get? e=none
 fr:h.FunFrames B l
 obj:∃ oe vs,h.get? e=some oe∧oe.cls=cls∧oe.dict=none∧oe.data=.fields vs∧2 < vs.size∧vs[2]?=some .none∧Trc B e fl vs h
theorem mapFields_dict (f:Array Value→Array Value) (o:Obj):(Obj.mapFields f o).dict=o.dict:=by
 obtain ⟨c,d,dt,sl⟩:=o
 cases dt <;> rfl
section
variable {M:Model} {A:Around} {E:Value→Shared→Prop} {s:Shared}
theorem air_entry {B:Heap} {env:Env} {outer:List Env} {L e:Addr} {cls head:Value} {had:Bool} {oe:Obj} {vs:Array Value} {Q:Unit→Shared→Prop}
  (hfr:A.frames=some (env :: outer)) (hf:env.frame=some L) (hB:B.StaysIn s.heap) (hn:B.get? e=none) (hl:s.heap.FunFrames B (env :: outer))
  (he:s.heap.get? e=some oe) (hc:oe.cls=cls) (hdi:oe.dict=none) (hd:oe.data=.fields vs) (hz:2 < vs.size) (h2:vs[2]?=some .none)
  (hQ:∀ h',Air B (env :: outer) e cls (rawInt L) h'→s.heap.UpToSlots h'→Q () { s with heap:=h' }) :
  wpAny M A (do let a ← frameOf env; let pl ← entryPlaceOf L had; let b ← EntryCells.newEntry head a .none (rawInt L) .none pl; setField (.ref e) 1 b) Q E s:=by
 have hne:e ∉ (env :: outer).filterMap (·.frame):=fun z=>by
  obtain ⟨_,o,ho,k⟩:=hl.mem z
  rw [he] at ho
  cases ho
  exact k vs hd
 refine wpAny_bind (wpAny_frameOf_fun hfr hl hf fun h1 so=>?_)
 refine wpAny_bind (wpAny_entryPlaceOf fun pl ip=>?_)
 unfold EntryCells.newEntry newFields
 refine wpAny_bind (wpAny_newObj_type ?_ (ip.sizeOk5 _ _ _ _ _))
 have e1:h1.get? e=some oe:=(so.2.1 e hne).trans he
 have B1:B.StaysIn h1:=fun b o q=>(so.2.1 b fun z=>by rw [(hl.mem z).1] at q; cases q).trans (hB b o q)
 generalize htb:({ cls:=.type "traceback",dict:=none,data:=.fields ([head,.ref L,.none,rawInt L,.none] ++ (if pl.isEmpty then List.replicate 6 Value.none else pl)).toArray }:Obj)=tb
 have tbd:tb.data=.fields ([head,.ref L,.none,rawInt L,.none] ++ (if pl.isEmpty then List.replicate 6 Value.none else pl)).toArray:=by rw [← htb]
 have e2:(h1.push tb).get? e=some oe:=Heap.get?_push_of_some _ e1
 refine wpAny_setField e2 hd (by omega) (hQ _ ?_ ?_)
 ·have ne:h1.objs.size≠e:=Nat.ne_of_gt (Heap.lt_size e1)
  have d3:=Obj.data_mapFields hd (·.setIfInBounds 1 (Value.ref h1.objs.size))
  have e3:=Heap.get?_update_self (Obj.mapFields (·.setIfInBounds 1 (Value.ref h1.objs.size))) e2 (Obj.isFreed_of_fields d3)
  have other:∀ b o,b≠e→h1.get? b=some o→((h1.push tb).update e (Obj.mapFields (·.setIfInBounds 1 (Value.ref h1.objs.size)))).get? b=some o:=fun b o hb q=>by
   rw [Heap.get?_update_other _ _ (Ne.symm hb)]
   exact Heap.get?_push_of_some _ q
  refine ⟨fun b o q=>other b o (fun z=>by rw [z,hn] at q; cases q) (B1 b o q),hn,hl.of_keeps fun b o q k=>?_,_,_,e3,(Obj.cls_mapFields _ _).trans hc,(mapFields_dict _ _).trans hdi,d3,by simpa using hz,?_,.inr ⟨h1.objs.size,tb,_,?_,B1.fresh,ne,?_,tbd,?_⟩⟩
  ·obtain ⟨sl,q1⟩:=so.2.2 b o q
   exact ⟨_,other b _ (fun z=>by rw [z,he] at q; cases q; exact k vs hd) q1,rfl⟩
  ·rw [Array.getElem?_setIfInBounds_ne (by decide)]; exact h2
  ·simp [show 1 < vs.size by omega]
  ·rw [Heap.get?_update_other _ _ (Ne.symm ne)]
   exact Heap.get?_push_size _ (by rw [← htb]; rfl)
  ·simp
 ·intro b o q k
  obtain ⟨sl,q1⟩:=so.2.2 b o q
  refine ⟨sl,?_⟩
  rw [Heap.get?_update_other _ _ (fun z=>by rw [← z,he] at q; cases q; exact k vs hd)]
  exact Heap.get?_push_of_some _ q1
theorem air_note {B:Heap} {env:Env} {outer:List Env} {L e:Addr} {cls:Value} {Q:Unit→Shared→Prop} (hfr:A.frames=some (env :: outer)) (hf:env.frame=some L)
  (a:Air B (env :: outer) e cls .none s.heap) (hQ:∀ h',Air B (env :: outer) e cls (rawInt L) h'→s.heap.UpToSlots h'→Q () { s with heap:=h' }):wpAny M A (noteFrame (.ref e) env) Q E s:=by
 obtain ⟨hB,hn,hl,oe,vs,he,hc,hdi,hd,hz,h2,tr⟩:=a
 unfold noteFrame
 simp only [hf]
 rcases tr with h1 | ⟨T,oT,ts,h1,nT,neT,hT,dT,h3⟩
 ·refine wpAny_bind (wpAny_field he hd h1 ?_)
  rw [if_neg (by decide)]
  exact air_entry hfr hf hB hn hl he hc hdi hd hz h2 hQ
 ·refine wpAny_bind (wpAny_field he hd h1 ?_)
  rw [if_pos (by simp:(Value.ref T != Value.none)=true)]
  refine wpAny_bind (wpAny_field hT dT h3 ?_)
  rw [if_neg (by simp [rawInt]:¬ ((Value.none == rawInt L)=true))]
  have zT:3 < ts.size:=(Array.getElem?_eq_some_iff.mp h3).1
  refine wpAny_bind (wpAny_setField hT dT zT ?_)
  have other:∀ b,b≠T→(s.heap.update T (Obj.mapFields (·.setIfInBounds 3 Value.none))).get? b=s.heap.get? b:=fun b hb=>Heap.get?_update_other _ _ (Ne.symm hb)
  have rcd:∀ b o,s.heap.get? b=some o→(∀ ws,o.data≠.fields ws)→b≠T:=fun b o q k z=>by
   rw [z,hT] at q
   cases q
   exact k ts dT
  refine air_entry (s:={ s with heap:=s.heap.update T (Obj.mapFields (·.setIfInBounds 3 Value.none)) }) hfr hf (fun b o q=>(other b fun z=>by rw [z,nT] at q; cases q).trans (hB b o q)) hn
   (hl.of_keeps fun b o q k=>⟨o,(other b (rcd b o q k)).trans q,rfl⟩) ((other e (Ne.symm neT)).trans he) hc hdi hd hz h2 fun h' x1 x2=>hQ h' x1 fun b o q k=>x2 b o ((other b (rcd b o q k)).trans q) k
theorem air_land {B:Heap} {l:List Env} {e:Addr} {cls fl:Value} {Q:Unit→Shared→Prop} (a:Air B l e cls fl s.heap)
  (hQ:∀ h',Air B l e cls .none h'→s.heap.UpToSlots h'→Q () { s with heap:=h' }):wpAny M A (setFlight (.ref e) none) Q E s:=by
 obtain ⟨hB,hn,hl,oe,vs,he,hc,hdi,hd,hz,h2,tr⟩:=a
 unfold setFlight
 rcases tr with h1 | ⟨T,oT,ts,h1,nT,neT,hT,dT,h3⟩
 ·refine wpAny_bind (wpAny_field he hd h1 ?_)
  rw [if_neg (by decide)]
  exact wpAny_pure (hQ s.heap ⟨hB,hn,hl,oe,vs,he,hc,hdi,hd,hz,h2,.inl h1⟩ (.refl _))
 ·refine wpAny_bind (wpAny_field he hd h1 ?_)
  rw [if_pos (by simp:(Value.ref T != Value.none)=true)]
  have zT:3 < ts.size:=(Array.getElem?_eq_some_iff.mp h3).1
  have other:∀ (v:Value) b,b≠T→(s.heap.update T (Obj.mapFields (·.setIfInBounds 3 v))).get? b=s.heap.get? b:=fun v b hb=>Heap.get?_update_other _ _ (Ne.symm hb)
  have rcd:∀ b o,s.heap.get? b=some o→(∀ ws,o.data≠.fields ws)→b≠T:=fun b o q k z=>by
   rw [z,hT] at q
   cases q
   exact k ts dT
  refine wpAny_setField hT dT zT (hQ _ ⟨fun b o q=>(other _ b fun z=>by rw [z,nT] at q; cases q).trans (hB b o q),hn,hl.of_keeps fun b o q k=>⟨o,(other _ b (rcd b o q k)).trans q,rfl⟩,
   oe,vs,(other _ e (Ne.symm neT)).trans he,hc,hdi,hd,hz,h2,.inr ⟨T,_,_,h1,nT,neT,Heap.get?_update_self _ hT (Obj.isFreed_of_fields (Obj.data_mapFields dT _)),Obj.data_mapFields dT _,by simp [zT]⟩⟩
   fun b o q k=>⟨o.slots,(other _ b (rcd b o q k)).trans q⟩)
theorem air_leave {B:Heap} {env:Env} {outer:List Env} {L e:Addr} {cls:Value} {Q:Unit→Shared→Prop} (hfr:A.frames=some (env :: outer)) (hf:env.frame=some L)
  (a:Air B (env :: outer) e cls .none s.heap) (hQ:∀ h',Air B outer e cls .none h'→s.heap.UpToSlots h'→Q () { s with heap:=h' }):wpAny M A (leaving env (.ref e)) Q E s:=by
 unfold leaving
 refine wpAny_bind (air_note hfr hf a fun h1 a1 u1=>?_)
 refine air_land a1 fun h2 a2 u2=>hQ h2 ⟨a2.stays,a2.new,a2.fr.2.2,a2.obj⟩ (u1.trans u2)
theorem air_made {B h h':Heap} {l:List Env} {e:Addr} {cls:Value} {args:List Value} (hB:B.StaysIn h) (hl:h.FunFrames B l) (hx:Heap.MadeExcOf h h' e cls args):Air B l e cls .none h':=by
 obtain ⟨t,he,_,_⟩:=hx.there
 refine ⟨fun b o q=>hx.keeps b o (hB b o q),?_,hl.of_keeps fun b o q _=>⟨o,hx.keeps b o q,rfl⟩,_,_,he,rfl,rfl,rfl,by simp,by simp,.inl (by simp)⟩
 cases q:B.get? e with
 | none=>rfl
 | some o =>
  have:=hB e o q
  rw [hx.new] at this
  cases this
end
end BF
namespace BF
open PySem PySem.Spec PyProof.Rows L2
structure Flew (P:Program) (w:World) (l:List Env) (H H':Hp) (x:Addr) (cls:Value) (h h' B:Heap):Prop where
 air:Air B l x cls .none h'
 hok:HOk P w H' B
 keep:∀ b o,h.get? b=some o→H b=none→b ∉ frs l→B.get? b=some o
 there:∀ b o,h.get? b=some o→b ∉ frs l→∃ o',B.get? b=some o'
 slot:∀ b o,h.get? b=some o→H b=none→b∈frs l→∃ sl,h'.get? b=some { o with slots:=sl }
 free:∀ b o,h.get? b=some o→H b=none→H' b=none
 tups:∀ b xs,H b=some (.tup xs)→H' b=some (.tup xs)
 frzs:∀ b o u,H b=some (.frz o u)→H' b=some (.frz o u)
 tbls:∀ b ps,H b=some (.tbl ps)→∃ more,H' b=some (.tbl (ps ++ more))
def CXE (P:Program) (w:World):CXT:=fun outer H s E e s'=>∃ x cls H' B,e=.ref x∧s'.os=s.os∧AllBare s'.gens∧Flew P w outer H H' x cls s.heap s'.heap B∧E cls none H'
theorem Flew.un {P:Program} {w:World} {l:List Env} {H H':Hp} {x:Addr} {cls fl:Value} {h h' h6 B:Heap} (F:Flew P w l H H' x cls h h' B) (frf:∀ b∈frs l,H b=none) (a6:Air B l x cls fl h6) (u:h'.UpToSlots h6) :
  Un (frs l) [] H H' h h6:=by
 have sl:∀ b o,h.get? b=some o→H b=none→b∈frs l→∃ sl,h6.get? b=some { o with slots:=sl }:=fun b o q n hb=>by
  obtain ⟨s1,q1⟩:=F.slot b o q n hb
  obtain ⟨_,o',q2,k⟩:=F.air.fr.mem hb
  rw [q1] at q2
  cases q2
  obtain ⟨s2,q3⟩:=u b _ q1 k
  exact ⟨s2,q3⟩
 refine ⟨fun b o q n hb _=>a6.stays b o (F.keep b o q n hb),fun b o q n hb _=>sl b o q n hb,fun b o q n _=>F.free b o q n,fun b o q _=>?_,F.tups,F.frzs,F.tbls⟩
 by_cases hb:b∈frs l
 ·obtain ⟨s2,q3⟩:=sl b o q (frf b hb) hb
  exact ⟨_,q3⟩
 ·obtain ⟨o',q3⟩:=F.there b o q hb
  exact ⟨o',a6.stays b o' q3⟩
theorem Flew.ok {P:Program} {w:World} {l:List Env} {H H':Hp} {x:Addr} {cls fl:Value} {h h' h6 B:Heap} (F:Flew P w l H H' x cls h h' B) (a6:Air B l x cls fl h6):HOk P w H' h6:=F.hok.kept a6.stays
theorem exc_of {K:PySem.W.Frag} {C:Addr} {bmB:List Value} {newId:String} (q:PySem.W.excIn K C bmB newId=true) {h:Heap} (X:K.In h) :
  ∃ nm qn N bs bm hdct sn sub ab col dd k0 k1 k2 k3 k5 mN,h.get? C=some (excClassObj nm qn C N bs bm hdct sn sub ab col dd k0 k1 k2 k3 k5 newId)∧h.Ns N mN∧mN "__init__"=none∧OwnTail h bmB bm:=by
 unfold PySem.W.excIn at q
 split at q
 ·rename_i dd cd sl ho
  split at q
  ·rename_i C' bm j0 j1 j2 j3 n j5 hm hs
   simp only [Bool.and_eq_true,beq_iff_eq,Bool.not_eq_true'] at q
   obtain ⟨⟨⟨⟨⟨rfl,rfl⟩,hdel⟩,ht⟩,hk⟩,hni⟩:=q
   obtain ⟨nm,bs,mro,ns,qn,hd,sn,sub,ab,col,del⟩:=cd
   dsimp only at hm hdel hk hni
   subst hm hdel
   obtain ⟨l⟩:=sl
   simp only at hs
   subst hs
   exact ⟨nm,qn,ns,bs,bm,hd,sn,sub,ab,col,dd,j0,j1,j2,j3,j5,_,X _ _ ho,.of_isNs (PySem.W.isNs_of_in X hk),PySem.W.nsMap_none_of_in X hk hni,PySem.W.tail_of_in X ht⟩
  ·cases q
 ·cases q
section
variable {P:Program} {w:World} {K:PySem.W.Frag} {mg:Str→Option Value} {base:Heap} {N:List Str} {qual:Str} {scope:Scope} {f:Addr} {cdv:Value} {A:Around} {outer:List Env} {s:Shared} {H:Hp} {E:XK}
theorem leave_made {pins:List (Addr×Obj)} {σ:L2.St} {H2:Hp} {s2:Shared} {h':Heap} {x:Addr} {cls:Value} {args:List Value}
  (I:Inv (cxOf (CXE P w) P w K mg base N qual scope f cdv A outer s H E) pins σ H2 s2) (hx:Heap.MadeExcOf s2.heap h' x cls args) (hE:E cls none H2) :
  (cxOf (CXE P w) P w K mg base N qual scope f cdv A outer s H E).xe (.ref x) { s2 with heap:=h' }:=by
 generalize hY:cxOf (CXE P w) P w K mg base N qual scope f cdv A outer s H E=Y at I
 have e1:Y.stack=envOfC qual scope s.heap.objs.size f cdv :: outer:=by rw [← hY]; rfl
 have e2:Y.fs=frs outer:=by rw [← hY]; rfl
 have e3:Y.ex=[]:=by rw [← hY]; rfl
 have e4:Y.s₀=s:=by rw [← hY]; rfl
 have e5:Y.H₀=H:=by rw [← hY]; rfl
 have e6:Y.env=envOfC qual scope s.heap.objs.size f cdv:=by rw [← hY]; rfl
 have e7:Y.prog=P:=by rw [← hY]; rfl
 have e8:Y.w=w:=by rw [← hY]; rfl
 have fr:=I.stack
 have sf:=I.stkFree
 have hb:=I.base
 have hfr:=I.ok.frames
 have ab:=I.ok.above
 have os:=I.os
 have hk:=I.hok
 rw [e1] at fr sf hfr
 rw [e2,e3,e4,e5] at hb
 rw [e4] at ab os
 rw [e6] at ab
 rw [e7,e8] at hk
 have hin:∀ b,b∈frs (envOfC qual scope s.heap.objs.size f cdv :: outer)→H2 b=none:=sf
 have inB:∀ b o,s2.heap.get? b=some o→b ∉ frs (envOfC qual scope s.heap.objs.size f cdv :: outer)→(PySem.W.hideAll s2.heap (frs (envOfC qual scope s.heap.objs.size f cdv :: outer))).get? b=some o:=fun b o q n=>PySem.W.hideAll_get _ q n
 have old:∀ b o,s.heap.get? b=some o→b ∉ frs outer→b ∉ frs (envOfC qual scope s.heap.objs.size f cdv :: outer):=fun b o q n z=>by
  rcases List.mem_cons.mp (show b∈s.heap.objs.size :: frs outer from z) with z | z
  ·exact absurd (Heap.lt_size q) (by rw [z]; exact Nat.lt_irrefl _)
  ·exact n z
 have a0:=air_made (fun b o q=>PySem.W.of_hideAll _ q) (PySem.W.funFrames_hide fr fun env he a ha=>List.mem_filterMap.mpr ⟨env,he,ha⟩) hx
 subst hY
 refine air_leave (s:={ s2 with heap:=h' }) (L:=s.heap.objs.size) hfr rfl a0 fun h3 a3 u3=>?_
 refine ⟨x,cls,H2,_,rfl,os,I.bare,⟨a3,fun b o q=>?_,fun b o q n hn=>?_,fun b o q hn=>?_,fun b o q n hn=>?_,fun b o q n=>hb.free b o q n (by simp),hb.tups,hb.frzs,hb.tbls⟩,hE⟩
 ·refine (hk b o q).stay (fun c u hc qc=>inB c u qc fun z=>?_) (fun _ z=>z) fun _ _ z=>z
  have:=hin c z
  rcases hc with e | e
  ·rw [e] at this; rw [this] at q; cases q
  ·rw [this] at e; cases e
 ·exact inB b o (hb.keep b o q n hn (by simp)) (old b o q hn)
 ·obtain ⟨o',q'⟩:=hb.there b o q (by simp)
  exact ⟨o',inB b o' q' (old b o q hn)⟩
 ·obtain ⟨sl,q1⟩:=hb.slot b o q n hn (by simp)
  obtain ⟨_,o',q2,k⟩:=fr.mem (List.mem_cons_of_mem _ hn:b∈s.heap.objs.size :: frs outer)
  rw [q1] at q2
  cases q2
  obtain ⟨sl2,q3⟩:=u3 b _ (hx.keeps b _ q1) k
  exact ⟨sl2,q3⟩
theorem ps_raise {x:Str} {np cpos pos:Pos} {a:Expr} {ta:TE} {C:Addr} (hg:Gl (cxOf (CXE P w) P w K mg base N qual scope f cdv A outer s H E) x) (hm:mg x=some (.ref C)) (hd:A.handled=none)
  (q:PySem.W.excIn K C [.type "ValueError",.type "Exception",.type "BaseException",.type "object"] "ValueError.__new__"=true)
  (ha:PE (cxOf (CXE P w) P w K mg base N qual scope f cdv A outer s H E) a ta)
  (hs:starEach [a] (cxOf (CXE P w) P w K mg base N qual scope f cdv A outer s H E).env=[(false,eval a (cxOf (CXE P w) P w K mg base N qual scope f cdv A outer s H E).env)]:=by rfl) (hdb:(x == ("__debug__":Str))=false:=by decide) :
  PS (cxOf (CXE P w) P w K mg base N qual scope f cdv A outer s H E) (.Raise (some (.Call (.Name x np) [a] [] cpos)) none pos) (fun D σ H1=>ta σ H1 fun v H2=>E (.ref C) none H2):=by
 intro pins s1 σ H1 D I h
 obtain ⟨nm,qn,N',bs,bm,hdct,sn,sub,ab,col,dd,k0,k1,k2,k3,k5,mN,hC,hN,hni,T⟩:=exc_of q I.ok.mod.kin
 refine wpAny_Raise_call_subT (C:=C) (nm:=nm) (q:=qn) (N:=N') (bs:=bs) (bm:=bm) (hdct:=hdct) (sn:=sn) (sub:=sub) (ab:=ab) (col:=col) (dd:=dd) (k0:=k0) (k1:=k1) (k2:=k2) (k3:=k3) (k5:=k5)
  PySem.F.excBase_ValueError (mN:=mN) (T.hasType PySem.F.excBase_ValueError.hasBase) hd (by rw [hs]; rfl) hni (ld_glob I hg hm ⟨rfl,?_⟩ hdb)
 rw [hs]
 refine Calls.evalArgs_plain (Calls.spliced_cons (thn (ha pins s1 σ H1 _ I h) fun u s2 ⟨v,H2,I2,r2,q2⟩=>Calls.spliced_nil ⟨rfl,szr rfl,I2.bk _ _ hC,hN.keeps I2.bk,T.keeps I2.bk,fun h' x hx=>?_⟩))
 exact leave_made I2 hx q2
end
theorem ObjOk.is {P:Program} {w:World} {H:Hp} {h:Heap} {a:Addr} {o:HO} (x:ObjOk P w H h a o):∃ u,h.get? a=some u:=by
 cases o with
 | lst xs=>obtain ⟨_,_,_,_,e⟩:=x; exact ⟨_,e⟩
 | tup xs=>obtain ⟨_,_,_,ob,e,_⟩:=x; exact ⟨_,e⟩
 | dK kvs=>obtain ⟨_,_,_,_,o,_,_,e,_⟩:=x; exact ⟨_,e⟩
 | dT kvs=>obtain ⟨_,_,_,_,o,_,_,e,_⟩:=x; exact ⟨_,e⟩
 | set S n=>obtain ⟨o,_,_,_,e,_⟩:=x; exact ⟨_,e⟩
 | ins C dx fs=>obtain ⟨_,_,_,e,_⟩:=x; exact ⟨_,e⟩
 | own y=>exact x
 | xd fs=>obtain ⟨_,⟨_,_,_,e,_⟩,_⟩:=x; exact ⟨_,e⟩
 | rng lo hi=>obtain ⟨_,_,_,e⟩:=x; exact ⟨_,e⟩
 | frz ob u=>exact ⟨_,x.1⟩
 | tbl ps=>exact ⟨_,show h.get? a=some _ from x⟩
 | met f y=>exact ⟨_,show h.get? a=some _ from x⟩
 | ext φ=>exact x.2.1
def ExcO (cls:Value) (o:Obj):Prop:=o.cls=cls∧o.dict=none∧∃ vs,o.data=.fields vs∧vs[2]?=some .none
abbrev frzX (o:Obj):HO:=.frz o (.ext fun _=>True)
def TryE (X:Cx) (W:L2.St→Value→Hp→Prop) (e:Value) (s':Shared):Prop :=
 ∃ pins σ H1 s1 H' x cls B,e=.ref x∧Inv X pins σ H1 s1∧s'.os=s1.os∧AllBare s'.gens∧Flew X.prog X.w X.stack H1 H' x cls s1.heap s'.heap B∧W σ cls H'
theorem pe_callX {X:Cx} {W:L2.St→Value→Hp→Prop} {k:Nat} {f:Addr} {fd:FuncData} {ps:List Str} {sp:Sp} {x:Str} {p pos:Pos} {e:Expr} {es:List Expr} {t:TA}
  (F:FnOk X.prog X.w X.K X.mg X.base (CXE X.prog X.w) k f fd ps sp) (hr:Room k X.A) (hg:Gl X x) (hm:X.mg x=some (.ref f)) (hk:PySem.W.keepIn X.K (.ref f)=true) (hb:Binds X.K fd ps [])
  (ha:PA (X.wish (TryE X W)) (e :: es) t) (hdb:(x == ("__debug__":Str))=false:=by decide) (he:starEach (e :: es) X.env=(false,eval e X.env) :: starEach es X.env:=by rfl) (hpl:(backTo pos (starEach es X.env)).any (·.1)=false:=by rfl) :
  PE (X.wish (TryE X W)) (.Call (.Name x p) (e :: es) [] pos) (fun σ H Q=>t σ H fun vs H1=>sp vs H1 Q fun cls _ H'=>W σ cls H'):=by
 intro pins s σ H Q I h
 refine wpAny_Call_Name_kw (ld_glob I hg hm ?_ hdb)
 refine PySem.W.callWith_K (h₀:=X.base) I.ok.mod.kin hk (thn (ha pos pins s σ H _ I h) fun us s1 ⟨vs,H1,I1,r,q⟩=>⟨I1.kIn,?_⟩) he hpl
 have hl:us.length=ps.length:=by rw [← r.length]; exact F.len _ _ _ _ q
 have bd:=hb s1 us I1.kIn (by rw [List.append_nil]; exact hl)
 rw [List.append_nil] at bd
 refine wpAny_call (codeAny_mono (F.run X.A X.stack s1 H1 ⟨us,[]⟩ us vs Q _ hr I1.env0 bd r q) fun r' s' hq=>?_)
 cases r' with
 | error e =>
  obtain ⟨x,cls,H',B,rfl,os,bare,fl,hw⟩:=hq
  exact ⟨pins,σ,H1,s1,H',x,cls,B,rfl,I1.unwish,os,bare,fl,hw⟩
 | ok fl =>
  cases fl with
  | ret u=>exact I1.after hq
  | next=>exact False.elim hq
  | brk=>exact False.elim hq
  | cont=>exact False.elim hq
abbrev suiteCx (X:Cx) (x:Addr):Cx:={ X with A:=X.A.mark (some (.ref x)),calm:=false }
section
variable {X:Cx} {pins:List (Addr×Obj)} {σ:L2.St} {H H':Hp} {s:Shared}
theorem Inv.marked (I:Inv X pins σ H s) (x:Addr):Inv (suiteCx X x) pins σ H s :=
 ⟨⟨I.ok.mod,I.ok.kind,I.ok.glob,I.ok.blt,I.ok.above,I.ok.inj,I.ok.has,I.ok.cab,(fun z=>absurd z Bool.false_ne_true),I.ok.frames,I.ok.stk,I.ok.exf,I.ok.bs,I.ok.bsz,I.ok.noex,I.ok.exfs,I.ok.funs,I.ok.frf⟩,I.os,I.bare,I.base,I.loc,I.cell,I.free,I.freeC,I.pin,I.hok,I.len⟩
theorem Inv.unmarked {x:Addr} (I:Inv (suiteCx X x) pins σ H s) (ok:X.Ok):Inv X pins σ H s:=⟨ok,I.os,I.bare,I.base,I.loc,I.cell,I.free,I.freeC,I.pin,I.hok,I.len⟩
theorem Cx.Ok.repin (ok:X.Ok) (pn:List (Addr×Obj)):({ X with pn:=pn }:Cx).Ok :=
 ⟨ok.mod,ok.kind,ok.glob,ok.blt,ok.above,ok.inj,ok.has,ok.cab,ok.hd,ok.frames,ok.stk,ok.exf,ok.bs,ok.bsz,ok.noex,ok.exfs,ok.funs,ok.frf⟩
theorem Inv.repin (I:Inv X pins σ H s):Inv { X with pn:=X.pn ++ pins } [] σ H s :=
 ⟨Cx.Ok.repin I.ok _,I.os,I.bare,I.base,I.loc,I.cell,I.free,I.freeC,fun p hp=>I.pin p (by rw [List.append_nil] at hp; exact hp),I.hok,I.len⟩
theorem Inv.unpin {pl:List (Addr×Obj)} (ok:X.Ok) (I:Inv { X with pn:=X.pn ++ pins } pl σ H s):Inv X pins σ H s :=
 ⟨ok,I.os,I.bare,I.base,I.loc,I.cell,I.free,I.freeC,fun p hp=>I.pin p (List.mem_append_left _ hp),I.hok,I.len⟩
theorem Un.more {fs ex:List Addr} {h h':Heap} {x:Addr} {o:HO} (u:Un fs ex H H' h h') (hx:h.get? x=none) (hn:H' x=none):Un fs ex H (upd H' x o) h h':=by
 refine ⟨u.keep,u.slot,fun b ob q n hb=>?_,u.there,fun b xs q=>?_,fun b ob v q=>?_,fun b ps q=>?_⟩
 ·rw [upd_ne (fun z=>by rw [z,hx] at q; cases q)]; exact u.free b ob q n hb
 ·have:=u.tups b xs q
  rw [upd_ne (ne_of_none this hn)]; exact this
 ·have:=u.frzs b ob v q
  rw [upd_ne (ne_of_none this hn)]; exact this
 ·obtain ⟨more,e⟩:=u.tbls b ps q
  exact ⟨more,by rw [upd_ne (ne_of_none e hn)]; exact e⟩
theorem HOk.more {P:Program} {w:World} {h:Heap} {x:Addr} {o:HO} (k:HOk P w H h) (hn:H x=none) (new:ObjOk P w (upd H x o) h x o):HOk P w (upd H x o) h:=fun b u e=>by
 by_cases hb:b=x
 ·subst hb
  rw [upd_same] at e
  cases e
  exact new
 ·rw [upd_ne hb] at e
  exact (k b u e).stay (fun _ _ _ q=>q) (fun c z=>by rw [upd_ne (ne_of_none z hn)]; exact z) fun c xs z=>by rw [upd_ne (ne_of_none z hn)]; exact z
theorem unbind_ok {M:Model} {A:Around} {E:Value→Shared→Prop} {i:Nat} {n:Str} {pos:Pos} {Q:Unit→Shared→Prop} (I:Inv X pins σ H s) (hN:X.N.Nodup) (hi:X.N[i]?=some n) (hk:X.env.scope.names.lookup n=some .local)
  (h:∀ s',Inv X pins (σ.set i none) H s'→Q () s'):wpAny M A (do bindName X.env n .none; unbindBehindTheSuite X.env n pos) Q E s:=by
 obtain ⟨m,hn,hl⟩:=id I.loc
 have hcls:(X.env.scope.kind == .class || (X.env.scope.kind == .module && X.env.locals != X.env.globals))=false:=by rw [I.ok.kind]; rfl
 have hiσ:i < σ.length:=by rw [I.len]; exact (List.getElem?_eq_some_iff.mp hi).1
 obtain ⟨oL,_,_,hoL,_⟩:=id hn
 refine wpAny_nameGoes_keeps hk hn hcls fun h' v hn' hs=>?_
 have up:∀ b o,X.s₀.heap.get? b=some o→b≠X.env.locals:=fun b o e=>Nat.ne_of_lt (Nat.lt_of_lt_of_le (Heap.lt_size e) I.ok.above)
 refine h _ ⟨I.ok,I.os,I.bare,⟨fun b o e z hb hx=>?_,fun b o e z hb hx=>?_,I.base.free,fun b o e hx=>?_,I.base.tups,I.base.frzs,I.base.tbls⟩,⟨_,hn',fun j y v' e1 e2 e3=>?_⟩,fun y c e=>?_,I.free,I.freeC,fun p hp=>?_,fun b ob e=>?_,by simpa using I.len⟩
 ·exact (hs.2 b (up b o e)).trans (I.base.keep b o e z hb hx)
 ·obtain ⟨sl,e1⟩:=I.base.slot b o e z hb hx
  exact ⟨sl,(hs.2 b (up b o e)).trans e1⟩
 ·obtain ⟨o',e1⟩:=I.base.there b o e hx
  exact ⟨o',(hs.2 b (up b o e)).trans e1⟩
 ·by_cases hj:j=i
  ·subst hj
   rw [List.getElem?_set_self hiσ] at e2
   cases e2
  ·rw [List.getElem?_set_ne (Ne.symm hj)] at e2
   obtain ⟨u',r',q⟩:=hl j y v' e1 e2 e3
   refine ⟨u',r',?_⟩
   rcases q with ⟨k,e⟩ | ⟨k,c,e,z⟩
   ·refine .inl ⟨k,?_⟩
    have:y≠n:=fun e=>hj (nodup_ix hN e1 (e ▸ hi))
    simp [this,e]
   ·exact .inr ⟨k,c,e,z.sameBut hs (I.cne y c e)⟩
 ·obtain ⟨w',z⟩:=I.cell y c e
  exact ⟨w',z.sameBut hs (I.cne y c e)⟩
 ·obtain ⟨e,z,ne,nf,d⟩:=I.pin p hp
  exact ⟨(hs.2 p.1 ne).trans e,z,ne,nf,d⟩
 ·refine (I.hok b ob e).stay (fun c u hc q=>(hs.2 c ?_).trans q) (fun _ q=>q) fun _ _ q=>q
  rintro rfl
  rcases hc with rfl | hc
  ·rw [I.free] at e; cases e
  ·rw [I.free] at hc; cases hc
end
def tTry (K:PySem.W.Frag) (Cc:Addr) (i:Nat) (tb:(L2.St→Value→Hp→Prop)→TS) (ts:Addr→TS):TS:=fun D σ H =>
 tb (fun σ' cls H'=>PySem.W.exmOne K cls (.ref Cc)=some true∧∀ x o,H' x=none→ExcO cls o →
  ts x { nx:=fun σ2 H2=>D.nx (σ2.set i none) H2,bk:=fun σ2 H2=>D.bk (σ2.set i none) H2,ct:=fun σ2 H2=>D.ct (σ2.set i none) H2,rt:=D.rt } (σ'.set i (some (.ref x))) (upd H' x (frzX o))) D σ H
theorem ps_try {X:Cx} {body suite:List Stmt} {b₀:Stmt} {c n:Str} {np hpos pos:Pos} {i:Nat} {Cc:Addr} {tb:(L2.St→Value→Hp→Prop)→TS} {ts:Addr→TS} (hstk:X.stack=X.env :: X.outer) (hfr:X.env.frame=some X.env.locals)
  (hN:X.N.Nodup) (hi:X.N[i]?=some n) (hn:X.env.scope.names.lookup n=some .local) (hg:Gl X c) (hm:X.mg c=some (.ref Cc)) (hxe:∀ e s',¬ X.xe e s')
  (hb:∀ pn W,PSs (({ X with pn:=pn }:Cx).wish (TryE { X with pn:=pn } W)) body (tb W)) (hs:∀ x pn,PSs (suiteCx { X with pn:=pn } x) (b₀ :: suite) (ts x)) (hdb:(c == ("__debug__":Str))=false:=by decide) :
  PS X (.Try body [.ExceptHandler (some (.Name c np)) (some n) (b₀ :: suite) hpos] [] [] pos) (tTry X.K Cc i tb ts):=by
 intro pins s σ H D I h
 refine wpAny_Try_except (wpAny_mono (hb (X.pn ++ pins) _ [] s σ H D ((Inv.repin I).wish _) h) (fun fl s1 q=>?_) fun e s1 q=>?_)
 ·cases fl with
  | next=>obtain ⟨σ',H',J,q⟩:=q; exact wpAny_execs_nil ⟨σ',H',Inv.unpin I.ok J.unwish,q⟩
  | brk=>obtain ⟨σ',H',J,q⟩:=q; exact ⟨σ',H',Inv.unpin I.ok J.unwish,q⟩
  | cont=>obtain ⟨σ',H',J,q⟩:=q; exact ⟨σ',H',Inv.unpin I.ok J.unwish,q⟩
  | ret v=>obtain ⟨v',σ',H',J,r,q⟩:=q; exact ⟨v',σ',H',Inv.unpin I.ok J.unwish,r,q⟩
 ·obtain ⟨pl,σ1,H1,s0,H',x,cls,B,rfl,J,os,bare,fl,ex,hw⟩:=q
  have frs1:X.A.frames=some (X.env :: X.outer):=by rw [← hstk]; exact I.ok.frames
  have fl0:Air B (X.env :: X.outer) x cls .none s1.heap:=by rw [← hstk]; exact fl.air
  refine air_note frs1 hfr fl0 fun h2 a2 u2=>?_
  refine air_land a2 fun h3 a3 u3=>?_
  have A3:Air B X.stack x cls .none h3:=by rw [hstk]; exact a3
  have U3:=u2.trans u3
  have J3:Inv { X with pn:=X.pn ++ pins } pl σ1 H' { s1 with heap:=h3 }:=J.call' (s':={ s1 with heap:=h3 }) (ch:=[]) os (fl.un J.stkFree A3 U3) (fl.ok A3) bare fun b z=>nomatch z
  obtain ⟨oe,vs,he,hc,_⟩:=a3.obj
  have LT:PySem.W.Looks (model X.prog X.w) h3 (typeOf (.ref x)) cls:=hc ▸ (PySem.W.Looks.ld he).andThen .now
  refine wpAny_handleBy_cons (codeAny_handlers_test (ld_glob (Inv.marked J3 x) hg hm ((PySem.W.exm_one J3.kIn LT ex).here ?_) hdb)) (by intro z; cases z)
  refine codeAny_handlers_suite_as ?_
  refine air_land (s:={ s1 with heap:=h3 }) a3 fun h6 a6 u6=>?_
  have A6:Air B X.stack x cls .none h6:=by rw [hstk]; exact a6
  have U6:=U3.trans u6
  obtain ⟨o6,vs6,g6,c6,d6,dt6,z6,n6,_⟩:=a6.obj
  have hx':H' x=none:=by
   cases q:H' x with
   | none=>rfl
   | some o =>
    obtain ⟨u,qu⟩:=ObjOk.is (fl.hok x o q)
    rw [A6.new] at qu
    cases qu
  have hx0:s0.heap.get? x=none:=by
   cases q:s0.heap.get? x with
   | none=>rfl
   | some o =>
    by_cases hm':x∈frs X.stack
    ·obtain ⟨_,o',q2,k⟩:=A6.fr.mem hm'
     rw [g6] at q2
     cases q2
     exact absurd dt6 (k vs6)
    ·obtain ⟨o',q2⟩:=fl.there x o q hm'
     rw [A6.new] at q2
     cases q2
  have J6:Inv { X with pn:=X.pn ++ pins } pl σ1 (upd H' x (frzX o6)) { s1 with heap:=h6 } :=
   J.call' (s':={ s1 with heap:=h6 }) (ch:=[]) os (Un.more (fl.un J.stkFree A6 U6) hx0 hx') (HOk.more (fl.ok A6) hx' ⟨g6,trivial,⟨_,g6⟩,fun _ _ _ _=>trivial⟩) bare fun b z=>nomatch z
  refine store_ok (X:=suiteCx { X with pn:=X.pn ++ pins } x) (Inv.marked J6 x) hN hi (Or.inl hn) (v:=.ref x) rfl (fun s7 J7=>?_) (Or.inr hn)
  refine wpAny_mono (hs x (X.pn ++ pins) pl s7 _ _ _ J7 (hw x o6 hx' ⟨c6,d6,vs6,dt6,n6⟩)) (fun f s8 q8=>?_) fun e s8 z=>(hxe _ _ z).elim
  cases f with
  | next=>obtain ⟨σ8,H8,J8,q8⟩:=q8; exact unbind_ok (Inv.unpin I.ok (Inv.unmarked J8 (Cx.Ok.repin I.ok _))) hN hi hn fun s9 J9=>⟨_,H8,J9,q8⟩
  | brk=>obtain ⟨σ8,H8,J8,q8⟩:=q8; exact unbind_ok (Inv.unpin I.ok (Inv.unmarked J8 (Cx.Ok.repin I.ok _))) hN hi hn fun s9 J9=>⟨_,H8,J9,q8⟩
  | cont=>obtain ⟨σ8,H8,J8,q8⟩:=q8; exact unbind_ok (Inv.unpin I.ok (Inv.unmarked J8 (Cx.Ok.repin I.ok _))) hN hi hn fun s9 J9=>⟨_,H8,J9,q8⟩
  | ret v=>obtain ⟨v',σ8,H8,J8,r,q8⟩:=q8; exact unbind_ok (Inv.unpin I.ok (Inv.unmarked J8 (Cx.Ok.repin I.ok _))) hN hi hn fun s9 J9=>⟨v',_,H8,J9,r,q8⟩
end BF
namespace BF
open PySem PySem.Spec PyProof.Rows
structure XCls (K:PySem.W.Frag) (C:Addr):Prop where
 hd:PySem.W.hasDictIn K C=true
 ga:PySem.W.findIn K (.ref C) "__getattribute__"=some (some (.builtin "BaseException.__getattribute__"))
 gh:PySem.W.findIn K (.ref C) "__getattr__"=some none
 kl:PySem.W.findIn K (.ref C) "__class__"=some (some (.builtin "object.__class__"))
 gg:PySem.W.specialIn K (.builtin "object.__class__") "__get__"=some (some (.builtin "getset_descriptor.__get__"))
 tk:PySem.W.takesIn K (.builtin "object.__class__")=some true
 ob:PySem.W.mroIn K C (.type "object")=some true
 be:PySem.W.mroIn K C (.type "BaseException")=some true
section
variable {prog:Program} {w:World} {A:Around} {E:Value→Shared→Prop} {s:Shared} {K:PySem.W.Frag} {x C:Addr} {ox:Obj}
theorem exc_find (F:XCls K C):PySem.W.findObj K C none "__class__"=some (.bind (.builtin "getset_descriptor.__get__") (.builtin "object.__class__")):=by
 obtain ⟨cd,hc,_⟩:=PySem.W.any_some F.hd
 unfold PySem.W.findObj
 rw [hc,Option.bind_some,F.kl,Option.bind_some]
 simp [F.gg,F.tk]
theorem exc_class {Q:Option Value→Shared→Prop} (F:XCls K C) (X:K.In s.heap) (I:PySem.W.InstAt s.heap x ox C none) (h:Q (some (.ref C)) { s with toks:=s.toks + 1 }) :
  wpAny (model prog w) A (getAttr? (.ref x) "__class__") Q E s:=by
 obtain ⟨hh,g,d,t,os⟩:=s
 have l0:=I.type (M:=model prog w)
 have l1:=PySem.W.looks_findIn (M:=model prog w) X F.ga
 have l2:=PySem.W.looks_findIn (M:=model prog w) X F.gh
 have l3:=PySem.W.looks_find (M:=model prog w) X I (exc_find F)
 have l4:PySem.W.Looks (model prog w) hh (isInstance (.ref x) (.type "BaseException")) true:=l0.andThen (PySem.W.looks_mroIn X F.be)
 have bd:=PySem.F.attr_ValueError.ga.bind (.ref x)
 unfold getAttr? getAttrBy? getAttrBy
 refine wpAny_bind (wpAny_mkText (wpAny_bind (wpAny_attempt (wpAny_holding (wpAny_bind (l0.at (wpAny_bind (l1.at ?_))))))))
 show wpAny _ _ (if (onTheHeap (.ref C) && Value.builtin "BaseException.__getattribute__" == Value.builtin "object.__getattribute__")=true then _ else _) _ _ _
 have hgb:(Value.builtin "BaseException.__getattribute__" == Value.builtin "object.__getattribute__")=false:=by decide +kernel
 rw [if_neg (by rw [hgb]; simp)]
 unfold getAttrByItsOwn
 refine wpAny_bind (m:=hookBefore (.ref C)) (l2.at ?_)
 refine wpAny_bind (wpAny_attempt (wpAny_holding ?_))
 show wpAny _ _ (boundAndCalled (.builtin "BaseException.__getattribute__") (.ref x) _) _ _ _
 unfold boundAndCalled
 refine wpAny_bind (wpAny_of_eq bd ?_)
 have hk:builtinKind "BaseException.__getattribute__"=some .slot:=by decide +kernel
 have hsp:splitId "BaseException.__getattribute__"=some ("BaseException","__getattribute__"):=by decide +kernel
 refine wpAny_call (codeAny_call_builtin PySem.F.attr_ValueError.ga.plain PySem.F.entry_bexc_ga ?_)
 have ha:=PySem.F.args_bexc_ga (.ref x) (.str "__class__" t)
 show wpAny _ _ (checkBuiltinCall "BaseException.__getattribute__" ⟨[.ref x,.str "__class__" t],[]⟩) _ _ _
 simp only [checkBuiltinCall,hk,hsp]
 refine wpAny_bind (l4.at ?_)
 rw [if_neg (by decide)]
 refine wpAny_of_eq ha ?_
 unfold Builtin.«object.__getattribute__»
 refine wpAny_bind (wpAny_of_eq (a:=(Value.ref x,[Value.str "__class__" t])) rfl ?_)
 refine wpAny_bind (wpAny_of_eq (a:=("__class__":Str)) rfl ?_)
 refine wpAny_bind (l0.at ?_)
 refine wpAny_bind (l3.at ?_)
 show wpAny _ _ (holding [Value.builtin "object.__class__"] (call (.builtin "getset_descriptor.__get__") [.builtin "object.__class__",.ref x,.ref C]) >>= ret) _ _ _
 refine wpAny_bind (wpAny_holding (wpAny_call (PySem.W.class_get (ox:=ox) (od:=none) X I F.ob ?_)))
 exact wpAny_pure (wpAny_pure (wpAny_pure h))
theorem kitx_exc (F:XCls K C):PySem.W.KitX K (.ref x) (.ref C) (fun h=>PySem.W.InstAt h x ox C none) where
 ty:=fun _ _ _ I=>I.type
 it:=fun _ _ X _=>by
  obtain ⟨cd,hc,_⟩:=PySem.W.any_some F.hd
  unfold PySem.W.clsIn at hc
  split at hc
  ·rename_i c' d' cd' sl' ho
   intro A' Q' E' s' k q
   unfold isType loadHead
   exact wpAny_bind (wpAny_loadPart (k _ _ (X _ _ ho)) (wpAny_pure q))
  ·cases hc
 ne:=fun h tp dd its n sl X htp=>by
  obtain ⟨cd,hc,_⟩:=PySem.W.any_some F.hd
  refine Bool.eq_false_iff.mpr fun q=>?_
  have e:C=tp:=Value.ref.inj (beq_iff_eq.mp q)
  subst e
  unfold PySem.W.clsIn at hc
  split at hc
  ·rename_i c' d' cd' sl' ho
   have z:=(X _ _ ho).symm.trans htp
   cases z
  ·cases hc
 ca:=fun X I k=>exc_class F X I k
end
theorem call_isiX {X:L2.Cx}:L2.CallR X (.builtin "isinstance") (fun xs H Q=>∃ x o C c b,xs=[L2.V.ref x,c]∧H x=some (frzX o)∧ExcO (.ref C) o∧XCls X.K C∧(∃ cv,L2.RelV c cv∧(∀ u,L2.RelV c u→u=cv)∧PySem.W.kitOne X.K (.ref C) cv=some b)∧Q (.bl b) H):=by
 intro pins s σ H xs us Q I r h
 obtain ⟨x,o,C,c,b,rfl,hx,⟨oc,od,vs,odt,_⟩,F,⟨cv,_,rc,kt⟩,q⟩:=h
 obtain ⟨u,w',rfl,r1,r2⟩:=L2.vals2 r
 have e:u=Value.ref x:=r1
 subst e
 have e2:=rc w' r2
 subst e2
 have gx:s.heap.get? x=some o:=(show L2.ObjOk X.prog X.w H s.heap x (frzX o) from I.hok x _ hx).1
 have J:PySem.W.InstAt s.heap x o C none:=⟨gx,oc,by unfold PySem.W.notCls; rw [odt],by rw [od]; trivial⟩
 exact PySem.W.kia_one (kitx_exc F) I.kIn J kt (fun z=>nomatch z) fun tk=>⟨.bl b,H,I.tok tk,rfl,q⟩
end BF
namespace BF
open PySem PySem.Spec PyProof.Rows L2
structure ENames (mg:Str→Option Value) (c0 c1 c2 c3 c4 c5 c6 c7 c8 c9 c10 c11 c12 c13 c14 c15 c16 c17:Addr):Prop where
 m0:mg "ClothError"=some (.ref c0)
 m1:mg "NoLine"=some (.ref c1)
 m2:mg "TwoColours"=some (.ref c2)
 m3:mg "TooMany"=some (.ref c3)
 m4:mg "NoHole"=some (.ref c4)
 m5:mg "NoDrawing"=some (.ref c5)
 m6:mg "NoThread"=some (.ref c6)
 m7:mg "Taken"=some (.ref c7)
 m8:mg "NoName"=some (.ref c8)
 m9:mg "NoTie"=some (.ref c9)
 m10:mg "NoPlan"=some (.ref c10)
 m11:mg "NoNumber"=some (.ref c11)
 m12:mg "Busy"=some (.ref c12)
 m13:mg "Idle"=some (.ref c13)
 m14:mg "NotWished"=some (.ref c14)
 m15:mg "Bare"=some (.ref c15)
 m16:mg "NoChart"=some (.ref c16)
 m17:mg "NoRow"=some (.ref c17)
theorem isi_ref {K:PySem.W.Frag} {r c:Addr} {b:Bool} (k:PySem.W.kitOne K (.ref r) (.ref c)=some b):∃ cv,RelV (.ref c) cv∧(∀ u,RelV (.ref c) u→u=cv)∧PySem.W.kitOne K (.ref r) cv=some b:=⟨.ref c,rfl,fun _ h=>h,k⟩
theorem isi_ty {K:PySem.W.Frag} {r:Addr} {n:String} {b:Bool} (k:PySem.W.kitOne K (.ref r) (.type n)=some b):∃ cv,RelV (.ty n) cv∧(∀ u,RelV (.ty n) u→u=cv)∧PySem.W.kitOne K (.ref r) cv=some b:=⟨.type n,rfl,fun _ h=>h,k⟩
theorem fun_okX {P:Program} {w:World} {K:PySem.W.Frag} {mg:Str→Option Value} {base:Heap} {x qual:Str} {st:Stmt} {f:Addr} {fd:FuncData} {N ps:List Str} {k:Nat} {sp:Sp} (F:Fun K x qual st f fd) (S:FnScope N ps (defScope st)) (len:∀ vs H Q E,sp vs H Q E→vs.length=ps.length)
  (hbody:∀ (cdv:Value) (A:Around) (outer:List Env) (s:Shared) (H:Hp) (vs:List V) (Q:VK) (E:XK),Room k (A.deeper (envOfC qual (defScope st) s.heap.objs.size f cdv))→sp vs H Q E →
   ∃ t,PSs (cxOf (CXE P w) P w K mg base N qual (defScope st) f cdv A outer s H E) (defBody st) t∧t { nx:=fun _ H'=>Q .non H',rt:=Q } (start N vs) H):FnOk P w K mg base (CXE P w) (k + 1) f fd ps sp:=by
 obtain ⟨oc,od,kV,doc,pm,an,cdv,ct,osl,rfl,lk,hcd⟩:=F.ex
 exact fn_of lk hcd S len fun A outer s H vs Q E hr hsp=>hbody cdv A outer s H vs Q E hr hsp
def two (H:Hp) (q:Addr) (p:Int×Int):Prop:=H q=some (.tup [.int p.1,.int p.2])
theorem laterS {G:Prop} {A:L2.St→Hp→Prop} (C:L2.St→Hp→Prop) (main:(∀ σ H',C σ H'→A σ H')→G) (last:∀ σ H',C σ H'→A σ H'):G:=main last
theorem ifC {c:Bool} {A B:Prop} (a:c=true→A) (b:c=false→B):if c=true then A else B:=by
 cases c with
 | true=>exact a rfl
 | false=>exact b rfl
theorem same_updN {H H2:Hp} {L:Addr} {o:HO} (s:Same H H2) (n:H L=none):Same H (upd H2 L o):=fun b u e=>by
 rw [upd_ne (fun z=>by rw [z,n] at e; cases e)]
 exact s b u e
theorem none_same {H H':Hp} {l:Addr} (s:Same H H') (n:H' l=none):H l=none:=by
 cases h:H l with
 | none=>rfl
 | some u=>rw [s _ _ h] at n; cases n
section
variable {P:Program} {w:World} {A:Around} {E:Value→Shared→Prop}
theorem draw_lst {j l:Addr} {its:Array Value} (ne:l≠j):∀ (m i:Nat) (s:Shared) (Q:List Value→Shared→Prop),s.heap.IsListIter j l i→s.heap.IsList l its→i + m≤its.size →
  (∀ h',h'.IsListIter j l (i + m)→Heap.SameBut j s.heap h'→Q ((its.toList.drop i).take m) { s with heap:=h' })→wpAny (model P w) A (draw (.ref j) m) Q E s
 | 0,i,s,Q,hj,_,_,z=>by
  show wpAny _ _ (pure []) Q E s
  exact wpAny_pure (by simpa using z s.heap hj (Heap.SameBut.refl ..))
 | m + 1,i,s,Q,hj,hl,le,z=>by
  have lt:i < its.size:=by omega
  show wpAny _ _ (pyNext (.ref j) >>= _) Q E s
  refine wpAny_bind (wpAny_pyNext_list_item hj hl (x:=its[i]) (by simp [lt]) fun h1 j1 s1=>?_)
  refine wpAny_bind (wpAny_holding (draw_lst ne m (i + 1) _ _ j1 (Heap.IsList.at hl fun o e=>s1.extBut _ _ ne e) (by omega) fun h2 j2 s2=>wpAny_pure ?_))
  have hd:its.toList.drop i=its[i] :: its.toList.drop (i + 1):=by simp [List.drop_eq_getElem_cons,lt]
  have:=z h2 (by rw [show i + (m + 1)=i + 1 + m by omega]; exact j2) (s1.trans s2)
  rw [hd,List.take_succ_cons] at this
  exact this
theorem unpack_lst {s:Shared} {l:Addr} {its:Array Value} {tg:List (Bool×(Value→Sem Unit))} {Q:Unit→Shared→Prop} (hh:A.handled=none) (hl:s.heap.IsList l its) (hn:tg.length=its.size) (hst:tg.findIdx? (·.1)=none)
  (z:∀ h',Heap.ExtBut s.heap.objs.size s.heap h'→wpAny (model P w) A (assignInOrder (tg.map (·.2)) its.toList) Q E { s with heap:=h' }):wpAny (model P w) A (unpack (.ref l) tg) Q E s:=by
 have ne:l≠s.heap.objs.size:=by obtain ⟨o,ho,_⟩:=hl; exact Nat.ne_of_lt (Heap.lt_size ho)
 unfold unpack
 rw [hn,hst]
 refine wpAny_bind (wpAny_holding ?_)
 unfold unpackItems
 refine wpAny_bind ?_
 unfold notIterableAtAll
 refine wpAny_bind (wpAny_specialOf hl.typeIs slot_list_iter.lookup (wpAny_pure ?_))
 simp only [Bool.false_eq_true,if_false]
 refine wpAny_bind (wpAny_holding (wpAny_pyIter_list hl ?_))
 refine wpAny_bind (wpAny_holding (draw_lst ne its.size 0 _ _ ⟨_,Heap.get?_push_size _ rfl,rfl,rfl⟩ (hl.push _) (by omega) fun h1 j1 s1=>?_))
 have all:List.take its.size (List.drop 0 its.toList)=its.toList:=by rw [List.drop_zero]; exact List.take_of_length_le (by simp)
 rw [all]
 rw [if_neg (by simp)]
 have hl1:h1.IsList l its:=Heap.IsList.at (hl.push _) fun o e=>s1.extBut _ _ ne e
 refine wpAny_bind (wpAny_holding (wpAny_pyNext_list_end hh j1 hl1 (by simp) fun h2 k2=>?_))
 simp only [Option.isSome_none,Bool.false_eq_true,if_false]
 exact wpAny_pure (z h2 fun b o hb e=>k2 b o hb (s1.extBut b o hb (Heap.get?_push_of_some _ e)))
end
section
variable {X:Cx} {pos:Pos}
def gTupL (K:PySem.W.Frag) (n:Nat) (t:TGs):TG:=fun v σ H Q=>∃ a xs,v=.ref a∧SqL K H a xs∧xs.length=n∧t xs σ H Q
theorem pg_tupL {es:List Expr} {k:Nat} {t:TGs} {n:Nat} (hc:X.calm=true) (h:PGs X es t)
  (hn:(assignEach es X.env).length=n:=by rfl) (hst:(assignEach es X.env).findIdx? (·.1)=none:=by rfl):PG X (.Tuple es k pos) (gTupL X.K n t):=by
 intro pins s σ H v u Q I r hw
 obtain ⟨a,xs,e1,hq,hl,hw⟩:=hw
 subst e1
 cases r
 obtain ⟨its,rv,pl,hz⟩:=I.list hq
 rw [arm_assign_Tuple]
 refine wpAny_bind (wpAny_standAt (unpack_lst (I.ok.hd hc) pl.isList (by simp [hn,← hl,rv.length]) hst fun h' hx=>?_))
 have I1:Inv X pins σ H { s with heap:=h' }:=I.kept (t':=s.toks) fun b o e=>hx b o (Nat.ne_of_lt (Heap.lt_size e)) e
 exact h pins _ σ H xs _ Q I1 (by simpa using rv) hw
end
section
variable {P:Program} {w:World} {K:PySem.W.Frag} {mg:Str→Option Value} {base:Heap} {N:List Str} {qual:Str} {scope:Scope} {f:Addr} {cdv:Value} {A:Around} {outer:List Env} {s:Shared} {H:Hp} {E:XK}
theorem passE:Passes (CXE P w) (cxOf (CXE P w) P w K mg base N qual scope f cdv A outer s H E) E:=by
 intro pins σ H2 s2 e s3 I h
 obtain ⟨x,cls,H',B,rfl,os3,bare3,F,hE⟩:=h
 generalize hY:cxOf (CXE P w) P w K mg base N qual scope f cdv A outer s H E=Y at I
 have e1:Y.stack=envOfC qual scope s.heap.objs.size f cdv :: outer:=by rw [← hY]; rfl
 have e2:Y.fs=frs outer:=by rw [← hY]; rfl
 have e3:Y.ex=[]:=by rw [← hY]; rfl
 have e4:Y.s₀=s:=by rw [← hY]; rfl
 have e5:Y.H₀=H:=by rw [← hY]; rfl
 have hb:=I.base
 have hfr:=I.ok.frames
 have os:=I.os
 rw [e1] at hfr
 rw [e2,e3,e4,e5] at hb
 rw [e4] at os
 replace F:Flew P w (envOfC qual scope s.heap.objs.size f cdv :: outer) H2 H' x cls s2.heap s3.heap B:=F
 subst hY
 have old:∀ b o,s.heap.get? b=some o→b ∉ frs outer→b ∉ frs (envOfC qual scope s.heap.objs.size f cdv :: outer):=fun b o q n z=>by
  rcases List.mem_cons.mp (show b∈s.heap.objs.size :: frs outer from z) with z | z
  ·exact absurd (Heap.lt_size q) (by rw [z]; exact Nat.lt_irrefl _)
  ·exact n z
 refine air_leave (s:=s3) (L:=s.heap.objs.size) hfr rfl F.air fun h3 a3 u3=>?_
 refine ⟨x,cls,H',B,rfl,os3.trans os,bare3,⟨a3,F.hok,fun b o q n hn=>?_,fun b o q hn=>?_,fun b o q n hn=>?_,fun b o q n=>?_,fun b xs q=>F.tups b xs (hb.tups b xs q),fun b o u q=>F.frzs b o u (hb.frzs b o u q),fun b ps q=>?_⟩,hE⟩
 ·exact F.keep b o (hb.keep b o q n hn (by simp)) (hb.free b o q n (by simp)) (old b o q hn)
 ·obtain ⟨o',q'⟩:=hb.there b o q (by simp)
  exact F.there b o' q' (old b o q hn)
 ·obtain ⟨sl,q1⟩:=hb.slot b o q n hn (by simp)
  have hm:b∈frs (envOfC qual scope s.heap.objs.size f cdv :: outer):=(List.mem_cons_of_mem _ hn:b∈s.heap.objs.size :: frs outer)
  obtain ⟨sl2,q2⟩:=F.slot b _ q1 (hb.free b o q n (by simp)) hm
  obtain ⟨_,o',q3,k⟩:=F.air.fr.mem hm
  rw [q2] at q3
  cases q3
  obtain ⟨sl3,q4⟩:=u3 b _ q2 k
  exact ⟨sl3,q4⟩
 ·obtain ⟨o',q'⟩:=hb.there b o q (by simp)
  exact F.free b o' q' (hb.free b o q n (by simp))
 ·obtain ⟨m1,h1⟩:=hb.tbls b ps q
  obtain ⟨m2,h2⟩:=F.tbls b _ h1
  exact ⟨m1 ++ m2,by rw [h2,Array.append_assoc]⟩
end
end BF
namespace BF
open PySem PySem.Spec PyProof.Rows
theorem vals_refs':∀ (cs:List Addr) {its:List Value},L2.Vals (cs.map L2.V.ref) its→its=cs.map Value.ref
 | [],_,.nil=>rfl
 | c :: cs,_,.cons q t=>by
  have e:_=Value.ref c:=q
  rw [List.map_cons,e,vals_refs' cs t]
theorem call_isiXT {X:L2.Cx}:L2.CallR X (.builtin "isinstance") (fun xs H Q=>∃ (x:Addr) (o:Obj) (C t:Addr) (cs:List Addr) (b:Bool),xs=[L2.V.ref x,L2.V.ref t]∧H x=some (frzX o)∧ExcO (.ref C) o∧XCls X.K C∧H t=some (.tup (cs.map L2.V.ref))∧PySem.W.kitAny X.K (.ref C) (cs.map Value.ref)=some b∧Q (.bl b) H):=by
 intro pins s σ H xs us Q I r h
 obtain ⟨x,o,C,t,cs,b,rfl,hx,⟨oc,od,vs,odt,_⟩,F,ht,kt,q⟩:=h
 obtain ⟨u,w',rfl,r1,r2⟩:=L2.vals2 r
 have e:u=Value.ref x:=r1
 subst e
 have e2:w'=Value.ref t:=r2
 subst e2
 have gx:s.heap.get? x=some o:=(show L2.ObjOk X.prog X.w H s.heap x (frzX o) from I.hok x _ hx).1
 have J:PySem.W.InstAt s.heap x o C none:=⟨gx,oc,by unfold PySem.W.notCls; rw [odt],by rw [od]; trivial⟩
 obtain ⟨z,its,rv,tx⟩:=(show L2.ObjOk X.prog X.w H s.heap t (.tup (cs.map L2.V.ref)) from I.hok t _ ht)
 obtain ⟨o',eg,h1,n,h2⟩:=tx.tup
 rw [vals_refs' cs rv] at h2
 obtain ⟨oc',od',odd,os'⟩:=o'
 subst h1 h2
 exact PySem.W.kia_tup (kitx_exc F) I.kIn J eg kt (fun z=>nomatch z) fun tk=>⟨.bl b,H,I.tok tk,rfl,q⟩
end BF
namespace BF
open PySem PySem.Spec PyProof.Rows L2
structure EKitN (K:PySem.W.Frag) (c0 c1 c2 c3 c4 c5 c6 c7 c8 c9 c10 c11 c12 c13 c14 c15 c16 c17 r:Addr) (n:Nat):Prop where
 x:XCls K r
 q:PySem.W.excIn K r [.type "ValueError",.type "Exception",.type "BaseException",.type "object"] "ValueError.__new__"=true
 ex:PySem.W.exmOne K (.ref r) (.ref c0)=some true
 v:PySem.W.kitOne K (.ref r) (.type "ValueError")=some true
 k1:PySem.W.kitOne K (.ref r) (.ref c1)=some (n == 1)
 k2:PySem.W.kitOne K (.ref r) (.ref c2)=some (n == 2)
 k3:PySem.W.kitOne K (.ref r) (.ref c3)=some (n == 3)
 k4:PySem.W.kitOne K (.ref r) (.ref c4)=some (n == 4)
 k5:PySem.W.kitOne K (.ref r) (.ref c5)=some (n == 5)
 k6:PySem.W.kitOne K (.ref r) (.ref c6)=some (n == 6)
 k7:PySem.W.kitOne K (.ref r) (.ref c7)=some (n == 7)
 k8:PySem.W.kitOne K (.ref r) (.ref c8)=some (n == 8)
 k9:PySem.W.kitOne K (.ref r) (.ref c9)=some (n == 9)
 k10:PySem.W.kitOne K (.ref r) (.ref c10)=some (n == 10)
 k11:PySem.W.kitOne K (.ref r) (.ref c11)=some (n == 11)
 k12:PySem.W.kitOne K (.ref r) (.ref c12)=some (n == 12)
 k13:PySem.W.kitOne K (.ref r) (.ref c13)=some (n == 13)
 k14:PySem.W.kitOne K (.ref r) (.ref c14)=some (n == 14)
 k15:PySem.W.kitOne K (.ref r) (.ref c15)=some (n == 15)
 k16:PySem.W.kitOne K (.ref r) (.ref c16)=some (n == 16)
 k17:PySem.W.kitOne K (.ref r) (.ref c17)=some (n == 17)
theorem kitAny_no {K:PySem.W.Frag} {t:Value}:∀ {cs:List Value},(∀ c∈cs,PySem.W.kitOne K t c=some false)→PySem.W.kitAny K t cs=some false
 | [],_=>rfl
 | c :: cs,h=>by
  unfold PySem.W.kitAny
  rw [h c (List.mem_cons_self ..)]
  exact kitAny_no fun d hd=>h d (List.mem_cons_of_mem _ hd)
theorem strs_vals:∀ l:List (Str×Tok),Vals ((l.map (·.1)).map V.str) (strValues l)
 | []=>.nil
 | (x,t) :: l=>.cons ⟨t,rfl⟩ (strs_vals l)
section
variable {X:Cx}
theorem mt_starts:MtR X "str.startswith" (fun x vs H Q=>∃ (a b:Str),x=.str a∧vs=[.str b]∧Q (.bl (Txt.startswith a b)) H):=by
 intro pins s σ H x vs v us Q I rx rv h
 obtain ⟨a,b,rfl,rfl,q⟩:=h
 obtain ⟨t,rfl⟩:=rx
 obtain ⟨u,rfl,ru⟩:=rv.one
 obtain ⟨t',rfl⟩:=ru
 exact SC.startswith ⟨.bl _,H,I,rfl,q⟩
theorem call_intT:CallR X (.type "int") (fun xs H Q=>∃ (a:Str) (n:Int),xs=[.str a]∧PySem.intText? a=some n∧a.length≤640∧Q (.int n) H):=by
 intro pins s σ H xs us Q I r h
 obtain ⟨a,n,rfl,hn,hl,q⟩:=h
 obtain ⟨u,rfl,ru⟩:=vals1 r
 obtain ⟨t,rfl⟩:=ru
 exact PySem.W.KIN.call_text hn hl ⟨.int _,H,I.tok _,⟨_,rfl⟩,q⟩
theorem strs_lay {pins:List (Addr×Obj)} {σ:L2.St} {H:Hp} {s:Shared} {k:Nat} (I:Inv X pins σ H s) (l:List (Str×Tok)) (hz:l.length≤sizeLine):Inv X pins σ (upd H s.heap.objs.size (.lst ((l.map (·.1)).map V.str))) { s with heap:=s.heap.push { cls:=.type "list",data:=.seq (strValues l).toArray },toks:=k } :=
 I.lnew (strs_vals l) (by rw [List.length_map,List.length_map]; exact hz)
theorem mt_split:MtR X "str.split" (fun x vs H Q=>∃ (z y:Str),x=.str z∧vs=[.str y]∧(y.length == 0)=false∧z.length≤3000∧∀ p,H p=none→Q (.ref p) (upd H p (.lst ((Txt.split z y).map V.str)))):=by
 intro pins s σ H x vs v us Q I rx rv h
 obtain ⟨z,y,rfl,rfl,hy,hz,q⟩:=h
 obtain ⟨t,rfl⟩:=rx
 obtain ⟨u,rfl,ru⟩:=rv.one
 obtain ⟨t',rfl⟩:=ru
 have hs:=split_le z y
 have lay:∀ (l:List (Str×Tok)) (k:Nat),l.map (·.1)=Txt.split z y→EP X pins σ Q (.ref s.heap.objs.size) { s with heap:=s.heap.push { cls:=.type "list",data:=.seq (strValues l).toArray },toks:=k }:=fun l k e=>by
  have hl:l.length=(Txt.split z y).length:=by rw [← e,List.length_map]
  refine ⟨.ref s.heap.objs.size,_,strs_lay (k:=k) I l (by rw [hl,sizeLine_eq]; omega),rfl,?_⟩
  rw [e]
  exact q _ I.fresh
 have one:Txt.split z y=[z]→EP X pins σ Q (.ref s.heap.objs.size) { s with heap:=s.heap.push { cls:=.type "list",data:=.seq #[.str z t] } }:=fun e=>lay [(z,t)] s.toks e.symm
 cases a:(decide (z.length < y.length) || decide (Builtin.Str.strKind z < Builtin.Str.strKind y)) with
 | true =>
  have e:Txt.split z y=[z]:=by unfold Txt.split; rw [if_pos a]
  exact call_meets F.slot_str_split (typeIs_str _ _ _) F.entry_str_split (F.args_str_split_2 _ _) (meets_str_split_cannot_occur z y t t' a) (one e)
 | false =>
  cases b:(Builtin.Str.occurrences z y 0 z.length (z.length + 1)).isEmpty with
  | true =>
   have e:Txt.split z y=[z]:=by unfold Txt.split; rw [if_neg (by rw [a]; decide),if_pos b]
   exact call_meets F.slot_str_split (typeIs_str _ _ _) F.entry_str_split (F.args_str_split_2 _ _) (meets_str_split_not_found z y t t' a hy b) (one e)
  | false =>
   have e:Txt.split z y=Builtin.Str.partsBetween z (Builtin.Str.occurrences z y 0 z.length (z.length + 1)) y.length:=by unfold Txt.split; rw [if_neg (by rw [a]; decide),if_neg (by rw [b]; decide)]
   have le:(Builtin.Str.partsBetween z (Builtin.Str.occurrences z y 0 z.length (z.length + 1)) y.length).length≤sizeLine:=by rw [← e,sizeLine_eq]; omega
   refine call_meets F.slot_str_split (typeIs_str _ _ _) F.entry_str_split (F.args_str_split_2 _ _) (meets_str_split_sep z y t t' a hy b (by rw [sizeLine_eq]; omega) le) ?_
   have nt:(numbered s.toks (Builtin.Str.partsBetween z (Builtin.Str.occurrences z y 0 z.length (z.length + 1)) y.length)).map (·.1)=Txt.split z y:=(numbered_texts _ _).trans e.symm
   show EP X pins σ Q _ { s with toks:=_,heap:=s.heap.push { cls:=.type "list",data:=.seq (strsFrom s.toks _).toArray } }
   rw [strsFrom_eq]
   exact lay _ _ nt
end
def blank:Str:=" "
def cat (l:List (List Nat)):List Nat:=match l with
 | []=>[]
 | [x]=>x
 | x :: r=>x ++ 32 :: cat r
theorem cat_cons {x y:List Nat} {r:List (List Nat)}:cat (x :: y :: r)=x ++ 32 :: cat (y :: r):=rfl
theorem join_cps:∀ ws:List Str,(Str.join blank ws).cps.toList=cat (ws.map fun x=>x.cps.toList)
 | []=>rfl
 | [x]=>rfl
 | x :: y :: r=>by
  have ih:=join_cps (y :: r)
  have e:cat ((x :: y :: r).map fun x=>x.cps.toList)=x.cps.toList ++ 32 :: cat ((y :: r).map fun x=>x.cps.toList):=rfl
  rw [e,← ih]
  show (x ++ blank ++ Str.join blank (y :: r)).cps.toList=_
  show ((x.cps ++ blank.cps) ++ (Str.join blank (y :: r)).cps).toList=_
  rw [Array.toList_append,Array.toList_append,List.append_assoc]
  rfl
theorem cut_first {x x' r r':List Nat} (hx:32 ∉ x) (hx':32 ∉ x') (e:x ++ 32 :: r=x' ++ 32 :: r'):x=x'∧r=r':=by
 induction x generalizing x' with
 | nil =>
  cases x' with
  | nil=>exact ⟨rfl,by simpa using e⟩
  | cons a x' =>
   simp only [List.nil_append,List.cons_append,List.cons.injEq] at e
   exact absurd (by rw [← e.1]; exact List.mem_cons_self) hx'
 | cons a x ih =>
  cases x' with
  | nil =>
   simp only [List.nil_append,List.cons_append,List.cons.injEq] at e
   exact absurd (by rw [e.1]; exact List.mem_cons_self) hx
  | cons a' x' =>
   simp only [List.cons_append,List.cons.injEq] at e
   obtain ⟨h1,h2⟩:=ih (x':=x') (fun z=>hx (List.mem_cons_of_mem _ z)) (fun z=>hx' (List.mem_cons_of_mem _ z)) e.2
   exact ⟨by rw [e.1,h1],h2⟩
theorem cat_one {l m:List (List Nat)} (hl:∀ x∈l,32 ∉ x) (hm:∀ x∈m,32 ∉ x) (nl:l≠[]) (nm:m≠[]) (e:cat l=cat m):l=m:=by
 induction l generalizing m with
 | nil=>exact absurd rfl nl
 | cons x r ih =>
  cases m with
  | nil=>exact absurd rfl nm
  | cons x' r' =>
   have hx:=hl x List.mem_cons_self
   have hx':=hm x' List.mem_cons_self
   cases r with
   | nil =>
    cases r' with
    | nil=>exact congrArg (fun y=>[y]) e
    | cons y' r' =>
     have e:x=x' ++ 32 :: cat (y' :: r'):=e
     exact absurd (by rw [e]; simp) hx
   | cons y r =>
    cases r' with
    | nil =>
     have e:x ++ 32 :: cat (y :: r)=x':=e
     exact absurd (by rw [← e]; simp) hx'
    | cons y' r' =>
     obtain ⟨h1,h2⟩:=cut_first hx hx' e
     rw [h1,ih (m:=y' :: r') (fun z hz=>hl z (List.mem_cons_of_mem _ hz)) (fun z hz=>hm z (List.mem_cons_of_mem _ hz)) (by simp) (by simp) h2]
theorem str_inj {a b:Str} (h:a.cps.toList=b.cps.toList):a=b:=by
 cases a with
 | mk x =>
  cases b with
  | mk y =>
   have:x=y:=Array.toList_inj.mp h
   rw [this]
theorem split_words {ws:List Str} (hw:∀ x∈ws,32 ∉ x.cps.toList) (ne:ws≠[]):Txt.split (Txt.join blank ws) blank=ws:=by
 have e1:Txt.join blank ws=Str.join blank ws:=StrLaws.glued_eq_join blank ws
 rw [e1]
 have h1:=StrLaws.split_free (Str.join blank ws) 32
 have h2:Str.join blank (Txt.split (Str.join blank ws) blank)=Str.join blank ws:=StrLaws.join_split _ _
 have h3:=congrArg (fun x:Str=>x.cps.toList) h2
 simp only [join_cps] at h3
 have ne2:Txt.split (Str.join blank ws) blank≠[]:=fun z=>by
  have:=split_pos (Str.join blank ws) blank
  rw [z] at this
  exact absurd this (by decide)
 have h4:=cat_one (l:=(Txt.split (Str.join blank ws) blank).map fun x=>x.cps.toList) (m:=ws.map fun x=>x.cps.toList) (fun x hx=>by
  obtain ⟨y,hy,rfl⟩:=List.mem_map.mp hx
  exact h1 y hy) (fun x hx=>by
  obtain ⟨y,hy,rfl⟩:=List.mem_map.mp hx
  exact hw y hy) (by simpa using ne2) (by simpa using ne) h3
 exact (List.map_inj_right fun a b=>str_inj).mp h4
theorem nolen_lri:typeLookup (.type "list_reverseiterator") "__len__"=pure none:=by rw [typeLookup_type,builtinLookup_eq_fast]; kernel_rfl
theorem hint_lri:typeLookup (.type "list_reverseiterator") "__length_hint__"=pure (some (.builtin "list_reverseiterator.__length_hint__")):=by rw [typeLookup_type,builtinLookup_eq_fast]; kernel_rfl
section
variable {P:Program} {w:World} {A:Around} {E:Value→Shared→Prop} {s:Shared}
theorem rv_hint {I:Addr} {Q:Bool→Shared→Prop} (hT:s.TypeIs (.ref I) "list_reverseiterator") (h:Q false s):wpAny (model P w) A (Builtin.List.listLengthHint (.ref I)) Q E s:=by
 unfold Builtin.List.listLengthHint
 refine wpAny_bind (wpAny_specialOf hT nolen_lri ?_)
 show wpAny _ A (specialOf (Value.ref I) (Str.ofString "__length_hint__") >>= _) _ _ _
 refine wpAny_bind (wpAny_specialOf hT hint_lri ?_)
 generalize hid:("list_reverseiterator.__length_hint__":String)=id0
 wp_delta
 rw [show splitId id0=some ("list_reverseiterator","__length_hint__") from by subst hid; decide +kernel]
 subst hid
 refine wpAny_bind (wpAny_isInstance (b:=true) hT (by rw [isSubtype_type]; kernel_rfl) ?_)
 exact wpAny_pure h
theorem call_list_rev {I l:Addr} {items:Array Value} {Q:Value→Shared→Prop} (hh:A.handled=none) (hI:s.heap.IsRevIter I l ((items.size:Int) - 1)) (hl:s.heap.IsList l items) (hne:l≠I) (hn:items.size≤sizeLine)
  (hQ:∀ h' tk acc c,(∀ b o,b≠I→s.heap.get? b=some o→h'.get? b=some o)→h'.get? s.heap.objs.size=some { cls:=.type "list",dict:=none,data:=.seq acc c,slots:=#[] }→ItemsOf (fun i v=>items[items.size - 1 - i]?=some v) acc items.size→Q (.ref s.heap.objs.size) { s with heap:=h',toks:=tk }) :
  wpAny (model P w) A (call (.type "list") [.ref I]) Q E s:=by
 have hIl:I < s.heap.objs.size:=let ⟨_,ho,_⟩:=hI; Heap.lt_size ho
 have hll:l < s.heap.objs.size:=let ⟨_,ho,_⟩:=hl; Heap.lt_size ho
 refine callType_codes (Q₁:=fun obj s₁=>obj=.ref s.heap.objs.size∧s₁={ s with heap:=s.heap.push { cls:=.type "list",data:=.seq #[] } }) PySem.F.called_list (PySem.F.typeCall_list_1 _) PySem.F.entry_list_init (code_list_new _ ⟨rfl,rfl⟩) fun obj s₁ h₁=>?_
 obtain ⟨rfl,rfl⟩:=h₁
 have hS:(s.heap.push { cls:=.type "list",data:=.seq #[] }).get? s.heap.objs.size=some { cls:=.type "list",data:=.seq #[] }:=Heap.get?_push_size _ rfl
 refine ⟨⟨_,hS,rfl⟩,PySem.F.args_list_init_2 _ _,?_⟩
 show wpAny _ A.in1.in1 (do let old ← Builtin.List.listItems (.ref s.heap.objs.size); Builtin.List.listUpdate (.ref s.heap.objs.size) (fun _=>#[]); letGo old.toList.reverse; Builtin.List.listExtendWith (.ref s.heap.objs.size) (.ref I) .none) _ _ _
 refine wpAny_bind ?_
 unfold Builtin.List.listItems
 refine wpAny_bind (wpAny_seqItems hS rfl (wpAny_pure ?_))
 show wpAny _ A.in1.in1 (updateSeq s.heap.objs.size (fun _=>#[]) >>= fun _=>letGo (#[]:Array Value).toList.reverse >>= fun _=>Builtin.List.listExtendWith (.ref s.heap.objs.size) (.ref I) .none) _ _ _
 refine wpAny_bind (wpAny_updateSeq hS rfl ?_)
 have hS2:=Heap.get?_update_self (Obj.mapSeq (fun _=>(#[]:Array Value))) hS rfl
 refine wpAny_bind (wpAny_letGo ?_)
 have kp:∀ b o,s.heap.get? b=some o→((s.heap.push { cls:=.type "list",data:=.seq #[] }).update s.heap.objs.size (Obj.mapSeq (fun _=>(#[]:Array Value)))).get? b=some o:=fun b o e =>
  (Heap.get?_update_other _ _ (Nat.ne_of_gt (Heap.lt_size e))).trans (Heap.get?_push_of_some _ e)
 revert hS2 kp
 generalize ((s.heap.push { cls:=.type "list",data:=.seq #[] }).update s.heap.objs.size (Obj.mapSeq (fun _=>(#[]:Array Value))))=h2
 intro hS2 kp
 have hI2:h2.IsRevIter I l ((items.size:Int) - 1):=hI.at fun o e=>kp I o e
 have hl2:h2.IsList l items:=hl.at fun o e=>kp l o e
 have hT:({ s with heap:=h2 }:Shared).TypeIs (.ref I) "list_reverseiterator":=Heap.IsRevIter.typeIs (s:={ s with heap:=h2 }) hI2
 have h1:Builtin.List.listSameRef (.ref s.heap.objs.size) (.ref I)=false:=by simp [Builtin.List.listSameRef,Nat.ne_of_gt hIl]
 unfold Builtin.List.listExtendWith
 refine wpAny_bind (wpAny_typeOf hT ?_)
 have g2:(Value.type "list_reverseiterator" == Value.type "list")=false:=by decide
 have g3:(Value.type "list_reverseiterator" == Value.type "tuple")=false:=by decide
 simp only [h1,g2,g3,Bool.or_false,Bool.false_eq_true,if_false]
 refine wpAny_bind (wpAny_pyIter_revIter hI2 ?_)
 refine wpAny_bind (wpAny_holding (rv_hint hT ?_))
 have W:=(Walks.listRev (prog:=P) (w:=w) (A:=A.in1.in1) hh I l hne items).toS
 have fin:∀ (s':Shared) (acc:Array Value) (c:Nat),Moved [s.heap.objs.size,I] (fun a b=>b=a) { s with heap:=h2 } s'→s'.heap.get? s.heap.objs.size=some { cls:=.type "list",dict:=none,data:=.seq acc c,slots:=#[] }→ItemsOf (fun i v=>items[items.size - 1 - i]?=some v) acc items.size→Value.none=Value.none∧Q (.ref s.heap.objs.size) s':=fun s' acc c mv hS' hit=>by
  refine ⟨rfl,?_⟩
  have e:s'={ s with heap:=s'.heap,toks:=s'.toks }:=by
   cases s' with
   | mk a1 a2 a3 a4 a5 =>
    have g1:a2=s.gens:=mv.gens
    have g2:a3=s.drawn:=mv.drawn
    have g3:a5=s.os:=mv.os
    rw [g1,g2,g3]
  rw [e]
  refine hQ _ _ acc c (fun b o hb eb=>mv.heap b o ?_ (kp b o eb)) hS' hit
  intro hm
  simp only [List.mem_cons,List.not_mem_nil,or_false] at hm
  rcases hm with rfl | rfl
  ·exact Nat.lt_irrefl _ (Heap.lt_size eb)
  ·exact hb rfl
 have hfp:s.heap.objs.size ∉ [I,l]:=fun hm=>by
  simp only [List.mem_cons,List.not_mem_nil,or_false] at hm
  rcases hm with h | h
  ·exact Nat.lt_irrefl _ (h ▸ hIl:s.heap.objs.size < s.heap.objs.size)
  ·exact Nat.lt_irrefl _ (h ▸ hll:s.heap.objs.size < s.heap.objs.size)
 have st0:0≤items.size∧h2.IsRevIter I l ((items.size:Int) - 1 - ((0:Nat):Int))∧h2.IsList l items:=⟨Nat.zero_le _,by simpa using hI2,hl2⟩
 refine wpAny_ite_split (fun z=>?_) (fun _=>wpAny_pure ⟨plainId_quiet PySem.F.plain_extend_loop _,codeAny_extend_loopS (A:=A.in1) W hn _ hfp _ items.size 0 _ _ _ rfl (Nat.zero_le _) st0 hS2 (ItemsOf.nil _) fin⟩)
 exact absurd z (by decide)
end
theorem vals_rev {f:Nat→Value} {vs:List V} {us:List Value} (h:Vals vs us):Vals vs.reverse us.reverse:=by
 induction h with
 | nil=>exact .nil
 | cons r _ ih=>rw [List.reverse_cons,List.reverse_cons]; exact ih.append (.cons r .nil)
theorem rev_items {items acc:Array Value} (h:ItemsOf (fun i v=>items[items.size - 1 - i]?=some v) acc items.size):acc.toList=items.toList.reverse:=by
 refine List.ext_getElem? fun j=>?_
 obtain ⟨h1,h2⟩:=h
 by_cases hj:j < items.size
 ·have e1:acc[j]?=some acc[j]:=by simp [h1,hj]
  have e2:=h2 j acc[j] e1
  rw [List.getElem?_reverse (by simpa using hj),Array.length_toList,Array.getElem?_toList,Array.getElem?_toList,e2,e1]
 ·rw [List.getElem?_eq_none (by simp [h1]; omega),List.getElem?_eq_none (by simp; omega)]
section
variable {X:Cx}
def tLRev (ta:TA) (K:PySem.W.Frag):TE:=fun σ H Q=>ta σ H fun vs H1=>∃ (l:Addr) (xs:List V),vs=[.ref l]∧SqL K H1 l xs∧∀ p,H1 p=none→Q (.ref p) (upd H1 p (.lst xs.reverse))
theorem pe_listRev {e:Expr} {ta:TA} {p p' pos pos':Pos} (hc:X.calm=true) (hg:Gl X "list") (hm:X.mg "list"=none) (hg':Gl X "reversed") (hm':X.mg "reversed"=none) (ha:PA X [e] ta) (hs:starEach [e] X.env=[(false,eval e X.env)]:=by rfl) (se_call:starEach [.Call (.Name "reversed" p') [e] [] pos'] X.env=[(false,eval (.Call (.Name "reversed" p') [e] [] pos') X.env)]:=by rfl) :
  PE X (.Call (.Name "list" p) [.Call (.Name "reversed" p') [e] [] pos'] [] pos) (tLRev ta X.K):=by
 intro pins s σ H Q I h
 refine wpAny_Call_Name_kw (ld_blt I hg hm boot_list ?_)
 refine PyProof.Rows.callWith_type1 ?_ se_call rfl
 show wpAny _ _ (spliced ((false,eval (.Call (.Name "reversed" p') [e] [] pos') X.env) :: backTo pos (starEach [] X.env))) _ _ s
 refine Calls.spliced_cons ?_
 refine Call_ (ld_blt I hg' hm' PyProof.Rows.Boot.«reversed» (PyProof.Rows.callWith_type1 (thn (ha pos' pins s σ H _ I h) fun us s1 ⟨vs,H1,I1,r1,q1⟩=>?_) hs rfl))
 obtain ⟨l,xs,rfl,hl,q⟩:=q1
 cases r1 with
 | cons r rr =>
  cases rr
  cases r
  obtain ⟨its,rv,pl,_⟩:=I1.list hl
  have isl:=pl.isList
  have hll:l < s1.heap.objs.size:=let ⟨_,ho,_⟩:=isl; Heap.lt_size ho
  refine PySem.call_reversed_list isl ?_
  refine Calls.spliced_nil ?_
  have I2:Inv X pins σ H1 { s1 with heap:=s1.heap.push (revObj l ((its.toArray.size:Int) - 1)) }:=I1.kept (t':=s1.toks) fun b o e=>Heap.get?_push_of_some _ e
  have hI:(s1.heap.push (revObj l ((its.toArray.size:Int) - 1))).IsRevIter s1.heap.objs.size l ((its.toArray.size:Int) - 1):=⟨_,Heap.get?_push_size _ rfl,rfl,rfl⟩
  have hl2:(s1.heap.push (revObj l ((its.toArray.size:Int) - 1))).IsList l its.toArray:=isl.at fun o e=>Heap.get?_push_of_some _ e
  have hz:its.length≤sizeLine:=by
   have:=(I1.list hl)
   obtain ⟨_,_,_,hz⟩:=this
   rw [← rv.length]; exact hz
  refine call_list_rev (I.ok.hd hc) hI hl2 (Nat.ne_of_lt hll) (by rw [List.size_toArray]; exact hz) fun h' tk acc c kp eS it=>?_
  have ea:=rev_items it
  have le:s1.heap.objs.size≤(s1.heap.push (revObj l ((its.toArray.size:Int) - 1))).objs.size:=by rw [Heap.size_push]; exact Nat.le_succ _
  refine ⟨.ref (s1.heap.push (revObj l ((its.toArray.size:Int) - 1))).objs.size,_,I1.laid (t':=tk) (fun b o e=>kp b o (Nat.ne_of_lt (Heap.lt_size e)) (Heap.get?_push_of_some _ e)) le (show ObjOk X.prog X.w _ h' _ (.lst xs.reverse) from ⟨by rw [List.length_reverse,rv.length]; exact hz,acc.toList,c,by rw [ea,List.toList_toArray]; exact vals_rev (f:=fun _=>.none) rv,by rw [Array.toArray_toList]; exact eS⟩),rfl,q _ (I1.hok.fresh le)⟩
end
structure TopD (P:Program) (w:World) (K:PySem.W.Frag) (d:Addr) (kvs:List (Key×V)):Prop where
 sys:(d == sysModules)=false
 is:∃ o es ep vs,K.lookup d=some o∧o.ExactDict∧o.data=.dict es ep∧KeysOf (mixKind P w) es∧Pairs (mixKind P w) es.toList vs∧(vs.map (·.1)).Nodup∧KV kvs vs
section
variable {X:Cx} {d:Addr} {kvs:List (Key×V)}
theorem TopD.dict {pins:List (Addr×Obj)} {σ:L2.St} {H:Hp} {s:Shared} (T:TopD X.prog X.w X.K d kvs) (I:Inv X pins σ H s):∃ vs,KV kvs vs∧s.heap.DictOf (mixKind X.prog X.w) d vs:=by
 obtain ⟨o,es,ep,vs,h1,h2,h3,h4,h5,h6,h7⟩:=T.is
 exact ⟨vs,h7,o,es,ep,I.kIn d o h1,h2,h3,h4,h5,h6⟩
theorem op_inTD (T:TopD X.prog X.w X.K d kvs):OpR X (compareOp .In) (fun x y H Q=>∃ k:Key,x=kV k∧y=.ref d∧Q (.bl (valV kvs k).isSome) H):=by
 intro pins s σ H x y v u Q I rx ry h
 obtain ⟨k,rfl,rfl,q⟩:=h
 cases ry
 obtain ⟨vs,rel,dd⟩:=T.dict I
 refine wpAny_in_of (kV_is rx) T.sys dd.mapOf ?_
 rw [← (rel.val k).isSome_eq]
 exact ⟨.bl _,H,I.tok _,rfl,q⟩
def tDGetT (d:Addr) (kvs:List (Key×V)) (td ty:TE):TE:=fun σ H Q=>td σ H fun x H1=>ty σ H1 fun y H2=>∃ (k:Key) (v:V),x=.ref d∧y=kV k∧valV kvs k=some v∧Q v H2
theorem pe_dgetT {o i:Expr} {pos:Pos} {td ty:TE} (T:TopD X.prog X.w X.K d kvs) (ho:PE X o td) (hi:PE X i ty) (hs:NoSl i):PE X (.Subscript o i pos) (tDGetT d kvs td ty):=by
 intro pins s σ H Q I h
 refine subD_of PySem.F.slot_dict_getitem.lookup hs (thn (ho pins s σ H _ I h) fun u s1 ⟨x,H1,I1,rx,q1⟩=>thn (hi pins s1 σ H1 _ I1 q1) fun iv s2 ⟨y,H2,I2,ry,k,v,ex,ey,l,q2⟩=>?_)
 subst ex ey
 obtain rfl:u=Value.ref d:=rx
 obtain ⟨vs,rel,dd⟩:=T.dict I2
 obtain ⟨w',hw,rw'⟩:=RelO.some_of (v:=v) (o:=valueAt vs k) (by rw [← l]; exact rel.val k)
 exact ⟨dd.typeIs,wpAny_getItem_of (kV_is ry) dd.mapOf hw ⟨v,H2,I2.tok _,rw',q2⟩⟩
end
section
variable {X:Cx}
def nT (i:Int):Str:=Str.ofString (toString i)
end
theorem call_intB {X:Cx}:CallR X (.type "int") (fun xs H Q=>∃ b:Bool,xs=[.bl b]∧Q (.int (if b then 1 else 0)) H):=by
 intro pins s σ H xs us Q I r h
 obtain ⟨b,rfl,q⟩:=h
 obtain ⟨u,rfl,rx⟩:=vals1 r
 cases rx
 exact call_int_bool ⟨.int _,H,I.tok _,⟨s.toks,rfl⟩,q⟩
def Itr2 (lo:Int) (n:Nat):It:=⟨fun i _=>i < n,fun i H x H'=>H'=H∧x=.int (lo + i * 2),fun i _=>n≤i⟩
theorem turn_range2 {P:Program} {w:World} {K:PySem.W.Frag} {tg:Expr} (it:Addr) (lo:Int) (n:Nat):Turn P w K tg (Itr2 lo n) [it] it (fun i h=>IsRangeIter h it (lo + (i:Nat) * 2) ((n:Int) - (i:Nat)) 2) where
 mem:=by simp
 obj:=fun i h st b hb=>by
  have e:b=it:=by simpa using hb
  subst e
  exact ⟨_,st,fun v z=>by
   have z':Data.fields _=Data.cell v:=z
   cases z'⟩
 keep:=fun i h h' st k=>k it (by simp) _ st
 item:=by
  intro X hP hw hK hc i pins s σ H E I hf st hg
  subst hP hw hK
  obtain ⟨f0,f1,f2,f3,f4,f5⟩:=hf it (by simp)
  have W:=Walks.range (prog:=X.prog) (w:=X.w) (I.ok.hd hc) it lo 2 n
  refine W.item i s _ _ hg st fun v h' tk hv st' kk=>?_
  obtain ⟨t,rfl⟩:=hv
  have I1:Inv X pins σ H { s with heap:=h',toks:=tk }:=I.turned (fun b o hb e=>kk b o (by simpa using hb) e) f0 f1 f3 f4 f5
  exact ⟨_,rfl,go_of (s:={ s with heap:=h',toks:=tk }) (n:="range_iterator") st' rfl rfl (by decide) ⟨.int (lo + i * 2),H,I1,⟨t,rfl⟩,⟨rfl,rfl⟩,st',fun b hb=>(hf b hb).1⟩⟩
 done:=by
  intro X hP hw hK hc i pins s σ H E I hf st hg
  subst hP hw hK
  obtain ⟨f0,f1,f2,f3,f4,f5⟩:=hf it (by simp)
  exact wpAny_pyNext_range_end (I.ok.hd hc) st (by have:n≤i:=hg; omega) fun h' eb=>⟨rfl,I.turned (t':=s.toks) (fun b o hb e=>eb b o hb e) f0 f1 f3 f4 f5⟩
 self:=fun _ _ _ _ _ st h=>wpAny_pyIter_rangeiter st h
theorem rangeSize_two (a b:Int):Builtin.Range.rangeSize a b 2=(((b - a + 1) / 2).toNat:Int):=by
 unfold Builtin.Range.rangeSize
 simp only [show (2:Int) > 0 by decide,if_true]
 split <;> omega
theorem small_two {a b:Int} (ha:0≤a) (ha':a < 1000) (hb:0≤b) (hb':b < 1000):Builtin.Range.small a b 2=true:=by
 unfold Builtin.Range.small
 rw [rangeSize_two]
 simp only [Builtin.Range.rangeFitsLong,Bool.and_eq_true,Bool.or_eq_true,decide_eq_true_eq,beq_iff_eq,show (2:Int) > 0 by decide,if_true]
 omega
section
variable {X:Cx} {tg:Expr}
def iRng3 (ta:TA):TI:=fun σ H R=>ta σ H fun vs H1=>∃ i j:Int,vs=[.int i,.int j,.int 2]∧(0≤i∧i < 1000∧0≤j∧j < 1000)∧R (Itr2 i ((j - i + 1) / 2).toNat) H1
theorem pi_range3 {a b c:Expr} {ta:TA} {p pos:Pos} (hg:Gl X "range") (hm:X.mg "range"=none) (ha:PA X [a,b,c] ta) (hs:starEach [a,b,c] X.env=[(false,eval a X.env),(false,eval b X.env),(false,eval c X.env)]:=by rfl)
  (hs2:starEach [b,c] X.env=[(false,eval b X.env),(false,eval c X.env)]:=by rfl):PI X tg (.Call (.Name "range" p) [a,b,c] [] pos) (iRng3 ta):=by
 intro pins s σ H R I h
 refine Call_ (ld_blt I hg hm boot_range (PyProof.Rows.callWith_type1 (thn (ha pos pins s σ H _ I h) fun us s1 ⟨vs,H1,I1,r1,q1⟩=>?_) (by rw [hs,hs2]) (by rw [hs2]; rfl)))
 obtain ⟨i,j,e,⟨q1,q2,q3,q4⟩,q⟩:=q1
 subst e
 cases r1 with
 | cons r rr =>
  cases rr with
  | cons r' rr =>
   cases rr with
   | cons r'' rr =>
    cases rr
    obtain ⟨t,rfl⟩:=r
    obtain ⟨t',rfl⟩:=r'
    obtain ⟨t'',rfl⟩:=r''
    refine call_range_3 (by decide) ?_ (Or.inl (PyProof.noPylong_small (by omega)))
    refine wpAny_pyIter_range (IsRange.new ..) (small_two q1 q2 q3 q4) ?_
    have I2:Inv X pins σ H1 { s1 with heap:=s1.heap.push { cls:=.type "range",data:=.fields #[.int i t,.int j t',.int 2 t''] },toks:=s1.toks }:=I1.kept fun b o e=>Heap.get?_push_of_some _ e
    refine ⟨(s1.heap.push { cls:=.type "range",data:=.fields #[.int i t,.int j t',.int 2 t''] }).objs.size,[(s1.heap.push { cls:=.type "range",data:=.fields #[.int i t,.int j t',.int 2 t''] }).objs.size],_,_,H1,rfl,
     I2.kept (t':=s1.toks) fun b o e=>Heap.get?_push_of_some _ e,turn_range2 _ i ((j - i + 1) / 2).toNat,?_,fun b hb=>?_,q⟩
    ·have e1:i + ((0:Nat):Int) * 2=i:=by simp
     have e2:((((j - i + 1) / 2).toNat:Nat):Int) - ((0:Nat):Int)=Builtin.Range.rangeSize i j 2:=by rw [rangeSize_two]; simp
     show IsRangeIter _ _ (i + ((0:Nat):Int) * 2) (((((j - i + 1) / 2).toNat:Nat):Int) - ((0:Nat):Int)) 2
     rw [e1,e2]
     exact Heap.get?_push_size _ rfl
    ·have e:b=(s1.heap.push { cls:=.type "range",data:=.fields #[.int i t,.int j t',.int 2 t''] }).objs.size:=by simpa using hb
     subst e
     exact I2.fpOk (Nat.le_refl _) (I2.hok.fresh (Nat.le_refl _))
end
theorem for_range2 {lo:Int} {n:Nat} {g:TG} {tb:TS} {D:Ends} {σ:L2.St} {H:Hp} (Pv:Nat→L2.St→Hp→Prop) (h0:Pv 0 σ H)
  (hs:∀ i σ H,i < n→Pv i σ H→g (.int (lo + i * 2)) σ H fun σ2 H2=>tb { D with nx:=Pv (i + 1),ct:=Pv (i + 1),bk:=D.nx } σ2 H2) (hd:∀ σ H,Pv n σ H→D.nx σ H) :
  ∃ W:Nat→Nat→L2.St→Hp→Prop,(∃ m,W 0 m σ H)∧∀ i m σ H,W i m σ H →
   ((Itr2 lo n).stop i H∧D.nx σ H)∨((Itr2 lo n).go i H∧∃ N:L2.St→Hp→Prop,(∀ σ' H',N σ' H'→∃ m',m' < m∧W (i + 1) m' σ' H')∧∀ x H',(Itr2 lo n).yld i H x H'→g x σ H' fun σ2 H2=>tb { D with nx:=N,ct:=N,bk:=D.nx } σ2 H2):=by
 refine ⟨fun i m σ H=>m=n - i∧i≤n∧Pv i σ H,⟨n,by simp,Nat.zero_le _,h0⟩,?_⟩
 rintro i m σ H ⟨rfl,hi,p⟩
 by_cases hlt:i < n
 ·refine .inr ⟨hlt,Pv (i + 1),fun σ' H' p'=>⟨n - (i + 1),by omega,rfl,hlt,p'⟩,fun x H' y=>?_⟩
  obtain ⟨e,y⟩:=y
  subst e y
  exact hs i σ _ hlt p
 ·have e:i=n:=by omega
  subst e
  exact .inl ⟨Nat.le_refl _,hd σ H p⟩
section
variable {X:Cx}
def rpS (x:Str) (n:Nat):Str:=⟨(List.replicate n x.cps).foldl (· ++ ·) #[]⟩
theorem foldl_app:∀ (l:List (Array Nat)) (a:Array Nat),(l.foldl (· ++ ·) a).toList=a.toList ++ (l.map Array.toList).flatten
 | [],a=>by simp
 | x :: l,a=>by
  rw [List.foldl_cons,foldl_app l (a ++ x),Array.toList_append,List.map_cons,List.flatten_cons,List.append_assoc]
theorem rpS_cps (x:Str) (n:Nat):(rpS x n).cps.toList=(List.replicate n x.cps.toList).flatten:=by
 unfold rpS
 rw [foldl_app]
 simp
theorem rpS_len (x:Str) (n:Nat):(rpS x n).length=x.length * n:=by
 have h:(rpS x n).cps.toList.length=(rpS x n).length:=Array.length_toList
 have h2:x.cps.toList.length=x.length:=Array.length_toList
 rw [← h,rpS_cps,List.length_flatten,List.map_replicate,List.sum_replicate_nat,h2,Nat.mul_comm]
theorem rpS_one (x:Str):rpS x 1=x:=by
 unfold rpS
 obtain ⟨a⟩:=x
 simp
theorem op_mulS:OpR X (binaryOp .Mult) (fun x y H Q=>∃ (a:Str) (n:Nat),x=.str a∧y=.int (n:Int)∧1≤n∧1≤a.length∧a.length≤1000∧a.length * n≤16000000∧Q (.str (rpS a n)) H):=by
 intro pins s σ H x y v u Q I rx ry h
 obtain ⟨a,n,rfl,rfl,h2,h1,h3,hl,q⟩:=h
 obtain ⟨t,rfl⟩:=rx
 obtain ⟨t',rfl⟩:=ry
 have hn:n≤16000000:=Nat.le_trans (Nat.le_mul_of_pos_left n h1) hl
 have e1:¬ ((n:Int) < 1):=by omega
 by_cases hn1:n=1
 ·subst hn1
  have e2:(((1:Nat):Int) == 1 || a.length == 0)=true:=by simp
  refine PySem.P.mul_str ?_ (fun _ h=>?_) (fun _ h=>?_) ?_
  ·decide
  ·rw [e2] at h; cases h
  ·rw [e2] at h; cases h
  ·rw [if_neg e1,if_pos e2]
   rw [rpS_one] at q
   exact ⟨.str a,H,I,⟨_,rfl⟩,q⟩
 have e2:((n:Int) == 1 || a.length == 0)=false:=by
  rw [Bool.or_eq_false_iff]
  exact ⟨by simp; omega,by simp; omega⟩
 refine PySem.P.mul_str ?_ (fun _ _=>?_) (fun _ _=>?_) ?_
 ·rw [Bool.or_eq_false_iff]
  exact ⟨decide_eq_false (by omega),decide_eq_false (by omega)⟩
 ·intro hgt
  have:(2 ^ 63 - 1:Int) / (n:Int) ≥ 1000:=by
   rw [ge_iff_le,Int.le_ediv_iff_mul_le (by omega)]
   omega
  omega
 ·exact decide_eq_false (by rw [sizeLine_eq,Int.toNat_natCast]; omega)
 ·rw [if_neg e1,if_neg (by rw [e2]; decide)]
  exact ⟨Nat.le_trans (m:=16000000) (by have:=rpS_len a n; unfold rpS at this; rw [Int.toNat_natCast]; omega) (by rw [sizeLine_eq]; omega),.str _,H,I.tok _,⟨_,rfl⟩,q⟩
end
end BF
namespace K22
open PySem PySem.Spec PyProof.Rows L2 BF
def top (i:Nat):Stmt:=PySem.Challenge.pw_bothfaces_k22_no_drawings.main.body.getD i (.Pass ⟨0,0,0,0⟩)
abbrev sColour:Stmt:=top 23
abbrev sNext:Stmt:=top 31
abbrev sExpect:Stmt:=top 32
abbrev sNumW:Stmt:=top 33
abbrev sNumber:Stmt:=top 34
abbrev sRdLine:Stmt:=top 35
abbrev sRdBy:Stmt:=top 36
abbrev sRdInk:Stmt:=top 37
abbrev sRdTurn:Stmt:=top 38
abbrev sRdTimes:Stmt:=top 39
abbrev sRdInner:Stmt:=top 40
abbrev sRdStroke:Stmt:=top 41
abbrev sRdRow:Stmt:=top 42
abbrev sRead:Stmt:=top 43
abbrev sCell:Stmt:=top 45
abbrev sNum:Stmt:=top 46
abbrev sWays:Stmt:=top 47
abbrev sFar:Stmt:=top 48
abbrev sPlain:Stmt:=top 49
abbrev sHead:Stmt:=top 50
abbrev sClosed:Stmt:=top 51
abbrev sTree:Stmt:=top 52
abbrev sWord:Stmt:=top 53
abbrev sSpoilt:Stmt:=top 54
abbrev sText:Stmt:=top 55
abbrev sWholeIn:Stmt:=top 56
abbrev sBegun:Stmt:=top 57
abbrev sSimple:Stmt:=top 58
abbrev sLRead:Stmt:=top 59
abbrev sIsOther:Stmt:=top 60
abbrev sRefused:Stmt:=top 61
abbrev sRight:Stmt:=top 62
abbrev sLaw:Stmt:=top 63
structure Blt (mg:Str→Option Value):Prop where
 isi:mg "isinstance"=none
 int:mg "int"=none
 list:mg "list"=none
 str:mg "str"=none
 len:mg "len"=none
 all:mg "all"=none
 range:mg "range"=none
 abs:mg "abs"=none
 max:mg "max"=none
 min:mg "min"=none
 rev:mg "reversed"=none
 val:mg "ValueError"=none
 far:∃ t,mg "FARTHEST"=some (.int 1000000000 t)
 lon:∃ t,mg "LONGEST"=some (.int 9 t)
 most:∃ t,mg "MOST_LETTERS"=some (.int 8 t)
 sig:∃ t,mg "MOST_SIGNS"=some (.int 2000 t)
 fig:∃ t,mg "MOST_FIGURES"=some (.int 10 t)
 dep:∃ t,mg "MOST_DEPTH"=some (.int 8 t)
 rou:∃ t,mg "MOST_ROUNDS"=some (.int 60 t)
 las:∃ t,mg "LAST_TURNING"=some (.int 7 t)
seal L2.PE L2.PA L2.PS L2.PSs L2.PT L2.PW L2.PG L2.PGs L2.PI BF.PTs L2.PPs L2.PO
def spColour:Sp:=fun vs H Q _=>∃ u k,vs=[u]∧Knd H u k∧(∀ z,u=.str z→z.length≤sizeLine)∧∀ H',Same H H'→Q (.bl (colB u)) H'
section
variable {P:Program} {w:World} {K:PySem.W.Frag} {mg:Str→Option Value} {base:Heap}
theorem colB_len {z:Str} (h:1≤z.length) (h':z.length≤8):colB (.str z)=z.cps.toList.all okSign:=by
 show (decide (1≤z.length) && decide (z.length≤8) && z.cps.toList.all okSign)=_
 rw [decide_eq_true h,decide_eq_true h']; rfl
theorem colB_no {z:Str} (h:¬ (1≤z.length∧z.length≤8)):colB (.str z)=false:=by
 show (decide (1≤z.length) && decide (z.length≤8) && z.cps.toList.all okSign)=_
 by_cases h1:1≤z.length
 ·rw [decide_eq_false (p:=z.length≤8) fun h2=>h ⟨h1,h2⟩,Bool.and_false,Bool.false_and]
 ·rw [decide_eq_false h1,Bool.false_and,Bool.false_and]
theorem all_id (cs:List Nat):(cs.map okSign).all id=cs.all okSign:=by
 rw [List.all_map]; rfl
theorem scColour:FnScope ["thing"] ["thing"] (defScope sColour):=⟨rfl,rfl,rfl,by decide +kernel,rfl,by decide +kernel,by decide +kernel⟩
theorem ok_colour {f:Addr} {fd:FuncData} (D:Df K mg "is_colour" sColour f fd) (B:Blt mg):FnOk P w K mg base CX0 1 f fd ["thing"] spColour:=by
 obtain ⟨tm,most⟩:=B.most
 refine D.F.ok scColour (fun vs H Q E h=>?_) (fun cdv A outer s H vs Q E hr h=>?_)
 ·obtain ⟨u,k,rfl,_⟩:=h
  rfl
 ·obtain ⟨u,k,rfl,kd,hz,q⟩:=h
  refine ⟨_,pss_cons (ps_if (PW.pt (pw_or (pt_not (pt_val (pe_callB call_isi (by rfl) B.isi boot_isinstance (pa_cons (pv 0) (pa_cons (pe_bltn (v:=.ty "str") (by rfl) B.str boot_str rfl) pa_nil)))))
    (pw_or1 (pt_not (pt_chain op_le op_le pe_int (pe_callB call_len_str (by rfl) B.len PySem.boot_len (pa_cons (pv 0) pa_nil)) (pe_glob (v:=.int 8) rfl most ⟨_,rfl⟩))))))
    (pss_one (ps_ret pe_bl)) pss_nil)
   (pss_one (ps_ret (pe_callB (call_all rfl) (by rfl) B.all boot_all (pa_cons
    (pe_comp (N':=["sign"]) (idx:=[none]) (compOk_of (by kernel_rfl)) (by kernel_rfl) rfl (pi_str (pv 0)) (fun _ _ _ _ _=>pg_name (i:=0) (show (["sign"]:List Str).Nodup by decide +kernel) rfl (Or.inl rfl)) (fun _ _ _ _ _=>pts_nil)
     (fun _ _ _ _ _=>pe_chain op_leS op_leS pe_str (pv 0) pe_str)) pa_nil)))),?_⟩
  refine ⟨_,rfl,u,k,.str,rfl,kd,_,rfl,?_⟩
  cases kd with
  | str z =>
   have hz':=hz z rfl
   refine iteF ⟨_,rfl,z,rfl,hz',_,_,rfl,rfl,_,rfl,?_⟩
   by_cases h1:(1:Int)≤(z.length:Int)
   ·refine ifD_pos h1 ⟨_,_,rfl,rfl,_,rfl,?_⟩
    by_cases h2:(z.length:Int)≤8
    ·rw [decide_eq_true h2]
     refine iteF ⟨_,rfl,z,rfl,fun D nD=>?_⟩
     refine comp_n (J:=Its z) (n:=z.cps.size) (fun i σ2 H2=>(∃ v,σ2=[v])∧Same H H2∧H2 D=some (.lst (((z.cps.toList.take i).map okSign).map V.bl))) ?_ (fun i σ2 H2 hi _=>hi) ?_ ?_
     ·exact ⟨⟨_,rfl⟩,same_upd nD,upd_same⟩
     ·rintro σ2 H2 ⟨⟨v,rfl⟩,S2,e2⟩
      refine ⟨rfl,D,z.cps.toList.map okSign,rfl,SqL.of ?_,?_⟩
      ·rw [e2,List.take_of_length_le (by rw [Array.length_toList]; exact Nat.le_refl _)]
      ·rw [all_id,← colB_len (by omega) (by omega)]
       exact q H2 S2
     ·rintro i σ2 H2 hi ⟨⟨v,rfl⟩,S2,e2⟩ x H3 ⟨rfl,c,hc,rfl⟩
      refine ⟨_,rfl,_,_,rfl,rfl,_,rfl,?_⟩
      have fin:∀ b:Bool,b=okSign c→∃ ys,H3 D=some (.lst ys)∧ys.length < sizeLine∧((∃ v,[some (V.str ⟨#[c]⟩)]=[v])∧Same H (upd H3 D (.lst (ys ++ [V.bl b])))∧upd H3 D (.lst (ys ++ [V.bl b])) D=some (.lst (((z.cps.toList.take (i + 1)).map okSign).map V.bl))):=by
       rintro b rfl
       refine ⟨_,e2,?_,⟨_,rfl⟩,?_,?_⟩
       ·rw [List.length_map,List.length_map,List.length_take]
        exact small1000 (by have:=Nat.min_le_right i z.cps.toList.length; have e:=len_cps z; omega)
       ·intro b' o' hb'
        rw [upd_ne (ne_of_none hb' nD)]
        exact S2 _ _ hb'
       ·rw [upd_same,List.take_succ,List.map_append,List.map_append,Array.getElem?_toList,hc]
        rfl
      by_cases g1:97≤c
      ·refine ifB_pos ?_ ⟨_,_,rfl,rfl,fin _ ?_⟩
       ·show (!decide (([c]:List Nat) < ("a":Str).cps.toList))=true
        rw [cps_a,lt1,decide_eq_false (by omega)]; rfl
       ·show (!decide (("z":Str).cps.toList < ([c]:List Nat)))=_
        rw [cps_z,lt1]
        unfold okSign
        rw [decide_eq_true g1,Bool.true_and]
        by_cases g2:c≤122
        ·rw [decide_eq_false (by omega),decide_eq_true g2]; rfl
        ·rw [decide_eq_true (by omega),decide_eq_false g2]; rfl
      ·refine ifB_neg ?_ (fin _ ?_)
       ·show (!decide (([c]:List Nat) < ("a":Str).cps.toList))=false
        rw [cps_a,lt1,decide_eq_true (by omega)]; rfl
       ·unfold okSign
        rw [decide_eq_false g1,Bool.false_and]
    ·rw [decide_eq_false h2]
     refine iteT ?_
     rw [← colB_no (z:=z) (by omega)]
     exact q H (Same.refl H)
   ·refine ifD_neg h1 ⟨_,rfl,iteT ?_⟩
    rw [← colB_no (z:=z) (by omega)]
    exact q H (Same.refl H)
  | int i=>exact iteT (q H (Same.refl H))
  | bl b=>exact iteT (q H (Same.refl H))
  | non=>exact iteT (q H (Same.refl H))
  | lst e=>exact iteT (q H (Same.refl H))
  | tup e=>exact iteT (q H (Same.refl H))
  | dic e=>exact iteT (q H (Same.refl H))
end
inductive Sk where
 | line (l:Bool) (a b:Int)
 | by_ (a b:Int)
 | ink (c:Str)
 | back (u:List Sk)
 | times (m:Nat) (u:List Sk)
 | turn (k:Nat) (u:List Sk)
mutual
inductive SkIs (H:Hp):V→Sk→Prop where
 | line {q:Addr} {l:Bool} {a b:Int} (e:H q=some (.tup [.str "line",.int a,.int b])):SkIs H (.ref q) (.line l a b)
 | by_ {q:Addr} {a b:Int} (e:H q=some (.tup [.str "by",.int a,.int b])):SkIs H (.ref q) (.by_ a b)
 | ink {q:Addr} {c:Str} (e:H q=some (.tup [.str "ink",.str c])):SkIs H (.ref q) (.ink c)
 | back {q l:Addr} {ys:List V} {u:List Sk} (e:H q=some (.tup [.str "back",.ref l])) (el:H l=some (.lst ys)) (h:SksIs H ys u):SkIs H (.ref q) (.back u)
 | times {q l:Addr} {ys:List V} {m:Nat} {u:List Sk} (e:H q=some (.tup [.str "times",.int (m:Int),.ref l])) (el:H l=some (.lst ys)) (h:SksIs H ys u):SkIs H (.ref q) (.times m u)
 | turn {q l:Addr} {ys:List V} {k:Nat} {u:List Sk} (e:H q=some (.tup [.str "turn",.int (k:Int),.ref l])) (el:H l=some (.lst ys)) (h:SksIs H ys u):SkIs H (.ref q) (.turn k u)
inductive SksIs (H:Hp):List V→List Sk→Prop where
 | nil:SksIs H [] []
 | cons {v:V} {s:Sk} {vs:List V} {ss:List Sk} (h:SkIs H v s) (t:SksIs H vs ss):SksIs H (v :: vs) (s :: ss)
end
mutual
theorem SkIs.same {H H':Hp} (S:Same H H'):∀ {s:Sk} {v:V},SkIs H v s→SkIs H' v s
 | .line _ _ _,_,.line e=>.line (S _ _ e)
 | .by_ _ _,_,.by_ e=>.by_ (S _ _ e)
 | .ink _,_,.ink e=>.ink (S _ _ e)
 | .back _,_,.back e el h=>.back (S _ _ e) (S _ _ el) (SksIs.same S h)
 | .times _ _,_,.times e el h=>.times (S _ _ e) (S _ _ el) (SksIs.same S h)
 | .turn _ _,_,.turn e el h=>.turn (S _ _ e) (S _ _ el) (SksIs.same S h)
theorem SksIs.same {H H':Hp} (S:Same H H'):∀ {ss:List Sk} {vs:List V},SksIs H vs ss→SksIs H' vs ss
 | [],_,.nil=>.nil
 | _ :: _,_,.cons h t=>.cons (SkIs.same S h) (SksIs.same S t)
end
theorem SksIs.length {H:Hp}:∀ {ss:List Sk} {vs:List V},SksIs H vs ss→vs.length=ss.length
 | [],_,.nil=>rfl
 | _ :: _,_,.cons _ t=>by rw [List.length_cons,List.length_cons,SksIs.length t]
theorem SksIs.at {H:Hp}:∀ {ss:List Sk} {vs:List V},SksIs H vs ss→∀ {i:Nat} {v:V},vs[i]?=some v→∃ s,ss[i]?=some s∧SkIs H v s
 | [],_,.nil,i,v,e=>by simp at e
 | s :: ss,_,.cons h t,0,v,e=>by
  have e':=Option.some.inj e
  subst e'
  exact ⟨s,rfl,h⟩
 | s :: ss,_,.cons h t,i + 1,v,e=>by
  obtain ⟨s',a,b⟩:=SksIs.at t (i:=i) (v:=v) (by simpa using e)
  exact ⟨s',by simpa using a,b⟩
theorem SksIs.snoc {H:Hp}:∀ {ss:List Sk} {vs:List V},SksIs H vs ss→∀ {v:V} {s:Sk},SkIs H v s→SksIs H (vs ++ [v]) (ss ++ [s])
 | [],_,.nil,_,_,h=>.cons h .nil
 | _ :: _,_,.cons q t,_,_,h=>.cons q (SksIs.snoc t h)
mutual
def Sk.gd:Sk→Nat→Prop
 | .line _ _ _,_=>True
 | .by_ _ _,_=>True
 | .ink _,_=>True
 | .back u,d=>∃ e,d=e + 1∧gds u e
 | .times m u,d=>m≤60∧∃ e,d=e + 1∧gds u e
 | .turn k u,d=>k < 8∧∃ e,d=e + 1∧gds u e
def gds:List Sk→Nat→Prop
 | [],_=>True
 | s :: r,d=>s.gd d∧gds r d
end
theorem gds_at:∀ {ss:List Sk} {d:Nat},gds ss d→∀ s∈ss,s.gd d
 | s :: r,d,h,x,hx=>by
  simp only [gds] at h
  rcases List.mem_cons.mp hx with rfl | hx
  ·exact h.1
  ·exact gds_at h.2 x hx
def ways8:List (Str×(Int×Int)):=[("n",(0,1)),("ne",(1,1)),("e",(1,0)),("se",(1,-1)),("s",(0,-1)),("sw",(-1,-1)),("w",(-1,0)),("nw",(-1,1))]
def wayW (a b:Int):Option Str:=(ways8.find? fun x=>decide (x.2=(a,b))).map (·.1)
def lineW (a b:Int):List Str:=match wayW a b with
 | some x=>[x]
 | none=>["line",nT a,nT b]
def lnW:Bool→Int→Int→List Str
 | true,a,b=>["line",nT a,nT b]
 | false,a,b=>lineW a b
mutual
def Sk.wd:Sk→List Str
 | .line l a b=>lnW l a b
 | .by_ a b=>["by",nT a,nT b]
 | .ink c=>["ink",c]
 | .back u=>"(" :: (wds u ++ [(")":Str)])
 | .times m u=>nT (m:Int) :: "times" :: "(" :: (wds u ++ [(")":Str)])
 | .turn k u=>"turn" :: nT (k:Int) :: "(" :: (wds u ++ [(")":Str)])
def wds:List Sk→List Str
 | []=>[]
 | s :: r=>s.wd ++ wds r
end
theorem wds_app:∀ (u v:List Sk),wds (u ++ v)=wds u ++ wds v
 | [],v=>by simp only [List.nil_append,wds]
 | s :: u,v=>by simp only [List.cons_append,wds,wds_app u v,List.append_assoc]
mutual
def Sk.cn:Sk→Prop
 | .line l _ _=>l=false
 | .by_ _ _=>True
 | .ink _=>True
 | .back u=>cns u
 | .times _ u=>cns u
 | .turn _ u=>cns u
def cns:List Sk→Prop
 | []=>True
 | s :: r=>s.cn∧cns r
end
mutual
def Sk.vd:Sk→Nat→Prop
 | .line _ a b,_=>(-9≤a∧a≤9)∧(-9≤b∧b≤9)∧¬ (a=0∧b=0)
 | .by_ a b,_=>(-1000000000≤a∧a≤1000000000)∧(-1000000000≤b∧b≤1000000000)
 | .ink c,_=>colB (.str c)=true
 | .back u,d=>u≠[]∧∃ e,d=e + 1∧vds u e
 | .times m u,d=>1≤m∧m≤60∧u≠[]∧∃ e,d=e + 1∧vds u e
 | .turn k u,d=>k < 8∧u≠[]∧∃ e,d=e + 1∧vds u e
def vds:List Sk→Nat→Prop
 | [],_=>True
 | s :: r,d=>s.vd d∧vds r d
end
end K22
namespace K22
open PySem PySem.Spec PyProof.Rows L2 BF PySem.NumText
seal L2.PE L2.PA L2.PS L2.PSs L2.PT L2.PW L2.PG L2.PGs L2.PI BF.PTs L2.PPs L2.PO
def dg (m:Nat):List Nat:=(Nat.toDigits 10 m).map Char.toNat
theorem dg_small {m:Nat} (h:m < 10):dg m=[48 + m]:=by
 unfold dg
 rw [Nat.toDigits_of_lt_base h]
 have:m=0∨m=1∨m=2∨m=3∨m=4∨m=5∨m=6∨m=7∨m=8∨m=9:=by omega
 rcases this with rfl | rfl | rfl | rfl | rfl | rfl | rfl | rfl | rfl | rfl <;> rfl
theorem dg_big {m:Nat} (h:10≤m):dg m=dg (m / 10) ++ [48 + m % 10]:=by
 have e:=dg_small (m:=m % 10) (by omega)
 unfold dg at e ⊢
 rw [Nat.toDigits_of_lt_base (by omega)] at e
 rw [Nat.toDigits_of_base_le (by decide) h,List.map_append]
 congr 1
theorem dg_all:∀ (n m:Nat),m≤n→AllDigits (dg m)
 | 0,m,h=>by
  have:m=0:=by omega
  subst this
  rw [dg_small (by decide)]
  intro c hc
  rw [List.mem_singleton.mp hc]
  decide
 | n + 1,m,h=>by
  by_cases h10:m < 10
  ·rw [dg_small h10]
   intro c hc
   rw [List.mem_singleton.mp hc]
   omega
  ·rw [dg_big (by omega)]
   intro c hc
   rcases List.mem_append.mp hc with hc | hc
   ·exact dg_all n (m / 10) (by omega) c hc
   ·rw [List.mem_singleton.mp hc]
    omega
theorem dg_head:∀ (n m:Nat),m≤n→1≤m→∃ c r,dg m=c :: r∧49≤c
 | 0,m,h,h1=>by omega
 | n + 1,m,h,h1=>by
  by_cases h10:m < 10
  ·exact ⟨_,_,dg_small h10,by omega⟩
  ·obtain ⟨c,r,e,hc⟩:=dg_head n (m / 10) (by omega) (by omega)
   exact ⟨c,r ++ [48 + m % 10],by rw [dg_big (by omega),e]; rfl,hc⟩
theorem dg_ne (m:Nat):dg m≠[]:=by
 by_cases h:m=0
 ·subst h; rw [dg_small (by decide)]; simp
 ·obtain ⟨c,r,e,_⟩:=dg_head m m (Nat.le_refl _) (by omega)
  rw [e]; simp
theorem dg_lenk:∀ (k m:Nat),m < 10 ^ (k + 1)→(dg m).length≤k + 1
 | 0,m,h=>by rw [dg_small (by simpa using h)]; exact Nat.le_refl _
 | k + 1,m,h=>by
  by_cases h10:m < 10
  ·rw [dg_small h10]
   show 1≤_
   omega
  ·rw [dg_big (by omega),List.length_append]
   have:=dg_lenk k (m / 10) (by rw [Nat.pow_succ] at h; omega)
   show _ + 1≤_
   omega
theorem dg_len {m:Nat} (h:m < 10 ^ 10):(dg m).length≤10:=dg_lenk 9 m h
theorem nT_nat (m:Nat):(nT (m:Int)).cps.toList=dg m:=PySem.W.KIN.signs_num m
theorem nT_neg (m:Nat) (h:1≤m):(nT (-(m:Int))).cps.toList=45 :: dg m:=by
 obtain ⟨k,rfl⟩:∃ k,m=k + 1:=⟨m - 1,by omega⟩
 have e:=nT_nat (k + 1)
 unfold nT at e ⊢
 have e2:(-((k + 1:Nat):Int))=Int.negSucc k:=by omega
 rw [e2]
 rw [signs_ofString] at e ⊢
 have t:toString (Int.negSucc k)="-" ++ toString (k + 1):=rfl
 have t2:toString ((k + 1:Nat):Int)=toString (k + 1):=rfl
 rw [t2] at e
 rw [t,String.toList_append,List.map_append,e]
 rfl
theorem nT_reads {n:Int} (h:n.natAbs < 10 ^ 10):PySem.intText? (nT n)=some n∧(nT n).length≤640:=by
 have len:∀ x:Str,x.cps.toList.length=x.length:=fun x=>Array.length_toList
 by_cases h0:0≤n
 ·obtain ⟨m,rfl⟩:=Int.eq_ofNat_of_zero_le h0
  refine ⟨PySem.W.KIN.num_reads h0 (by omega),?_⟩
  have:=dg_len (m:=m) (by omega)
  rw [← nT_nat,len] at this
  omega
 ·obtain ⟨m,hm⟩:∃ m:Nat,n=-(m:Int):=⟨n.natAbs,by omega⟩
  subst hm
  have hm1:1≤m:=by omega
  have e:=nT_neg m hm1
  have hl:=dg_len (m:=m) (by omega)
  have ll:(nT (-(m:Int))).length≤11:=by
   rw [← len,e,List.length_cons]
   omega
  refine ⟨?_,by omega⟩
  rw [intText_neg e (dg_all m m (Nat.le_refl _)) (dg_ne m) (by omega)]
  have:=PySem.W.KIN.val_back m
  show some (-((digitsVal (dg m):Nat):Int))=_
  rw [show digitsVal (dg m)=m from this]
theorem len_cpsL (x:Str):x.cps.toList.length=x.length:=Array.length_toList
def dig (c:Nat):Bool:=decide (48≤c) && decide (c≤57)
theorem dig_iff {c:Nat}:dig c=true↔48≤c∧c≤57:=by
 unfold dig
 rw [Bool.and_eq_true,decide_eq_true_iff,decide_eq_true_iff]
def fgs (x:Str):List Nat:=match x.cps.toList with
 | 45 :: cs=>cs
 | l=>l
def isMin (x:Str):Bool:=match x.cps.toList with
 | 45 :: _=>true
 | _=>false
def fgS (x:Str):Str:=⟨(fgs x).toArray⟩
theorem fgs_min {x:Str} {cs:List Nat} (h:x.cps.toList=45 :: cs):fgs x=cs∧isMin x=true:=by
 unfold fgs isMin
 rw [h]
 exact ⟨rfl,rfl⟩
theorem fgs_no {x:Str} (h:∀ cs,x.cps.toList≠45 :: cs):fgs x=x.cps.toList∧isMin x=false:=by
 unfold fgs isMin
 split
 ·rename_i cs e
  exact absurd e (h cs)
 ·exact ⟨rfl,rfl⟩
theorem min_cases (x:Str):(∃ cs,x.cps.toList=45 :: cs)∨∀ cs,x.cps.toList≠45 :: cs:=Classical.or_iff_not_imp_left.mpr fun h cs e=>h ⟨cs,e⟩
theorem starts_min (x:Str):Txt.startswith x "-"=isMin x:=by
 have e:Txt.startswith x "-"=(decide (0 + (Str.ofString "-").length≤x.length) && (x.cps.extract 0 (0 + (Str.ofString "-").length) == (Str.ofString "-").cps)):=rfl
 rw [e]
 have e2:(x.cps.extract 0 (0 + (Str.ofString "-").length) == (Str.ofString "-").cps)=(x.cps.extract 0 1 == #[45]):=rfl
 have e3:(decide (0 + (Str.ofString "-").length≤x.length))=decide (1≤x.length):=rfl
 rw [e2,e3]
 obtain ⟨a⟩:=x
 obtain ⟨l⟩:=a
 rcases min_cases ⟨⟨l⟩⟩ with ⟨cs,h⟩ | h
 ·rw [(fgs_min h).2]
  have h':l=45 :: cs:=h
  subst h'
  have:((45 :: cs).toArray.extract 0 1 == #[45])=true:=by simp
  show (decide (1≤(45 :: cs).toArray.size) && ((45 :: cs).toArray.extract 0 1 == #[45]))=true
  rw [this]
  simp
 ·rw [(fgs_no h).2]
  cases l with
  | nil=>rfl
  | cons c r =>
   have hc:c≠45:=fun e=>h r (by rw [e])
   show (decide (1≤(c :: r).toArray.size) && ((c :: r).toArray.extract 0 1 == #[45]))=false
   have:((c :: r).toArray.extract 0 1 == #[45])=false:=by simp [hc]
   rw [this,Bool.and_false]
theorem fgS_no {x:Str} (h:isMin x=false):fgS x=x:=by
 rcases min_cases x with ⟨cs,e⟩ | e
 ·rw [(fgs_min e).2] at h; cases h
 ·unfold fgS
  rw [(fgs_no e).1]
theorem fgS_min {x:Str} (h:isMin x=true):Txt.slice x (some 1) none=fgS x:=by
 rcases min_cases x with ⟨cs,e⟩ | e
 ·have hl:x.length=cs.length + 1:=by rw [← len_cpsL,e,List.length_cons]
  rw [slice_from_eq (x:=x) (i:=1) (b:=(x.length:Int)) (by decide) (by omega) rfl,e,hl]
  unfold fgS
  rw [(fgs_min e).1]
  have e3:((45 :: cs).drop (1:Int).toNat).take (((cs.length + 1:Nat):Int) - 1).toNat=cs:=by
   show ((45 :: cs).drop 1).take _=_
   rw [List.drop_succ_cons,List.drop_zero,List.take_of_length_le (by omega)]
  rw [e3]
 ·rw [(fgs_no e).2] at h; cases h
theorem fgs_le (x:Str):(fgs x).length≤x.length:=by
 rw [← len_cpsL]
 rcases min_cases x with ⟨cs,e⟩ | e
 ·rw [(fgs_min e).1,e,List.length_cons]; omega
 ·rw [(fgs_no e).1]; exact Nat.le_refl _
def numB (x:Str):Bool:=(fgs x).all dig && (decide (1≤(fgs x).length) && decide ((fgs x).length≤10)) && (decide (x="0") || !decide ((fgs x).head?=some 48))
theorem val_lt:∀ (n:Nat) (cs:List Nat),cs.length=n→AllDigits cs→digitsVal cs < 10 ^ n
 | 0,cs,h,_=>by
  rw [List.eq_nil_of_length_eq_zero h]
  decide
 | n + 1,cs,h,a=>by
  rcases List.eq_nil_or_concat cs with rfl | ⟨cs',c,rfl⟩
  ·cases h
  ·rw [List.concat_eq_append] at *
   rw [List.length_append] at h
   have hl:cs'.length=n:=by have:[c].length=1:=rfl; omega
   have ih:=val_lt n cs' hl (fun d hd=>a d (List.mem_append.mpr (.inl hd)))
   have hc:=a c (List.mem_append.mpr (.inr (List.mem_singleton.mpr rfl)))
   rw [digitsVal_snoc,Nat.pow_succ]
   omega
theorem map_back {cs:List Nat} (a:AllDigits cs):(cs.map Char.ofNat).map Char.toNat=cs:=by
 induction cs with
 | nil=>rfl
 | cons c r ih =>
  rw [List.map_cons,List.map_cons,ih fun d hd=>a d (List.mem_cons_of_mem _ hd)]
  have hc:=a c List.mem_cons_self
  have:c=48∨c=49∨c=50∨c=51∨c=52∨c=53∨c=54∨c=55∨c=56∨c=57:=by omega
  congr 1
  rcases this with rfl | rfl | rfl | rfl | rfl | rfl | rfl | rfl | rfl | rfl <;> rfl
theorem dg_back {cs:List Nat} (a:AllDigits cs) (h1:1≤cs.length) (h2:cs.length=1∨∃ c r,cs=c :: r∧49≤c):dg (digitsVal cs)=cs:=by
 unfold dg
 rw [toDigits_digitsVal (cs.length - 1) cs (by omega) a (h2.imp (by omega) id),map_back a]
def IsN (x:Str):Prop:=∃ n:Int,x=nT n∧n.natAbs < 10 ^ 10
theorem nat_isN {x:Str} (a:AllDigits x.cps.toList) (h1:1≤x.length) (h10:x.length≤10) (h2:x.length=1∨∃ c r,x.cps.toList=c :: r∧49≤c):IsN x:=by
 rw [← len_cpsL] at h1 h10 h2
 have e:=dg_back a h1 h2
 have v:=val_lt _ _ rfl a
 have:10 ^ x.cps.toList.length≤10 ^ 10:=Nat.pow_le_pow_right (by decide) h10
 exact ⟨(digitsVal x.cps.toList:Nat),str_inj (by rw [nT_nat,e]),by omega⟩
theorem neg_isN {x:Str} {cs:List Nat} (hx:x.cps.toList=45 :: cs) (a:AllDigits cs) (h10:cs.length≤10) (h2:∃ c r,cs=c :: r∧49≤c):IsN x:=by
 obtain ⟨c,r,rfl,hc⟩:=h2
 have e:=dg_back a (by rw [List.length_cons]; omega) (.inr ⟨c,r,rfl,hc⟩)
 have v:=val_lt _ _ rfl a
 have p:=digitsVal_pos (cs:=r) hc
 have:10 ^ (c :: r).length≤10 ^ 10:=Nat.pow_le_pow_right (by decide) h10
 exact ⟨-((digitsVal (c :: r):Nat):Int),str_inj (by rw [nT_neg _ p,e,hx]),by omega⟩
theorem isN_fgs {n:Int} (h:n.natAbs < 10 ^ 10):fgs (nT n)=dg n.natAbs:=by
 by_cases h0:0≤n
 ·obtain ⟨m,rfl⟩:=Int.eq_ofNat_of_zero_le h0
  have e:((m:Int)).natAbs=m:=by omega
  rw [e,(fgs_no (x:=nT (m:Int)) fun cs ec=>?_).1,nT_nat]
  rw [nT_nat] at ec
  have:=dg_all m m (Nat.le_refl _) 45 (by rw [ec]; exact List.mem_cons_self)
  omega
 ·obtain ⟨m,hm⟩:∃ m:Nat,n=-(m:Int):=⟨n.natAbs,by omega⟩
  subst hm
  have e:(-(m:Int)).natAbs=m:=by omega
  rw [e,(fgs_min (nT_neg m (by omega))).1]
theorem zero_txt:nT 0=("0":Str):=by decide +kernel
theorem numB_iff (x:Str):numB x=true↔IsN x:=by
 unfold numB
 rw [Bool.and_eq_true,Bool.and_eq_true,Bool.and_eq_true,decide_eq_true_iff,decide_eq_true_iff,List.all_eq_true,Bool.or_eq_true,decide_eq_true_iff,Bool.not_eq_true',decide_eq_false_iff_not]
 constructor
 ·rintro ⟨⟨a,l1,l10⟩,h0⟩
  have a':AllDigits (fgs x):=fun c hc=>dig_iff.mp (a c hc)
  have hd:x="0"∨∃ c r,fgs x=c :: r∧49≤c:=by
   rcases h0 with h0 | h0
   ·exact .inl h0
   ·cases hf:fgs x with
    | nil=>rw [hf] at l1; exact absurd l1 (by decide)
    | cons c r =>
     rw [hf] at h0 a'
     have:=a' c List.mem_cons_self
     refine .inr ⟨c,r,rfl,?_⟩
     have hne:c≠48:=fun e=>h0 (by rw [e]; rfl)
     omega
  rcases hd with rfl | hd
  ·exact ⟨0,zero_txt.symm,by decide⟩
  ·rcases min_cases x with ⟨cs,e⟩ | e
   ·rw [(fgs_min e).1] at a' l10 hd
    exact neg_isN e a' l10 hd
   ·rw [(fgs_no e).1] at a' l1 l10 hd
    rw [len_cpsL] at l1 l10
    exact nat_isN a' l1 l10 (.inr hd)
 ·rintro ⟨n,rfl,hn⟩
  have hl:=dg_len (m:=n.natAbs) hn
  rw [isN_fgs hn]
  refine ⟨⟨fun c hc=>dig_iff.mpr (dg_all _ _ (Nat.le_refl _) c hc),?_,hl⟩,?_⟩
  ·have:=dg_ne n.natAbs
   cases hd:dg n.natAbs with
   | nil=>exact absurd hd this
   | cons c r=>rw [List.length_cons]; omega
  ·by_cases h0:n=0
   ·subst h0
    exact .inl zero_txt
   ·obtain ⟨c,r,e,hc⟩:=dg_head n.natAbs n.natAbs (Nat.le_refl _) (by omega)
    refine .inr fun z=>?_
    rw [e] at z
    have:=Option.some.inj z
    omega
def numO (x:Str) (lo hi:Int):Option Int:=match PySem.intText? x with
 | some n=>if (decide (nT n=x) && decide (n.natAbs < 10 ^ 10) && decide (lo≤n) && decide (n≤hi))=true then some n else none
 | none=>none
theorem numO_of {n lo hi:Int} (h:n.natAbs < 10 ^ 10) (h1:lo≤n) (h2:n≤hi):numO (nT n) lo hi=some n:=by
 unfold numO
 rw [(nT_reads h).1]
 simp only
 rw [if_pos (by rw [decide_eq_true h,decide_eq_true h1,decide_eq_true h2]; rfl)]
theorem numO_some {x:Str} {n lo hi:Int} (h:numO x lo hi=some n):x=nT n∧n.natAbs < 10 ^ 10∧lo≤n∧n≤hi:=by
 unfold numO at h
 split at h
 ·rename_i m e
  split at h
  ·rename_i c
   simp only [Bool.and_eq_true,decide_eq_true_eq] at c
   cases h
   exact ⟨c.1.1.1.symm,c.1.1.2,c.1.2,c.2⟩
  ·cases h
 ·cases h
theorem numO_out {n lo hi:Int} (h:¬ (lo≤n∧n≤hi)) (hn:n.natAbs < 10 ^ 10):numO (nT n) lo hi=none:=by
 cases e:numO (nT n) lo hi with
 | none=>rfl
 | some m =>
  obtain ⟨e1,e2,e3,e4⟩:=numO_some e
  have h1:=(nT_reads hn).1
  rw [e1,(nT_reads e2).1] at h1
  cases h1
  exact absurd ⟨e3,e4⟩ h
theorem numO_no {x:Str} {lo hi:Int} (h:¬ IsN x):numO x lo hi=none:=by
 cases e:numO x lo hi with
 | none=>rfl
 | some m=>exact absurd ⟨m,(numO_some e).1,(numO_some e).2.1⟩ h
theorem leS_dig (c:Nat):((!decide ((⟨#[c]⟩:Str).cps.toList < (Str.ofString "0").cps.toList)) && (!decide ((Str.ofString "9").cps.toList < (⟨#[c]⟩:Str).cps.toList)))=dig c:=by
 have h1:decide ((⟨#[c]⟩:Str).cps.toList < (Str.ofString "0").cps.toList)=decide (c < 48):=by
  show decide (([c]:List Nat) < [48])=_
  rw [lt1]
 have h2:decide ((Str.ofString "9").cps.toList < (⟨#[c]⟩:Str).cps.toList)=decide (57 < c):=by
  show decide (([57]:List Nat) < [c])=_
  rw [lt1]
 rw [h1,h2]
 unfold dig
 by_cases a:48≤c <;> by_cases b:c≤57
 ·rw [decide_eq_true a,decide_eq_true b,decide_eq_false (by omega),decide_eq_false (by omega)]; rfl
 ·rw [decide_eq_true a,decide_eq_false b,decide_eq_false (by omega),decide_eq_true (by omega)]; rfl
 ·rw [decide_eq_false a,decide_eq_true b,decide_eq_true (by omega)]; rfl
 ·rw [decide_eq_false a,decide_eq_false b,decide_eq_true (by omega)]; rfl
section
variable {P:Program} {w:World} {K:PySem.W.Frag} {mg:Str→Option Value} {base:Heap} {cD:Addr}
theorem fgS_len (x:Str):(fgS x).length=(fgs x).length:=rfl
theorem fgS_lst (x:Str):(fgS x).cps.toList=fgs x:=rfl
def spNumW:Sp:=fun vs H Q _=>∃ x:Str,vs=[.str x]∧x.length≤2500∧∀ H',Same H H'→Q (.bl (numB x)) H'
theorem scNumW:FnScope ["word","figures"] ["word"] (defScope sNumW):=⟨rfl,rfl,rfl,by decide +kernel,rfl,by decide +kernel,by decide +kernel⟩
theorem ok_numW {f:Addr} {fd:FuncData} (D:Df K mg "is_number_word" sNumW f fd) (B:Blt mg):FnOk P w K mg base CX0 1 f fd ["word"] spNumW:=by
 obtain ⟨tf,fig⟩:=B.fig
 refine D.F.ok scNumW (fun vs H Q E h=>?_) (fun cdv A outer s H vs Q E hr h=>?_)
 ·obtain ⟨x,rfl,_⟩:=h
  rfl
 ·obtain ⟨x,rfl,hx,z⟩:=h
  refine ⟨_,(pss_cons (ps_set (i:=1) scNumW.nd rfl (Or.inl rfl) (pe_ifExp (pt_val (pe_bm PySem.F.plainAttrs_str PySem.F.slot_str_startswith PySem.F.type_str_startswith mt_starts (pv 0) (pac (pe_str) pa_nil))) (pe_slice sl_str (pv 0) (po_some pe_int) po_none) (pv 0)))
   (pss_cons (ps_if (pt_not (pt_val (pe_callB (call_all rfl) (by rfl) B.all boot_all (pac (pe_comp (N':=["sign"]) (idx:=[none]) (compOk_of (by kernel_rfl)) (by kernel_rfl) rfl (pi_str (pv 1)) (fun _ _ _ _ _=>pg_name (i:=0) (show (["sign"]:List Str).Nodup by decide +kernel) rfl (Or.inl rfl)) (fun _ _ _ _ _=>pts_nil)
     (fun _ _ _ _ _=>pe_chain op_leS op_leS pe_str (pv 0) pe_str)) pa_nil)))) (pss_one (ps_ret pe_bl)) pss_nil)
   (pss_one (ps_ret (pe_and (pe_chain op_le op_le pe_int (pe_callB call_len_str (by rfl) B.len PySem.boot_len (pac (pv 1) pa_nil)) (pe_glob (v:=.int 10) rfl fig ⟨_,rfl⟩)) (pe_one (pe_or (pe_cmpR op_eq (pv 0) pe_str (nomark _)) (pe_one (pe_cmpR op_ne (pe_ix ix_str (pv 1) pe_int (fun _ _=>rfl)) pe_str (nomark _)))))))))),?_⟩
  have small:∀ k:Nat,k≤2500→k≤sizeLine:=fun k hk=>by rw [sizeLine_eq]; omega
  refine' laterS (fun σ H1=>σ=[some (.str x),some (.str (fgS x))]∧H1=H) (fun fin=>_) _
  rotate_left
  ·refine ⟨_,rfl,rfl,x,"-",rfl,rfl,_,rfl,?_⟩
   rw [starts_min]
   cases hm:isMin x with
   | true =>
    refine iteT ⟨_,rfl,_,rfl,x,rfl,small _ hx,?_⟩
    rw [fgS_min hm]
    exact fin _ _ ⟨rfl,rfl⟩
   | false =>
    refine iteF ⟨_,rfl,fin _ _ ⟨?_,rfl⟩⟩
    rw [fgS_no hm]
    rfl
  rintro σ H1 ⟨rfl,rfl⟩
  have fl:=fgs_le x
  refine ⟨_,rfl,fgS x,rfl,fun L nL=>?_⟩
  refine comp_n (J:=Its (fgS x)) (n:=(fgS x).cps.size) (fun i σ2 H2=>(∃ v,σ2=[v])∧Same H1 H2∧H2 L=some (.lst ((((fgs x).take i).map dig).map V.bl))) ?_ (fun i σ2 H2 hi _=>hi) ?_ ?_
  ·exact ⟨⟨_,rfl⟩,same_upd nL,upd_same⟩
  ·rintro σ2 H2 ⟨⟨v,rfl⟩,S2,e2⟩
   rw [List.take_of_length_le (show (fgs x).length≤(fgS x).cps.size from Nat.le_refl _)] at e2
   refine ⟨rfl,L,_,rfl,SqL.of e2,_,rfl,?_⟩
   have ea:((fgs x).map dig).all id=(fgs x).all dig:=by rw [List.all_map]; rfl
   rw [ea]
   have zz:∀ b,b=numB x→Q (.bl b) H2:=fun b e=>by rw [e]; exact z H2 S2
   cases ha:(fgs x).all dig with
   | false=>exact iteT (zz _ (by unfold numB; rw [ha]; rfl))
   | true =>
    refine iteF ?_
    refine ⟨_,rfl,fgS x,rfl,small _ (by rw [fgS_len]; omega),_,_,rfl,rfl,_,rfl,?_⟩
    by_cases h1:(1:Int)≤((fgS x).length:Int)
    ·refine ifD_pos h1 ⟨_,_,rfl,rfl,_,rfl,?_⟩
     have h1':1≤(fgs x).length:=by rw [fgS_len] at h1; omega
     by_cases h2:((fgS x).length:Int)≤10
     ·have h2':(fgs x).length≤10:=by rw [fgS_len] at h2; omega
      refine ifD_pos h2 ⟨_,rfl,rfl,_,rfl,?_⟩
      by_cases h0:x="0"
      ·refine ifB_pos (decide_eq_true (by rw [h0])) ?_
       refine zz _ ?_
       unfold numB
       rw [ha,decide_eq_true h1',decide_eq_true h2',decide_eq_true h0]
       rfl
      ·refine ifB_neg (decide_eq_false fun e=>h0 (by injection e)) ?_
       cases hf:fgs x with
       | nil=>rw [hf] at h1'; exact absurd h1' (by decide)
       | cons c r =>
        have ea:atI (fgS x).cps.toList 0=some c:=by
         rw [fgS_lst,hf]
         exact atI_nat (xs:=c :: r) (j:=0) rfl
        refine ⟨_,rfl,fgS x,0,c,rfl,rfl,small _ (by rw [fgS_len]; omega),ea,rfl,zz _ ?_⟩
        unfold numB
        rw [ha,decide_eq_true h1',decide_eq_true h2',decide_eq_false h0,hf]
        have:decide (V.str ⟨#[c]⟩=V.str "0")=decide ((c :: r).head?=some 48):=by
         rw [decide_eq_decide]
         constructor
         ·intro e
          injection e with e
          have e2:(⟨#[c]⟩:Str).cps.toList=(Str.ofString "0").cps.toList:=by rw [e]
          have e3:[c]=[48]:=e2
          injection e3 with e4
          rw [e4]
          rfl
         ·intro e
          have e:=Option.some.inj e
          subst e
          rfl
        rw [this]
        rfl
     ·refine ifD_neg h2 (zz _ ?_)
      unfold numB
      rw [ha,decide_eq_false (p:=(fgs x).length≤10) (by rw [fgS_len] at h2; omega)]
      simp
    ·refine ifD_neg h1 ⟨_,rfl,zz _ ?_⟩
     unfold numB
     rw [ha,decide_eq_false (p:=1≤(fgs x).length) (by rw [fgS_len] at h1; omega)]
     simp
  ·rintro i σ2 H2 hi ⟨⟨v,rfl⟩,S2,e2⟩ y H3 ⟨rfl,c,hc,rfl⟩
   have hi':i < (fgs x).length:=hi
   have gc:(fgs x)[i]?=some c:=by
    have:(fgS x).cps.toList[i]?=some c:=by rw [Array.getElem?_toList]; exact hc
    exact this
   have fin:∀ b:Bool,b=dig c→∃ ys,H3 L=some (.lst ys)∧ys.length < sizeLine∧((∃ v,[some (V.str ⟨#[c]⟩)]=[v])∧Same H1 (upd H3 L (.lst (ys ++ [V.bl b])))∧upd H3 L (.lst (ys ++ [V.bl b])) L=some (.lst ((((fgs x).take (i + 1)).map dig).map V.bl))):=by
    rintro b rfl
    refine ⟨_,e2,?_,⟨_,rfl⟩,same_updN S2 nL,?_⟩
    ·rw [List.length_map,List.length_map,List.length_take,sizeLine_eq]
     omega
    ·rw [upd_same,List.take_add_one,gc,List.map_append,List.map_append]
     rfl
   have ld:=leS_dig c
   refine ⟨_,rfl,_,_,rfl,rfl,_,rfl,?_⟩
   cases h1:(!decide ((⟨#[c]⟩:Str).cps.toList < (Str.ofString "0").cps.toList)) with
   | false=>exact iteF (fin _ (by rw [← ld,h1]; rfl))
   | true=>exact iteT ⟨_,_,rfl,rfl,fin _ (by rw [← ld,h1]; rfl)⟩
def spNumber (cD:Addr):Sp:=fun vs H Q E=>∃ (x:Str) (lo hi:Int),vs=[.str x,.int lo,.int hi]∧x.length≤2500∧(∀ n,numO x lo hi=some n→∀ H',Same H H'→Q (.int n) H')∧(numO x lo hi=none→∀ H',Same H H'→E (.ref cD) none H')
theorem scNumber:FnScope ["word","least","most","value"] ["word","least","most"] (defScope sNumber):=⟨rfl,rfl,rfl,by decide +kernel,rfl,by decide +kernel,by decide +kernel⟩
theorem ok_number {f fW:Addr} {fd fdW:FuncData} (D:Df K mg "number" sNumber f fd) (B:Blt mg) (mD:mg "NoDrawing"=some (.ref cD)) (qD:PySem.W.excIn K cD [.type "ValueError",.type "Exception",.type "BaseException",.type "object"] "ValueError.__new__"=true)
  (DW:Df K mg "is_number_word" sNumW fW fdW) (bW:Binds K fdW ["word"] []) (GW:FnOk P w K mg base CX0 1 fW fdW ["word"] spNumW):FnOk P w K mg base (CXE P w) 2 f fd ["word","least","most"] (spNumber cD):=by
 refine fun_okX D.F scNumber (fun vs H Q E h=>?_) (fun cdv A outer s H vs Q E hr h=>?_)
 ·obtain ⟨x,lo,hi,rfl,_⟩:=h
  rfl
 ·obtain ⟨x,lo,hi,rfl,hx,z,zn⟩:=h
  refine ⟨_,(pss_cons (ps_if (pt_not (pt_val (pec GW hr rfl DW.m DW.F.kp bW .nil pass0 (pac (pv 0) pa_nil)))) (pss_one (ps_raise rfl mD hr.hd qD pe_str)) pss_nil)
   (pss_cons (ps_set (i:=3) scNumber.nd rfl (Or.inl rfl) (pe_callTy call_intT (by rfl) B.int boot_int (pac (pv 0) pa_nil)))
   (pss_cons (ps_if (pt_not (pt_chain op_le op_le (pv 1) (pv 3) (pv 2))) (pss_one (ps_raise rfl mD hr.hd qD pe_str)) pss_nil)
   (pss_one (ps_ret (pv 3)))))),?_⟩
  refine ⟨_,rfl,x,rfl,hx,fun H1 S1=>⟨_,rfl,?_⟩⟩
  cases hb:numB x with
  | false=>exact iteT (zn (numO_no fun i=>by rw [(numB_iff x).mpr i] at hb; cases hb) _ S1)
  | true =>
   obtain ⟨n,rfl,hn⟩:=(numB_iff x).mp hb
   obtain ⟨r1,r2⟩:=nT_reads hn
   refine iteF ⟨_,rfl,nT n,n,rfl,r1,r2,?_⟩
   refine ⟨_,rfl,_,rfl,_,_,rfl,rfl,_,rfl,?_⟩
   by_cases h1:lo≤n
   ·refine ifD_pos h1 ⟨_,rfl,_,_,rfl,rfl,_,rfl,?_⟩
    by_cases h2:n≤hi
    ·rw [decide_eq_true h2]
     exact iteF ⟨_,rfl,z n (numO_of hn h1 h2) _ S1⟩
    ·rw [decide_eq_false h2]
     exact iteT (zn (numO_out (fun q=>h2 q.2) hn) _ S1)
   ·exact ifD_neg h1 ⟨_,rfl,iteT (zn (numO_out (fun q=>h1 q.1) hn) _ S1)⟩
end
end K22
namespace K22
open PySem PySem.Spec PyProof.Rows L2 BF
seal L2.PE L2.PA L2.PS L2.PSs L2.PT L2.PW L2.PG L2.PGs L2.PI BF.PTs L2.PPs L2.PO
abbrev excO (K:PySem.W.Frag) (cD:Addr):Prop:=PySem.W.excIn K cD [.type "ValueError",.type "Exception",.type "BaseException",.type "object"] "ValueError.__new__"=true
def wv (ws:List Str):HO:=.lst (ws.reverse.map V.str)
def WL (H:Hp) (wl:Addr) (ws:List Str):Prop:=H wl=some (wv ws)
theorem wv_cons (x:Str) (ws:List Str):wv (x :: ws)=.lst (ws.reverse.map V.str ++ [V.str x]):=by
 unfold wv
 rw [List.reverse_cons,List.map_append]
 rfl
theorem upd_id {H:Hp} {a:Addr} {o:HO} (h:H a=some o):upd H a o=H:=by
 funext c
 by_cases e:c=a
 ·rw [e,upd_same,h]
 ·rw [upd_ne e]
def hd1 (ws:List Str):Str:=ws.headD ""
theorem hd1_len {ws:List Str} {n:Nat} (h:∀ y∈ws,y.length≤n):(hd1 ws).length≤n:=by
 cases ws with
 | nil=>exact Nat.zero_le _
 | cons x r=>exact h x List.mem_cons_self
theorem tail_len {ws:List Str} {n:Nat} (h:∀ y∈ws,y.length≤n):∀ y∈ws.tail,y.length≤n:=fun y hy=>h y (List.mem_of_mem_tail hy)
theorem tail2 (ws:List Str):ws.tail.tail=ws.drop 2:=by
 cases ws with
 | nil=>rfl
 | cons x r=>cases r <;> rfl
def rd2 (ex:Bool) (m:Int) (ws:List Str):Option (Int×Int):=match numO (hd1 ws) (-m) m with
 | some a=>match numO (hd1 ws.tail) (-m) m with
  | some b=>if (ex && decide (a=0) && decide (b=0))=true then none else some (a,b)
  | none=>none
 | none=>none
section
variable {P:Program} {w:World} {K:PySem.W.Frag} {mg:Str→Option Value} {base:Heap} {cD:Addr}
def spNext:Sp:=fun vs H Q _=>∃ (wl:Addr) (ws:List Str),vs=[.ref wl]∧WL H wl ws∧Q (.str (hd1 ws)) (upd H wl (wv ws.tail))
theorem scNext:FnScope ["words"] ["words"] (defScope sNext):=⟨rfl,rfl,rfl,by decide +kernel,rfl,by decide +kernel,by decide +kernel⟩
theorem ok_next {f:Addr} {fd:FuncData} (D:Df K mg "next_word" sNext f fd):FnOk P w K mg base CX0 1 f fd ["words"] spNext:=by
 refine D.F.ok scNext (fun vs H Q E h=>?_) (fun cdv A outer s H vs Q E hr h=>?_)
 ·obtain ⟨wl,ws,rfl,_⟩:=h
  rfl
 ·obtain ⟨wl,ws,rfl,hw,z⟩:=h
  refine ⟨_,(pss_one (ps_ret (pe_ifExp (pt_truth (pv 0) (fun _=>rfl)) (pe_bm0 PySem.F.plainAttrs_list PySem.F.slot_list_pop PySem.F.type_list_pop mt_pop (pv 0)) pe_str))),?_⟩
  cases ws with
  | nil =>
   have e:upd H wl (wv [])=H:=upd_id hw
   rw [show ([]:List Str).tail=[] from rfl,e] at z
   exact ⟨_,rfl,false,.inl ⟨_,SqL.of hw,rfl⟩,iteF z⟩
  | cons x ws =>
   have hw':H wl=some (.lst (ws.reverse.map V.str ++ [V.str x])):=by rw [← wv_cons]; exact hw
   refine ⟨_,rfl,true,?_,iteT ⟨_,rfl,.inl ⟨rfl,_,SqL.of hw'⟩,wl,_,.str x,rfl,rfl,hw',by simp,?_⟩⟩
   ·exact .inl ⟨_,SqL.of hw',by simp⟩
   ·rw [List.dropLast_concat]
    exact z
def spExpect (cD:Addr):Sp:=fun vs H Q E=>∃ (wl:Addr) (H0:Hp) (x:Str) (ws:List Str),vs=[.ref wl,.str x]∧WL H wl ws∧x≠""∧Same H0 H∧H0 wl=none∧(∀ r,ws=x :: r→Q .non (upd H wl (wv r)))∧(hd1 ws≠x→∀ H',Same H0 H'→E (.ref cD) none H')
theorem scExpect:FnScope ["words","wanted"] ["words","wanted"] (defScope sExpect):=⟨rfl,rfl,rfl,by decide +kernel,rfl,by decide +kernel,by decide +kernel⟩
theorem ok_expect {f fN:Addr} {fd fdN:FuncData} (D:Df K mg "expect" sExpect f fd) (mD:mg "NoDrawing"=some (.ref cD)) (qD:excO K cD) (DN:Df K mg "next_word" sNext fN fdN) (bN:Binds K fdN ["words"] []) (GN:FnOk P w K mg base CX0 1 fN fdN ["words"] spNext):FnOk P w K mg base (CXE P w) 2 f fd ["words","wanted"] (spExpect cD):=by
 refine fun_okX D.F scExpect (fun vs H Q E h=>?_) (fun cdv A outer s H vs Q E hr h=>?_)
 ·obtain ⟨wl,H0,x,ws,rfl,_⟩:=h
  rfl
 ·obtain ⟨wl,H0,x,ws,rfl,hw,hx,S0,n0,z,zn⟩:=h
  refine ⟨_,(pss_one (ps_if (pt_cmpR op_ne (pec GN hr rfl DN.m DN.F.kp bN .nil pass0 (pac (pv 0) pa_nil)) (pv 1) (nomark _)) (pss_one (ps_raise rfl mD hr.hd qD pe_str)) pss_nil)),?_⟩
  refine ⟨_,rfl,wl,ws,rfl,hw,_,rfl,rfl,_,rfl,?_⟩
  by_cases h:hd1 ws=x
  ·refine ifB_neg (by rw [h]; simp) ?_
   cases ws with
   | nil=>exact absurd h.symm hx
   | cons y r =>
    have e:y=x:=h
    subst e
    exact z r rfl
  ·refine ifB_pos (by show (!decide (V.str (hd1 ws)=V.str x))=true; rw [decide_eq_false fun e=>h (by injection e)]; rfl) ?_
   exact zn h _ (same_updN S0 n0)
def spRd2 (cD:Addr) (kw:Str) (m:Int) (ex:Bool):Sp:=fun vs H Q E=>∃ (wl:Addr) (H0:Hp) (ws:List Str),vs=[.ref wl]∧WL H wl ws∧(∀ y∈ws,y.length≤2500)∧Same H0 H∧H0 wl=none∧(∀ a b t H',rd2 ex m ws=some (a,b)→Same H0 H'→WL H' wl (ws.drop 2)→H0 t=none→t≠wl→H' t=some (.tup [.str kw,.int a,.int b])→Q (.ref t) H')∧(rd2 ex m ws=none→∀ H',Same H0 H'→E (.ref cD) none H')
theorem scRdLine:FnScope ["words","x","y"] ["words"] (defScope sRdLine):=⟨rfl,rfl,rfl,by decide +kernel,rfl,by decide +kernel,by decide +kernel⟩
theorem ok_rdLine {f fN fM:Addr} {fd fdN fdM:FuncData} (D:Df K mg "read_line" sRdLine f fd) (B:Blt mg) (mD:mg "NoDrawing"=some (.ref cD)) (qD:excO K cD) (DN:Df K mg "next_word" sNext fN fdN) (bN:Binds K fdN ["words"] []) (GN:FnOk P w K mg base CX0 1 fN fdN ["words"] spNext)
  (DM:Df K mg "number" sNumber fM fdM) (bM:Binds K fdM ["word","least","most"] []) (GM:FnOk P w K mg base (CXE P w) 2 fM fdM ["word","least","most"] (spNumber cD)):FnOk P w K mg base (CXE P w) 3 f fd ["words"] (spRd2 cD "line" 9 true):=by
 obtain ⟨tl,lon⟩:=B.lon
 refine fun_okX D.F scRdLine (fun vs H Q E h=>?_) (fun cdv A outer s H vs Q E hr h=>?_)
 ·obtain ⟨wl,H0,ws,rfl,_⟩:=h
  rfl
 ·obtain ⟨wl,H0,ws,rfl,hw,hl,S0,n0,z,zn⟩:=h
  have hr1:Room 1 _:=hr.mono (by decide)
  refine ⟨_,(pss_cons (ps_set (i:=1) scRdLine.nd rfl (Or.inl rfl) (pec GM hr rfl DM.m DM.F.kp bM .nil passE (pac (pec GN hr1 rfl DN.m DN.F.kp bN .nil pass0 (pac (pv 0) pa_nil)) (pac (pe_un un_neg (pe_glob (v:=.int 9) rfl lon ⟨_,rfl⟩)) (pac (pe_glob (v:=.int 9) rfl lon ⟨_,rfl⟩) pa_nil)))))
   (pss_cons (ps_set (i:=2) scRdLine.nd rfl (Or.inl rfl) (pec GM hr rfl DM.m DM.F.kp bM .nil passE (pac (pec GN hr1 rfl DN.m DN.F.kp bN .nil pass0 (pac (pv 0) pa_nil)) (pac (pe_un un_neg (pe_glob (v:=.int 9) rfl lon ⟨_,rfl⟩)) (pac (pe_glob (v:=.int 9) rfl lon ⟨_,rfl⟩) pa_nil)))))
   (pss_cons (ps_if (PW.pt (pw_and (pt_cmpR op_eq (pv 1) pe_int (nomark _)) (pw_and1 (pt_cmpR op_eq (pv 2) pe_int (nomark _))))) (pss_one (ps_raise rfl mD hr.hd qD pe_str)) pss_nil)
   (pss_one (ps_ret (pe_tup (pac (pe_str) (pac (pv 1) (pac (pv 2) pa_nil))))))))),?_⟩
  have tl':=tail_len hl
  refine ⟨_,rfl,wl,ws,rfl,hw,_,rfl,hd1 ws,-9,9,rfl,hd1_len hl,fun a ea H1 S1=>?_,fun ea H1 S1=>?_⟩
  ·have S01:Same H0 H1:=(same_updN S0 n0).trans S1
   have hw1:WL H1 wl ws.tail:=S1 _ _ upd_same
   refine ⟨_,rfl,wl,_,rfl,hw1,_,rfl,hd1 ws.tail,-9,9,rfl,hd1_len tl',fun b eb H2 S2=>?_,fun eb H2 S2=>?_⟩
   ·have S02:Same H0 H2:=(same_updN S01 n0).trans S2
    have hw2:WL H2 wl (ws.drop 2):=by
     have:=S2 _ _ (upd_same (H:=H1) (a:=wl) (o:=wv ws.tail.tail))
     rw [tail2] at this
     exact this
    have er:∀ c:Bool,(true && decide (a=0) && decide (b=0))=c→rd2 true 9 ws=if c=true then none else some (a,b):=fun c hc=>by
     unfold rd2
     rw [ea]
     simp only
     rw [eb]
     simp only
     rw [hc]
    have fin:¬ (a=0∧b=0)→∀ t,H2 t=none→Q (.ref t) (upd H2 t (.tup [.str "line",.int a,.int b])):=fun hab t nt=>by
     have T:=same_upd (o:=HO.tup [V.str "line",.int a,.int b]) nt
     refine z a b t _ ?_ (S02.trans T) (T _ _ hw2) (none_same S02 nt) (fun e=>by rw [e,show H2 wl=_ from hw2] at nt; cases nt) upd_same
     rw [er false (by rw [Bool.true_and]; cases h:(decide (a=0) && decide (b=0)) with | false=>rfl | true=>(rw [Bool.and_eq_true,decide_eq_true_iff,decide_eq_true_iff] at h; exact absurd h hab))]
     rfl
    refine ⟨_,rfl,rfl,_,rfl,?_⟩
    by_cases h1:a=0
    ·refine ifB_pos (decide_eq_true (by rw [h1])) ⟨_,rfl,rfl,_,rfl,?_⟩
     by_cases h2:b=0
     ·refine ifB_pos (decide_eq_true (by rw [h2])) ?_
      refine zn ?_ _ S02
      rw [er true (by rw [decide_eq_true h1,decide_eq_true h2]; rfl)]
      rfl
     ·refine ifB_neg (decide_eq_false fun e=>h2 (by injection e)) ?_
      exact ⟨_,rfl,_,rfl,szr rfl,fin fun q=>h2 q.2⟩
    ·refine ifB_neg (decide_eq_false fun e=>h1 (by injection e)) (iteF ?_)
     exact ⟨_,rfl,_,rfl,szr rfl,fin fun q=>h1 q.1⟩
   ·refine zn ?_ _ ((same_updN S01 n0).trans S2)
    unfold rd2
    rw [ea]
    simp only
    rw [eb]
  ·refine zn ?_ _ ((same_updN S0 n0).trans S1)
   unfold rd2
   rw [ea]
theorem scRdBy:FnScope ["words","x","y"] ["words"] (defScope sRdBy):=⟨rfl,rfl,rfl,by decide +kernel,rfl,by decide +kernel,by decide +kernel⟩
theorem ok_rdBy {f fN fM:Addr} {fd fdN fdM:FuncData} (D:Df K mg "read_by" sRdBy f fd) (B:Blt mg) (DN:Df K mg "next_word" sNext fN fdN) (bN:Binds K fdN ["words"] []) (GN:FnOk P w K mg base CX0 1 fN fdN ["words"] spNext)
  (DM:Df K mg "number" sNumber fM fdM) (bM:Binds K fdM ["word","least","most"] []) (GM:FnOk P w K mg base (CXE P w) 2 fM fdM ["word","least","most"] (spNumber cD)):FnOk P w K mg base (CXE P w) 3 f fd ["words"] (spRd2 cD "by" 1000000000 false):=by
 obtain ⟨tl,lon⟩:=B.far
 refine fun_okX D.F scRdBy (fun vs H Q E h=>?_) (fun cdv A outer s H vs Q E hr h=>?_)
 ·obtain ⟨wl,H0,ws,rfl,_⟩:=h
  rfl
 ·obtain ⟨wl,H0,ws,rfl,hw,hl,S0,n0,z,zn⟩:=h
  have hr1:Room 1 _:=hr.mono (by decide)
  refine ⟨_,(pss_cons (ps_set (i:=1) scRdBy.nd rfl (Or.inl rfl) (pec GM hr rfl DM.m DM.F.kp bM .nil passE (pac (pec GN hr1 rfl DN.m DN.F.kp bN .nil pass0 (pac (pv 0) pa_nil)) (pac (pe_un un_neg (pe_glob (v:=.int 1000000000) rfl lon ⟨_,rfl⟩)) (pac (pe_glob (v:=.int 1000000000) rfl lon ⟨_,rfl⟩) pa_nil)))))
   (pss_cons (ps_set (i:=2) scRdBy.nd rfl (Or.inl rfl) (pec GM hr rfl DM.m DM.F.kp bM .nil passE (pac (pec GN hr1 rfl DN.m DN.F.kp bN .nil pass0 (pac (pv 0) pa_nil)) (pac (pe_un un_neg (pe_glob (v:=.int 1000000000) rfl lon ⟨_,rfl⟩)) (pac (pe_glob (v:=.int 1000000000) rfl lon ⟨_,rfl⟩) pa_nil)))))
   (pss_one (ps_ret (pe_tup (pac (pe_str) (pac (pv 1) (pac (pv 2) pa_nil)))))))),?_⟩
  have tl':=tail_len hl
  refine ⟨_,rfl,wl,ws,rfl,hw,_,rfl,hd1 ws,-1000000000,1000000000,rfl,hd1_len hl,fun a ea H1 S1=>?_,fun ea H1 S1=>?_⟩
  ·have S01:Same H0 H1:=(same_updN S0 n0).trans S1
   have hw1:WL H1 wl ws.tail:=S1 _ _ upd_same
   refine ⟨_,rfl,wl,_,rfl,hw1,_,rfl,hd1 ws.tail,-1000000000,1000000000,rfl,hd1_len tl',fun b eb H2 S2=>?_,fun eb H2 S2=>?_⟩
   ·have S02:Same H0 H2:=(same_updN S01 n0).trans S2
    have hw2:WL H2 wl (ws.drop 2):=by
     have:=S2 _ _ (upd_same (H:=H1) (a:=wl) (o:=wv ws.tail.tail))
     rw [tail2] at this
     exact this
    refine ⟨_,rfl,_,rfl,szr rfl,fun t nt=>?_⟩
    have T:=same_upd (o:=HO.tup [V.str "by",.int a,.int b]) nt
    refine z a b t _ ?_ (S02.trans T) (T _ _ hw2) (none_same S02 nt) (fun e=>by rw [e,show H2 wl=_ from hw2] at nt; cases nt) upd_same
    unfold rd2
    rw [ea]
    simp only
    rw [eb]
    rfl
   ·refine zn ?_ _ ((same_updN S01 n0).trans S2)
    unfold rd2
    rw [ea]
    simp only
    rw [eb]
  ·refine zn ?_ _ ((same_updN S0 n0).trans S1)
   unfold rd2
   rw [ea]
def spRdInk (cD:Addr):Sp:=fun vs H Q E=>∃ (wl:Addr) (H0:Hp) (ws:List Str),vs=[.ref wl]∧WL H wl ws∧(∀ y∈ws,y.length≤2500)∧Same H0 H∧H0 wl=none∧(∀ t H',colB (.str (hd1 ws))=true→Same H0 H'→WL H' wl ws.tail→H0 t=none→t≠wl→H' t=some (.tup [.str "ink",.str (hd1 ws)])→Q (.ref t) H')∧(colB (.str (hd1 ws))=false→∀ H',Same H0 H'→E (.ref cD) none H')
theorem scRdInk:FnScope ["words","colour"] ["words"] (defScope sRdInk):=⟨rfl,rfl,rfl,by decide +kernel,rfl,by decide +kernel,by decide +kernel⟩
theorem ok_rdInk {f fN fM:Addr} {fd fdN fdM:FuncData} (D:Df K mg "read_ink" sRdInk f fd) (mD:mg "NoDrawing"=some (.ref cD)) (qD:excO K cD) (DN:Df K mg "next_word" sNext fN fdN) (bN:Binds K fdN ["words"] []) (GN:FnOk P w K mg base CX0 1 fN fdN ["words"] spNext)
  (DM:Df K mg "is_colour" sColour fM fdM) (bM:Binds K fdM ["thing"] []) (GM:FnOk P w K mg base CX0 1 fM fdM ["thing"] spColour):FnOk P w K mg base (CXE P w) 2 f fd ["words"] (spRdInk cD):=by
 refine fun_okX D.F scRdInk (fun vs H Q E h=>?_) (fun cdv A outer s H vs Q E hr h=>?_)
 ·obtain ⟨wl,H0,ws,rfl,_⟩:=h
  rfl
 ·obtain ⟨wl,H0,ws,rfl,hw,hl,S0,n0,z,zn⟩:=h
  refine ⟨_,(pss_cons (ps_set (i:=1) scRdInk.nd rfl (Or.inl rfl) (pec GN hr rfl DN.m DN.F.kp bN .nil pass0 (pac (pv 0) pa_nil)))
   (pss_cons (ps_if (pt_not (pt_val (pec GM hr rfl DM.m DM.F.kp bM .nil pass0 (pac (pv 1) pa_nil)))) (pss_one (ps_raise rfl mD hr.hd qD pe_str)) pss_nil)
   (pss_one (ps_ret (pe_tup (pac (pe_str) (pac (pv 1) pa_nil))))))),?_⟩
  have h1:=hd1_len hl
  refine ⟨_,rfl,wl,ws,rfl,hw,?_⟩
  refine ⟨_,rfl,.str (hd1 ws),.str,rfl,.str _,fun y e=>by cases e; rw [sizeLine_eq]; omega,fun H1 S1=>?_⟩
  have S01:Same H0 H1:=(same_updN S0 n0).trans S1
  have hw1:WL H1 wl ws.tail:=S1 _ _ upd_same
  cases hc:colB (.str (hd1 ws)) with
  | false=>exact ⟨_,rfl,iteT (zn hc _ S01)⟩
  | true =>
   refine ⟨_,rfl,iteF ⟨_,rfl,szr rfl,fun t nt=>?_⟩⟩
   have T:=same_upd (o:=HO.tup [V.str "ink",.str (hd1 ws)]) nt
   exact z t _ hc (S01.trans T) (T _ _ hw1) (none_same S01 nt) (fun e=>by rw [e,show H1 wl=_ from hw1] at nt; cases nt) upd_same
end
def kvW (f:Str→Addr):List (Key×V):=ways8.map fun x=>(Sum.inr x.1,V.ref (f x.1))
def Wy (P:Program) (w:World) (K:PySem.W.Frag) (mg:Str→Option Value):Prop:=∃ (d:Addr) (f:Str→Addr),mg "WAYS"=some (.ref d)∧TopD P w K d (kvW f)∧∀ x∈ways8,∀ H,SqT K H (f x.1) [.int x.2.1,.int x.2.2]
theorem way_at (f:Str→Addr):∀ x∈ways8,valV (kvW f) (Sum.inr x.1)=some (.ref (f x.1)):=by
 intro x hx
 simp only [ways8,List.mem_cons,List.not_mem_nil,or_false] at hx
 rcases hx with rfl | rfl | rfl | rfl | rfl | rfl | rfl | rfl <;> rfl
theorem way_no (f:Str→Addr) {y:Str} (h:∀ x∈ways8,x.1≠y):valV (kvW f) (Sum.inr y)=none:=by
 unfold valV kvW
 rw [Option.map_eq_none_iff,List.find?_eq_none]
 intro z hz
 obtain ⟨x,hx,rfl⟩:=List.mem_map.mp hz
 simp only [decide_eq_true_eq]
 exact fun e=>h x hx (by injection e)
theorem nT_alpha {m:Nat} {y:Str} (h:(y.cps.toList.head?).any (fun c=>decide (48≤c∧c≤57))=false):nT (m:Int)≠y:=fun e=>by
 have e1:=nT_nat m
 rw [e] at e1
 have a:=dg_all m m (Nat.le_refl _)
 cases hd:dg m with
 | nil=>exact dg_ne m hd
 | cons c r =>
  rw [hd] at a e1
  rw [e1] at h
  have ac:=a c List.mem_cons_self
  simp at h
  have:=ac
  omega
def fr (H0 H:Hp) (M:List Addr):Hp:=fun c=>match H0 c with
 | some _=>none
 | none=>if c∈M then none else H c
theorem fr_of {H0 H:Hp} {M:List Addr} {c:Addr} {o:HO} (e:fr H0 H M c=some o):H0 c=none∧¬ c∈M∧H c=some o:=by
 unfold fr at e
 cases h:H0 c with
 | some x=>rw [h] at e; cases e
 | none =>
  rw [h] at e
  by_cases hm:c∈M
  ·simp only [hm,if_true] at e; cases e
  ·simp only [hm,if_false] at e; exact ⟨rfl,hm,e⟩
theorem fr_at {H0 H:Hp} {M:List Addr} {c:Addr} {o:HO} (h0:H0 c=none) (hm:¬ c∈M) (e:H c=some o):fr H0 H M c=some o:=by
 unfold fr
 rw [h0]
 simp only [hm,if_false]
 exact e
theorem fr_to {H0 H H0' H':Hp} {M M':List Addr} (h:∀ c o,H0 c=none→¬ c∈M→H c=some o→H0' c=none∧¬ c∈M'∧H' c=some o):Same (fr H0 H M) (fr H0' H' M'):=fun c o e=>by
 obtain ⟨a,b,d⟩:=fr_of e
 obtain ⟨a',b',d'⟩:=h c o a b d
 exact fr_at a' b' d'
theorem fr_same {H0 H:Hp} {M:List Addr}:Same (fr H0 H M) H:=fun c o e=>(fr_of e).2.2
def w1 (H:Hp) (x:Addr):Hp:=fun c=>if c=x then none else H c
theorem w1_at {H:Hp} {x c:Addr} {o:HO} (e:H c=some o) (h:c≠x):w1 H x c=some o:=by
 unfold w1; rw [if_neg h]; exact e
theorem w1_no {H:Hp} {x:Addr}:w1 H x x=none:=by unfold w1; rw [if_pos rfl]
theorem w1_same {H:Hp} {x:Addr}:Same (w1 H x) H:=fun c o e=>by
 unfold w1 at e
 split at e
 ·cases e
 ·exact e
structure RowR (H0 H:Hp) (wl L:Addr) (xs:List V) (u:List Sk) (ws:List Str):Prop where
 same:Same H0 H
 hw:WL H wl ws
 nl:H0 L=none
 ne:L≠wl
 el:H L=some (.lst xs)
 sk:SksIs (fr H0 H [wl,L]) xs u
structure StrR (H0 H:Hp) (wl t:Addr) (s:Sk) (ws:List Str):Prop where
 same:Same H0 H
 hw:WL H wl ws
 nt:H0 t=none
 ne:t≠wl
 sk:SkIs (fr H0 H [wl]) (.ref t) s
theorem RowR.push {H0 H H':Hp} {wl L t:Addr} {xs:List V} {u:List Sk} {s:Sk} {ws ws':List Str} (n0:H0 wl=none) (h:RowR H0 H wl L xs u ws) (g:StrR (w1 H wl) H' wl t s ws'):RowR H0 (upd H' L (.lst (xs ++ [.ref t]))) wl L (xs ++ [.ref t]) (u ++ [s]) ws':=by
 have hL:w1 H wl L=some (.lst xs):=w1_at h.el h.ne
 have S:Same H0 H':=fun c o e=>g.same _ _ (w1_at (h.same _ _ e) (fun z=>by rw [z,n0] at e; cases e))
 refine ⟨same_updN S h.nl,?_,h.nl,h.ne,upd_same,?_⟩
 ·show (upd H' L _) wl=_
  rw [upd_ne (Ne.symm h.ne)]
  exact g.hw
 ·refine SksIs.snoc (h.sk.same (fr_to fun c o a b e=>?_)) (g.sk.same (fr_to fun c o a b e=>?_))
  ·have cw:c≠wl:=fun z=>b (by simp [z])
   have cL:c≠L:=fun z=>b (by simp [z])
   exact ⟨a,b,by rw [upd_ne cL]; exact g.same _ _ (w1_at e cw)⟩
  ·have cw:c≠wl:=fun z=>b (by simp [z])
   have cL:c≠L:=fun z=>by rw [z,hL] at a; cases a
   refine ⟨?_,fun z=>?_,by rw [upd_ne cL]; exact e⟩
   ·cases hc:H0 c with
    | none=>rfl
    | some q=>rw [w1_at (h.same _ _ hc) cw] at a; cases a
   ·simp only [List.mem_cons,List.not_mem_nil,or_false] at z
    rcases z with z | z
    ·exact cw z
    ·exact cL z
theorem RowR.close {H0 H:Hp} {wl L t:Addr} {xs:List V} {u:List Sk} {s:Sk} {ws:List Str} {o:HO} (h:RowR H0 H wl L xs u ws) (nt:H t=none) (k:∀ G:Hp,G t=some o→G L=some (.lst xs)→SksIs G xs u→SkIs G (.ref t) s):StrR H0 (upd H t o) wl t s ws:=by
 have T:=same_upd (o:=o) nt
 have tw:t≠wl:=fun z=>by rw [z,show H wl=_ from h.hw] at nt; cases nt
 refine ⟨h.same.trans T,T _ _ h.hw,none_same h.same nt,tw,k _ ?_ ?_ ?_⟩
 ·exact fr_at (none_same h.same nt) (by simpa using tw) upd_same
 ·exact fr_at h.nl (by simpa using h.ne) (T _ _ h.el)
 ·refine h.sk.same (fr_to fun c q a b e=>⟨a,fun z=>b ?_,T _ _ e⟩)
  simp only [List.mem_cons,List.not_mem_nil,or_false] at z ⊢
  exact .inl z
theorem StrR.flat {H0 H:Hp} {wl t:Addr} {s:Sk} {ws:List Str} {xs:List V} (S:Same H0 H) (hw:WL H wl ws) (nt:H0 t=none) (ne:t≠wl) (e:H t=some (.tup xs)) (k:∀ G:Hp,G t=some (.tup xs)→SkIs G (.ref t) s):StrR H0 H wl t s ws :=
 ⟨S,hw,nt,ne,k _ (fr_at nt (by simpa using ne) e)⟩
end K22
namespace K22
open PySem PySem.Spec PyProof.Rows L2 BF PySem.SeqAt
theorem col_len {c:Str} (h:colB (.str c)=true):c.length≤8:=by
 by_cases g:1≤c.length∧c.length≤8
 ·exact g.2
 ·rw [colB_no g] at h
  cases h
theorem lineW_none {a b:Int} (h:wayW a b=none):lineW a b=[("line":Str),nT a,nT b]:=by unfold lineW; rw [h]
theorem lineW_some {a b:Int} {x:Str} (h:wayW a b=some x):lineW a b=[x]:=by unfold lineW; rw [h]
def wsz (ws:List Str):Nat:=(ws.map fun x=>x.length + 1).sum
theorem wsz_cons (x:Str) (ws:List Str):wsz (x :: ws)=x.length + 1 + wsz ws:=by unfold wsz; rw [List.map_cons,List.sum_cons]
theorem wsz_nil:wsz []=0:=rfl
theorem wsz_app (ws vs:List Str):wsz (ws ++ vs)=wsz ws + wsz vs:=by unfold wsz; rw [List.map_append,List.sum_append]
theorem wsz_len (ws:List Str):ws.length≤wsz ws:=by
 induction ws with
 | nil=>exact Nat.le_refl _
 | cons x r ih=>rw [wsz_cons,List.length_cons]; omega
theorem vds_at:∀ {u:List Sk} {d:Nat},vds u d→∀ s∈u,s.vd d
 | s :: r,d,h,x,hx=>by
  simp only [vds] at h
  rcases List.mem_cons.mp hx with rfl | hx
  ·exact h.1
  ·exact vds_at h.2 x hx
theorem cut_hiA {vs:List V} {n:Nat}:cutV vs none (some (n:Int))=vs.take n:=by
 unfold cutV HT.sIx
 have:¬ ((n:Int) < 0):=by omega
 simp [this]
theorem join_sz (ws:List Str):(ws.map (·.length)).sum + ws.length=wsz ws:=by
 induction ws with
 | nil=>rfl
 | cons x r ih=>rw [wsz_cons,List.map_cons,List.sum_cons,List.length_cons]; omega
end K22
namespace K22
open PySem PySem.Spec PyProof.Rows L2 BF
seal L2.PE L2.PA L2.PS L2.PSs L2.PT L2.PW L2.PG L2.PGs L2.PI BF.PTs L2.PPs L2.PO
theorem log_ok {i:Int} (h:i.natAbs < 2 ^ 64):i.natAbs.log2 < 1920:=by
 by_cases z:i.natAbs=0
 ·rw [z]; decide
 ·have:=(Nat.log2_lt z).mpr h
  omega
def eightW:List Str:=["n","ne","e","se","s","sw","w","nw"]
theorem putK_lenK (kvs:List (Key×V)) (k:Key) (v:V):(putK kvs k v).length≤kvs.length + 1:=by
 unfold putK
 split
 ·rw [List.length_map]; omega
 ·rw [List.length_append]; exact Nat.le_refl _
def numF (c:Int) (k:Nat):Int:=(c % 2147483647 + 7919) * (48271 + 69621 * (k:Int) * (k:Int)) % 2147483629
def wayF:Str→Int×Int:=fun x=>((([("n",(0,1)),("ne",(1,1)),("e",(1,0)),("se",(1,-1)),("s",(0,-1)),("sw",(-1,-1)),("w",(-1,0)),("nw",(-1,1))]:List (Str×(Int×Int))).lookup x).getD (0,0))
def GoodW (H:Hp) (kvs:List (Key×V)) (word:Str):Prop:=∃ q,valV kvs (Sum.inr word)=some (.ref q)∧two H q (wayF word)
def Itm (H:Hp) (kv:Key×V):Prop:=∃ (wd:Str) (q:Addr),kv=(Sum.inr wd,V.ref q)∧wd∈eightW∧two H q (wayF wd)
theorem putK_mem {kvs:List (Key×V)} {k:Key} {v:V} {x:Key×V} (h:x∈putK kvs k v):x∈kvs∨x=(k,v):=by
 unfold putK at h
 split at h
 ·obtain ⟨y,hy,rfl⟩:=List.mem_map.mp h
  split
  ·rename_i e
   rw [e]
   exact .inr rfl
  ·exact .inl hy
 ·rcases List.mem_append.mp h with h | h
  ·exact .inl h
  ·exact .inr (List.mem_singleton.mp h)
theorem way_wd:∀ x∈eightW,wayW (wayF x).1 (wayF x).2=some x:=by
 intro x hx
 simp only [eightW,List.mem_cons,List.not_mem_nil,or_false] at hx
 rcases hx with rfl | rfl | rfl | rfl | rfl | rfl | rfl | rfl <;> decide +kernel
section
variable {P:Program} {w:World} {K:PySem.W.Frag} {mg:Str→Option Value} {base:Heap}
def spNum:Sp:=fun vs H Q _=>∃ (c:Int) (k:Nat),vs=[.int c,.int k]∧k≤100∧Q (.int (numF c k)) H
theorem scNum:FnScope ["_law_cell","_law_k"] ["_law_cell","_law_k"] (defScope sNum):=⟨rfl,rfl,rfl,by decide +kernel,rfl,by decide +kernel,by decide +kernel⟩
theorem ok_num {f:Addr} {fd:FuncData} (D:Df K mg "_law_number" sNum f fd):FnOk P w K mg base CX0 1 f fd ["_law_cell","_law_k"] spNum:=by
 refine D.F.ok scNum (fun vs H Q E h=>?_) (fun cdv A outer s H vs Q E hr h=>?_)
 ·obtain ⟨c,k,rfl,_⟩:=h
  rfl
 ·obtain ⟨c,k,rfl,hk,z⟩:=h
  refine ⟨_,(pss_one (ps_ret (pe_op op_mod (pe_op op_mul (pe_op op_add (pe_op op_mod (pv 0) pe_int) pe_int) (pe_op op_add pe_int (pe_op op_mul (pe_op op_mul pe_int (pv 1)) (pv 1)))) pe_int))),?_⟩
  have ck:∀ i:Int,CMul i (k:Int):=fun i=>cmulR (by omega) (by omega)
  have h1:=Int.emod_nonneg c (show (2147483647:Int)≠0 by decide)
  have h2:=Int.emod_lt_of_pos c (show (0:Int) < 2147483647 by decide)
  exact ⟨_,rfl,_,_,rfl,rfl,(by show (0:Int) < _; decide),_,_,rfl,rfl,_,rfl,_,_,rfl,rfl,ck _,_,rfl,_,_,rfl,rfl,ck _,_,_,rfl,rfl,_,_,rfl,rfl,.inl ⟨by show -(2 ^ 64) < c % 2147483647 + 7919; omega,by show c % 2147483647 + 7919 < 2 ^ 64; omega⟩,_,_,rfl,rfl,(by show (0:Int) < _; decide),z⟩
def spWays:Sp:=fun vs H Q _=>vs=[]∧∀ d kvs H',Same H H'→H' d=some (.dK kvs)→(∀ x∈eightW,GoodW H' kvs x)→(∀ kv∈kvs,Itm H' kv)→kvs.length≤8→Q (.ref d) H'
theorem scWays:FnScope ["_law_ways_here","_law_word_here","_law_far_here"] [] (defScope sWays):=⟨rfl,rfl,rfl,by decide +kernel,rfl,by decide +kernel,by decide +kernel⟩
theorem ok_ways {f:Addr} {fd:FuncData} (D:Df K mg "_law_ways" sWays f fd):FnOk P w K mg base CX0 2 f fd [] spWays:=by
 refine D.F.ok scWays (fun vs H Q E h=>?_) (fun cdv A outer s H vs Q E hr h=>?_)
 ·obtain ⟨rfl,_⟩:=h
  rfl
 ·obtain ⟨rfl,z⟩:=h
  have hu:=hr.units
  have hu2:(A.deeper (envOfC "_law_ways" (defScope sWays) s.heap.objs.size f cdv)).units + 1 < cLine:=by omega
  refine ⟨_,(pss_cons (ps_set (i:=0) scWays.nd rfl (Or.inl rfl) (pe_disp (pps_cons pe_str (pe_tup (pac (pe_int) (pac (pe_int) pa_nil))) (pps_cons pe_str (pe_tup (pac (pe_int) (pac (pe_int) pa_nil))) (pps_cons pe_str (pe_tup (pac (pe_int) (pac (pe_int) pa_nil))) (pps_cons pe_str (pe_tup (pac (pe_int) (pac (pe_un un_neg pe_int) pa_nil))) pps_nil)))) rfl rfl (by simp) (by show 4≤15; decide)))
   (pss_cons (ps_for PassesOwn.never rfl (pi_list (pe_lst (pac (pe_tup (pac (pe_str) (pac (pe_tup (pac (pe_int) (pac (pe_un un_neg pe_int) pa_nil))) pa_nil))) (pac (pe_tup (pac (pe_str) (pac (pe_tup (pac (pe_un un_neg pe_int) (pac (pe_un un_neg pe_int) pa_nil))) pa_nil))) (pac (pe_tup (pac (pe_str) (pac (pe_tup (pac (pe_un un_neg pe_int) (pac (pe_int) pa_nil))) pa_nil))) (pac (pe_tup (pac (pe_str) (pac (pe_tup (pac (pe_un un_neg pe_int) (pac (pe_int) pa_nil))) pa_nil))) pa_nil)))))) (pg_tup (n:=2) rfl (pgs_cons (pg_name (i:=1) scWays.nd rfl (Or.inl rfl)) (pgs_cons (pg_name (i:=2) scWays.nd rfl (Or.inl rfl)) pgs_nil))) (pss_one (ps_dput hu2 (pv 0) (pv 1) (pv 2) rfl)))
   (pss_one (ps_ret (pv 0))))),?_⟩
  refine fun d nd=>⟨szr rfl,fun q0 m0=>⟨szr rfl,fun q1 m1=>⟨szr rfl,fun q2 m2=>⟨_,rfl,szr rfl,fun q3 m3=>⟨?_,[(Sum.inr "n",V.ref q0),(Sum.inr "ne",V.ref q1),(Sum.inr "e",V.ref q2),(Sum.inr "se",V.ref q3)],rfl,by show 4≤15; decide,?_⟩⟩⟩⟩⟩
  ·exact ((same_upd m0).trans ((same_upd m1).trans ((same_upd m2).trans (same_upd m3)))) _ _ upd_same
  have T0:=same_upd (o:=HO.tup [V.int 0,.int 1]) m0
  have T1:=same_upd (o:=HO.tup [V.int 1,.int 1]) m1
  have T2:=same_upd (o:=HO.tup [V.int 1,.int 0]) m2
  have T3:=same_upd (o:=HO.tup [V.int 1,.int (-1)]) m3
  have Sd:=same_upd (o:=HO.dK []) nd
  have S3:=Sd.trans (T0.trans (T1.trans (T2.trans T3)))
  have g0:two (upd (upd (upd (upd (upd H d (.dK [])) q0 (.tup [V.int 0,.int 1])) q1 (.tup [V.int 1,.int 1])) q2 (.tup [V.int 1,.int 0])) q3 (.tup [V.int 1,.int (-1)])) q0 (0,1):=(T1.trans (T2.trans T3)) _ _ upd_same
  have g1:two (upd (upd (upd (upd (upd H d (.dK [])) q0 (.tup [V.int 0,.int 1])) q1 (.tup [V.int 1,.int 1])) q2 (.tup [V.int 1,.int 0])) q3 (.tup [V.int 1,.int (-1)])) q1 (1,1):=(T2.trans T3) _ _ upd_same
  have g2:two (upd (upd (upd (upd (upd H d (.dK [])) q0 (.tup [V.int 0,.int 1])) q1 (.tup [V.int 1,.int 1])) q2 (.tup [V.int 1,.int 0])) q3 (.tup [V.int 1,.int (-1)])) q2 (1,0):=T3 _ _ upd_same
  have g3:two (upd (upd (upd (upd (upd H d (.dK [])) q0 (.tup [V.int 0,.int 1])) q1 (.tup [V.int 1,.int 1])) q2 (.tup [V.int 1,.int 0])) q3 (.tup [V.int 1,.int (-1)])) q3 (1,-1):=upd_same
  have ed:(upd (upd (upd (upd (upd H d (.dK [])) q0 (.tup [V.int 0,.int 1])) q1 (.tup [V.int 1,.int 1])) q2 (.tup [V.int 1,.int 0])) q3 (.tup [V.int 1,.int (-1)])) d=some (.dK []):=(T0.trans (T1.trans (T2.trans T3))) _ _ upd_same
  revert g0 g1 g2 g3 ed S3
  generalize (upd (upd (upd (upd (upd H d (.dK [])) q0 (.tup [V.int 0,.int 1])) q1 (.tup [V.int 1,.int 1])) q2 (.tup [V.int 1,.int 0])) q3 (.tup [V.int 1,.int (-1)]))=H1
  intro S3 g0 g1 g2 g3 ed
  have em:mergeK [] ([(Sum.inr "n",V.ref q0),(Sum.inr "ne",V.ref q1),(Sum.inr "e",V.ref q2),(Sum.inr "se",V.ref q3)]:List (Key×V))=([(Sum.inr "n",V.ref q0),(Sum.inr "ne",V.ref q1),(Sum.inr "e",V.ref q2),(Sum.inr "se",V.ref q3)]:List (Key×V)):=rfl
  rw [em]
  have keep:∀ {H':Hp} {kv kv':List (Key×V)} {q:Addr} {p:Int×Int},H' d=some (.dK kv)→two H' q p→two (upd H' d (.dK kv')) q p:=fun {H' kv kv' q p} e t=>by
   show (upd H' d _) q=_
   rw [upd_ne (fun z=>by
    have t':H' q=_:=t
    rw [z,e] at t'
    cases t')]
   exact t
  have S4:Same H (upd H1 d (.dK [(Sum.inr "n",V.ref q0),(Sum.inr "ne",V.ref q1),(Sum.inr "e",V.ref q2),(Sum.inr "se",V.ref q3)])):=same_updN S3 nd
  have g0:=keep (kv':=[(Sum.inr "n",V.ref q0),(Sum.inr "ne",V.ref q1),(Sum.inr "e",V.ref q2),(Sum.inr "se",V.ref q3)]) ed g0
  have g1:=keep (kv':=[(Sum.inr "n",V.ref q0),(Sum.inr "ne",V.ref q1),(Sum.inr "e",V.ref q2),(Sum.inr "se",V.ref q3)]) ed g1
  have g2:=keep (kv':=[(Sum.inr "n",V.ref q0),(Sum.inr "ne",V.ref q1),(Sum.inr "e",V.ref q2),(Sum.inr "se",V.ref q3)]) ed g2
  have g3:=keep (kv':=[(Sum.inr "n",V.ref q0),(Sum.inr "ne",V.ref q1),(Sum.inr "e",V.ref q2),(Sum.inr "se",V.ref q3)]) ed g3
  have ed':(upd H1 d (.dK [(Sum.inr "n",V.ref q0),(Sum.inr "ne",V.ref q1),(Sum.inr "e",V.ref q2),(Sum.inr "se",V.ref q3)])) d=some (.dK [(Sum.inr "n",V.ref q0),(Sum.inr "ne",V.ref q1),(Sum.inr "e",V.ref q2),(Sum.inr "se",V.ref q3)]):=upd_same
  revert S4 g0 g1 g2 g3 ed'
  generalize (upd H1 d (.dK [(Sum.inr "n",V.ref q0),(Sum.inr "ne",V.ref q1),(Sum.inr "e",V.ref q2),(Sum.inr "se",V.ref q3)]))=H2
  intro S4 g0 g1 g2 g3 ed'
  refine ⟨_,rfl,szr rfl,fun a0 n0=>⟨szr rfl,fun b0 o0=>⟨_,rfl,_,rfl,szr rfl,fun a1 n1=>⟨szr rfl,fun b1 o1=>⟨_,rfl,szr rfl,fun a2 n2=>⟨szr rfl,fun b2 o2=>⟨_,rfl,szr rfl,fun a3 n3=>⟨szr rfl,fun b3 o3=>⟨szr rfl,fun l nl=>?_⟩⟩⟩⟩⟩⟩⟩⟩⟩
  have U0:=same_upd (o:=HO.tup [V.int 0,.int (-1)]) n0
  have U1:=same_upd (o:=HO.tup [V.str "s",.ref a0]) o0
  have U2:=same_upd (o:=HO.tup [V.int (-1),.int (-1)]) n1
  have U3:=same_upd (o:=HO.tup [V.str "sw",.ref a1]) o1
  have U4:=same_upd (o:=HO.tup [V.int (-1),.int 0]) n2
  have U5:=same_upd (o:=HO.tup [V.str "w",.ref a2]) o2
  have U6:=same_upd (o:=HO.tup [V.int (-1),.int 1]) n3
  have U7:=same_upd (o:=HO.tup [V.str "nw",.ref a3]) o3
  have U8:=same_upd (o:=HO.lst [V.ref b0,.ref b1,.ref b2,.ref b3]) nl
  have W7:=U7.trans U8
  have W6:=U6.trans W7
  have W5:=U5.trans W6
  have W4:=U4.trans W5
  have W3:=U3.trans W4
  have W2:=U2.trans W3
  have W1:=U1.trans W2
  have W0:=U0.trans W1
  have rows:∃ H3,H3=(upd (upd (upd (upd (upd (upd (upd (upd (upd H2 a0 (.tup [V.int 0,.int (-1)])) b0 (.tup [V.str "s",.ref a0])) a1 (.tup [V.int (-1),.int (-1)])) b1 (.tup [V.str "sw",.ref a1])) a2 (.tup [V.int (-1),.int 0])) b2 (.tup [V.str "w",.ref a2])) a3 (.tup [V.int (-1),.int 1])) b3 (.tup [V.str "nw",.ref a3])) l (.lst [V.ref b0,.ref b1,.ref b2,.ref b3]))∧Same H2 H3∧H3 l=some (.lst [V.ref b0,.ref b1,.ref b2,.ref b3]) ∧
    ∀ (i:Nat) (y:V),([V.ref b0,.ref b1,.ref b2,.ref b3]:List V)[i]?=some y→∃ r wd q,y=.ref r∧H3 r=some (.tup [.str wd,.ref q])∧two H3 q (wayF wd)∧eightW[4 + i]?=some wd:=by
   refine ⟨_,rfl,W0,upd_same,fun i y hy=>?_⟩
   match i,hy with
   | 0,hy=>cases hy; exact ⟨b0,_,a0,rfl,W2 _ _ upd_same,W1 _ _ upd_same,rfl⟩
   | 1,hy=>cases hy; exact ⟨b1,_,a1,rfl,W4 _ _ upd_same,W3 _ _ upd_same,rfl⟩
   | 2,hy=>cases hy; exact ⟨b2,_,a2,rfl,W6 _ _ upd_same,W5 _ _ upd_same,rfl⟩
   | 3,hy=>cases hy; exact ⟨b3,_,a3,rfl,U8 _ _ upd_same,W7 _ _ upd_same,rfl⟩
   | i + 4,hy=>simp at hy
  obtain ⟨H3,eH,S23,el,row⟩:=rows
  rw [← eH]
  have S5:=S4.trans S23
  refine ⟨l,rfl,⟨_,SqL.of el⟩,?_⟩
  have first:∀ x∈eightW.take 4,GoodW H3 [(Sum.inr "n",V.ref q0),(Sum.inr "ne",V.ref q1),(Sum.inr "e",V.ref q2),(Sum.inr "se",V.ref q3)] x:=fun x hx=>by
   have hx':x∈(["n","ne","e","se"]:List Str):=hx
   simp only [List.mem_cons,List.not_mem_nil,or_false] at hx'
   rcases hx' with rfl | rfl | rfl | rfl
   ·exact ⟨q0,rfl,S23 _ _ g0⟩
   ·exact ⟨q1,rfl,S23 _ _ g1⟩
   ·exact ⟨q2,rfl,S23 _ _ g2⟩
   ·exact ⟨q3,rfl,S23 _ _ g3⟩
  have firstI:∀ kv∈([(Sum.inr "n",V.ref q0),(Sum.inr "ne",V.ref q1),(Sum.inr "e",V.ref q2),(Sum.inr "se",V.ref q3)]:List (Key×V)),Itm H3 kv:=fun kv hk=>by
   simp only [List.mem_cons,List.not_mem_nil,or_false] at hk
   rcases hk with rfl | rfl | rfl | rfl
   ·exact ⟨_,q0,rfl,by decide +kernel,S23 _ _ g0⟩
   ·exact ⟨_,q1,rfl,by decide +kernel,S23 _ _ g1⟩
   ·exact ⟨_,q2,rfl,by decide +kernel,S23 _ _ g2⟩
   ·exact ⟨_,q3,rfl,by decide +kernel,S23 _ _ g3⟩
  have nl0:∀ {kv:List (Key×V)} {H':Hp},H' d=some (.dK kv)→∀ {xs:List V},H' l=some (.lst xs)→l≠d:=fun {kv H'} e {xs} e2 z=>by rw [z,e] at e2; cases e2
  refine for_list (K:=K) (a:=l) (xs:=[V.ref b0,.ref b1,.ref b2,.ref b3]) (fun i σ H4=>(∃ v1 v2,σ=[some (.ref d),v1,v2])∧Same H H4∧H4 l=some (.lst [V.ref b0,.ref b1,.ref b2,.ref b3])∧(∀ (j:Nat) (y:V),([V.ref b0,.ref b1,.ref b2,.ref b3]:List V)[j]?=some y→∃ r wd q,y=.ref r∧H4 r=some (.tup [.str wd,.ref q])∧two H4 q (wayF wd)∧eightW[4 + j]?=some wd)∧∃ kvs,H4 d=some (.dK kvs)∧kvs.length≤4 + i∧(∀ kv∈kvs,Itm H4 kv)∧∀ x∈eightW.take (4 + i),GoodW H4 kvs x)
   ⟨⟨_,_,rfl⟩,S5,el,row,_,S23 _ _ ed',Nat.le_refl _,firstI,first⟩ (fun i σ H4 _ ⟨_,_,e,_⟩=>SqL.of e) ?_ ?_
  ·rintro i y σ H4 hy ⟨⟨v1,v2,rfl⟩,Sx,e4,row4,kvs,ek,kl,ik,gk⟩
   have hi:i < 4:=(List.getElem?_eq_some_iff.mp hy).1
   obtain ⟨r,wd,q,rfl,er,tq,ew⟩:=row4 i y hy
   refine ⟨r,_,rfl,SqT.of er,rfl,_,_,rfl,_,_,rfl,rfl,?_⟩
   refine ⟨_,rfl,_,rfl,_,rfl,d,_,rfl,DPut.k (k:=Sum.inr wd) ek (by rw [sizeLine_eq]; omega),⟨_,_,rfl⟩,same_updN Sx nd,?_,fun j y hy=>?_,putK kvs (Sum.inr wd) (.ref q),upd_same,Nat.le_trans (putK_lenK _ _ _) (by omega),fun kv hk=>?_,fun x hx=>?_⟩
   ·rw [upd_ne (nl0 ek e4)]
    exact e4
   ·obtain ⟨r',wd',q',e1,e2,e3,e5⟩:=row4 j y hy
    refine ⟨r',wd',q',e1,?_,keep ek e3,e5⟩
    rw [upd_ne (fun z=>by rw [z,ek] at e2; cases e2)]
    exact e2
   ·rcases putK_mem hk with hk | rfl
    ·obtain ⟨wd',q',e1,e2,e3⟩:=ik kv hk
     exact ⟨wd',q',e1,e2,keep ek e3⟩
    ·exact ⟨wd,q,rfl,List.mem_of_getElem? ew,keep ek tq⟩
   ·rw [show 4 + (i + 1)=(4 + i) + 1 from rfl,List.take_add_one,ew] at hx
    by_cases hxw:x=wd
    ·subst hxw
     exact ⟨q,by rw [valV_put,if_pos rfl],keep ek tq⟩
    ·rcases List.mem_append.mp hx with hx | hx
     ·obtain ⟨q',e1,e2⟩:=gk x hx
      refine ⟨q',?_,keep ek e2⟩
      rw [valV_put,if_neg (fun e=>hxw (Sum.inr.inj e))]
      exact e1
     ·exact absurd (List.mem_singleton.mp hx) hxw
  ·rintro σ H4 ⟨⟨v1,v2,rfl⟩,Sx,e4,row4,kvs,ek,kl,ik,gk⟩
   exact ⟨_,rfl,z d kvs H4 Sx ek (fun x hx=>gk x hx) ik kl⟩
end
def absI (x:Int):Int:=if x < 0 then -x else x
def mxA (x y:Int):Int:=if absI y > absI x then absI y else absI x
def x1F (n:Int) (so:Str):Int:=if decide (V.str so=V.str "line")=true then (if decide (mxA (n % 19 - 9) (n / 19 % 19 - 9) < 2)=true then 9 else n % 19 - 9) else n % 19 - 9
def x2F (n:Int) (so:Str):Int:=if decide (V.str so=V.str "by")=true then (if decide (V.int (n / 361 % 8)=V.int 1)=true then (1 - 2 * (n / 2888 % 2)) * (1000000000 - n / 5776 % 30) else x1F n so) else x1F n so
def wordF (m:Int):Str:=match atI (eightW.map V.str) (m % 8) with
 | some (.str s)=>s
 | _=>""
def colF (m:Int):Str:=match atI [V.str "black",.str "red",.str (Txt.slice "abcdefgh" (some (m / 8 % 8)) none),.str "z",.str "n",.str "line",.str "times",.str "turn"] (m % 8) with
 | some (.str s)=>s
 | _=>""
def plF (n:Int):Sk:=if n % 16 < 10 then .line false (wayF (wordF (n / 16))).1 (wayF (wordF (n / 16))).2 else if n % 16 < 13 then .line false (x2F (n / 16) "line") (n / 16 / 19 % 19 - 9) else if n % 16 < 15 then .by_ (x2F (n / 16) "by") (n / 16 / 19 % 19 - 9) else .ink (colF (n / 16))
inductive Hd where
 | no
 | back
 | times (m:Nat)
 | turn (k:Nat)
def hdV:Hd→List V
 | .no=>[]
 | .back=>[.str "back"]
 | .times m=>[.str "times",.int (m:Int)]
 | .turn k=>[.str "turn",.int (k:Int)]
def manyF (n:Int):Nat:=(if n / 180 % 4 / 3=0 then 1 + n / 3 % 4 else 1 + n / 3 % 60).toNat
def hdF (n:Int):Hd:=if n % 3=0 then .back else if n % 3=1 then .times (manyF n) else .turn (n / 3 % 8).toNat
def hdW:Hd→List Str
 | .no=>[]
 | .back=>[]
 | .times m=>[nT (m:Int),"times"]
 | .turn k=>["turn",nT (k:Int)]
theorem way_none {a b:Int} (h:2≤a.natAbs∨2≤b.natAbs):wayW a b=none:=by
 unfold wayW
 rw [List.find?_eq_none.mpr]
 ·rfl
 ·intro x hx
  simp only [ways8,List.mem_cons,List.not_mem_nil,or_false] at hx
  rcases hx with rfl | rfl | rfl | rfl | rfl | rfl | rfl | rfl <;> simp only [decide_eq_true_eq] <;> intro e <;> injection e with e1 e2 <;> subst e1 <;> subst e2 <;> revert h <;> decide
theorem x2_line (n:Int):x2F n "line"=x1F n "line":=by
 unfold x2F
 exact if_neg (by decide +kernel)
theorem x1_line (n:Int):x1F n "line"=if mxA (n % 19 - 9) (n / 19 % 19 - 9) < 2 then 9 else n % 19 - 9:=by
 unfold x1F
 rw [if_pos (by decide +kernel)]
 by_cases h:mxA (n % 19 - 9) (n / 19 % 19 - 9) < 2
 ·rw [if_pos (decide_eq_true h),if_pos h]
 ·rw [if_neg (by rw [decide_eq_false h]; decide),if_neg h]
theorem x1_by (n:Int):x1F n "by"=n % 19 - 9:=by
 unfold x1F
 exact if_neg (by decide +kernel)
theorem mx_big {x y:Int} (h:¬ mxA x y < 2):2≤x.natAbs∨2≤y.natAbs:=by
 unfold mxA absI at h
 split at h <;> split at h <;> omega
theorem way_far (n:Int):wayW (x2F n "line") (n / 19 % 19 - 9)=none:=by
 refine way_none ?_
 rw [x2_line,x1_line]
 split
 ·exact .inl (by decide)
 ·rename_i h
  exact mx_big h
theorem x2_by (n:Int):-1000000000≤x2F n "by"∧x2F n "by"≤1000000000:=by
 have a1:=Int.emod_nonneg (n / 2888) (show (2:Int)≠0 by decide)
 have a2:=Int.emod_lt_of_pos (n / 2888) (show (0:Int) < 2 by decide)
 have a3:=Int.emod_nonneg (n / 5776) (show (30:Int)≠0 by decide)
 have a4:=Int.emod_lt_of_pos (n / 5776) (show (0:Int) < 30 by decide)
 have a5:=Int.emod_nonneg n (show (19:Int)≠0 by decide)
 have a6:=Int.emod_lt_of_pos n (show (0:Int) < 19 by decide)
 unfold x2F
 rw [if_pos (by decide +kernel),x1_by]
 split
 ·have hc:n / 2888 % 2=0∨n / 2888 % 2=1:=by omega
  rcases hc with h | h <;> rw [h] <;> omega
 ·omega
theorem word_in (m:Int):wordF m∈eightW:=by
 unfold wordF
 obtain ⟨v,hv,hm⟩:=atI_of (xs:=eightW.map V.str) (m:=m % 8) (by omega) (by show m % 8 < 8; omega)
 obtain ⟨wd,hw,rfl⟩:=List.mem_map.mp hm
 rw [hv]
 exact hw
theorem way_vd:∀ x∈eightW,(-9≤(wayF x).1∧(wayF x).1≤9)∧(-9≤(wayF x).2∧(wayF x).2≤9)∧¬ ((wayF x).1=0∧(wayF x).2=0):=by
 intro x hx
 simp only [eightW,List.mem_cons,List.not_mem_nil,or_false] at hx
 rcases hx with rfl | rfl | rfl | rfl | rfl | rfl | rfl | rfl <;> decide +kernel
theorem abc_ok:∀ m:Fin 8,colB (.str (Txt.slice "abcdefgh" (some (m.val:Int)) none))=true:=by decide +kernel
theorem col_ok (m:Int):colB (.str (colF m))=true:=by
 unfold colF
 obtain ⟨v,hv,hm⟩:=atI_of (xs:=[V.str "black",.str "red",.str (Txt.slice "abcdefgh" (some (m / 8 % 8)) none),.str "z",.str "n",.str "line",.str "times",.str "turn"]) (m:=m % 8) (by omega) (by show m % 8 < 8; omega)
 rw [hv]
 simp only [List.mem_cons,List.not_mem_nil,or_false] at hm
 have ha:colB (.str (Txt.slice "abcdefgh" (some (m / 8 % 8)) none))=true:=by
  have:=abc_ok ⟨(m / 8 % 8).toNat,by omega⟩
  simp only at this
  rw [Int.toNat_of_nonneg (by omega)] at this
  exact this
 rcases hm with rfl | rfl | rfl | rfl | rfl | rfl | rfl | rfl
 ·decide +kernel
 ·decide +kernel
 ·exact ha
 ·decide +kernel
 ·decide +kernel
 ·decide +kernel
 ·decide +kernel
 ·decide +kernel
theorem pl_vd (n:Int) (d:Nat):(plF n).vd d:=by
 unfold plF
 split
 ·simp only [Sk.vd]
  exact way_vd _ (word_in _)
 ·split
  ·simp only [Sk.vd]
   have hw:=way_far (n / 16)
   rw [x2_line,x1_line]
   split
   ·exact ⟨by omega,by omega,by omega⟩
   ·rename_i h
    have:=mx_big h
    exact ⟨by omega,by omega,by omega⟩
  ·split
   ·simp only [Sk.vd]
    exact ⟨x2_by _,by omega⟩
   ·simp only [Sk.vd]
    exact col_ok _
theorem nT_len {n:Int} (h:n.natAbs < 10 ^ 10):(nT n).length≤11:=by
 have len:∀ x:Str,x.cps.toList.length=x.length:=fun x=>Array.length_toList
 have hl:=dg_len (m:=n.natAbs) h
 by_cases h0:0≤n
 ·obtain ⟨m,rfl⟩:=Int.eq_ofNat_of_zero_le h0
  rw [← len,nT_nat]
  have:(m:Int).natAbs=m:=by omega
  rw [this] at hl
  omega
 ·obtain ⟨m,hm⟩:∃ m:Nat,n=-(m:Int):=⟨n.natAbs,by omega⟩
  subst hm
  have e:(-(m:Int)).natAbs=m:=by omega
  rw [e] at hl
  rw [← len,nT_neg m (by omega),List.length_cons]
  omega
theorem nT_len2 {n:Int} (h:n.natAbs < 10 ^ 2):(nT n).length≤3:=by
 have len:∀ x:Str,x.cps.toList.length=x.length:=fun x=>Array.length_toList
 have hl:=dg_lenk 1 n.natAbs h
 by_cases h0:0≤n
 ·obtain ⟨m,rfl⟩:=Int.eq_ofNat_of_zero_le h0
  rw [← len,nT_nat]
  have:(m:Int).natAbs=m:=by omega
  rw [this] at hl
  omega
 ·obtain ⟨m,hm⟩:∃ m:Nat,n=-(m:Int):=⟨n.natAbs,by omega⟩
  subst hm
  have e:(-(m:Int)).natAbs=m:=by omega
  rw [e] at hl
  rw [← len,nT_neg m (by omega),List.length_cons]
  omega
theorem w8_len:∀ x∈eightW,x.length≤2:=by
 intro x hx
 simp only [eightW,List.mem_cons,List.not_mem_nil,or_false] at hx
 rcases hx with rfl | rfl | rfl | rfl | rfl | rfl | rfl | rfl <;> decide +kernel
theorem pl_wsz (n:Int):wsz (plF n).wd≤29:=by
 have lb:("by":Str).length=2:=by decide +kernel
 have ll:("line":Str).length=4:=by decide +kernel
 have li:("ink":Str).length=3:=by decide +kernel
 unfold plF
 split
 ·simp only [Sk.wd,lnW]
  rw [lineW_some (way_wd _ (word_in _)),wsz_cons,wsz_nil]
  have:=w8_len _ (word_in (n / 16))
  omega
 ·split
  ·simp only [Sk.wd,lnW]
   rw [lineW_none (way_far (n / 16)),wsz_cons,wsz_cons,wsz_cons,wsz_nil,ll,x2_line,x1_line]
   have h1:(nT (if mxA (n / 16 % 19 - 9) (n / 16 / 19 % 19 - 9) < 2 then 9 else n / 16 % 19 - 9)).length≤3:=nT_len2 (by split <;> omega)
   have h2:(nT (n / 16 / 19 % 19 - 9)).length≤3:=nT_len2 (by omega)
   omega
  ·split
   ·simp only [Sk.wd,lnW]
    rw [wsz_cons,wsz_cons,wsz_cons,wsz_nil,lb]
    have hx:=x2_by (n / 16)
    have h1:(nT (x2F (n / 16) "by")).length≤11:=nT_len (by omega)
    have h2:(nT (n / 16 / 19 % 19 - 9)).length≤3:=nT_len2 (by omega)
    omega
   ·simp only [Sk.wd,lnW]
    rw [wsz_cons,wsz_cons,wsz_nil,li]
    have:=col_len (col_ok (n / 16))
    omega
section
variable {P:Program} {w:World} {K:PySem.W.Frag} {mg:Str→Option Value} {base:Heap}
def spFar:Sp:=fun vs H Q _=>∃ (n:Int) (so:Str),vs=[.int n,.str so]∧∀ (r t l:Addr) H',Same H H'→H' r=some (.tup [.ref t,.ref l])→H' t=some (.tup [.str so,.int (x2F n so),.int (n / 19 % 19 - 9)])→H' l=some (.lst ([so,nT (x2F n so),nT (n / 19 % 19 - 9)].map V.str))→H l=none→Q (.ref r) H'
theorem scFar:FnScope ["_law_number_here","_law_sort","_law_x","_law_y"] ["_law_number_here","_law_sort"] (defScope sFar):=⟨rfl,rfl,rfl,by decide +kernel,rfl,by decide +kernel,by decide +kernel⟩
theorem ok_far {f:Addr} {fd:FuncData} (D:Df K mg "_law_far" sFar f fd) (B:Blt mg):FnOk P w K mg base CX0 1 f fd ["_law_number_here","_law_sort"] spFar:=by
 refine D.F.ok scFar (fun vs H Q E h=>?_) (fun cdv A outer s H vs Q E hr h=>?_)
 ·obtain ⟨n,so,rfl,_⟩:=h
  rfl
 ·obtain ⟨n,so,rfl,z⟩:=h
  refine ⟨_,(pss_cons (ps_set (i:=2) scFar.nd rfl (Or.inl rfl) (pe_op op_sub (pe_op op_mod (pv 0) pe_int) pe_int))
   (pss_cons (ps_set (i:=3) scFar.nd rfl (Or.inl rfl) (pe_op op_sub (pe_op op_mod (pe_op op_fdiv (pv 0) pe_int) pe_int) pe_int))
   (pss_cons (ps_if (PW.pt (pw_and (pt_cmpR op_eq (pv 1) pe_str (nomark _)) (pw_and1 (pt_cmpR op_lt (pe_callB (call_max2 rfl) (by rfl) B.max boot_max (pac (pe_callB call_abs (by rfl) B.abs boot_abs (pac (pv 2) pa_nil)) (pac (pe_callB call_abs (by rfl) B.abs boot_abs (pac (pv 3) pa_nil)) pa_nil))) pe_int (nomark _))))) (pss_one (ps_set (i:=2) scFar.nd rfl (Or.inl rfl) pe_int)) pss_nil)
   (pss_cons (ps_if (PW.pt (pw_and (pt_cmpR op_eq (pv 1) pe_str (nomark _)) (pw_and1 (pt_cmpR op_eq (pe_op op_mod (pe_op op_fdiv (pv 0) pe_int) pe_int) pe_int (nomark _))))) (pss_one (ps_set (i:=2) scFar.nd rfl (Or.inl rfl) (pe_op op_mul (pe_op op_sub pe_int (pe_op op_mul pe_int (pe_op op_mod (pe_op op_fdiv (pv 0) pe_int) pe_int))) (pe_op op_sub pe_p9 (pe_op op_mod (pe_op op_fdiv (pv 0) pe_int) pe_int))))) pss_nil)
   (pss_one (ps_ret (pe_tup (pac (pe_tup (pac (pv 1) (pac (pv 2) (pac (pv 3) pa_nil)))) (pac (pe_lst (pac (pv 1) (pac (pe_callTy call_str_int (by rfl) B.str boot_str (pac (pv 2) pa_nil)) (pac (pe_callTy call_str_int (by rfl) B.str boot_str (pac (pv 3) pa_nil)) pa_nil)))) pa_nil))))))))),?_⟩
  refine ⟨_,rfl,_,_,rfl,rfl,(by show (0:Int) < _; decide),_,_,rfl,rfl,?_⟩
  refine ⟨_,rfl,_,_,rfl,rfl,⟨by decide,by decide⟩,_,_,rfl,rfl,(by show (0:Int) < _; decide),_,_,rfl,rfl,?_⟩
  have hy1:=Int.emod_nonneg (n / 19) (show (19:Int)≠0 by decide)
  have hy2:=Int.emod_lt_of_pos (n / 19) (show (0:Int) < 19 by decide)
  have hx1:=Int.emod_nonneg n (show (19:Int)≠0 by decide)
  have hx2:=Int.emod_lt_of_pos n (show (0:Int) < 19 by decide)
  refine' laterS (fun σ H1=>∃ x:Int,σ=[some (.int n),some (.str so),some (.int x),some (.int (n / 19 % 19 - 9))]∧H1=H∧x=x1F n so∧-2000000000≤x∧x≤2000000000) (fun fin=>_) _
  rotate_left
  ·refine ⟨_,rfl,rfl,_,rfl,ifC (fun g1=>?_) (fun g1=>iteF (fin _ _ ⟨_,rfl,rfl,by unfold x1F; rw [if_neg (by rw [g1]; decide)],by omega,by omega⟩))⟩
   refine ⟨_,rfl,_,rfl,_,rfl,_,rfl,_,_,rfl,_,_,rfl,rfl,_,rfl,ifC (fun g2=>fin _ _ ⟨_,rfl,rfl,by unfold x1F; rw [if_pos g1]; exact (if_pos g2).symm,by decide,by decide⟩) (fun g2=>fin _ _ ⟨_,rfl,rfl,by unfold x1F; rw [if_pos g1]; exact (if_neg (fun z=>Bool.noConfusion (z.symm.trans g2))).symm,by omega,by omega⟩)⟩
  rintro σ H1 ⟨x0,rfl,rfl,ex0,h1,h2⟩
  refine' laterS (fun σ H2=>∃ x:Int,σ=[some (.int n),some (.str so),some (.int x),some (.int (n / 19 % 19 - 9))]∧H2=H1∧x=x2F n so∧-20000000000≤x∧x≤20000000000) (fun fin=>_) _
  rotate_left
  ·refine ⟨_,rfl,rfl,_,rfl,ifC (fun g1=>?_) (fun g1=>iteF (fin _ _ ⟨_,rfl,rfl,by unfold x2F; rw [if_neg (by rw [g1]; decide)]; exact ex0,by omega,by omega⟩))⟩
   refine ⟨_,rfl,_,_,rfl,rfl,⟨by decide,by decide⟩,_,_,rfl,rfl,(by show (0:Int) < _; decide),rfl,_,rfl,ifC (fun g2=>?_) (fun g2=>fin _ _ ⟨_,rfl,rfl,by unfold x2F; rw [if_pos g1]; exact ex0.trans (if_neg (fun z=>Bool.noConfusion (z.symm.trans g2))).symm,by omega,by omega⟩)⟩
   have e1:=Int.emod_nonneg (n / 2888) (show (2:Int)≠0 by decide)
   have e2:=Int.emod_lt_of_pos (n / 2888) (show (0:Int) < 2 by decide)
   have e3:=Int.emod_nonneg (n / 5776) (show (30:Int)≠0 by decide)
   have e4:=Int.emod_lt_of_pos (n / 5776) (show (0:Int) < 30 by decide)
   have hcase:n / 2888 % 2=0∨n / 2888 % 2=1:=by omega
   refine ⟨_,rfl,_,_,rfl,rfl,⟨by decide,by decide⟩,_,_,rfl,rfl,(by show (0:Int) < _; decide),_,_,rfl,rfl,.inl ⟨by decide,by decide⟩,_,_,rfl,rfl,_,rfl,_,_,rfl,rfl,⟨by decide,by decide⟩,_,_,rfl,rfl,(by show (0:Int) < _; decide),_,_,rfl,rfl,_,_,rfl,rfl,.inl ⟨by show -(2 ^ 64) < 1 - 2 * (n / 2888 % 2); omega,by show 1 - 2 * (n / 2888 % 2) < 2 ^ 64; omega⟩,fin _ _ ⟨_,rfl,rfl,?_,?_,?_⟩⟩
   ·unfold x2F; rw [if_pos g1]; exact (if_pos g2).symm
   ·show -20000000000≤(1 - 2 * (n / 2888 % 2)) * (1000000000 - n / 5776 % 30)
    rcases hcase with h | h <;> rw [h] <;> omega
   ·show (1 - 2 * (n / 2888 % 2)) * (1000000000 - n / 5776 % 30)≤20000000000
    rcases hcase with h | h <;> rw [h] <;> omega
  rintro σ H2 ⟨x,rfl,rfl,ex2,h3,h4⟩
  subst ex2
  refine ⟨_,rfl,_,rfl,_,rfl,szr rfl,fun t nt=>⟨_,rfl,_,rfl,x2F n so,rfl,log_ok (by omega),_,rfl,n / 19 % 19 - 9,rfl,log_ok (by omega),szr rfl,fun l nl=>⟨szr rfl,fun r nr=>?_⟩⟩⟩
  have T1:=same_upd (o:=HO.tup [V.str so,.int (x2F n so),.int (n / 19 % 19 - 9)]) nt
  have T2:=same_upd (o:=HO.lst [V.str so,.str (Str.ofString (toString (x2F n so))),.str (Str.ofString (toString (n / 19 % 19 - 9)))]) nl
  have T3:=same_upd (o:=HO.tup [V.ref t,.ref l]) nr
  exact z r t l _ (T1.trans (T2.trans T3)) upd_same ((T2.trans T3) _ _ upd_same) (T3 _ _ upd_same) (none_same T1 nl)
def spPlain:Sp:=fun vs H Q _=>∃ n:Int,vs=[.int n]∧∀ (r t l:Addr) H',Same H H'→H' r=some (.tup [.ref t,.ref l])→SkIs H' (.ref t) (plF n)→H' l=some (.lst ((plF n).wd.map V.str))→H l=none→Q (.ref r) H'
theorem scPlain:FnScope ["_law_number_here","_law_sort","_law_word_here","_law_colour"] ["_law_number_here"] (defScope sPlain):=⟨rfl,rfl,rfl,by decide +kernel,rfl,by decide +kernel,by decide +kernel⟩
theorem ok_plain {f fW fF:Addr} {fd fdW fdF:FuncData} (D:Df K mg "_law_plain" sPlain f fd) (DW:Df K mg "_law_ways" sWays fW fdW) (bW:Binds K fdW [] []) (GW:FnOk P w K mg base CX0 2 fW fdW [] spWays)
  (DF:Df K mg "_law_far" sFar fF fdF) (bF:Binds K fdF ["_law_number_here","_law_sort"] []) (GF:FnOk P w K mg base CX0 1 fF fdF ["_law_number_here","_law_sort"] spFar):FnOk P w K mg base CX0 3 f fd ["_law_number_here"] spPlain:=by
 refine D.F.ok scPlain (fun vs H Q E h=>?_) (fun cdv A outer s H vs Q E hr h=>?_)
 ·obtain ⟨n,rfl,_⟩:=h
  rfl
 ·obtain ⟨n,rfl,z⟩:=h
  have hr1:Room 1 _:=hr.mono (by decide)
  have hu:=hr.units
  have hu2:(A.deeper (envOfC "_law_plain" (defScope sPlain) s.heap.objs.size f cdv)).units + 1 < cLine:=by omega
  refine ⟨_,(pss_cons (ps_set (i:=1) scPlain.nd rfl (Or.inl rfl) (pe_op op_mod (pv 0) pe_int))
   (pss_cons (ps_set (i:=0) scPlain.nd rfl (Or.inl rfl) (pe_op op_fdiv (pv 0) pe_int))
   (pss_cons (ps_if (pt_cmpR op_lt (pv 1) pe_int (nomark _)) (pss_cons (ps_set (i:=2) scPlain.nd rfl (Or.inl rfl) (pe_ix ix_list (pe_lst (pac (pe_str) (pac (pe_str) (pac (pe_str) (pac (pe_str) (pac (pe_str) (pac (pe_str) (pac (pe_str) (pac (pe_str) pa_nil))))))))) (pe_op op_mod (pv 0) pe_int) (fun _ _=>rfl)))
   (pss_one (ps_ret (pe_tup (pac (pe_op op_catT (pe_tup (pac (pe_str) pa_nil)) (pe_dget hu2 (pe_call0 GW hr rfl DW.m DW.F.kp bW .nil pass0) (pv 2) (fun _ _=>rfl))) (pac (pe_lst (pac (pv 2) pa_nil)) pa_nil)))))) pss_nil)
   (pss_cons (ps_if (pt_cmpR op_lt (pv 1) pe_int (nomark _)) (pss_one (ps_ret (pec GF hr1 rfl DF.m DF.F.kp bF .nil pass0 (pac (pv 0) (pac (pe_str) pa_nil))))) pss_nil)
   (pss_cons (ps_if (pt_cmpR op_lt (pv 1) pe_int (nomark _)) (pss_one (ps_ret (pec GF hr1 rfl DF.m DF.F.kp bF .nil pass0 (pac (pv 0) (pac (pe_str) pa_nil))))) pss_nil)
   (pss_cons (ps_set (i:=3) scPlain.nd rfl (Or.inl rfl) (pe_ix ix_list (pe_lst (pac (pe_str) (pac (pe_str) (pac (pe_slice sl_str pe_str (po_some (pe_op op_mod (pe_op op_fdiv (pv 0) pe_int) pe_int)) po_none) (pac (pe_str) (pac (pe_str) (pac (pe_str) (pac (pe_str) (pac (pe_str) pa_nil))))))))) (pe_op op_mod (pv 0) pe_int) (fun _ _=>rfl)))
   (pss_one (ps_ret (pe_tup (pac (pe_tup (pac (pe_str) (pac (pv 3) pa_nil))) (pac (pe_lst (pac (pe_str) (pac (pv 3) pa_nil))) pa_nil))))))))))),?_⟩
  refine ⟨_,rfl,_,_,rfl,rfl,(by show (0:Int) < _; decide),?_⟩
  refine ⟨_,rfl,_,_,rfl,rfl,⟨by decide,by decide⟩,?_⟩
  refine ⟨_,rfl,_,_,rfl,rfl,_,rfl,ifC (fun g1=>?_) (fun g1=>?_)⟩
  ·refine ⟨szr rfl,fun l nl=>?_⟩
   have Tl:=same_upd (o:=HO.lst (eightW.map V.str)) nl
   obtain ⟨v,hv,hm⟩:=atI_of (xs:=eightW.map V.str) (m:=n / 16 % 8) (by omega) (by show n / 16 % 8 < 8; omega)
   obtain ⟨wd,hw,rfl⟩:=List.mem_map.mp hm
   refine ⟨_,rfl,_,_,rfl,rfl,(by show (0:Int) < _; decide),l,_,_,_,rfl,rfl,SqL.of upd_same,hv,?_⟩
   refine ⟨szr rfl,fun t1 n1=>?_⟩
   have T1:=same_upd (o:=HO.tup [V.str "line"]) n1
   refine ⟨rfl,fun d kvs H2 S2 ed gd _ _=>?_⟩
   obtain ⟨q,hq,tq⟩:=gd wd hw
   have ewd:wordF (n / 16)=wd:=by unfold wordF; rw [hv]
   refine ⟨_,rfl,d,.ref q,rfl,?_,?_⟩
   ·have:=DGet.k (k:=Sum.inr wd) ed
    rw [hq] at this
    exact this
   refine ⟨t1,q,_,_,rfl,rfl,SqT.of (S2 _ _ upd_same),SqT.of tq,by simp,szr rfl,fun h=>(by cases h),fun _ t n2=>?_⟩
   have T2:=same_upd (o:=HO.tup ([V.str "line"] ++ [V.int (wayF wd).1,.int (wayF wd).2])) n2
   refine ⟨_,rfl,szr rfl,fun l2 n3=>⟨szr rfl,fun r nr=>?_⟩⟩
   have T3:=same_upd (o:=HO.lst [V.str wd]) n3
   have T4:=same_upd (o:=HO.tup [V.ref t,.ref l2]) nr
   have ep:plF n=.line false (wayF wd).1 (wayF wd).2:=by unfold plF; rw [if_pos (of_decide_eq_true g1),ewd]
   refine z r t l2 _ ((Tl.trans T1).trans (S2.trans (T2.trans (T3.trans T4)))) upd_same ?_ ?_ (none_same ((Tl.trans T1).trans (S2.trans T2)) n3)
   ·rw [ep]
    exact .line ((T3.trans T4) _ _ upd_same)
   ·rw [ep]
    simp only [Sk.wd,lnW]
    rw [lineW_some (way_wd wd hw)]
    exact T4 _ _ upd_same
  have g1:=of_decide_eq_false g1
  refine ⟨_,rfl,_,_,rfl,rfl,_,rfl,ifC (fun g2=>?_) (fun g2=>?_)⟩
  ·refine ⟨_,rfl,_,_,rfl,fun r t l H' S er et el nl=>?_⟩
   have ep:plF n=.line false (x2F (n / 16) "line") (n / 16 / 19 % 19 - 9):=by unfold plF; rw [if_neg g1,if_pos (of_decide_eq_true g2)]
   refine z r t l H' S er (by rw [ep]; exact .line et) ?_ nl
   rw [ep]
   simp only [Sk.wd,lnW]
   rw [lineW_none (way_far (n / 16))]
   exact el
  have g2:=of_decide_eq_false g2
  refine ⟨_,rfl,_,_,rfl,rfl,_,rfl,ifC (fun g3=>?_) (fun g3=>?_)⟩
  ·refine ⟨_,rfl,_,_,rfl,fun r t l H' S er et el nl=>?_⟩
   have ep:plF n=.by_ (x2F (n / 16) "by") (n / 16 / 19 % 19 - 9):=by unfold plF; rw [if_neg g1,if_neg g2,if_pos (of_decide_eq_true g3)]
   refine z r t l H' S er (by rw [ep]; exact .by_ et) ?_ nl
   rw [ep]
   simp only [Sk.wd,lnW]
   exact el
  have g3:=of_decide_eq_false g3
  refine ⟨_,rfl,_,_,rfl,rfl,⟨by decide,by decide⟩,_,_,rfl,rfl,(by show (0:Int) < _; decide),_,rfl,_,rfl,by rw [sizeLine_eq]; decide,szr rfl,fun l nl=>?_⟩
  have Tl:=same_upd (o:=HO.lst [V.str "black",.str "red",.str (Txt.slice "abcdefgh" (some (n / 16 / 8 % 8)) none),.str "z",.str "n",.str "line",.str "times",.str "turn"]) nl
  obtain ⟨v,hv,hm⟩:=atI_of (xs:=[V.str "black",.str "red",.str (Txt.slice "abcdefgh" (some (n / 16 / 8 % 8)) none),.str "z",.str "n",.str "line",.str "times",.str "turn"]) (m:=n / 16 % 8) (by omega) (by show n / 16 % 8 < 8; omega)
  obtain ⟨c,rfl⟩:∃ c,v=V.str c:=by
   simp only [List.mem_cons,List.not_mem_nil,or_false] at hm
   rcases hm with rfl | rfl | rfl | rfl | rfl | rfl | rfl | rfl <;> exact ⟨_,rfl⟩
  refine ⟨_,rfl,_,_,rfl,rfl,(by show (0:Int) < _; decide),l,_,_,_,rfl,rfl,SqL.of upd_same,hv,?_⟩
  refine ⟨_,rfl,szr rfl,fun t nt=>⟨_,rfl,szr rfl,fun l2 n3=>⟨szr rfl,fun r nr=>?_⟩⟩⟩
  have T2:=same_upd (o:=HO.tup [V.str "ink",.str c]) nt
  have T3:=same_upd (o:=HO.lst [V.str "ink",.str c]) n3
  have T4:=same_upd (o:=HO.tup [V.ref t,.ref l2]) nr
  have ec:colF (n / 16)=c:=by unfold colF; rw [hv]
  have ep:plF n=.ink c:=by unfold plF; rw [if_neg g1,if_neg g2,if_neg g3,ec]
  refine z r t l2 _ (Tl.trans (T2.trans (T3.trans T4))) upd_same ?_ ?_ (none_same (Tl.trans T2) n3)
  ·rw [ep]
   exact .ink ((T3.trans T4) _ _ upd_same)
  ·rw [ep]
   simp only [Sk.wd,lnW]
   exact T4 _ _ upd_same
def spHead:Sp:=fun vs H Q _=>∃ n:Int,vs=[.int n]∧∀ (r t l:Addr) H',Same H H'→H' r=some (.tup [.ref t,.ref l])→H' t=some (.tup (hdV (hdF n)))→H' l=some (.lst ((hdW (hdF n)).map V.str))→H l=none→Q (.ref r) H'
theorem scHead:FnScope ["_law_number_here","_law_many"] ["_law_number_here"] (defScope sHead):=⟨rfl,rfl,rfl,by decide +kernel,rfl,by decide +kernel,by decide +kernel⟩
theorem ok_head {f:Addr} {fd:FuncData} (D:Df K mg "_law_head" sHead f fd) (B:Blt mg):FnOk P w K mg base CX0 1 f fd ["_law_number_here"] spHead:=by
 refine D.F.ok scHead (fun vs H Q E h=>?_) (fun cdv A outer s H vs Q E hr h=>?_)
 ·obtain ⟨n,rfl,_⟩:=h
  rfl
 ·obtain ⟨n,rfl,z⟩:=h
  refine ⟨_,(pss_cons (ps_if (pt_cmpR op_eq (pe_op op_mod (pv 0) pe_int) pe_int (nomark _)) (pss_one (ps_ret (pe_tup (pac (pe_tup (pac (pe_str) pa_nil)) (pac (pe_lst pa_nil) pa_nil))))) pss_nil)
   (pss_cons (ps_if (pt_cmpR op_eq (pe_op op_mod (pv 0) pe_int) pe_int (nomark _)) (pss_cons (ps_set (i:=1) scHead.nd rfl (Or.inl rfl) (pe_ix ix_list (pe_lst (pac (pe_op op_add pe_int (pe_op op_mod (pe_op op_fdiv (pv 0) pe_int) pe_int)) (pac (pe_op op_add pe_int (pe_op op_mod (pe_op op_fdiv (pv 0) pe_int) pe_int)) pa_nil))) (pe_op op_fdiv (pe_op op_mod (pe_op op_fdiv (pv 0) pe_int) pe_int) pe_int) (fun _ _=>rfl)))
   (pss_one (ps_ret (pe_tup (pac (pe_tup (pac (pe_str) (pac (pv 1) pa_nil))) (pac (pe_lst (pac (pe_callTy call_str_int (by rfl) B.str boot_str (pac (pv 1) pa_nil)) (pac (pe_str) pa_nil))) pa_nil)))))) pss_nil)
   (pss_one (ps_ret (pe_tup (pac (pe_tup (pac (pe_str) (pac (pe_op op_mod (pe_op op_fdiv (pv 0) pe_int) pe_int) pa_nil))) (pac (pe_lst (pac (pe_str) (pac (pe_callTy call_str_int (by rfl) B.str boot_str (pac (pe_op op_mod (pe_op op_fdiv (pv 0) pe_int) pe_int) pa_nil)) pa_nil))) pa_nil))))))),?_⟩
  refine ⟨_,rfl,_,_,rfl,rfl,(by show (0:Int) < _; decide),rfl,_,rfl,?_⟩
  by_cases g0:n % 3=0
  ·refine ifB_pos (decide_eq_true (by show V.int (n % 3)=V.int 0; rw [g0])) ?_
   refine ⟨szr rfl,fun t nt=>⟨szr rfl,fun l nl=>⟨szr rfl,fun r nr=>?_⟩⟩⟩
   have T1:=same_upd (o:=HO.tup [V.str "back"]) nt
   have T2:=same_upd (o:=HO.lst []) nl
   have T3:=same_upd (o:=HO.tup [V.ref t,.ref l]) nr
   have eh:hdF n=.back:=by unfold hdF; rw [if_pos g0]
   refine z r t l _ (T1.trans (T2.trans T3)) upd_same ?_ ?_ (none_same T1 nl)
   ·rw [eh]
    exact (T2.trans T3) _ _ upd_same
   ·rw [eh]
    exact T3 _ _ upd_same
  refine ifB_neg (decide_eq_false fun e=>g0 (by injection e)) ?_
  refine ⟨_,rfl,_,_,rfl,rfl,(by show (0:Int) < _; decide),rfl,_,rfl,?_⟩
  by_cases g1:n % 3=1
  ·refine ifB_pos (decide_eq_true (by show V.int (n % 3)=V.int 1; rw [g1])) ?_
   refine ⟨_,rfl,_,_,rfl,rfl,⟨by decide,by decide⟩,_,_,rfl,rfl,(by show (0:Int) < _; decide),_,_,rfl,rfl,?_⟩
   refine ⟨_,rfl,_,_,rfl,rfl,⟨by decide,by decide⟩,_,_,rfl,rfl,(by show (0:Int) < _; decide),_,_,rfl,rfl,szr rfl,fun l0 n0=>?_⟩
   have T0:=same_upd (o:=HO.lst [V.int (1 + n / 3 % 4),.int (1 + n / 3 % 60)]) n0
   have ix:n / 180 % 4 / 3=0∨n / 180 % 4 / 3=1:=by omega
   have em:atI [V.int (1 + n / 3 % 4),.int (1 + n / 3 % 60)] (n / 180 % 4 / 3)=some (V.int ((manyF n:Nat):Int)):=by
    unfold manyF
    rcases ix with e | e
    ·rw [e,if_pos rfl,Int.toNat_of_nonneg (by omega)]
     rfl
    ·rw [e,if_neg (by decide),Int.toNat_of_nonneg (by omega)]
     rfl
   have mb:((manyF n:Nat):Int)≤60:=by
    unfold manyF
    split <;> rw [Int.toNat_of_nonneg (by omega)] <;> omega
   refine ⟨_,rfl,_,_,rfl,rfl,⟨by decide,by decide⟩,_,_,rfl,rfl,(by show (0:Int) < _; decide),_,_,rfl,rfl,⟨by decide,by decide⟩,l0,_,_,_,rfl,rfl,SqL.of upd_same,em,?_⟩
   refine ⟨_,rfl,szr rfl,fun t nt=>⟨_,rfl,_,rfl,log_ok (by omega),szr rfl,fun l nl=>⟨szr rfl,fun r nr=>?_⟩⟩⟩
   have T1:=same_upd (o:=HO.tup [V.str "times",.int ((manyF n:Nat):Int)]) nt
   have T2:=same_upd (o:=HO.lst [V.str (Str.ofString (toString ((manyF n:Nat):Int))),.str "times"]) nl
   have T3:=same_upd (o:=HO.tup [V.ref t,.ref l]) nr
   have eh:hdF n=.times (manyF n):=by unfold hdF; rw [if_neg g0,if_pos g1]
   refine z r t l _ (T0.trans (T1.trans (T2.trans T3))) upd_same ?_ ?_ (none_same (T0.trans T1) nl)
   ·rw [eh]
    exact (T2.trans T3) _ _ upd_same
   ·rw [eh]
    exact T3 _ _ upd_same
  refine ifB_neg (decide_eq_false fun e=>g1 (by injection e)) ?_
  have e8:((n / 3 % 8).toNat:Int)=n / 3 % 8:=Int.toNat_of_nonneg (by omega)
  refine ⟨_,rfl,_,_,rfl,rfl,⟨by decide,by decide⟩,_,_,rfl,rfl,(by show (0:Int) < _; decide),szr rfl,fun t nt=>?_⟩
  refine ⟨_,rfl,_,_,rfl,rfl,⟨by decide,by decide⟩,_,_,rfl,rfl,(by show (0:Int) < _; decide),_,rfl,log_ok (by show (n / 3 % 8).natAbs < _; omega),szr rfl,fun l nl=>⟨szr rfl,fun r nr=>?_⟩⟩
  have T1:=same_upd (o:=HO.tup [V.str "turn",.int (n / 3 % 8)]) nt
  have T2:=same_upd (o:=HO.lst [V.str "turn",.str (Str.ofString (toString (n / 3 % 8)))]) nl
  have T3:=same_upd (o:=HO.tup [V.ref t,.ref l]) nr
  have eh:hdF n=.turn (n / 3 % 8).toNat:=by unfold hdF; rw [if_neg g0,if_neg g1]
  refine z r t l _ (T1.trans (T2.trans T3)) upd_same ?_ ?_ (none_same T1 nl)
  ·rw [eh]
   show _=some (HO.tup [V.str "turn",V.int ((n / 3 % 8).toNat:Int)])
   rw [e8]
   exact (T2.trans T3) _ _ upd_same
  ·rw [eh]
   show _=some (HO.lst [V.str "turn",V.str (nT ((n / 3 % 8).toNat:Int))])
   rw [e8]
   exact T3 _ _ upd_same
end
def wo (H:Hp) (M:List Addr):Hp:=fun c=>if c∈M then none else H c
theorem wo_same {H:Hp} {M:List Addr}:Same (wo H M) H:=fun c o e=>by
 unfold wo at e
 split at e
 ·cases e
 ·exact e
theorem wo_at {H:Hp} {M:List Addr} {c:Addr} {o:HO} (e:H c=some o) (h:¬ c∈M):wo H M c=some o:=by
 unfold wo
 rw [if_neg h]
 exact e
theorem wo_to {H H':Hp} {M M':List Addr} (h:∀ c o,H c=some o→¬ c∈M→H' c=some o∧¬ c∈M'):Same (wo H M) (wo H' M'):=fun c o e=>by
 unfold wo at e
 split at e
 ·cases e
 ·rename_i hc
  obtain ⟨a,b⟩:=h c o e hc
  exact wo_at a b
structure Fr where
 e:Addr
 h:Addr
 l:Addr
 hd:Hd
 xs:List V
 sk:List Sk
def frM (fs:List Fr):List Addr:=fs.flatMap fun f=>[f.e,f.l]
theorem frM_cons (f:Fr) (r:List Fr):frM (f :: r)=f.e :: f.l :: frM r:=rfl
theorem frM_e {fs:List Fr} {f:Fr} (h:f∈fs):f.e∈frM fs:=List.mem_flatMap.mpr ⟨f,h,List.mem_cons_self⟩
theorem frM_l {fs:List Fr} {f:Fr} (h:f∈fs):f.l∈frM fs:=List.mem_flatMap.mpr ⟨f,h,List.mem_cons_of_mem _ List.mem_cons_self⟩
def datS (fs:List Fr):List (Hd×List Sk):=fs.map fun f=>(f.hd,f.sk)
structure FrI (H Hw:Hp) (n:Nat) (f:Fr):Prop where
 he:H f.e=some (.lst [.ref f.h,.ref f.l])
 hh:H f.h=some (.tup (hdV f.hd))
 hl:H f.l=some (.lst f.xs)
 sk:SksIs Hw f.xs f.sk
 ln:f.sk.length≤n
structure StkI (H0 H:Hp) (s W:Addr) (fs:List Fr) (n:Nat) (ww:List V):Prop where
 sub:Same H0 H
 no:∀ a∈s :: W :: frM fs,H0 a=none
 es:H s=some (.lst (fs.reverse.map fun f=>V.ref f.e))
 ew:H W=some (.lst ww)∧ww.length≤n
 fr:∀ f∈fs,FrI H (wo H (s :: W :: frM fs)) n f
 nd:(s :: W :: frM fs).Nodup
theorem StkI.lst {H0 H:Hp} {s W:Addr} {fs:List Fr} {n:Nat} {ww:List V} (I:StkI H0 H s W fs n ww):∀ a∈s :: W :: frM fs,∃ ys,H a=some (.lst ys):=fun a ha=>by
 rcases List.mem_cons.mp ha with rfl | ha
 ·exact ⟨_,I.es⟩
 rcases List.mem_cons.mp ha with rfl | ha
 ·exact ⟨_,I.ew.1⟩
 obtain ⟨f,hf,ha⟩:=List.mem_flatMap.mp ha
 rcases List.mem_cons.mp ha with rfl | ha
 ·exact ⟨_,(I.fr f hf).he⟩
 ·rw [List.mem_singleton.mp ha]
  exact ⟨_,(I.fr f hf).hl⟩
theorem StkI.fresh {H0 H:Hp} {s W:Addr} {fs:List Fr} {n:Nat} {ww:List V} (I:StkI H0 H s W fs n ww) {c:Addr} (h:H c=none):¬ c∈s :: W :: frM fs:=fun z=>by
 obtain ⟨ys,e⟩:=I.lst c z
 rw [h] at e
 cases e
theorem StkI.tup {H0 H:Hp} {s W:Addr} {fs:List Fr} {n:Nat} {ww:List V} (I:StkI H0 H s W fs n ww) {c:Addr} {xs:List V} (h:H c=some (.tup xs)):¬ c∈s :: W :: frM fs:=fun z=>by
 obtain ⟨ys,e⟩:=I.lst c z
 rw [h] at e
 cases e
theorem StkI.same {H0 H H':Hp} {s W:Addr} {fs:List Fr} {n:Nat} {ww:List V} (I:StkI H0 H s W fs n ww) (S:Same H H'):StkI H0 H' s W fs n ww:=by
 obtain ⟨e,l⟩:=I.ew
 refine ⟨I.sub.trans S,I.no,S _ _ I.es,⟨S _ _ e,l⟩,fun f hf=>?_,I.nd⟩
 have q:=I.fr f hf
 exact ⟨S _ _ q.he,S _ _ q.hh,S _ _ q.hl,q.sk.same (wo_to fun c o e hc=>⟨S _ _ e,hc⟩),q.ln⟩
theorem StkI.mono {H0 H:Hp} {s W:Addr} {fs:List Fr} {n m:Nat} {ww:List V} (I:StkI H0 H s W fs n ww) (h:n≤m):StkI H0 H s W fs m ww:=by
 obtain ⟨e,l⟩:=I.ew
 refine ⟨I.sub,I.no,I.es,⟨e,Nat.le_trans l h⟩,fun f hf=>?_,I.nd⟩
 have q:=I.fr f hf
 exact ⟨q.he,q.hh,q.hl,q.sk,Nat.le_trans q.ln h⟩
theorem StkI.wset {H0 H:Hp} {s W W':Addr} {fs:List Fr} {n:Nat} {ws:List V} {ww:List V} (I:StkI H0 H s W fs n ww) (f:H W'=none) (l:ws.length≤n):StkI H0 (upd H W' (.lst ws)) s W' fs n ws:=by
 have T:=same_upd (o:=HO.lst ws) f
 have nw:=I.fresh f
 have nd:=I.nd
 rw [List.nodup_cons,List.nodup_cons] at nd
 refine ⟨I.sub.trans T,fun a ha=>?_,T _ _ I.es,⟨upd_same,l⟩,fun g hg=>?_,?_⟩
 ·rcases List.mem_cons.mp ha with rfl | ha
  ·exact I.no _ List.mem_cons_self
  rcases List.mem_cons.mp ha with rfl | ha
  ·exact none_same I.sub f
  ·exact I.no _ (List.mem_cons_of_mem _ (List.mem_cons_of_mem _ ha))
 ·have q:=I.fr g hg
  refine ⟨T _ _ q.he,T _ _ q.hh,T _ _ q.hl,q.sk.same (wo_to fun c o e hc=>⟨T _ _ e,fun z=>?_⟩),q.ln⟩
  rcases List.mem_cons.mp z with rfl | z
  ·exact hc List.mem_cons_self
  rcases List.mem_cons.mp z with rfl | z
  ·rw [f] at e; cases e
  ·exact hc (List.mem_cons_of_mem _ (List.mem_cons_of_mem _ z))
 ·rw [List.nodup_cons,List.nodup_cons]
  refine ⟨fun z=>?_,fun z=>nw (List.mem_cons_of_mem _ (List.mem_cons_of_mem _ z)),nd.2.2⟩
  rcases List.mem_cons.mp z with rfl | z
  ·exact nw List.mem_cons_self
  ·exact nd.1 (List.mem_cons_of_mem _ z)
theorem wo_upd {H:Hp} {M:List Addr} {a:Addr} {o:HO} (h:a∈M):Same (wo H M) (wo (upd H a o) M):=wo_to fun c o' e hc=>⟨by rw [upd_ne (fun z=>hc (by rw [z]; exact h))]; exact e,hc⟩
theorem StkI.wapp {H0 H:Hp} {s W:Addr} {fs:List Fr} {n:Nat} {ws:List V} {ww:List V} (I:StkI H0 H s W fs n ww) (l:ws.length≤n):StkI H0 (upd H W (.lst ws)) s W fs n ws:=by
 have nd:=I.nd
 rw [List.nodup_cons,List.nodup_cons] at nd
 have wm:W∈s :: W :: frM fs:=List.mem_cons_of_mem _ List.mem_cons_self
 refine ⟨same_updN I.sub (I.no W wm),I.no,?_,⟨upd_same,l⟩,fun g hg=>?_,I.nd⟩
 ·rw [upd_ne (fun z=>nd.1 (by rw [z]; exact List.mem_cons_self))]
  exact I.es
 ·have q:=I.fr g hg
  refine ⟨?_,?_,?_,q.sk.same (wo_upd wm),q.ln⟩
  ·rw [upd_ne (fun z=>nd.2.1 (by rw [← z]; exact frM_e hg))]; exact q.he
  ·rw [upd_ne (fun z=>I.tup q.hh (by rw [z]; exact wm))]; exact q.hh
  ·rw [upd_ne (fun z=>nd.2.1 (by rw [← z]; exact frM_l hg))]; exact q.hl
theorem StkI.push {H0 H:Hp} {s W:Addr} {f:Fr} {r:List Fr} {n:Nat} {v:V} {st:Sk} {ww:List V} (I:StkI H0 H s W (f :: r) n ww) (h:SkIs (wo H (s :: W :: frM (f :: r))) v st):StkI H0 (upd H f.l (.lst (f.xs ++ [v]))) s W ({ f with xs:=f.xs ++ [v],sk:=f.sk ++ [st] } :: r) (n + 1) ww:=by
 have nd:=I.nd
 rw [frM_cons,List.nodup_cons,List.nodup_cons,List.nodup_cons,List.nodup_cons] at nd
 obtain ⟨n1,n2,n3,n4,_⟩:=nd
 have lm:f.l∈s :: W :: frM (f :: r):=by rw [frM_cons]; simp
 obtain ⟨ew,wl⟩:=I.ew
 have eM:frM ({ f with xs:=f.xs ++ [v],sk:=f.sk ++ [st] } :: r)=frM (f :: r):=rfl
 have nsl:s≠f.l:=fun z=>n1 (by rw [z]; simp)
 have nwl:W≠f.l:=fun z=>n2 (by rw [z]; simp)
 have nel:f.e≠f.l:=fun z=>n3 (by rw [z]; simp)
 refine ⟨same_updN I.sub (I.no _ lm),I.no,?_,⟨by rw [upd_ne nwl]; exact ew,by omega⟩,fun g hg=>?_,I.nd⟩
 ·rw [upd_ne nsl]
  have:=I.es
  rw [List.reverse_cons,List.map_append] at this ⊢
  exact this
 ·rw [eM]
  rcases List.mem_cons.mp hg with rfl | hg
  ·have q:=I.fr f List.mem_cons_self
   refine ⟨?_,?_,upd_same,SksIs.snoc (q.sk.same (wo_upd lm)) (h.same (wo_upd lm)),?_⟩
   ·rw [upd_ne nel]; exact q.he
   ·rw [upd_ne (fun z=>I.tup q.hh (by rw [z]; exact lm))]; exact q.hh
   ·show (f.sk ++ [st]).length≤_
    rw [List.length_append]
    have:=q.ln
    show _ + 1≤_
    omega
  ·have q:=I.fr g (List.mem_cons_of_mem _ hg)
   refine ⟨?_,?_,?_,q.sk.same (wo_upd lm),Nat.le_succ_of_le q.ln⟩
   ·rw [upd_ne (fun z=>n4 (by rw [← z]; exact frM_e hg))]; exact q.he
   ·rw [upd_ne (fun z=>I.tup q.hh (by rw [z]; exact lm))]; exact q.hh
   ·rw [upd_ne (fun z=>n4 (by rw [← z]; exact frM_l hg))]; exact q.hl
theorem StkI.opn {H0 H:Hp} {s W l e t:Addr} {fs:List Fr} {n:Nat} {hd:Hd} {ww:List V} (I:StkI H0 H s W fs n ww) (ht:H t=some (.tup (hdV hd))) (fl:H l=none) (fe:(upd H l (.lst [])) e=none) :
  StkI H0 (upd (upd (upd H l (.lst [])) e (.lst [.ref t,.ref l])) s (.lst ((fs.reverse.map fun f=>V.ref f.e) ++ [.ref e]))) s W (⟨e,t,l,hd,[],[]⟩ :: fs) n ww:=by
 have T1:=same_upd (o:=HO.lst []) fl
 have T2:=same_upd (o:=HO.lst [.ref t,.ref l]) fe
 have fe0:H e=none:=none_same T1 fe
 have nel:e≠l:=fun z=>by rw [z,upd_same] at fe; cases fe
 have nl:=I.fresh fl
 have ne:=I.fresh fe0
 have nd:=I.nd
 rw [List.nodup_cons] at nd
 have S:=T1.trans T2
 have nsl:l≠s:=fun z=>nl (by rw [z]; exact List.mem_cons_self)
 have nts:t≠s:=fun z=>I.tup ht (by rw [z]; exact List.mem_cons_self)
 have nse:e≠s:=fun z=>ne (by rw [z]; exact List.mem_cons_self)
 have keep:∀ {c o},H c=some o→c≠s→(upd (upd (upd H l (.lst [])) e (.lst [.ref t,.ref l])) s (.lst ((fs.reverse.map fun f=>V.ref f.e) ++ [.ref e]))) c=some o:=fun {c o} h1 h2=>by
  rw [upd_ne h2]
  exact S _ _ h1
 have key:∀ c o,H c=some o→¬ c∈s :: W :: frM fs→(upd (upd (upd H l (.lst [])) e (.lst [.ref t,.ref l])) s (.lst ((fs.reverse.map fun f=>V.ref f.e) ++ [.ref e]))) c=some o∧¬ c∈s :: W :: frM (⟨e,t,l,hd,[],[]⟩ :: fs):=fun c o h1 h2=>by
  refine ⟨keep h1 (fun z=>h2 (by rw [z]; exact List.mem_cons_self)),fun z=>?_⟩
  rw [frM_cons] at z
  simp only [List.mem_cons] at z h2
  rcases z with z | z | z | z | z
  ·exact h2 (.inl z)
  ·exact h2 (.inr (.inl z))
  ·rw [z,fe0] at h1; cases h1
  ·rw [z,fl] at h1; cases h1
  ·exact h2 (.inr (.inr z))
 obtain ⟨ew,wl⟩:=I.ew
 refine ⟨same_updN (I.sub.trans S) (I.no s List.mem_cons_self),fun a ha=>?_,?_,⟨keep ew (fun z=>nd.1 (by rw [← z]; exact List.mem_cons_self)),wl⟩,fun g hg=>?_,?_⟩
 ·rw [frM_cons] at ha
  simp only [List.mem_cons] at ha
  rcases ha with rfl | rfl | rfl | rfl | ha
  ·exact I.no _ List.mem_cons_self
  ·exact I.no _ (List.mem_cons_of_mem _ List.mem_cons_self)
  ·exact none_same I.sub fe0
  ·exact none_same I.sub fl
  ·exact I.no _ (List.mem_cons_of_mem _ (List.mem_cons_of_mem _ ha))
 ·rw [upd_same,List.reverse_cons,List.map_append]
  rfl
 ·rcases List.mem_cons.mp hg with rfl | hg
  ·refine ⟨?_,keep ht nts,?_,.nil,Nat.zero_le _⟩
   ·rw [upd_ne nse]; exact upd_same
   ·rw [upd_ne nsl]; exact T2 _ _ upd_same
  ·have q:=I.fr g hg
   refine ⟨keep q.he ?_,keep q.hh ?_,keep q.hl ?_,q.sk.same (wo_to key),q.ln⟩
   ·exact fun z=>nd.1 (List.mem_cons_of_mem _ (by rw [← z]; exact frM_e hg))
   ·exact fun z=>I.tup q.hh (by rw [z]; exact List.mem_cons_self)
   ·exact fun z=>nd.1 (List.mem_cons_of_mem _ (by rw [← z]; exact frM_l hg))
 ·rw [frM_cons]
  have n0:=I.nd
  simp only [List.nodup_cons,List.mem_cons,not_or] at n0 nl ne ⊢
  exact ⟨⟨n0.1.1,Ne.symm nse,Ne.symm nsl,n0.1.2⟩,⟨Ne.symm ne.2.1,Ne.symm nl.2.1,n0.2.1⟩,⟨nel,ne.2.2⟩,nl.2.2,n0.2.2⟩
theorem StkI.pop {H0 H:Hp} {s W:Addr} {f f':Fr} {r:List Fr} {n:Nat} {ww:List V} (I:StkI H0 H s W (f :: f' :: r) n ww) :
  StkI H0 (upd H s (.lst ((f' :: r).reverse.map fun f=>V.ref f.e))) s W (f' :: r) n ww∧(upd H s (.lst ((f' :: r).reverse.map fun f=>V.ref f.e))) f.e=some (.lst [.ref f.h,.ref f.l])∧(upd H s (.lst ((f' :: r).reverse.map fun f=>V.ref f.e))) f.h=some (.tup (hdV f.hd))∧(upd H s (.lst ((f' :: r).reverse.map fun f=>V.ref f.e))) f.l=some (.lst f.xs)∧¬ f.l∈s :: W :: frM (f' :: r)∧SksIs (wo (upd H s (.lst ((f' :: r).reverse.map fun f=>V.ref f.e))) (s :: W :: frM (f' :: r))) f.xs f.sk:=by
 have nd:=I.nd
 rw [frM_cons] at nd
 generalize hN:f' :: r=R at *
 simp only [List.nodup_cons,List.mem_cons,not_or] at nd
 obtain ⟨⟨a1,a2,a3,a4⟩,⟨b1,b2,b3⟩,⟨c1,c2⟩,d1,e1⟩:=nd
 have key:∀ c o,H c=some o→¬ c∈s :: W :: frM (f :: R)→(upd H s (.lst (R.reverse.map fun f=>V.ref f.e))) c=some o∧¬ c∈s :: W :: frM R:=fun c o h1 h2=>by
  rw [frM_cons] at h2
  simp only [List.mem_cons,not_or] at h2 ⊢
  exact ⟨by rw [upd_ne h2.1]; exact h1,h2.1,h2.2.1,h2.2.2.2.2⟩
 have q:=I.fr f List.mem_cons_self
 obtain ⟨ew,wl⟩:=I.ew
 refine ⟨⟨same_updN I.sub (I.no s List.mem_cons_self),fun a ha=>I.no a ?_,upd_same,⟨by rw [upd_ne (Ne.symm a1)]; exact ew,wl⟩,fun g hg=>?_,?_⟩,?_,?_,?_,?_,q.sk.same (wo_to key)⟩
 ·rw [frM_cons]
  simp only [List.mem_cons] at ha ⊢
  rcases ha with h | h | h
  ·exact .inl h
  ·exact .inr (.inl h)
  ·exact .inr (.inr (.inr (.inr h)))
 ·have q:=I.fr g (List.mem_cons_of_mem _ hg)
  refine ⟨?_,?_,?_,q.sk.same (wo_to key),q.ln⟩
  ·rw [upd_ne (fun z=>a4 (by rw [← z]; exact frM_e hg))]; exact q.he
  ·rw [upd_ne (fun z=>I.tup q.hh (by rw [z]; exact List.mem_cons_self))]; exact q.hh
  ·rw [upd_ne (fun z=>a4 (by rw [← z]; exact frM_l hg))]; exact q.hl
 ·simp only [List.nodup_cons,List.mem_cons,not_or]
  exact ⟨⟨a1,a4⟩,b3,e1⟩
 ·rw [upd_ne (Ne.symm a2)]; exact q.he
 ·rw [upd_ne (fun z=>I.tup q.hh (by rw [z]; exact List.mem_cons_self))]; exact q.hh
 ·rw [upd_ne (Ne.symm a3)]; exact q.hl
 ·simp only [List.mem_cons,not_or]
  exact ⟨Ne.symm a3,Ne.symm b2,d1⟩
def mk:Hd→List Sk→Sk
 | .no,l=>.back l
 | .back,l=>.back l
 | .times m,l=>.times m l
 | .turn k,l=>.turn k l
theorem mk_is {H:Hp} {t l:Addr} {hd:Hd} {xs:List V} {sk:List Sk} (hn:hd≠.no) (e:H t=some (.tup (hdV hd ++ [.ref l]))) (el:H l=some (.lst xs)) (h:SksIs H xs sk):SkIs H (.ref t) (mk hd sk):=by
 cases hd with
 | no=>exact absurd rfl hn
 | back=>exact .back e el h
 | times m=>exact .times e el h
 | turn k=>exact .turn e el h
section
variable {P:Program} {w:World} {K:PySem.W.Frag} {mg:Str→Option Value} {base:Heap}
def spClosed:Sp:=fun vs H Q _=>∃ (s W:Addr) (H0:Hp) (f f':Fr) (r:List Fr) (n:Nat) (ww:List V),vs=[.ref s,.ref W]∧StkI H0 H s W (f :: f' :: r) n ww∧f.hd≠.no∧n < 900∧∀ xs' H',StkI H0 H' s W ({ f' with xs:=xs',sk:=f'.sk ++ [mk f.hd f.sk] } :: r) (n + 2) (ww ++ [V.str ")"])→Q .non H'
theorem scClosed:FnScope ["_law_stack","_law_words","_law_head_here","_law_strokes"] ["_law_stack","_law_words"] (defScope sClosed):=⟨rfl,rfl,rfl,by decide +kernel,rfl,by decide +kernel,by decide +kernel⟩
theorem ok_closed {f:Addr} {fd:FuncData} (D:Df K mg "_law_closed" sClosed f fd):FnOk P w K mg base CX0 1 f fd ["_law_stack","_law_words"] spClosed:=by
 refine D.F.ok scClosed (fun vs H Q E h=>?_) (fun cdv A outer s H vs Q E hr h=>?_)
 ·obtain ⟨s,W,H0,f,f',r,n,ww,rfl,_⟩:=h
  rfl
 ·obtain ⟨st,W,H0,f,f',r,n,ww,rfl,I,hn,nb,z⟩:=h
  refine ⟨_,(pss_cons (ps_asg (pe_bm0 PySem.F.plainAttrs_list PySem.F.slot_list_pop PySem.F.type_list_pop mt_pop (pv 0)) (pg_tupL (n:=2) rfl (pgs_cons (pg_name (i:=2) scClosed.nd rfl (Or.inl rfl)) (pgs_cons (pg_name (i:=3) scClosed.nd rfl (Or.inl rfl)) pgs_nil))))
   (pss_cons (ps_expr (pe_bm PySem.F.plainAttrs_list PySem.F.slot_list_append PySem.F.type_list_append mt_append (pe_ix ix_list (pe_ix ix_list (pv 0) (pe_un un_neg pe_int) (fun _ _=>rfl)) pe_int (fun _ _=>rfl)) (pac (pe_op op_catT (pv 2) (pe_tup (pac (pv 3) pa_nil))) pa_nil)))
   (pss_one (ps_expr (pe_bm PySem.F.plainAttrs_list PySem.F.slot_list_append PySem.F.type_list_append mt_append (pv 1) (pac (pe_str) pa_nil)))))),?_⟩
  obtain ⟨I1,he,hh,hl,nl,hsk⟩:=I.pop
  have es:=I.es
  rw [List.reverse_cons,List.map_append] at es
  refine ⟨_,rfl,.inl ⟨rfl,_,SqL.of es⟩,st,_,.ref f.e,rfl,rfl,es,by simp,?_⟩
  show gTupL _ _ _ _ _ (upd H st (.lst (((f' :: r).reverse.map fun f=>V.ref f.e) ++ [V.ref f.e]).dropLast)) _
  rw [List.dropLast_concat]
  revert I1 he hh hl hsk
  generalize (upd H st (.lst ((f' :: r).reverse.map fun f=>V.ref f.e)))=H1
  intro I1 he hh hl hsk
  refine ⟨f.e,_,rfl,SqL.of he,rfl,_,_,rfl,_,_,rfl,rfl,?_⟩
  have es1:=I1.es
  rw [List.reverse_cons,List.map_append] at es1
  have q1:=I1.fr f' List.mem_cons_self
  refine ⟨_,rfl,_,rfl,st,_,_,_,rfl,rfl,SqL.of es1,atI_last _ _,f'.e,_,_,_,rfl,rfl,SqL.of q1.he,rfl,.inl ⟨rfl,_,SqL.of q1.hl⟩,?_⟩
  refine ⟨_,rfl,_,rfl,szr rfl,fun t1 nt1=>?_⟩
  have T1:=same_upd (o:=HO.tup [V.ref f.l]) nt1
  refine ⟨f.h,t1,_,_,rfl,rfl,SqT.of (T1 _ _ hh),SqT.of upd_same,?_,?_,fun h=>(by cases h),fun _ t nt=>?_⟩
  ·cases hf:f.hd with
   | no=>exact absurd hf hn
   | back=>simp [hdV]
   | times m=>simp [hdV]
   | turn k=>simp [hdV]
  ·rw [sizeLine_eq]
   cases f.hd <;> simp [hdV]
  have T2:=same_upd (o:=HO.tup (hdV f.hd ++ [V.ref f.l])) nt
  have T:=T1.trans T2
  have I3:=I1.same T
  have et:(upd (upd H1 t1 (HO.tup [V.ref f.l])) t (HO.tup (hdV f.hd ++ [V.ref f.l]))) t=some (HO.tup (hdV f.hd ++ [V.ref f.l])):=upd_same
  have hl3:=T _ _ hl
  have sk3:=hsk.same (wo_to (M:=st :: W :: frM (f' :: r)) (M':=st :: W :: frM (f' :: r)) fun c o e hc=>⟨T _ _ e,hc⟩)
  revert I3 et hl3 sk3
  generalize (upd (upd H1 t1 (HO.tup [V.ref f.l])) t (HO.tup (hdV f.hd ++ [V.ref f.l])))=H3
  intro I3 et hl3 sk3
  have q3:=I3.fr f' List.mem_cons_self
  have skt:SkIs (wo H3 (st :: W :: frM (f' :: r))) (.ref t) (mk f.hd f.sk):=mk_is hn (wo_at et (I3.tup et)) (wo_at hl3 nl) sk3
  have xl:f'.xs.length≤n:=by rw [q3.sk.length]; exact q3.ln
  refine ⟨f'.l,f'.xs,_,rfl,rfl,q3.hl,small1000 (by omega),?_⟩
  have I4:=I3.push skt
  revert I4
  generalize (upd H3 f'.l (.lst (f'.xs ++ [V.ref t])))=H4
  intro I4
  obtain ⟨ew,wl⟩:=I4.ew
  refine ⟨_,rfl,.inl ⟨rfl,_,SqL.of ew⟩,W,ww,_,rfl,rfl,ew,small1000 (by omega),?_⟩
  exact z _ _ ((I4.mono (Nat.le_succ _)).wapp (by rw [List.length_append]; show _ + 1≤_; omega))
end
end K22
namespace K22
open PySem PySem.Spec PyProof.Rows L2 BF PySem.SeqAt
seal L2.PE L2.PA L2.PS L2.PSs L2.PT L2.PW L2.PG L2.PGs L2.PI BF.PTs L2.PPs L2.PO
theorem op_eqN {X:Cx} {k:Nat} (hr:Room k X.A):OpR X (compareOp .Eq) (fun x y H Q=>∃ (a b:Addr) (xs:List V),x=.ref a∧y=.ref b∧SqL X.K H a xs∧SqL X.K H b []∧Q (.bl xs.isEmpty) H):=by
 intro pins s σ H x y v u Q I rx ry h
 obtain ⟨a,b,xs,rfl,rfl,hx,hy,q⟩:=h
 have hu:=hr.units
 cases rx
 cases ry
 obtain ⟨its,rv,p,_⟩:=I.list hx
 obtain ⟨its',rv',p',_⟩:=I.list hy
 have n1:its.length=xs.length:=rv.length.symm
 have n2:its'.length=0:=rv'.length.symm
 have fin:∀ c,c=xs.isEmpty→RcAt X.A s (.ref a) (.ref b) c→wpAny (model X.prog X.w) X.A (richCompare .Eq (.ref a) (.ref b)) (EP X pins σ Q) X.xe s:=fun c hc R=>by
  subst hc
  exact R X.prog X.w X.xe _ ⟨.bl _,H,I,rfl,q⟩
 cases xs with
 | nil =>
  have R:=RcAt.lists (A:=X.A) (s:=s) (e:=fun _=>true) p.isList p'.isList (by rw [List.size_toArray,List.size_toArray,n1,n2]; rfl) (by omega) (fun j j1 j2=>by
   have:j < its.length:=by simpa using j1
   rw [n1] at this
   exact absurd this (Nat.not_lt_zero _))
  exact fin _ (by simp) R
 | cons v0 xs0 =>
  exact fin false rfl (RcAt.lists_lengths p.isList p'.isList (by rw [List.size_toArray,List.size_toArray,n1,n2]; simp) (by omega))
def pushD:List (Hd×List Sk)→Sk→List (Hd×List Sk)
 | [],_=>[]
 | (h,l) :: r,st=>(h,l ++ [st]) :: r
def closeD:List (Hd×List Sk)→List (Hd×List Sk)
 | (h,l) :: (h',l') :: r=>(h',l' ++ [mk h l]) :: r
 | x=>x
def topE:List (Hd×List Sk)→Bool
 | (_,l) :: _=>l.isEmpty
 | []=>false
def Pc (sd:List (Hd×List Sk)) (n:Int):Prop:=n % 8 < 5∨(n % 8=5∧sd.length=9)∨(5 < n % 8∧topE sd=true)
instance (sd:List (Hd×List Sk)) (n:Int):Decidable (Pc sd n):=by unfold Pc; exact inferInstance
def stepD (sd:List (Hd×List Sk)) (n:Int):List (Hd×List Sk):=if Pc sd n then pushD sd (plF (n / 8)) else if n % 8=5 then (hdF (n / 8),[]) :: sd else if 1 < sd.length then closeD sd else sd
def runD (ns:List Int) (i:Nat):List (Hd×List Sk):=(List.range i).foldl (fun sd k=>stepD sd (numF (ns.getD k 0) k)) [(.no,[])]
theorem runD_succ (ns:List Int) (i:Nat):runD ns (i + 1)=stepD (runD ns i) (numF (ns.getD i 0) i):=by
 unfold runD
 rw [List.range_succ,List.foldl_append]
 rfl
def fill (l:List Sk):List Sk:=if l.isEmpty=true then l ++ [.line false 0 1] else l
def finG:List Sk→Hd→List (Hd×List Sk)→List Sk
 | l,_,[]=>l
 | l,h,(h',l') :: r=>finG (l' ++ [mk h (fill l)]) h' r
def finD:List (Hd×List Sk)→List Sk
 | []=>[]
 | (h,l) :: r=>finG l h r
def treeF (ns:List Int):List Sk:=finD (runD ns ns.length)
def hOk:Hd→Prop
 | .no=>False
 | .back=>True
 | .times m=>1≤m∧m≤60
 | .turn k=>k < 8
def okD:List (Hd×List Sk)→Prop
 | []=>True
 | (h,l) :: r=>vds l (8 - r.length)∧r.length≤8∧((r≠[]→hOk h)∧(r=[]→h=.no))∧okD r
theorem vds_of:∀ {ss:List Sk} {d:Nat},(∀ s∈ss,s.vd d)→vds ss d
 | [],_,_=>by simp only [vds]
 | s :: r,d,h=>by
  simp only [vds]
  exact ⟨h s List.mem_cons_self,vds_of fun x hx=>h x (List.mem_cons_of_mem _ hx)⟩
theorem vds_snoc {l:List Sk} {s:Sk} {d:Nat} (h:vds l d) (g:s.vd d):vds (l ++ [s]) d:=vds_of fun x hx=>by
 rcases List.mem_append.mp hx with hx | hx
 ·exact vds_at h x hx
 ·rw [List.mem_singleton.mp hx]; exact g
theorem okD_push {sd:List (Hd×List Sk)} {st:Sk} (h:okD sd) (g:∀ d,st.vd d):okD (pushD sd st):=by
 cases sd with
 | nil=>exact h
 | cons a r =>
  obtain ⟨h1,h2,h3,h4⟩:=h
  exact ⟨vds_snoc h1 (g _),h2,h3,h4⟩
theorem mk_vd {h:Hd} {l:List Sk} {d:Nat} (a:hOk h) (b:vds l d) (n:l≠[]):(mk h l).vd (d + 1):=by
 cases h with
 | no=>exact a.elim
 | back=>simp only [mk,Sk.vd]; exact ⟨n,d,rfl,b⟩
 | times m=>simp only [mk,Sk.vd]; exact ⟨a.1,a.2,n,d,rfl,b⟩
 | turn k=>simp only [mk,Sk.vd]; exact ⟨a,n,d,rfl,b⟩
theorem okD_close {h h':Hd} {l l' l2:List Sk} {r:List (Hd×List Sk)} (o:okD ((h,l) :: (h',l') :: r)) (hl:vds l2 (8 - (r.length + 1))) (n:l2≠[]):okD ((h',l' ++ [mk h l2]) :: r):=by
 obtain ⟨h1,h2,h3,h4,h5,h6,h7⟩:=o
 rw [List.length_cons] at h1 h2
 refine ⟨vds_snoc h4 ?_,h5,h6,h7⟩
 have:=mk_vd (h3.1 (by simp)) hl n
 rw [show 8 - (r.length + 1) + 1=8 - r.length by omega] at this
 exact this
theorem hd_ok (n:Int):hOk (hdF n):=by
 unfold hdF
 split
 ·exact True.intro
 ·split
  ·show 1≤manyF n∧manyF n≤60
   unfold manyF
   split <;> omega
  ·show (n / 3 % 8).toNat < 8
   omega
theorem okD_open {sd:List (Hd×List Sk)} {n:Int} (h:okD sd) (l:sd.length≤8) (ne:sd≠[]):okD ((hdF n,[]) :: sd):=⟨by simp only [vds],l,⟨fun _=>hd_ok n,fun z=>absurd z ne⟩,h⟩
def hdP:Hd→List Str
 | .no=>[]
 | h=>hdW h ++ [("(":Str)]
theorem hdP_of {h:Hd} (n:h≠.no):hdP h=hdW h ++ [("(":Str)]:=by
 cases h with
 | no=>exact absurd rfl n
 | back=>rfl
 | times m=>rfl
 | turn k=>rfl
def wsD:List (Hd×List Sk)→List Str
 | []=>[]
 | (h,l) :: r=>wsD r ++ hdP h ++ wds l
theorem wds_one (s:Sk):wds [s]=s.wd:=by simp only [wds,List.append_nil]
theorem wsD_push (h:Hd) (l:List Sk) (r:List (Hd×List Sk)) (st:Sk):wsD ((h,l ++ [st]) :: r)=wsD ((h,l) :: r) ++ st.wd:=by
 simp only [wsD,wds_app,wds_one,List.append_assoc]
theorem wsD_open {h:Hd} (n:h≠.no) (r:List (Hd×List Sk)):wsD ((h,[]) :: r)=wsD r ++ hdW h ++ [("(":Str)]:=by
 simp only [wsD,wds,List.append_nil,hdP_of n,List.append_assoc]
theorem mk_wd {h:Hd} (n:h≠.no) (l:List Sk):(mk h l).wd=hdP h ++ wds l ++ [(")":Str)]:=by
 rw [hdP_of n]
 cases h with
 | no=>exact absurd rfl n
 | back=>simp [mk,Sk.wd,hdW]
 | times m=>simp [mk,Sk.wd,hdW]
 | turn k=>simp [mk,Sk.wd,hdW]
theorem wsD_close {h:Hd} (n:h≠.no) (h':Hd) (l l':List Sk) (r:List (Hd×List Sk)):wsD ((h',l' ++ [mk h l]) :: r)=wsD ((h,l) :: (h',l') :: r) ++ [(")":Str)]:=by
 rw [wsD_push,mk_wd n]
 simp only [wsD,List.append_assoc]
theorem pl_len (n:Int):(plF n).wd.length≤3:=by
 unfold plF
 split
 ·simp only [Sk.wd,lnW]
  rw [lineW_some (way_wd _ (word_in _))]
  show 1≤3
  decide
 ·split
  ·simp only [Sk.wd,lnW]
   rw [lineW_none (way_far (n / 16))]
   exact Nat.le_refl _
  ·split
   ·simp only [Sk.wd,lnW]
    exact Nat.le_refl _
   ·simp only [Sk.wd,lnW]
    show 2≤3
    decide
theorem hd_len (h:Hd):(hdW h).length≤2:=by cases h <;> first | exact Nat.zero_le _ | exact Nat.le_refl _
theorem hd_wsz {h:Hd} (o:hOk h):wsz (hdW h ++ [("(":Str)])≤29:=by
 have l1:("(":Str).length=1:=by decide +kernel
 have l2:("times":Str).length=5:=by decide +kernel
 have l3:("turn":Str).length=4:=by decide +kernel
 rw [wsz_app,wsz_cons,wsz_nil,l1]
 cases h with
 | no=>exact o.elim
 | back=>show 0 + _≤_; omega
 | times m =>
  have o2:m≤60:=o.2
  have:(nT (m:Int)).length≤3:=nT_len2 (by omega)
  show wsz [nT (m:Int),"times"] + _≤_
  rw [wsz_cons,wsz_cons,wsz_nil,l2]
  omega
 | turn k =>
  have o2:k < 8:=o
  have:(nT (k:Int)).length≤3:=nT_len2 (by omega)
  show wsz ["turn",nT (k:Int)] + _≤_
  rw [wsz_cons,wsz_cons,wsz_nil,l3]
  omega
theorem StkI.words {H0 H:Hp} {s W:Addr} {fs:List Fr} {n:Nat} {ww vv:List V} (I:StkI H0 H s W fs n ww) (e:vv=ww):StkI H0 H s W fs n vv:=e ▸ I
theorem n_wd:(Sk.line false 0 1).wd=[("n":Str)]:=by
 simp only [Sk.wd,lnW]
 exact lineW_some (by decide +kernel)
theorem wsz_br:wsz [(")":Str)]=2:=by decide +kernel
theorem wsz_n:wsz [("n":Str)]=2:=by decide +kernel
theorem sk_wo {H:Hp} {M:List Addr} {t:Addr} {n:Int} (h:SkIs H (.ref t) (plF n)) (nt:∀ xs,H t=some (.tup xs)→¬ t∈M):SkIs (wo H M) (.ref t) (plF n):=by
 revert h
 unfold plF
 split
 ·intro h; cases h with | line e=>exact .line (wo_at e (nt _ e))
 ·split
  ·intro h; cases h with | line e=>exact .line (wo_at e (nt _ e))
  ·split
   ·intro h; cases h with | by_ e=>exact .by_ (wo_at e (nt _ e))
   ·intro h; cases h with | ink e=>exact .ink (wo_at e (nt _ e))
theorem laterH {G:Prop} {A:Hp→Prop} (C:Hp→Prop) (main:(∀ H',C H'→A H')→G) (last:∀ H',C H'→A H'):G:=main last
section
variable {P:Program} {w:World} {K:PySem.W.Frag} {mg:Str→Option Value} {base:Heap}
def spTree (K:PySem.W.Frag):Sp:=fun vs H Q _=>∃ (a:Addr) (ns:List Int),vs=[.ref a]∧SqL K H a (ns.map V.int)∧ns.length≤60∧∀ (r l W:Addr) (xs:List V) H',Same H H'→H' r=some (.tup [.ref l,.ref W])→H' l=some (.lst xs)→H' W=some (.lst ((wds (treeF ns)).map V.str))→SksIs H' xs (treeF ns)→vds (treeF ns) 8→wsz (wds (treeF ns))≤1800→Q (.ref r) H'
theorem scTree:FnScope ["_law_cells","_law_stack","_law_words","_law_k","_law_number_here","_law_stroke","_law_some","_law_head_here"] ["_law_cells"] (defScope sTree):=⟨rfl,rfl,rfl,by decide +kernel,rfl,by decide +kernel,by decide +kernel⟩
theorem ok_tree {f fN fP fH fC:Addr} {fd fdN fdP fdH fdC:FuncData} (D:Df K mg "_law_tree" sTree f fd) (B:Blt mg)
  (DN:Df K mg "_law_number" sNum fN fdN) (bN:Binds K fdN ["_law_cell","_law_k"] []) (GN:FnOk P w K mg base CX0 1 fN fdN ["_law_cell","_law_k"] spNum)
  (DP:Df K mg "_law_plain" sPlain fP fdP) (bP:Binds K fdP ["_law_number_here"] []) (GP:FnOk P w K mg base CX0 3 fP fdP ["_law_number_here"] spPlain)
  (DH:Df K mg "_law_head" sHead fH fdH) (bH:Binds K fdH ["_law_number_here"] []) (GH:FnOk P w K mg base CX0 1 fH fdH ["_law_number_here"] spHead)
  (DC:Df K mg "_law_closed" sClosed fC fdC) (bC:Binds K fdC ["_law_stack","_law_words"] []) (GC:FnOk P w K mg base CX0 1 fC fdC ["_law_stack","_law_words"] spClosed):FnOk P w K mg base CX0 4 f fd ["_law_cells"] (spTree K):=by
 refine D.F.ok scTree (fun vs H Q E h=>?_) (fun cdv A outer s H vs Q E hr h=>?_)
 ·obtain ⟨a,ns,rfl,_⟩:=h
  rfl
 ·obtain ⟨a,ns,rfl,hS,hlen,z⟩:=h
  have hr1:Room 1 _:=hr.mono (by decide)
  have xl:(ns.map V.int).length=ns.length:=List.length_map ..
  refine ⟨_,(pss_cons (ps_set (i:=1) scTree.nd rfl (Or.inl rfl) (pe_lst (pac (pe_lst (pac (pe_tup pa_nil) (pac (pe_lst pa_nil) pa_nil))) pa_nil)))
   (pss_cons (ps_set (i:=2) scTree.nd rfl (Or.inl rfl) (pe_lst pa_nil))
   (pss_cons (ps_for PassesOwn.never rfl (pi_range1 rfl B.range (pac (pe_callB call_len_seq (by rfl) B.len PySem.boot_len (pac (pv 0) pa_nil)) pa_nil)) (pg_name (i:=3) scTree.nd rfl (Or.inl rfl)) (pss_cons (ps_set (i:=4) scTree.nd rfl (Or.inl rfl) (pec GN hr1 rfl DN.m DN.F.kp bN .nil pass0 (pac (pe_ix ix_list (pv 0) (pv 3) (fun _ _=>rfl)) (pac (pv 3) pa_nil))))
   (pss_one (ps_if (PW.pt (pw_or (pt_cmpR op_lt (pe_op op_mod (pv 4) pe_int) pe_int (nomark _))
       (pw_or (PW.pt (pw_and (pt_cmpR op_eq (pe_op op_mod (pv 4) pe_int) pe_int (nomark _)) (pw_and1 (pt_cmpR op_eq (pe_callB call_len_seq (by rfl) B.len PySem.boot_len (pac (pv 1) pa_nil)) pe_int (nomark _)))))
       (pw_or1 (PW.pt (pw_and (pt_cmpR op_gt (pe_op op_mod (pv 4) pe_int) pe_int (nomark _)) (pw_and1 (pt_cmpR (op_eqN hr1) (pe_ix ix_list (pe_ix ix_list (pv 1) (pe_un un_neg pe_int) (fun _ _=>rfl)) pe_int (fun _ _=>rfl)) (pe_lst pa_nil) (nomark _)))))))))
      (pss_cons (ps_asg (pec GP hr rfl DP.m DP.F.kp bP .nil pass0 (pac (pe_op op_fdiv (pv 4) pe_int) pa_nil)) (pg_tup (n:=2) rfl (pgs_cons (pg_name (i:=5) scTree.nd rfl (Or.inl rfl)) (pgs_cons (pg_name (i:=6) scTree.nd rfl (Or.inl rfl)) pgs_nil))))
   (pss_cons (ps_expr (pe_bm PySem.F.plainAttrs_list PySem.F.slot_list_append PySem.F.type_list_append mt_append (pe_ix ix_list (pe_ix ix_list (pv 1) (pe_un un_neg pe_int) (fun _ _=>rfl)) pe_int (fun _ _=>rfl)) (pac (pv 5) pa_nil)))
   (pss_one (ps_set (i:=2) scTree.nd rfl (Or.inl rfl) (pe_op op_cat (pv 2) (pv 6))))))
      (pss_one (ps_if (pt_cmpR op_eq (pe_op op_mod (pv 4) pe_int) pe_int (nomark _))
       (pss_cons (ps_asg (pec GH hr1 rfl DH.m DH.F.kp bH .nil pass0 (pac (pe_op op_fdiv (pv 4) pe_int) pa_nil)) (pg_tup (n:=2) rfl (pgs_cons (pg_name (i:=7) scTree.nd rfl (Or.inl rfl)) (pgs_cons (pg_name (i:=6) scTree.nd rfl (Or.inl rfl)) pgs_nil))))
   (pss_cons (ps_expr (pe_bm PySem.F.plainAttrs_list PySem.F.slot_list_append PySem.F.type_list_append mt_append (pv 1) (pac (pe_lst (pac (pv 7) (pac (pe_lst pa_nil) pa_nil))) pa_nil)))
   (pss_one (ps_set (i:=2) scTree.nd rfl (Or.inl rfl) (pe_op op_cat (pe_op op_cat (pv 2) (pv 6)) (pe_lst (pac (pe_str) pa_nil)))))))
       (pss_one (ps_if (pt_cmpR op_gt (pe_callB call_len_seq (by rfl) B.len PySem.boot_len (pac (pv 1) pa_nil)) pe_int (nomark _)) (pss_one (ps_expr (pec GC hr1 rfl DC.m DC.F.kp bC .nil pass0 (pac (pv 1) (pac (pv 2) pa_nil))))) pss_nil))))))))
   (pss_cons (ps_while PassesOwn.never (pt_cmpR op_gt (pe_callB call_len_seq (by rfl) B.len PySem.boot_len (pac (pv 1) pa_nil)) pe_int (nomark _)) (pss_cons (ps_if (pt_cmpR (op_eqN hr1) (pe_ix ix_list (pe_ix ix_list (pv 1) (pe_un un_neg pe_int) (fun _ _=>rfl)) pe_int (fun _ _=>rfl)) (pe_lst pa_nil) (nomark _))
      (pss_cons (ps_expr (pe_bm PySem.F.plainAttrs_list PySem.F.slot_list_append PySem.F.type_list_append mt_append (pe_ix ix_list (pe_ix ix_list (pv 1) (pe_un un_neg pe_int) (fun _ _=>rfl)) pe_int (fun _ _=>rfl)) (pac (pe_tup (pac (pe_str) (pac (pe_int) (pac (pe_int) pa_nil)))) pa_nil)))
   (pss_one (ps_expr (pe_bm PySem.F.plainAttrs_list PySem.F.slot_list_append PySem.F.type_list_append mt_append (pv 2) (pac (pe_str) pa_nil))))) pss_nil)
   (pss_one (ps_expr (pec GC hr1 rfl DC.m DC.F.kp bC .nil pass0 (pac (pv 1) (pac (pv 2) pa_nil)))))))
   (pss_one (ps_ret (pe_tup (pac (pe_ix ix_list (pe_ix ix_list (pv 1) pe_int (fun _ _=>rfl)) pe_int (fun _ _=>rfl)) (pac (pv 2) pa_nil))))))))),?_⟩
  refine ⟨szr rfl,fun t0 m0=>⟨szr rfl,fun l0 m1=>⟨szr rfl,fun e0 m2=>⟨szr rfl,fun st m3=>?_⟩⟩⟩⟩
  refine ⟨szr rfl,fun W0 m4=>?_⟩
  have T0:=same_upd (o:=HO.tup []) m0
  have T1:=same_upd (o:=HO.lst []) m1
  have T2:=same_upd (o:=HO.lst [V.ref t0,.ref l0]) m2
  have T3:=same_upd (o:=HO.lst [V.ref e0]) m3
  have T4:=same_upd (o:=HO.lst []) m4
  have I0:StkI H (upd (upd (upd (upd (upd H t0 (.tup [])) l0 (.lst [])) e0 (.lst [V.ref t0,.ref l0])) st (.lst [V.ref e0])) W0 (.lst [])) st W0 [⟨e0,t0,l0,.no,[],[]⟩] 0 []:=by
   have nel:e0≠l0:=fun z=>by rw [z,upd_same] at m2; cases m2
   have nse:st≠e0:=fun z=>by rw [z,upd_same] at m3; cases m3
   have nsl:st≠l0:=fun z=>by rw [z,T2 _ _ upd_same] at m3; cases m3
   have nws:W0≠st:=fun z=>by rw [z,upd_same] at m4; cases m4
   have nwe:W0≠e0:=fun z=>by rw [z,T3 _ _ upd_same] at m4; cases m4
   have nwl:W0≠l0:=fun z=>by rw [z,T3 _ _ (T2 _ _ upd_same)] at m4; cases m4
   refine ⟨T0.trans (T1.trans (T2.trans (T3.trans T4))),fun b hb=>?_,T4 _ _ upd_same,⟨upd_same,Nat.le_refl _⟩,fun g hg=>?_,?_⟩
   ·simp only [frM,List.flatMap_cons,List.flatMap_nil,List.append_nil,List.mem_cons,List.not_mem_nil,or_false] at hb
    rcases hb with rfl | rfl | rfl | rfl
    ·exact none_same (T0.trans (T1.trans T2)) m3
    ·exact none_same (T0.trans (T1.trans (T2.trans T3))) m4
    ·exact none_same (T0.trans T1) m2
    ·exact none_same T0 m1
   ·rw [List.mem_singleton.mp hg]
    exact ⟨(T3.trans T4) _ _ upd_same,(T1.trans (T2.trans (T3.trans T4))) _ _ upd_same,(T2.trans (T3.trans T4)) _ _ upd_same,.nil,Nat.le_refl _⟩
   ·simp only [frM,List.flatMap_cons,List.flatMap_nil,List.append_nil,List.nodup_cons,List.mem_cons,List.not_mem_nil,or_false,not_or,not_false_eq_true,List.nodup_nil,and_true]
    exact ⟨⟨Ne.symm nws,nse,nsl⟩,⟨nwe,nwl⟩,nel⟩
  revert I0
  generalize (upd (upd (upd (upd (upd H t0 (.tup [])) l0 (.lst [])) e0 (.lst [V.ref t0,.ref l0])) st (.lst [V.ref e0])) W0 (.lst []))=H5
  intro I0
  refine ⟨_,rfl,a,_,rfl,.inl (I0.sub.seq hS),_,rfl,by omega,by omega,?_⟩
  rw [xl,show ((ns.length:Int)).toNat=ns.length from Int.toNat_natCast _]
  refine for_range (fun i σ H1=>∃ (W:Addr) (fs:List Fr),(∃ v3 v4 v5 v6 v7,σ=[some (.ref a),some (.ref st),some (.ref W),v3,v4,v5,v6,v7])∧StkI H H1 st W fs (4 * i) ((wsD (datS fs)).map V.str)∧datS fs=runD ns i∧okD (datS fs)∧fs≠[]∧wsz (wsD (datS fs))≤29 * i) ⟨W0,_,⟨_,_,_,_,_,rfl⟩,I0.words (by simp [datS,wsD,wds,hdP]),rfl,⟨by simp only [vds],by decide,⟨fun h=>absurd rfl h,fun _=>rfl⟩,True.intro⟩,by simp,by simp [datS,wsD,wds,hdP,wsz]⟩ ?_ ?_
  ·rintro i σ H1 hi ⟨W,fs,⟨v3,v4,v5,v6,v7,rfl⟩,I,ed,ok,ne,wz⟩
   have ez:(0:Int) + (i:Int)=(i:Int):=Int.zero_add _
   rw [ez]
   have en:ns.getD i 0=ns[i]:=by rw [List.getD_eq_getElem?_getD,List.getElem?_eq_getElem hi]; rfl
   have es:=runD_succ ns i
   rw [en,← ed] at es
   refine ⟨_,rfl,_,rfl,a,_,_,.int ns[i],rfl,rfl,I.sub.seq hS,atI_nat (by rw [List.getElem?_map,List.getElem?_eq_getElem hi]; rfl),_,rfl,ns[i],i,rfl,by omega,?_⟩
   revert es
   generalize numF ns[i] i=n
   intro es
   have m8:(0:Int) < 8:=by decide
   cases fs with
   | nil=>exact absurd rfl ne
   | cons f r =>
    have e1:=I.es
    have ei:=e1
    rw [List.reverse_cons,List.map_append] at ei
    have q:=I.fr f List.mem_cons_self
    have fl:((f :: r).reverse.map fun f=>V.ref f.e).length=(datS (f :: r)).length:=by simp [datS]
    have xe:f.xs.isEmpty=topE (datS (f :: r)):=by
     show f.xs.isEmpty=f.sk.isEmpty
     have:=q.sk.length
     cases hx:f.xs <;> cases hk:f.sk <;> simp_all
    have xln:f.xs.length≤4 * i:=by rw [q.sk.length]; exact q.ln
    refine ⟨_,rfl,_,_,rfl,rfl,m8,_,_,rfl,rfl,_,rfl,?_⟩
    by_cases hp:Pc (datS (f :: r)) n
    ·refine' laterH (fun H2=>StkI H H2 st W (f :: r) (4 * i) ((wsD (datS (f :: r))).map V.str)) (fun fin=>_) _
     rotate_left
     ·refine ifC (fun _=>iteT (fin H1 I)) (fun hc=>?_)
      have h5:¬ n % 8 < 5:=of_decide_eq_false hc
      refine ⟨_,rfl,_,_,rfl,rfl,m8,rfl,_,rfl,?_⟩
      by_cases e5:n % 8=5
      ·have hl:(datS (f :: r)).length=9:=by
        rcases hp with h | ⟨_,h⟩ | ⟨h,_⟩
        ·exact absurd h h5
        ·exact h
        ·omega
       refine ifB_pos (decide_eq_true (by show V.int (n % 8)=V.int 5; rw [e5])) ?_
       exact ⟨_,rfl,st,_,rfl,.inl (SqL.of e1),rfl,_,rfl,ifB_pos (decide_eq_true (by rw [fl,hl]; rfl)) (iteT (fin H1 I))⟩
      ·have ht:topE (datS (f :: r))=true:=by
        rcases hp with h | ⟨h,_⟩ | ⟨_,h⟩
        ·exact absurd h h5
        ·exact absurd h e5
        ·exact h
       refine ifB_neg (decide_eq_false (fun e=>e5 (by injection e))) (iteF ?_)
       refine ⟨_,rfl,_,_,rfl,rfl,m8,_,_,rfl,rfl,_,rfl,ifB_pos (decide_eq_true (by show n % 8 > 5; omega)) ?_⟩
       refine ⟨_,rfl,_,rfl,st,_,_,_,rfl,rfl,SqL.of ei,atI_last _ _,f.e,_,_,_,rfl,rfl,SqL.of q.he,rfl,szr rfl,fun b nb=>?_⟩
       have Tb:=same_upd (o:=HO.lst []) nb
       exact ⟨f.l,b,f.xs,rfl,rfl,SqL.of (Tb _ _ q.hl),SqL.of upd_same,_,rfl,ifB_pos (xe.trans ht) (fin _ (I.same Tb))⟩
     intro H2 I2
     have q2:=I2.fr f List.mem_cons_self
     have ei2:=I2.es
     rw [List.reverse_cons,List.map_append] at ei2
     refine ⟨_,rfl,_,_,rfl,rfl,⟨by decide,by decide⟩,n / 8,rfl,fun r1 t l H3 S3 er sk el nl=>?_⟩
     refine ⟨r1,_,rfl,SqT.of er,rfl,_,_,rfl,_,_,rfl,rfl,?_⟩
     have I3:=I2.same S3
     have q3:=I3.fr f List.mem_cons_self
     have ei3:=I3.es
     rw [List.reverse_cons,List.map_append] at ei3
     refine ⟨_,rfl,_,rfl,st,_,_,_,rfl,rfl,SqL.of ei3,atI_last _ _,f.e,_,_,_,rfl,rfl,SqL.of q3.he,rfl,.inl ⟨rfl,_,SqL.of q3.hl⟩,_,rfl,f.l,f.xs,_,rfl,rfl,q3.hl,small1000 (by omega),?_⟩
     have I4:=I3.push (sk_wo sk fun xs e=>I3.tup e)
     have nlm:l≠f.l:=fun z=>I2.fresh nl (by rw [z,frM_cons]; simp)
     have el4:(upd H3 f.l (.lst (f.xs ++ [V.ref t]))) l=some (.lst ((plF (n / 8)).wd.map V.str)):=by rw [upd_ne nlm]; exact el
     revert I4 el4
     generalize (upd H3 f.l (.lst (f.xs ++ [V.ref t])))=H4
     intro I4 el4
     obtain ⟨ew4,wl4⟩:=I4.ew
     have wl:((plF (n / 8)).wd.map V.str).length≤3:=by rw [List.length_map]; exact pl_len _
     refine ⟨_,rfl,_,rfl,W,l,_,_,rfl,rfl,ew4,el4,by rw [sizeLine_eq]; omega,fun W' nW=>?_⟩
     refine ⟨W',_,⟨_,_,_,_,_,rfl⟩,((I4.mono (m:=4 * (i + 1)) (by omega)).wset nW (by rw [List.length_append]; omega)).words ?_,?_,?_,by simp,?_⟩
     ·show (wsD ((f.hd,f.sk ++ [plF (n / 8)]) :: datS r)).map V.str=_
      rw [wsD_push,List.map_append]
      rfl
     ·rw [es,stepD,if_pos hp]
      rfl
     ·have:=okD_push ok (pl_vd (n / 8))
      exact this
     ·show wsz (wsD ((f.hd,f.sk ++ [plF (n / 8)]) :: datS r))≤_
      rw [wsD_push,wsz_app]
      have w1:=pl_wsz (n / 8)
      have w2:wsz (wsD ((f.hd,f.sk) :: datS r))≤29 * i:=wz
      omega
    ·have hp':¬ n % 8 < 5∧¬ (n % 8=5∧(datS (f :: r)).length=9)∧¬ (5 < n % 8∧topE (datS (f :: r))=true):=⟨fun z=>hp (.inl z),fun z=>hp (.inr (.inl z)),fun z=>hp (.inr (.inr z))⟩
     obtain ⟨h5,h9,ht⟩:=hp'
     have n7:n % 8 < 8:=Int.emod_lt_of_pos n m8
     refine ifB_neg (decide_eq_false h5) ?_
     refine ⟨_,rfl,_,_,rfl,rfl,m8,rfl,_,rfl,?_⟩
     by_cases e5:n % 8=5
     ·have hl:¬ (datS (f :: r)).length=9:=fun z=>h9 ⟨e5,z⟩
      have hl8:(datS (f :: r)).length≤8:=by
       have:=ok.2.1
       have e:(datS (f :: r)).length=(datS r).length + 1:=by simp [datS]
       have e':(List.map (fun f:Fr=>(f.hd,f.sk)) r).length=(datS r).length:=rfl
       omega
      refine ifB_pos (decide_eq_true (by show V.int (n % 8)=V.int 5; rw [e5])) ?_
      refine ⟨_,rfl,st,_,rfl,.inl (SqL.of e1),rfl,_,rfl,ifB_neg (decide_eq_false (fun e=>hl (by rw [fl] at e; injection e with e; omega))) ?_⟩
      refine ⟨_,rfl,_,_,rfl,rfl,m8,_,_,rfl,rfl,_,rfl,ifB_neg (decide_eq_false (by show ¬ n % 8 > 5; omega)) (iteF ?_)⟩
      refine ⟨_,rfl,_,_,rfl,rfl,m8,rfl,_,rfl,ifB_pos (decide_eq_true (by show V.int (n % 8)=V.int 5; rw [e5])) ?_⟩
      refine ⟨_,rfl,_,_,rfl,rfl,⟨by decide,by decide⟩,n / 8,rfl,fun r1 t l H3 S3 er et el nl=>?_⟩
      refine ⟨r1,_,rfl,SqT.of er,rfl,_,_,rfl,_,_,rfl,rfl,?_⟩
      have I3:=I.same S3
      have hno8:hdF (n / 8)≠.no:=fun z=>by
       have:=hd_ok (n / 8)
       rw [z] at this
       exact this
      refine ⟨_,rfl,.inl ⟨rfl,_,SqL.of I3.es⟩,_,rfl,szr rfl,fun l' nl'=>⟨szr rfl,fun e' ne'=>?_⟩⟩
      have T1:=same_upd (o:=HO.lst []) nl'
      have T2:=same_upd (o:=HO.lst [V.ref t,.ref l']) ne'
      have I4:=I3.opn et nl' ne'
      have es4:=T2 _ _ (T1 _ _ I3.es)
      have ll:((f :: r).reverse.map fun f=>V.ref f.e).length≤8:=by rw [fl]; exact hl8
      refine ⟨st,_,_,rfl,rfl,es4,small1000 (by omega),?_⟩
      have nls:l≠st:=fun z=>I.fresh nl (by rw [z]; exact List.mem_cons_self)
      have el4:(upd (upd (upd H3 l' (.lst [])) e' (.lst [.ref t,.ref l'])) st (.lst (((f :: r).reverse.map fun f=>V.ref f.e) ++ [.ref e']))) l=some (.lst ((hdW (hdF (n / 8))).map V.str)):=by
       rw [upd_ne nls]
       exact T2 _ _ (T1 _ _ el)
      revert I4 el4
      generalize (upd (upd (upd H3 l' (.lst [])) e' (.lst [.ref t,.ref l'])) st (.lst (((f :: r).reverse.map fun f=>V.ref f.e) ++ [.ref e'])))=H4
      intro I4 el4
      obtain ⟨ew4,wl4⟩:=I4.ew
      have wl:((hdW (hdF (n / 8))).map V.str).length≤2:=by rw [List.length_map]; exact hd_len _
      refine ⟨_,rfl,_,rfl,W,l,_,_,rfl,rfl,ew4,el4,by rw [sizeLine_eq]; omega,fun p np=>?_⟩
      have Tp:=same_upd (o:=HO.lst ((wsD (datS (f :: r))).map V.str ++ (hdW (hdF (n / 8))).map V.str)) np
      refine ⟨szr rfl,fun p2 np2=>?_⟩
      have Tp2:=same_upd (o:=HO.lst [V.str "("]) np2
      have I5:=I4.same (Tp.trans Tp2)
      refine ⟨p,p2,_,_,rfl,rfl,Tp2 _ _ upd_same,upd_same,by rw [sizeLine_eq,List.length_append]; show _ + 1≤_; omega,fun W' nW=>?_⟩
      refine ⟨W',_,⟨_,_,_,_,_,rfl⟩,((I5.mono (m:=4 * (i + 1)) (by omega)).wset nW (by rw [List.length_append,List.length_append]; show _ + 1≤_; omega)).words ?_,?_,okD_open ok hl8 (by simp [datS]),by simp,?_⟩
      ·show (wsD ((hdF (n / 8),[]) :: datS (f :: r))).map V.str=_
       rw [wsD_open hno8,List.map_append,List.map_append]
       rfl
      ·rw [es,stepD,if_neg hp,if_pos e5]
       rfl
      ·show wsz (wsD ((hdF (n / 8),[]) :: datS (f :: r)))≤_
       rw [wsD_open hno8,List.append_assoc,wsz_app]
       have w1:=hd_wsz (hd_ok (n / 8))
       omega
     ·have ht':topE (datS (f :: r))=false:=by
       cases h:topE (datS (f :: r)) with
       | false=>rfl
       | true=>exact absurd ⟨by omega,h⟩ ht
      refine ifB_neg (decide_eq_false (fun e=>e5 (by injection e))) (iteF ?_)
      refine ⟨_,rfl,_,_,rfl,rfl,m8,_,_,rfl,rfl,_,rfl,ifB_pos (decide_eq_true (by show n % 8 > 5; omega)) ?_⟩
      refine ⟨_,rfl,_,rfl,st,_,_,_,rfl,rfl,SqL.of ei,atI_last _ _,f.e,_,_,_,rfl,rfl,SqL.of q.he,rfl,szr rfl,fun b nb=>?_⟩
      have Tb:=same_upd (o:=HO.lst []) nb
      refine ⟨f.l,b,f.xs,rfl,rfl,SqL.of (Tb _ _ q.hl),SqL.of upd_same,_,rfl,ifB_neg (xe.trans ht') ?_⟩
      have I2:=I.same Tb
      have e2:=Tb _ _ e1
      revert I2 e2
      generalize (upd H1 b (HO.lst []))=H2
      intro I2 e2
      refine ⟨_,rfl,_,_,rfl,rfl,m8,rfl,_,rfl,ifB_neg (decide_eq_false (fun e=>e5 (by injection e))) ?_⟩
      refine ⟨_,rfl,st,_,rfl,.inl (SqL.of e2),_,_,rfl,rfl,_,rfl,?_⟩
      cases r with
      | nil =>
       refine ifB_neg (decide_eq_false (by show ¬ (1:Int) > 1; decide)) ?_
       refine ⟨W,_,⟨_,_,_,_,_,rfl⟩,I2.mono (by omega),?_,ok,by simp,Nat.le_trans wz (by omega)⟩
       rw [es,stepD,if_neg hp,if_neg e5,if_neg (by show ¬ 1 < 1; decide)]
      | cons f' r =>
       refine ifB_pos (decide_eq_true (by rw [fl]; show ((datS r).length + 1 + 1:Nat) > (1:Int); omega)) ?_
       have hno:f.hd≠.no:=fun z=>by
        have h3:=ok.2.2.1.1 (by simp [datS])
        rw [z] at h3
        exact h3
       refine ⟨_,rfl,_,rfl,st,W,H,f,f',r,4 * i,_,rfl,I2,hno,by omega,fun xs' H' I'=>?_⟩
       have wc:wsD ((f'.hd,f'.sk ++ [mk f.hd f.sk]) :: datS r)=wsD (datS (f :: f' :: r)) ++ [(")":Str)]:=wsD_close hno _ _ _ _
       refine ⟨W,_,⟨_,_,_,_,_,rfl⟩,(I'.mono (by omega)).words ?_,?_,?_,by simp,?_⟩
       ·show (wsD ((f'.hd,f'.sk ++ [mk f.hd f.sk]) :: datS r)).map V.str=_
        rw [wc,List.map_append]
        rfl
       ·rw [es,stepD,if_neg hp,if_neg e5,if_pos (by show 1 < (datS r).length + 1 + 1; omega)]
        rfl
       ·have h1:=ok.1
        refine okD_close ok h1 (fun z=>?_)
        have h2:f.sk.isEmpty=false:=ht'
        rw [z] at h2
        cases h2
       ·show wsz (wsD ((f'.hd,f'.sk ++ [mk f.hd f.sk]) :: datS r))≤_
        rw [wc,wsz_app,wsz_br]
        omega
  ·rintro σ H1 ⟨W,fs,⟨v3,v4,v5,v6,v7,rfl⟩,I,ed,ok,ne,wz⟩
   refine ⟨fun m σ H2=>∃ (W:Addr) (fs:List Fr) (n:Nat),m=fs.length∧(∃ v3 v4 v5 v6 v7,σ=[some (.ref a),some (.ref st),some (.ref W),v3,v4,v5,v6,v7])∧StkI H H2 st W fs n ((wsD (datS fs)).map V.str)∧n + 4 * fs.length≤300∧finD (datS fs)=treeF ns∧okD (datS fs)∧fs≠[]∧wsz (wsD (datS fs)) + 4 * fs.length≤1800,⟨_,W,fs,_,rfl,⟨_,_,_,_,_,rfl⟩,I,?_,?_,ok,ne,?_⟩,?_⟩
   ·cases fs with
    | nil=>exact absurd rfl ne
    | cons f r =>
     have:=ok.2.1
     have e':(List.map (fun f:Fr=>(f.hd,f.sk)) r).length=r.length:=List.length_map ..
     rw [List.length_cons]
     omega
   ·rw [ed]
    rfl
   ·cases fs with
    | nil=>exact absurd rfl ne
    | cons f r =>
     have:=ok.2.1
     have e':(List.map (fun f:Fr=>(f.hd,f.sk)) r).length=r.length:=List.length_map ..
     rw [List.length_cons]
     omega
   ·rintro m σ H2 ⟨W,fs,n,rfl,⟨v3,v4,v5,v6,v7,rfl⟩,I,nb,ef,ok,ne,wz⟩
    cases fs with
    | nil=>exact absurd rfl ne
    | cons f r =>
     have q:=I.fr f List.mem_cons_self
     refine ⟨_,rfl,st,_,rfl,.inl (SqL.of I.es),_,_,rfl,rfl,_,rfl,?_⟩
     cases r with
     | nil =>
      refine ifB_neg (decide_eq_false (by show ¬ (1:Int) > 1; decide)) ?_
      have e0:H2 st=some (.lst [V.ref f.e]):=I.es
      refine ⟨_,rfl,st,_,_,_,rfl,rfl,SqL.of e0,rfl,f.e,_,_,_,rfl,rfl,SqL.of q.he,rfl,_,rfl,szr rfl,fun r1 nr=>?_⟩
      have T:=same_upd (o:=HO.tup [V.ref f.l,.ref W]) nr
      have ef':f.sk=treeF ns:=ef
      have eb:f.hd=.no:=ok.2.2.1.2 rfl
      have ews:wsD (datS [f])=wds f.sk:=by
       show wsD [] ++ hdP f.hd ++ wds f.sk=_
       rw [eb]
       rfl
      have wz':=wz
      have I':=I.ew.1
      rw [ews] at wz' I'
      refine z r1 f.l W f.xs _ (I.sub.trans T) upd_same (T _ _ q.hl) ?_ ?_ ?_ ?_
      ·rw [← ef']
       exact T _ _ I'
      ·rw [← ef']
       exact (q.sk.same wo_same).same T
      ·rw [← ef']
       exact ok.1
      ·rw [← ef']
       omega
     | cons f' r =>
      have fl:((f :: f' :: r).reverse.map fun f=>V.ref f.e).length=r.length + 1 + 1:=by simp
      refine ifB_pos (decide_eq_true (by rw [fl]; show ((r.length + 1 + 1:Nat):Int) > (1:Int); omega)) ?_
      refine ⟨_,fun _ _ h=>h,?_⟩
      have ei:=I.es
      rw [List.reverse_cons,List.map_append] at ei
      have xl':f.xs.length=f.sk.length:=q.sk.length
      have lk:=q.ln
      rw [List.length_cons,List.length_cons] at nb
      refine' laterS (fun σ H3=>(∃ v3 v4 v5 v6 v7,σ=[some (.ref a),some (.ref st),some (.ref W),v3,v4,v5,v6,v7])∧∃ f1:Fr,StkI H H3 st W (f1 :: f' :: r) (n + 2) ((wsD (datS (f1 :: f' :: r))).map V.str)∧f1.hd=f.hd∧f1.sk=fill f.sk∧wsz (wsD (datS (f1 :: f' :: r)))≤wsz (wsD (datS (f :: f' :: r))) + 2) (fun fin=>_) _
      rotate_left
      ·refine ⟨_,rfl,_,rfl,st,_,_,_,rfl,rfl,SqL.of ei,atI_last _ _,f.e,_,_,_,rfl,rfl,SqL.of q.he,rfl,szr rfl,fun b nb'=>?_⟩
       have Tb:=same_upd (o:=HO.lst []) nb'
       refine ⟨f.l,b,f.xs,rfl,rfl,SqL.of (Tb _ _ q.hl),SqL.of upd_same,_,rfl,?_⟩
       have I2:=I.same Tb
       revert I2
       generalize (upd H2 b (HO.lst []))=H3
       intro I2
       have q2:=I2.fr f List.mem_cons_self
       have ei2:=I2.es
       rw [List.reverse_cons,List.map_append] at ei2
       have xe:f.xs.isEmpty=f.sk.isEmpty:=by
        cases hx:f.xs <;> cases hk:f.sk <;> simp_all
       refine ifC (fun he=>?_) (fun he=>fin _ _ ⟨⟨_,_,_,_,_,rfl⟩,f,I2.mono (by omega),rfl,by rw [fill,if_neg (by rw [← xe,he]; decide)],by omega⟩)
       refine ⟨_,rfl,_,rfl,st,_,_,_,rfl,rfl,SqL.of ei2,atI_last _ _,f.e,_,_,_,rfl,rfl,SqL.of q2.he,rfl,.inl ⟨rfl,_,SqL.of q2.hl⟩,szr rfl,fun t nt=>?_⟩
       have Tt:=same_upd (o:=HO.tup [V.str "line",.int 0,.int 1]) nt
       have I3:=I2.same Tt
       have et:(upd H3 t (HO.tup [V.str "line",.int 0,.int 1])) t=some (HO.tup [V.str "line",.int 0,.int 1]):=upd_same
       have q3:=I3.fr f List.mem_cons_self
       refine ⟨f.l,f.xs,_,rfl,rfl,q3.hl,small1000 (by omega),?_⟩
       have I4:=I3.push (st:=.line false 0 1) (.line (wo_at et (I3.tup et)))
       revert I4
       generalize (upd (upd H3 t (HO.tup [V.str "line",.int 0,.int 1])) f.l (.lst (f.xs ++ [V.ref t])))=H4
       intro I4
       obtain ⟨ew4,wl4⟩:=I4.ew
       refine ⟨_,rfl,.inl ⟨rfl,_,SqL.of ew4⟩,W,_,_,rfl,rfl,ew4,small1000 (by omega),?_⟩
       have wp:wsD ((f.hd,f.sk ++ [Sk.line false 0 1]) :: datS (f' :: r))=wsD (datS (f :: f' :: r)) ++ [("n":Str)]:=by rw [wsD_push,n_wd]; rfl
       refine fin _ _ ⟨⟨_,_,_,_,_,rfl⟩,_,((I4.mono (Nat.le_succ _)).wapp (by rw [List.length_append]; show _ + 1≤_; omega)).words ?_,rfl,by rw [fill,if_pos (by rw [← xe,he])],?_⟩
       ·show (wsD ((f.hd,f.sk ++ [Sk.line false 0 1]) :: datS (f' :: r))).map V.str=_
        rw [wp,List.map_append]
        rfl
       ·show wsz (wsD ((f.hd,f.sk ++ [Sk.line false 0 1]) :: datS (f' :: r)))≤_
        rw [wp,wsz_app,wsz_n]
        exact Nat.le_refl _
      rintro σ H3 ⟨⟨v3,v4,v5,v6,v7,rfl⟩,f1,I3,e1,e2,wz3⟩
      have hno:f1.hd≠.no:=fun z=>by
       have h3:=ok.2.2.1.1 (by simp [datS])
       rw [← e1,z] at h3
       exact h3
      refine ⟨_,rfl,_,rfl,st,W,H,f1,f',r,n + 2,_,rfl,I3,hno,by omega,fun xs' H' I'=>?_⟩
      have wc:wsD ((f'.hd,f'.sk ++ [mk f1.hd f1.sk]) :: datS r)=wsD (datS (f1 :: f' :: r)) ++ [(")":Str)]:=wsD_close hno _ _ _ _
      refine ⟨r.length + 1,by rw [List.length_cons,List.length_cons]; omega,W,{ f' with xs:=xs',sk:=f'.sk ++ [mk f1.hd f1.sk] } :: r,n + 2 + 2,rfl,⟨_,_,_,_,_,rfl⟩,I'.words ?_,by rw [List.length_cons]; omega,?_,?_,by simp,?_⟩
      ·show (wsD ((f'.hd,f'.sk ++ [mk f1.hd f1.sk]) :: datS r)).map V.str=_
       rw [wc,List.map_append]
       rfl
      ·rw [← ef]
       show finG (f'.sk ++ [mk f1.hd f1.sk]) f'.hd (datS r)=finG (f'.sk ++ [mk f.hd (fill f.sk)]) f'.hd (datS r)
       rw [e1,e2]
      ·show okD ((f'.hd,f'.sk ++ [mk f1.hd f1.sk]) :: datS r)
       rw [e1,e2]
       refine okD_close (h:=f.hd) (l:=f.sk) ok ?_ ?_
       ·have h1:=ok.1
        have h1:vds f.sk (8 - ((datS r).length + 1)):=h1
        unfold fill
        split
        ·exact vds_snoc h1 (by simp only [Sk.vd]; decide)
        ·exact h1
       ·unfold fill
        split
        ·simp
        ·rename_i hz
         exact fun z=>hz (by rw [z]; rfl)
      ·show wsz (wsD ((f'.hd,f'.sk ++ [mk f1.hd f1.sk]) :: datS r)) + _≤_
       rw [wc,wsz_app,wsz_br]
       rw [List.length_cons,List.length_cons] at wz
       rw [List.length_cons]
       omega
end
end K22
namespace K22
open PySem PySem.Spec PyProof.Rows L2 BF
def wayO (x:Str):Option (Int×Int):=(ways8.find? fun y=>decide (y.1=x)).map (·.2)
def smp (x:Str) (r:List Str):Option (Sk×List Str):=match wayO x with
 | some p=>some (.line false p.1 p.2,r)
 | none=>if x="line" then (rd2 true 9 r).map fun p=>(.line true p.1 p.2,r.drop 2)
  else if x="by" then (rd2 false 1000000000 r).map fun p=>(.by_ p.1 p.2,r.drop 2)
  else if x="ink" then (if colB (.str (hd1 r))=true then some (.ink (hd1 r),r.tail) else none)
  else none
def bgn (x:Str) (r:List Str):Option (Hd×List Str) :=
 if x="(" then some (.back,r)
 else if x="turn" then (match numO (hd1 r) 0 7 with
  | some k=>if hd1 r.tail="(" then some (.turn k.toNat,r.drop 2) else none
  | none=>none)
 else match numO x 1 60 with
  | some m=>if hd1 r="times" then (if hd1 r.tail="(" then some (.times m.toNat,r.drop 2) else none) else none
  | none=>none
def stp (S:List (Hd×List Sk)) (x:Str) (r:List Str):Option (List (Hd×List Sk)×List Str) :=
 if x=")" then (match S with
  | (h,l) :: (h',l') :: S'=>if l.isEmpty=true then none else some ((h',l' ++ [mk h l]) :: S',r)
  | _=>none)
 else match smp x r with
  | some p=>some (pushD S p.1,p.2)
  | none=>match bgn x r with
   | some p=>if S.length < 9 then some ((p.1,[]) :: S,p.2) else none
   | none=>none
inductive Run:List (Hd×List Sk)→List Str→Option (List Sk)→Prop where
 | end1 {h:Hd} {l:List Sk}:Run [(h,l)] [] (some l)
 | end2 {a b:Hd×List Sk} {S:List (Hd×List Sk)}:Run (a :: b :: S) [] none
 | go {S S':List (Hd×List Sk)} {x:Str} {r r':List Str} {o:Option (List Sk)} (e:stp S x r=some (S',r')) (t:Run S' r' o):Run S (x :: r) o
 | bad {S:List (Hd×List Sk)} {x:Str} {r:List Str} (e:stp S x r=none):Run S (x :: r) none
theorem Run.one {S:List (Hd×List Sk)} {ws:List Str} {o:Option (List Sk)} (h:Run S ws o):∀ {o':Option (List Sk)},Run S ws o'→o=o':=by
 induction h with
 | end1=>intro o' g; cases g; rfl
 | end2=>intro o' g; cases g; rfl
 | go e t ih =>
  intro o' g
  cases g with
  | go e' t' =>
   rw [e] at e'
   cases e'
   exact ih t'
  | bad e'=>rw [e] at e'; cases e'
 | bad e =>
  intro o' g
  cases g with
  | go e' t'=>rw [e] at e'; cases e'
  | bad e'=>rfl
def Adv (j:Nat) (ws:List Str) (u:List Sk) (rest:List Str):Prop:=∀ (h:Hd) (l:List Sk) (S:List (Hd×List Sk)) (o:Option (List Sk)),S.length=j→Run ((h,l ++ u) :: S) rest o→Run ((h,l) :: S) ws o
def Bad (j:Nat) (ws:List Str):Prop:=∀ (h:Hd) (l:List Sk) (S:List (Hd×List Sk)),S.length=j→Run ((h,l) :: S) ws none
theorem Adv.trans {j:Nat} {ws r1 r2:List Str} {u v:List Sk} (a:Adv j ws u r1) (b:Adv j r1 v r2):Adv j ws (u ++ v) r2:=fun h l S o e t=>a h l S o e (b h (l ++ u) S o e (by rw [List.append_assoc]; exact t))
theorem Adv.bad {j:Nat} {ws r1:List Str} {u:List Sk} (a:Adv j ws u r1) (b:Bad j r1):Bad j ws:=fun h l S e=>a h l S _ e (b h (l ++ u) S e)
theorem adv_smp {x:Str} {r r':List Str} {s:Sk} {j:Nat} (hx:x≠")") (e:smp x r=some (s,r')):Adv j (x :: r) [s] r':=fun h l S o _ t=>.go (by unfold stp; rw [if_neg hx,e]; rfl) t
theorem bad_no {x:Str} {r:List Str} {j:Nat} (hx:x≠")") (e:smp x r=none) (e':bgn x r=none):Bad j (x :: r):=fun h l S _=>.bad (by unfold stp; rw [if_neg hx,e]; simp only; rw [e'])
theorem bad_deep {x:Str} {r:List Str} {j:Nat} (hx:x≠")") (e:smp x r=none) (h8:8≤j):Bad j (x :: r):=fun h l S hS=>.bad (by
 unfold stp
 rw [if_neg hx,e]
 simp only
 cases bgn x r with
 | none=>rfl
 | some p=>simp only; rw [if_neg (by rw [List.length_cons]; omega)])
def Inn (j:Nat) (ws:List Str) (u:List Sk) (rest:List Str):Prop:=∀ (hd h:Hd) (l:List Sk) (S:List (Hd×List Sk)) (o:Option (List Sk)),S.length=j→Run ((h,l ++ [mk hd u]) :: S) rest o→Run ((hd,[]) :: (h,l) :: S) ws o
def InnBad (j:Nat) (ws:List Str):Prop:=∀ (hd h:Hd) (l:List Sk) (S:List (Hd×List Sk)),S.length=j→Run ((hd,[]) :: (h,l) :: S) ws none
theorem adv_inn {x:Str} {r r' rest:List Str} {hd:Hd} {u:List Sk} {j:Nat} (hx:x≠")") (e:smp x r=none) (e':bgn x r=some (hd,r')) (h8:j < 8) (i:Inn j r' u rest):Adv j (x :: r) [mk hd u] rest:=fun h l S o hS t=>.go (by unfold stp; rw [if_neg hx,e]; simp only; rw [e']; simp only; rw [if_pos (by rw [List.length_cons]; omega)]) (i hd h l S o hS t)
theorem bad_inn {x:Str} {r r':List Str} {hd:Hd} {j:Nat} (hx:x≠")") (e:smp x r=none) (e':bgn x r=some (hd,r')) (i:j < 8→InnBad j r'):Bad j (x :: r):=by
 by_cases h8:j < 8
 ·intro h l S hS
  exact .go (by unfold stp; rw [if_neg hx,e]; simp only; rw [e']; simp only; rw [if_pos (by rw [List.length_cons]; omega)]) (i h8 hd h l S hS)
 ·exact bad_deep hx e (by omega)
theorem inn_of {j:Nat} {ws r:List Str} {u:List Sk} (a:Adv (j + 1) ws u ((")":Str) :: r)) (hu:u≠[]):Inn j ws u r:=fun hd h l S o hS t=>by
 refine a hd [] ((h,l) :: S) o (by rw [List.length_cons,hS]) (.go ?_ t)
 unfold stp
 rw [if_pos rfl]
 show (if ([] ++ u).isEmpty=true then none else some ((h,l ++ [mk hd ([] ++ u)]) :: S,r))=_
 rw [List.nil_append,if_neg (by cases u with | nil=>exact absurd rfl hu | cons a b=>simp)]
theorem inn_end {j:Nat} {ws:List Str} {u:List Sk} (a:Adv (j + 1) ws u []):InnBad j ws:=fun hd h l S hS=>a hd [] ((h,l) :: S) none (by rw [List.length_cons,hS]) .end2
theorem inn_emp {j:Nat} {ws r:List Str} (a:Adv (j + 1) ws [] ((")":Str) :: r)):InnBad j ws:=fun hd h l S hS=>a hd [] ((h,l) :: S) none (by rw [List.length_cons,hS]) (.bad (by unfold stp; rw [if_pos rfl]; rfl))
theorem inn_bad {j:Nat} {ws:List Str} (b:Bad (j + 1) ws):InnBad j ws:=fun hd h l S hS=>b hd [] ((h,l) :: S) (by rw [List.length_cons,hS])
theorem wayO_some {x:Str} {p:Int×Int} (h:wayO x=some p):(x,p)∈ways8:=by
 unfold wayO at h
 cases e:ways8.find? (fun y=>decide (y.1=x)) with
 | none=>rw [e] at h; cases h
 | some y =>
  rw [e] at h
  have h1:=List.mem_of_find?_eq_some e
  have h2:=List.find?_some e
  obtain ⟨y1,y2⟩:=y
  have h3:y1=x:=of_decide_eq_true h2
  have h4:y2=p:=Option.some.inj h
  rw [← h3,← h4]
  exact h1
theorem wayO_none {x:Str} (h:wayO x=none):∀ y∈ways8,y.1≠x:=fun y hy e=>by
 unfold wayO at h
 rw [Option.map_eq_none_iff,List.find?_eq_none] at h
 exact h y hy (decide_eq_true e)
theorem wayO_kw:wayO "line"=none∧wayO "by"=none∧wayO "ink"=none∧wayO "("=none∧wayO "turn"=none:=by decide +kernel
def Sf (u:List Sk) (rest ws:List Str):Prop:=(∀ y∈rest,y∈ws)∧u.length + rest.length≤ws.length
def Bd (ws:List Str):Prop:=(∀ y∈ws,y.length≤2500)∧ws.length≤2500
theorem Bd.sf {ws rest:List Str} {u:List Sk} (b:Bd ws) (s:Sf u rest ws):Bd rest:=⟨fun y hy=>b.1 y (s.1 y hy),by have:=s.2; have:=b.2; omega⟩
theorem drop_sf {x:Str} {r:List Str} {s:Sk} (n:Nat):Sf [s] (r.drop n) (x :: r):=⟨fun y hy=>List.mem_cons_of_mem _ (List.mem_of_mem_drop hy),by rw [List.length_cons,List.length_drop]; show 1 + (r.length - n)≤r.length + 1; omega⟩
theorem Bd.drop {r:List Str} (b:Bd r) (n:Nat):Bd (r.drop n):=⟨fun y hy=>b.1 y (List.mem_of_mem_drop hy),by rw [List.length_drop]; have:=b.2; omega⟩
theorem Bd.tail {x:Str} {r:List Str} (b:Bd (x :: r)):Bd r:=b.drop (r:=x :: r) 1
seal L2.PE L2.PA L2.PS L2.PSs L2.PT L2.PW L2.PG L2.PGs L2.PI BF.PTs L2.PPs L2.PO
section
variable {P:Program} {w:World} {K:PySem.W.Frag} {mg:Str→Option Value} {base:Heap} {cD:Addr}
def spRow (cD:Addr) (d:Nat):Sp:=fun vs H Q E=>∃ (wl:Addr) (H0:Hp) (j:Nat) (ws:List Str),vs=[.ref wl,.int (j:Int)]∧WL H wl ws∧Bd ws∧(∃ e,d=e + 1∧j + e=8)∧Same H0 H∧H0 wl=none∧(∀ L xs u rest H',RowR H0 H' wl L xs u rest→Sf u rest ws→(rest=[]∨∃ r,rest=(")":Str) :: r)→Adv j ws u rest→Q (.ref L) H')∧(Bad j ws→∀ H',Same H0 H'→E (.ref cD) none H')
def spInner (cD:Addr) (d:Nat):Sp:=fun vs H Q E=>∃ (wl:Addr) (H0:Hp) (j:Nat) (ws:List Str),vs=[.ref wl,.int (j:Int)]∧WL H wl ws∧Bd ws∧j + d=8∧Same H0 H∧H0 wl=none∧(∀ L xs u rest H',RowR H0 H' wl L xs u rest→Sf u rest ws→u≠[]→j < 8→Inn j ws u rest→Q (.ref L) H')∧((j < 8→InnBad j ws)→∀ H',Same H0 H'→E (.ref cD) none H')
def spStroke (cD:Addr) (d:Nat):Sp:=fun vs H Q E=>∃ (wl:Addr) (H0:Hp) (j:Nat) (x:Str) (r:List Str),vs=[.ref wl,.int (j:Int)]∧WL H wl (x :: r)∧Bd (x :: r)∧x≠")"∧j + d=8∧Same H0 H∧H0 wl=none∧(∀ t s rest H',StrR H0 H' wl t s rest→Sf [s] rest (x :: r)→Adv j (x :: r) [s] rest→Q (.ref t) H')∧(Bad j (x :: r)→∀ H',Same H0 H'→E (.ref cD) none H')
def spRdTurn (cD:Addr) (d:Nat):Sp:=fun vs H Q E=>∃ (wl:Addr) (H0:Hp) (j:Nat) (r:List Str),vs=[.ref wl,.int (j:Int)]∧WL H wl r∧Bd r∧j + d=8∧Same H0 H∧H0 wl=none∧(∀ t s rest H',StrR H0 H' wl t s rest→Sf [s] rest (("turn":Str) :: r)→Adv j (("turn":Str) :: r) [s] rest→Q (.ref t) H')∧(Bad j (("turn":Str) :: r)→∀ H',Same H0 H'→E (.ref cD) none H')
def spRdTimes (cD:Addr) (d:Nat):Sp:=fun vs H Q E=>∃ (wl:Addr) (H0:Hp) (j:Nat) (x:Str) (r:List Str),vs=[.str x,.ref wl,.int (j:Int)]∧WL H wl r∧Bd (x :: r)∧x≠")"∧x≠"("∧x≠"turn"∧smp x r=none∧j + d=8∧Same H0 H∧H0 wl=none∧(∀ t s rest H',StrR H0 H' wl t s rest→Sf [s] rest (x :: r)→Adv j (x :: r) [s] rest→Q (.ref t) H')∧(Bad j (x :: r)→∀ H',Same H0 H'→E (.ref cD) none H')
theorem ok_row0 {k:Nat} {f:Addr} {fd:FuncData}:FnOk P w K mg base (CXE P w) k f fd ["words","depth"] (spRow cD 0) :=
 ⟨fun _ _ _ _ h=>by obtain ⟨_,_,_,_,_,_,_,⟨e,h,_⟩,_⟩:=h; omega,fun _ _ _ _ _ _ _ _ _ _ _ _ _ h=>by obtain ⟨_,_,_,_,_,_,_,⟨e,h,_⟩,_⟩:=h; omega⟩
theorem scRdInner:FnScope ["words","depth","strokes"] ["words","depth"] (defScope sRdInner):=⟨rfl,rfl,rfl,by decide +kernel,rfl,by decide +kernel,by decide +kernel⟩
theorem ok_rdInner {f fR fX:Addr} {fd fdR fdX:FuncData} {d k:Nat} (D:Df K mg "read_inner" sRdInner f fd) (B:Blt mg) (mD:mg "NoDrawing"=some (.ref cD)) (qD:excO K cD) (DR:Df K mg "read_row" sRdRow fR fdR) (bR:Binds K fdR ["words","depth"] []) (GR:FnOk P w K mg base (CXE P w) k fR fdR ["words","depth"] (spRow cD d))
  (DX:Df K mg "expect" sExpect fX fdX) (bX:Binds K fdX ["words","wanted"] []) (GX:FnOk P w K mg base (CXE P w) 2 fX fdX ["words","wanted"] (spExpect cD)) (h2:2≤k):FnOk P w K mg base (CXE P w) (k + 1) f fd ["words","depth"] (spInner cD d):=by
 obtain ⟨tl,dep⟩:=B.dep
 refine fun_okX D.F scRdInner (fun vs H Q E h=>?_) (fun cdv A outer s H vs Q E hr h=>?_)
 ·obtain ⟨wl,H0,j,ws,rfl,_⟩:=h
  rfl
 ·obtain ⟨wl,H0,j,ws,rfl,hw,hb,hj,S0,n0,z,zn⟩:=h
  have hr2:Room 2 _:=hr.mono h2
  refine ⟨_,(pss_cons (ps_if (pt_cmpR op_ge (pv 1) (pe_glob (v:=.int 8) rfl dep ⟨_,rfl⟩) (nomark _)) (pss_one (ps_raise rfl mD hr.hd qD pe_str)) pss_nil)
   (pss_cons (ps_set (i:=2) scRdInner.nd rfl (Or.inl rfl) (pec GR hr rfl DR.m DR.F.kp bR .nil passE (pac (pv 0) (pac (pe_op op_add (pv 1) pe_int) pa_nil))))
   (pss_cons (ps_expr (pec GX hr2 rfl DX.m DX.F.kp bX .nil passE (pac (pv 0) (pac (pe_str) pa_nil))))
   (pss_cons (ps_if (pt_not (pt_truth (pv 2) (fun _=>rfl))) (pss_one (ps_raise rfl mD hr.hd qD pe_str)) pss_nil)
   (pss_one (ps_ret (pv 2))))))),?_⟩
  refine ⟨_,rfl,_,_,rfl,rfl,_,rfl,?_⟩
  by_cases h8:(j:Int) ≥ 8
  ·exact ifD_pos h8 (zn (fun h=>by omega) _ S0)
  refine ifD_neg h8 ?_
  refine ⟨_,rfl,_,rfl,_,_,rfl,rfl,wl,H0,j + 1,ws,rfl,hw,hb,⟨d - 1,by omega,by omega⟩,S0,n0,fun L xs u rest H1 R sf hrest a=>?_,fun b H1 S1=>zn (fun _=>inn_bad b) _ S1⟩
  have lx:=R.sk.length
  refine ⟨_,rfl,wl,H0,")",rest,rfl,R.hw,by decide +kernel,R.same,n0,fun r er=>?_,fun hne H2 S2=>?_⟩
  ·subst er
   have R2:RowR H0 (upd H1 wl (wv r)) wl L xs u r:=⟨same_updN R.same n0,upd_same,R.nl,R.ne,by rw [upd_ne R.ne]; exact R.el,R.sk.same (fr_to fun c o a b e=>⟨a,b,by rw [upd_ne (fun z=>b (by simp [z]))]; exact e⟩)⟩
   have sf2:Sf u r ws:=⟨fun y hy=>sf.1 y (List.mem_cons_of_mem _ hy),by have:=sf.2; rw [List.length_cons] at this; omega⟩
   cases u with
   | nil =>
    have xe:xs=[]:=List.eq_nil_of_length_eq_zero lx
    refine ⟨_,rfl,false,.inl ⟨_,SqL.of R2.el,by rw [xe]; rfl⟩,iteT (zn (fun _=>inn_emp a) _ R2.same)⟩
   | cons s0 u0 =>
    refine ⟨_,rfl,true,.inl ⟨_,SqL.of R2.el,?_⟩,iteF ⟨_,rfl,z L xs _ r _ R2 sf2 (by simp) (by omega) (inn_of a (by simp))⟩⟩
    cases xs with
    | nil=>cases lx
    | cons a b=>simp
  ·rcases hrest with rfl | ⟨r,rfl⟩
   ·exact zn (fun _=>inn_end a) _ S2
   ·exact absurd rfl hne
theorem scRdTurn:FnScope ["words","depth","way"] ["words","depth"] (defScope sRdTurn):=⟨rfl,rfl,rfl,by decide +kernel,rfl,by decide +kernel,by decide +kernel⟩
theorem bgn_turn {r:List Str} {k:Int} (h:numO (hd1 r) 0 7=some k) (h2:hd1 r.tail="("):bgn "turn" r=some (.turn k.toNat,r.drop 2):=by
 unfold bgn
 rw [if_neg (by decide +kernel),if_pos rfl,h]
 simp only
 rw [if_pos h2]
theorem bgn_turn0 {r:List Str} (h:numO (hd1 r) 0 7=none):bgn "turn" r=none:=by
 unfold bgn
 rw [if_neg (by decide +kernel),if_pos rfl,h]
theorem bgn_turn1 {r:List Str} (h2:hd1 r.tail≠"("):bgn "turn" r=none:=by
 unfold bgn
 rw [if_neg (by decide +kernel),if_pos rfl]
 cases numO (hd1 r) 0 7 with
 | none=>rfl
 | some k=>simp only; rw [if_neg h2]
theorem smp_kw {r:List Str}:smp "(" r=none∧smp "turn" r=none:=by
 unfold smp
 rw [wayO_kw.2.2.2.1,wayO_kw.2.2.2.2]
 simp only
 refine ⟨?_,?_⟩ <;> rw [if_neg (by decide +kernel),if_neg (by decide +kernel),if_neg (by decide +kernel)]
theorem ok_rdTurn {f fI fX fN fM:Addr} {fd fdI fdX fdN fdM:FuncData} {d k:Nat} (D:Df K mg "read_turn" sRdTurn f fd) (B:Blt mg) (DI:Df K mg "read_inner" sRdInner fI fdI) (bI:Binds K fdI ["words","depth"] []) (GI:FnOk P w K mg base (CXE P w) k fI fdI ["words","depth"] (spInner cD d))
  (DX:Df K mg "expect" sExpect fX fdX) (bX:Binds K fdX ["words","wanted"] []) (GX:FnOk P w K mg base (CXE P w) 2 fX fdX ["words","wanted"] (spExpect cD)) (DN:Df K mg "next_word" sNext fN fdN) (bN:Binds K fdN ["words"] []) (GN:FnOk P w K mg base CX0 1 fN fdN ["words"] spNext)
  (DM:Df K mg "number" sNumber fM fdM) (bM:Binds K fdM ["word","least","most"] []) (GM:FnOk P w K mg base (CXE P w) 2 fM fdM ["word","least","most"] (spNumber cD)) (h2:2≤k):FnOk P w K mg base (CXE P w) (k + 1) f fd ["words","depth"] (spRdTurn cD d):=by
 obtain ⟨tl,las⟩:=B.las
 refine fun_okX D.F scRdTurn (fun vs H Q E h=>?_) (fun cdv A outer s H vs Q E hr h=>?_)
 ·obtain ⟨wl,H0,j,r,rfl,_⟩:=h
  rfl
 ·obtain ⟨wl,H0,j,r,rfl,hw,hb,hj,S0,n0,z,zn⟩:=h
  have hr1:Room 1 _:=hr.mono (by omega)
  have hr2:Room 2 _:=hr.mono h2
  refine ⟨_,(pss_cons (ps_set (i:=2) scRdTurn.nd rfl (Or.inl rfl) (pec GM hr2 rfl DM.m DM.F.kp bM .nil passE (pac (pec GN hr1 rfl DN.m DN.F.kp bN .nil pass0 (pac (pv 0) pa_nil)) (pac (pe_int) (pac (pe_glob (v:=.int 7) rfl las ⟨_,rfl⟩) pa_nil)))))
   (pss_cons (ps_expr (pec GX hr2 rfl DX.m DX.F.kp bX .nil passE (pac (pv 0) (pac (pe_str) pa_nil))))
   (pss_one (ps_ret (pe_tup (pac (pe_str) (pac (pv 2) (pac (pec GI hr rfl DI.m DI.F.kp bI .nil passE (pac (pv 0) (pac (pv 1) pa_nil))) pa_nil)))))))),?_⟩
  have kx:("turn":Str)≠(")":Str):=by decide +kernel
  refine ⟨_,rfl,wl,r,rfl,hw,hd1 r,0,7,rfl,hd1_len hb.1,fun n en H1 S1=>?_,fun en H1 S1=>?_⟩
  ·obtain ⟨_,_,n1,n2⟩:=numO_some en
   have S01:Same H0 H1:=(same_updN S0 n0).trans S1
   have hw1:WL H1 wl r.tail:=S1 _ _ upd_same
   refine ⟨_,rfl,wl,H0,"(",r.tail,rfl,hw1,by decide +kernel,S01,n0,fun r2 er=>?_,fun hne H2 S2=>?_⟩
   ·have e2:hd1 r.tail="(":=by rw [er]; rfl
    have ed:r2=r.drop 2:=by
     rw [← tail2,er]
     rfl
    have eb:=bgn_turn en e2
    rw [← ed] at eb
    refine ⟨_,rfl,_,rfl,_,rfl,wl,H0,j,r2,rfl,upd_same,by rw [ed]; exact hb.drop 2,hj,same_updN S01 n0,n0,fun L xs u rest H2 R sf hu h8 i=>?_,fun i H2 S2=>zn (bad_inn kx smp_kw.2 eb i) _ S2⟩
    refine ⟨szr rfl,fun t nt=>?_⟩
    have en':((n.toNat:Nat):Int)=n:=Int.toNat_of_nonneg n1
    have sr:StrR H0 (upd H2 t (.tup [V.str "turn",.int n,.ref L])) wl t (.turn n.toNat u) rest:=R.close nt fun G e1 e2 e3=>.turn (by rw [en']; exact e1) e2 e3
    refine z t _ rest _ sr ⟨fun y hy=>?_,?_⟩ (adv_inn kx smp_kw.2 eb h8 i)
    ·have:=sf.1 y hy
     rw [ed] at this
     exact List.mem_cons_of_mem _ (List.mem_of_mem_drop this)
    ·have:=sf.2
     rw [ed,List.length_drop] at this
     show 1 + rest.length≤r.length + 1
     omega
   ·exact zn (bad_no kx smp_kw.2 (bgn_turn1 hne)) _ S2
  ·exact zn (bad_no kx smp_kw.2 (bgn_turn0 en)) _ ((same_updN S0 n0).trans S1)
theorem scRdTimes:FnScope ["word","words","depth","rounds"] ["word","words","depth"] (defScope sRdTimes):=⟨rfl,rfl,rfl,by decide +kernel,rfl,by decide +kernel,by decide +kernel⟩
theorem bgn_no {x:Str} {r:List Str} (h1:x≠"(") (h2:x≠"turn") (h:numO x 1 60=none):bgn x r=none:=by
 unfold bgn
 rw [if_neg h1,if_neg h2,h]
theorem bgn_no1 {x:Str} {r:List Str} (h1:x≠"(") (h2:x≠"turn") (h:hd1 r≠"times"):bgn x r=none:=by
 unfold bgn
 rw [if_neg h1,if_neg h2]
 cases numO x 1 60 with
 | none=>rfl
 | some k=>simp only; rw [if_neg h]
theorem bgn_no2 {x:Str} {r:List Str} (h1:x≠"(") (h2:x≠"turn") (h:hd1 r.tail≠"("):bgn x r=none:=by
 unfold bgn
 rw [if_neg h1,if_neg h2]
 cases numO x 1 60 with
 | none=>rfl
 | some k =>
  simp only
  rw [if_neg h]
  split <;> rfl
theorem bgn_times {x:Str} {r:List Str} {m:Int} (h1:x≠"(") (h2:x≠"turn") (h:numO x 1 60=some m) (h3:hd1 r="times") (h4:hd1 r.tail="("):bgn x r=some (.times m.toNat,r.drop 2):=by
 unfold bgn
 rw [if_neg h1,if_neg h2,h]
 simp only
 rw [if_pos h3,if_pos h4]
theorem ok_rdTimes {f fI fX fM:Addr} {fd fdI fdX fdM:FuncData} {d k:Nat} (D:Df K mg "read_times" sRdTimes f fd) (B:Blt mg) (DI:Df K mg "read_inner" sRdInner fI fdI) (bI:Binds K fdI ["words","depth"] []) (GI:FnOk P w K mg base (CXE P w) k fI fdI ["words","depth"] (spInner cD d))
  (DX:Df K mg "expect" sExpect fX fdX) (bX:Binds K fdX ["words","wanted"] []) (GX:FnOk P w K mg base (CXE P w) 2 fX fdX ["words","wanted"] (spExpect cD))
  (DM:Df K mg "number" sNumber fM fdM) (bM:Binds K fdM ["word","least","most"] []) (GM:FnOk P w K mg base (CXE P w) 2 fM fdM ["word","least","most"] (spNumber cD)) (h2:2≤k):FnOk P w K mg base (CXE P w) (k + 1) f fd ["word","words","depth"] (spRdTimes cD d):=by
 obtain ⟨tl,rou⟩:=B.rou
 refine fun_okX D.F scRdTimes (fun vs H Q E h=>?_) (fun cdv A outer s H vs Q E hr h=>?_)
 ·obtain ⟨wl,H0,j,x,r,rfl,_⟩:=h
  rfl
 ·obtain ⟨wl,H0,j,x,r,rfl,hw,hb,kx,k1,k2,ks,hj,S0,n0,z,zn⟩:=h
  have hr2:Room 2 _:=hr.mono h2
  refine ⟨_,(pss_cons (ps_set (i:=3) scRdTimes.nd rfl (Or.inl rfl) (pec GM hr2 rfl DM.m DM.F.kp bM .nil passE (pac (pv 0) (pac (pe_int) (pac (pe_glob (v:=.int 60) rfl rou ⟨_,rfl⟩) pa_nil)))))
   (pss_cons (ps_expr (pec GX hr2 rfl DX.m DX.F.kp bX .nil passE (pac (pv 1) (pac (pe_str) pa_nil))))
   (pss_cons (ps_expr (pec GX hr2 rfl DX.m DX.F.kp bX .nil passE (pac (pv 1) (pac (pe_str) pa_nil))))
   (pss_one (ps_ret (pe_tup (pac (pe_str) (pac (pv 3) (pac (pec GI hr rfl DI.m DI.F.kp bI .nil passE (pac (pv 1) (pac (pv 2) pa_nil))) pa_nil))))))))),?_⟩
  refine ⟨_,rfl,x,1,60,rfl,hb.1 x List.mem_cons_self,fun n en H1 S1=>?_,fun en H1 S1=>?_⟩
  ·obtain ⟨_,_,n1,n2⟩:=numO_some en
   have S01:Same H0 H1:=S0.trans S1
   have hw1:WL H1 wl r:=S1 _ _ hw
   refine ⟨_,rfl,wl,H0,"times",r,rfl,hw1,by decide +kernel,S01,n0,fun r1 er1=>?_,fun hne H2 S2=>zn (bad_no kx ks (bgn_no1 k1 k2 hne)) _ S2⟩
   have e1:hd1 r="times":=by rw [er1]; rfl
   have et:r.tail=r1:=by rw [er1]; rfl
   refine ⟨_,rfl,wl,H0,"(",r1,rfl,upd_same,by decide +kernel,same_updN S01 n0,n0,fun r2 er=>?_,fun hne H2 S2=>zn (bad_no kx ks (bgn_no2 k1 k2 (by rw [et]; exact hne))) _ S2⟩
   have e2:hd1 r.tail="(":=by rw [et,er]; rfl
   have ed:r2=r.drop 2:=by
    rw [← tail2,et,er]
    rfl
   have eb:=bgn_times k1 k2 en e1 e2
   rw [← ed] at eb
   have hbr:=hb.tail
   refine ⟨_,rfl,_,rfl,_,rfl,wl,H0,j,r2,rfl,upd_same,by rw [ed]; exact hbr.drop 2,hj,same_updN (same_updN S01 n0) n0,n0,fun L xs u rest H2 R sf hu h8 i=>?_,fun i H2 S2=>zn (bad_inn kx ks eb i) _ S2⟩
   refine ⟨szr rfl,fun t nt=>?_⟩
   have en':((n.toNat:Nat):Int)=n:=Int.toNat_of_nonneg (by omega)
   have sr:StrR H0 (upd H2 t (.tup [V.str "times",.int n,.ref L])) wl t (.times n.toNat u) rest:=R.close nt fun G e1 e2 e3=>.times (by rw [en']; exact e1) e2 e3
   refine z t _ rest _ sr ⟨fun y hy=>?_,?_⟩ (adv_inn kx ks eb h8 i)
   ·have:=sf.1 y hy
    rw [ed] at this
    exact List.mem_cons_of_mem _ (List.mem_of_mem_drop this)
   ·have:=sf.2
    rw [ed,List.length_drop] at this
    show 1 + rest.length≤r.length + 1
    omega
  ·exact zn (bad_no kx ks (bgn_no k1 k2 en)) _ (S0.trans S1)
end
end K22
namespace K22
open PySem PySem.Spec PyProof.Rows L2 BF PySem.SeqAt
seal L2.PE L2.PA L2.PS L2.PSs L2.PT L2.PW L2.PG L2.PGs L2.PI BF.PTs L2.PPs L2.PO
theorem smp_way {x:Str} {r:List Str} {p:Int×Int} (h:wayO x=some p):smp x r=some (.line false p.1 p.2,r):=by
 unfold smp
 rw [h]
theorem smp_line (r:List Str):smp "line" r=(rd2 true 9 r).map fun p=>(.line true p.1 p.2,r.drop 2):=by
 unfold smp
 rw [wayO_kw.1]
 simp only
 rw [if_pos trivial]
theorem smp_by (r:List Str):smp "by" r=(rd2 false 1000000000 r).map fun p=>(.by_ p.1 p.2,r.drop 2):=by
 unfold smp
 rw [wayO_kw.2.1]
 simp only
 rw [if_neg (by decide +kernel),if_pos trivial]
theorem smp_ink (r:List Str):smp "ink" r=if colB (.str (hd1 r))=true then some (.ink (hd1 r),r.tail) else none:=by
 unfold smp
 rw [wayO_kw.2.2.1]
 simp only
 rw [if_neg (by decide +kernel),if_neg (by decide +kernel),if_pos trivial]
theorem smp_no {x:Str} {r:List Str} (h0:wayO x=none) (h1:x≠"line") (h2:x≠"by") (h3:x≠"ink"):smp x r=none:=by
 unfold smp
 rw [h0]
 simp only
 rw [if_neg h1,if_neg h2,if_neg h3]
theorem alpha_no {x:Str} {lo hi:Int} (h:(x.cps.toList.head?).any (fun c=>decide (48≤c∧c≤57))=false) (h0:0≤lo):numO x lo hi=none:=by
 cases e:numO x lo hi with
 | none=>rfl
 | some n =>
  obtain ⟨e1,e2,e3,e4⟩:=numO_some e
  obtain ⟨m,rfl⟩:=Int.eq_ofNat_of_zero_le (show 0≤n by omega)
  exact absurd e1.symm (nT_alpha h)
theorem bgn_kw {x:Str} {r:List Str} (h:(x.cps.toList.head?).any (fun c=>decide (48≤c∧c≤57))=false) (h1:x≠"(") (h2:x≠"turn"):bgn x r=none:=bgn_no h1 h2 (alpha_no h (by decide))
section
variable {P:Program} {w:World} {K:PySem.W.Frag} {mg:Str→Option Value} {base:Heap} {cD:Addr}
theorem scRdStroke:FnScope ["words","depth","word","way"] ["words","depth"] (defScope sRdStroke):=⟨rfl,rfl,rfl,by decide +kernel,rfl,by decide +kernel,by decide +kernel⟩
theorem ok_rdStroke {f fN fL fB fK fI fT fM:Addr} {fd fdN fdL fdB fdK fdI fdT fdM:FuncData} {d k:Nat} (D:Df K mg "read_stroke" sRdStroke f fd) (W:Wy P w K mg)
  (DN:Df K mg "next_word" sNext fN fdN) (bN:Binds K fdN ["words"] []) (GN:FnOk P w K mg base CX0 1 fN fdN ["words"] spNext)
  (DL:Df K mg "read_line" sRdLine fL fdL) (bL:Binds K fdL ["words"] []) (GL:FnOk P w K mg base (CXE P w) 3 fL fdL ["words"] (spRd2 cD "line" 9 true))
  (DB:Df K mg "read_by" sRdBy fB fdB) (bB:Binds K fdB ["words"] []) (GB:FnOk P w K mg base (CXE P w) 3 fB fdB ["words"] (spRd2 cD "by" 1000000000 false))
  (DK:Df K mg "read_ink" sRdInk fK fdK) (bK:Binds K fdK ["words"] []) (GK:FnOk P w K mg base (CXE P w) 2 fK fdK ["words"] (spRdInk cD))
  (DI:Df K mg "read_inner" sRdInner fI fdI) (bI:Binds K fdI ["words","depth"] []) (GI:FnOk P w K mg base (CXE P w) k fI fdI ["words","depth"] (spInner cD d))
  (DT:Df K mg "read_turn" sRdTurn fT fdT) (bT:Binds K fdT ["words","depth"] []) (GT:FnOk P w K mg base (CXE P w) (k + 1) fT fdT ["words","depth"] (spRdTurn cD d))
  (DM:Df K mg "read_times" sRdTimes fM fdM) (bM:Binds K fdM ["word","words","depth"] []) (GM:FnOk P w K mg base (CXE P w) (k + 1) fM fdM ["word","words","depth"] (spRdTimes cD d)) (h3:3≤k):FnOk P w K mg base (CXE P w) (k + 1 + 1) f fd ["words","depth"] (spStroke cD d):=by
 obtain ⟨dW,fW,mW,TW,sW⟩:=W
 refine fun_okX D.F scRdStroke (fun vs H Q E h=>?_) (fun cdv A outer s H vs Q E hr h=>?_)
 ·obtain ⟨wl,H0,j,x,r,rfl,_⟩:=h
  rfl
 ·obtain ⟨wl,H0,j,x,r,rfl,hw,hb,kx,hj,S0,n0,z,zn⟩:=h
  have hr1:Room 1 _:=hr.mono (by omega)
  have hr2:Room 2 _:=hr.mono (by omega)
  have hr3:Room 3 _:=hr.mono (by omega)
  have hrk:Room k _:=hr.mono (by omega)
  refine ⟨_,(pss_cons (ps_set (i:=2) scRdStroke.nd rfl (Or.inl rfl) (pec GN hr1 rfl DN.m DN.F.kp bN .nil pass0 (pac (pv 0) pa_nil)))
   (pss_cons (ps_if (pt_cmpR (op_inTD TW) (pv 2) (pe_glob (v:=.ref dW) rfl mW rfl) rfl) (pss_cons (ps_set (i:=3) scRdStroke.nd rfl (Or.inl rfl) (pe_dgetT TW (pe_glob (v:=.ref dW) rfl mW rfl) (pv 2) (fun _ _=>rfl)))
   (pss_one (ps_ret (pe_tup (pac (pe_str) (pac (pe_ix ix_tup (pv 3) pe_int (fun _ _=>rfl)) (pac (pe_ix ix_tup (pv 3) pe_int (fun _ _=>rfl)) pa_nil))))))) pss_nil)
   (pss_cons (ps_if (pt_cmpR op_eq (pv 2) pe_str (nomark _)) (pss_one (ps_ret (pec GL hr3 rfl DL.m DL.F.kp bL .nil passE (pac (pv 0) pa_nil)))) pss_nil)
   (pss_cons (ps_if (pt_cmpR op_eq (pv 2) pe_str (nomark _)) (pss_one (ps_ret (pec GB hr3 rfl DB.m DB.F.kp bB .nil passE (pac (pv 0) pa_nil)))) pss_nil)
   (pss_cons (ps_if (pt_cmpR op_eq (pv 2) pe_str (nomark _)) (pss_one (ps_ret (pec GK hr2 rfl DK.m DK.F.kp bK .nil passE (pac (pv 0) pa_nil)))) pss_nil)
   (pss_cons (ps_if (pt_cmpR op_eq (pv 2) pe_str (nomark _)) (pss_one (ps_ret (pe_tup (pac (pe_str) (pac (pec GI hrk rfl DI.m DI.F.kp bI .nil passE (pac (pv 0) (pac (pv 1) pa_nil))) pa_nil))))) pss_nil)
   (pss_cons (ps_if (pt_cmpR op_eq (pv 2) pe_str (nomark _)) (pss_one (ps_ret (pec GT hr rfl DT.m DT.F.kp bT .nil passE (pac (pv 0) (pac (pv 1) pa_nil))))) pss_nil)
   (pss_one (ps_ret (pec GM hr rfl DM.m DM.F.kp bM .nil passE (pac (pv 2) (pac (pv 0) (pac (pv 1) pa_nil))))))))))))),?_⟩
  have hbr:=hb.tail
  refine' laterS (fun σ H1=>σ=[some (.ref wl),some (.int (j:Int)),some (.str x),none]∧Same H0 H1∧WL H1 wl r) (fun fin=>_) _
  rotate_left
  ·exact ⟨_,rfl,wl,x :: r,rfl,hw,fin _ _ ⟨rfl,same_updN S0 n0,upd_same⟩⟩
  rintro σ H1 ⟨rfl,S1,hw1⟩
  cases ew:wayO x with
  | some p =>
   have hm:=wayO_some ew
   have va:=way_at fW _ hm
   refine ⟨_,rfl,Sum.inr x,rfl,rfl,_,rfl,ifB_pos (by rw [va]; rfl) ?_⟩
   have hq:=sW _ hm H1
   refine ⟨_,rfl,Sum.inr x,_,rfl,rfl,va,_,rfl,_,_,_,_,rfl,rfl,hq,rfl,_,rfl,_,_,_,_,rfl,rfl,hq,rfl,szr rfl,fun t nt=>?_⟩
   have T:=same_upd (o:=HO.tup [V.str "line",.int p.1,.int p.2]) nt
   exact z t (.line false p.1 p.2) r _ (StrR.flat (S1.trans T) (T _ _ hw1) (none_same S1 nt) (fun e=>by rw [e,show H1 wl=_ from hw1] at nt; cases nt) upd_same fun G e=>.line e) (drop_sf 0) (adv_smp kx (smp_way ew))
  | none =>
   refine ⟨_,rfl,Sum.inr x,rfl,rfl,_,rfl,ifB_neg (by rw [way_no fW (wayO_none ew)]; rfl) ?_⟩
   refine ⟨_,rfl,rfl,_,rfl,?_⟩
   by_cases k1:x="line"
   ·subst k1
    refine ifB_pos (decide_eq_true rfl) ?_
    refine ⟨_,rfl,wl,H0,r,rfl,hw1,hbr.1,S1,n0,fun a b t H2 e S2 w2 nt tw et=>?_,fun e H2 S2=>zn (bad_no kx (by rw [smp_line,e]; rfl) (bgn_kw rfl (by decide +kernel) (by decide +kernel))) _ S2⟩
    exact z t (.line true a b) _ _ (StrR.flat S2 w2 nt tw et fun G e=>.line e) (drop_sf 2) (adv_smp kx (by rw [smp_line,e]; rfl))
   refine ifB_neg (decide_eq_false fun e=>k1 (by injection e)) ?_
   refine ⟨_,rfl,rfl,_,rfl,?_⟩
   by_cases k2:x="by"
   ·subst k2
    refine ifB_pos (decide_eq_true rfl) ?_
    refine ⟨_,rfl,wl,H0,r,rfl,hw1,hbr.1,S1,n0,fun a b t H2 e S2 w2 nt tw et=>?_,fun e H2 S2=>zn (bad_no kx (by rw [smp_by,e]; rfl) (bgn_kw rfl (by decide +kernel) (by decide +kernel))) _ S2⟩
    exact z t (.by_ a b) _ _ (StrR.flat S2 w2 nt tw et fun G e=>.by_ e) (drop_sf 2) (adv_smp kx (by rw [smp_by,e]; rfl))
   refine ifB_neg (decide_eq_false fun e=>k2 (by injection e)) ?_
   refine ⟨_,rfl,rfl,_,rfl,?_⟩
   by_cases k3:x="ink"
   ·subst k3
    refine ifB_pos (decide_eq_true rfl) ?_
    refine ⟨_,rfl,wl,H0,r,rfl,hw1,hbr.1,S1,n0,fun t H2 e S2 w2 nt tw et=>?_,fun e H2 S2=>zn (bad_no kx (by rw [smp_ink,e]; rfl) (bgn_kw rfl (by decide +kernel) (by decide +kernel))) _ S2⟩
    have sf:Sf [Sk.ink (hd1 r)] r.tail (("ink":Str) :: r):=by
     have:=drop_sf (x:="ink") (r:=r) (s:=Sk.ink (hd1 r)) 1
     rw [List.drop_one] at this
     exact this
    exact z t (.ink (hd1 r)) _ _ (StrR.flat S2 w2 nt tw et fun G e=>.ink e) sf (adv_smp kx (by rw [smp_ink,e]; rfl))
   refine ifB_neg (decide_eq_false fun e=>k3 (by injection e)) ?_
   have ks:smp x r=none:=smp_no ew k1 k2 k3
   refine ⟨_,rfl,rfl,_,rfl,?_⟩
   by_cases k4:x="("
   ·subst k4
    refine ifB_pos (decide_eq_true rfl) ?_
    have eb:bgn "(" r=some (.back,r):=by unfold bgn; rw [if_pos rfl]
    refine ⟨_,rfl,_,rfl,wl,H0,j,r,rfl,hw1,hbr,hj,S1,n0,fun L xs u rest H2 R sf hu h8 i=>?_,fun i H2 S2=>zn (bad_inn kx ks eb i) _ S2⟩
    refine ⟨szr rfl,fun t nt=>?_⟩
    refine z t (.back u) rest _ (R.close nt fun G e1 e2 e3=>.back e1 e2 e3) ⟨fun y hy=>List.mem_cons_of_mem _ (sf.1 y hy),?_⟩ (adv_inn kx ks eb h8 i)
    have:=sf.2
    show 1 + rest.length≤r.length + 1
    omega
   refine ifB_neg (decide_eq_false fun e=>k4 (by injection e)) ?_
   refine ⟨_,rfl,rfl,_,rfl,?_⟩
   by_cases k5:x="turn"
   ·subst k5
    refine ifB_pos (decide_eq_true rfl) ?_
    exact ⟨_,rfl,_,rfl,wl,H0,j,r,rfl,hw1,hbr,hj,S1,n0,z,zn⟩
   refine ifB_neg (decide_eq_false fun e=>k5 (by injection e)) ?_
   exact ⟨_,rfl,_,rfl,_,rfl,wl,H0,j,x,r,rfl,hw1,hb,kx,k4,k5,ks,hj,S1,n0,z,zn⟩
end
section
variable {P:Program} {w:World} {K:PySem.W.Frag} {mg:Str→Option Value} {base:Heap} {cD:Addr}
theorem scRdRow:FnScope ["words","depth","strokes"] ["words","depth"] (defScope sRdRow):=⟨rfl,rfl,rfl,by decide +kernel,rfl,by decide +kernel,by decide +kernel⟩
theorem ok_rdRow {f fS:Addr} {fd fdS:FuncData} {d k:Nat} (D:Df K mg "read_row" sRdRow f fd)
  (DS:Df K mg "read_stroke" sRdStroke fS fdS) (bS:Binds K fdS ["words","depth"] []) (GS:FnOk P w K mg base (CXE P w) k fS fdS ["words","depth"] (spStroke cD d)):FnOk P w K mg base (CXE P w) (k + 1) f fd ["words","depth"] (spRow cD (d + 1)):=by
 refine fun_okX D.F scRdRow (fun vs H Q E h=>?_) (fun cdv A outer s H vs Q E hr h=>?_)
 ·obtain ⟨wl,H0,j,ws,rfl,_⟩:=h
  rfl
 ·obtain ⟨wl,H0,j,ws,rfl,hw,hb,⟨e,he,hj⟩,S0,n0,z,zn⟩:=h
  obtain rfl:d=e:=by omega
  refine ⟨_,(pss_cons (ps_set (i:=2) scRdRow.nd rfl (Or.inl rfl) (pe_lst pa_nil))
   (pss_cons (ps_while PassesOwn.leaving (PW.pt (pw_and (pt_truth (pv 0) (fun _=>rfl)) (pw_and1 (pt_cmpR op_ne (pe_ix ix_list (pv 0) (pe_un un_neg pe_int) (fun _ _=>rfl)) pe_str (nomark _))))) (pss_one (ps_expr (pe_bm PySem.F.plainAttrs_list PySem.F.slot_list_append PySem.F.type_list_append mt_append (pv 2) (pac (pec GS hr rfl DS.m DS.F.kp bS .nil passE (pac (pv 0) (pac (pv 1) pa_nil))) pa_nil)))))
   (pss_one (ps_ret (pv 2))))),?_⟩
  refine ⟨szr rfl,fun L nL=>?_⟩
  have T:=same_upd (o:=HO.lst []) nL
  have R0:RowR H0 (upd H L (.lst [])) wl L [] [] ws:=⟨S0.trans T,T _ _ hw,none_same S0 nL,(fun e=>by rw [e,show H wl=_ from hw] at nL; cases nL),upd_same,.nil⟩
  refine ⟨fun m σ H1=>∃ (u:List Sk) (rest:List Str) (xs:List V),m=rest.length∧σ=[some (.ref wl),some (.int (j:Int)),some (.ref L)]∧RowR H0 H1 wl L xs u rest∧Sf u rest ws∧Adv j ws u rest,⟨_,[],ws,[],rfl,rfl,R0,⟨fun y hy=>hy,by show 0 + _≤_; omega⟩,fun h l S o _ t=>by rw [List.append_nil] at t; exact t⟩,?_⟩
  rintro m σ H1 ⟨u,rest,xs,rfl,rfl,R,sf,a⟩
  cases rest with
  | nil=>exact ⟨_,rfl,false,.inl ⟨_,SqL.of R.hw,rfl⟩,iteF (iteF ⟨_,rfl,z L xs u [] H1 R sf (.inl rfl) a⟩)⟩
  | cons x r =>
   have h1:H1 wl=some (.lst (r.reverse.map V.str ++ [V.str x])):=by rw [← wv_cons]; exact R.hw
   refine ⟨_,rfl,true,.inl ⟨_,SqL.of h1,by simp⟩,iteT ⟨_,rfl,_,rfl,wl,_,_,_,rfl,rfl,SqL.of h1,atI_last _ _,rfl,_,rfl,?_⟩⟩
   by_cases kx:x=")"
   ·subst kx
    exact ifB_neg (by simp) ⟨_,rfl,z L xs u _ H1 R sf (.inr ⟨r,rfl⟩) a⟩
   refine ifB_pos ?_ ?_
   ·show (!decide (V.str x=V.str (")":Str)))=true
    rw [decide_eq_false (fun z=>kx (by injection z))]
    rfl
   refine ⟨_,fun _ _ h=>h,?_⟩
   have hb2:=hb.sf sf
   refine ⟨_,rfl,.inl ⟨rfl,_,SqL.of R.el⟩,_,rfl,_,rfl,wl,w1 H1 wl,j,x,r,rfl,R.hw,hb2,kx,hj,w1_same,w1_no,fun t st rest' H2 g sf' a'=>?_,fun b H2 S2=>?_⟩
   ·have hL2:H2 L=some (.lst xs):=g.same _ _ (w1_at R.el R.ne)
    refine ⟨L,xs,_,rfl,rfl,hL2,?_,?_⟩
    ·have c1:=R.sk.length
     have c2:=sf.2
     have c3:=hb.2
     rw [sizeLine_eq]
     omega
    ·have c2:=sf.2
     have c4:=sf'.2
     rw [List.length_cons] at c2
     have c5:1 + rest'.length≤r.length + 1:=c4
     refine ⟨rest'.length,by rw [List.length_cons]; omega,u ++ [st],rest',_,rfl,rfl,R.push n0 g,⟨fun y hy=>sf.1 y (sf'.1 y hy),?_⟩,a.trans a'⟩
     rw [List.length_append]
     show u.length + 1 + _≤_
     omega
   ·exact zn (a.bad b) _ (fun c o e=>S2 _ _ (w1_at (R.same _ _ e) (fun z=>by rw [z,n0] at e; cases e)))
theorem rows {fR fS fI fT fM fX fN fU fL fB fK:Addr} {fdR fdS fdI fdT fdM fdX fdN fdU fdL fdB fdK:FuncData} (B:Blt mg) (W:Wy P w K mg) (mD:mg "NoDrawing"=some (.ref cD)) (qD:excO K cD)
  (DR:Df K mg "read_row" sRdRow fR fdR) (bR:Binds K fdR ["words","depth"] []) (DS:Df K mg "read_stroke" sRdStroke fS fdS) (bS:Binds K fdS ["words","depth"] [])
  (DI:Df K mg "read_inner" sRdInner fI fdI) (bI:Binds K fdI ["words","depth"] []) (DT:Df K mg "read_turn" sRdTurn fT fdT) (bT:Binds K fdT ["words","depth"] [])
  (DM:Df K mg "read_times" sRdTimes fM fdM) (bM:Binds K fdM ["word","words","depth"] [])
  (DX:Df K mg "expect" sExpect fX fdX) (bX:Binds K fdX ["words","wanted"] []) (GX:FnOk P w K mg base (CXE P w) 2 fX fdX ["words","wanted"] (spExpect cD))
  (DN:Df K mg "next_word" sNext fN fdN) (bN:Binds K fdN ["words"] []) (GN:FnOk P w K mg base CX0 1 fN fdN ["words"] spNext)
  (DU:Df K mg "number" sNumber fU fdU) (bU:Binds K fdU ["word","least","most"] []) (GU:FnOk P w K mg base (CXE P w) 2 fU fdU ["word","least","most"] (spNumber cD))
  (DL:Df K mg "read_line" sRdLine fL fdL) (bL:Binds K fdL ["words"] []) (GL:FnOk P w K mg base (CXE P w) 3 fL fdL ["words"] (spRd2 cD "line" 9 true))
  (DB:Df K mg "read_by" sRdBy fB fdB) (bB:Binds K fdB ["words"] []) (GB:FnOk P w K mg base (CXE P w) 3 fB fdB ["words"] (spRd2 cD "by" 1000000000 false))
  (DK:Df K mg "read_ink" sRdInk fK fdK) (bK:Binds K fdK ["words"] []) (GK:FnOk P w K mg base (CXE P w) 2 fK fdK ["words"] (spRdInk cD)):∀ d:Nat,FnOk P w K mg base (CXE P w) (3 + 4 * d) fR fdR ["words","depth"] (spRow cD d)
 | 0=>ok_row0
 | d + 1=>by
  have ih:=rows B W mD qD DR bR DS bS DI bI DT bT DM bM DX bX GX DN bN GN DU bU GU DL bL GL DB bB GB DK bK GK d
  have GI:=ok_rdInner (k:=3 + 4 * d) DI B mD qD DR bR ih DX bX GX (by omega)
  have GT:=ok_rdTurn (k:=3 + 4 * d + 1) DT B DI bI GI DX bX GX DN bN GN DU bU GU (by omega)
  have GM:=ok_rdTimes (k:=3 + 4 * d + 1) DM B DI bI GI DX bX GX DU bU GU (by omega)
  exact ok_rdRow (k:=3 + 4 * d + 1 + 1 + 1) DR DS bS (ok_rdStroke (k:=3 + 4 * d + 1) DS W DN bN GN DL bL GL DB bB GB DK bK GK DI bI GI DT bT GT DM bM GM (by omega))
end
def wsO (z:Str):List Str:=if z.length=0 then [] else Txt.split z blank
theorem mem_cat:∀ {l:List (List Nat)} {x:List Nat},x∈l→x.length≤(cat l).length
 | [y],x,h=>by rw [List.mem_singleton.mp h]; exact Nat.le_refl _
 | y :: y' :: r,x,h=>by
  rw [cat_cons,List.length_append,List.length_cons]
  rcases List.mem_cons.mp h with rfl | h
  ·omega
  ·have:=mem_cat h
   omega
theorem part_le (z:Str):∀ x∈Txt.split z blank,x.length≤z.length:=fun x hx=>by
 have e:Str.join blank (Txt.split z blank)=z:=StrLaws.join_split _ _
 have h:=mem_cat (List.mem_map_of_mem (f:=fun y:Str=>y.cps.toList) hx)
 rw [← join_cps,e] at h
 rw [Array.length_toList,Array.length_toList] at h
 exact h
theorem wsO_bd {z:Str} (h:z.length≤2000):Bd (wsO z):=by
 unfold wsO
 split
 ·exact ⟨fun y hy=>by simp at hy,Nat.zero_le _⟩
 ·exact ⟨fun y hy=>Nat.le_trans (part_le z y hy) (by omega),by have:=split_le z blank; omega⟩
abbrev S0:List (Hd×List Sk):=[(.no,[])]
def Ref (u:V):Prop:=match u with
 | .str z=>2000 < z.length∨Run S0 (wsO z) none
 | _=>True
section
variable {P:Program} {w:World} {K:PySem.W.Frag} {mg:Str→Option Value} {base:Heap} {cD:Addr}
def spRead (cD:Addr):Sp:=fun vs H Q E=>∃ (u:V) (k:Kn),vs=[u]∧Knd H u k∧(∀ z,u=.str z→z.length≤3000)∧(Ref u→∀ H',Same H H'→E (.ref cD) none H')∧(∀ z L xs uu H',u=.str z→z.length≤2000→Run S0 (wsO z) (some uu)→Same H H'→H L=none→H' L=some (.lst xs)→SksIs (fr H H' [L]) xs uu→Q (.ref L) H')
theorem scRead:FnScope ["text","words","strokes"] ["text"] (defScope sRead):=⟨rfl,rfl,rfl,by decide +kernel,rfl,by decide +kernel,by decide +kernel⟩
theorem ok_read {f fR:Addr} {fd fdR:FuncData} {k:Nat} (D:Df K mg "read" sRead f fd) (B:Blt mg) (mD:mg "NoDrawing"=some (.ref cD)) (qD:excO K cD) (DR:Df K mg "read_row" sRdRow fR fdR) (bR:Binds K fdR ["words","depth"] []) (GR:FnOk P w K mg base (CXE P w) k fR fdR ["words","depth"] (spRow cD 9)):FnOk P w K mg base (CXE P w) (k + 1) f fd ["text"] (spRead cD):=by
 obtain ⟨tm,sig⟩:=B.sig
 refine fun_okX D.F scRead (fun vs H Q E h=>?_) (fun cdv A outer s H vs Q E hr h=>?_)
 ·obtain ⟨u,k,rfl,_⟩:=h
  rfl
 ·obtain ⟨u,k,rfl,kd,hz,zn,zq⟩:=h
  refine ⟨_,(pss_cons (ps_if (PW.pt (pw_or (pt_not (pt_val (pe_callB call_isi (by rfl) B.isi boot_isinstance (pac (pv 0) (pac (pe_bltn (v:=.ty "str") (by rfl) B.str boot_str rfl) pa_nil))))) (pw_or1 (pt_cmpR op_gt (pe_callB call_len_str (by rfl) B.len PySem.boot_len (pac (pv 0) pa_nil)) (pe_glob (v:=.int 2000) rfl sig ⟨_,rfl⟩) (nomark _))))) (pss_one (ps_raise rfl mD hr.hd qD pe_str)) pss_nil)
   (pss_cons (ps_set (i:=1) scRead.nd rfl (Or.inl rfl) (pe_ifExp (pt_truth (pv 0) (fun _=>rfl)) (pe_listRev rfl (by rfl) B.list (by rfl) B.rev (pac (pe_bm PySem.F.plainAttrs_str PySem.F.slot_str_split PySem.F.type_str_split mt_split (pv 0) (pac (pe_str) pa_nil)) pa_nil)) (pe_lst pa_nil)))
   (pss_cons (ps_set (i:=2) scRead.nd rfl (Or.inl rfl) (pec GR hr rfl DR.m DR.F.kp bR .nil passE (pac (pv 1) (pac (pe_int) pa_nil))))
   (pss_cons (ps_if (pt_truth (pv 1) (fun _=>rfl)) (pss_one (ps_raise rfl mD hr.hd qD pe_str)) pss_nil)
   (pss_one (ps_ret (pv 2))))))),?_⟩
  refine ⟨_,rfl,u,k,.str,rfl,kd,_,rfl,?_⟩
  cases kd with
  | str z =>
   have hz3:=hz z rfl
   have hl3:z.length≤sizeLine:=by rw [sizeLine_eq]; omega
   refine iteF ⟨_,rfl,_,rfl,hl3,_,_,rfl,rfl,_,rfl,?_⟩
   by_cases h2:(z.length:Int) > 2000
   ·exact ifD_pos h2 (zn (.inl (by omega)) _ (Same.refl H))
   refine ifD_neg h2 ?_
   have hz2:z.length≤2000:=by omega
   refine' laterS (fun σ H1=>∃ wl,σ=[some (.str z),some (.ref wl),none]∧H wl=none∧Same H H1∧WL H1 wl (wsO z)) (fun fin=>_) _
   rotate_left
   ·by_cases hu:z.length=0
    ·refine ⟨_,rfl,false,⟨hl3,by rw [hu]; rfl⟩,iteF ⟨szr rfl,fun p np=>fin _ _ ⟨p,rfl,np,same_upd np,?_⟩⟩⟩
     unfold wsO
     rw [if_pos hu]
     exact upd_same
    ·refine ⟨_,rfl,true,⟨hl3,?_⟩,iteT ⟨_,rfl,rfl,z,blank,rfl,rfl,rfl,by omega,fun p np=>?_⟩⟩
     ·symm
      simp only [bne_iff_ne,ne_eq]
      omega
     ·have T1:=same_upd (o:=HO.lst ((Txt.split z blank).map V.str)) np
      refine ⟨p,_,rfl,SqL.of upd_same,fun q nq=>fin _ _ ⟨q,rfl,none_same T1 nq,T1.trans (same_upd nq),?_⟩⟩
      show (upd _ q _) q=some (.lst ((wsO z).reverse.map V.str))
      unfold wsO
      rw [upd_same,if_neg hu,List.map_reverse]
   rintro σ H1 ⟨wl,rfl,nw,S1,hw⟩
   refine ⟨_,rfl,wl,H,0,wsO z,rfl,hw,wsO_bd hz2,⟨8,rfl,rfl⟩,S1,nw,fun L xs uu rest H2 R sf hrest a=>?_,fun b H2 S2=>zn (.inr (b .no [] [] rfl)) _ S2⟩
   rcases hrest with rfl | ⟨r,rfl⟩
   ·refine ⟨_,rfl,false,.inl ⟨_,SqL.of R.hw,rfl⟩,iteF ⟨_,rfl,zq z L xs uu H2 rfl hz2 ?_ R.same R.nl R.el (R.sk.same (fr_to fun c o x y e=>⟨x,fun q=>y (by simp only [List.mem_singleton] at q; simp [q]),e⟩))⟩⟩
    exact a .no [] [] _ rfl .end1
   ·refine ⟨_,rfl,true,.inl ⟨_,SqL.of R.hw,?_⟩,iteT (zn (.inr ?_) _ R.same)⟩
    ·simp [wv]
    ·exact a .no [] [] _ rfl (.bad (by unfold stp; rw [if_pos rfl]))
  | int i=>exact iteT (zn True.intro _ (Same.refl H))
  | bl b=>exact iteT (zn True.intro _ (Same.refl H))
  | non=>exact iteT (zn True.intro _ (Same.refl H))
  | lst e=>exact iteT (zn True.intro _ (Same.refl H))
  | tup e=>exact iteT (zn True.intro _ (Same.refl H))
  | dic e=>exact iteT (zn True.intro _ (Same.refl H))
end
end K22
namespace K22
open PySem PySem.Spec PyProof.Rows L2 BF PySem.SeqAt PySem.NumText
seal L2.PE L2.PA L2.PS L2.PSs L2.PT L2.PW L2.PG L2.PGs L2.PI BF.PTs L2.PPs L2.PO
theorem op_neN {X:Cx} {k:Nat} (hr:Room k X.A):OpR X (compareOp .NotEq) (fun x y H Q=>∃ (a b:Addr) (xs:List V),x=.ref a∧y=.ref b∧SqL X.K H a xs∧SqL X.K H b []∧Q (.bl (!xs.isEmpty)) H):=by
 intro pins s σ H x y v u Q I rx ry h
 obtain ⟨a,b,xs,rfl,rfl,hx,hy,q⟩:=h
 have hu:=hr.units
 cases rx
 cases ry
 obtain ⟨its,rv,p,_⟩:=I.list hx
 obtain ⟨its',rv',p',_⟩:=I.list hy
 have n1:its.length=xs.length:=rv.length.symm
 have n2:its'.length=0:=rv'.length.symm
 have fin:∀ c,c=(!xs.isEmpty)→RcNeAt X.A s (.ref a) (.ref b) c→wpAny (model X.prog X.w) X.A (richCompare .NotEq (.ref a) (.ref b)) (EP X pins σ Q) X.xe s:=fun c hc R=>by
  subst hc
  exact R X.prog X.w X.xe _ ⟨.bl _,H,I,rfl,q⟩
 cases xs with
 | nil =>
  have R:=RcNeAt.lists (A:=X.A) (s:=s) (e:=fun _=>true) p.isList p'.isList (by rw [List.size_toArray,List.size_toArray,n1,n2]; rfl) (by omega) (fun j j1 j2=>by
   have:j < its.length:=by simpa using j1
   rw [n1] at this
   exact absurd this (Nat.not_lt_zero _))
  exact fin _ (by simp) R
 | cons v0 xs0 =>
  exact fin true rfl (RcNeAt.lists_lengths p.isList p'.isList (by rw [List.size_toArray,List.size_toArray,n1,n2]; simp) (by omega))
theorem in_digits (c:Nat):(!(Builtin.Str.occurrences (Str.ofString "0123456789") ⟨#[c]⟩ 0 (Str.ofString "0123456789").length 1).isEmpty)=dig c:=by
 rw [StrLaws.found_one]
 have e:(Str.ofString "0123456789").cps.toList=[48,49,50,51,52,53,54,55,56,57]:=rfl
 rw [e]
 unfold dig
 by_cases h:48≤c∧c≤57
 ·rw [decide_eq_true h.1,decide_eq_true h.2]
  have:c=48∨c=49∨c=50∨c=51∨c=52∨c=53∨c=54∨c=55∨c=56∨c=57:=by omega
  rcases this with rfl | rfl | rfl | rfl | rfl | rfl | rfl | rfl | rfl | rfl <;> rfl
 ·rw [decide_eq_false (fun z=>?_)]
  ·by_cases h1:48≤c
   ·rw [decide_eq_true h1,decide_eq_false (fun z=>h ⟨h1,z⟩)]; rfl
   ·rw [decide_eq_false h1]; rfl
  ·simp only [List.mem_cons,List.not_mem_nil,or_false] at z
   omega
theorem slice0 (x:Str):Txt.slice x (some 0) none=x:=by
 rw [slice_from_eq (x:=x) (i:=0) (b:=(x.length:Int)) (by decide) (by omega) rfl]
 show (⟨((x.cps.toList.drop 0).take ((x.length:Int) - 0).toNat).toArray⟩:Str)=x
 rw [List.drop_zero,List.take_of_length_le (by rw [len_cpsL]; omega)]
theorem first_min (x:Str):decide (V.str (Txt.slice x none (some 1))=V.str "-")=isMin x:=by
 have hs:(Txt.slice x none (some 1)).cps.toList=x.cps.toList.take 1:=by
  have:=slice_to_min_closes (x:=x) (n:=1) (m:=if (x.length:Int) < 1 then (x.length:Int) else 1) (by decide) rfl
  rw [beq_iff_eq] at this
  rw [this]
  show (x.cps.toList.drop 0).take _=_
  rw [List.drop_zero]
  by_cases h:(x.length:Int) < 1
  ·rw [if_pos h,List.take_of_length_le (by rw [len_cpsL]; omega),List.take_of_length_le (by rw [len_cpsL]; omega)]
  ·rw [if_neg h]
   rfl
 rcases min_cases x with ⟨cs,e⟩ | e
 ·rw [(fgs_min e).2,decide_eq_true]
  have:Txt.slice x none (some 1)="-":=str_inj (by rw [hs,e]; rfl)
  rw [this]
 ·rw [(fgs_no e).2,decide_eq_false]
  intro z
  injection z with z
  rw [z] at hs
  have hs':[45]=x.cps.toList.take 1:=hs
  cases hx:x.cps.toList with
  | nil=>rw [hx] at hs'; cases hs'
  | cons c r =>
   rw [hx] at hs'
   injection hs' with h1 h2
   exact e r (by rw [hx,← h1])
theorem sl_fig (x:Str):Txt.slice x (some (if isMin x=true then 1 else 0)) none=fgS x:=by
 cases hm:isMin x with
 | true=>exact fgS_min hm
 | false=>exact (slice0 x).trans (fgS_no hm).symm
def optV:Option Int→V
 | some n=>.int n
 | none=>.non
theorem good_int {x:Str} (ha:(fgs x).all dig=true) (h1:1≤(fgs x).length) (h10:(fgs x).length≤10):x.length≤11∧∃ v,PySem.intText? x=some v∧v.natAbs < 10 ^ 10:=by
 have a:AllDigits (fgs x):=fun c hc=>dig_iff.mp (List.all_eq_true.mp ha c hc)
 have v:=val_lt _ _ rfl a
 have p:10 ^ (fgs x).length≤10 ^ 10:=Nat.pow_le_pow_right (by decide) h10
 have ne:fgs x≠[]:=fun z=>by rw [z] at h1; exact absurd h1 (by decide)
 rcases min_cases x with ⟨cs,e⟩ | e
 ·have ef:=(fgs_min e).1
  rw [ef] at a v p ne h10 h1
  have hl:x.length=cs.length + 1:=by rw [← len_cpsL,e,List.length_cons]
  exact ⟨by omega,_,intText_neg e a ne (by omega),by omega⟩
 ·have ef:=(fgs_no e).1
  rw [ef] at a v p ne h10 h1
  rw [len_cpsL] at h10
  exact ⟨by omega,_,intText_digits a ne (by omega),by omega⟩
theorem numO_ev {x:Str} {v lo hi:Int} (h:PySem.intText? x=some v) (hv:v.natAbs < 10 ^ 10):numO x lo hi=if nT v=x∧lo≤v∧v≤hi then some v else none:=by
 unfold numO
 rw [h]
 simp only
 by_cases c:nT v=x∧lo≤v∧v≤hi
 ·rw [if_pos c,if_pos (by rw [decide_eq_true c.1,decide_eq_true hv,decide_eq_true c.2.1,decide_eq_true c.2.2]; rfl)]
 ·rw [if_neg c,if_neg]
  intro z
  simp only [Bool.and_eq_true,decide_eq_true_eq] at z
  exact c ⟨z.1.1.1,z.1.2,z.2⟩
section
variable {P:Program} {w:World} {K:PySem.W.Frag} {mg:Str→Option Value} {base:Heap}
def spWhole:Sp:=fun vs H Q _=>∃ (x:Str) (lo hi:Int),vs=[.str x,.int lo,.int hi]∧x.length≤2500∧∀ H',Same H H'→Q (optV (numO x lo hi)) H'
theorem scWhole:FnScope ["_law_word_here","_law_low","_law_high","_law_figures"] ["_law_word_here","_law_low","_law_high"] (defScope sWholeIn):=⟨rfl,rfl,rfl,by decide +kernel,rfl,by decide +kernel,by decide +kernel⟩
theorem ok_whole {f:Addr} {fd:FuncData} (D:Df K mg "_law_whole_in" sWholeIn f fd) (B:Blt mg):FnOk P w K mg base CX0 1 f fd ["_law_word_here","_law_low","_law_high"] spWhole:=by
 refine D.F.ok scWhole (fun vs H Q E h=>?_) (fun cdv A outer s H vs Q E hr h=>?_)
 ·obtain ⟨x,lo,hi,rfl,_⟩:=h
  rfl
 ·obtain ⟨x,lo,hi,rfl,hx,z⟩:=h
  refine ⟨_,(pss_cons (ps_set (i:=3) scWhole.nd rfl (Or.inl rfl) (pe_slice sl_str (pv 0) (po_some (pe_callTy call_intB (by rfl) B.int boot_int (pac (pe_cmpR op_eq (pe_slice sl_str (pv 0) po_none (po_some pe_int)) pe_str (nomark _)) pa_nil))) po_none))
   (pss_cons (ps_if (PW.pt (pw_or (pt_cmpR op_eq (pv 3) pe_str (nomark _)) (pw_or (pt_cmpR op_gt (pe_callB call_len_str (by rfl) B.len PySem.boot_len (pac (pv 3) pa_nil)) pe_int (nomark _)) (pw_or1 (pt_cmpR (op_neN hr) (pe_comp (N':=["_law_sign"]) (idx:=[none]) (compOk_of (by kernel_rfl)) (by kernel_rfl) rfl (pi_str (pv 3)) (fun _ _ _ _ _=>pg_name (i:=0) (show (["_law_sign"]:List Str).Nodup by decide +kernel) rfl (Or.inl rfl)) (fun _ _ _ _ _=>pts_one (pt_cmpR op_notin_str (pv 0) pe_str rfl)) (fun _ _ _ _ _=>pv 0)) (pe_lst pa_nil) (nomark _)))))) (pss_one (ps_ret pe_non)) pss_nil)
   (pss_cons (ps_if (PW.pt (pw_or (pt_cmpR op_ne (pe_callTy call_str_int (by rfl) B.str boot_str (pac (pe_callTy call_intT (by rfl) B.int boot_int (pac (pv 0) pa_nil)) pa_nil)) (pv 0) (nomark _)) (pw_or (pt_cmpR op_lt (pe_callTy call_intT (by rfl) B.int boot_int (pac (pv 0) pa_nil)) (pv 1) (nomark _)) (pw_or1 (pt_cmpR op_gt (pe_callTy call_intT (by rfl) B.int boot_int (pac (pv 0) pa_nil)) (pv 2) (nomark _)))))) (pss_one (ps_ret pe_non)) pss_nil)
   (pss_one (ps_ret (pe_callTy call_intT (by rfl) B.int boot_int (pac (pv 0) pa_nil))))))),?_⟩
  have small:∀ k:Nat,k≤2500→k≤sizeLine:=fun k hk=>by rw [sizeLine_eq]; omega
  refine' laterS (fun σ H1=>σ=[some (.str x),some (.int lo),some (.int hi),some (.str (fgS x))]∧H1=H) (fun fin=>_) _
  rotate_left
  ·refine ⟨_,rfl,_,rfl,_,rfl,x,rfl,small _ hx,rfl,_,rfl,_,rfl,x,rfl,small _ hx,?_⟩
   rw [first_min,sl_fig]
   exact fin _ _ ⟨rfl,rfl⟩
  rintro σ H1 ⟨rfl,rfl⟩
  have fl:=fgs_le x
  have z0:¬ IsN x→∀ H',Same H1 H'→Q .non H':=fun h H' S=>by
   have:=z H' S
   rw [numO_no h] at this
   exact this
  have nb:numB x=false→¬ IsN x:=fun h i=>by rw [(numB_iff x).mpr i] at h; cases h
  refine ⟨_,rfl,rfl,_,rfl,?_⟩
  by_cases h0:(fgs x).length=0
  ·refine ifB_pos (decide_eq_true ?_) (iteT (z0 (nb ?_) _ (Same.refl _)))
   ·have:fgS x="":=str_inj (by rw [fgS_lst,List.eq_nil_of_length_eq_zero h0]; rfl)
    rw [this]
   ·unfold numB
    rw [decide_eq_false (p:=1≤(fgs x).length) (by omega)]
    simp
  refine ifB_neg (decide_eq_false fun e=>h0 ?_) ?_
  ·injection e with e
   rw [← fgS_len,e]
   rfl
  refine ⟨_,rfl,_,rfl,small _ (by rw [fgS_len]; omega),_,_,rfl,rfl,_,rfl,?_⟩
  by_cases h10:((fgS x).length:Int) > 10
  ·refine ifD_pos h10 (iteT (z0 (nb ?_) _ (Same.refl _)))
   rw [fgS_len] at h10
   unfold numB
   rw [decide_eq_false (p:=(fgs x).length≤10) (by omega)]
   simp
  refine ifD_neg h10 ?_
  rw [fgS_len] at h10
  refine ⟨_,rfl,fgS x,rfl,fun L nL=>?_⟩
  refine comp_n (J:=Its (fgS x)) (n:=(fgS x).cps.size) (fun i σ2 H2=>(∃ v,σ2=[v])∧Same H1 H2∧H2 L=some (.lst ((((fgs x).take i).filter fun c=>!dig c).map fun c=>V.str ⟨#[c]⟩))) ?_ (fun i σ2 H2 hi _=>hi) ?_ ?_
  ·exact ⟨⟨_,rfl⟩,same_upd nL,upd_same⟩
  ·rintro σ2 H2 ⟨⟨v,rfl⟩,S2,e2⟩
   rw [List.take_of_length_le (show (fgs x).length≤(fgS x).cps.size from Nat.le_refl _)] at e2
   refine ⟨rfl,szr rfl,fun L2 n2=>?_⟩
   have T2:=same_upd (o:=HO.lst []) n2
   have S12:=S2.trans T2
   refine ⟨L,L2,_,rfl,rfl,SqL.of (T2 _ _ e2),SqL.of upd_same,_,rfl,?_⟩
   cases ha:(fgs x).all dig with
   | false =>
    refine ifB_pos ?_ (z0 (nb ?_) _ S12)
    ·rw [Bool.not_eq_true',List.isEmpty_map]
     cases hf:(fgs x).filter (fun c=>!dig c) with
     | cons a b=>rfl
     | nil =>
      have:(fgs x).all dig=true:=List.all_eq_true.mpr fun c hc=>by
       have:=List.filter_eq_nil_iff.mp hf c hc
       simpa using this
      rw [this] at ha
      cases ha
    ·unfold numB
     rw [ha]
     rfl
   | true =>
    refine ifB_neg ?_ ?_
    ·rw [Bool.not_eq_false',List.isEmpty_map,List.filter_eq_nil_iff.mpr (fun c hc=>by rw [List.all_eq_true.mp ha c hc]; decide)]
     rfl
    obtain ⟨lx,v,hv,vb⟩:=good_int ha (by omega) (by omega)
    have ev:=numO_ev (lo:=lo) (hi:=hi) hv vb
    have zs:=z _ S12
    rw [ev] at zs
    refine ⟨_,rfl,x,v,rfl,hv,by omega,_,rfl,log_ok (by omega),_,rfl,rfl,_,rfl,?_⟩
    have en:∀ {h:¬ (nT v=x∧lo≤v∧v≤hi)},Q .non _:=fun {h}=>by rw [if_neg h] at zs; exact zs
    by_cases c1:nT v=x
    ·refine ifB_neg (by show (!decide (V.str (nT v)=V.str x))=false; rw [c1]; simp) ?_
     refine ⟨_,rfl,x,v,rfl,hv,by omega,_,rfl,_,_,rfl,rfl,_,rfl,?_⟩
     by_cases c2:v < lo
     ·exact ifD_pos c2 (iteT (en (h:=fun q=>by omega)))
     refine ifD_neg c2 ⟨_,rfl,x,v,rfl,hv,by omega,_,rfl,_,_,rfl,rfl,_,rfl,?_⟩
     by_cases c3:v > hi
     ·exact ifD_pos c3 (en (h:=fun q=>by omega))
     refine ifD_neg c3 ⟨_,rfl,x,v,rfl,hv,by omega,?_⟩
     rw [if_pos ⟨c1,by omega,by omega⟩] at zs
     exact zs
    ·refine ifB_pos (by show (!decide (V.str (nT v)=V.str x))=true; rw [decide_eq_false fun e=>c1 (by injection e)]; rfl) (iteT (en (h:=fun q=>c1 q.1)))
  ·rintro i σ2 H2 hi ⟨⟨v,rfl⟩,S2,e2⟩ y H3 ⟨rfl,c,hc,rfl⟩
   have hi':i < (fgs x).length:=hi
   have gc:(fgs x)[i]?=some c:=by
    have:(fgS x).cps.toList[i]?=some c:=by rw [Array.getElem?_toList]; exact hc
    exact this
   refine ⟨_,rfl,_,_,rfl,rfl,_,rfl,?_⟩
   rw [in_digits]
   have tk:(fgs x).take (i + 1)=(fgs x).take i ++ [c]:=by rw [List.take_add_one,gc]; rfl
   cases hd:dig c with
   | true =>
    refine iteF ⟨⟨_,rfl⟩,S2,?_⟩
    rw [tk,List.filter_append,show ([c].filter fun c=>!dig c)=[] by simp [hd],List.append_nil]
    exact e2
   | false =>
    refine iteT ⟨_,rfl,_,e2,?_,⟨_,rfl⟩,same_updN S2 nL,?_⟩
    ·rw [List.length_map,sizeLine_eq]
     have:=List.length_filter_le (fun c=>!dig c) ((fgs x).take i)
     rw [List.length_take] at this
     omega
    ·rw [upd_same,tk,List.filter_append,show ([c].filter fun c=>!dig c)=[c] by simp [hd],List.map_append]
     rfl
end
theorem cut_lo {vs:List V} {n:Nat}:cutV vs (some (n:Int)) none=vs.drop n:=by
 unfold cutV HT.sIx
 have:¬ ((n:Int) < 0):=by omega
 simp only [this,if_false,Int.toNat_natCast]
 by_cases h:n≤vs.length
 ·rw [Nat.min_eq_left h,List.take_of_length_le (by rw [List.length_drop]; omega)]
 ·rw [Nat.min_eq_right (by omega),List.drop_eq_nil_of_le (Nat.le_refl _),List.drop_eq_nil_of_le (by omega)]
  simp
theorem cut_two (a b c:V) (l:List V):cutV (a :: b :: c :: l) (some 1) (some 3)=[b,c]:=by
 unfold cutV HT.sIx
 simp
theorem beyond (x:Str) (r:List Str):cutV ((x :: r).map V.str ++ [V.str "",V.str "",V.str ""]) (some 1) (some 3)=[V.str (hd1 r),V.str (hd1 r.tail)]:=by
 cases r with
 | nil=>exact cut_two _ _ _ _
 | cons y r =>
  cases r with
  | nil=>exact cut_two _ _ _ _
  | cons y' r=>exact cut_two _ _ _ _
section
variable {P:Program} {w:World} {K:PySem.W.Frag} {mg:Str→Option Value} {base:Heap}
def spBegun:Sp:=fun vs H Q _=>∃ (W:Addr) (i:Nat) (ws:List Str) (x:Str) (r:List Str),vs=[.ref W,.int (i:Int)]∧H W=some (.lst (ws.map V.str))∧Bd ws∧ws.drop i=x :: r∧(bgn x r=none→∀ H',Same H H'→Q .non H')∧(∀ hd r' (n:Nat) t q H',bgn x r=some (hd,r')→r'=(x :: r).drop n→(1≤n∧n≤3)→Same H H'→H' t=some (.tup [.ref q,.int (n:Int)])→H' q=some (.tup (hdV hd))→Q (.ref t) H')
theorem scBegun:FnScope ["_law_words","_law_at","_law_word_here","_law_beyond"] ["_law_words","_law_at"] (defScope sBegun):=⟨rfl,rfl,rfl,by decide +kernel,rfl,by decide +kernel,by decide +kernel⟩
theorem ok_begun {f fW:Addr} {fd fdW:FuncData} (D:Df K mg "_law_begun" sBegun f fd) (B:Blt mg) (DW:Df K mg "_law_whole_in" sWholeIn fW fdW) (bW:Binds K fdW ["_law_word_here","_law_low","_law_high"] []) (GW:FnOk P w K mg base CX0 1 fW fdW ["_law_word_here","_law_low","_law_high"] spWhole):FnOk P w K mg base CX0 2 f fd ["_law_words","_law_at"] spBegun:=by
 refine D.F.ok scBegun (fun vs H Q E h=>?_) (fun cdv A outer s H vs Q E hr h=>?_)
 ·obtain ⟨W,i,ws,x,r,rfl,_⟩:=h
  rfl
 ·obtain ⟨W,i,ws,x,r,rfl,eW,hb,ed,zn,z⟩:=h
  refine ⟨_,(pss_cons (ps_set (i:=2) scBegun.nd rfl (Or.inl rfl) (pe_ix ix_list (pv 0) (pv 1) (fun _ _=>rfl)))
   (pss_cons (ps_set (i:=3) scBegun.nd rfl (Or.inl rfl) (pe_slice sl_list (pe_op op_cat (pe_slice sl_list (pv 0) (po_some (pv 1)) po_none) (pe_lst (pac (pe_str) (pac (pe_str) (pac (pe_str) pa_nil))))) (po_some pe_int) (po_some pe_int)))
   (pss_cons (ps_if (pt_cmpR op_eq (pv 2) pe_str (nomark _)) (pss_one (ps_ret (pe_tup (pac (pe_tup (pac (pe_str) pa_nil)) (pac (pe_int) pa_nil))))) pss_nil)
   (pss_cons (ps_if (PW.pt (pw_and (pt_cmpR op_eq (pv 2) pe_str (nomark _)) (pw_and (pt_cmpR op_notN (pec GW hr rfl DW.m DW.F.kp bW .nil pass0 (pac (pe_ix ix_list (pv 3) pe_int (fun _ _=>rfl)) (pac (pe_int) (pac (pe_int) pa_nil)))) pe_non (nomark _)) (pw_and1 (pt_cmpR op_eq (pe_ix ix_list (pv 3) pe_int (fun _ _=>rfl)) pe_str (nomark _)))))) (pss_one (ps_ret (pe_tup (pac (pe_tup (pac (pe_str) (pac (pe_callTy call_intT (by rfl) B.int boot_int (pac (pe_ix ix_list (pv 3) pe_int (fun _ _=>rfl)) pa_nil)) pa_nil))) (pac (pe_int) pa_nil))))) pss_nil)
   (pss_cons (ps_if (PW.pt (pw_and (pt_cmpR op_eq (pe_ix ix_list (pv 3) pe_int (fun _ _=>rfl)) pe_str (nomark _)) (pw_and (pt_cmpR op_notN (pec GW hr rfl DW.m DW.F.kp bW .nil pass0 (pac (pv 2) (pac (pe_int) (pac (pe_int) pa_nil)))) pe_non (nomark _)) (pw_and1 (pt_cmpR op_eq (pe_ix ix_list (pv 3) pe_int (fun _ _=>rfl)) pe_str (nomark _)))))) (pss_one (ps_ret (pe_tup (pac (pe_tup (pac (pe_str) (pac (pe_callTy call_intT (by rfl) B.int boot_int (pac (pv 2) pa_nil)) pa_nil))) (pac (pe_int) pa_nil))))) pss_nil)
   (pss_one (ps_ret pe_non))))))),?_⟩
  have hx:x∈ws:=by
   have:x∈ws.drop i:=by rw [ed]; exact List.mem_cons_self
   exact List.mem_of_mem_drop this
  have hbr:Bd (x :: r):=by rw [← ed]; exact hb.drop i
  have lx:=hb.1 x hx
  have gi:ws[i]?=some x:=by
   have:=congrArg List.head? ed
   rw [List.head?_drop] at this
   exact this
  refine' laterS (fun σ H1=>∃ Bq,σ=[some (.ref W),some (.int (i:Int)),some (.str x),some (.ref Bq)]∧Same H H1∧H1 Bq=some (.lst [V.str (hd1 r),V.str (hd1 r.tail)])) (fun fin=>_) _
  rotate_left
  ·refine ⟨_,rfl,_,rfl,W,_,_,.str x,rfl,rfl,SqL.of eW,atI_nat (by rw [List.getElem?_map,gi]; rfl),?_⟩
   refine ⟨_,rfl,_,rfl,_,rfl,W,_,rfl,SqL.of eW,fun p np=>?_⟩
   rw [cut_lo,← List.map_drop,ed]
   have T1:=same_upd (o:=HO.lst ((x :: r).map V.str)) np
   refine ⟨szr rfl,fun l nl=>?_⟩
   have T2:=same_upd (o:=HO.lst [V.str "",V.str "",V.str ""]) nl
   refine ⟨p,l,_,_,rfl,rfl,T2 _ _ upd_same,upd_same,by rw [sizeLine_eq,List.length_map]; have:=hbr.2; show _ + 3≤_; omega,fun q nq=>?_⟩
   have T3:=same_upd (o:=HO.lst ((x :: r).map V.str ++ [V.str "",V.str "",V.str ""])) nq
   refine ⟨_,rfl,_,rfl,q,_,rfl,SqL.of upd_same,fun b nb=>?_⟩
   rw [beyond]
   exact fin _ _ ⟨b,rfl,T1.trans (T2.trans (T3.trans (same_upd nb))),upd_same⟩
  rintro σ H1 ⟨Bq,rfl,S1,eB⟩
  refine ⟨_,rfl,rfl,_,rfl,?_⟩
  by_cases k1:x="("
  ·subst k1
   refine ifB_pos (decide_eq_true rfl) ⟨szr rfl,fun q nq=>⟨szr rfl,fun t nt=>?_⟩⟩
   have T1:=same_upd (o:=HO.tup [V.str "back"]) nq
   have T2:=same_upd (o:=HO.tup [V.ref q,.int 1]) nt
   exact z .back r 1 t q _ (by unfold bgn; rw [if_pos rfl]) rfl (by decide) (S1.trans (T1.trans T2)) upd_same (T2 _ _ upd_same)
  refine ifB_neg (decide_eq_false fun e=>k1 (by injection e)) ?_
  have b0:∀ {H'},H' Bq=some (.lst [V.str (hd1 r),V.str (hd1 r.tail)])→SqL K H' Bq [V.str (hd1 r),V.str (hd1 r.tail)]:=fun e=>SqL.of e
  have l0:=hd1_len (hbr.tail).1
  refine' laterS (fun σ H2=>σ=[some (.ref W),some (.int (i:Int)),some (.str x),some (.ref Bq)]∧Same H H2∧H2 Bq=some (.lst [V.str (hd1 r),V.str (hd1 r.tail)])∧(x="turn"→bgn x r=none)) (fun fin=>_) _
  rotate_left
  ·refine ⟨_,rfl,rfl,_,rfl,?_⟩
   by_cases k2:x="turn"
   ·refine ifB_pos (decide_eq_true (by rw [k2])) ?_
    refine ⟨_,rfl,Bq,_,_,_,rfl,rfl,b0 eB,rfl,hd1 r,0,7,rfl,l0,fun H2 S2=>?_⟩
    have eB2:=S2 _ _ eB
    by_cases en:numO (hd1 r) 0 7=none
    ·rw [en]
     refine ⟨rfl,_,rfl,iteF (iteF (fin _ _ ⟨rfl,S1.trans S2,eB2,fun _=>?_⟩))⟩
     rw [k2]
     exact bgn_turn0 en
    ·obtain ⟨n,en⟩:=Option.ne_none_iff_exists'.mp en
     obtain ⟨e1,e2,n1,n2⟩:=numO_some en
     rw [en]
     refine ⟨rfl,_,rfl,iteT ⟨_,rfl,Bq,_,_,_,rfl,rfl,b0 eB2,rfl,rfl,_,rfl,?_⟩⟩
     by_cases h2:hd1 r.tail="("
     ·refine ifB_pos (decide_eq_true (by rw [h2])) ?_
      obtain ⟨r1,r2⟩:=nT_reads e2
      rw [← e1] at r1 r2
      refine ⟨_,rfl,Bq,_,_,_,rfl,rfl,b0 eB2,rfl,hd1 r,n,rfl,r1,r2,szr rfl,fun q nq=>⟨szr rfl,fun t nt=>?_⟩⟩
      have T1:=same_upd (o:=HO.tup [V.str "turn",.int n]) nq
      have T2:=same_upd (o:=HO.tup [V.ref q,.int 3]) nt
      have en':((n.toNat:Nat):Int)=n:=Int.toNat_of_nonneg n1
      refine z (.turn n.toNat) (r.drop 2) 3 t q _ (by rw [k2]; exact bgn_turn en h2) rfl (by decide) ((S1.trans S2).trans (T1.trans T2)) upd_same ?_
      show _=some (HO.tup [V.str "turn",.int ((n.toNat:Nat):Int)])
      rw [en']
      exact T2 _ _ upd_same
     ·refine ifB_neg (decide_eq_false fun e=>h2 (by injection e)) (fin _ _ ⟨rfl,S1.trans S2,eB2,fun _=>?_⟩)
      rw [k2]
      exact bgn_turn1 h2
   ·exact ifB_neg (decide_eq_false fun e=>k2 (by injection e)) (iteF (fin _ _ ⟨rfl,S1,eB,fun h=>absurd h k2⟩))
  rintro σ H2 ⟨rfl,S2,eB2,kt⟩
  refine ⟨_,rfl,Bq,_,_,_,rfl,rfl,b0 eB2,rfl,rfl,_,rfl,?_⟩
  by_cases h3:hd1 r="times"
  ·refine ifB_pos (decide_eq_true (by rw [h3])) ⟨_,rfl,x,1,60,rfl,lx,fun H3 S3=>?_⟩
   have eB3:=S3 _ _ eB2
   by_cases en:numO x 1 60=none
   ·rw [en]
    refine ⟨rfl,_,rfl,iteF (iteF (zn ?_ _ (S2.trans S3)))⟩
    by_cases k2:x="turn"
    ·exact kt k2
    ·exact bgn_no k1 k2 en
   ·obtain ⟨n,en⟩:=Option.ne_none_iff_exists'.mp en
    obtain ⟨e1,e2,n1,n2⟩:=numO_some en
    have k2:x≠"turn":=fun e=>by
     rw [e] at en
     rw [alpha_no rfl (by decide)] at en
     cases en
    rw [en]
    refine ⟨rfl,_,rfl,iteT ⟨_,rfl,Bq,_,_,_,rfl,rfl,b0 eB3,rfl,rfl,_,rfl,?_⟩⟩
    by_cases h2:hd1 r.tail="("
    ·refine ifB_pos (decide_eq_true (by rw [h2])) ?_
     obtain ⟨r1,r2⟩:=nT_reads e2
     rw [← e1] at r1 r2
     refine ⟨_,rfl,x,n,rfl,r1,r2,szr rfl,fun q nq=>⟨szr rfl,fun t nt=>?_⟩⟩
     have T1:=same_upd (o:=HO.tup [V.str "times",.int n]) nq
     have T2:=same_upd (o:=HO.tup [V.ref q,.int 3]) nt
     have en':((n.toNat:Nat):Int)=n:=Int.toNat_of_nonneg (by omega)
     refine z (.times n.toNat) (r.drop 2) 3 t q _ (bgn_times k1 k2 en h3 h2) rfl (by decide) ((S2.trans S3).trans (T1.trans T2)) upd_same ?_
     show _=some (HO.tup [V.str "times",.int ((n.toNat:Nat):Int)])
     rw [en']
     exact T2 _ _ upd_same
    ·exact ifB_neg (decide_eq_false fun e=>h2 (by injection e)) (zn (bgn_no2 k1 k2 h2) _ (S2.trans S3))
  ·refine ifB_neg (decide_eq_false fun e=>h3 (by injection e)) (iteF (zn ?_ _ S2))
   by_cases k2:x="turn"
   ·exact kt k2
   ·exact bgn_no1 k1 k2 h3
end
theorem in_letters (c:Nat):(!(Builtin.Str.occurrences (Str.ofString "abcdefghijklmnopqrstuvwxyz") ⟨#[c]⟩ 0 (Str.ofString "abcdefghijklmnopqrstuvwxyz").length 1).isEmpty)=okSign c:=by
 rw [StrLaws.found_one]
 have e:(Str.ofString "abcdefghijklmnopqrstuvwxyz").cps.toList=[97,98,99,100,101,102,103,104,105,106,107,108,109,110,111,112,113,114,115,116,117,118,119,120,121,122]:=rfl
 rw [e]
 unfold okSign
 have key:(c∈[97,98,99,100,101,102,103,104,105,106,107,108,109,110,111,112,113,114,115,116,117,118,119,120,121,122])↔97≤c∧c≤122:=by
  simp only [List.mem_cons,List.not_mem_nil,or_false]
  omega
 by_cases h1:97≤c
 ·by_cases h2:c≤122
  ·rw [decide_eq_true (key.mpr ⟨h1,h2⟩),decide_eq_true h1,decide_eq_true h2]; rfl
  ·rw [decide_eq_false (fun z=>h2 (key.mp z).2),decide_eq_true h1,decide_eq_false h2]; rfl
 ·rw [decide_eq_false (fun z=>h1 (key.mp z).1),decide_eq_false h1]; rfl
theorem ways_key {H:Hp} {kvs:List (Key×V)} (g:∀ x∈eightW,GoodW H kvs x) (i:∀ kv∈kvs,Itm H kv) (x:Str):(∃ p q,wayO x=some p∧valV kvs (Sum.inr x)=some (.ref q)∧two H q p)∨(wayO x=none∧valV kvs (Sum.inr x)=none):=by
 by_cases hx:x∈eightW
 ·obtain ⟨q,h1,h2⟩:=g x hx
  refine .inl ⟨wayF x,q,?_,h1,h2⟩
  simp only [eightW,List.mem_cons,List.not_mem_nil,or_false] at hx
  rcases hx with rfl | rfl | rfl | rfl | rfl | rfl | rfl | rfl <;> decide +kernel
 ·refine .inr ⟨?_,?_⟩
  ·cases h:wayO x with
   | none=>rfl
   | some p =>
    have:=wayO_some h
    have hm:x∈ways8.map (·.1):=List.mem_map.mpr ⟨_,this,rfl⟩
    exact absurd hm hx
  ·cases h:valV kvs (Sum.inr x) with
   | none=>rfl
   | some v =>
    unfold valV at h
    obtain ⟨kv,h1,h2⟩:=Option.map_eq_some_iff.mp h
    have hm:=List.mem_of_find?_eq_some h1
    have hk:=List.find?_some h1
    obtain ⟨wd,q,e,hw,_⟩:=i kv hm
    rw [e] at hk
    have:(Sum.inr wd:Key)=Sum.inr x:=by simpa using hk
    cases this
    exact absurd hw hx
section
variable {P:Program} {w:World} {K:PySem.W.Frag} {mg:Str→Option Value} {base:Heap}
def spSimple:Sp:=fun vs H Q _=>∃ (W:Addr) (i:Nat) (ws:List Str) (x:Str) (r:List Str),vs=[.ref W,.int (i:Int)]∧H W=some (.lst (ws.map V.str))∧Bd ws∧ws.drop i=x :: r∧(smp x r=none→∀ H',Same H H'→Q .non H')∧(∀ st r' (n:Nat) t q H',smp x r=some (st,r')→r'=(x :: r).drop n→(1≤n∧n≤3)→Same H H'→H' t=some (.tup [.ref q,.int (n:Int)])→SkIs H' (.ref q) st→Q (.ref t) H')
theorem scSimple:FnScope ["_law_words","_law_at","_law_word_here","_law_beyond","_law_most","_law_x","_law_y"] ["_law_words","_law_at"] (defScope sSimple):=⟨rfl,rfl,rfl,by decide +kernel,rfl,by decide +kernel,by decide +kernel⟩
theorem ok_simple {f fW fY:Addr} {fd fdW fdY:FuncData} (D:Df K mg "_law_simple" sSimple f fd) (B:Blt mg) (DW:Df K mg "_law_whole_in" sWholeIn fW fdW) (bW:Binds K fdW ["_law_word_here","_law_low","_law_high"] []) (GW:FnOk P w K mg base CX0 1 fW fdW ["_law_word_here","_law_low","_law_high"] spWhole)
  (DY:Df K mg "_law_ways" sWays fY fdY) (bY:Binds K fdY [] []) (GY:FnOk P w K mg base CX0 2 fY fdY [] spWays):FnOk P w K mg base CX0 3 f fd ["_law_words","_law_at"] spSimple:=by
 refine D.F.ok scSimple (fun vs H Q E h=>?_) (fun cdv A outer s H vs Q E hr h=>?_)
 ·obtain ⟨W,i,ws,x,r,rfl,_⟩:=h
  rfl
 ·obtain ⟨W,i,ws,x,r,rfl,eW,hb,ed,zn,z⟩:=h
  have hr1:Room 1 _:=hr.mono (by decide)
  have hu:=hr.units
  have hu2:(A.deeper (envOfC "_law_simple" (defScope sSimple) s.heap.objs.size f cdv)).units + 1 < cLine:=by omega
  refine ⟨_,(pss_cons (ps_set (i:=2) scSimple.nd rfl (Or.inl rfl) (pe_ix ix_list (pv 0) (pv 1) (fun _ _=>rfl)))
   (pss_cons (ps_set (i:=3) scSimple.nd rfl (Or.inl rfl) (pe_slice sl_list (pe_op op_cat (pe_slice sl_list (pv 0) (po_some (pv 1)) po_none) (pe_lst (pac (pe_str) (pac (pe_str) (pac (pe_str) pa_nil))))) (po_some pe_int) (po_some pe_int)))
   (pss_cons (ps_if (pt_cmp (pc_din hu2 (pv 2) (pe_call0 GY hr rfl DY.m DY.F.kp bY .nil pass0))) (pss_one (ps_ret (pe_tup (pac (pe_op op_catT (pe_tup (pac (pe_str) pa_nil)) (pe_dget hu2 (pe_call0 GY hr rfl DY.m DY.F.kp bY .nil pass0) (pv 2) (fun _ _=>rfl))) (pac (pe_int) pa_nil))))) pss_nil)
   (pss_cons (ps_if (PW.pt (pw_and (pt_cmpR op_eq (pv 2) pe_str (nomark _)) (pw_and1 (pt_chain op_lt op_lt pe_int (pe_callB call_len_str (by rfl) B.len PySem.boot_len (pac (pe_ix ix_list (pv 3) pe_int (fun _ _=>rfl)) pa_nil)) pe_int)))) (pss_one (ps_if (pt_cmpR (op_eqN hr1) (pe_comp (N':=["_law_sign"]) (idx:=[none]) (compOk_of (by kernel_rfl)) (by kernel_rfl) rfl (pi_str (pe_ix ix_list (pv 3) pe_int (fun _ _=>rfl))) (fun _ _ _ _ _=>pg_name (i:=0) (show (["_law_sign"]:List Str).Nodup by decide +kernel) rfl (Or.inl rfl)) (fun _ _ _ _ _=>pts_one (pt_cmpR op_notin_str (pv 0) pe_str rfl)) (fun _ _ _ _ _=>pv 0)) (pe_lst pa_nil) (nomark _)) (pss_one (ps_ret (pe_tup (pac (pe_tup (pac (pe_str) (pac (pe_ix ix_list (pv 3) pe_int (fun _ _=>rfl)) pa_nil))) (pac (pe_int) pa_nil))))) pss_nil)) pss_nil)
   (pss_cons (ps_if (PW.pt (pw_or (pt_cmpR op_eq (pv 2) pe_str (nomark _)) (pw_or1 (pt_cmpR op_eq (pv 2) pe_str (nomark _))))) (pss_cons (ps_set (i:=4) scSimple.nd rfl (Or.inl rfl) (pe_dget hu2 (pe_disp (pps_cons pe_str pe_int (pps_cons pe_str pe_p9 pps_nil)) rfl rfl (by simp) (by show 2≤15; decide)) (pv 2) (fun _ _=>rfl)))
   (pss_cons (ps_set (i:=5) scSimple.nd rfl (Or.inl rfl) (pec GW hr1 rfl DW.m DW.F.kp bW .nil pass0 (pac (pe_ix ix_list (pv 3) pe_int (fun _ _=>rfl)) (pac (pe_op op_sub pe_int (pv 4)) (pac (pv 4) pa_nil)))))
   (pss_cons (ps_set (i:=6) scSimple.nd rfl (Or.inl rfl) (pec GW hr1 rfl DW.m DW.F.kp bW .nil pass0 (pac (pe_ix ix_list (pv 3) pe_int (fun _ _=>rfl)) (pac (pe_op op_sub pe_int (pv 4)) (pac (pv 4) pa_nil)))))
   (pss_one (ps_if (PW.pt (pw_and (pt_cmpR op_notN (pv 5) pe_non (nomark _)) (pw_and (pt_cmpR op_notN (pv 6) pe_non (nomark _)) (pw_and1 (pt_cmpR (op_neD hr1) (pe_tup (pac (pv 2) (pac (pv 5) (pac (pv 6) pa_nil)))) (pe_tup (pac (pe_str) (pac (pe_int) (pac (pe_int) pa_nil)))) (nomark _)))))) (pss_one (ps_ret (pe_tup (pac (pe_tup (pac (pv 2) (pac (pv 5) (pac (pv 6) pa_nil)))) (pac (pe_int) pa_nil))))) pss_nil))))) pss_nil)
   (pss_one (ps_ret pe_non))))))),?_⟩
  have hx:x∈ws:=by
   have:x∈ws.drop i:=by rw [ed]; exact List.mem_cons_self
   exact List.mem_of_mem_drop this
  have hbr:Bd (x :: r):=by rw [← ed]; exact hb.drop i
  have lx:=hb.1 x hx
  have gi:ws[i]?=some x:=by
   have:=congrArg List.head? ed
   rw [List.head?_drop] at this
   exact this
  refine' laterS (fun σ H1=>∃ Bq,σ=[some (.ref W),some (.int (i:Int)),some (.str x),some (.ref Bq),none,none,none]∧Same H H1∧H1 Bq=some (.lst [V.str (hd1 r),V.str (hd1 r.tail)])) (fun fin=>_) _
  rotate_left
  ·refine ⟨_,rfl,_,rfl,W,_,_,.str x,rfl,rfl,SqL.of eW,atI_nat (by rw [List.getElem?_map,gi]; rfl),?_⟩
   refine ⟨_,rfl,_,rfl,_,rfl,W,_,rfl,SqL.of eW,fun p np=>?_⟩
   rw [cut_lo,← List.map_drop,ed]
   have T1:=same_upd (o:=HO.lst ((x :: r).map V.str)) np
   refine ⟨szr rfl,fun l nl=>?_⟩
   have T2:=same_upd (o:=HO.lst [V.str "",V.str "",V.str ""]) nl
   refine ⟨p,l,_,_,rfl,rfl,T2 _ _ upd_same,upd_same,by rw [sizeLine_eq,List.length_map]; have:=hbr.2; show _ + 3≤_; omega,fun q nq=>?_⟩
   have T3:=same_upd (o:=HO.lst ((x :: r).map V.str ++ [V.str "",V.str "",V.str ""])) nq
   refine ⟨_,rfl,_,rfl,q,_,rfl,SqL.of upd_same,fun b nb=>?_⟩
   rw [beyond]
   exact fin _ _ ⟨b,rfl,T1.trans (T2.trans (T3.trans (same_upd nb))),upd_same⟩
  rintro σ H1 ⟨Bq,rfl,S1,eB⟩
  have b0:∀ {H'},H' Bq=some (.lst [V.str (hd1 r),V.str (hd1 r.tail)])→SqL K H' Bq [V.str (hd1 r),V.str (hd1 r.tail)]:=fun e=>SqL.of e
  have l0:=hd1_len (hbr.tail).1
  have l1:=hd1_len (tail_len (hbr.tail).1)
  refine ⟨_,rfl,rfl,fun d kvs H2 S2 ed gd ik kl=>?_⟩
  rcases ways_key gd ik x with ⟨p,q,ew,ev,tq⟩ | ⟨ew,ev⟩
  ·refine ⟨d,some (.ref q),rfl,?_,_,rfl,iteT ?_⟩
   ·have:=DGet.k (k:=Sum.inr x) ed
    rw [ev] at this
    exact this
   refine ⟨szr rfl,fun t1 n1=>?_⟩
   have T1:=same_upd (o:=HO.tup [V.str "line"]) n1
   refine ⟨rfl,fun d' kvs' H3 S3 ed' gd' ik' kl'=>?_⟩
   rcases ways_key gd' ik' x with ⟨p',q',ew',ev',tq'⟩ | ⟨ew',ev'⟩
   ·rw [ew] at ew'
    cases ew'
    refine ⟨_,rfl,d',.ref q',rfl,?_,?_⟩
    ·have:=DGet.k (k:=Sum.inr x) ed'
     rw [ev'] at this
     exact this
    refine ⟨t1,q',_,_,rfl,rfl,SqT.of (S3 _ _ upd_same),SqT.of tq',by simp,szr rfl,fun h=>(by cases h),fun _ t n2=>?_⟩
    have T2:=same_upd (o:=HO.tup ([V.str "line"] ++ [V.int p.1,.int p.2])) n2
    refine ⟨szr rfl,fun t2 n3=>?_⟩
    have T3:=same_upd (o:=HO.tup [V.ref t,.int 1]) n3
    exact z (.line false p.1 p.2) r 1 t2 t _ (smp_way ew) rfl (by decide) (S1.trans (S2.trans (T1.trans (S3.trans (T2.trans T3))))) upd_same (.line (T3 _ _ upd_same))
   ·rw [ew] at ew'
    cases ew'
  refine ⟨d,none,rfl,?_,_,rfl,iteF ?_⟩
  ·have:=DGet.k (k:=Sum.inr x) ed
   rw [ev] at this
   exact this
  have S12:=S1.trans S2
  have eB2:=S2 _ _ eB
  refine' laterS (fun σ H3=>σ=[some (.ref W),some (.int (i:Int)),some (.str x),some (.ref Bq),none,none,none]∧Same H H3∧H3 Bq=some (.lst [V.str (hd1 r),V.str (hd1 r.tail)])∧(x="ink"→smp x r=none)) (fun fin=>_) _
  rotate_left
  ·refine ⟨_,rfl,rfl,_,rfl,?_⟩
   by_cases k3:x="ink"
   ·refine ifB_pos (decide_eq_true (by rw [k3])) ?_
    have si:smp x r=if colB (.str (hd1 r))=true then some (.ink (hd1 r),r.tail) else none:=by rw [k3]; exact smp_ink r
    have no:colB (.str (hd1 r))=false→x="ink"→smp x r=none:=fun h _=>by rw [si,h]; rfl
    refine ⟨_,rfl,Bq,_,_,_,rfl,rfl,b0 eB2,rfl,_,rfl,by rw [sizeLine_eq]; omega,_,_,rfl,rfl,_,rfl,?_⟩
    by_cases h1:(0:Int) < ((hd1 r).length:Int)
    ·refine ifD_pos h1 ⟨_,_,rfl,rfl,_,rfl,?_⟩
     by_cases h9:((hd1 r).length:Int) < 9
     ·rw [decide_eq_true h9]
      refine iteT ⟨_,rfl,Bq,_,_,_,rfl,rfl,b0 eB2,rfl,hd1 r,rfl,fun L nL=>?_⟩
      have lc:=len_cpsL (hd1 r)
      refine comp_n (J:=Its (hd1 r)) (n:=(hd1 r).cps.size) (fun i σ2 H4=>(∃ v,σ2=[v])∧Same H2 H4∧H4 L=some (.lst ((((hd1 r).cps.toList.take i).filter fun c=>!okSign c).map fun c=>V.str ⟨#[c]⟩))) ?_ (fun i σ2 H2 hi _=>hi) ?_ ?_
      ·exact ⟨⟨_,rfl⟩,same_upd nL,upd_same⟩
      ·rintro σ2 H4 ⟨⟨v,rfl⟩,S4,e4⟩
       rw [List.take_of_length_le (by rw [Array.length_toList]; exact Nat.le_refl _)] at e4
       refine ⟨rfl,szr rfl,fun L2 n2=>?_⟩
       have T2:=same_upd (o:=HO.lst []) n2
       have S24:=S4.trans T2
       refine ⟨L,L2,_,rfl,rfl,SqL.of (T2 _ _ e4),SqL.of upd_same,_,rfl,?_⟩
       by_cases ha:(hd1 r).cps.toList.all okSign=true
       ·have hc:colB (.str (hd1 r))=true:=by rw [colB_len (by omega) (by omega)]; exact ha
        refine ifB_pos ?_ ?_
        ·rw [List.isEmpty_map,List.filter_eq_nil_iff.mpr (fun c hc=>by rw [List.all_eq_true.mp ha c hc]; decide)]
         rfl
        refine ⟨_,rfl,Bq,_,_,_,rfl,rfl,b0 (S24 _ _ eB2),rfl,szr rfl,fun q nq=>⟨szr rfl,fun t nt=>?_⟩⟩
        have T5:=same_upd (o:=HO.tup [V.str "ink",.str (hd1 r)]) nq
        have T6:=same_upd (o:=HO.tup [V.ref q,.int 2]) nt
        refine z (.ink (hd1 r)) r.tail 2 t q _ (by rw [si,hc]; rfl) ?_ (by decide) ((S12.trans S24).trans (T5.trans T6)) upd_same (.ink (T6 _ _ upd_same))
        show r.tail=r.drop 1
        rw [List.drop_one]
       ·have hc:colB (.str (hd1 r))=false:=by
         rw [colB_len (by omega) (by omega)]
         cases h:(hd1 r).cps.toList.all okSign with
         | false=>rfl
         | true=>exact absurd h ha
        refine ifB_neg ?_ (fin _ _ ⟨rfl,S12.trans S24,S24 _ _ eB2,no hc⟩)
        rw [List.isEmpty_map]
        cases hf:(hd1 r).cps.toList.filter (fun c=>!okSign c) with
        | cons a b=>rfl
        | nil=>exact absurd (List.all_eq_true.mpr fun c hc=>by
          have:=List.filter_eq_nil_iff.mp hf c hc
          simpa using this) ha
      ·rintro j σ2 H4 hj ⟨⟨v,rfl⟩,S4,e4⟩ y H5 ⟨rfl,c,hc,rfl⟩
       have gc:(hd1 r).cps.toList[j]?=some c:=by rw [Array.getElem?_toList]; exact hc
       refine ⟨_,rfl,_,_,rfl,rfl,_,rfl,?_⟩
       rw [in_letters]
       have tk:(hd1 r).cps.toList.take (j + 1)=(hd1 r).cps.toList.take j ++ [c]:=by rw [List.take_add_one,gc]; rfl
       cases hd:okSign c with
       | true =>
        refine iteF ⟨⟨_,rfl⟩,S4,?_⟩
        rw [tk,List.filter_append,show ([c].filter fun c=>!okSign c)=[] by simp [hd],List.append_nil]
        exact e4
       | false =>
        refine iteT ⟨_,rfl,_,e4,?_,⟨_,rfl⟩,same_updN S4 nL,?_⟩
        ·rw [List.length_map,sizeLine_eq]
         have:=List.length_filter_le (fun c=>!okSign c) ((hd1 r).cps.toList.take j)
         rw [List.length_take] at this
         omega
        ·rw [upd_same,tk,List.filter_append,show ([c].filter fun c=>!okSign c)=[c] by simp [hd],List.map_append]
         rfl
     ·rw [decide_eq_false h9]
      exact iteF (fin _ _ ⟨rfl,S12,eB2,no (colB_no (by omega))⟩)
    ·exact ifD_neg h1 ⟨_,rfl,iteF (fin _ _ ⟨rfl,S12,eB2,no (colB_no (by omega))⟩)⟩
   ·exact ifB_neg (decide_eq_false fun e=>k3 (by injection e)) (iteF (fin _ _ ⟨rfl,S12,eB2,fun h=>absurd h k3⟩))
  rintro σ H3 ⟨rfl,S3,eB3,ki⟩
  have sno:x≠"line"→x≠"by"→smp x r=none:=fun k1 k2=>by
   by_cases k3:x="ink"
   ·exact ki k3
   ·exact smp_no ew k1 k2 k3
  refine' laterS (fun σ H4=>σ=[some (.ref W),some (.int (i:Int)),some (.str x),some (.ref Bq),none,none,none]∧H4=H3∧(x="line"∨x="by")) (fun fin=>_) _
  rotate_left
  ·refine ⟨_,rfl,rfl,_,rfl,?_⟩
   by_cases k1:x="line"
   ·exact ifB_pos (decide_eq_true (by rw [k1])) (iteT (fin _ _ ⟨rfl,rfl,.inl k1⟩))
   refine ifB_neg (decide_eq_false fun e=>k1 (by injection e)) ⟨_,rfl,rfl,_,rfl,?_⟩
   by_cases k2:x="by"
   ·exact ifB_pos (decide_eq_true (by rw [k2])) (fin _ _ ⟨rfl,rfl,.inr k2⟩)
   ·exact ifB_neg (decide_eq_false fun e=>k2 (by injection e)) (zn (sno k1 k2) _ S3)
  rintro σ H4 ⟨rfl,rfl,kx⟩
  refine' laterS (fun σ H5=>∃ (m:Int) (ex:Bool) (mkS:Int→Int→Sk),σ=[some (.ref W),some (.int (i:Int)),some (.str x),some (.ref Bq),some (.int m),none,none]∧Same H H5∧H5 Bq=some (.lst [V.str (hd1 r),V.str (hd1 r.tail)])∧smp x r=(rd2 ex m r).map (fun p=>(mkS p.1 p.2,r.drop 2))∧ex=decide (x="line")∧(∀ G q a b,G q=some (.tup [.str x,.int a,.int b])→SkIs G (.ref q) (mkS a b))) (fun fin=>_) _
  rotate_left
  ·refine fun d3 nd=>⟨upd_same,[(Sum.inr "line",V.int 9),(Sum.inr "by",V.int 1000000000)],rfl,by show 2≤15; decide,?_⟩
   have T3:=same_updN (o:=HO.dK [(Sum.inr "line",V.int 9),(Sum.inr "by",V.int 1000000000)]) (same_upd (o:=HO.dK []) nd) nd
   have e3:(upd (upd H4 d3 (.dK [])) d3 (.dK (mergeK [] [(Sum.inr "line",V.int 9),(Sum.inr "by",V.int 1000000000)]))) d3=some (.dK [(Sum.inr "line",V.int 9),(Sum.inr "by",V.int 1000000000)]):=upd_same
   have hk:∀ m:Int,valV ([(Sum.inr "line",V.int 9),(Sum.inr "by",V.int 1000000000)]:List (Key×V)) (Sum.inr x)=some (.int m)→DGet (upd (upd H4 d3 (.dK [])) d3 (.dK (mergeK [] [(Sum.inr "line",V.int 9),(Sum.inr "by",V.int 1000000000)]))) d3 (.str x) (some (.int m)):=fun m hm=>by
    have:=DGet.k (k:=Sum.inr x) e3
    rw [hm] at this
    exact this
   rcases kx with k1 | k2
   ·refine ⟨_,rfl,d3,.int 9,rfl,hk 9 (by rw [k1]; rfl),?_⟩
    exact fin _ _ ⟨9,true,fun a b=>.line true a b,rfl,S3.trans T3,T3 _ _ eB3,by rw [k1]; exact smp_line r,by rw [decide_eq_true k1],fun G q a b e=>.line (by rw [k1] at e; exact e)⟩
   ·refine ⟨_,rfl,d3,.int 1000000000,rfl,hk 1000000000 (by rw [k2]; rfl),?_⟩
    exact fin _ _ ⟨1000000000,false,fun a b=>.by_ a b,rfl,S3.trans T3,T3 _ _ eB3,by rw [k2]; exact smp_by r,by rw [k2]; decide +kernel,fun G q a b e=>.by_ (by rw [k2] at e; exact e)⟩
  rintro σ H5 ⟨m,ex,mkS,rfl,S5,eB5,es,ee,im⟩
  have nm:(0:Int) - m=-m:=Int.zero_sub m
  refine ⟨_,rfl,Bq,_,_,_,rfl,rfl,b0 eB5,rfl,_,rfl,_,_,rfl,rfl,_,rfl,hd1 r,0 - m,m,rfl,l0,fun H6 S6=>?_⟩
  have eB6:=S6 _ _ eB5
  refine ⟨_,rfl,Bq,_,_,_,rfl,rfl,b0 eB6,rfl,_,rfl,_,_,rfl,rfl,_,rfl,hd1 r.tail,0 - m,m,rfl,l1,fun H7 S7=>?_⟩
  have S57:=S5.trans (S6.trans S7)
  rw [nm]
  refine ⟨_,rfl,rfl,_,rfl,?_⟩
  by_cases ea:numO (hd1 r) (-m) m=none
  ·rw [ea]
   refine iteF (iteF (zn ?_ _ S57))
   rw [es]
   unfold rd2
   rw [ea]
   rfl
  obtain ⟨a,ea⟩:=Option.ne_none_iff_exists'.mp ea
  rw [ea]
  refine iteT ⟨_,rfl,rfl,_,rfl,?_⟩
  by_cases eb:numO (hd1 r.tail) (-m) m=none
  ·rw [eb]
   refine iteF (iteF (zn ?_ _ S57))
   rw [es]
   unfold rd2
   rw [ea]
   simp only
   rw [eb]
   rfl
  obtain ⟨b,eb⟩:=Option.ne_none_iff_exists'.mp eb
  rw [eb]
  refine iteT ⟨_,rfl,_,rfl,_,rfl,szr rfl,fun t1 n1=>⟨szr rfl,fun t2 n2=>?_⟩⟩
  have T1:=same_upd (o:=HO.tup [V.str x,.int a,.int b]) n1
  have T2:=same_upd (o:=HO.tup [V.str "line",.int 0,.int 0]) n2
  have e1:(upd (upd H7 t1 (HO.tup [V.str x,.int a,.int b])) t2 (HO.tup [V.str "line",.int 0,.int 0])) t1=some (HO.tup [V.str x,.int a,.int b]):=T2 _ _ upd_same
  refine ⟨.tup [.str x,.int a,.int b],.tup [.str "line",.int 0,.int 0],.tup e1 (.cons (.str _) (.cons (.int _) (.cons (.int _) .nil))),.tup upd_same (.cons (.str _) (.cons (.int _) (.cons (.int _) .nil))),by simp [Dt.dp,Dt.dps],⟨_,rfl⟩,⟨_,rfl⟩,_,rfl,?_⟩
  have er:rd2 ex m r=if (ex && decide (a=0) && decide (b=0))=true then none else some (a,b):=by
   unfold rd2
   rw [ea]
   simp only
   rw [eb]
  have eq:Dt.beq (.tup [.str x,.int a,.int b]) (.tup [.str "line",.int 0,.int 0])=(ex && decide (a=0) && decide (b=0)):=by
   rw [ee,Bool.eq_iff_iff,Dt.beq_iff,Bool.and_eq_true,Bool.and_eq_true,decide_eq_true_iff,decide_eq_true_iff,decide_eq_true_iff]
   constructor
   ·intro h
    injection h with h
    injection h with h1 h
    injection h1 with h1
    injection h with h2 h
    injection h2 with h2
    injection h with h3 h
    injection h3 with h3
    exact ⟨⟨h1,h2⟩,h3⟩
   ·rintro ⟨⟨h1,h2⟩,h3⟩
    rw [h1,h2,h3]
  rw [eq]
  cases hc:(ex && decide (a=0) && decide (b=0)) with
  | true =>
   refine iteF (zn ?_ _ (S57.trans (T1.trans T2)))
   rw [es,er,hc]
   rfl
  | false =>
   refine iteT ⟨_,rfl,_,rfl,_,rfl,szr rfl,fun t3 n3=>⟨szr rfl,fun t4 n4=>?_⟩⟩
   have T3:=same_upd (o:=HO.tup [V.str x,.int a,.int b]) n3
   have T4:=same_upd (o:=HO.tup [V.ref t3,.int 3]) n4
   exact z (mkS a b) (r.drop 2) 3 t4 t3 _ (by rw [es,er,hc]; rfl) rfl (by decide) (S57.trans ((T1.trans T2).trans (T3.trans T4))) upd_same (im _ _ _ _ (T4 _ _ upd_same))
end
end K22
namespace K22
open PySem PySem.Spec PyProof.Rows L2 BF PySem.SeqAt
seal L2.PE L2.PA L2.PS L2.PSs L2.PT L2.PW L2.PG L2.PGs L2.PI BF.PTs L2.PPs L2.PO
def flat:Sk→Prop
 | .line _ _ _=>True
 | .by_ _ _=>True
 | .ink _=>True
 | _=>False
theorem smp_flat {x:Str} {r r':List Str} {st:Sk} (h:smp x r=some (st,r')):flat st:=by
 unfold smp at h
 split at h
 ·cases h; exact True.intro
 ·split at h
  ·obtain ⟨p,_,e⟩:=Option.map_eq_some_iff.mp h
   cases e; exact True.intro
  ·split at h
   ·obtain ⟨p,_,e⟩:=Option.map_eq_some_iff.mp h
    cases e; exact True.intro
   ·split at h
    ·split at h
     ·cases h; exact True.intro
     ·cases h
    ·cases h
theorem flat_wo {H:Hp} {M:List Addr} {t:Addr} {st:Sk} (h:SkIs H (.ref t) st) (f:flat st) (nt:∀ xs,H t=some (.tup xs)→¬ t∈M):SkIs (wo H M) (.ref t) st:=by
 cases h with
 | line e=>exact .line (wo_at e (nt _ e))
 | by_ e=>exact .by_ (wo_at e (nt _ e))
 | ink e=>exact .ink (wo_at e (nt _ e))
 | back e el h=>exact f.elim
 | times e el h=>exact f.elim
 | turn e el h=>exact f.elim
theorem bgn_hd {x:Str} {r r':List Str} {hd:Hd} (h:bgn x r=some (hd,r')):hd≠.no:=by
 unfold bgn at h
 split at h
 ·cases h; intro z; cases z
 ·split at h
  ·split at h
   ·split at h
    ·cases h; intro z; cases z
    ·cases h
   ·cases h
  ·split at h
   ·split at h
    ·split at h
     ·cases h; intro z; cases z
     ·cases h
    ·cases h
   ·cases h
def hdsOk:List (Hd×List Sk)→Prop
 | []=>True
 | (h,_) :: r=>(r≠[]→h≠.no)∧hdsOk r
section
variable {P:Program} {w:World} {K:PySem.W.Frag} {mg:Str→Option Value} {base:Heap}
def spLRead:Sp:=fun vs H Q _=>∃ z:Str,vs=[.str z]∧z.length≤2000∧(Run S0 (wsO z) none→∀ H',Same H H'→Q .non H')∧(∀ L xs u H',Run S0 (wsO z) (some u)→Same H H'→H' L=some (.lst xs)→SksIs H' xs u→Q (.ref L) H')
theorem scLRead:FnScope ["_law_text_here","_law_words","_law_stack","_law_at","_law_head_here","_law_strokes","_law_simple_here","_law_begun_here"] ["_law_text_here"] (defScope sLRead):=⟨rfl,rfl,rfl,by decide +kernel,rfl,by decide +kernel,by decide +kernel⟩
theorem ok_lread {f fS fG:Addr} {fd fdS fdG:FuncData} (D:Df K mg "_law_read" sLRead f fd) (B:Blt mg) (DS:Df K mg "_law_simple" sSimple fS fdS) (bS:Binds K fdS ["_law_words","_law_at"] []) (GS:FnOk P w K mg base CX0 3 fS fdS ["_law_words","_law_at"] spSimple)
  (DG:Df K mg "_law_begun" sBegun fG fdG) (bG:Binds K fdG ["_law_words","_law_at"] []) (GG:FnOk P w K mg base CX0 2 fG fdG ["_law_words","_law_at"] spBegun):FnOk P w K mg base CX0 4 f fd ["_law_text_here"] spLRead:=by
 refine D.F.ok scLRead (fun vs H Q E h=>?_) (fun cdv A outer s H vs Q E hr h=>?_)
 ·obtain ⟨z,rfl,_⟩:=h
  rfl
 ·obtain ⟨z,rfl,hz,kn,ks⟩:=h
  have hr1:Room 1 _:=hr.mono (by decide)
  have hr2:Room 2 _:=hr.mono (by decide)
  refine ⟨_,(pss_cons (ps_set (i:=1) scLRead.nd rfl (Or.inl rfl) (pe_bm PySem.F.plainAttrs_str PySem.F.slot_str_split PySem.F.type_str_split mt_split (pv 0) (pac (pe_str) pa_nil)))
   (pss_cons (ps_if (pt_cmpR op_eq (pv 0) pe_str (nomark _)) (pss_one (ps_set (i:=1) scLRead.nd rfl (Or.inl rfl) (pe_lst pa_nil))) pss_nil)
   (pss_cons (ps_set (i:=2) scLRead.nd rfl (Or.inl rfl) (pe_lst (pac (pe_lst (pac (pe_tup pa_nil) (pac (pe_lst pa_nil) pa_nil))) pa_nil)))
   (pss_cons (ps_set (i:=3) scLRead.nd rfl (Or.inl rfl) pe_int)
   (pss_cons (ps_while PassesOwn.never (pt_cmpR op_lt (pv 3) (pe_callB call_len_seq (by rfl) B.len PySem.boot_len (pac (pv 1) pa_nil)) (nomark _)) (pss_one (ps_if (pt_cmpR op_eq (pe_ix ix_list (pv 1) (pv 3) (fun _ _=>rfl)) pe_str (nomark _)) (pss_cons (ps_if (PW.pt (pw_or (pt_cmpR op_eq (pe_callB call_len_seq (by rfl) B.len PySem.boot_len (pac (pv 2) pa_nil)) pe_int (nomark _)) (pw_or1 (pt_cmpR (op_eqN hr1) (pe_ix ix_list (pe_ix ix_list (pv 2) (pe_un un_neg pe_int) (fun _ _=>rfl)) pe_int (fun _ _=>rfl)) (pe_lst pa_nil) (nomark _))))) (pss_one (ps_ret pe_non)) pss_nil)
   (pss_cons (ps_asg (pe_bm0 PySem.F.plainAttrs_list PySem.F.slot_list_pop PySem.F.type_list_pop mt_pop (pv 2)) (pg_tupL (n:=2) rfl (pgs_cons (pg_name (i:=4) scLRead.nd rfl (Or.inl rfl)) (pgs_cons (pg_name (i:=5) scLRead.nd rfl (Or.inl rfl)) pgs_nil))))
   (pss_cons (ps_expr (pe_bm PySem.F.plainAttrs_list PySem.F.slot_list_append PySem.F.type_list_append mt_append (pe_ix ix_list (pe_ix ix_list (pv 2) (pe_un un_neg pe_int) (fun _ _=>rfl)) pe_int (fun _ _=>rfl)) (pac (pe_op op_catT (pv 4) (pe_tup (pac (pv 5) pa_nil))) pa_nil)))
   (pss_one (ps_set (i:=3) scLRead.nd rfl (Or.inl rfl) (pe_op op_add (pv 3) pe_int))))))
      (pss_cons (ps_set (i:=6) scLRead.nd rfl (Or.inl rfl) (pec GS hr rfl DS.m DS.F.kp bS .nil pass0 (pac (pv 1) (pac (pv 3) pa_nil))))
   (pss_cons (ps_set (i:=7) scLRead.nd rfl (Or.inl rfl) (pec GG hr2 rfl DG.m DG.F.kp bG .nil pass0 (pac (pv 1) (pac (pv 3) pa_nil))))
   (pss_one (ps_if (pt_cmpR op_notN (pv 6) pe_non (nomark _)) (pss_cons (ps_expr (pe_bm PySem.F.plainAttrs_list PySem.F.slot_list_append PySem.F.type_list_append mt_append (pe_ix ix_list (pe_ix ix_list (pv 2) (pe_un un_neg pe_int) (fun _ _=>rfl)) pe_int (fun _ _=>rfl)) (pac (pe_ix ix_tup (pv 6) pe_int (fun _ _=>rfl)) pa_nil)))
   (pss_one (ps_set (i:=3) scLRead.nd rfl (Or.inl rfl) (pe_op op_add (pv 3) (pe_ix ix_tup (pv 6) pe_int (fun _ _=>rfl))))))
        (pss_one (ps_if (PW.pt (pw_and (pt_cmpR op_notN (pv 7) pe_non (nomark _)) (pw_and1 (pt_cmpR op_lt (pe_callB call_len_seq (by rfl) B.len PySem.boot_len (pac (pv 2) pa_nil)) pe_int (nomark _))))) (pss_cons (ps_expr (pe_bm PySem.F.plainAttrs_list PySem.F.slot_list_append PySem.F.type_list_append mt_append (pv 2) (pac (pe_lst (pac (pe_ix ix_tup (pv 7) pe_int (fun _ _=>rfl)) (pac (pe_lst pa_nil) pa_nil))) pa_nil)))
   (pss_one (ps_set (i:=3) scLRead.nd rfl (Or.inl rfl) (pe_op op_add (pv 3) (pe_ix ix_tup (pv 7) pe_int (fun _ _=>rfl))))))
         (pss_one (ps_ret pe_non)))))))))))
   (pss_cons (ps_if (PW.pt (pw_or (pt_cmpR op_gt (pe_callB call_len_seq (by rfl) B.len PySem.boot_len (pac (pv 2) pa_nil)) pe_int (nomark _)) (pw_or1 (pt_cmpR op_gt (pe_callB call_len_str (by rfl) B.len PySem.boot_len (pac (pv 0) pa_nil)) pe_int (nomark _))))) (pss_one (ps_ret pe_non)) pss_nil)
   (pss_one (ps_ret (pe_ix ix_list (pe_ix ix_list (pv 2) pe_int (fun _ _=>rfl)) pe_int (fun _ _=>rfl)))))))))),?_⟩
  have hl3:z.length≤sizeLine:=by rw [sizeLine_eq]; omega
  have hb:=wsO_bd hz
  refine' laterS (fun σ H1=>∃ W,σ=[some (.str z),some (.ref W),none,none,none,none,none,none]∧Same H H1∧H W=none∧H1 W=some (.lst ((wsO z).map V.str))) (fun fin=>_) _
  rotate_left
  ·refine ⟨_,rfl,rfl,z,blank,rfl,rfl,rfl,by omega,fun p np=>?_⟩
   have Tp:=same_upd (o:=HO.lst ((Txt.split z blank).map V.str)) np
   refine ⟨_,rfl,rfl,_,rfl,?_⟩
   by_cases h0:z.length=0
   ·have ez:z="":=str_inj (List.eq_nil_of_length_eq_zero (by rw [len_cpsL]; exact h0))
    refine ifB_pos (decide_eq_true (by rw [ez])) ⟨szr rfl,fun q nq=>fin _ _ ⟨q,rfl,Tp.trans (same_upd nq),none_same Tp nq,?_⟩⟩
    unfold wsO
    rw [if_pos h0]
    exact upd_same
   ·refine ifB_neg (decide_eq_false fun e=>h0 ?_) (fin _ _ ⟨p,rfl,Tp,np,?_⟩)
    ·injection e with e
     rw [e]
     rfl
    ·unfold wsO
     rw [if_neg h0]
     exact upd_same
  rintro σ H1 ⟨W,rfl,SA,nW,eW⟩
  revert hb eW kn ks
  generalize wsO z=ws
  intro kn ks hb eW
  refine ⟨szr rfl,fun t0 m0=>⟨szr rfl,fun l0 m1=>⟨szr rfl,fun e0 m2=>⟨szr rfl,fun st m3=>?_⟩⟩⟩⟩
  have T0:=same_upd (o:=HO.tup []) m0
  have T1:=same_upd (o:=HO.lst []) m1
  have T2:=same_upd (o:=HO.lst [V.ref t0,.ref l0]) m2
  have T3:=same_upd (o:=HO.lst [V.ref e0]) m3
  have T13:=T1.trans (T2.trans T3)
  have T03:=T0.trans T13
  have I0:StkI H (upd (upd (upd (upd H1 t0 (.tup [])) l0 (.lst [])) e0 (.lst [V.ref t0,.ref l0])) st (.lst [V.ref e0])) st W [⟨e0,t0,l0,.no,[],[]⟩] 2501 (ws.map V.str):=by
   have nel:e0≠l0:=fun z=>by rw [z,upd_same] at m2; cases m2
   have nse:st≠e0:=fun z=>by rw [z,upd_same] at m3; cases m3
   have nsl:st≠l0:=fun z=>by rw [z,T2 _ _ upd_same] at m3; cases m3
   have nws:W≠st:=fun z=>by rw [← z,T2 _ _ (T1 _ _ (T0 _ _ eW))] at m3; cases m3
   have nwe:W≠e0:=fun z=>by rw [← z,T1 _ _ (T0 _ _ eW)] at m2; cases m2
   have nwl:W≠l0:=fun z=>by rw [← z,T0 _ _ eW] at m1; cases m1
   refine ⟨SA.trans T03,fun b hb=>?_,upd_same,⟨T03 _ _ eW,by rw [List.length_map]; have:=hb.2; omega⟩,fun g hg=>?_,?_⟩
   ·simp only [frM,List.flatMap_cons,List.flatMap_nil,List.append_nil,List.mem_cons,List.not_mem_nil,or_false] at hb
    rcases hb with rfl | rfl | rfl | rfl
    ·exact none_same (SA.trans (T0.trans (T1.trans T2))) m3
    ·exact nW
    ·exact none_same (SA.trans (T0.trans T1)) m2
    ·exact none_same (SA.trans T0) m1
   ·rw [List.mem_singleton.mp hg]
    exact ⟨T3 _ _ upd_same,T13 _ _ upd_same,(T2.trans T3) _ _ upd_same,.nil,Nat.zero_le _⟩
   ·simp only [frM,List.flatMap_cons,List.flatMap_nil,List.append_nil,List.nodup_cons,List.mem_cons,List.not_mem_nil,or_false,not_or,not_false_eq_true,List.nodup_nil,and_true]
    exact ⟨⟨Ne.symm nws,nse,nsl⟩,⟨nwe,nwl⟩,nel⟩
  revert I0
  generalize (upd (upd (upd (upd H1 t0 (.tup [])) l0 (.lst [])) e0 (.lst [V.ref t0,.ref l0])) st (.lst [V.ref e0]))=H5
  intro I0
  refine ⟨fun m σ H2=>∃ (i:Nat) (fs:List Fr),m=ws.length - i∧(∃ v4 v5 v6 v7,σ=[some (.str z),some (.ref W),some (.ref st),some (.int (i:Int)),v4,v5,v6,v7])∧StkI H H2 st W fs (2501 + i) (ws.map V.str)∧i≤ws.length + 2∧(∀ o,Run (datS fs) (ws.drop i) o→Run S0 ws o)∧hdsOk (datS fs)∧fs≠[]∧fs.length≤9,⟨_,0,_,rfl,⟨_,_,_,_,rfl⟩,I0,Nat.zero_le _,fun o h=>h,⟨fun h=>absurd rfl h,True.intro⟩,by simp,by show 1≤9; decide⟩,?_⟩
  rintro m σ H2 ⟨i,fs,rfl,⟨v4,v5,v6,v7,rfl⟩,I,hi2,rn,ho,ne,l9⟩
  have lw:=hb.2
  have sm:∀ k:Nat,k≤10000→k < sizeLine:=fun k hk=>by rw [sizeLine_eq]; omega
  refine ⟨_,rfl,_,rfl,W,_,rfl,.inl (SqL.of I.ew.1),_,_,rfl,rfl,_,rfl,?_⟩
  by_cases hlt:i < ws.length
  ·refine ifB_pos (decide_eq_true (by rw [List.length_map]; show (i:Int) < (ws.length:Int); omega)) ?_
   refine ⟨_,fun _ _ h=>h,?_⟩
   obtain ⟨x,r,ed⟩:∃ x r,ws.drop i=x :: r:=by
    cases h:ws.drop i with
    | nil=>exact absurd (List.drop_eq_nil_iff.mp h) (by omega)
    | cons x r=>exact ⟨x,r,rfl⟩
   have gi:ws[i]?=some x:=by
    have:=congrArg List.head? ed
    rw [List.head?_drop] at this
    exact this
   rw [ed] at rn
   have dr:∀ n,ws.drop (i + n)=(x :: r).drop n:=fun n=>by rw [← ed,List.drop_drop]
   have lr:(x :: r).length=ws.length - i:=by rw [← ed,List.length_drop]
   refine ⟨_,rfl,_,rfl,W,_,_,.str x,rfl,rfl,SqL.of I.ew.1,atI_nat (by rw [List.getElem?_map,gi]; rfl),rfl,_,rfl,?_⟩
   cases fs with
   | nil=>exact absurd rfl ne
   | cons f fr =>
   have q:=I.fr f List.mem_cons_self
   have ei:=I.es
   rw [List.reverse_cons,List.map_append] at ei
   have fl:((f :: fr).reverse.map fun f=>V.ref f.e).length=fr.length + 1:=by simp
   by_cases kx:x=")"
   ·refine ifB_pos (decide_eq_true (by rw [kx])) ?_
    subst kx
    refine ⟨_,rfl,st,_,rfl,.inl (SqL.of I.es),rfl,_,rfl,?_⟩
    cases fr with
    | nil =>
     refine ifB_pos (decide_eq_true rfl) (iteT (kn (rn _ (.bad ?_)) _ I.sub))
     unfold stp
     rw [if_pos rfl]
     rfl
    | cons f' rr =>
     refine ifB_neg (decide_eq_false fun e=>by rw [fl] at e; injection e with e; have:(rr.length + 1 + 1:Int)=1:=e; omega) ?_
     refine ⟨_,rfl,_,rfl,st,_,_,_,rfl,rfl,SqL.of ei,atI_last _ _,f.e,_,_,_,rfl,rfl,SqL.of q.he,rfl,szr rfl,fun b nb=>?_⟩
     have Tb:=same_upd (o:=HO.lst []) nb
     refine ⟨f.l,b,f.xs,rfl,rfl,SqL.of (Tb _ _ q.hl),SqL.of upd_same,_,rfl,?_⟩
     have xe:f.xs.isEmpty=f.sk.isEmpty:=by
      have:=q.sk.length
      cases hx:f.xs <;> cases hk:f.sk <;> simp_all
     have Ib:=I.same Tb
     by_cases he:f.sk.isEmpty=true
     ·refine ifB_pos (xe.trans he) (kn (rn _ (.bad ?_)) _ (I.sub.trans Tb))
      show stp ((f.hd,f.sk) :: (f'.hd,f'.sk) :: datS rr) ")" r=none
      unfold stp
      rw [if_pos rfl]
      show (if f.sk.isEmpty=true then none else some ((f'.hd,f'.sk ++ [mk f.hd f.sk]) :: datS rr,r))=none
      rw [if_pos he]
     refine ifB_neg (by rw [xe]; cases h:f.sk.isEmpty with | false=>rfl | true=>exact absurd h he) ?_
     have eib:=Ib.es
     rw [List.reverse_cons,List.map_append] at eib
     revert Ib eib
     generalize (upd H2 b (HO.lst []))=H3
     intro Ib eib
     obtain ⟨I1,he1,hh,hl,nl,hsk⟩:=Ib.pop
     refine ⟨_,rfl,.inl ⟨rfl,_,SqL.of eib⟩,st,_,.ref f.e,rfl,rfl,eib,by simp,?_⟩
     show gTupL _ _ _ _ _ (upd H3 st (.lst (((f' :: rr).reverse.map fun f=>V.ref f.e) ++ [V.ref f.e]).dropLast)) _
     rw [List.dropLast_concat]
     revert I1 he1 hh hl hsk
     generalize (upd H3 st (.lst ((f' :: rr).reverse.map fun f=>V.ref f.e)))=H4
     intro I1 he1 hh hl hsk
     refine ⟨f.e,_,rfl,SqL.of he1,rfl,_,_,rfl,_,_,rfl,rfl,?_⟩
     have es1:=I1.es
     rw [List.reverse_cons,List.map_append] at es1
     have q1:=I1.fr f' List.mem_cons_self
     have hn:f.hd≠.no:=ho.1 (by simp [datS])
     refine ⟨_,rfl,_,rfl,st,_,_,_,rfl,rfl,SqL.of es1,atI_last _ _,f'.e,_,_,_,rfl,rfl,SqL.of q1.he,rfl,.inl ⟨rfl,_,SqL.of q1.hl⟩,?_⟩
     refine ⟨_,rfl,_,rfl,szr rfl,fun t1 nt1=>?_⟩
     have T1:=same_upd (o:=HO.tup [V.ref f.l]) nt1
     refine ⟨f.h,t1,_,_,rfl,rfl,SqT.of (T1 _ _ hh),SqT.of upd_same,?_,?_,fun h=>(by cases h),fun _ t nt=>?_⟩
     ·cases hf:f.hd with
      | no=>exact absurd hf hn
      | back=>simp [hdV]
      | times m=>simp [hdV]
      | turn k=>simp [hdV]
     ·rw [sizeLine_eq]
      cases f.hd <;> simp [hdV]
     have T2:=same_upd (o:=HO.tup (hdV f.hd ++ [V.ref f.l])) nt
     have T:=T1.trans T2
     have I3:=I1.same T
     have et:(upd (upd H4 t1 (HO.tup [V.ref f.l])) t (HO.tup (hdV f.hd ++ [V.ref f.l]))) t=some (HO.tup (hdV f.hd ++ [V.ref f.l])):=upd_same
     have hl3:=T _ _ hl
     have sk3:=hsk.same (wo_to (M:=st :: W :: frM (f' :: rr)) (M':=st :: W :: frM (f' :: rr)) fun c o e hc=>⟨T _ _ e,hc⟩)
     revert I3 et hl3 sk3
     generalize (upd (upd H4 t1 (HO.tup [V.ref f.l])) t (HO.tup (hdV f.hd ++ [V.ref f.l])))=H6
     intro I3 et hl3 sk3
     have q3:=I3.fr f' List.mem_cons_self
     have skt:SkIs (wo H6 (st :: W :: frM (f' :: rr))) (.ref t) (mk f.hd f.sk):=mk_is hn (wo_at et (I3.tup et)) (wo_at hl3 nl) sk3
     have xl:f'.xs.length≤2501 + i:=by rw [q3.sk.length]; exact q3.ln
     refine ⟨f'.l,f'.xs,_,rfl,rfl,q3.hl,sm _ (by omega),?_⟩
     have I4:=I3.push skt
     refine ⟨_,rfl,_,_,rfl,rfl,ws.length - (i + 1),by omega,i + 1,{ f' with xs:=f'.xs ++ [V.ref t],sk:=f'.sk ++ [mk f.hd f.sk] } :: rr,rfl,⟨_,_,_,_,rfl⟩,I4,by omega,fun o h=>?_,?_,by simp,by rw [List.length_cons] at l9 ⊢; rw [List.length_cons] at l9; omega⟩
     ·refine rn _ (.go (r':=r) (S':=(f'.hd,f'.sk ++ [mk f.hd f.sk]) :: datS rr) ?_ ?_)
      ·show stp ((f.hd,f.sk) :: (f'.hd,f'.sk) :: datS rr) ")" r=_
       unfold stp
       rw [if_pos rfl]
       show (if f.sk.isEmpty=true then none else some ((f'.hd,f'.sk ++ [mk f.hd f.sk]) :: datS rr,r))=_
       rw [if_neg he]
      ·rw [dr 1] at h
       exact h
     ·exact ⟨ho.2.1,ho.2.2⟩
   ·refine ifB_neg (decide_eq_false fun e=>kx (by injection e)) ?_
    refine' laterS (fun σ H3=>∃ v6 v7,σ=[some (.str z),some (.ref W),some (.ref st),some (.int (i:Int)),v4,v5,some v6,some v7]∧Same H2 H3∧((v6=.non∧smp x r=none)∨∃ s r' n t q,v6=.ref t∧smp x r=some (s,r')∧r'=(x :: r).drop n∧(1≤n∧n≤3)∧H3 t=some (.tup [.ref q,.int (n:Int)])∧SkIs H3 (.ref q) s)∧((v7=.non∧bgn x r=none)∨∃ hd r' n t q,v7=.ref t∧bgn x r=some (hd,r')∧r'=(x :: r).drop n∧(1≤n∧n≤3)∧H3 t=some (.tup [.ref q,.int (n:Int)])∧H3 q=some (.tup (hdV hd)))) (fun fin=>_) _
    rotate_left
    ·refine ⟨_,rfl,_,rfl,W,i,ws,x,r,rfl,I.ew.1,hb,ed,fun es H3 S3=>?_,fun s r' n t q H3 es er n1 S3 et sk=>?_⟩
     ·refine ⟨_,rfl,_,rfl,W,i,ws,x,r,rfl,S3 _ _ I.ew.1,hb,ed,fun eb H4 S4=>?_,fun hd r' n t q H4 eb er n1 S4 et eq=>?_⟩
      ·exact fin _ _ ⟨_,_,rfl,S3.trans S4,.inl ⟨rfl,es⟩,.inl ⟨rfl,eb⟩⟩
      ·exact fin _ _ ⟨_,_,rfl,S3.trans S4,.inl ⟨rfl,es⟩,.inr ⟨hd,r',n,t,q,rfl,eb,er,n1,et,eq⟩⟩
     ·refine ⟨_,rfl,_,rfl,W,i,ws,x,r,rfl,S3 _ _ I.ew.1,hb,ed,fun eb H4 S4=>?_,fun hd r2 n2 t2 q2 H4 eb er2 n12 S4 et2 eq2=>?_⟩
      ·exact fin _ _ ⟨_,_,rfl,S3.trans S4,.inr ⟨s,r',n,t,q,rfl,es,er,n1,S4 _ _ et,sk.same S4⟩,.inl ⟨rfl,eb⟩⟩
      ·exact fin _ _ ⟨_,_,rfl,S3.trans S4,.inr ⟨s,r',n,t,q,rfl,es,er,n1,S4 _ _ et,sk.same S4⟩,.inr ⟨hd,r2,n2,t2,q2,rfl,eb,er2,n12,et2,eq2⟩⟩
    rintro σ H3 ⟨v6,v7,rfl,S3,h6,h7⟩
    have I3:=I.same S3
    have q3:=I3.fr f List.mem_cons_self
    have ei3:=I3.es
    rw [List.reverse_cons,List.map_append] at ei3
    have xl:f.xs.length≤2501 + i:=by rw [q3.sk.length]; exact q3.ln
    refine ⟨_,rfl,rfl,_,rfl,?_⟩
    rcases h6 with ⟨rfl,es⟩ | ⟨s,r',n,t,q,rfl,es,er,⟨n1,n3⟩,et,sk⟩
    ·refine ifB_neg (by simp) ⟨_,rfl,rfl,_,rfl,?_⟩
     rcases h7 with ⟨rfl,eb⟩ | ⟨hd,r',n,t,q,rfl,eb,er,⟨n1,n3⟩,et,eq⟩
     ·refine ifB_neg (by simp) (iteF (kn (rn _ (.bad ?_)) _ I3.sub))
      unfold stp
      rw [if_neg kx,es]
      simp only
      rw [eb]
     ·refine ifB_pos (by simp) ⟨_,rfl,st,_,rfl,.inl (SqL.of I3.es),_,_,rfl,rfl,_,rfl,?_⟩
      by_cases h9:(datS (f :: fr)).length < 9
      ·have h9':fr.length + 1 < 9:=by simpa [datS] using h9
       refine ifB_pos (decide_eq_true (by rw [fl]; show ((fr.length + 1:Nat):Int) < 9; omega)) ?_
       refine ⟨_,rfl,.inl ⟨rfl,_,SqL.of I3.es⟩,_,rfl,t,_,_,_,rfl,rfl,SqT.of et,rfl,szr rfl,fun l' nl'=>⟨szr rfl,fun e' ne'=>?_⟩⟩
       have U1:=same_upd (o:=HO.lst []) nl'
       have U2:=same_upd (o:=HO.lst [V.ref q,.ref l']) ne'
       have I4:=I3.opn eq nl' ne'
       have es4:=U2 _ _ (U1 _ _ I3.es)
       have et4:(upd (upd (upd H3 l' (.lst [])) e' (.lst [.ref q,.ref l'])) st (.lst (((f :: fr).reverse.map fun f=>V.ref f.e) ++ [.ref e']))) t=some (.tup [.ref q,.int (n:Int)]):=by
        rw [upd_ne (fun y=>I3.tup et (by rw [y]; exact List.mem_cons_self))]
        exact U2 _ _ (U1 _ _ et)
       refine ⟨st,_,_,rfl,rfl,es4,sm _ (by rw [fl]; omega),?_⟩
       refine ⟨_,rfl,_,rfl,t,_,_,_,rfl,rfl,SqT.of et4,rfl,_,_,rfl,rfl,ws.length - (i + n),by omega,i + n,⟨e',q,l',hd,[],[]⟩ :: f :: fr,rfl,⟨_,_,_,_,rfl⟩,I4.mono (by omega),by omega,fun o h=>?_,?_,by simp,by rw [List.length_cons,List.length_cons]; omega⟩
       ·refine rn _ (.go (r':=r') (S':=(hd,[]) :: datS (f :: fr)) ?_ ?_)
        ·unfold stp
         rw [if_neg kx,es]
         simp only
         rw [eb]
         simp only
         rw [if_pos h9]
        ·rw [dr n,← er] at h
         exact h
       ·exact ⟨fun _=>bgn_hd eb,ho⟩
      ·have h9':¬ fr.length + 1 < 9:=by simpa [datS] using h9
       refine ifB_neg (decide_eq_false (by rw [fl]; show ¬ ((fr.length + 1:Nat):Int) < 9; omega)) (kn (rn _ (.bad ?_)) _ I3.sub)
       unfold stp
       rw [if_neg kx,es]
       simp only
       rw [eb]
       simp only
       rw [if_neg h9]
    ·refine ifB_pos (by simp) ?_
     refine ⟨_,rfl,_,rfl,st,_,_,_,rfl,rfl,SqL.of ei3,atI_last _ _,f.e,_,_,_,rfl,rfl,SqL.of q3.he,rfl,.inl ⟨rfl,_,SqL.of q3.hl⟩,_,rfl,t,_,_,_,rfl,rfl,SqT.of et,rfl,?_⟩
     refine ⟨f.l,f.xs,_,rfl,rfl,q3.hl,sm _ (by omega),?_⟩
     have I4:=I3.push (flat_wo sk (smp_flat es) fun xs e=>I3.tup e)
     have lm:f.l∈st :: W :: frM (f :: fr):=by rw [frM_cons]; simp
     have et4:(upd H3 f.l (.lst (f.xs ++ [V.ref q]))) t=some (.tup [.ref q,.int (n:Int)]):=by
      rw [upd_ne (fun y=>I3.tup et (by rw [y]; exact lm))]
      exact et
     refine ⟨_,rfl,_,rfl,t,_,_,_,rfl,rfl,SqT.of et4,rfl,_,_,rfl,rfl,ws.length - (i + n),by omega,i + n,{ f with xs:=f.xs ++ [V.ref q],sk:=f.sk ++ [s] } :: fr,rfl,⟨_,_,_,_,rfl⟩,I4.mono (by omega),by omega,fun o h=>?_,ho,by simp,l9⟩
     refine rn _ (.go (r':=r') (S':=(f.hd,f.sk ++ [s]) :: datS fr) ?_ ?_)
     ·unfold stp
      rw [if_neg kx,es]
      rfl
     ·rw [dr n,← er] at h
      exact h
  ·refine ifB_neg (decide_eq_false (by rw [List.length_map]; show ¬ (i:Int) < (ws.length:Int); omega)) ?_
   have en:ws.drop i=[]:=List.drop_eq_nil_iff.mpr (by omega)
   rw [en] at rn
   refine ⟨_,rfl,st,_,rfl,.inl (SqL.of I.es),_,_,rfl,rfl,_,rfl,?_⟩
   cases fs with
   | nil=>exact absurd rfl ne
   | cons f fr =>
    have fl:((f :: fr).reverse.map fun f=>V.ref f.e).length=fr.length + 1:=by simp
    have q:=I.fr f List.mem_cons_self
    cases fr with
    | nil =>
     refine ifB_neg (decide_eq_false (by show ¬ (1:Int) > 1; decide)) ?_
     refine ⟨_,rfl,_,rfl,hl3,_,_,rfl,rfl,_,rfl,ifB_neg (decide_eq_false (by show ¬ (z.length:Int) > 2000; omega)) ?_⟩
     have e0:H2 st=some (.lst [V.ref f.e]):=I.es
     refine ⟨_,rfl,st,_,_,_,rfl,rfl,SqL.of e0,rfl,f.e,_,_,_,rfl,rfl,SqL.of q.he,rfl,?_⟩
     exact ks f.l f.xs f.sk H2 (rn _ .end1) I.sub q.hl (q.sk.same wo_same)
    | cons f' rr =>
     refine ifB_pos (decide_eq_true (by rw [fl]; show ((rr.length + 1 + 1:Nat):Int) > 1; omega)) (iteT (kn (rn _ .end2) _ I.sub))
end
theorem cat_le:∀ l:List (List Nat),(cat l).length≤(l.map fun x=>x.length + 1).sum
 | []=>Nat.le_refl _
 | [x]=>by
  show x.length≤_
  rw [List.map_cons,List.sum_cons]
  omega
 | x :: y :: r=>by
  have ih:=cat_le (y :: r)
  rw [cat_cons,List.map_cons,List.sum_cons,List.length_append,List.length_cons]
  omega
theorem jn_le (ws:List Str):(Txt.join blank ws).length≤wsz ws:=by
 have e1:Txt.join blank ws=Str.join blank ws:=StrLaws.glued_eq_join blank ws
 have h:=cat_le (ws.map fun x=>x.cps.toList)
 rw [← join_cps,← e1,Array.length_toList,List.map_map] at h
 exact h
theorem wsz_take (ws:List Str) (n:Nat):wsz (ws.take n) + wsz (ws.drop n)=wsz ws:=by rw [← wsz_app,List.take_append_drop]
theorem wsz_drop (ws:List Str) (n m:Nat):wsz (ws.drop (n + m))≤wsz (ws.drop n):=by
 rw [← List.drop_drop]
 have:=wsz_take (ws.drop n) m
 omega
def words1:List Str:=["n","sw","line","by","ink","(",")","times","turn","3","0","-9","10","60","61","7","8"]
def words2:List Str:=["1000000000","1000000001","-1000000000","01","-0","+1","","red","Red","abcdefghi"]
def words3:List Str:=["N","x","((","1 2","-"]
def words4:List Str:=["12345678901","1.0","\n","1_0","line 0 0"]
theorem words_len:∀ x∈words1 ++ words2 ++ words3 ++ words4,x.length≤11:=by
 have:(words1 ++ words2 ++ words3 ++ words4).all (fun x=>decide (x.length≤11))=true:=by decide +kernel
 intro x hx
 exact of_decide_eq_true (List.all_eq_true.mp this x hx)
section
variable {P:Program} {w:World} {K:PySem.W.Frag} {mg:Str→Option Value} {base:Heap}
def spWord:Sp:=fun vs H Q _=>∃ n:Int,vs=[.int n]∧∀ z H',z.length≤11→Same H H'→Q (.str z) H'
theorem scWord:FnScope ["_law_number_here","_law_some"] ["_law_number_here"] (defScope sWord):=⟨rfl,rfl,rfl,by decide +kernel,rfl,by decide +kernel,by decide +kernel⟩
theorem ok_word {f:Addr} {fd:FuncData} (D:Df K mg "_law_word" sWord f fd) (B:Blt mg):FnOk P w K mg base CX0 1 f fd ["_law_number_here"] spWord:=by
 refine D.F.ok scWord (fun vs H Q E h=>?_) (fun cdv A outer s H vs Q E hr h=>?_)
 ·obtain ⟨n,rfl,_⟩:=h
  rfl
 ·obtain ⟨n,rfl,z⟩:=h
  refine ⟨_,(pss_cons (ps_set (i:=1) scWord.nd rfl (Or.inl rfl) (pe_lst (pac (pe_str) (pac (pe_str) (pac (pe_str) (pac (pe_str) (pac (pe_str) (pac (pe_str) (pac (pe_str) (pac (pe_str) (pac (pe_str) (pac (pe_str) (pac (pe_str) (pac (pe_str) (pac (pe_str) (pac (pe_str) (pac (pe_str) (pac (pe_str) (pac (pe_str) pa_nil)))))))))))))))))))
   (pss_cons (ps_set (i:=1) scWord.nd rfl (Or.inl rfl) (pe_op op_cat (pv 1) (pe_lst (pac (pe_str) (pac (pe_str) (pac (pe_str) (pac (pe_str) (pac (pe_str) (pac (pe_str) (pac (pe_str) (pac (pe_str) (pac (pe_str) (pac (pe_str) pa_nil)))))))))))))
   (pss_cons (ps_set (i:=1) scWord.nd rfl (Or.inl rfl) (pe_op op_cat (pv 1) (pe_lst (pac (pe_str) (pac (pe_str) (pac (pe_str) (pac (pe_str) (pac (pe_str) pa_nil))))))))
   (pss_cons (ps_set (i:=1) scWord.nd rfl (Or.inl rfl) (pe_op op_cat (pv 1) (pe_lst (pac (pe_str) (pac (pe_str) (pac (pe_str) (pac (pe_str) (pac (pe_str) pa_nil))))))))
   (pss_one (ps_ret (pe_ix ix_list (pv 1) (pe_op op_mod (pv 0) (pe_callB call_len_seq (by rfl) B.len PySem.boot_len (pac (pv 1) pa_nil))) (fun _ _=>rfl)))))))),?_⟩
  refine ⟨szr rfl,fun l1 n1=>?_⟩
  have T1:=same_upd (o:=HO.lst (words1.map V.str)) n1
  refine ⟨_,rfl,szr rfl,fun k2 m2=>?_⟩
  have U2:=same_upd (o:=HO.lst (words2.map V.str)) m2
  refine ⟨l1,k2,words1.map V.str,words2.map V.str,rfl,rfl,U2 _ _ upd_same,upd_same,by rw [sizeLine_eq]; decide,fun l2 n2=>?_⟩
  have T2:=same_upd (o:=HO.lst (words1.map V.str ++ words2.map V.str)) n2
  refine ⟨_,rfl,szr rfl,fun k3 m3=>?_⟩
  have U3:=same_upd (o:=HO.lst (words3.map V.str)) m3
  refine ⟨l2,k3,words1.map V.str ++ words2.map V.str,words3.map V.str,rfl,rfl,U3 _ _ upd_same,upd_same,by rw [sizeLine_eq]; decide,fun l3 n3=>?_⟩
  have T3:=same_upd (o:=HO.lst (words1.map V.str ++ words2.map V.str ++ words3.map V.str)) n3
  refine ⟨_,rfl,szr rfl,fun k4 m4=>?_⟩
  have U4:=same_upd (o:=HO.lst (words4.map V.str)) m4
  refine ⟨l3,k4,words1.map V.str ++ words2.map V.str ++ words3.map V.str,words4.map V.str,rfl,rfl,U4 _ _ upd_same,upd_same,by rw [sizeLine_eq]; decide,fun l4 n4=>?_⟩
  have T4:=same_upd (o:=HO.lst (words1.map V.str ++ words2.map V.str ++ words3.map V.str ++ words4.map V.str)) n4
  have SS:=T1.trans (U2.trans (T2.trans (U3.trans (T3.trans (U4.trans T4)))))
  have eL:words1.map V.str ++ words2.map V.str ++ words3.map V.str ++ words4.map V.str=(words1 ++ words2 ++ words3 ++ words4).map V.str:=by rw [List.map_append,List.map_append,List.map_append]
  have e4:(upd (upd (upd (upd (upd (upd (upd H l1 (.lst (words1.map V.str))) k2 (.lst (words2.map V.str))) l2 (.lst (words1.map V.str ++ words2.map V.str))) k3 (.lst (words3.map V.str))) l3 (.lst (words1.map V.str ++ words2.map V.str ++ words3.map V.str))) k4 (.lst (words4.map V.str))) l4 (.lst (words1.map V.str ++ words2.map V.str ++ words3.map V.str ++ words4.map V.str))) l4=some (.lst ((words1 ++ words2 ++ words3 ++ words4).map V.str)):=by rw [upd_same,eL]
  have ll:((words1 ++ words2 ++ words3 ++ words4).map V.str).length=37:=by decide +kernel
  obtain ⟨v,hv,hm⟩:=atI_of (xs:=(words1 ++ words2 ++ words3 ++ words4).map V.str) (m:=n % 37) (by omega) (by rw [ll]; omega)
  obtain ⟨wd,hw,rfl⟩:=List.mem_map.mp hm
  refine ⟨_,rfl,_,rfl,_,rfl,l4,_,rfl,.inl (SqL.of e4),_,_,rfl,rfl,(by rw [ll]; show (0:Int) < ((37:Nat):Int); decide),l4,_,_,_,rfl,rfl,SqL.of e4,(by rw [ll]; exact hv),z wd _ (words_len wd hw) SS⟩
def spSpoilt:Sp:=fun vs H Q _=>∃ (W:Addr) (n:Int) (ws:List Str),vs=[.ref W,.int n]∧H W=some (.lst (ws.map V.str))∧ws.length≤2500∧∀ l ws' H',Same H H'→H' l=some (.lst (ws'.map V.str))→wsz ws'≤wsz ws + 12→Q (.ref l) H'
theorem scSpoilt:FnScope ["_law_words","_law_number_here","_law_at","_law_word_here"] ["_law_words","_law_number_here"] (defScope sSpoilt):=⟨rfl,rfl,rfl,by decide +kernel,rfl,by decide +kernel,by decide +kernel⟩
theorem ok_spoilt {f fW:Addr} {fd fdW:FuncData} (D:Df K mg "_law_spoilt" sSpoilt f fd) (B:Blt mg) (DW:Df K mg "_law_word" sWord fW fdW) (bW:Binds K fdW ["_law_number_here"] []) (GW:FnOk P w K mg base CX0 1 fW fdW ["_law_number_here"] spWord):FnOk P w K mg base CX0 2 f fd ["_law_words","_law_number_here"] spSpoilt:=by
 refine D.F.ok scSpoilt (fun vs H Q E h=>?_) (fun cdv A outer s H vs Q E hr h=>?_)
 ·obtain ⟨W,n,ws,rfl,_⟩:=h
  rfl
 ·obtain ⟨W,n,ws,rfl,eW,hl,z⟩:=h
  refine ⟨_,(pss_cons (ps_set (i:=2) scSpoilt.nd rfl (Or.inl rfl) (pe_op op_mod (pv 1) (pe_op op_add (pe_callB call_len_seq (by rfl) B.len PySem.boot_len (pac (pv 0) pa_nil)) pe_int)))
   (pss_cons (ps_set (i:=3) scSpoilt.nd rfl (Or.inl rfl) (pec GW hr rfl DW.m DW.F.kp bW .nil pass0 (pac (pe_op op_fdiv (pv 1) pe_int) pa_nil)))
   (pss_cons (ps_if (pt_cmpR op_eq (pe_op op_mod (pe_op op_fdiv (pv 1) pe_int) pe_int) pe_int (nomark _)) (pss_one (ps_ret (pe_op op_cat (pe_slice sl_list (pv 0) po_none (po_some (pv 2))) (pe_slice sl_list (pv 0) (po_some (pe_op op_add (pv 2) pe_int)) po_none)))) pss_nil)
   (pss_cons (ps_if (pt_cmpR op_eq (pe_op op_mod (pe_op op_fdiv (pv 1) pe_int) pe_int) pe_int (nomark _)) (pss_one (ps_ret (pe_op op_cat (pe_op op_cat (pe_slice sl_list (pv 0) po_none (po_some (pv 2))) (pe_lst (pac (pv 3) pa_nil))) (pe_slice sl_list (pv 0) (po_some (pe_op op_add (pv 2) pe_int)) po_none)))) pss_nil)
   (pss_one (ps_ret (pe_op op_cat (pe_op op_cat (pe_slice sl_list (pv 0) po_none (po_some (pv 2))) (pe_lst (pac (pv 3) pa_nil))) (pe_slice sl_list (pv 0) (po_some (pv 2)) po_none)))))))),?_⟩
  have sm:∀ k:Nat,k≤10000→k≤sizeLine:=fun k hk=>by rw [sizeLine_eq]; omega
  have m16:(0:Int) < 4:=by decide
  have pl:(0:Int) < (((ws.map V.str).length:Nat):Int) + 1:=by omega
  obtain ⟨a,ha⟩:∃ a:Nat,n % ((((ws.map V.str).length:Nat):Int) + 1)=(a:Int):=⟨_,(Int.toNat_of_nonneg (Int.emod_nonneg _ (by omega))).symm⟩
  have al:a≤ws.length:=by
   have:=Int.emod_lt_of_pos n pl
   rw [ha,List.length_map] at this
   omega
  refine' laterS (fun σ H1=>σ=[some (.ref W),some (.int n),some (.int (a:Int)),none]∧H1=H) (fun fin=>_) _
  rotate_left
  ·exact ⟨_,rfl,_,rfl,W,_,rfl,.inl (SqL.of eW),_,_,rfl,rfl,_,_,rfl,rfl,pl,fin _ _ ⟨by rw [← ha]; rfl,rfl⟩⟩
  rintro σ H0 ⟨rfl,rfl⟩
  refine ⟨_,rfl,_,_,rfl,rfl,⟨by decide,by decide⟩,n / 64,rfl,fun wd H1 lw S1=>?_⟩
  have eW1:=S1 _ _ eW
  have tk:(ws.map V.str).take a=(ws.take a).map V.str:=List.map_take.symm
  have a1:((a:Int) + 1)=((a + 1:Nat):Int):=by omega
  have dk:∀ b:Nat,(ws.map V.str).drop b=(ws.drop b).map V.str:=fun b=>List.map_drop.symm
  have w1:=wsz_take ws a
  have w2:=wsz_drop ws a 1
  have lt:(ws.take a).length≤2500:=by rw [List.length_take]; omega
  have ld:∀ b,(ws.drop b).length≤2500:=fun b=>by rw [List.length_drop]; omega
  refine ⟨_,rfl,_,_,rfl,rfl,⟨by decide,by decide⟩,_,_,rfl,rfl,m16,rfl,_,rfl,ifC (fun _=>?_) (fun _=>?_)⟩
  ·refine ⟨_,rfl,_,rfl,_,rfl,W,_,rfl,SqL.of eW1,fun p np=>?_⟩
   rw [cut_hiA,tk]
   have T1:=same_upd (o:=HO.lst ((ws.take a).map V.str)) np
   refine ⟨_,rfl,_,rfl,_,_,rfl,rfl,_,rfl,W,_,rfl,SqL.of (T1 _ _ eW1),fun p2 np2=>?_⟩
   rw [a1,cut_lo,dk]
   have T2:=same_upd (o:=HO.lst ((ws.drop (a + 1)).map V.str)) np2
   refine ⟨p,p2,_,_,rfl,rfl,T2 _ _ upd_same,upd_same,sm _ (by rw [List.length_map,List.length_map]; have:=ld (a + 1); omega),fun l nl=>?_⟩
   refine z l (ws.take a ++ ws.drop (a + 1)) _ (S1.trans (T1.trans (T2.trans (same_upd nl)))) (by rw [upd_same,List.map_append]) ?_
   rw [wsz_app]
   omega
  refine ⟨_,rfl,_,_,rfl,rfl,⟨by decide,by decide⟩,_,_,rfl,rfl,m16,rfl,_,rfl,ifC (fun _=>?_) (fun _=>?_)⟩
  ·refine ⟨_,rfl,_,rfl,_,rfl,W,_,rfl,SqL.of eW1,fun p np=>?_⟩
   rw [cut_hiA,tk]
   have T1:=same_upd (o:=HO.lst ((ws.take a).map V.str)) np
   refine ⟨_,rfl,szr rfl,fun p1 np1=>?_⟩
   have T2:=same_upd (o:=HO.lst [V.str wd]) np1
   refine ⟨p,p1,_,_,rfl,rfl,T2 _ _ upd_same,upd_same,sm _ (by rw [List.length_map]; show _ + 1≤_; omega),fun p2 np2=>?_⟩
   have T3:=same_upd (o:=HO.lst ((ws.take a).map V.str ++ [V.str wd])) np2
   refine ⟨_,rfl,_,rfl,_,_,rfl,rfl,_,rfl,W,_,rfl,SqL.of (T3 _ _ (T2 _ _ (T1 _ _ eW1))),fun p3 np3=>?_⟩
   rw [a1,cut_lo,dk]
   have T4:=same_upd (o:=HO.lst ((ws.drop (a + 1)).map V.str)) np3
   refine ⟨p2,p3,_,_,rfl,rfl,T4 _ _ upd_same,upd_same,sm _ (by rw [List.length_append,List.length_map,List.length_map]; have:=ld (a + 1); show _ + 1 + _≤_; omega),fun l nl=>?_⟩
   refine z l (ws.take a ++ [wd] ++ ws.drop (a + 1)) _ (S1.trans (T1.trans (T2.trans (T3.trans (T4.trans (same_upd nl)))))) (by rw [upd_same,List.map_append,List.map_append]; rfl) ?_
   rw [wsz_app,wsz_app,wsz_cons,wsz_nil]
   omega
  ·refine ⟨_,rfl,_,rfl,_,rfl,W,_,rfl,SqL.of eW1,fun p np=>?_⟩
   rw [cut_hiA,tk]
   have T1:=same_upd (o:=HO.lst ((ws.take a).map V.str)) np
   refine ⟨_,rfl,szr rfl,fun p1 np1=>?_⟩
   have T2:=same_upd (o:=HO.lst [V.str wd]) np1
   refine ⟨p,p1,_,_,rfl,rfl,T2 _ _ upd_same,upd_same,sm _ (by rw [List.length_map]; show _ + 1≤_; omega),fun p2 np2=>?_⟩
   have T3:=same_upd (o:=HO.lst ((ws.take a).map V.str ++ [V.str wd])) np2
   refine ⟨_,rfl,_,rfl,_,rfl,W,_,rfl,SqL.of (T3 _ _ (T2 _ _ (T1 _ _ eW1))),fun p3 np3=>?_⟩
   rw [cut_lo,dk]
   have T4:=same_upd (o:=HO.lst ((ws.drop a).map V.str)) np3
   refine ⟨p2,p3,_,_,rfl,rfl,T4 _ _ upd_same,upd_same,sm _ (by rw [List.length_append,List.length_map,List.length_map]; have:=ld a; show _ + 1 + _≤_; omega),fun l nl=>?_⟩
   refine z l (ws.take a ++ [wd] ++ ws.drop a) _ (S1.trans (T1.trans (T2.trans (T3.trans (T4.trans (same_upd nl)))))) (by rw [upd_same,List.map_append,List.map_append]; rfl) ?_
   rw [wsz_app,wsz_app,wsz_cons,wsz_nil]
   omega
end
section
variable {P:Program} {w:World} {K:PySem.W.Frag} {mg:Str→Option Value} {base:Heap}
def spText:Sp:=fun vs H Q _=>∃ c d:Int,vs=[.int c,.int d]∧∀ z H',z.length≤2000→Same H H'→Q (.str z) H'
theorem scText:FnScope ["_law_one","_law_two","_law_number_here","_law_words"] ["_law_one","_law_two"] (defScope sText):=⟨rfl,rfl,rfl,by decide +kernel,rfl,by decide +kernel,by decide +kernel⟩
theorem ok_text {f fN fW fT fS:Addr} {fd fdN fdW fdT fdS:FuncData} (D:Df K mg "_law_text" sText f fd) (B:Blt mg) (DN:Df K mg "_law_number" sNum fN fdN) (bN:Binds K fdN ["_law_cell","_law_k"] []) (GN:FnOk P w K mg base CX0 1 fN fdN ["_law_cell","_law_k"] spNum)
  (DW:Df K mg "_law_word" sWord fW fdW) (bW:Binds K fdW ["_law_number_here"] []) (GW:FnOk P w K mg base CX0 1 fW fdW ["_law_number_here"] spWord)
  (DT:Df K mg "_law_tree" sTree fT fdT) (bT:Binds K fdT ["_law_cells"] []) (GT:FnOk P w K mg base CX0 4 fT fdT ["_law_cells"] (spTree K))
  (DS:Df K mg "_law_spoilt" sSpoilt fS fdS) (bS:Binds K fdS ["_law_words","_law_number_here"] []) (GS:FnOk P w K mg base CX0 2 fS fdS ["_law_words","_law_number_here"] spSpoilt):FnOk P w K mg base CX0 5 f fd ["_law_one","_law_two"] spText:=by
 refine D.F.ok scText (fun vs H Q E h=>?_) (fun cdv A outer s H vs Q E hr h=>?_)
 ·obtain ⟨c,d,rfl,_⟩:=h
  rfl
 ·obtain ⟨c,d,rfl,z⟩:=h
  have hr1:Room 1 _:=hr.mono (by decide)
  have hr2:Room 2 _:=hr.mono (by decide)
  refine ⟨_,(pss_cons (ps_set (i:=2) scText.nd rfl (Or.inl rfl) (pec GN hr1 rfl DN.m DN.F.kp bN .nil pass0 (pac (pv 0) (pac (pe_int) pa_nil))))
   (pss_cons (ps_if (pt_cmpR op_eq (pe_op op_mod (pv 2) pe_int) pe_int (nomark _)) (pss_one (ps_ret (pe_bm PySem.F.plainAttrs_str PySem.F.slot_str_join PySem.F.type_str_join mt_join pe_str (pac (pe_comp (N':=["_law_k","_law_two"]) (idx:=[none,some 1]) (compOk_of (by kernel_rfl)) (by kernel_rfl) rfl (pi_range1 rfl B.range (pac (pe_op op_mod (pe_op op_fdiv (pv 2) pe_int) pe_int) pa_nil))
     (fun _ _ _ _ _=>pg_name (i:=0) (show (["_law_k","_law_two"]:List Str).Nodup by decide +kernel) rfl (Or.inl rfl)) (fun _ _ _ _ _=>pts_nil)
     (fun _ _ _ _ _=>pec GW hr1 rfl DW.m DW.F.kp bW .nil pass0 (pac (pec GN hr1 rfl DN.m DN.F.kp bN .nil pass0 (pac (pv 1) (pac (pv 0) pa_nil))) pa_nil))) pa_nil)))) pss_nil)
   (pss_cons (ps_set (i:=3) scText.nd rfl (Or.inl rfl) (pe_ix ix_tup (pec GT hr rfl DT.m DT.F.kp bT .nil pass0 (pac (pe_comp (N':=["_law_k","_law_two"]) (idx:=[none,some 1]) (compOk_of (by kernel_rfl)) (by kernel_rfl) rfl (pi_range1 rfl B.range (pac (pe_op op_add pe_int (pe_op op_mod (pe_op op_fdiv (pv 2) pe_int) pe_int)) pa_nil))
     (fun _ _ _ _ _=>pg_name (i:=0) (show (["_law_k","_law_two"]:List Str).Nodup by decide +kernel) rfl (Or.inl rfl)) (fun _ _ _ _ _=>pts_nil)
     (fun _ _ _ _ _=>pec GN hr1 rfl DN.m DN.F.kp bN .nil pass0 (pac (pv 1) (pac (pv 0) pa_nil)))) pa_nil)) pe_int (fun _ _=>rfl)))
   (pss_cons (ps_set (i:=3) scText.nd rfl (Or.inl rfl) (pec GS hr2 rfl DS.m DS.F.kp bS .nil pass0 (pac (pv 3) (pac (pec GN hr1 rfl DN.m DN.F.kp bN .nil pass0 (pac (pv 0) (pac (pe_int) pa_nil))) pa_nil))))
   (pss_cons (ps_if (pt_cmpR op_eq (pe_op op_mod (pe_op op_fdiv (pv 2) pe_int) pe_int) pe_int (nomark _)) (pss_one (ps_set (i:=3) scText.nd rfl (Or.inl rfl) (pec GS hr2 rfl DS.m DS.F.kp bS .nil pass0 (pac (pv 3) (pac (pec GN hr1 rfl DN.m DN.F.kp bN .nil pass0 (pac (pv 1) (pac (pe_int) pa_nil))) pa_nil))))) pss_nil)
   (pss_one (ps_ret (pe_bm PySem.F.plainAttrs_str PySem.F.slot_str_join PySem.F.type_str_join mt_join pe_str (pac (pv 3) pa_nil))))))))),?_⟩
  refine ⟨_,rfl,c,0,rfl,by decide,?_⟩
  generalize numF c 0=n
  refine ⟨_,rfl,_,_,rfl,rfl,(by show (0:Int) < 3; decide),rfl,_,rfl,ifC (fun _=>?_) (fun _=>?_)⟩
  ·obtain ⟨a,ha⟩:∃ a:Nat,n / 3 % 10=(a:Int):=⟨_,(Int.toNat_of_nonneg (by omega)).symm⟩
   have al:a < 10:=by omega
   refine ⟨rfl,_,rfl,_,_,rfl,rfl,⟨by decide,by decide⟩,_,_,rfl,rfl,(by show (0:Int) < 10; decide),_,rfl,(by show -2 ^ 62≤n / 3 % 10; omega),(by show n / 3 % 10 < 2 ^ 62; omega),fun D nD=>?_⟩
   rw [show (n / 3 % 10).toNat=a by omega]
   refine comp_n (J:=Itr 0 a) (n:=a) (fun i σ2 H2=>(∃ v0,σ2=[v0,some (.int d)])∧Same H H2∧∃ zs:List Str,H2 D=some (.lst (zs.map V.str))∧zs.length=i∧wsz zs≤12 * i) ?_ ?_ ?_ ?_
   ·exact ⟨⟨_,rfl⟩,same_upd nD,[],upd_same,rfl,Nat.le_refl _⟩
   ·rintro i σ2 H2 hi _
    exact hi
   ·rintro σ2 H2 ⟨⟨v0,rfl⟩,S2,zs,ez,lz,wz⟩
    have js:=join_sz zs
    have jl:=jn_le zs
    refine ⟨Nat.le_refl _,blank,D,zs,rfl,rfl,SqL.of ez,?_,z _ _ (by omega) S2⟩
    show _ + zs.length * 1≤_
    omega
   ·rintro i σ2 H2 hi ⟨⟨v0,rfl⟩,S2,zs,ez,lz,wz⟩ x H3 ⟨rfl,rfl⟩
    refine ⟨_,rfl,_,rfl,d,i,by rw [Int.zero_add]; rfl,by omega,_,rfl,fun wd H4 lw S4=>?_⟩
    have ez4:=S4 _ _ ez
    refine ⟨_,ez4,by rw [List.length_map,sizeLine_eq]; omega,⟨_,rfl⟩,same_updN (S2.trans S4) nD,zs ++ [wd],?_,?_,?_⟩
    ·rw [upd_same,List.map_append]
     rfl
    ·rw [List.length_append,lz]
     rfl
    ·rw [wsz_app,wsz_cons,wsz_nil]
     omega
  ·obtain ⟨a,ha⟩:∃ a:Nat,1 + n / 3 % 6=(a:Int):=⟨_,(Int.toNat_of_nonneg (by omega)).symm⟩
   have al:a < 7:=by omega
   refine ⟨_,rfl,_,_,rfl,rfl,⟨by decide,by decide⟩,_,_,rfl,rfl,(by show (0:Int) < 6; decide),_,_,rfl,rfl,_,rfl,(by show -2 ^ 62≤1 + n / 3 % 6; omega),(by show 1 + n / 3 % 6 < 2 ^ 62; omega),fun D nD=>?_⟩
   rw [show (1 + n / 3 % 6).toNat=a by omega]
   refine comp_n (J:=Itr 0 a) (n:=a) (fun i σ2 H2=>(∃ v0,σ2=[v0,some (.int d)])∧Same H H2∧∃ ms:List Int,H2 D=some (.lst (ms.map V.int))∧ms.length=i) ?_ ?_ ?_ ?_
   ·exact ⟨⟨_,rfl⟩,same_upd nD,[],upd_same,rfl⟩
   ·rintro i σ2 H2 hi _
    exact hi
   ·rintro σ2 H2 ⟨⟨v0,rfl⟩,S2,ms,em,lm⟩
    refine ⟨Nat.le_refl _,D,ms,rfl,SqL.of em,by omega,fun r l W xs H3 S3 er el eW sk vd wz=>?_⟩
    refine ⟨r,_,_,_,rfl,rfl,SqT.of er,rfl,?_⟩
    have S03:=S2.trans S3
    have lw:=wsz_len (wds (treeF ms))
    revert eW wz lw
    generalize wds (treeF ms)=ws
    intro eW wz lw
    refine ⟨_,rfl,_,rfl,c,1,rfl,by decide,W,_,ws,rfl,eW,by omega,fun l1 ws1 H4 S4 e1 w1=>?_⟩
    have S04:=S03.trans S4
    refine' laterS (fun σ H5=>∃ (l2:Addr) (ws2:List Str),σ=[some (.int c),some (.int d),some (.int n),some (.ref l2)]∧Same H H5∧H5 l2=some (.lst (ws2.map V.str))∧wsz ws2≤1830) (fun fin=>_) _
    rotate_left
    ·refine ⟨_,rfl,_,_,rfl,rfl,⟨by decide,by decide⟩,_,_,rfl,rfl,(by show (0:Int) < 2; decide),rfl,_,rfl,ifC (fun _=>?_) (fun _=>fin _ _ ⟨l1,ws1,rfl,S04,e1,by omega⟩)⟩
     have lw1:=wsz_len ws1
     exact ⟨_,rfl,_,rfl,d,30,rfl,by decide,l1,_,ws1,rfl,e1,by omega,fun l2 ws2 H5 S5 e2 w2=>fin _ _ ⟨l2,ws2,rfl,S04.trans S5,e2,by omega⟩⟩
    rintro σ H5 ⟨l2,ws2,rfl,S5,e2,w2⟩
    have js:=join_sz ws2
    have jl:=jn_le ws2
    refine ⟨rfl,_,rfl,blank,l2,ws2,rfl,rfl,SqL.of e2,?_,z _ _ (by omega) S5⟩
    show _ + ws2.length * 1≤_
    omega
   ·rintro i σ2 H2 hi ⟨⟨v0,rfl⟩,S2,ms,em,lm⟩ x H3 ⟨rfl,rfl⟩
    refine ⟨_,rfl,_,rfl,d,i,by rw [Int.zero_add]; rfl,by omega,?_⟩
    refine ⟨_,em,by rw [List.length_map,sizeLine_eq]; omega,⟨_,rfl⟩,same_updN S2 nD,ms ++ [numF d i],?_,?_⟩
    ·rw [upd_same,List.map_append]
     rfl
    ·rw [List.length_append,lm]
     rfl
def spCell (K:PySem.W.Frag):Sp:=fun vs H Q _=>∃ (a:Addr) (ns:List Int) (k:Int),vs=[.ref a,.int k]∧SqL K H a (ns.map V.int)∧0≤k∧∀ c:Int,Q (.int c) H
theorem scCell:FnScope ["_law_script","_law_k"] ["_law_script","_law_k"] (defScope sCell):=⟨rfl,rfl,rfl,by decide +kernel,rfl,by decide +kernel,by decide +kernel⟩
theorem ok_cell {f:Addr} {fd:FuncData} (D:Df K mg "_law_cell_at" sCell f fd) (B:Blt mg):FnOk P w K mg base CX0 1 f fd ["_law_script","_law_k"] (spCell K):=by
 refine D.F.ok scCell (fun vs H Q E h=>?_) (fun cdv A outer s H vs Q E hr h=>?_)
 ·obtain ⟨a,ns,k,rfl,_⟩:=h
  rfl
 ·obtain ⟨a,ns,k,rfl,hS,hk,z⟩:=h
  refine ⟨_,(pss_cons (ps_if (pt_cmpR op_lt (pv 1) (pe_callB call_len_seq (by rfl) B.len PySem.boot_len (pac (pv 0) pa_nil)) (nomark _)) (pss_one (ps_ret (pe_ix ix_list (pv 0) (pv 1) (fun _ _=>rfl)))) pss_nil)
   (pss_one (ps_ret pe_int))),?_⟩
  refine ⟨_,rfl,_,rfl,a,_,rfl,.inl hS,_,_,rfl,rfl,_,rfl,ifC (fun h=>?_) (fun _=>z 0)⟩
  have h:=of_decide_eq_true h
  rw [List.length_map] at h
  obtain ⟨j,rfl⟩:=Int.eq_ofNat_of_zero_le hk
  have hj:j < ns.length:=by omega
  exact ⟨_,rfl,_,rfl,a,_,_,.int ns[j],rfl,rfl,hS,atI_nat (by rw [List.getElem?_map,List.getElem?_eq_getElem hj]; rfl),z _⟩
end
section
variable {X:Cx} {pins:List (Addr×Obj)} {σ:L2.St} {H:Hp} {s:Shared}
theorem eqLs (I:Inv X pins σ H s) {d:Nat} (ih:∀ {st:Sk} {v v':V} {u u':Value} (A:Around),SkIs H v st→RelV v u→SkIs H v' st→RelV v' u'→st.gd d→A.units + 4 * d + 8 < cLine→EqAt A s u u' true)
  (A:Around) {l l':Addr} {ys ys':List V} {u:List Sk} (el:H l=some (.lst ys)) (el':H l'=some (.lst ys')) (h:SksIs H ys u) (h':SksIs H ys' u) (g:gds u d) (hu:A.units + 4 * d + 9 < cLine):RcAt A s (.ref l) (.ref l') true:=by
 obtain ⟨its,rv,p,_⟩:=I.list (SqL.of el)
 obtain ⟨its',rv',p',_⟩:=I.list (SqL.of el')
 have n1:its.length=u.length:=by rw [← rv.length,h.length]
 have n2:its'.length=u.length:=by rw [← rv'.length,h'.length]
 have R:=RcAt.lists (A:=A) (s:=s) (e:=fun _=>true) p.isList p'.isList (by rw [List.size_toArray,List.size_toArray,n1,n2]) (by omega) (fun j j1 j2=>by
  have j1':j < its.length:=by simpa using j1
  have j2':j < its'.length:=by simpa using j2
  have jx:j < ys.length:=by rw [rv.length]; exact j1'
  have jy:j < ys'.length:=by rw [rv'.length]; exact j2'
  obtain ⟨u1,e1,r1⟩:=rv.get (List.getElem?_eq_getElem jx)
  obtain ⟨u2,e2,r2⟩:=rv'.get (List.getElem?_eq_getElem jy)
  obtain ⟨s1,es1,k1⟩:=h.at (List.getElem?_eq_getElem jx)
  obtain ⟨s2,es2,k2⟩:=h'.at (List.getElem?_eq_getElem jy)
  rw [es1] at es2
  cases es2
  have z1:its.toArray[j]=u1:=by
   have:its[j]?=some its[j]:=List.getElem?_eq_getElem j1'
   rw [this] at e1
   simpa using Option.some.inj e1
  have z2:its'.toArray[j]=u2:=by
   have:its'[j]?=some its'[j]:=List.getElem?_eq_getElem j2'
   rw [this] at e2
   simpa using Option.some.inj e2
  rw [z1,z2]
  exact ih A.in1 k1 r1 k2 r2 (gds_at g _ (List.mem_of_getElem? es1)) (by show A.units + 1 + 4 * d + 8 < cLine; omega))
 have e:((List.range its.toArray.size).all fun _=>true)=true:=by simp
 rw [e] at R
 exact R
theorem neLs (I:Inv X pins σ H s) {d:Nat} (ih:∀ {st:Sk} {v v':V} {u u':Value} (A:Around),SkIs H v st→RelV v u→SkIs H v' st→RelV v' u'→st.gd d→A.units + 4 * d + 8 < cLine→EqAt A s u u' true)
  (A:Around) {l l':Addr} {ys ys':List V} {u:List Sk} (el:H l=some (.lst ys)) (el':H l'=some (.lst ys')) (h:SksIs H ys u) (h':SksIs H ys' u) (g:gds u d) (hu:A.units + 4 * d + 9 < cLine):RcNeAt A s (.ref l) (.ref l') false:=by
 obtain ⟨its,rv,p,_⟩:=I.list (SqL.of el)
 obtain ⟨its',rv',p',_⟩:=I.list (SqL.of el')
 have n1:its.length=u.length:=by rw [← rv.length,h.length]
 have n2:its'.length=u.length:=by rw [← rv'.length,h'.length]
 have R:=RcNeAt.lists (A:=A) (s:=s) (e:=fun _=>true) p.isList p'.isList (by rw [List.size_toArray,List.size_toArray,n1,n2]) (by omega) (fun j j1 j2=>by
  have j1':j < its.length:=by simpa using j1
  have j2':j < its'.length:=by simpa using j2
  have jx:j < ys.length:=by rw [rv.length]; exact j1'
  have jy:j < ys'.length:=by rw [rv'.length]; exact j2'
  obtain ⟨u1,e1,r1⟩:=rv.get (List.getElem?_eq_getElem jx)
  obtain ⟨u2,e2,r2⟩:=rv'.get (List.getElem?_eq_getElem jy)
  obtain ⟨s1,es1,k1⟩:=h.at (List.getElem?_eq_getElem jx)
  obtain ⟨s2,es2,k2⟩:=h'.at (List.getElem?_eq_getElem jy)
  rw [es1] at es2
  cases es2
  have z1:its.toArray[j]=u1:=by
   have:its[j]?=some its[j]:=List.getElem?_eq_getElem j1'
   rw [this] at e1
   simpa using Option.some.inj e1
  have z2:its'.toArray[j]=u2:=by
   have:its'[j]?=some its'[j]:=List.getElem?_eq_getElem j2'
   rw [this] at e2
   simpa using Option.some.inj e2
  rw [z1,z2]
  exact ih A.in1 k1 r1 k2 r2 (gds_at g _ (List.mem_of_getElem? es1)) (by show A.units + 1 + 4 * d + 8 < cLine; omega))
 have e:(!((List.range its.toArray.size).all fun _=>true))=false:=by simp
 rw [e] at R
 exact R
theorem eqLsE (I:Inv X pins σ H s) {d:Nat} (ih:∀ {st:Sk} {v v':V} {u u':Value} (A:Around),SkIs H v st→RelV v u→SkIs H v' st→RelV v' u'→st.gd d→A.units + 4 * d + 8 < cLine→EqAt A s u u' true)
  (A:Around) {l l':Addr} {ys ys':List V} {u:List Sk} (el:H l=some (.lst ys)) (el':H l'=some (.lst ys')) (h:SksIs H ys u) (h':SksIs H ys' u) (g:gds u d) (hu:A.units + 4 * d + 9 < cLine):EqAt A s (.ref l) (.ref l') true:=by
 by_cases hll:l=l'
 ·subst hll
  exact EqAt.same _
 ·exact EqAt.of_refs hll (eqLs I ih A el el' h h' g hu)
theorem eqD1 (I:Inv X pins σ H s) {A:Around} {dt:Dt} {v v':V} {u u':Value} (h:DtIs H v dt) (r:RelV v u) (h':DtIs H v' dt) (r':RelV v' u') (d8:dt.dp≤1) (hu:A.units + 2 < cLine):EqAt A s u u' true:=by
 have:=eqAt_D I A h r h' r' (by omega)
 rw [Dt.beq_self] at this
 exact this
theorem eqTs (I:Inv X pins σ H s) {A:Around} {q q':Addr} {xs xs':List V} (e:H q=some (.tup xs)) (e':H q'=some (.tup xs')) (hl:xs.length=xs'.length)
  (it:∀ (j:Nat) (v v':V) (u u':Value),xs[j]?=some v→xs'[j]?=some v'→RelV v u→RelV v' u'→EqAt A.in1 s u u' true) (hu:A.units < cLine):EqAt A s (.ref q) (.ref q') true:=by
 by_cases hq:q=q'
 ·subst hq
  exact EqAt.same _
 obtain ⟨its,rv,p,_⟩:=I.tuple (SqT.of e)
 obtain ⟨its',rv',p',_⟩:=I.tuple (SqT.of e')
 have R:=RcAt.tuples (A:=A) (s:=s) (e:=fun _=>true) p p' (by omega) (fun j j1 j2=>by
  have j1':j < its.length:=by simpa using j1
  have j2':j < its'.length:=by simpa using j2
  have jx:j < xs.length:=by rw [rv.length]; exact j1'
  have jy:j < xs'.length:=by rw [rv'.length]; exact j2'
  obtain ⟨u1,e1,r1⟩:=rv.get (List.getElem?_eq_getElem jx)
  obtain ⟨u2,e2,r2⟩:=rv'.get (List.getElem?_eq_getElem jy)
  have z1:its.toArray[j]=u1:=by
   have:its[j]?=some its[j]:=List.getElem?_eq_getElem j1'
   rw [this] at e1
   simpa using Option.some.inj e1
  have z2:its'.toArray[j]=u2:=by
   have:its'[j]?=some its'[j]:=List.getElem?_eq_getElem j2'
   rw [this] at e2
   simpa using Option.some.inj e2
  rw [z1,z2]
  exact it j _ _ _ _ (List.getElem?_eq_getElem jx) (List.getElem?_eq_getElem jy) r1 r2)
 have n:its.toArray.size=its'.toArray.size:=by rw [List.size_toArray,List.size_toArray,← rv.length,← rv'.length,hl]
 have ee:((List.range (min its.toArray.size its'.toArray.size)).all (fun _=>true) && its.toArray.size == its'.toArray.size)=true:=by simp [n]
 rw [ee] at R
 exact EqAt.of_refs hq R
theorem eqSk (I:Inv X pins σ H s):∀ (d:Nat) {st:Sk} {v v':V} {u u':Value} (A:Around),SkIs H v st→RelV v u→SkIs H v' st→RelV v' u'→st.gd d→A.units + 4 * d + 8 < cLine→EqAt A s u u' true
 | d,.line l a b,_,_,_,_,A,.line e,r,.line e',r',_,hu=>eqD1 I (dt:=.tup [.str "line",.int a,.int b]) (.tup e (.cons (.str _) (.cons (.int _) (.cons (.int _) .nil)))) r (.tup e' (.cons (.str _) (.cons (.int _) (.cons (.int _) .nil)))) r' (by simp [Dt.dp,Dt.dps]) (by omega)
 | d,.by_ a b,_,_,_,_,A,.by_ e,r,.by_ e',r',_,hu=>eqD1 I (dt:=.tup [.str "by",.int a,.int b]) (.tup e (.cons (.str _) (.cons (.int _) (.cons (.int _) .nil)))) r (.tup e' (.cons (.str _) (.cons (.int _) (.cons (.int _) .nil)))) r' (by simp [Dt.dp,Dt.dps]) (by omega)
 | d,.ink c,_,_,_,_,A,.ink e,r,.ink e',r',_,hu=>eqD1 I (dt:=.tup [.str "ink",.str c]) (.tup e (.cons (.str _) (.cons (.str _) .nil))) r (.tup e' (.cons (.str _) (.cons (.str _) .nil))) r' (by simp [Dt.dp,Dt.dps]) (by omega)
 | 0,.back w,_,_,_,_,A,_,r,_,r',g,hu=>by simp only [Sk.gd] at g; obtain ⟨e,h,_⟩:=g; omega
 | 0,.times m w,_,_,_,_,A,_,r,_,r',g,hu=>by simp only [Sk.gd] at g; obtain ⟨_,e,h,_⟩:=g; omega
 | 0,.turn m w,_,_,_,_,A,_,r,_,r',g,hu=>by simp only [Sk.gd] at g; obtain ⟨_,e,h,_⟩:=g; omega
 | d + 1,.back w,_,_,_,_,A,.back e el h,r,.back e' el' h',r',g,hu=>by
  cases r
  cases r'
  simp only [Sk.gd] at g
  obtain ⟨d',ed,g⟩:=g
  have ed':d=d':=by omega
  subst ed'
  refine eqTs I e e' rfl (fun j v v' u u' ej ej' r1 r2=>?_) (by omega)
  match j,ej,ej' with
  | 0,ej,ej'=>cases ej; cases ej'; exact eqD1 I (.str _) r1 (.str _) r2 (Nat.zero_le _) (by show A.units + 1 + 2 < _; omega)
  | 1,ej,ej'=>cases ej; cases ej'; cases r1; cases r2; exact eqLsE I (eqSk I d) A.in1 el el' h h' g (by show A.units + 1 + 4 * d + 9 < _; omega)
  | j + 2,ej,ej'=>simp at ej
 | d + 1,.times m w,_,_,_,_,A,.times e el h,r,.times e' el' h',r',g,hu=>by
  cases r
  cases r'
  simp only [Sk.gd] at g
  obtain ⟨_,d',ed,g⟩:=g
  have ed':d=d':=by omega
  subst ed'
  refine eqTs I e e' rfl (fun j v v' u u' ej ej' r1 r2=>?_) (by omega)
  match j,ej,ej' with
  | 0,ej,ej'=>cases ej; cases ej'; exact eqD1 I (.str _) r1 (.str _) r2 (Nat.zero_le _) (by show A.units + 1 + 2 < _; omega)
  | 1,ej,ej'=>cases ej; cases ej'; exact eqD1 I (.int _) r1 (.int _) r2 (Nat.zero_le _) (by show A.units + 1 + 2 < _; omega)
  | 2,ej,ej'=>cases ej; cases ej'; cases r1; cases r2; exact eqLsE I (eqSk I d) A.in1 el el' h h' g (by show A.units + 1 + 4 * d + 9 < _; omega)
  | j + 3,ej,ej'=>simp at ej
 | d + 1,.turn m w,_,_,_,_,A,.turn e el h,r,.turn e' el' h',r',g,hu=>by
  cases r
  cases r'
  simp only [Sk.gd] at g
  obtain ⟨_,d',ed,g⟩:=g
  have ed':d=d':=by omega
  subst ed'
  refine eqTs I e e' rfl (fun j v v' u u' ej ej' r1 r2=>?_) (by omega)
  match j,ej,ej' with
  | 0,ej,ej'=>cases ej; cases ej'; exact eqD1 I (.str _) r1 (.str _) r2 (Nat.zero_le _) (by show A.units + 1 + 2 < _; omega)
  | 1,ej,ej'=>cases ej; cases ej'; exact eqD1 I (.int _) r1 (.int _) r2 (Nat.zero_le _) (by show A.units + 1 + 2 < _; omega)
  | 2,ej,ej'=>cases ej; cases ej'; cases r1; cases r2; exact eqLsE I (eqSk I d) A.in1 el el' h h' g (by show A.units + 1 + 4 * d + 9 < _; omega)
  | j + 3,ej,ej'=>simp at ej
end
theorem op_eqSk {X:Cx} {k:Nat} (hr:Room k X.A):OpR X (compareOp .Eq) (fun x y H Q=>∃ (a b:Addr) (xs ys:List V) (u:List Sk),x=.ref a∧y=.ref b∧H a=some (.lst xs)∧H b=some (.lst ys)∧SksIs H xs u∧SksIs H ys u∧gds u 8∧Q (.bl true) H):=by
 intro pins s σ H x y v u Q I rx ry h
 obtain ⟨a,b,xs,ys,w,rfl,rfl,hx,hy,hd,he,g,q⟩:=h
 have hu:=hr.units
 cases rx
 cases ry
 have R:=eqLs I (eqSk I 8) X.A hx hy hd he g (by omega)
 exact R X.prog X.w X.xe _ ⟨.bl _,H,I,rfl,q⟩
theorem op_neSk {X:Cx} {k:Nat} (hr:Room k X.A):OpR X (compareOp .NotEq) (fun x y H Q=>∃ (a b:Addr) (xs ys:List V) (u:List Sk),x=.ref a∧y=.ref b∧H a=some (.lst xs)∧H b=some (.lst ys)∧SksIs H xs u∧SksIs H ys u∧gds u 8∧Q (.bl false) H):=by
 intro pins s σ H x y v u Q I rx ry h
 obtain ⟨a,b,xs,ys,w,rfl,rfl,hx,hy,hd,he,g,q⟩:=h
 have hu:=hr.units
 cases rx
 cases ry
 have R:=neLs I (eqSk I 8) X.A hx hy hd he g (by omega)
 exact R X.prog X.w X.xe _ ⟨.bl _,H,I,rfl,q⟩
mutual
theorem vd_gd:∀ {s:Sk} {d:Nat},s.vd d→s.gd d
 | .line l a b,d,h=>by simp only [Sk.gd]
 | .by_ a b,d,h=>by simp only [Sk.gd]
 | .ink c,d,h=>by simp only [Sk.gd]
 | .back u,d,h=>by
  simp only [Sk.vd] at h
  obtain ⟨_,e,he,h⟩:=h
  simp only [Sk.gd]
  exact ⟨e,he,vds_gds h⟩
 | .times m u,d,h=>by
  simp only [Sk.vd] at h
  obtain ⟨_,hm,_,e,he,h⟩:=h
  simp only [Sk.gd]
  exact ⟨hm,e,he,vds_gds h⟩
 | .turn m u,d,h=>by
  simp only [Sk.vd] at h
  obtain ⟨hm,_,e,he,h⟩:=h
  simp only [Sk.gd]
  exact ⟨hm,e,he,vds_gds h⟩
theorem vds_gds:∀ {u:List Sk} {d:Nat},vds u d→gds u d
 | [],d,h=>by simp only [gds]
 | s :: u,d,h=>by
  simp only [vds] at h
  simp only [gds]
  exact ⟨vd_gd h.1,vds_gds h.2⟩
end
theorem passX {P:Program} {w:World} {X:Cx}:Passes (CXE P w) X E0:=fun _ _ _ _ _ _ _ h=>by
 obtain ⟨x,cls,H',B,_,_,_,_,hE⟩:=h
 exact hE.elim
theorem rd2_in {ex:Bool} {m:Int} {ws:List Str} {a b:Int} (h:rd2 ex m ws=some (a,b)):(-m≤a∧a≤m)∧(-m≤b∧b≤m)∧(ex=true→¬ (a=0∧b=0)):=by
 unfold rd2 at h
 split at h
 ·rename_i a' ea
  split at h
  ·rename_i b' eb
   split at h
   ·cases h
   ·rename_i hc
    cases h
    obtain ⟨_,_,h1,h2⟩:=numO_some ea
    obtain ⟨_,_,h3,h4⟩:=numO_some eb
    exact ⟨⟨h1,h2⟩,⟨h3,h4⟩,fun e z=>hc (by rw [e,decide_eq_true z.1,decide_eq_true z.2]; rfl)⟩
  ·cases h
 ·cases h
theorem way_in:∀ y∈ways8,(-9≤y.2.1∧y.2.1≤9)∧(-9≤y.2.2∧y.2.2≤9)∧¬ (y.2.1=0∧y.2.2=0):=by decide +kernel
theorem smp_vd {x:Str} {r r':List Str} {st:Sk} (h:smp x r=some (st,r')) (d:Nat):st.vd d:=by
 unfold smp at h
 split at h
 ·rename_i p ep
  cases h
  simp only [Sk.vd]
  exact way_in _ (wayO_some ep)
 ·split at h
  ·obtain ⟨p,ep,e⟩:=Option.map_eq_some_iff.mp h
   cases e
   simp only [Sk.vd]
   have:=rd2_in (a:=p.1) (b:=p.2) ep
   exact ⟨this.1,this.2.1,this.2.2 rfl⟩
  ·split at h
   ·obtain ⟨p,ep,e⟩:=Option.map_eq_some_iff.mp h
    cases e
    simp only [Sk.vd]
    have:=rd2_in (a:=p.1) (b:=p.2) ep
    exact ⟨this.1,this.2.1⟩
   ·split at h
    ·split at h
     ·rename_i hc
      cases h
      simp only [Sk.vd]
      exact hc
     ·cases h
    ·cases h
theorem bgn_ok {x:Str} {r r':List Str} {hd:Hd} (h:bgn x r=some (hd,r')):hOk hd:=by
 unfold bgn at h
 split at h
 ·cases h; exact True.intro
 ·split at h
  ·split at h
   ·rename_i k ek
    split at h
    ·cases h
     obtain ⟨_,_,h1,h2⟩:=numO_some ek
     show k.toNat < 8
     omega
    ·cases h
   ·cases h
  ·split at h
   ·rename_i m em
    split at h
    ·split at h
     ·cases h
      obtain ⟨_,_,h1,h2⟩:=numO_some em
      show 1≤m.toNat∧m.toNat≤60
      omega
     ·cases h
    ·cases h
   ·cases h
theorem stp_ok {S S':List (Hd×List Sk)} {x:Str} {r r':List Str} (h:stp S x r=some (S',r')) (o:okD S) (ne:S≠[]):okD S'∧S'≠[]:=by
 unfold stp at h
 split at h
 ·split at h
  ·rename_i h1 l h2 l' S1
   split at h
   ·cases h
   ·rename_i he
    cases h
    refine ⟨okD_close o o.1 fun z=>he (by rw [z]; rfl),by simp⟩
  ·cases h
 ·split at h
  ·rename_i p ep
   cases h
   refine ⟨okD_push o (smp_vd (r':=p.2) ep),?_⟩
   cases S with
   | nil=>exact absurd rfl ne
   | cons a b=>simp [pushD]
  ·split at h
   ·rename_i p ep
    split at h
    ·rename_i hl
     cases h
     exact ⟨⟨by simp only [vds],by omega,⟨fun _=>bgn_ok (r':=p.2) ep,fun z=>absurd z ne⟩,o⟩,by simp⟩
    ·cases h
   ·cases h
theorem run_vd {S:List (Hd×List Sk)} {ws:List Str} {o:Option (List Sk)} (h:Run S ws o):okD S→S≠[]→∀ u,o=some u→vds u 8:=by
 induction h with
 | end1=>intro ok _ u e; cases e; exact ok.1
 | end2=>intro _ _ u e; cases e
 | go e t ih=>intro ok ne; obtain ⟨a,b⟩:=stp_ok e ok ne; exact ih a b
 | bad e=>intro _ _ u e; cases e
theorem read_vd {ws:List Str} {u:List Sk} (h:Run S0 ws (some u)):vds u 8:=run_vd h ⟨by simp only [vds],by decide,⟨fun h=>absurd rfl h,fun _=>rfl⟩,True.intro⟩ (by simp) u rfl
section
variable {P:Program} {w:World} {K:PySem.W.Frag} {mg:Str→Option Value} {base:Heap} {c0 c1 c2 c3 c4 c5 c6 c7 c8 c9 c10 c11 c12 c13 c14 c15 c16 c17:Addr}
def spIsO (c:Addr):Sp:=fun vs H Q _=>∃ (x:Addr) (o:Obj),vs=[.ref x]∧H x=some (frzX o)∧ExcO (.ref c) o∧∀ H',Same H H'→Q (.bl false) H'
theorem scIsO:FnScope ["_law_e"] ["_law_e"] (defScope sIsOther):=⟨rfl,rfl,rfl,by decide +kernel,rfl,by decide +kernel,by decide +kernel⟩
theorem ok_isO {f:Addr} {fd:FuncData} (D:Df K mg "_law_is_other" sIsOther f fd) (N:ENames mg c0 c1 c2 c3 c4 c5 c6 c7 c8 c9 c10 c11 c12 c13 c14 c15 c16 c17) (T:EKitN K c0 c1 c2 c3 c4 c5 c6 c7 c8 c9 c10 c11 c12 c13 c14 c15 c16 c17 c5 5) (hisi:mg "isinstance"=none):FnOk P w K mg base CX0 1 f fd ["_law_e"] (spIsO c5):=by
 refine D.F.ok scIsO (fun vs H Q E h=>?_) (fun cdv A outer s H vs Q E hr h=>?_)
 ·obtain ⟨x,o,rfl,_⟩:=h
  rfl
 ·obtain ⟨x,o,rfl,hx,ho,q⟩:=h
  refine ⟨_,(pss_cons (ps_if (pt_val (pe_callB call_isiXT (by rfl) hisi boot_isinstance (pac (pv 0) (pac (pe_tup (pac (pe_glob (v:=.ref c15) rfl N.m15 rfl) (pac (pe_glob (v:=.ref c12) rfl N.m12 rfl) (pac (pe_glob (v:=.ref c13) rfl N.m13 rfl) (pac (pe_glob (v:=.ref c16) rfl N.m16 rfl) (pac (pe_glob (v:=.ref c4) rfl N.m4 rfl) (pac (pe_glob (v:=.ref c1) rfl N.m1 rfl) (pac (pe_glob (v:=.ref c8) rfl N.m8 rfl) (pac (pe_glob (v:=.ref c11) rfl N.m11 rfl) (pac (pe_glob (v:=.ref c10) rfl N.m10 rfl) pa_nil)))))))))) pa_nil)))) (pss_one (ps_ret pe_bl)) pss_nil)
   (pss_one (ps_ret (pe_callB call_isiXT (by rfl) hisi boot_isinstance (pac (pv 0) (pac (pe_tup (pac (pe_glob (v:=.ref c17) rfl N.m17 rfl) (pac (pe_glob (v:=.ref c6) rfl N.m6 rfl) (pac (pe_glob (v:=.ref c9) rfl N.m9 rfl) (pac (pe_glob (v:=.ref c14) rfl N.m14 rfl) (pac (pe_glob (v:=.ref c7) rfl N.m7 rfl) (pac (pe_glob (v:=.ref c3) rfl N.m3 rfl) (pac (pe_glob (v:=.ref c2) rfl N.m2 rfl) pa_nil)))))))) pa_nil)))))),?_⟩
  refine ⟨_,rfl,szr rfl,fun t nt=>?_⟩
  have T1:=same_upd (o:=HO.tup [V.ref c15,V.ref c12,V.ref c13,V.ref c16,V.ref c4,V.ref c1,V.ref c8,V.ref c11,V.ref c10]) nt
  refine ⟨x,o,c5,t,[c15,c12,c13,c16,c4,c1,c8,c11,c10],false,rfl,T1 _ _ hx,ho,T.x,upd_same,kitAny_no fun c hc=>?_,_,rfl,iteF ?_⟩
  ·simp only [List.map_cons,List.map_nil,List.mem_cons,List.not_mem_nil,or_false] at hc
   rcases hc with rfl | rfl | rfl | rfl | rfl | rfl | rfl | rfl | rfl
   ·exact T.k15
   ·exact T.k12
   ·exact T.k13
   ·exact T.k16
   ·exact T.k4
   ·exact T.k1
   ·exact T.k8
   ·exact T.k11
   ·exact T.k10
  refine ⟨_,rfl,szr rfl,fun t2 nt2=>?_⟩
  have T2:=same_upd (o:=HO.tup [V.ref c17,V.ref c6,V.ref c9,V.ref c14,V.ref c7,V.ref c3,V.ref c2]) nt2
  refine ⟨x,o,c5,t2,[c17,c6,c9,c14,c7,c3,c2],false,rfl,(T1.trans T2) _ _ hx,ho,T.x,upd_same,kitAny_no fun c hc=>?_,q _ (T1.trans T2)⟩
  simp only [List.map_cons,List.map_nil,List.mem_cons,List.not_mem_nil,or_false] at hc
  rcases hc with rfl | rfl | rfl | rfl | rfl | rfl | rfl
  ·exact T.k17
  ·exact T.k6
  ·exact T.k9
  ·exact T.k14
  ·exact T.k7
  ·exact T.k3
  ·exact T.k2
def spRefd:Sp:=fun vs H Q _=>∃ (u:V) (k:Kn),vs=[u]∧Knd H u k∧(∀ z,u=.str z→z.length≤3000)∧Ref u∧∀ H',Same H H'→Q (.bl true) H'
theorem scRefd:FnScope ["_law_text_here","_law_error","_law_e"] ["_law_text_here"] (defScope sRefused):=⟨rfl,rfl,rfl,by decide +kernel,rfl,by decide +kernel,by decide +kernel⟩
theorem ok_refd {f fX fO:Addr} {fd fdX fdO:FuncData} {k:Nat} (D:Df K mg "_law_refused" sRefused f fd) (N:ENames mg c0 c1 c2 c3 c4 c5 c6 c7 c8 c9 c10 c11 c12 c13 c14 c15 c16 c17) (T:EKitN K c0 c1 c2 c3 c4 c5 c6 c7 c8 c9 c10 c11 c12 c13 c14 c15 c16 c17 c5 5)
  (DX:Df K mg "read" sRead fX fdX) (bX:Binds K fdX ["text"] []) (GX:FnOk P w K mg base (CXE P w) k fX fdX ["text"] (spRead c5))
  (DO:Df K mg "_law_is_other" sIsOther fO fdO) (bO:Binds K fdO ["_law_e"] []) (GO:FnOk P w K mg base CX0 1 fO fdO ["_law_e"] (spIsO c5)) (hisi:mg "isinstance"=none) (hval:mg "ValueError"=none) (h1:1≤k):FnOk P w K mg base CX0 (k + 1) f fd ["_law_text_here"] spRefd:=by
 refine D.F.ok scRefd (fun vs H Q E h=>?_) (fun cdv A outer s H vs Q E hr h=>?_)
 ·obtain ⟨u,kk,rfl,_⟩:=h
  rfl
 ·obtain ⟨u,kk,rfl,kd,hz,hR,k⟩:=h
  have hr1:Room 1 _:=hr.mono h1
  refine ⟨_,(pss_cons (ps_set (i:=1) scRefd.nd rfl (Or.inl rfl) pe_non)
   (pss_cons (ps_try (i:=2) (Cc:=c0) rfl rfl scRefd.nd rfl rfl rfl N.m0 (fun _ _ z=>z)
    (fun pn W=>pss_one (ps_expr (pe_callX GX hr rfl DX.m DX.F.kp bX (pac (pv 0) pa_nil))))
    (fun x pn=>pss_one (ps_set (i:=1) scRefd.nd rfl (Or.inl rfl) (pv 2))))
   (pss_one (ps_ret (pe_and (pe_callB call_isiX (by rfl) hisi boot_isinstance (pac (pv 1) (pac (pe_glob (v:=.ref c5) rfl N.m5 rfl) pa_nil))) (pe_and (pe_callB call_isiX (by rfl) hisi boot_isinstance (pac (pv 1) (pac (pe_bltn (v:=.ty "ValueError") (by rfl) hval PyProof.Rows.Boot.«ValueError» rfl) pa_nil)))
     (pe_one (pe_not (pec GO hr1 rfl DO.m DO.F.kp bO .nil pass0 (pac (pv 1) pa_nil)))))))))),?_⟩
  refine ⟨_,rfl,u,kk,rfl,kd,hz,fun _ H1 S1=>?_,fun z L xs uu H1 eu hl hrun S1 nL eL kL=>?_⟩
  ·refine ⟨T.ex,fun y o hn hx=>⟨_,rfl,?_⟩⟩
   have T1:=same_upd (o:=frzX o) hn
   refine ⟨_,rfl,y,o,c5,_,_,rfl,upd_same,hx,T.x,isi_ref T.k5,_,rfl,iteT ?_⟩
   refine ⟨_,rfl,y,o,c5,_,_,rfl,upd_same,hx,T.x,isi_ty T.v,_,rfl,iteT ?_⟩
   exact ⟨_,rfl,y,o,rfl,upd_same,hx,fun H2 S2=>⟨_,rfl,k _ ((S1.trans T1).trans S2)⟩⟩
  ·rw [eu] at hR
   rcases hR with h | h
   ·exact absurd h (by omega)
   ·cases h.one hrun
def spRight:Sp:=fun vs H Q _=>∃ z:Str,vs=[.str z]∧z.length≤2000∧∀ H',Same H H'→Q (.bl true) H'
theorem scRight:FnScope ["_law_text_here","_law_due"] ["_law_text_here"] (defScope sRight):=⟨rfl,rfl,rfl,by decide +kernel,rfl,by decide +kernel,by decide +kernel⟩
theorem ok_right {f fX fL fR:Addr} {fd fdX fdL fdR:FuncData} {k:Nat} (D:Df K mg "_law_right" sRight f fd) (DX:Df K mg "read" sRead fX fdX) (bX:Binds K fdX ["text"] []) (GX:FnOk P w K mg base (CXE P w) k fX fdX ["text"] (spRead c5))
  (DL:Df K mg "_law_read" sLRead fL fdL) (bL:Binds K fdL ["_law_text_here"] []) (GL:FnOk P w K mg base CX0 4 fL fdL ["_law_text_here"] spLRead)
  (DR:Df K mg "_law_refused" sRefused fR fdR) (bR:Binds K fdR ["_law_text_here"] []) (GR:FnOk P w K mg base CX0 (k + 1) fR fdR ["_law_text_here"] spRefd) (h4:4≤k):FnOk P w K mg base CX0 (k + 1 + 1) f fd ["_law_text_here"] spRight:=by
 refine D.F.ok scRight (fun vs H Q E h=>?_) (fun cdv A outer s H vs Q E hr h=>?_)
 ·obtain ⟨z,rfl,_⟩:=h
  rfl
 ·obtain ⟨z,rfl,hz,q⟩:=h
  have hr4:Room 4 _:=hr.mono (by omega)
  have hrk:Room k _:=hr.mono (by omega)
  refine ⟨_,(pss_cons (ps_set (i:=1) scRight.nd rfl (Or.inl rfl) (pec GL hr4 rfl DL.m DL.F.kp bL .nil pass0 (pac (pv 0) pa_nil)))
   (pss_cons (ps_if (pt_cmpR op_isN (pv 1) pe_non (nomark _)) (pss_one (ps_ret (pec GR hr rfl DR.m DR.F.kp bR .nil pass0 (pac (pv 0) pa_nil)))) pss_nil)
   (pss_one (ps_ret (pe_cmpR (op_eqSk hr4) (pec GX hrk rfl DX.m DX.F.kp bX .nil passX (pac (pv 0) pa_nil)) (pv 1) (nomark _)))))),?_⟩
  refine ⟨_,rfl,z,rfl,hz,fun hn H1 S1=>?_,fun L xs u H1 hrun S1 eL kL=>?_⟩
  ·refine ⟨_,rfl,rfl,_,rfl,ifB_pos (decide_eq_true rfl) ?_⟩
   exact ⟨_,rfl,.str z,.str,rfl,.str _,fun y e=>by cases e; omega,.inr hn,fun H2 S2=>q _ (S1.trans S2)⟩
  ·refine ⟨_,rfl,rfl,_,rfl,ifB_neg (decide_eq_false (fun e=>by cases e)) ?_⟩
   refine ⟨_,rfl,.str z,.str,rfl,.str _,fun y e=>by cases e; omega,fun hR=>?_,fun z' L2 xs2 uu H2 eu hl hrun2 S2 nL2 eL2 kL2=>?_⟩
   ·rcases hR with h | h
    ·exact absurd h (by omega)
    ·cases h.one hrun
   ·cases eu
    cases hrun.one hrun2
    exact ⟨_,rfl,L2,L,xs2,xs,u,rfl,rfl,eL2,S2 _ _ eL,kL2.same fr_same,kL.same S2,vds_gds (read_vd hrun),q _ (S1.trans S2)⟩
end
def lngW (n:Nat):List Str:=List.replicate n ("n":Str) ++ [("nw":Str)]
theorem lng_cat:∀ n:Nat,cat ((lngW n).map fun x=>x.cps.toList)=(List.replicate n [110,32]).flatten ++ [110,119]
 | 0=>rfl
 | n + 1=>by
  have ih:=lng_cat n
  unfold lngW at ih ⊢
  rw [List.replicate_succ,List.cons_append,List.map_cons]
  cases h:(List.replicate n ("n":Str) ++ [("nw":Str)]).map (fun x:Str=>x.cps.toList) with
  | nil=>simp at h
  | cons y r =>
   rw [h] at ih
   rw [cat_cons,ih,List.replicate_succ,List.flatten_cons,List.append_assoc]
   rfl
theorem lng_txt (n:Nat):rpS "n " n ++ ("nw":Str)=Txt.join blank (lngW n):=by
 refine str_inj ?_
 have e1:Txt.join blank (lngW n)=Str.join blank (lngW n):=StrLaws.glued_eq_join blank _
 rw [e1,join_cps,lng_cat]
 show ((rpS "n " n).cps ++ ("nw":Str).cps).toList=_
 rw [Array.toList_append,rpS_cps]
 rfl
theorem lng_words:wsO (rpS "n " 999 ++ ("nw":Str))=lngW 999:=by
 unfold wsO
 rw [if_neg (by rw [app_len,rpS_len]; decide +kernel),lng_txt]
 refine split_words (fun x hx=>?_) (by unfold lngW; simp)
 unfold lngW at hx
 rcases List.mem_append.mp hx with h | h
 ·rw [List.eq_of_mem_replicate h]
  decide +kernel
 ·rw [List.mem_singleton.mp h]
  decide +kernel
theorem lng_run:∀ (n:Nat) (l:List Sk),Run [(.no,l)] (lngW n) (some (l ++ List.replicate n (Sk.line false 0 1) ++ [Sk.line false (-1) 1]))
 | 0,l=>by
  have e:stp [(.no,l)] "nw" []=some ([(.no,l ++ [Sk.line false (-1) 1])],[]):=by
   unfold stp
   rw [if_neg (by decide +kernel),smp_way (p:=(-1,1)) (by decide +kernel)]
   rfl
  refine .go e ?_
  rw [show List.replicate 0 (Sk.line false 0 1)=[] from rfl,List.append_nil]
  exact .end1
 | n + 1,l=>by
  have e:stp [(.no,l)] "n" (lngW n)=some ([(.no,l ++ [Sk.line false 0 1])],lngW n):=by
   unfold stp
   rw [if_neg (by decide +kernel),smp_way (p:=(0,1)) (by decide +kernel)]
   rfl
  refine .go e ?_
  have:=lng_run n (l ++ [Sk.line false 0 1])
  rw [List.append_assoc l [Sk.line false 0 1]] at this
  exact this
def lngU:List Sk:=List.replicate 999 (Sk.line false 0 1) ++ [Sk.line false (-1) 1]
theorem lng_read:Run S0 (wsO (rpS "n " 999 ++ ("nw":Str))) (some lngU):=by
 rw [lng_words]
 exact lng_run 999 []
theorem rep_sks {H:Hp} {t:Addr} (e:H t=some (.tup [.str "line",.int 0,.int 1])):∀ n:Nat,SksIs H (List.replicate n [V.ref t]).flatten (List.replicate n (Sk.line false 0 1))
 | 0=>.nil
 | n + 1=>.cons (.line e) (rep_sks e n)
section
variable {P:Program} {w:World} {K:PySem.W.Frag} {mg:Str→Option Value} {base:Heap} {c5:Addr}
def spLaw (K:PySem.W.Frag):Sp:=fun vs H Q _=>∃ (a:Addr) (ns:List Int),vs=[.ref a]∧SqL K H a (ns.map V.int)∧ns.length≤63∧∀ H',Q (.bl true) H'
theorem scLaw:FnScope ["_law_script","_law_k","_law_many","_law_long","_law_text_here"] ["_law_script"] (defScope sLaw):=⟨rfl,rfl,rfl,by decide +kernel,rfl,by decide +kernel,by decide +kernel⟩
theorem ok_law {f fC fT fR fX fF:Addr} {fd fdC fdT fdR fdX fdF:FuncData} {k:Nat} (D:Df K mg "law" sLaw f fd) (B:Blt mg)
  (DC:Df K mg "_law_cell_at" sCell fC fdC) (bC:Binds K fdC ["_law_script","_law_k"] []) (GC:FnOk P w K mg base CX0 1 fC fdC ["_law_script","_law_k"] (spCell K))
  (DT:Df K mg "_law_text" sText fT fdT) (bT:Binds K fdT ["_law_one","_law_two"] []) (GT:FnOk P w K mg base CX0 5 fT fdT ["_law_one","_law_two"] spText)
  (DR:Df K mg "_law_right" sRight fR fdR) (bR:Binds K fdR ["_law_text_here"] []) (GR:FnOk P w K mg base CX0 (k + 1 + 1) fR fdR ["_law_text_here"] spRight)
  (DX:Df K mg "read" sRead fX fdX) (bX:Binds K fdX ["text"] []) (GX:FnOk P w K mg base (CXE P w) k fX fdX ["text"] (spRead c5))
  (DF:Df K mg "_law_refused" sRefused fF fdF) (bF:Binds K fdF ["_law_text_here"] []) (GF:FnOk P w K mg base CX0 (k + 1) fF fdF ["_law_text_here"] spRefd) (h5:5≤k) :
  FnOk P w K mg base CX0 (k + 1 + 1 + 1) f fd ["_law_script"] (spLaw K):=by
 refine D.F.ok scLaw (fun vs H Q E h=>?_) (fun cdv Ar outer s H vs Q E hr h=>?_)
 ·obtain ⟨a,ns,rfl,_⟩:=h
  rfl
 ·obtain ⟨a,ns,rfl,hS,hlen,z⟩:=h
  have hr1:Room 1 _:=hr.mono (by omega)
  have hr5:Room 5 _:=hr.mono (by omega)
  have hrk:Room k _:=hr.mono (by omega)
  have hrk1:Room (k + 1) _:=hr.mono (by omega)
  refine ⟨_,(pss_cons (ps_for PassesOwn.never rfl (pi_range3 rfl B.range (pac (pe_int) (pac (pe_op op_add (pe_callB (call_min2 rfl) (by rfl) B.min boot_min (pac (pe_callB call_len_seq (by rfl) B.len PySem.boot_len (pac (pv 0) pa_nil)) (pac (pe_int) pa_nil))) pe_int) (pac (pe_int) pa_nil)))) (pg_name (i:=1) scLaw.nd rfl (Or.inl rfl)) (pss_one (ps_if (pt_not (pt_val (pec GR hr rfl DR.m DR.F.kp bR .nil pass0 (pac (pec GT hr5 rfl DT.m DT.F.kp bT .nil pass0 (pac (pec GC hr1 rfl DC.m DC.F.kp bC .nil pass0 (pac (pv 0) (pac (pv 1) pa_nil))) (pac (pec GC hr1 rfl DC.m DC.F.kp bC .nil pass0 (pac (pv 0) (pac (pe_op op_add (pv 1) pe_int) pa_nil))) pa_nil))) pa_nil)))) (pss_one (ps_never)) pss_nil)))
   (pss_cons (ps_for PassesOwn.never rfl (pi_list (pe_lst (pac (pe_int) (pac (pe_int) pa_nil)))) (pg_name (i:=2) scLaw.nd rfl (Or.inl rfl)) (pss_one (ps_if (pt_not (pt_val (pec GR hr rfl DR.m DR.F.kp bR .nil pass0 (pac (pe_op op_add_str (pe_op op_add_str (pe_op op_mulS pe_str (pv 2)) pe_str) (pe_op op_mulS pe_str (pv 2))) pa_nil)))) (pss_one (ps_never)) pss_nil)))
   (pss_cons (ps_set (i:=3) scLaw.nd rfl (Or.inl rfl) (pe_op op_add_str (pe_op op_mulS pe_str pe_int) pe_str))
   (pss_cons (ps_if (pt_cmpR (op_neSk hr1) (pec GX hrk rfl DX.m DX.F.kp bX .nil passX (pac (pv 3) pa_nil)) (pe_op op_cat (pe_op op_rep (pe_lst (pac (pe_tup (pac (pe_str) (pac (pe_int) (pac (pe_int) pa_nil)))) pa_nil)) pe_int) (pe_lst (pac (pe_tup (pac (pe_str) (pac (pe_un un_neg pe_int) (pac (pe_int) pa_nil)))) pa_nil))) (nomark _)) (pss_one (ps_never)) pss_nil)
   (pss_cons (ps_for PassesOwn.never rfl (pi_list (pe_lst (pac (pe_op op_add_str (pe_op op_mulS pe_str pe_int) pe_str) (pac (pe_op op_add_str (pv 3) (pe_op op_mulS pe_str (pe_op op_add pe_int (pe_op op_mod (pec GC hr1 rfl DC.m DC.F.kp bC .nil pass0 (pac (pv 0) (pac (pe_int) pa_nil))) pe_int)))) (pac (pe_int) (pac (pe_non) (pac (pe_lst (pac (pe_str) pa_nil)) (pac (pe_bl) pa_nil)))))))) (pg_name (i:=4) scLaw.nd rfl (Or.inl rfl)) (pss_one (ps_if (pt_not (pt_val (pec GF hrk1 rfl DF.m DF.F.kp bF .nil pass0 (pac (pv 4) pa_nil)))) (pss_one (ps_never)) pss_nil)))
   (pss_one (ps_ret pe_bl))))))),?_⟩
  have nl:(ns.map V.int).length=ns.length:=List.length_map ..
  refine ⟨_,rfl,a,_,rfl,.inl hS,_,_,rfl,_,_,rfl,rfl,0,_,rfl,⟨by decide,by decide,?_,?_⟩,?_⟩
  ·rw [nl]; split <;> omega
  ·rw [nl]; split <;> omega
  refine for_range2 (fun i σ H1=>(∃ v1,σ=[some (.ref a),v1,none,none,none])∧Same H H1) ⟨⟨_,rfl⟩,Same.refl H⟩ ?_ ?_
  ·rintro i σ H1 hi ⟨⟨v1,rfl⟩,S1⟩
   refine ⟨_,rfl,_,rfl,a,ns,_,rfl,S1.seq hS,by omega,fun c1=>?_⟩
   refine ⟨_,rfl,_,rfl,_,_,rfl,rfl,a,ns,_,rfl,S1.seq hS,by omega,fun c2=>?_⟩
   refine ⟨c1,c2,rfl,fun t H2 lt S2=>?_⟩
   exact ⟨t,rfl,lt,fun H3 S3=>⟨_,rfl,iteF ⟨⟨_,rfl⟩,S1.trans (S2.trans S3)⟩⟩⟩
  rintro σ H1 ⟨⟨v1,rfl⟩,S1⟩
  refine ⟨szr rfl,fun l nl=>?_⟩
  have T1:=same_upd (o:=HO.lst [V.int 8,.int 9]) nl
  refine ⟨l,rfl,⟨_,SqL.of upd_same⟩,?_⟩
  refine for_list (K:=K) (a:=l) (xs:=[V.int 8,.int 9]) (fun i σ H2=>(∃ v2,σ=[some (.ref a),v1,v2,none,none])∧Same H H2∧H2 l=some (.lst [V.int 8,.int 9])) ⟨⟨_,rfl⟩,S1.trans T1,upd_same⟩ (fun i σ H2 _ h=>SqL.of h.2.2) ?_ ?_
  ·rintro i y σ H2 hy ⟨⟨v2,rfl⟩,S2,e2⟩
   obtain ⟨n,rfl,n1,n9⟩:∃ n:Nat,y=V.int (n:Int)∧1≤n∧n≤9:=by
    have:=List.mem_of_getElem? hy
    simp only [List.mem_cons,List.not_mem_nil,or_false] at this
    rcases this with rfl | rfl
    ·exact ⟨8,rfl,by decide,by decide⟩
    ·exact ⟨9,rfl,by decide,by decide⟩
   have l1:("( ":Str).length=2:=by decide +kernel
   have l2:(" )":Str).length=2:=by decide +kernel
   have l3:("se":Str).length=2:=by decide +kernel
   refine ⟨_,rfl,"( ",n,rfl,rfl,n1,by rw [l1]; decide,by rw [l1]; decide,by rw [l1]; omega,_,_,rfl,rfl,?_,_,rfl," )",n,rfl,rfl,n1,by rw [l2]; decide,by rw [l2]; decide,by rw [l2]; omega,_,_,rfl,rfl,?_,?_⟩
   ·rw [rpS_len,l1,l3,sizeLine_eq]; omega
   ·rw [app_len,rpS_len,rpS_len,l1,l2,l3,sizeLine_eq]; omega
   ·refine ⟨_,rfl,?_,fun H3 S3=>⟨_,rfl,iteF ⟨⟨_,rfl⟩,S2.trans S3,S3 _ _ e2⟩⟩⟩
    rw [app_len,app_len,rpS_len,rpS_len,l1,l2,l3]; omega
  rintro σ H2 ⟨⟨v2,rfl⟩,S2,_⟩
  have ln:("n ":Str).length=2:=by decide +kernel
  have lw:("nw":Str).length=2:=by decide +kernel
  refine ⟨"n ",999,rfl,rfl,by decide,by rw [ln]; decide,by rw [ln]; decide,by rw [ln]; decide,_,_,rfl,rfl,by rw [rpS_len,ln,lw,sizeLine_eq]; omega,?_⟩
  have lL:(rpS "n " 999 ++ ("nw":Str)).length=2000:=by rw [app_len,rpS_len,ln,lw]
  have hL:=lng_read
  revert lL hL
  generalize rpS "n " 999 ++ ("nw":Str)=lg
  intro lL hL
  refine ⟨_,rfl,.str lg,.str,rfl,.str _,fun y e=>by cases e; omega,fun hR=>?_,fun z' L xs uu H3 eu hl hrun S3 nL eL kL=>?_⟩
  ·rcases hR with h | h
   ·exact absurd h (by omega)
   ·cases h.one hL
  cases eu
  cases hL.one hrun
  refine ⟨szr rfl,fun t1 n1=>⟨szr rfl,fun p1 m1=>?_⟩⟩
  have U1:=same_upd (o:=HO.tup [V.str "line",.int 0,.int 1]) n1
  have U2:=same_upd (o:=HO.lst [V.ref t1]) m1
  refine ⟨p1,999,_,rfl,rfl,upd_same,by decide,by decide,by rw [sizeLine_eq]; show 1 * 999≤16777216; decide,fun p2 m2=>?_⟩
  have U3:=same_upd (o:=HO.lst (List.replicate (Int.toNat 999) [V.ref t1]).flatten) m2
  refine ⟨_,rfl,szr rfl,fun t2 n2=>⟨szr rfl,fun p3 m3=>?_⟩⟩
  have U4:=same_upd (o:=HO.tup [V.str "line",.int (-1),.int 1]) n2
  have U5:=same_upd (o:=HO.lst [V.ref t2]) m3
  refine ⟨p2,p3,_,_,rfl,rfl,(U4.trans U5) _ _ upd_same,upd_same,?_,fun p4 m4=>?_⟩
  ·rw [len_rep,sizeLine_eq]
   show 999 * 1 + 1≤16777216
   decide
  have U6:=same_upd (o:=HO.lst ((List.replicate (Int.toNat 999) [V.ref t1]).flatten ++ [V.ref t2])) m4
  have U26:=U2.trans (U3.trans (U4.trans (U5.trans U6)))
  have UU:=U1.trans U26
  have S23:=S2.trans (S3.trans UU)
  have kk:SksIs _ ((List.replicate (Int.toNat 999) [V.ref t1]).flatten ++ [V.ref t2]) lngU:=SksIs.snoc (rep_sks (U26 _ _ upd_same) 999) (.line ((U5.trans U6) _ _ upd_same))
  refine ⟨L,p4,xs,_,lngU,rfl,rfl,UU _ _ eL,upd_same,(kL.same fr_same).same UU,kk,vds_gds (read_vd hL),_,rfl,ifB_neg rfl ?_⟩
  clear kk
  have lns:("n s":Str).length=3:=by decide +kernel
  have lbn:(" n":Str).length=2:=by decide +kernel
  revert S23
  generalize (upd (upd (upd (upd (upd (upd H3 t1 _) p1 _) p2 _) t2 _) p3 _) p4 _)=H4
  intro S23
  refine ⟨"n ",999,rfl,rfl,by decide,by rw [ln]; decide,by rw [ln]; decide,by rw [ln]; decide,_,_,rfl,rfl,by rw [rpS_len,ln,lns,sizeLine_eq]; omega,?_⟩
  refine ⟨_,rfl,_,rfl,a,ns,0,rfl,S23.seq hS,by decide,fun c0=>?_⟩
  obtain ⟨m,hm⟩:∃ m:Nat,1 + c0 % 6=(m:Int):=⟨_,(Int.toNat_of_nonneg (by omega)).symm⟩
  have m1':1≤m:=by omega
  have m6:m≤6:=by omega
  refine ⟨_,_,rfl,rfl,(by show (0:Int) < 6; decide),_,_,rfl,rfl," n",m,rfl,by show V.int (1 + c0 % 6)=_; rw [hm],m1',by rw [lbn]; decide,by rw [lbn]; decide,by rw [lbn]; omega,_,_,rfl,rfl,by rw [rpS_len,lbn,lL,sizeLine_eq]; omega,?_⟩
  have q1:Ref (.str (rpS "n " 999 ++ ("n s":Str))):=.inl (by rw [app_len,rpS_len,ln,lns]; decide)
  have q1':(rpS "n " 999 ++ ("n s":Str)).length≤3000:=by rw [app_len,rpS_len,ln,lns]; decide
  have q2:Ref (.str (lg ++ rpS " n" m)):=.inl (by rw [app_len,rpS_len,lbn,lL]; omega)
  have q2':(lg ++ rpS " n" m).length≤3000:=by rw [app_len,rpS_len,lbn,lL]; omega
  revert q1 q1' q2 q2'
  generalize rpS "n " 999 ++ ("n s":Str)=z1
  generalize lg ++ rpS " n" m=z2
  intro q1 q1' q2 q2'
  refine ⟨szr rfl,fun ln1 mn1=>⟨szr rfl,fun lr mr=>?_⟩⟩
  have V1:=same_upd (o:=HO.lst [V.str "n"]) mn1
  have V2:=same_upd (o:=HO.lst [V.str z1,.str z2,.int 5,.non,.ref ln1,.bl true]) mr
  refine ⟨lr,rfl,⟨_,SqL.of upd_same⟩,?_⟩
  refine for_list (K:=K) (a:=lr) (xs:=[V.str z1,.str z2,.int 5,.non,.ref ln1,.bl true]) (fun i σ H5=>(∃ v4,σ=[some (.ref a),v1,v2,some (.str lg),v4])∧H5 lr=some (.lst [V.str z1,.str z2,.int 5,.non,.ref ln1,.bl true])∧H5 ln1=some (.lst [V.str "n"])) ⟨⟨_,rfl⟩,upd_same,V2 _ _ upd_same⟩ (fun i σ H5 _ h=>SqL.of h.2.1) ?_ ?_
  ·rintro i y σ H5 hy ⟨⟨v4,rfl⟩,e5,e6⟩
   have hm:=List.mem_of_getElem? hy
   obtain ⟨kd,hkd,hrf,hlen⟩:∃ kd,Knd H5 y kd∧Ref y∧∀ z,y=.str z→z.length≤3000:=by
    simp only [List.mem_cons,List.not_mem_nil,or_false] at hm
    rcases hm with rfl | rfl | rfl | rfl | rfl | rfl
    ·exact ⟨_,.str _,q1,fun z e=>by cases e; exact q1'⟩
    ·exact ⟨_,.str _,q2,fun z e=>by cases e; exact q2'⟩
    ·exact ⟨_,.int _,True.intro,fun z e=>by cases e⟩
    ·exact ⟨_,.non,True.intro,fun z e=>by cases e⟩
    ·exact ⟨_,.lst e6,True.intro,fun z e=>by cases e⟩
    ·exact ⟨_,.bl _,True.intro,fun z e=>by cases e⟩
   exact ⟨_,rfl,y,kd,rfl,hkd,hlen,hrf,fun H6 S6=>⟨_,rfl,iteF ⟨⟨_,rfl⟩,S6 _ _ e5,S6 _ _ e6⟩⟩⟩
  ·rintro σ H5 ⟨⟨v4,rfl⟩,_,_⟩
   exact z _
end
end K22
namespace K22
open PySem PySem.Spec PyProof.Rows L2 BF
theorem kis {P:Program} {w:World} (x:Str) (t:Tok):(mixKind P w).is (Sum.inr x) (.str x t)=true:=by simp [mixKind,keyIs,Value.isStrOf]
def wayA (l:List Addr) (x:Str):Addr:=(((ways8.map (·.1)).zip l).lookup x).getD 0
theorem wy_mk {P:Program} {w:World} {K:PySem.W.Frag} {mg:Str→Option Value} {d q0 q1 q2 q3 q4 q5 q6 q7 ep n0 n1 n2 n3 n4 n5 n6 n7:Nat} {k0 a0 b0 k1 a1 b1 k2 a2 b2 k3 a3 b3 k4 a4 b4 k5 a5 b5 k6 a6 b6 k7 a7 b7:Tok} {o0 o1 o2 o3 o4 o5 o6 o7:Option Addr} {s0 s1 s2 s3 s4 s5 s6 s7:Array (Option Value)}
  (m:mg "WAYS"=some (.ref d)) (s:(d == sysModules)=false) (l:K.lookup d=some ⟨.type "dict",none,.dict #[⟨PyData.keyHash w.params "n",.str "n" k0,.ref q0⟩,⟨PyData.keyHash w.params "ne",.str "ne" k1,.ref q1⟩,⟨PyData.keyHash w.params "e",.str "e" k2,.ref q2⟩,⟨PyData.keyHash w.params "se",.str "se" k3,.ref q3⟩,⟨PyData.keyHash w.params "s",.str "s" k4,.ref q4⟩,⟨PyData.keyHash w.params "sw",.str "sw" k5,.ref q5⟩,⟨PyData.keyHash w.params "w",.str "w" k6,.ref q6⟩,⟨PyData.keyHash w.params "nw",.str "nw" k7,.ref q7⟩] ep,#[]⟩)
  (l0:K.lookup q0=some ⟨.type "tuple",o0,.seq #[.int (0) a0,.int (1) b0] n0,s0⟩) (l1:K.lookup q1=some ⟨.type "tuple",o1,.seq #[.int (1) a1,.int (1) b1] n1,s1⟩) (l2:K.lookup q2=some ⟨.type "tuple",o2,.seq #[.int (1) a2,.int (0) b2] n2,s2⟩) (l3:K.lookup q3=some ⟨.type "tuple",o3,.seq #[.int (1) a3,.int (-1) b3] n3,s3⟩) (l4:K.lookup q4=some ⟨.type "tuple",o4,.seq #[.int (0) a4,.int (-1) b4] n4,s4⟩) (l5:K.lookup q5=some ⟨.type "tuple",o5,.seq #[.int (-1) a5,.int (-1) b5] n5,s5⟩) (l6:K.lookup q6=some ⟨.type "tuple",o6,.seq #[.int (-1) a6,.int (0) b6] n6,s6⟩) (l7:K.lookup q7=some ⟨.type "tuple",o7,.seq #[.int (-1) a7,.int (1) b7] n7,s7⟩):Wy P w K mg:=by
 refine ⟨d,wayA [q0,q1,q2,q3,q4,q5,q6,q7],m,⟨s,_,_,_,[(Sum.inr "n",.ref q0),(Sum.inr "ne",.ref q1),(Sum.inr "e",.ref q2),(Sum.inr "se",.ref q3),(Sum.inr "s",.ref q4),(Sum.inr "sw",.ref q5),(Sum.inr "w",.ref q6),(Sum.inr "nw",.ref q7)],l,⟨rfl,rfl,rfl⟩,rfl,?_,?_,?_,?_⟩,?_⟩
 ·intro e he
  simp only [List.mem_toArray,List.mem_cons,List.not_mem_nil,or_false] at he
  rcases he with rfl | rfl | rfl | rfl | rfl | rfl | rfl | rfl
  ·exact ⟨Sum.inr "n",kis _ _,rfl⟩
  ·exact ⟨Sum.inr "ne",kis _ _,rfl⟩
  ·exact ⟨Sum.inr "e",kis _ _,rfl⟩
  ·exact ⟨Sum.inr "se",kis _ _,rfl⟩
  ·exact ⟨Sum.inr "s",kis _ _,rfl⟩
  ·exact ⟨Sum.inr "sw",kis _ _,rfl⟩
  ·exact ⟨Sum.inr "w",kis _ _,rfl⟩
  ·exact ⟨Sum.inr "nw",kis _ _,rfl⟩
 ·exact .cons (kis _ _) rfl (.cons (kis _ _) rfl (.cons (kis _ _) rfl (.cons (kis _ _) rfl (.cons (kis _ _) rfl (.cons (kis _ _) rfl (.cons (kis _ _) rfl (.cons (kis _ _) rfl (.nil))))))))
 ·show ([Sum.inr "n",Sum.inr "ne",Sum.inr "e",Sum.inr "se",Sum.inr "s",Sum.inr "sw",Sum.inr "w",Sum.inr "nw"]:List Key).Nodup
  decide +kernel
 ·exact .cons ⟨rfl,rfl⟩ (.cons ⟨rfl,rfl⟩ (.cons ⟨rfl,rfl⟩ (.cons ⟨rfl,rfl⟩ (.cons ⟨rfl,rfl⟩ (.cons ⟨rfl,rfl⟩ (.cons ⟨rfl,rfl⟩ (.cons ⟨rfl,rfl⟩ (.nil))))))))
 ·intro x hx H
  simp only [ways8,List.mem_cons,List.not_mem_nil,or_false] at hx
  rcases hx with rfl | rfl | rfl | rfl | rfl | rfl | rfl | rfl
  ·exact .inr ⟨_,_,_,l0,rfl,rfl,szr rfl,.cons ⟨_,rfl⟩ (.cons ⟨_,rfl⟩ .nil)⟩
  ·exact .inr ⟨_,_,_,l1,rfl,rfl,szr rfl,.cons ⟨_,rfl⟩ (.cons ⟨_,rfl⟩ .nil)⟩
  ·exact .inr ⟨_,_,_,l2,rfl,rfl,szr rfl,.cons ⟨_,rfl⟩ (.cons ⟨_,rfl⟩ .nil)⟩
  ·exact .inr ⟨_,_,_,l3,rfl,rfl,szr rfl,.cons ⟨_,rfl⟩ (.cons ⟨_,rfl⟩ .nil)⟩
  ·exact .inr ⟨_,_,_,l4,rfl,rfl,szr rfl,.cons ⟨_,rfl⟩ (.cons ⟨_,rfl⟩ .nil)⟩
  ·exact .inr ⟨_,_,_,l5,rfl,rfl,szr rfl,.cons ⟨_,rfl⟩ (.cons ⟨_,rfl⟩ .nil)⟩
  ·exact .inr ⟨_,_,_,l6,rfl,rfl,szr rfl,.cons ⟨_,rfl⟩ (.cons ⟨_,rfl⟩ .nil)⟩
  ·exact .inr ⟨_,_,_,l7,rfl,rfl,szr rfl,.cons ⟨_,rfl⟩ (.cons ⟨_,rfl⟩ .nil)⟩
end K22
def PySem.W.Fast.tw8446833582927630517:=0
def PySem.W.Fast.tw10140788729057006422:=0
def PySem.W.Fast.tw1050561726283992658:=0
def PySem.W.Fast.tw13776447361792312740:=0
def PySem.W.Fast.tw11778355067182627835:=0
def PySem.W.Fast.tw11643910966040097940:=0
def PySem.W.Fast.tw8044795205134735930:=0
def PySem.W.Fast.tw1768575658150085220:=0
def PySem.W.Fast.tw10035838834020853799:=0
def PySem.W.Fast.tw7096497765179735894:=0
def PySem.W.Fast.tw8408984817657703663:=0
def PySem.W.Fast.tw12657835104589113508:=0
def PySem.W.Fast.tw3801901297205171413:=0
def PySem.W.Fast.tw10354831251838015957:=0
def PySem.W.Fast.tw2937663998297729255:=0
def PySem.W.Fast.tw7933459695202421253:=0
def PySem.W.Fast.tw17935199247330630294:=0
def PySem.W.Fast.tw12627896344644565106:=0
def PySem.W.Fast.tw13183413960378192394:=0
def PySem.W.Fast.tw13204491754641307132:=0
def PySem.W.Fast.tw7964951482229222864:=0
def PySem.W.Fast.tw8673903424715925530:=0
def PySem.W.Fast.tw466221705061699823:=0
def PySem.W.Fast.tw17644143156925485048:=0
def PySem.W.Fast.tw1671880939131278248:=0
def PySem.W.Fast.tw8855440410015221014:=0
def PySem.W.Fast.tw12212778401665676630:=0
def PySem.W.Fast.tw3892032431537929064:=0
def PySem.W.Fast.tw16113740731875714538:=0
def PySem.W.Fast.tw14388274563717633592:=0
def PySem.W.Fast.tw13317896506523150022:=0
def PySem.W.Fast.tw2907938331989787418:=0
def PySem.W.Fast.tw16760988449453406487:=0
def PySem.W.Fast.tw6982561203902585668:=0
def PySem.W.Fast.tw11176033889170545569:=0
def PySem.W.Fast.tw13938580757456756067:=0
def PySem.W.Fast.tw5985378882213479105:=0
def PySem.W.Fast.tw8120106946941271923:=0
def PySem.W.Fast.tw2847885022797647844:=0
def PySem.W.Fast.tw3758631273758334715:=0
def PySem.W.Fast.tw4709905439601816030:=0
def PySem.W.Fast.tw5623642378022267571:=0
def PySem.W.Fast.tw12396858020526679851:=0
def PySem.W.Fast.tw17952538706516361453:=0
def PySem.W.Fast.tw17845633404608958755:=0
def PySem.W.Fast.tw18054286593976011540:=0
def PySem.W.Fast.tw12798983321469555031:=0
def PySem.W.Fast.tw10522943410272308086:=0
def PySem.W.Fast.tw12960848386006804738:=0
def PySem.W.Fast.tw7260141899389272391:=0
def PySem.W.Fast.tw12812086543777024468:=0
def PySem.W.Fast.tw14230379088065500400:=0
def PySem.W.Fast.tw15828126838800692973:=0
def PySem.W.Fast.tw8474745545326976041:=0
def PySem.W.Fast.tw8288341521985254122:=0
def PySem.W.Fast.tw18368442414146224712:=0
def PySem.W.Fast.tw3029235512619274565:=0
def PySem.W.Fast.tw17785725957793905624:=0
def PySem.W.Fast.tw3704271941819912043:=0
def PySem.W.Fast.tw3956749671264774534:=0
def PySem.W.Fast.tw2475383342368269821:=0
def PySem.W.Fast.tw9451023162696395196:=0
def PySem.W.Fast.tw17099524620104285552:=0
def PySem.W.Fast.tw913073682631721691:=0
def PySem.W.Fast.tw7624157676289274021:=0
def PySem.W.Fast.tw3965006357698903448:=0
def PySem.W.Fast.tw11099858497627951488:=0
def PySem.W.Fast.tw18385196778339651335:=0
def PySem.W.Fast.tw13742178590748458462:=0
def PySem.W.Fast.tw18129212615328351702:=0
def PySem.W.Fast.tw16248271563953583598:=0
def PySem.W.Fast.tw14064917196448868676:=0
def PySem.W.Fast.tw7989704372182180607:=0
def PySem.W.Fast.tw14994632078721112422:=0
def PySem.W.Fast.tw11531829731998156929:=0
def PySem.W.Fast.tw15806379757717829644:=0
def PySem.W.Fast.tw8558694549951275428:=0
def PySem.W.Fast.tw4696936823029603236:=0
def PySem.W.Fast.tw6517848336987375688:=0
def PySem.W.Fast.tw4728241270361928143:=0
def PySem.W.Fast.tw13047463092059691703:=0
def PySem.W.Fast.tw4510721385182827382:=0
def PySem.W.Fast.tw2471701632816559703:=0
def PySem.W.Fast.tw6276144156209615746:=0
def PySem.W.Fast.tw14411237448864027557:=0
def PySem.W.Fast.tw6190612691454487027:=0
def PySem.W.Fast.tw431490044216420234:=0
def PySem.W.Fast.tw8658421021095987288:=0
def PySem.W.Fast.tw15621095815624078166:=0
def PySem.W.Fast.tw3262670238721150665:=0
def PySem.W.Fast.tw8097830332115636595:=0
def PySem.W.Fast.tw10584875586175349226:=0
def PySem.W.Fast.tw7049501826020765527:=0
def PySem.W.Fast.tw14386866321105900483:=0
def PySem.W.Fast.tw14200719992621924461:=0
def PySem.W.Fast.tw803972750156746322:=0
def PySem.W.Fast.tw688789732156737245:=0
def PySem.W.Fast.tw14852991631015049943:=0
def PySem.W.Fast.tw9003535251320035396:=0
def PySem.W.Fast.tw12925734061762382941:=0
namespace K22
open PySem PySem.Spec PyProof.Rows L2 BF
theorem ln1 {us:List Value} (h:us.length=1):∃ a0,us=[a0]:=match us,h with | [a0],_=>⟨a0,rfl⟩
theorem ln2 {us:List Value} (h:us.length=2):∃ a0 a1,us=[a0,a1]:=match us,h with | [a0,a1],_=>⟨a0,a1,rfl⟩
theorem ln3 {us:List Value} (h:us.length=3):∃ a0 a1 a2,us=[a0,a1,a2]:=match us,h with | [a0,a1,a2],_=>⟨a0,a1,a2,rfl⟩
theorem all_mk {l:PySem.W.OpenLaw} {w:World} {K:PySem.W.Frag} {h:Heap} {mg:Str→Option Value} {fa fCo fNx fEx fNw fNu fRL fRB fRK fRT fRM fRI fRS fRR fRd fCe fN fWy fF fPl fHd fCz fTr fWd fSp fTx fWi fBg fSi fLr fIo fRf fRg fZ:Addr} (X:K.In h) (G:h.Ns mainGlobals mg) (hfa:mg "law"=some (.ref fa))
  {odCo anCo odNx anNx odEx anEx odNw anNw odNu anNu odRL anRL odRB anRB odRK anRK odRT anRT odRM anRM odRI anRI odRS anRS odRR anRR odRd anRd odCe anCe odN anN odWy anWy odF anF odPl anPl odHd anHd odCz anCz odTr anTr odWd anWd odSp anSp odTx anTx odWi anWi odBg anBg odSi anSi odLr anLr odIo anIo odRf anRf odRg anRg odZ anZ:Option Addr} {slCo slNx slEx slNw slNu slRL slRB slRK slRT slRM slRI slRS slRR slRd slCe slN slWy slF slPl slHd slCz slTr slWd slSp slTx slWi slBg slSi slLr slIo slRf slRg slZ:Array (Option Value)} {ocCo kVCo dcCo pmCo cdCo ctCo ocNx kVNx dcNx pmNx cdNx ctNx ocEx kVEx dcEx pmEx cdEx ctEx ocNw kVNw dcNw pmNw cdNw ctNw ocNu kVNu dcNu pmNu cdNu ctNu ocRL kVRL dcRL pmRL cdRL ctRL ocRB kVRB dcRB pmRB cdRB ctRB ocRK kVRK dcRK pmRK cdRK ctRK ocRT kVRT dcRT pmRT cdRT ctRT ocRM kVRM dcRM pmRM cdRM ctRM ocRI kVRI dcRI pmRI cdRI ctRI ocRS kVRS dcRS pmRS cdRS ctRS ocRR kVRR dcRR pmRR cdRR ctRR ocRd kVRd dcRd pmRd cdRd ctRd ocCe kVCe dcCe pmCe cdCe ctCe ocN kVN dcN pmN cdN ctN ocWy kVWy dcWy pmWy cdWy ctWy ocF kVF dcF pmF cdF ctF ocPl kVPl dcPl pmPl cdPl ctPl ocHd kVHd dcHd pmHd cdHd ctHd ocCz kVCz dcCz pmCz cdCz ctCz ocTr kVTr dcTr pmTr cdTr ctTr ocWd kVWd dcWd pmWd cdWd ctWd ocSp kVSp dcSp pmSp cdSp ctSp ocTx kVTx dcTx pmTx cdTx ctTx ocWi kVWi dcWi pmWi cdWi ctWi ocBg kVBg dcBg pmBg cdBg ctBg ocSi kVSi dcSi pmSi cdSi ctSi ocLr kVLr dcLr pmLr cdLr ctLr ocIo kVIo dcIo pmIo cdIo ctIo ocRf kVRf dcRf pmRf cdRf ctRf ocRg kVRg dcRg pmRg cdRg ctRg ocZ kVZ dcZ pmZ cdZ ctZ:Value} {t_far t_lon t_most t_sig t_fig t_dep t_rou t_las:Tok}
  (aCo:PySem.W.nsIn K mainGlobals "is_colour"=some (some (.ref fCo))) (lCo:K.lookup fCo=some ⟨ocCo,odCo,.func (PySem.W.fnOf "is_colour" "is_colour" (defArgs sColour) (defBody sColour) (defScope sColour) .none kVCo dcCo pmCo anCo cdCo ctCo),slCo⟩) (cCo:PySem.W.codeIn K cdCo "is_colour"=true) (kCo:PySem.W.keepIn K (.ref fCo)=true)
  (aNx:PySem.W.nsIn K mainGlobals "next_word"=some (some (.ref fNx))) (lNx:K.lookup fNx=some ⟨ocNx,odNx,.func (PySem.W.fnOf "next_word" "next_word" (defArgs sNext) (defBody sNext) (defScope sNext) .none kVNx dcNx pmNx anNx cdNx ctNx),slNx⟩) (cNx:PySem.W.codeIn K cdNx "next_word"=true) (kNx:PySem.W.keepIn K (.ref fNx)=true)
  (aEx:PySem.W.nsIn K mainGlobals "expect"=some (some (.ref fEx))) (lEx:K.lookup fEx=some ⟨ocEx,odEx,.func (PySem.W.fnOf "expect" "expect" (defArgs sExpect) (defBody sExpect) (defScope sExpect) .none kVEx dcEx pmEx anEx cdEx ctEx),slEx⟩) (cEx:PySem.W.codeIn K cdEx "expect"=true) (kEx:PySem.W.keepIn K (.ref fEx)=true)
  (aNw:PySem.W.nsIn K mainGlobals "is_number_word"=some (some (.ref fNw))) (lNw:K.lookup fNw=some ⟨ocNw,odNw,.func (PySem.W.fnOf "is_number_word" "is_number_word" (defArgs sNumW) (defBody sNumW) (defScope sNumW) .none kVNw dcNw pmNw anNw cdNw ctNw),slNw⟩) (cNw:PySem.W.codeIn K cdNw "is_number_word"=true) (kNw:PySem.W.keepIn K (.ref fNw)=true)
  (aNu:PySem.W.nsIn K mainGlobals "number"=some (some (.ref fNu))) (lNu:K.lookup fNu=some ⟨ocNu,odNu,.func (PySem.W.fnOf "number" "number" (defArgs sNumber) (defBody sNumber) (defScope sNumber) .none kVNu dcNu pmNu anNu cdNu ctNu),slNu⟩) (cNu:PySem.W.codeIn K cdNu "number"=true) (kNu:PySem.W.keepIn K (.ref fNu)=true)
  (aRL:PySem.W.nsIn K mainGlobals "read_line"=some (some (.ref fRL))) (lRL:K.lookup fRL=some ⟨ocRL,odRL,.func (PySem.W.fnOf "read_line" "read_line" (defArgs sRdLine) (defBody sRdLine) (defScope sRdLine) .none kVRL dcRL pmRL anRL cdRL ctRL),slRL⟩) (cRL:PySem.W.codeIn K cdRL "read_line"=true) (kRL:PySem.W.keepIn K (.ref fRL)=true)
  (aRB:PySem.W.nsIn K mainGlobals "read_by"=some (some (.ref fRB))) (lRB:K.lookup fRB=some ⟨ocRB,odRB,.func (PySem.W.fnOf "read_by" "read_by" (defArgs sRdBy) (defBody sRdBy) (defScope sRdBy) .none kVRB dcRB pmRB anRB cdRB ctRB),slRB⟩) (cRB:PySem.W.codeIn K cdRB "read_by"=true) (kRB:PySem.W.keepIn K (.ref fRB)=true)
  (aRK:PySem.W.nsIn K mainGlobals "read_ink"=some (some (.ref fRK))) (lRK:K.lookup fRK=some ⟨ocRK,odRK,.func (PySem.W.fnOf "read_ink" "read_ink" (defArgs sRdInk) (defBody sRdInk) (defScope sRdInk) .none kVRK dcRK pmRK anRK cdRK ctRK),slRK⟩) (cRK:PySem.W.codeIn K cdRK "read_ink"=true) (kRK:PySem.W.keepIn K (.ref fRK)=true)
  (aRT:PySem.W.nsIn K mainGlobals "read_turn"=some (some (.ref fRT))) (lRT:K.lookup fRT=some ⟨ocRT,odRT,.func (PySem.W.fnOf "read_turn" "read_turn" (defArgs sRdTurn) (defBody sRdTurn) (defScope sRdTurn) .none kVRT dcRT pmRT anRT cdRT ctRT),slRT⟩) (cRT:PySem.W.codeIn K cdRT "read_turn"=true) (kRT:PySem.W.keepIn K (.ref fRT)=true)
  (aRM:PySem.W.nsIn K mainGlobals "read_times"=some (some (.ref fRM))) (lRM:K.lookup fRM=some ⟨ocRM,odRM,.func (PySem.W.fnOf "read_times" "read_times" (defArgs sRdTimes) (defBody sRdTimes) (defScope sRdTimes) .none kVRM dcRM pmRM anRM cdRM ctRM),slRM⟩) (cRM:PySem.W.codeIn K cdRM "read_times"=true) (kRM:PySem.W.keepIn K (.ref fRM)=true)
  (aRI:PySem.W.nsIn K mainGlobals "read_inner"=some (some (.ref fRI))) (lRI:K.lookup fRI=some ⟨ocRI,odRI,.func (PySem.W.fnOf "read_inner" "read_inner" (defArgs sRdInner) (defBody sRdInner) (defScope sRdInner) .none kVRI dcRI pmRI anRI cdRI ctRI),slRI⟩) (cRI:PySem.W.codeIn K cdRI "read_inner"=true) (kRI:PySem.W.keepIn K (.ref fRI)=true)
  (aRS:PySem.W.nsIn K mainGlobals "read_stroke"=some (some (.ref fRS))) (lRS:K.lookup fRS=some ⟨ocRS,odRS,.func (PySem.W.fnOf "read_stroke" "read_stroke" (defArgs sRdStroke) (defBody sRdStroke) (defScope sRdStroke) .none kVRS dcRS pmRS anRS cdRS ctRS),slRS⟩) (cRS:PySem.W.codeIn K cdRS "read_stroke"=true) (kRS:PySem.W.keepIn K (.ref fRS)=true)
  (aRR:PySem.W.nsIn K mainGlobals "read_row"=some (some (.ref fRR))) (lRR:K.lookup fRR=some ⟨ocRR,odRR,.func (PySem.W.fnOf "read_row" "read_row" (defArgs sRdRow) (defBody sRdRow) (defScope sRdRow) .none kVRR dcRR pmRR anRR cdRR ctRR),slRR⟩) (cRR:PySem.W.codeIn K cdRR "read_row"=true) (kRR:PySem.W.keepIn K (.ref fRR)=true)
  (aRd:PySem.W.nsIn K mainGlobals "read"=some (some (.ref fRd))) (lRd:K.lookup fRd=some ⟨ocRd,odRd,.func (PySem.W.fnOf "read" "read" (defArgs sRead) (defBody sRead) (defScope sRead) .none kVRd dcRd pmRd anRd cdRd ctRd),slRd⟩) (cRd:PySem.W.codeIn K cdRd "read"=true) (kRd:PySem.W.keepIn K (.ref fRd)=true)
  (aCe:PySem.W.nsIn K mainGlobals "_law_cell_at"=some (some (.ref fCe))) (lCe:K.lookup fCe=some ⟨ocCe,odCe,.func (PySem.W.fnOf "_law_cell_at" "_law_cell_at" (defArgs sCell) (defBody sCell) (defScope sCell) .none kVCe dcCe pmCe anCe cdCe ctCe),slCe⟩) (cCe:PySem.W.codeIn K cdCe "_law_cell_at"=true) (kCe:PySem.W.keepIn K (.ref fCe)=true)
  (aN:PySem.W.nsIn K mainGlobals "_law_number"=some (some (.ref fN))) (lN:K.lookup fN=some ⟨ocN,odN,.func (PySem.W.fnOf "_law_number" "_law_number" (defArgs sNum) (defBody sNum) (defScope sNum) .none kVN dcN pmN anN cdN ctN),slN⟩) (cN:PySem.W.codeIn K cdN "_law_number"=true) (kN:PySem.W.keepIn K (.ref fN)=true)
  (aWy:PySem.W.nsIn K mainGlobals "_law_ways"=some (some (.ref fWy))) (lWy:K.lookup fWy=some ⟨ocWy,odWy,.func (PySem.W.fnOf "_law_ways" "_law_ways" (defArgs sWays) (defBody sWays) (defScope sWays) .none kVWy dcWy pmWy anWy cdWy ctWy),slWy⟩) (cWy:PySem.W.codeIn K cdWy "_law_ways"=true) (kWy:PySem.W.keepIn K (.ref fWy)=true)
  (aF:PySem.W.nsIn K mainGlobals "_law_far"=some (some (.ref fF))) (lF:K.lookup fF=some ⟨ocF,odF,.func (PySem.W.fnOf "_law_far" "_law_far" (defArgs sFar) (defBody sFar) (defScope sFar) .none kVF dcF pmF anF cdF ctF),slF⟩) (cF:PySem.W.codeIn K cdF "_law_far"=true) (kF:PySem.W.keepIn K (.ref fF)=true)
  (aPl:PySem.W.nsIn K mainGlobals "_law_plain"=some (some (.ref fPl))) (lPl:K.lookup fPl=some ⟨ocPl,odPl,.func (PySem.W.fnOf "_law_plain" "_law_plain" (defArgs sPlain) (defBody sPlain) (defScope sPlain) .none kVPl dcPl pmPl anPl cdPl ctPl),slPl⟩) (cPl:PySem.W.codeIn K cdPl "_law_plain"=true) (kPl:PySem.W.keepIn K (.ref fPl)=true)
  (aHd:PySem.W.nsIn K mainGlobals "_law_head"=some (some (.ref fHd))) (lHd:K.lookup fHd=some ⟨ocHd,odHd,.func (PySem.W.fnOf "_law_head" "_law_head" (defArgs sHead) (defBody sHead) (defScope sHead) .none kVHd dcHd pmHd anHd cdHd ctHd),slHd⟩) (cHd:PySem.W.codeIn K cdHd "_law_head"=true) (kHd:PySem.W.keepIn K (.ref fHd)=true)
  (aCz:PySem.W.nsIn K mainGlobals "_law_closed"=some (some (.ref fCz))) (lCz:K.lookup fCz=some ⟨ocCz,odCz,.func (PySem.W.fnOf "_law_closed" "_law_closed" (defArgs sClosed) (defBody sClosed) (defScope sClosed) .none kVCz dcCz pmCz anCz cdCz ctCz),slCz⟩) (cCz:PySem.W.codeIn K cdCz "_law_closed"=true) (kCz:PySem.W.keepIn K (.ref fCz)=true)
  (aTr:PySem.W.nsIn K mainGlobals "_law_tree"=some (some (.ref fTr))) (lTr:K.lookup fTr=some ⟨ocTr,odTr,.func (PySem.W.fnOf "_law_tree" "_law_tree" (defArgs sTree) (defBody sTree) (defScope sTree) .none kVTr dcTr pmTr anTr cdTr ctTr),slTr⟩) (cTr:PySem.W.codeIn K cdTr "_law_tree"=true) (kTr:PySem.W.keepIn K (.ref fTr)=true)
  (aWd:PySem.W.nsIn K mainGlobals "_law_word"=some (some (.ref fWd))) (lWd:K.lookup fWd=some ⟨ocWd,odWd,.func (PySem.W.fnOf "_law_word" "_law_word" (defArgs sWord) (defBody sWord) (defScope sWord) .none kVWd dcWd pmWd anWd cdWd ctWd),slWd⟩) (cWd:PySem.W.codeIn K cdWd "_law_word"=true) (kWd:PySem.W.keepIn K (.ref fWd)=true)
  (aSp:PySem.W.nsIn K mainGlobals "_law_spoilt"=some (some (.ref fSp))) (lSp:K.lookup fSp=some ⟨ocSp,odSp,.func (PySem.W.fnOf "_law_spoilt" "_law_spoilt" (defArgs sSpoilt) (defBody sSpoilt) (defScope sSpoilt) .none kVSp dcSp pmSp anSp cdSp ctSp),slSp⟩) (cSp:PySem.W.codeIn K cdSp "_law_spoilt"=true) (kSp:PySem.W.keepIn K (.ref fSp)=true)
  (aTx:PySem.W.nsIn K mainGlobals "_law_text"=some (some (.ref fTx))) (lTx:K.lookup fTx=some ⟨ocTx,odTx,.func (PySem.W.fnOf "_law_text" "_law_text" (defArgs sText) (defBody sText) (defScope sText) .none kVTx dcTx pmTx anTx cdTx ctTx),slTx⟩) (cTx:PySem.W.codeIn K cdTx "_law_text"=true) (kTx:PySem.W.keepIn K (.ref fTx)=true)
  (aWi:PySem.W.nsIn K mainGlobals "_law_whole_in"=some (some (.ref fWi))) (lWi:K.lookup fWi=some ⟨ocWi,odWi,.func (PySem.W.fnOf "_law_whole_in" "_law_whole_in" (defArgs sWholeIn) (defBody sWholeIn) (defScope sWholeIn) .none kVWi dcWi pmWi anWi cdWi ctWi),slWi⟩) (cWi:PySem.W.codeIn K cdWi "_law_whole_in"=true) (kWi:PySem.W.keepIn K (.ref fWi)=true)
  (aBg:PySem.W.nsIn K mainGlobals "_law_begun"=some (some (.ref fBg))) (lBg:K.lookup fBg=some ⟨ocBg,odBg,.func (PySem.W.fnOf "_law_begun" "_law_begun" (defArgs sBegun) (defBody sBegun) (defScope sBegun) .none kVBg dcBg pmBg anBg cdBg ctBg),slBg⟩) (cBg:PySem.W.codeIn K cdBg "_law_begun"=true) (kBg:PySem.W.keepIn K (.ref fBg)=true)
  (aSi:PySem.W.nsIn K mainGlobals "_law_simple"=some (some (.ref fSi))) (lSi:K.lookup fSi=some ⟨ocSi,odSi,.func (PySem.W.fnOf "_law_simple" "_law_simple" (defArgs sSimple) (defBody sSimple) (defScope sSimple) .none kVSi dcSi pmSi anSi cdSi ctSi),slSi⟩) (cSi:PySem.W.codeIn K cdSi "_law_simple"=true) (kSi:PySem.W.keepIn K (.ref fSi)=true)
  (aLr:PySem.W.nsIn K mainGlobals "_law_read"=some (some (.ref fLr))) (lLr:K.lookup fLr=some ⟨ocLr,odLr,.func (PySem.W.fnOf "_law_read" "_law_read" (defArgs sLRead) (defBody sLRead) (defScope sLRead) .none kVLr dcLr pmLr anLr cdLr ctLr),slLr⟩) (cLr:PySem.W.codeIn K cdLr "_law_read"=true) (kLr:PySem.W.keepIn K (.ref fLr)=true)
  (aIo:PySem.W.nsIn K mainGlobals "_law_is_other"=some (some (.ref fIo))) (lIo:K.lookup fIo=some ⟨ocIo,odIo,.func (PySem.W.fnOf "_law_is_other" "_law_is_other" (defArgs sIsOther) (defBody sIsOther) (defScope sIsOther) .none kVIo dcIo pmIo anIo cdIo ctIo),slIo⟩) (cIo:PySem.W.codeIn K cdIo "_law_is_other"=true) (kIo:PySem.W.keepIn K (.ref fIo)=true)
  (aRf:PySem.W.nsIn K mainGlobals "_law_refused"=some (some (.ref fRf))) (lRf:K.lookup fRf=some ⟨ocRf,odRf,.func (PySem.W.fnOf "_law_refused" "_law_refused" (defArgs sRefused) (defBody sRefused) (defScope sRefused) .none kVRf dcRf pmRf anRf cdRf ctRf),slRf⟩) (cRf:PySem.W.codeIn K cdRf "_law_refused"=true) (kRf:PySem.W.keepIn K (.ref fRf)=true)
  (aRg:PySem.W.nsIn K mainGlobals "_law_right"=some (some (.ref fRg))) (lRg:K.lookup fRg=some ⟨ocRg,odRg,.func (PySem.W.fnOf "_law_right" "_law_right" (defArgs sRight) (defBody sRight) (defScope sRight) .none kVRg dcRg pmRg anRg cdRg ctRg),slRg⟩) (cRg:PySem.W.codeIn K cdRg "_law_right"=true) (kRg:PySem.W.keepIn K (.ref fRg)=true)
  (aZ:PySem.W.nsIn K mainGlobals "law"=some (some (.ref fZ))) (lZ:K.lookup fZ=some ⟨ocZ,odZ,.func (PySem.W.fnOf "law" "law" (defArgs sLaw) (defBody sLaw) (defScope sLaw) .none kVZ dcZ pmZ anZ cdZ ctZ),slZ⟩) (cZ:PySem.W.codeIn K cdZ "law"=true) (kZ:PySem.W.keepIn K (.ref fZ)=true)
  {c0 c1 c2 c3 c4 c5 c6 c7 c8 c9 c10 c11 c12 c13 c14 c15 c16 c17:Addr} (n0:PySem.W.nsIn K mainGlobals "ClothError"=some (some (.ref c0))) (n1:PySem.W.nsIn K mainGlobals "NoLine"=some (some (.ref c1))) (n2:PySem.W.nsIn K mainGlobals "TwoColours"=some (some (.ref c2))) (n3:PySem.W.nsIn K mainGlobals "TooMany"=some (some (.ref c3))) (n4:PySem.W.nsIn K mainGlobals "NoHole"=some (some (.ref c4))) (n5:PySem.W.nsIn K mainGlobals "NoDrawing"=some (some (.ref c5))) (n6:PySem.W.nsIn K mainGlobals "NoThread"=some (some (.ref c6))) (n7:PySem.W.nsIn K mainGlobals "Taken"=some (some (.ref c7))) (n8:PySem.W.nsIn K mainGlobals "NoName"=some (some (.ref c8))) (n9:PySem.W.nsIn K mainGlobals "NoTie"=some (some (.ref c9))) (n10:PySem.W.nsIn K mainGlobals "NoPlan"=some (some (.ref c10))) (n11:PySem.W.nsIn K mainGlobals "NoNumber"=some (some (.ref c11))) (n12:PySem.W.nsIn K mainGlobals "Busy"=some (some (.ref c12))) (n13:PySem.W.nsIn K mainGlobals "Idle"=some (some (.ref c13))) (n14:PySem.W.nsIn K mainGlobals "NotWished"=some (some (.ref c14))) (n15:PySem.W.nsIn K mainGlobals "Bare"=some (some (.ref c15))) (n16:PySem.W.nsIn K mainGlobals "NoChart"=some (some (.ref c16))) (n17:PySem.W.nsIn K mainGlobals "NoRow"=some (some (.ref c17))) (T5:EKitN K c0 c1 c2 c3 c4 c5 c6 c7 c8 c9 c10 c11 c12 c13 c14 c15 c16 c17 c5 5)
  {yd yq0 yq1 yq2 yq3 yq4 yq5 yq6 yq7 yep yn0 yn1 yn2 yn3 yn4 yn5 yn6 yn7:Nat} {yk0 ya0 yb0 yk1 ya1 yb1 yk2 ya2 yb2 yk3 ya3 yb3 yk4 ya4 yb4 yk5 ya5 yb5 yk6 ya6 yb6 yk7 ya7 yb7:Tok} {yo0 yo1 yo2 yo3 yo4 yo5 yo6 yo7:Option Addr} {ys0 ys1 ys2 ys3 ys4 ys5 ys6 ys7:Array (Option Value)}
  (ym:PySem.W.nsIn K mainGlobals "WAYS"=some (some (.ref yd))) (yz:(yd == sysModules)=false) (yl:K.lookup yd=some ⟨.type "dict",none,.dict #[⟨PyData.keyHash w.params "n",.str "n" yk0,.ref yq0⟩,⟨PyData.keyHash w.params "ne",.str "ne" yk1,.ref yq1⟩,⟨PyData.keyHash w.params "e",.str "e" yk2,.ref yq2⟩,⟨PyData.keyHash w.params "se",.str "se" yk3,.ref yq3⟩,⟨PyData.keyHash w.params "s",.str "s" yk4,.ref yq4⟩,⟨PyData.keyHash w.params "sw",.str "sw" yk5,.ref yq5⟩,⟨PyData.keyHash w.params "w",.str "w" yk6,.ref yq6⟩,⟨PyData.keyHash w.params "nw",.str "nw" yk7,.ref yq7⟩] yep,#[]⟩)
  (yl0:K.lookup yq0=some ⟨.type "tuple",yo0,.seq #[.int (0) ya0,.int (1) yb0] yn0,ys0⟩) (yl1:K.lookup yq1=some ⟨.type "tuple",yo1,.seq #[.int (1) ya1,.int (1) yb1] yn1,ys1⟩) (yl2:K.lookup yq2=some ⟨.type "tuple",yo2,.seq #[.int (1) ya2,.int (0) yb2] yn2,ys2⟩) (yl3:K.lookup yq3=some ⟨.type "tuple",yo3,.seq #[.int (1) ya3,.int (-1) yb3] yn3,ys3⟩) (yl4:K.lookup yq4=some ⟨.type "tuple",yo4,.seq #[.int (0) ya4,.int (-1) yb4] yn4,ys4⟩) (yl5:K.lookup yq5=some ⟨.type "tuple",yo5,.seq #[.int (-1) ya5,.int (-1) yb5] yn5,ys5⟩) (yl6:K.lookup yq6=some ⟨.type "tuple",yo6,.seq #[.int (-1) ya6,.int (0) yb6] yn6,ys6⟩) (yl7:K.lookup yq7=some ⟨.type "tuple",yo7,.seq #[.int (-1) ya7,.int (1) yb7] yn7,ys7⟩)
  (z_isi:PySem.W.nsIn K mainGlobals "isinstance"=some none)
  (z_int:PySem.W.nsIn K mainGlobals "int"=some none)
  (z_list:PySem.W.nsIn K mainGlobals "list"=some none)
  (z_str:PySem.W.nsIn K mainGlobals "str"=some none)
  (z_len:PySem.W.nsIn K mainGlobals "len"=some none)
  (z_all:PySem.W.nsIn K mainGlobals "all"=some none)
  (z_range:PySem.W.nsIn K mainGlobals "range"=some none)
  (z_abs:PySem.W.nsIn K mainGlobals "abs"=some none)
  (z_max:PySem.W.nsIn K mainGlobals "max"=some none)
  (z_min:PySem.W.nsIn K mainGlobals "min"=some none)
  (z_rev:PySem.W.nsIn K mainGlobals "reversed"=some none)
  (z_val:PySem.W.nsIn K mainGlobals "ValueError"=some none)
  (g_far:PySem.W.nsIn K mainGlobals "FARTHEST"=some (some (.int 1000000000 t_far)))
  (g_lon:PySem.W.nsIn K mainGlobals "LONGEST"=some (some (.int 9 t_lon)))
  (g_most:PySem.W.nsIn K mainGlobals "MOST_LETTERS"=some (some (.int 8 t_most)))
  (g_sig:PySem.W.nsIn K mainGlobals "MOST_SIGNS"=some (some (.int 2000 t_sig)))
  (g_fig:PySem.W.nsIn K mainGlobals "MOST_FIGURES"=some (some (.int 10 t_fig)))
  (g_dep:PySem.W.nsIn K mainGlobals "MOST_DEPTH"=some (some (.int 8 t_dep)))
  (g_rou:PySem.W.nsIn K mainGlobals "MOST_ROUNDS"=some (some (.int 60 t_rou)))
  (g_las:PySem.W.nsIn K mainGlobals "LAST_TURNING"=some (some (.int 7 t_las))) :
  ∃ fd:FuncData,(∀ (s:Shared) (v:Value),BindsTo s fd ⟨[v],[]⟩ [("_law_script",v)])∧∀ base:Heap,K.In base→base.Ns mainGlobals mg→FnOk l.prog w K mg base CX0 43 fa fd ["_law_script"] (spLaw K):=by
 have e:=hfa.symm.trans (PySem.W.mg_of X G aZ)
 cases e
 have DCo:=df_mk (st:=sColour) X G aCo lCo cCo kCo
 have DNx:=df_mk (st:=sNext) X G aNx lNx cNx kNx
 have DEx:=df_mk (st:=sExpect) X G aEx lEx cEx kEx
 have DNw:=df_mk (st:=sNumW) X G aNw lNw cNw kNw
 have DNu:=df_mk (st:=sNumber) X G aNu lNu cNu kNu
 have DRL:=df_mk (st:=sRdLine) X G aRL lRL cRL kRL
 have DRB:=df_mk (st:=sRdBy) X G aRB lRB cRB kRB
 have DRK:=df_mk (st:=sRdInk) X G aRK lRK cRK kRK
 have DRT:=df_mk (st:=sRdTurn) X G aRT lRT cRT kRT
 have DRM:=df_mk (st:=sRdTimes) X G aRM lRM cRM kRM
 have DRI:=df_mk (st:=sRdInner) X G aRI lRI cRI kRI
 have DRS:=df_mk (st:=sRdStroke) X G aRS lRS cRS kRS
 have DRR:=df_mk (st:=sRdRow) X G aRR lRR cRR kRR
 have DRd:=df_mk (st:=sRead) X G aRd lRd cRd kRd
 have DCe:=df_mk (st:=sCell) X G aCe lCe cCe kCe
 have DN:=df_mk (st:=sNum) X G aN lN cN kN
 have DWy:=df_mk (st:=sWays) X G aWy lWy cWy kWy
 have DF:=df_mk (st:=sFar) X G aF lF cF kF
 have DPl:=df_mk (st:=sPlain) X G aPl lPl cPl kPl
 have DHd:=df_mk (st:=sHead) X G aHd lHd cHd kHd
 have DCz:=df_mk (st:=sClosed) X G aCz lCz cCz kCz
 have DTr:=df_mk (st:=sTree) X G aTr lTr cTr kTr
 have DWd:=df_mk (st:=sWord) X G aWd lWd cWd kWd
 have DSp:=df_mk (st:=sSpoilt) X G aSp lSp cSp kSp
 have DTx:=df_mk (st:=sText) X G aTx lTx cTx kTx
 have DWi:=df_mk (st:=sWholeIn) X G aWi lWi cWi kWi
 have DBg:=df_mk (st:=sBegun) X G aBg lBg cBg kBg
 have DSi:=df_mk (st:=sSimple) X G aSi lSi cSi kSi
 have DLr:=df_mk (st:=sLRead) X G aLr lLr cLr kLr
 have DIo:=df_mk (st:=sIsOther) X G aIo lIo cIo kIo
 have DRf:=df_mk (st:=sRefused) X G aRf lRf cRf kRf
 have DRg:=df_mk (st:=sRight) X G aRg lRg cRg kRg
 have DZ:=df_mk (st:=sLaw) X G aZ lZ cZ kZ
 have B:Blt mg:=⟨PySem.W.mg_none_of X G z_isi,PySem.W.mg_none_of X G z_int,PySem.W.mg_none_of X G z_list,PySem.W.mg_none_of X G z_str,PySem.W.mg_none_of X G z_len,PySem.W.mg_none_of X G z_all,PySem.W.mg_none_of X G z_range,PySem.W.mg_none_of X G z_abs,PySem.W.mg_none_of X G z_max,PySem.W.mg_none_of X G z_min,PySem.W.mg_none_of X G z_rev,PySem.W.mg_none_of X G z_val,⟨t_far,PySem.W.mg_of X G g_far⟩,⟨t_lon,PySem.W.mg_of X G g_lon⟩,⟨t_most,PySem.W.mg_of X G g_most⟩,⟨t_sig,PySem.W.mg_of X G g_sig⟩,⟨t_fig,PySem.W.mg_of X G g_fig⟩,⟨t_dep,PySem.W.mg_of X G g_dep⟩,⟨t_rou,PySem.W.mg_of X G g_rou⟩,⟨t_las,PySem.W.mg_of X G g_las⟩⟩
 have Yw:Wy l.prog w K mg:=wy_mk (PySem.W.mg_of X G ym) yz yl yl0 yl1 yl2 yl3 yl4 yl5 yl6 yl7
 have N:ENames mg c0 c1 c2 c3 c4 c5 c6 c7 c8 c9 c10 c11 c12 c13 c14 c15 c16 c17:=⟨PySem.W.mg_of X G n0,PySem.W.mg_of X G n1,PySem.W.mg_of X G n2,PySem.W.mg_of X G n3,PySem.W.mg_of X G n4,PySem.W.mg_of X G n5,PySem.W.mg_of X G n6,PySem.W.mg_of X G n7,PySem.W.mg_of X G n8,PySem.W.mg_of X G n9,PySem.W.mg_of X G n10,PySem.W.mg_of X G n11,PySem.W.mg_of X G n12,PySem.W.mg_of X G n13,PySem.W.mg_of X G n14,PySem.W.mg_of X G n15,PySem.W.mg_of X G n16,PySem.W.mg_of X G n17⟩
 have bCo:=DCo.F.binds (ps:=["thing"]) fun _ _ _ _ _ _ us hl=>by obtain ⟨_,rfl⟩:=ln1 hl; rfl
 have bNx:=DNx.F.binds (ps:=["words"]) fun _ _ _ _ _ _ us hl=>by obtain ⟨_,rfl⟩:=ln1 hl; rfl
 have bEx:=DEx.F.binds (ps:=["words","wanted"]) fun _ _ _ _ _ _ us hl=>by obtain ⟨_,_,rfl⟩:=ln2 hl; rfl
 have bNw:=DNw.F.binds (ps:=["word"]) fun _ _ _ _ _ _ us hl=>by obtain ⟨_,rfl⟩:=ln1 hl; rfl
 have bNu:=DNu.F.binds (ps:=["word","least","most"]) fun _ _ _ _ _ _ us hl=>by obtain ⟨_,_,_,rfl⟩:=ln3 hl; rfl
 have bRL:=DRL.F.binds (ps:=["words"]) fun _ _ _ _ _ _ us hl=>by obtain ⟨_,rfl⟩:=ln1 hl; rfl
 have bRB:=DRB.F.binds (ps:=["words"]) fun _ _ _ _ _ _ us hl=>by obtain ⟨_,rfl⟩:=ln1 hl; rfl
 have bRK:=DRK.F.binds (ps:=["words"]) fun _ _ _ _ _ _ us hl=>by obtain ⟨_,rfl⟩:=ln1 hl; rfl
 have bRT:=DRT.F.binds (ps:=["words","depth"]) fun _ _ _ _ _ _ us hl=>by obtain ⟨_,_,rfl⟩:=ln2 hl; rfl
 have bRM:=DRM.F.binds (ps:=["word","words","depth"]) fun _ _ _ _ _ _ us hl=>by obtain ⟨_,_,_,rfl⟩:=ln3 hl; rfl
 have bRI:=DRI.F.binds (ps:=["words","depth"]) fun _ _ _ _ _ _ us hl=>by obtain ⟨_,_,rfl⟩:=ln2 hl; rfl
 have bRS:=DRS.F.binds (ps:=["words","depth"]) fun _ _ _ _ _ _ us hl=>by obtain ⟨_,_,rfl⟩:=ln2 hl; rfl
 have bRR:=DRR.F.binds (ps:=["words","depth"]) fun _ _ _ _ _ _ us hl=>by obtain ⟨_,_,rfl⟩:=ln2 hl; rfl
 have bRd:=DRd.F.binds (ps:=["text"]) fun _ _ _ _ _ _ us hl=>by obtain ⟨_,rfl⟩:=ln1 hl; rfl
 have bCe:=DCe.F.binds (ps:=["_law_script","_law_k"]) fun _ _ _ _ _ _ us hl=>by obtain ⟨_,_,rfl⟩:=ln2 hl; rfl
 have bN:=DN.F.binds (ps:=["_law_cell","_law_k"]) fun _ _ _ _ _ _ us hl=>by obtain ⟨_,_,rfl⟩:=ln2 hl; rfl
 have bWy:=DWy.F.binds (ps:=[]) fun _ _ _ _ _ _ us hl=>match us,hl with | [],_=>rfl
 have bF:=DF.F.binds (ps:=["_law_number_here","_law_sort"]) fun _ _ _ _ _ _ us hl=>by obtain ⟨_,_,rfl⟩:=ln2 hl; rfl
 have bPl:=DPl.F.binds (ps:=["_law_number_here"]) fun _ _ _ _ _ _ us hl=>by obtain ⟨_,rfl⟩:=ln1 hl; rfl
 have bHd:=DHd.F.binds (ps:=["_law_number_here"]) fun _ _ _ _ _ _ us hl=>by obtain ⟨_,rfl⟩:=ln1 hl; rfl
 have bCz:=DCz.F.binds (ps:=["_law_stack","_law_words"]) fun _ _ _ _ _ _ us hl=>by obtain ⟨_,_,rfl⟩:=ln2 hl; rfl
 have bTr:=DTr.F.binds (ps:=["_law_cells"]) fun _ _ _ _ _ _ us hl=>by obtain ⟨_,rfl⟩:=ln1 hl; rfl
 have bWd:=DWd.F.binds (ps:=["_law_number_here"]) fun _ _ _ _ _ _ us hl=>by obtain ⟨_,rfl⟩:=ln1 hl; rfl
 have bSp:=DSp.F.binds (ps:=["_law_words","_law_number_here"]) fun _ _ _ _ _ _ us hl=>by obtain ⟨_,_,rfl⟩:=ln2 hl; rfl
 have bTx:=DTx.F.binds (ps:=["_law_one","_law_two"]) fun _ _ _ _ _ _ us hl=>by obtain ⟨_,_,rfl⟩:=ln2 hl; rfl
 have bWi:=DWi.F.binds (ps:=["_law_word_here","_law_low","_law_high"]) fun _ _ _ _ _ _ us hl=>by obtain ⟨_,_,_,rfl⟩:=ln3 hl; rfl
 have bBg:=DBg.F.binds (ps:=["_law_words","_law_at"]) fun _ _ _ _ _ _ us hl=>by obtain ⟨_,_,rfl⟩:=ln2 hl; rfl
 have bSi:=DSi.F.binds (ps:=["_law_words","_law_at"]) fun _ _ _ _ _ _ us hl=>by obtain ⟨_,_,rfl⟩:=ln2 hl; rfl
 have bLr:=DLr.F.binds (ps:=["_law_text_here"]) fun _ _ _ _ _ _ us hl=>by obtain ⟨_,rfl⟩:=ln1 hl; rfl
 have bIo:=DIo.F.binds (ps:=["_law_e"]) fun _ _ _ _ _ _ us hl=>by obtain ⟨_,rfl⟩:=ln1 hl; rfl
 have bRf:=DRf.F.binds (ps:=["_law_text_here"]) fun _ _ _ _ _ _ us hl=>by obtain ⟨_,rfl⟩:=ln1 hl; rfl
 have bRg:=DRg.F.binds (ps:=["_law_text_here"]) fun _ _ _ _ _ _ us hl=>by obtain ⟨_,rfl⟩:=ln1 hl; rfl
 refine ⟨PySem.W.fnOf "law" "law" (defArgs sLaw) (defBody sLaw) (defScope sLaw) .none kVZ dcZ pmZ anZ cdZ ctZ,fun s v=>.of_eq rfl,fun base _ _=>?_⟩
 have mD:=N.m5
 have qD:excO K c5:=T5.q
 have GNx:FnOk l.prog w K mg base CX0 1 fNx _ ["words"] spNext:=ok_next DNx
 have GNu:FnOk l.prog w K mg base (CXE l.prog w) 2 fNu _ ["word","least","most"] (spNumber c5):=ok_number DNu B mD qD DNw bNw (ok_numW DNw B)
 have GRR:FnOk l.prog w K mg base (CXE l.prog w) 39 fRR _ ["words","depth"] (spRow c5 9):=rows B Yw mD qD DRR bRR DRS bRS DRI bRI DRT bRT DRM bRM DEx bEx (ok_expect DEx mD qD DNx bNx GNx) DNx bNx GNx DNu bNu GNu DRL bRL (ok_rdLine DRL B mD qD DNx bNx GNx DNu bNu GNu) DRB bRB (ok_rdBy DRB B DNx bNx GNx DNu bNu GNu) DRK bRK (ok_rdInk DRK mD qD DNx bNx GNx DCo bCo (ok_colour DCo B)) 9
 have GRd:FnOk l.prog w K mg base (CXE l.prog w) 40 fRd _ ["text"] (spRead c5):=ok_read DRd B mD qD DRR bRR GRR
 have GWy:FnOk l.prog w K mg base CX0 2 fWy _ [] spWays:=ok_ways DWy
 have GF:FnOk l.prog w K mg base CX0 1 fF _ ["_law_number_here","_law_sort"] spFar:=ok_far DF B
 have GPl:FnOk l.prog w K mg base CX0 3 fPl _ ["_law_number_here"] spPlain:=ok_plain DPl DWy bWy GWy DF bF GF
 have GN:FnOk l.prog w K mg base CX0 1 fN _ ["_law_cell","_law_k"] spNum:=ok_num DN
 have GTr:FnOk l.prog w K mg base CX0 4 fTr _ ["_law_cells"] (spTree K):=ok_tree DTr B DN bN GN DPl bPl GPl DHd bHd (ok_head DHd B) DCz bCz (ok_closed DCz)
 have GWd:FnOk l.prog w K mg base CX0 1 fWd _ ["_law_number_here"] spWord:=ok_word DWd B
 have GTx:FnOk l.prog w K mg base CX0 5 fTx _ ["_law_one","_law_two"] spText:=ok_text DTx B DN bN GN DWd bWd GWd DTr bTr GTr DSp bSp (ok_spoilt DSp B DWd bWd GWd)
 have GWi:FnOk l.prog w K mg base CX0 1 fWi _ ["_law_word_here","_law_low","_law_high"] spWhole:=ok_whole DWi B
 have GLr:FnOk l.prog w K mg base CX0 4 fLr _ ["_law_text_here"] spLRead:=ok_lread DLr B DSi bSi (ok_simple DSi B DWi bWi GWi DWy bWy GWy) DBg bBg (ok_begun DBg B DWi bWi GWi)
 have GRf:FnOk l.prog w K mg base CX0 41 fRf _ ["_law_text_here"] spRefd:=ok_refd DRf N T5 DRd bRd GRd DIo bIo (ok_isO DIo N T5 B.isi) B.isi B.val (by decide)
 have GRg:FnOk l.prog w K mg base CX0 42 fRg _ ["_law_text_here"] spRight:=ok_right DRg DRd bRd GRd DLr bLr GLr DRf bRf GRf (by decide)
 exact ok_law DZ B DCe bCe (ok_cell DCe B) DTx bTx GTx DRg bRg GRg DRd bRd GRd DRf bRf GRf (by decide)
theorem walk {l:PySem.W.OpenLaw} {q:Program} {loose:List Str} {XP:(Str→Option Value)→Heap→Prop} {YP:World→Heap→Prop} {d:DefRec} {K:Params→PySem.W.Frag} (hn:l.most=some 63) (hdf:d.params.defaults=[])
  (hY:∀ (w:World) (h:Heap),YP w h→(K w.params).In h)
  (F:∀ (w:World) (mg:Str→Option Value) (fa:Addr) (h:Heap),(K w.params).In h→h.Ns mainGlobals mg→mg d.name=some (.ref fa) →
   ∃ fd:FuncData,(∀ (s:Shared) (u:Value),BindsTo s fd ⟨[u],[]⟩ [("_law_script",u)])∧∀ base:Heap,(K w.params).In base→base.Ns mainGlobals mg→FnOk l.prog w (K w.params) mg base CX0 43 fa fd ["_law_script"] (spLaw (K w.params))) :
  PySem.W.WalkO q loose XP YP l.row.toRowW d [] (fun f vs=>PySem.call f vs) :=
 L2.walk_of (n:=63) (k:=43) (x:="_law_script") (CX:=fun _=>CX0) (sp:=fun w=>spLaw (K w.params)) hn (by decide) hdf ⟨rfl,by decide,by decide⟩ hY F (fun _ _ a ns hl _ hS=>⟨a,ns,rfl,hS,hl,fun _=>rfl⟩) fun _ _ _ _ _ z=>z
end K22
open PySem PySem.W PyProof.Rows
set_option maxRecDepth 100000 in
set_option maxHeartbeats 0 in
theorem PySem.Challenge.cw_bothfaces_k22_no_drawings_holds : PySem.Challenge.rw_bothfaces_k22_no_drawings.Holds := by
 w_on; o_law; k_head; (case hw=>w_witness2)
 k_fill
 refine K22.walk (l:=PySem.Challenge.rw_bothfaces_k22_no_drawings) rfl rfl (fun w h Y=>PySem.W.kIn_of Y) ?F
 case F =>
  intro w mg fa h KX G hmg
  refine' K22.all_mk KX G hmg ?aCo ?lCo ?cCo ?kCo ?aNx ?lNx ?cNx ?kNx ?aEx ?lEx ?cEx ?kEx ?aNw ?lNw ?cNw ?kNw ?aNu ?lNu ?cNu ?kNu ?aRL ?lRL ?cRL ?kRL ?aRB ?lRB ?cRB ?kRB ?aRK ?lRK ?cRK ?kRK ?aRT ?lRT ?cRT ?kRT ?aRM ?lRM ?cRM ?kRM ?aRI ?lRI ?cRI ?kRI ?aRS ?lRS ?cRS ?kRS ?aRR ?lRR ?cRR ?kRR ?aRd ?lRd ?cRd ?kRd ?aCe ?lCe ?cCe ?kCe ?aN ?lN ?cN ?kN ?aWy ?lWy ?cWy ?kWy ?aF ?lF ?cF ?kF ?aPl ?lPl ?cPl ?kPl ?aHd ?lHd ?cHd ?kHd ?aCz ?lCz ?cCz ?kCz ?aTr ?lTr ?cTr ?kTr ?aWd ?lWd ?cWd ?kWd ?aSp ?lSp ?cSp ?kSp ?aTx ?lTx ?cTx ?kTx ?aWi ?lWi ?cWi ?kWi ?aBg ?lBg ?cBg ?kBg ?aSi ?lSi ?cSi ?kSi ?aLr ?lLr ?cLr ?kLr ?aIo ?lIo ?cIo ?kIo ?aRf ?lRf ?cRf ?kRf ?aRg ?lRg ?cRg ?kRg ?aZ ?lZ ?cZ ?kZ ?n0 ?n1 ?n2 ?n3 ?n4 ?n5 ?n6 ?n7 ?n8 ?n9 ?n10 ?n11 ?n12 ?n13 ?n14 ?n15 ?n16 ?n17 ?T5 ?ym ?yz ?yl ?yl0 ?yl1 ?yl2 ?yl3 ?yl4 ?yl5 ?yl6 ?yl7 ?z_isi ?z_int ?z_list ?z_str ?z_len ?z_all ?z_range ?z_abs ?z_max ?z_min ?z_rev ?z_val ?g_far ?g_lon ?g_most ?g_sig ?g_fig ?g_dep ?g_rou ?g_las
  (case aCo=>k_is)
  (case lCo=>k_is)
  (case cCo=>k_is)
  (case kCo=>k_is)
  (case aNx=>k_is)
  (case lNx=>k_is)
  (case cNx=>k_is)
  (case kNx=>k_is)
  (case aEx=>k_is)
  (case lEx=>k_is)
  (case cEx=>k_is)
  (case kEx=>k_is)
  (case aNw=>k_is)
  (case lNw=>k_is)
  (case cNw=>k_is)
  (case kNw=>k_is)
  (case aNu=>k_is)
  (case lNu=>k_is)
  (case cNu=>k_is)
  (case kNu=>k_is)
  (case aRL=>k_is)
  (case lRL=>k_is)
  (case cRL=>k_is)
  (case kRL=>k_is)
  (case aRB=>k_is)
  (case lRB=>k_is)
  (case cRB=>k_is)
  (case kRB=>k_is)
  (case aRK=>k_is)
  (case lRK=>k_is)
  (case cRK=>k_is)
  (case kRK=>k_is)
  (case aRT=>k_is)
  (case lRT=>k_is)
  (case cRT=>k_is)
  (case kRT=>k_is)
  (case aRM=>k_is)
  (case lRM=>k_is)
  (case cRM=>k_is)
  (case kRM=>k_is)
  (case aRI=>k_is)
  (case lRI=>k_is)
  (case cRI=>k_is)
  (case kRI=>k_is)
  (case aRS=>k_is)
  (case lRS=>k_is)
  (case cRS=>k_is)
  (case kRS=>k_is)
  (case aRR=>k_is)
  (case lRR=>k_is)
  (case cRR=>k_is)
  (case kRR=>k_is)
  (case aRd=>k_is)
  (case lRd=>k_is)
  (case cRd=>k_is)
  (case kRd=>k_is)
  (case aCe=>k_is)
  (case lCe=>k_is)
  (case cCe=>k_is)
  (case kCe=>k_is)
  (case aN=>k_is)
  (case lN=>k_is)
  (case cN=>k_is)
  (case kN=>k_is)
  (case aWy=>k_is)
  (case lWy=>k_is)
  (case cWy=>k_is)
  (case kWy=>k_is)
  (case aF=>k_is)
  (case lF=>k_is)
  (case cF=>k_is)
  (case kF=>k_is)
  (case aPl=>k_is)
  (case lPl=>k_is)
  (case cPl=>k_is)
  (case kPl=>k_is)
  (case aHd=>k_is)
  (case lHd=>k_is)
  (case cHd=>k_is)
  (case kHd=>k_is)
  (case aCz=>k_is)
  (case lCz=>k_is)
  (case cCz=>k_is)
  (case kCz=>k_is)
  (case aTr=>k_is)
  (case lTr=>k_is)
  (case cTr=>k_is)
  (case kTr=>k_is)
  (case aWd=>k_is)
  (case lWd=>k_is)
  (case cWd=>k_is)
  (case kWd=>k_is)
  (case aSp=>k_is)
  (case lSp=>k_is)
  (case cSp=>k_is)
  (case kSp=>k_is)
  (case aTx=>k_is)
  (case lTx=>k_is)
  (case cTx=>k_is)
  (case kTx=>k_is)
  (case aWi=>k_is)
  (case lWi=>k_is)
  (case cWi=>k_is)
  (case kWi=>k_is)
  (case aBg=>k_is)
  (case lBg=>k_is)
  (case cBg=>k_is)
  (case kBg=>k_is)
  (case aSi=>k_is)
  (case lSi=>k_is)
  (case cSi=>k_is)
  (case kSi=>k_is)
  (case aLr=>k_is)
  (case lLr=>k_is)
  (case cLr=>k_is)
  (case kLr=>k_is)
  (case aIo=>k_is)
  (case lIo=>k_is)
  (case cIo=>k_is)
  (case kIo=>k_is)
  (case aRf=>k_is)
  (case lRf=>k_is)
  (case cRf=>k_is)
  (case kRf=>k_is)
  (case aRg=>k_is)
  (case lRg=>k_is)
  (case cRg=>k_is)
  (case kRg=>k_is)
  (case aZ=>k_is)
  (case lZ=>k_is)
  (case cZ=>k_is)
  (case kZ=>k_is)
  (case n0=>k_is)
  (case n1=>k_is)
  (case n2=>k_is)
  (case n3=>k_is)
  (case n4=>k_is)
  (case n5=>k_is)
  (case n6=>k_is)
  (case n7=>k_is)
  (case n8=>k_is)
  (case n9=>k_is)
  (case n10=>k_is)
  (case n11=>k_is)
  (case n12=>k_is)
  (case n13=>k_is)
  (case n14=>k_is)
  (case n15=>k_is)
  (case n16=>k_is)
  (case n17=>k_is)
  (case T5=>exact ⟨⟨by k_is,by k_is,by k_is,by k_is,by k_is,by k_is,by k_is,by k_is⟩,by k_exc,by kts_exm,by kit_is,by kit_is,by kit_is,by kit_is,by kit_is,by kit_is,by kit_is,by kit_is,by kit_is,by kit_is,by kit_is,by kit_is,by kit_is,by kit_is,by kit_is,by kit_is,by kit_is,by kit_is⟩)
  (case ym=>k_is)
  (case yz=>rfl)
  (case yl=>k_is)
  (case yl0=>k_is)
  (case yl1=>k_is)
  (case yl2=>k_is)
  (case yl3=>k_is)
  (case yl4=>k_is)
  (case yl5=>k_is)
  (case yl6=>k_is)
  (case yl7=>k_is)
  (case z_isi=>k_is)
  (case z_int=>k_is)
  (case z_list=>k_is)
  (case z_str=>k_is)
  (case z_len=>k_is)
  (case z_all=>k_is)
  (case z_range=>k_is)
  (case z_abs=>k_is)
  (case z_max=>k_is)
  (case z_min=>k_is)
  (case z_rev=>k_is)
  (case z_val=>k_is)
  (case g_far=>k_is)
  (case g_lon=>k_is)
  (case g_most=>k_is)
  (case g_sig=>k_is)
  (case g_fig=>k_is)
  (case g_dep=>k_is)
  (case g_rou=>k_is)
  (case g_las=>k_is)
