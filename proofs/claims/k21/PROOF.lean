import PyProof.Rows.All
import Wide.All
import OpenK.AllK
import Wide.FinOn
import Lean
import PyProof.EqAt
import PyProof.EqKinds
import PyProof.TupleCall
import PyProof.NeKinds
import Wide.Seal
import KE.KDictList
import KE.KSortTup
import KE.KDictOf
import KE.KTryMore
import PyProof.CompUse
import PyProof.AttrMissHeap
import PyProof.Rows.TupTab
import PyProof.ZipIter
import PyProof.Rows.ZipGen
import PyProof.LayNew
import KE.KRevSl
import PyProof.SumWalk
import PyProof.EnumMake
import PyProof.EnumFor
import PyProof.Rows.EnumRows
import PyProof.ListRange
import PyProof.Rows.Range3
import PyProof.Rows.TupDisplay
import PyProof.ListIndex
import PyProof.StrOps2
import PyProof.NoPylong
import PyProof.Draws
import PyProof.Conv_int_bool
import KE.KItemsList
import PyProof.FactsAll.set_2
import PyProof.MeetsSeq2
import PyProof.StrCalls2
import KE.KIntText
import PyProof.Rows.StrItems
import PyProof.MeetsStr2
import PyProof.StrLawsChain
import PyProof.StrLawsTight
import PyProof.StrLaws
import PyProof.Rows.ReprOcc
import KE.KRevIter
import PyProof.CollectWalk
import PyProof.ListNew
import PyProof.WalksS
import PyProof.DictItems
import KE.KPairComp
import PyProof.Rows.FStr
import KE.KxText
import PyProof.Rows.CatFin
import PySem.Challenge.RW_bothfaces_k21_drawings_read
set_option Elab.async false
set_option linter.all false
set_option maxRecDepth 100000
set_option maxHeartbeats 4000000
namespace L2
open PySem PySem.Spec PyProof.Rows
abbrev Key:=Sum Int Str
def keyIs:Key→Value→Bool
 | .inl k,v=>Value.isInt k v
 | .inr x,v=>Value.isStrOf x v
def keyH (w:World):Key→Int
 | .inl k=>hashInt k
 | .inr x=>hashStr w x
theorem keyIs_shape:∀ {k:Key} {v:Value},keyIs k v=true→(∃ i t,k=Sum.inl i∧v=Value.int i t)∨(∃ x t,k=Sum.inr x∧v=Value.str x t)
 | .inl i,v,h=>by
  obtain ⟨t,e⟩:=Value.isInt_shape (k:=i) (v:=v) h
  exact .inl ⟨i,t,rfl,e⟩
 | .inr x,v,h=>by
  obtain ⟨t,e⟩:=Value.isStrOf_shape (x:=x) (v:=v) h
  exact .inr ⟨x,t,rfl,e⟩
theorem keyIs_int (i:Int) (t:Tok):keyIs (.inl i) (.int i t)=true:=by simp [keyIs,Value.isInt]
theorem keyIs_str (x:Str) (t:Tok):keyIs (.inr x) (.str x t)=true:=by simp [keyIs,Value.isStrOf]
theorem key_ll (a b:Int):decide ((Sum.inl a:Key)=Sum.inl b)=(a == b):=by
 by_cases e:a=b
 ·subst e; simp
 ·have h:¬ (Sum.inl a:Key)=Sum.inl b:=fun q=>e (Sum.inl.inj q)
  rw [decide_eq_false h]
  exact (beq_eq_false_iff_ne.mpr e).symm
theorem key_rr (a b:Str):decide ((Sum.inr a:Key)=Sum.inr b)=decide (a=b):=by
 by_cases e:a=b
 ·subst e; simp
 ·have h:¬ (Sum.inr a:Key)=Sum.inr b:=fun q=>e (Sum.inr.inj q)
  rw [decide_eq_false h,decide_eq_false e]
theorem key_lr (a:Int) (b:Str):decide ((Sum.inl a:Key)=Sum.inr b)=false:=decide_eq_false (fun q=>nomatch q)
theorem key_rl (a:Str) (b:Int):decide ((Sum.inr a:Key)=Sum.inl b)=false:=decide_eq_false (fun q=>nomatch q)
def mixKind (prog:Program) (w:World):PySem.KeyKind prog w Key where
 is:=keyIs
 hash:=keyH w
 inj:=fun v a b ha hb=>by
  rcases keyIs_shape ha with ⟨i,t,rfl,rfl⟩ | ⟨x,t,rfl,rfl⟩
  ·rcases keyIs_shape hb with ⟨j,u,rfl,e⟩ | ⟨y,u,rfl,e⟩
   ·injection e with e1 _; rw [e1]
   ·exact nomatch e
  ·rcases keyIs_shape hb with ⟨j,u,rfl,e⟩ | ⟨y,u,rfl,e⟩
   ·exact nomatch e
   ·injection e with e1 _; rw [e1]
 byValue:=fun k v h=>by
  rcases keyIs_shape h with ⟨i,t,rfl,rfl⟩ | ⟨x,t,rfl,rfl⟩ <;> rfl
 pyHash:=fun hv h=>by
  rcases keyIs_shape hv with ⟨i,t,rfl,rfl⟩ | ⟨x,t,rfl,rfl⟩
  ·exact wpAny_pyHash_int h
  ·exact wpAny_pyHash_str h
 eqBool:=fun hu hv h=>by
  rcases keyIs_shape hu with ⟨i,t,rfl,rfl⟩ | ⟨x,t,rfl,rfl⟩
  ·rcases keyIs_shape hv with ⟨j,u,rfl,rfl⟩ | ⟨y,u,rfl,rfl⟩
   ·rw [key_ll] at h; exact wpAny_eqBool_int h
   ·rw [key_lr] at h; exact SeqAt.EqAt.int_str i t y u _ _ _ _ h
  ·rcases keyIs_shape hv with ⟨j,u,rfl,rfl⟩ | ⟨y,u,rfl,rfl⟩
   ·rw [key_rl] at h; exact SeqAt.EqAt.str_int x t j u _ _ _ _ h
   ·rw [key_rr] at h; exact wpAny_eqBool_str h
 «strs»:=fun k x t v h=>by
  rcases keyIs_shape h with ⟨i,u,rfl,e⟩ | ⟨y,u,rfl,e⟩
  ·exact nomatch e
  ·injection e with e1 _
   subst e1
   cases v <;> rfl
theorem mixKind_int (prog:Program) (w:World) (i:Int) (t:Tok):(mixKind prog w).is (.inl i) (.int i t)=true:=keyIs_int i t
theorem mixKind_str (prog:Program) (w:World) (x:Str) (t:Tok):(mixKind prog w).is (.inr x) (.str x t)=true:=keyIs_str x t
inductive V where
 | non | bl (b:Bool) | int (i:Int) | str (x:Str) | byt (b:Array UInt8) | flt (b:UInt64) | ref (a:Addr) | ty (n:String)
 deriving DecidableEq
def RelV:V→Value→Prop
 | .non,u=>u=Value.none
 | .bl b,u=>u=Value.bool b
 | .int i,u=>∃ t,u=Value.int i t
 | .str x,u=>∃ t,u=Value.str x t
 | .byt b,u=>∃ t,u=Value.bytes b t
 | .flt b,u=>∃ t,u=Value.float b t
 | .ref a,u=>u=Value.ref a
 | .ty n,u=>u=Value.type n
abbrev Vals:List V→List Value→Prop:=Paired RelV
theorem Vals.length {xs:List V} {us:List Value} (r:Vals xs us):xs.length=us.length:=Paired.length r
theorem Vals.get:∀ {xs:List V} {us:List Value} {i:Nat} {x:V},Vals xs us→xs[i]?=some x→∃ u,us[i]?=some u∧RelV x u
 | _,_,_,_,.nil,e=>by simp at e
 | _,_,0,_,.cons r _,e=>by simp at e; subst e; exact ⟨_,rfl,r⟩
 | _,_,i + 1,x,.cons _ t,e=>by
  obtain ⟨u,h1,h2⟩:=Vals.get (i:=i) (x:=x) t (by simpa using e)
  exact ⟨u,by simpa using h1,h2⟩
theorem Vals.append:∀ {xs ys:List V} {us ws:List Value},Vals xs us→Vals ys ws→Vals (xs ++ ys) (us ++ ws)
 | _,_,_,_,.nil,s=>s
 | _,_,_,_,.cons r t,s=>.cons r (Vals.append t s)
theorem Vals.take:∀ {xs:List V} {us:List Value} (n:Nat),Vals xs us→Vals (xs.take n) (us.take n)
 | _,_,0,_=>.nil
 | _,_,_ + 1,.nil=>.nil
 | _,_,n + 1,.cons r t=>.cons r (Vals.take n t)
theorem Vals.drop:∀ {xs:List V} {us:List Value} (n:Nat),Vals xs us→Vals (xs.drop n) (us.drop n)
 | _,_,0,r=>r
 | _,_,_ + 1,.nil=>.nil
 | _,_,n + 1,.cons _ t=>Vals.drop n t
def RelO:Option V→Option Value→Prop
 | some v,some u=>RelV v u
 | none,none=>True
 | _,_=>False
def KV {κ:Type}:List (κ×V)→List (κ×Value)→Prop:=Paired fun (p:κ×V) (q:κ×Value)=>p.1=q.1∧RelV p.2 q.2
def kV:Key→V
 | .inl i=>.int i
 | .inr x=>.str x
inductive HO where
 | lst (xs:List V)
 | tup (xs:List V)
 | dK (kvs:List (Key×V)) | dT (kvs:List (List Key×V))
 | set (S:Int→Bool) (n:Nat)
 | ins (C dx:Addr) (fs:List (Str×V))
 | own (x:Addr)
 | xd (fs:List (Str×V))
 | met (f x:Addr)
 | rng (lo hi:Int)
 | frz (o:Obj) (u:HO)
 | tbl (ps:Array Value)
 | ext (φ:Heap→Prop)
abbrev Hp:=Addr→Option HO
def upd (H:Hp) (a:Addr) (o:HO):Hp:=fun b=>if b=a then some o else H b
theorem upd_same {H:Hp} {a:Addr} {o:HO}:upd H a o a=some o:=by unfold upd; rw [if_pos rfl]
theorem upd_ne {H:Hp} {a b:Addr} {o:HO} (h:b≠a):upd H a o b=H b:=by unfold upd; rw [if_neg h]
theorem ne_of {H:Hp} {a b:Addr} {o u:HO} (h:H a=some o) (h':H b=some u) (d:o≠u):a≠b:=by
 intro e; subst e; rw [h] at h'; exact d (Option.some.inj h')
theorem ne_of_none {H:Hp} {a b:Addr} {o:HO} (h:H a=some o) (h':H b=none):a≠b:=by
 intro e; subst e; rw [h] at h'; cases h'
def TupX (h:Heap) (a:Addr) (items:Array Value):Prop:=∃ o,h.get? a=some o∧o.cls=.type "tuple"∧∃ n,(o.data,o.dict)=(.seq items n,(none:Option Addr))
theorem TupX.tup {h:Heap} {a:Addr} {items:Array Value} (p:TupX h a items):IsTup h a items:=by
 obtain ⟨o,e,c,n,d⟩:=p
 exact ⟨o,e,c,n,congrArg Prod.fst d⟩
theorem TupX.new (h:Heap) (items:Array Value):TupX (h.push { cls:=.type "tuple",data:=.seq items }) h.objs.size items:=⟨_,Heap.get?_push_size _ rfl,rfl,_,rfl⟩
section
variable (P:Program) (w:World)
def ObjOk (H:Hp) (h:Heap) (a:Addr):HO→Prop
 | .lst xs=>xs.length≤sizeLine∧∃ (its:List Value) (n:Nat),Vals xs its∧h.get? a=some { cls:=.type "list",data:=.seq its.toArray n }
 | .tup xs=>xs.length≤sizeLine∧∃ its:List Value,Vals xs its∧TupX h a its.toArray
 | .dK kvs=>kvs.length≤sizeLine∧(a == sysModules)=false∧∃ vs,KV kvs vs∧h.DictOf (mixKind P w) a vs
 | .dT kvs=>kvs.length≤sizeLine∧(a == sysModules)=false∧∃ xs:List (List Key×Addr×Value),
   Paired (fun (p:List Key×V) (q:List Key×Addr×Value)=>p.1=q.1∧H q.2.1=some (.tup (p.1.map kV))∧RelV p.2 q.2.2) kvs xs ∧
   ∃ o es ep,h.get? a=some o∧o.ExactDict∧o.data=.dict es ep∧es.toList=xs.map (entryOfKey (tupleKind (mixKind P w)))∧(xs.map (·.1)).Nodup
 | .set S n=>h.SetOf (intKind P w) a S n
 | .ins C dx fs=>H dx=some (.own a)∧fs.length≤1000∧dx≠a∧h.get? a=some (PySem.W.instObj C dx) ∧
   ∃ mA,h.Ns1 dx mA∧(∀ f,RelO (fs.lookup f) (mA f))∧PySem.Within mA (fs.map (·.1))
 | .own _=>∃ o,h.get? a=some o
 | .xd fs=>∃ mA,h.Ns1 a mA∧∀ f,RelO (fs.lookup f) (mA f)
 | .rng lo hi=>∃ t u v,h.get? a=some { cls:=.type "range",data:=.fields #[.int lo t,.int hi u,.int 1 v] }
 | .frz o u=>h.get? a=some o∧ObjOk H h a u
 | .tbl ps=>h.get? a=some { cls:=.none,data:=.fields ps }
 | .met f x=>h.get? a=some (PySem.W.methodObj (.ref f) (.ref x))
 | .ext φ=>φ h∧(∃ o,h.get? a=some o)∧∀ h1 h2:Heap,φ h1→(∀ o,h1.get? a=some o→h2.get? a=some o)→φ h2
def HOk (H:Hp) (h:Heap):Prop:=∀ a o,H a=some o→ObjOk P w H h a o
end
section
variable {P:Program} {w:World} {H H':Hp} {h h':Heap} {a:Addr} {o:HO}
theorem ObjOk.lt (x:ObjOk P w H h a o):a < h.objs.size:=by
 cases o with
 | lst xs=>obtain ⟨_,_,_,_,e⟩:=x; exact Heap.lt_size e
 | tup xs=>obtain ⟨_,_,_,p⟩:=x; exact p.tup.lt
 | dK kvs=>obtain ⟨_,_,_,_,o,_,_,e,_⟩:=x; exact Heap.lt_size e
 | dT kvs=>obtain ⟨_,_,_,_,o,_,_,e,_⟩:=x; exact Heap.lt_size e
 | set S n=>obtain ⟨o,_,_,_,e,_⟩:=x; exact Heap.lt_size e
 | ins C dx fs=>obtain ⟨_,_,_,e,_⟩:=x; exact Heap.lt_size e
 | own y=>obtain ⟨_,e⟩:=x; exact Heap.lt_size e
 | xd fs=>obtain ⟨_,⟨_,_,_,e,_⟩,_⟩:=x; exact Heap.lt_size e
 | rng lo hi=>obtain ⟨_,_,_,e⟩:=x; exact Heap.lt_size e
 | frz ob u=>obtain ⟨e,_⟩:=x; exact Heap.lt_size e
 | tbl ps=>exact Heap.lt_size (show h.get? a=some _ from x)
 | met f y=>exact Heap.lt_size (show h.get? a=some _ from x)
 | ext φ=>obtain ⟨_,⟨_,e⟩,_⟩:=x; exact Heap.lt_size e
theorem Paired.mapP {α β:Type} {F G:α→β→Prop}:∀ {l₁:List α} {l₂:List β},Paired F l₁ l₂→(∀ a b,F a b→G a b)→Paired G l₁ l₂
 | _,_,.nil,_=>.nil
 | _,_,.cons r t,f=>.cons (f _ _ r) (Paired.mapP t f)
theorem ObjOk.stay (x:ObjOk P w H h a o) (k:∀ b u,(b=a∨H b=some (.own a))→h.get? b=some u→h'.get? b=some u)
  (ho:∀ b,H b=some (.own a)→H' b=some (.own a)) (ht:∀ b xs,H b=some (.tup xs)→H' b=some (.tup xs)):ObjOk P w H' h' a o:=by
 induction o with
 | lst xs=>obtain ⟨z,its,n,r,e⟩:=x; exact ⟨z,its,n,r,k _ _ (.inl rfl) e⟩
 | tup xs=>obtain ⟨z,its,r,ob,e,c⟩:=x; exact ⟨z,its,r,ob,k _ _ (.inl rfl) e,c⟩
 | dK kvs=>obtain ⟨z,y,vs,r,ob,es,ep,e,c⟩:=x; exact ⟨z,y,vs,r,ob,es,ep,k _ _ (.inl rfl) e,c⟩
 | dT kvs =>
  obtain ⟨z,y,xs,r,ob,es,ep,e,c⟩:=x
  exact ⟨z,y,xs,Paired.mapP r fun p q z=>⟨z.1,ht _ _ z.2.1,z.2.2⟩,ob,es,ep,k _ _ (.inl rfl) e,c⟩
 | set S n=>obtain ⟨ob,es,ep,t,e,c⟩:=x; exact ⟨ob,es,ep,t,k _ _ (.inl rfl) e,c⟩
 | ins C dx fs =>
  obtain ⟨d,z,ne,e,mA,⟨od,es,ep,e2,c⟩,r⟩:=x
  exact ⟨ho _ d,z,ne,k _ _ (.inl rfl) e,mA,⟨od,es,ep,k _ _ (.inr d) e2,c⟩,r⟩
 | own y=>obtain ⟨ob,e⟩:=x; exact ⟨ob,k _ _ (.inl rfl) e⟩
 | xd fs=>obtain ⟨mA,⟨od,es,ep,e,c⟩,r⟩:=x; exact ⟨mA,⟨od,es,ep,k _ _ (.inl rfl) e,c⟩,r⟩
 | rng lo hi=>obtain ⟨t,u,v,e⟩:=x; exact ⟨t,u,v,k _ _ (.inl rfl) e⟩
 | frz ob u ih=>obtain ⟨e,q⟩:=x; exact ⟨k _ _ (.inl rfl) e,ih q⟩
 | tbl ps =>
  have e:h.get? a=some { cls:=.none,data:=.fields ps }:=x
  show h'.get? a=some { cls:=.none,data:=.fields ps }
  exact k a _ (.inl rfl) e
 | met f y =>
  have e:h.get? a=some (PySem.W.methodObj (.ref f) (.ref y)):=x
  show h'.get? a=some (PySem.W.methodObj (.ref f) (.ref y))
  exact k a _ (.inl rfl) e
 | ext φ=>obtain ⟨p,⟨o,e⟩,st⟩:=x; exact ⟨st _ _ p fun o q=>k _ _ (.inl rfl) q,⟨o,k _ _ (.inl rfl) e⟩,st⟩
theorem HOk.lt (x:HOk P w H h) (e:H a=some o):a < h.objs.size:=(x a o e).lt
theorem HOk.fresh (x:HOk P w H h) (e:h.objs.size≤a):H a=none:=by
 cases q:H a with
 | none=>rfl
 | some u=>exact absurd (Nat.lt_of_lt_of_le (x.lt q) e) (Nat.lt_irrefl _)
theorem HOk.kept (x:HOk P w H h) (k:∀ b u,h.get? b=some u→h'.get? b=some u):HOk P w H h':=fun a o e =>
 (x a o e).stay (fun b u _ q=>k b u q) (fun _ q=>q) fun _ _ q=>q
theorem HOk.laid (x:HOk P w H h) (k:∀ b u,h.get? b=some u→h'.get? b=some u) (hp:h.objs.size≤a) (new:ObjOk P w (upd H a o) h' a o):HOk P w (upd H a o) h':=fun b u e=>by
 have hn:=x.fresh hp
 by_cases hb:b=a
 ·subst hb; rw [upd_same] at e; cases e; exact new
 ·rw [upd_ne hb] at e
  exact (x b u e).stay (fun c v _ q=>k c v q) (fun c q=>by rw [upd_ne (ne_of_none q hn)]; exact q) fun c xs q=>by rw [upd_ne (ne_of_none q hn)]; exact q
end
def Rd (H:Hp) (a:Addr) (u:HO):Prop:=H a=some u∨∃ o,H a=some (.frz o u)
theorem Rd.ok {P:Program} {w:World} {H:Hp} {h:Heap} {a:Addr} {u:HO} (r:Rd H a u) (x:HOk P w H h):ObjOk P w H h a u:=by
 rcases r with r | ⟨o,r⟩
 ·exact x a u r
 ·obtain ⟨_,q⟩:=x a _ r
  exact q
def Mut:Option HO→Prop
 | some (.lst _)=>True
 | some (.dK _)=>True
 | some (.dT _)=>True
 | some (.set _ _)=>True
 | some (.ins _ _ _)=>True
 | some (.ext _)=>True
 | _=>False
section
variable {P:Program} {w:World} {H:Hp} {h h':Heap} {x e:Addr} {o':HO}
theorem HOk.write (ok:HOk P w H h) (mu:Mut (H x)) (he:e=x∨H e=some (.own x)) (k:∀ b u,b≠e→h.get? b=some u→h'.get? b=some u) (heo:∃ u,h'.get? e=some u)
  (new:ObjOk P w (upd H x o') h' x o'):HOk P w (upd H x o') h':=fun b u q=>by
 have nown:∀ c y,H c=some (.own y)→c≠x:=fun c y r z=>by subst z; rw [r] at mu; exact mu
 have ntup:∀ c xs,H c=some (.tup xs)→c≠x:=fun c xs r z=>by subst z; rw [r] at mu; exact mu
 by_cases hb:b=x
 ·subst hb; rw [upd_same] at q; cases q; exact new
 ·rw [upd_ne hb] at q
  by_cases hbe:b=e
  ·have q':H b=some (.own x):=by
    rcases he with z | z
    ·exact absurd (hbe.trans z) hb
    ·rw [hbe]; exact z
   rw [q] at q'; cases q'
   obtain ⟨v,hv⟩:=heo
   exact ⟨v,by rw [hbe]; exact hv⟩
  ·refine (ok b u q).stay (fun c v hc r=>k c v ?_ r) (fun c r=>by rw [upd_ne (nown c b r)]; exact r) fun c xs r=>by rw [upd_ne (ntup c xs r)]; exact r
   rcases hc with rfl | hc
   ·exact hbe
   ·rintro rfl
    rcases he with z | z
    ·exact nown c b hc z
    ·rw [hc] at z; cases z; exact hb rfl
end
structure Un (fs ex:List Addr) (H H':Hp) (h h':Heap):Prop where
 keep:∀ b o,h.get? b=some o→H b=none→b ∉ fs→b ∉ ex→h'.get? b=some o
 slot:∀ b o,h.get? b=some o→H b=none→b∈fs→b ∉ ex→∃ sl,h'.get? b=some { o with slots:=sl }
 free:∀ b o,h.get? b=some o→H b=none→b ∉ ex→H' b=none
 there:∀ b o,h.get? b=some o→b ∉ ex→∃ o',h'.get? b=some o'
 tups:∀ b xs,H b=some (.tup xs)→H' b=some (.tup xs)
 frzs:∀ b o u,H b=some (.frz o u)→H' b=some (.frz o u)
 tbls:∀ b ps,H b=some (.tbl ps)→∃ more,H' b=some (.tbl (ps ++ more))
section
variable {fs fs' ex ex':List Addr} {H H1 H2:Hp} {h h1 h2 h':Heap} {a x e:Addr} {o:HO}
theorem Un.any (u:Un fs ex H H1 h h1) {b:Addr} {ob:Obj} (q:h.get? b=some ob) (n:H b=none) (hx:b ∉ ex):∃ sl,h1.get? b=some { ob with slots:=sl }:=by
 by_cases hb:b∈fs
 ·exact u.slot b ob q n hb hx
 ·exact ⟨ob.slots,u.keep b ob q n hb hx⟩
theorem Un.kept (k:∀ b u,h.get? b=some u→h'.get? b=some u):Un fs ex H H h h' :=
 ⟨fun b ob q _ _ _=>k b ob q,fun b ob q _ _ _=>⟨ob.slots,k b ob q⟩,fun _ _ _ n _=>n,fun b ob q _=>⟨ob,k b ob q⟩,fun _ _ q=>q,fun _ _ _ q=>q,fun _ ps q=>⟨#[],by rw [q]; simp⟩⟩
theorem Un.refl:Un fs ex H H h h:=Un.kept fun _ _ q=>q
theorem Un.laid (k:∀ b u,h.get? b=some u→h'.get? b=some u) (hp:h.objs.size≤a) (hn:H a=none):Un fs ex H (upd H a o) h h' where
 keep:=fun b u q _ _ _=>k b u q
 slot:=fun b u q _ _ _=>⟨u.slots,k b u q⟩
 free:=fun b u q n _=>by rw [upd_ne (Nat.ne_of_lt (Nat.lt_of_lt_of_le (Heap.lt_size q) hp))]; exact n
 there:=fun b u q _=>⟨u,k b u q⟩
 tups:=fun b xs q=>by rw [upd_ne (ne_of_none q hn)]; exact q
 frzs:=fun b u xs q=>by rw [upd_ne (ne_of_none q hn)]; exact q
 tbls:=fun b ps q=>⟨#[],by rw [upd_ne (ne_of_none q hn),q]; simp⟩
theorem Un.write (mu:Mut (H x)) (he:e=x∨H e=some (.own x)) (k:∀ b u,b≠e→h.get? b=some u→h'.get? b=some u) (heo:∃ u,h'.get? e=some u):Un fs ex H (upd H x o) h h':=by
 have hx:∀ b,H b=none→b≠x:=fun b n z=>by subst z; rw [n] at mu; exact mu
 have hb:∀ b,H b=none→b≠e:=fun b n z=>by
  subst z
  rcases he with r | r
  ·exact hx b n r
  ·rw [n] at r; cases r
 have hm:∀ b u,H b=some u→¬ Mut (some u)→b≠x:=fun b u q nm z=>by subst z; rw [q] at mu; exact nm mu
 refine ⟨fun b u q n _ _=>k b u (hb b n) q,fun b u q n _ _=>⟨u.slots,k b u (hb b n) q⟩,fun b u q n _=>by rw [upd_ne (hx b n)]; exact n,fun b u q _=>?_,
  fun b xs q=>by rw [upd_ne (hm b _ q fun z=>z)]; exact q,fun b u xs q=>by rw [upd_ne (hm b _ q fun z=>z)]; exact q,fun b ps q=>⟨#[],by rw [upd_ne (hm b _ q fun z=>z),q]; simp⟩⟩
 by_cases hbe:b=e
 ·subst hbe; exact heo
 ·exact ⟨u,k b u hbe q⟩
end
def trk (h:Heap) (H:Hp):List Addr:=(List.range h.objs.size).filter fun a=>(H a).isSome
def hidT (h:Heap) (H:Hp):Heap:=PySem.W.hideAll h (trk h H)
theorem hidT_size (h:Heap) (H:Hp):(hidT h H).objs.size=h.objs.size:=PySem.W.hideAll_size _ _
theorem hidT_get {h:Heap} {H:Hp} {b:Addr} {o:Obj} (e:h.get? b=some o) (n:H b=none):(hidT h H).get? b=some o :=
 PySem.W.hideAll_get _ e fun hm=>by
  have q:(H b).isSome=true:=(List.mem_filter.mp hm).2
  rw [n] at q; simp at q
theorem of_hidT {h:Heap} {H:Hp} {b:Addr} {o:Obj} (e:(hidT h H).get? b=some o):h.get? b=some o∧H b=none:=by
 have e':h.get? b=some o:=PySem.W.of_hideAll (trk h H) e
 refine ⟨e',?_⟩
 cases q:H b with
 | none=>rfl
 | some x =>
  have hm:b∈trk h H:=List.mem_filter.mpr ⟨List.mem_range.mpr (Heap.lt_size e'),by simp [q]⟩
  have z:(hidT h H).get? b=none:=PySem.W.hideAll_none (trk h H) hm
  rw [z] at e; cases e
structure Mod (K:PySem.W.Frag) (mg:Str→Option Value) (base:Heap):Prop where
 kin:K.In base
 glob:base.Ns mainGlobals mg
 blt:∃ mb,base.Ns builtinsNs mb∧∀ x:Str,x≠"__name__"→mb x=bootBuiltins x
 nolimit:base.NoLimit
structure Cx where
 prog:Program
 w:World
 K:PySem.W.Frag
 mg:Str→Option Value
 base:Heap
 A:Around
 N:List Str
 s₀:Shared
 H₀:Hp
 env:Env
 outer:List Env
 stack:List Env
 ex:List Addr
 fn:Str→Bool
 calm:Bool
 pn:List (Addr×Obj)
 xe:Value→Shared→Prop
def frs (l:List Env):List Addr:=l.filterMap (·.frame)
abbrev Cx.fs (X:Cx):List Addr:=frs X.outer
def Vis (sc:Scope) (x:Str):Prop:=sc.names.lookup x=some .local∨sc.names.lookup x=some .cell∨sc.names.lookup x=some .free
def Loc (sc:Scope) (x:Str):Prop:=sc.names.lookup x=some .local∨sc.names.lookup x=some .cell
def Look (env:Env) (h:Heap) (m:Str→Option Value) (x:Str) (u:Value):Prop :=
 (env.kindOf x=some .local∧m x=some u)∨((env.kindOf x=some .cell∨env.kindOf x=some .free)∧∃ c,env.cells.lookup x=some c∧h.IsCell c (some u))
structure Cx.Ok (X:Cx):Prop where
 mod:Mod X.K X.mg X.base
 kind:X.env.scope.kind=.function
 glob:X.env.globals=mainGlobals
 blt:X.env.builtins=builtinsNs
 above:X.s₀.heap.objs.size≤X.env.locals
 inj:∀ x y c,X.env.cells.lookup x=some c→X.env.cells.lookup y=some c→x=y
 has:∀ x,(X.env.kindOf x=some .cell∨X.env.kindOf x=some .free)→∃ c,X.env.cells.lookup x=some c
 cab:∀ x c,X.fn x=true→X.env.cells.lookup x=some c→X.s₀.heap.objs.size≤c
 hd:X.calm=true→X.A.handled=none
 frames:X.A.frames=some X.stack
 stk:X.stack=X.outer∨(X.stack=X.env :: X.outer∧X.env.frame=some X.env.locals)
 exf:∀ b∈X.ex,b≠X.env.locals∧∀ x c,X.env.cells.lookup x=some c→c≠b
 bs:∀ b o,X.base.get? b=some o→X.s₀.heap.get? b=some o∧X.H₀ b=none
 bsz:X.base.objs.size≤X.s₀.heap.objs.size
 noex:∀ b o,X.base.get? b=some o→b ∉ X.ex
 exfs:∀ b∈X.ex,b ∉ X.fs
 funs:X.s₀.heap.FunFrames X.base X.outer
 frf:∀ b∈X.fs,X.H₀ b=none
structure Inv (X:Cx) (pins:List (Addr×Obj)) (σ:List (Option V)) (H:Hp) (s:Shared):Prop where
 ok:X.Ok
 os:s.os=X.s₀.os
 bare:AllBare s.gens
 base:Un X.fs X.ex X.H₀ H X.s₀.heap s.heap
 loc:∃ m,s.heap.Ns X.env.locals m∧∀ (i:Nat) (x:Str) (v:V),X.N[i]?=some x→σ[i]?=some (some v)→Vis X.env.scope x→∃ u,RelV v u∧Look X.env s.heap m x u
 cell:∀ x c,X.env.cells.lookup x=some c→∃ v,s.heap.IsCell c v
 free:H X.env.locals=none
 freeC:∀ x c,X.env.cells.lookup x=some c→H c=none
 pin:∀ p∈X.pn ++ pins,s.heap.get? p.1=some p.2∧H p.1=none∧p.1≠X.env.locals∧p.1 ∉ X.fs∧∀ v,p.2.data≠.cell v
 hok:HOk X.prog X.w H s.heap
 len:σ.length=X.N.length
section
variable {X:Cx} {pins:List (Addr×Obj)} {σ:List (Option V)} {H H':Hp} {s:Shared} {h':Heap}
theorem Cx.Ok.nofr (ok:X.Ok) {b:Addr} {o:Obj} (e:X.base.get? b=some o):b ∉ X.fs:=fun hb=>by
 have:=(ok.funs.mem hb).1
 rw [e] at this; cases this
theorem Inv.bs (I:Inv X pins σ H s):∀ b o,X.base.get? b=some o→s.heap.get? b=some o∧H b=none:=fun b o e =>
 ⟨I.base.keep b o (I.ok.bs b o e).1 (I.ok.bs b o e).2 (I.ok.nofr e) (I.ok.noex b o e),I.base.free b o (I.ok.bs b o e).1 (I.ok.bs b o e).2 (I.ok.noex b o e)⟩
theorem Inv.bk (I:Inv X pins σ H s):∀ b o,X.base.get? b=some o→s.heap.get? b=some o:=fun b o e=>(I.bs b o e).1
theorem Inv.mod (I:Inv X pins σ H s):Mod X.K X.mg X.base:=I.ok.mod
theorem Inv.kIn (I:Inv X pins σ H s):X.K.In s.heap:=I.ok.mod.kin.keeps I.bk
theorem Inv.lt (I:Inv X pins σ H s):X.env.locals < s.heap.objs.size:=let ⟨_,hn,_⟩:=I.loc; hn.lt
theorem Inv.sz (I:Inv X pins σ H s):X.s₀.heap.objs.size≤s.heap.objs.size:=Nat.le_trans I.ok.above (Nat.le_of_lt I.lt)
theorem Inv.nofs (I:Inv X pins σ H s) {a:Addr} (h:s.heap.objs.size≤a):a ∉ X.fs:=fun hb=>by
 obtain ⟨_,o,ho,_⟩:=I.ok.funs.mem hb
 exact absurd (Nat.lt_of_lt_of_le (Heap.lt_size ho) (Nat.le_trans I.sz h)) (Nat.lt_irrefl _)
theorem Inv.cne (I:Inv X pins σ H s):∀ x c,X.env.cells.lookup x=some c→c≠X.env.locals:=fun x c e z=>by
 obtain ⟨v,o,ho,hd⟩:=I.cell x c e
 obtain ⟨m,⟨o',es,ep,ho',hd',_⟩,_⟩:=I.loc
 rw [z,ho'] at ho; cases ho; rw [hd'] at hd; cases hd
theorem Inv.funs (I:Inv X pins σ H s):s.heap.FunFrames X.base X.outer:=by
 have all:∀ (l:List Env),(∀ b∈frs l,b∈X.fs)→X.s₀.heap.FunFrames X.base l→s.heap.FunFrames X.base l:=by
  intro l
  induction l with
  | nil=>intro _ _; trivial
  | cons env r ih =>
   intro hs hl
   obtain ⟨hk,⟨L,o,hf,hn,ho,hd⟩,hr⟩:=hl
   have hL:L∈X.fs:=hs L (by unfold frs; rw [List.filterMap_cons,hf]; exact List.mem_cons_self)
   obtain ⟨sl,e⟩:=I.base.slot L o ho (I.ok.frf L hL) hL fun z=>I.ok.exfs L z hL
   exact ⟨hk,⟨L,_,hf,hn,e,hd⟩,ih (fun b hb=>hs b (by unfold frs; rw [List.filterMap_cons,hf]; exact List.mem_cons_of_mem _ hb)) hr⟩
 exact all X.outer (fun _ hb=>hb) I.ok.funs
theorem Inv.stack (I:Inv X pins σ H s):s.heap.FunFrames X.base X.stack:=by
 rcases I.ok.stk with e | ⟨e,hf⟩
 ·rw [e]; exact I.funs
 ·rw [e]
  obtain ⟨m,hn,_⟩:=I.loc
  refine .cons (by rw [I.ok.kind]; decide) hf hn ?_ I.funs
  exact Heap.get?_none_of_le (Nat.le_trans I.ok.bsz I.ok.above)
theorem Inv.stkSub (I:Inv X pins σ H s):∀ b∈frs X.stack,b∈X.env.locals :: X.fs:=fun b hb=>by
 rcases I.ok.stk with e | ⟨e,hf⟩
 ·rw [e] at hb; exact List.mem_cons_of_mem _ hb
 ·rw [e] at hb
  unfold frs at hb
  rw [List.filterMap_cons,hf] at hb
  exact hb
theorem Inv.stkFree (I:Inv X pins σ H s):∀ b∈frs X.stack,H b=none:=fun b hb=>by
 rcases List.mem_cons.mp (I.stkSub b hb) with e | hb
 ·rw [e]; exact I.free
 ·obtain ⟨_,o,ho,_⟩:=I.ok.funs.mem hb
  exact I.base.free b o ho (I.ok.frf b hb) fun z=>I.ok.exfs b z hb
theorem Inv.step {g':Array GenState} {t':Nat} {d':Drawn} {ch:List Addr} (I:Inv X pins σ H s)
  (hch:∀ b∈ch,(b∈X.ex∨X.s₀.heap.objs.size≤b)∧b≠X.env.locals∧(∀ x c,X.env.cells.lookup x=some c→c≠b)∧∀ p∈X.pn ++ pins,p.1≠b)
  (keep:∀ b o,b≠X.env.locals→b ∉ X.fs→b ∉ ch→s.heap.get? b=some o→H b=none→h'.get? b=some o)
  (slot:∀ b o,b≠X.env.locals→b∈X.fs→b ∉ ch→s.heap.get? b=some o→H b=none→∃ sl,h'.get? b=some { o with slots:=sl }) (free:∀ b o,b ∉ ch→s.heap.get? b=some o→H b=none→H' b=none)
  (there:∀ b o,b ∉ ch→s.heap.get? b=some o→∃ o',h'.get? b=some o')
  (tups:∀ b xs,H b=some (.tup xs)→H' b=some (.tup xs)) (frzs:∀ b o u,H b=some (.frz o u)→H' b=some (.frz o u)) (tbls:∀ b ps,H b=some (.tbl ps)→∃ more,H' b=some (.tbl (ps ++ more)))
  (ns:∀ m,s.heap.Ns X.env.locals m→h'.Ns X.env.locals m) (hok:HOk X.prog X.w H' h') (hg:AllBare g') :
  Inv X pins σ H' { s with heap:=h',gens:=g',drawn:=d',toks:=t' }:=by
 have neL:∀ b o,X.s₀.heap.get? b=some o→b≠X.env.locals:=fun b o e=>Nat.ne_of_lt (Nat.lt_of_lt_of_le (Heap.lt_size e) I.ok.above)
 have neC:∀ b o,X.s₀.heap.get? b=some o→b ∉ X.ex→b ∉ ch:=fun b o e hx hb=>by
  rcases (hch b hb).1 with z | z
  ·exact hx z
  ·exact absurd (Nat.lt_of_lt_of_le (Heap.lt_size e) z) (Nat.lt_irrefl _)
 have cellK:∀ x c,X.env.cells.lookup x=some c→∀ v,s.heap.IsCell c v→h'.IsCell c v:=fun x c e v ⟨o,ho,hd⟩=>by
  have nch:c ∉ ch:=fun z=>(hch c z).2.2.1 x c e rfl
  by_cases hc:c∈X.fs
  ·obtain ⟨sl,q⟩:=slot c o (I.cne x c e) hc nch ho (I.freeC x c e)
   exact ⟨_,q,hd⟩
  ·exact ⟨o,keep c o (I.cne x c e) hc nch ho (I.freeC x c e),hd⟩
 refine ⟨I.ok,I.os,hg,⟨fun b o e n hb hx=>?_,fun b o e n hb hx=>?_,fun b o e n hx=>?_,fun b o e hx=>?_,fun b xs e=>tups b xs (I.base.tups b xs e),fun b o xs e=>frzs b o xs (I.base.frzs b o xs e),fun b ps e=>?_⟩,?_,fun x c e=>?_,?_,fun x c e=>?_,fun p hp=>?_,hok,I.len⟩
 ·exact keep b o (neL b o e) hb (neC b o e hx) (I.base.keep b o e n hb hx) (I.base.free b o e n hx)
 ·obtain ⟨sl,e1⟩:=I.base.slot b o e n hb hx
  obtain ⟨sl',e2⟩:=slot b _ (neL b o e) hb (neC b o e hx) e1 (I.base.free b o e n hx)
  exact ⟨sl',e2⟩
 ·obtain ⟨o',e1⟩:=I.base.there b o e hx
  exact free b o' (neC b o e hx) e1 (I.base.free b o e n hx)
 ·obtain ⟨o',e1⟩:=I.base.there b o e hx
  exact there b o' (neC b o e hx) e1
 ·obtain ⟨m1,e1⟩:=I.base.tbls b ps e
  obtain ⟨m2,e2⟩:=tbls b _ e1
  exact ⟨m1 ++ m2,by rw [e2,Array.append_assoc]⟩
 ·obtain ⟨m,hn,hl⟩:=I.loc
  refine ⟨m,ns m hn,fun i x v e1 e2 e3=>?_⟩
  obtain ⟨u,r,l⟩:=hl i x v e1 e2 e3
  refine ⟨u,r,?_⟩
  rcases l with l | ⟨k,c,e,z⟩
  ·exact .inl l
  ·exact .inr ⟨k,c,e,cellK x c e _ z⟩
 ·obtain ⟨v,z⟩:=I.cell x c e
  exact ⟨v,cellK x c e v z⟩
 ·obtain ⟨m,⟨o,_,_,ho,_⟩,_⟩:=I.loc
  exact free _ o (fun z=>(hch _ z).2.1 rfl) ho I.free
 ·obtain ⟨v,o,ho,hd⟩:=I.cell x c e
  exact free c o (fun z=>(hch c z).2.2.1 x c e rfl) ho (I.freeC x c e)
 ·obtain ⟨e,n,ne,nf,d⟩:=I.pin p hp
  have nch:p.1 ∉ ch:=fun z=>(hch p.1 z).2.2.2 p hp rfl
  exact ⟨keep p.1 p.2 ne nf nch e n,free p.1 p.2 nch e n,ne,nf,d⟩
theorem Inv.un {t':Nat} (I:Inv X pins σ H s) (u:Un X.fs [] H H' s.heap h') (hok:HOk X.prog X.w H' h'):Inv X pins σ H' { s with heap:=h',toks:=t' }:=by
 obtain ⟨m,⟨o,es,ep,ho,r⟩,_⟩:=id I.loc
 obtain ⟨sl,hL⟩:=u.any ho I.free (by simp)
 exact I.step (g':=s.gens) (d':=s.drawn) (ch:=[]) (fun _ z=>nomatch z) (fun b o _ hb _ e n=>u.keep b o e n hb (by simp)) (fun b o _ hb _ e n=>u.slot b o e n hb (by simp)) (fun b o _ e n=>u.free b o e n (by simp)) (fun b o _ e=>u.there b o e (by simp)) u.tups u.frzs u.tbls (fun m' hm=>by
  obtain ⟨o',es',ep',ho',r'⟩:=hm
  rw [ho] at ho'; cases ho'
  exact ⟨_,es',ep',hL,r'⟩) hok I.bare
theorem Inv.call {g':Array GenState} {t':Nat} {d':Drawn} {ch:List Addr} (I:Inv X pins σ H s) (u:Un (frs X.stack) ch H H' s.heap h') (hok:HOk X.prog X.w H' h') (hg:AllBare g')
  (hch:∀ b∈ch,(b∈X.ex∨X.s₀.heap.objs.size≤b)∧b≠X.env.locals∧(∀ x c,X.env.cells.lookup x=some c→c≠b)∧∀ p∈X.pn ++ pins,p.1≠b) :
  Inv X pins σ H' { s with heap:=h',gens:=g',drawn:=d',toks:=t' }:=by
 obtain ⟨m,⟨o,es,ep,ho,r⟩,_⟩:=id I.loc
 obtain ⟨sl,hL⟩:=u.any ho I.free fun z=>(hch _ z).2.1 rfl
 exact I.step (ch:=ch) hch (fun b o hL hb hc e n=>u.keep b o e n (fun z=>(List.mem_cons.mp (I.stkSub b z)).elim hL hb) hc) (fun b o _ _ hc e n=>u.any e n hc) (fun b o hc e n=>u.free b o e n hc) (fun b o hc e=>u.there b o e hc) u.tups u.frzs u.tbls (fun m' hm=>by
  obtain ⟨o',es',ep',ho',r'⟩:=hm
  rw [ho] at ho'; cases ho'
  exact ⟨_,es',ep',hL,r'⟩) hok hg
theorem Inv.turned {t':Nat} {it:Addr} (I:Inv X pins σ H s) (k:∀ b o,b≠it→s.heap.get? b=some o→h'.get? b=some o) (hn:H it=none) (hL:it≠X.env.locals)
  (h1:it∈X.ex∨X.s₀.heap.objs.size≤it) (h2:∀ x c,X.env.cells.lookup x=some c→c≠it) (h3:∀ p∈X.pn ++ pins,p.1≠it):Inv X pins σ H { s with heap:=h',toks:=t' }:=by
 have nit:∀ b u,H b=some u→b≠it:=fun b u e z=>by rw [z,hn] at e; cases e
 refine I.step (g':=s.gens) (d':=s.drawn) (ch:=[it]) (fun b hb=>?_) (fun b o _ _ hc e _=>k b o (fun z=>hc (by simp [z])) e) (fun b o _ _ hc e _=>⟨o.slots,k b o (fun z=>hc (by simp [z])) e⟩) (fun _ _ _ _ n=>n)
  (fun b o hc e=>⟨o,k b o (fun z=>hc (by simp [z])) e⟩) (fun _ _ e=>e) (fun _ _ _ e=>e) (fun b ps e=>⟨#[],by rw [e]; simp⟩) (fun m hm=>?_) (fun b u e=>?_) I.bare
 ·have e:b=it:=by simpa using hb
  subst e
  exact ⟨h1,hL,h2,h3⟩
 ·obtain ⟨o,es,ep,ho,r⟩:=hm
  exact ⟨o,es,ep,k _ o (Ne.symm hL) ho,r⟩
 ·refine (I.hok b u e).stay (fun c v hc q=>k c v ?_ q) (fun _ q=>q) fun _ _ q=>q
  rcases hc with z | z
  ·rw [z]; exact nit b u e
  ·exact nit c _ z
theorem Inv.tok (I:Inv X pins σ H s) (t:Nat):Inv X pins σ H { s with toks:=t }:=I.un (h':=s.heap) (t':=t) Un.refl I.hok
theorem Inv.kept {t':Nat} (I:Inv X pins σ H s) (k:∀ b u,s.heap.get? b=some u→h'.get? b=some u):Inv X pins σ H { s with heap:=h',toks:=t' }:=I.un (Un.kept k) (I.hok.kept k)
theorem Inv.laid {a:Addr} {o:HO} {t':Nat} (I:Inv X pins σ H s) (k:∀ b u,s.heap.get? b=some u→h'.get? b=some u) (hp:s.heap.objs.size≤a) (new:ObjOk X.prog X.w (upd H a o) h' a o) :
  Inv X pins σ (upd H a o) { s with heap:=h',toks:=t' }:=I.un (Un.laid k hp (I.hok.fresh hp)) (I.hok.laid k hp new)
theorem Inv.write {x e:Addr} {o:HO} {t':Nat} (I:Inv X pins σ H s) (mu:Mut (H x)) (he:e=x∨H e=some (.own x)) (k:∀ b u,b≠e→s.heap.get? b=some u→h'.get? b=some u) (heo:∃ u,h'.get? e=some u)
  (new:ObjOk X.prog X.w (upd H x o) h' x o):Inv X pins σ (upd H x o) { s with heap:=h',toks:=t' }:=I.un (Un.write mu he k heo) (I.hok.write mu he k heo new)
theorem Inv.pins_of {pins':List (Addr×Obj)} (I:Inv X pins σ H s) (h:∀ p∈pins',s.heap.get? p.1=some p.2∧H p.1=none∧p.1≠X.env.locals∧p.1 ∉ X.fs∧∀ v,p.2.data≠.cell v):Inv X pins' σ H s :=
 ⟨I.ok,I.os,I.bare,I.base,I.loc,I.cell,I.free,I.freeC,fun p hp=>(List.mem_append.mp hp).elim (fun z=>I.pin p (List.mem_append_left _ z)) (h p),I.hok,I.len⟩
theorem nodup_ix {N:List Str} (hN:N.Nodup) {i j:Nat} {x:Str} (a:N[i]?=some x) (b:N[j]?=some x):i=j:=by
 obtain ⟨h1,e1⟩:=List.getElem?_eq_some_iff.mp a
 obtain ⟨h2,e2⟩:=List.getElem?_eq_some_iff.mp b
 exact (List.getElem_inj hN).mp (e1.trans e2.symm)
theorem store_ok2 {M:Model} {A:Around} {E:Value→Shared→Prop} {i:Nat} {x:Str} {v:V} {u:Value} {Q:Unit→Shared→Prop} (I:Inv X pins σ H s) (hN:X.N.Nodup) (hi:X.N[i]?=some x) (hx:Loc X.env.scope x) (r:RelV v u)
  (h:∀ s',Inv X pins (σ.set i (some v)) H s'→(∃ a,Heap.SameBut a s.heap s'.heap∧(a=X.env.locals∨X.env.cells.lookup x=some a))→Q () s') (hf:X.fn x=true∨X.env.scope.names.lookup x=some .local:=by first | exact .inl rfl | exact .inr rfl | assumption):wpAny M A (storeName X.env x u) Q E s:=by
 obtain ⟨m,hn,hl⟩:=id I.loc
 have hcls:(X.env.scope.kind == .class || (X.env.scope.kind == .module && X.env.locals != X.env.globals))=false:=by rw [I.ok.kind]; rfl
 have hiσ:i < σ.length:=by rw [I.len]; exact (List.getElem?_eq_some_iff.mp hi).1
 have cne:=I.cne
 have tracked:∀ {a:Addr} {h':Heap},(∃ o,s.heap.get? a=some o∧H a=none)→Heap.SameBut a s.heap h'→HOk X.prog X.w H h':=fun {a h'} ha hs b ob e=>by
  obtain ⟨_,_,hfree⟩:=ha
  refine (I.hok b ob e).stay (fun c w' hc q=>(hs.2 c ?_).trans q) (fun _ q=>q) fun _ _ q=>q
  rintro rfl
  rcases hc with rfl | hc
  ·rw [hfree] at e; cases e
  ·rw [hfree] at hc; cases hc
 rcases hx with hk | hk
 ·refine wpAny_storeName_local hk hn (fun h' hn' hs=>?_) hcls
  obtain ⟨oL,_,_,hoL,_⟩:=id hn
  refine h _ ⟨I.ok,I.os,I.bare,⟨fun b o e n hb hx=>?_,fun b o e n hb hx=>?_,I.base.free,fun b o e hx=>?_,I.base.tups,I.base.frzs,I.base.tbls⟩,⟨_,hn',fun j y v' e1 e2 e3=>?_⟩,fun y c e=>?_,I.free,I.freeC,fun p hp=>?_,tracked ⟨oL,hoL,I.free⟩ hs,by simpa using I.len⟩ ⟨_,hs,.inl rfl⟩
  ·exact (hs.2 b (Nat.ne_of_lt (Nat.lt_of_lt_of_le (Heap.lt_size e) I.ok.above))).trans (I.base.keep b o e n hb hx)
  ·obtain ⟨sl,e1⟩:=I.base.slot b o e n hb hx
   exact ⟨sl,(hs.2 b (Nat.ne_of_lt (Nat.lt_of_lt_of_le (Heap.lt_size e) I.ok.above))).trans e1⟩
  ·obtain ⟨o',e1⟩:=I.base.there b o e hx
   exact ⟨o',(hs.2 b (Nat.ne_of_lt (Nat.lt_of_lt_of_le (Heap.lt_size e) I.ok.above))).trans e1⟩
  ·by_cases hj:j=i
   ·subst hj
    rw [hi] at e1; cases e1
    rw [List.getElem?_set_self hiσ] at e2
    cases e2
    exact ⟨u,r,.inl ⟨hk,by simp⟩⟩
   ·rw [List.getElem?_set_ne (Ne.symm hj)] at e2
    obtain ⟨u',r',q⟩:=hl j y v' e1 e2 e3
    refine ⟨u',r',?_⟩
    rcases q with ⟨k,e⟩ | ⟨k,c,e,z⟩
    ·refine .inl ⟨k,?_⟩
     have:y≠x:=fun e=>hj (nodup_ix hN e1 (e ▸ hi))
     simp [this,e]
    ·exact .inr ⟨k,c,e,z.sameBut hs (cne y c e)⟩
  ·obtain ⟨w',z⟩:=I.cell y c e
   exact ⟨w',z.sameBut hs (cne y c e)⟩
  ·obtain ⟨e,n,ne,nf,d⟩:=I.pin p hp
   exact ⟨(hs.2 p.1 ne).trans e,n,ne,nf,d⟩
 ·have hfn:X.fn x=true:=by
   rcases hf with z | z
   ·exact z
   ·rw [z] at hk; cases hk
  obtain ⟨c,hc⟩:=I.ok.has x (.inl hk)
  obtain ⟨w',z⟩:=I.cell x c hc
  refine wpAny_storeName_cell I.ok.kind hk hc z (fun h' hc' hs=>?_)
  obtain ⟨oc,hoc,hocd⟩:=id z
  refine h { s with heap:=h' } ⟨I.ok,I.os,I.bare,⟨fun b o e n hb hx=>?_,fun b o e n hb hx=>?_,I.base.free,fun b o e hx=>?_,I.base.tups,I.base.frzs,I.base.tbls⟩,⟨m,hn.sameBut hs (Ne.symm (cne x c hc)),fun j y v' e1 e2 e3=>?_⟩,fun y c' e=>?_,I.free,I.freeC,fun p hp=>?_,tracked ⟨oc,hoc,I.freeC x c hc⟩ hs,by simpa using I.len⟩ ⟨c,hs,.inr hc⟩
  ·exact (hs.2 b (Nat.ne_of_lt (Nat.lt_of_lt_of_le (Heap.lt_size e) (I.ok.cab x c hfn hc)))).trans (I.base.keep b o e n hb hx)
  ·obtain ⟨sl,e1⟩:=I.base.slot b o e n hb hx
   exact ⟨sl,(hs.2 b (Nat.ne_of_lt (Nat.lt_of_lt_of_le (Heap.lt_size e) (I.ok.cab x c hfn hc)))).trans e1⟩
  ·obtain ⟨o',e1⟩:=I.base.there b o e hx
   exact ⟨o',(hs.2 b (Nat.ne_of_lt (Nat.lt_of_lt_of_le (Heap.lt_size e) (I.ok.cab x c hfn hc)))).trans e1⟩
  ·by_cases hj:j=i
   ·subst hj
    rw [hi] at e1; cases e1
    rw [List.getElem?_set_self hiσ] at e2
    cases e2
    exact ⟨u,r,.inr ⟨.inl hk,c,hc,hc'⟩⟩
   ·rw [List.getElem?_set_ne (Ne.symm hj)] at e2
    obtain ⟨u',r',q⟩:=hl j y v' e1 e2 e3
    refine ⟨u',r',?_⟩
    rcases q with q | ⟨k,c',e,z'⟩
    ·exact .inl q
    ·refine .inr ⟨k,c',e,z'.sameBut hs ?_⟩
     rintro rfl
     exact hj (nodup_ix hN e1 (I.ok.inj _ _ _ e hc ▸ hi))
  ·by_cases hcc:c'=c
   ·subst hcc; exact ⟨_,hc'⟩
   ·obtain ⟨w2,z2⟩:=I.cell y c' e
    exact ⟨w2,z2.sameBut hs hcc⟩
  ·obtain ⟨e,n,ne,nf,d⟩:=I.pin p hp
   refine ⟨(hs.2 p.1 ?_).trans e,n,ne,nf,d⟩
   intro q
   rw [q,hoc] at e
   have q':oc=p.2:=Option.some.inj e
   exact d w' (by rw [← q']; exact hocd)
theorem store_ok {M:Model} {A:Around} {E:Value→Shared→Prop} {i:Nat} {x:Str} {v:V} {u:Value} {Q:Unit→Shared→Prop} (I:Inv X pins σ H s) (hN:X.N.Nodup) (hi:X.N[i]?=some x) (hx:Loc X.env.scope x) (r:RelV v u)
  (h:∀ s',Inv X pins (σ.set i (some v)) H s'→Q () s') (hf:X.fn x=true∨X.env.scope.names.lookup x=some .local:=by first | exact .inl rfl | exact .inr rfl | assumption):wpAny M A (storeName X.env x u) Q E s :=
 store_ok2 I hN hi hx r (fun s' I' _=>h s' I') hf
theorem Inv.call' {s':Shared} {ch:List Addr} (I:Inv X pins σ H s) (ho:s'.os=s.os) (u:Un (frs X.stack) ch H H' s.heap s'.heap) (hok:HOk X.prog X.w H' s'.heap) (hg:AllBare s'.gens)
  (hch:∀ b∈ch,(b∈X.ex∨X.s₀.heap.objs.size≤b)∧b≠X.env.locals∧(∀ x c,X.env.cells.lookup x=some c→c≠b)∧∀ p∈X.pn ++ pins,p.1≠b):Inv X pins σ H' s':=by
 obtain ⟨h',g',d',t',o'⟩:=s'
 have e:o'=s.os:=ho
 subst e
 exact I.call (g':=g') (t':=t') (d':=d') u hok hg hch
end
abbrev XK:=Value→Option Addr→Hp→Prop
abbrev St:=List (Option V)
abbrev VK:=V→Hp→Prop
abbrev TE:=St→Hp→VK→Prop
abbrev TT:=St→Hp→(Bool→Hp→Prop)→Prop
abbrev TA:=St→Hp→(List V→Hp→Prop)→Prop
structure Ends where
 nx:St→Hp→Prop
 rt:VK
 bk:St→Hp→Prop:=fun _ _=>False
 ct:St→Hp→Prop:=fun _ _=>False
abbrev TS:=Ends→St→Hp→Prop
def EP (X:Cx) (pins:List (Addr×Obj)) (σ:St) (Q:VK) (u:Value) (s':Shared):Prop:=∃ v H',Inv X pins σ H' s'∧RelV v u∧Q v H'
def TP (X:Cx) (pins:List (Addr×Obj)) (σ:St) (Q:Bool→Hp→Prop) (b:Bool) (s':Shared):Prop:=∃ H',Inv X pins σ H' s'∧Q b H'
def AP (X:Cx) (pins:List (Addr×Obj)) (σ:St) (Q:List V→Hp→Prop) (us:List Value) (s':Shared):Prop:=∃ vs H',Inv X pins σ H' s'∧Vals vs us∧Q vs H'
def SP (X:Cx) (pins:List (Addr×Obj)) (D:Ends) (f:Flow) (s':Shared):Prop :=
 match f with
 | .next=>∃ σ' H',Inv X pins σ' H' s'∧D.nx σ' H'
 | .brk=>∃ σ' H',Inv X pins σ' H' s'∧D.bk σ' H'
 | .cont=>∃ σ' H',Inv X pins σ' H' s'∧D.ct σ' H'
 | .ret u=>∃ v σ' H',Inv X pins σ' H' s'∧RelV v u∧D.rt v H'
def PE (X:Cx) (e:Expr) (t:TE):Prop :=
 ∀ (pins:List (Addr×Obj)) (s:Shared) (σ:St) (H:Hp) (Q:VK),Inv X pins σ H s→t σ H Q→wpAny (model X.prog X.w) X.A (eval e X.env) (EP X pins σ Q) X.xe s
def PT (X:Cx) (e:Expr) (t:TT):Prop :=
 ∀ (pins:List (Addr×Obj)) (s:Shared) (σ:St) (H:Hp) (Q:Bool→Hp→Prop),Inv X pins σ H s→t σ H Q→wpAny (model X.prog X.w) X.A (isTrue e X.env (eval e X.env)) (TP X pins σ Q) X.xe s
def PW (X:Cx) (e:Expr) (t:TT):Prop :=
 ∀ (whole:Sem Value) (pins:List (Addr×Obj)) (s:Shared) (σ:St) (H:Hp) (Q:Bool→Hp→Prop),Inv X pins σ H s→t σ H Q→wpAny (model X.prog X.w) X.A (isTrue e X.env whole) (TP X pins σ Q) X.xe s
theorem PW.pt {X:Cx} {e:Expr} {t:TT} (h:PW X e t):PT X e t:=h _
def PA (X:Cx) (es:List Expr) (t:TA):Prop :=
 ∀ (pos:Pos) (pins:List (Addr×Obj)) (s:Shared) (σ:St) (H:Hp) (Q:List V→Hp→Prop),Inv X pins σ H s→t σ H Q→wpAny (model X.prog X.w) X.A (spliced (backTo pos (starEach es X.env))) (AP X pins σ Q) X.xe s
def PS (X:Cx) (st:Stmt) (t:TS):Prop :=
 ∀ (pins:List (Addr×Obj)) (s:Shared) (σ:St) (H:Hp) (D:Ends),Inv X pins σ H s→t D σ H→wpAny (model X.prog X.w) X.A (exec st X.env) (SP X pins D) X.xe s
def PSs (X:Cx) (st:List Stmt) (t:TS):Prop :=
 ∀ (pins:List (Addr×Obj)) (s:Shared) (σ:St) (H:Hp) (D:Ends),Inv X pins σ H s→t D σ H→wpAny (model X.prog X.w) X.A (execs st X.env) (SP X pins D) X.xe s
theorem thn {α:Type} {t:Sem α} {Q Q':α→Shared→Prop} {M:Model} {A:Around} {E:Value→Shared→Prop} {s:Shared} (h:wpAny M A t Q E s) (hQ:∀ a s,Q a s→Q' a s):wpAny M A t Q' E s:=wpAny_mono h hQ fun _ _ x=>x
section
variable {X:Cx}
def tVar (i:Nat):TE:=fun σ H Q=>∃ v,σ[i]?=some (some v)∧Q v H
def tC (v:V):TE:=fun _ H Q=>Q v H
theorem pe_var {i:Nat} {x:Str} {pos:Pos} (hN:X.N[i]?=some x) (hv:Vis X.env.scope x) (hd:(x == ("__debug__":Str))=false:=by decide) (hcd:(x == ("__classdict__":Str))=false:=by decide):PE X (.Name x pos) (tVar i):=by
 intro pins s σ H Q I h
 obtain ⟨v,e,h⟩:=h
 obtain ⟨m,hn,hl⟩:=I.loc
 obtain ⟨u,r,l⟩:=hl i x v hN e hv
 have fin:EP X pins σ Q u s:=⟨v,H,I,r,h⟩
 rcases l with ⟨hk,hm⟩ | ⟨hk,c,hc,hcell⟩
 ·exact wpAny_Name (wpAny_loadName_local I.ok.kind hk hn hm fin) hd
 ·rcases hk with hk | hk
  ·exact wpAny_Name (wpAny_loadName_cell I.ok.kind hk hc hcell fin) hd
  ·exact wpAny_Name (wpAny_loadName_free I.ok.kind hk hc hcell fin hcd) hd
theorem pe_int {i j pos}:PE X (.Constant (.int i) j pos) (tC (.int i)):=fun _ _ _ H _ I h=>wpAny_Constant_int ⟨.int i,H,I.tok _,⟨_,rfl⟩,h⟩
theorem pe_bl {b j pos}:PE X (.Constant (.bool b) j pos) (tC (.bl b)):=fun _ _ _ H _ I h=>Constant_bool ⟨.bl b,H,I,rfl,h⟩
theorem pe_str {x j pos}:PE X (.Constant (.str x) j pos) (tC (.str x)):=fun _ _ _ H _ I h=>Calls.Constant_str ⟨.str x,H,I.tok _,⟨_,rfl⟩,h⟩
def Gl (X:Cx) (x:Str):Prop:=X.env.kindOf x=some .globalImplicit
theorem ld_glob {E:Value→Shared→Prop} {pins:List (Addr×Obj)} {s:Shared} {σ:St} {H:Hp} {x:Str} {u:Value} {pos:Pos} {Q:Value→Shared→Prop} (I:Inv X pins σ H s) (hg:Gl X x) (hm:X.mg x=some u) (h:Q u s)
  (hd:(x == ("__debug__":Str))=false:=by decide):wpAny (model X.prog X.w) X.A (eval (.Name x pos) X.env) Q E s :=
 Calls.Name_function_global I.ok.kind hg (Calls.loadGlobal_global (by rw [I.ok.glob]; exact I.mod.glob.keeps I.bk) hm h) hd
theorem ld_blt {E:Value→Shared→Prop} {pins:List (Addr×Obj)} {s:Shared} {σ:St} {H:Hp} {x:Str} {u:Value} {pos:Pos} {Q:Value→Shared→Prop} (I:Inv X pins σ H s) (hg:Gl X x) (hm:X.mg x=none) (hv:bootBuiltins x=some u) (h:Q u s)
  (hn:x≠"__name__":=by decide) (hd:(x == ("__debug__":Str))=false:=by decide):wpAny (model X.prog X.w) X.A (eval (.Name x pos) X.env) Q E s:=by
 obtain ⟨mb,h1,h2⟩:=I.mod.blt
 exact Calls.Name_function_global I.ok.kind hg (Calls.loadGlobal_builtin (by rw [I.ok.glob]; exact I.mod.glob.keeps I.bk) hm (by rw [I.ok.blt]; exact h1.keeps I.bk) ((h2 x hn).trans hv) h) hd
theorem pe_glob {x:Str} {v:V} {u:Value} {pos:Pos} (hg:Gl X x) (hm:X.mg x=some u) (r:RelV v u) (hd:(x == ("__debug__":Str))=false:=by decide):PE X (.Name x pos) (tC v) :=
 fun _ _ _ H _ I h=>ld_glob I hg hm ⟨v,H,I,r,h⟩ hd
theorem pe_bltn {x:Str} {v:V} {u:Value} {pos:Pos} (hg:Gl X x) (hm:X.mg x=none) (hv:bootBuiltins x=some u) (r:RelV v u) (hn:x≠"__name__":=by decide) (hd:(x == ("__debug__":Str))=false:=by decide):PE X (.Name x pos) (tC v) :=
 fun _ _ _ H _ I h=>ld_blt I hg hm hv ⟨v,H,I,r,h⟩ hn hd
variable {a b:Expr} {ta tb:TE} {pos:Pos}
def tB (t:TE):TT:=fun σ H Q=>t σ H fun x H1=>∃ c,x=.bl c∧Q c H1
theorem pt_val {e:Expr} {t:TE} (h:PE X e t) (he:∀ whole,isTrue e X.env whole=(do let v ← whole; standAt e.pos; holding [v] (truthy v)):=by intro _; rfl):PT X e (tB t):=by
 intro pins s σ H Q I hw
 refine isTrue_plain (thn (h pins s σ H _ I hw) fun v s1 ⟨x,H1,I1,r1,q1⟩=>?_) (he _)
 obtain ⟨d,rfl,q⟩:=q1
 cases r1
 exact wpAny_truthy_bool ⟨H1,I1,q⟩
variable {tA tB':TT} {rest:List Expr}
def tAnd (t u:TT):TT:=fun σ H Q=>t σ H fun c H1=>if c=true then u σ H1 Q else Q false H1
def tOr (t u:TT):TT:=fun σ H Q=>t σ H fun c H1=>if c=true then Q true H1 else u σ H1 Q
def tNot (t:TT):TT:=fun σ H Q=>t σ H fun c H1=>Q (!c) H1
theorem pw_and1 (ha:PT X a tA):PW X (.BoolOp .And [a] pos) tA:=by
 intro wh pins s σ H Q I h
 refine isTrue_and (thn (ha pins s σ H Q I h) fun c s1 e=>?_)
 cases c with
 | true=>exact isTrue_and_nil e
 | false=>exact e
theorem pw_or1 (ha:PT X a tA):PW X (.BoolOp .Or [a] pos) tA:=by
 intro wh pins s σ H Q I h
 refine isTrue_or (thn (ha pins s σ H Q I h) fun c s1 e=>?_)
 cases c with
 | false=>exact isTrue_or_nil e
 | true=>exact e
theorem pw_and (ha:PT X a tA) (hb:PW X (.BoolOp .And (b :: rest) pos) tB'):PW X (.BoolOp .And (a :: b :: rest) pos) (tAnd tA tB'):=by
 intro wh pins s σ H Q I h
 refine isTrue_and (thn (ha pins s σ H _ I h) fun c s1 ⟨H1,I1,q1⟩=>?_)
 cases c with
 | true=>exact hb wh pins s1 σ H1 Q I1 q1
 | false=>exact ⟨H1,I1,q1⟩
theorem pw_or (ha:PT X a tA) (hb:PW X (.BoolOp .Or (b :: rest) pos) tB'):PW X (.BoolOp .Or (a :: b :: rest) pos) (tOr tA tB'):=by
 intro wh pins s σ H Q I h
 refine isTrue_or (thn (ha pins s σ H _ I h) fun c s1 ⟨H1,I1,q1⟩=>?_)
 cases c with
 | true=>exact ⟨H1,I1,q1⟩
 | false=>exact hb wh pins s1 σ H1 Q I1 q1
theorem pt_not (ha:PT X a tA):PT X (.UnaryOp .Not a pos) (tNot tA):=by
 intro pins s σ H Q I h
 exact isTrue_not (ha pins s σ H (fun c H1=>Q (!c) H1) I h)
def tAndV (ta tb:TE):TE:=fun σ H Q=>ta σ H fun x H1=>∃ c,x=.bl c∧if c=true then tb σ H1 Q else Q (.bl false) H1
def tOrV (ta tb:TE):TE:=fun σ H Q=>ta σ H fun x H1=>∃ c,x=.bl c∧if c=true then Q (.bl true) H1 else tb σ H1 Q
theorem pe_one {op} {t:TE} (h:PE X a t):PE X (.BoolOp op [a] pos) t:=fun pins s σ H Q I hw=>BoolOp_one (h pins s σ H Q I hw)
theorem pe_and (ha:PE X a ta) (hb:PE X (.BoolOp .And (b :: rest) pos) tb):PE X (.BoolOp .And (a :: b :: rest) pos) (tAndV ta tb):=by
 intro pins s σ H Q I h
 refine BoolOp_and (thn (ha pins s σ H _ I h) fun v s1 ⟨x,H1,I1,r1,q1⟩=>?_)
 obtain ⟨c,rfl,q1⟩:=q1
 cases r1
 refine wpAny_truthy_bool ?_
 cases c with
 | true=>exact hb pins s1 σ H1 Q I1 q1
 | false=>exact ⟨.bl false,H1,I1,rfl,q1⟩
theorem pe_or (ha:PE X a ta) (hb:PE X (.BoolOp .Or (b :: rest) pos) tb):PE X (.BoolOp .Or (a :: b :: rest) pos) (tOrV ta tb):=by
 intro pins s σ H Q I h
 refine BoolOp_or (thn (ha pins s σ H _ I h) fun v s1 ⟨x,H1,I1,r1,q1⟩=>?_)
 obtain ⟨c,rfl,q1⟩:=q1
 cases r1
 refine wpAny_truthy_bool ?_
 cases c with
 | false=>exact hb pins s1 σ H1 Q I1 q1
 | true=>exact ⟨.bl true,H1,I1,rfl,q1⟩
def tIf (t:TT) (ta tb:TE):TE:=fun σ H Q=>t σ H fun c H1=>if c=true then ta σ H1 Q else tb σ H1 Q
theorem pe_ifExp {c:Expr} (hc:PT X c tA) (ha:PE X a ta) (hb:PE X b tb):PE X (.IfExp c a b pos) (tIf tA ta tb):=by
 intro pins s σ H Q I h
 refine wpAny_IfExp (thn (hc pins s σ H _ I h) fun d s1 ⟨H1,I1,q1⟩=>?_)
 cases d with
 | true=>exact ha pins s1 σ H1 Q I1 q1
 | false=>exact hb pins s1 σ H1 Q I1 q1
end
def SqL (K:PySem.W.Frag) (H:Hp) (a:Addr) (xs:List V):Prop :=
 Rd H a (.lst xs) ∨
  ∃ (o:Obj) (its:Array Value) (n:Nat),K.lookup a=some o∧o.cls=.type "list"∧o.dict=none∧o.data=.seq its n∧its.size≤sizeLine∧Vals xs its.toList
def SqT (K:PySem.W.Frag) (H:Hp) (a:Addr) (xs:List V):Prop :=
 Rd H a (.tup xs) ∨
  ∃ (o:Obj) (its:Array Value) (n:Nat),K.lookup a=some o∧o.cls=.type "tuple"∧o.data=.seq its n∧its.size≤sizeLine∧Vals xs its.toList
def absV:Value→Option V
 | .none=>some .non
 | .bool b=>some (.bl b)
 | .int i _=>some (.int i)
 | .str x _=>some (.str x)
 | .bytes b _=>some (.byt b)
 | .float b _=>some (.flt b)
 | .ref a=>some (.ref a)
 | .type n=>some (.ty n)
 | _=>none
theorem RelV.abs {x:V} {u:Value} (r:RelV x u):absV u=some x:=by
 cases x with
 | non=>cases r; rfl
 | bl _=>cases r; rfl
 | int _=>obtain ⟨t,rfl⟩:=r; rfl
 | str _=>obtain ⟨t,rfl⟩:=r; rfl
 | byt _=>obtain ⟨t,rfl⟩:=r; rfl
 | flt _=>obtain ⟨t,rfl⟩:=r; rfl
 | ref _=>cases r; rfl
 | ty _=>cases r; rfl
theorem RelV.inj {x y:V} {u:Value} (r:RelV x u) (q:RelV y u):x=y:=Option.some.inj (r.abs.symm.trans q.abs)
theorem Vals.inj:∀ {xs ys:List V} {us:List Value},Vals xs us→Vals ys us→xs=ys
 | _,_,_,.nil,.nil=>rfl
 | _,_,_,.cons r t,.cons r' t'=>by rw [r.inj r',Vals.inj t t']
section
variable {X:Cx} {pins:List (Addr×Obj)} {σ:St} {H:Hp} {s:Shared} {a:Addr} {xs ys:List V}
theorem SqL.of {K:PySem.W.Frag} (h:H a=some (.lst xs)):SqL K H a xs:=.inl (.inl h)
theorem SqT.of {K:PySem.W.Frag} (h:H a=some (.tup xs)):SqT K H a xs:=.inl (.inl h)
theorem Inv.list (I:Inv X pins σ H s) (h:SqL X.K H a xs):∃ its:List Value,Vals xs its∧PlainL s.heap a its.toArray∧xs.length≤sizeLine:=by
 rcases h with h | ⟨o,its,n,hk,hc,hd,hs,hz,r⟩
 ·obtain ⟨z,its,n,r,e⟩:=h.ok I.hok
  exact ⟨its,r,⟨_,n,e,rfl,rfl,rfl⟩,z⟩
 ·refine ⟨its.toList,r,⟨o,n,I.kIn a o hk,hc,hd,by simpa using hs⟩,?_⟩
  have e:=r.length
  simp only [Array.length_toList] at e
  omega
theorem Inv.tuple (I:Inv X pins σ H s) (h:SqT X.K H a xs):∃ its:List Value,Vals xs its∧IsTup s.heap a its.toArray∧xs.length≤sizeLine:=by
 rcases h with h | ⟨o,its,n,hk,hc,hs,hz,r⟩
 ·obtain ⟨z,its,r,p⟩:=h.ok I.hok
  exact ⟨its,r,p.tup,z⟩
 ·refine ⟨its.toList,r,⟨o,I.kIn a o hk,hc,n,by simpa using hs⟩,?_⟩
  have e:=r.length
  simp only [Array.length_toList] at e
  omega
theorem Inv.list_inj (I:Inv X pins σ H s) (h:SqL X.K H a xs) (h':SqL X.K H a ys):xs=ys:=by
 obtain ⟨its,r,⟨o,n,e,_,_,d⟩,_⟩:=I.list h
 obtain ⟨its',r',⟨o',n',e',_,_,d'⟩,_⟩:=I.list h'
 rw [e] at e'; cases e'
 rw [d] at d'
 injection d' with d1 _
 have:its=its':=by simpa using congrArg Array.toList d1
 subst this
 exact r.inj r'
end
abbrev Cx.wish (X:Cx) (E:Value→Shared→Prop):Cx:={ X with xe:=E }
abbrev Cx.nox (X:Cx):Cx:=X.wish fun _ _=>False
theorem Cx.Ok.wish {X:Cx} (ok:X.Ok) (E:Value→Shared→Prop):(X.wish E).Ok :=
 ⟨ok.mod,ok.kind,ok.glob,ok.blt,ok.above,ok.inj,ok.has,ok.cab,ok.hd,ok.frames,ok.stk,ok.exf,ok.bs,ok.bsz,ok.noex,ok.exfs,ok.funs,ok.frf⟩
theorem Cx.Ok.unwish {X:Cx} {E:Value→Shared→Prop} (ok:(X.wish E).Ok):X.Ok :=
 ⟨ok.mod,ok.kind,ok.glob,ok.blt,ok.above,ok.inj,ok.has,ok.cab,ok.hd,ok.frames,ok.stk,ok.exf,ok.bs,ok.bsz,ok.noex,ok.exfs,ok.funs,ok.frf⟩
section
variable {X:Cx} {pins:List (Addr×Obj)} {σ:St} {H:Hp} {s:Shared} {E:Value→Shared→Prop}
theorem Inv.wish (I:Inv X pins σ H s) (E:Value→Shared→Prop):Inv (X.wish E) pins σ H s:=⟨I.ok.wish E,I.os,I.bare,I.base,I.loc,I.cell,I.free,I.freeC,I.pin,I.hok,I.len⟩
theorem Inv.unwish (I:Inv (X.wish E) pins σ H s):Inv X pins σ H s:=⟨I.ok.unwish,I.os,I.bare,I.base,I.loc,I.cell,I.free,I.freeC,I.pin,I.hok,I.len⟩
theorem SP.unwish {D:Ends} {f:Flow} {s':Shared} (h:SP (X.wish E) pins D f s'):SP X pins D f s':=by
 cases f with
 | next=>obtain ⟨σ',H',I,q⟩:=h; exact ⟨σ',H',I.unwish,q⟩
 | brk=>obtain ⟨σ',H',I,q⟩:=h; exact ⟨σ',H',I.unwish,q⟩
 | cont=>obtain ⟨σ',H',I,q⟩:=h; exact ⟨σ',H',I.unwish,q⟩
 | ret u=>obtain ⟨v,σ',H',I,r,q⟩:=h; exact ⟨v,σ',H',I.unwish,r,q⟩
theorem PSs.nox {st:List Stmt} {t:TS} (h:PSs X.nox st t):PSs X st t:=fun pins s σ H D I hw =>
 wpAny_mono (h pins s σ H D (I.wish _) hw) (fun _ _ q=>q.unwish) fun _ _ z=>False.elim z
end
section
variable {X:Cx} {st:Stmt} {rest:List Stmt} {t u:TS} {e:Expr} {te:TE} {pos:Pos}
def tNext:TS:=fun D σ H=>D.nx σ H
def tSeq (t u:TS):TS:=fun D σ H=>t { D with nx:=u D } σ H
theorem pss_nil:PSs X [] tNext:=fun _ _ σ H _ I h=>wpAny_execs_nil ⟨σ,H,I,h⟩
theorem pss_cons (h1:PS X st t) (h2:PSs X rest u):PSs X (st :: rest) (tSeq t u):=by
 intro pins s σ H D I h
 refine wpAny_execs_cons (thn (h1 pins s σ H { D with nx:=u D } I h) fun f s1 q=>?_)
 cases f with
 | next =>
  obtain ⟨σ',H',I',q⟩:=q
  exact h2 pins s1 σ' H' D I' q
 | ret v=>exact q
 | brk=>exact q
 | cont=>exact q
theorem pss_one (h1:PS X st t):PSs X [st] t:=by
 intro pins s σ H D I h
 refine wpAny_execs_cons (thn (h1 pins s σ H D I h) fun f s1 q=>?_)
 cases f with
 | next=>exact wpAny_execs_nil q
 | ret v=>exact q
 | brk=>exact q
 | cont=>exact q
theorem Inv.quiet {pins:List (Addr×Obj)} {σ:St} {H:Hp} {s:Shared} (I:Inv X pins σ H s):interactive X.env=false:=by simp [interactive,I.ok.kind]
def tDrop (te:TE):TS:=fun D σ H=>te σ H fun _ H1=>D.nx σ H1
theorem ps_expr (he:PE X e te) (hs:swapsWith e none pos.line X.env=pure false:=by rfl):PS X (.Expr e pos) (tDrop te):=by
 intro pins s σ H D I h
 exact wpAny_Expr_any (thn (he pins s σ H _ I h) fun v s1 ⟨x,H1,I1,r1,q1⟩=>⟨σ,H1,I1,q1⟩) I.quiet hs
def tRet (te:TE):TS:=fun D σ H=>te σ H D.rt
theorem ps_ret (he:PE X e te):PS X (.Return (some e) pos) (tRet te):=by
 intro pins s σ H D I h
 exact wpAny_Return_some (thn (he pins s σ H _ I h) fun v s1 ⟨x,H1,I1,r1,q1⟩=>⟨x,σ,H1,I1,r1,q1⟩)
def tIfS (c:TT) (t u:TS):TS:=fun D σ H=>c σ H fun b H1=>if b=true then t D σ H1 else u D σ H1
theorem ps_if {c:Expr} {a b:List Stmt} {tc:TT} (hc:PT X c tc) (ha:PSs X a t) (hb:PSs X b u):PS X (.If c a b pos) (tIfS tc t u):=by
 intro pins s σ H D I h
 refine wpAny_If (thn (hc pins s σ H _ I h) fun d s1 ⟨H1,I1,q1⟩=>?_)
 cases d with
 | true=>exact ha pins s1 σ H1 D I1 q1
 | false=>exact hb pins s1 σ H1 D I1 q1
def tNever:TS:=fun _ _ _=>False
theorem ps_never:PS X st tNever:=fun _ _ _ _ _ _ h=>h.elim
end
abbrev TG:=V→St→Hp→(St→Hp→Prop)→Prop
abbrev TGs:=List V→St→Hp→(St→Hp→Prop)→Prop
def PG (X:Cx) (target:Expr) (t:TG):Prop :=
 ∀ (pins:List (Addr×Obj)) (s:Shared) (σ:St) (H:Hp) (v:V) (u:Value) (Q:St→Hp→Prop),Inv X pins σ H s→RelV v u→t v σ H Q →
  wpAny (model X.prog X.w) X.A (assign target X.env u) (fun _ s'=>∃ σ' H',Inv X pins σ' H' s'∧Q σ' H') X.xe s
def PGs (X:Cx) (ts:List Expr) (t:TGs):Prop :=
 ∀ (pins:List (Addr×Obj)) (s:Shared) (σ:St) (H:Hp) (vs:List V) (us:List Value) (Q:St→Hp→Prop),Inv X pins σ H s→Vals vs us→t vs σ H Q →
  wpAny (model X.prog X.w) X.A (assignInOrder ((assignEach ts X.env).map (·.2)) us) (fun _ s'=>∃ σ' H',Inv X pins σ' H' s'∧Q σ' H') X.xe s
section
variable {X:Cx} {pos:Pos}
def gName (i:Nat):TG:=fun v σ H Q=>Q (σ.set i (some v)) H
theorem pg_name {i:Nat} {x:Str} (hN:X.N.Nodup) (hi:X.N[i]?=some x) (hx:Loc X.env.scope x) (hf:X.fn x=true∨X.env.scope.names.lookup x=some .local:=by first | exact .inl rfl | exact .inr rfl | assumption):PG X (.Name x pos) (gName i):=by
 intro pins s σ H v u Q I r h
 exact wpAny_assign_Name (store_ok I hN hi hx r (fun s' I'=>⟨_,H,I',h⟩) hf)
def gNil:TGs:=fun vs σ H Q=>vs=[]∧Q σ H
def gCons (t:TG) (u:TGs):TGs:=fun vs σ H Q=>∃ v r,vs=v :: r∧t v σ H fun σ' H'=>u r σ' H' Q
theorem pgs_nil:PGs X [] gNil:=by
 intro pins s σ H vs us Q I r h
 obtain ⟨e,h⟩:=h
 subst e
 cases r
 exact assignInOrder_nil ⟨σ,H,I,h⟩
theorem pgs_cons {e:Expr} {es:List Expr} {t:TG} {u:TGs} (h1:PG X e t) (h2:PGs X es u)
  (hs:(assignEach (e :: es) X.env).map (·.2)=assign e X.env :: (assignEach es X.env).map (·.2):=by rfl):PGs X (e :: es) (gCons t u):=by
 intro pins s σ H vs us Q I r h
 obtain ⟨v,vr,e1,h⟩:=h
 subst e1
 cases r with
 | cons r rr =>
  rw [hs]
  refine assignInOrder_cons (thn (h1 pins s σ H _ _ _ I r h) fun _ s1 ⟨σ1,H1,I1,q1⟩=>?_)
  exact h2 pins s1 σ1 H1 _ _ Q I1 rr q1
def gTup (K:PySem.W.Frag) (n:Nat) (t:TGs):TG:=fun v σ H Q=>∃ a xs,v=.ref a∧SqT K H a xs∧xs.length=n∧t xs σ H Q
theorem pg_tup {es:List Expr} {k:Nat} {t:TGs} {n:Nat} (hc:X.calm=true) (h:PGs X es t)
  (hn:(assignEach es X.env).length=n:=by rfl) (hst:(assignEach es X.env).findIdx? (·.1)=none:=by rfl):PG X (.Tuple es k pos) (gTup X.K n t):=by
 intro pins s σ H v u Q I r hw
 obtain ⟨a,xs,e1,hq,hl,hw⟩:=hw
 subst e1
 cases r
 obtain ⟨its,rv,ht,hz⟩:=I.tuple hq
 refine assign_Tuple_tuple (I.ok.hd hc) ht (by simp [hn,← hl,rv.length]) hst fun h' hx=>?_
 have I1:Inv X pins σ H { s with heap:=h' }:=I.kept (t':=s.toks) fun b o e=>hx b o (Nat.ne_of_lt (Heap.lt_size e)) e
 exact h pins _ σ H xs _ Q I1 (by simpa using rv) hw
def tAsg (te:TE) (g:TG):TS:=fun D σ H=>te σ H fun x H1=>g x σ H1 D.nx
theorem ps_asg {tg e:Expr} {te:TE} {g:TG} (he:PE X e te) (hg:PG X tg g) (hs:swapsWithSole [tg] e pos.line X.env=pure false:=by rfl) (hw:swappedStores [tg] e X.env=pure none:=by rfl)
  (h1:(assignEach [tg] X.env).map (·.2)=[assign tg X.env]:=by rfl):PS X (.Assign [tg] e pos) (tAsg te g):=by
 intro pins s σ H D I h
 refine wpAny_Assign_stores (thn (he pins s σ H _ I h) fun v s1 ⟨x,H1,I1,r1,q1⟩=>?_) hs hw
 rw [h1]
 exact thn (hg pins s1 σ H1 x v _ I1 r1 q1) fun _ s2 q=>q
theorem ps_set {i:Nat} {x:Str} {e:Expr} {te:TE} {pos':Pos} (hN:X.N.Nodup) (hi:X.N[i]?=some x) (hx:Loc X.env.scope x) (he:PE X e te) (hs:swapsWith e (some (.Name x pos')) pos.line X.env=pure false:=by rfl) (hf:X.fn x=true∨X.env.scope.names.lookup x=some .local:=by first | exact .inl rfl | exact .inr rfl | assumption) :
  PS X (.Assign [.Name x pos'] e pos) (tAsg te (gName i)):=by
 intro pins s σ H D I h
 refine wpAny_Assign_Name (thn (he pins s σ H _ I h) fun v s1 ⟨y,H1,I1,r1,q1⟩=>?_) hs
 exact store_ok I1 hN hi hx r1 (fun s2 I2=>⟨_,H1,I2,q1⟩) hf
end
section
variable {X:Cx} {pos:Pos}
def tWhile (c:TT) (tb:TS):TS:=fun D σ H=>∃ W:Nat→St→Hp→Prop,(∃ m,W m σ H)∧∀ m σ H,W m σ H →
 c σ H fun b H1=>if b=true then ∃ N:St→Hp→Prop,(∀ σ' H',N σ' H'→∃ m',m' < m∧W m' σ' H')∧tb { D with nx:=N,ct:=N,bk:=D.nx } σ H1 else D.nx σ H1
theorem ps_while {c:Expr} {body:List Stmt} {tc:TT} {tb:TS} (hp:PassesOwn (model X.prog X.w) X.A X.env X.xe) (hc:PT X c tc) (hb:PSs X body tb):PS X (.While c body [] pos) (tWhile tc tb):=by
 intro pins s σ H D I h
 obtain ⟨W,⟨m0,w0⟩,turn⟩:=h
 refine wpAny_While (codeAny_whileLoop (fun n s'=>∃ σ' H',Inv X pins σ' H' s'∧W n σ' H') ?_ m0 ⟨σ,H,I,w0⟩)
 rintro n s1 ⟨σ1,H1,I1,w1⟩
 refine wpAny_passesOwn hp (thn (hc pins s1 σ1 H1 _ I1 (turn n σ1 H1 w1)) fun b s2 ⟨H2,I2,q2⟩=>?_)
 cases b with
 | true =>
  obtain ⟨N,hN,q2⟩:=q2
  rw [if_pos rfl]
  refine wpAny_passesOwn hp (thn (hb pins s2 σ1 H2 _ I2 q2) fun f s3 q3=>?_)
  cases f with
  | next =>
   obtain ⟨σ3,H3,I3,n3⟩:=q3
   obtain ⟨m',hm,w3⟩:=hN σ3 H3 n3
   exact ⟨m',hm,σ3,H3,I3,w3⟩
  | cont =>
   obtain ⟨σ3,H3,I3,n3⟩:=q3
   obtain ⟨m',hm,w3⟩:=hN σ3 H3 n3
   exact ⟨m',hm,σ3,H3,I3,w3⟩
  | brk=>exact q3
  | ret v=>exact q3
 | false =>
  rw [if_neg Bool.false_ne_true]
  exact wpAny_execs_nil ⟨σ1,H2,I2,q2⟩
end
structure It where
 go:Nat→Hp→Prop
 yld:Nat→Hp→V→Hp→Prop
 stop:Nat→Hp→Prop
def FpOk (X:Cx) (pins:List (Addr×Obj)) (H:Hp) (b:Addr):Prop :=
 H b=none∧b≠X.env.locals∧b ∉ X.fs∧(b∈X.ex∨X.s₀.heap.objs.size≤b)∧(∀ x c,X.env.cells.lookup x=some c→c≠b)∧∀ p∈X.pn ++ pins,p.1≠b
theorem Inv.fpOk {X:Cx} {pins:List (Addr×Obj)} {σ:St} {H H':Hp} {s:Shared} {b:Addr} (I:Inv X pins σ H s) (hb:s.heap.objs.size≤b) (hn:H' b=none):FpOk X pins H' b:=by
 refine ⟨hn,Nat.ne_of_gt (Nat.lt_of_lt_of_le I.lt hb),I.nofs hb,.inr (Nat.le_trans I.sz hb),fun x c e z=>?_,fun p hp z=>?_⟩
 ·obtain ⟨v,q⟩:=I.cell x c e
  exact absurd (Nat.lt_of_lt_of_le q.lt (by rw [z]; exact hb)) (Nat.lt_irrefl _)
 ·exact absurd (Nat.lt_of_lt_of_le (Heap.lt_size (I.pin p hp).1) (by rw [z]; exact hb)) (Nat.lt_irrefl _)
structure Turn (P:Program) (w:World) (K:PySem.W.Frag) (tg:Expr) (J:It) (fp:List Addr) (it:Addr) (tn:Nat→Heap→Prop):Prop where
 mem:it∈fp
 obj:∀ i h,tn i h→∀ b∈fp,∃ o,h.get? b=some o∧∀ v,o.data≠.cell v
 keep:∀ i h h',tn i h→(∀ b∈fp,∀ o,h.get? b=some o→h'.get? b=some o)→tn i h'
 item:∀ (X:Cx),X.prog=P→X.w=w→X.K=K→X.calm=true→∀ (i:Nat) (pins:List (Addr×Obj)) (s:Shared) (σ:St) (H:Hp) (E:Value→Shared→Prop),Inv X pins σ H s→(∀ b∈fp,FpOk X pins H b)→tn i s.heap→J.go i H →
  wpAny (model P w) X.A (pyNext (.ref it)) (fun r s1=>∃ u,r=some u ∧
   wpAny (model P w) X.A (letOwnedTupleGo tg (.ref it) u) (fun _ s2=>∃ x H',Inv X pins σ H' s2∧RelV x u∧J.yld i H x H'∧tn (i + 1) s2.heap∧∀ b∈fp,H' b=none) E s1) E s
 done:∀ (X:Cx),X.prog=P→X.w=w→X.K=K→X.calm=true→∀ (i:Nat) (pins:List (Addr×Obj)) (s:Shared) (σ:St) (H:Hp) (E:Value→Shared→Prop),Inv X pins σ H s→(∀ b∈fp,FpOk X pins H b)→tn i s.heap→J.stop i H →
  wpAny (model P w) X.A (pyNext (.ref it)) (fun r s1=>r=none∧Inv X pins σ H s1) E s
 self:∀ (A:Around) (i:Nat) (s:Shared) (Q:Value→Shared→Prop) (E:Value→Shared→Prop),tn i s.heap→Q (.ref it) s→wpAny (model P w) A (pyIter (.ref it)) Q E s
abbrev TI:=St→Hp→(It→Hp→Prop)→Prop
def PIE (X:Cx) (pins:List (Addr×Obj)) (σ:St) (tg:Expr) (R:It→Hp→Prop) (itv:Value) (s2:Shared):Prop :=
 ∃ (it:Addr) (fp:List Addr) (tn:Nat→Heap→Prop) (J:It) (H':Hp),itv=.ref it∧Inv X pins σ H' s2∧Turn X.prog X.w X.K tg J fp it tn∧tn 0 s2.heap∧(∀ b∈fp,FpOk X pins H' b)∧R J H'
def PI (X:Cx) (tg iter:Expr) (wi:TI):Prop :=
 ∀ (pins:List (Addr×Obj)) (s:Shared) (σ:St) (H:Hp) (R:It→Hp→Prop),Inv X pins σ H s→wi σ H R →
  wpAny (model X.prog X.w) X.A (eval iter X.env) (fun v s1=>wpAny (model X.prog X.w) X.A (pyIter v) (PIE X pins σ tg R) X.xe s1) X.xe s
theorem go_of {M:Model} {A:Around} {E:Value→Shared→Prop} {s:Shared} {tg:Expr} {it:Addr} {u:Value} {o:Obj} {n:String} {vs:Array Value} {Q:Unit→Shared→Prop} (ho:s.heap.get? it=some o) (hc:o.cls=.type n) (hd:o.data=.fields vs)
    (hn:["enumerate","zip","dict_itemiterator","dict_reverseitemiterator","odict_iterator","itertools.zip_longest","itertools.pairwise"].contains n=false) (hQ:Q () s):wpAny M A (letOwnedTupleGo tg (.ref it) u) Q E s:=by
  unfold letOwnedTupleGo
  cases tg <;> first
    | exact wpAny_pure hQ
    | (cases u <;> first
        | exact wpAny_pure hQ
        | (refine wpAny_bind (wpAny_load ho ?_)
           rw [hc,hd]
           show wpAny M A (if (["enumerate","zip","dict_itemiterator","dict_reverseitemiterator","odict_iterator","itertools.zip_longest","itertools.pairwise"].contains n && vs[0]? == some (rawInt _))=true then _ else _) Q E s
           rw [if_neg (by intro h; rw [hn,Bool.false_and] at h; cases h)]
           exact wpAny_pure hQ))
def Itl (K:PySem.W.Frag) (a:Addr):It :=
 ⟨fun i H=>∃ xs x,SqL K H a xs∧xs[i]?=some x,fun i H x H'=>H'=H∧∀ xs,SqL K H a xs→xs[i]?=some x,fun i H=>∃ xs,SqL K H a xs∧xs.length≤i⟩
def Itr (lo:Int) (n:Nat):It:=⟨fun i _=>i < n,fun i H x H'=>H'=H∧x=.int (lo + i),fun i _=>n≤i⟩
theorem turn_list {P:Program} {w:World} {K:PySem.W.Frag} {tg:Expr} (a it:Addr):Turn P w K tg (Itl K a) [it] it (fun i h=>h.IsListIter it a i) where
 mem:=by simp
 obj:=fun i h st b hb=>by
  have e:b=it:=by simpa using hb
  subst e
  obtain ⟨o,e,c,d⟩:=st
  exact ⟨o,e,fun v z=>by rw [d] at z; cases z⟩
 keep:=fun i h h' st k=>st.at fun o e=>k it (by simp) o e
 item:=by
  intro X hP hw hK hc i pins s σ H E I hf st hg
  subst hP hw hK
  obtain ⟨xs,x,hq,hx⟩:=hg
  obtain ⟨its,rv,p,hz⟩:=I.list hq
  obtain ⟨u,hu,ru⟩:=rv.get hx
  obtain ⟨f0,f1,f2,f3,f4,f5⟩:=hf it (by simp)
  refine wpAny_pyNext_list_item st p.isList (x:=u) (by simpa using hu) fun h' st' sb=>?_
  have I1:Inv X pins σ H { s with heap:=h' }:=I.turned (t':=s.toks) (fun b o hb e=>(sb.2 b hb).trans e) f0 f1 f3 f4 f5
  obtain ⟨o,e,c,d⟩:=id st'
  exact ⟨u,rfl,go_of (s:={ s with heap:=h' }) e c d (by decide) ⟨x,H,I1,ru,⟨rfl,fun ys hy=>by rw [I.list_inj hy hq]; exact hx⟩,st',fun b hb=>(hf b hb).1⟩⟩
 done:=by
  intro X hP hw hK hc i pins s σ H E I hf st hg
  subst hP hw hK
  obtain ⟨xs,hq,hx⟩:=hg
  obtain ⟨its,rv,p,hz⟩:=I.list hq
  obtain ⟨f0,f1,f2,f3,f4,f5⟩:=hf it (by simp)
  have hl:=rv.length
  exact wpAny_pyNext_list_end (I.ok.hd hc) st p.isList (by simp; omega) fun h' eb=>⟨rfl,I.turned (t':=s.toks) (fun b o hb e=>eb b o hb e) f0 f1 f3 f4 f5⟩
 self:=fun _ _ _ _ _ st h=>wpAny_pyIter_listiter st h
theorem turn_range {P:Program} {w:World} {K:PySem.W.Frag} {tg:Expr} (it:Addr) (lo:Int) (n:Nat):Turn P w K tg (Itr lo n) [it] it (fun i h=>IsRangeIter h it (lo + (i:Nat) * 1) ((n:Int) - (i:Nat)) 1) where
 mem:=by simp
 obj:=fun i h st b hb=>by
  have e:b=it:=by simpa using hb
  subst e
  exact ⟨_,st,fun v z=>by
   have z':Data.fields _=Data.cell v:=z
   cases z'⟩
 keep:=fun i h h' st k=>k it (by simp) _ st
 item:=by
  intro X hP hw hK hc i pins s σ H E I hf st hg
  subst hP hw hK
  obtain ⟨f0,f1,f2,f3,f4,f5⟩:=hf it (by simp)
  have W:=Walks.range (prog:=X.prog) (w:=X.w) (I.ok.hd hc) it lo 1 n
  refine W.item i s _ _ hg st fun v h' tk hv st' kk=>?_
  obtain ⟨t,rfl⟩:=hv
  have I1:Inv X pins σ H { s with heap:=h',toks:=tk }:=I.turned (fun b o hb e=>kk b o (by simpa using hb) e) f0 f1 f3 f4 f5
  refine ⟨_,rfl,go_of (s:={ s with heap:=h',toks:=tk }) (n:="range_iterator") st' rfl rfl (by decide) ⟨.int (lo + i),H,I1,⟨t,?_⟩,⟨rfl,rfl⟩,st',fun b hb=>(hf b hb).1⟩⟩
  rw [Int.mul_one]
 done:=by
  intro X hP hw hK hc i pins s σ H E I hf st hg
  subst hP hw hK
  obtain ⟨f0,f1,f2,f3,f4,f5⟩:=hf it (by simp)
  exact wpAny_pyNext_range_end (I.ok.hd hc) st (by have:n≤i:=hg; omega) fun h' eb=>⟨rfl,I.turned (t':=s.toks) (fun b o hb e=>eb b o hb e) f0 f1 f3 f4 f5⟩
 self:=fun _ _ _ _ _ st h=>wpAny_pyIter_rangeiter st h
section
variable {X:Cx} {tg:Expr}
def iList (K:PySem.W.Frag) (tl:TE):TI:=fun σ H R=>tl σ H fun x H1=>∃ a,x=.ref a∧(∃ xs,SqL K H1 a xs)∧R (Itl K a) H1
theorem pi_list {l:Expr} {tl:TE} (hl:PE X l tl):PI X tg l (iList X.K tl):=by
 intro pins s σ H R I h
 refine thn (hl pins s σ H _ I h) fun v s1 ⟨x,H1,I1,r1,q1⟩=>?_
 obtain ⟨a,e,⟨xs,hq⟩,q⟩:=q1
 subst e
 cases r1
 obtain ⟨its,rv,p,hz⟩:=I1.list hq
 refine wpAny_pyIter_list p.isList ?_
 refine ⟨s1.heap.objs.size,[s1.heap.objs.size],_,_,H1,rfl,I1.kept (t':=s1.toks) fun b o e=>Heap.get?_push_of_some _ e,turn_list a _,⟨_,Heap.get?_push_size _ rfl,rfl,rfl⟩,fun b hb=>?_,q⟩
 have e:b=s1.heap.objs.size:=by simpa using hb
 subst e
 exact I1.fpOk (Nat.le_refl _) (I1.hok.fresh (Nat.le_refl _))
theorem range_it {pins:List (Addr×Obj)} {σ:St} {H:Hp} {s:Shared} {R:It→Hp→Prop} {E:Value→Shared→Prop} {lo hi:Int} {t u v:Tok} {tk:Nat} (I:Inv X pins σ H s) (h1:-(2 ^ 62)≤lo) (h2:lo < 2 ^ 62) (h3:-(2 ^ 62)≤hi) (h4:hi < 2 ^ 62)
  (q:R (Itr lo (hi - lo).toNat) H):wpAny (model X.prog X.w) X.A (pyIter (.ref s.heap.objs.size)) (PIE X pins σ tg R) E { s with heap:=s.heap.push { cls:=.type "range",data:=.fields #[.int lo t,.int hi u,.int 1 v] },toks:=tk }:=by
 refine wpAny_pyIter_range (IsRange.new ..) (small_one h1 h2 h3 h4) ?_
 have I1:Inv X pins σ H { s with heap:=s.heap.push { cls:=.type "range",data:=.fields #[.int lo t,.int hi u,.int 1 v] },toks:=tk }:=I.kept fun b o e=>Heap.get?_push_of_some _ e
 refine ⟨(s.heap.push { cls:=.type "range",data:=.fields #[.int lo t,.int hi u,.int 1 v] }).objs.size,[(s.heap.push { cls:=.type "range",data:=.fields #[.int lo t,.int hi u,.int 1 v] }).objs.size],_,_,H,rfl,
  I1.kept (t':=tk) fun b o e=>Heap.get?_push_of_some _ e,turn_range _ lo (hi - lo).toNat,?_,fun b hb=>?_,q⟩
 ·have e1:lo + ((0:Nat):Int) * 1=lo:=by simp
  have e2:(((hi - lo).toNat:Nat):Int) - ((0:Nat):Int)=Builtin.Range.rangeSize lo hi 1:=by rw [rangeSize_one]; split <;> omega
  show IsRangeIter _ _ (lo + ((0:Nat):Int) * 1) ((((hi - lo).toNat:Nat):Int) - ((0:Nat):Int)) 1
  rw [e1,e2]
  exact Heap.get?_push_size _ rfl
 ·have e:b=(s.heap.push { cls:=.type "range",data:=.fields #[.int lo t,.int hi u,.int 1 v] }).objs.size:=by simpa using hb
  subst e
  exact I1.fpOk (Nat.le_refl _) (I1.hok.fresh (Nat.le_refl _))
def iRng1 (ta:TA):TI:=fun σ H R=>ta σ H fun vs H1=>∃ j:Int,vs=[.int j]∧-(2 ^ 62)≤j∧j < 2 ^ 62∧R (Itr 0 j.toNat) H1
theorem pi_range1 {a:Expr} {ta:TA} {p pos:Pos} (hg:Gl X "range") (hm:X.mg "range"=none) (ha:PA X [a] ta) (hs:starEach [a] X.env=[(false,eval a X.env)]:=by rfl):PI X tg (.Call (.Name "range" p) [a] [] pos) (iRng1 ta):=by
 intro pins s σ H R I h
 refine Call_ (ld_blt I hg hm boot_range (PyProof.Rows.callWith_type1 (thn (ha pos pins s σ H _ I h) fun us s1 ⟨vs,H1,I1,r1,q1⟩=>?_) hs rfl))
 obtain ⟨j,e,q1,q2,q⟩:=q1
 subst e
 cases r1 with
 | cons r rr =>
  cases rr
  obtain ⟨t,rfl⟩:=r
  exact call_range_1 (range_it I1 (by omega) (by omega) q1 q2 (by simpa using q))
def tFor (wi:TI) (g:TG) (tb:TS):TS:=fun D σ H=>wi σ H fun J H1=>∃ W:Nat→Nat→St→Hp→Prop,(∃ m,W 0 m σ H1)∧∀ i m σ H,W i m σ H →
 (J.stop i H∧D.nx σ H)∨(J.go i H∧∃ N:St→Hp→Prop,(∀ σ' H',N σ' H'→∃ m',m' < m∧W (i + 1) m' σ' H')∧∀ x H',J.yld i H x H'→g x σ H' fun σ2 H2=>tb { D with nx:=N,ct:=N,bk:=D.nx } σ2 H2)
def pinsAt (fp:List Addr) (h:Heap):List (Addr×Obj):=fp.filterMap fun b=>(h.get? b).map fun o=>(b,o)
theorem mem_pinsAt {fp:List Addr} {h:Heap} {b:Addr} {o:Obj} (hb:b∈fp) (e:h.get? b=some o):(b,o)∈pinsAt fp h:=List.mem_filterMap.mpr ⟨b,hb,by rw [e]; rfl⟩
theorem of_pinsAt {fp:List Addr} {h:Heap} {p:Addr×Obj} (hp:p∈pinsAt fp h):p.1∈fp∧h.get? p.1=some p.2:=by
 obtain ⟨b,hb,e⟩:=List.mem_filterMap.mp hp
 cases q:h.get? b with
 | none=>rw [q] at e; cases e
 | some o =>
  rw [q] at e
  have e':(b,o)=p:=Option.some.inj e
  subst e'
  exact ⟨hb,q⟩
theorem Inv.pinned {pins:List (Addr×Obj)} {σ:St} {H:Hp} {s:Shared} {fp:List Addr} (I:Inv X pins σ H s) (hf:∀ b∈fp,FpOk X pins H b) (ho:∀ b∈fp,∃ o,s.heap.get? b=some o∧∀ v,o.data≠.cell v):Inv X (pins ++ pinsAt fp s.heap) σ H s :=
 I.pins_of fun p hp=>(List.mem_append.mp hp).elim (fun z=>I.pin p (List.mem_append_right _ z)) fun z=>by
  obtain ⟨hb,e⟩:=of_pinsAt z
  obtain ⟨f0,f1,f2,_⟩:=hf p.1 hb
  obtain ⟨o,e',d⟩:=ho p.1 hb
  rw [e] at e'; cases e'
  exact ⟨e,f0,f1,f2,d⟩
theorem Inv.unpinned {pins pl:List (Addr×Obj)} {σ:St} {H:Hp} {s:Shared} (I:Inv X (pins ++ pl) σ H s):Inv X pins σ H s:=I.pins_of fun p hp=>I.pin p (List.mem_append_right _ (List.mem_append_left _ hp))
theorem ps_for {iter:Expr} {body:List Stmt} {wi:TI} {g:TG} {tb:TS} {pos:Pos} (hp:PassesOwn (model X.prog X.w) X.A X.env X.xe) (hc:X.calm=true) (hi:PI X tg iter wi) (hg:PG X tg g) (hb:PSs X body tb)
  (hs:∀ x,foldedSetIterable iter X.env x=pure x:=by intro _; rfl):PS X (.For tg iter body [] pos) (tFor wi g tb):=by
 intro pins s σ H D I h
 refine wpAny_For (thn (hi pins s σ H _ I h) fun v s1 h1=>thn h1 fun itv s2 h2=>?_) hs
 obtain ⟨it,fp,tn,J,H2,e,I2,T,st2,f2,W,⟨m0,w0⟩,turn⟩:=h2
 subst e
 have stat:∀ {H':Hp},(∀ b∈fp,H' b=none)→∀ b∈fp,FpOk X pins H' b:=fun hn b hb=>⟨hn b hb,(f2 b hb).2⟩
 refine codeAny_forLoop_any (fun n s'=>∃ i σ' H',Inv X pins σ' H' s'∧tn i s'.heap∧(∀ b∈fp,H' b=none)∧W i n σ' H') ?_ m0 ⟨0,σ,H2,I2,st2,fun b hb=>(f2 b hb).1,w0⟩
 rintro n s3 ⟨i,σ3,H3,I3,st3,fr3,w3⟩
 rcases turn i n σ3 H3 w3 with ⟨stop,qn⟩ | ⟨go,N,hN,step⟩
 ·refine wpAny_passesOwn hp (thn (T.done X rfl rfl rfl hc i pins s3 σ3 H3 X.xe I3 (stat fr3) st3 stop) fun r s4 ⟨hr,I4⟩=>?_)
  subst hr
  exact wpAny_execs_nil ⟨σ3,H3,I4,qn⟩
 ·refine wpAny_passesOwn hp (thn (T.item X rfl rfl rfl hc i pins s3 σ3 H3 X.xe I3 (stat fr3) st3 go) fun r s4 ⟨u,hr,h4⟩=>?_)
  subst hr
  refine wpAny_passesOwn hp (thn h4 fun _ s5 ⟨x,H5,I5,r5,y5,st5,fr5⟩=>?_)
  have I5':=I5.pinned (stat fr5) (T.obj _ _ st5)
  refine wpAny_passesOwn hp (thn (hg _ s5 σ3 H5 x u _ I5' r5 (step x H5 y5)) fun _ s6 ⟨σ6,H6,I6,q6⟩=>?_)
  refine wpAny_passesOwn hp (thn (hb _ s6 σ6 H6 _ I6 q6) fun f s7 q7=>?_)
  have again:∀ {σ7:St} {H7:Hp},Inv X (pins ++ pinsAt fp s5.heap) σ7 H7 s7→N σ7 H7→∃ m,m < n∧∃ i σ' H',Inv X pins σ' H' s7∧tn i s7.heap∧(∀ b∈fp,H' b=none)∧W i m σ' H':=fun {σ7 H7} I7 n7=>by
   obtain ⟨m',hm,w7⟩:=hN σ7 H7 n7
   refine ⟨m',hm,i + 1,σ7,H7,I7.unpinned,T.keep _ _ _ st5 fun b hb o e=>(I7.pin (b,o) (List.mem_append_right _ (List.mem_append_right _ (mem_pinsAt hb e)))).1,fun b hb=>?_,w7⟩
   obtain ⟨o,e,d⟩:=T.obj _ _ st5 b hb
   exact (I7.pin (b,o) (List.mem_append_right _ (List.mem_append_right _ (mem_pinsAt hb e)))).2.1
  cases f with
  | next=>obtain ⟨σ7,H7,I7,n7⟩:=q7; exact again I7 n7
  | cont=>obtain ⟨σ7,H7,I7,n7⟩:=q7; exact again I7 n7
  | brk=>obtain ⟨σ7,H7,I7,q7⟩:=q7; exact ⟨σ7,H7,I7.unpinned,q7⟩
  | ret v=>obtain ⟨x7,σ7,H7,I7,r7,q7⟩:=q7; exact ⟨x7,σ7,H7,I7.unpinned,r7,q7⟩
end
theorem for_list {K:PySem.W.Frag} {a:Addr} {xs:List V} {g:TG} {tb:TS} {D:Ends} {σ:St} {H:Hp} (Pv:Nat→St→Hp→Prop) (h0:Pv 0 σ H) (hl:∀ i σ H,i≤xs.length→Pv i σ H→SqL K H a xs)
  (hs:∀ i x σ H,xs[i]?=some x→Pv i σ H→g x σ H fun σ2 H2=>tb { D with nx:=Pv (i + 1),ct:=Pv (i + 1),bk:=D.nx } σ2 H2) (hd:∀ σ H,Pv xs.length σ H→D.nx σ H) :
  ∃ W:Nat→Nat→St→Hp→Prop,(∃ m,W 0 m σ H)∧∀ i m σ H,W i m σ H →
   ((Itl K a).stop i H∧D.nx σ H)∨((Itl K a).go i H∧∃ N:St→Hp→Prop,(∀ σ' H',N σ' H'→∃ m',m' < m∧W (i + 1) m' σ' H')∧∀ x H',(Itl K a).yld i H x H'→g x σ H' fun σ2 H2=>tb { D with nx:=N,ct:=N,bk:=D.nx } σ2 H2):=by
 refine ⟨fun i m σ H=>m=xs.length - i∧i≤xs.length∧Pv i σ H,⟨xs.length,by simp,Nat.zero_le _,h0⟩,?_⟩
 rintro i m σ H ⟨rfl,hi,p⟩
 have q:=hl i σ H hi p
 by_cases hlt:i < xs.length
 ·refine .inr ⟨⟨xs,xs[i],q,by simp [hlt]⟩,Pv (i + 1),fun σ' H' p'=>⟨xs.length - (i + 1),by omega,rfl,hlt,p'⟩,fun x H' y=>?_⟩
  obtain ⟨e,y⟩:=y
  subst e
  exact hs i x σ _ (y xs q) p
 ·have e:i=xs.length:=by omega
  subst e
  exact .inl ⟨⟨xs,q,Nat.le_refl _⟩,hd σ H p⟩
theorem for_range {lo:Int} {n:Nat} {g:TG} {tb:TS} {D:Ends} {σ:St} {H:Hp} (Pv:Nat→St→Hp→Prop) (h0:Pv 0 σ H)
  (hs:∀ i σ H,i < n→Pv i σ H→g (.int (lo + i)) σ H fun σ2 H2=>tb { D with nx:=Pv (i + 1),ct:=Pv (i + 1),bk:=D.nx } σ2 H2) (hd:∀ σ H,Pv n σ H→D.nx σ H) :
  ∃ W:Nat→Nat→St→Hp→Prop,(∃ m,W 0 m σ H)∧∀ i m σ H,W i m σ H →
   ((Itr lo n).stop i H∧D.nx σ H)∨((Itr lo n).go i H∧∃ N:St→Hp→Prop,(∀ σ' H',N σ' H'→∃ m',m' < m∧W (i + 1) m' σ' H')∧∀ x H',(Itr lo n).yld i H x H'→g x σ H' fun σ2 H2=>tb { D with nx:=N,ct:=N,bk:=D.nx } σ2 H2):=by
 refine ⟨fun i m σ H=>m=n - i∧i≤n∧Pv i σ H,⟨n,by simp,Nat.zero_le _,h0⟩,?_⟩
 rintro i m σ H ⟨rfl,hi,p⟩
 by_cases hlt:i < n
 ·refine .inr ⟨hlt,Pv (i + 1),fun σ' H' p'=>⟨n - (i + 1),by omega,rfl,hlt,p'⟩,fun x H' y=>?_⟩
  obtain ⟨e,y⟩:=y
  subst e y
  exact hs i σ _ hlt p
 ·have e:i=n:=by omega
  subst e
  exact .inl ⟨Nat.le_refl _,hd σ H p⟩
abbrev R2:=V→V→Hp→VK→Prop
def OpR (X:Cx) (f:Value→Value→Sem Value) (r:R2):Prop :=
 ∀ (pins:List (Addr×Obj)) (s:Shared) (σ:St) (H:Hp) (x y:V) (v u:Value) (Q:VK),Inv X pins σ H s→RelV x v→RelV y u→r x y H Q →
  wpAny (model X.prog X.w) X.A (f v u) (EP X pins σ Q) X.xe s
def UnR (X:Cx) (f:Value→Sem Value) (r:V→Hp→VK→Prop):Prop :=
 ∀ (pins:List (Addr×Obj)) (s:Shared) (σ:St) (H:Hp) (x:V) (v:Value) (Q:VK),Inv X pins σ H s→RelV x v→r x H Q →
  wpAny (model X.prog X.w) X.A (f v) (EP X pins σ Q) X.xe s
def CallR (X:Cx) (f:Value) (r:List V→Hp→VK→Prop):Prop :=
 ∀ (pins:List (Addr×Obj)) (s:Shared) (σ:St) (H:Hp) (xs:List V) (us:List Value) (Q:VK),Inv X pins σ H s→Vals xs us→r xs H Q →
  wpAny (model X.prog X.w) X.A (call f us) (EP X pins σ Q) X.xe s
def TruR (X:Cx) (r:V→Hp→(Bool→Hp→Prop)→Prop):Prop :=
 ∀ (pins:List (Addr×Obj)) (s:Shared) (σ:St) (H:Hp) (x:V) (v:Value) (Q:Bool→Hp→Prop),Inv X pins σ H s→RelV x v→r x H Q →
  wpAny (model X.prog X.w) X.A (truthy v) (TP X pins σ Q) X.xe s
def tOp (r:R2) (ta tb:TE):TE:=fun σ H Q=>ta σ H fun x H1=>tb σ H1 fun y H2=>r x y H2 Q
def tUn (r:V→Hp→VK→Prop) (ta:TE):TE:=fun σ H Q=>ta σ H fun x H1=>r x H1 Q
def rI (C:Int→Int→Prop) (g:Int→Int→V):R2:=fun x y H Q=>∃ i j,x=.int i∧y=.int j∧C i j∧Q (g i j) H
def rI0 (g:Int→Int→V):R2:=fun x y H Q=>∃ i j,x=.int i∧y=.int j∧Q (g i j) H
def rU (g:Int→V):V→Hp→VK→Prop:=fun x H Q=>∃ i,x=.int i∧Q (g i) H
section
variable {X:Cx} {a b c:Expr} {ta tb tc:TE} {pos:Pos}
theorem binT (ha:PE X a ta) (hb:PE X b tb) {pins:List (Addr×Obj)} {s:Shared} {σ:St} {H:Hp} {R:V→V→Hp→Prop} (I:Inv X pins σ H s)
  (h:ta σ H fun x H1=>tb σ H1 fun y H2=>R x y H2) {Q:Value→Shared→Prop} {f:Value→Value→Sem Value}
  (hf:∀ v u s2 x y H2,Inv X pins σ H2 s2→RelV x v→RelV y u→R x y H2→wpAny (model X.prog X.w) X.A (f v u) Q X.xe s2) :
  wpAny (model X.prog X.w) X.A (eval a X.env) (fun v s₁=>wpAny (model X.prog X.w) X.A (eval b X.env) (fun u s₂=>wpAny (model X.prog X.w) X.A (f v u) Q X.xe s₂) X.xe s₁) X.xe s:=by
 refine thn (ha pins s σ H _ I h) fun v s1 ⟨x,H1,I1,r1,q1⟩=>?_
 refine thn (hb pins s1 σ H1 _ I1 q1) fun u s2 ⟨y,H2,I2,r2,q2⟩=>?_
 exact hf v u s2 x y H2 I2 r1 r2 q2
theorem pe_op {op:Operator} {r:R2} (ho:OpR X (binaryOp op) r) (ha:PE X a ta) (hb:PE X b tb):PE X (.BinOp a op b pos) (tOp r ta tb):=by
 intro pins s σ H Q I h
 exact wpAny_BinOp (binT ha hb I h fun v u s2 x y H2 I2 rx ry q=>ho pins s2 σ H2 x y v u Q I2 rx ry q)
theorem pe_un {op:UnaryOp} {r:V→Hp→VK→Prop} (ho:UnR X (unaryOp op) r) (ha:PE X a ta):PE X (.UnaryOp op a pos) (tUn r ta):=by
 intro pins s σ H Q I h
 exact UnaryOp_ (thn (ha pins s σ H _ I h) fun v s1 ⟨x,H1,I1,r1,q1⟩=>ho pins s1 σ H1 x v Q I1 r1 q1)
theorem opI {f:Value→Value→Sem Value} {C:Int→Int→Prop} {g:Int→Int→Int}
  (rule:∀ (i j:Int) (t u:Tok) (s:Shared) (Q:Value→Shared→Prop) (E:Value→Shared→Prop),C i j→Q (.int (g i j) s.toks) { s with toks:=s.toks + 1 }→wpAny (model X.prog X.w) X.A (f (.int i t) (.int j u)) Q E s) :
  OpR X f (rI C fun i j=>.int (g i j)):=by
 intro pins s σ H x y v u Q I rx ry h
 obtain ⟨i,j,rfl,rfl,hc,q⟩:=h
 obtain ⟨t,rfl⟩:=rx
 obtain ⟨t',rfl⟩:=ry
 exact rule i j t t' s _ _ hc ⟨.int (g i j),H,I.tok _,⟨_,rfl⟩,q⟩
theorem opI0 {f:Value→Value→Sem Value} {g:Int→Int→Int}
  (rule:∀ (i j:Int) (t u:Tok) (s:Shared) (Q:Value→Shared→Prop) (E:Value→Shared→Prop),Q (.int (g i j) s.toks) { s with toks:=s.toks + 1 }→wpAny (model X.prog X.w) X.A (f (.int i t) (.int j u)) Q E s) :
  OpR X f (rI0 fun i j=>.int (g i j)):=by
 intro pins s σ H x y v u Q I rx ry h
 obtain ⟨i,j,rfl,rfl,q⟩:=h
 obtain ⟨t,rfl⟩:=rx
 obtain ⟨t',rfl⟩:=ry
 exact rule i j t t' s _ _ ⟨.int (g i j),H,I.tok _,⟨_,rfl⟩,q⟩
theorem opB0 {f:Value→Value→Sem Value} {g:Int→Int→Bool}
  (rule:∀ (i j:Int) (t u:Tok) (s:Shared) (Q:Value→Shared→Prop) (E:Value→Shared→Prop),Q (.bool (g i j)) s→wpAny (model X.prog X.w) X.A (f (.int i t) (.int j u)) Q E s) :
  OpR X f (rI0 fun i j=>.bl (g i j)):=by
 intro pins s σ H x y v u Q I rx ry h
 obtain ⟨i,j,rfl,rfl,q⟩:=h
 obtain ⟨t,rfl⟩:=rx
 obtain ⟨t',rfl⟩:=ry
 exact rule i j t t' s _ _ ⟨.bl (g i j),H,I,rfl,q⟩
def CDiv (i j:Int):Prop:=0 < j∧j < 1073741824
def CPow (i j:Int):Prop:=0≤j∧j≤1000000∧i.natAbs < 2 ^ 64
def CMul (i j:Int):Prop:=(-(2 ^ 64) < i∧i < 2 ^ 64)∨(-(2 ^ 64) < j∧j < 2 ^ 64)
theorem CMul.ok {i j:Int} (h:CMul i j):IntMulOk i j:=by
 rcases h with ⟨h1,h2⟩ | ⟨h1,h2⟩
 ·exact .of_left (intBits_le_64 h1 h2)
 ·exact .of_right (intBits_le_64 h1 h2)
theorem op_add:OpR X (binaryOp .Add) (rI0 fun i j=>.int (i + j)):=opI0 fun _ _ _ _ _ _ _ q=>add_int q
theorem op_sub:OpR X (binaryOp .Sub) (rI0 fun i j=>.int (i - j)):=opI0 fun _ _ _ _ _ _ _ q=>sub_int q
theorem op_mul:OpR X (binaryOp .Mult) (rI CMul fun i j=>.int (i * j)):=opI fun _ _ _ _ _ _ _ hc q=>mul_int q hc.ok
theorem op_fdiv:OpR X (binaryOp .FloorDiv) (rI CDiv fun i j=>.int (i / j)):=opI fun i j _ _ _ _ _ hc q=>by
 have h1:(0:Int) < j:=hc.1
 have h2:j < 1073741824:=hc.2
 exact floordiv_int (by omega) (by rw [Int.fdiv_eq_ediv_of_nonneg i (by omega)]; exact q) (.inl (PyProof.noPylong_small (by omega)))
theorem op_mod:OpR X (binaryOp .Mod) (rI (fun _ j=>0 < j) fun i j=>.int (i % j)):=opI fun i j _ _ _ _ _ hc q=>by
 have h1:(0:Int) < j:=hc
 exact mod_int' (by omega) (by rw [Int.fmod_eq_emod_of_nonneg i (by omega)]; exact q)
theorem op_pow:OpR X (binaryOp .Pow) (rI CPow fun i j=>.int (i ^ j.toNat)):=opI fun _ _ _ _ _ _ _ hc q=>pow_int_small hc.1 hc.2.1 hc.2.2 q
theorem unI {f:Value→Sem Value} {g:Int→Int}
  (rule:∀ (i:Int) (t:Tok) (s:Shared) (Q:Value→Shared→Prop) (E:Value→Shared→Prop),Q (.int (g i) s.toks) { s with toks:=s.toks + 1 }→wpAny (model X.prog X.w) X.A (f (.int i t)) Q E s) :
  UnR X f (rU fun i=>.int (g i)):=by
 intro pins s σ H x v Q I rx h
 obtain ⟨i,rfl,q⟩:=h
 obtain ⟨t,rfl⟩:=rx
 exact rule i t s _ _ ⟨.int (g i),H,I.tok _,⟨_,rfl⟩,q⟩
theorem un_neg:UnR X (unaryOp .USub) (rU fun i=>.int (-i)):=unI fun _ _ _ _ _ q=>neg_int q
end
def scal:V→V→Bool
 | .non,.non=>true | .non,.int _=>true | .int _,.non=>true | .non,.bl _=>true | .bl _,.non=>true | .non,.str _=>true | .str _,.non=>true
 | .int _,.int _=>true | .bl _,.bl _=>true | .str _,.str _=>true | .byt _,.byt _=>true
 | .int _,.str _=>true | .str _,.int _=>true | .bl _,.str _=>true | .str _,.bl _=>true
 | _,_=>false
def rEq:R2:=fun x y H Q=>scal x y=true∧Q (.bl (decide (x=y))) H
def rNe:R2:=fun x y H Q=>scal x y=true∧Q (.bl (!decide (x=y))) H
theorem dec_int {i j:Int}:decide (V.int i=V.int j)=(i == j):=by
 rw [Bool.eq_iff_iff]
 simp
theorem dec_bl {i j:Bool}:decide (V.bl i=V.bl j)=(i == j):=by
 rw [Bool.eq_iff_iff]
 simp
theorem dec_str {i j:Str}:decide (V.str i=V.str j)=(i == j):=by
 rw [Bool.eq_iff_iff]
 simp
theorem dec_byt {i j:Array UInt8}:decide (V.byt i=V.byt j)=(i.toList == j.toList):=by
 rw [Bool.eq_iff_iff]
 cases i
 cases j
 simp
section
variable {X:Cx} {a b c:Expr} {ta tb tc:TE} {pos:Pos}
theorem fin_bl {pins:List (Addr×Obj)} {σ:St} {H:Hp} {s:Shared} {Q:VK} {k k':Bool} (I:Inv X pins σ H s) (q:Q (.bl k) H) (e:k=k'):EP X pins σ Q (.bool k') s:=by
 subst e
 exact ⟨.bl k,H,I,rfl,q⟩
theorem op_eq:OpR X (compareOp .Eq) rEq:=by
 intro pins s σ H x y v u Q I rx ry h
 obtain ⟨hs,q⟩:=h
 cases x with
 | non =>
  cases rx
  cases y with
  | non=>cases ry; exact PySem.EqNone.eq_none_none (fin_bl I q (by simp))
  | bl j=>cases ry; exact PySem.EqNone.eq_none_bool (fin_bl I q (by simp))
  | int j=>obtain ⟨t',rfl⟩:=ry; exact PySem.EqNone.eq_none_int (fin_bl I q (by simp))
  | str j=>obtain ⟨t',rfl⟩:=ry; exact PySem.EqNone.eq_none_str (fin_bl I q (by simp))
  | _=>exact absurd (show false=true from hs) Bool.false_ne_true
 | bl i =>
  cases rx
  cases y with
  | non=>cases ry; exact PySem.EqNone.eq_bool_none (fin_bl I q (by simp))
  | bl j=>cases ry; exact eq_bool (fin_bl I q dec_bl)
  | str j=>obtain ⟨t',rfl⟩:=ry; exact PySem.EqMixed.eq_bool_str (fin_bl I q (by simp))
  | _=>exact absurd (show false=true from hs) Bool.false_ne_true
 | int i =>
  obtain ⟨t,rfl⟩:=rx
  cases y with
  | non=>cases ry; exact PySem.EqNone.eq_int_none (fin_bl I q (by simp))
  | int j=>obtain ⟨t',rfl⟩:=ry; exact eq_int (fin_bl I q dec_int)
  | str j=>obtain ⟨t',rfl⟩:=ry; exact PySem.EqMixed.eq_int_str (fin_bl I q (by simp))
  | _=>exact absurd (show false=true from hs) Bool.false_ne_true
 | str i =>
  obtain ⟨t,rfl⟩:=rx
  cases y with
  | non=>cases ry; exact PySem.EqNone.eq_str_none (fin_bl I q (by simp))
  | bl j=>cases ry; exact PySem.EqMixed.eq_str_bool (fin_bl I q (by simp))
  | int j=>obtain ⟨t',rfl⟩:=ry; exact PySem.EqMixed.eq_str_int (fin_bl I q (by simp))
  | str j=>obtain ⟨t',rfl⟩:=ry; exact eq_str (fin_bl I q dec_str)
  | _=>exact absurd (show false=true from hs) Bool.false_ne_true
 | byt i =>
  obtain ⟨t,rfl⟩:=rx
  cases y with
  | byt j=>obtain ⟨t',rfl⟩:=ry; exact PySem.W.eq_bytes (fin_bl I q dec_byt)
  | _=>exact absurd (show false=true from hs) Bool.false_ne_true
 | _=>cases y <;> exact absurd (show false=true from hs) Bool.false_ne_true
theorem op_ne:OpR X (compareOp .NotEq) rNe:=by
 intro pins s σ H x y v u Q I rx ry h
 obtain ⟨hs,q⟩:=h
 cases x with
 | non =>
  cases rx
  cases y with
  | non=>cases ry; exact PySem.EqNone.ne_none_none (fin_bl I q (by simp))
  | bl j=>cases ry; exact PySem.EqNone.ne_none_bool (fin_bl I q (by simp))
  | int j=>obtain ⟨t',rfl⟩:=ry; exact PySem.EqNone.ne_none_int (fin_bl I q (by simp))
  | str j=>obtain ⟨t',rfl⟩:=ry; exact PySem.EqNone.ne_none_str (fin_bl I q (by simp))
  | _=>exact absurd (show false=true from hs) Bool.false_ne_true
 | bl i =>
  cases rx
  cases y with
  | non=>cases ry; exact PySem.EqNone.ne_bool_none (fin_bl I q (by simp))
  | bl j=>cases ry; exact ne_bool (fin_bl I q (congrArg not dec_bl))
  | str j=>obtain ⟨t',rfl⟩:=ry; exact PySem.EqMixed.ne_bool_str (fin_bl I q (by simp))
  | _=>exact absurd (show false=true from hs) Bool.false_ne_true
 | int i =>
  obtain ⟨t,rfl⟩:=rx
  cases y with
  | non=>cases ry; exact PySem.EqNone.ne_int_none (fin_bl I q (by simp))
  | int j=>obtain ⟨t',rfl⟩:=ry; exact ne_int (fin_bl I q (congrArg not dec_int))
  | str j=>obtain ⟨t',rfl⟩:=ry; exact PySem.EqMixed.ne_int_str (fin_bl I q (by simp))
  | _=>exact absurd (show false=true from hs) Bool.false_ne_true
 | str i =>
  obtain ⟨t,rfl⟩:=rx
  cases y with
  | non=>cases ry; exact PySem.EqNone.ne_str_none (fin_bl I q (by simp))
  | bl j=>cases ry; exact PySem.EqMixed.ne_str_bool (fin_bl I q (by simp))
  | int j=>obtain ⟨t',rfl⟩:=ry; exact PySem.EqMixed.ne_str_int (fin_bl I q (by simp))
  | str j=>obtain ⟨t',rfl⟩:=ry; exact ne_str (fin_bl I q (congrArg not dec_str))
  | _=>exact absurd (show false=true from hs) Bool.false_ne_true
 | byt i =>
  obtain ⟨t,rfl⟩:=rx
  cases y with
  | byt j=>obtain ⟨t',rfl⟩:=ry; exact PySem.W.ne_bytes (fin_bl I q (congrArg not dec_byt))
  | _=>exact absurd (show false=true from hs) Bool.false_ne_true
 | _=>cases y <;> exact absurd (show false=true from hs) Bool.false_ne_true
theorem op_lt:OpR X (compareOp .Lt) (rI0 fun i j=>.bl (decide (i < j))):=opB0 fun _ _ _ _ _ _ _ q=>lt_int q
theorem op_le:OpR X (compareOp .LtE) (rI0 fun i j=>.bl (decide (i≤j))):=opB0 fun _ _ _ _ _ _ _ q=>le_int q
theorem op_gt:OpR X (compareOp .Gt) (rI0 fun i j=>.bl (decide (j < i))):=opB0 fun _ _ _ _ _ _ _ q=>gt_int q
theorem op_ge:OpR X (compareOp .GtE) (rI0 fun i j=>.bl (decide (j≤i))):=opB0 fun _ _ _ _ _ _ _ q=>ge_int q
theorem nomark (b:Expr) {op:CmpOp} (h:op≠.In:=by decide) (h2:op≠.NotIn:=by decide):behindInMarks op b=false:=by
 have e1:(op == CmpOp.In)=false:=by cases op <;> first | rfl | exact absurd rfl h
 have e2:(op == CmpOp.NotIn)=false:=by cases op <;> first | rfl | exact absurd rfl h2
 cases b <;> simp [behindInMarks,e1,e2]
theorem pe_cmpR {op:CmpOp} {r:R2} (ho:OpR X (compareOp op) r) (ha:PE X a ta) (hb:PE X b tb) (hm:behindInMarks op b=false):PE X (.Compare a [op] [b] pos) (tOp r ta tb):=by
 intro pins s σ H Q I h
 exact wpAny_Compare1 (binT ha hb I h fun v u s2 x y H2 I2 rx ry q=>ho pins s2 σ H2 x y v u Q I2 rx ry q) hm
def tTest (t:TE):TT:=fun σ H Q=>t σ H fun x H'=>∃ k,x=.bl k∧Q k H'
theorem pt_cmpR {op:CmpOp} {r:R2} (ho:OpR X (compareOp op) r) (ha:PE X a ta) (hb:PE X b tb) (hm:behindInMarks op b=false):PT X (.Compare a [op] [b] pos) (tTest (tOp r ta tb)):=by
 intro pins s σ H Q I h
 refine wpAny_isTrue_Compare1 (thn (ha pins s σ H _ I h) fun v s1 ⟨x,H1,I1,r1,q1⟩=>thn (hb pins s1 σ H1 _ I1 q1) fun u s2 ⟨y,H2,I2,r2,q2⟩ =>
  thn (ho pins s2 σ H2 x y v u _ I2 r1 r2 q2) fun c s3 ⟨z,H3,I3,r3,k,e,q3⟩=>?_) hm
 subst e
 cases r3
 exact wpAny_truthy_bool ⟨H3,I3,q3⟩
def tChain (r r':R2) (ta tb tc:TE):TE:=fun σ H Q=>ta σ H fun x H1=>tb σ H1 fun y H2=>r x y H2 fun z H3=>∃ k,z=.bl k ∧
 (if k=true then tc σ H3 fun w' H4=>r' y w' H4 Q else Q (.bl false) H3)
theorem pe_chain {op op':CmpOp} {r r':R2} (ho:OpR X (compareOp op) r) (ho':OpR X (compareOp op') r') (ha:PE X a ta) (hb:PE X b tb) (hc:PE X c tc)
  (hm:lastMarks [op,op'] [b,c]=false:=by with_unfolding_all rfl):PE X (.Compare a [op,op'] [b,c] pos) (tChain r r' ta tb tc):=by
 intro pins s σ H Q I h
 refine Compare_chain (thn (ha pins s σ H _ I h) fun v s1 ⟨x,H1,I1,r1,q1⟩=>chain_link (thn (hb pins s1 σ H1 _ I1 q1) fun u s2 ⟨y,H2,I2,r2,q2⟩ =>
  thn (ho pins s2 σ H2 x y v u _ I2 r1 r2 q2) fun d s3 ⟨z,H3,I3,r3,k,e,q3⟩=>?_)) hm
 subst e
 cases r3
 refine wpAny_truthy_bool ?_
 cases k with
 | false=>exact ite_ff ⟨.bl false,H3,I3,rfl,q3⟩
 | true=>exact ite_tt (chain_last (thn (hc pins s3 σ H3 _ I3 q3) fun w' s4 ⟨z',H4,I4,r4,q4⟩=>ho' pins s4 σ H4 y z' u w' Q I4 r2 r4 q4))
theorem pt_chain {op op':CmpOp} {r r':R2} (ho:OpR X (compareOp op) r) (ho':OpR X (compareOp op') r') (ha:PE X a ta) (hb:PE X b tb) (hc:PE X c tc)
  (hm:lastMarks [op,op'] [b,c]=false:=by with_unfolding_all rfl):PT X (.Compare a [op,op'] [b,c] pos) (tTest (tChain r r' ta tb tc)):=by
 intro pins s σ H Q I h
 refine isTrue_chain (thn (ha pins s σ H _ I h) fun v s1 ⟨x,H1,I1,r1,q1⟩=>test_link (thn (hb pins s1 σ H1 _ I1 q1) fun u s2 ⟨y,H2,I2,r2,q2⟩ =>
  thn (ho pins s2 σ H2 x y v u _ I2 r1 r2 q2) fun d s3 ⟨z,H3,I3,r3,k,e,q3⟩=>?_)) hm
 subst e
 cases r3
 refine wpAny_truthy_bool ?_
 cases k with
 | false =>
  obtain ⟨k',e',q'⟩:=q3
  cases e'
  exact ite_ff ⟨H3,I3,q'⟩
 | true =>
  refine ite_tt (test_last (thn (hc pins s3 σ H3 _ I3 q3) fun w' s4 ⟨z',H4,I4,r4,q4⟩=>thn (ho' pins s4 σ H4 y z' u w' _ I4 r2 r4 q4) fun d' s5 ⟨z2,H5,I5,r5,k2,e2,q5⟩=>?_))
  subst e2
  cases r5
  exact wpAny_truthy_bool ⟨H5,I5,q5⟩
def TruV (K:PySem.W.Frag) (x:V) (H:Hp) (k:Bool):Prop :=
 match x with
 | .non=>k=false
 | .bl b=>k=b
 | .int i=>k=(i != 0)
 | .str y=>y.length≤sizeLine∧k=((y.length:Int) != 0)
 | .byt y=>y.size≤sizeLine∧k=((y.size:Int) != 0)
 | .ref p=>(∃ xs,SqL K H p xs∧k=!xs.isEmpty)∨(∃ xs,SqT K H p xs∧k=!xs.isEmpty)∨∃ kvs,H p=some (.dK kvs)∧k=!kvs.isEmpty
 | _=>False
theorem isEmpty_kv {κ:Type} {kvs:List (κ×V)} {vs:List (κ×Value)} (r:KV kvs vs):(!vs.isEmpty)=!kvs.isEmpty:=by
 cases r <;> rfl
theorem isEmpty_of {xs:List V} {its:List Value} (r:Vals xs its):(!its.toArray.isEmpty)=!xs.isEmpty:=by
 cases r <;> simp
theorem line63:(sizeLine:Nat) < 2 ^ 63:=by rw [sizeLine_eq]; decide
theorem tru_ok:TruR X (fun x H Q=>∃ k,TruV X.K x H k∧Q k H):=by
 intro pins s σ H x v Q I rx h
 obtain ⟨k,e,q⟩:=h
 have hl:=line63
 have hs:sizeLine=16777216:=sizeLine_eq
 cases x with
 | non =>
  cases rx
  have e':k=false:=e
  subst e'
  exact truthy_none ⟨H,I,q⟩
 | bl b =>
  cases rx
  have e':k=b:=e
  subst e'
  exact wpAny_truthy_bool ⟨H,I,q⟩
 | int i =>
  obtain ⟨t,rfl⟩:=rx
  have e':k=(i != 0):=e
  subst e'
  exact PySem.P.truthy_int ⟨H,I,q⟩
 | str y =>
  obtain ⟨t,rfl⟩:=rx
  obtain ⟨hy,e'⟩:y.length≤sizeLine∧k=((y.length:Int) != 0):=e
  subst e'
  exact PySem.P.truthy_str (by omega) ⟨H,I.tok _,q⟩
 | byt y =>
  obtain ⟨t,rfl⟩:=rx
  obtain ⟨hy,e'⟩:y.size≤sizeLine∧k=((y.size:Int) != 0):=e
  subst e'
  exact PySem.W.truthy_bytes (by omega) ⟨H,I.tok _,q⟩
 | ref p =>
  cases rx
  have e':(∃ xs,SqL X.K H p xs∧k=!xs.isEmpty)∨(∃ xs,SqT X.K H p xs∧k=!xs.isEmpty)∨∃ kvs,H p=some (.dK kvs)∧k=!kvs.isEmpty:=e
  rcases e' with ⟨xs,hx,e'⟩ | ⟨xs,hx,e'⟩ | ⟨kvs,hx,e'⟩
  ·subst e'
   obtain ⟨its,r,pl,hz⟩:=I.list hx
   have hlen:=r.length
   exact wpAny_truthy_list pl.isList (by simp only [List.size_toArray]; omega) ⟨H,I.tok _,by rw [isEmpty_of r]; exact q⟩
  ·subst e'
   obtain ⟨its,r,pl,hz⟩:=I.tuple hx
   have hlen:=r.length
   exact truthy_tuple pl (by simp only [List.size_toArray]; omega) ⟨H,I.tok _,by rw [isEmpty_of r]; exact q⟩
  ·subst e'
   obtain ⟨hz,hS,vs,r,m⟩:kvs.length≤sizeLine∧(p == sysModules)=false∧∃ vs,KV kvs vs∧s.heap.DictOf (mixKind X.prog X.w) p vs:=I.hok p _ hx
   have hlen:kvs.length=vs.length:=Paired.length r
   exact wpAny_truthy_dict hS m (by omega) ⟨H,I.tok _,by rw [isEmpty_kv r]; exact q⟩
 | _=>exact (show False from e).elim
theorem pt_truth (ha:PE X a ta) (he:∀ whole,isTrue a X.env whole=(do let v ← whole; standAt a.pos; holding [v] (truthy v))) :
  PT X a (fun σ H Q=>ta σ H fun x H'=>∃ k,TruV X.K x H' k∧Q k H'):=by
 intro pins s σ H Q I h
 exact isTrue_plain (thn (ha pins s σ H _ I h) fun v s1 ⟨x,H1,I1,r1,q1⟩=>tru_ok pins s1 σ H1 x v Q I1 r1 q1) (he _)
theorem op_add_str:OpR X (binaryOp .Add) (fun x y H Q=>∃ i j,x=.str i∧y=.str j∧i.length + j.length≤sizeLine∧Q (.str (i ++ j)) H):=by
 intro pins s σ H x y v u Q I rx ry h
 obtain ⟨i,j,rfl,rfl,hz,q⟩:=h
 obtain ⟨t,rfl⟩:=rx
 obtain ⟨t',rfl⟩:=ry
 exact add_str (fun t' tk=>⟨.str (i ++ j),H,I.tok _,⟨_,rfl⟩,q⟩) hz
theorem vals1 {x:V} {us:List Value} (r:Vals [x] us):∃ u,us=[u]∧RelV x u:=by
 cases r with
 | cons r1 r2=>cases r2; exact ⟨_,rfl,r1⟩
theorem vals2 {x y:V} {us:List Value} (r:Vals [x,y] us):∃ u w',us=[u,w']∧RelV x u∧RelV y w':=by
 cases r with
 | cons r1 r2 =>
  cases r2 with
  | cons r3 r4=>cases r4; exact ⟨_,_,rfl,r1,r3⟩
theorem call_abs:CallR X (.builtin "abs") (fun xs H Q=>∃ i,xs=[.int i]∧Q (.int (if i < 0 then -i else i)) H):=by
 intro pins s σ H xs us Q I r h
 obtain ⟨i,rfl,q⟩:=h
 obtain ⟨u,rfl,t,rfl⟩:=vals1 r
 exact call_abs_int fun u tk=>⟨.int (if i < 0 then -i else i),H,I.tok _,⟨_,rfl⟩,q⟩
theorem call_max2 (hc:X.calm=true):CallR X (.builtin "max") (fun xs H Q=>∃ i j,xs=[.int i,.int j]∧Q (.int (if j > i then j else i)) H):=by
 intro pins s σ H xs us Q I r h
 obtain ⟨i,j,rfl,q⟩:=h
 obtain ⟨u,w',rfl,⟨t,rfl⟩,⟨t',rfl⟩⟩:=vals2 r
 refine max_two_ints (I.ok.hd hc) fun h' tk k=>⟨_,H,I.kept k,?_,q⟩
 by_cases hj:j > i
 ·rw [if_pos hj,if_pos hj]; exact ⟨_,rfl⟩
 ·rw [if_neg hj,if_neg hj]; exact ⟨_,rfl⟩
theorem call_str_int:CallR X (.type "str") (fun xs H Q=>∃ i,xs=[.int i]∧i.natAbs.log2 < 1920∧Q (.str (toString i)) H):=by
 intro pins s σ H xs us Q I r h
 obtain ⟨i,rfl,hz,q⟩:=h
 obtain ⟨u,rfl,t,rfl⟩:=vals1 r
 exact PySem.P.str_of_int hz ⟨.str _,H,I.tok _,⟨_,rfl⟩,q⟩
end
structure ObjM (h:Heap) (x dx C:Addr) (mA:Str→Option Value):Prop where
 obj:h.get? x=some (PySem.W.instObj C dx)
 ns:h.Ns1 dx mA
 ne:dx≠x
theorem lookIn_ns {h:Heap} {dx:Addr} {mA:Str→Option Value} (n:h.Ns1 dx mA):∃ od,h.get? dx=some od∧∀ name,PySem.W.lookIn name od=some (mA name):=by
 obtain ⟨o,es,ep,ho,hd,hk,_,hm⟩:=n
 refine ⟨o,ho,fun name=>?_⟩
 have e:=hm name
 unfold nsFind findBy at e
 rw [← Array.find?_toList] at e
 unfold PySem.W.lookIn
 rw [hd]
 dsimp only
 split
 ·rename_i y q
  rw [q] at e
  exact congrArg some e
 ·rename_i q
  rw [q] at e
  have a:es.toList.any (·.refKey)=false:=by
   rw [List.any_eq_false]
   intro y hy
   obtain ⟨z,t,hkey⟩:=hk y (Array.mem_toList_iff.mp hy)
   simp [DictEntry.refKey,hkey]
  have a':¬ es.toList.any (·.refKey)=true:=by rw [a]; exact Bool.false_ne_true
  rw [if_neg a']
  exact congrArg some e
theorem ObjM.look {h:Heap} {x dx C:Addr} {mA:Str→Option Value} (I:ObjM h x dx C mA):∃ od,PySem.W.InstAt h x (PySem.W.instObj C dx) C (some od)∧∀ name,PySem.W.lookIn name od=some (mA name) :=
 let ⟨od,ho,hl⟩:=lookIn_ns I.ns
 ⟨od,⟨I.obj,rfl,rfl,ho⟩,hl⟩
section
variable {prog:Program} {w:World} {A:Around} {E:Value→Shared→Prop} {s:Shared} {K:PySem.W.Frag} {x dx C f:Addr} {mA:Str→Option Value} {name:Str} {v:Value}
end
theorem RelO.some_of {v:V} {o:Option Value} (r:RelO (some v) o):∃ u,o=some u∧RelV v u:=by
 cases o with
 | none=>exact (show False from r).elim
 | some u=>exact ⟨u,rfl,r⟩
section
variable {P:Program} {w:World} {H H':Hp} {h h':Heap} {a C dx:Addr} {fs fs':List (Str×V)}
theorem ins_get (hok:HOk P w H h) (e:H a=some (.ins C dx fs)):∃ mA,ObjM h a dx C mA∧(∀ f,RelO (fs.lookup f) (mA f))∧PySem.Within mA (fs.map (·.1))∧fs.length≤1000∧H dx=some (.own a):=by
 obtain ⟨d,z,ne,ob,mA,n,r,q⟩:=(show ObjOk P w H h a (.ins C dx fs) from hok a _ e)
 exact ⟨mA,⟨ob,n,ne⟩,r,q,z,d⟩
end
structure Cls (K:PySem.W.Frag) (C:Addr):Prop where
 pg:PySem.W.plainGet K C Str.empty=true
 hd:PySem.W.hasDictIn K C=true
 po:PySem.W.plainOver K C=true
 sa:PySem.W.findIn K (.ref C) "__setattr__"=some (some (.builtin "object.__setattr__"))
theorem Cls.get {K:PySem.W.Frag} {C:Addr} (c:Cls K C) (f:Str):PySem.W.plainGet K C f=true:=c.pg
section
variable {X:Cx} {pins:List (Addr×Obj)} {σ:St} {H:Hp} {s:Shared} {a C dx:Addr} {fs:List (Str×V)} {f:Str} {v:V} {A:Around} {E:Value→Shared→Prop}
end
section
variable {X:Cx} {o e value:Expr} {f:Str} {pos pos' tpos:Pos} {ta tv:TE}
end
section
variable {X:Cx} {pins:List (Addr×Obj)} {σ:St} {H:Hp} {s:Shared} {A:Around} {E:Value→Shared→Prop} {Q:Value→Shared→Prop} {c:Value} {b:Bool}
inductive TyOf (K:PySem.W.Frag) (H:Hp):V→Value→Prop where
 | non:TyOf K H .non (.type "NoneType")
 | bl (x:Bool):TyOf K H (.bl x) (.type "bool")
 | int (i:Int):TyOf K H (.int i) (.type "int")
 | str (x:Str):TyOf K H (.str x) (.type "str")
 | flt (x:UInt64):TyOf K H (.flt x) (.type "float")
 | lst {a:Addr} {xs:List V} (e:H a=some (.lst xs)):TyOf K H (.ref a) (.type "list")
 | frz {a:Addr} {o:Obj} {xs:List V} (e:H a=some (.frz o (.lst xs))):TyOf K H (.ref a) (.type "list")
 | tup {a:Addr} {xs:List V} (e:H a=some (.tup xs)):TyOf K H (.ref a) (.type "tuple")
 | dK {a:Addr} {kvs:List (Key×V)} (e:H a=some (.dK kvs)):TyOf K H (.ref a) (.type "dict")
 | dT {a:Addr} {kvs:List (List Key×V)} (e:H a=some (.dT kvs)):TyOf K H (.ref a) (.type "dict")
 | ins {a C dx:Addr} {fs:List (Str×V)} (e:H a=some (.ins C dx fs)) (cl:Cls K C) (ha:PySem.W.findIn K (.ref C) "__class__"=some (some (.builtin "object.__class__")))
   (hn:PySem.W.specialIn K (.builtin "object.__class__") "__get__"=some (some (.builtin "getset_descriptor.__get__"))) (htk:PySem.W.takesIn K (.builtin "object.__class__")=some true)
   (hm:PySem.W.mroIn K C (.type "object")=some true):TyOf K H (.ref a) (.ref C)
theorem isinst_ok {x:V} {u t:Value} (I:Inv X pins σ H s) (rx:RelV x u) (ty:TyOf X.K H x t) (e:PySem.W.kitOne X.K t c=some b) (h:∀ tk,Q (.bool b) { s with toks:=tk }) :
  wpAny (model X.prog X.w) A (call (.builtin "isinstance") [u,c]) Q E s:=by
 cases ty with
 | non=>cases (show u=Value.none from rx); exact PySem.W.kia_one PySem.W.kitx_none I.kIn True.intro e (fun z=>nomatch z) h
 | bl y=>cases (show u=Value.bool y from rx); exact PySem.W.kia_one PySem.W.kitx_bool I.kIn True.intro e (fun z=>nomatch z) h
 | int i=>obtain ⟨t,q⟩:=(show ∃ t,u=Value.int i t from rx); cases q; exact PySem.W.kia_one PySem.W.kitx_int I.kIn True.intro e (fun z=>nomatch z) h
 | str y=>obtain ⟨t,q⟩:=(show ∃ t,u=Value.str y t from rx); cases q; exact PySem.W.kia_one PySem.W.kitx_str I.kIn True.intro e (fun z=>nomatch z) h
 | flt y=>obtain ⟨t,q⟩:=(show ∃ t,u=Value.float y t from rx); cases q; exact PySem.W.kia_one PySem.W.kitx_float I.kIn True.intro e (fun z=>nomatch z) h
 | @lst a xs ea =>
  cases (show u=Value.ref a from rx)
  obtain ⟨_,_,n,_,h1⟩:=(show ObjOk X.prog X.w H s.heap a (.lst xs) from I.hok a _ ea)
  exact PySem.W.kia_one PySem.W.kitx_list I.kIn ⟨_,h1,rfl⟩ e (fun z=>nomatch z) h
 | @frz a ob xs ea =>
  cases (show u=Value.ref a from rx)
  obtain ⟨_,_,_,n,_,h1⟩:=(show ObjOk X.prog X.w H s.heap a (.frz ob (.lst xs)) from I.hok a _ ea)
  exact PySem.W.kia_one PySem.W.kitx_list I.kIn ⟨_,h1,rfl⟩ e (fun z=>nomatch z) h
 | @tup a xs ea =>
  cases (show u=Value.ref a from rx)
  obtain ⟨_,_,_,p⟩:=(show ObjOk X.prog X.w H s.heap a (.tup xs) from I.hok a _ ea)
  obtain ⟨o,h1,h2,_⟩:=p
  exact PySem.W.kia_one PySem.W.kitx_tuple I.kIn ⟨o,h1,h2⟩ e (fun z=>nomatch z) h
 | @dK a kvs ea =>
  cases (show u=Value.ref a from rx)
  obtain ⟨_,_,vs,_,p⟩:=(show ObjOk X.prog X.w H s.heap a (.dK kvs) from I.hok a _ ea)
  obtain ⟨o,es,ep,h1,h2,_⟩:=p
  exact PySem.W.kia_one PySem.W.kitx_dict I.kIn ⟨o,h1,h2.1⟩ e (fun z=>nomatch z) h
 | @dT a kvs ea =>
  cases (show u=Value.ref a from rx)
  obtain ⟨_,_,xs,_,o,es,ep,h1,h2,_⟩:=(show ObjOk X.prog X.w H s.heap a (.dT kvs) from I.hok a _ ea)
  exact PySem.W.kia_one PySem.W.kitx_dict I.kIn ⟨o,h1,h2.1⟩ e (fun z=>nomatch z) h
 | @ins a C dx fs ea cl ha hn htk hm =>
  cases (show u=Value.ref a from rx)
  obtain ⟨mA,O,_⟩:=ins_get I.hok ea
  obtain ⟨od,J,_⟩:=O.look
  exact PySem.W.kia_one (PySem.W.kitx_own (cl.get _) cl.hd ha hn htk hm) I.kIn J e (fun z=>nomatch z) h
end
structure Room (k:Nat) (A:Around):Prop where
 hd:A.handled=none
 dp:A.depth + 3 * k + 5 < recursionLimit
 un:A.units + 16 * k + 200 < cLine
theorem Room.mono {j k:Nat} {A:Around} (r:Room k A) (h:j≤k):Room j A:=⟨r.hd,by have:=r.dp; omega,by have:=r.un; omega⟩
theorem Room.deeper {k:Nat} {A:Around} (r:Room (k + 1) A) (env:Env):Room k (A.deeper env) :=
 ⟨r.hd,by have:=r.dp; show A.depth + 1 + 3 * k + 5 < _; omega,by have:=r.un; show A.units + 3 + 16 * k + 200 < _; omega⟩
theorem Room.depth {k:Nat} {A:Around} (r:Room k A):A.depth < recursionLimit:=by have:=r.dp; omega
theorem Room.units {k:Nat} {A:Around} (r:Room k A):A.units + 64 < cLine:=by have:=r.un; omega
def tNil:TA:=fun _ H Q=>Q [] H
def tCons (ta:TE) (tr:TA):TA:=fun σ H Q=>ta σ H fun x H1=>tr σ H1 fun xs H2=>Q (x :: xs) H2
section
variable {X:Cx} {e:Expr} {es:List Expr} {te:TE} {t:TA} {pos:Pos}
theorem pa_nil:PA X [] tNil:=fun _ _ _ _ H Q I h=>Calls.spliced_nil ⟨[],H,I,.nil,h⟩
theorem pa_cons (ha:PE X e te) (hr:PA X es t) (hs:starEach (e :: es) X.env=(false,eval e X.env) :: starEach es X.env:=by rfl):PA X (e :: es) (tCons te t):=by
 intro pos pins s σ H Q I h
 rw [hs]
 show wpAny _ _ (spliced ((false,eval e X.env) :: backTo pos (starEach es X.env))) _ _ s
 refine Calls.spliced_cons (thn (ha pins s σ H _ I h) fun u s1 ⟨x,H1,I1,r1,q1⟩=>?_)
 exact thn (hr pos pins s1 σ H1 _ I1 q1) fun us s2 ⟨xs,H2,I2,r2,q2⟩=>⟨x :: xs,H2,I2,.cons r1 r2,q2⟩
def tTup (t:TA):TE:=fun σ H Q=>t σ H fun xs H1=>xs.length≤sizeLine∧∀ p,H1 p=none→Q (.ref p) (upd H1 p (.tup xs))
def tLst (t:TA):TE:=fun σ H Q=>t σ H fun xs H1=>xs.length≤sizeLine∧∀ p,H1 p=none→Q (.ref p) (upd H1 p (.lst xs))
theorem pe_tup {x1} (h:PA X es t):PE X (.Tuple es x1 pos) (tTup t):=by
 intro pins s σ H Q I hq
 refine wpAny_Tuple_spliced (thn (h pos pins s σ H _ I hq) fun us s1 ⟨xs,H1,I1,r,z,q⟩=>⟨by rw [← r.length]; exact z,?_⟩)
 have hf:H1 s1.heap.objs.size=none:=I1.hok.fresh (Nat.le_refl _)
 refine ⟨.ref s1.heap.objs.size,upd H1 s1.heap.objs.size (.tup xs),I1.laid (t':=s1.toks) (fun b u e=>Heap.get?_push_of_some _ e) (Nat.le_refl _) ?_,rfl,q _ hf⟩
 exact ⟨z,us,r,⟨_,Heap.get?_push_size _ rfl,rfl,_,rfl⟩⟩
theorem pe_lst (h:PA X es t):PE X (.List es pos) (tLst t):=by
 intro pins s σ H Q I hq
 refine wpAny_List_spliced (thn (h pos pins s σ H _ I hq) fun us s1 ⟨xs,H1,I1,r,z,q⟩=>⟨by rw [← r.length]; exact z,?_⟩)
 have hf:H1 s1.heap.objs.size=none:=I1.hok.fresh (Nat.le_refl _)
 refine ⟨.ref s1.heap.objs.size,upd H1 s1.heap.objs.size (.lst xs),I1.laid (t':=s1.toks) (fun b u e=>Heap.get?_push_of_some _ e) (Nat.le_refl _) ?_,rfl,q _ hf⟩
 exact ⟨z,us,0,r,Heap.get?_push_size _ rfl⟩
end
abbrev Sp:=List V→Hp→VK→XK→Prop
abbrev CXT:=List Env→Hp→Shared→XK→Value→Shared→Prop
structure Env0 (P:Program) (w:World) (K:PySem.W.Frag) (mg:Str→Option Value) (base:Heap) (A:Around) (outer:List Env) (s:Shared) (H:Hp):Prop where
 frames:A.frames=some outer
 mod:Mod K mg base
 bs:∀ b o,base.get? b=some o→s.heap.get? b=some o∧H b=none
 bsz:base.objs.size≤s.heap.objs.size
 funs:s.heap.FunFrames base outer
 frf:∀ b∈frs outer,H b=none
 hok:HOk P w H s.heap
 bare:AllBare s.gens
def CE (outer:List Env) (P:Program) (w:World) (H:Hp) (s:Shared) (Q:VK) (u:Value) (s':Shared):Prop :=
 ∃ v H',s'.os=s.os∧AllBare s'.gens∧Un (frs outer) [] H H' s.heap s'.heap∧HOk P w H' s'.heap∧RelV v u∧Q v H'
def CR (CX:CXT) (outer:List Env) (P:Program) (w:World) (H:Hp) (s:Shared) (Q:VK) (E:XK) (r:Result) (s':Shared):Prop :=
 match r with
 | .ok (.ret u)=>CE outer P w H s Q u s'
 | .ok _=>False
 | .error e=>CX outer H s E e s'
structure FnOk (P:Program) (w:World) (K:PySem.W.Frag) (mg:Str→Option Value) (base:Heap) (CX:CXT) (k:Nat) (f:Addr) (fd:FuncData) (ps:List Str) (sp:Sp):Prop where
 len:∀ vs H Q E,sp vs H Q E→vs.length=ps.length
 run:∀ (A:Around) (outer:List Env) (s:Shared) (H:Hp) (args:Args) (us:List Value) (vs:List V) (Q:VK) (E:XK),Room k A→Env0 P w K mg base A outer s H→BindsTo s fd args (ps.zip us)→Vals vs us→sp vs H Q E →
  codeAny (model P w) A (.call (.ref f) args) (CR CX outer P w H s Q E) s
theorem FnOk.mono {P:Program} {w:World} {K:PySem.W.Frag} {mg:Str→Option Value} {base:Heap} {CX:CXT} {j k:Nat} {f:Addr} {fd:FuncData} {ps:List Str} {sp:Sp} (F:FnOk P w K mg base CX j f fd ps sp) (h:j≤k) :
  FnOk P w K mg base CX k f fd ps sp:=⟨F.len,fun A outer s H args us vs Q E hr=>F.run A outer s H args us vs Q E (hr.mono h)⟩
section
variable {X:Cx} {pins:List (Addr×Obj)} {σ:St} {H:Hp} {s s':Shared}
theorem Inv.env0 (I:Inv X pins σ H s):Env0 X.prog X.w X.K X.mg X.base X.A X.stack s H :=
 ⟨I.ok.frames,I.ok.mod,I.bs,Nat.le_trans I.ok.bsz I.sz,I.stack,I.stkFree,I.hok,I.bare⟩
theorem Inv.after {Q:VK} {u:Value} (I:Inv X pins σ H s) (h:CE X.stack X.prog X.w H s Q u s'):EP X pins σ Q u s':=by
 obtain ⟨v,H',os,bare,un,hok,r,q⟩:=h
 obtain ⟨hh,g,d,t,os'⟩:=s'
 obtain rfl:os'=s.os:=os
 exact ⟨v,H',I.call (h':=hh) (g':=g) (d':=d) (t':=t) (ch:=[]) un hok bare (fun b z=>absurd z (by simp)),r,q⟩
end
def tCall (sp:Sp) (dvs:List V) (E:XK) (t:TA):TE:=fun σ H Q=>t σ H fun vs H1=>sp (vs ++ dvs) H1 Q E
def Binds (K:PySem.W.Frag) (fd:FuncData) (ps:List Str) (ds:List Value):Prop :=
 ∀ (s:Shared) (us:List Value),K.In s.heap→(us ++ ds).length=ps.length→BindsTo s fd ⟨us,[]⟩ (ps.zip (us ++ ds))
theorem Binds.all {K:PySem.W.Frag} {fd:FuncData} {ps:List Str} (h:∀ us:List Value,us.length=ps.length→bindArgs fd ⟨us,[]⟩=pure (ps.zip us)):Binds K fd ps []:=fun s us _ hl=>by
 rw [List.append_nil] at hl ⊢
 exact .of_eq (h us hl)
def Passes (CX:CXT) (X:Cx) (E:XK):Prop:=∀ (pins:List (Addr×Obj)) (σ:St) (H:Hp) (s:Shared) (e:Value) (s':Shared),Inv X pins σ H s→CX X.stack H s E e s'→X.xe e s'
section
variable {X:Cx} {CX:CXT} {k:Nat} {f C:Addr} {fd:FuncData} {ps:List Str} {sp:Sp} {dvs:List V} {ds:List Value} {E:XK} {x m:Str} {p pos apos:Pos} {e o:Expr} {es:List Expr} {ta:TE} {t:TA}
theorem run_fn {pins:List (Addr×Obj)} {σ:St} {H:Hp} {s:Shared} {Q:VK} {us:List Value} {vs:List V} (F:FnOk X.prog X.w X.K X.mg X.base CX k f fd ps sp) (hr:Room k X.A) (hb:Binds X.K fd ps ds) (hd:Vals dvs ds) (hx:Passes CX X E)
  (I:Inv X pins σ H s) (r:Vals vs us) (h:sp (vs ++ dvs) H Q E):wpAny (model X.prog X.w) X.A (call (.ref f) us) (EP X pins σ Q) X.xe s:=by
 have r2:Vals (vs ++ dvs) (us ++ ds):=r.append hd
 have hl:(us ++ ds).length=ps.length:=by rw [← r2.length]; exact F.len _ _ _ _ h
 refine wpAny_call (codeAny_mono (F.run X.A X.stack s H ⟨us,[]⟩ (us ++ ds) (vs ++ dvs) Q E hr I.env0 (hb s us I.kIn hl) r2 h) fun r s' hq=>?_)
 cases r with
 | error e=>exact hx pins σ H s e s' I hq
 | ok fl =>
  cases fl with
  | ret u=>exact I.after hq
  | next=>exact False.elim hq
  | brk=>exact False.elim hq
  | cont=>exact False.elim hq
theorem pe_call (F:FnOk X.prog X.w X.K X.mg X.base CX k f fd ps sp) (hr:Room k X.A) (hg:Gl X x) (hm:X.mg x=some (.ref f)) (hk:PySem.W.keepIn X.K (.ref f)=true) (hb:Binds X.K fd ps ds) (hd:Vals dvs ds) (hx:Passes CX X E)
  (ha:PA X (e :: es) t) (hdb:(x == ("__debug__":Str))=false:=by decide) (he:starEach (e :: es) X.env=(false,eval e X.env) :: starEach es X.env:=by rfl) (hpl:(backTo pos (starEach es X.env)).any (·.1)=false:=by rfl) :
  PE X (.Call (.Name x p) (e :: es) [] pos) (tCall sp dvs E t):=by
 intro pins s σ H Q I h
 refine wpAny_Call_Name_kw (ld_glob I hg hm ?_ hdb)
 refine PySem.W.callWith_K (h₀:=X.base) I.ok.mod.kin hk (thn (ha pos pins s σ H _ I h) fun us s1 ⟨vs,H1,I1,r,q⟩=>⟨I1.kIn,?_⟩) he hpl
 exact run_fn F hr hb hd hx I1 r q
theorem pe_call0 (F:FnOk X.prog X.w X.K X.mg X.base CX k f fd ps sp) (hr:Room k X.A) (hg:Gl X x) (hm:X.mg x=some (.ref f)) (hk:PySem.W.keepIn X.K (.ref f)=true) (hb:Binds X.K fd ps ds) (hd:Vals dvs ds) (hx:Passes CX X E)
  (hdb:(x == ("__debug__":Str))=false:=by decide):PE X (.Call (.Name x p) [] [] pos) (tCall sp dvs E tNil):=by
 intro pins s σ H Q I h
 refine wpAny_Call_Name_kw (ld_glob I hg hm ?_ hdb)
 exact PySem.W.callWith_K0 I.kIn hk (run_fn (us:=[]) F hr hb hd hx I .nil h)
end
section
variable {X:Cx} {CX:CXT} {k:Nat} {f C:Addr} {fd:FuncData} {ps ks:List Str} {sp:Sp} {E:XK} {x m:Str} {p pos apos kpos:Pos} {e o:Expr} {es:List Expr} {kws:List Keyword} {te ta:TE} {t tk:TA} {nm:Option Str}
variable {g:List Value→List Value→List Value} {gV:List V→List V→List V}
end
structure FnScope (N P:List Str) (sc:Scope):Prop where
 kind:sc.kind=.function
 co:sc.isCoroutine=false
 gen:sc.isGenerator=false
 nd:N.Nodup
 pre:N.take P.length=P
 par:∀ x∈P,sc.names.lookup x=some .local∨sc.names.lookup x=some .cell
 nofree:∀ y∈sc.names,y.2≠.free
theorem bindL_out {kindOf:Str→Option NameKind} {x:Str}:∀ {binds:List (Str×Value)} {m:Str→Option Value},(∀ v,(x,v) ∉ binds)→bindL kindOf binds m x=m x
 | [],_,_=>rfl
 | (n,v) :: r,m,h=>by
  unfold bindL
  rw [bindL_out fun w hw=>h w (List.mem_cons_of_mem _ hw)]
  split
  ·have:x≠n:=by rintro rfl; exact h v List.mem_cons_self
   simp [this]
  ·rfl
theorem bindC_out {kindOf:Str→Option NameKind} {x:Str}:∀ {binds:List (Str×Value)} {m:Str→Option Value},(∀ v,(x,v) ∉ binds)→bindC kindOf binds m x=m x
 | [],_,_=>rfl
 | (n,v) :: r,m,h=>by
  unfold bindC
  rw [bindC_out fun w hw=>h w (List.mem_cons_of_mem _ hw)]
  split
  ·rfl
  ·have:x≠n:=by rintro rfl; exact h v List.mem_cons_self
   simp [this]
theorem bindL_get {kindOf:Str→Option NameKind} {x:Str} {v:Value}:∀ {P:List Str} {vs:List Value} {i:Nat} {m:Str→Option Value},P.Nodup→P[i]?=some x→vs[i]?=some v→kindOf x=some .local →
  bindL kindOf (P.zip vs) m x=some v
 | [],_,_,_,_,h,_,_=>by simp at h
 | _ :: _,[],_,_,_,_,h,_=>by simp at h
 | p :: P,w :: vs,0,m,nd,h1,h2,hk=>by
  simp at h1 h2; subst h1; subst h2
  show bindL kindOf ((p,w) :: P.zip vs) m p=_
  unfold bindL
  rw [bindL_out fun v hv=>(List.nodup_cons.mp nd).1 (List.of_mem_zip hv).1,if_pos hk]
  simp
 | p :: P,w :: vs,i + 1,m,nd,h1,h2,hk=>by
  show bindL kindOf ((p,w) :: P.zip vs) m x=_
  unfold bindL
  exact bindL_get (i:=i) (List.nodup_cons.mp nd).2 (by simpa using h1) (by simpa using h2) hk
theorem bindC_get {kindOf:Str→Option NameKind} {x:Str} {v:Value}:∀ {P:List Str} {vs:List Value} {i:Nat} {m:Str→Option Value},P.Nodup→P[i]?=some x→vs[i]?=some v→kindOf x≠some .local →
  bindC kindOf (P.zip vs) m x=some v
 | [],_,_,_,_,h,_,_=>by simp at h
 | _ :: _,[],_,_,_,_,h,_=>by simp at h
 | p :: P,w :: vs,0,m,nd,h1,h2,hk=>by
  simp at h1 h2; subst h1; subst h2
  show bindC kindOf ((p,w) :: P.zip vs) m p=_
  unfold bindC
  rw [bindC_out fun v hv=>(List.nodup_cons.mp nd).1 (List.of_mem_zip hv).1,if_neg hk]
  simp
 | p :: P,w :: vs,i + 1,m,nd,h1,h2,hk=>by
  show bindC kindOf ((p,w) :: P.zip vs) m x=_
  unfold bindC
  exact bindC_get (i:=i) (List.nodup_cons.mp nd).2 (by simpa using h1) (by simpa using h2) hk
def start (N:List Str) (vs:List V):St:=vs.map some ++ List.replicate (N.length - vs.length) none
def cxOf (CX:CXT) (P:Program) (w:World) (K:PySem.W.Frag) (mg:Str→Option Value) (base:Heap) (N:List Str) (qual:Str) (scope:Scope) (f:Addr) (cd:Value) (A:Around) (outer:List Env) (s:Shared) (H:Hp) (E:XK):Cx where
 prog:=P
 w:=w
 K:=K
 mg:=mg
 base:=base
 A:=A.deeper (envOfC qual scope s.heap.objs.size f cd)
 N:=N
 s₀:=s
 H₀:=H
 env:=envOfC qual scope s.heap.objs.size f cd
 outer:=outer
 stack:=envOfC qual scope s.heap.objs.size f cd :: outer
 ex:=[]
 calm:=true
 fn:=fun _=>true
 pn:=[]
 xe:=fun e s'=>wpAny (model P w) (A.deeper (envOfC qual scope s.heap.objs.size f cd)) (leaving (envOfC qual scope s.heap.objs.size f cd) e) (fun _ s''=>CX outer H s E e s'') (fun e' s''=>CX outer H s E e' s'') s'
theorem cell_has {sc:Scope} {n:Nat} {x:Str} (h:sc.names.lookup x=some .cell):∃ c,(cellsFrom n sc.names []).lookup x=some c:=by
 have q:=PySem.W.cellsFrom_some sc.names n [] (.inl h)
 exact Option.isSome_iff_exists.mp q
theorem inv_start {CX:CXT} {P:Program} {w:World} {K:PySem.W.Frag} {mg:Str→Option Value} {base:Heap} {N ps:List Str} {qual:Str} {scope:Scope} {f:Addr} {cd:Value} {A:Around} {outer:List Env} {s s1:Shared} {H:Hp} {E:XK} {us:List Value} {vs:List V}
  (S:FnScope N ps scope) (hd:A.handled=none) (e0:Env0 P w K mg base A outer s H) (hl:vs.length=ps.length) (r:Vals vs us)
  (x:InCallC s s.heap.objs.size (bindL (envOfC qual scope s.heap.objs.size f cd).kindOf (ps.zip us) fun _=>none) (cellsFrom (s.heap.objs.size + 1) scope.names []) (bindC (envOfC qual scope s.heap.objs.size f cd).kindOf (ps.zip us) fun _=>none) s1) :
  Inv (cxOf CX P w K mg base N qual scope f cd A outer s H E) [] (start N vs) H s1:=by
 have hpl:ps.length≤N.length:=by have:=congrArg List.length S.pre; rw [List.length_take] at this; omega
 obtain ⟨h1,tk,rfl,hk⟩:=x.done
 have noA:∀ b:Addr,b ∉ (cxOf CX P w K mg base N qual scope f cd A outer s H E).ex:=fun b z=>absurd (show b∈([]:List Addr) from z) (by simp)
 refine ⟨⟨e0.mod,S.kind,rfl,rfl,Nat.le_refl _,fun y z c h1 h2=>?_,fun y hy=>?_,fun y c _ h=>?_,fun _=>hd,Around.frames_deeper e0.frames,.inr ⟨rfl,rfl⟩,fun b z=>absurd z (noA b),e0.bs,e0.bsz,fun b _ _=>noA b,fun b z=>absurd z (noA b),e0.funs,e0.frf⟩,
  rfl,e0.bare,Un.kept hk,⟨_,x.toInCall.ns,fun i y v h1 h2 h3=>?_⟩,fun y c h=>⟨_,x.cell y c h⟩,e0.hok.fresh (Nat.le_refl _),fun y c h=>?_,fun p hp=>absurd (show p∈([]:List (Addr×Obj)) from hp) (by simp),e0.hok.kept hk,?_⟩
 ·exact name_of_addr x.apart (PySem.mem_of_lookup h1) (PySem.mem_of_lookup h2)
 ·have hy:scope.names.lookup y=some .cell∨scope.names.lookup y=some .free:=hy
  rcases hy with hy | hy
  ·exact cell_has hy
  ·exact absurd rfl (S.nofree _ (PySem.mem_of_lookup hy))
 ·exact Nat.le_of_lt (x.above y c (PySem.mem_of_lookup h))
 ·have hi:i < vs.length:=by
   unfold start at h2
   by_cases hi:i < vs.length
   ·exact hi
   ·rw [List.getElem?_append_right (by simpa using hi)] at h2
    rw [List.getElem?_replicate] at h2
    split at h2 <;> cases h2
  have ha:vs[i]?=some v:=by
   unfold start at h2
   rw [List.getElem?_append_left (by simpa using hi),List.getElem?_map] at h2
   cases e:vs[i]? with
   | none=>rw [e] at h2; cases h2
   | some a=>rw [e] at h2; cases h2; rfl
  obtain ⟨u,hu,rv⟩:=r.get ha
  have hp:ps[i]?=some y:=by
   rw [← S.pre,List.getElem?_take_of_lt (by omega)]; exact h1
  have ndP:ps.Nodup:=by rw [← S.pre]; exact S.nd.sublist (List.take_sublist _ _)
  refine ⟨u,rv,?_⟩
  rcases S.par y (List.mem_of_getElem? hp) with k | k
  ·exact .inl ⟨k,bindL_get ndP hp hu k⟩
  ·obtain ⟨c,e⟩:=cell_has (n:=s.heap.objs.size + 1) k
   refine .inr ⟨.inl k,c,e,?_⟩
   have q:=x.cell y c e
   rw [bindC_get ndP hp hu (by show scope.names.lookup y≠_; rw [k]; decide)] at q
   exact q
 ·exact e0.hok.fresh (Nat.le_of_lt (x.above y c (PySem.mem_of_lookup h)))
 ·unfold start
  show _=N.length
  rw [List.length_append,List.length_map,List.length_replicate]
  omega
theorem fn_of {CX:CXT} {P:Program} {w:World} {K:PySem.W.Frag} {mg:Str→Option Value} {base:Heap} {k:Nat} {f:Addr} {name qual:Str} {params:Arguments} {body:List Stmt} {scope:Scope} {dV kV doc pm cdv ct oc:Value} {an od:Option Addr}
  {osl:Array (Option Value)} {N ps:List Str} {sp:Sp} (lk:K.lookup f=some ⟨oc,od,.func (PySem.W.fnOf name qual params body scope dV kV doc pm an cdv ct),osl⟩) (hcd:PySem.W.codeIn K cdv qual=true) (S:FnScope N ps scope)
  (len:∀ vs H Q E,sp vs H Q E→vs.length=ps.length)
  (hbody:∀ (A:Around) (outer:List Env) (s:Shared) (H:Hp) (vs:List V) (Q:VK) (E:XK),Room k (A.deeper (envOfC qual scope s.heap.objs.size f cdv))→sp vs H Q E →
   ∃ t,PSs (cxOf CX P w K mg base N qual scope f cdv A outer s H E) body t∧t { nx:=fun _ H'=>Q .non H',rt:=Q } (start N vs) H) :
  FnOk P w K mg base CX (k + 1) f (PySem.W.fnOf name qual params body scope dV kV doc pm an cdv ct) ps sp:=by
 refine ⟨len,fun A outer s H args us vs Q E hr e0 hb r hsp=>?_⟩
 have hl:=len _ _ _ _ hsp
 have KX:K.In s.heap:=e0.mod.kin.keeps fun b o e=>(e0.bs b o e).1
 have lim:s.heap.NoLimit:=e0.mod.nolimit.keeps fun b o e=>(e0.bs b o e).1
 have hkind:∀ y∈ps.zip us,scope.names.lookup y.1=some .local∨(scope.names.lookup y.1=some .cell∧((cellsFrom (s.heap.objs.size + 1) scope.names []).lookup y.1).isSome=true):=fun ⟨n,v⟩ hy=>by
  rcases S.par n (List.of_mem_zip hy).1 with q | q
  ·exact .inl q
  ·exact .inr ⟨q,PySem.W.cellsFrom_some _ _ _ (.inl q)⟩
 refine codeAny_call_function hr.depth (KX _ _ lk) rfl S.co S.gen rfl (PySem.W.codeRec_of KX hcd) (hb _ _ _ _ ?_)
 refine wpAny_newFunctionEnv_cells S.kind hkind fun env he s1 x=>?_
 subst he
 refine ⟨lim.keeps x.toInCall.keep,codeAny_func ?_⟩
 obtain ⟨t,ht,hq⟩:=hbody A outer s H vs Q E (hr.deeper _) hsp
 have I:Inv (cxOf CX P w K mg base N qual scope f cdv A outer s H E) [] (start N vs) H s1:=inv_start S hr.hd e0 hl r x
 refine wpAny_mono (ht [] s1 (start N vs) H _ I hq) (fun fl s' hs=>?_) fun e s' hs=>hs
 have fin:∀ {σ':St} {H':Hp} {v:V} {u:Value},Inv (cxOf CX P w K mg base N qual scope f cdv A outer s H E) [] σ' H' s'→RelV v u→Q v H'→CE outer P w H s Q u s' :=
  fun {σ' H' v u} J rv q=>⟨v,H',J.os,J.bare,J.base,J.hok,rv,q⟩
 cases fl with
 | ret u =>
  obtain ⟨v,σ',H',J,rv,q⟩:=hs
  exact fin J rv q
 | next =>
  obtain ⟨σ',H',J,q⟩:=hs
  exact fin (v:=V.non) (u:=Value.none) J rfl q
 | brk =>
  obtain ⟨_,_,_,q⟩:=hs
  exact False.elim q
 | cont =>
  obtain ⟨_,_,_,q⟩:=hs
  exact False.elim q
section
variable {X:Cx} {x:Str} {p pos:Pos} {e:Expr} {es:List Expr} {t:TA} {id T:String} {r:List V→Hp→VK→Prop}
def tCB (r:List V→Hp→VK→Prop) (t:TA):TE:=fun σ H Q=>t σ H fun vs H1=>r vs H1 Q
theorem pe_callB (hc:CallR X (.builtin id) r) (hg:Gl X x) (hm:X.mg x=none) (hv:bootBuiltins x=some (.builtin id)) (ha:PA X (e :: es) t) (hn:x≠"__name__":=by decide) (hdb:(x == ("__debug__":Str))=false:=by decide)
  (he:starEach (e :: es) X.env=(false,eval e X.env) :: starEach es X.env:=by rfl) (hpl:(backTo pos (starEach es X.env)).any (·.1)=false:=by rfl):PE X (.Call (.Name x p) (e :: es) [] pos) (tCB r t):=by
 intro pins s σ H Q I h
 refine wpAny_Call_Name_kw (ld_blt I hg hm hv ?_ hn hdb)
 exact PyProof.Rows.callWith_builtin1 (thn (ha pos pins s σ H _ I h) fun us s1 ⟨vs,H1,I1,r1,q1⟩=>hc pins s1 σ H1 vs us Q I1 r1 q1) he hpl
theorem pe_callTy (hc:CallR X (.type T) r) (hg:Gl X x) (hm:X.mg x=none) (hv:bootBuiltins x=some (.type T)) (ha:PA X (e :: es) t) (hn:x≠"__name__":=by decide) (hdb:(x == ("__debug__":Str))=false:=by decide)
  (he:starEach (e :: es) X.env=(false,eval e X.env) :: starEach es X.env:=by rfl) (hpl:(backTo pos (starEach es X.env)).any (·.1)=false:=by rfl):PE X (.Call (.Name x p) (e :: es) [] pos) (tCB r t):=by
 intro pins s σ H Q I h
 refine wpAny_Call_Name_kw (ld_blt I hg hm hv ?_ hn hdb)
 exact PyProof.Rows.callWith_type1 (thn (ha pos pins s σ H _ I h) fun us s1 ⟨vs,H1,I1,r1,q1⟩=>hc pins s1 σ H1 vs us Q I1 r1 q1) he hpl
end
end L2
namespace HT
open PySem PyProof.Rows
section
open PySem.SeqAt
open PySem.AutoSeq1 (wpAny_loadPart')
open PySem.MeetsSeq PySem.MeetsSeq2 PySem.MeetsSeq3
end
section
variable {prog:Program} {w:World} {A:Around} {E:Value→Shared→Prop} {s:Shared}
theorem cat_tup {t b:Addr} {vs ws:List Value} {Q:Value→Shared→Prop} (ht:IsTup s.heap t vs.toArray) (hb:IsTup s.heap b ws.toArray) (hv:vs≠[])
  (h1:ws=[]→Q (.ref t) s) (h2:ws≠[]→Q (.ref s.heap.objs.size) { s with heap:=s.heap.push { cls:=.type "tuple",data:=.seq (vs ++ ws).toArray } })
  (hsz:vs.length + ws.length≤sizeLine):wpAny (model prog w) A (binaryOp .Add (.ref t) (.ref b)) Q E s:=by
 obtain ⟨⟨cls,dd,data,sl⟩,ho,hc,n,hd⟩:=id ht
 obtain ⟨⟨cls2,dd2,data2,sl2⟩,ho2,hc2,n2,hd2⟩:=id hb
 simp only at hc hd hc2 hd2
 subst hc hd hc2 hd2
 have e:vs.toArray ++ ws.toArray=(vs ++ ws).toArray:=by simp
 by_cases hw:ws=[]
 ·exact concat_meets ⟨_,ho,rfl⟩ ⟨_,ho2,rfl⟩ noFill_tuple_add seq_tuple_add PySem.F.slot_tuple_add PySem.F.entry_tuple_add (PySem.F.args_tuple_add_2 _ _)
   (tuple_addW1 t b vs.toArray ws.toArray n n2 dd dd2 sl sl2 (by simpa using hv) (by simp [hw])) ⟨ho,ho2,h1 hw⟩
 ·refine concat_meets ⟨_,ho,rfl⟩ ⟨_,ho2,rfl⟩ noFill_tuple_add seq_tuple_add PySem.F.slot_tuple_add PySem.F.entry_tuple_add (PySem.F.args_tuple_add_2 _ _)
   (tuple_addW2 t b vs.toArray ws.toArray n n2 dd dd2 sl sl2 (by simpa using hv) (by simpa using hw) (by rw [List.size_toArray,List.size_toArray]; exact hsz)) ⟨ho,ho2,?_⟩
  rw [e]
  exact h2 hw
def sIx (n d:Nat):Option Int→Nat
 | none=>d
 | some v=>if v < 0 then (v + (n:Int)).toNat else min v.toNat n
end
end HT
namespace L2
open PySem PySem.Spec PyProof.Rows
abbrev TO:=St→Hp→(Option Int→Hp→Prop)→Prop
def PO (X:Cx) (e:Option Expr) (t:TO):Prop :=
 ∀ (pins:List (Addr×Obj)) (s:Shared) (σ:St) (H:Hp) (Q:Option Int→Hp→Prop),Inv X pins σ H s→t σ H Q →
  wpAny (model X.prog X.w) X.A (evalPart e X.env) (fun u s'=>∃ o H',Inv X pins σ H' s'∧IsPart u o∧Q o H') X.xe s
def tNoPart:TO:=fun _ H Q=>Q none H
def tPart (t:TE):TO:=fun σ H Q=>t σ H fun x H1=>∃ i,x=.int i∧Q (some i) H1
section
variable {X:Cx} {e:Expr} {te:TE} {lo hi:Option Expr} {tl th:TO} {pos p2:Pos}
theorem po_none:PO X none tNoPart:=by
 intro pins s σ H Q I h
 rw [evalPart_none]
 exact wpAny_pure ⟨none,H,I,.none,h⟩
theorem po_some (h:PE X e te):PO X (some e) (tPart te):=by
 intro pins s σ H Q I hw
 rw [evalPart_some]
 refine thn (h pins s σ H _ I hw) fun u s1 ⟨x,H1,I1,r1,q1⟩=>?_
 obtain ⟨i,rfl,q⟩:=q1
 obtain ⟨t,rfl⟩:=r1
 exact ⟨some i,H1,I1,.int i t,q⟩
def SlR (X:Cx) (r:V→Option Int→Option Int→Hp→VK→Prop):Prop :=
 ∀ (pins:List (Addr×Obj)) (s:Shared) (σ:St) (H:Hp) (x:V) (v vl vu:Value) (lo hi:Option Int) (sl:Addr) (Q:VK),Inv X pins σ H s→RelV x v→s.heap.IsSliceOf sl vl vu .none→IsPart vl lo→IsPart vu hi→r x lo hi H Q →
  ∃ T id,typeLookup (.type T) "__getitem__"=pure (some (.builtin id))∧s.TypeIs v T∧wpAny (model X.prog X.w) X.A (getItem v (.ref sl)) (EP X pins σ Q) X.xe s
def tSl (r:V→Option Int→Option Int→Hp→VK→Prop) (te:TE) (tl th:TO):TE:=fun σ H Q=>te σ H fun x H1=>tl σ H1 fun l H2=>th σ H2 fun u H3=>r x l u H3 Q
theorem pe_slice {r:V→Option Int→Option Int→Hp→VK→Prop} (hr:SlR X r) (he:PE X e te) (hl:PO X lo tl) (hu:PO X hi th):PE X (.Subscript e (.Slice lo hi none p2) pos) (tSl r te tl th):=by
 intro pins s σ H Q I h
 refine Subscript_ (thn (he pins s σ H _ I h) fun v s1 ⟨x,H1,I1,r1,q1⟩=>?_)
 refine wpAny_Slice (thn (hl pins s1 σ H1 _ I1 q1) fun vl s2 ⟨l,H2,I2,pl,q2⟩=>thn (hu pins s2 σ H2 _ I2 q2) fun vu s3 ⟨u,H3,I3,pu,q3⟩=>?_)
 rw [evalPart_none]
 refine wpAny_pure ?_
 have I4:Inv X pins σ H3 { s3 with heap:=s3.heap.push { cls:=.type "slice",data:=.fields #[vl,vu,.none] } }:=I3.kept (t':=s3.toks) fun b ob q=>Heap.get?_push_of_some _ q
 obtain ⟨T,id,hT,ht,hg⟩:=hr pins { s3 with heap:=s3.heap.push { cls:=.type "slice",data:=.fields #[vl,vu,.none] } } σ H3 x v vl vu l u s3.heap.objs.size Q I4 r1 (Heap.IsSliceOf.new ..) pl pu q3
 show wpAny (model X.prog X.w) X.A (subscriptTail e (.Slice lo hi none p2) v (.ref s3.heap.objs.size)) (EP X pins σ Q) X.xe { s3 with heap:=s3.heap.push { cls:=.type "slice",data:=.fields #[vl,vu,.none] } }
 exact tail_any (ops:=[.ref s3.heap.objs.size,v]) ht hT hg (by with_unfolding_all rfl)
def cutV (xs:List V) (lo hi:Option Int):List V:=(xs.drop (HT.sIx xs.length 0 lo)).take (HT.sIx xs.length xs.length hi - HT.sIx xs.length 0 lo)
theorem cutV_length (xs:List V) (lo hi:Option Int):(cutV xs lo hi).length≤xs.length:=by
 unfold cutV
 rw [List.length_take,List.length_drop]
 omega
def rCatT (K:PySem.W.Frag):R2:=fun x y H Q=>∃ a b xs ys,x=.ref a∧y=.ref b∧SqT K H a xs∧SqT K H b ys∧xs≠[]∧xs.length + ys.length≤sizeLine ∧
 (ys=[]→Q (.ref a) H)∧(ys≠[]→∀ p,H p=none→Q (.ref p) (upd H p (.tup (xs ++ ys))))
theorem Vals.nil_iff {xs:List V} {us:List Value} (r:Vals xs us):us=[]↔xs=[]:=by
 cases r with
 | nil=>simp
 | cons _ _=>simp
theorem op_catT:OpR X (binaryOp .Add) (rCatT X.K):=by
 intro pins s σ H x y v u Q I rx ry h
 obtain ⟨a,b,xs,ys,rfl,rfl,ha,hb,hx,hz,q1,q2⟩:=h
 cases rx
 cases ry
 obtain ⟨its,r1,p1,_⟩:=I.tuple ha
 obtain ⟨its2,r2,p2,_⟩:=I.tuple hb
 refine HT.cat_tup p1 p2 (fun z=>hx (r1.nil_iff.mp z)) (fun z=>⟨.ref a,H,I,rfl,q1 (r2.nil_iff.mp z)⟩) (fun z=>?_) (by rw [← r1.length,← r2.length]; exact hz)
 refine ⟨.ref s.heap.objs.size,_,I.laid (t':=s.toks) (o:=.tup (xs ++ ys)) (fun b ob q=>Heap.get?_push_of_some _ q) (Nat.le_refl _) ?_,rfl,q2 (fun w=>z (r2.nil_iff.mpr w)) _ (I.hok.fresh (Nat.le_refl _))⟩
 exact ⟨by rw [List.length_append]; exact hz,_,r1.append r2,TupX.new _ _⟩
end
def ixN (n:Nat) (i:Int):Option Nat:=if 0≤i then (if i < n then some i.toNat else none) else if -(n:Int)≤i then some (i + n).toNat else none
def atI {α:Type} (xs:List α) (i:Int):Option α:=(ixN xs.length i).bind fun j=>xs[j]?
theorem ixN_seq {n:Nat} {i:Int} {j:Nat} (h:ixN n i=some j):seqIndex? i n=some j∧j < n∧-(n:Int)≤i∧i < n:=by
 unfold ixN at h
 by_cases h0:0≤i
 ·rw [if_pos h0] at h
  by_cases h1:i < n
  ·rw [if_pos h1] at h
   have e:i.toNat=j:=Option.some.inj h
   exact ⟨by rw [seqIndex_of h0 h1,e],by omega,by omega,h1⟩
  ·rw [if_neg h1] at h; cases h
 ·rw [if_neg h0] at h
  by_cases h1:-(n:Int)≤i
  ·rw [if_pos h1] at h
   have e:(i + n).toNat=j:=Option.some.inj h
   exact ⟨by rw [seqIndex_neg (by omega) h1,e],by omega,h1,by omega⟩
  ·rw [if_neg h1] at h; cases h
theorem atI_get {α:Type} {xs:List α} {i:Int} {v:α} (h:atI xs i=some v):∃ j,seqIndex? i xs.length=some j∧xs[j]?=some v∧j < xs.length∧-(xs.length:Int)≤i∧i < xs.length:=by
 unfold atI at h
 cases e:ixN xs.length i with
 | none=>rw [e] at h; cases h
 | some j =>
  rw [e] at h
  obtain ⟨h1,h2,h3,h4⟩:=ixN_seq e
  exact ⟨j,h1,h,h2,h3,h4⟩
theorem atI_nat {α:Type} {xs:List α} {j:Nat} {v:α} (h:xs[j]?=some v):atI xs (j:Int)=some v:=by
 have hj:j < xs.length:=(List.getElem?_eq_some_iff.mp h).1
 have e:ixN xs.length (j:Int)=some j:=by
  unfold ixN
  rw [if_pos (by omega),if_pos (by omega)]; simp
 unfold atI; rw [e]; exact h
theorem atI_last {α:Type} (xs:List α) (v:α):atI (xs ++ [v]) (-1)=some v:=by
 have hl:(xs ++ [v]).length=xs.length + 1:=by simp
 have e:ixN (xs ++ [v]).length (-1)=some xs.length:=by
  unfold ixN
  rw [hl,if_neg (by decide),if_pos (by omega)]
  congr 1
  omega
 unfold atI
 rw [e]
 show (xs ++ [v])[xs.length]?=some v
 simp
def PlainIx (b:Expr):Prop:=∀ o i,subscripted b false o i=operate [o,i] (getItem o i)
def IxR (X:Cx) (r:R2):Prop :=
 ∀ (value slice:Expr) (pins:List (Addr×Obj)) (s:Shared) (σ:St) (H:Hp) (x y:V) (v u:Value) (Q:VK),Inv X pins σ H s→RelV x v→RelV y u→r x y H Q →
  subscripted slice false v u=operate [v,u] (getItem v u)→wpAny (model X.prog X.w) X.A (subscriptTail value slice v u) (EP X pins σ Q) X.xe s
def MtR (X:Cx) (id:String) (r:V→List V→Hp→VK→Prop):Prop :=
 ∀ (pins:List (Addr×Obj)) (s:Shared) (σ:St) (H:Hp) (x:V) (xs:List V) (v:Value) (us:List Value) (Q:VK),Inv X pins σ H s→RelV x v→Vals xs us→r x xs H Q →
  wpAny (model X.prog X.w) X.A (call (.builtin id) (v :: us)) (EP X pins σ Q) X.xe s
section
variable {X:Cx} {a b:Expr} {ta tb:TE} {pos:Pos}
theorem pe_ix {r:R2} (hr:IxR X r) (ha:PE X a ta) (hb:PE X b tb) (hs:PlainIx b):PE X (.Subscript a b pos) (tOp r ta tb):=by
 intro pins s σ H Q I h
 exact Subscript_ (binT ha hb I h fun v u s2 x y H2 I2 rx ry q=>hr a b pins s2 σ H2 x y v u Q I2 rx ry q (hs _ _))
def rIxL (K:PySem.W.Frag):R2:=fun x y H Q=>∃ p xs i v,x=.ref p∧y=.int i∧SqL K H p xs∧atI xs i=some v∧Q v H
def rIxT (K:PySem.W.Frag):R2:=fun x y H Q=>∃ p xs i v,x=.ref p∧y=.int i∧SqT K H p xs∧atI xs i=some v∧Q v H
def rIxS:R2:=fun x y H Q=>∃ z i c,x=.str z∧y=.int i∧z.length≤sizeLine∧atI z.cps.toList i=some c∧Q (.str ⟨#[c]⟩) H
theorem ix_list:IxR X (rIxL X.K):=by
 intro value slice pins s σ H x y v u Q I rx ry h hs
 obtain ⟨p,xs,i,z,rfl,rfl,hq,he,q⟩:=h
 cases rx
 obtain ⟨t,rfl⟩:=ry
 obtain ⟨its,r,pl,hz⟩:=I.list hq
 obtain ⟨j,h1,h2,h3,h4,h5⟩:=atI_get he
 obtain ⟨w,ew,rw'⟩:=r.get h2
 have hl:=r.length
 have hn:=line63
 have fin:EP X pins σ Q w s:=⟨z,H,I,rw',q⟩
 by_cases h0:0≤i
 ·have hj:i.toNat=j:=by
   rw [seqIndex_of h0 h5] at h1
   exact Option.some.inj h1
  exact item_listR pl.isList h0 (by omega) (by rw [hj]; simpa using ew) fin hs
 ·have hj:(i + (its.toArray.size:Int)).toNat=j:=by
   rw [seqIndex_neg (by omega) h4] at h1
   rw [List.size_toArray,← hl]
   exact Option.some.inj h1
  exact subscriptTail_builtinR (x:=w) pl.isList.typeIs slot_list_getitem.lookup
   (wpAny_getItem_list_neg (Q:=fun r s'=>r=w∧EP X pins σ Q r s') pl.isList (by omega) (by rw [List.size_toArray] <;> omega) (by omega) (by rw [hj]; simpa using ew) ⟨rfl,fin⟩) hs
theorem ix_tup:IxR X (rIxT X.K):=by
 intro value slice pins s σ H x y v u Q I rx ry h hs
 obtain ⟨p,xs,i,z,rfl,rfl,hq,he,q⟩:=h
 cases rx
 obtain ⟨t,rfl⟩:=ry
 obtain ⟨its,r,pl,hz⟩:=I.tuple hq
 obtain ⟨j,h1,h2,h3,h4,h5⟩:=atI_get he
 obtain ⟨w,ew,rw'⟩:=r.get h2
 have hl:=r.length
 have hn:=line63
 have fin:EP X pins σ Q w s:=⟨z,H,I,rw',q⟩
 exact subscriptTail_builtinR (x:=w) pl.typeIs slot_tuple_getitem.lookup
  (getItem_tuple (j:=j) (Q:=fun r s'=>r=w∧EP X pins σ Q r s') pl (by omega) (by omega) (by rw [List.size_toArray,← hl]; exact h1) (by simpa using ew) ⟨rfl,fin⟩) hs
theorem ix_str:IxR X rIxS:=by
 intro value slice pins s σ H x y v u Q I rx ry h hs
 obtain ⟨z,i,c,rfl,rfl,hz,he,q⟩:=h
 obtain ⟨t,rfl⟩:=rx
 obtain ⟨t',rfl⟩:=ry
 obtain ⟨j,h1,h2,h3,h4,h5⟩:=atI_get he
 have hl:z.cps.toList.length=z.length:=by simp [Str.length]
 rw [hl] at h1 h4 h5
 have hn:=line63
 exact tail_any (typeIs_str s z t) slot_str_getitem.lookup (getItem_str (c:=c) (by
  have e1:decide (i < -(2 ^ 63:Int))=false:=decide_eq_false (by omega)
  have e2:decide (i ≥ 2 ^ 63)=false:=decide_eq_false (by omega)
  rw [e1,e2,Bool.or_false]) (by rw [h1]; simpa using h2) ⟨.str ⟨#[c]⟩,H,I.tok _,⟨_,rfl⟩,q⟩) hs
theorem slice_bounds (lo hi:Option Int) (n:Nat):(sliceBounds lo hi none n).1=((HT.sIx n 0 lo:Nat):Int)∧(sliceBounds lo hi none n).2.1=((HT.sIx n n hi:Nat):Int)∧(sliceBounds lo hi none n).2.2=1:=by
 refine ⟨?_,?_,rfl⟩
 ·cases lo with
  | none=>simp [sliceBounds,HT.sIx]
  | some i =>
   simp only [sliceBounds,HT.sIx,Option.getD_none,show (1:Int) > 0 by decide,if_true]
   by_cases h:i < 0
   ·simp only [h,if_true] <;> omega
   ·simp only [h,if_false] <;> omega
 ·cases hi with
  | none=>simp [sliceBounds,HT.sIx]
  | some i =>
   simp only [sliceBounds,HT.sIx,Option.getD_none,show (1:Int) > 0 by decide,if_true]
   by_cases h:i < 0
   ·simp only [h,if_true] <;> omega
   ·simp only [h,if_false] <;> omega
theorem slicePick_cut (its:List Value) (lo hi:Option Int):slicePick its.toArray lo hi none=((its.drop (HT.sIx its.length 0 lo)).take (HT.sIx its.length its.length hi - HT.sIx its.length 0 lo)).toArray:=by
 obtain ⟨h1,h2,h3⟩:=slice_bounds lo hi its.toArray.size
 unfold slicePick
 rw [h1,h2,h3]
 simp only [sliceRange_one,pick_run,List.size_toArray] <;> rfl
def rSlL (K:PySem.W.Frag):V→Option Int→Option Int→Hp→VK→Prop:=fun x lo hi H Q=>∃ a xs,x=.ref a∧SqL K H a xs∧∀ p,H p=none→Q (.ref p) (upd H p (.lst (cutV xs lo hi)))
theorem sl_list:SlR X (rSlL X.K):=by
 intro pins s σ H x v vl vu lo hi sl Q I rx hs pl pu h
 obtain ⟨a,xs,rfl,hx,q⟩:=h
 cases rx
 obtain ⟨its,r,ht,hz⟩:=I.list hx
 have hlen:=r.length
 refine ⟨"list",_,slot_list_getitem.lookup,ht.isList.typeIs,?_⟩
 refine wpAny_getItem_list_slice ht.isList hs pl pu .none (by simp) ?_ (by rw [List.size_toArray] <;> omega)
 rw [slicePick_cut,← hlen]
 refine ⟨.ref s.heap.objs.size,_,I.laid (t':=s.toks) (o:=.lst (cutV xs lo hi)) (fun b ob q=>Heap.get?_push_of_some _ q) (Nat.le_refl _) ?_,rfl,q _ (I.hok.fresh (Nat.le_refl _))⟩
 exact ⟨Nat.le_trans (cutV_length xs lo hi) hz,_,0,(r.drop (HT.sIx xs.length 0 lo)).take (HT.sIx xs.length xs.length hi - HT.sIx xs.length 0 lo),Heap.get?_push_size _ rfl⟩
theorem call_len_seq:CallR X (.builtin "len") (fun xs H Q=>∃ p ys,xs=[.ref p]∧(SqL X.K H p ys∨SqT X.K H p ys)∧Q (.int ys.length) H):=by
 intro pins s σ H xs us Q I r h
 obtain ⟨p,ys,rfl,hq,q⟩:=h
 obtain ⟨u,rfl,rx⟩:=vals1 r
 cases rx
 have hn:=line63
 rcases hq with hq | hq
 ·obtain ⟨its,r',pl,hz⟩:=I.list hq
  have hlen:=r'.length
  exact Calls.call_len_list pl.isList (by simp only [List.size_toArray] <;> omega) ⟨.int ys.length,H,I.tok _,⟨s.toks + 1,by rw [List.size_toArray,hlen]⟩,q⟩
 ·obtain ⟨its,r',pl,hz⟩:=I.tuple hq
  have hlen:=r'.length
  exact len_tuple pl (by simp only [List.size_toArray] <;> omega) ⟨.int ys.length,H,I.tok _,⟨s.toks + 1,by rw [List.size_toArray,hlen]⟩,q⟩
theorem call_len_str:CallR X (.builtin "len") (fun xs H Q=>∃ z,xs=[.str z]∧z.length≤sizeLine∧Q (.int z.length) H):=by
 intro pins s σ H xs us Q I r h
 obtain ⟨z,rfl,hz,q⟩:=h
 obtain ⟨u,rfl,t,rfl⟩:=vals1 r
 have hn:=line63
 exact len_str (by omega) ⟨.int z.length,H,I.tok _,⟨_,rfl⟩,q⟩
def tyV (K:PySem.W.Frag) (T:String) (x:V) (H:Hp):Prop:=match x with
 | .str _=>T="str"
 | .int _=>T="int"
 | .ref p=>(T="list"∧∃ xs,SqL K H p xs)∨(T="tuple"∧∃ o,K.lookup p=some o∧o.cls=.type "tuple"∧o.dict=none) ∨
   (T="dict"∧((∃ kvs,H p=some (.dK kvs))∨∃ kvs,H p=some (.dT kvs)))∨(T="set"∧∃ S n,H p=some (.set S n))
 | _=>False
theorem tyV_is {pins:List (Addr×Obj)} {σ:St} {H:Hp} {s:Shared} {T:String} {x:V} {v:Value} (I:Inv X pins σ H s) (r:RelV x v) (ty:tyV X.K T x H) :
  s.TypeIs v T∧∀ a,v=.ref a→∃ ob,s.heap.get? a=some ob∧ob.dict=none:=by
 cases x with
 | str z =>
  obtain ⟨t,rfl⟩:=r
  cases (show T="str" from ty)
  exact ⟨typeIs_str s z t,fun _ e=>nomatch e⟩
 | int i =>
  obtain ⟨t,rfl⟩:=r
  cases (show T="int" from ty)
  exact ⟨typeIs_int s i t,fun _ e=>nomatch e⟩
 | ref p =>
  cases r
  rcases ty with ⟨rfl,xs,hq⟩ | ⟨rfl,o,hk,hc,hd⟩ | ⟨rfl,hk⟩ | ⟨rfl,S,n,hk⟩
  ·obtain ⟨its,_,pl,_⟩:=I.list hq
   refine ⟨pl.isList.typeIs,fun a e=>?_⟩
   cases e
   obtain ⟨o,n,e,c,hd,_⟩:=pl
   exact ⟨o,e,hd⟩
  ·refine ⟨⟨o,I.kIn p o hk,hc⟩,fun a e=>?_⟩
   cases e
   exact ⟨o,I.kIn _ o hk,hd⟩
  ·have z:∃ o,s.heap.get? p=some o∧o.ExactDict:=by
    rcases hk with ⟨kvs,hk⟩ | ⟨kvs,hk⟩
    ·obtain ⟨_,_,_,_,o,_,_,e,ex,_⟩:=I.hok p _ hk
     exact ⟨o,e,ex⟩
    ·obtain ⟨_,_,_,_,o,_,_,e,ex,_⟩:=I.hok p _ hk
     exact ⟨o,e,ex⟩
   obtain ⟨o,e,ex⟩:=z
   refine ⟨⟨o,e,ex.1⟩,fun a e2=>?_⟩
   cases e2
   exact ⟨o,e,ex.2.1⟩
  ·obtain ⟨o,_,_,_,e,ex,_⟩:=I.hok p _ hk
   refine ⟨⟨o,e,ex.1⟩,fun a e2=>?_⟩
   cases e2
   exact ⟨o,e,ex.2.1⟩
 | _=>exact False.elim ty
def tBM0 (K:PySem.W.Frag) (T:String) (r:V→List V→Hp→VK→Prop) (to:TE):TE:=fun σ H Q=>to σ H fun x H1=>tyV K T x H1∧r x [] H1 Q
def tBM (K:PySem.W.Frag) (T:String) (r:V→List V→Hp→VK→Prop) (to:TE) (t:TA):TE:=fun σ H Q=>to σ H fun x H1=>tyV K T x H1∧t σ H1 fun xs H2=>r x xs H2 Q
variable {o e:Expr} {es:List Expr} {to:TE} {t:TA} {name:Str} {apos cpos:Pos} {T id:String} {r:V→List V→Hp→VK→Prop}
theorem pe_bm0 (pa:PlainAttrs T) (slot:Slot T name id) (hty:typeOf (.builtin id)=pure (.type "method_descriptor")) (hm:MtR X id r) (ho:PE X o to)
  (hbase:attributeBase o name X.env (eval o X.env)=eval o X.env:=by rfl) (hline:(apos.endLine == cpos.line)=true:=by rfl):PE X (.Call (.Attribute o name apos) [] [] cpos) (tBM0 X.K T r to):=by
 intro pins s σ H Q I h
 refine wpAny_Call_method0_late hbase hline (thn (ho pins s σ H _ I h) fun v s1 ⟨x,H1,I1,r1,ty,q1⟩=>?_)
 obtain ⟨h1,h2⟩:=tyV_is I1 r1 ty
 exact ⟨T,id,pa,slot,hty,h1,h2,Calls.callWith_builtin rfl (PySem.evalArgs_none (hm pins s1 σ H1 x [] v [] Q I1 r1 .nil q1))⟩
theorem pe_bm (pa:PlainAttrs T) (slot:Slot T name id) (hty:typeOf (.builtin id)=pure (.type "method_descriptor")) (hm:MtR X id r) (ho:PE X o to) (ha:PA X (e :: es) t)
  (hbase:attributeBase o name X.env (eval o X.env)=eval o X.env:=by rfl)
  (hfew:((backTo cpos (starEach (e :: es) X.env)).all (fun x=>!x.1) && (backToKw cpos (keywordEach [] X.env)).all (fun x=>x.1.isSome)
   && decide ((e :: es).length + ([]:List Keyword).length + (if ([]:List Keyword).isEmpty then 0 else 1) < 30))=true:=by rfl)
  (hline:(apos.endLine == cpos.line)=true:=by rfl) (hs:starEach (e :: es) X.env=(false,eval e X.env) :: starEach es X.env:=by rfl) (hplain:(backTo cpos (starEach es X.env)).any (·.1)=false:=by rfl) :
  PE X (.Call (.Attribute o name apos) (e :: es) [] cpos) (tBM X.K T r to t):=by
 intro pins s σ H Q I h
 refine wpAny_Call_method_late hbase hfew hline rfl (thn (ho pins s σ H _ I h) fun v s1 ⟨x,H1,I1,r1,ty,q1⟩=>?_)
 obtain ⟨h1,h2⟩:=tyV_is I1 r1 ty
 refine ⟨T,id,pa,slot,hty,h1,h2,?_⟩
 have hA:=ha cpos pins s1 σ H1 _ I1 q1
 rw [hs] at hA ⊢
 refine Calls.callWith_builtin (by show (false || (backTo cpos (starEach es X.env)).any (·.1))=false; rw [hplain] <;> rfl) (Calls.evalArgs_plain ?_)
 exact thn hA fun us s2 ⟨vs,H2,I2,r2,q2⟩=>hm pins s2 σ H2 x vs v us Q I2 r1 r2 q2
/- xs.append(e),list.index on a module's tuple .. are MtR facts of 06m -/
end
def MtM (X:Cx) (id:String) (r:V→List V→Hp→VK→Prop):Prop :=
 ∀ (pins:List (Addr×Obj)) (s:Shared) (σ:St) (H:Hp) (x:V) (xs:List V) (v:Value) (us:List Value) (Q:VK),Inv X pins σ H s→RelV x v→Vals xs us→r x xs H Q →
  wpAny (model X.prog X.w) X.A (call (.builtin id) (v :: us)) (EP X pins σ Q) X.xe s
theorem Vals.one:∀ {x:V} {us:List Value},Vals [x] us→∃ u,us=[u]∧RelV x u
 | _,_,.cons r .nil=>⟨_,rfl,r⟩
theorem Vals.zero:∀ {us:List Value},Vals [] us→us=[]
 | _,.nil=>rfl
theorem Vals.dropLast {xs:List V} {us:List Value} (h:Vals xs us):Vals xs.dropLast us.dropLast:=by
 induction h with
 | nil=>exact .nil
 | cons r t ih =>
  cases t with
  | nil=>exact .nil
  | cons q t'=>exact .cons r ih
theorem erase_last {α:Type} (l:List α):l.eraseIdx (l.length - 1)=l.dropLast:=by
 induction l with
 | nil=>rfl
 | cons a r ih =>
  cases r with
  | nil=>rfl
  | cons b r =>
   have e:(a :: b :: r).length - 1=((b :: r).length - 1) + 1:=by
    have h1:(a :: b :: r).length=r.length + 2:=rfl
    have h2:(b :: r).length=r.length + 1:=rfl
    omega
   rw [e,List.eraseIdx_cons_succ,ih]
   all_goals rfl
section
variable {X:Cx} {pins:List (Addr×Obj)} {σ:St} {H:Hp} {s:Shared} {l b:Addr} {xs ys zs:List V}
theorem Inv.lset {its its':List Value} {n:Nat} {f:Array Value→Array Value} {t':Nat} (I:Inv X pins σ H s) (hH:H l=some (.lst xs))
  (e:s.heap.get? l=some { cls:=.type "list",data:=.seq its.toArray n }) (hf:f its.toArray=its'.toArray) (hv:Vals ys its') (hz:ys.length≤sizeLine) :
  Inv X pins σ (upd H l (.lst ys)) { s with heap:=s.heap.update l (Obj.mapSeq f),toks:=t' }:=by
 have q:=PySem.IsL.update e f
 rw [hf] at q
 refine I.write (x:=l) (e:=l) (by rw [hH]; exact trivial) (.inl rfl) (fun b' u hb hu=>(Heap.get?_update_other s.heap (Obj.mapSeq f) (Ne.symm hb)).trans hu) ⟨_,q⟩ ?_
 exact ⟨hz,its',_,hv,q⟩
theorem Inv.lnew {its:List Value} {t':Nat} (I:Inv X pins σ H s) (hv:Vals ys its) (hz:ys.length≤sizeLine) :
  Inv X pins σ (upd H s.heap.objs.size (.lst ys)) { s with heap:=s.heap.push { cls:=.type "list",data:=.seq its.toArray },toks:=t' } :=
 I.laid (fun _ _ q=>Heap.get?_push_of_some _ q) (Nat.le_refl _) ⟨hz,its,0,hv,Heap.get?_push_size _ rfl⟩
theorem Inv.fresh (I:Inv X pins σ H s):H s.heap.objs.size=none:=I.hok.fresh (Nat.le_refl _)
theorem Inv.lstM (I:Inv X pins σ H s) (hH:H l=some (.lst xs)):xs.length≤sizeLine∧∃ (its:List Value) (n:Nat),Vals xs its∧xs.length=its.length∧s.heap.get? l=some { cls:=.type "list",data:=.seq its.toArray n }:=by
 obtain ⟨z,its,n,r,e⟩:=I.hok l _ hH
 exact ⟨z,its,n,r,r.length,e⟩
end
section
variable {X:Cx}
def rAppend:V→List V→Hp→VK→Prop:=fun x vs H Q=>∃ l xs y,x=.ref l∧vs=[y]∧H l=some (.lst xs)∧xs.length < sizeLine∧Q .non (upd H l (.lst (xs ++ [y])))
theorem mt_append:MtM X "list.append" rAppend:=by
 intro pins s σ H x vs v us Q I rx rv h
 obtain ⟨l,xs,y,rfl,rfl,hH,hz,q⟩:=h
 cases rx
 obtain ⟨u,rfl,ru⟩:=rv.one
 obtain ⟨z,its,n,r,hl,e⟩:=I.lstM hH
 refine call_meets F.slot_list_append ⟨_,e,rfl⟩ F.entry_list_append (F.args_list_append_2 _ _) (PySem.list_append l its.toArray n u (by rw [List.size_toArray]; omega)) ⟨e,?_⟩
 refine ⟨.non,_,I.lset (its':=its ++ [u]) hH e (by simp) (r.append (.cons ru .nil)) ?_,rfl,q⟩
 rw [List.length_append,List.length_singleton]
 omega
def rPop:V→List V→Hp→VK→Prop:=fun x vs H Q=>∃ l xs y,x=.ref l∧vs=[]∧H l=some (.lst xs)∧xs[xs.length - 1]?=some y∧Q y (upd H l (.lst xs.dropLast))
theorem mt_pop:MtM X "list.pop" rPop:=by
 intro pins s σ H x vs v us Q I rx rv h
 obtain ⟨l,xs,y,rfl,rfl,hH,hy,q⟩:=h
 cases rx
 have hus:=rv.zero
 subst hus
 obtain ⟨z,its,n,r,hl,e⟩:=I.lstM hH
 obtain ⟨u,hu,ru⟩:=r.get hy
 have hy':its.toArray[its.toArray.size - 1]?=some u:=by
  show its.toArray[its.length - 1]?=some u
  rw [← Array.getElem?_toList,← hl]
  exact hu
 refine call_meets F.slot_list_pop ⟨_,e,rfl⟩ F.entry_list_pop (F.args_list_pop_1 _) (MeetsSeq.list_pop_last l its.toArray n u hy' (by rw [List.size_toArray]; omega)) ⟨e,?_⟩
 refine ⟨y,_,I.lset (its':=its.dropLast) hH e ?_ r.dropLast ?_,ru,q⟩
 ·show its.toArray.eraseIdxIfInBounds (its.toArray.size - 1)=its.dropLast.toArray
  rw [List.size_toArray,List.eraseIdxIfInBounds_toArray,erase_last]
 ·rw [List.length_dropLast]
  omega
def rCat:R2:=fun x y H Q=>∃ l b xs zs,x=.ref l∧y=.ref b∧H l=some (.lst xs)∧H b=some (.lst zs)∧xs.length + zs.length≤sizeLine∧∀ p,H p=none→Q (.ref p) (upd H p (.lst (xs ++ zs)))
theorem op_cat:OpR X (binaryOp .Add) rCat:=by
 intro pins s σ H x y v u Q I rx ry h
 obtain ⟨l,b,xs,zs,rfl,rfl,hH,hB,hz,q⟩:=h
 cases rx
 cases ry
 obtain ⟨z,its,n,r,hl,e⟩:=I.lstM hH
 obtain ⟨z2,its2,n2,r2,hl2,e2⟩:=I.lstM hB
 refine PySem.P.add_list e e2 ?_ (by rw [List.size_toArray,List.size_toArray]; omega)
 have ea:its.toArray ++ its2.toArray=(its ++ its2).toArray:=by simp
 rw [ea]
 exact ⟨.ref _,_,I.lnew (t':=s.toks) (r.append r2) (by rw [List.length_append]; omega),rfl,q _ I.fresh⟩
end
section
variable {prog:Program} {w:World} {A:Around} {E:Value→Shared→Prop} {s:Shared}
end
section
variable {X:Cx}
end
end L2
namespace Att
open PySem PySem.W PySem.Calls PyProof.Rows
theorem ints_of_wellAll {P:Params} {h:Heap}:∀ (ns:List Int) (vs:List Value),WellAll P h vs (ns.map WData.int)→IntsAre vs ns:=by
 intro ns
 induction ns with
 | nil =>
  intro vs w
  rw [List.map_nil] at w
  cases w
  exact .nil
 | cons n ns ih =>
  intro vs w
  rw [List.map_cons] at w
  cases w with
  | cons a b =>
   cases a
   exact .cons _ _ (ih _ b)
theorem script_of {l:OpenLaw} {n:Nat} (hn:l.most=some n) {P:Params} {h:Heap} {args:List WData} {vals:List Value}
  (hpre:l.row.toRowW.claim.pre args=true) (hwl:WellAll P h vals args) :
  ∃ a vs ns,vals=[Value.ref a]∧args=[WData.list (ns.map WData.int)]∧h.get? a=some { cls:=.type "list",data:=.seq vs.toArray }∧IntsAre vs ns∧ns.length≤n:=by
 have hsh:WShape.hasAll [] args [.list .int]=true:=(pre_splitW hpre).1
 have hc:l.pre.holds [] { args:=args }=true:=(pre_splitW hpre).2
 obtain ⟨d,r,rfl,h1,h2⟩:=hasAllW_cons hsh
 obtain rfl:=hasAllW_nil h2
 obtain ⟨xs,rfl,h3⟩:=hasW_list h1
 obtain ⟨ns,rfl⟩:=items_int h3
 have hlen:ns.length≤n:=by
  unfold OpenLaw.pre at hc
  have h4:(WTm.not (.lt (.lit (.int (n:Int))) (.len (.arg 0)))).holds [] { args:=[.list (ns.map .int)] }=true:=by
   have h4:=(holds_andW hc).1
   rw [hn] at h4
   exact h4
  have h5:=condW_of h4 (w_not (w_lt w_lit (w_len_list (w_arg rfl))))
  rw [List.length_map] at h5
  refine Nat.le_of_not_lt fun q=>?_
  have q':(n:Int) < ((ns.length:Nat):Int):=by omega
  first
   | (rw [decide_eq_true q'] at h5; exact absurd h5 (by decide))
   | (simp at h5; omega)
 cases hwl with
 | cons w1 w2 =>
  cases w2
  cases w1 with
  | list ho hall=>exact ⟨_,_,ns,rfl,rfl,ho,ints_of_wellAll ns _ hall,hlen⟩
theorem post_true (l:OpenLaw) (args:List WData):l.row.toRowW.claim.post args (.bool true) args=true :=
 postW_of (r:=l.row.toRowW) (X:=(true == true))
  (show WShape.has [] (.bool true) .bool=true by first | rfl | decide | simp [WShape.has,WShape.arms,WShape.armsAll])
  (show (WTm.eq .res (.lit (.bool true))).value [] { args:=args,res:=some (.bool true),after:=args }=some (.bool (true == true)) from w_eq_bool (w_res rfl) w_lit) rfl
theorem attach_call {l:OpenLaw} {n:Nat} {q:Program} {loose:List Str} {XP:(Str→Option Value)→Heap→Prop} {YP:World→Heap→Prop} {d:DefRec}
  (hn:l.most=some n) (hdf:d.params.defaults=[])
  (call:∀ (w:World) (s₀ s₁:Shared) (mg mb:Str→Option Value) (fa:Addr) (o:Obj) (pm cd doc:Value) (a:Addr) (vs:List Value) (ns:List Int),
   Ground q loose [] XP w s₀ mg mb s₁.heap→YP w s₁.heap →
   s₁.heap.get? fa=some o→o.data=.func (docDef d.name d.params d.body d.scope pm cd doc)→s₁.heap.CodeRec cd d.name→mg d.name=some (.ref fa) →
   s₁.heap.get? a=some { cls:=.type "list",data:=.seq vs.toArray }→IntsAre vs ns→ns.length≤n→s₁.gens=#[] →
   codeAny (model l.prog w) callerA (.call (.ref fa) ⟨[.ref a],[]⟩) (fun r s'=>r=.ok (.ret (.bool true))∧OldK s₁.heap s'.heap∧s'.os=s₁.os∧AllBare s'.gens) s₁) :
  WalkO q loose XP YP l.row.toRowW d [] (fun f vs=>PySem.call f vs):=by
 intro w s₀ s₁ mg mb G Y fa o pm cd doc dV kV ho hd hcd hD hmg hg args vals as hpre hlay hrd hwl hlo
 obtain rfl:dV=.none:=Dflts.none hD hdf
 obtain rfl:kV=.none:=Dflts.noKw hD
 obtain ⟨a,vs,ns,rfl,rfl,hobj,hints,hlen⟩:=script_of hn hpre hwl
 refine enter_call (codeAny_mono (call w s₀ s₁ mg mb fa o pm cd doc a vs ns G Y ho (fd_plain hd) hcd hmg hobj hints hlen hg) fun r s' hq=>?_)
 obtain ⟨rfl,h2,h3,h4⟩:=hq
 exact ⟨.inl ⟨.bool true,.bool true,[],rfl,fun _=>rfl,.bool true,post_true l _,fun _=>⟨List.Pairwise.nil,fun _ hm=>(nomatch hm)⟩⟩,h2,h3,h4⟩
section
variable {prog:Program} {w:World} {A:Around} {E:Value→Shared→Prop} {s:Shared} {K:Frag}
end
end Att
namespace L2
open PySem PySem.Spec PyProof.Rows
theorem vals_ints:∀ {vs:List Value} {ns:List Int},IntsAre vs ns→Vals (ns.map V.int) vs
 | _,_,.nil=>.nil
 | _,_,.cons n t h=>.cons ⟨t,rfl⟩ (vals_ints h)
def Only (H:Hp):Prop:=∀ b,H b=none∨∃ o xs,H b=some (.frz o (.lst xs))
theorem law_call {P:Program} {w:World} {K:PySem.W.Frag} {mg mb:Str→Option Value} {CX:CXT} {k:Nat} {fa a:Addr} {fd:FuncData} {x:Str} {sp:Sp} {s₁:Shared} {vs:List Value} {ns:List Int}
  (KX:K.In s₁.heap) (hns:s₁.heap.Ns mainGlobals mg) (hb:s₁.heap.Ns builtinsNs mb) (hbb:∀ x:Str,x≠"__name__"→mb x=bootBuiltins x) (hlim:s₁.heap.NoLimit) (hg:s₁.gens=#[])
  (ha:s₁.heap.get? a=some { cls:=.type "list",data:=.seq vs.toArray }) (hi:IntsAre vs ns) (hl:ns.length≤sizeLine) (hr:Room k callerA)
  (F:∀ base:Heap,K.In base→base.Ns mainGlobals mg→FnOk P w K mg base CX k fa fd [x] sp) (hbind:∀ (s:Shared) (u:Value),BindsTo s fd ⟨[u],[]⟩ [(x,u)])
  (hsp:∀ H:Hp,Only H→SqL K H a (ns.map V.int)→sp [.ref a] H (fun v _=>v=.bl true) fun _ _ _=>False)
  (hCX:∀ H e s',CX [] H s₁ (fun _ _ _=>False) e s'→False) :
  codeAny (model P w) callerA (.call (.ref fa) ⟨[.ref a],[]⟩) (fun r s'=>r=.ok (.ret (.bool true))∧OldK s₁.heap s'.heap∧s'.os=s₁.os∧AllBare s'.gens) s₁:=by
 have rv:=vals_ints hi
 have lenV:=hi.length
 have core:∀ H:Hp,Only H→SqL K H a (ns.map V.int)→HOk P w H s₁.heap→(∀ b,H b≠none→b=a)→(H a≠none→K.lookup a=none) →
   codeAny (model P w) callerA (.call (.ref fa) ⟨[.ref a],[]⟩) (fun r s'=>r=.ok (.ret (.bool true))∧OldK s₁.heap s'.heap∧s'.os=s₁.os∧AllBare s'.gens) s₁:=by
  intro H hO hS hok hA hK
  have base_of:∀ {b:Addr} {o:Obj},s₁.heap.get? b=some o→H b=none→(hidT s₁.heap H).get? b=some o:=fun e n=>hidT_get e n
  have noA:∀ {b:Addr} {o:Obj} {es:Array DictEntry} {ep:Nat},s₁.heap.get? b=some o→o.data=.dict es ep→H b=none:=fun {b o es ep} e d=>by
   cases q:H b with
   | none=>rfl
   | some u =>
    have e':b=a:=hA b (by rw [q]; simp)
    subst e'
    rw [ha] at e; cases e
    have d':Data.seq vs.toArray _=Data.dict es ep:=d
    cases d'
  have nsK:∀ {b:Addr} {m:Str→Option Value},s₁.heap.Ns b m→(hidT s₁.heap H).Ns b m:=fun {b m} ⟨o,es,ep,e,d,r⟩=>⟨o,es,ep,base_of e (noA e d),d,r⟩
  have hKb:K.In (hidT s₁.heap H):=fun b o e=>base_of (KX b o e) (by
   cases q:H b with
   | none=>rfl
   | some u =>
    have e':b=a:=hA b (by rw [q]; simp)
    subst e'
    rw [hK (by rw [q]; simp)] at e; cases e)
  have hM:Mod K mg (hidT s₁.heap H):=⟨hKb,nsK hns,⟨mb,nsK hb,hbb⟩,let ⟨mc,h1,h2⟩:=hlim; ⟨mc,nsK h1,h2⟩⟩
  have e0:Env0 P w K mg (hidT s₁.heap H) callerA [] s₁ H:=⟨rfl,hM,fun b o e=>of_hidT e,Nat.le_of_eq (hidT_size _ _),trivial,fun b hb=>absurd (show b∈([]:List Addr) from hb) (by simp),hok,.of_eq hg⟩
  refine codeAny_mono ((F _ hKb (nsK hns)).run callerA [] s₁ H ⟨[.ref a],[]⟩ [.ref a] [.ref a] _ _ hr e0 (hbind s₁ (.ref a)) (.cons rfl .nil) (hsp H hO hS)) fun r s' h=>?_
  cases r with
  | error e=>exact (hCX H e s' h).elim
  | ok fl =>
   cases fl with
   | next=>exact False.elim h
   | brk=>exact False.elim h
   | cont=>exact False.elim h
   | ret u =>
    obtain ⟨v,H',os,bare,un,hok',r',q⟩:=h
    have q':v=.bl true:=q
    subst q'
    obtain rfl:u=Value.bool true:=r'
    refine ⟨rfl,OldK.of_keep fun b o e=>?_,os,bare⟩
    cases q:H b with
    | none=>exact un.keep b o e q (by intro z; exact absurd (show b∈([]:List Addr) from z) (by simp)) (by simp)
    | some u =>
     rcases hO b with z | ⟨ob,xs,z⟩
     ·rw [q] at z; cases z
     ·have z2:=un.frzs b ob _ z
      obtain ⟨e1,_⟩:=hok b _ z
      obtain ⟨e2,_⟩:=hok' b _ z2
      rw [e] at e1; cases e1
      exact e2
 cases hk:K.lookup a with
 | some o =>
  have e:=KX a o hk
  rw [ha] at e
  cases e
  refine core (fun _=>none) (fun _=>.inl rfl) (.inr ⟨_,vs.toArray,_,hk,rfl,rfl,rfl,by rw [List.size_toArray,lenV]; exact hl,by simpa using rv⟩) (fun b u z=>by have z':(none:Option HO)=some u:=z; cases z') (fun b z=>absurd rfl z) fun z=>absurd rfl z
 | none =>
  refine core (fun b=>if b=a then some (.frz { cls:=.type "list",data:=.seq vs.toArray } (.lst (ns.map V.int))) else none) (fun b=>?_) (.inl (.inr ⟨{ cls:=.type "list",data:=.seq vs.toArray },if_pos rfl⟩)) (fun b u z=>?_) (fun b z=>?_) fun _=>hk
  ·by_cases hb:b=a
   ·exact .inr ⟨_,_,if_pos hb⟩
   ·exact .inl (if_neg hb)
  ·by_cases hb:b=a
   ·have z':=(if_pos hb).symm.trans z
    cases z'
    subst hb
    exact ⟨ha,by rw [List.length_map]; exact hl,vs,_,rv,ha⟩
   ·have z':=(if_neg hb).symm.trans z
    cases z'
  ·by_cases hb:b=a
   ·exact hb
   ·exact absurd (if_neg hb) z
theorem walk_of {l:PySem.W.OpenLaw} {n k:Nat} {q:Program} {loose:List Str} {XP:(Str→Option Value)→Heap→Prop} {YP:World→Heap→Prop} {d:DefRec} {K:Params→PySem.W.Frag} {CX:World→CXT} {sp:World→Sp} {x:Str}
  (hn:l.most=some n) (hn2:n≤sizeLine) (hdf:d.params.defaults=[]) (hr:Room k callerA)
  (hY:∀ (w:World) (h:Heap),YP w h→(K w.params).In h)
  (F:∀ (w:World) (mg:Str→Option Value) (fa:Addr) (h:Heap),(K w.params).In h→h.Ns mainGlobals mg→mg d.name=some (.ref fa) →
   ∃ fd:FuncData,(∀ (s:Shared) (u:Value),BindsTo s fd ⟨[u],[]⟩ [(x,u)]) ∧
    ∀ base:Heap,(K w.params).In base→base.Ns mainGlobals mg→FnOk l.prog w (K w.params) mg base (CX w) k fa fd [x] (sp w))
  (hsp:∀ (w:World) (H:Hp) (a:Addr) (ns:List Int),ns.length≤n→Only H→SqL (K w.params) H a (ns.map V.int)→sp w [.ref a] H (fun v _=>v=.bl true) fun _ _ _=>False)
  (hCX:∀ (w:World) (H:Hp) (s:Shared) (e:Value) (s':Shared),CX w [] H s (fun _ _ _=>False) e s'→False) :
  PySem.W.WalkO q loose XP YP l.row.toRowW d [] (fun f vs=>PySem.call f vs):=by
 refine Att.attach_call hn hdf fun w s₀ s₁ mg mb fa o pm cd doc a vs ns G Y ho hd hcd hmg hobj hints hlen hg=>?_
 have KX:=hY w _ Y
 obtain ⟨fd,hb,hF⟩:=F w mg fa _ KX G.T.g hmg
 exact law_call KX G.T.g G.T.b G.T.builtins G.T.nolimit hg hobj hints (Nat.le_trans hlen hn2) hr hF hb (fun H hO hS=>hsp w H a ns hlen hO hS) fun H e s'=>hCX w H s₁ e s'
end L2
/- THE LAST THEOREM (shape; LID,My.* are yours):
   My.Adr: a structure of the addresses that your layer names (classes,functions); My.Txt K t: a structure (Prop) of the equations over K;
   My.txt_mk:{K} {implicit addresses ..} (e1:nsIn K mainGlobals "law"=some (some (.ref f))) (e2:K.lookup f=some ⟨oc,od,.func (fnOf "law" "law" params body scope dV kV doc pm an cdv ct),sl⟩) (e3:codeIn K cdv "law"=true) ..:∃ t,My.Txt K t
set_option maxRecDepth 100000 in
set_option maxHeartbeats 0 in
theorem PySem.Challenge.cw_LID_holds : PySem.Challenge.rw_LID.Holds := by
 w_on; o_law; k_head; (case hw=>w_witness2)
 k_fill
 refine L2.walk_of (l:=PySem.Challenge.rw_LID) (n:=63) (k:=40) (x:="script") (CX:=fun w=>..) (sp:=fun _=>My.sp_law) rfl (by decide) rfl ⟨rfl,by decide,by decide⟩ (fun w h Y=>PySem.W.kIn_of Y) ?F ?S ?C
 case F =>
  intro w mg fa h KX G hmg
  have T:∃ t,My.Txt (L2.KOf KX) t:=by
   dsimp only [L2.KOf]                          -- K must stand as «<heap const> w.params» for k_is
   refine' My.txt_mk ?e1 ?e2 ?e3 ..
   (case e1=>PySem.W.k_is)                    -- in the order: a name -> its address -> its object -> its parts
   (case e2=>PySem.W.k_is)
   ..
  obtain ⟨t,T⟩:=T
  have e0:=hmg.symm.trans (PySem.W.mg_of KX G T.law)
  cases e0                                       -- fa is the law's own address
  exact ⟨_,fun s u=>.of_eq rfl,fun base kb nb=>My.law_fn T kb nb⟩     -- if «.of_eq rfl» comes too early: refine' ⟨_,?b,fun base kb nb=>My.law_fn T kb nb⟩; exact fun s u=>.of_eq rfl
 case S=>exact fun w H a ns hl hO hS=>..
 case C=>exact ..
(the tactic k_is has no namespace: write k_is) -/
namespace L2
open PySem PySem.Spec PyProof.Rows
def defArgs (s:Stmt):Arguments:=match s with
 | .FunctionDef _ a _ _ _ _ _ _ _ _=>a
 | _=>{ posonlyargs:=[],args:=[],vararg:=none,kwonlyargs:=[],kw_defaults:=[],kwarg:=none,defaults:=[] }
def defBody (s:Stmt):List Stmt:=match s with
 | .FunctionDef _ _ b _ _ _ _ _ _ _=>b
 | _=>[]
def defScope (s:Stmt):Scope:=match s with
 | .FunctionDef _ _ _ _ _ _ sc _ _ _=>sc
 | _=>{ kind:=.function,names:=[],isGenerator:=false,isCoroutine:=false }
abbrev CX0:CXT:=fun _ _ _ _ _ _=>False
abbrev E0:XK:=fun _ _ _=>False
theorem pass0 {X:Cx}:Passes CX0 X E0:=fun _ _ _ _ _ _ _ h=>h.elim
structure Fun (K:PySem.W.Frag) (x qual:Str) (st:Stmt) (f:Addr) (fd:FuncData):Prop where
 ex:∃ (oc:Value) (od:Option Addr) (kV doc pm:Value) (an:Option Addr) (cdv ct:Value) (osl:Array (Option Value)),
  fd=PySem.W.fnOf x qual (defArgs st) (defBody st) (defScope st) .none kV doc pm an cdv ct∧K.lookup f=some ⟨oc,od,.func fd,osl⟩∧PySem.W.codeIn K cdv qual=true
 kp:PySem.W.keepIn K (.ref f)=true
section
variable {P:Program} {w:World} {K:PySem.W.Frag} {mg:Str→Option Value} {base:Heap}
theorem Fun.ok {x qual:Str} {st:Stmt} {f:Addr} {fd:FuncData} {N ps:List Str} {k:Nat} {sp:Sp} (F:Fun K x qual st f fd) (S:FnScope N ps (defScope st)) (len:∀ vs H Q E,sp vs H Q E→vs.length=ps.length)
  (hbody:∀ (cdv:Value) (A:Around) (outer:List Env) (s:Shared) (H:Hp) (vs:List V) (Q:VK) (E:XK),Room k (A.deeper (envOfC qual (defScope st) s.heap.objs.size f cdv))→sp vs H Q E →
   ∃ t,PSs (cxOf CX0 P w K mg base N qual (defScope st) f cdv A outer s H E).nox (defBody st) t∧t { nx:=fun _ H'=>Q .non H',rt:=Q } (start N vs) H):FnOk P w K mg base CX0 (k + 1) f fd ps sp:=by
 obtain ⟨oc,od,kV,doc,pm,an,cdv,ct,osl,rfl,lk,hcd⟩:=F.ex
 refine fn_of lk hcd S len fun A outer s H vs Q E hr hsp=>?_
 obtain ⟨t,h,q⟩:=hbody cdv A outer s H vs Q E hr hsp
 exact ⟨t,h.nox,q⟩
theorem Fun.binds {x qual:Str} {st:Stmt} {f:Addr} {fd:FuncData} {ps:List Str} (F:Fun K x qual st f fd)
  (h:∀ (kV doc pm:Value) (an:Option Addr) (cdv ct:Value) (us:List Value),us.length=ps.length→bindArgs (PySem.W.fnOf x qual (defArgs st) (defBody st) (defScope st) .none kV doc pm an cdv ct) ⟨us,[]⟩=pure (ps.zip us)):Binds K fd ps []:=by
 obtain ⟨oc,od,kV,doc,pm,an,cdv,ct,osl,rfl,lk,hcd⟩:=F.ex
 exact .all (h kV doc pm an cdv ct)
theorem fun_mk {x qual:Str} {st:Stmt} {f:Addr} {oc:Value} {od an:Option Addr} {osl:Array (Option Value)} {kV doc pm cdv ct:Value} (l:K.lookup f=some ⟨oc,od,.func (PySem.W.fnOf x qual (defArgs st) (defBody st) (defScope st) .none kV doc pm an cdv ct),osl⟩)
  (c:PySem.W.codeIn K cdv qual=true) (k:PySem.W.keepIn K (.ref f)=true):Fun K x qual st f (PySem.W.fnOf x qual (defArgs st) (defBody st) (defScope st) .none kV doc pm an cdv ct):=⟨⟨oc,od,kV,doc,pm,an,cdv,ct,osl,rfl,l,c⟩,k⟩
end
theorem small1000 {n:Nat} (h:n≤1000):n < sizeLine:=Nat.lt_of_le_of_lt h (by decide)
section
variable {X:Cx}
theorem pv (i:Nat) {x:Str} {pos:Pos} (hN:X.N[i]?=some x:=by rfl) (hv:Vis X.env.scope x:=by first | exact Or.inl rfl | exact Or.inr (Or.inl rfl) | exact Or.inr (Or.inr rfl)) (hd:(x == ("__debug__":Str))=false:=by decide)
  (hcd:(x == ("__classdict__":Str))=false:=by decide):PE X (.Name x pos) (tVar i):=pe_var hN hv hd hcd
end
theorem iteF {A B:Prop} (h:B):if false=true then A else B:=by
 rw [if_neg Bool.false_ne_true]
 exact h
theorem iteT {A B:Prop} (h:A):if true=true then A else B:=by
 rw [if_pos rfl]
 exact h
def Same (H H':Hp):Prop:=∀ b o,H b=some o→H' b=some o
theorem Same.refl (H:Hp):Same H H:=fun _ _ h=>h
theorem Same.trans {H H1 H2:Hp} (a:Same H H1) (b:Same H1 H2):Same H H2:=fun c o h=>b c o (a c o h)
theorem Same.seq {K:PySem.W.Frag} {H H':Hp} {a:Addr} {xs:List V} (e:Same H H') (h:SqL K H a xs):SqL K H' a xs:=by
 rcases h with (h | ⟨o,h⟩) | h
 ·exact .inl (.inl (e _ _ h))
 ·exact .inl (.inr ⟨o,e _ _ h⟩)
 ·exact .inr h
section
variable {κ:Type} [DecidableEq κ]
def valV (kvs:List (κ×V)) (k:κ):Option V:=(kvs.find? fun kv=>decide (kv.1=k)).map (·.2)
def putK (kvs:List (κ×V)) (k:κ) (v:V):List (κ×V) :=
 if (kvs.any fun kv=>decide (kv.1=k))=true then kvs.map (fun kv=>if kv.1=k then (kv.1,v) else kv) else kvs ++ [(k,v)]
theorem valV_pos {p:κ×V} {r:List (κ×V)} {k:κ} (e:p.1=k):valV (p :: r) k=some p.2:=by simp [valV,List.find?_cons,e]
theorem valV_neg {p:κ×V} {r:List (κ×V)} {k:κ} (e:¬ p.1=k):valV (p :: r) k=valV r k:=by simp [valV,List.find?_cons,e]
theorem valV_any (k:κ):∀ kvs:List (κ×V),(kvs.any fun kv=>decide (kv.1=k))=(valV kvs k).isSome
 | []=>rfl
 | p :: r=>by
  rw [List.any_cons]
  by_cases e:p.1=k
  ·simp only [valV_pos e,decide_eq_true e,Bool.true_or,Option.isSome_some]
  ·rw [valV_neg e,decide_eq_false e,Bool.false_or]; exact valV_any k r
theorem valV_map (k j:κ) (y:V):∀ kvs:List (κ×V),valV (kvs.map fun kv=>if kv.1=k then (kv.1,y) else kv) j=(valV kvs j).map fun x=>if j=k then y else x
 | []=>rfl
 | p :: r=>by
  have ih:=valV_map k j y r
  rw [List.map_cons]
  by_cases h:p.1=k
  ·rw [if_pos h]
   by_cases e:p.1=j
   ·rw [valV_pos (p:=(p.1,y)) e,valV_pos e,Option.map_some,if_pos (e.symm.trans h)]
   ·rw [valV_neg (p:=(p.1,y)) e,valV_neg e,ih]
  ·rw [if_neg h]
   by_cases e:p.1=j
   ·rw [valV_pos (p:=p) e,valV_pos e,Option.map_some,if_neg (fun z=>h (e.trans z))]
   ·rw [valV_neg (p:=p) e,valV_neg e,ih]
theorem valV_snoc (k j:κ) (y:V):∀ kvs:List (κ×V),valV kvs k=none→valV (kvs ++ [(k,y)]) j=if j=k then some y else valV kvs j
 | [],_=>by
  by_cases e:k=j
  ·rw [if_pos e.symm]; exact valV_pos (p:=(k,y)) e
  ·rw [if_neg (fun z=>e z.symm)]; exact valV_neg (p:=(k,y)) e
 | p :: r,hn=>by
  rw [List.cons_append]
  have hk:¬ p.1=k:=fun z=>by rw [valV_pos z] at hn; cases hn
  rw [valV_neg hk] at hn
  have ih:=valV_snoc k j y r hn
  by_cases e:p.1=j
  ·rw [valV_pos e,valV_pos e,if_neg (fun z=>hk (e.trans z))]
  ·rw [valV_neg e,valV_neg e,ih]
theorem valV_put (kvs:List (κ×V)) (k j:κ) (y:V):valV (putK kvs k y) j=if j=k then some y else valV kvs j:=by
 unfold putK
 by_cases a:(kvs.any fun kv=>decide (kv.1=k))=true
 ·rw [if_pos a,valV_map]
  rw [valV_any] at a
  by_cases e:j=k
  ·obtain ⟨x,hx⟩:=Option.isSome_iff_exists.mp a
   rw [if_pos e,e,hx,Option.map_some,if_pos rfl]
  ·rw [if_neg e]
   cases valV kvs j with
   | none=>rfl
   | some x=>rw [Option.map_some,if_neg e]
 ·rw [if_neg a]
  refine valV_snoc k j y kvs ?_
  rw [valV_any] at a
  cases q:valV kvs k with
  | none=>rfl
  | some x=>rw [q] at a; exact (a rfl).elim
theorem length_putK (kvs:List (κ×V)) (k:κ) (v:V):(putK kvs k v).length≤kvs.length + 1:=by
 unfold putK
 split
 ·rw [List.length_map]; omega
 ·rw [List.length_append,List.length_cons,List.length_nil]; omega
theorem RelO.isSome_eq {o:Option V} {u:Option Value} (r:RelO o u):o.isSome=u.isSome:=by
 cases o with
 | none=>cases u with
  | none=>rfl
  | some _=>exact (show False from r).elim
 | some _=>cases u with
  | none=>exact (show False from r).elim
  | some _=>rfl
theorem KV.val {kvs:List (κ×V)} {vs:List (κ×Value)} (r:KV kvs vs) (k:κ):RelO (valV kvs k) (valueAt vs k):=by
 unfold KV at r
 induction r with
 | nil=>exact True.intro
 | @cons p q ps qs h t ih =>
  obtain ⟨h1,h2⟩:=h
  by_cases e:p.1=k
  ·have e':q.1=k:=h1.symm.trans e
   have b:valueAt (q :: qs) k=some q.2:=by simp [valueAt,List.find?_cons,e']
   rw [valV_pos e,b]; exact h2
  ·have e':¬ q.1=k:=fun z=>e (h1.trans z)
   have b:valueAt (q :: qs) k=valueAt qs k:=by simp [valueAt,List.find?_cons,e']
   rw [valV_neg e,b]; exact ih
theorem KV.any {kvs:List (κ×V)} {vs:List (κ×Value)} (r:KV kvs vs) (k:κ):(kvs.any fun kv=>decide (kv.1=k))=vs.any fun kv=>decide (kv.1=k):=by
 unfold KV at r
 induction r with
 | nil=>rfl
 | cons h t ih=>rw [List.any_cons,List.any_cons,ih,h.1]
theorem KV.repl {kvs:List (κ×V)} {vs:List (κ×Value)} (r:KV kvs vs) (k:κ) {y:V} {u:Value} (ry:RelV y u) :
  KV (kvs.map fun kv=>if kv.1=k then (kv.1,y) else kv) (vs.map fun kv=>if kv.1=k then (kv.1,u) else kv):=by
 unfold KV at r ⊢
 induction r with
 | nil=>exact .nil
 | @cons p q ps qs h t ih =>
  rw [List.map_cons,List.map_cons]
  refine .cons ?_ ih
  obtain ⟨h1,h2⟩:=h
  by_cases e:p.1=k
  ·rw [if_pos e,if_pos (h1.symm.trans e)]; exact ⟨h1,ry⟩
  ·rw [if_neg e,if_neg (fun z=>e (h1.trans z))]; exact ⟨h1,h2⟩
theorem KV.put {kvs:List (κ×V)} {vs:List (κ×Value)} (r:KV kvs vs) (k:κ) {y:V} {u:Value} (ry:RelV y u):KV (putK kvs k y) (stored vs k u):=by
 unfold putK stored
 rw [r.any k]
 by_cases e:(vs.any fun kv=>decide (kv.1=k))=true
 ·rw [if_pos e,if_pos e]; exact r.repl k ry
 ·rw [if_neg e,if_neg e]; exact Paired.snoc r ⟨rfl,ry⟩
theorem KV.length {kvs:List (κ×V)} {vs:List (κ×Value)} (r:KV kvs vs):kvs.length=vs.length:=Paired.length r
end
theorem kV_is {P:Program} {w:World} {k:Key} {u:Value} (r:RelV (kV k) u):(mixKind P w).is k u=true:=by
 cases k with
 | inl i=>obtain ⟨t,e⟩:=(show ∃ t,u=Value.int i t from r); subst e; exact mixKind_int P w i t
 | inr x=>obtain ⟨t,e⟩:=(show ∃ t,u=Value.str x t from r); subst e; exact mixKind_str P w x t
theorem items_are {P:Program} {w:World}:∀ {ks:List Key} {us:List Value},Vals (ks.map kV) us→ItemsAre (mixKind P w) ks us
 | [],_,r=>by rw [List.map_nil] at r; cases r; exact .nil
 | k :: ks,_,r=>by
  rw [List.map_cons] at r
  cases r with
  | cons h t=>exact .cons (kV_is h) (items_are t)
abbrev KT (H:Hp):List (List Key×V)→List (List Key×Addr×Value)→Prop:=Paired fun p q=>p.1=q.1∧H q.2.1=some (.tup (p.1.map kV))∧RelV p.2 q.2.2
theorem KT.val {H:Hp} {kvs:List (List Key×V)} {xs:List (List Key×Addr×Value)} (r:KT H kvs xs) (k:List Key):RelO (valV kvs k) ((atKey xs k).map (·.2)):=by
 induction r with
 | nil=>exact True.intro
 | @cons p q ps qs h t ih =>
  obtain ⟨h1,_,h2⟩:=h
  by_cases e:p.1=k
  ·have e':q.1=k:=h1.symm.trans e
   have b:atKey (q :: qs) k=some q.2:=by simp [atKey,List.find?_cons,e']
   rw [valV_pos e,b]; exact h2
  ·have e':¬ q.1=k:=fun z=>e (h1.trans z)
   have b:atKey (q :: qs) k=atKey qs k:=by simp [atKey,List.find?_cons,e']
   rw [valV_neg e,b]; exact ih
theorem KT.repl {H:Hp} {kvs:List (List Key×V)} {xs:List (List Key×Addr×Value)} (r:KT H kvs xs) (k:List Key) {y:V} {u:Value} (ry:RelV y u) :
  KT H (kvs.map fun kv=>if kv.1=k then (kv.1,y) else kv) (xs.map (putAt k u)):=by
 induction r with
 | nil=>exact .nil
 | @cons p q ps qs h t ih =>
  rw [List.map_cons,List.map_cons]
  refine .cons ?_ ih
  obtain ⟨h1,h2,h3⟩:=h
  unfold putAt
  by_cases e:p.1=k
  ·rw [if_pos e,if_pos (h1.symm.trans e)]; exact ⟨h1,h2,ry⟩
  ·rw [if_neg e,if_neg (fun z=>e (h1.trans z))]; exact ⟨h1,h2,h3⟩
theorem KT.put {H:Hp} {kvs:List (List Key×V)} {xs:List (List Key×Addr×Value)} (r:KT H kvs xs) (k:List Key) {b:Addr} {y:V} {u:Value} (hb:H b=some (.tup (k.map kV))) (ry:RelV y u) :
  KT H (putK kvs k y) (storedH xs k b u):=by
 have e:(kvs.any fun kv=>decide (kv.1=k))=(atKey xs k).isSome:=by
  rw [valV_any,(r.val k).isSome_eq,Option.isSome_map]
 unfold putK storedH
 rw [e]
 by_cases q:(atKey xs k).isSome=true
 ·rw [if_pos q,if_pos q]; exact r.repl k ry
 ·rw [if_neg q,if_neg q]; exact Paired.snoc r ⟨rfl,hb,ry⟩
theorem KT.keeps {H H':Hp} {kvs:List (List Key×V)} {xs:List (List Key×Addr×Value)} (r:KT H kvs xs) (ht:∀ b ys,H b=some (.tup ys)→H' b=some (.tup ys)):KT H' kvs xs :=
 Paired.mapP r fun _ _ z=>⟨z.1,ht _ _ z.2.1,z.2.2⟩
section
variable {P:Program} {w:World} {H:Hp} {h:Heap} {a:Addr}
theorem rd_of {u:HO} (ok:HOk P w H h) (e:Rd H a u):ObjOk P w H h a u:=e.ok ok
theorem dk_rd {kvs:List (Key×V)} (ok:HOk P w H h) (e:Rd H a (.dK kvs)):kvs.length≤sizeLine∧(a == sysModules)=false∧∃ vs,KV kvs vs∧h.DictOf (mixKind P w) a vs :=
 show ObjOk P w H h a (.dK kvs) from rd_of ok e
theorem dk_of {kvs:List (Key×V)} (ok:HOk P w H h) (e:H a=some (.dK kvs)):kvs.length≤sizeLine∧(a == sysModules)=false∧∃ vs,KV kvs vs∧h.DictOf (mixKind P w) a vs:=dk_rd ok (.inl e)
theorem key_of {ks:List Key} (ok:HOk P w H h) (e:H a=some (.tup (ks.map kV))):(tupleKind (mixKind P w)).is h ks a:=by
 obtain ⟨_,its,r,tx⟩:=(show ObjOk P w H h a (.tup (ks.map kV)) from ok a _ e); obtain ⟨o,h1,h2,n,h3⟩:=tx.tup
 exact ⟨o,its.toArray,n,h1,h2,h3,by simpa using items_are r⟩
theorem dt_rd {kvs:List (List Key×V)} (ok:HOk P w H h) (e:Rd H a (.dT kvs)):kvs.length≤sizeLine∧(a == sysModules)=false ∧
  ∃ xs,KT H kvs xs∧h.DictOfH (tupleKind (mixKind P w)) a xs:=by
 obtain ⟨z,y,xs,r,o,es,ep,h1,h2,h3,h4,h5⟩:=(show ObjOk P w H h a (.dT kvs) from rd_of ok e)
 refine ⟨z,y,xs,r,o,es,ep,h1,h2,h3,h4,fun x hx=>?_,h5⟩
 have all:∀ {l:List (List Key×V)} {m:List (List Key×Addr×Value)},KT H l m→∀ x∈m,(tupleKind (mixKind P w)).is h x.1 x.2.1:=by
  intro l m q
  induction q with
  | nil=>intro x hx; exact nomatch hx
  | @cons p q ps qs hq t ih =>
   intro x hx
   rcases List.mem_cons.mp hx with e | hx
   ·subst e
    exact key_of ok (by rw [← hq.1]; exact hq.2.1)
   ·exact ih x hx
 exact all r x hx
theorem dt_of {kvs:List (List Key×V)} (ok:HOk P w H h) (e:H a=some (.dT kvs)):kvs.length≤sizeLine∧(a == sysModules)=false ∧
  ∃ xs,KT H kvs xs∧h.DictOfH (tupleKind (mixKind P w)) a xs:=dt_rd ok (.inl e)
end
def DGet (H:Hp) (a:Addr) (y:V) (r:Option V):Prop :=
 (∃ kvs k,Rd H a (.dK kvs)∧y=kV k∧r=valV kvs k)∨∃ kvs k b,Rd H a (.dT kvs)∧y=.ref b∧H b=some (.tup (k.map kV))∧r=valV kvs k
def DPut (H:Hp) (a:Addr) (y v:V) (H':Hp):Prop :=
 (∃ kvs k,H a=some (.dK kvs)∧y=kV k∧kvs.length < sizeLine∧H'=upd H a (.dK (putK kvs k v))) ∨
 ∃ kvs k b,H a=some (.dT kvs)∧y=.ref b∧H b=some (.tup (k.map kV))∧kvs.length < sizeLine∧H'=upd H a (.dT (putK kvs k v))
theorem DGet.k {H:Hp} {a:Addr} {kvs:List (Key×V)} {k:Key} (e:H a=some (.dK kvs)):DGet H a (kV k) (valV kvs k):=.inl ⟨kvs,k,.inl e,rfl,rfl⟩
theorem DPut.k {H:Hp} {a:Addr} {kvs:List (Key×V)} {k:Key} {v:V} (e:H a=some (.dK kvs)) (hl:kvs.length < sizeLine):DPut H a (kV k) v (upd H a (.dK (putK kvs k v))):=.inl ⟨kvs,k,e,rfl,hl,rfl⟩
section
variable {X:Cx} {pins:List (Addr×Obj)} {σ:St} {H:Hp} {s:Shared} {a:Addr} {y v:V} {u r:Value} {o:Option V} {A:Around} {E:Value→Shared→Prop}
theorem Inv.big (I:Inv X pins σ H s):sysModules < s.heap.objs.size:=by
 have h:mainGlobals < s.heap.objs.size:=(I.mod.glob.keeps I.bk).lt
 exact Nat.lt_trans (by decide) h
theorem d_getItem {Q:Value→Shared→Prop} (hu:A.units + 1 < cLine) (I:Inv X pins σ H s) (g:DGet H a y (some v)) (ry:RelV y u) (h:∀ w' s',Inv X pins σ H s'→RelV v w'→Q w' s') :
  wpAny (model X.prog X.w) A (getItem (.ref a) u) Q E s:=by
 rcases g with ⟨kvs,k,e,ey,l⟩ | ⟨kvs,k,b,e,ey,eb,l⟩
 ·subst ey
  obtain ⟨z,hd,vs,rel,dd⟩:=dk_rd I.hok e
  obtain ⟨w',hw,rw'⟩:=RelO.some_of (v:=v) (o:=valueAt vs k) (by rw [l]; exact rel.val k)
  exact wpAny_getItem_of (kV_is ry) dd.mapOf hw (h w' _ (I.tok _) rw')
 ·subst ey
  cases (show u=Value.ref b from ry)
  obtain ⟨z,hd,xs,rel,dd⟩:=dt_rd I.hok e
  obtain ⟨w',hw,rw'⟩:=RelO.some_of (v:=v) (o:=(atKey xs k).map (·.2)) (by rw [l]; exact rel.val k)
  obtain ⟨p,hp,hp2⟩:=Option.map_eq_some_iff.mp hw
  refine wpAny_getItem_heap (tupleKind_room_in1 hu) (key_of I.hok eb) dd hp ?_
  rw [hp2]
  exact h w' _ (I.tok _) rw'
theorem d_write {h':Heap} {t':Nat} {ob:HO} (I:Inv X pins σ H s) (mu:Mut (H a)) (hs:Heap.SameBut a s.heap h') (he:∃ q,h'.get? a=some q) (new:ObjOk X.prog X.w (upd H a ob) h' a ob) :
  Inv X pins σ (upd H a ob) { s with heap:=h',toks:=t' } :=
 I.write (x:=a) (e:=a) mu (.inl rfl) (fun b q hb z=>(hs.2 b hb).trans z) he new
theorem dk_new {P:Program} {w:World} {H':Hp} {h':Heap} {kvs:List (Key×V)} {vs:List (Key×Value)} (z:kvs.length≤sizeLine) (hd:(a == sysModules)=false) (rel:KV kvs vs) (dd:h'.DictOf (mixKind P w) a vs) :
  ObjOk P w H' h' a (.dK kvs):=⟨z,hd,vs,rel,dd⟩
theorem d_setItem {H':Hp} {Q:Unit→Shared→Prop} (hu:A.units + 1 < cLine) (I:Inv X pins σ H s) (g:DPut H a y v H') (ry:RelV y u) (rv:RelV v r) (h:∀ s',Inv X pins σ H' s'→Q () s') :
  wpAny (model X.prog X.w) A (setItem (.ref a) u r) Q E s:=by
 rcases g with ⟨kvs,k,e,ey,l,eH⟩ | ⟨kvs,k,b,e,ey,eb,l,eH⟩
 ·subst ey eH
  obtain ⟨z,hd,vs,rel,dd⟩:=dk_of I.hok e
  have hz:vs.length≤sizeLine:=by rw [← rel.length]; exact z
  have hl:(putK kvs k v).length≤sizeLine:=by have:=length_putK kvs k v; omega
  refine wpAny_setItem_pairs (hsz:=hz) (kV_is ry) dd fun h' dd' hs=>h _ ?_
  have he:∃ q,h'.get? a=some q:=let ⟨q,_,_,hq,_⟩:=dd'; ⟨q,hq⟩
  exact d_write I (by rw [e]; exact True.intro) hs he (dk_new hl hd (rel.put k rv) dd')
 ·subst ey eH
  cases (show u=Value.ref b from ry)
  obtain ⟨z,hd,xs,rel,dd⟩:=dt_of I.hok e
  have hz:xs.length≤sizeLine:=by rw [← Paired.length rel]; exact z
  have hl:(putK kvs k v).length≤sizeLine:=by have:=length_putK kvs k v; omega
  refine wpAny_setItem_heap (hsz:=hz) (tupleKind_room_in1 hu) (key_of I.hok eb) dd fun h' dd' hs=>h _ ?_
  obtain ⟨q,es,ep,hq,h2,h3,h4,_,h5⟩:=dd'
  refine d_write I (by rw [e]; exact True.intro) hs ⟨q,hq⟩ ⟨hl,hd,_,(rel.put k eb rv).keeps fun c ys ec=>?_,q,es,ep,hq,h2,h3,h4,h5⟩
  rw [upd_ne (ne_of ec e (fun z=>nomatch z))]
  exact ec
end
section
variable {X:Cx} {pins:List (Addr×Obj)} {σ:St} {H:Hp} {s:Shared} {a:Addr} {kvs:List (Key×V)} {k:Key} {u:Value} {A:Around} {E:Value→Shared→Prop}
end
def NoSl (i:Expr):Prop:=∀ ov iv,subscripted i false ov iv=operate [ov,iv] (getItem ov iv)
theorem subD_of {prog:Program} {w:World} {A:Around} {E:Value→Shared→Prop} {s:Shared} {env:Env} {value slice:Expr} {pos:Pos} {T id:String} {Q:Value→Shared→Prop}
  (hl:typeLookup (.type T) "__getitem__"=pure (some (.builtin id))) (hs:NoSl slice)
  (h:wpAny (model prog w) A (eval value env) (fun o s₁=>wpAny (model prog w) A (eval slice env) (fun i s₂=>s₂.TypeIs o T∧wpAny (model prog w) A (getItem o i) Q E s₂) E s₁) E s) :
  wpAny (model prog w) A (eval (.Subscript value slice pos) env) Q E s:=by
 refine Subscript_ (wpAny_mono h (fun o s₁ h₁=>wpAny_mono h₁ (fun i s₂ h₂=>?_) fun _ _ x=>x) fun _ _ x=>x)
 obtain ⟨hT,h₂⟩:=h₂
 unfold subscriptTail
 refine wpAny_bind ?_
 rw [getitemInPython_of_ne hT.not_modules]
 refine wpAny_bind (wpAny_specialOf hT hl ?_)
 have fin:wpAny (model prog w) A (subscripted slice false o i) (fun r s₃=>wpAny (model prog w) A (letTemporaryGo value o r >>= fun _=>pure r) Q E s₃) E s₂:=by
  rw [hs o i]
  exact wpAny_operating (wpAny_mono h₂ (fun r s₃ h₃=>wpAny_bind (wpAny_letTemporaryGo (wpAny_pure h₃))) fun _ _ x=>x)
 first
  | exact wpAny_pure (wpAny_bind fin)
  | exact wpAny_bind (wpAny_pure (wpAny_bind fin))
  | exact wpAny_bind fin
theorem dict_typeIs {X:Cx} {pins:List (Addr×Obj)} {σ:St} {H:Hp} {s:Shared} {a:Addr} {y:V} {o:Option V} (I:Inv X pins σ H s) (g:DGet H a y o):s.TypeIs (.ref a) "dict":=by
 rcases g with ⟨kvs,k,e,_,_⟩ | ⟨kvs,k,b,e,_,_,_⟩
 ·obtain ⟨_,_,vs,_,dd⟩:=dk_rd I.hok e
  exact dd.typeIs
 ·obtain ⟨_,_,xs,_,dd⟩:=dt_rd I.hok e
  exact dd.typeIs
def tDGet (td ty:TE):TE:=fun σ H Q=>td σ H fun x H1=>ty σ H1 fun y H2=>∃ a v,x=.ref a∧DGet H2 a y (some v)∧Q v H2
def sDPut (td ty tv:TE):TS:=fun D σ H=>tv σ H fun v H1=>td σ H1 fun x H2=>ty σ H2 fun y H3=>∃ a H4,x=.ref a∧DPut H3 a y v H4∧D.nx σ H4
section
variable {X:Cx} {o i e value:Expr} {pos pos' tpos:Pos} {td ty tv:TE}
theorem pe_dget (hu:X.A.units + 1 < cLine) (ho:PE X o td) (hi:PE X i ty) (hs:NoSl i):PE X (.Subscript o i pos) (tDGet td ty):=by
 intro pins s σ H Q I h
 refine subD_of PySem.F.slot_dict_getitem.lookup hs (thn (ho pins s σ H _ I h) fun u s1 ⟨x,H1,I1,rx,q1⟩=>thn (hi pins s1 σ H1 _ I1 q1) fun iv s2 ⟨y,H2,I2,ry,a,v,ex,g,q2⟩=>?_)
 subst ex
 obtain rfl:u=Value.ref a:=rx
 exact ⟨dict_typeIs I2 g,d_getItem hu I2 g ry fun w' s3 I3 rw'=>⟨v,H2,I3,rw',q2⟩⟩
theorem ps_dput (hu:X.A.units + 1 < cLine) (ho:PE X o td) (hi:PE X i ty) (hv:PE X value tv) (hs:swapsWith value (some (.Subscript o i pos')) pos.line X.env=pure false) :
  PS X (.Assign [.Subscript o i pos'] value pos) (sDPut td ty tv):=by
 intro pins s σ H D I h
 refine wpAny_Assign_Subscript (thn (hv pins s σ H _ I h) fun r s1 ⟨v,H1,I1,rv,q1⟩=>thn (ho pins s1 σ H1 _ I1 q1) fun u s2 ⟨x,H2,I2,rx,q2⟩=>thn (hi pins s2 σ H2 _ I2 q2) fun iv s3 ⟨y,H3,I3,ry,a,H4,ex,g,q3⟩=>?_) hs
 subst ex
 obtain rfl:u=Value.ref a:=rx
 exact d_setItem hu I3 g ry rv fun s4 I4=>⟨σ,H4,I4,q3⟩
end
theorem dk_empty {P:Program} {w:World} {H:Hp} (h:Heap) (hb:sysModules < h.objs.size):ObjOk P w H (h.push { cls:=.type "dict",data:=.dict #[] }) h.objs.size (.dK []) :=
 ⟨Nat.zero_le _,beq_eq_false_iff_ne.mpr (Ne.symm (Nat.ne_of_lt hb)),[],.nil,Heap.DictOf.new h⟩
section
variable {X:Cx} {pos:Pos}
end
def tPairs:List (TE×TE)→St→Hp→(List (V×V)→Hp→Prop)→Prop
 | [],_,H,Q=>Q [] H
 | (tk,tv) :: r,σ,H,Q=>tk σ H fun x H1=>tv σ H1 fun y H2=>tPairs r σ H2 fun ps H3=>Q ((x,y) :: ps) H3
abbrev VV:List (V×V)→List (Value×Value)→Prop:=Paired fun p q=>RelV p.1 q.1∧RelV p.2 q.2
def PPs (X:Cx) (pos:Pos) (keys:List (Option Expr)) (values:List Expr) (trs:List (TE×TE)):Prop :=
 ∀ (pins:List (Addr×Obj)) (s:Shared) (σ:St) (H:Hp) (Q:List (V×V)→Hp→Prop),Inv X pins σ H s→tPairs trs σ H Q →
  wpAny (model X.prog X.w) X.A (evalPairs (pairTrees keys values X.env pos)) (fun vs s'=>∃ ps H',Inv X pins σ H' s'∧VV ps vs∧Q ps H') X.xe s
theorem pps_nil {X:Cx} {pos:Pos}:PPs X pos [] [] []:=fun pins s σ H Q I h=>pairTrees_nil_walk ⟨[],H,I,.nil,h⟩
theorem pps_cons {X:Cx} {pos:Pos} {k v:Expr} {ks:List (Option Expr)} {vs:List Expr} {tk tv:TE} {trs:List (TE×TE)} (hk:PE X k tk) (hv:PE X v tv) (hr:PPs X pos ks vs trs) :
  PPs X pos (some k :: ks) (v :: vs) ((tk,tv) :: trs):=fun pins s σ H Q I h =>
 pairTrees_cons_walk (thn (hk pins s σ H _ I h) fun u s1 ⟨x,H1,I1,rx,q1⟩=>thn (hv pins s1 σ H1 _ I1 q1) fun w2 s2 ⟨y,H2,I2,ry,q2⟩ =>
  thn (hr pins s2 σ H2 _ I2 q2) fun ws s3 ⟨ps,H3,I3,rel,q3⟩=>⟨(x,y) :: ps,H3,I3,.cons ⟨rx,ry⟩ rel,q3⟩)
def mergeK (kvs more:List (Key×V)):List (Key×V):=more.foldl (fun acc kv=>putK acc kv.1 kv.2) kvs
theorem KV.merge:∀ {more:List (Key×V)} {rs:List (Key×Value)} {kvs:List (Key×V)} {vs:List (Key×Value)},KV more rs→KV kvs vs→KV (mergeK kvs more) (merged vs rs):=by
 intro more rs kvs vs r
 unfold KV at r
 induction r generalizing kvs vs with
 | nil=>intro q; exact q
 | @cons p q ps qs h t ih =>
  intro r0
  have e:KV (putK kvs p.1 p.2) (stored vs q.1 q.2):=by
   have:=r0.put p.1 h.2
   rw [← h.1]; exact this
  exact ih e
theorem length_mergeK:∀ (more kvs:List (Key×V)),(mergeK kvs more).length≤kvs.length + more.length
 | [],kvs=>by show kvs.length≤kvs.length + 0; omega
 | p :: r,kvs=>by
  have h1:=length_mergeK r (putK kvs p.1 p.2)
  have h2:=length_putK kvs p.1 p.2
  show (mergeK (putK kvs p.1 p.2) r).length≤_
  rw [List.length_cons]; omega
theorem carries_of {P:Program} {w:World}:∀ {kvs:List (Key×V)} {ws:List (Value×Value)},VV (kvs.map fun kv=>(kV kv.1,kv.2)) ws→∃ rs,Carries (mixKind P w) ws rs∧KV kvs rs
 | [],_,r=>by rw [List.map_nil] at r; cases r; exact ⟨[],True.intro,.nil⟩
 | p :: kvs,_,r=>by
  rw [List.map_cons] at r
  cases r with
  | @cons a b as bs h t =>
   obtain ⟨rs,c,q⟩:=carries_of (P:=P) (w:=w) t
   obtain ⟨b1,b2⟩:=b
   exact ⟨(p.1,b2) :: rs,⟨kV_is h.1,rfl,c⟩,.cons ⟨rfl,h.2⟩ q⟩
def tDisp (trs:List (TE×TE)):TE:=fun σ H Q=>∀ p,H p=none→tPairs trs σ (upd H p (.dK [])) fun ps H2=>H2 p=some (.dK [])∧∃ kvs:List (Key×V),ps=kvs.map (fun kv=>(kV kv.1,kv.2))∧kvs.length≤15∧Q (.ref p) (upd H2 p (.dK (mergeK [] kvs)))
theorem pe_disp {X:Cx} {pos:Pos} {keys:List (Option Expr)} {values:List Expr} {trs:List (TE×TE)} (h:PPs X pos keys values trs) (hall:keys.all (·.isSome)=true) (hl:keys.length=values.length) (h0:keys≠[])
  (h15:keys.length≤15):PE X (.Dict keys values pos) (tDisp trs):=by
 intro pins s σ H Q I q
 have hn:=I.hok.fresh (Nat.le_refl s.heap.objs.size)
 have I1:=I.laid (a:=s.heap.objs.size) (o:=.dK []) (h':=s.heap.push { cls:=.type "dict",data:=.dict #[] }) (t':=s.toks) (fun _ _ q=>Heap.get?_push_of_some _ q) (Nat.le_refl _) (dk_empty s.heap I.big)
 refine wpAny_Dict_walk (knd:=mixKind X.prog X.w) hall hl h0 h15 (thn (h pins _ σ _ _ I1 (q _ hn)) fun ws s2 ⟨ps,H2,I2,rel,e,kvs,ep,lk,q2⟩=>?_)
 subst ep
 obtain ⟨rs,c,rk⟩:=carries_of (P:=X.prog) (w:=X.w) rel
 obtain ⟨z,hd,vs0,r0,dd⟩:=dk_of I2.hok e
 cases r0
 refine ⟨rs,c,dd,fun h' dd' hs=>⟨.ref s.heap.objs.size,_,?_,rfl,q2⟩⟩
 have hz:(mergeK [] kvs).length≤sizeLine:=by
  have h1:=length_mergeK kvs []
  rw [List.length_nil] at h1
  rw [sizeLine_eq]; omega
 have he:∃ q,h'.get? s.heap.objs.size=some q:=let ⟨q,_,_,hq,_⟩:=dd'; ⟨q,hq⟩
 exact d_write I2 (by rw [e]; exact True.intro) hs he (dk_new hz hd (rk.merge .nil) dd')
section
variable {X:Cx} {pins:List (Addr×Obj)} {σ:St} {H:Hp} {s:Shared} {a:Addr} {y d:V} {u r:Value} {o:Option V} {A:Around} {E:Value→Shared→Prop}
end
section
variable {X:Cx} {o e f:Expr} {apos cpos:Pos} {td ty tx:TE}
end
section
variable {X:Cx} {pins:List (Addr×Obj)} {σ:St} {H:Hp} {s:Shared} {a:Addr} {kvs:List (Key×V)} {A:Around} {E:Value→Shared→Prop}
end
section
variable {X:Cx} {pins:List (Addr×Obj)} {σ:St} {H:Hp} {s:Shared} {a:Addr} {y:V} {u:Value} {A:Around} {E:Value→Shared→Prop}
end
section
variable {X:Cx}
end
section
variable {κ:Type} [DecidableEq κ]
end
end L2
namespace BF
open PySem PySem.Spec PyProof.Rows L2
theorem pe_imp {X:Cx} {e:Expr} {t t':TE} (h:PE X e t) (k:∀ σ H Q,t' σ H Q→t σ H Q):PE X e t' :=
 fun pins s σ H Q I hw=>h pins s σ H Q I (k σ H Q hw)
inductive Kn where
 | non | bl | int | str | lst | tup | dic
def Kn.nm:Kn→String
 | .non=>"NoneType" | .bl=>"bool" | .int=>"int" | .str=>"str" | .lst=>"list" | .tup=>"tuple" | .dic=>"dict"
inductive Knd (H:Hp):V→Kn→Prop where
 | non:Knd H .non .non
 | bl (b:Bool):Knd H (.bl b) .bl
 | int (i:Int):Knd H (.int i) .int
 | str (x:Str):Knd H (.str x) .str
 | lst {a:Addr} {xs:List V} (e:H a=some (.lst xs)):Knd H (.ref a) .lst
 | tup {a:Addr} {xs:List V} (e:H a=some (.tup xs)):Knd H (.ref a) .tup
 | dic {a:Addr} {kvs:List (Key×V)} (e:H a=some (.dK kvs)):Knd H (.ref a) .dic
theorem Knd.ty {K:PySem.W.Frag} {H:Hp} {v:V} {k:Kn} (h:Knd H v k):TyOf K H v (.type k.nm):=by
 cases h with
 | non=>exact .non
 | bl b=>exact .bl b
 | int i=>exact .int i
 | str x=>exact .str x
 | lst e=>exact .lst e
 | tup e=>exact .tup e
 | dic e=>exact .dK e
def isaK:Kn→Kn→Bool
 | .non,.non=>true
 | .bl,.bl=>true
 | .bl,.int=>true
 | .int,.int=>true
 | .str,.str=>true
 | .lst,.lst=>true
 | .tup,.tup=>true
 | .dic,.dic=>true
 | _,_=>false
theorem kit_of (K:PySem.W.Frag) (k c:Kn):PySem.W.kitOne K (.type k.nm) (.type c.nm)=some (isaK k c):=by
 cases k <;> cases c <;> kernel_rfl
theorem call_isi {X:Cx}:CallR X (.builtin "isinstance") (fun xs H Q=>∃ x k c,xs=[x,.ty (Kn.nm c)]∧Knd H x k∧Q (.bl (isaK k c)) H):=by
 intro pins s σ H xs us Q I r h
 obtain ⟨x,k,c,rfl,kd,q⟩:=h
 obtain ⟨u,w',rfl,r1,r2⟩:=vals2 r
 have e:w'=Value.type (Kn.nm c):=r2
 subst e
 exact isinst_ok I r1 kd.ty (kit_of X.K k c) fun tk=>⟨.bl (isaK k c),H,I.tok tk,rfl,q⟩
theorem pe_p9 {X:Cx} {j1 j2:Nat} {p1 p2 pos:Pos}:PE X (.BinOp (.Constant (.int 10) j1 p1) .Pow (.Constant (.int 9) j2 p2) pos) (tC (.int 1000000000)) :=
 pe_imp (pe_op op_pow pe_int pe_int) fun σ H Q q=>⟨10,9,rfl,rfl,⟨by decide,by decide,by decide⟩,by
  have e:((10:Int) ^ (9:Int).toNat)=1000000000:=by decide
  show Q (V.int _) H
  rw [e]; exact q⟩
theorem ifD_pos {p:Prop} [Decidable p] {A B:Prop} (h:p) (a:A):if decide p=true then A else B:=by
 rw [if_pos (decide_eq_true h)]; exact a
theorem ifD_neg {p:Prop} [Decidable p] {A B:Prop} (h:¬ p) (b:B):if decide p=true then A else B:=by
 rw [if_neg (by intro z; exact h (of_decide_eq_true z))]; exact b
theorem ifB_pos {c:Bool} {A B:Prop} (h:c=true) (a:A):if c=true then A else B:=by
 rw [if_pos h]; exact a
theorem ifB_neg {c:Bool} {A B:Prop} (h:c=false) (b:B):if c=true then A else B:=by
 rw [if_neg (by rw [h]; exact Bool.false_ne_true)]; exact b
theorem same_upd {H:Hp} {p:Addr} {o:HO} (h:H p=none):Same H (upd H p o):=fun b u e=>by
 rw [upd_ne (ne_of_none e h)]; exact e
theorem sz {n:Nat} (h:n≤1000):n≤sizeLine:=Nat.le_of_lt (small1000 h)
theorem szr {n:Nat} (h:Nat.ble n 1000=true):n≤sizeLine:=sz (Nat.le_of_ble_eq_true h)
structure Df (K:PySem.W.Frag) (mg:Str→Option Value) (x:Str) (st:Stmt) (f:Addr) (fd:FuncData):Prop where
 F:Fun K x x st f fd
 m:mg x=some (.ref f)
theorem df_mk {K:PySem.W.Frag} {mg:Str→Option Value} {h:Heap} (X:K.In h) (G:h.Ns mainGlobals mg) {x:Str} {st:Stmt} {f:Addr} {oc:Value} {od an:Option Addr} {osl:Array (Option Value)} {kV doc pm cdv ct:Value}
  (a:PySem.W.nsIn K mainGlobals x=some (some (.ref f))) (l:K.lookup f=some ⟨oc,od,.func (PySem.W.fnOf x x (defArgs st) (defBody st) (defScope st) .none kV doc pm an cdv ct),osl⟩)
  (c:PySem.W.codeIn K cdv x=true) (k:PySem.W.keepIn K (.ref f)=true):Df K mg x st f (PySem.W.fnOf x x (defArgs st) (defBody st) (defScope st) .none kV doc pm an cdv ct) :=
 ⟨fun_mk l c k,PySem.W.mg_of X G a⟩
def clOf (env:Env):List (Str×NameKind)→List (Str×Addr)→List (Str×Addr)
 | [],acc=>acc
 | (n,k) :: r,acc=>if (k == NameKind.free)=true then (match env.cells.lookup n with | some a=>clOf env r ((n,a) :: acc) | none=>clOf env r acc) else clOf env r acc
theorem clOf_sub (env:Env):∀ (l:List (Str×NameKind)) (acc:List (Str×Addr)),(∀ p∈acc,env.cells.lookup p.1=some p.2)→∀ p∈clOf env l acc,env.cells.lookup p.1=some p.2
 | [],_,h=>h
 | (n,k) :: r,acc,h=>by
  unfold clOf
  split
  ·split
   ·rename_i a e
    refine clOf_sub env r _ fun p hp=>?_
    rcases List.mem_cons.mp hp with rfl | hp
    ·exact e
    ·exact h p hp
   ·exact clOf_sub env r acc h
  ·exact clOf_sub env r acc h
theorem clOf_acc (env:Env):∀ (l:List (Str×NameKind)) (acc:List (Str×Addr)) (x:Str),(∃ c,acc.lookup x=some c)→∃ c,(clOf env l acc).lookup x=some c
 | [],_,_,h=>h
 | (n,k) :: r,acc,x,h=>by
  unfold clOf
  split
  ·split
   ·rename_i a e
    refine clOf_acc env r _ x ?_
    rw [List.lookup_cons]
    cases q:x == n with
    | true=>exact ⟨a,rfl⟩
    | false=>exact h
   ·exact clOf_acc env r acc x h
  ·exact clOf_acc env r acc x h
theorem clOf_has (env:Env):∀ (l:List (Str×NameKind)) (acc:List (Str×Addr)) (x:Str),l.lookup x=some NameKind.free→(∃ c,env.cells.lookup x=some c)→∃ c,(clOf env l acc).lookup x=some c
 | [],_,_,h,_=>by simp at h
 | (n,k) :: r,acc,x,h,hc=>by
  rw [List.lookup_cons] at h
  cases q:x == n with
  | true =>
   rw [q] at h
   have ek:k=NameKind.free:=Option.some.inj h
   have en:x=n:=eq_of_beq q
   subst ek en
   obtain ⟨c,e⟩:=hc
   unfold clOf
   rw [if_pos (by decide:(NameKind.free == NameKind.free)=true),e]
   refine clOf_acc env r _ x ⟨c,?_⟩
   rw [List.lookup_cons,q]
  | false =>
   rw [q] at h
   unfold clOf
   split
   ·split
    ·exact clOf_has env r _ x h hc
    ·exact clOf_has env r _ x h hc
   ·exact clOf_has env r _ x h hc
def lab (env:Env) (p:Str×NameKind):Str×NameKind:=if (p.2 == NameKind.free && env.scope.kind == .function && env.kindOf p.1 == some .cell) then (p.1,NameKind.cell) else (p.1,p.2)
theorem lab_eq (env:Env) (n:Str) (k:NameKind):lab env (n,k)=(n,if (k == NameKind.free && env.scope.kind == .function && env.kindOf n == some .cell) then NameKind.cell else k):=by
 unfold lab
 split <;> rfl
theorem relabel_names (scope:Scope) (env:Env):(relabel scope env).names=scope.names.map (lab env):=rfl
theorem relabel_lookup (env:Env):∀ (l:List (Str×NameKind)) (x:Str),
  (l.map (lab env)).lookup x=(l.lookup x).map fun k=>if (k == NameKind.free && env.scope.kind == .function && env.kindOf x == some .cell) then NameKind.cell else k
 | [],_=>rfl
 | (n,k) :: r,x=>by
  have ih:=relabel_lookup env r x
  rw [List.map_cons,lab_eq,List.lookup_cons,List.lookup_cons]
  cases q:x == n with
  | true =>
   have en:x=n:=eq_of_beq q
   subst en
   rfl
  | false=>exact ih
def compCx (X:Cx) (N':List Str) (scope:Scope) (C:Addr) (s₀:Shared) (H₀:Hp) (fp:List Addr) (pn:List (Addr×Obj)):Cx where
 prog:=X.prog
 w:=X.w
 K:=X.K
 mg:=X.mg
 base:=X.base
 A:=X.A
 N:=N'
 s₀:=s₀
 H₀:=H₀
 env:=compEnvC scope (clOf X.env scope.names []) C X.env
 outer:=X.stack
 stack:=X.stack
 ex:=fp
 fn:=fun _=>false
 calm:=X.calm
 pn:=pn
 xe:=fun _ _=>False
def pick (idx:List (Option Nat)) (σ:L2.St):L2.St:=idx.map fun o=>match o with | none=>none | some i=>(σ[i]?).getD none
structure CompOk (X:Cx) (scope:Scope) (N':List Str) (idx:List (Option Nat)):Prop where
 kind:scope.kind=.function
 cell:∀ y∈scope.names,y.2≠.cell
 names:∀ y∈scope.names,y.2=.local→scope.names.lookup y.1=some .local
 free:∀ y∈scope.names,y.2=.free→X.env.kindOf y.1=some .cell
 len:idx.length=N'.length
 idx:∀ p∈idx.zip N',∀ i,p.1=some i→X.N[i]?=some p.2∧X.env.kindOf p.2=some .cell∧scope.names.lookup p.2=some .free
def compB (osc scope:Scope) (ON N':List Str) (idx:List (Option Nat)):Bool :=
 (scope.kind == .function) && scope.names.all (fun y=>y.2 != .cell) && scope.names.all (fun y=>y.2 != .local || scope.names.lookup y.1 == some .local) &&
  scope.names.all (fun y=>y.2 != .free || osc.names.lookup y.1 == some .cell) && (idx.length == N'.length) &&
  (idx.zip N').all fun p=>match p.1 with | none=>true | some i=>(ON[i]? == some p.2) && (osc.names.lookup p.2 == some .cell) && (scope.names.lookup p.2 == some .free)
theorem compOk_of {X:Cx} {scope:Scope} {N':List Str} {idx:List (Option Nat)} (h:compB X.env.scope scope X.N N' idx=true):CompOk X scope N' idx:=by
 unfold compB at h
 simp only [Bool.and_eq_true,List.all_eq_true] at h
 obtain ⟨⟨⟨⟨⟨h1,h2⟩,h3⟩,h4⟩,h5⟩,h6⟩:=h
 refine ⟨by simpa using h1,fun y hy=>by simpa using h2 y hy,fun y hy e=>?_,fun y hy e=>?_,by simpa using h5,fun p hp i e=>?_⟩
 ·have:=h3 y hy
  rw [e] at this
  simpa using this
 ·have:=h4 y hy
  rw [e] at this
  show X.env.scope.names.lookup y.1=some .cell
  simpa using this
 ·have:=h6 p hp
  rw [e] at this
  simp only [Bool.and_eq_true] at this
  obtain ⟨⟨g1,g2⟩,g3⟩:=this
  exact ⟨by simpa using g1,by show X.env.scope.names.lookup p.2=some .cell; simpa using g2,by simpa using g3⟩
def CompW (J:It) (idx:List (Option Nat)) (g:TG) (tt:TT) (te:TE) (σ:L2.St) (H1:Hp) (D:Addr) (Q:VK):Prop :=
 ∃ W:Nat→Nat→L2.St→Hp→Prop,(∃ m,W 0 m (pick idx σ) (upd H1 D (.lst [])))∧∀ i m σ2 H2,W i m σ2 H2 →
  (J.stop i H2∧Q (.ref D) H2) ∨
  (J.go i H2∧∀ x H3,J.yld i H2 x H3→g x σ2 H3 fun σ4 H4=>tt σ4 H4 fun b H5 =>
   if b=true then te σ4 H5 fun v H6=>∃ ys,H6 D=some (.lst ys)∧ys.length < sizeLine∧∃ m',m' < m∧W (i + 1) m' σ4 (upd H6 D (.lst (ys ++ [v])))
   else ∃ m',m' < m∧W (i + 1) m' σ4 H5)
def tComp (wi:TI) (idx:List (Option Nat)) (g:TG) (tt:TT) (te:TE):TE:=fun σ H Q=>wi σ H fun J H1=>∀ D,H1 D=none→CompW J idx g tt te σ H1 D Q
def PTs (X:Cx) (ifs:List Expr) (t:TT):Prop :=
 ∀ (pins:List (Addr×Obj)) (s:Shared) (σ:L2.St) (H:Hp) (Q:Bool→Hp→Prop),Inv X pins σ H s→t σ H Q →
  wpAny (model X.prog X.w) X.A (forIn ifs true fun c r=>if r=true then do let ok ← isTrue c X.env (eval c X.env); pure (ForInStep.yield ok) else pure (ForInStep.yield r)) (TP X pins σ Q) X.xe s
def tYes:TT:=fun _ H Q=>Q true H
theorem pts_nil {X:Cx}:PTs X [] tYes:=fun pins s σ H Q I h=>wpAny_tests_nil ⟨H,I,h⟩
theorem comp_loop {prog:Program} {w:World} {A:Around} {elt target iter:Expr} {ifs:List Expr} {scope:Scope} {pos:Pos} {it acc:Value} {env:Env} {R:Result→Shared→Prop} {s:Shared} (I:Nat→Shared→Prop)
  (turn:∀ n s,I n s→wpAny (model prog w) A (pyNext it) (fun r s₁=>match r with
   | none=>R (.ok .next) s₁
   | some v=>wpAny (model prog w) A (letOwnedTupleGo target it v) (fun _ s₀=>wpAny (model prog w) A (assign target env v) (fun _ s₂ =>
     wpAny (model prog w) A (forIn ifs true fun c r=>if r=true then do let ok ← isTrue c env (eval c env); pure (ForInStep.yield ok) else pure (ForInStep.yield r)) (fun ok s₃ =>
      if ok=true then wpAny (model prog w) A (eval elt env) (fun x s₄ =>
       wpAny (model prog w) A (call (.builtin "list.append") [acc,x]) (fun _ s₅=>∃ m,m < n∧I m s₅) (fun _ _=>False) s₄) (fun _ _=>False) s₃
      else ∃ m,m < n∧I m s₃) (fun _ _=>False) s₂) (fun _ _=>False) s₀) (fun _ _=>False) s₁) (fun _ _=>False) s)
  (n:Nat) (h:I n s):codeAny (model prog w) A (.compLoop (.ListComp elt [⟨target,iter,ifs,0⟩] scope pos) 0 it acc env) R s:=by
 refine codeAny_loop rfl I (fun n s hI=>?_) n h
 show wpAny _ A ((compTurn (.ListComp elt [⟨target,iter,ifs,0⟩] scope pos) 0 it acc env).onRaise (fun x=>do noteFrame x env; theTreesLotGoes x)) _ _ s
 refine wpAny_noted (wpAny_mono (E:=fun _ _=>False) ?_ (fun _ _ q=>q) fun _ _ z=>z.elim)
 rw [compTurn_list]
 refine wpAny_bind (wpAny_standAt (wpAny_bind (wpAny_mono (turn n s hI) (fun r s₁ h₁=>?_) fun _ _ h'=>h')))
 cases r with
 | none=>exact wpAny_pure h₁
 | some v =>
  refine wpAny_bind (wpAny_mono h₁ (fun _ s₀ h₀'=>?_) fun _ _ h'=>h')
  refine wpAny_bind (wpAny_mono h₀' (fun _ s₂ h₂=>?_) fun _ _ h'=>h')
  refine wpAny_bind (wpAny_mono h₂ (fun ok s₃ h₃=>?_) fun _ _ h'=>h')
  cases ok with
  | false=>exact wpAny_pure ⟨rfl,h₃⟩
  | true =>
   exact wpAny_bind (wpAny_bind (wpAny_mono h₃ (fun x s₄ h₄=>wpAny_bind (wpAny_mono h₄ (fun _ s₅ h₅=>wpAny_pure (wpAny_pure ⟨rfl,h₅⟩)) fun _ _ h'=>h')) fun _ _ h'=>h'))
section
variable {X:Cx} {elt tg iter:Expr} {ifs:List Expr} {scope:Scope} {pos:Pos} {N':List Str} {idx:List (Option Nat)} {wi:TI} {g:TG} {tt:TT} {te:TE}
theorem comp_ok {pins:List (Addr×Obj)} {σ:L2.St} {H:Hp} {s:Shared} {C:Addr} {fp:List Addr} (S:CompOk X scope N' idx) (I:Inv X pins σ H s) (hC:s.heap.objs.size≤C) (hf:∀ b∈fp,FpOk X pins H b) (hlt:∀ b∈fp,b < s.heap.objs.size) (pn:List (Addr×Obj)) :
  (compCx X N' scope C s H fp pn).Ok:=by
 have sub:∀ x c,(clOf X.env scope.names []).lookup x=some c→X.env.cells.lookup x=some c:=fun x c e=>clOf_sub X.env scope.names [] (fun p hp=>(nomatch hp)) (x,c) (PySem.mem_of_lookup e)
 have cne:∀ x c,(clOf X.env scope.names []).lookup x=some c→c < s.heap.objs.size:=fun x c e=>by
  obtain ⟨v,q⟩:=I.cell x c (sub x c e)
  exact q.lt
 refine ⟨I.ok.mod,S.kind,I.ok.glob,I.ok.blt,hC,fun x y c h1 h2=>I.ok.inj x y c (sub _ _ h1) (sub _ _ h2),fun x hx=>?_,fun x c h _=>absurd h Bool.false_ne_true,I.ok.hd,I.ok.frames,.inl rfl,fun b hb=>⟨?_,fun x c e z=>?_⟩,I.bs,Nat.le_trans I.ok.bsz I.sz,fun b o e hb=>?_,fun b hb z=>?_,I.stack,I.stkFree⟩
 ·have hx':((relabel scope X.env).names.lookup x=some .cell)∨((relabel scope X.env).names.lookup x=some .free):=hx
  rw [relabel_names,relabel_lookup] at hx'
  have hfr:scope.names.lookup x=some .free:=by
   cases q:scope.names.lookup x with
   | none=>rw [q] at hx'; rcases hx' with z | z <;> cases z
   | some k =>
    rw [q] at hx'
    simp only [Option.map_some,Option.some.injEq] at hx'
    cases k with
    | free=>rfl
    | cell=>exact absurd rfl (S.cell _ (PySem.mem_of_lookup q))
    | _=>exfalso; rcases hx' with z | z <;> simp at z
  exact clOf_has X.env scope.names [] x hfr (I.ok.has x (.inl (S.free _ (PySem.mem_of_lookup hfr) rfl)))
 ·exact Nat.ne_of_lt (Nat.lt_of_lt_of_le (hlt b hb) hC)
 ·exact (hf b hb).2.2.2.2.1 x c (sub x c e) z
 ·rcases (hf b hb).2.2.2.1 with z | z
  ·exact I.ok.noex b o e z
  ·exact absurd (Nat.lt_of_lt_of_le (Heap.lt_size (I.ok.bs b o e).1) z) (Nat.lt_irrefl _)
 ·rcases List.mem_cons.mp (I.stkSub b z) with e | e
  ·exact (hf b hb).2.1 e
  ·exact (hf b hb).2.2.1 e
theorem pe_comp (S:CompOk X scope N' idx) (hclos:closureFor scope X.env=pure (clOf X.env scope.names [])) (hc:X.calm=true) (hi:PI X tg iter wi)
  (hg:∀ C s₀ H₀ fp pn,PG (compCx X N' scope C s₀ H₀ fp pn) tg g) (ht:∀ C s₀ H₀ fp pn,PTs (compCx X N' scope C s₀ H₀ fp pn) ifs tt) (he:∀ C s₀ H₀ fp pn,PE (compCx X N' scope C s₀ H₀ fp pn) elt te)
  (hs:∀ x,foldedSetIterable iter X.env x=pure x:=by intro _; rfl):PE X (.ListComp elt [⟨tg,iter,ifs,0⟩] scope pos) (tComp wi idx g tt te):=by
 intro pins s σ H Q I h
 rw [eval_ListComp]
 refine wpAny_comprehension_free (use:=none) rfl hs hclos S.kind S.names (thn (hi pins s σ H _ I h) fun xv s₁ h₁=>thn h₁ fun itv s₂ h₂=>?_)
 obtain ⟨it,fp,tn,J,H2,e,I2,T,st2,f2,hJ⟩:=h₂
 subst e
 obtain ⟨W,⟨m0,w0⟩,turn⟩:=hJ s₂.heap.objs.size (I2.hok.fresh (Nat.le_refl _))
 have hlt:∀ b∈fp,b < s₂.heap.objs.size:=fun b hb=>by
  obtain ⟨o,e,_⟩:=T.obj _ _ st2 b hb
  exact Heap.lt_size e
 refine wpAny_newObj_type (wpAny_newFunctionEnv S.cell (by intro y hy; simp at hy) (fun h₁ hns₁ hsb₁=>?_) S.kind)
 dsimp only at hns₁ hsb₁ ⊢
 generalize hH2:s₂.heap.push { cls:=.type "list",dict:=none,data:=.seq ([]:List Value).toArray }=P2 at hns₁ hsb₁ ⊢
 have hC:P2.objs.size=s₂.heap.objs.size + 1:=by rw [← hH2,Heap.size_push]
 have neC:∀ b:Addr,b < s₂.heap.objs.size→b≠P2.objs.size:=fun b hb=>Nat.ne_of_lt (by rw [hC]; exact Nat.lt_succ_of_lt hb)
 have neD:s₂.heap.objs.size≠P2.objs.size:=Nat.ne_of_lt (by rw [hC]; exact Nat.lt_succ_self _)
 have old:∀ b o,s₂.heap.get? b=some o→h₁.get? b=some o:=fun b o e =>
  hsb₁.extBut b o (neC b (Heap.lt_size e)) (Heap.get?_push_of_some _ (hH2 ▸ Heap.get?_push_of_some _ e))
 have hacc:h₁.get? s₂.heap.objs.size=some { cls:=.type "list",data:=.seq ([]:List Value).toArray } :=
  hsb₁.extBut _ _ neD (Heap.get?_push_of_some _ (hH2 ▸ Heap.get?_push_size _ rfl))
 have nD:H2 s₂.heap.objs.size=none:=I2.hok.fresh (Nat.le_refl _)
 have nC:H2 P2.objs.size=none:=I2.hok.fresh (by omega)
 have ok:=comp_ok (C:=P2.objs.size) S I2 (by omega) f2 hlt (X.pn ++ pins)
 have pinlt:∀ p∈X.pn ++ pins,p.1 < s₂.heap.objs.size:=fun p hp=>Heap.lt_size (I2.pin p hp).1
 have sub:∀ x c,(clOf X.env scope.names []).lookup x=some c→X.env.cells.lookup x=some c:=fun x c e=>clOf_sub X.env scope.names [] (fun p hp=>(nomatch hp)) (x,c) (PySem.mem_of_lookup e)
 have I3:Inv (compCx X N' scope P2.objs.size s₂ H2 fp (X.pn ++ pins)) [] (pick idx σ) (upd H2 s₂.heap.objs.size (.lst [])) { s₂ with heap:=h₁,toks:=s₂.toks + ([]:List (Str×Value)).length }:=by
  refine ⟨ok,rfl,I2.bare,?_,⟨_,hns₁,fun j x v h1 h2 h3=>?_⟩,fun x c e=>?_,?_,fun x c e=>?_,fun p hp=>?_,?_,?_⟩
  ·exact Un.laid old (Nat.le_refl _) nD
  ·have hj:j < idx.length:=by
    have:=(List.getElem?_eq_some_iff.mp h2).1
    unfold pick at this
    rwa [List.length_map] at this
   unfold pick at h2
   rw [List.getElem?_map,List.getElem?_eq_getElem hj] at h2
   have h2':=Option.some.inj h2
   cases q:idx[j] with
   | none=>rw [q] at h2'; cases h2'
   | some i =>
    have h2':(σ[i]?).getD none=some v:=by rw [q] at h2'; exact h2'
    have hmem:(idx[j],x)∈idx.zip N':=by
     refine List.mem_iff_getElem?.mpr ⟨j,?_⟩
     rw [List.getElem?_zip_eq_some]
     exact ⟨List.getElem?_eq_getElem hj,h1⟩
    obtain ⟨z1,z2,z3⟩:=S.idx _ hmem i q
    have hσ:σ[i]?=some (some v):=by
     cases r:σ[i]? with
     | none=>rw [r] at h2'; cases h2'
     | some y=>rw [r] at h2'; rw [show y=some v from h2']
    obtain ⟨m,hn,hl⟩:=I2.loc
    obtain ⟨u,ru,lk⟩:=hl i x v z1 hσ (.inr (.inl z2))
    refine ⟨u,ru,.inr ⟨.inl ?_,?_⟩⟩
    ·show (relabel scope X.env).names.lookup x=some .cell
     rw [relabel_names,relabel_lookup,z3,I2.ok.kind]
     simp [z2]
    ·obtain ⟨c,hcl⟩:=clOf_has X.env scope.names [] x z3 (I2.ok.has x (.inl z2))
     rcases lk with ⟨k1,_⟩ | ⟨_,c',e1,e2⟩
     ·rw [z2] at k1; cases k1
     ·refine ⟨c,hcl,?_⟩
      have e3:=sub x c hcl
      rw [e1] at e3
      cases e3
      obtain ⟨o,ho,hd⟩:=e2
      exact ⟨o,old _ _ ho,hd⟩
  ·obtain ⟨v,o,ho,hd⟩:=I2.cell x c (sub x c e)
   exact ⟨v,o,old _ _ ho,hd⟩
  ·show upd H2 _ _ P2.objs.size=none
   rw [upd_ne (Ne.symm neD)]; exact nC
  ·obtain ⟨v,q⟩:=I2.cell x c (sub x c e)
   rw [upd_ne (Nat.ne_of_lt q.lt)]
   exact I2.freeC x c (sub x c e)
  ·rw [List.append_nil] at hp
   obtain ⟨e,n,ne,nf,d⟩:=I2.pin p hp
   refine ⟨old _ _ e,?_,?_,fun z=>?_,d⟩
   ·rw [upd_ne (Nat.ne_of_lt (pinlt p hp))]; exact n
   ·exact neC _ (pinlt p hp)
   ·rcases List.mem_cons.mp (I2.stkSub _ z) with z | z
    ·exact ne z
    ·exact nf z
  ·exact I2.hok.laid old (Nat.le_refl _) ⟨Nat.zero_le _,[],0,.nil,hacc⟩
  ·show (pick idx σ).length=N'.length
   unfold pick
   rw [List.length_map]
   exact S.len
 have stat:∀ {pl:List (Addr×Obj)} {H':Hp},(∀ b∈fp,H' b=none)→(∀ p∈pl,p.1 ∉ fp)→∀ b∈fp,FpOk (compCx X N' scope P2.objs.size s₂ H2 fp (X.pn ++ pins)) pl H' b:=fun {pl H'} hn hp b hb=>by
  refine ⟨hn b hb,(ok.exf b hb).1,ok.exfs b hb,.inl hb,(ok.exf b hb).2,fun p hpp z=>?_⟩
  rcases List.mem_append.mp hpp with h1 | h1
  ·exact (f2 b hb).2.2.2.2.2 p h1 z
  ·exact hp p h1 (z ▸ hb)
 have loop:codeAny (model X.prog X.w) X.A (.compLoop (.ListComp elt [⟨tg,iter,ifs,0⟩] scope pos) 0 (.ref it) (.ref s₂.heap.objs.size) (compEnvC scope (clOf X.env scope.names []) P2.objs.size X.env))
   (compPost (model X.prog X.w) X.A X.xe none (EP X pins σ Q) (.ref s₂.heap.objs.size) P2.objs.size) { s₂ with heap:=h₁,toks:=s₂.toks + ([]:List (Str×Value)).length }:=by
  refine comp_loop (fun n s'=>∃ i σ' H',Inv (compCx X N' scope P2.objs.size s₂ H2 fp (X.pn ++ pins)) [] σ' H' s'∧tn i s'.heap∧(∀ b∈fp,H' b=none)∧W i n σ' H') ?_ m0
   ⟨0,_,_,I3,T.keep _ _ _ st2 fun b _ o e=>old b o e,fun b hb=>by rw [upd_ne (Nat.ne_of_lt (hlt b hb))]; exact (f2 b hb).1,w0⟩
  rintro n s3 ⟨i,σ3,H3,J3,st3,fr3,w3⟩
  rcases turn i n σ3 H3 w3 with ⟨stop,q⟩ | ⟨go,step⟩
  ·refine wpAny_mono (T.done (compCx X N' scope P2.objs.size s₂ H2 fp (X.pn ++ pins)) rfl rfl rfl hc i [] s3 σ3 H3 (fun _ _=>False) J3 (stat fr3 (fun _ z=>nomatch z)) st3 stop) (fun r s4 hr=>?_) fun _ _ z=>z
   obtain ⟨rfl,J4⟩:=hr
   obtain ⟨m,hn,_⟩:=J4.loc
   refine ⟨m,hn,fun h' hs'=>?_⟩
   have fC:H3 P2.objs.size=none:=J4.free
   have up:∀ b o,b≠P2.objs.size→s4.heap.get? b=some o→h'.get? b=some o:=fun b o hb e=>hs'.extBut b o hb e
   have un:Un (frs X.stack) fp H2 H3 s₂.heap h':=by
    have u:=J4.base
    refine ⟨fun b o e n1 h1 h2=>?_,fun b o e n1 h1 h2=>?_,u.free,fun b o e h2=>?_,u.tups,u.frzs,u.tbls⟩
    ·exact up b o (neC b (Heap.lt_size e)) (u.keep b o e n1 h1 h2)
    ·obtain ⟨sl,e1⟩:=u.slot b o e n1 h1 h2
     exact ⟨sl,up b _ (neC b (Heap.lt_size e)) e1⟩
    ·obtain ⟨o',e1⟩:=u.there b o e h2
     exact ⟨o',up b _ (neC b (Heap.lt_size e)) e1⟩
   have hok:HOk X.prog X.w H3 h':=fun b o e=>(J4.hok b o e).stay (fun c v hcc e1=>up c v (fun z=>by
    subst z
    rcases hcc with z | z
    ·subst z; rw [fC] at e; cases e
    ·rw [fC] at z; cases z) e1) (fun _ z=>z) fun _ _ z=>z
   refine ⟨.ref s₂.heap.objs.size,H3,?_,rfl,q⟩
   refine I2.call' (s':={ s4 with heap:=h' }) (ch:=fp) ?_ un hok J4.bare fun b hb=>?_
   ·exact J4.os
   ·obtain ⟨f0,f1,f2',f3,f4,f5⟩:=f2 b hb
    exact ⟨f3,f1,f4,f5⟩
  ·refine wpAny_mono (T.item (compCx X N' scope P2.objs.size s₂ H2 fp (X.pn ++ pins)) rfl rfl rfl hc i [] s3 σ3 H3 (fun _ _=>False) J3 (stat fr3 (fun _ z=>nomatch z)) st3 go) (fun r s4 hr=>?_) fun _ _ z=>z
   obtain ⟨u,rfl,h4⟩:=hr
   refine wpAny_mono h4 (fun _ s5 h5=>?_) fun _ _ z=>z
   obtain ⟨x,H5,J5,r5,y5,st5,fr5⟩:=h5
   have J5':=J5.pinned (stat fr5 (fun _ z=>nomatch z)) (T.obj _ _ st5)
   refine wpAny_mono (hg _ _ _ _ _ _ s5 σ3 H5 x u _ J5' r5 (step x H5 y5)) (fun _ s6 h6=>?_) fun _ _ z=>z
   obtain ⟨σ6,H6,J6,q6⟩:=h6
   have again:∀ {s9:Shared} {σ9:L2.St} {H9:Hp},Inv (compCx X N' scope P2.objs.size s₂ H2 fp (X.pn ++ pins)) ([] ++ pinsAt fp s5.heap) σ9 H9 s9→(∃ m',m' < n∧W (i + 1) m' σ9 H9) →
     ∃ m,m < n∧∃ i σ' H',Inv (compCx X N' scope P2.objs.size s₂ H2 fp (X.pn ++ pins)) [] σ' H' s9∧tn i s9.heap∧(∀ b∈fp,H' b=none)∧W i m σ' H':=fun {s9 σ9 H9} J9 hw=>by
    obtain ⟨m',hm,w9⟩:=hw
    refine ⟨m',hm,i + 1,σ9,H9,J9.unpinned,T.keep _ _ _ st5 fun b hb o e=>(J9.pin (b,o) (List.mem_append_right _ (List.mem_append_right _ (mem_pinsAt hb e)))).1,fun b hb=>?_,w9⟩
    obtain ⟨o,e,d⟩:=T.obj _ _ st5 b hb
    exact (J9.pin (b,o) (List.mem_append_right _ (List.mem_append_right _ (mem_pinsAt hb e)))).2.1
   refine wpAny_mono (ht _ _ _ _ _ _ s6 σ6 H6 _ J6 q6) (fun ok' s7 h7=>?_) fun _ _ z=>z
   obtain ⟨H7,J7,q7⟩:=h7
   cases ok' with
   | false=>exact again J7 q7
   | true =>
    refine wpAny_mono (he _ _ _ _ _ _ s7 σ6 H7 _ J7 q7) (fun xv2 s8 h8=>?_) fun _ _ z=>z
    obtain ⟨v,H8,J8,r8,ys,hD,hz,hw⟩:=h8
    refine wpAny_mono (mt_append (X:=compCx X N' scope P2.objs.size s₂ H2 fp (X.pn ++ pins)) _ s8 σ6 H8 (.ref s₂.heap.objs.size) [v] (.ref s₂.heap.objs.size) [xv2] (fun _ H9=>∃ m',m' < n∧W (i + 1) m' σ6 H9) J8 rfl (.cons r8 .nil) ⟨_,ys,v,rfl,rfl,hD,hz,hw⟩) (fun _ s9 h9=>?_) fun _ _ z=>z
    obtain ⟨_,H9,J9,_,q9⟩:=h9
    exact again J9 q9
 exact codeAny_compStart_list loop (T.self X.A 0 _ _ _ (T.keep _ _ _ st2 fun b _ o e=>old b o e) loop)
end
def Its (x:Str):It:=⟨fun i _=>i < x.cps.size,fun i H v H'=>H'=H∧∃ c,x.cps[i]?=some c∧v=.str ⟨#[c]⟩,fun i _=>i=x.cps.size⟩
theorem turn_str {P:Program} {w:World} {K:PySem.W.Frag} {tg:Expr} {T:String} {x:Str} {t:Tok} {it:Addr}
  (W:∀ A:Around,A.handled=none→Walks P w A it [it] [it] x.cps.size (SignAt x) (fun i h=>h.IsStrIter it T x t i))
  (hT:["enumerate","zip","dict_itemiterator","dict_reverseitemiterator","odict_iterator","itertools.zip_longest","itertools.pairwise"].contains T=false)
  (hs:∀ (A:Around) (i:Nat) (s:Shared) (Q:Value→Shared→Prop) (E:Value→Shared→Prop),s.heap.IsStrIter it T x t i→Q (.ref it) s→wpAny (model P w) A (pyIter (.ref it)) Q E s) :
  Turn P w K tg (Its x) [it] it (fun i h=>h.IsStrIter it T x t i) where
 mem:=by simp
 obj:=fun i h st b hb=>by
  have e:b=it:=by simpa using hb
  subst e
  obtain ⟨o,e,c,d⟩:=st
  exact ⟨o,e,fun v z=>by rw [d] at z; cases z⟩
 keep:=fun i h h' st k=>let ⟨o,ho,r⟩:=st; ⟨o,k it (by simp) o ho,r⟩
 item:=by
  intro X hP hw hK hc i pins s σ H E I hf st hg
  subst hP hw hK
  obtain ⟨f0,f1,f2,f3,f4,f5⟩:=hf it (by simp)
  refine (W X.A (I.ok.hd hc)).item i s _ _ hg st fun v h' tk hv st' kk=>?_
  obtain ⟨c,u,hc',rfl⟩:=hv
  have I1:Inv X pins σ H { s with heap:=h',toks:=tk }:=I.turned (fun b o hb e=>kk b o (by simpa using hb) e) f0 f1 f3 f4 f5
  obtain ⟨o,e,c2,d2⟩:=id st'
  exact ⟨_,rfl,go_of (s:={ s with heap:=h',toks:=tk }) e c2 d2 hT ⟨.str ⟨#[c]⟩,H,I1,⟨u,rfl⟩,⟨rfl,c,hc',rfl⟩,st',fun b hb=>(hf b hb).1⟩⟩
 done:=by
  intro X hP hw hK hc i pins s σ H E I hf st hg
  subst hP hw hK
  obtain ⟨f0,f1,f2,f3,f4,f5⟩:=hf it (by simp)
  have e:i=x.cps.size:=hg
  subst e
  exact (W X.A (I.ok.hd hc)).done s _ _ st fun h' tk kk=>⟨rfl,I.turned (t':=tk) (fun b o hb e=>kk b o (by simpa using hb) e) f0 f1 f3 f4 f5⟩
 self:=fun A i s Q E st h=>hs A i s Q E st h
def iStr (tl:TE):TI:=fun σ H R=>tl σ H fun x H1=>∃ z,x=.str z∧R (Its z) H1
theorem pi_str {X:Cx} {tg l:Expr} {tl:TE} (hl:PE X l tl):PI X tg l (iStr tl):=by
 intro pins s σ H R I h
 refine thn (hl pins s σ H _ I h) fun v s1 ⟨y,H1,I1,r1,q1⟩=>?_
 obtain ⟨z,e,q⟩:=q1
 subst e
 obtain ⟨t,rfl⟩:=r1
 cases ha:z.cps.all (· < 128)
 ·refine wpAny_pyIter_wide ha ?_
  refine ⟨s1.heap.objs.size,[s1.heap.objs.size],_,_,H1,rfl,I1.kept (t':=s1.toks) fun b o e=>Heap.get?_push_of_some _ e,
   turn_str (T:="str_iterator") (t:=t) (fun A hA=>Walks.strWide hA _ z t) (by decide) (fun A i s Q E st h=>wpAny_pyIter_striter_wide st h),⟨_,Heap.get?_push_size _ rfl,rfl,rfl⟩,fun b hb=>?_,q⟩
  have e:b=s1.heap.objs.size:=by simpa using hb
  subst e
  exact I1.fpOk (Nat.le_refl _) (I1.hok.fresh (Nat.le_refl _))
 ·refine wpAny_pyIter_ascii ha ?_
  refine ⟨s1.heap.objs.size,[s1.heap.objs.size],_,_,H1,rfl,I1.kept (t':=s1.toks) fun b o e=>Heap.get?_push_of_some _ e,
   turn_str (T:="str_ascii_iterator") (t:=t) (fun A hA=>Walks.strAscii hA _ z t) (by decide) (fun A i s Q E st h=>wpAny_pyIter_striter_ascii st h),⟨_,Heap.get?_push_size _ rfl,rfl,rfl⟩,fun b hb=>?_,q⟩
  have e:b=s1.heap.objs.size:=by simpa using hb
  subst e
  exact I1.fpOk (Nat.le_refl _) (I1.hok.fresh (Nat.le_refl _))
theorem op_leS {X:Cx}:OpR X (compareOp .LtE) (fun x y H Q=>∃ i j,x=.str i∧y=.str j∧Q (.bl (!decide (j.cps.toList < i.cps.toList))) H):=by
 intro pins s σ H x y v u Q I rx ry h
 obtain ⟨i,j,rfl,rfl,q⟩:=h
 obtain ⟨t,rfl⟩:=rx
 obtain ⟨t',rfl⟩:=ry
 exact PySem.P.le_str (fin_bl I q rfl)
theorem sl_str {X:Cx}:SlR X (fun x lo hi H Q=>∃ z,x=.str z∧z.length≤sizeLine∧Q (.str (Txt.slice z lo hi)) H):=by
 intro pins s σ H x v vl vu lo hi sl Q I rx hs pl pu h
 obtain ⟨z,rfl,hz,q⟩:=h
 obtain ⟨t,rfl⟩:=rx
 have part:∀ {v:Value} {o:Option Int},IsPart v o→∃ l:Option (Int×Tok),v=partValue l∧l.map (·.1)=o:=fun p=>by
  cases p with
  | none=>exact ⟨none,rfl,rfl⟩
  | int i t=>exact ⟨some (i,t),rfl,rfl⟩
 obtain ⟨l,e1,e2⟩:=part pl
 obtain ⟨u,e3,e4⟩:=part pu
 subst e1 e2 e3 e4
 refine ⟨"str",_,PySem.F.slot_str_getitem.lookup,typeIs_str _ _ _,?_⟩
 refine wpAny_getItem_str_slice (l:=l) (u:=u) (st:=none) hs rfl (post_val_or_str ⟨Nat.le_trans (Txt.slice_le z _ _) hz,fun t' k=>⟨.str _,H,I.tok k,⟨t',rfl⟩,q⟩⟩)
theorem strsAre_of:∀ {ys:List Str} {us:List Value},Vals (ys.map V.str) us→StrsAre us ys
 | [],us,r=>by rw [List.map_nil] at r; cases r; exact .nil
 | y :: ys,us,r=>by
  rw [List.map_cons] at r
  cases r with
  | cons r1 r2 =>
   obtain ⟨t,e⟩:=r1
   subst e
   exact .cons y t (strsAre_of r2)
theorem mt_join {X:Cx}:MtR X "str.join" (fun x vs H Q=>∃ z p ys,x=.str z∧vs=[.ref p]∧SqL X.K H p (List.map V.str ys)∧(ys.map (·.length)).sum + ys.length * z.length≤16777216∧Q (.str (Txt.join z ys)) H):=by
 intro pins s σ H x vs v us Q I rx rv h
 obtain ⟨z,p,ys,rfl,rfl,hp,hz,q⟩:=h
 obtain ⟨t,rfl⟩:=rx
 obtain ⟨u,rfl,ru⟩:=vals1 rv
 have e:u=Value.ref p:=ru
 subst e
 obtain ⟨its,r,pl,_⟩:=I.list hp
 exact join_list pl.isList (strsAre_of r) hz fun t' k=>⟨.str _,H,I.tok k,⟨t',rfl⟩,q⟩
def trB (bs:List Bool) (j:Nat):Bool:=(bs[j]?).getD true
theorem trB_all (bs:List Bool):(List.range bs.length).all (trB bs)=bs.all id:=by
 rw [Bool.eq_iff_iff,List.all_eq_true,List.all_eq_true]
 constructor
 ·intro h x hx
  obtain ⟨j,hj⟩:=List.mem_iff_getElem?.mp hx
  have q:=h j (List.mem_range.mpr (List.getElem?_eq_some_iff.mp hj).1)
  unfold trB at q
  rw [hj] at q
  exact q
 ·intro h j hj
  have hj':=List.mem_range.mp hj
  unfold trB
  rw [List.getElem?_eq_getElem hj']
  exact h _ (List.getElem_mem hj')
theorem call_all {X:Cx} (hc:X.calm=true):CallR X (.builtin "all") (fun xs H Q=>∃ p bs,xs=[.ref p]∧SqL X.K H p (List.map V.bl bs)∧Q (.bl (bs.all id)) H):=by
 intro pins s σ H xs us Q I r h
 obtain ⟨p,bs,rfl,hp,q⟩:=h
 obtain ⟨u,rfl,ru⟩:=vals1 r
 have e:u=Value.ref p:=ru
 subst e
 obtain ⟨its,rv,pl,_⟩:=I.list hp
 have hlen:=rv.length
 rw [List.length_map] at hlen
 have hpl:p < s.heap.objs.size:=by
  obtain ⟨o,n,e,_⟩:=pl
  exact Heap.lt_size e
 refine call_all_walk (wpAny_pyIter_list pl.isList ?_)
 refine ⟨s.heap.objs.size,_,_,_,_,_,trB bs,rfl,Walks.list (A:=X.A.in1) (I.ok.hd hc) s.heap.objs.size p (Nat.ne_of_lt hpl) its.toArray,
  ⟨⟨_,Heap.get?_push_size _ rfl,rfl,rfl⟩,pl.isList.push _⟩,?_,fun h' tk kk=>?_⟩
 ·intro i v s' Q' E' hi hq
  have hi':its[i]?=some v:=by simpa using hi
  have hlt:i < bs.length:=by rw [hlen]; exact (List.getElem?_eq_some_iff.mp hi').1
  obtain ⟨w',hw,rw'⟩:=rv.get (i:=i) (x:=.bl bs[i]) (by rw [List.getElem?_map,List.getElem?_eq_getElem hlt]; rfl)
  rw [hi'] at hw
  cases hw
  have e:v=Value.bool bs[i]:=rw'
  subst e
  unfold trB at hq
  rw [List.getElem?_eq_getElem hlt] at hq
  exact wpAny_truthy_bool hq
 ·refine ⟨.bl (bs.all id),H,I.kept (t':=tk) fun b o e=>kk b o (by simpa using Nat.ne_of_lt (Heap.lt_size e)) (Heap.get?_push_of_some _ e),?_,q⟩
  have e:its.toArray.size=bs.length:=by rw [List.size_toArray]; exact hlen.symm
  rw [e,trB_all bs]
  rfl
theorem comp_n {J:It} {n:Nat} {idx:List (Option Nat)} {g:TG} {tt:TT} {te:TE} {σ:L2.St} {H1:Hp} {D:Addr} {Q:VK} (Pv:Nat→L2.St→Hp→Prop)
  (h0:Pv 0 (pick idx σ) (upd H1 D (.lst []))) (hgo:∀ i σ2 H2,i < n→Pv i σ2 H2→J.go i H2) (hstop:∀ σ2 H2,Pv n σ2 H2→J.stop n H2∧Q (.ref D) H2)
  (hs:∀ i σ2 H2,i < n→Pv i σ2 H2→∀ x H3,J.yld i H2 x H3→g x σ2 H3 fun σ4 H4=>tt σ4 H4 fun b H5 =>
   if b=true then te σ4 H5 fun v H6=>∃ ys,H6 D=some (.lst ys)∧ys.length < sizeLine∧Pv (i + 1) σ4 (upd H6 D (.lst (ys ++ [v]))) else Pv (i + 1) σ4 H5) :
  CompW J idx g tt te σ H1 D Q:=by
 refine ⟨fun i m σ H=>m=n - i∧i≤n∧Pv i σ H,⟨n,by simp,Nat.zero_le _,h0⟩,?_⟩
 rintro i m σ2 H2 ⟨rfl,hi,p⟩
 by_cases hlt:i < n
 ·refine .inr ⟨hgo i σ2 H2 hlt p,fun x H3 y=>?_⟩
  have key:∀ (σ':L2.St) (H':Hp),(∃ m',m' < n - i∧m'=n - (i + 1)∧i + 1≤n∧Pv (i + 1) σ' H')=Pv (i + 1) σ' H':=fun σ' H' =>
   propext ⟨fun ⟨_,_,_,_,q⟩=>q,fun q=>⟨n - (i + 1),by omega,rfl,hlt,q⟩⟩
  simp only [key]
  exact hs i σ2 H2 hlt p x H3 y
 ·have e:i=n:=by omega
  subst e
  exact .inl (hstop σ2 H2 p)
theorem atI_of {α:Type} {xs:List α} {m:Int} (h0:0≤m) (h1:m < xs.length):∃ c,atI xs m=some c∧c∈xs:=by
 obtain ⟨j,rfl⟩:=Int.eq_ofNat_of_zero_le h0
 have hj:j < xs.length:=by omega
 exact ⟨xs[j],atI_nat (List.getElem?_eq_getElem hj),List.getElem_mem hj⟩
theorem app_len (a b:Str):(a ++ b).length=a.length + b.length:=by
 show (a.cps ++ b.cps).size=_
 exact Array.size_append
theorem len_cps (a:Str):a.length=a.cps.toList.length:=by
 show a.cps.size=_
 rw [Array.length_toList]
theorem lt1 (a b:Nat):decide (([a]:List Nat) < [b])=decide (a < b):=by
 rw [decide_eq_decide]
 simp [List.cons_lt_cons_iff]
def okSign (c:Nat):Bool:=decide (97≤c) && decide (c≤122)
def colB:V→Bool
 | .str z=>decide (1≤z.length) && decide (z.length≤8) && z.cps.toList.all okSign
 | _=>false
theorem cps_a:("a":Str).cps.toList=[97]:=by decide +kernel
theorem cps_z:("z":Str).cps.toList=[122]:=by decide +kernel
theorem cmulR {i j:Int} (h1:-(2 ^ 64) < j) (h2:j < 2 ^ 64):CMul i j:=Or.inr ⟨h1,h2⟩
section
variable {rest:List Expr} {env:Env}
theorem se_name {x p}:starEach (.Name x p :: rest) env=(false,eval (.Name x p) env) :: starEach rest env:=rfl
theorem se_const {c k p}:starEach (.Constant c k p :: rest) env=(false,eval (.Constant c k p) env) :: starEach rest env:=rfl
theorem se_sub {a b p}:starEach (.Subscript a b p :: rest) env=(false,eval (.Subscript a b p) env) :: starEach rest env:=rfl
theorem se_call {f a k p}:starEach (.Call f a k p :: rest) env=(false,eval (.Call f a k p) env) :: starEach rest env:=rfl
theorem se_bin {a o b p}:starEach (.BinOp a o b p :: rest) env=(false,eval (.BinOp a o b p) env) :: starEach rest env:=rfl
theorem se_tup {l k p}:starEach (.Tuple l k p :: rest) env=(false,eval (.Tuple l k p) env) :: starEach rest env:=rfl
theorem se_list {l p}:starEach (.List l p :: rest) env=(false,eval (.List l p) env) :: starEach rest env:=rfl
theorem se_comp {e g s p}:starEach (.ListComp e g s p :: rest) env=(false,eval (.ListComp e g s p) env) :: starEach rest env:=rfl
theorem se_un {o a p}:starEach (.UnaryOp o a p :: rest) env=(false,eval (.UnaryOp o a p) env) :: starEach rest env:=rfl
end
section
variable {X:Cx} {e:Expr} {es:List Expr} {te:TE} {t:TA} {pos:Pos}
theorem pac (ha:PE X e te) (hr:PA X es t) (hs:starEach (e :: es) X.env=(false,eval e X.env) :: starEach es X.env:=by
  first | exact se_name | exact se_const | exact se_sub | exact se_call | exact se_bin | exact se_tup | exact se_list | exact se_dict | exact se_comp | exact se_attr | exact se_cmp | exact se_bool | exact se_un | exact se_if) :
  PA X (e :: es) (tCons te t):=pa_cons ha hr hs
variable {CX:CXT} {k:Nat} {f:Addr} {fd:FuncData} {ps:List Str} {sp:Sp} {dvs:List V} {ds:List Value} {E:XK} {x:Str} {p:Pos}
theorem pec (F:FnOk X.prog X.w X.K X.mg X.base CX k f fd ps sp) (hr:Room k X.A) (hg:Gl X x) (hm:X.mg x=some (.ref f)) (hk:PySem.W.keepIn X.K (.ref f)=true) (hb:Binds X.K fd ps ds) (hd:Vals dvs ds) (hx:Passes CX X E)
  (ha:PA X (e :: es) t) (hdb:(x == ("__debug__":Str))=false:=by decide)
  (he:starEach (e :: es) X.env=(false,eval e X.env) :: starEach es X.env:=by
   first | exact se_name | exact se_const | exact se_sub | exact se_call | exact se_bin | exact se_tup | exact se_list | exact se_dict | exact se_comp | exact se_attr | exact se_cmp | exact se_bool | exact se_un | exact se_if)
  (hpl:(backTo pos (starEach es X.env)).any (·.1)=false:=by rfl):PE X (.Call (.Name x p) (e :: es) [] pos) (tCall sp dvs E t):=pe_call F hr hg hm hk hb hd hx ha hdb he hpl
end
end BF
namespace BF
open PySem PySem.Spec PyProof.Rows L2 PySem.SeqAt
inductive Dt where
 | int (i:Int)
 | str (x:Str)
 | tup (l:List Dt)
mutual
def Dt.beq:Dt→Dt→Bool
 | .int i,.int j=>i == j
 | .str x,.str y=>x == y
 | .tup l,.tup m=>Dt.beqs l m
 | _,_=>false
def Dt.beqs:List Dt→List Dt→Bool
 | [],[]=>true
 | a :: l,b :: m=>Dt.beq a b && Dt.beqs l m
 | _,_=>false
end
mutual
theorem Dt.beq_iff:∀ a b:Dt,Dt.beq a b=true↔a=b
 | .int i,.int j=>by simp [Dt.beq]
 | .str x,.str y=>by simp [Dt.beq]
 | .tup l,.tup m=>by simp [Dt.beq,Dt.beqs_iff l m]
 | .int i,.str y=>by simp [Dt.beq]
 | .int i,.tup m=>by simp [Dt.beq]
 | .str x,.int j=>by simp [Dt.beq]
 | .str x,.tup m=>by simp [Dt.beq]
 | .tup l,.int j=>by simp [Dt.beq]
 | .tup l,.str y=>by simp [Dt.beq]
theorem Dt.beqs_iff:∀ l m:List Dt,Dt.beqs l m=true↔l=m
 | [],[]=>by simp [Dt.beqs]
 | a :: l,b :: m=>by simp [Dt.beqs,Dt.beq_iff a b,Dt.beqs_iff l m]
 | [],b :: m=>by simp [Dt.beqs]
 | a :: l,[]=>by simp [Dt.beqs]
end
theorem Dt.beq_self (a:Dt):Dt.beq a a=true:=(Dt.beq_iff a a).mpr rfl
mutual
def Dt.dp:Dt→Nat
 | .int _=>0
 | .str _=>0
 | .tup l=>Dt.dps l + 1
def Dt.dps:List Dt→Nat
 | []=>0
 | a :: l=>max (Dt.dp a) (Dt.dps l)
end
mutual
inductive DtIs (H:Hp):V→Dt→Prop where
 | int (i:Int):DtIs H (.int i) (.int i)
 | str (x:Str):DtIs H (.str x) (.str x)
 | tup {a:Addr} {xs:List V} {ds:List Dt} (e:H a=some (.tup xs)) (h:DtsIs H xs ds):DtIs H (.ref a) (.tup ds)
inductive DtsIs (H:Hp):List V→List Dt→Prop where
 | nil:DtsIs H [] []
 | cons {v:V} {d:Dt} {vs:List V} {ds:List Dt} (h:DtIs H v d) (t:DtsIs H vs ds):DtsIs H (v :: vs) (d :: ds)
end
mutual
theorem DtIs.inj {H:Hp}:∀ {d:Dt} {v:V} {d':Dt},DtIs H v d→DtIs H v d'→d=d'
 | .int i,_,d',.int _,h=>by cases h; rfl
 | .str x,_,d',.str _,h=>by cases h; rfl
 | .tup ds,_,d',.tup e q,h=>by
  cases h with
  | tup e2 q2 =>
   rw [e] at e2
   cases e2
   rw [DtsIs.inj q q2]
theorem DtsIs.inj {H:Hp}:∀ {ds:List Dt} {vs:List V} {ds':List Dt},DtsIs H vs ds→DtsIs H vs ds'→ds=ds'
 | [],_,_,.nil,h=>by cases h; rfl
 | d :: ds,_,_,.cons q t,h=>by
  cases h with
  | cons q2 t2=>rw [DtIs.inj q q2,DtsIs.inj t t2]
end
mutual
theorem DtIs.same {H H':Hp} (S:Same H H'):∀ {d:Dt} {v:V},DtIs H v d→DtIs H' v d
 | .int i,_,.int _=>.int i
 | .str x,_,.str _=>.str x
 | .tup ds,_,.tup e q=>.tup (S _ _ e) (DtsIs.same S q)
theorem DtsIs.same {H H':Hp} (S:Same H H'):∀ {ds:List Dt} {vs:List V},DtsIs H vs ds→DtsIs H' vs ds
 | [],_,.nil=>.nil
 | d :: ds,_,.cons q t=>.cons (DtIs.same S q) (DtsIs.same S t)
end
theorem DtsIs.length {H:Hp}:∀ {ds:List Dt} {vs:List V},DtsIs H vs ds→vs.length=ds.length
 | [],_,.nil=>rfl
 | d :: ds,_,.cons q t=>by rw [List.length_cons,List.length_cons,DtsIs.length t]
def itEq (ds ds':List Dt) (j:Nat):Bool:=match ds[j]?,ds'[j]? with
 | some a,some b=>Dt.beq a b
 | _,_=>true
theorem all_itEq:∀ ds ds':List Dt,((List.range (min ds.length ds'.length)).all (itEq ds ds') && ds.length == ds'.length)=Dt.beqs ds ds'
 | [],[]=>rfl
 | [],b :: m=>by simp [Dt.beqs]
 | a :: l,[]=>by simp [Dt.beqs]
 | a :: l,b :: m=>by
  have ih:=all_itEq l m
  rw [List.length_cons,List.length_cons,Nat.succ_min_succ,List.range_succ_eq_map,List.all_cons,List.all_map]
  have e0:itEq (a :: l) (b :: m) 0=Dt.beq a b:=rfl
  have e1:(itEq (a :: l) (b :: m) ∘ Nat.succ)=itEq l m:=by
   funext j
   simp [itEq]
  rw [e0,e1]
  show _=(Dt.beq a b && Dt.beqs l m)
  rw [← ih,Bool.and_assoc]
  simp
section
variable {X:Cx} {pins:List (Addr×Obj)} {σ:L2.St} {H:Hp} {s:Shared}
theorem dp_at:∀ {ds:List Dt} {j:Nat} {d:Dt},ds[j]?=some d→d.dp≤Dt.dps ds
 | [],j,d,e=>by simp at e
 | a :: l,0,d,e=>by
  have e':=Option.some.inj e
  subst e'
  simp only [Dt.dps]
  omega
 | a :: l,j + 1,d,e=>by
  have:=dp_at (ds:=l) (j:=j) (d:=d) (by simpa using e)
  simp only [Dt.dps]
  omega
theorem rel_at:∀ {ds:List Dt} {vs:List V} {us:List Value},DtsIs H vs ds→Vals vs us→∀ {j:Nat} {u:Value},us[j]?=some u→∃ v d,ds[j]?=some d∧DtIs H v d∧RelV v u
 | _,_,_,.nil,.nil,j,u,e=>by simp at e
 | _,_,_,.cons h t,.cons r rs,0,u,e=>by
  have e':=Option.some.inj e
  subst e'
  exact ⟨_,_,rfl,h,r⟩
 | _,_,_,.cons h t,.cons r rs,j + 1,u,e=>by
  obtain ⟨v,d,a,b,c⟩:=rel_at t rs (j:=j) (u:=u) (by simpa using e)
  exact ⟨v,d,by simpa using a,b,c⟩
theorem eqAt_n (I:Inv X pins σ H s) (n:Nat):∀ {d d':Dt} {v v':V} {u u':Value} (A:Around),d.dp≤n→DtIs H v d→RelV v u→DtIs H v' d'→RelV v' u'→A.units + n < cLine→EqAt A s u u' (Dt.beq d d'):=by
 induction n with
 | zero =>
  intro d d' v v' u u' A hn h r h' r' hu
  cases h with
  | int i =>
   obtain ⟨t,rfl⟩:=r
   cases h' with
   | int j=>obtain ⟨t',rfl⟩:=r'; exact EqAt.int_int i t j t'
   | str y=>obtain ⟨t',rfl⟩:=r'; exact EqAt.int_str i t y t'
   | tup e q=>cases r'; obtain ⟨its,_,p,_⟩:=I.tuple (SqT.of e); exact EqAt.int_tuple i t p hu
  | str x =>
   obtain ⟨t,rfl⟩:=r
   cases h' with
   | int j=>obtain ⟨t',rfl⟩:=r'; exact EqAt.str_int x t j t'
   | str y=>obtain ⟨t',rfl⟩:=r'; exact EqAt.str_str x t y t'
   | tup e q=>cases r'; obtain ⟨its,_,p,_⟩:=I.tuple (SqT.of e); exact EqAt.str_tuple x t p hu
  | tup e q=>simp only [Dt.dp] at hn; omega
 | succ n ih =>
  intro d d' v v' u u' A hn h r h' r' hu
  by_cases h0:d.dp≤n
  ·exact ih A h0 h r h' r' (by omega)
  cases h with
  | int i=>simp only [Dt.dp] at h0; omega
  | str x=>simp only [Dt.dp] at h0; omega
  | @tup a xs l e q =>
   cases r
   cases h' with
   | int j=>obtain ⟨t',rfl⟩:=r'; obtain ⟨its,_,p,_⟩:=I.tuple (SqT.of e); exact EqAt.tuple_int j t' p (by omega)
   | str y=>obtain ⟨t',rfl⟩:=r'; obtain ⟨its,_,p,_⟩:=I.tuple (SqT.of e); exact EqAt.tuple_str y t' p (by omega)
   | @tup b ys m e' q' =>
    cases r'
    by_cases hab:a=b
    ·subst hab
     have z:=DtIs.inj (DtIs.tup e q) (DtIs.tup e' q')
     rw [z,Dt.beq_self]
     exact EqAt.same _
    ·obtain ⟨its,rv,p,_⟩:=I.tuple (SqT.of e)
     obtain ⟨its',rv',p',_⟩:=I.tuple (SqT.of e')
     have n1:its.toArray.size=l.length:=by rw [List.size_toArray,← rv.length,q.length]
     have n2:its'.toArray.size=m.length:=by rw [List.size_toArray,← rv'.length,q'.length]
     simp only [Dt.dp] at hn
     have R:=RcAt.tuples (A:=A) (s:=s) (e:=itEq l m) p p' (by omega) (fun j h1 h2=>by
      obtain ⟨v1,d1,a1,b1,c1⟩:=rel_at q rv (j:=j) (u:=its.toArray[j]) (by simp)
      obtain ⟨v2,d2,a2,b2,c2⟩:=rel_at q' rv' (j:=j) (u:=its'.toArray[j]) (by simp)
      have z:itEq l m j=Dt.beq d1 d2:=by unfold itEq; rw [a1,a2]
      rw [z]
      exact ih A.in1 (by have:=dp_at a1; omega) b1 c1 b2 c2 (by show A.units + 1 + _ < _; omega))
     rw [n1,n2,all_itEq] at R
     exact EqAt.of_refs hab R
theorem eqAt_D (I:Inv X pins σ H s) {d d':Dt} {v v':V} {u u':Value} (A:Around) (h:DtIs H v d) (r:RelV v u) (h':DtIs H v' d') (r':RelV v' u') (hu:A.units + d.dp < cLine):EqAt A s u u' (Dt.beq d d'):=eqAt_n I _ A (Nat.le_refl _) h r h' r' hu
theorem eqsAt_D (I:Inv X pins σ H s) {ds ds':List Dt} {vs vs':List V} {us us':List Value} (A:Around) (q:DtsIs H vs ds) (rv:Vals vs us) (q':DtsIs H vs' ds') (rv':Vals vs' us') (hu:A.units + Dt.dps ds < cLine)
  (j:Nat) (u u':Value) (e:us[j]?=some u) (e':us'[j]?=some u'):EqAt A s u u' (itEq ds ds' j):=by
 obtain ⟨v1,d1,a1,b1,c1⟩:=rel_at q rv e
 obtain ⟨v2,d2,a2,b2,c2⟩:=rel_at q' rv' e'
 have z:itEq ds ds' j=Dt.beq d1 d2:=by unfold itEq; rw [a1,a2]
 rw [z]
 exact eqAt_n I _ A (dp_at a1) b1 c1 b2 c2 hu
end
end BF
namespace BF
open PySem PySem.Spec PyProof.Rows L2
def two (H:Hp) (q:Addr) (p:Int×Int):Prop:=H q=some (.tup [.int p.1,.int p.2])
end BF
namespace BF
open PySem PyProof.Rows
mutual
def Dt.blt:Dt→Dt→Bool
 | .int i,.int j=>decide (i < j)
 | .int _,.str _=>true
 | .int _,.tup _=>true
 | .str _,.int _=>false
 | .str x,.str y=>decide (x.cps.toList < y.cps.toList)
 | .str _,.tup _=>true
 | .tup _,.int _=>false
 | .tup _,.str _=>false
 | .tup l,.tup m=>Dt.blts l m
def Dt.blts:List Dt→List Dt→Bool
 | [],[]=>false
 | [],_ :: _=>true
 | _ :: _,[]=>false
 | a :: l,b :: m=>if Dt.beq a b=true then Dt.blts l m else Dt.blt a b
end
theorem Dt.beq_false {a b:Dt}:Dt.beq a b=false↔a≠b:=by
 rw [← Bool.not_eq_true,Dt.beq_iff]
mutual
theorem Dt.irr:∀ a:Dt,Dt.blt a a=false
 | .int i=>by simp [Dt.blt]
 | .str x=>by simp only [Dt.blt,decide_eq_false_iff_not]; exact List.lt_irrefl _
 | .tup l=>by simp only [Dt.blt]; exact Dt.irrs l
theorem Dt.irrs:∀ l:List Dt,Dt.blts l l=false
 | []=>by simp [Dt.blts]
 | a :: l=>by simp only [Dt.blts,Dt.beq_self,if_true]; exact Dt.irrs l
end
mutual
theorem Dt.tot:∀ a b:Dt,Dt.blt a b=false→Dt.blt b a=false→a=b
 | .int i,.int j=>by simp only [Dt.blt,decide_eq_false_iff_not]; intro h1 h2; congr 1; omega
 | .int i,.str y=>by simp [Dt.blt]
 | .int i,.tup m=>by simp [Dt.blt]
 | .str x,.int j=>by simp [Dt.blt]
 | .str x,.str y=>by
  simp only [Dt.blt,decide_eq_false_iff_not]
  intro h1 h2
  have:x.cps.toList=y.cps.toList:=List.le_antisymm (List.not_lt.mp h2) (List.not_lt.mp h1)
  cases x with | mk cx =>
  cases y with | mk cy =>
  have:cx=cy:=Array.toList_inj.mp this
  rw [this]
 | .str x,.tup m=>by simp [Dt.blt]
 | .tup l,.int j=>by simp [Dt.blt]
 | .tup l,.str y=>by simp [Dt.blt]
 | .tup l,.tup m=>by simp only [Dt.blt]; intro h1 h2; rw [Dt.tots l m h1 h2]
theorem Dt.tots:∀ l m:List Dt,Dt.blts l m=false→Dt.blts m l=false→l=m
 | [],[]=>by simp
 | [],b :: m=>by simp [Dt.blts]
 | a :: l,[]=>by simp [Dt.blts]
 | a :: l,b :: m=>by
  simp only [Dt.blts]
  intro h1 h2
  by_cases e:a=b
  ·subst e
   rw [if_pos (Dt.beq_self a)] at h1 h2
   rw [Dt.tots l m h1 h2]
  ·rw [if_neg (by rw [Dt.beq_iff]; exact e)] at h1
   rw [if_neg (by rw [Dt.beq_iff]; exact fun z=>e z.symm)] at h2
   exact absurd (Dt.tot a b h1 h2) e
end
mutual
theorem Dt.trn:∀ a b c:Dt,Dt.blt a b=true→Dt.blt b c=true→Dt.blt a c=true
 | .int i,.int j,.int k=>by simp only [Dt.blt,decide_eq_true_eq]; omega
 | .int i,.int j,.str z=>by simp [Dt.blt]
 | .int i,.int j,.tup n=>by simp [Dt.blt]
 | .int i,.str y,.int k=>by simp [Dt.blt]
 | .int i,.str y,.str z=>by simp [Dt.blt]
 | .int i,.str y,.tup n=>by simp [Dt.blt]
 | .int i,.tup m,.int k=>by simp [Dt.blt]
 | .int i,.tup m,.str z=>by simp [Dt.blt]
 | .int i,.tup m,.tup n=>by simp [Dt.blt]
 | .str x,.int j,c=>by intro h; simp only [Dt.blt,Bool.false_eq_true] at h
 | .str x,.str y,.int k=>by simp [Dt.blt]
 | .str x,.str y,.str z=>by simp only [Dt.blt,decide_eq_true_eq]; exact List.lt_trans
 | .str x,.str y,.tup n=>by simp [Dt.blt]
 | .str x,.tup m,.int k=>by simp [Dt.blt]
 | .str x,.tup m,.str z=>by simp [Dt.blt]
 | .str x,.tup m,.tup n=>by simp [Dt.blt]
 | .tup l,.int j,c=>by intro h; simp only [Dt.blt,Bool.false_eq_true] at h
 | .tup l,.str y,c=>by intro h; simp only [Dt.blt,Bool.false_eq_true] at h
 | .tup l,.tup m,.int k=>by simp [Dt.blt]
 | .tup l,.tup m,.str z=>by simp [Dt.blt]
 | .tup l,.tup m,.tup n=>by simp only [Dt.blt]; exact Dt.trns l m n
theorem Dt.trns:∀ l m n:List Dt,Dt.blts l m=true→Dt.blts m n=true→Dt.blts l n=true
 | [],[],n=>by intro h; simp only [Dt.blts,Bool.false_eq_true] at h
 | [],b :: m,[]=>by simp [Dt.blts]
 | [],b :: m,c :: n=>by simp [Dt.blts]
 | a :: l,[],n=>by intro h; simp only [Dt.blts,Bool.false_eq_true] at h
 | a :: l,b :: m,[]=>by simp [Dt.blts]
 | a :: l,b :: m,c :: n=>by
  simp only [Dt.blts]
  intro h1 h2
  by_cases e1:a=b
  ·subst e1
   rw [if_pos (Dt.beq_self a)] at h1
   by_cases e2:a=c
   ·subst e2
    rw [if_pos (Dt.beq_self a)] at h2 ⊢
    exact Dt.trns l m n h1 h2
   ·have ne:¬ Dt.beq a c=true:=by rw [Dt.beq_iff]; exact e2
    rw [if_neg ne] at h2 ⊢
    exact h2
  ·rw [if_neg (by rw [Dt.beq_iff]; exact e1)] at h1
   by_cases e2:b=c
   ·subst e2
    rw [if_neg (by rw [Dt.beq_iff]; exact e1)]
    exact h1
   ·rw [if_neg (by rw [Dt.beq_iff]; exact e2)] at h2
    have t:=Dt.trn a b c h1 h2
    by_cases e3:a=c
    ·subst e3
     rw [Dt.irr] at t
     cases t
    ·rw [if_neg (by rw [Dt.beq_iff]; exact e3)]
     exact t
end
end BF
namespace BF
open PySem PySem.Spec PyProof.Rows L2
theorem laterS {G:Prop} {A:L2.St→Hp→Prop} (C:L2.St→Hp→Prop) (main:(∀ σ H',C σ H'→A σ H')→G) (last:∀ σ H',C σ H'→A σ H'):G:=main last
theorem ifC {c:Bool} {A B:Prop} (a:c=true→A) (b:c=false→B):if c=true then A else B:=by
 cases c with
 | true=>exact a rfl
 | false=>exact b rfl
theorem same_updN {H H2:Hp} {L:Addr} {o:HO} (s:Same H H2) (n:H L=none):Same H (upd H2 L o):=fun b u e=>by
 rw [upd_ne (fun z=>by rw [z,n] at e; cases e)]
 exact s b u e
theorem none_same {H H':Hp} {l:Addr} (s:Same H H') (n:H' l=none):H l=none:=by
 cases h:H l with
 | none=>rfl
 | some u=>rw [s _ _ h] at n; cases n
section
variable {P:Program} {w:World} {A:Around} {E:Value→Shared→Prop}
theorem draw_lst {j l:Addr} {its:Array Value} (ne:l≠j):∀ (m i:Nat) (s:Shared) (Q:List Value→Shared→Prop),s.heap.IsListIter j l i→s.heap.IsList l its→i + m≤its.size →
  (∀ h',h'.IsListIter j l (i + m)→Heap.SameBut j s.heap h'→Q ((its.toList.drop i).take m) { s with heap:=h' })→wpAny (model P w) A (draw (.ref j) m) Q E s
 | 0,i,s,Q,hj,_,_,z=>by
  show wpAny _ _ (pure []) Q E s
  exact wpAny_pure (by simpa using z s.heap hj (Heap.SameBut.refl ..))
 | m + 1,i,s,Q,hj,hl,le,z=>by
  have lt:i < its.size:=by omega
  show wpAny _ _ (pyNext (.ref j) >>= _) Q E s
  refine wpAny_bind (wpAny_pyNext_list_item hj hl (x:=its[i]) (by simp [lt]) fun h1 j1 s1=>?_)
  refine wpAny_bind (wpAny_holding (draw_lst ne m (i + 1) _ _ j1 (Heap.IsList.at hl fun o e=>s1.extBut _ _ ne e) (by omega) fun h2 j2 s2=>wpAny_pure ?_))
  have hd:its.toList.drop i=its[i] :: its.toList.drop (i + 1):=by simp [List.drop_eq_getElem_cons,lt]
  have:=z h2 (by rw [show i + (m + 1)=i + 1 + m by omega]; exact j2) (s1.trans s2)
  rw [hd,List.take_succ_cons] at this
  exact this
theorem unpack_lst {s:Shared} {l:Addr} {its:Array Value} {tg:List (Bool×(Value→Sem Unit))} {Q:Unit→Shared→Prop} (hh:A.handled=none) (hl:s.heap.IsList l its) (hn:tg.length=its.size) (hst:tg.findIdx? (·.1)=none)
  (z:∀ h',Heap.ExtBut s.heap.objs.size s.heap h'→wpAny (model P w) A (assignInOrder (tg.map (·.2)) its.toList) Q E { s with heap:=h' }):wpAny (model P w) A (unpack (.ref l) tg) Q E s:=by
 have ne:l≠s.heap.objs.size:=by obtain ⟨o,ho,_⟩:=hl; exact Nat.ne_of_lt (Heap.lt_size ho)
 unfold unpack
 rw [hn,hst]
 refine wpAny_bind (wpAny_holding ?_)
 unfold unpackItems
 refine wpAny_bind ?_
 unfold notIterableAtAll
 refine wpAny_bind (wpAny_specialOf hl.typeIs slot_list_iter.lookup (wpAny_pure ?_))
 simp only [Bool.false_eq_true,if_false]
 refine wpAny_bind (wpAny_holding (wpAny_pyIter_list hl ?_))
 refine wpAny_bind (wpAny_holding (draw_lst ne its.size 0 _ _ ⟨_,Heap.get?_push_size _ rfl,rfl,rfl⟩ (hl.push _) (by omega) fun h1 j1 s1=>?_))
 have all:List.take its.size (List.drop 0 its.toList)=its.toList:=by rw [List.drop_zero]; exact List.take_of_length_le (by simp)
 rw [all]
 rw [if_neg (by simp)]
 have hl1:h1.IsList l its:=Heap.IsList.at (hl.push _) fun o e=>s1.extBut _ _ ne e
 refine wpAny_bind (wpAny_holding (wpAny_pyNext_list_end hh j1 hl1 (by simp) fun h2 k2=>?_))
 simp only [Option.isSome_none,Bool.false_eq_true,if_false]
 exact wpAny_pure (z h2 fun b o hb e=>k2 b o hb (s1.extBut b o hb (Heap.get?_push_of_some _ e)))
end
section
variable {X:Cx} {pos:Pos}
def gTupL (K:PySem.W.Frag) (n:Nat) (t:TGs):TG:=fun v σ H Q=>∃ a xs,v=.ref a∧SqL K H a xs∧xs.length=n∧t xs σ H Q
theorem pg_tupL {es:List Expr} {k:Nat} {t:TGs} {n:Nat} (hc:X.calm=true) (h:PGs X es t)
  (hn:(assignEach es X.env).length=n:=by rfl) (hst:(assignEach es X.env).findIdx? (·.1)=none:=by rfl):PG X (.Tuple es k pos) (gTupL X.K n t):=by
 intro pins s σ H v u Q I r hw
 obtain ⟨a,xs,e1,hq,hl,hw⟩:=hw
 subst e1
 cases r
 obtain ⟨its,rv,pl,hz⟩:=I.list hq
 rw [arm_assign_Tuple]
 refine wpAny_bind (wpAny_standAt (unpack_lst (I.ok.hd hc) pl.isList (by simp [hn,← hl,rv.length]) hst fun h' hx=>?_))
 have I1:Inv X pins σ H { s with heap:=h' }:=I.kept (t':=s.toks) fun b o e=>hx b o (Nat.ne_of_lt (Heap.lt_size e)) e
 exact h pins _ σ H xs _ Q I1 (by simpa using rv) hw
end
end BF
namespace BF
open PySem PySem.Spec PySem.Calls PyProof.Rows L2
def DEnt (h:Heap) (d:Addr) (es:Array DictEntry) (ep:Nat):Prop:=∃ o,h.get? d=some o∧o.ExactDict∧o.data=.dict es ep
theorem DEnt.typeIs {s:Shared} {d:Addr} {es:Array DictEntry} {ep:Nat} (q:DEnt s.heap d es ep):s.TypeIs (.ref d) "dict":=let ⟨o,ho,hc,_⟩:=q; ⟨o,ho,hc.1⟩
section
variable {P:Program} {w:World} {A:Around} {E:Value→Shared→Prop} {s:Shared} {d it S:Addr} {es:Array DictEntry} {ep i:Nat}
theorem it_view {Q:Value→Shared→Prop} (lo:(d == sysModules)=false) (q:DEnt s.heap d es ep)
  (z:Q (.ref s.heap.objs.size) { s with heap:=s.heap.push { cls:=.type "dict_items",data:=.fields #[.ref d] } }):wpAny (model P w) A (call (.builtin "dict.items") [.ref d]) Q E s:=by
 refine wpAny_call_entry PySem.F.slot_dict_items q.typeIs PySem.F.entry_dict_items ?_ (PySem.F.args_dict_items_1 _)
 unfold Builtin.«dict.items»
 refine wpAny_bind ?_
 unfold Builtin.Dict.noArgs
 refine wpAny_bind (wpAny_notOrdered_dict q.typeIs ?_)
 show wpAny _ _ (pure d) _ _ s
 refine wpAny_pure ?_
 show wpAny _ _ (Builtin.Dict.showsAll d >>= _) _ _ s
 unfold Builtin.Dict.showsAll
 rw [if_neg (by rw [lo]; exact Bool.false_ne_true)]
 exact wpAny_bind (wpAny_pure (wpAny_bind (wpAny_newObj_type (wpAny_pure ⟨_,rfl,z⟩))))
end
end BF
namespace BF
open PySem PySem.Spec PyProof.Rows L2
section
variable {X:Cx} {pins:List (Addr×Obj)} {σ:L2.St} {H:Hp} {s:Shared} {h':Heap}
theorem inv_turns {t':Nat} {L:List Addr} (I:Inv X pins σ H s) (k:∀ b o,b ∉ L→s.heap.get? b=some o→h'.get? b=some o) (f:∀ b∈L,FpOk X pins H b):Inv X pins σ H { s with heap:=h',toks:=t' }:=by
 have nl:∀ b u,H b=some u→b ∉ L:=fun b u e z=>by rw [(f b z).1] at e; cases e
 have hL:X.env.locals ∉ L:=fun z=>(f _ z).2.1 rfl
 refine I.step (g':=s.gens) (d':=s.drawn) (ch:=L) (fun b hb=>?_) (fun b o _ _ hc e _=>k b o hc e) (fun b o _ _ hc e _=>⟨o.slots,k b o hc e⟩) (fun _ _ _ _ n=>n)
  (fun b o hc e=>⟨o,k b o hc e⟩) (fun _ _ e=>e) (fun _ _ _ e=>e) (fun b ps e=>⟨#[],by rw [e]; simp⟩) (fun m hm=>?_) (fun b u e=>?_) I.bare
 ·obtain ⟨f0,f1,f2,f3,f4,f5⟩:=f b hb
  exact ⟨f3,f1,f4,f5⟩
 ·obtain ⟨o,es,ep,ho,r⟩:=hm
  exact ⟨o,es,ep,k _ o hL ho,r⟩
 ·refine (I.hok b u e).stay (fun c v hc q=>k c v ?_ q) (fun _ q=>q) fun _ _ q=>q
  rcases hc with z | z
  ·rw [z]; exact nl b u e
  ·exact nl c _ z
end
theorem two_fits:2≤sizeLine:=by decide
section
variable {X:Cx}
end
theorem strs_vals:∀ l:List (Str×Tok),Vals ((l.map (·.1)).map V.str) (strValues l)
 | []=>.nil
 | (x,t) :: l=>.cons ⟨t,rfl⟩ (strs_vals l)
section
variable {X:Cx}
theorem mt_starts:MtR X "str.startswith" (fun x vs H Q=>∃ (a b:Str),x=.str a∧vs=[.str b]∧Q (.bl (Txt.startswith a b)) H):=by
 intro pins s σ H x vs v us Q I rx rv h
 obtain ⟨a,b,rfl,rfl,q⟩:=h
 obtain ⟨t,rfl⟩:=rx
 obtain ⟨u,rfl,ru⟩:=rv.one
 obtain ⟨t',rfl⟩:=ru
 exact SC.startswith ⟨.bl _,H,I,rfl,q⟩
theorem call_intT:CallR X (.type "int") (fun xs H Q=>∃ (a:Str) (n:Int),xs=[.str a]∧PySem.intText? a=some n∧a.length≤640∧Q (.int n) H):=by
 intro pins s σ H xs us Q I r h
 obtain ⟨a,n,rfl,hn,hl,q⟩:=h
 obtain ⟨u,rfl,ru⟩:=vals1 r
 obtain ⟨t,rfl⟩:=ru
 exact PySem.W.KIN.call_text hn hl ⟨.int _,H,I.tok _,⟨_,rfl⟩,q⟩
theorem strs_lay {pins:List (Addr×Obj)} {σ:L2.St} {H:Hp} {s:Shared} {k:Nat} (I:Inv X pins σ H s) (l:List (Str×Tok)) (hz:l.length≤sizeLine):Inv X pins σ (upd H s.heap.objs.size (.lst ((l.map (·.1)).map V.str))) { s with heap:=s.heap.push { cls:=.type "list",data:=.seq (strValues l).toArray },toks:=k } :=
 I.lnew (strs_vals l) (by rw [List.length_map,List.length_map]; exact hz)
theorem mt_split:MtR X "str.split" (fun x vs H Q=>∃ (z y:Str),x=.str z∧vs=[.str y]∧(y.length == 0)=false∧z.length≤3000∧∀ p,H p=none→Q (.ref p) (upd H p (.lst ((Txt.split z y).map V.str)))):=by
 intro pins s σ H x vs v us Q I rx rv h
 obtain ⟨z,y,rfl,rfl,hy,hz,q⟩:=h
 obtain ⟨t,rfl⟩:=rx
 obtain ⟨u,rfl,ru⟩:=rv.one
 obtain ⟨t',rfl⟩:=ru
 have hs:=split_le z y
 have lay:∀ (l:List (Str×Tok)) (k:Nat),l.map (·.1)=Txt.split z y→EP X pins σ Q (.ref s.heap.objs.size) { s with heap:=s.heap.push { cls:=.type "list",data:=.seq (strValues l).toArray },toks:=k }:=fun l k e=>by
  have hl:l.length=(Txt.split z y).length:=by rw [← e,List.length_map]
  refine ⟨.ref s.heap.objs.size,_,strs_lay (k:=k) I l (by rw [hl,sizeLine_eq]; omega),rfl,?_⟩
  rw [e]
  exact q _ I.fresh
 have one:Txt.split z y=[z]→EP X pins σ Q (.ref s.heap.objs.size) { s with heap:=s.heap.push { cls:=.type "list",data:=.seq #[.str z t] } }:=fun e=>lay [(z,t)] s.toks e.symm
 cases a:(decide (z.length < y.length) || decide (Builtin.Str.strKind z < Builtin.Str.strKind y)) with
 | true =>
  have e:Txt.split z y=[z]:=by unfold Txt.split; rw [if_pos a]
  exact call_meets F.slot_str_split (typeIs_str _ _ _) F.entry_str_split (F.args_str_split_2 _ _) (meets_str_split_cannot_occur z y t t' a) (one e)
 | false =>
  cases b:(Builtin.Str.occurrences z y 0 z.length (z.length + 1)).isEmpty with
  | true =>
   have e:Txt.split z y=[z]:=by unfold Txt.split; rw [if_neg (by rw [a]; decide),if_pos b]
   exact call_meets F.slot_str_split (typeIs_str _ _ _) F.entry_str_split (F.args_str_split_2 _ _) (meets_str_split_not_found z y t t' a hy b) (one e)
  | false =>
   have e:Txt.split z y=Builtin.Str.partsBetween z (Builtin.Str.occurrences z y 0 z.length (z.length + 1)) y.length:=by unfold Txt.split; rw [if_neg (by rw [a]; decide),if_neg (by rw [b]; decide)]
   have le:(Builtin.Str.partsBetween z (Builtin.Str.occurrences z y 0 z.length (z.length + 1)) y.length).length≤sizeLine:=by rw [← e,sizeLine_eq]; omega
   refine call_meets F.slot_str_split (typeIs_str _ _ _) F.entry_str_split (F.args_str_split_2 _ _) (meets_str_split_sep z y t t' a hy b (by rw [sizeLine_eq]; omega) le) ?_
   have nt:(numbered s.toks (Builtin.Str.partsBetween z (Builtin.Str.occurrences z y 0 z.length (z.length + 1)) y.length)).map (·.1)=Txt.split z y:=(numbered_texts _ _).trans e.symm
   show EP X pins σ Q _ { s with toks:=_,heap:=s.heap.push { cls:=.type "list",data:=.seq (strsFrom s.toks _).toArray } }
   rw [strsFrom_eq]
   exact lay _ _ nt
end
def blank:Str:=" "
def cat (l:List (List Nat)):List Nat:=match l with
 | []=>[]
 | [x]=>x
 | x :: r=>x ++ 32 :: cat r
theorem cat_cons {x y:List Nat} {r:List (List Nat)}:cat (x :: y :: r)=x ++ 32 :: cat (y :: r):=rfl
theorem join_cps:∀ ws:List Str,(Str.join blank ws).cps.toList=cat (ws.map fun x=>x.cps.toList)
 | []=>rfl
 | [x]=>rfl
 | x :: y :: r=>by
  have ih:=join_cps (y :: r)
  have e:cat ((x :: y :: r).map fun x=>x.cps.toList)=x.cps.toList ++ 32 :: cat ((y :: r).map fun x=>x.cps.toList):=rfl
  rw [e,← ih]
  show (x ++ blank ++ Str.join blank (y :: r)).cps.toList=_
  show ((x.cps ++ blank.cps) ++ (Str.join blank (y :: r)).cps).toList=_
  rw [Array.toList_append,Array.toList_append,List.append_assoc]
  rfl
theorem cut_first {x x' r r':List Nat} (hx:32 ∉ x) (hx':32 ∉ x') (e:x ++ 32 :: r=x' ++ 32 :: r'):x=x'∧r=r':=by
 induction x generalizing x' with
 | nil =>
  cases x' with
  | nil=>exact ⟨rfl,by simpa using e⟩
  | cons a x' =>
   simp only [List.nil_append,List.cons_append,List.cons.injEq] at e
   exact absurd (by rw [← e.1]; exact List.mem_cons_self) hx'
 | cons a x ih =>
  cases x' with
  | nil =>
   simp only [List.nil_append,List.cons_append,List.cons.injEq] at e
   exact absurd (by rw [e.1]; exact List.mem_cons_self) hx
  | cons a' x' =>
   simp only [List.cons_append,List.cons.injEq] at e
   obtain ⟨h1,h2⟩:=ih (x':=x') (fun z=>hx (List.mem_cons_of_mem _ z)) (fun z=>hx' (List.mem_cons_of_mem _ z)) e.2
   exact ⟨by rw [e.1,h1],h2⟩
theorem cat_one {l m:List (List Nat)} (hl:∀ x∈l,32 ∉ x) (hm:∀ x∈m,32 ∉ x) (nl:l≠[]) (nm:m≠[]) (e:cat l=cat m):l=m:=by
 induction l generalizing m with
 | nil=>exact absurd rfl nl
 | cons x r ih =>
  cases m with
  | nil=>exact absurd rfl nm
  | cons x' r' =>
   have hx:=hl x List.mem_cons_self
   have hx':=hm x' List.mem_cons_self
   cases r with
   | nil =>
    cases r' with
    | nil=>exact congrArg (fun y=>[y]) e
    | cons y' r' =>
     have e:x=x' ++ 32 :: cat (y' :: r'):=e
     exact absurd (by rw [e]; simp) hx
   | cons y r =>
    cases r' with
    | nil =>
     have e:x ++ 32 :: cat (y :: r)=x':=e
     exact absurd (by rw [← e]; simp) hx'
    | cons y' r' =>
     obtain ⟨h1,h2⟩:=cut_first hx hx' e
     rw [h1,ih (m:=y' :: r') (fun z hz=>hl z (List.mem_cons_of_mem _ hz)) (fun z hz=>hm z (List.mem_cons_of_mem _ hz)) (by simp) (by simp) h2]
theorem str_inj {a b:Str} (h:a.cps.toList=b.cps.toList):a=b:=by
 cases a with
 | mk x =>
  cases b with
  | mk y =>
   have:x=y:=Array.toList_inj.mp h
   rw [this]
theorem split_words {ws:List Str} (hw:∀ x∈ws,32 ∉ x.cps.toList) (ne:ws≠[]):Txt.split (Txt.join blank ws) blank=ws:=by
 have e1:Txt.join blank ws=Str.join blank ws:=StrLaws.glued_eq_join blank ws
 rw [e1]
 have h1:=StrLaws.split_free (Str.join blank ws) 32
 have h2:Str.join blank (Txt.split (Str.join blank ws) blank)=Str.join blank ws:=StrLaws.join_split _ _
 have h3:=congrArg (fun x:Str=>x.cps.toList) h2
 simp only [join_cps] at h3
 have ne2:Txt.split (Str.join blank ws) blank≠[]:=fun z=>by
  have:=split_pos (Str.join blank ws) blank
  rw [z] at this
  exact absurd this (by decide)
 have h4:=cat_one (l:=(Txt.split (Str.join blank ws) blank).map fun x=>x.cps.toList) (m:=ws.map fun x=>x.cps.toList) (fun x hx=>by
  obtain ⟨y,hy,rfl⟩:=List.mem_map.mp hx
  exact h1 y hy) (fun x hx=>by
  obtain ⟨y,hy,rfl⟩:=List.mem_map.mp hx
  exact hw y hy) (by simpa using ne2) (by simpa using ne) h3
 exact (List.map_inj_right fun a b=>str_inj).mp h4
theorem word_int (n:Int):32 ∉ (Str.ofString (toString n)).cps.toList:=(PyProof.Rows.intText_free_32 n).mp
theorem nolen_lri:typeLookup (.type "list_reverseiterator") "__len__"=pure none:=by rw [typeLookup_type,builtinLookup_eq_fast]; kernel_rfl
theorem hint_lri:typeLookup (.type "list_reverseiterator") "__length_hint__"=pure (some (.builtin "list_reverseiterator.__length_hint__")):=by rw [typeLookup_type,builtinLookup_eq_fast]; kernel_rfl
section
variable {P:Program} {w:World} {A:Around} {E:Value→Shared→Prop} {s:Shared}
theorem rv_hint {I:Addr} {Q:Bool→Shared→Prop} (hT:s.TypeIs (.ref I) "list_reverseiterator") (h:Q false s):wpAny (model P w) A (Builtin.List.listLengthHint (.ref I)) Q E s:=by
 unfold Builtin.List.listLengthHint
 refine wpAny_bind (wpAny_specialOf hT nolen_lri ?_)
 show wpAny _ A (specialOf (Value.ref I) (Str.ofString "__length_hint__") >>= _) _ _ _
 refine wpAny_bind (wpAny_specialOf hT hint_lri ?_)
 generalize hid:("list_reverseiterator.__length_hint__":String)=id0
 wp_delta
 rw [show splitId id0=some ("list_reverseiterator","__length_hint__") from by subst hid; decide +kernel]
 subst hid
 refine wpAny_bind (wpAny_isInstance (b:=true) hT (by rw [isSubtype_type]; kernel_rfl) ?_)
 exact wpAny_pure h
theorem call_list_rev {I l:Addr} {items:Array Value} {Q:Value→Shared→Prop} (hh:A.handled=none) (hI:s.heap.IsRevIter I l ((items.size:Int) - 1)) (hl:s.heap.IsList l items) (hne:l≠I) (hn:items.size≤sizeLine)
  (hQ:∀ h' tk acc c,(∀ b o,b≠I→s.heap.get? b=some o→h'.get? b=some o)→h'.get? s.heap.objs.size=some { cls:=.type "list",dict:=none,data:=.seq acc c,slots:=#[] }→ItemsOf (fun i v=>items[items.size - 1 - i]?=some v) acc items.size→Q (.ref s.heap.objs.size) { s with heap:=h',toks:=tk }) :
  wpAny (model P w) A (call (.type "list") [.ref I]) Q E s:=by
 have hIl:I < s.heap.objs.size:=let ⟨_,ho,_⟩:=hI; Heap.lt_size ho
 have hll:l < s.heap.objs.size:=let ⟨_,ho,_⟩:=hl; Heap.lt_size ho
 refine callType_codes (Q₁:=fun obj s₁=>obj=.ref s.heap.objs.size∧s₁={ s with heap:=s.heap.push { cls:=.type "list",data:=.seq #[] } }) PySem.F.called_list (PySem.F.typeCall_list_1 _) PySem.F.entry_list_init (code_list_new _ ⟨rfl,rfl⟩) fun obj s₁ h₁=>?_
 obtain ⟨rfl,rfl⟩:=h₁
 have hS:(s.heap.push { cls:=.type "list",data:=.seq #[] }).get? s.heap.objs.size=some { cls:=.type "list",data:=.seq #[] }:=Heap.get?_push_size _ rfl
 refine ⟨⟨_,hS,rfl⟩,PySem.F.args_list_init_2 _ _,?_⟩
 show wpAny _ A.in1.in1 (do let old ← Builtin.List.listItems (.ref s.heap.objs.size); Builtin.List.listUpdate (.ref s.heap.objs.size) (fun _=>#[]); letGo old.toList.reverse; Builtin.List.listExtendWith (.ref s.heap.objs.size) (.ref I) .none) _ _ _
 refine wpAny_bind ?_
 unfold Builtin.List.listItems
 refine wpAny_bind (wpAny_seqItems hS rfl (wpAny_pure ?_))
 show wpAny _ A.in1.in1 (updateSeq s.heap.objs.size (fun _=>#[]) >>= fun _=>letGo (#[]:Array Value).toList.reverse >>= fun _=>Builtin.List.listExtendWith (.ref s.heap.objs.size) (.ref I) .none) _ _ _
 refine wpAny_bind (wpAny_updateSeq hS rfl ?_)
 have hS2:=Heap.get?_update_self (Obj.mapSeq (fun _=>(#[]:Array Value))) hS rfl
 refine wpAny_bind (wpAny_letGo ?_)
 have kp:∀ b o,s.heap.get? b=some o→((s.heap.push { cls:=.type "list",data:=.seq #[] }).update s.heap.objs.size (Obj.mapSeq (fun _=>(#[]:Array Value)))).get? b=some o:=fun b o e =>
  (Heap.get?_update_other _ _ (Nat.ne_of_gt (Heap.lt_size e))).trans (Heap.get?_push_of_some _ e)
 revert hS2 kp
 generalize ((s.heap.push { cls:=.type "list",data:=.seq #[] }).update s.heap.objs.size (Obj.mapSeq (fun _=>(#[]:Array Value))))=h2
 intro hS2 kp
 have hI2:h2.IsRevIter I l ((items.size:Int) - 1):=hI.at fun o e=>kp I o e
 have hl2:h2.IsList l items:=hl.at fun o e=>kp l o e
 have hT:({ s with heap:=h2 }:Shared).TypeIs (.ref I) "list_reverseiterator":=Heap.IsRevIter.typeIs (s:={ s with heap:=h2 }) hI2
 have h1:Builtin.List.listSameRef (.ref s.heap.objs.size) (.ref I)=false:=by simp [Builtin.List.listSameRef,Nat.ne_of_gt hIl]
 unfold Builtin.List.listExtendWith
 refine wpAny_bind (wpAny_typeOf hT ?_)
 have g2:(Value.type "list_reverseiterator" == Value.type "list")=false:=by decide
 have g3:(Value.type "list_reverseiterator" == Value.type "tuple")=false:=by decide
 simp only [h1,g2,g3,Bool.or_false,Bool.false_eq_true,if_false]
 refine wpAny_bind (wpAny_pyIter_revIter hI2 ?_)
 refine wpAny_bind (wpAny_holding (rv_hint hT ?_))
 have W:=(Walks.listRev (prog:=P) (w:=w) (A:=A.in1.in1) hh I l hne items).toS
 have fin:∀ (s':Shared) (acc:Array Value) (c:Nat),Moved [s.heap.objs.size,I] (fun a b=>b=a) { s with heap:=h2 } s'→s'.heap.get? s.heap.objs.size=some { cls:=.type "list",dict:=none,data:=.seq acc c,slots:=#[] }→ItemsOf (fun i v=>items[items.size - 1 - i]?=some v) acc items.size→Value.none=Value.none∧Q (.ref s.heap.objs.size) s':=fun s' acc c mv hS' hit=>by
  refine ⟨rfl,?_⟩
  have e:s'={ s with heap:=s'.heap,toks:=s'.toks }:=by
   cases s' with
   | mk a1 a2 a3 a4 a5 =>
    have g1:a2=s.gens:=mv.gens
    have g2:a3=s.drawn:=mv.drawn
    have g3:a5=s.os:=mv.os
    rw [g1,g2,g3]
  rw [e]
  refine hQ _ _ acc c (fun b o hb eb=>mv.heap b o ?_ (kp b o eb)) hS' hit
  intro hm
  simp only [List.mem_cons,List.not_mem_nil,or_false] at hm
  rcases hm with rfl | rfl
  ·exact Nat.lt_irrefl _ (Heap.lt_size eb)
  ·exact hb rfl
 have hfp:s.heap.objs.size ∉ [I,l]:=fun hm=>by
  simp only [List.mem_cons,List.not_mem_nil,or_false] at hm
  rcases hm with h | h
  ·exact Nat.lt_irrefl _ (h ▸ hIl:s.heap.objs.size < s.heap.objs.size)
  ·exact Nat.lt_irrefl _ (h ▸ hll:s.heap.objs.size < s.heap.objs.size)
 have st0:0≤items.size∧h2.IsRevIter I l ((items.size:Int) - 1 - ((0:Nat):Int))∧h2.IsList l items:=⟨Nat.zero_le _,by simpa using hI2,hl2⟩
 refine wpAny_ite_split (fun z=>?_) (fun _=>wpAny_pure ⟨plainId_quiet PySem.F.plain_extend_loop _,codeAny_extend_loopS (A:=A.in1) W hn _ hfp _ items.size 0 _ _ _ rfl (Nat.zero_le _) st0 hS2 (ItemsOf.nil _) fin⟩)
 exact absurd z (by decide)
end
theorem vals_rev {f:Nat→Value} {vs:List V} {us:List Value} (h:Vals vs us):Vals vs.reverse us.reverse:=by
 induction h with
 | nil=>exact .nil
 | cons r _ ih=>rw [List.reverse_cons,List.reverse_cons]; exact ih.append (.cons r .nil)
theorem rev_items {items acc:Array Value} (h:ItemsOf (fun i v=>items[items.size - 1 - i]?=some v) acc items.size):acc.toList=items.toList.reverse:=by
 refine List.ext_getElem? fun j=>?_
 obtain ⟨h1,h2⟩:=h
 by_cases hj:j < items.size
 ·have e1:acc[j]?=some acc[j]:=by simp [h1,hj]
  have e2:=h2 j acc[j] e1
  rw [List.getElem?_reverse (by simpa using hj),Array.length_toList,Array.getElem?_toList,Array.getElem?_toList,e2,e1]
 ·rw [List.getElem?_eq_none (by simp [h1]; omega),List.getElem?_eq_none (by simp; omega)]
section
variable {X:Cx}
def tLRev (ta:TA) (K:PySem.W.Frag):TE:=fun σ H Q=>ta σ H fun vs H1=>∃ (l:Addr) (xs:List V),vs=[.ref l]∧SqL K H1 l xs∧∀ p,H1 p=none→Q (.ref p) (upd H1 p (.lst xs.reverse))
theorem pe_listRev {e:Expr} {ta:TA} {p p' pos pos':Pos} (hc:X.calm=true) (hg:Gl X "list") (hm:X.mg "list"=none) (hg':Gl X "reversed") (hm':X.mg "reversed"=none) (ha:PA X [e] ta) (hs:starEach [e] X.env=[(false,eval e X.env)]:=by rfl) (se_call:starEach [.Call (.Name "reversed" p') [e] [] pos'] X.env=[(false,eval (.Call (.Name "reversed" p') [e] [] pos') X.env)]:=by rfl) :
  PE X (.Call (.Name "list" p) [.Call (.Name "reversed" p') [e] [] pos'] [] pos) (tLRev ta X.K):=by
 intro pins s σ H Q I h
 refine wpAny_Call_Name_kw (ld_blt I hg hm boot_list ?_)
 refine PyProof.Rows.callWith_type1 ?_ se_call rfl
 show wpAny _ _ (spliced ((false,eval (.Call (.Name "reversed" p') [e] [] pos') X.env) :: backTo pos (starEach [] X.env))) _ _ s
 refine Calls.spliced_cons ?_
 refine Call_ (ld_blt I hg' hm' PyProof.Rows.Boot.«reversed» (PyProof.Rows.callWith_type1 (thn (ha pos' pins s σ H _ I h) fun us s1 ⟨vs,H1,I1,r1,q1⟩=>?_) hs rfl))
 obtain ⟨l,xs,rfl,hl,q⟩:=q1
 cases r1 with
 | cons r rr =>
  cases rr
  cases r
  obtain ⟨its,rv,pl,_⟩:=I1.list hl
  have isl:=pl.isList
  have hll:l < s1.heap.objs.size:=let ⟨_,ho,_⟩:=isl; Heap.lt_size ho
  refine PySem.call_reversed_list isl ?_
  refine Calls.spliced_nil ?_
  have I2:Inv X pins σ H1 { s1 with heap:=s1.heap.push (revObj l ((its.toArray.size:Int) - 1)) }:=I1.kept (t':=s1.toks) fun b o e=>Heap.get?_push_of_some _ e
  have hI:(s1.heap.push (revObj l ((its.toArray.size:Int) - 1))).IsRevIter s1.heap.objs.size l ((its.toArray.size:Int) - 1):=⟨_,Heap.get?_push_size _ rfl,rfl,rfl⟩
  have hl2:(s1.heap.push (revObj l ((its.toArray.size:Int) - 1))).IsList l its.toArray:=isl.at fun o e=>Heap.get?_push_of_some _ e
  have hz:its.length≤sizeLine:=by
   have:=(I1.list hl)
   obtain ⟨_,_,_,hz⟩:=this
   rw [← rv.length]; exact hz
  refine call_list_rev (I.ok.hd hc) hI hl2 (Nat.ne_of_lt hll) (by rw [List.size_toArray]; exact hz) fun h' tk acc c kp eS it=>?_
  have ea:=rev_items it
  have le:s1.heap.objs.size≤(s1.heap.push (revObj l ((its.toArray.size:Int) - 1))).objs.size:=by rw [Heap.size_push]; exact Nat.le_succ _
  refine ⟨.ref (s1.heap.push (revObj l ((its.toArray.size:Int) - 1))).objs.size,_,I1.laid (t':=tk) (fun b o e=>kp b o (Nat.ne_of_lt (Heap.lt_size e)) (Heap.get?_push_of_some _ e)) le (show ObjOk X.prog X.w _ h' _ (.lst xs.reverse) from ⟨by rw [List.length_reverse,rv.length]; exact hz,acc.toList,c,by rw [ea,List.toList_toArray]; exact vals_rev (f:=fun _=>.none) rv,by rw [Array.toArray_toList]; exact eS⟩),rfl,q _ (I1.hok.fresh le)⟩
end
structure TopD (P:Program) (w:World) (K:PySem.W.Frag) (d:Addr) (kvs:List (Key×V)):Prop where
 sys:(d == sysModules)=false
 is:∃ o es ep vs,K.lookup d=some o∧o.ExactDict∧o.data=.dict es ep∧KeysOf (mixKind P w) es∧Pairs (mixKind P w) es.toList vs∧(vs.map (·.1)).Nodup∧KV kvs vs
section
variable {X:Cx} {d:Addr} {kvs:List (Key×V)}
theorem TopD.dict {pins:List (Addr×Obj)} {σ:L2.St} {H:Hp} {s:Shared} (T:TopD X.prog X.w X.K d kvs) (I:Inv X pins σ H s):∃ vs,KV kvs vs∧s.heap.DictOf (mixKind X.prog X.w) d vs:=by
 obtain ⟨o,es,ep,vs,h1,h2,h3,h4,h5,h6,h7⟩:=T.is
 exact ⟨vs,h7,o,es,ep,I.kIn d o h1,h2,h3,h4,h5,h6⟩
theorem op_inTD (T:TopD X.prog X.w X.K d kvs):OpR X (compareOp .In) (fun x y H Q=>∃ k:Key,x=kV k∧y=.ref d∧Q (.bl (valV kvs k).isSome) H):=by
 intro pins s σ H x y v u Q I rx ry h
 obtain ⟨k,rfl,rfl,q⟩:=h
 cases ry
 obtain ⟨vs,rel,dd⟩:=T.dict I
 refine wpAny_in_of (kV_is rx) T.sys dd.mapOf ?_
 rw [← (rel.val k).isSome_eq]
 exact ⟨.bl _,H,I.tok _,rfl,q⟩
def tDGetT (d:Addr) (kvs:List (Key×V)) (td ty:TE):TE:=fun σ H Q=>td σ H fun x H1=>ty σ H1 fun y H2=>∃ (k:Key) (v:V),x=.ref d∧y=kV k∧valV kvs k=some v∧Q v H2
theorem pe_dgetT {o i:Expr} {pos:Pos} {td ty:TE} (T:TopD X.prog X.w X.K d kvs) (ho:PE X o td) (hi:PE X i ty) (hs:NoSl i):PE X (.Subscript o i pos) (tDGetT d kvs td ty):=by
 intro pins s σ H Q I h
 refine subD_of PySem.F.slot_dict_getitem.lookup hs (thn (ho pins s σ H _ I h) fun u s1 ⟨x,H1,I1,rx,q1⟩=>thn (hi pins s1 σ H1 _ I1 q1) fun iv s2 ⟨y,H2,I2,ry,k,v,ex,ey,l,q2⟩=>?_)
 subst ex ey
 obtain rfl:u=Value.ref d:=rx
 obtain ⟨vs,rel,dd⟩:=T.dict I2
 obtain ⟨w',hw,rw'⟩:=RelO.some_of (v:=v) (o:=valueAt vs k) (by rw [← l]; exact rel.val k)
 exact ⟨dd.typeIs,wpAny_getItem_of (kV_is ry) dd.mapOf hw ⟨v,H2,I2.tok _,rw',q2⟩⟩
end
def ItT (Gd:Hp→Prop) (kvs:List (Key×V)):It :=
 ⟨fun i H=>i < kvs.length∧Gd H,fun i H v H'=>∃ (p:Addr) (kv:Key×V),v=.ref p∧H p=none∧kvs[i]?=some kv∧H'=upd H p (.tup [kV kv.1,kv.2]),fun i H=>kvs.length≤i∧Gd H⟩
theorem kv_get {kvs:List (Key×V)} {vs:List (Key×Value)} (h:KV kvs vs):∀ {i:Nat} {kv:Key×V},kvs[i]?=some kv→∃ v,vs[i]?=some (kv.1,v)∧RelV kv.2 v:=by
 unfold KV at h
 induction h with
 | nil=>intro i kv e; simp at e
 | @cons p q _ _ r _ ih =>
  intro i kv e
  cases i with
  | zero =>
   have e:=Option.some.inj e
   subst e
   exact ⟨q.2,by rw [r.1]; rfl,r.2⟩
  | succ i=>exact ih (by simpa using e)
theorem key_rel {P:Program} {w:World} {k:Key} {u:Value} (h:(mixKind P w).is k u=true):RelV (kV k) u:=by
 rcases keyIs_shape h with ⟨i,t,rfl,rfl⟩ | ⟨x,t,rfl,rfl⟩
 ·exact ⟨t,rfl⟩
 ·exact ⟨t,rfl⟩
theorem turn_itemsT {P:Program} {w:World} {K:PySem.W.Frag} {es:List Expr} {n:Nat} {p:Pos} {it d:Addr} {ep:Nat} {kvs:List (Key×V)} {vs:List (Key×Value)} (rel:KV kvs vs) {Gd:Hp→Prop} (hd:∀ (X:Cx) (pins:List (Addr×Obj)) (s:Shared) (σ:L2.St) (H:Hp),X.prog=P→X.w=w→X.K=K→Inv X pins σ H s→Gd H→s.heap.DictAt (mixKind P w) d vs ep) :
  Turn P w K (.Tuple es n p) (ItT Gd kvs) [it] it (fun i h=>∃ ok ov,IsItemIter h it d i vs.length ep ok ov) where
 mem:=by simp
 obj:=fun i h st c hc=>by
  obtain ⟨ok,ov,hi⟩:=st
  rw [List.mem_singleton.mp hc]
  exact ⟨_,hi,fun v t=>by cases t⟩
 keep:=fun i h h' st k=>by
  obtain ⟨ok,ov,hi⟩:=st
  exact ⟨ok,ov,k it (by simp) _ hi⟩
 item:=by
  intro X hP hw hK hc i pins s σ H E I hf st hg
  subst hP hw hK
  obtain ⟨ok,ov,hi⟩:=st
  obtain ⟨hl,hG⟩:i < kvs.length∧Gd H:=hg
  obtain ⟨v,hv,rv⟩:=kv_get rel (List.getElem?_eq_getElem hl)
  have dd:=hd X pins s σ H rfl rfl rfl I hG
  refine wpAny_pyNext_items_item (knd:=mixKind X.prog X.w) hi dd hv fun key h1 hk ho pr sz1 k1=>?_
  refine ⟨_,rfl,wpAny_letOwnedTupleGo_items (s:={ s with heap:=h1 }) ho fun h2 hi2 sb=>?_⟩
  have hfr:H s.heap.objs.size=none:=I.hok.fresh (Nat.le_refl _)
  have Im:Inv X pins σ (upd H s.heap.objs.size (.tup [kV kvs[i].1,kvs[i].2])) { s with heap:=s.heap.push { cls:=.type "tuple",data:=.seq #[key,v] },toks:=s.toks } :=
   I.laid (fun b o e=>Heap.get?_push_of_some _ e) (Nat.le_refl _) ⟨two_fits,[key,v],.cons (key_rel hk) (.cons rv .nil),⟨_,Heap.get?_push_size _ rfl,rfl,_,rfl⟩⟩
  have nit:it≠s.heap.objs.size:=Nat.ne_of_lt (Heap.lt_size hi)
  have ff:∀ c∈[it],FpOk X pins (upd H s.heap.objs.size (.tup [kV kvs[i].1,kvs[i].2])) c:=fun c hc'=>by
   obtain ⟨f0,fr⟩:=hf c hc'
   rw [List.mem_singleton.mp hc'] at f0 fr ⊢
   exact ⟨by rw [upd_ne nit]; exact f0,fr⟩
  have kk:∀ c o,c ∉ [it]→(s.heap.push { cls:=.type "tuple",data:=.seq #[key,v] }).get? c=some o→h2.get? c=some o:=fun c o hc' e'=>by
   have ce:c≠it:=fun t=>hc' (by simp [t])
   rcases Heap.get?_push_cases e' with ⟨rfl,rfl⟩ | e'
   ·exact sb.extBut _ _ ce pr
   ·exact sb.extBut _ _ ce (k1 c o ce e')
  have I2:=inv_turns (h':=h2) (t':=s.toks) Im kk ff
  exact ⟨.ref s.heap.objs.size,upd H s.heap.objs.size (.tup [kV kvs[i].1,kvs[i].2]),I2,rfl,⟨_,kvs[i],rfl,hfr,List.getElem?_eq_getElem hl,rfl⟩,⟨_,_,hi2⟩,fun c hc'=>(ff c hc').1⟩
 done:=by
  intro X hP hw hK hc i pins s σ H E I hf st hg
  subst hP hw hK
  obtain ⟨ok,ov,hi⟩:=st
  obtain ⟨hl,hG⟩:kvs.length≤i∧Gd H:=hg
  have le:kvs.length=vs.length:=rel.length
  exact wpAny_pyNext_items_end (knd:=mixKind X.prog X.w) (I.ok.hd hc) hi (hd X pins s σ H rfl rfl rfl I hG) (List.getElem?_eq_none (by omega)) fun h1 k1 =>
   ⟨rfl,inv_turns (t':=s.toks) (L:=[it]) I (fun c o hc' e'=>k1 c o (fun t=>hc' (by simp [t])) e') hf⟩
 self:=fun _ _ _ _ _ st h=>by
  obtain ⟨ok,ov,hi⟩:=st
  rename_i A i s Q E
  have ty:s.TypeIs (.ref it) "dict_itemiterator":=⟨_,hi,rfl⟩
  refine wpAny_pyIter_slot ty F.slot_dict_itemiterator_iter (wpAny_call_entry F.slot_dict_itemiterator_iter ty PySem.W.kcp_entry ?_ (F.args_dict_itemiterator_iter_1 _))
  show wpAny _ _ (ret (.ref it)) _ _ s
  exact wpAny_pure ⟨_,rfl,"dict_itemiterator",_,ty,F.slot_dict_itemiterator_next.lookup,h⟩
section
variable {X:Cx} {d:Addr} {kvs:List (Key×V)}
def iItT (d:Addr) (kvs:List (Key×V)) (to:TE):TI:=fun σ H R=>to σ H fun x H1=>x=.ref d∧R (ItT (fun _=>True) kvs) H1
theorem pi_itemsT {es:List Expr} {n:Nat} {pt apos cpos:Pos} {o:Expr} {to:TE} (T:TopD X.prog X.w X.K d kvs) (ho:PE X o to)
  (hbase:attributeBase o "items" X.env (eval o X.env)=eval o X.env:=by rfl) (hline:(apos.endLine == cpos.line)=true:=by rfl) :
  PI X (.Tuple es n pt) (.Call (.Attribute o "items" apos) [] [] cpos) (iItT d kvs to):=by
 intro pins s σ H R I h
 obtain ⟨ob,ees,ep,vs,h1,exd,dat,h4,h5,h6,rel⟩:=T.is
 refine wpAny_Call_method0_late hbase hline (thn (ho pins s σ H _ I h) fun v s1 ⟨x,H1,I1,r1,ex,q⟩=>?_)
 subst ex
 cases r1
 have e1:=I1.kIn d ob h1
 refine ⟨"dict","dict.items",F.plainAttrs_dict,F.slot_dict_items,F.type_dict_items,⟨ob,e1,exd.1⟩,fun b e2=>by cases e2; exact ⟨ob,e1,exd.2.1⟩,Calls.callWith_builtin rfl (PySem.evalArgs_none ?_)⟩
 have de:DEnt s1.heap d ees ep:=⟨ob,e1,exd,dat⟩
 refine it_view T.sys de ?_
 have vw:(s1.heap.push { cls:=.type "dict_items",data:=.fields #[.ref d] }).IsItemsView s1.heap.objs.size d:=⟨_,Heap.get?_push_size _ rfl,rfl,rfl⟩
 have I2:Inv X pins σ H1 { s1 with heap:=s1.heap.push { cls:=.type "dict_items",data:=.fields #[.ref d] } }:=I1.kept (t':=s1.toks) fun b o e=>Heap.get?_push_of_some _ e
 have hd:∀ h:Heap,X.K.In h→h.DictAt (mixKind X.prog X.w) d vs ep:=fun h hk=>⟨ob,ees,hk d ob h1,exd,dat,h4,h5,h6⟩
 refine wpAny_pyIter_items (knd:=mixKind X.prog X.w) (s:={ s1 with heap:=s1.heap.push { cls:=.type "dict_items",data:=.fields #[.ref d] } }) vw (hd _ I2.kIn) ?_
 have I3:=I2.kept (t':=s1.toks) (h':=(s1.heap.push { cls:=.type "dict_items",data:=.fields #[.ref d] }).push { cls:=.type "dict_itemiterator",data:=.fields #[.none,.bool false,.ref d,.int 0 0,.int vs.length 0,.int ep 0,.none,.none] }) fun b o e=>Heap.get?_push_of_some _ e
 refine ⟨_,[(s1.heap.push { cls:=.type "dict_items",data:=.fields #[.ref d] }).objs.size],_,ItT (fun _=>True) kvs,H1,rfl,I3,turn_itemsT rel (fun X' pins' s' σ' H' e1 e2 e3 I' _=>hd _ (e3 ▸ I'.kIn)),⟨.none,.none,Heap.get?_push_size _ rfl⟩,fun c hc=>?_,q⟩
 have hs:s1.heap.objs.size≤c:=by
  rw [List.mem_singleton.mp hc,Heap.size_push]
  exact Nat.le_succ _
 exact I1.fpOk hs (I1.hok.fresh hs)
def iItK (to:TE):TI:=fun σ H R=>to σ H fun x H1=>∃ (d:Addr) (kvs:List (Key×V)),x=.ref d∧H1 d=some (.dK kvs)∧∀ o:Obj,R (ItT (fun H=>H d=some (.frz o (.dK kvs))) kvs) (upd H1 d (.frz o (.dK kvs)))
theorem pi_itemsK {es:List Expr} {n:Nat} {pt apos cpos:Pos} {o:Expr} {to:TE} (ho:PE X o to)
  (hbase:attributeBase o "items" X.env (eval o X.env)=eval o X.env:=by rfl) (hline:(apos.endLine == cpos.line)=true:=by rfl) :
  PI X (.Tuple es n pt) (.Call (.Attribute o "items" apos) [] [] cpos) (iItK to):=by
 intro pins s σ H R I h
 refine wpAny_Call_method0_late hbase hline (thn (ho pins s σ H _ I h) fun v s1 ⟨x,H1,I1,r1,d,kvs,ex,hd0,q⟩=>?_)
 subst ex
 cases r1
 obtain ⟨_,sys,vs,rel,ob,ees,ep,e1,exd,dat,h4,h5,h6⟩:=dk_of I1.hok hd0
 refine ⟨"dict","dict.items",F.plainAttrs_dict,F.slot_dict_items,F.type_dict_items,⟨ob,e1,exd.1⟩,fun b e2=>by cases e2; exact ⟨ob,e1,exd.2.1⟩,Calls.callWith_builtin rfl (PySem.evalArgs_none ?_)⟩
 have de:DEnt s1.heap d ees ep:=⟨ob,e1,exd,dat⟩
 refine it_view sys de ?_
 have vw:(s1.heap.push { cls:=.type "dict_items",data:=.fields #[.ref d] }).IsItemsView s1.heap.objs.size d:=⟨_,Heap.get?_push_size _ rfl,rfl,rfl⟩
 have I2:Inv X pins σ H1 { s1 with heap:=s1.heap.push { cls:=.type "dict_items",data:=.fields #[.ref d] } }:=I1.kept (t':=s1.toks) fun b o e=>Heap.get?_push_of_some _ e
 have e2:(s1.heap.push { cls:=.type "dict_items",data:=.fields #[.ref d] }).get? d=some ob:=Heap.get?_push_of_some _ e1
 refine wpAny_pyIter_items (knd:=mixKind X.prog X.w) (s:={ s1 with heap:=s1.heap.push { cls:=.type "dict_items",data:=.fields #[.ref d] } }) vw ⟨ob,ees,e2,exd,dat,h4,h5,h6⟩ ?_
 have I3:Inv X pins σ H1 { s1 with heap:=(s1.heap.push { cls:=.type "dict_items",data:=.fields #[.ref d] }).push { cls:=.type "dict_itemiterator",data:=.fields #[.none,.bool false,.ref d,.int 0 0,.int vs.length 0,.int ep 0,.none,.none] } }:=I2.kept (t':=s1.toks) fun b o e=>Heap.get?_push_of_some _ e
 have e3:=Heap.get?_push_of_some { cls:=.type "dict_itemiterator",data:=.fields #[.none,.bool false,.ref d,.int 0 0,.int vs.length 0,.int ep 0,.none,.none] } e2
 have hok3:=(show ObjOk X.prog X.w H1 _ d (.dK kvs) from I3.hok d _ hd0)
 have I4:=I3.write (x:=d) (e:=d) (o:=.frz ob (.dK kvs)) (t':=s1.toks) (by rw [hd0]; exact True.intro) (.inl rfl) (fun b u _ hu=>hu) ⟨ob,e3⟩ ⟨e3,hok3⟩
 have lt:d < s1.heap.objs.size:=Heap.lt_size e1
 refine ⟨_,[(s1.heap.push { cls:=.type "dict_items",data:=.fields #[.ref d] }).objs.size],_,_,_,rfl,I4,turn_itemsT (Gd:=fun H=>H d=some (.frz ob (.dK kvs))) rel (fun X' pins' s' σ' H' g1 g2 g3 I' hG=>?_),⟨.none,.none,Heap.get?_push_size _ rfl⟩,fun c hc=>?_,q ob⟩
 ·obtain ⟨e5,_⟩:=(show ObjOk X'.prog X'.w H' s'.heap d (.frz ob (.dK kvs)) from I'.hok d _ hG)
  exact ⟨ob,ees,e5,exd,dat,h4,h5,h6⟩
 ·have hs:s1.heap.objs.size≤c:=by
   rw [List.mem_singleton.mp hc,Heap.size_push]
   exact Nat.le_succ _
  obtain ⟨f0,fr⟩:=I1.fpOk hs (I1.hok.fresh hs)
  refine ⟨?_,fr⟩
  rw [upd_ne (fun z=>by rw [z] at hs; exact absurd lt (Nat.not_lt.mpr hs))]
  exact f0
end
section
variable {X:Cx}
def nT (i:Int):Str:=Str.ofString (toString i)
def tFst (a b:Str) (t1 t2:TE):TE:=fun σ H Q=>t1 σ H fun x H1=>∃ i:Int,x=.int i∧i.natAbs.log2 < 1920∧(a.length + (nT i).length + b.length≤1000)∧t2 σ H1 fun y H2=>∃ j:Int,y=.int j∧j.natAbs.log2 < 1920∧(a.length + (nT i).length + b.length + (nT j).length≤2000)∧Q (.str (a ++ nT i ++ b ++ nT j)) H2
theorem emp_app (a:Str):Str.empty ++ a=a:=by
 cases a with
 | mk x =>
  show (⟨#[] ++ x⟩:Str)=⟨x⟩
  rw [Array.empty_append]
theorem pe_fst {e1 e2:Expr} {a b:Str} {j1 j2:Nat} {p1 p2 p3 p4 pos:Pos} {t1 t2:TE} (ha:a.length≤1000) (h1:PE X e1 t1) (h2:PE X e2 t2):PE X (.JoinedStr [.Constant (.str a) j1 p1,.FormattedValue e1 (-1) none p2,.Constant (.str b) j2 p3,.FormattedValue e2 (-1) none p4] pos) (tFst a b t1 t2):=by
 intro pins s σ H Q I h
 refine JoinedStr_many ?_
 refine joinParts_cons (Calls.Constant_str ?_)
 have sz:∀ n:Nat,n≤5000→n≤sizeLine:=fun n hn=>by rw [sizeLine_eq]; omega
 have h0:t1 σ H fun x H1=>_:=h
 show (Str.empty ++ a).length≤sizeLine∧wpAny _ _ (joinParts (Str.empty ++ a) (eval (.FormattedValue e1 (-1) none p2) X.env :: evalEach [.Constant (.str b) j2 p3,.FormattedValue e2 (-1) none p4] X.env)) _ _ _
 rw [emp_app]
 refine ⟨?_,joinParts_cons (FormattedValue_plain (thn (h1 pins _ σ H _ (I.tok _) h0) fun v s1 ⟨x,H1,I1,r1,i,ex,hz,hl,q⟩=>?_))⟩
 ·exact sz _ (by omega)
 subst ex
 obtain ⟨t,rfl⟩:=r1
 refine formatField_int_small hz ?_
 show (a ++ nT i).length≤sizeLine∧wpAny _ _ (joinParts (a ++ nT i) (eval (.Constant (.str b) j2 p3) X.env :: evalEach [.FormattedValue e2 (-1) none p4] X.env)) _ _ _
 refine ⟨sz _ (by rw [app_len]; omega),joinParts_cons (Calls.Constant_str ?_)⟩
 show (a ++ nT i ++ b).length≤sizeLine∧wpAny _ _ (joinParts (a ++ nT i ++ b) (eval (.FormattedValue e2 (-1) none p4) X.env :: evalEach [] X.env)) _ _ _
 refine ⟨sz _ (by rw [app_len,app_len]; omega),joinParts_cons (FormattedValue_plain (thn (h2 pins _ σ H1 _ ((I1.tok _).tok _) q) fun v s2 ⟨y,H2,I2,r2,j,ey,hz2,hl2,q2⟩=>?_))⟩
 subst ey
 obtain ⟨t',rfl⟩:=r2
 refine formatField_int_small hz2 ?_
 show (a ++ nT i ++ b ++ nT j).length≤sizeLine∧wpAny _ _ (joinParts (a ++ nT i ++ b ++ nT j) []) _ _ _
 have hs:=sz (a ++ nT i ++ b ++ nT j).length (by rw [app_len,app_len,app_len]; omega)
 exact ⟨hs,joinParts_nil ⟨.str _,H2,(I2.tok _).tok _,⟨_,rfl⟩,q2⟩ hs⟩
end
end BF
namespace K21
open PySem PySem.Spec PyProof.Rows L2 BF
def top (i:Nat):Stmt:=PySem.Challenge.pw_bothfaces_k21_drawings_read.main.body.getD i (.Pass ⟨0,0,0,0⟩)
abbrev sColour:Stmt:=top 7
abbrev sNext:Stmt:=top 15
abbrev sExpect:Stmt:=top 16
abbrev sNumW:Stmt:=top 17
abbrev sNumber:Stmt:=top 18
abbrev sRdLine:Stmt:=top 19
abbrev sRdBy:Stmt:=top 20
abbrev sRdInk:Stmt:=top 21
abbrev sRdTurn:Stmt:=top 22
abbrev sRdTimes:Stmt:=top 23
abbrev sRdInner:Stmt:=top 24
abbrev sRdStroke:Stmt:=top 25
abbrev sRdRow:Stmt:=top 26
abbrev sRead:Stmt:=top 27
abbrev sShLine:Stmt:=top 28
abbrev sShInner:Stmt:=top 29
abbrev sShStroke:Stmt:=top 30
abbrev sShown:Stmt:=top 31
abbrev sNum:Stmt:=top 33
abbrev sWays:Stmt:=top 34
abbrev sFar:Stmt:=top 35
abbrev sPlain:Stmt:=top 36
abbrev sHead:Stmt:=top 37
abbrev sClosed:Stmt:=top 38
abbrev sTree:Stmt:=top 39
abbrev sLaw:Stmt:=top 40
structure Blt (mg:Str→Option Value):Prop where
 isi:mg "isinstance"=none
 int:mg "int"=none
 list:mg "list"=none
 str:mg "str"=none
 len:mg "len"=none
 all:mg "all"=none
 range:mg "range"=none
 abs:mg "abs"=none
 max:mg "max"=none
 rev:mg "reversed"=none
 far:∃ t,mg "FARTHEST"=some (.int 1000000000 t)
 lon:∃ t,mg "LONGEST"=some (.int 9 t)
 most:∃ t,mg "MOST_LETTERS"=some (.int 8 t)
 sig:∃ t,mg "MOST_SIGNS"=some (.int 2000 t)
 fig:∃ t,mg "MOST_FIGURES"=some (.int 10 t)
 dep:∃ t,mg "MOST_DEPTH"=some (.int 8 t)
 rou:∃ t,mg "MOST_ROUNDS"=some (.int 60 t)
 las:∃ t,mg "LAST_TURNING"=some (.int 7 t)
seal L2.PE L2.PA L2.PS L2.PSs L2.PT L2.PW L2.PG L2.PGs L2.PI BF.PTs L2.PPs L2.PO
def spColour:Sp:=fun vs H Q _=>∃ u k,vs=[u]∧Knd H u k∧(∀ z,u=.str z→z.length≤sizeLine)∧∀ H',Same H H'→Q (.bl (colB u)) H'
section
variable {P:Program} {w:World} {K:PySem.W.Frag} {mg:Str→Option Value} {base:Heap}
theorem colB_len {z:Str} (h:1≤z.length) (h':z.length≤8):colB (.str z)=z.cps.toList.all okSign:=by
 show (decide (1≤z.length) && decide (z.length≤8) && z.cps.toList.all okSign)=_
 rw [decide_eq_true h,decide_eq_true h']; rfl
theorem colB_no {z:Str} (h:¬ (1≤z.length∧z.length≤8)):colB (.str z)=false:=by
 show (decide (1≤z.length) && decide (z.length≤8) && z.cps.toList.all okSign)=_
 by_cases h1:1≤z.length
 ·rw [decide_eq_false (p:=z.length≤8) fun h2=>h ⟨h1,h2⟩,Bool.and_false,Bool.false_and]
 ·rw [decide_eq_false h1,Bool.false_and,Bool.false_and]
theorem all_id (cs:List Nat):(cs.map okSign).all id=cs.all okSign:=by
 rw [List.all_map]; rfl
theorem scColour:FnScope ["thing"] ["thing"] (defScope sColour):=⟨rfl,rfl,rfl,by decide +kernel,rfl,by decide +kernel,by decide +kernel⟩
theorem ok_colour {f:Addr} {fd:FuncData} (D:Df K mg "is_colour" sColour f fd) (B:Blt mg):FnOk P w K mg base CX0 1 f fd ["thing"] spColour:=by
 obtain ⟨tm,most⟩:=B.most
 refine D.F.ok scColour (fun vs H Q E h=>?_) (fun cdv A outer s H vs Q E hr h=>?_)
 ·obtain ⟨u,k,rfl,_⟩:=h
  rfl
 ·obtain ⟨u,k,rfl,kd,hz,q⟩:=h
  refine ⟨_,pss_cons (ps_if (PW.pt (pw_or (pt_not (pt_val (pe_callB call_isi (by rfl) B.isi boot_isinstance (pa_cons (pv 0) (pa_cons (pe_bltn (v:=.ty "str") (by rfl) B.str boot_str rfl) pa_nil)))))
    (pw_or1 (pt_not (pt_chain op_le op_le pe_int (pe_callB call_len_str (by rfl) B.len PySem.boot_len (pa_cons (pv 0) pa_nil)) (pe_glob (v:=.int 8) rfl most ⟨_,rfl⟩))))))
    (pss_one (ps_ret pe_bl)) pss_nil)
   (pss_one (ps_ret (pe_callB (call_all rfl) (by rfl) B.all boot_all (pa_cons
    (pe_comp (N':=["sign"]) (idx:=[none]) (compOk_of (by kernel_rfl)) (by kernel_rfl) rfl (pi_str (pv 0)) (fun _ _ _ _ _=>pg_name (i:=0) (show (["sign"]:List Str).Nodup by decide +kernel) rfl (Or.inl rfl)) (fun _ _ _ _ _=>pts_nil)
     (fun _ _ _ _ _=>pe_chain op_leS op_leS pe_str (pv 0) pe_str)) pa_nil)))),?_⟩
  refine ⟨_,rfl,u,k,.str,rfl,kd,_,rfl,?_⟩
  cases kd with
  | str z =>
   have hz':=hz z rfl
   refine iteF ⟨_,rfl,z,rfl,hz',_,_,rfl,rfl,_,rfl,?_⟩
   by_cases h1:(1:Int)≤(z.length:Int)
   ·refine ifD_pos h1 ⟨_,_,rfl,rfl,_,rfl,?_⟩
    by_cases h2:(z.length:Int)≤8
    ·rw [decide_eq_true h2]
     refine iteF ⟨_,rfl,z,rfl,fun D nD=>?_⟩
     refine comp_n (J:=Its z) (n:=z.cps.size) (fun i σ2 H2=>(∃ v,σ2=[v])∧Same H H2∧H2 D=some (.lst (((z.cps.toList.take i).map okSign).map V.bl))) ?_ (fun i σ2 H2 hi _=>hi) ?_ ?_
     ·exact ⟨⟨_,rfl⟩,same_upd nD,upd_same⟩
     ·rintro σ2 H2 ⟨⟨v,rfl⟩,S2,e2⟩
      refine ⟨rfl,D,z.cps.toList.map okSign,rfl,SqL.of ?_,?_⟩
      ·rw [e2,List.take_of_length_le (by rw [Array.length_toList]; exact Nat.le_refl _)]
      ·rw [all_id,← colB_len (by omega) (by omega)]
       exact q H2 S2
     ·rintro i σ2 H2 hi ⟨⟨v,rfl⟩,S2,e2⟩ x H3 ⟨rfl,c,hc,rfl⟩
      refine ⟨_,rfl,_,_,rfl,rfl,_,rfl,?_⟩
      have fin:∀ b:Bool,b=okSign c→∃ ys,H3 D=some (.lst ys)∧ys.length < sizeLine∧((∃ v,[some (V.str ⟨#[c]⟩)]=[v])∧Same H (upd H3 D (.lst (ys ++ [V.bl b])))∧upd H3 D (.lst (ys ++ [V.bl b])) D=some (.lst (((z.cps.toList.take (i + 1)).map okSign).map V.bl))):=by
       rintro b rfl
       refine ⟨_,e2,?_,⟨_,rfl⟩,?_,?_⟩
       ·rw [List.length_map,List.length_map,List.length_take]
        exact small1000 (by have:=Nat.min_le_right i z.cps.toList.length; have e:=len_cps z; omega)
       ·intro b' o' hb'
        rw [upd_ne (ne_of_none hb' nD)]
        exact S2 _ _ hb'
       ·rw [upd_same,List.take_succ,List.map_append,List.map_append,Array.getElem?_toList,hc]
        rfl
      by_cases g1:97≤c
      ·refine ifB_pos ?_ ⟨_,_,rfl,rfl,fin _ ?_⟩
       ·show (!decide (([c]:List Nat) < ("a":Str).cps.toList))=true
        rw [cps_a,lt1,decide_eq_false (by omega)]; rfl
       ·show (!decide (("z":Str).cps.toList < ([c]:List Nat)))=_
        rw [cps_z,lt1]
        unfold okSign
        rw [decide_eq_true g1,Bool.true_and]
        by_cases g2:c≤122
        ·rw [decide_eq_false (by omega),decide_eq_true g2]; rfl
        ·rw [decide_eq_true (by omega),decide_eq_false g2]; rfl
      ·refine ifB_neg ?_ (fin _ ?_)
       ·show (!decide (([c]:List Nat) < ("a":Str).cps.toList))=false
        rw [cps_a,lt1,decide_eq_true (by omega)]; rfl
       ·unfold okSign
        rw [decide_eq_false g1,Bool.false_and]
    ·rw [decide_eq_false h2]
     refine iteT ?_
     rw [← colB_no (z:=z) (by omega)]
     exact q H (Same.refl H)
   ·refine ifD_neg h1 ⟨_,rfl,iteT ?_⟩
    rw [← colB_no (z:=z) (by omega)]
    exact q H (Same.refl H)
  | int i=>exact iteT (q H (Same.refl H))
  | bl b=>exact iteT (q H (Same.refl H))
  | non=>exact iteT (q H (Same.refl H))
  | lst e=>exact iteT (q H (Same.refl H))
  | tup e=>exact iteT (q H (Same.refl H))
  | dic e=>exact iteT (q H (Same.refl H))
end
inductive Sk where
 | line (l:Bool) (a b:Int)
 | by_ (a b:Int)
 | ink (c:Str)
 | back (u:List Sk)
 | times (m:Nat) (u:List Sk)
 | turn (k:Nat) (u:List Sk)
mutual
inductive SkIs (H:Hp):V→Sk→Prop where
 | line {q:Addr} {l:Bool} {a b:Int} (e:H q=some (.tup [.str "line",.int a,.int b])):SkIs H (.ref q) (.line l a b)
 | by_ {q:Addr} {a b:Int} (e:H q=some (.tup [.str "by",.int a,.int b])):SkIs H (.ref q) (.by_ a b)
 | ink {q:Addr} {c:Str} (e:H q=some (.tup [.str "ink",.str c])):SkIs H (.ref q) (.ink c)
 | back {q l:Addr} {ys:List V} {u:List Sk} (e:H q=some (.tup [.str "back",.ref l])) (el:H l=some (.lst ys)) (h:SksIs H ys u):SkIs H (.ref q) (.back u)
 | times {q l:Addr} {ys:List V} {m:Nat} {u:List Sk} (e:H q=some (.tup [.str "times",.int (m:Int),.ref l])) (el:H l=some (.lst ys)) (h:SksIs H ys u):SkIs H (.ref q) (.times m u)
 | turn {q l:Addr} {ys:List V} {k:Nat} {u:List Sk} (e:H q=some (.tup [.str "turn",.int (k:Int),.ref l])) (el:H l=some (.lst ys)) (h:SksIs H ys u):SkIs H (.ref q) (.turn k u)
inductive SksIs (H:Hp):List V→List Sk→Prop where
 | nil:SksIs H [] []
 | cons {v:V} {s:Sk} {vs:List V} {ss:List Sk} (h:SkIs H v s) (t:SksIs H vs ss):SksIs H (v :: vs) (s :: ss)
end
mutual
theorem SkIs.same {H H':Hp} (S:Same H H'):∀ {s:Sk} {v:V},SkIs H v s→SkIs H' v s
 | .line _ _ _,_,.line e=>.line (S _ _ e)
 | .by_ _ _,_,.by_ e=>.by_ (S _ _ e)
 | .ink _,_,.ink e=>.ink (S _ _ e)
 | .back _,_,.back e el h=>.back (S _ _ e) (S _ _ el) (SksIs.same S h)
 | .times _ _,_,.times e el h=>.times (S _ _ e) (S _ _ el) (SksIs.same S h)
 | .turn _ _,_,.turn e el h=>.turn (S _ _ e) (S _ _ el) (SksIs.same S h)
theorem SksIs.same {H H':Hp} (S:Same H H'):∀ {ss:List Sk} {vs:List V},SksIs H vs ss→SksIs H' vs ss
 | [],_,.nil=>.nil
 | _ :: _,_,.cons h t=>.cons (SkIs.same S h) (SksIs.same S t)
end
theorem SksIs.length {H:Hp}:∀ {ss:List Sk} {vs:List V},SksIs H vs ss→vs.length=ss.length
 | [],_,.nil=>rfl
 | _ :: _,_,.cons _ t=>by rw [List.length_cons,List.length_cons,SksIs.length t]
theorem SksIs.at {H:Hp}:∀ {ss:List Sk} {vs:List V},SksIs H vs ss→∀ {i:Nat} {v:V},vs[i]?=some v→∃ s,ss[i]?=some s∧SkIs H v s
 | [],_,.nil,i,v,e=>by simp at e
 | s :: ss,_,.cons h t,0,v,e=>by
  have e':=Option.some.inj e
  subst e'
  exact ⟨s,rfl,h⟩
 | s :: ss,_,.cons h t,i + 1,v,e=>by
  obtain ⟨s',a,b⟩:=SksIs.at t (i:=i) (v:=v) (by simpa using e)
  exact ⟨s',by simpa using a,b⟩
theorem SksIs.snoc {H:Hp}:∀ {ss:List Sk} {vs:List V},SksIs H vs ss→∀ {v:V} {s:Sk},SkIs H v s→SksIs H (vs ++ [v]) (ss ++ [s])
 | [],_,.nil,_,_,h=>.cons h .nil
 | _ :: _,_,.cons q t,_,_,h=>.cons q (SksIs.snoc t h)
mutual
def Sk.gd:Sk→Nat→Prop
 | .line _ _ _,_=>True
 | .by_ _ _,_=>True
 | .ink _,_=>True
 | .back u,d=>∃ e,d=e + 1∧gds u e
 | .times m u,d=>m≤60∧∃ e,d=e + 1∧gds u e
 | .turn k u,d=>k < 8∧∃ e,d=e + 1∧gds u e
def gds:List Sk→Nat→Prop
 | [],_=>True
 | s :: r,d=>s.gd d∧gds r d
end
theorem gds_at:∀ {ss:List Sk} {d:Nat},gds ss d→∀ s∈ss,s.gd d
 | s :: r,d,h,x,hx=>by
  simp only [gds] at h
  rcases List.mem_cons.mp hx with rfl | hx
  ·exact h.1
  ·exact gds_at h.2 x hx
def ways8:List (Str×(Int×Int)):=[("n",(0,1)),("ne",(1,1)),("e",(1,0)),("se",(1,-1)),("s",(0,-1)),("sw",(-1,-1)),("w",(-1,0)),("nw",(-1,1))]
def wayW (a b:Int):Option Str:=(ways8.find? fun x=>decide (x.2=(a,b))).map (·.1)
def lineW (a b:Int):List Str:=match wayW a b with
 | some x=>[x]
 | none=>["line",nT a,nT b]
def lnW:Bool→Int→Int→List Str
 | true,a,b=>["line",nT a,nT b]
 | false,a,b=>lineW a b
mutual
def Sk.wd:Sk→List Str
 | .line l a b=>lnW l a b
 | .by_ a b=>["by",nT a,nT b]
 | .ink c=>["ink",c]
 | .back u=>"(" :: (wds u ++ [(")":Str)])
 | .times m u=>nT (m:Int) :: "times" :: "(" :: (wds u ++ [(")":Str)])
 | .turn k u=>"turn" :: nT (k:Int) :: "(" :: (wds u ++ [(")":Str)])
def wds:List Sk→List Str
 | []=>[]
 | s :: r=>s.wd ++ wds r
end
theorem wds_app:∀ (u v:List Sk),wds (u ++ v)=wds u ++ wds v
 | [],v=>by simp only [List.nil_append,wds]
 | s :: u,v=>by simp only [List.cons_append,wds,wds_app u v,List.append_assoc]
mutual
def Sk.cn:Sk→Prop
 | .line l _ _=>l=false
 | .by_ _ _=>True
 | .ink _=>True
 | .back u=>cns u
 | .times _ u=>cns u
 | .turn _ u=>cns u
def cns:List Sk→Prop
 | []=>True
 | s :: r=>s.cn∧cns r
end
theorem cns_at:∀ {u:List Sk},cns u→∀ s∈u,s.cn
 | s :: r,h,x,hx=>by
  simp only [cns] at h
  rcases List.mem_cons.mp hx with rfl | hx
  ·exact h.1
  ·exact cns_at h.2 x hx
theorem cns_of:∀ {u:List Sk},(∀ s∈u,s.cn)→cns u
 | [],_=>by simp only [cns]
 | s :: r,h=>by
  simp only [cns]
  exact ⟨h s List.mem_cons_self,cns_of fun x hx=>h x (List.mem_cons_of_mem _ hx)⟩
mutual
def Sk.vd:Sk→Nat→Prop
 | .line _ a b,_=>(-9≤a∧a≤9)∧(-9≤b∧b≤9)∧¬ (a=0∧b=0)
 | .by_ a b,_=>(-1000000000≤a∧a≤1000000000)∧(-1000000000≤b∧b≤1000000000)
 | .ink c,_=>colB (.str c)=true
 | .back u,d=>u≠[]∧∃ e,d=e + 1∧vds u e
 | .times m u,d=>1≤m∧m≤60∧u≠[]∧∃ e,d=e + 1∧vds u e
 | .turn k u,d=>k < 8∧u≠[]∧∃ e,d=e + 1∧vds u e
def vds:List Sk→Nat→Prop
 | [],_=>True
 | s :: r,d=>s.vd d∧vds r d
end
end K21
namespace K21
open PySem PySem.Spec PyProof.Rows L2 BF PySem.NumText
seal L2.PE L2.PA L2.PS L2.PSs L2.PT L2.PW L2.PG L2.PGs L2.PI BF.PTs L2.PPs L2.PO
def dg (m:Nat):List Nat:=(Nat.toDigits 10 m).map Char.toNat
theorem dg_small {m:Nat} (h:m < 10):dg m=[48 + m]:=by
 unfold dg
 rw [Nat.toDigits_of_lt_base h]
 have:m=0∨m=1∨m=2∨m=3∨m=4∨m=5∨m=6∨m=7∨m=8∨m=9:=by omega
 rcases this with rfl | rfl | rfl | rfl | rfl | rfl | rfl | rfl | rfl | rfl <;> rfl
theorem dg_big {m:Nat} (h:10≤m):dg m=dg (m / 10) ++ [48 + m % 10]:=by
 have e:=dg_small (m:=m % 10) (by omega)
 unfold dg at e ⊢
 rw [Nat.toDigits_of_lt_base (by omega)] at e
 rw [Nat.toDigits_of_base_le (by decide) h,List.map_append]
 congr 1
theorem dg_all:∀ (n m:Nat),m≤n→AllDigits (dg m)
 | 0,m,h=>by
  have:m=0:=by omega
  subst this
  rw [dg_small (by decide)]
  intro c hc
  rw [List.mem_singleton.mp hc]
  decide
 | n + 1,m,h=>by
  by_cases h10:m < 10
  ·rw [dg_small h10]
   intro c hc
   rw [List.mem_singleton.mp hc]
   omega
  ·rw [dg_big (by omega)]
   intro c hc
   rcases List.mem_append.mp hc with hc | hc
   ·exact dg_all n (m / 10) (by omega) c hc
   ·rw [List.mem_singleton.mp hc]
    omega
theorem dg_head:∀ (n m:Nat),m≤n→1≤m→∃ c r,dg m=c :: r∧49≤c
 | 0,m,h,h1=>by omega
 | n + 1,m,h,h1=>by
  by_cases h10:m < 10
  ·exact ⟨_,_,dg_small h10,by omega⟩
  ·obtain ⟨c,r,e,hc⟩:=dg_head n (m / 10) (by omega) (by omega)
   exact ⟨c,r ++ [48 + m % 10],by rw [dg_big (by omega),e]; rfl,hc⟩
theorem dg_ne (m:Nat):dg m≠[]:=by
 by_cases h:m=0
 ·subst h; rw [dg_small (by decide)]; simp
 ·obtain ⟨c,r,e,_⟩:=dg_head m m (Nat.le_refl _) (by omega)
  rw [e]; simp
theorem dg_lenk:∀ (k m:Nat),m < 10 ^ (k + 1)→(dg m).length≤k + 1
 | 0,m,h=>by rw [dg_small (by simpa using h)]; exact Nat.le_refl _
 | k + 1,m,h=>by
  by_cases h10:m < 10
  ·rw [dg_small h10]
   show 1≤_
   omega
  ·rw [dg_big (by omega),List.length_append]
   have:=dg_lenk k (m / 10) (by rw [Nat.pow_succ] at h; omega)
   show _ + 1≤_
   omega
theorem dg_len {m:Nat} (h:m < 10 ^ 10):(dg m).length≤10:=dg_lenk 9 m h
theorem nT_nat (m:Nat):(nT (m:Int)).cps.toList=dg m:=PySem.W.KIN.signs_num m
theorem nT_neg (m:Nat) (h:1≤m):(nT (-(m:Int))).cps.toList=45 :: dg m:=by
 obtain ⟨k,rfl⟩:∃ k,m=k + 1:=⟨m - 1,by omega⟩
 have e:=nT_nat (k + 1)
 unfold nT at e ⊢
 have e2:(-((k + 1:Nat):Int))=Int.negSucc k:=by omega
 rw [e2]
 rw [signs_ofString] at e ⊢
 have t:toString (Int.negSucc k)="-" ++ toString (k + 1):=rfl
 have t2:toString ((k + 1:Nat):Int)=toString (k + 1):=rfl
 rw [t2] at e
 rw [t,String.toList_append,List.map_append,e]
 rfl
theorem nT_reads {n:Int} (h:n.natAbs < 10 ^ 10):PySem.intText? (nT n)=some n∧(nT n).length≤640:=by
 have len:∀ x:Str,x.cps.toList.length=x.length:=fun x=>Array.length_toList
 by_cases h0:0≤n
 ·obtain ⟨m,rfl⟩:=Int.eq_ofNat_of_zero_le h0
  refine ⟨PySem.W.KIN.num_reads h0 (by omega),?_⟩
  have:=dg_len (m:=m) (by omega)
  rw [← nT_nat,len] at this
  omega
 ·obtain ⟨m,hm⟩:∃ m:Nat,n=-(m:Int):=⟨n.natAbs,by omega⟩
  subst hm
  have hm1:1≤m:=by omega
  have e:=nT_neg m hm1
  have hl:=dg_len (m:=m) (by omega)
  have ll:(nT (-(m:Int))).length≤11:=by
   rw [← len,e,List.length_cons]
   omega
  refine ⟨?_,by omega⟩
  rw [intText_neg e (dg_all m m (Nat.le_refl _)) (dg_ne m) (by omega)]
  have:=PySem.W.KIN.val_back m
  show some (-((digitsVal (dg m):Nat):Int))=_
  rw [show digitsVal (dg m)=m from this]
def figs (n:Int):Str:=⟨(dg n.natAbs).toArray⟩
theorem nT_pos {n:Int} (h:0≤n):nT n=figs n:=by
 obtain ⟨m,rfl⟩:=Int.eq_ofNat_of_zero_le h
 exact str_inj (by rw [nT_nat]; rfl)
theorem nT_minus {n:Int} (h:n < 0):nT n=⟨#[45]⟩ ++ figs n:=by
 obtain ⟨m,hm⟩:∃ m:Nat,n=-(m:Int):=⟨n.natAbs,by omega⟩
 subst hm
 refine str_inj ?_
 rw [nT_neg m (by omega)]
 have:(-(m:Int)).natAbs=m:=by omega
 unfold figs
 rw [this]
 show _=(#[45] ++ (dg m).toArray).toList
 rw [Array.toList_append]
 rfl
theorem starts_no {n:Int} (h:0≤n):Txt.startswith (nT n) "-"=false:=by
 rw [nT_pos h]
 have hd:=dg_all n.natAbs n.natAbs (Nat.le_refl _)
 have hne:=dg_ne n.natAbs
 unfold Txt.startswith Builtin.Str.subAt figs
 cases hg:dg n.natAbs with
 | nil=>exact absurd hg hne
 | cons c r =>
  have hc:48≤c:=(hd c (by rw [hg]; exact List.mem_cons_self)).1
  have e:((⟨(c :: r).toArray⟩:Str).cps.extract 0 (0 + (Str.ofString "-").length) == (Str.ofString "-").cps)=false:=by
   show ((c :: r).toArray.extract 0 1 == #[45])=false
   simp
   omega
  rw [e,Bool.and_false]
theorem starts_yes {n:Int} (h:n < 0):Txt.startswith (nT n) "-"=true:=by
 rw [nT_minus h]
 exact PySem.W.KT.starts_app _ _
theorem len_cpsL (x:Str):x.cps.toList.length=x.length:=Array.length_toList
theorem figs_len {n:Int} (h:n.natAbs < 10 ^ 10):1≤(figs n).length∧(figs n).length≤10:=by
 have e:(figs n).length=(dg n.natAbs).length:=by
  rw [← len_cpsL]
  rfl
 rw [e]
 have:=dg_ne n.natAbs
 refine ⟨?_,dg_len h⟩
 cases hd:dg n.natAbs with
 | nil=>exact absurd hd this
 | cons c r=>rw [List.length_cons]; omega
theorem nT_slice {n:Int} (h:n < 0):Txt.slice (nT n) (some 1) none=figs n:=by
 have e:=nT_minus h
 have hl:(nT n).cps.toList=45 :: dg n.natAbs:=by
  rw [e]
  show (#[45] ++ (dg n.natAbs).toArray).toList=_
  rw [Array.toList_append]
  rfl
 have hL:(nT n).length=(dg n.natAbs).length + 1:=by rw [← len_cpsL,hl,List.length_cons]
 rw [slice_from_eq (x:=nT n) (i:=1) (b:=((nT n).length:Int)) (by decide) (by omega) rfl,hl,hL]
 unfold figs
 have e3:((45 :: dg n.natAbs).drop (1:Int).toNat).take ((((dg n.natAbs).length + 1:Nat):Int) - 1).toNat=dg n.natAbs:=by
  show ((45 :: dg n.natAbs).drop 1).take _=_
  rw [List.drop_succ_cons,List.drop_zero,List.take_of_length_le (by omega)]
 rw [e3]
theorem digit_le {c:Nat} (h1:48≤c) (h2:c≤57):(!decide ((⟨#[c]⟩:Str).cps.toList < (Str.ofString "0").cps.toList))=true∧(!decide ((Str.ofString "9").cps.toList < (⟨#[c]⟩:Str).cps.toList))=true:=by
 have:c=48∨c=49∨c=50∨c=51∨c=52∨c=53∨c=54∨c=55∨c=56∨c=57:=by omega
 rcases this with rfl | rfl | rfl | rfl | rfl | rfl | rfl | rfl | rfl | rfl <;> decide +kernel
section
variable {P:Program} {w:World} {K:PySem.W.Frag} {mg:Str→Option Value} {base:Heap}
def spNumW:Sp:=fun vs H Q _=>∃ n:Int,vs=[.str (nT n)]∧n.natAbs < 10 ^ 10∧∀ H',Same H H'→Q (.bl true) H'
theorem scNumW:FnScope ["word","figures"] ["word"] (defScope sNumW):=⟨rfl,rfl,rfl,by decide +kernel,rfl,by decide +kernel,by decide +kernel⟩
theorem ok_numW {f:Addr} {fd:FuncData} (D:Df K mg "is_number_word" sNumW f fd) (B:Blt mg):FnOk P w K mg base CX0 1 f fd ["word"] spNumW:=by
 obtain ⟨tf,fig⟩:=B.fig
 refine D.F.ok scNumW (fun vs H Q E h=>?_) (fun cdv A outer s H vs Q E hr h=>?_)
 ·obtain ⟨n,rfl,_⟩:=h
  rfl
 ·obtain ⟨n,rfl,hn,z⟩:=h
  refine ⟨_,(pss_cons (ps_set (i:=1) scNumW.nd rfl (Or.inl rfl) (pe_ifExp (pt_val (pe_bm PySem.F.plainAttrs_str PySem.F.slot_str_startswith PySem.F.type_str_startswith mt_starts (pv 0) (pac (pe_str) pa_nil))) (pe_slice sl_str (pv 0) (po_some pe_int) po_none) (pv 0)))
   (pss_cons (ps_if (pt_not (pt_val (pe_callB (call_all rfl) (by rfl) B.all boot_all (pac (pe_comp (N':=["sign"]) (idx:=[none]) (compOk_of (by kernel_rfl)) (by kernel_rfl) rfl (pi_str (pv 1)) (fun _ _ _ _ _=>pg_name (i:=0) (show (["sign"]:List Str).Nodup by decide +kernel) rfl (Or.inl rfl)) (fun _ _ _ _ _=>pts_nil)
     (fun _ _ _ _ _=>pe_chain op_leS op_leS pe_str (pv 0) pe_str)) pa_nil)))) (pss_one (ps_ret pe_bl)) pss_nil)
   (pss_one (ps_ret (pe_and (pe_chain op_le op_le pe_int (pe_callB call_len_str (by rfl) B.len PySem.boot_len (pac (pv 1) pa_nil)) (pe_glob (v:=.int 10) rfl fig ⟨_,rfl⟩)) (pe_one (pe_or (pe_cmpR op_eq (pv 0) pe_str (nomark _)) (pe_one (pe_cmpR op_ne (pe_ix ix_str (pv 1) pe_int (fun _ _=>rfl)) pe_str (nomark _)))))))))),?_⟩
  have small:∀ k:Nat,k≤640→k≤sizeLine:=fun k hk=>by rw [sizeLine_eq]; omega
  refine' laterS (fun σ H1=>σ=[some (.str (nT n)),some (.str (figs n))]∧H1=H) (fun fin=>_) _
  rotate_left
  ·refine ⟨_,rfl,rfl,nT n,"-",rfl,rfl,_,rfl,?_⟩
   by_cases h0:n < 0
   ·refine ifB_pos (starts_yes h0) ⟨_,rfl,_,rfl,nT n,rfl,small _ (nT_reads hn).2,?_⟩
    rw [nT_slice h0]
    exact fin _ _ ⟨rfl,rfl⟩
   ·refine ifB_neg (starts_no (by omega)) ⟨_,rfl,?_⟩
    refine fin _ _ ⟨?_,rfl⟩
    rw [← nT_pos (by omega)]
    rfl
  rintro σ H1 ⟨rfl,rfl⟩
  obtain ⟨l1,l10⟩:=figs_len hn
  have fa:=dg_all n.natAbs n.natAbs (Nat.le_refl _)
  refine ⟨_,rfl,figs n,rfl,fun L nL=>?_⟩
  refine comp_n (J:=Its (figs n)) (n:=(figs n).cps.size) (fun i σ2 H2=>(∃ v,σ2=[v])∧Same H1 H2∧H2 L=some (.lst ((List.replicate i true).map V.bl))) ?_ (fun i σ2 H2 hi _=>hi) ?_ ?_
  ·exact ⟨⟨_,rfl⟩,same_upd nL,upd_same⟩
  ·rintro σ2 H2 ⟨⟨v,rfl⟩,S2,e2⟩
   refine ⟨rfl,L,_,rfl,SqL.of e2,_,rfl,?_⟩
   rw [show (List.replicate (figs n).cps.size true).all id=true by simp]
   refine iteF ?_
   refine ⟨_,rfl,figs n,rfl,small _ (by omega),_,_,rfl,rfl,_,rfl,ifB_pos (decide_eq_true (by show (1:Int)≤((figs n).length:Int); omega)) ?_⟩
   refine ⟨_,_,rfl,rfl,_,rfl,ifB_pos (decide_eq_true (by show ((figs n).length:Int)≤10; omega)) ?_⟩
   refine ⟨_,rfl,rfl,_,rfl,?_⟩
   by_cases h0:n=0
   ·subst h0
    exact ifB_pos (by decide +kernel) (z H2 S2)
   ·refine ifB_neg (decide_eq_false fun e=>?_) ?_
    ·injection e with e
     have hr:=(nT_reads hn).1
     rw [e] at hr
     have h0r:PySem.intText? (Str.ofString "0")=some 0:=PySem.W.KIN.num_reads (n:=0) (by decide) (by decide)
     rw [h0r] at hr
     exact h0 (Option.some.inj hr).symm
    ·obtain ⟨c,r,ec,hc⟩:=dg_head n.natAbs n.natAbs (Nat.le_refl _) (by omega)
     have ea:atI (figs n).cps.toList 0=some c:=by
      have:(figs n).cps.toList=c :: r:=by
       show (dg n.natAbs).toArray.toList=_
       rw [List.toList_toArray,ec]
      rw [this]
      exact atI_nat (xs:=c :: r) (j:=0) rfl
     refine ⟨_,rfl,figs n,0,c,rfl,rfl,small _ (by omega),ea,rfl,?_⟩
     have:(!decide (V.str ⟨#[c]⟩=V.str "0"))=true:=by
      rw [decide_eq_false]
      ·rfl
      ·intro e
       injection e with e
       have e2:(⟨#[c]⟩:Str).cps.toList=(Str.ofString "0").cps.toList:=by rw [e]
       have e3:[c]=[48]:=e2
       injection e3 with e4
       omega
     rw [this]
     exact z H2 S2
  ·rintro i σ2 H2 hi ⟨⟨v,rfl⟩,S2,e2⟩ x H3 ⟨rfl,c,hc,rfl⟩
   have hcm:c∈dg n.natAbs:=by
    have:(figs n).cps.toList[i]?=some c:=by rw [Array.getElem?_toList]; exact hc
    have h2:(dg n.natAbs)[i]?=some c:=by
     have e:(figs n).cps.toList=dg n.natAbs:=List.toList_toArray ..
     rw [e] at this
     exact this
    exact List.mem_of_getElem? h2
   obtain ⟨d1,d2⟩:=digit_le (fa c hcm).1 (fa c hcm).2
   have hi':i < (figs n).length:=hi
   refine ⟨_,rfl,_,_,rfl,rfl,_,rfl,ifB_pos d1 ?_⟩
   refine ⟨_,_,rfl,rfl,?_⟩
   rw [d2]
   refine ⟨_,e2,?_,⟨_,rfl⟩,same_updN S2 nL,?_⟩
   ·rw [List.length_map,List.length_replicate]
    exact small1000 (by omega)
   ·rw [upd_same,List.replicate_succ',List.map_append]
    rfl
def spNumber:Sp:=fun vs H Q _=>∃ (n lo hi:Int),vs=[.str (nT n),.int lo,.int hi]∧n.natAbs < 10 ^ 10∧lo≤n∧n≤hi∧∀ H',Same H H'→Q (.int n) H'
theorem scNumber:FnScope ["word","least","most","value"] ["word","least","most"] (defScope sNumber):=⟨rfl,rfl,rfl,by decide +kernel,rfl,by decide +kernel,by decide +kernel⟩
theorem ok_number {f fW:Addr} {fd fdW:FuncData} (D:Df K mg "number" sNumber f fd) (B:Blt mg)
  (DW:Df K mg "is_number_word" sNumW fW fdW) (bW:Binds K fdW ["word"] []) (GW:FnOk P w K mg base CX0 1 fW fdW ["word"] spNumW):FnOk P w K mg base CX0 2 f fd ["word","least","most"] spNumber:=by
 refine D.F.ok scNumber (fun vs H Q E h=>?_) (fun cdv A outer s H vs Q E hr h=>?_)
 ·obtain ⟨n,lo,hi,rfl,_⟩:=h
  rfl
 ·obtain ⟨n,lo,hi,rfl,hn,h1,h2,z⟩:=h
  refine ⟨_,(pss_cons (ps_if (pt_not (pt_val (pec GW hr rfl DW.m DW.F.kp bW .nil pass0 (pac (pv 0) pa_nil)))) (pss_one (ps_never)) pss_nil)
   (pss_cons (ps_set (i:=3) scNumber.nd rfl (Or.inl rfl) (pe_callTy call_intT (by rfl) B.int boot_int (pac (pv 0) pa_nil)))
   (pss_cons (ps_if (pt_not (pt_chain op_le op_le (pv 1) (pv 3) (pv 2))) (pss_one (ps_never)) pss_nil)
   (pss_one (ps_ret (pv 3)))))),?_⟩
  refine ⟨_,rfl,n,rfl,hn,fun H1 S1=>⟨_,rfl,iteF ?_⟩⟩
  obtain ⟨r1,r2⟩:=nT_reads hn
  refine ⟨_,rfl,nT n,n,rfl,r1,r2,?_⟩
  refine ⟨_,rfl,_,rfl,_,_,rfl,rfl,_,rfl,ifB_pos (decide_eq_true h1) ?_⟩
  refine ⟨_,rfl,_,_,rfl,rfl,_,rfl,?_⟩
  rw [decide_eq_true h2]
  exact iteF ⟨_,rfl,z H1 S1⟩
end
end K21
namespace K21
open PySem PySem.Spec PyProof.Rows L2 BF
seal L2.PE L2.PA L2.PS L2.PSs L2.PT L2.PW L2.PG L2.PGs L2.PI BF.PTs L2.PPs L2.PO
def wv (ws:List Str):HO:=.lst (ws.reverse.map V.str)
def WL (H:Hp) (wl:Addr) (ws:List Str):Prop:=H wl=some (wv ws)
theorem wv_cons (x:Str) (ws:List Str):wv (x :: ws)=.lst (ws.reverse.map V.str ++ [V.str x]):=by
 unfold wv
 rw [List.reverse_cons,List.map_append]
 rfl
section
variable {P:Program} {w:World} {K:PySem.W.Frag} {mg:Str→Option Value} {base:Heap}
def spNext:Sp:=fun vs H Q _=>∃ (wl:Addr) (x:Str) (ws:List Str),vs=[.ref wl]∧WL H wl (x :: ws)∧Q (.str x) (upd H wl (wv ws))
theorem scNext:FnScope ["words"] ["words"] (defScope sNext):=⟨rfl,rfl,rfl,by decide +kernel,rfl,by decide +kernel,by decide +kernel⟩
theorem ok_next {f:Addr} {fd:FuncData} (D:Df K mg "next_word" sNext f fd):FnOk P w K mg base CX0 1 f fd ["words"] spNext:=by
 refine D.F.ok scNext (fun vs H Q E h=>?_) (fun cdv A outer s H vs Q E hr h=>?_)
 ·obtain ⟨wl,x,ws,rfl,_⟩:=h
  rfl
 ·obtain ⟨wl,x,ws,rfl,hw,z⟩:=h
  refine ⟨_,(pss_one (ps_ret (pe_ifExp (pt_truth (pv 0) (fun _=>rfl)) (pe_bm0 PySem.F.plainAttrs_list PySem.F.slot_list_pop PySem.F.type_list_pop mt_pop (pv 0)) pe_str))),?_⟩
  have hw':H wl=some (.lst (ws.reverse.map V.str ++ [V.str x])):=by rw [← wv_cons]; exact hw
  refine ⟨_,rfl,true,?_,iteT ⟨_,rfl,.inl ⟨rfl,_,SqL.of hw'⟩,wl,_,.str x,rfl,rfl,hw',by simp,?_⟩⟩
  ·exact .inl ⟨_,SqL.of hw',by simp⟩
  ·rw [List.dropLast_concat]
   exact z
def spExpect:Sp:=fun vs H Q _=>∃ (wl:Addr) (x:Str) (ws:List Str),vs=[.ref wl,.str x]∧WL H wl (x :: ws)∧Q .non (upd H wl (wv ws))
theorem scExpect:FnScope ["words","wanted"] ["words","wanted"] (defScope sExpect):=⟨rfl,rfl,rfl,by decide +kernel,rfl,by decide +kernel,by decide +kernel⟩
theorem ok_expect {f fN:Addr} {fd fdN:FuncData} (D:Df K mg "expect" sExpect f fd) (DN:Df K mg "next_word" sNext fN fdN) (bN:Binds K fdN ["words"] []) (GN:FnOk P w K mg base CX0 1 fN fdN ["words"] spNext):FnOk P w K mg base CX0 2 f fd ["words","wanted"] spExpect:=by
 refine D.F.ok scExpect (fun vs H Q E h=>?_) (fun cdv A outer s H vs Q E hr h=>?_)
 ·obtain ⟨wl,x,ws,rfl,_⟩:=h
  rfl
 ·obtain ⟨wl,x,ws,rfl,hw,z⟩:=h
  refine ⟨_,(pss_one (ps_if (pt_cmpR op_ne (pec GN hr rfl DN.m DN.F.kp bN .nil pass0 (pac (pv 0) pa_nil)) (pv 1) (nomark _)) (pss_one (ps_never)) pss_nil)),?_⟩
  exact ⟨_,rfl,wl,x,ws,rfl,hw,_,rfl,rfl,_,rfl,ifB_neg (by simp) z⟩
def spRd2 (kw:Str) (m:Int) (ex:Prop):Sp:=fun vs H Q _=>∃ (wl:Addr) (H0:Hp) (a b:Int) (ws:List Str),vs=[.ref wl]∧WL H wl (nT a :: nT b :: ws)∧(-m≤a∧a≤m)∧(-m≤b∧b≤m)∧(ex→¬ (a=0∧b=0))∧Same H0 H∧H0 wl=none∧∀ t H',Same H0 H'→WL H' wl ws→H0 t=none→t≠wl→H' t=some (.tup [.str kw,.int a,.int b])→Q (.ref t) H'
theorem scRdLine:FnScope ["words","x","y"] ["words"] (defScope sRdLine):=⟨rfl,rfl,rfl,by decide +kernel,rfl,by decide +kernel,by decide +kernel⟩
theorem ok_rdLine {f fN fM:Addr} {fd fdN fdM:FuncData} (D:Df K mg "read_line" sRdLine f fd) (B:Blt mg) (DN:Df K mg "next_word" sNext fN fdN) (bN:Binds K fdN ["words"] []) (GN:FnOk P w K mg base CX0 1 fN fdN ["words"] spNext)
  (DM:Df K mg "number" sNumber fM fdM) (bM:Binds K fdM ["word","least","most"] []) (GM:FnOk P w K mg base CX0 2 fM fdM ["word","least","most"] spNumber):FnOk P w K mg base CX0 3 f fd ["words"] (spRd2 "line" 9 True):=by
 obtain ⟨tl,lon⟩:=B.lon
 refine D.F.ok scRdLine (fun vs H Q E h=>?_) (fun cdv A outer s H vs Q E hr h=>?_)
 ·obtain ⟨wl,H0,a,b,ws,rfl,_⟩:=h
  rfl
 ·obtain ⟨wl,H0,a,b,ws,rfl,hw,ha,hb,hab,S0,n0,z⟩:=h
  have hr1:Room 1 _:=hr.mono (by decide)
  refine ⟨_,(pss_cons (ps_set (i:=1) scRdLine.nd rfl (Or.inl rfl) (pec GM hr rfl DM.m DM.F.kp bM .nil pass0 (pac (pec GN hr1 rfl DN.m DN.F.kp bN .nil pass0 (pac (pv 0) pa_nil)) (pac (pe_un un_neg (pe_glob (v:=.int 9) rfl lon ⟨_,rfl⟩)) (pac (pe_glob (v:=.int 9) rfl lon ⟨_,rfl⟩) pa_nil)))))
   (pss_cons (ps_set (i:=2) scRdLine.nd rfl (Or.inl rfl) (pec GM hr rfl DM.m DM.F.kp bM .nil pass0 (pac (pec GN hr1 rfl DN.m DN.F.kp bN .nil pass0 (pac (pv 0) pa_nil)) (pac (pe_un un_neg (pe_glob (v:=.int 9) rfl lon ⟨_,rfl⟩)) (pac (pe_glob (v:=.int 9) rfl lon ⟨_,rfl⟩) pa_nil)))))
   (pss_cons (ps_if (PW.pt (pw_and (pt_cmpR op_eq (pv 1) pe_int (nomark _)) (pw_and1 (pt_cmpR op_eq (pv 2) pe_int (nomark _))))) (pss_one (ps_never)) pss_nil)
   (pss_one (ps_ret (pe_tup (pac (pe_str) (pac (pv 1) (pac (pv 2) pa_nil))))))))),?_⟩
  refine ⟨_,rfl,wl,_,_,rfl,hw,_,rfl,a,-9,9,rfl,by omega,by omega,by omega,fun H1 S1=>?_⟩
  have S01:Same H0 H1:=(same_updN S0 n0).trans S1
  have hw1:WL H1 wl (nT b :: ws):=S1 _ _ upd_same
  refine ⟨_,rfl,wl,_,_,rfl,hw1,_,rfl,b,-9,9,rfl,by omega,by omega,by omega,fun H2 S2=>?_⟩
  have S02:Same H0 H2:=(same_updN S01 n0).trans S2
  have hw2:WL H2 wl ws:=S2 _ _ upd_same
  have fin:∀ t,H2 t=none→Q (.ref t) (upd H2 t (.tup [.str "line",.int a,.int b])):=fun t nt=>by
   have T:=same_upd (o:=HO.tup [V.str "line",.int a,.int b]) nt
   exact z t _ (S02.trans T) (T _ _ hw2) (none_same S02 nt) (fun e=>by rw [e,show H2 wl=_ from hw2] at nt; cases nt) upd_same
  refine ⟨_,rfl,rfl,_,rfl,?_⟩
  by_cases h1:a=0
  ·refine ifB_pos (decide_eq_true (by rw [h1])) ⟨_,rfl,rfl,_,rfl,?_⟩
   refine ifB_neg (decide_eq_false fun e=>hab True.intro ⟨h1,by injection e⟩) ?_
   exact ⟨_,rfl,_,rfl,szr rfl,fin⟩
  ·refine ifB_neg (decide_eq_false fun e=>h1 (by injection e)) (iteF ?_)
   exact ⟨_,rfl,_,rfl,szr rfl,fin⟩
theorem scRdBy:FnScope ["words","x","y"] ["words"] (defScope sRdBy):=⟨rfl,rfl,rfl,by decide +kernel,rfl,by decide +kernel,by decide +kernel⟩
theorem ok_rdBy {f fN fM:Addr} {fd fdN fdM:FuncData} (D:Df K mg "read_by" sRdBy f fd) (B:Blt mg) (DN:Df K mg "next_word" sNext fN fdN) (bN:Binds K fdN ["words"] []) (GN:FnOk P w K mg base CX0 1 fN fdN ["words"] spNext)
  (DM:Df K mg "number" sNumber fM fdM) (bM:Binds K fdM ["word","least","most"] []) (GM:FnOk P w K mg base CX0 2 fM fdM ["word","least","most"] spNumber):FnOk P w K mg base CX0 3 f fd ["words"] (spRd2 "by" 1000000000 False):=by
 obtain ⟨tl,lon⟩:=B.far
 refine D.F.ok scRdBy (fun vs H Q E h=>?_) (fun cdv A outer s H vs Q E hr h=>?_)
 ·obtain ⟨wl,H0,a,b,ws,rfl,_⟩:=h
  rfl
 ·obtain ⟨wl,H0,a,b,ws,rfl,hw,ha,hb,hab,S0,n0,z⟩:=h
  have hr1:Room 1 _:=hr.mono (by decide)
  refine ⟨_,(pss_cons (ps_set (i:=1) scRdBy.nd rfl (Or.inl rfl) (pec GM hr rfl DM.m DM.F.kp bM .nil pass0 (pac (pec GN hr1 rfl DN.m DN.F.kp bN .nil pass0 (pac (pv 0) pa_nil)) (pac (pe_un un_neg (pe_glob (v:=.int 1000000000) rfl lon ⟨_,rfl⟩)) (pac (pe_glob (v:=.int 1000000000) rfl lon ⟨_,rfl⟩) pa_nil)))))
   (pss_cons (ps_set (i:=2) scRdBy.nd rfl (Or.inl rfl) (pec GM hr rfl DM.m DM.F.kp bM .nil pass0 (pac (pec GN hr1 rfl DN.m DN.F.kp bN .nil pass0 (pac (pv 0) pa_nil)) (pac (pe_un un_neg (pe_glob (v:=.int 1000000000) rfl lon ⟨_,rfl⟩)) (pac (pe_glob (v:=.int 1000000000) rfl lon ⟨_,rfl⟩) pa_nil)))))
   (pss_one (ps_ret (pe_tup (pac (pe_str) (pac (pv 1) (pac (pv 2) pa_nil)))))))),?_⟩
  refine ⟨_,rfl,wl,_,_,rfl,hw,_,rfl,a,-1000000000,1000000000,rfl,by omega,by omega,by omega,fun H1 S1=>?_⟩
  have S01:Same H0 H1:=(same_updN S0 n0).trans S1
  have hw1:WL H1 wl (nT b :: ws):=S1 _ _ upd_same
  refine ⟨_,rfl,wl,_,_,rfl,hw1,_,rfl,b,-1000000000,1000000000,rfl,by omega,by omega,by omega,fun H2 S2=>?_⟩
  have S02:Same H0 H2:=(same_updN S01 n0).trans S2
  have hw2:WL H2 wl ws:=S2 _ _ upd_same
  refine ⟨_,rfl,_,rfl,szr rfl,fun t nt=>?_⟩
  have T:=same_upd (o:=HO.tup [V.str "by",.int a,.int b]) nt
  exact z t _ (S02.trans T) (T _ _ hw2) (none_same S02 nt) (fun e=>by rw [e,show H2 wl=_ from hw2] at nt; cases nt) upd_same
def spRdInk:Sp:=fun vs H Q _=>∃ (wl:Addr) (H0:Hp) (c:Str) (ws:List Str),vs=[.ref wl]∧WL H wl (c :: ws)∧colB (.str c)=true∧c.length≤8∧Same H0 H∧H0 wl=none∧∀ t H',Same H0 H'→WL H' wl ws→H0 t=none→t≠wl→H' t=some (.tup [.str "ink",.str c])→Q (.ref t) H'
theorem scRdInk:FnScope ["words","colour"] ["words"] (defScope sRdInk):=⟨rfl,rfl,rfl,by decide +kernel,rfl,by decide +kernel,by decide +kernel⟩
theorem ok_rdInk {f fN fM:Addr} {fd fdN fdM:FuncData} (D:Df K mg "read_ink" sRdInk f fd) (DN:Df K mg "next_word" sNext fN fdN) (bN:Binds K fdN ["words"] []) (GN:FnOk P w K mg base CX0 1 fN fdN ["words"] spNext)
  (DM:Df K mg "is_colour" sColour fM fdM) (bM:Binds K fdM ["thing"] []) (GM:FnOk P w K mg base CX0 1 fM fdM ["thing"] spColour):FnOk P w K mg base CX0 2 f fd ["words"] spRdInk:=by
 refine D.F.ok scRdInk (fun vs H Q E h=>?_) (fun cdv A outer s H vs Q E hr h=>?_)
 ·obtain ⟨wl,H0,c,ws,rfl,_⟩:=h
  rfl
 ·obtain ⟨wl,H0,c,ws,rfl,hw,hc,hl,S0,n0,z⟩:=h
  refine ⟨_,(pss_cons (ps_set (i:=1) scRdInk.nd rfl (Or.inl rfl) (pec GN hr rfl DN.m DN.F.kp bN .nil pass0 (pac (pv 0) pa_nil)))
   (pss_cons (ps_if (pt_not (pt_val (pec GM hr rfl DM.m DM.F.kp bM .nil pass0 (pac (pv 1) pa_nil)))) (pss_one (ps_never)) pss_nil)
   (pss_one (ps_ret (pe_tup (pac (pe_str) (pac (pv 1) pa_nil))))))),?_⟩
  refine ⟨_,rfl,wl,_,_,rfl,hw,?_⟩
  refine ⟨_,rfl,.str c,.str,rfl,.str _,fun y e=>by cases e; rw [sizeLine_eq]; omega,fun H1 S1=>?_⟩
  rw [hc]
  have S01:Same H0 H1:=(same_updN S0 n0).trans S1
  have hw1:WL H1 wl ws:=S1 _ _ upd_same
  refine ⟨_,rfl,iteF ⟨_,rfl,szr rfl,fun t nt=>?_⟩⟩
  have T:=same_upd (o:=HO.tup [V.str "ink",.str c]) nt
  exact z t _ (S01.trans T) (T _ _ hw1) (none_same S01 nt) (fun e=>by rw [e,show H1 wl=_ from hw1] at nt; cases nt) upd_same
end
def kvW (f:Str→Addr):List (Key×V):=ways8.map fun x=>(Sum.inr x.1,V.ref (f x.1))
def Wy (P:Program) (w:World) (K:PySem.W.Frag) (mg:Str→Option Value):Prop:=∃ (d:Addr) (f:Str→Addr),mg "WAYS"=some (.ref d)∧TopD P w K d (kvW f)∧∀ x∈ways8,∀ H,SqT K H (f x.1) [.int x.2.1,.int x.2.2]
theorem way_at (f:Str→Addr):∀ x∈ways8,valV (kvW f) (Sum.inr x.1)=some (.ref (f x.1)):=by
 intro x hx
 simp only [ways8,List.mem_cons,List.not_mem_nil,or_false] at hx
 rcases hx with rfl | rfl | rfl | rfl | rfl | rfl | rfl | rfl <;> rfl
theorem way_no (f:Str→Addr) {y:Str} (h:∀ x∈ways8,x.1≠y):valV (kvW f) (Sum.inr y)=none:=by
 unfold valV kvW
 rw [Option.map_eq_none_iff,List.find?_eq_none]
 intro z hz
 obtain ⟨x,hx,rfl⟩:=List.mem_map.mp hz
 simp only [decide_eq_true_eq]
 exact fun e=>h x hx (by injection e)
theorem nT_alpha {m:Nat} {y:Str} (h:(y.cps.toList.head?).any (fun c=>decide (48≤c∧c≤57))=false):nT (m:Int)≠y:=fun e=>by
 have e1:=nT_nat m
 rw [e] at e1
 have a:=dg_all m m (Nat.le_refl _)
 cases hd:dg m with
 | nil=>exact dg_ne m hd
 | cons c r =>
  rw [hd] at a e1
  rw [e1] at h
  have ac:=a c List.mem_cons_self
  simp at h
  have:=ac
  omega
theorem ways_txt:∀ x∈ways8,(x.1.cps.toList.head?).any (fun c=>decide (48≤c∧c≤57))=false:=by
 intro x hx
 simp only [ways8,List.mem_cons,List.not_mem_nil,or_false] at hx
 rcases hx with rfl | rfl | rfl | rfl | rfl | rfl | rfl | rfl <;> rfl
theorem wayW_some {a b:Int} {x:Str} (h:wayW a b=some x):(x,(a,b))∈ways8:=by
 unfold wayW at h
 cases e:ways8.find? (fun y=>decide (y.2=(a,b))) with
 | none=>rw [e] at h; cases h
 | some y =>
  rw [e] at h
  have h1:=List.mem_of_find?_eq_some e
  have h2:=List.find?_some e
  obtain ⟨y1,y2⟩:=y
  have h3:y2=(a,b):=of_decide_eq_true h2
  have h4:y1=x:=Option.some.inj h
  rw [← h3,← h4]
  exact h1
theorem wd_ne (s:Sk):∃ x r,s.wd=x :: r∧x≠(")":Str):=by
 cases s with
 | line l a b =>
  cases l with
  | true=>simp only [Sk.wd,lnW]; exact ⟨_,_,rfl,by decide +kernel⟩
  | false =>
  simp only [Sk.wd,lnW,lineW]
  cases h:wayW a b with
  | none=>exact ⟨_,_,rfl,by decide +kernel⟩
  | some x =>
   refine ⟨x,[],rfl,fun e=>?_⟩
   have h1:=wayW_some h
   rw [e] at h1
   have:(")":Str)∈ways8.map (·.1):=List.mem_map.mpr ⟨_,h1,rfl⟩
   exact absurd this (by decide +kernel)
 | by_ a b=>simp only [Sk.wd]; exact ⟨_,_,rfl,by decide +kernel⟩
 | ink c=>simp only [Sk.wd]; exact ⟨_,_,rfl,by decide +kernel⟩
 | back u=>simp only [Sk.wd]; exact ⟨_,_,rfl,by decide +kernel⟩
 | times m u=>simp only [Sk.wd]; exact ⟨_,_,rfl,nT_alpha rfl⟩
 | turn k u=>simp only [Sk.wd]; exact ⟨_,_,rfl,by decide +kernel⟩
theorem wds_len:∀ u:List Sk,u.length≤(wds u).length
 | []=>Nat.zero_le _
 | s :: u=>by
  obtain ⟨x,r,e,_⟩:=wd_ne s
  have:=wds_len u
  simp only [wds,e,List.length_append,List.length_cons]
  omega
def fr (H0 H:Hp) (M:List Addr):Hp:=fun c=>match H0 c with
 | some _=>none
 | none=>if c∈M then none else H c
theorem fr_of {H0 H:Hp} {M:List Addr} {c:Addr} {o:HO} (e:fr H0 H M c=some o):H0 c=none∧¬ c∈M∧H c=some o:=by
 unfold fr at e
 cases h:H0 c with
 | some x=>rw [h] at e; cases e
 | none =>
  rw [h] at e
  by_cases hm:c∈M
  ·simp only [hm,if_true] at e; cases e
  ·simp only [hm,if_false] at e; exact ⟨rfl,hm,e⟩
theorem fr_at {H0 H:Hp} {M:List Addr} {c:Addr} {o:HO} (h0:H0 c=none) (hm:¬ c∈M) (e:H c=some o):fr H0 H M c=some o:=by
 unfold fr
 rw [h0]
 simp only [hm,if_false]
 exact e
theorem fr_to {H0 H H0' H':Hp} {M M':List Addr} (h:∀ c o,H0 c=none→¬ c∈M→H c=some o→H0' c=none∧¬ c∈M'∧H' c=some o):Same (fr H0 H M) (fr H0' H' M'):=fun c o e=>by
 obtain ⟨a,b,d⟩:=fr_of e
 obtain ⟨a',b',d'⟩:=h c o a b d
 exact fr_at a' b' d'
theorem fr_same {H0 H:Hp} {M:List Addr}:Same (fr H0 H M) H:=fun c o e=>(fr_of e).2.2
def w1 (H:Hp) (x:Addr):Hp:=fun c=>if c=x then none else H c
theorem w1_at {H:Hp} {x c:Addr} {o:HO} (e:H c=some o) (h:c≠x):w1 H x c=some o:=by
 unfold w1; rw [if_neg h]; exact e
theorem w1_no {H:Hp} {x:Addr}:w1 H x x=none:=by unfold w1; rw [if_pos rfl]
theorem w1_same {H:Hp} {x:Addr}:Same (w1 H x) H:=fun c o e=>by
 unfold w1 at e
 split at e
 ·cases e
 ·exact e
structure RowR (H0 H:Hp) (wl L:Addr) (xs:List V) (u:List Sk) (ws:List Str):Prop where
 same:Same H0 H
 hw:WL H wl ws
 nl:H0 L=none
 ne:L≠wl
 el:H L=some (.lst xs)
 sk:SksIs (fr H0 H [wl,L]) xs u
structure StrR (H0 H:Hp) (wl t:Addr) (s:Sk) (ws:List Str):Prop where
 same:Same H0 H
 hw:WL H wl ws
 nt:H0 t=none
 ne:t≠wl
 sk:SkIs (fr H0 H [wl]) (.ref t) s
theorem RowR.push {H0 H H':Hp} {wl L t:Addr} {xs:List V} {u:List Sk} {s:Sk} {ws ws':List Str} (n0:H0 wl=none) (h:RowR H0 H wl L xs u ws) (g:StrR (w1 H wl) H' wl t s ws'):RowR H0 (upd H' L (.lst (xs ++ [.ref t]))) wl L (xs ++ [.ref t]) (u ++ [s]) ws':=by
 have hL:w1 H wl L=some (.lst xs):=w1_at h.el h.ne
 have S:Same H0 H':=fun c o e=>g.same _ _ (w1_at (h.same _ _ e) (fun z=>by rw [z,n0] at e; cases e))
 refine ⟨same_updN S h.nl,?_,h.nl,h.ne,upd_same,?_⟩
 ·show (upd H' L _) wl=_
  rw [upd_ne (Ne.symm h.ne)]
  exact g.hw
 ·refine SksIs.snoc (h.sk.same (fr_to fun c o a b e=>?_)) (g.sk.same (fr_to fun c o a b e=>?_))
  ·have cw:c≠wl:=fun z=>b (by simp [z])
   have cL:c≠L:=fun z=>b (by simp [z])
   exact ⟨a,b,by rw [upd_ne cL]; exact g.same _ _ (w1_at e cw)⟩
  ·have cw:c≠wl:=fun z=>b (by simp [z])
   have cL:c≠L:=fun z=>by rw [z,hL] at a; cases a
   refine ⟨?_,fun z=>?_,by rw [upd_ne cL]; exact e⟩
   ·cases hc:H0 c with
    | none=>rfl
    | some q=>rw [w1_at (h.same _ _ hc) cw] at a; cases a
   ·simp only [List.mem_cons,List.not_mem_nil,or_false] at z
    rcases z with z | z
    ·exact cw z
    ·exact cL z
theorem RowR.close {H0 H:Hp} {wl L t:Addr} {xs:List V} {u:List Sk} {s:Sk} {ws:List Str} {o:HO} (h:RowR H0 H wl L xs u ws) (nt:H t=none) (k:∀ G:Hp,G t=some o→G L=some (.lst xs)→SksIs G xs u→SkIs G (.ref t) s):StrR H0 (upd H t o) wl t s ws:=by
 have T:=same_upd (o:=o) nt
 have tw:t≠wl:=fun z=>by rw [z,show H wl=_ from h.hw] at nt; cases nt
 refine ⟨h.same.trans T,T _ _ h.hw,none_same h.same nt,tw,k _ ?_ ?_ ?_⟩
 ·exact fr_at (none_same h.same nt) (by simpa using tw) upd_same
 ·exact fr_at h.nl (by simpa using h.ne) (T _ _ h.el)
 ·refine h.sk.same (fr_to fun c q a b e=>⟨a,fun z=>b ?_,T _ _ e⟩)
  simp only [List.mem_cons,List.not_mem_nil,or_false] at z ⊢
  exact .inl z
theorem StrR.flat {H0 H:Hp} {wl t:Addr} {s:Sk} {ws:List Str} {xs:List V} (S:Same H0 H) (hw:WL H wl ws) (nt:H0 t=none) (ne:t≠wl) (e:H t=some (.tup xs)) (k:∀ G:Hp,G t=some (.tup xs)→SkIs G (.ref t) s):StrR H0 H wl t s ws :=
 ⟨S,hw,nt,ne,k _ (fr_at nt (by simpa using ne) e)⟩
section
variable {P:Program} {w:World} {K:PySem.W.Frag} {mg:Str→Option Value} {base:Heap}
def spRow (d:Nat):Sp:=fun vs H Q _=>∃ (wl:Addr) (H0:Hp) (j:Nat) (u:List Sk) (ws:List Str),vs=[.ref wl,.int (j:Int)]∧WL H wl (wds u ++ ws)∧(ws=[]∨∃ r,ws=(")":Str) :: r)∧(∃ e,d=e + 1∧vds u e∧j + e≤8)∧(wds u).length≤2000∧Same H0 H∧H0 wl=none∧∀ L xs H',RowR H0 H' wl L xs u ws→Q (.ref L) H'
def spInner (d:Nat):Sp:=fun vs H Q _=>∃ (wl:Addr) (H0:Hp) (j:Nat) (u:List Sk) (ws:List Str),vs=[.ref wl,.int (j:Int)]∧WL H wl (wds u ++ (")":Str) :: ws)∧u≠[]∧(∃ e,d=e + 1∧vds u e∧j + d≤8)∧(wds u).length≤2000∧Same H0 H∧H0 wl=none∧∀ L xs H',RowR H0 H' wl L xs u ws→Q (.ref L) H'
def spStroke (d:Nat):Sp:=fun vs H Q _=>∃ (wl:Addr) (H0:Hp) (j:Nat) (s:Sk) (ws:List Str),vs=[.ref wl,.int (j:Int)]∧WL H wl (s.wd ++ ws)∧s.vd d∧j + d≤8∧s.wd.length≤2000∧Same H0 H∧H0 wl=none∧∀ t H',StrR H0 H' wl t s ws→Q (.ref t) H'
def spRdTurn (d:Nat):Sp:=fun vs H Q _=>∃ (wl:Addr) (H0:Hp) (j k:Nat) (u:List Sk) (ws:List Str),vs=[.ref wl,.int (j:Int)]∧WL H wl (nT (k:Int) :: ("(":Str) :: (wds u ++ (")":Str) :: ws))∧k < 8∧u≠[]∧(∃ e,d=e + 1∧vds u e∧j + d≤8)∧(wds u).length≤2000∧Same H0 H∧H0 wl=none∧∀ t H',StrR H0 H' wl t (.turn k u) ws→Q (.ref t) H'
def spRdTimes (d:Nat):Sp:=fun vs H Q _=>∃ (wl:Addr) (H0:Hp) (j m:Nat) (u:List Sk) (ws:List Str),vs=[.str (nT (m:Int)),.ref wl,.int (j:Int)]∧WL H wl (("times":Str) :: ("(":Str) :: (wds u ++ (")":Str) :: ws))∧1≤m∧m≤60∧u≠[]∧(∃ e,d=e + 1∧vds u e∧j + d≤8)∧(wds u).length≤2000∧Same H0 H∧H0 wl=none∧∀ t H',StrR H0 H' wl t (.times m u) ws→Q (.ref t) H'
theorem ok_row0 {CX:CXT} {k:Nat} {f:Addr} {fd:FuncData}:FnOk P w K mg base CX k f fd ["words","depth"] (spRow 0) :=
 ⟨fun _ _ _ _ h=>by obtain ⟨_,_,_,_,_,_,_,_,⟨e,h,_⟩,_⟩:=h; omega,fun _ _ _ _ _ _ _ _ _ _ _ _ _ h=>by obtain ⟨_,_,_,_,_,_,_,_,⟨e,h,_⟩,_⟩:=h; omega⟩
theorem scRdInner:FnScope ["words","depth","strokes"] ["words","depth"] (defScope sRdInner):=⟨rfl,rfl,rfl,by decide +kernel,rfl,by decide +kernel,by decide +kernel⟩
theorem ok_rdInner {f fR fX:Addr} {fd fdR fdX:FuncData} {d k:Nat} (D:Df K mg "read_inner" sRdInner f fd) (B:Blt mg) (DR:Df K mg "read_row" sRdRow fR fdR) (bR:Binds K fdR ["words","depth"] []) (GR:FnOk P w K mg base CX0 k fR fdR ["words","depth"] (spRow d))
  (DX:Df K mg "expect" sExpect fX fdX) (bX:Binds K fdX ["words","wanted"] []) (GX:FnOk P w K mg base CX0 2 fX fdX ["words","wanted"] spExpect) (h2:2≤k):FnOk P w K mg base CX0 (k + 1) f fd ["words","depth"] (spInner d):=by
 obtain ⟨tl,dep⟩:=B.dep
 refine D.F.ok scRdInner (fun vs H Q E h=>?_) (fun cdv A outer s H vs Q E hr h=>?_)
 ·obtain ⟨wl,H0,j,u,ws,rfl,_⟩:=h
  rfl
 ·obtain ⟨wl,H0,j,u,ws,rfl,hw,hu,⟨e,rfl,hv,hj⟩,hl,S0,n0,z⟩:=h
  have hr2:Room 2 _:=hr.mono h2
  refine ⟨_,(pss_cons (ps_if (pt_cmpR op_ge (pv 1) (pe_glob (v:=.int 8) rfl dep ⟨_,rfl⟩) (nomark _)) (pss_one (ps_never)) pss_nil)
   (pss_cons (ps_set (i:=2) scRdInner.nd rfl (Or.inl rfl) (pec GR hr rfl DR.m DR.F.kp bR .nil pass0 (pac (pv 0) (pac (pe_op op_add (pv 1) pe_int) pa_nil))))
   (pss_cons (ps_expr (pec GX hr2 rfl DX.m DX.F.kp bX .nil pass0 (pac (pv 0) (pac (pe_str) pa_nil))))
   (pss_cons (ps_if (pt_not (pt_truth (pv 2) (fun _=>rfl))) (pss_one (ps_never)) pss_nil)
   (pss_one (ps_ret (pv 2))))))),?_⟩
  refine ⟨_,rfl,_,_,rfl,rfl,_,rfl,ifB_neg (decide_eq_false (by show ¬ (j:Int) ≥ 8; omega)) ?_⟩
  refine ⟨_,rfl,_,rfl,_,_,rfl,rfl,wl,H0,j + 1,u,_,rfl,hw,.inr ⟨_,rfl⟩,⟨e,rfl,hv,by omega⟩,hl,S0,n0,fun L xs H1 R=>?_⟩
  refine ⟨_,rfl,wl,_,_,rfl,R.hw,?_⟩
  have R2:RowR H0 (upd H1 wl (wv ws)) wl L xs u ws:=⟨same_updN R.same n0,upd_same,R.nl,R.ne,by rw [upd_ne R.ne]; exact R.el,R.sk.same (fr_to fun c o a b e=>⟨a,b,by rw [upd_ne (fun z=>b (by simp [z]))]; exact e⟩)⟩
  have xn:xs≠[]:=fun z=>by
   have:=R.sk.length
   rw [z] at this
   exact hu (List.eq_nil_of_length_eq_zero this.symm)
  refine ⟨_,rfl,true,.inl ⟨_,SqL.of R2.el,?_⟩,iteF ⟨_,rfl,z L xs _ R2⟩⟩
  cases xs with
  | nil=>exact absurd rfl xn
  | cons a b=>simp
theorem scRdTurn:FnScope ["words","depth","way"] ["words","depth"] (defScope sRdTurn):=⟨rfl,rfl,rfl,by decide +kernel,rfl,by decide +kernel,by decide +kernel⟩
theorem ok_rdTurn {f fI fX fN fM:Addr} {fd fdI fdX fdN fdM:FuncData} {d k:Nat} (D:Df K mg "read_turn" sRdTurn f fd) (B:Blt mg) (DI:Df K mg "read_inner" sRdInner fI fdI) (bI:Binds K fdI ["words","depth"] []) (GI:FnOk P w K mg base CX0 k fI fdI ["words","depth"] (spInner d))
  (DX:Df K mg "expect" sExpect fX fdX) (bX:Binds K fdX ["words","wanted"] []) (GX:FnOk P w K mg base CX0 2 fX fdX ["words","wanted"] spExpect)
  (DN:Df K mg "next_word" sNext fN fdN) (bN:Binds K fdN ["words"] []) (GN:FnOk P w K mg base CX0 1 fN fdN ["words"] spNext)
  (DM:Df K mg "number" sNumber fM fdM) (bM:Binds K fdM ["word","least","most"] []) (GM:FnOk P w K mg base CX0 2 fM fdM ["word","least","most"] spNumber) (h2:2≤k):FnOk P w K mg base CX0 (k + 1) f fd ["words","depth"] (spRdTurn d):=by
 obtain ⟨tl,las⟩:=B.las
 refine D.F.ok scRdTurn (fun vs H Q E h=>?_) (fun cdv A outer s H vs Q E hr h=>?_)
 ·obtain ⟨wl,H0,j,m,u,ws,rfl,_⟩:=h
  rfl
 ·obtain ⟨wl,H0,j,m,u,ws,rfl,hw,hm,hu,hv,hl,S0,n0,z⟩:=h
  have hr2:Room 2 _:=hr.mono h2
  have hr1:Room 1 _:=hr.mono (Nat.le_trans (by decide) h2)
  refine ⟨_,(pss_cons (ps_set (i:=2) scRdTurn.nd rfl (Or.inl rfl) (pec GM hr2 rfl DM.m DM.F.kp bM .nil pass0 (pac (pec GN hr1 rfl DN.m DN.F.kp bN .nil pass0 (pac (pv 0) pa_nil)) (pac (pe_int) (pac (pe_glob (v:=.int 7) rfl las ⟨_,rfl⟩) pa_nil)))))
   (pss_cons (ps_expr (pec GX hr2 rfl DX.m DX.F.kp bX .nil pass0 (pac (pv 0) (pac (pe_str) pa_nil))))
   (pss_one (ps_ret (pe_tup (pac (pe_str) (pac (pv 2) (pac (pec GI hr rfl DI.m DI.F.kp bI .nil pass0 (pac (pv 0) (pac (pv 1) pa_nil))) pa_nil)))))))),?_⟩
  refine ⟨_,rfl,wl,_,_,rfl,hw,(m:Int),0,7,rfl,by omega,by omega,by omega,fun H1 S1=>?_⟩
  have S01:Same H0 H1:=(same_updN S0 n0).trans S1
  have hw1:WL H1 wl (("(":Str) :: (wds u ++ (")":Str) :: ws)):=S1 _ _ upd_same
  refine ⟨_,rfl,wl,_,_,rfl,hw1,?_⟩
  refine ⟨_,rfl,_,rfl,_,rfl,wl,H0,j,u,ws,rfl,upd_same,hu,hv,hl,same_updN S01 n0,n0,fun L xs H2 R=>?_⟩
  refine ⟨szr rfl,fun t nt=>?_⟩
  exact z t _ (R.close nt fun G e1 e2 e3=>.turn e1 e2 e3)
theorem scRdTimes:FnScope ["word","words","depth","rounds"] ["word","words","depth"] (defScope sRdTimes):=⟨rfl,rfl,rfl,by decide +kernel,rfl,by decide +kernel,by decide +kernel⟩
theorem ok_rdTimes {f fI fX fM:Addr} {fd fdI fdX fdM:FuncData} {d k:Nat} (D:Df K mg "read_times" sRdTimes f fd) (B:Blt mg) (DI:Df K mg "read_inner" sRdInner fI fdI) (bI:Binds K fdI ["words","depth"] []) (GI:FnOk P w K mg base CX0 k fI fdI ["words","depth"] (spInner d))
  (DX:Df K mg "expect" sExpect fX fdX) (bX:Binds K fdX ["words","wanted"] []) (GX:FnOk P w K mg base CX0 2 fX fdX ["words","wanted"] spExpect)
  (DM:Df K mg "number" sNumber fM fdM) (bM:Binds K fdM ["word","least","most"] []) (GM:FnOk P w K mg base CX0 2 fM fdM ["word","least","most"] spNumber) (h2:2≤k):FnOk P w K mg base CX0 (k + 1) f fd ["word","words","depth"] (spRdTimes d):=by
 obtain ⟨tl,rou⟩:=B.rou
 refine D.F.ok scRdTimes (fun vs H Q E h=>?_) (fun cdv A outer s H vs Q E hr h=>?_)
 ·obtain ⟨wl,H0,j,m,u,ws,rfl,_⟩:=h
  rfl
 ·obtain ⟨wl,H0,j,m,u,ws,rfl,hw,hm1,hm,hu,hv,hl,S0,n0,z⟩:=h
  have hr2:Room 2 _:=hr.mono h2
  refine ⟨_,(pss_cons (ps_set (i:=3) scRdTimes.nd rfl (Or.inl rfl) (pec GM hr2 rfl DM.m DM.F.kp bM .nil pass0 (pac (pv 0) (pac (pe_int) (pac (pe_glob (v:=.int 60) rfl rou ⟨_,rfl⟩) pa_nil)))))
   (pss_cons (ps_expr (pec GX hr2 rfl DX.m DX.F.kp bX .nil pass0 (pac (pv 1) (pac (pe_str) pa_nil))))
   (pss_cons (ps_expr (pec GX hr2 rfl DX.m DX.F.kp bX .nil pass0 (pac (pv 1) (pac (pe_str) pa_nil))))
   (pss_one (ps_ret (pe_tup (pac (pe_str) (pac (pv 3) (pac (pec GI hr rfl DI.m DI.F.kp bI .nil pass0 (pac (pv 1) (pac (pv 2) pa_nil))) pa_nil))))))))),?_⟩
  refine ⟨_,rfl,(m:Int),1,60,rfl,by omega,by omega,by omega,fun H1 S1=>?_⟩
  have S01:Same H0 H1:=S0.trans S1
  refine ⟨_,rfl,wl,_,_,rfl,S1 _ _ hw,?_⟩
  refine ⟨_,rfl,wl,_,_,rfl,upd_same,?_⟩
  refine ⟨_,rfl,_,rfl,_,rfl,wl,H0,j,u,ws,rfl,upd_same,hu,hv,hl,same_updN (same_updN S01 n0) n0,n0,fun L xs H2 R=>?_⟩
  refine ⟨szr rfl,fun t nt=>?_⟩
  exact z t _ (R.close nt fun G e1 e2 e3=>.times e1 e2 e3)
end
theorem col_len {c:Str} (h:colB (.str c)=true):c.length≤8:=by
 by_cases g:1≤c.length∧c.length≤8
 ·exact g.2
 ·rw [colB_no g] at h
  cases h
theorem lineW_none {a b:Int} (h:wayW a b=none):lineW a b=[("line":Str),nT a,nT b]:=by unfold lineW; rw [h]
theorem lineW_some {a b:Int} {x:Str} (h:wayW a b=some x):lineW a b=[x]:=by unfold lineW; rw [h]
theorem kw_no:∀ x∈ways8,x.1≠("line":Str)∧x.1≠("by":Str)∧x.1≠("ink":Str)∧x.1≠("(":Str)∧x.1≠("turn":Str):=by
 intro x hx
 simp only [ways8,List.mem_cons,List.not_mem_nil,or_false] at hx
 rcases hx with rfl | rfl | rfl | rfl | rfl | rfl | rfl | rfl <;> decide +kernel
section
variable {P:Program} {w:World} {K:PySem.W.Frag} {mg:Str→Option Value} {base:Heap}
theorem scRdStroke:FnScope ["words","depth","word","way"] ["words","depth"] (defScope sRdStroke):=⟨rfl,rfl,rfl,by decide +kernel,rfl,by decide +kernel,by decide +kernel⟩
theorem ok_rdStroke {f fN fL fB fK fI fT fM:Addr} {fd fdN fdL fdB fdK fdI fdT fdM:FuncData} {d k:Nat} (D:Df K mg "read_stroke" sRdStroke f fd) (W:Wy P w K mg)
  (DN:Df K mg "next_word" sNext fN fdN) (bN:Binds K fdN ["words"] []) (GN:FnOk P w K mg base CX0 1 fN fdN ["words"] spNext)
  (DL:Df K mg "read_line" sRdLine fL fdL) (bL:Binds K fdL ["words"] []) (GL:FnOk P w K mg base CX0 3 fL fdL ["words"] (spRd2 "line" 9 True))
  (DB:Df K mg "read_by" sRdBy fB fdB) (bB:Binds K fdB ["words"] []) (GB:FnOk P w K mg base CX0 3 fB fdB ["words"] (spRd2 "by" 1000000000 False))
  (DK:Df K mg "read_ink" sRdInk fK fdK) (bK:Binds K fdK ["words"] []) (GK:FnOk P w K mg base CX0 2 fK fdK ["words"] spRdInk)
  (DI:Df K mg "read_inner" sRdInner fI fdI) (bI:Binds K fdI ["words","depth"] []) (GI:FnOk P w K mg base CX0 k fI fdI ["words","depth"] (spInner d))
  (DT:Df K mg "read_turn" sRdTurn fT fdT) (bT:Binds K fdT ["words","depth"] []) (GT:FnOk P w K mg base CX0 (k + 1) fT fdT ["words","depth"] (spRdTurn d))
  (DM:Df K mg "read_times" sRdTimes fM fdM) (bM:Binds K fdM ["word","words","depth"] []) (GM:FnOk P w K mg base CX0 (k + 1) fM fdM ["word","words","depth"] (spRdTimes d)) (h3:3≤k):FnOk P w K mg base CX0 (k + 1 + 1) f fd ["words","depth"] (spStroke d):=by
 obtain ⟨dW,fW,mW,TW,sW⟩:=W
 refine D.F.ok scRdStroke (fun vs H Q E h=>?_) (fun cdv A outer s H vs Q E hr h=>?_)
 ·obtain ⟨wl,H0,j,s,ws,rfl,_⟩:=h
  rfl
 ·obtain ⟨wl,H0,j,st,ws,rfl,hw,hv,hj,hl,S0,n0,z⟩:=h
  have hr1:Room 1 _:=hr.mono (by omega)
  have hr2:Room 2 _:=hr.mono (by omega)
  have hr3:Room 3 _:=hr.mono (by omega)
  have hrk:Room k _:=hr.mono (by omega)
  refine ⟨_,(pss_cons (ps_set (i:=2) scRdStroke.nd rfl (Or.inl rfl) (pec GN hr1 rfl DN.m DN.F.kp bN .nil pass0 (pac (pv 0) pa_nil)))
   (pss_cons (ps_if (pt_cmpR (op_inTD TW) (pv 2) (pe_glob (v:=.ref dW) rfl mW rfl) rfl) (pss_cons (ps_set (i:=3) scRdStroke.nd rfl (Or.inl rfl) (pe_dgetT TW (pe_glob (v:=.ref dW) rfl mW rfl) (pv 2) (fun _ _=>rfl)))
   (pss_one (ps_ret (pe_tup (pac (pe_str) (pac (pe_ix ix_tup (pv 3) pe_int (fun _ _=>rfl)) (pac (pe_ix ix_tup (pv 3) pe_int (fun _ _=>rfl)) pa_nil))))))) pss_nil)
   (pss_cons (ps_if (pt_cmpR op_eq (pv 2) pe_str (nomark _)) (pss_one (ps_ret (pec GL hr3 rfl DL.m DL.F.kp bL .nil pass0 (pac (pv 0) pa_nil)))) pss_nil)
   (pss_cons (ps_if (pt_cmpR op_eq (pv 2) pe_str (nomark _)) (pss_one (ps_ret (pec GB hr3 rfl DB.m DB.F.kp bB .nil pass0 (pac (pv 0) pa_nil)))) pss_nil)
   (pss_cons (ps_if (pt_cmpR op_eq (pv 2) pe_str (nomark _)) (pss_one (ps_ret (pec GK hr2 rfl DK.m DK.F.kp bK .nil pass0 (pac (pv 0) pa_nil)))) pss_nil)
   (pss_cons (ps_if (pt_cmpR op_eq (pv 2) pe_str (nomark _)) (pss_one (ps_ret (pe_tup (pac (pe_str) (pac (pec GI hrk rfl DI.m DI.F.kp bI .nil pass0 (pac (pv 0) (pac (pv 1) pa_nil))) pa_nil))))) pss_nil)
   (pss_cons (ps_if (pt_cmpR op_eq (pv 2) pe_str (nomark _)) (pss_one (ps_ret (pec GT hr rfl DT.m DT.F.kp bT .nil pass0 (pac (pv 0) (pac (pv 1) pa_nil))))) pss_nil)
   (pss_one (ps_ret (pec GM hr rfl DM.m DM.F.kp bM .nil pass0 (pac (pv 2) (pac (pv 0) (pac (pv 1) pa_nil))))))))))))),?_⟩
  have no:∀ {y:Str},(∀ x∈ways8,x.1≠y)→(valV (kvW fW) (Sum.inr y)).isSome=false:=fun h=>by rw [way_no fW h]; rfl
  cases st with
  | line l a b =>
   simp only [Sk.vd] at hv
   cases l with
   | true =>
    have hw':WL H wl ("line" :: nT a :: nT b :: ws):=by simp only [Sk.wd,lnW] at hw; exact hw
    refine ⟨_,rfl,wl,_,_,rfl,hw',_,rfl,Sum.inr "line",rfl,rfl,_,rfl,ifB_neg (no fun x hx=>(kw_no x hx).1) ?_⟩
    refine ⟨_,rfl,rfl,_,rfl,ifB_pos (decide_eq_true rfl) ?_⟩
    refine ⟨_,rfl,wl,H0,a,b,ws,rfl,upd_same,hv.1,hv.2.1,fun _=>hv.2.2,same_updN S0 n0,n0,fun t H1 S1 w1 nt tw et=>?_⟩
    exact z t _ (StrR.flat S1 w1 nt tw et fun G e=>.line e)
   | false =>
   cases ew:wayW a b with
   | some x =>
    have hm:=wayW_some ew
    have hw':WL H wl (x :: ws):=by simp only [Sk.wd,lnW,lineW_some ew] at hw; exact hw
    have va:=way_at fW _ hm
    refine ⟨_,rfl,wl,x,ws,rfl,hw',_,rfl,Sum.inr x,rfl,rfl,_,rfl,ifB_pos (by rw [va]; rfl) ?_⟩
    have hq:=sW _ hm (upd H wl (wv ws))
    refine ⟨_,rfl,Sum.inr x,_,rfl,rfl,va,_,rfl,_,_,_,_,rfl,rfl,hq,rfl,_,rfl,_,_,_,_,rfl,rfl,hq,rfl,szr rfl,fun t nt=>?_⟩
    have T:=same_upd (o:=HO.tup [V.str "line",.int a,.int b]) nt
    exact z t _ (StrR.flat ((same_updN S0 n0).trans T) (T _ _ upd_same) (none_same (same_updN (o:=wv ws) S0 n0) nt) (fun e=>by rw [e,upd_same] at nt; cases nt) upd_same fun G e=>.line e)
   | none =>
    have hw':WL H wl ("line" :: nT a :: nT b :: ws):=by simp only [Sk.wd,lnW,lineW_none ew] at hw; exact hw
    refine ⟨_,rfl,wl,_,_,rfl,hw',_,rfl,Sum.inr "line",rfl,rfl,_,rfl,ifB_neg (no fun x hx=>(kw_no x hx).1) ?_⟩
    refine ⟨_,rfl,rfl,_,rfl,ifB_pos (decide_eq_true rfl) ?_⟩
    refine ⟨_,rfl,wl,H0,a,b,ws,rfl,upd_same,hv.1,hv.2.1,fun _=>hv.2.2,same_updN S0 n0,n0,fun t H1 S1 w1 nt tw et=>?_⟩
    exact z t _ (StrR.flat S1 w1 nt tw et fun G e=>.line e)
  | by_ a b =>
   simp only [Sk.vd] at hv
   have hw':WL H wl ("by" :: nT a :: nT b :: ws):=by simp only [Sk.wd] at hw; exact hw
   refine ⟨_,rfl,wl,_,_,rfl,hw',_,rfl,Sum.inr "by",rfl,rfl,_,rfl,ifB_neg (no fun x hx=>(kw_no x hx).2.1) ?_⟩
   refine ⟨_,rfl,rfl,_,rfl,ifB_neg (by decide +kernel) ?_⟩
   refine ⟨_,rfl,rfl,_,rfl,ifB_pos (decide_eq_true rfl) ?_⟩
   refine ⟨_,rfl,wl,H0,a,b,ws,rfl,upd_same,hv.1,hv.2,fun h=>h.elim,same_updN S0 n0,n0,fun t H1 S1 w1 nt tw et=>?_⟩
   exact z t _ (StrR.flat S1 w1 nt tw et fun G e=>.by_ e)
  | ink c =>
   simp only [Sk.vd] at hv
   have hw':WL H wl ("ink" :: c :: ws):=by simp only [Sk.wd] at hw; exact hw
   refine ⟨_,rfl,wl,_,_,rfl,hw',_,rfl,Sum.inr "ink",rfl,rfl,_,rfl,ifB_neg (no fun x hx=>(kw_no x hx).2.2.1) ?_⟩
   refine ⟨_,rfl,rfl,_,rfl,ifB_neg (by decide +kernel) ?_⟩
   refine ⟨_,rfl,rfl,_,rfl,ifB_neg (by decide +kernel) ?_⟩
   refine ⟨_,rfl,rfl,_,rfl,ifB_pos (decide_eq_true rfl) ?_⟩
   refine ⟨_,rfl,wl,H0,c,ws,rfl,upd_same,hv,col_len hv,same_updN S0 n0,n0,fun t H1 S1 w1 nt tw et=>?_⟩
   exact z t _ (StrR.flat S1 w1 nt tw et fun G e=>.ink e)
  | back u =>
   simp only [Sk.vd] at hv
   have hw':WL H wl ("(" :: (wds u ++ (")":Str) :: ws)):=by simp only [Sk.wd,List.cons_append,List.append_assoc,List.nil_append] at hw; exact hw
   have hlu:(wds u).length≤2000:=by simp only [Sk.wd,List.length_cons,List.length_append] at hl; omega
   refine ⟨_,rfl,wl,_,_,rfl,hw',_,rfl,Sum.inr "(",rfl,rfl,_,rfl,ifB_neg (no fun x hx=>(kw_no x hx).2.2.2.1) ?_⟩
   refine ⟨_,rfl,rfl,_,rfl,ifB_neg (by decide +kernel) ?_⟩
   refine ⟨_,rfl,rfl,_,rfl,ifB_neg (by decide +kernel) ?_⟩
   refine ⟨_,rfl,rfl,_,rfl,ifB_neg (by decide +kernel) ?_⟩
   refine ⟨_,rfl,rfl,_,rfl,ifB_pos (decide_eq_true rfl) ?_⟩
   obtain ⟨hu,e,he,hv⟩:=hv
   refine ⟨_,rfl,_,rfl,wl,H0,j,u,ws,rfl,upd_same,hu,⟨e,he,hv,hj⟩,hlu,same_updN S0 n0,n0,fun L xs H2 R=>?_⟩
   exact ⟨szr rfl,fun t nt=>z t _ (R.close nt fun G e1 e2 e3=>.back e1 e2 e3)⟩
  | turn m u =>
   simp only [Sk.vd] at hv
   have hw':WL H wl ("turn" :: nT (m:Int) :: ("(":Str) :: (wds u ++ (")":Str) :: ws)):=by simp only [Sk.wd,List.cons_append,List.append_assoc,List.nil_append] at hw; exact hw
   have hlu:(wds u).length≤2000:=by simp only [Sk.wd,List.length_cons,List.length_append] at hl; omega
   refine ⟨_,rfl,wl,_,_,rfl,hw',_,rfl,Sum.inr "turn",rfl,rfl,_,rfl,ifB_neg (no fun x hx=>(kw_no x hx).2.2.2.2) ?_⟩
   refine ⟨_,rfl,rfl,_,rfl,ifB_neg (by decide +kernel) ?_⟩
   refine ⟨_,rfl,rfl,_,rfl,ifB_neg (by decide +kernel) ?_⟩
   refine ⟨_,rfl,rfl,_,rfl,ifB_neg (by decide +kernel) ?_⟩
   refine ⟨_,rfl,rfl,_,rfl,ifB_neg (by decide +kernel) ?_⟩
   refine ⟨_,rfl,rfl,_,rfl,ifB_pos (decide_eq_true rfl) ?_⟩
   obtain ⟨hm,hu,e,he,hv⟩:=hv
   exact ⟨_,rfl,_,rfl,wl,H0,j,m,u,ws,rfl,upd_same,hm,hu,⟨e,he,hv,hj⟩,hlu,same_updN S0 n0,n0,z⟩
  | times m u =>
   simp only [Sk.vd] at hv
   have hw':WL H wl (nT (m:Int) :: ("times":Str) :: ("(":Str) :: (wds u ++ (")":Str) :: ws)):=by simp only [Sk.wd,List.cons_append,List.append_assoc,List.nil_append] at hw; exact hw
   have hlu:(wds u).length≤2000:=by simp only [Sk.wd,List.length_cons,List.length_append] at hl; omega
   have nq:∀ {y:Str},((y.cps.toList.head?).any (fun c=>decide (48≤c∧c≤57))=false)→decide (V.str (nT (m:Int))=V.str y)=false:=fun h=>decide_eq_false fun e=>nT_alpha h (by injection e)
   refine ⟨_,rfl,wl,_,_,rfl,hw',_,rfl,Sum.inr (nT (m:Int)),rfl,rfl,_,rfl,ifB_neg (no fun x hx=>Ne.symm (nT_alpha (ways_txt x hx))) ?_⟩
   refine ⟨_,rfl,rfl,_,rfl,ifB_neg (nq rfl) ?_⟩
   refine ⟨_,rfl,rfl,_,rfl,ifB_neg (nq rfl) ?_⟩
   refine ⟨_,rfl,rfl,_,rfl,ifB_neg (nq rfl) ?_⟩
   refine ⟨_,rfl,rfl,_,rfl,ifB_neg (nq rfl) ?_⟩
   refine ⟨_,rfl,rfl,_,rfl,ifB_neg (nq rfl) ?_⟩
   obtain ⟨hm1,hm,hu,e,he,hv⟩:=hv
   exact ⟨_,rfl,_,rfl,_,rfl,wl,H0,j,m,u,ws,rfl,upd_same,hm1,hm,hu,⟨e,he,hv,hj⟩,hlu,same_updN S0 n0,n0,z⟩
end
end K21
namespace K21
open PySem PySem.Spec PyProof.Rows L2 BF PySem.SeqAt
seal L2.PE L2.PA L2.PS L2.PSs L2.PT L2.PW L2.PG L2.PGs L2.PI BF.PTs L2.PPs L2.PO
theorem vds_app:∀ {u v:List Sk} {d:Nat},vds (u ++ v) d→vds v d
 | [],_,_,h=>h
 | s :: u,v,d,h=>by
  simp only [List.cons_append,vds] at h
  exact vds_app h.2
section
variable {P:Program} {w:World} {K:PySem.W.Frag} {mg:Str→Option Value} {base:Heap}
theorem scRdRow:FnScope ["words","depth","strokes"] ["words","depth"] (defScope sRdRow):=⟨rfl,rfl,rfl,by decide +kernel,rfl,by decide +kernel,by decide +kernel⟩
theorem ok_rdRow {f fS:Addr} {fd fdS:FuncData} {d k:Nat} (D:Df K mg "read_row" sRdRow f fd)
  (DS:Df K mg "read_stroke" sRdStroke fS fdS) (bS:Binds K fdS ["words","depth"] []) (GS:FnOk P w K mg base CX0 k fS fdS ["words","depth"] (spStroke d)):FnOk P w K mg base CX0 (k + 1) f fd ["words","depth"] (spRow (d + 1)):=by
 refine D.F.ok scRdRow (fun vs H Q E h=>?_) (fun cdv A outer s H vs Q E hr h=>?_)
 ·obtain ⟨wl,H0,j,u,ws,rfl,_⟩:=h
  rfl
 ·obtain ⟨wl,H0,j,u,ws,rfl,hw,hb,⟨e,he,hv,hj⟩,hl,S0,n0,z⟩:=h
  obtain rfl:d=e:=by omega
  refine ⟨_,(pss_cons (ps_set (i:=2) scRdRow.nd rfl (Or.inl rfl) (pe_lst pa_nil))
   (pss_cons (ps_while PassesOwn.never (PW.pt (pw_and (pt_truth (pv 0) (fun _=>rfl)) (pw_and1 (pt_cmpR op_ne (pe_ix ix_list (pv 0) (pe_un un_neg pe_int) (fun _ _=>rfl)) pe_str (nomark _))))) (pss_one (ps_expr (pe_bm PySem.F.plainAttrs_list PySem.F.slot_list_append PySem.F.type_list_append mt_append (pv 2) (pac (pec GS hr rfl DS.m DS.F.kp bS .nil pass0 (pac (pv 0) (pac (pv 1) pa_nil))) pa_nil)))))
   (pss_one (ps_ret (pv 2))))),?_⟩
  refine ⟨szr rfl,fun L nL=>?_⟩
  have T:=same_upd (o:=HO.lst []) nL
  have R0:RowR H0 (upd H L (.lst [])) wl L [] [] (wds u ++ ws):=⟨S0.trans T,T _ _ hw,none_same S0 nL,(fun e=>by rw [e,show H wl=_ from hw] at nL; cases nL),upd_same,.nil⟩
  refine ⟨fun m σ H1=>∃ (dn rs:List Sk) (xs:List V),m=rs.length∧u=dn ++ rs∧σ=[some (.ref wl),some (.int (j:Int)),some (.ref L)]∧RowR H0 H1 wl L xs dn (wds rs ++ ws),⟨_,[],u,[],rfl,rfl,rfl,R0⟩,?_⟩
  rintro m σ H1 ⟨dn,rs,xs,rfl,eu,rfl,R⟩
  cases rs with
  | nil =>
   have R':RowR H0 H1 wl L xs dn ws:=R
   have eu':u=dn:=by rw [eu,List.append_nil]
   rcases hb with rfl | ⟨r,rfl⟩
   ·refine ⟨_,rfl,false,.inl ⟨_,SqL.of R'.hw,rfl⟩,iteF (iteF ⟨_,rfl,z L xs H1 ?_⟩)⟩
    rw [eu']
    exact R'
   ·have h1:H1 wl=some (.lst (r.reverse.map V.str ++ [V.str (")":Str)])):=by rw [← wv_cons]; exact R'.hw
    refine ⟨_,rfl,true,.inl ⟨_,SqL.of h1,by simp⟩,iteT ⟨_,rfl,_,rfl,wl,_,_,_,rfl,rfl,SqL.of h1,atI_last _ _,rfl,_,rfl,ifB_neg (by simp) ⟨_,rfl,z L xs H1 ?_⟩⟩⟩
    rw [eu']
    exact R'
  | cons st rs =>
   obtain ⟨x,r,ex,nx⟩:=wd_ne st
   have ew:wds (st :: rs) ++ ws=st.wd ++ (wds rs ++ ws):=by simp only [wds,List.append_assoc]
   have hw1:WL H1 wl (st.wd ++ (wds rs ++ ws)):=by rw [← ew]; exact R.hw
   have h1:H1 wl=some (.lst ((r ++ (wds rs ++ ws)).reverse.map V.str ++ [V.str x])):=by
    rw [← wv_cons]
    rw [ex] at hw1
    exact hw1
   refine ⟨_,rfl,true,.inl ⟨_,SqL.of h1,by simp⟩,iteT ⟨_,rfl,_,rfl,wl,_,_,_,rfl,rfl,SqL.of h1,atI_last _ _,rfl,_,rfl,ifB_pos ?_ ?_⟩⟩
   ·show (!decide (V.str x=V.str (")":Str)))=true
    rw [decide_eq_false (fun z=>nx (by injection z))]
    rfl
   refine ⟨_,fun _ _ h=>h,?_⟩
   have hvs:st.vd d:=by
    rw [eu] at hv
    have:=vds_app hv
    simp only [vds] at this
    exact this.1
   have len:(wds u).length=(wds dn).length + st.wd.length + (wds rs).length:=by
    rw [eu,wds_app]
    simp only [wds,List.length_append]
    omega
   have R1:RowR H0 H1 wl L xs dn (wds (st :: rs) ++ ws):=R
   refine ⟨_,rfl,.inl ⟨rfl,_,SqL.of R.el⟩,_,rfl,_,rfl,wl,w1 H1 wl,j,st,_,rfl,hw1,hvs,hj,by omega,w1_same,w1_no,fun t H2 g=>?_⟩
   have hL2:H2 L=some (.lst xs):=g.same _ _ (w1_at R.el R.ne)
   refine ⟨L,xs,_,rfl,rfl,hL2,?_,?_⟩
   ·have a:=R.sk.length
    have b:=wds_len dn
    rw [sizeLine_eq]
    omega
   ·exact ⟨rs.length,Nat.lt_succ_self _,dn ++ [st],rs,_,rfl,by rw [eu,List.append_assoc]; rfl,rfl,R.push n0 g⟩
end
def Clean (x:Str):Prop:=32 ∉ x.cps.toList∧x.cps.toList≠[]
theorem clean_nT (n:Int):Clean (nT n):=by
 refine ⟨word_int n,fun e=>?_⟩
 by_cases h:0≤n
 ·rw [nT_pos h] at e
  exact dg_ne _ e
 ·rw [nT_minus (by omega)] at e
  have:((⟨#[45]⟩:Str) ++ figs n).cps.toList=45 :: (figs n).cps.toList:=by
   show ((#[45]:Array Nat) ++ (figs n).cps).toList=_
   simp
  rw [this] at e
  cases e
theorem clean_col {c:Str} (h:colB (.str c)=true):Clean c:=by
 by_cases g:1≤c.length∧c.length≤8
 ·rw [colB_len g.1 g.2] at h
  refine ⟨fun m=>?_,fun e=>?_⟩
  ·have:=List.all_eq_true.mp h 32 m
   exact absurd this (by decide)
  ·have e2:c.cps.toList.length=c.length:=Array.length_toList
   rw [e] at e2
   have:(0:Nat)=c.length:=e2
   omega
 ·rw [colB_no g] at h
  cases h
theorem clean_kw:Clean "line"∧Clean "by"∧Clean "ink"∧Clean "("∧Clean ")"∧Clean "times"∧Clean "turn":=by
 unfold Clean
 decide +kernel
theorem clean_way:∀ x∈ways8,Clean x.1:=by
 intro x hx
 simp only [ways8,List.mem_cons,List.not_mem_nil,or_false] at hx
 unfold Clean
 rcases hx with rfl | rfl | rfl | rfl | rfl | rfl | rfl | rfl <;> decide +kernel
mutual
theorem clean_wd:∀ {s:Sk} {d:Nat},s.vd d→∀ x∈s.wd,Clean x
 | .line true a b,d,h,x,hx=>by
  simp only [Sk.wd,lnW,List.mem_cons,List.not_mem_nil,or_false] at hx
  rcases hx with rfl | rfl | rfl
  ·exact clean_kw.1
  ·exact clean_nT _
  ·exact clean_nT _
 | .line false a b,d,h,x,hx=>by
  simp only [Sk.wd,lnW] at hx
  cases ew:wayW a b with
  | some y =>
   rw [lineW_some ew] at hx
   rw [List.mem_singleton.mp hx]
   exact clean_way _ (wayW_some ew)
  | none =>
   rw [lineW_none ew] at hx
   simp only [List.mem_cons,List.not_mem_nil,or_false] at hx
   rcases hx with rfl | rfl | rfl
   ·exact clean_kw.1
   ·exact clean_nT _
   ·exact clean_nT _
 | .by_ a b,d,h,x,hx=>by
  simp only [Sk.wd,List.mem_cons,List.not_mem_nil,or_false] at hx
  rcases hx with rfl | rfl | rfl
  ·exact clean_kw.2.1
  ·exact clean_nT _
  ·exact clean_nT _
 | .ink c,d,h,x,hx=>by
  simp only [Sk.vd] at h
  simp only [Sk.wd,List.mem_cons,List.not_mem_nil,or_false] at hx
  rcases hx with rfl | rfl
  ·exact clean_kw.2.2.1
  ·exact clean_col h
 | .back u,d,h,x,hx=>by
  simp only [Sk.vd] at h
  obtain ⟨_,e,_,h⟩:=h
  simp only [Sk.wd,List.mem_cons,List.mem_append,List.not_mem_nil,or_false] at hx
  rcases hx with rfl | hx | rfl
  ·exact clean_kw.2.2.2.1
  ·exact clean_wds h x hx
  ·exact clean_kw.2.2.2.2.1
 | .times m u,d,h,x,hx=>by
  simp only [Sk.vd] at h
  obtain ⟨_,_,_,e,_,h⟩:=h
  simp only [Sk.wd,List.mem_cons,List.mem_append,List.not_mem_nil,or_false] at hx
  rcases hx with rfl | rfl | rfl | hx | rfl
  ·exact clean_nT _
  ·exact clean_kw.2.2.2.2.2.1
  ·exact clean_kw.2.2.2.1
  ·exact clean_wds h x hx
  ·exact clean_kw.2.2.2.2.1
 | .turn m u,d,h,x,hx=>by
  simp only [Sk.vd] at h
  obtain ⟨_,_,e,_,h⟩:=h
  simp only [Sk.wd,List.mem_cons,List.mem_append,List.not_mem_nil,or_false] at hx
  rcases hx with rfl | rfl | rfl | hx | rfl
  ·exact clean_kw.2.2.2.2.2.2
  ·exact clean_nT _
  ·exact clean_kw.2.2.2.1
  ·exact clean_wds h x hx
  ·exact clean_kw.2.2.2.2.1
theorem clean_wds:∀ {u:List Sk} {d:Nat},vds u d→∀ x∈wds u,Clean x
 | [],d,h,x,hx=>by simp only [wds,List.not_mem_nil] at hx
 | s :: u,d,h,x,hx=>by
  simp only [vds] at h
  simp only [wds,List.mem_append] at hx
  rcases hx with hx | hx
  ·exact clean_wd h.1 x hx
  ·exact clean_wds h.2 x hx
end
def txt (u:List Sk):Str:=Txt.join blank (wds u)
theorem txt_len {u:List Sk} {d:Nat} (h:vds u d):(txt u).length=0↔u=[]:=by
 constructor
 ·intro e
  cases u with
  | nil=>rfl
  | cons s r =>
   obtain ⟨x,q,ex,_⟩:=wd_ne s
   have ew:wds (s :: r)=x :: (q ++ wds r):=by simp only [wds,ex,List.cons_append]
   have cx:=clean_wds h x (by rw [ew]; exact List.mem_cons_self)
   have e0:(txt (s :: r)).cps.toList=[]:=by
    have:(txt (s :: r)).cps.toList.length=(txt (s :: r)).length:=Array.length_toList
    exact List.eq_nil_of_length_eq_zero (this.trans e)
   have e1:txt (s :: r)=Str.join blank (wds (s :: r)):=StrLaws.glued_eq_join blank _
   rw [e1,join_cps,ew,List.map_cons] at e0
   cases hm:(q ++ wds r).map (fun x:Str=>x.cps.toList) with
   | nil=>rw [hm] at e0; exact absurd e0 cx.2
   | cons y t =>
    rw [hm,cat_cons] at e0
    have:=congrArg List.length e0
    simp at this
 ·rintro rfl
  rfl
section
variable {P:Program} {w:World} {K:PySem.W.Frag} {mg:Str→Option Value} {base:Heap}
theorem rows {fR fS fI fT fM fX fN fU fL fB fK:Addr} {fdR fdS fdI fdT fdM fdX fdN fdU fdL fdB fdK:FuncData} (B:Blt mg) (W:Wy P w K mg)
  (DR:Df K mg "read_row" sRdRow fR fdR) (bR:Binds K fdR ["words","depth"] []) (DS:Df K mg "read_stroke" sRdStroke fS fdS) (bS:Binds K fdS ["words","depth"] [])
  (DI:Df K mg "read_inner" sRdInner fI fdI) (bI:Binds K fdI ["words","depth"] []) (DT:Df K mg "read_turn" sRdTurn fT fdT) (bT:Binds K fdT ["words","depth"] [])
  (DM:Df K mg "read_times" sRdTimes fM fdM) (bM:Binds K fdM ["word","words","depth"] [])
  (DX:Df K mg "expect" sExpect fX fdX) (bX:Binds K fdX ["words","wanted"] []) (GX:FnOk P w K mg base CX0 2 fX fdX ["words","wanted"] spExpect)
  (DN:Df K mg "next_word" sNext fN fdN) (bN:Binds K fdN ["words"] []) (GN:FnOk P w K mg base CX0 1 fN fdN ["words"] spNext)
  (DU:Df K mg "number" sNumber fU fdU) (bU:Binds K fdU ["word","least","most"] []) (GU:FnOk P w K mg base CX0 2 fU fdU ["word","least","most"] spNumber)
  (DL:Df K mg "read_line" sRdLine fL fdL) (bL:Binds K fdL ["words"] []) (GL:FnOk P w K mg base CX0 3 fL fdL ["words"] (spRd2 "line" 9 True))
  (DB:Df K mg "read_by" sRdBy fB fdB) (bB:Binds K fdB ["words"] []) (GB:FnOk P w K mg base CX0 3 fB fdB ["words"] (spRd2 "by" 1000000000 False))
  (DK:Df K mg "read_ink" sRdInk fK fdK) (bK:Binds K fdK ["words"] []) (GK:FnOk P w K mg base CX0 2 fK fdK ["words"] spRdInk):∀ d:Nat,FnOk P w K mg base CX0 (3 + 4 * d) fR fdR ["words","depth"] (spRow d)
 | 0=>ok_row0
 | d + 1=>by
  have ih:=rows B W DR bR DS bS DI bI DT bT DM bM DX bX GX DN bN GN DU bU GU DL bL GL DB bB GB DK bK GK d
  have GI:=ok_rdInner (k:=3 + 4 * d) DI B DR bR ih DX bX GX (by omega)
  have GT:=ok_rdTurn (k:=3 + 4 * d + 1) DT B DI bI GI DX bX GX DN bN GN DU bU GU (by omega)
  have GM:=ok_rdTimes (k:=3 + 4 * d + 1) DM B DI bI GI DX bX GX DU bU GU (by omega)
  exact ok_rdRow (k:=3 + 4 * d + 1 + 1 + 1) DR DS bS (ok_rdStroke (k:=3 + 4 * d + 1) DS W DN bN GN DL bL GL DB bB GB DK bK GK DI bI GI DT bT GT DM bM GM (by omega))
def spRead:Sp:=fun vs H Q _=>∃ (u:List Sk),vs=[.str (txt u)]∧vds u 8∧(txt u).length≤2000∧(wds u).length≤2000∧∀ L xs H',Same H H'→H L=none→H' L=some (.lst xs)→SksIs (fr H H' [L]) xs u→Q (.ref L) H'
theorem scRead:FnScope ["text","words","strokes"] ["text"] (defScope sRead):=⟨rfl,rfl,rfl,by decide +kernel,rfl,by decide +kernel,by decide +kernel⟩
theorem ok_read {f fR:Addr} {fd fdR:FuncData} {k:Nat} (D:Df K mg "read" sRead f fd) (B:Blt mg) (DR:Df K mg "read_row" sRdRow fR fdR) (bR:Binds K fdR ["words","depth"] []) (GR:FnOk P w K mg base CX0 k fR fdR ["words","depth"] (spRow 9)):FnOk P w K mg base CX0 (k + 1) f fd ["text"] spRead:=by
 obtain ⟨tm,sig⟩:=B.sig
 refine D.F.ok scRead (fun vs H Q E h=>?_) (fun cdv A outer s H vs Q E hr h=>?_)
 ·obtain ⟨u,rfl,_⟩:=h
  rfl
 ·obtain ⟨u,rfl,hv,hl,hz,z⟩:=h
  refine ⟨_,(pss_cons (ps_if (PW.pt (pw_or (pt_not (pt_val (pe_callB call_isi (by rfl) B.isi boot_isinstance (pac (pv 0) (pac (pe_bltn (v:=.ty "str") (by rfl) B.str boot_str rfl) pa_nil))))) (pw_or1 (pt_cmpR op_gt (pe_callB call_len_str (by rfl) B.len PySem.boot_len (pac (pv 0) pa_nil)) (pe_glob (v:=.int 2000) rfl sig ⟨_,rfl⟩) (nomark _))))) (pss_one (ps_never)) pss_nil)
   (pss_cons (ps_set (i:=1) scRead.nd rfl (Or.inl rfl) (pe_ifExp (pt_truth (pv 0) (fun _=>rfl)) (pe_listRev rfl (by rfl) B.list (by rfl) B.rev (pac (pe_bm PySem.F.plainAttrs_str PySem.F.slot_str_split PySem.F.type_str_split mt_split (pv 0) (pac (pe_str) pa_nil)) pa_nil)) (pe_lst pa_nil)))
   (pss_cons (ps_set (i:=2) scRead.nd rfl (Or.inl rfl) (pec GR hr rfl DR.m DR.F.kp bR .nil pass0 (pac (pv 1) (pac (pe_int) pa_nil))))
   (pss_cons (ps_if (pt_truth (pv 1) (fun _=>rfl)) (pss_one (ps_never)) pss_nil)
   (pss_one (ps_ret (pv 2))))))),?_⟩
  have hl3:(txt u).length≤sizeLine:=by rw [sizeLine_eq]; omega
  refine ⟨_,rfl,_,.str,.str,rfl,.str _,_,rfl,iteF ⟨_,rfl,_,rfl,hl3,_,_,rfl,rfl,_,rfl,ifB_neg (decide_eq_false (by show ¬ ((txt u).length:Int) > 2000; omega)) ?_⟩⟩
  refine' laterS (fun σ H1=>∃ wl,σ=[some (.str (txt u)),some (.ref wl),none]∧H wl=none∧Same H H1∧WL H1 wl (wds u)) (fun fin=>_) _
  rotate_left
  ·by_cases hu:u=[]
   ·subst hu
    refine ⟨_,rfl,false,⟨hl3,rfl⟩,iteF ⟨szr rfl,fun p np=>fin _ _ ⟨p,rfl,np,same_upd np,upd_same⟩⟩⟩
   ·have hn:(txt u).length≠0:=fun e=>hu ((txt_len hv).mp e)
    have hne:wds u≠[]:=fun e=>by
     have:=wds_len u
     rw [e] at this
     exact hu (List.eq_nil_of_length_eq_zero (Nat.le_zero.mp this))
    have sp:Txt.split (txt u) blank=wds u:=split_words (fun x hx=>(clean_wds hv x hx).1) hne
    refine ⟨_,rfl,true,⟨hl3,?_⟩,iteT ⟨_,rfl,rfl,txt u,blank,rfl,rfl,rfl,by omega,fun p np=>?_⟩⟩
    ·symm
     simp only [bne_iff_ne,ne_eq]
     omega
    ·rw [sp]
     have T1:=same_upd (o:=HO.lst ((wds u).map V.str)) np
     refine ⟨p,_,rfl,SqL.of upd_same,fun q nq=>fin _ _ ⟨q,rfl,none_same T1 nq,T1.trans (same_upd nq),?_⟩⟩
     show (upd _ q _) q=some (.lst ((wds u).reverse.map V.str))
     rw [upd_same,List.map_reverse]
  rintro σ H1 ⟨wl,rfl,nw,S1,hw⟩
  refine ⟨_,rfl,wl,H,0,u,[],rfl,by rw [List.append_nil]; exact hw,.inl rfl,⟨8,rfl,hv,by omega⟩,hz,S1,nw,fun L xs H2 R=>?_⟩
  refine ⟨_,rfl,false,.inl ⟨_,SqL.of R.hw,rfl⟩,iteF ⟨_,rfl,z L xs H2 R.same R.nl R.el (R.sk.same (fr_to fun c o a b e=>⟨a,fun y=>b (by simp only [List.mem_singleton] at y; simp [y]),e⟩))⟩⟩
end
theorem op_eqKt {X:Cx} {k:Nat} (hr:Room k X.A):OpR X (compareOp .Eq) (fun x y H Q=>∃ (a b:Addr) (xs ys:List V) (l m:List Dt),x=.ref a∧y=.ref b∧SqT X.K H a xs∧SqT X.K H b ys∧DtsIs H xs l∧DtsIs H ys m∧Dt.dps l≤50∧Q (.bl (Dt.beq (.tup l) (.tup m))) H):=by
 intro pins s σ H x y v u Q I rx ry h
 obtain ⟨a,b,xs,ys,l,m,rfl,rfl,e,e',h1,h2,h60,q⟩:=h
 have hu:=hr.units
 cases rx
 cases ry
 obtain ⟨its,rv,p,_⟩:=I.tuple e
 obtain ⟨its',rv',p',_⟩:=I.tuple e'
 have n1:its.toArray.size=l.length:=by rw [List.size_toArray,← rv.length,h1.length]
 have n2:its'.toArray.size=m.length:=by rw [List.size_toArray,← rv'.length,h2.length]
 have R:=RcAt.tuples (A:=X.A) (s:=s) (e:=itEq l m) p p' (by omega) (fun j j1 j2=>eqsAt_D I X.A.in1 h1 rv h2 rv' (by show X.A.units + 1 + _ < _; omega) j _ _ (by simp) (by simp))
 rw [n1,n2,all_itEq] at R
 exact R X.prog X.w X.xe _ ⟨.bl _,H,I,rfl,q⟩
theorem for_itT {Gd:Hp→Prop} {kvs:List (Key×V)} {g:TG} {tb:TS} {D:Ends} {σ:L2.St} {H:Hp} (Pv:Nat→L2.St→Hp→Prop) (h0:Pv 0 σ H) (hl:∀ i σ H,i≤kvs.length→Pv i σ H→Gd H)
  (hs:∀ i kv p σ H,kvs[i]?=some kv→Pv i σ H→H p=none→g (.ref p) σ (upd H p (.tup [kV kv.1,kv.2])) fun σ2 H2=>tb { D with nx:=Pv (i + 1),ct:=Pv (i + 1),bk:=D.nx } σ2 H2) (hd:∀ σ H,Pv kvs.length σ H→D.nx σ H) :
  ∃ W:Nat→Nat→L2.St→Hp→Prop,(∃ m,W 0 m σ H)∧∀ i m σ H,W i m σ H →
   ((ItT Gd kvs).stop i H∧D.nx σ H)∨((ItT Gd kvs).go i H∧∃ N:L2.St→Hp→Prop,(∀ σ' H',N σ' H'→∃ m',m' < m∧W (i + 1) m' σ' H')∧∀ x H',(ItT Gd kvs).yld i H x H'→g x σ H' fun σ2 H2=>tb { D with nx:=N,ct:=N,bk:=D.nx } σ2 H2):=by
 refine ⟨fun i m σ H=>m=kvs.length - i∧i≤kvs.length∧Pv i σ H,⟨kvs.length,by simp,Nat.zero_le _,h0⟩,?_⟩
 rintro i m σ H ⟨rfl,hi,hp⟩
 by_cases h:i < kvs.length
 ·refine .inr ⟨⟨h,hl i σ H hi hp⟩,Pv (i + 1),fun σ' H' hp'=>⟨kvs.length - (i + 1),by omega,rfl,h,hp'⟩,?_⟩
  rintro x H' ⟨p,kv,rfl,np,hk,rfl⟩
  exact hs i kv p σ H hk hp np
 ·obtain rfl:i=kvs.length:=by omega
  exact .inl ⟨⟨Nat.le_refl _,hl _ σ H hi hp⟩,hd σ H hp⟩
theorem app_cps (a b:Str):(a ++ b).cps.toList=a.cps.toList ++ b.cps.toList:=by
 show (a.cps ++ b.cps).toList=_
 rw [Array.toList_append]
theorem app_as (a b c:Str):a ++ b ++ c=a ++ (b ++ c):=str_inj (by rw [app_cps,app_cps,app_cps,app_cps,List.append_assoc])
theorem jn_cps (ws:List Str):(Txt.join blank ws).cps.toList=cat (ws.map fun x=>x.cps.toList):=by
 have e1:Txt.join blank ws=Str.join blank ws:=StrLaws.glued_eq_join blank ws
 rw [e1,join_cps]
theorem jn_one (x:Str):Txt.join blank [x]=x:=str_inj (jn_cps [x])
theorem jn_cons (x:Str) {ws:List Str} (h:ws≠[]):Txt.join blank (x :: ws)=x ++ blank ++ Txt.join blank ws:=by
 apply str_inj
 cases ws with
 | nil=>exact absurd rfl h
 | cons y r =>
  rw [jn_cps,app_cps,app_cps,jn_cps,List.map_cons,List.map_cons,cat_cons,List.append_assoc]
  rfl
theorem jn_app:∀ {ws vs:List Str},ws≠[]→vs≠[]→Txt.join blank (ws ++ vs)=Txt.join blank ws ++ blank ++ Txt.join blank vs
 | [],_,h,_=>absurd rfl h
 | [x],vs,_,h=>by
  rw [jn_one]
  exact jn_cons x h
 | x :: y :: r,vs,_,h=>by
  rw [List.cons_append,jn_cons x (by simp),jn_cons x (by simp),jn_app (ws:=y :: r) (by simp) h]
  simp only [app_as]
theorem jn_flat:∀ {l:List (List Str)},(∀ x∈l,x≠[])→Txt.join blank (l.map (Txt.join blank))=Txt.join blank l.flatten
 | [],_=>rfl
 | [x],_=>by
  rw [List.map_cons,List.map_nil,jn_one,List.flatten_cons,List.flatten_nil,List.append_nil]
 | x :: y :: r,h=>by
  have hy:(y :: r).flatten≠[]:=fun e=>by
   rw [List.flatten_cons] at e
   exact h y (by simp) (List.append_eq_nil_iff.mp e).1
  rw [List.map_cons,jn_cons _ (by simp),jn_flat (l:=y :: r) (fun z hz=>h z (List.mem_cons_of_mem _ hz)),show (x :: y :: r).flatten=x ++ (y :: r).flatten from List.flatten_cons,jn_app (h x (by simp)) hy]
theorem log_small {n:Nat} (h:n < 10 ^ 10):n.log2 < 1920:=by
 by_cases h0:n=0
 ·rw [h0]; decide
 ·have h1:n.log2 < 34:=(Nat.log2_lt h0).mpr (Nat.lt_of_lt_of_le h (by decide))
  omega
theorem way_find {a b:Int}:∀ {l:List (Str×(Int×Int))} {i:Nat} {x:Str×(Int×Int)},(∀ y∈l.take i,y.2≠(a,b))→l[i]?=some x→x.2=(a,b)→(l.find? fun y=>decide (y.2=(a,b)))=some x
 | [],i,x,_,e,_=>by simp at e
 | y :: l,0,x,_,e,h=>by
  have e:=Option.some.inj e
  subst e
  rw [List.find?_cons_of_pos (by simpa using h)]
 | y :: l,i + 1,x,hn,e,h=>by
  have h1:y.2≠(a,b):=hn y (by simp)
  rw [List.find?_cons_of_neg (by simpa using h1)]
  exact way_find (l:=l) (i:=i) (fun z hz=>hn z (by simp [hz])) (by simpa using e) h
section
variable {P:Program} {w:World} {K:PySem.W.Frag} {mg:Str→Option Value} {base:Heap}
def spShLine:Sp:=fun vs H Q _=>∃ (a b:Int),vs=[.int a,.int b]∧a.natAbs < 10 ^ 10∧b.natAbs < 10 ^ 10∧∀ H',Same H H'→Q (.str (Txt.join blank (lineW a b))) H'
theorem scShLine:FnScope ["x","y","word","way"] ["x","y"] (defScope sShLine):=⟨rfl,rfl,rfl,by decide +kernel,rfl,by decide +kernel,by decide +kernel⟩
theorem ok_shLine {f:Addr} {fd:FuncData} (D:Df K mg "shown_line" sShLine f fd) (W:Wy P w K mg):FnOk P w K mg base CX0 1 f fd ["x","y"] spShLine:=by
 obtain ⟨dW,fW,mW,TW,sW⟩:=W
 refine D.F.ok scShLine (fun vs H Q E h=>?_) (fun cdv A outer s H vs Q E hr h=>?_)
 ·obtain ⟨a,b,rfl,_⟩:=h
  rfl
 ·obtain ⟨a,b,rfl,ha,hb,z⟩:=h
  refine ⟨_,(pss_cons (ps_for PassesOwn.never rfl (pi_itemsT TW (pe_glob (v:=.ref dW) rfl mW rfl)) (pg_tup (n:=2) rfl (pgs_cons (pg_name (i:=2) scShLine.nd rfl (Or.inl rfl)) (pgs_cons (pg_name (i:=3) scShLine.nd rfl (Or.inl rfl)) pgs_nil))) (pss_one (ps_if (pt_cmpR (op_eqKt hr) (pv 3) (pe_tup (pac (pv 0) (pac (pv 1) pa_nil))) (nomark _)) (pss_one (ps_ret (pv 2))) pss_nil)))
   (pss_one (ps_ret (pe_fst (by decide +kernel) (pv 0) (pv 1))))),?_⟩
  refine ⟨rfl,?_⟩
  refine for_itT (fun i σ H1=>(∃ v2 v3,σ=[some (.int a),some (.int b),v2,v3])∧Same H H1∧∀ y∈ways8.take i,y.2≠(a,b)) ⟨⟨_,_,rfl⟩,fun _ _ e=>e,by simp⟩ (fun _ _ _ _ _=>True.intro) ?_ ?_
  ·rintro i kv p σ H1 hk ⟨⟨v2,v3,rfl⟩,S1,hn⟩ np
   have hk2:(ways8[i]?).map (fun x=>((Sum.inr x.1:Key),V.ref (fW x.1)))=some kv:=by rw [← List.getElem?_map]; exact hk
   obtain ⟨x,hx,rfl⟩:=Option.map_eq_some_iff.mp hk2
   have mx:x∈ways8:=List.mem_of_getElem? hx
   have T:=same_upd (o:=HO.tup [kV (Sum.inr x.1:Key),V.ref (fW x.1)]) np
   refine ⟨p,_,rfl,SqT.of upd_same,rfl,_,_,rfl,_,_,rfl,rfl,?_⟩
   refine ⟨_,rfl,_,rfl,_,rfl,szr rfl,fun q nq=>?_⟩
   have T2:=same_upd (o:=HO.tup [V.int a,.int b]) nq
   refine ⟨fW x.1,q,_,_,[.int x.2.1,.int x.2.2],[.int a,.int b],rfl,rfl,sW x mx _,SqT.of upd_same,.cons (.int _) (.cons (.int _) .nil),.cons (.int _) (.cons (.int _) .nil),(by simp [Dt.dps,Dt.dp]),_,rfl,?_⟩
   have S2:=S1.trans (T.trans T2)
   by_cases h:x.2=(a,b)
   ·refine ifB_pos ((Dt.beq_iff _ _).mpr (by rw [h])) ⟨_,rfl,?_⟩
    have e:lineW a b=[x.1]:=lineW_some (by unfold wayW; rw [way_find hn hx h]; rfl)
    have:=z _ S2
    rw [e,jn_one] at this
    exact this
   ·refine ifB_neg (Dt.beq_false.mpr fun e=>h (by injection e with e; injection e with e1 e2; injection e2 with e2; injection e1 with e1; injection e2 with e2; exact Prod.ext e1 e2)) ⟨⟨_,_,rfl⟩,S2,fun y hy=>?_⟩
    rw [List.take_succ,hx] at hy
    rcases List.mem_append.mp hy with hy | hy
    ·exact hn y hy
    ·simp at hy
     rw [hy]
     exact h
  ·rintro σ H1 ⟨⟨v2,v3,rfl⟩,S1,hn⟩
   have en:wayW a b=none:=by
    unfold wayW
    rw [Option.map_eq_none_iff,List.find?_eq_none]
    intro y hy
    have:=hn y (by rw [List.take_of_length_le (by unfold kvW; rw [List.length_map]; exact Nat.le_refl _)]; exact hy)
    simpa using this
   have l1:=(nT_reads ha).2
   have l2:=(nT_reads hb).2
   refine ⟨_,rfl,a,rfl,log_small ha,?_,_,rfl,b,rfl,log_small hb,?_,?_⟩
   ·show 5 + (nT a).length + 1≤1000
    omega
   ·show 5 + (nT a).length + 1 + (nT b).length≤2000
    omega
   ·have:=z _ S1
    rw [lineW_none en,jn_cons _ (by simp),jn_cons _ (by simp),jn_one] at this
    have e:(("line":Str) ++ blank ++ (nT a ++ blank ++ nT b))=("line ":Str) ++ nT a ++ (" ":Str) ++ nT b:=by
     rw [show ("line ":Str)=("line":Str) ++ blank by decide +kernel,show (" ":Str)=blank from rfl]
     simp only [app_as]
    rw [e] at this
    exact this
end
def wsz (ws:List Str):Nat:=(ws.map fun x=>x.length + 1).sum
theorem wsz_cons (x:Str) (ws:List Str):wsz (x :: ws)=x.length + 1 + wsz ws:=by unfold wsz; rw [List.map_cons,List.sum_cons]
theorem wsz_nil:wsz []=0:=rfl
theorem wsz_app (ws vs:List Str):wsz (ws ++ vs)=wsz ws + wsz vs:=by unfold wsz; rw [List.map_append,List.sum_append]
theorem wsz_len (ws:List Str):ws.length≤wsz ws:=by
 induction ws with
 | nil=>exact Nat.le_refl _
 | cons x r ih=>rw [wsz_cons,List.length_cons]; omega
theorem jn_len:∀ {ws:List Str},ws≠[]→(Txt.join blank ws).length + 1=wsz ws
 | [],h=>absurd rfl h
 | [x],_=>by rw [jn_one,wsz_cons,wsz_nil]
 | x :: y :: r,_=>by
  have ih:=jn_len (ws:=y :: r) (by simp)
  rw [jn_cons x (by simp),app_len,app_len,wsz_cons,← ih]
  show x.length + 1 + _ + 1=_
  omega
theorem jn_le {ws:List Str}:(Txt.join blank ws).length≤wsz ws:=by
 cases ws with
 | nil=>exact Nat.le_refl _
 | cons x r=>have:=jn_len (ws:=x :: r) (by simp); omega
theorem wds_flat:∀ u:List Sk,wds u=(u.map Sk.wd).flatten
 | []=>by simp only [wds,List.map_nil,List.flatten_nil]
 | s :: u=>by simp only [wds,List.map_cons,List.flatten_cons,wds_flat u]
theorem wd_nil (s:Sk):s.wd≠[]:=fun e=>by
 obtain ⟨x,r,h,_⟩:=wd_ne s
 rw [h] at e
 cases e
theorem txt_map (u:List Sk):Txt.join blank (u.map fun s=>Txt.join blank s.wd)=txt u:=by
 have:=jn_flat (l:=u.map Sk.wd) (fun x hx=>by obtain ⟨s,_,rfl⟩:=List.mem_map.mp hx; exact wd_nil s)
 rw [List.map_map] at this
 unfold txt
 rw [wds_flat]
 exact this
theorem part_sz:∀ u:List Sk,((u.map fun s=>Txt.join blank s.wd).map fun x=>x.length).sum + u.length=wsz (wds u)
 | []=>rfl
 | s :: u=>by
  have ih:=part_sz u
  have h:=jn_len (wd_nil s)
  simp only [List.map_cons,List.sum_cons,List.length_cons,wds,wsz_app]
  omega
theorem wd_part:∀ {u:List Sk} {s:Sk},s∈u→wsz s.wd≤wsz (wds u)
 | t :: u,s,h=>by
  simp only [wds,wsz_app]
  rcases List.mem_cons.mp h with rfl | h
  ·omega
  ·have:=wd_part h
   omega
theorem vds_at:∀ {u:List Sk} {d:Nat},vds u d→∀ s∈u,s.vd d
 | s :: r,d,h,x,hx=>by
  simp only [vds] at h
  rcases List.mem_cons.mp hx with rfl | hx
  ·exact h.1
  ·exact vds_at h.2 x hx
theorem in_txt {u:List Sk} (h:u≠[]):Txt.join blank (("(":Str) :: (wds u ++ [(")":Str)]))=("( ":Str) ++ txt u ++ (" )":Str):=by
 have hn:wds u≠[]:=fun e=>by
  have:=wds_len u
  rw [e] at this
  exact h (List.eq_nil_of_length_eq_zero (Nat.le_zero.mp this))
 rw [jn_cons _ (by simp),jn_app hn (by simp),jn_one,show ("( ":Str)=("(":Str) ++ blank by decide +kernel,show (" )":Str)=blank ++ (")":Str) by decide +kernel]
 simp only [app_as]
 rfl
section
variable {P:Program} {w:World} {K:PySem.W.Frag} {mg:Str→Option Value} {base:Heap}
def spShown (d:Nat):Sp:=fun vs H Q _=>∃ (l:Addr) (ys:List V) (u:List Sk),vs=[.ref l]∧H l=some (.lst ys)∧SksIs H ys u∧(∃ e,d=e + 1∧vds u e)∧cns u∧wsz (wds u)≤2001∧∀ H',Same H H'→Q (.str (txt u)) H'
def spShInner (d:Nat):Sp:=fun vs H Q _=>∃ (l:Addr) (ys:List V) (u:List Sk),vs=[.ref l]∧H l=some (.lst ys)∧SksIs H ys u∧u≠[]∧(∃ e,d=e + 1∧vds u e)∧cns u∧wsz (wds u)≤2001∧∀ H',Same H H'→Q (.str (Txt.join blank (("(":Str) :: (wds u ++ [(")":Str)])))) H'
def spShStroke (d:Nat):Sp:=fun vs H Q _=>∃ (q:V) (s:Sk),vs=[q]∧SkIs H q s∧s.vd d∧s.cn∧wsz s.wd≤2001∧∀ H',Same H H'→Q (.str (Txt.join blank s.wd)) H'
theorem ok_shown0 {CX:CXT} {k:Nat} {f:Addr} {fd:FuncData}:FnOk P w K mg base CX k f fd ["strokes"] (spShown 0) :=
 ⟨fun _ _ _ _ h=>by obtain ⟨_,_,_,_,_,_,⟨e,h,_⟩,_⟩:=h; omega,fun _ _ _ _ _ _ _ _ _ _ _ _ _ h=>by obtain ⟨_,_,_,_,_,_,⟨e,h,_⟩,_⟩:=h; omega⟩
theorem scShInner:FnScope ["strokes"] ["strokes"] (defScope sShInner):=⟨rfl,rfl,rfl,by decide +kernel,rfl,by decide +kernel,by decide +kernel⟩
theorem ok_shInner {f fS:Addr} {fd fdS:FuncData} {d k:Nat} (D:Df K mg "shown_inner" sShInner f fd) (DS:Df K mg "shown" sShown fS fdS) (bS:Binds K fdS ["strokes"] []) (GS:FnOk P w K mg base CX0 k fS fdS ["strokes"] (spShown d)):FnOk P w K mg base CX0 (k + 1) f fd ["strokes"] (spShInner d):=by
 refine D.F.ok scShInner (fun vs H Q E h=>?_) (fun cdv A outer s H vs Q E hr h=>?_)
 ·obtain ⟨l,ys,u,rfl,_⟩:=h
  rfl
 ·obtain ⟨l,ys,u,rfl,el,hs,hu,hv,hc,hz,z⟩:=h
  refine ⟨_,(pss_one (ps_ret (pe_op op_add_str (pe_op op_add_str pe_str (pec GS hr rfl DS.m DS.F.kp bS .nil pass0 (pac (pv 0) pa_nil))) pe_str))),?_⟩
  have hl:(txt u).length≤2001:=Nat.le_trans jn_le hz
  refine ⟨_,rfl,l,ys,u,rfl,el,hs,hv,hc,hz,fun H1 S1=>?_⟩
  have:=z _ S1
  rw [in_txt hu] at this
  refine ⟨_,_,rfl,rfl,?_,_,_,rfl,rfl,?_,this⟩
  ·rw [sizeLine_eq]
   show 2 + (txt u).length≤_
   omega
  ·rw [sizeLine_eq,app_len]
   show 2 + (txt u).length + 2≤_
   omega
theorem scShStroke:FnScope ["stroke","kind"] ["stroke"] (defScope sShStroke):=⟨rfl,rfl,rfl,by decide +kernel,rfl,by decide +kernel,by decide +kernel⟩
theorem ok_shStroke {f fL fI:Addr} {fd fdL fdI:FuncData} {d k:Nat} (D:Df K mg "shown_stroke" sShStroke f fd) (B:Blt mg) (DL:Df K mg "shown_line" sShLine fL fdL) (bL:Binds K fdL ["x","y"] []) (GL:FnOk P w K mg base CX0 1 fL fdL ["x","y"] spShLine)
  (DI:Df K mg "shown_inner" sShInner fI fdI) (bI:Binds K fdI ["strokes"] []) (GI:FnOk P w K mg base CX0 k fI fdI ["strokes"] (spShInner d)) (h1:1≤k):FnOk P w K mg base CX0 (k + 1) f fd ["stroke"] (spShStroke d):=by
 refine D.F.ok scShStroke (fun vs H Q E h=>?_) (fun cdv A outer s H vs Q E hr h=>?_)
 ·obtain ⟨q,s,rfl,_⟩:=h
  rfl
 ·obtain ⟨q,st,rfl,hs,hv,hc,hz,z⟩:=h
  have hr1:Room 1 _:=hr.mono h1
  refine ⟨_,(pss_cons (ps_set (i:=1) scShStroke.nd rfl (Or.inl rfl) (pe_ix ix_tup (pv 0) pe_int (fun _ _=>rfl)))
   (pss_cons (ps_if (pt_cmpR op_eq (pv 1) pe_str (nomark _)) (pss_one (ps_ret (pec GL hr1 rfl DL.m DL.F.kp bL .nil pass0 (pac (pe_ix ix_tup (pv 0) pe_int (fun _ _=>rfl)) (pac (pe_ix ix_tup (pv 0) pe_int (fun _ _=>rfl)) pa_nil))))) pss_nil)
   (pss_cons (ps_if (pt_cmpR op_eq (pv 1) pe_str (nomark _)) (pss_one (ps_ret (pe_op op_add_str (pe_op op_add_str (pe_op op_add_str pe_str (pe_callTy call_str_int (by rfl) B.str boot_str (pac (pe_ix ix_tup (pv 0) pe_int (fun _ _=>rfl)) pa_nil))) pe_str) (pe_callTy call_str_int (by rfl) B.str boot_str (pac (pe_ix ix_tup (pv 0) pe_int (fun _ _=>rfl)) pa_nil))))) pss_nil)
   (pss_cons (ps_if (pt_cmpR op_eq (pv 1) pe_str (nomark _)) (pss_one (ps_ret (pe_op op_add_str pe_str (pe_ix ix_tup (pv 0) pe_int (fun _ _=>rfl))))) pss_nil)
   (pss_cons (ps_if (pt_cmpR op_eq (pv 1) pe_str (nomark _)) (pss_one (ps_ret (pec GI hr rfl DI.m DI.F.kp bI .nil pass0 (pac (pe_ix ix_tup (pv 0) pe_int (fun _ _=>rfl)) pa_nil)))) pss_nil)
   (pss_cons (ps_if (pt_cmpR op_eq (pv 1) pe_str (nomark _)) (pss_one (ps_ret (pe_op op_add_str (pe_op op_add_str (pe_callTy call_str_int (by rfl) B.str boot_str (pac (pe_ix ix_tup (pv 0) pe_int (fun _ _=>rfl)) pa_nil)) pe_str) (pec GI hr rfl DI.m DI.F.kp bI .nil pass0 (pac (pe_ix ix_tup (pv 0) pe_int (fun _ _=>rfl)) pa_nil))))) pss_nil)
   (pss_one (ps_ret (pe_op op_add_str (pe_op op_add_str (pe_op op_add_str pe_str (pe_callTy call_str_int (by rfl) B.str boot_str (pac (pe_ix ix_tup (pv 0) pe_int (fun _ _=>rfl)) pa_nil))) pe_str) (pec GI hr rfl DI.m DI.F.kp bI .nil pass0 (pac (pe_ix ix_tup (pv 0) pe_int (fun _ _=>rfl)) pa_nil))))))))))),?_⟩
  cases hs with
  | @line q l a b e =>
   simp only [Sk.cn] at hc
   subst hc
   simp only [Sk.vd] at hv
   simp only [Sk.wd,lnW] at z
   refine ⟨_,rfl,q,_,_,_,rfl,rfl,SqT.of e,rfl,_,rfl,rfl,_,rfl,ifB_pos (decide_eq_true rfl) ?_⟩
   exact ⟨_,rfl,q,_,_,_,rfl,rfl,SqT.of e,rfl,_,rfl,q,_,_,_,rfl,rfl,SqT.of e,rfl,a,b,rfl,by omega,by omega,z⟩
  | @by_ q a b e =>
   simp only [Sk.vd] at hv
   have ha:a.natAbs < 10 ^ 10:=by omega
   have hb:b.natAbs < 10 ^ 10:=by omega
   have l1:=(nT_reads ha).2
   have l2:=(nT_reads hb).2
   refine ⟨_,rfl,q,_,_,_,rfl,rfl,SqT.of e,rfl,_,rfl,rfl,_,rfl,ifB_neg (by decide +kernel) ?_⟩
   refine ⟨_,rfl,rfl,_,rfl,ifB_pos (decide_eq_true rfl) ?_⟩
   refine ⟨_,rfl,q,_,_,_,rfl,rfl,SqT.of e,rfl,a,rfl,log_small ha,_,_,rfl,rfl,?_,_,_,rfl,rfl,?_,_,rfl,q,_,_,_,rfl,rfl,SqT.of e,rfl,b,rfl,log_small hb,_,_,rfl,rfl,?_,?_⟩
   ·rw [sizeLine_eq]
    show 3 + (nT a).length≤_
    omega
   ·rw [sizeLine_eq,app_len]
    show 3 + (nT a).length + 1≤_
    omega
   ·rw [sizeLine_eq,app_len,app_len]
    show 3 + (nT a).length + 1 + (nT b).length≤_
    omega
   ·have:=z _ (fun _ _ e=>e)
    simp only [Sk.wd] at this
    rw [jn_cons _ (by simp),jn_cons _ (by simp),jn_one] at this
    rw [show (("by":Str) ++ blank ++ (nT a ++ blank ++ nT b))=("by ":Str) ++ nT a ++ (" ":Str) ++ nT b by
     rw [show ("by ":Str)=("by":Str) ++ blank by decide +kernel,show (" ":Str)=blank from rfl]
     simp only [app_as]] at this
    exact this
  | @ink q c e =>
   simp only [Sk.vd] at hv
   have lc:=col_len hv
   refine ⟨_,rfl,q,_,_,_,rfl,rfl,SqT.of e,rfl,_,rfl,rfl,_,rfl,ifB_neg (by decide +kernel) ?_⟩
   refine ⟨_,rfl,rfl,_,rfl,ifB_neg (by decide +kernel) ?_⟩
   refine ⟨_,rfl,rfl,_,rfl,ifB_pos (decide_eq_true rfl) ?_⟩
   refine ⟨_,rfl,q,_,_,_,rfl,rfl,SqT.of e,rfl,_,_,rfl,rfl,?_,?_⟩
   ·rw [sizeLine_eq]
    show 4 + c.length≤_
    omega
   ·have:=z _ (fun _ _ e=>e)
    simp only [Sk.wd] at this
    rw [jn_cons _ (by simp),jn_one,show ("ink":Str) ++ blank=("ink ":Str) by decide +kernel] at this
    exact this
  | @back q l ys u e el hs =>
   simp only [Sk.vd] at hv
   simp only [Sk.cn] at hc
   simp only [Sk.wd] at z
   have hzu:wsz (wds u)≤2001:=by simp only [Sk.wd,wsz_cons,wsz_app] at hz; omega
   refine ⟨_,rfl,q,_,_,_,rfl,rfl,SqT.of e,rfl,_,rfl,rfl,_,rfl,ifB_neg (by decide +kernel) ?_⟩
   refine ⟨_,rfl,rfl,_,rfl,ifB_neg (by decide +kernel) ?_⟩
   refine ⟨_,rfl,rfl,_,rfl,ifB_neg (by decide +kernel) ?_⟩
   refine ⟨_,rfl,rfl,_,rfl,ifB_pos (decide_eq_true rfl) ?_⟩
   exact ⟨_,rfl,q,_,_,_,rfl,rfl,SqT.of e,rfl,l,ys,u,rfl,el,hs,hv.1,hv.2,hc,hzu,z⟩
  | @times q l ys m u e el hs =>
   simp only [Sk.vd] at hv
   simp only [Sk.cn] at hc
   simp only [Sk.wd] at z
   have hzu:wsz (wds u)≤2001:=by simp only [Sk.wd,wsz_cons,wsz_app] at hz; omega
   have hzi:wsz (("(":Str) :: (wds u ++ [(")":Str)]))≤2001:=by simp only [Sk.wd,wsz_cons (nT _),wsz_cons ("times":Str)] at hz; omega
   have li:=Nat.le_trans (jn_le (ws:=(("(":Str) :: (wds u ++ [(")":Str)])))) hzi
   have hm:((m:Int)).natAbs < 10 ^ 10:=by omega
   have l1:=(nT_reads hm).2
   refine ⟨_,rfl,q,_,_,_,rfl,rfl,SqT.of e,rfl,_,rfl,rfl,_,rfl,ifB_neg (by decide +kernel) ?_⟩
   refine ⟨_,rfl,rfl,_,rfl,ifB_neg (by decide +kernel) ?_⟩
   refine ⟨_,rfl,rfl,_,rfl,ifB_neg (by decide +kernel) ?_⟩
   refine ⟨_,rfl,rfl,_,rfl,ifB_neg (by decide +kernel) ?_⟩
   refine ⟨_,rfl,rfl,_,rfl,ifB_pos (decide_eq_true rfl) ?_⟩
   refine ⟨_,rfl,q,_,_,_,rfl,rfl,SqT.of e,rfl,(m:Int),rfl,log_small hm,_,_,rfl,rfl,?_,_,rfl,q,_,_,_,rfl,rfl,SqT.of e,rfl,l,ys,u,rfl,el,hs,hv.2.2.1,hv.2.2.2,hc,hzu,fun H1 S1=>⟨_,_,rfl,rfl,?_,?_⟩⟩
   ·rw [sizeLine_eq]
    show (nT (m:Int)).length + 7≤_
    omega
   ·rw [sizeLine_eq,app_len]
    show (nT (m:Int)).length + 7 + _≤_
    omega
   ·have:=z _ S1
    rw [jn_cons _ (by simp),jn_cons _ (by simp)] at this
    rw [show nT (m:Int) ++ blank ++ (("times":Str) ++ blank ++ Txt.join blank (("(":Str) :: (wds u ++ [(")":Str)])))=nT (m:Int) ++ (" times ":Str) ++ Txt.join blank (("(":Str) :: (wds u ++ [(")":Str)])) by
     rw [show (" times ":Str)=blank ++ (("times":Str) ++ blank) by decide +kernel]
     simp only [app_as]] at this
    exact this
  | @turn q l ys m u e el hs =>
   simp only [Sk.vd] at hv
   simp only [Sk.cn] at hc
   simp only [Sk.wd] at z
   have hzu:wsz (wds u)≤2001:=by simp only [Sk.wd,wsz_cons,wsz_app] at hz; omega
   have hzi:wsz (("(":Str) :: (wds u ++ [(")":Str)]))≤2001:=by simp only [Sk.wd,wsz_cons (nT _),wsz_cons ("turn":Str)] at hz; omega
   have li:=Nat.le_trans (jn_le (ws:=(("(":Str) :: (wds u ++ [(")":Str)])))) hzi
   have hm:((m:Int)).natAbs < 10 ^ 10:=by omega
   have l1:=(nT_reads hm).2
   refine ⟨_,rfl,q,_,_,_,rfl,rfl,SqT.of e,rfl,_,rfl,rfl,_,rfl,ifB_neg (by decide +kernel) ?_⟩
   refine ⟨_,rfl,rfl,_,rfl,ifB_neg (by decide +kernel) ?_⟩
   refine ⟨_,rfl,rfl,_,rfl,ifB_neg (by decide +kernel) ?_⟩
   refine ⟨_,rfl,rfl,_,rfl,ifB_neg (by decide +kernel) ?_⟩
   refine ⟨_,rfl,rfl,_,rfl,ifB_neg (by decide +kernel) ?_⟩
   refine ⟨_,rfl,q,_,_,_,rfl,rfl,SqT.of e,rfl,(m:Int),rfl,log_small hm,_,_,rfl,rfl,?_,_,_,rfl,rfl,?_,_,rfl,q,_,_,_,rfl,rfl,SqT.of e,rfl,l,ys,u,rfl,el,hs,hv.2.1,hv.2.2,hc,hzu,fun H1 S1=>⟨_,_,rfl,rfl,?_,?_⟩⟩
   ·rw [sizeLine_eq]
    show 5 + (nT (m:Int)).length≤_
    omega
   ·rw [sizeLine_eq,app_len]
    show 5 + (nT (m:Int)).length + 1≤_
    omega
   ·rw [sizeLine_eq,app_len,app_len]
    show 5 + (nT (m:Int)).length + 1 + _≤_
    omega
   ·have:=z _ S1
    rw [jn_cons _ (by simp),jn_cons _ (by simp)] at this
    rw [show ("turn":Str) ++ blank ++ (nT (m:Int) ++ blank ++ Txt.join blank (("(":Str) :: (wds u ++ [(")":Str)])))=("turn ":Str) ++ nT (m:Int) ++ (" ":Str) ++ Txt.join blank (("(":Str) :: (wds u ++ [(")":Str)])) by
     rw [show ("turn ":Str)=("turn":Str) ++ blank by decide +kernel,show (" ":Str)=blank from rfl]
     simp only [app_as]] at this
    exact this
theorem scShown:FnScope ["strokes"] ["strokes"] (defScope sShown):=⟨rfl,rfl,rfl,by decide +kernel,rfl,by decide +kernel,by decide +kernel⟩
theorem ok_shown {f fS:Addr} {fd fdS:FuncData} {d k:Nat} (D:Df K mg "shown" sShown f fd) (DS:Df K mg "shown_stroke" sShStroke fS fdS) (bS:Binds K fdS ["stroke"] []) (GS:FnOk P w K mg base CX0 k fS fdS ["stroke"] (spShStroke d)):FnOk P w K mg base CX0 (k + 1) f fd ["strokes"] (spShown (d + 1)):=by
 refine D.F.ok scShown (fun vs H Q E h=>?_) (fun cdv A outer s H vs Q E hr h=>?_)
 ·obtain ⟨l,ys,u,rfl,_⟩:=h
  rfl
 ·obtain ⟨l,ys,u,rfl,el,hs,⟨e,he,hv⟩,hc,hz,z⟩:=h
  obtain rfl:d=e:=by omega
  refine ⟨_,(pss_one (ps_ret (pe_bm PySem.F.plainAttrs_str PySem.F.slot_str_join PySem.F.type_str_join mt_join pe_str (pac (pe_comp (N':=["stroke"]) (idx:=[none]) (compOk_of (by kernel_rfl)) (by kernel_rfl) rfl (pi_list (pv 0))
     (fun _ _ _ _ _=>pg_name (i:=0) (show (["stroke"]:List Str).Nodup by decide +kernel) rfl (Or.inl rfl)) (fun _ _ _ _ _=>pts_nil)
     (fun _ _ _ _ _=>pec GS hr rfl DS.m DS.F.kp bS .nil pass0 (pac (pv 0) pa_nil))) pa_nil)))),?_⟩
  have hy:=hs.length
  have hu:u.length≤2001:=Nat.le_trans (wds_len u) (Nat.le_trans (wsz_len _) hz)
  refine ⟨rfl,_,rfl,l,rfl,⟨_,SqL.of el⟩,fun M nM=>?_⟩
  refine comp_n (J:=Itl K l) (n:=ys.length) (fun i σ2 H2=>(∃ v0,σ2=[v0])∧Same H H2∧H2 M=some (.lst (List.map V.str ((u.take i).map fun s=>Txt.join blank s.wd)))) ?_ ?_ ?_ ?_
  ·exact ⟨⟨_,rfl⟩,same_upd nM,upd_same⟩
  ·rintro i σ2 H2 hi ⟨⟨v0,rfl⟩,S2,_⟩
   exact ⟨_,_,SqL.of (S2 _ _ el),List.getElem?_eq_getElem hi⟩
  ·rintro σ2 H2 ⟨⟨v0,rfl⟩,S2,eM⟩
   rw [List.take_of_length_le (by omega)] at eM
   refine ⟨⟨_,SqL.of (S2 _ _ el),Nat.le_refl _⟩,blank,M,_,rfl,rfl,SqL.of eM,?_,?_⟩
   ·have:=part_sz u
    rw [List.length_map]
    show _ + u.length * 1≤_
    omega
   ·rw [txt_map]
    exact z _ S2
  ·rintro i σ2 H2 hi ⟨⟨v0,rfl⟩,S2,eM⟩ x H3 ⟨rfl,hx⟩
   have hx:=hx _ (SqL.of (S2 _ _ el))
   obtain ⟨st,es,hst⟩:=hs.at hx
   have ms:st∈u:=List.mem_of_getElem? es
   have tk:u.take (i + 1)=u.take i ++ [st]:=by rw [List.take_add_one,es]; rfl
   refine ⟨_,rfl,_,st,rfl,hst.same S2,vds_at hv _ ms,cns_at hc _ ms,Nat.le_trans (wd_part ms) hz,fun H3 S3=>?_⟩
   have eM3:=S3 _ _ eM
   refine ⟨_,eM3,?_,⟨_,rfl⟩,same_updN (S2.trans S3) nM,?_⟩
   ·rw [List.length_map,List.length_map,List.length_take,sizeLine_eq]
    omega
   ·rw [upd_same,tk,List.map_append,List.map_append]
    rfl
theorem showns {f fS fL fI:Addr} {fd fdS fdL fdI:FuncData} (B:Blt mg) (DW:Df K mg "shown" sShown f fd) (bW:Binds K fd ["strokes"] []) (DS:Df K mg "shown_stroke" sShStroke fS fdS) (bS:Binds K fdS ["stroke"] [])
  (DL:Df K mg "shown_line" sShLine fL fdL) (bL:Binds K fdL ["x","y"] []) (GL:FnOk P w K mg base CX0 1 fL fdL ["x","y"] spShLine)
  (DI:Df K mg "shown_inner" sShInner fI fdI) (bI:Binds K fdI ["strokes"] []):∀ d:Nat,FnOk P w K mg base CX0 (1 + 3 * d) f fd ["strokes"] (spShown d)
 | 0=>ok_shown0
 | d + 1=>by
  have ih:=showns B DW bW DS bS DL bL GL DI bI d
  exact ok_shown (k:=1 + 3 * d + 1 + 1) DW DS bS (ok_shStroke (k:=1 + 3 * d + 1) DS B DL bL GL DI bI (ok_shInner (k:=1 + 3 * d) DI DW bW ih) (by omega))
end
section
variable {X:Cx} {pins:List (Addr×Obj)} {σ:L2.St} {H:Hp} {s:Shared}
theorem eqLs (I:Inv X pins σ H s) {d:Nat} (ih:∀ {st:Sk} {v v':V} {u u':Value} (A:Around),SkIs H v st→RelV v u→SkIs H v' st→RelV v' u'→st.gd d→A.units + 4 * d + 8 < cLine→EqAt A s u u' true)
  (A:Around) {l l':Addr} {ys ys':List V} {u:List Sk} (el:H l=some (.lst ys)) (el':H l'=some (.lst ys')) (h:SksIs H ys u) (h':SksIs H ys' u) (g:gds u d) (hu:A.units + 4 * d + 9 < cLine):RcAt A s (.ref l) (.ref l') true:=by
 obtain ⟨its,rv,p,_⟩:=I.list (SqL.of el)
 obtain ⟨its',rv',p',_⟩:=I.list (SqL.of el')
 have n1:its.length=u.length:=by rw [← rv.length,h.length]
 have n2:its'.length=u.length:=by rw [← rv'.length,h'.length]
 have R:=RcAt.lists (A:=A) (s:=s) (e:=fun _=>true) p.isList p'.isList (by rw [List.size_toArray,List.size_toArray,n1,n2]) (by omega) (fun j j1 j2=>by
  have j1':j < its.length:=by simpa using j1
  have j2':j < its'.length:=by simpa using j2
  have jx:j < ys.length:=by rw [rv.length]; exact j1'
  have jy:j < ys'.length:=by rw [rv'.length]; exact j2'
  obtain ⟨u1,e1,r1⟩:=rv.get (List.getElem?_eq_getElem jx)
  obtain ⟨u2,e2,r2⟩:=rv'.get (List.getElem?_eq_getElem jy)
  obtain ⟨s1,es1,k1⟩:=h.at (List.getElem?_eq_getElem jx)
  obtain ⟨s2,es2,k2⟩:=h'.at (List.getElem?_eq_getElem jy)
  rw [es1] at es2
  cases es2
  have z1:its.toArray[j]=u1:=by
   have:its[j]?=some its[j]:=List.getElem?_eq_getElem j1'
   rw [this] at e1
   simpa using Option.some.inj e1
  have z2:its'.toArray[j]=u2:=by
   have:its'[j]?=some its'[j]:=List.getElem?_eq_getElem j2'
   rw [this] at e2
   simpa using Option.some.inj e2
  rw [z1,z2]
  exact ih A.in1 k1 r1 k2 r2 (gds_at g _ (List.mem_of_getElem? es1)) (by show A.units + 1 + 4 * d + 8 < cLine; omega))
 have e:((List.range its.toArray.size).all fun _=>true)=true:=by simp
 rw [e] at R
 exact R
theorem neLs (I:Inv X pins σ H s) {d:Nat} (ih:∀ {st:Sk} {v v':V} {u u':Value} (A:Around),SkIs H v st→RelV v u→SkIs H v' st→RelV v' u'→st.gd d→A.units + 4 * d + 8 < cLine→EqAt A s u u' true)
  (A:Around) {l l':Addr} {ys ys':List V} {u:List Sk} (el:H l=some (.lst ys)) (el':H l'=some (.lst ys')) (h:SksIs H ys u) (h':SksIs H ys' u) (g:gds u d) (hu:A.units + 4 * d + 9 < cLine):RcNeAt A s (.ref l) (.ref l') false:=by
 obtain ⟨its,rv,p,_⟩:=I.list (SqL.of el)
 obtain ⟨its',rv',p',_⟩:=I.list (SqL.of el')
 have n1:its.length=u.length:=by rw [← rv.length,h.length]
 have n2:its'.length=u.length:=by rw [← rv'.length,h'.length]
 have R:=RcNeAt.lists (A:=A) (s:=s) (e:=fun _=>true) p.isList p'.isList (by rw [List.size_toArray,List.size_toArray,n1,n2]) (by omega) (fun j j1 j2=>by
  have j1':j < its.length:=by simpa using j1
  have j2':j < its'.length:=by simpa using j2
  have jx:j < ys.length:=by rw [rv.length]; exact j1'
  have jy:j < ys'.length:=by rw [rv'.length]; exact j2'
  obtain ⟨u1,e1,r1⟩:=rv.get (List.getElem?_eq_getElem jx)
  obtain ⟨u2,e2,r2⟩:=rv'.get (List.getElem?_eq_getElem jy)
  obtain ⟨s1,es1,k1⟩:=h.at (List.getElem?_eq_getElem jx)
  obtain ⟨s2,es2,k2⟩:=h'.at (List.getElem?_eq_getElem jy)
  rw [es1] at es2
  cases es2
  have z1:its.toArray[j]=u1:=by
   have:its[j]?=some its[j]:=List.getElem?_eq_getElem j1'
   rw [this] at e1
   simpa using Option.some.inj e1
  have z2:its'.toArray[j]=u2:=by
   have:its'[j]?=some its'[j]:=List.getElem?_eq_getElem j2'
   rw [this] at e2
   simpa using Option.some.inj e2
  rw [z1,z2]
  exact ih A.in1 k1 r1 k2 r2 (gds_at g _ (List.mem_of_getElem? es1)) (by show A.units + 1 + 4 * d + 8 < cLine; omega))
 have e:(!((List.range its.toArray.size).all fun _=>true))=false:=by simp
 rw [e] at R
 exact R
theorem eqLsE (I:Inv X pins σ H s) {d:Nat} (ih:∀ {st:Sk} {v v':V} {u u':Value} (A:Around),SkIs H v st→RelV v u→SkIs H v' st→RelV v' u'→st.gd d→A.units + 4 * d + 8 < cLine→EqAt A s u u' true)
  (A:Around) {l l':Addr} {ys ys':List V} {u:List Sk} (el:H l=some (.lst ys)) (el':H l'=some (.lst ys')) (h:SksIs H ys u) (h':SksIs H ys' u) (g:gds u d) (hu:A.units + 4 * d + 9 < cLine):EqAt A s (.ref l) (.ref l') true:=by
 by_cases hll:l=l'
 ·subst hll
  exact EqAt.same _
 ·exact EqAt.of_refs hll (eqLs I ih A el el' h h' g hu)
theorem eqD1 (I:Inv X pins σ H s) {A:Around} {dt:Dt} {v v':V} {u u':Value} (h:DtIs H v dt) (r:RelV v u) (h':DtIs H v' dt) (r':RelV v' u') (d8:dt.dp≤1) (hu:A.units + 2 < cLine):EqAt A s u u' true:=by
 have:=eqAt_D I A h r h' r' (by omega)
 rw [Dt.beq_self] at this
 exact this
theorem eqTs (I:Inv X pins σ H s) {A:Around} {q q':Addr} {xs xs':List V} (e:H q=some (.tup xs)) (e':H q'=some (.tup xs')) (hl:xs.length=xs'.length)
  (it:∀ (j:Nat) (v v':V) (u u':Value),xs[j]?=some v→xs'[j]?=some v'→RelV v u→RelV v' u'→EqAt A.in1 s u u' true) (hu:A.units < cLine):EqAt A s (.ref q) (.ref q') true:=by
 by_cases hq:q=q'
 ·subst hq
  exact EqAt.same _
 obtain ⟨its,rv,p,_⟩:=I.tuple (SqT.of e)
 obtain ⟨its',rv',p',_⟩:=I.tuple (SqT.of e')
 have R:=RcAt.tuples (A:=A) (s:=s) (e:=fun _=>true) p p' (by omega) (fun j j1 j2=>by
  have j1':j < its.length:=by simpa using j1
  have j2':j < its'.length:=by simpa using j2
  have jx:j < xs.length:=by rw [rv.length]; exact j1'
  have jy:j < xs'.length:=by rw [rv'.length]; exact j2'
  obtain ⟨u1,e1,r1⟩:=rv.get (List.getElem?_eq_getElem jx)
  obtain ⟨u2,e2,r2⟩:=rv'.get (List.getElem?_eq_getElem jy)
  have z1:its.toArray[j]=u1:=by
   have:its[j]?=some its[j]:=List.getElem?_eq_getElem j1'
   rw [this] at e1
   simpa using Option.some.inj e1
  have z2:its'.toArray[j]=u2:=by
   have:its'[j]?=some its'[j]:=List.getElem?_eq_getElem j2'
   rw [this] at e2
   simpa using Option.some.inj e2
  rw [z1,z2]
  exact it j _ _ _ _ (List.getElem?_eq_getElem jx) (List.getElem?_eq_getElem jy) r1 r2)
 have n:its.toArray.size=its'.toArray.size:=by rw [List.size_toArray,List.size_toArray,← rv.length,← rv'.length,hl]
 have ee:((List.range (min its.toArray.size its'.toArray.size)).all (fun _=>true) && its.toArray.size == its'.toArray.size)=true:=by simp [n]
 rw [ee] at R
 exact EqAt.of_refs hq R
theorem eqSk (I:Inv X pins σ H s):∀ (d:Nat) {st:Sk} {v v':V} {u u':Value} (A:Around),SkIs H v st→RelV v u→SkIs H v' st→RelV v' u'→st.gd d→A.units + 4 * d + 8 < cLine→EqAt A s u u' true
 | d,.line l a b,_,_,_,_,A,.line e,r,.line e',r',_,hu=>eqD1 I (dt:=.tup [.str "line",.int a,.int b]) (.tup e (.cons (.str _) (.cons (.int _) (.cons (.int _) .nil)))) r (.tup e' (.cons (.str _) (.cons (.int _) (.cons (.int _) .nil)))) r' (by simp [Dt.dp,Dt.dps]) (by omega)
 | d,.by_ a b,_,_,_,_,A,.by_ e,r,.by_ e',r',_,hu=>eqD1 I (dt:=.tup [.str "by",.int a,.int b]) (.tup e (.cons (.str _) (.cons (.int _) (.cons (.int _) .nil)))) r (.tup e' (.cons (.str _) (.cons (.int _) (.cons (.int _) .nil)))) r' (by simp [Dt.dp,Dt.dps]) (by omega)
 | d,.ink c,_,_,_,_,A,.ink e,r,.ink e',r',_,hu=>eqD1 I (dt:=.tup [.str "ink",.str c]) (.tup e (.cons (.str _) (.cons (.str _) .nil))) r (.tup e' (.cons (.str _) (.cons (.str _) .nil))) r' (by simp [Dt.dp,Dt.dps]) (by omega)
 | 0,.back w,_,_,_,_,A,_,r,_,r',g,hu=>by simp only [Sk.gd] at g; obtain ⟨e,h,_⟩:=g; omega
 | 0,.times m w,_,_,_,_,A,_,r,_,r',g,hu=>by simp only [Sk.gd] at g; obtain ⟨_,e,h,_⟩:=g; omega
 | 0,.turn m w,_,_,_,_,A,_,r,_,r',g,hu=>by simp only [Sk.gd] at g; obtain ⟨_,e,h,_⟩:=g; omega
 | d + 1,.back w,_,_,_,_,A,.back e el h,r,.back e' el' h',r',g,hu=>by
  cases r
  cases r'
  simp only [Sk.gd] at g
  obtain ⟨d',ed,g⟩:=g
  have ed':d=d':=by omega
  subst ed'
  refine eqTs I e e' rfl (fun j v v' u u' ej ej' r1 r2=>?_) (by omega)
  match j,ej,ej' with
  | 0,ej,ej'=>cases ej; cases ej'; exact eqD1 I (.str _) r1 (.str _) r2 (Nat.zero_le _) (by show A.units + 1 + 2 < _; omega)
  | 1,ej,ej'=>cases ej; cases ej'; cases r1; cases r2; exact eqLsE I (eqSk I d) A.in1 el el' h h' g (by show A.units + 1 + 4 * d + 9 < _; omega)
  | j + 2,ej,ej'=>simp at ej
 | d + 1,.times m w,_,_,_,_,A,.times e el h,r,.times e' el' h',r',g,hu=>by
  cases r
  cases r'
  simp only [Sk.gd] at g
  obtain ⟨_,d',ed,g⟩:=g
  have ed':d=d':=by omega
  subst ed'
  refine eqTs I e e' rfl (fun j v v' u u' ej ej' r1 r2=>?_) (by omega)
  match j,ej,ej' with
  | 0,ej,ej'=>cases ej; cases ej'; exact eqD1 I (.str _) r1 (.str _) r2 (Nat.zero_le _) (by show A.units + 1 + 2 < _; omega)
  | 1,ej,ej'=>cases ej; cases ej'; exact eqD1 I (.int _) r1 (.int _) r2 (Nat.zero_le _) (by show A.units + 1 + 2 < _; omega)
  | 2,ej,ej'=>cases ej; cases ej'; cases r1; cases r2; exact eqLsE I (eqSk I d) A.in1 el el' h h' g (by show A.units + 1 + 4 * d + 9 < _; omega)
  | j + 3,ej,ej'=>simp at ej
 | d + 1,.turn m w,_,_,_,_,A,.turn e el h,r,.turn e' el' h',r',g,hu=>by
  cases r
  cases r'
  simp only [Sk.gd] at g
  obtain ⟨_,d',ed,g⟩:=g
  have ed':d=d':=by omega
  subst ed'
  refine eqTs I e e' rfl (fun j v v' u u' ej ej' r1 r2=>?_) (by omega)
  match j,ej,ej' with
  | 0,ej,ej'=>cases ej; cases ej'; exact eqD1 I (.str _) r1 (.str _) r2 (Nat.zero_le _) (by show A.units + 1 + 2 < _; omega)
  | 1,ej,ej'=>cases ej; cases ej'; exact eqD1 I (.int _) r1 (.int _) r2 (Nat.zero_le _) (by show A.units + 1 + 2 < _; omega)
  | 2,ej,ej'=>cases ej; cases ej'; cases r1; cases r2; exact eqLsE I (eqSk I d) A.in1 el el' h h' g (by show A.units + 1 + 4 * d + 9 < _; omega)
  | j + 3,ej,ej'=>simp at ej
end
theorem op_neSk {X:Cx} {k:Nat} (hr:Room k X.A):OpR X (compareOp .NotEq) (fun x y H Q=>∃ (a b:Addr) (xs ys:List V) (u:List Sk),x=.ref a∧y=.ref b∧H a=some (.lst xs)∧H b=some (.lst ys)∧SksIs H xs u∧SksIs H ys u∧gds u 8∧Q (.bl false) H):=by
 intro pins s σ H x y v u Q I rx ry h
 obtain ⟨a,b,xs,ys,w,rfl,rfl,hx,hy,hd,he,g,q⟩:=h
 have hu:=hr.units
 cases rx
 cases ry
 have R:=neLs I (eqSk I 8) X.A hx hy hd he g (by omega)
 exact R X.prog X.w X.xe _ ⟨.bl _,H,I,rfl,q⟩
mutual
theorem vd_gd:∀ {s:Sk} {d:Nat},s.vd d→s.gd d
 | .line l a b,d,h=>by simp only [Sk.gd]
 | .by_ a b,d,h=>by simp only [Sk.gd]
 | .ink c,d,h=>by simp only [Sk.gd]
 | .back u,d,h=>by
  simp only [Sk.vd] at h
  obtain ⟨_,e,he,h⟩:=h
  simp only [Sk.gd]
  exact ⟨e,he,vds_gds h⟩
 | .times m u,d,h=>by
  simp only [Sk.vd] at h
  obtain ⟨_,hm,_,e,he,h⟩:=h
  simp only [Sk.gd]
  exact ⟨hm,e,he,vds_gds h⟩
 | .turn m u,d,h=>by
  simp only [Sk.vd] at h
  obtain ⟨hm,_,e,he,h⟩:=h
  simp only [Sk.gd]
  exact ⟨hm,e,he,vds_gds h⟩
theorem vds_gds:∀ {u:List Sk} {d:Nat},vds u d→gds u d
 | [],d,h=>by simp only [gds]
 | s :: u,d,h=>by
  simp only [vds] at h
  simp only [gds]
  exact ⟨vd_gd h.1,vds_gds h.2⟩
end
end K21
namespace K21
open PySem PySem.Spec PyProof.Rows L2 BF
seal L2.PE L2.PA L2.PS L2.PSs L2.PT L2.PW L2.PG L2.PGs L2.PI BF.PTs L2.PPs L2.PO
theorem log_ok {i:Int} (h:i.natAbs < 2 ^ 64):i.natAbs.log2 < 1920:=by
 by_cases z:i.natAbs=0
 ·rw [z]; decide
 ·have:=(Nat.log2_lt z).mpr h
  omega
def eightW:List Str:=["n","ne","e","se","s","sw","w","nw"]
theorem putK_lenK (kvs:List (Key×V)) (k:Key) (v:V):(putK kvs k v).length≤kvs.length + 1:=by
 unfold putK
 split
 ·rw [List.length_map]; omega
 ·rw [List.length_append]; exact Nat.le_refl _
def numF (c:Int) (k:Nat):Int:=(c % 2147483647 + 7919) * (48271 + 69621 * (k:Int) * (k:Int)) % 2147483629
def wayF:Str→Int×Int:=fun x=>((([("n",(0,1)),("ne",(1,1)),("e",(1,0)),("se",(1,-1)),("s",(0,-1)),("sw",(-1,-1)),("w",(-1,0)),("nw",(-1,1))]:List (Str×(Int×Int))).lookup x).getD (0,0))
def GoodW (H:Hp) (kvs:List (Key×V)) (word:Str):Prop:=∃ q,valV kvs (Sum.inr word)=some (.ref q)∧two H q (wayF word)
def Itm (H:Hp) (kv:Key×V):Prop:=∃ (wd:Str) (q:Addr),kv=(Sum.inr wd,V.ref q)∧wd∈eightW∧two H q (wayF wd)
theorem putK_mem {kvs:List (Key×V)} {k:Key} {v:V} {x:Key×V} (h:x∈putK kvs k v):x∈kvs∨x=(k,v):=by
 unfold putK at h
 split at h
 ·obtain ⟨y,hy,rfl⟩:=List.mem_map.mp h
  split
  ·rename_i e
   rw [e]
   exact .inr rfl
  ·exact .inl hy
 ·rcases List.mem_append.mp h with h | h
  ·exact .inl h
  ·exact .inr (List.mem_singleton.mp h)
theorem way_wd:∀ x∈eightW,wayW (wayF x).1 (wayF x).2=some x:=by
 intro x hx
 simp only [eightW,List.mem_cons,List.not_mem_nil,or_false] at hx
 rcases hx with rfl | rfl | rfl | rfl | rfl | rfl | rfl | rfl <;> decide +kernel
section
variable {P:Program} {w:World} {K:PySem.W.Frag} {mg:Str→Option Value} {base:Heap}
def spNum:Sp:=fun vs H Q _=>∃ (c:Int) (k:Nat),vs=[.int c,.int k]∧k≤100∧Q (.int (numF c k)) H
theorem scNum:FnScope ["_law_cell","_law_k"] ["_law_cell","_law_k"] (defScope sNum):=⟨rfl,rfl,rfl,by decide +kernel,rfl,by decide +kernel,by decide +kernel⟩
theorem ok_num {f:Addr} {fd:FuncData} (D:Df K mg "_law_number" sNum f fd):FnOk P w K mg base CX0 1 f fd ["_law_cell","_law_k"] spNum:=by
 refine D.F.ok scNum (fun vs H Q E h=>?_) (fun cdv A outer s H vs Q E hr h=>?_)
 ·obtain ⟨c,k,rfl,_⟩:=h
  rfl
 ·obtain ⟨c,k,rfl,hk,z⟩:=h
  refine ⟨_,(pss_one (ps_ret (pe_op op_mod (pe_op op_mul (pe_op op_add (pe_op op_mod (pv 0) pe_int) pe_int) (pe_op op_add pe_int (pe_op op_mul (pe_op op_mul pe_int (pv 1)) (pv 1)))) pe_int))),?_⟩
  have ck:∀ i:Int,CMul i (k:Int):=fun i=>cmulR (by omega) (by omega)
  have h1:=Int.emod_nonneg c (show (2147483647:Int)≠0 by decide)
  have h2:=Int.emod_lt_of_pos c (show (0:Int) < 2147483647 by decide)
  exact ⟨_,rfl,_,_,rfl,rfl,(by show (0:Int) < _; decide),_,_,rfl,rfl,_,rfl,_,_,rfl,rfl,ck _,_,rfl,_,_,rfl,rfl,ck _,_,_,rfl,rfl,_,_,rfl,rfl,.inl ⟨by show -(2 ^ 64) < c % 2147483647 + 7919; omega,by show c % 2147483647 + 7919 < 2 ^ 64; omega⟩,_,_,rfl,rfl,(by show (0:Int) < _; decide),z⟩
def spWays:Sp:=fun vs H Q _=>vs=[]∧∀ d kvs H',Same H H'→H' d=some (.dK kvs)→(∀ x∈eightW,GoodW H' kvs x)→(∀ kv∈kvs,Itm H' kv)→kvs.length≤8→Q (.ref d) H'
theorem scWays:FnScope ["_law_ways_here","_law_word","_law_far_here"] [] (defScope sWays):=⟨rfl,rfl,rfl,by decide +kernel,rfl,by decide +kernel,by decide +kernel⟩
theorem ok_ways {f:Addr} {fd:FuncData} (D:Df K mg "_law_ways" sWays f fd):FnOk P w K mg base CX0 2 f fd [] spWays:=by
 refine D.F.ok scWays (fun vs H Q E h=>?_) (fun cdv A outer s H vs Q E hr h=>?_)
 ·obtain ⟨rfl,_⟩:=h
  rfl
 ·obtain ⟨rfl,z⟩:=h
  have hu:=hr.units
  have hu2:(A.deeper (envOfC "_law_ways" (defScope sWays) s.heap.objs.size f cdv)).units + 1 < cLine:=by omega
  refine ⟨_,(pss_cons (ps_set (i:=0) scWays.nd rfl (Or.inl rfl) (pe_disp (pps_cons pe_str (pe_tup (pac (pe_int) (pac (pe_int) pa_nil))) (pps_cons pe_str (pe_tup (pac (pe_int) (pac (pe_int) pa_nil))) (pps_cons pe_str (pe_tup (pac (pe_int) (pac (pe_int) pa_nil))) (pps_cons pe_str (pe_tup (pac (pe_int) (pac (pe_un un_neg pe_int) pa_nil))) pps_nil)))) rfl rfl (by simp) (by show 4≤15; decide)))
   (pss_cons (ps_for PassesOwn.never rfl (pi_list (pe_lst (pac (pe_tup (pac (pe_str) (pac (pe_tup (pac (pe_int) (pac (pe_un un_neg pe_int) pa_nil))) pa_nil))) (pac (pe_tup (pac (pe_str) (pac (pe_tup (pac (pe_un un_neg pe_int) (pac (pe_un un_neg pe_int) pa_nil))) pa_nil))) (pac (pe_tup (pac (pe_str) (pac (pe_tup (pac (pe_un un_neg pe_int) (pac (pe_int) pa_nil))) pa_nil))) (pac (pe_tup (pac (pe_str) (pac (pe_tup (pac (pe_un un_neg pe_int) (pac (pe_int) pa_nil))) pa_nil))) pa_nil)))))) (pg_tup (n:=2) rfl (pgs_cons (pg_name (i:=1) scWays.nd rfl (Or.inl rfl)) (pgs_cons (pg_name (i:=2) scWays.nd rfl (Or.inl rfl)) pgs_nil))) (pss_one (ps_dput hu2 (pv 0) (pv 1) (pv 2) rfl)))
   (pss_one (ps_ret (pv 0))))),?_⟩
  refine fun d nd=>⟨szr rfl,fun q0 m0=>⟨szr rfl,fun q1 m1=>⟨szr rfl,fun q2 m2=>⟨_,rfl,szr rfl,fun q3 m3=>⟨?_,[(Sum.inr "n",V.ref q0),(Sum.inr "ne",V.ref q1),(Sum.inr "e",V.ref q2),(Sum.inr "se",V.ref q3)],rfl,by show 4≤15; decide,?_⟩⟩⟩⟩⟩
  ·exact ((same_upd m0).trans ((same_upd m1).trans ((same_upd m2).trans (same_upd m3)))) _ _ upd_same
  have T0:=same_upd (o:=HO.tup [V.int 0,.int 1]) m0
  have T1:=same_upd (o:=HO.tup [V.int 1,.int 1]) m1
  have T2:=same_upd (o:=HO.tup [V.int 1,.int 0]) m2
  have T3:=same_upd (o:=HO.tup [V.int 1,.int (-1)]) m3
  have Sd:=same_upd (o:=HO.dK []) nd
  have S3:=Sd.trans (T0.trans (T1.trans (T2.trans T3)))
  have g0:two (upd (upd (upd (upd (upd H d (.dK [])) q0 (.tup [V.int 0,.int 1])) q1 (.tup [V.int 1,.int 1])) q2 (.tup [V.int 1,.int 0])) q3 (.tup [V.int 1,.int (-1)])) q0 (0,1):=(T1.trans (T2.trans T3)) _ _ upd_same
  have g1:two (upd (upd (upd (upd (upd H d (.dK [])) q0 (.tup [V.int 0,.int 1])) q1 (.tup [V.int 1,.int 1])) q2 (.tup [V.int 1,.int 0])) q3 (.tup [V.int 1,.int (-1)])) q1 (1,1):=(T2.trans T3) _ _ upd_same
  have g2:two (upd (upd (upd (upd (upd H d (.dK [])) q0 (.tup [V.int 0,.int 1])) q1 (.tup [V.int 1,.int 1])) q2 (.tup [V.int 1,.int 0])) q3 (.tup [V.int 1,.int (-1)])) q2 (1,0):=T3 _ _ upd_same
  have g3:two (upd (upd (upd (upd (upd H d (.dK [])) q0 (.tup [V.int 0,.int 1])) q1 (.tup [V.int 1,.int 1])) q2 (.tup [V.int 1,.int 0])) q3 (.tup [V.int 1,.int (-1)])) q3 (1,-1):=upd_same
  have ed:(upd (upd (upd (upd (upd H d (.dK [])) q0 (.tup [V.int 0,.int 1])) q1 (.tup [V.int 1,.int 1])) q2 (.tup [V.int 1,.int 0])) q3 (.tup [V.int 1,.int (-1)])) d=some (.dK []):=(T0.trans (T1.trans (T2.trans T3))) _ _ upd_same
  revert g0 g1 g2 g3 ed S3
  generalize (upd (upd (upd (upd (upd H d (.dK [])) q0 (.tup [V.int 0,.int 1])) q1 (.tup [V.int 1,.int 1])) q2 (.tup [V.int 1,.int 0])) q3 (.tup [V.int 1,.int (-1)]))=H1
  intro S3 g0 g1 g2 g3 ed
  have em:mergeK [] ([(Sum.inr "n",V.ref q0),(Sum.inr "ne",V.ref q1),(Sum.inr "e",V.ref q2),(Sum.inr "se",V.ref q3)]:List (Key×V))=([(Sum.inr "n",V.ref q0),(Sum.inr "ne",V.ref q1),(Sum.inr "e",V.ref q2),(Sum.inr "se",V.ref q3)]:List (Key×V)):=rfl
  rw [em]
  have keep:∀ {H':Hp} {kv kv':List (Key×V)} {q:Addr} {p:Int×Int},H' d=some (.dK kv)→two H' q p→two (upd H' d (.dK kv')) q p:=fun {H' kv kv' q p} e t=>by
   show (upd H' d _) q=_
   rw [upd_ne (fun z=>by
    have t':H' q=_:=t
    rw [z,e] at t'
    cases t')]
   exact t
  have S4:Same H (upd H1 d (.dK [(Sum.inr "n",V.ref q0),(Sum.inr "ne",V.ref q1),(Sum.inr "e",V.ref q2),(Sum.inr "se",V.ref q3)])):=same_updN S3 nd
  have g0:=keep (kv':=[(Sum.inr "n",V.ref q0),(Sum.inr "ne",V.ref q1),(Sum.inr "e",V.ref q2),(Sum.inr "se",V.ref q3)]) ed g0
  have g1:=keep (kv':=[(Sum.inr "n",V.ref q0),(Sum.inr "ne",V.ref q1),(Sum.inr "e",V.ref q2),(Sum.inr "se",V.ref q3)]) ed g1
  have g2:=keep (kv':=[(Sum.inr "n",V.ref q0),(Sum.inr "ne",V.ref q1),(Sum.inr "e",V.ref q2),(Sum.inr "se",V.ref q3)]) ed g2
  have g3:=keep (kv':=[(Sum.inr "n",V.ref q0),(Sum.inr "ne",V.ref q1),(Sum.inr "e",V.ref q2),(Sum.inr "se",V.ref q3)]) ed g3
  have ed':(upd H1 d (.dK [(Sum.inr "n",V.ref q0),(Sum.inr "ne",V.ref q1),(Sum.inr "e",V.ref q2),(Sum.inr "se",V.ref q3)])) d=some (.dK [(Sum.inr "n",V.ref q0),(Sum.inr "ne",V.ref q1),(Sum.inr "e",V.ref q2),(Sum.inr "se",V.ref q3)]):=upd_same
  revert S4 g0 g1 g2 g3 ed'
  generalize (upd H1 d (.dK [(Sum.inr "n",V.ref q0),(Sum.inr "ne",V.ref q1),(Sum.inr "e",V.ref q2),(Sum.inr "se",V.ref q3)]))=H2
  intro S4 g0 g1 g2 g3 ed'
  refine ⟨_,rfl,szr rfl,fun a0 n0=>⟨szr rfl,fun b0 o0=>⟨_,rfl,_,rfl,szr rfl,fun a1 n1=>⟨szr rfl,fun b1 o1=>⟨_,rfl,szr rfl,fun a2 n2=>⟨szr rfl,fun b2 o2=>⟨_,rfl,szr rfl,fun a3 n3=>⟨szr rfl,fun b3 o3=>⟨szr rfl,fun l nl=>?_⟩⟩⟩⟩⟩⟩⟩⟩⟩
  have U0:=same_upd (o:=HO.tup [V.int 0,.int (-1)]) n0
  have U1:=same_upd (o:=HO.tup [V.str "s",.ref a0]) o0
  have U2:=same_upd (o:=HO.tup [V.int (-1),.int (-1)]) n1
  have U3:=same_upd (o:=HO.tup [V.str "sw",.ref a1]) o1
  have U4:=same_upd (o:=HO.tup [V.int (-1),.int 0]) n2
  have U5:=same_upd (o:=HO.tup [V.str "w",.ref a2]) o2
  have U6:=same_upd (o:=HO.tup [V.int (-1),.int 1]) n3
  have U7:=same_upd (o:=HO.tup [V.str "nw",.ref a3]) o3
  have U8:=same_upd (o:=HO.lst [V.ref b0,.ref b1,.ref b2,.ref b3]) nl
  have W7:=U7.trans U8
  have W6:=U6.trans W7
  have W5:=U5.trans W6
  have W4:=U4.trans W5
  have W3:=U3.trans W4
  have W2:=U2.trans W3
  have W1:=U1.trans W2
  have W0:=U0.trans W1
  have rows:∃ H3,H3=(upd (upd (upd (upd (upd (upd (upd (upd (upd H2 a0 (.tup [V.int 0,.int (-1)])) b0 (.tup [V.str "s",.ref a0])) a1 (.tup [V.int (-1),.int (-1)])) b1 (.tup [V.str "sw",.ref a1])) a2 (.tup [V.int (-1),.int 0])) b2 (.tup [V.str "w",.ref a2])) a3 (.tup [V.int (-1),.int 1])) b3 (.tup [V.str "nw",.ref a3])) l (.lst [V.ref b0,.ref b1,.ref b2,.ref b3]))∧Same H2 H3∧H3 l=some (.lst [V.ref b0,.ref b1,.ref b2,.ref b3]) ∧
    ∀ (i:Nat) (y:V),([V.ref b0,.ref b1,.ref b2,.ref b3]:List V)[i]?=some y→∃ r wd q,y=.ref r∧H3 r=some (.tup [.str wd,.ref q])∧two H3 q (wayF wd)∧eightW[4 + i]?=some wd:=by
   refine ⟨_,rfl,W0,upd_same,fun i y hy=>?_⟩
   match i,hy with
   | 0,hy=>cases hy; exact ⟨b0,_,a0,rfl,W2 _ _ upd_same,W1 _ _ upd_same,rfl⟩
   | 1,hy=>cases hy; exact ⟨b1,_,a1,rfl,W4 _ _ upd_same,W3 _ _ upd_same,rfl⟩
   | 2,hy=>cases hy; exact ⟨b2,_,a2,rfl,W6 _ _ upd_same,W5 _ _ upd_same,rfl⟩
   | 3,hy=>cases hy; exact ⟨b3,_,a3,rfl,U8 _ _ upd_same,W7 _ _ upd_same,rfl⟩
   | i + 4,hy=>simp at hy
  obtain ⟨H3,eH,S23,el,row⟩:=rows
  rw [← eH]
  have S5:=S4.trans S23
  refine ⟨l,rfl,⟨_,SqL.of el⟩,?_⟩
  have first:∀ x∈eightW.take 4,GoodW H3 [(Sum.inr "n",V.ref q0),(Sum.inr "ne",V.ref q1),(Sum.inr "e",V.ref q2),(Sum.inr "se",V.ref q3)] x:=fun x hx=>by
   have hx':x∈(["n","ne","e","se"]:List Str):=hx
   simp only [List.mem_cons,List.not_mem_nil,or_false] at hx'
   rcases hx' with rfl | rfl | rfl | rfl
   ·exact ⟨q0,rfl,S23 _ _ g0⟩
   ·exact ⟨q1,rfl,S23 _ _ g1⟩
   ·exact ⟨q2,rfl,S23 _ _ g2⟩
   ·exact ⟨q3,rfl,S23 _ _ g3⟩
  have firstI:∀ kv∈([(Sum.inr "n",V.ref q0),(Sum.inr "ne",V.ref q1),(Sum.inr "e",V.ref q2),(Sum.inr "se",V.ref q3)]:List (Key×V)),Itm H3 kv:=fun kv hk=>by
   simp only [List.mem_cons,List.not_mem_nil,or_false] at hk
   rcases hk with rfl | rfl | rfl | rfl
   ·exact ⟨_,q0,rfl,by decide +kernel,S23 _ _ g0⟩
   ·exact ⟨_,q1,rfl,by decide +kernel,S23 _ _ g1⟩
   ·exact ⟨_,q2,rfl,by decide +kernel,S23 _ _ g2⟩
   ·exact ⟨_,q3,rfl,by decide +kernel,S23 _ _ g3⟩
  have nl0:∀ {kv:List (Key×V)} {H':Hp},H' d=some (.dK kv)→∀ {xs:List V},H' l=some (.lst xs)→l≠d:=fun {kv H'} e {xs} e2 z=>by rw [z,e] at e2; cases e2
  refine for_list (K:=K) (a:=l) (xs:=[V.ref b0,.ref b1,.ref b2,.ref b3]) (fun i σ H4=>(∃ v1 v2,σ=[some (.ref d),v1,v2])∧Same H H4∧H4 l=some (.lst [V.ref b0,.ref b1,.ref b2,.ref b3])∧(∀ (j:Nat) (y:V),([V.ref b0,.ref b1,.ref b2,.ref b3]:List V)[j]?=some y→∃ r wd q,y=.ref r∧H4 r=some (.tup [.str wd,.ref q])∧two H4 q (wayF wd)∧eightW[4 + j]?=some wd)∧∃ kvs,H4 d=some (.dK kvs)∧kvs.length≤4 + i∧(∀ kv∈kvs,Itm H4 kv)∧∀ x∈eightW.take (4 + i),GoodW H4 kvs x)
   ⟨⟨_,_,rfl⟩,S5,el,row,_,S23 _ _ ed',Nat.le_refl _,firstI,first⟩ (fun i σ H4 _ ⟨_,_,e,_⟩=>SqL.of e) ?_ ?_
  ·rintro i y σ H4 hy ⟨⟨v1,v2,rfl⟩,Sx,e4,row4,kvs,ek,kl,ik,gk⟩
   have hi:i < 4:=(List.getElem?_eq_some_iff.mp hy).1
   obtain ⟨r,wd,q,rfl,er,tq,ew⟩:=row4 i y hy
   refine ⟨r,_,rfl,SqT.of er,rfl,_,_,rfl,_,_,rfl,rfl,?_⟩
   refine ⟨_,rfl,_,rfl,_,rfl,d,_,rfl,DPut.k (k:=Sum.inr wd) ek (by rw [sizeLine_eq]; omega),⟨_,_,rfl⟩,same_updN Sx nd,?_,fun j y hy=>?_,putK kvs (Sum.inr wd) (.ref q),upd_same,Nat.le_trans (putK_lenK _ _ _) (by omega),fun kv hk=>?_,fun x hx=>?_⟩
   ·rw [upd_ne (nl0 ek e4)]
    exact e4
   ·obtain ⟨r',wd',q',e1,e2,e3,e5⟩:=row4 j y hy
    refine ⟨r',wd',q',e1,?_,keep ek e3,e5⟩
    rw [upd_ne (fun z=>by rw [z,ek] at e2; cases e2)]
    exact e2
   ·rcases putK_mem hk with hk | rfl
    ·obtain ⟨wd',q',e1,e2,e3⟩:=ik kv hk
     exact ⟨wd',q',e1,e2,keep ek e3⟩
    ·exact ⟨wd,q,rfl,List.mem_of_getElem? ew,keep ek tq⟩
   ·rw [show 4 + (i + 1)=(4 + i) + 1 from rfl,List.take_add_one,ew] at hx
    by_cases hxw:x=wd
    ·subst hxw
     exact ⟨q,by rw [valV_put,if_pos rfl],keep ek tq⟩
    ·rcases List.mem_append.mp hx with hx | hx
     ·obtain ⟨q',e1,e2⟩:=gk x hx
      refine ⟨q',?_,keep ek e2⟩
      rw [valV_put,if_neg (fun e=>hxw (Sum.inr.inj e))]
      exact e1
     ·exact absurd (List.mem_singleton.mp hx) hxw
  ·rintro σ H4 ⟨⟨v1,v2,rfl⟩,Sx,e4,row4,kvs,ek,kl,ik,gk⟩
   exact ⟨_,rfl,z d kvs H4 Sx ek (fun x hx=>gk x hx) ik kl⟩
end
def absI (x:Int):Int:=if x < 0 then -x else x
def mxA (x y:Int):Int:=if absI y > absI x then absI y else absI x
def x1F (n:Int) (so:Str):Int:=if decide (V.str so=V.str "line")=true then (if decide (mxA (n % 19 - 9) (n / 19 % 19 - 9) < 2)=true then 9 else n % 19 - 9) else n % 19 - 9
def x2F (n:Int) (so:Str):Int:=if decide (V.str so=V.str "by")=true then (if decide (V.int (n / 361 % 8)=V.int 1)=true then (1 - 2 * (n / 2888 % 2)) * (1000000000 - n / 5776 % 30) else x1F n so) else x1F n so
def wordF (m:Int):Str:=match atI (eightW.map V.str) (m % 8) with
 | some (.str s)=>s
 | _=>""
def colF (m:Int):Str:=match atI [V.str "black",.str "red",.str (Txt.slice "abcdefgh" (some (m / 8 % 8)) none),.str "z",.str "n",.str "line",.str "times",.str "turn"] (m % 8) with
 | some (.str s)=>s
 | _=>""
def plF (n:Int):Sk:=if n % 16 < 10 then .line false (wayF (wordF (n / 16))).1 (wayF (wordF (n / 16))).2 else if n % 16 < 13 then .line false (x2F (n / 16) "line") (n / 16 / 19 % 19 - 9) else if n % 16 < 15 then .by_ (x2F (n / 16) "by") (n / 16 / 19 % 19 - 9) else .ink (colF (n / 16))
inductive Hd where
 | no
 | back
 | times (m:Nat)
 | turn (k:Nat)
def hdV:Hd→List V
 | .no=>[]
 | .back=>[.str "back"]
 | .times m=>[.str "times",.int (m:Int)]
 | .turn k=>[.str "turn",.int (k:Int)]
def manyF (n:Int):Nat:=(if n / 180 % 4 / 3=0 then 1 + n / 3 % 4 else 1 + n / 3 % 60).toNat
def hdF (n:Int):Hd:=if n % 3=0 then .back else if n % 3=1 then .times (manyF n) else .turn (n / 3 % 8).toNat
def hdW:Hd→List Str
 | .no=>[]
 | .back=>[]
 | .times m=>[nT (m:Int),"times"]
 | .turn k=>["turn",nT (k:Int)]
theorem way_none {a b:Int} (h:2≤a.natAbs∨2≤b.natAbs):wayW a b=none:=by
 unfold wayW
 rw [List.find?_eq_none.mpr]
 ·rfl
 ·intro x hx
  simp only [ways8,List.mem_cons,List.not_mem_nil,or_false] at hx
  rcases hx with rfl | rfl | rfl | rfl | rfl | rfl | rfl | rfl <;> simp only [decide_eq_true_eq] <;> intro e <;> injection e with e1 e2 <;> subst e1 <;> subst e2 <;> revert h <;> decide
theorem x2_line (n:Int):x2F n "line"=x1F n "line":=by
 unfold x2F
 exact if_neg (by decide +kernel)
theorem x1_line (n:Int):x1F n "line"=if mxA (n % 19 - 9) (n / 19 % 19 - 9) < 2 then 9 else n % 19 - 9:=by
 unfold x1F
 rw [if_pos (by decide +kernel)]
 by_cases h:mxA (n % 19 - 9) (n / 19 % 19 - 9) < 2
 ·rw [if_pos (decide_eq_true h),if_pos h]
 ·rw [if_neg (by rw [decide_eq_false h]; decide),if_neg h]
theorem x1_by (n:Int):x1F n "by"=n % 19 - 9:=by
 unfold x1F
 exact if_neg (by decide +kernel)
theorem mx_big {x y:Int} (h:¬ mxA x y < 2):2≤x.natAbs∨2≤y.natAbs:=by
 unfold mxA absI at h
 split at h <;> split at h <;> omega
theorem way_far (n:Int):wayW (x2F n "line") (n / 19 % 19 - 9)=none:=by
 refine way_none ?_
 rw [x2_line,x1_line]
 split
 ·exact .inl (by decide)
 ·rename_i h
  exact mx_big h
theorem x2_by (n:Int):-1000000000≤x2F n "by"∧x2F n "by"≤1000000000:=by
 have a1:=Int.emod_nonneg (n / 2888) (show (2:Int)≠0 by decide)
 have a2:=Int.emod_lt_of_pos (n / 2888) (show (0:Int) < 2 by decide)
 have a3:=Int.emod_nonneg (n / 5776) (show (30:Int)≠0 by decide)
 have a4:=Int.emod_lt_of_pos (n / 5776) (show (0:Int) < 30 by decide)
 have a5:=Int.emod_nonneg n (show (19:Int)≠0 by decide)
 have a6:=Int.emod_lt_of_pos n (show (0:Int) < 19 by decide)
 unfold x2F
 rw [if_pos (by decide +kernel),x1_by]
 split
 ·have hc:n / 2888 % 2=0∨n / 2888 % 2=1:=by omega
  rcases hc with h | h <;> rw [h] <;> omega
 ·omega
theorem word_in (m:Int):wordF m∈eightW:=by
 unfold wordF
 obtain ⟨v,hv,hm⟩:=atI_of (xs:=eightW.map V.str) (m:=m % 8) (by omega) (by show m % 8 < 8; omega)
 obtain ⟨wd,hw,rfl⟩:=List.mem_map.mp hm
 rw [hv]
 exact hw
theorem way_vd:∀ x∈eightW,(-9≤(wayF x).1∧(wayF x).1≤9)∧(-9≤(wayF x).2∧(wayF x).2≤9)∧¬ ((wayF x).1=0∧(wayF x).2=0):=by
 intro x hx
 simp only [eightW,List.mem_cons,List.not_mem_nil,or_false] at hx
 rcases hx with rfl | rfl | rfl | rfl | rfl | rfl | rfl | rfl <;> decide +kernel
theorem abc_ok:∀ m:Fin 8,colB (.str (Txt.slice "abcdefgh" (some (m.val:Int)) none))=true:=by decide +kernel
theorem col_ok (m:Int):colB (.str (colF m))=true:=by
 unfold colF
 obtain ⟨v,hv,hm⟩:=atI_of (xs:=[V.str "black",.str "red",.str (Txt.slice "abcdefgh" (some (m / 8 % 8)) none),.str "z",.str "n",.str "line",.str "times",.str "turn"]) (m:=m % 8) (by omega) (by show m % 8 < 8; omega)
 rw [hv]
 simp only [List.mem_cons,List.not_mem_nil,or_false] at hm
 have ha:colB (.str (Txt.slice "abcdefgh" (some (m / 8 % 8)) none))=true:=by
  have:=abc_ok ⟨(m / 8 % 8).toNat,by omega⟩
  simp only at this
  rw [Int.toNat_of_nonneg (by omega)] at this
  exact this
 rcases hm with rfl | rfl | rfl | rfl | rfl | rfl | rfl | rfl
 ·decide +kernel
 ·decide +kernel
 ·exact ha
 ·decide +kernel
 ·decide +kernel
 ·decide +kernel
 ·decide +kernel
 ·decide +kernel
theorem pl_vd (n:Int) (d:Nat):(plF n).vd d:=by
 unfold plF
 split
 ·simp only [Sk.vd]
  exact way_vd _ (word_in _)
 ·split
  ·simp only [Sk.vd]
   have hw:=way_far (n / 16)
   rw [x2_line,x1_line]
   split
   ·exact ⟨by omega,by omega,by omega⟩
   ·rename_i h
    have:=mx_big h
    exact ⟨by omega,by omega,by omega⟩
  ·split
   ·simp only [Sk.vd]
    exact ⟨x2_by _,by omega⟩
   ·simp only [Sk.vd]
    exact col_ok _
theorem nT_len {n:Int} (h:n.natAbs < 10 ^ 10):(nT n).length≤11:=by
 have len:∀ x:Str,x.cps.toList.length=x.length:=fun x=>Array.length_toList
 have hl:=dg_len (m:=n.natAbs) h
 by_cases h0:0≤n
 ·obtain ⟨m,rfl⟩:=Int.eq_ofNat_of_zero_le h0
  rw [← len,nT_nat]
  have:(m:Int).natAbs=m:=by omega
  rw [this] at hl
  omega
 ·obtain ⟨m,hm⟩:∃ m:Nat,n=-(m:Int):=⟨n.natAbs,by omega⟩
  subst hm
  have e:(-(m:Int)).natAbs=m:=by omega
  rw [e] at hl
  rw [← len,nT_neg m (by omega),List.length_cons]
  omega
theorem nT_len2 {n:Int} (h:n.natAbs < 10 ^ 2):(nT n).length≤3:=by
 have len:∀ x:Str,x.cps.toList.length=x.length:=fun x=>Array.length_toList
 have hl:=dg_lenk 1 n.natAbs h
 by_cases h0:0≤n
 ·obtain ⟨m,rfl⟩:=Int.eq_ofNat_of_zero_le h0
  rw [← len,nT_nat]
  have:(m:Int).natAbs=m:=by omega
  rw [this] at hl
  omega
 ·obtain ⟨m,hm⟩:∃ m:Nat,n=-(m:Int):=⟨n.natAbs,by omega⟩
  subst hm
  have e:(-(m:Int)).natAbs=m:=by omega
  rw [e] at hl
  rw [← len,nT_neg m (by omega),List.length_cons]
  omega
theorem w8_len:∀ x∈eightW,x.length≤2:=by
 intro x hx
 simp only [eightW,List.mem_cons,List.not_mem_nil,or_false] at hx
 rcases hx with rfl | rfl | rfl | rfl | rfl | rfl | rfl | rfl <;> decide +kernel
theorem pl_wsz (n:Int):wsz (plF n).wd≤29:=by
 have lb:("by":Str).length=2:=by decide +kernel
 have ll:("line":Str).length=4:=by decide +kernel
 have li:("ink":Str).length=3:=by decide +kernel
 unfold plF
 split
 ·simp only [Sk.wd,lnW]
  rw [lineW_some (way_wd _ (word_in _)),wsz_cons,wsz_nil]
  have:=w8_len _ (word_in (n / 16))
  omega
 ·split
  ·simp only [Sk.wd,lnW]
   rw [lineW_none (way_far (n / 16)),wsz_cons,wsz_cons,wsz_cons,wsz_nil,ll,x2_line,x1_line]
   have h1:(nT (if mxA (n / 16 % 19 - 9) (n / 16 / 19 % 19 - 9) < 2 then 9 else n / 16 % 19 - 9)).length≤3:=nT_len2 (by split <;> omega)
   have h2:(nT (n / 16 / 19 % 19 - 9)).length≤3:=nT_len2 (by omega)
   omega
  ·split
   ·simp only [Sk.wd,lnW]
    rw [wsz_cons,wsz_cons,wsz_cons,wsz_nil,lb]
    have hx:=x2_by (n / 16)
    have h1:(nT (x2F (n / 16) "by")).length≤11:=nT_len (by omega)
    have h2:(nT (n / 16 / 19 % 19 - 9)).length≤3:=nT_len2 (by omega)
    omega
   ·simp only [Sk.wd,lnW]
    rw [wsz_cons,wsz_cons,wsz_nil,li]
    have:=col_len (col_ok (n / 16))
    omega
section
variable {P:Program} {w:World} {K:PySem.W.Frag} {mg:Str→Option Value} {base:Heap}
def spFar:Sp:=fun vs H Q _=>∃ (n:Int) (so:Str),vs=[.int n,.str so]∧∀ (r t l:Addr) H',Same H H'→H' r=some (.tup [.ref t,.ref l])→H' t=some (.tup [.str so,.int (x2F n so),.int (n / 19 % 19 - 9)])→H' l=some (.lst ([so,nT (x2F n so),nT (n / 19 % 19 - 9)].map V.str))→H l=none→Q (.ref r) H'
theorem scFar:FnScope ["_law_number_here","_law_sort","_law_x","_law_y"] ["_law_number_here","_law_sort"] (defScope sFar):=⟨rfl,rfl,rfl,by decide +kernel,rfl,by decide +kernel,by decide +kernel⟩
theorem ok_far {f:Addr} {fd:FuncData} (D:Df K mg "_law_far" sFar f fd) (B:Blt mg):FnOk P w K mg base CX0 1 f fd ["_law_number_here","_law_sort"] spFar:=by
 refine D.F.ok scFar (fun vs H Q E h=>?_) (fun cdv A outer s H vs Q E hr h=>?_)
 ·obtain ⟨n,so,rfl,_⟩:=h
  rfl
 ·obtain ⟨n,so,rfl,z⟩:=h
  refine ⟨_,(pss_cons (ps_set (i:=2) scFar.nd rfl (Or.inl rfl) (pe_op op_sub (pe_op op_mod (pv 0) pe_int) pe_int))
   (pss_cons (ps_set (i:=3) scFar.nd rfl (Or.inl rfl) (pe_op op_sub (pe_op op_mod (pe_op op_fdiv (pv 0) pe_int) pe_int) pe_int))
   (pss_cons (ps_if (PW.pt (pw_and (pt_cmpR op_eq (pv 1) pe_str (nomark _)) (pw_and1 (pt_cmpR op_lt (pe_callB (call_max2 rfl) (by rfl) B.max boot_max (pac (pe_callB call_abs (by rfl) B.abs boot_abs (pac (pv 2) pa_nil)) (pac (pe_callB call_abs (by rfl) B.abs boot_abs (pac (pv 3) pa_nil)) pa_nil))) pe_int (nomark _))))) (pss_one (ps_set (i:=2) scFar.nd rfl (Or.inl rfl) pe_int)) pss_nil)
   (pss_cons (ps_if (PW.pt (pw_and (pt_cmpR op_eq (pv 1) pe_str (nomark _)) (pw_and1 (pt_cmpR op_eq (pe_op op_mod (pe_op op_fdiv (pv 0) pe_int) pe_int) pe_int (nomark _))))) (pss_one (ps_set (i:=2) scFar.nd rfl (Or.inl rfl) (pe_op op_mul (pe_op op_sub pe_int (pe_op op_mul pe_int (pe_op op_mod (pe_op op_fdiv (pv 0) pe_int) pe_int))) (pe_op op_sub pe_p9 (pe_op op_mod (pe_op op_fdiv (pv 0) pe_int) pe_int))))) pss_nil)
   (pss_one (ps_ret (pe_tup (pac (pe_tup (pac (pv 1) (pac (pv 2) (pac (pv 3) pa_nil)))) (pac (pe_lst (pac (pv 1) (pac (pe_callTy call_str_int (by rfl) B.str boot_str (pac (pv 2) pa_nil)) (pac (pe_callTy call_str_int (by rfl) B.str boot_str (pac (pv 3) pa_nil)) pa_nil)))) pa_nil))))))))),?_⟩
  refine ⟨_,rfl,_,_,rfl,rfl,(by show (0:Int) < _; decide),_,_,rfl,rfl,?_⟩
  refine ⟨_,rfl,_,_,rfl,rfl,⟨by decide,by decide⟩,_,_,rfl,rfl,(by show (0:Int) < _; decide),_,_,rfl,rfl,?_⟩
  have hy1:=Int.emod_nonneg (n / 19) (show (19:Int)≠0 by decide)
  have hy2:=Int.emod_lt_of_pos (n / 19) (show (0:Int) < 19 by decide)
  have hx1:=Int.emod_nonneg n (show (19:Int)≠0 by decide)
  have hx2:=Int.emod_lt_of_pos n (show (0:Int) < 19 by decide)
  refine' laterS (fun σ H1=>∃ x:Int,σ=[some (.int n),some (.str so),some (.int x),some (.int (n / 19 % 19 - 9))]∧H1=H∧x=x1F n so∧-2000000000≤x∧x≤2000000000) (fun fin=>_) _
  rotate_left
  ·refine ⟨_,rfl,rfl,_,rfl,ifC (fun g1=>?_) (fun g1=>iteF (fin _ _ ⟨_,rfl,rfl,by unfold x1F; rw [if_neg (by rw [g1]; decide)],by omega,by omega⟩))⟩
   refine ⟨_,rfl,_,rfl,_,rfl,_,rfl,_,_,rfl,_,_,rfl,rfl,_,rfl,ifC (fun g2=>fin _ _ ⟨_,rfl,rfl,by unfold x1F; rw [if_pos g1]; exact (if_pos g2).symm,by decide,by decide⟩) (fun g2=>fin _ _ ⟨_,rfl,rfl,by unfold x1F; rw [if_pos g1]; exact (if_neg (fun z=>Bool.noConfusion (z.symm.trans g2))).symm,by omega,by omega⟩)⟩
  rintro σ H1 ⟨x0,rfl,rfl,ex0,h1,h2⟩
  refine' laterS (fun σ H2=>∃ x:Int,σ=[some (.int n),some (.str so),some (.int x),some (.int (n / 19 % 19 - 9))]∧H2=H1∧x=x2F n so∧-20000000000≤x∧x≤20000000000) (fun fin=>_) _
  rotate_left
  ·refine ⟨_,rfl,rfl,_,rfl,ifC (fun g1=>?_) (fun g1=>iteF (fin _ _ ⟨_,rfl,rfl,by unfold x2F; rw [if_neg (by rw [g1]; decide)]; exact ex0,by omega,by omega⟩))⟩
   refine ⟨_,rfl,_,_,rfl,rfl,⟨by decide,by decide⟩,_,_,rfl,rfl,(by show (0:Int) < _; decide),rfl,_,rfl,ifC (fun g2=>?_) (fun g2=>fin _ _ ⟨_,rfl,rfl,by unfold x2F; rw [if_pos g1]; exact ex0.trans (if_neg (fun z=>Bool.noConfusion (z.symm.trans g2))).symm,by omega,by omega⟩)⟩
   have e1:=Int.emod_nonneg (n / 2888) (show (2:Int)≠0 by decide)
   have e2:=Int.emod_lt_of_pos (n / 2888) (show (0:Int) < 2 by decide)
   have e3:=Int.emod_nonneg (n / 5776) (show (30:Int)≠0 by decide)
   have e4:=Int.emod_lt_of_pos (n / 5776) (show (0:Int) < 30 by decide)
   have hcase:n / 2888 % 2=0∨n / 2888 % 2=1:=by omega
   refine ⟨_,rfl,_,_,rfl,rfl,⟨by decide,by decide⟩,_,_,rfl,rfl,(by show (0:Int) < _; decide),_,_,rfl,rfl,.inl ⟨by decide,by decide⟩,_,_,rfl,rfl,_,rfl,_,_,rfl,rfl,⟨by decide,by decide⟩,_,_,rfl,rfl,(by show (0:Int) < _; decide),_,_,rfl,rfl,_,_,rfl,rfl,.inl ⟨by show -(2 ^ 64) < 1 - 2 * (n / 2888 % 2); omega,by show 1 - 2 * (n / 2888 % 2) < 2 ^ 64; omega⟩,fin _ _ ⟨_,rfl,rfl,?_,?_,?_⟩⟩
   ·unfold x2F; rw [if_pos g1]; exact (if_pos g2).symm
   ·show -20000000000≤(1 - 2 * (n / 2888 % 2)) * (1000000000 - n / 5776 % 30)
    rcases hcase with h | h <;> rw [h] <;> omega
   ·show (1 - 2 * (n / 2888 % 2)) * (1000000000 - n / 5776 % 30)≤20000000000
    rcases hcase with h | h <;> rw [h] <;> omega
  rintro σ H2 ⟨x,rfl,rfl,ex2,h3,h4⟩
  subst ex2
  refine ⟨_,rfl,_,rfl,_,rfl,szr rfl,fun t nt=>⟨_,rfl,_,rfl,x2F n so,rfl,log_ok (by omega),_,rfl,n / 19 % 19 - 9,rfl,log_ok (by omega),szr rfl,fun l nl=>⟨szr rfl,fun r nr=>?_⟩⟩⟩
  have T1:=same_upd (o:=HO.tup [V.str so,.int (x2F n so),.int (n / 19 % 19 - 9)]) nt
  have T2:=same_upd (o:=HO.lst [V.str so,.str (Str.ofString (toString (x2F n so))),.str (Str.ofString (toString (n / 19 % 19 - 9)))]) nl
  have T3:=same_upd (o:=HO.tup [V.ref t,.ref l]) nr
  exact z r t l _ (T1.trans (T2.trans T3)) upd_same ((T2.trans T3) _ _ upd_same) (T3 _ _ upd_same) (none_same T1 nl)
def spPlain:Sp:=fun vs H Q _=>∃ n:Int,vs=[.int n]∧∀ (r t l:Addr) H',Same H H'→H' r=some (.tup [.ref t,.ref l])→SkIs H' (.ref t) (plF n)→H' l=some (.lst ((plF n).wd.map V.str))→H l=none→Q (.ref r) H'
theorem scPlain:FnScope ["_law_number_here","_law_sort","_law_word","_law_colour"] ["_law_number_here"] (defScope sPlain):=⟨rfl,rfl,rfl,by decide +kernel,rfl,by decide +kernel,by decide +kernel⟩
theorem ok_plain {f fW fF:Addr} {fd fdW fdF:FuncData} (D:Df K mg "_law_plain" sPlain f fd) (DW:Df K mg "_law_ways" sWays fW fdW) (bW:Binds K fdW [] []) (GW:FnOk P w K mg base CX0 2 fW fdW [] spWays)
  (DF:Df K mg "_law_far" sFar fF fdF) (bF:Binds K fdF ["_law_number_here","_law_sort"] []) (GF:FnOk P w K mg base CX0 1 fF fdF ["_law_number_here","_law_sort"] spFar):FnOk P w K mg base CX0 3 f fd ["_law_number_here"] spPlain:=by
 refine D.F.ok scPlain (fun vs H Q E h=>?_) (fun cdv A outer s H vs Q E hr h=>?_)
 ·obtain ⟨n,rfl,_⟩:=h
  rfl
 ·obtain ⟨n,rfl,z⟩:=h
  have hr1:Room 1 _:=hr.mono (by decide)
  have hu:=hr.units
  have hu2:(A.deeper (envOfC "_law_plain" (defScope sPlain) s.heap.objs.size f cdv)).units + 1 < cLine:=by omega
  refine ⟨_,(pss_cons (ps_set (i:=1) scPlain.nd rfl (Or.inl rfl) (pe_op op_mod (pv 0) pe_int))
   (pss_cons (ps_set (i:=0) scPlain.nd rfl (Or.inl rfl) (pe_op op_fdiv (pv 0) pe_int))
   (pss_cons (ps_if (pt_cmpR op_lt (pv 1) pe_int (nomark _)) (pss_cons (ps_set (i:=2) scPlain.nd rfl (Or.inl rfl) (pe_ix ix_list (pe_lst (pac (pe_str) (pac (pe_str) (pac (pe_str) (pac (pe_str) (pac (pe_str) (pac (pe_str) (pac (pe_str) (pac (pe_str) pa_nil))))))))) (pe_op op_mod (pv 0) pe_int) (fun _ _=>rfl)))
   (pss_one (ps_ret (pe_tup (pac (pe_op op_catT (pe_tup (pac (pe_str) pa_nil)) (pe_dget hu2 (pe_call0 GW hr rfl DW.m DW.F.kp bW .nil pass0) (pv 2) (fun _ _=>rfl))) (pac (pe_lst (pac (pv 2) pa_nil)) pa_nil)))))) pss_nil)
   (pss_cons (ps_if (pt_cmpR op_lt (pv 1) pe_int (nomark _)) (pss_one (ps_ret (pec GF hr1 rfl DF.m DF.F.kp bF .nil pass0 (pac (pv 0) (pac (pe_str) pa_nil))))) pss_nil)
   (pss_cons (ps_if (pt_cmpR op_lt (pv 1) pe_int (nomark _)) (pss_one (ps_ret (pec GF hr1 rfl DF.m DF.F.kp bF .nil pass0 (pac (pv 0) (pac (pe_str) pa_nil))))) pss_nil)
   (pss_cons (ps_set (i:=3) scPlain.nd rfl (Or.inl rfl) (pe_ix ix_list (pe_lst (pac (pe_str) (pac (pe_str) (pac (pe_slice sl_str pe_str (po_some (pe_op op_mod (pe_op op_fdiv (pv 0) pe_int) pe_int)) po_none) (pac (pe_str) (pac (pe_str) (pac (pe_str) (pac (pe_str) (pac (pe_str) pa_nil))))))))) (pe_op op_mod (pv 0) pe_int) (fun _ _=>rfl)))
   (pss_one (ps_ret (pe_tup (pac (pe_tup (pac (pe_str) (pac (pv 3) pa_nil))) (pac (pe_lst (pac (pe_str) (pac (pv 3) pa_nil))) pa_nil))))))))))),?_⟩
  refine ⟨_,rfl,_,_,rfl,rfl,(by show (0:Int) < _; decide),?_⟩
  refine ⟨_,rfl,_,_,rfl,rfl,⟨by decide,by decide⟩,?_⟩
  refine ⟨_,rfl,_,_,rfl,rfl,_,rfl,ifC (fun g1=>?_) (fun g1=>?_)⟩
  ·refine ⟨szr rfl,fun l nl=>?_⟩
   have Tl:=same_upd (o:=HO.lst (eightW.map V.str)) nl
   obtain ⟨v,hv,hm⟩:=atI_of (xs:=eightW.map V.str) (m:=n / 16 % 8) (by omega) (by show n / 16 % 8 < 8; omega)
   obtain ⟨wd,hw,rfl⟩:=List.mem_map.mp hm
   refine ⟨_,rfl,_,_,rfl,rfl,(by show (0:Int) < _; decide),l,_,_,_,rfl,rfl,SqL.of upd_same,hv,?_⟩
   refine ⟨szr rfl,fun t1 n1=>?_⟩
   have T1:=same_upd (o:=HO.tup [V.str "line"]) n1
   refine ⟨rfl,fun d kvs H2 S2 ed gd _ _=>?_⟩
   obtain ⟨q,hq,tq⟩:=gd wd hw
   have ewd:wordF (n / 16)=wd:=by unfold wordF; rw [hv]
   refine ⟨_,rfl,d,.ref q,rfl,?_,?_⟩
   ·have:=DGet.k (k:=Sum.inr wd) ed
    rw [hq] at this
    exact this
   refine ⟨t1,q,_,_,rfl,rfl,SqT.of (S2 _ _ upd_same),SqT.of tq,by simp,szr rfl,fun h=>(by cases h),fun _ t n2=>?_⟩
   have T2:=same_upd (o:=HO.tup ([V.str "line"] ++ [V.int (wayF wd).1,.int (wayF wd).2])) n2
   refine ⟨_,rfl,szr rfl,fun l2 n3=>⟨szr rfl,fun r nr=>?_⟩⟩
   have T3:=same_upd (o:=HO.lst [V.str wd]) n3
   have T4:=same_upd (o:=HO.tup [V.ref t,.ref l2]) nr
   have ep:plF n=.line false (wayF wd).1 (wayF wd).2:=by unfold plF; rw [if_pos (of_decide_eq_true g1),ewd]
   refine z r t l2 _ ((Tl.trans T1).trans (S2.trans (T2.trans (T3.trans T4)))) upd_same ?_ ?_ (none_same ((Tl.trans T1).trans (S2.trans T2)) n3)
   ·rw [ep]
    exact .line ((T3.trans T4) _ _ upd_same)
   ·rw [ep]
    simp only [Sk.wd,lnW]
    rw [lineW_some (way_wd wd hw)]
    exact T4 _ _ upd_same
  have g1:=of_decide_eq_false g1
  refine ⟨_,rfl,_,_,rfl,rfl,_,rfl,ifC (fun g2=>?_) (fun g2=>?_)⟩
  ·refine ⟨_,rfl,_,_,rfl,fun r t l H' S er et el nl=>?_⟩
   have ep:plF n=.line false (x2F (n / 16) "line") (n / 16 / 19 % 19 - 9):=by unfold plF; rw [if_neg g1,if_pos (of_decide_eq_true g2)]
   refine z r t l H' S er (by rw [ep]; exact .line et) ?_ nl
   rw [ep]
   simp only [Sk.wd,lnW]
   rw [lineW_none (way_far (n / 16))]
   exact el
  have g2:=of_decide_eq_false g2
  refine ⟨_,rfl,_,_,rfl,rfl,_,rfl,ifC (fun g3=>?_) (fun g3=>?_)⟩
  ·refine ⟨_,rfl,_,_,rfl,fun r t l H' S er et el nl=>?_⟩
   have ep:plF n=.by_ (x2F (n / 16) "by") (n / 16 / 19 % 19 - 9):=by unfold plF; rw [if_neg g1,if_neg g2,if_pos (of_decide_eq_true g3)]
   refine z r t l H' S er (by rw [ep]; exact .by_ et) ?_ nl
   rw [ep]
   simp only [Sk.wd,lnW]
   exact el
  have g3:=of_decide_eq_false g3
  refine ⟨_,rfl,_,_,rfl,rfl,⟨by decide,by decide⟩,_,_,rfl,rfl,(by show (0:Int) < _; decide),_,rfl,_,rfl,by rw [sizeLine_eq]; decide,szr rfl,fun l nl=>?_⟩
  have Tl:=same_upd (o:=HO.lst [V.str "black",.str "red",.str (Txt.slice "abcdefgh" (some (n / 16 / 8 % 8)) none),.str "z",.str "n",.str "line",.str "times",.str "turn"]) nl
  obtain ⟨v,hv,hm⟩:=atI_of (xs:=[V.str "black",.str "red",.str (Txt.slice "abcdefgh" (some (n / 16 / 8 % 8)) none),.str "z",.str "n",.str "line",.str "times",.str "turn"]) (m:=n / 16 % 8) (by omega) (by show n / 16 % 8 < 8; omega)
  obtain ⟨c,rfl⟩:∃ c,v=V.str c:=by
   simp only [List.mem_cons,List.not_mem_nil,or_false] at hm
   rcases hm with rfl | rfl | rfl | rfl | rfl | rfl | rfl | rfl <;> exact ⟨_,rfl⟩
  refine ⟨_,rfl,_,_,rfl,rfl,(by show (0:Int) < _; decide),l,_,_,_,rfl,rfl,SqL.of upd_same,hv,?_⟩
  refine ⟨_,rfl,szr rfl,fun t nt=>⟨_,rfl,szr rfl,fun l2 n3=>⟨szr rfl,fun r nr=>?_⟩⟩⟩
  have T2:=same_upd (o:=HO.tup [V.str "ink",.str c]) nt
  have T3:=same_upd (o:=HO.lst [V.str "ink",.str c]) n3
  have T4:=same_upd (o:=HO.tup [V.ref t,.ref l2]) nr
  have ec:colF (n / 16)=c:=by unfold colF; rw [hv]
  have ep:plF n=.ink c:=by unfold plF; rw [if_neg g1,if_neg g2,if_neg g3,ec]
  refine z r t l2 _ (Tl.trans (T2.trans (T3.trans T4))) upd_same ?_ ?_ (none_same (Tl.trans T2) n3)
  ·rw [ep]
   exact .ink ((T3.trans T4) _ _ upd_same)
  ·rw [ep]
   simp only [Sk.wd,lnW]
   exact T4 _ _ upd_same
def spHead:Sp:=fun vs H Q _=>∃ n:Int,vs=[.int n]∧∀ (r t l:Addr) H',Same H H'→H' r=some (.tup [.ref t,.ref l])→H' t=some (.tup (hdV (hdF n)))→H' l=some (.lst ((hdW (hdF n)).map V.str))→H l=none→Q (.ref r) H'
theorem scHead:FnScope ["_law_number_here","_law_many"] ["_law_number_here"] (defScope sHead):=⟨rfl,rfl,rfl,by decide +kernel,rfl,by decide +kernel,by decide +kernel⟩
theorem ok_head {f:Addr} {fd:FuncData} (D:Df K mg "_law_head" sHead f fd) (B:Blt mg):FnOk P w K mg base CX0 1 f fd ["_law_number_here"] spHead:=by
 refine D.F.ok scHead (fun vs H Q E h=>?_) (fun cdv A outer s H vs Q E hr h=>?_)
 ·obtain ⟨n,rfl,_⟩:=h
  rfl
 ·obtain ⟨n,rfl,z⟩:=h
  refine ⟨_,(pss_cons (ps_if (pt_cmpR op_eq (pe_op op_mod (pv 0) pe_int) pe_int (nomark _)) (pss_one (ps_ret (pe_tup (pac (pe_tup (pac (pe_str) pa_nil)) (pac (pe_lst pa_nil) pa_nil))))) pss_nil)
   (pss_cons (ps_if (pt_cmpR op_eq (pe_op op_mod (pv 0) pe_int) pe_int (nomark _)) (pss_cons (ps_set (i:=1) scHead.nd rfl (Or.inl rfl) (pe_ix ix_list (pe_lst (pac (pe_op op_add pe_int (pe_op op_mod (pe_op op_fdiv (pv 0) pe_int) pe_int)) (pac (pe_op op_add pe_int (pe_op op_mod (pe_op op_fdiv (pv 0) pe_int) pe_int)) pa_nil))) (pe_op op_fdiv (pe_op op_mod (pe_op op_fdiv (pv 0) pe_int) pe_int) pe_int) (fun _ _=>rfl)))
   (pss_one (ps_ret (pe_tup (pac (pe_tup (pac (pe_str) (pac (pv 1) pa_nil))) (pac (pe_lst (pac (pe_callTy call_str_int (by rfl) B.str boot_str (pac (pv 1) pa_nil)) (pac (pe_str) pa_nil))) pa_nil)))))) pss_nil)
   (pss_one (ps_ret (pe_tup (pac (pe_tup (pac (pe_str) (pac (pe_op op_mod (pe_op op_fdiv (pv 0) pe_int) pe_int) pa_nil))) (pac (pe_lst (pac (pe_str) (pac (pe_callTy call_str_int (by rfl) B.str boot_str (pac (pe_op op_mod (pe_op op_fdiv (pv 0) pe_int) pe_int) pa_nil)) pa_nil))) pa_nil))))))),?_⟩
  refine ⟨_,rfl,_,_,rfl,rfl,(by show (0:Int) < _; decide),rfl,_,rfl,?_⟩
  by_cases g0:n % 3=0
  ·refine ifB_pos (decide_eq_true (by show V.int (n % 3)=V.int 0; rw [g0])) ?_
   refine ⟨szr rfl,fun t nt=>⟨szr rfl,fun l nl=>⟨szr rfl,fun r nr=>?_⟩⟩⟩
   have T1:=same_upd (o:=HO.tup [V.str "back"]) nt
   have T2:=same_upd (o:=HO.lst []) nl
   have T3:=same_upd (o:=HO.tup [V.ref t,.ref l]) nr
   have eh:hdF n=.back:=by unfold hdF; rw [if_pos g0]
   refine z r t l _ (T1.trans (T2.trans T3)) upd_same ?_ ?_ (none_same T1 nl)
   ·rw [eh]
    exact (T2.trans T3) _ _ upd_same
   ·rw [eh]
    exact T3 _ _ upd_same
  refine ifB_neg (decide_eq_false fun e=>g0 (by injection e)) ?_
  refine ⟨_,rfl,_,_,rfl,rfl,(by show (0:Int) < _; decide),rfl,_,rfl,?_⟩
  by_cases g1:n % 3=1
  ·refine ifB_pos (decide_eq_true (by show V.int (n % 3)=V.int 1; rw [g1])) ?_
   refine ⟨_,rfl,_,_,rfl,rfl,⟨by decide,by decide⟩,_,_,rfl,rfl,(by show (0:Int) < _; decide),_,_,rfl,rfl,?_⟩
   refine ⟨_,rfl,_,_,rfl,rfl,⟨by decide,by decide⟩,_,_,rfl,rfl,(by show (0:Int) < _; decide),_,_,rfl,rfl,szr rfl,fun l0 n0=>?_⟩
   have T0:=same_upd (o:=HO.lst [V.int (1 + n / 3 % 4),.int (1 + n / 3 % 60)]) n0
   have ix:n / 180 % 4 / 3=0∨n / 180 % 4 / 3=1:=by omega
   have em:atI [V.int (1 + n / 3 % 4),.int (1 + n / 3 % 60)] (n / 180 % 4 / 3)=some (V.int ((manyF n:Nat):Int)):=by
    unfold manyF
    rcases ix with e | e
    ·rw [e,if_pos rfl,Int.toNat_of_nonneg (by omega)]
     rfl
    ·rw [e,if_neg (by decide),Int.toNat_of_nonneg (by omega)]
     rfl
   have mb:((manyF n:Nat):Int)≤60:=by
    unfold manyF
    split <;> rw [Int.toNat_of_nonneg (by omega)] <;> omega
   refine ⟨_,rfl,_,_,rfl,rfl,⟨by decide,by decide⟩,_,_,rfl,rfl,(by show (0:Int) < _; decide),_,_,rfl,rfl,⟨by decide,by decide⟩,l0,_,_,_,rfl,rfl,SqL.of upd_same,em,?_⟩
   refine ⟨_,rfl,szr rfl,fun t nt=>⟨_,rfl,_,rfl,log_ok (by omega),szr rfl,fun l nl=>⟨szr rfl,fun r nr=>?_⟩⟩⟩
   have T1:=same_upd (o:=HO.tup [V.str "times",.int ((manyF n:Nat):Int)]) nt
   have T2:=same_upd (o:=HO.lst [V.str (Str.ofString (toString ((manyF n:Nat):Int))),.str "times"]) nl
   have T3:=same_upd (o:=HO.tup [V.ref t,.ref l]) nr
   have eh:hdF n=.times (manyF n):=by unfold hdF; rw [if_neg g0,if_pos g1]
   refine z r t l _ (T0.trans (T1.trans (T2.trans T3))) upd_same ?_ ?_ (none_same (T0.trans T1) nl)
   ·rw [eh]
    exact (T2.trans T3) _ _ upd_same
   ·rw [eh]
    exact T3 _ _ upd_same
  refine ifB_neg (decide_eq_false fun e=>g1 (by injection e)) ?_
  have e8:((n / 3 % 8).toNat:Int)=n / 3 % 8:=Int.toNat_of_nonneg (by omega)
  refine ⟨_,rfl,_,_,rfl,rfl,⟨by decide,by decide⟩,_,_,rfl,rfl,(by show (0:Int) < _; decide),szr rfl,fun t nt=>?_⟩
  refine ⟨_,rfl,_,_,rfl,rfl,⟨by decide,by decide⟩,_,_,rfl,rfl,(by show (0:Int) < _; decide),_,rfl,log_ok (by show (n / 3 % 8).natAbs < _; omega),szr rfl,fun l nl=>⟨szr rfl,fun r nr=>?_⟩⟩
  have T1:=same_upd (o:=HO.tup [V.str "turn",.int (n / 3 % 8)]) nt
  have T2:=same_upd (o:=HO.lst [V.str "turn",.str (Str.ofString (toString (n / 3 % 8)))]) nl
  have T3:=same_upd (o:=HO.tup [V.ref t,.ref l]) nr
  have eh:hdF n=.turn (n / 3 % 8).toNat:=by unfold hdF; rw [if_neg g0,if_neg g1]
  refine z r t l _ (T1.trans (T2.trans T3)) upd_same ?_ ?_ (none_same T1 nl)
  ·rw [eh]
   show _=some (HO.tup [V.str "turn",V.int ((n / 3 % 8).toNat:Int)])
   rw [e8]
   exact (T2.trans T3) _ _ upd_same
  ·rw [eh]
   show _=some (HO.lst [V.str "turn",V.str (nT ((n / 3 % 8).toNat:Int))])
   rw [e8]
   exact T3 _ _ upd_same
end
def wo (H:Hp) (M:List Addr):Hp:=fun c=>if c∈M then none else H c
theorem wo_same {H:Hp} {M:List Addr}:Same (wo H M) H:=fun c o e=>by
 unfold wo at e
 split at e
 ·cases e
 ·exact e
theorem wo_at {H:Hp} {M:List Addr} {c:Addr} {o:HO} (e:H c=some o) (h:¬ c∈M):wo H M c=some o:=by
 unfold wo
 rw [if_neg h]
 exact e
theorem wo_to {H H':Hp} {M M':List Addr} (h:∀ c o,H c=some o→¬ c∈M→H' c=some o∧¬ c∈M'):Same (wo H M) (wo H' M'):=fun c o e=>by
 unfold wo at e
 split at e
 ·cases e
 ·rename_i hc
  obtain ⟨a,b⟩:=h c o e hc
  exact wo_at a b
structure Fr where
 e:Addr
 h:Addr
 l:Addr
 hd:Hd
 xs:List V
 sk:List Sk
def frM (fs:List Fr):List Addr:=fs.flatMap fun f=>[f.e,f.l]
theorem frM_cons (f:Fr) (r:List Fr):frM (f :: r)=f.e :: f.l :: frM r:=rfl
theorem frM_e {fs:List Fr} {f:Fr} (h:f∈fs):f.e∈frM fs:=List.mem_flatMap.mpr ⟨f,h,List.mem_cons_self⟩
theorem frM_l {fs:List Fr} {f:Fr} (h:f∈fs):f.l∈frM fs:=List.mem_flatMap.mpr ⟨f,h,List.mem_cons_of_mem _ List.mem_cons_self⟩
def datS (fs:List Fr):List (Hd×List Sk):=fs.map fun f=>(f.hd,f.sk)
structure FrI (H Hw:Hp) (n:Nat) (f:Fr):Prop where
 he:H f.e=some (.lst [.ref f.h,.ref f.l])
 hh:H f.h=some (.tup (hdV f.hd))
 hl:H f.l=some (.lst f.xs)
 sk:SksIs Hw f.xs f.sk
 ln:f.sk.length≤n
structure StkI (H0 H:Hp) (s W:Addr) (fs:List Fr) (n:Nat) (ww:List V):Prop where
 sub:Same H0 H
 no:∀ a∈s :: W :: frM fs,H0 a=none
 es:H s=some (.lst (fs.reverse.map fun f=>V.ref f.e))
 ew:H W=some (.lst ww)∧ww.length≤n
 fr:∀ f∈fs,FrI H (wo H (s :: W :: frM fs)) n f
 nd:(s :: W :: frM fs).Nodup
theorem StkI.lst {H0 H:Hp} {s W:Addr} {fs:List Fr} {n:Nat} {ww:List V} (I:StkI H0 H s W fs n ww):∀ a∈s :: W :: frM fs,∃ ys,H a=some (.lst ys):=fun a ha=>by
 rcases List.mem_cons.mp ha with rfl | ha
 ·exact ⟨_,I.es⟩
 rcases List.mem_cons.mp ha with rfl | ha
 ·exact ⟨_,I.ew.1⟩
 obtain ⟨f,hf,ha⟩:=List.mem_flatMap.mp ha
 rcases List.mem_cons.mp ha with rfl | ha
 ·exact ⟨_,(I.fr f hf).he⟩
 ·rw [List.mem_singleton.mp ha]
  exact ⟨_,(I.fr f hf).hl⟩
theorem StkI.fresh {H0 H:Hp} {s W:Addr} {fs:List Fr} {n:Nat} {ww:List V} (I:StkI H0 H s W fs n ww) {c:Addr} (h:H c=none):¬ c∈s :: W :: frM fs:=fun z=>by
 obtain ⟨ys,e⟩:=I.lst c z
 rw [h] at e
 cases e
theorem StkI.tup {H0 H:Hp} {s W:Addr} {fs:List Fr} {n:Nat} {ww:List V} (I:StkI H0 H s W fs n ww) {c:Addr} {xs:List V} (h:H c=some (.tup xs)):¬ c∈s :: W :: frM fs:=fun z=>by
 obtain ⟨ys,e⟩:=I.lst c z
 rw [h] at e
 cases e
theorem StkI.same {H0 H H':Hp} {s W:Addr} {fs:List Fr} {n:Nat} {ww:List V} (I:StkI H0 H s W fs n ww) (S:Same H H'):StkI H0 H' s W fs n ww:=by
 obtain ⟨e,l⟩:=I.ew
 refine ⟨I.sub.trans S,I.no,S _ _ I.es,⟨S _ _ e,l⟩,fun f hf=>?_,I.nd⟩
 have q:=I.fr f hf
 exact ⟨S _ _ q.he,S _ _ q.hh,S _ _ q.hl,q.sk.same (wo_to fun c o e hc=>⟨S _ _ e,hc⟩),q.ln⟩
theorem StkI.mono {H0 H:Hp} {s W:Addr} {fs:List Fr} {n m:Nat} {ww:List V} (I:StkI H0 H s W fs n ww) (h:n≤m):StkI H0 H s W fs m ww:=by
 obtain ⟨e,l⟩:=I.ew
 refine ⟨I.sub,I.no,I.es,⟨e,Nat.le_trans l h⟩,fun f hf=>?_,I.nd⟩
 have q:=I.fr f hf
 exact ⟨q.he,q.hh,q.hl,q.sk,Nat.le_trans q.ln h⟩
theorem StkI.wset {H0 H:Hp} {s W W':Addr} {fs:List Fr} {n:Nat} {ws:List V} {ww:List V} (I:StkI H0 H s W fs n ww) (f:H W'=none) (l:ws.length≤n):StkI H0 (upd H W' (.lst ws)) s W' fs n ws:=by
 have T:=same_upd (o:=HO.lst ws) f
 have nw:=I.fresh f
 have nd:=I.nd
 rw [List.nodup_cons,List.nodup_cons] at nd
 refine ⟨I.sub.trans T,fun a ha=>?_,T _ _ I.es,⟨upd_same,l⟩,fun g hg=>?_,?_⟩
 ·rcases List.mem_cons.mp ha with rfl | ha
  ·exact I.no _ List.mem_cons_self
  rcases List.mem_cons.mp ha with rfl | ha
  ·exact none_same I.sub f
  ·exact I.no _ (List.mem_cons_of_mem _ (List.mem_cons_of_mem _ ha))
 ·have q:=I.fr g hg
  refine ⟨T _ _ q.he,T _ _ q.hh,T _ _ q.hl,q.sk.same (wo_to fun c o e hc=>⟨T _ _ e,fun z=>?_⟩),q.ln⟩
  rcases List.mem_cons.mp z with rfl | z
  ·exact hc List.mem_cons_self
  rcases List.mem_cons.mp z with rfl | z
  ·rw [f] at e; cases e
  ·exact hc (List.mem_cons_of_mem _ (List.mem_cons_of_mem _ z))
 ·rw [List.nodup_cons,List.nodup_cons]
  refine ⟨fun z=>?_,fun z=>nw (List.mem_cons_of_mem _ (List.mem_cons_of_mem _ z)),nd.2.2⟩
  rcases List.mem_cons.mp z with rfl | z
  ·exact nw List.mem_cons_self
  ·exact nd.1 (List.mem_cons_of_mem _ z)
theorem wo_upd {H:Hp} {M:List Addr} {a:Addr} {o:HO} (h:a∈M):Same (wo H M) (wo (upd H a o) M):=wo_to fun c o' e hc=>⟨by rw [upd_ne (fun z=>hc (by rw [z]; exact h))]; exact e,hc⟩
theorem StkI.wapp {H0 H:Hp} {s W:Addr} {fs:List Fr} {n:Nat} {ws:List V} {ww:List V} (I:StkI H0 H s W fs n ww) (l:ws.length≤n):StkI H0 (upd H W (.lst ws)) s W fs n ws:=by
 have nd:=I.nd
 rw [List.nodup_cons,List.nodup_cons] at nd
 have wm:W∈s :: W :: frM fs:=List.mem_cons_of_mem _ List.mem_cons_self
 refine ⟨same_updN I.sub (I.no W wm),I.no,?_,⟨upd_same,l⟩,fun g hg=>?_,I.nd⟩
 ·rw [upd_ne (fun z=>nd.1 (by rw [z]; exact List.mem_cons_self))]
  exact I.es
 ·have q:=I.fr g hg
  refine ⟨?_,?_,?_,q.sk.same (wo_upd wm),q.ln⟩
  ·rw [upd_ne (fun z=>nd.2.1 (by rw [← z]; exact frM_e hg))]; exact q.he
  ·rw [upd_ne (fun z=>I.tup q.hh (by rw [z]; exact wm))]; exact q.hh
  ·rw [upd_ne (fun z=>nd.2.1 (by rw [← z]; exact frM_l hg))]; exact q.hl
theorem StkI.push {H0 H:Hp} {s W:Addr} {f:Fr} {r:List Fr} {n:Nat} {v:V} {st:Sk} {ww:List V} (I:StkI H0 H s W (f :: r) n ww) (h:SkIs (wo H (s :: W :: frM (f :: r))) v st):StkI H0 (upd H f.l (.lst (f.xs ++ [v]))) s W ({ f with xs:=f.xs ++ [v],sk:=f.sk ++ [st] } :: r) (n + 1) ww:=by
 have nd:=I.nd
 rw [frM_cons,List.nodup_cons,List.nodup_cons,List.nodup_cons,List.nodup_cons] at nd
 obtain ⟨n1,n2,n3,n4,_⟩:=nd
 have lm:f.l∈s :: W :: frM (f :: r):=by rw [frM_cons]; simp
 obtain ⟨ew,wl⟩:=I.ew
 have eM:frM ({ f with xs:=f.xs ++ [v],sk:=f.sk ++ [st] } :: r)=frM (f :: r):=rfl
 have nsl:s≠f.l:=fun z=>n1 (by rw [z]; simp)
 have nwl:W≠f.l:=fun z=>n2 (by rw [z]; simp)
 have nel:f.e≠f.l:=fun z=>n3 (by rw [z]; simp)
 refine ⟨same_updN I.sub (I.no _ lm),I.no,?_,⟨by rw [upd_ne nwl]; exact ew,by omega⟩,fun g hg=>?_,I.nd⟩
 ·rw [upd_ne nsl]
  have:=I.es
  rw [List.reverse_cons,List.map_append] at this ⊢
  exact this
 ·rw [eM]
  rcases List.mem_cons.mp hg with rfl | hg
  ·have q:=I.fr f List.mem_cons_self
   refine ⟨?_,?_,upd_same,SksIs.snoc (q.sk.same (wo_upd lm)) (h.same (wo_upd lm)),?_⟩
   ·rw [upd_ne nel]; exact q.he
   ·rw [upd_ne (fun z=>I.tup q.hh (by rw [z]; exact lm))]; exact q.hh
   ·show (f.sk ++ [st]).length≤_
    rw [List.length_append]
    have:=q.ln
    show _ + 1≤_
    omega
  ·have q:=I.fr g (List.mem_cons_of_mem _ hg)
   refine ⟨?_,?_,?_,q.sk.same (wo_upd lm),Nat.le_succ_of_le q.ln⟩
   ·rw [upd_ne (fun z=>n4 (by rw [← z]; exact frM_e hg))]; exact q.he
   ·rw [upd_ne (fun z=>I.tup q.hh (by rw [z]; exact lm))]; exact q.hh
   ·rw [upd_ne (fun z=>n4 (by rw [← z]; exact frM_l hg))]; exact q.hl
theorem StkI.opn {H0 H:Hp} {s W l e t:Addr} {fs:List Fr} {n:Nat} {hd:Hd} {ww:List V} (I:StkI H0 H s W fs n ww) (ht:H t=some (.tup (hdV hd))) (fl:H l=none) (fe:(upd H l (.lst [])) e=none) :
  StkI H0 (upd (upd (upd H l (.lst [])) e (.lst [.ref t,.ref l])) s (.lst ((fs.reverse.map fun f=>V.ref f.e) ++ [.ref e]))) s W (⟨e,t,l,hd,[],[]⟩ :: fs) n ww:=by
 have T1:=same_upd (o:=HO.lst []) fl
 have T2:=same_upd (o:=HO.lst [.ref t,.ref l]) fe
 have fe0:H e=none:=none_same T1 fe
 have nel:e≠l:=fun z=>by rw [z,upd_same] at fe; cases fe
 have nl:=I.fresh fl
 have ne:=I.fresh fe0
 have nd:=I.nd
 rw [List.nodup_cons] at nd
 have S:=T1.trans T2
 have nsl:l≠s:=fun z=>nl (by rw [z]; exact List.mem_cons_self)
 have nts:t≠s:=fun z=>I.tup ht (by rw [z]; exact List.mem_cons_self)
 have nse:e≠s:=fun z=>ne (by rw [z]; exact List.mem_cons_self)
 have keep:∀ {c o},H c=some o→c≠s→(upd (upd (upd H l (.lst [])) e (.lst [.ref t,.ref l])) s (.lst ((fs.reverse.map fun f=>V.ref f.e) ++ [.ref e]))) c=some o:=fun {c o} h1 h2=>by
  rw [upd_ne h2]
  exact S _ _ h1
 have key:∀ c o,H c=some o→¬ c∈s :: W :: frM fs→(upd (upd (upd H l (.lst [])) e (.lst [.ref t,.ref l])) s (.lst ((fs.reverse.map fun f=>V.ref f.e) ++ [.ref e]))) c=some o∧¬ c∈s :: W :: frM (⟨e,t,l,hd,[],[]⟩ :: fs):=fun c o h1 h2=>by
  refine ⟨keep h1 (fun z=>h2 (by rw [z]; exact List.mem_cons_self)),fun z=>?_⟩
  rw [frM_cons] at z
  simp only [List.mem_cons] at z h2
  rcases z with z | z | z | z | z
  ·exact h2 (.inl z)
  ·exact h2 (.inr (.inl z))
  ·rw [z,fe0] at h1; cases h1
  ·rw [z,fl] at h1; cases h1
  ·exact h2 (.inr (.inr z))
 obtain ⟨ew,wl⟩:=I.ew
 refine ⟨same_updN (I.sub.trans S) (I.no s List.mem_cons_self),fun a ha=>?_,?_,⟨keep ew (fun z=>nd.1 (by rw [← z]; exact List.mem_cons_self)),wl⟩,fun g hg=>?_,?_⟩
 ·rw [frM_cons] at ha
  simp only [List.mem_cons] at ha
  rcases ha with rfl | rfl | rfl | rfl | ha
  ·exact I.no _ List.mem_cons_self
  ·exact I.no _ (List.mem_cons_of_mem _ List.mem_cons_self)
  ·exact none_same I.sub fe0
  ·exact none_same I.sub fl
  ·exact I.no _ (List.mem_cons_of_mem _ (List.mem_cons_of_mem _ ha))
 ·rw [upd_same,List.reverse_cons,List.map_append]
  rfl
 ·rcases List.mem_cons.mp hg with rfl | hg
  ·refine ⟨?_,keep ht nts,?_,.nil,Nat.zero_le _⟩
   ·rw [upd_ne nse]; exact upd_same
   ·rw [upd_ne nsl]; exact T2 _ _ upd_same
  ·have q:=I.fr g hg
   refine ⟨keep q.he ?_,keep q.hh ?_,keep q.hl ?_,q.sk.same (wo_to key),q.ln⟩
   ·exact fun z=>nd.1 (List.mem_cons_of_mem _ (by rw [← z]; exact frM_e hg))
   ·exact fun z=>I.tup q.hh (by rw [z]; exact List.mem_cons_self)
   ·exact fun z=>nd.1 (List.mem_cons_of_mem _ (by rw [← z]; exact frM_l hg))
 ·rw [frM_cons]
  have n0:=I.nd
  simp only [List.nodup_cons,List.mem_cons,not_or] at n0 nl ne ⊢
  exact ⟨⟨n0.1.1,Ne.symm nse,Ne.symm nsl,n0.1.2⟩,⟨Ne.symm ne.2.1,Ne.symm nl.2.1,n0.2.1⟩,⟨nel,ne.2.2⟩,nl.2.2,n0.2.2⟩
theorem StkI.pop {H0 H:Hp} {s W:Addr} {f f':Fr} {r:List Fr} {n:Nat} {ww:List V} (I:StkI H0 H s W (f :: f' :: r) n ww) :
  StkI H0 (upd H s (.lst ((f' :: r).reverse.map fun f=>V.ref f.e))) s W (f' :: r) n ww∧(upd H s (.lst ((f' :: r).reverse.map fun f=>V.ref f.e))) f.e=some (.lst [.ref f.h,.ref f.l])∧(upd H s (.lst ((f' :: r).reverse.map fun f=>V.ref f.e))) f.h=some (.tup (hdV f.hd))∧(upd H s (.lst ((f' :: r).reverse.map fun f=>V.ref f.e))) f.l=some (.lst f.xs)∧¬ f.l∈s :: W :: frM (f' :: r)∧SksIs (wo (upd H s (.lst ((f' :: r).reverse.map fun f=>V.ref f.e))) (s :: W :: frM (f' :: r))) f.xs f.sk:=by
 have nd:=I.nd
 rw [frM_cons] at nd
 generalize hN:f' :: r=R at *
 simp only [List.nodup_cons,List.mem_cons,not_or] at nd
 obtain ⟨⟨a1,a2,a3,a4⟩,⟨b1,b2,b3⟩,⟨c1,c2⟩,d1,e1⟩:=nd
 have key:∀ c o,H c=some o→¬ c∈s :: W :: frM (f :: R)→(upd H s (.lst (R.reverse.map fun f=>V.ref f.e))) c=some o∧¬ c∈s :: W :: frM R:=fun c o h1 h2=>by
  rw [frM_cons] at h2
  simp only [List.mem_cons,not_or] at h2 ⊢
  exact ⟨by rw [upd_ne h2.1]; exact h1,h2.1,h2.2.1,h2.2.2.2.2⟩
 have q:=I.fr f List.mem_cons_self
 obtain ⟨ew,wl⟩:=I.ew
 refine ⟨⟨same_updN I.sub (I.no s List.mem_cons_self),fun a ha=>I.no a ?_,upd_same,⟨by rw [upd_ne (Ne.symm a1)]; exact ew,wl⟩,fun g hg=>?_,?_⟩,?_,?_,?_,?_,q.sk.same (wo_to key)⟩
 ·rw [frM_cons]
  simp only [List.mem_cons] at ha ⊢
  rcases ha with h | h | h
  ·exact .inl h
  ·exact .inr (.inl h)
  ·exact .inr (.inr (.inr (.inr h)))
 ·have q:=I.fr g (List.mem_cons_of_mem _ hg)
  refine ⟨?_,?_,?_,q.sk.same (wo_to key),q.ln⟩
  ·rw [upd_ne (fun z=>a4 (by rw [← z]; exact frM_e hg))]; exact q.he
  ·rw [upd_ne (fun z=>I.tup q.hh (by rw [z]; exact List.mem_cons_self))]; exact q.hh
  ·rw [upd_ne (fun z=>a4 (by rw [← z]; exact frM_l hg))]; exact q.hl
 ·simp only [List.nodup_cons,List.mem_cons,not_or]
  exact ⟨⟨a1,a4⟩,b3,e1⟩
 ·rw [upd_ne (Ne.symm a2)]; exact q.he
 ·rw [upd_ne (fun z=>I.tup q.hh (by rw [z]; exact List.mem_cons_self))]; exact q.hh
 ·rw [upd_ne (Ne.symm a3)]; exact q.hl
 ·simp only [List.mem_cons,not_or]
  exact ⟨Ne.symm a3,Ne.symm b2,d1⟩
def mk:Hd→List Sk→Sk
 | .no,l=>.back l
 | .back,l=>.back l
 | .times m,l=>.times m l
 | .turn k,l=>.turn k l
theorem mk_is {H:Hp} {t l:Addr} {hd:Hd} {xs:List V} {sk:List Sk} (hn:hd≠.no) (e:H t=some (.tup (hdV hd ++ [.ref l]))) (el:H l=some (.lst xs)) (h:SksIs H xs sk):SkIs H (.ref t) (mk hd sk):=by
 cases hd with
 | no=>exact absurd rfl hn
 | back=>exact .back e el h
 | times m=>exact .times e el h
 | turn k=>exact .turn e el h
section
variable {P:Program} {w:World} {K:PySem.W.Frag} {mg:Str→Option Value} {base:Heap}
def spClosed:Sp:=fun vs H Q _=>∃ (s W:Addr) (H0:Hp) (f f':Fr) (r:List Fr) (n:Nat) (ww:List V),vs=[.ref s,.ref W]∧StkI H0 H s W (f :: f' :: r) n ww∧f.hd≠.no∧n < 900∧∀ xs' H',StkI H0 H' s W ({ f' with xs:=xs',sk:=f'.sk ++ [mk f.hd f.sk] } :: r) (n + 2) (ww ++ [V.str ")"])→Q .non H'
theorem scClosed:FnScope ["_law_stack","_law_words","_law_head_here","_law_strokes"] ["_law_stack","_law_words"] (defScope sClosed):=⟨rfl,rfl,rfl,by decide +kernel,rfl,by decide +kernel,by decide +kernel⟩
theorem ok_closed {f:Addr} {fd:FuncData} (D:Df K mg "_law_closed" sClosed f fd):FnOk P w K mg base CX0 1 f fd ["_law_stack","_law_words"] spClosed:=by
 refine D.F.ok scClosed (fun vs H Q E h=>?_) (fun cdv A outer s H vs Q E hr h=>?_)
 ·obtain ⟨s,W,H0,f,f',r,n,ww,rfl,_⟩:=h
  rfl
 ·obtain ⟨st,W,H0,f,f',r,n,ww,rfl,I,hn,nb,z⟩:=h
  refine ⟨_,(pss_cons (ps_asg (pe_bm0 PySem.F.plainAttrs_list PySem.F.slot_list_pop PySem.F.type_list_pop mt_pop (pv 0)) (pg_tupL (n:=2) rfl (pgs_cons (pg_name (i:=2) scClosed.nd rfl (Or.inl rfl)) (pgs_cons (pg_name (i:=3) scClosed.nd rfl (Or.inl rfl)) pgs_nil))))
   (pss_cons (ps_expr (pe_bm PySem.F.plainAttrs_list PySem.F.slot_list_append PySem.F.type_list_append mt_append (pe_ix ix_list (pe_ix ix_list (pv 0) (pe_un un_neg pe_int) (fun _ _=>rfl)) pe_int (fun _ _=>rfl)) (pac (pe_op op_catT (pv 2) (pe_tup (pac (pv 3) pa_nil))) pa_nil)))
   (pss_one (ps_expr (pe_bm PySem.F.plainAttrs_list PySem.F.slot_list_append PySem.F.type_list_append mt_append (pv 1) (pac (pe_str) pa_nil)))))),?_⟩
  obtain ⟨I1,he,hh,hl,nl,hsk⟩:=I.pop
  have es:=I.es
  rw [List.reverse_cons,List.map_append] at es
  refine ⟨_,rfl,.inl ⟨rfl,_,SqL.of es⟩,st,_,.ref f.e,rfl,rfl,es,by simp,?_⟩
  show gTupL _ _ _ _ _ (upd H st (.lst (((f' :: r).reverse.map fun f=>V.ref f.e) ++ [V.ref f.e]).dropLast)) _
  rw [List.dropLast_concat]
  revert I1 he hh hl hsk
  generalize (upd H st (.lst ((f' :: r).reverse.map fun f=>V.ref f.e)))=H1
  intro I1 he hh hl hsk
  refine ⟨f.e,_,rfl,SqL.of he,rfl,_,_,rfl,_,_,rfl,rfl,?_⟩
  have es1:=I1.es
  rw [List.reverse_cons,List.map_append] at es1
  have q1:=I1.fr f' List.mem_cons_self
  refine ⟨_,rfl,_,rfl,st,_,_,_,rfl,rfl,SqL.of es1,atI_last _ _,f'.e,_,_,_,rfl,rfl,SqL.of q1.he,rfl,.inl ⟨rfl,_,SqL.of q1.hl⟩,?_⟩
  refine ⟨_,rfl,_,rfl,szr rfl,fun t1 nt1=>?_⟩
  have T1:=same_upd (o:=HO.tup [V.ref f.l]) nt1
  refine ⟨f.h,t1,_,_,rfl,rfl,SqT.of (T1 _ _ hh),SqT.of upd_same,?_,?_,fun h=>(by cases h),fun _ t nt=>?_⟩
  ·cases hf:f.hd with
   | no=>exact absurd hf hn
   | back=>simp [hdV]
   | times m=>simp [hdV]
   | turn k=>simp [hdV]
  ·rw [sizeLine_eq]
   cases f.hd <;> simp [hdV]
  have T2:=same_upd (o:=HO.tup (hdV f.hd ++ [V.ref f.l])) nt
  have T:=T1.trans T2
  have I3:=I1.same T
  have et:(upd (upd H1 t1 (HO.tup [V.ref f.l])) t (HO.tup (hdV f.hd ++ [V.ref f.l]))) t=some (HO.tup (hdV f.hd ++ [V.ref f.l])):=upd_same
  have hl3:=T _ _ hl
  have sk3:=hsk.same (wo_to (M:=st :: W :: frM (f' :: r)) (M':=st :: W :: frM (f' :: r)) fun c o e hc=>⟨T _ _ e,hc⟩)
  revert I3 et hl3 sk3
  generalize (upd (upd H1 t1 (HO.tup [V.ref f.l])) t (HO.tup (hdV f.hd ++ [V.ref f.l])))=H3
  intro I3 et hl3 sk3
  have q3:=I3.fr f' List.mem_cons_self
  have skt:SkIs (wo H3 (st :: W :: frM (f' :: r))) (.ref t) (mk f.hd f.sk):=mk_is hn (wo_at et (I3.tup et)) (wo_at hl3 nl) sk3
  have xl:f'.xs.length≤n:=by rw [q3.sk.length]; exact q3.ln
  refine ⟨f'.l,f'.xs,_,rfl,rfl,q3.hl,small1000 (by omega),?_⟩
  have I4:=I3.push skt
  revert I4
  generalize (upd H3 f'.l (.lst (f'.xs ++ [V.ref t])))=H4
  intro I4
  obtain ⟨ew,wl⟩:=I4.ew
  refine ⟨_,rfl,.inl ⟨rfl,_,SqL.of ew⟩,W,ww,_,rfl,rfl,ew,small1000 (by omega),?_⟩
  exact z _ _ ((I4.mono (Nat.le_succ _)).wapp (by rw [List.length_append]; show _ + 1≤_; omega))
end
end K21
namespace K21
open PySem PySem.Spec PyProof.Rows L2 BF PySem.SeqAt
seal L2.PE L2.PA L2.PS L2.PSs L2.PT L2.PW L2.PG L2.PGs L2.PI BF.PTs L2.PPs L2.PO
theorem op_eqN {X:Cx} {k:Nat} (hr:Room k X.A):OpR X (compareOp .Eq) (fun x y H Q=>∃ (a b:Addr) (xs:List V),x=.ref a∧y=.ref b∧SqL X.K H a xs∧SqL X.K H b []∧Q (.bl xs.isEmpty) H):=by
 intro pins s σ H x y v u Q I rx ry h
 obtain ⟨a,b,xs,rfl,rfl,hx,hy,q⟩:=h
 have hu:=hr.units
 cases rx
 cases ry
 obtain ⟨its,rv,p,_⟩:=I.list hx
 obtain ⟨its',rv',p',_⟩:=I.list hy
 have n1:its.length=xs.length:=rv.length.symm
 have n2:its'.length=0:=rv'.length.symm
 have fin:∀ c,c=xs.isEmpty→RcAt X.A s (.ref a) (.ref b) c→wpAny (model X.prog X.w) X.A (richCompare .Eq (.ref a) (.ref b)) (EP X pins σ Q) X.xe s:=fun c hc R=>by
  subst hc
  exact R X.prog X.w X.xe _ ⟨.bl _,H,I,rfl,q⟩
 cases xs with
 | nil =>
  have R:=RcAt.lists (A:=X.A) (s:=s) (e:=fun _=>true) p.isList p'.isList (by rw [List.size_toArray,List.size_toArray,n1,n2]; rfl) (by omega) (fun j j1 j2=>by
   have:j < its.length:=by simpa using j1
   rw [n1] at this
   exact absurd this (Nat.not_lt_zero _))
  exact fin _ (by simp) R
 | cons v0 xs0 =>
  exact fin false rfl (RcAt.lists_lengths p.isList p'.isList (by rw [List.size_toArray,List.size_toArray,n1,n2]; simp) (by omega))
def pushD:List (Hd×List Sk)→Sk→List (Hd×List Sk)
 | [],_=>[]
 | (h,l) :: r,st=>(h,l ++ [st]) :: r
def closeD:List (Hd×List Sk)→List (Hd×List Sk)
 | (h,l) :: (h',l') :: r=>(h',l' ++ [mk h l]) :: r
 | x=>x
def topE:List (Hd×List Sk)→Bool
 | (_,l) :: _=>l.isEmpty
 | []=>false
def Pc (sd:List (Hd×List Sk)) (n:Int):Prop:=n % 8 < 5∨(n % 8=5∧sd.length=9)∨(5 < n % 8∧topE sd=true)
instance (sd:List (Hd×List Sk)) (n:Int):Decidable (Pc sd n):=by unfold Pc; exact inferInstance
def stepD (sd:List (Hd×List Sk)) (n:Int):List (Hd×List Sk):=if Pc sd n then pushD sd (plF (n / 8)) else if n % 8=5 then (hdF (n / 8),[]) :: sd else if 1 < sd.length then closeD sd else sd
def runD (ns:List Int) (i:Nat):List (Hd×List Sk):=(List.range i).foldl (fun sd k=>stepD sd (numF (ns.getD k 0) k)) [(.no,[])]
theorem runD_succ (ns:List Int) (i:Nat):runD ns (i + 1)=stepD (runD ns i) (numF (ns.getD i 0) i):=by
 unfold runD
 rw [List.range_succ,List.foldl_append]
 rfl
def fill (l:List Sk):List Sk:=if l.isEmpty=true then l ++ [.line false 0 1] else l
def finG:List Sk→Hd→List (Hd×List Sk)→List Sk
 | l,_,[]=>l
 | l,h,(h',l') :: r=>finG (l' ++ [mk h (fill l)]) h' r
def finD:List (Hd×List Sk)→List Sk
 | []=>[]
 | (h,l) :: r=>finG l h r
def treeF (ns:List Int):List Sk:=finD (runD ns ns.length)
def hOk:Hd→Prop
 | .no=>False
 | .back=>True
 | .times m=>1≤m∧m≤60
 | .turn k=>k < 8
def okD:List (Hd×List Sk)→Prop
 | []=>True
 | (h,l) :: r=>vds l (8 - r.length)∧r.length≤8∧((r≠[]→hOk h)∧(r=[]→h=.no))∧okD r
theorem vds_of:∀ {ss:List Sk} {d:Nat},(∀ s∈ss,s.vd d)→vds ss d
 | [],_,_=>by simp only [vds]
 | s :: r,d,h=>by
  simp only [vds]
  exact ⟨h s List.mem_cons_self,vds_of fun x hx=>h x (List.mem_cons_of_mem _ hx)⟩
theorem vds_snoc {l:List Sk} {s:Sk} {d:Nat} (h:vds l d) (g:s.vd d):vds (l ++ [s]) d:=vds_of fun x hx=>by
 rcases List.mem_append.mp hx with hx | hx
 ·exact vds_at h x hx
 ·rw [List.mem_singleton.mp hx]; exact g
theorem okD_push {sd:List (Hd×List Sk)} {st:Sk} (h:okD sd) (g:∀ d,st.vd d):okD (pushD sd st):=by
 cases sd with
 | nil=>exact h
 | cons a r =>
  obtain ⟨h1,h2,h3,h4⟩:=h
  exact ⟨vds_snoc h1 (g _),h2,h3,h4⟩
theorem mk_vd {h:Hd} {l:List Sk} {d:Nat} (a:hOk h) (b:vds l d) (n:l≠[]):(mk h l).vd (d + 1):=by
 cases h with
 | no=>exact a.elim
 | back=>simp only [mk,Sk.vd]; exact ⟨n,d,rfl,b⟩
 | times m=>simp only [mk,Sk.vd]; exact ⟨a.1,a.2,n,d,rfl,b⟩
 | turn k=>simp only [mk,Sk.vd]; exact ⟨a,n,d,rfl,b⟩
theorem okD_close {h h':Hd} {l l' l2:List Sk} {r:List (Hd×List Sk)} (o:okD ((h,l) :: (h',l') :: r)) (hl:vds l2 (8 - (r.length + 1))) (n:l2≠[]):okD ((h',l' ++ [mk h l2]) :: r):=by
 obtain ⟨h1,h2,h3,h4,h5,h6,h7⟩:=o
 rw [List.length_cons] at h1 h2
 refine ⟨vds_snoc h4 ?_,h5,h6,h7⟩
 have:=mk_vd (h3.1 (by simp)) hl n
 rw [show 8 - (r.length + 1) + 1=8 - r.length by omega] at this
 exact this
theorem hd_ok (n:Int):hOk (hdF n):=by
 unfold hdF
 split
 ·exact True.intro
 ·split
  ·show 1≤manyF n∧manyF n≤60
   unfold manyF
   split <;> omega
  ·show (n / 3 % 8).toNat < 8
   omega
theorem okD_open {sd:List (Hd×List Sk)} {n:Int} (h:okD sd) (l:sd.length≤8) (ne:sd≠[]):okD ((hdF n,[]) :: sd):=⟨by simp only [vds],l,⟨fun _=>hd_ok n,fun z=>absurd z ne⟩,h⟩
def hdP:Hd→List Str
 | .no=>[]
 | h=>hdW h ++ [("(":Str)]
theorem hdP_of {h:Hd} (n:h≠.no):hdP h=hdW h ++ [("(":Str)]:=by
 cases h with
 | no=>exact absurd rfl n
 | back=>rfl
 | times m=>rfl
 | turn k=>rfl
def wsD:List (Hd×List Sk)→List Str
 | []=>[]
 | (h,l) :: r=>wsD r ++ hdP h ++ wds l
theorem wds_one (s:Sk):wds [s]=s.wd:=by simp only [wds,List.append_nil]
theorem wsD_push (h:Hd) (l:List Sk) (r:List (Hd×List Sk)) (st:Sk):wsD ((h,l ++ [st]) :: r)=wsD ((h,l) :: r) ++ st.wd:=by
 simp only [wsD,wds_app,wds_one,List.append_assoc]
theorem wsD_open {h:Hd} (n:h≠.no) (r:List (Hd×List Sk)):wsD ((h,[]) :: r)=wsD r ++ hdW h ++ [("(":Str)]:=by
 simp only [wsD,wds,List.append_nil,hdP_of n,List.append_assoc]
theorem mk_wd {h:Hd} (n:h≠.no) (l:List Sk):(mk h l).wd=hdP h ++ wds l ++ [(")":Str)]:=by
 rw [hdP_of n]
 cases h with
 | no=>exact absurd rfl n
 | back=>simp [mk,Sk.wd,hdW]
 | times m=>simp [mk,Sk.wd,hdW]
 | turn k=>simp [mk,Sk.wd,hdW]
theorem wsD_close {h:Hd} (n:h≠.no) (h':Hd) (l l':List Sk) (r:List (Hd×List Sk)):wsD ((h',l' ++ [mk h l]) :: r)=wsD ((h,l) :: (h',l') :: r) ++ [(")":Str)]:=by
 rw [wsD_push,mk_wd n]
 simp only [wsD,List.append_assoc]
theorem pl_len (n:Int):(plF n).wd.length≤3:=by
 unfold plF
 split
 ·simp only [Sk.wd,lnW]
  rw [lineW_some (way_wd _ (word_in _))]
  show 1≤3
  decide
 ·split
  ·simp only [Sk.wd,lnW]
   rw [lineW_none (way_far (n / 16))]
   exact Nat.le_refl _
  ·split
   ·simp only [Sk.wd,lnW]
    exact Nat.le_refl _
   ·simp only [Sk.wd,lnW]
    show 2≤3
    decide
theorem hd_len (h:Hd):(hdW h).length≤2:=by cases h <;> first | exact Nat.zero_le _ | exact Nat.le_refl _
theorem hd_wsz {h:Hd} (o:hOk h):wsz (hdW h ++ [("(":Str)])≤29:=by
 have l1:("(":Str).length=1:=by decide +kernel
 have l2:("times":Str).length=5:=by decide +kernel
 have l3:("turn":Str).length=4:=by decide +kernel
 rw [wsz_app,wsz_cons,wsz_nil,l1]
 cases h with
 | no=>exact o.elim
 | back=>show 0 + _≤_; omega
 | times m =>
  have o2:m≤60:=o.2
  have:(nT (m:Int)).length≤3:=nT_len2 (by omega)
  show wsz [nT (m:Int),"times"] + _≤_
  rw [wsz_cons,wsz_cons,wsz_nil,l2]
  omega
 | turn k =>
  have o2:k < 8:=o
  have:(nT (k:Int)).length≤3:=nT_len2 (by omega)
  show wsz ["turn",nT (k:Int)] + _≤_
  rw [wsz_cons,wsz_cons,wsz_nil,l3]
  omega
theorem StkI.words {H0 H:Hp} {s W:Addr} {fs:List Fr} {n:Nat} {ww vv:List V} (I:StkI H0 H s W fs n ww) (e:vv=ww):StkI H0 H s W fs n vv:=e ▸ I
theorem n_wd:(Sk.line false 0 1).wd=[("n":Str)]:=by
 simp only [Sk.wd,lnW]
 exact lineW_some (by decide +kernel)
theorem wsz_br:wsz [(")":Str)]=2:=by decide +kernel
theorem wsz_n:wsz [("n":Str)]=2:=by decide +kernel
theorem sk_wo {H:Hp} {M:List Addr} {t:Addr} {n:Int} (h:SkIs H (.ref t) (plF n)) (nt:∀ xs,H t=some (.tup xs)→¬ t∈M):SkIs (wo H M) (.ref t) (plF n):=by
 revert h
 unfold plF
 split
 ·intro h; cases h with | line e=>exact .line (wo_at e (nt _ e))
 ·split
  ·intro h; cases h with | line e=>exact .line (wo_at e (nt _ e))
  ·split
   ·intro h; cases h with | by_ e=>exact .by_ (wo_at e (nt _ e))
   ·intro h; cases h with | ink e=>exact .ink (wo_at e (nt _ e))
theorem laterH {G:Prop} {A:Hp→Prop} (C:Hp→Prop) (main:(∀ H',C H'→A H')→G) (last:∀ H',C H'→A H'):G:=main last
section
variable {P:Program} {w:World} {K:PySem.W.Frag} {mg:Str→Option Value} {base:Heap}
def spTree (K:PySem.W.Frag):Sp:=fun vs H Q _=>∃ (a:Addr) (ns:List Int),vs=[.ref a]∧SqL K H a (ns.map V.int)∧ns.length≤60∧∀ (r l W:Addr) (xs:List V) H',Same H H'→H' r=some (.tup [.ref l,.ref W])→H' l=some (.lst xs)→H' W=some (.lst ((wds (treeF ns)).map V.str))→SksIs H' xs (treeF ns)→vds (treeF ns) 8→wsz (wds (treeF ns))≤1800→Q (.ref r) H'
theorem scTree:FnScope ["_law_cells","_law_stack","_law_words","_law_k","_law_number_here","_law_stroke","_law_some","_law_head_here"] ["_law_cells"] (defScope sTree):=⟨rfl,rfl,rfl,by decide +kernel,rfl,by decide +kernel,by decide +kernel⟩
theorem ok_tree {f fN fP fH fC:Addr} {fd fdN fdP fdH fdC:FuncData} (D:Df K mg "_law_tree" sTree f fd) (B:Blt mg)
  (DN:Df K mg "_law_number" sNum fN fdN) (bN:Binds K fdN ["_law_cell","_law_k"] []) (GN:FnOk P w K mg base CX0 1 fN fdN ["_law_cell","_law_k"] spNum)
  (DP:Df K mg "_law_plain" sPlain fP fdP) (bP:Binds K fdP ["_law_number_here"] []) (GP:FnOk P w K mg base CX0 3 fP fdP ["_law_number_here"] spPlain)
  (DH:Df K mg "_law_head" sHead fH fdH) (bH:Binds K fdH ["_law_number_here"] []) (GH:FnOk P w K mg base CX0 1 fH fdH ["_law_number_here"] spHead)
  (DC:Df K mg "_law_closed" sClosed fC fdC) (bC:Binds K fdC ["_law_stack","_law_words"] []) (GC:FnOk P w K mg base CX0 1 fC fdC ["_law_stack","_law_words"] spClosed):FnOk P w K mg base CX0 4 f fd ["_law_cells"] (spTree K):=by
 refine D.F.ok scTree (fun vs H Q E h=>?_) (fun cdv A outer s H vs Q E hr h=>?_)
 ·obtain ⟨a,ns,rfl,_⟩:=h
  rfl
 ·obtain ⟨a,ns,rfl,hS,hlen,z⟩:=h
  have hr1:Room 1 _:=hr.mono (by decide)
  have xl:(ns.map V.int).length=ns.length:=List.length_map ..
  refine ⟨_,(pss_cons (ps_set (i:=1) scTree.nd rfl (Or.inl rfl) (pe_lst (pac (pe_lst (pac (pe_tup pa_nil) (pac (pe_lst pa_nil) pa_nil))) pa_nil)))
   (pss_cons (ps_set (i:=2) scTree.nd rfl (Or.inl rfl) (pe_lst pa_nil))
   (pss_cons (ps_for PassesOwn.never rfl (pi_range1 rfl B.range (pac (pe_callB call_len_seq (by rfl) B.len PySem.boot_len (pac (pv 0) pa_nil)) pa_nil)) (pg_name (i:=3) scTree.nd rfl (Or.inl rfl)) (pss_cons (ps_set (i:=4) scTree.nd rfl (Or.inl rfl) (pec GN hr1 rfl DN.m DN.F.kp bN .nil pass0 (pac (pe_ix ix_list (pv 0) (pv 3) (fun _ _=>rfl)) (pac (pv 3) pa_nil))))
   (pss_one (ps_if (PW.pt (pw_or (pt_cmpR op_lt (pe_op op_mod (pv 4) pe_int) pe_int (nomark _))
       (pw_or (PW.pt (pw_and (pt_cmpR op_eq (pe_op op_mod (pv 4) pe_int) pe_int (nomark _)) (pw_and1 (pt_cmpR op_eq (pe_callB call_len_seq (by rfl) B.len PySem.boot_len (pac (pv 1) pa_nil)) pe_int (nomark _)))))
       (pw_or1 (PW.pt (pw_and (pt_cmpR op_gt (pe_op op_mod (pv 4) pe_int) pe_int (nomark _)) (pw_and1 (pt_cmpR (op_eqN hr1) (pe_ix ix_list (pe_ix ix_list (pv 1) (pe_un un_neg pe_int) (fun _ _=>rfl)) pe_int (fun _ _=>rfl)) (pe_lst pa_nil) (nomark _)))))))))
      (pss_cons (ps_asg (pec GP hr rfl DP.m DP.F.kp bP .nil pass0 (pac (pe_op op_fdiv (pv 4) pe_int) pa_nil)) (pg_tup (n:=2) rfl (pgs_cons (pg_name (i:=5) scTree.nd rfl (Or.inl rfl)) (pgs_cons (pg_name (i:=6) scTree.nd rfl (Or.inl rfl)) pgs_nil))))
   (pss_cons (ps_expr (pe_bm PySem.F.plainAttrs_list PySem.F.slot_list_append PySem.F.type_list_append mt_append (pe_ix ix_list (pe_ix ix_list (pv 1) (pe_un un_neg pe_int) (fun _ _=>rfl)) pe_int (fun _ _=>rfl)) (pac (pv 5) pa_nil)))
   (pss_one (ps_set (i:=2) scTree.nd rfl (Or.inl rfl) (pe_op op_cat (pv 2) (pv 6))))))
      (pss_one (ps_if (pt_cmpR op_eq (pe_op op_mod (pv 4) pe_int) pe_int (nomark _))
       (pss_cons (ps_asg (pec GH hr1 rfl DH.m DH.F.kp bH .nil pass0 (pac (pe_op op_fdiv (pv 4) pe_int) pa_nil)) (pg_tup (n:=2) rfl (pgs_cons (pg_name (i:=7) scTree.nd rfl (Or.inl rfl)) (pgs_cons (pg_name (i:=6) scTree.nd rfl (Or.inl rfl)) pgs_nil))))
   (pss_cons (ps_expr (pe_bm PySem.F.plainAttrs_list PySem.F.slot_list_append PySem.F.type_list_append mt_append (pv 1) (pac (pe_lst (pac (pv 7) (pac (pe_lst pa_nil) pa_nil))) pa_nil)))
   (pss_one (ps_set (i:=2) scTree.nd rfl (Or.inl rfl) (pe_op op_cat (pe_op op_cat (pv 2) (pv 6)) (pe_lst (pac (pe_str) pa_nil)))))))
       (pss_one (ps_if (pt_cmpR op_gt (pe_callB call_len_seq (by rfl) B.len PySem.boot_len (pac (pv 1) pa_nil)) pe_int (nomark _)) (pss_one (ps_expr (pec GC hr1 rfl DC.m DC.F.kp bC .nil pass0 (pac (pv 1) (pac (pv 2) pa_nil))))) pss_nil))))))))
   (pss_cons (ps_while PassesOwn.never (pt_cmpR op_gt (pe_callB call_len_seq (by rfl) B.len PySem.boot_len (pac (pv 1) pa_nil)) pe_int (nomark _)) (pss_cons (ps_if (pt_cmpR (op_eqN hr1) (pe_ix ix_list (pe_ix ix_list (pv 1) (pe_un un_neg pe_int) (fun _ _=>rfl)) pe_int (fun _ _=>rfl)) (pe_lst pa_nil) (nomark _))
      (pss_cons (ps_expr (pe_bm PySem.F.plainAttrs_list PySem.F.slot_list_append PySem.F.type_list_append mt_append (pe_ix ix_list (pe_ix ix_list (pv 1) (pe_un un_neg pe_int) (fun _ _=>rfl)) pe_int (fun _ _=>rfl)) (pac (pe_tup (pac (pe_str) (pac (pe_int) (pac (pe_int) pa_nil)))) pa_nil)))
   (pss_one (ps_expr (pe_bm PySem.F.plainAttrs_list PySem.F.slot_list_append PySem.F.type_list_append mt_append (pv 2) (pac (pe_str) pa_nil))))) pss_nil)
   (pss_one (ps_expr (pec GC hr1 rfl DC.m DC.F.kp bC .nil pass0 (pac (pv 1) (pac (pv 2) pa_nil)))))))
   (pss_one (ps_ret (pe_tup (pac (pe_ix ix_list (pe_ix ix_list (pv 1) pe_int (fun _ _=>rfl)) pe_int (fun _ _=>rfl)) (pac (pv 2) pa_nil))))))))),?_⟩
  refine ⟨szr rfl,fun t0 m0=>⟨szr rfl,fun l0 m1=>⟨szr rfl,fun e0 m2=>⟨szr rfl,fun st m3=>?_⟩⟩⟩⟩
  refine ⟨szr rfl,fun W0 m4=>?_⟩
  have T0:=same_upd (o:=HO.tup []) m0
  have T1:=same_upd (o:=HO.lst []) m1
  have T2:=same_upd (o:=HO.lst [V.ref t0,.ref l0]) m2
  have T3:=same_upd (o:=HO.lst [V.ref e0]) m3
  have T4:=same_upd (o:=HO.lst []) m4
  have I0:StkI H (upd (upd (upd (upd (upd H t0 (.tup [])) l0 (.lst [])) e0 (.lst [V.ref t0,.ref l0])) st (.lst [V.ref e0])) W0 (.lst [])) st W0 [⟨e0,t0,l0,.no,[],[]⟩] 0 []:=by
   have nel:e0≠l0:=fun z=>by rw [z,upd_same] at m2; cases m2
   have nse:st≠e0:=fun z=>by rw [z,upd_same] at m3; cases m3
   have nsl:st≠l0:=fun z=>by rw [z,T2 _ _ upd_same] at m3; cases m3
   have nws:W0≠st:=fun z=>by rw [z,upd_same] at m4; cases m4
   have nwe:W0≠e0:=fun z=>by rw [z,T3 _ _ upd_same] at m4; cases m4
   have nwl:W0≠l0:=fun z=>by rw [z,T3 _ _ (T2 _ _ upd_same)] at m4; cases m4
   refine ⟨T0.trans (T1.trans (T2.trans (T3.trans T4))),fun b hb=>?_,T4 _ _ upd_same,⟨upd_same,Nat.le_refl _⟩,fun g hg=>?_,?_⟩
   ·simp only [frM,List.flatMap_cons,List.flatMap_nil,List.append_nil,List.mem_cons,List.not_mem_nil,or_false] at hb
    rcases hb with rfl | rfl | rfl | rfl
    ·exact none_same (T0.trans (T1.trans T2)) m3
    ·exact none_same (T0.trans (T1.trans (T2.trans T3))) m4
    ·exact none_same (T0.trans T1) m2
    ·exact none_same T0 m1
   ·rw [List.mem_singleton.mp hg]
    exact ⟨(T3.trans T4) _ _ upd_same,(T1.trans (T2.trans (T3.trans T4))) _ _ upd_same,(T2.trans (T3.trans T4)) _ _ upd_same,.nil,Nat.le_refl _⟩
   ·simp only [frM,List.flatMap_cons,List.flatMap_nil,List.append_nil,List.nodup_cons,List.mem_cons,List.not_mem_nil,or_false,not_or,not_false_eq_true,List.nodup_nil,and_true]
    exact ⟨⟨Ne.symm nws,nse,nsl⟩,⟨nwe,nwl⟩,nel⟩
  revert I0
  generalize (upd (upd (upd (upd (upd H t0 (.tup [])) l0 (.lst [])) e0 (.lst [V.ref t0,.ref l0])) st (.lst [V.ref e0])) W0 (.lst []))=H5
  intro I0
  refine ⟨_,rfl,a,_,rfl,.inl (I0.sub.seq hS),_,rfl,by omega,by omega,?_⟩
  rw [xl,show ((ns.length:Int)).toNat=ns.length from Int.toNat_natCast _]
  refine for_range (fun i σ H1=>∃ (W:Addr) (fs:List Fr),(∃ v3 v4 v5 v6 v7,σ=[some (.ref a),some (.ref st),some (.ref W),v3,v4,v5,v6,v7])∧StkI H H1 st W fs (4 * i) ((wsD (datS fs)).map V.str)∧datS fs=runD ns i∧okD (datS fs)∧fs≠[]∧wsz (wsD (datS fs))≤29 * i) ⟨W0,_,⟨_,_,_,_,_,rfl⟩,I0.words (by simp [datS,wsD,wds,hdP]),rfl,⟨by simp only [vds],by decide,⟨fun h=>absurd rfl h,fun _=>rfl⟩,True.intro⟩,by simp,by simp [datS,wsD,wds,hdP,wsz]⟩ ?_ ?_
  ·rintro i σ H1 hi ⟨W,fs,⟨v3,v4,v5,v6,v7,rfl⟩,I,ed,ok,ne,wz⟩
   have ez:(0:Int) + (i:Int)=(i:Int):=Int.zero_add _
   rw [ez]
   have en:ns.getD i 0=ns[i]:=by rw [List.getD_eq_getElem?_getD,List.getElem?_eq_getElem hi]; rfl
   have es:=runD_succ ns i
   rw [en,← ed] at es
   refine ⟨_,rfl,_,rfl,a,_,_,.int ns[i],rfl,rfl,I.sub.seq hS,atI_nat (by rw [List.getElem?_map,List.getElem?_eq_getElem hi]; rfl),_,rfl,ns[i],i,rfl,by omega,?_⟩
   revert es
   generalize numF ns[i] i=n
   intro es
   have m8:(0:Int) < 8:=by decide
   cases fs with
   | nil=>exact absurd rfl ne
   | cons f r =>
    have e1:=I.es
    have ei:=e1
    rw [List.reverse_cons,List.map_append] at ei
    have q:=I.fr f List.mem_cons_self
    have fl:((f :: r).reverse.map fun f=>V.ref f.e).length=(datS (f :: r)).length:=by simp [datS]
    have xe:f.xs.isEmpty=topE (datS (f :: r)):=by
     show f.xs.isEmpty=f.sk.isEmpty
     have:=q.sk.length
     cases hx:f.xs <;> cases hk:f.sk <;> simp_all
    have xln:f.xs.length≤4 * i:=by rw [q.sk.length]; exact q.ln
    refine ⟨_,rfl,_,_,rfl,rfl,m8,_,_,rfl,rfl,_,rfl,?_⟩
    by_cases hp:Pc (datS (f :: r)) n
    ·refine' laterH (fun H2=>StkI H H2 st W (f :: r) (4 * i) ((wsD (datS (f :: r))).map V.str)) (fun fin=>_) _
     rotate_left
     ·refine ifC (fun _=>iteT (fin H1 I)) (fun hc=>?_)
      have h5:¬ n % 8 < 5:=of_decide_eq_false hc
      refine ⟨_,rfl,_,_,rfl,rfl,m8,rfl,_,rfl,?_⟩
      by_cases e5:n % 8=5
      ·have hl:(datS (f :: r)).length=9:=by
        rcases hp with h | ⟨_,h⟩ | ⟨h,_⟩
        ·exact absurd h h5
        ·exact h
        ·omega
       refine ifB_pos (decide_eq_true (by show V.int (n % 8)=V.int 5; rw [e5])) ?_
       exact ⟨_,rfl,st,_,rfl,.inl (SqL.of e1),rfl,_,rfl,ifB_pos (decide_eq_true (by rw [fl,hl]; rfl)) (iteT (fin H1 I))⟩
      ·have ht:topE (datS (f :: r))=true:=by
        rcases hp with h | ⟨h,_⟩ | ⟨_,h⟩
        ·exact absurd h h5
        ·exact absurd h e5
        ·exact h
       refine ifB_neg (decide_eq_false (fun e=>e5 (by injection e))) (iteF ?_)
       refine ⟨_,rfl,_,_,rfl,rfl,m8,_,_,rfl,rfl,_,rfl,ifB_pos (decide_eq_true (by show n % 8 > 5; omega)) ?_⟩
       refine ⟨_,rfl,_,rfl,st,_,_,_,rfl,rfl,SqL.of ei,atI_last _ _,f.e,_,_,_,rfl,rfl,SqL.of q.he,rfl,szr rfl,fun b nb=>?_⟩
       have Tb:=same_upd (o:=HO.lst []) nb
       exact ⟨f.l,b,f.xs,rfl,rfl,SqL.of (Tb _ _ q.hl),SqL.of upd_same,_,rfl,ifB_pos (xe.trans ht) (fin _ (I.same Tb))⟩
     intro H2 I2
     have q2:=I2.fr f List.mem_cons_self
     have ei2:=I2.es
     rw [List.reverse_cons,List.map_append] at ei2
     refine ⟨_,rfl,_,_,rfl,rfl,⟨by decide,by decide⟩,n / 8,rfl,fun r1 t l H3 S3 er sk el nl=>?_⟩
     refine ⟨r1,_,rfl,SqT.of er,rfl,_,_,rfl,_,_,rfl,rfl,?_⟩
     have I3:=I2.same S3
     have q3:=I3.fr f List.mem_cons_self
     have ei3:=I3.es
     rw [List.reverse_cons,List.map_append] at ei3
     refine ⟨_,rfl,_,rfl,st,_,_,_,rfl,rfl,SqL.of ei3,atI_last _ _,f.e,_,_,_,rfl,rfl,SqL.of q3.he,rfl,.inl ⟨rfl,_,SqL.of q3.hl⟩,_,rfl,f.l,f.xs,_,rfl,rfl,q3.hl,small1000 (by omega),?_⟩
     have I4:=I3.push (sk_wo sk fun xs e=>I3.tup e)
     have nlm:l≠f.l:=fun z=>I2.fresh nl (by rw [z,frM_cons]; simp)
     have el4:(upd H3 f.l (.lst (f.xs ++ [V.ref t]))) l=some (.lst ((plF (n / 8)).wd.map V.str)):=by rw [upd_ne nlm]; exact el
     revert I4 el4
     generalize (upd H3 f.l (.lst (f.xs ++ [V.ref t])))=H4
     intro I4 el4
     obtain ⟨ew4,wl4⟩:=I4.ew
     have wl:((plF (n / 8)).wd.map V.str).length≤3:=by rw [List.length_map]; exact pl_len _
     refine ⟨_,rfl,_,rfl,W,l,_,_,rfl,rfl,ew4,el4,by rw [sizeLine_eq]; omega,fun W' nW=>?_⟩
     refine ⟨W',_,⟨_,_,_,_,_,rfl⟩,((I4.mono (m:=4 * (i + 1)) (by omega)).wset nW (by rw [List.length_append]; omega)).words ?_,?_,?_,by simp,?_⟩
     ·show (wsD ((f.hd,f.sk ++ [plF (n / 8)]) :: datS r)).map V.str=_
      rw [wsD_push,List.map_append]
      rfl
     ·rw [es,stepD,if_pos hp]
      rfl
     ·have:=okD_push ok (pl_vd (n / 8))
      exact this
     ·show wsz (wsD ((f.hd,f.sk ++ [plF (n / 8)]) :: datS r))≤_
      rw [wsD_push,wsz_app]
      have w1:=pl_wsz (n / 8)
      have w2:wsz (wsD ((f.hd,f.sk) :: datS r))≤29 * i:=wz
      omega
    ·have hp':¬ n % 8 < 5∧¬ (n % 8=5∧(datS (f :: r)).length=9)∧¬ (5 < n % 8∧topE (datS (f :: r))=true):=⟨fun z=>hp (.inl z),fun z=>hp (.inr (.inl z)),fun z=>hp (.inr (.inr z))⟩
     obtain ⟨h5,h9,ht⟩:=hp'
     have n7:n % 8 < 8:=Int.emod_lt_of_pos n m8
     refine ifB_neg (decide_eq_false h5) ?_
     refine ⟨_,rfl,_,_,rfl,rfl,m8,rfl,_,rfl,?_⟩
     by_cases e5:n % 8=5
     ·have hl:¬ (datS (f :: r)).length=9:=fun z=>h9 ⟨e5,z⟩
      have hl8:(datS (f :: r)).length≤8:=by
       have:=ok.2.1
       have e:(datS (f :: r)).length=(datS r).length + 1:=by simp [datS]
       have e':(List.map (fun f:Fr=>(f.hd,f.sk)) r).length=(datS r).length:=rfl
       omega
      refine ifB_pos (decide_eq_true (by show V.int (n % 8)=V.int 5; rw [e5])) ?_
      refine ⟨_,rfl,st,_,rfl,.inl (SqL.of e1),rfl,_,rfl,ifB_neg (decide_eq_false (fun e=>hl (by rw [fl] at e; injection e with e; omega))) ?_⟩
      refine ⟨_,rfl,_,_,rfl,rfl,m8,_,_,rfl,rfl,_,rfl,ifB_neg (decide_eq_false (by show ¬ n % 8 > 5; omega)) (iteF ?_)⟩
      refine ⟨_,rfl,_,_,rfl,rfl,m8,rfl,_,rfl,ifB_pos (decide_eq_true (by show V.int (n % 8)=V.int 5; rw [e5])) ?_⟩
      refine ⟨_,rfl,_,_,rfl,rfl,⟨by decide,by decide⟩,n / 8,rfl,fun r1 t l H3 S3 er et el nl=>?_⟩
      refine ⟨r1,_,rfl,SqT.of er,rfl,_,_,rfl,_,_,rfl,rfl,?_⟩
      have I3:=I.same S3
      have hno8:hdF (n / 8)≠.no:=fun z=>by
       have:=hd_ok (n / 8)
       rw [z] at this
       exact this
      refine ⟨_,rfl,.inl ⟨rfl,_,SqL.of I3.es⟩,_,rfl,szr rfl,fun l' nl'=>⟨szr rfl,fun e' ne'=>?_⟩⟩
      have T1:=same_upd (o:=HO.lst []) nl'
      have T2:=same_upd (o:=HO.lst [V.ref t,.ref l']) ne'
      have I4:=I3.opn et nl' ne'
      have es4:=T2 _ _ (T1 _ _ I3.es)
      have ll:((f :: r).reverse.map fun f=>V.ref f.e).length≤8:=by rw [fl]; exact hl8
      refine ⟨st,_,_,rfl,rfl,es4,small1000 (by omega),?_⟩
      have nls:l≠st:=fun z=>I.fresh nl (by rw [z]; exact List.mem_cons_self)
      have el4:(upd (upd (upd H3 l' (.lst [])) e' (.lst [.ref t,.ref l'])) st (.lst (((f :: r).reverse.map fun f=>V.ref f.e) ++ [.ref e']))) l=some (.lst ((hdW (hdF (n / 8))).map V.str)):=by
       rw [upd_ne nls]
       exact T2 _ _ (T1 _ _ el)
      revert I4 el4
      generalize (upd (upd (upd H3 l' (.lst [])) e' (.lst [.ref t,.ref l'])) st (.lst (((f :: r).reverse.map fun f=>V.ref f.e) ++ [.ref e'])))=H4
      intro I4 el4
      obtain ⟨ew4,wl4⟩:=I4.ew
      have wl:((hdW (hdF (n / 8))).map V.str).length≤2:=by rw [List.length_map]; exact hd_len _
      refine ⟨_,rfl,_,rfl,W,l,_,_,rfl,rfl,ew4,el4,by rw [sizeLine_eq]; omega,fun p np=>?_⟩
      have Tp:=same_upd (o:=HO.lst ((wsD (datS (f :: r))).map V.str ++ (hdW (hdF (n / 8))).map V.str)) np
      refine ⟨szr rfl,fun p2 np2=>?_⟩
      have Tp2:=same_upd (o:=HO.lst [V.str "("]) np2
      have I5:=I4.same (Tp.trans Tp2)
      refine ⟨p,p2,_,_,rfl,rfl,Tp2 _ _ upd_same,upd_same,by rw [sizeLine_eq,List.length_append]; show _ + 1≤_; omega,fun W' nW=>?_⟩
      refine ⟨W',_,⟨_,_,_,_,_,rfl⟩,((I5.mono (m:=4 * (i + 1)) (by omega)).wset nW (by rw [List.length_append,List.length_append]; show _ + 1≤_; omega)).words ?_,?_,okD_open ok hl8 (by simp [datS]),by simp,?_⟩
      ·show (wsD ((hdF (n / 8),[]) :: datS (f :: r))).map V.str=_
       rw [wsD_open hno8,List.map_append,List.map_append]
       rfl
      ·rw [es,stepD,if_neg hp,if_pos e5]
       rfl
      ·show wsz (wsD ((hdF (n / 8),[]) :: datS (f :: r)))≤_
       rw [wsD_open hno8,List.append_assoc,wsz_app]
       have w1:=hd_wsz (hd_ok (n / 8))
       omega
     ·have ht':topE (datS (f :: r))=false:=by
       cases h:topE (datS (f :: r)) with
       | false=>rfl
       | true=>exact absurd ⟨by omega,h⟩ ht
      refine ifB_neg (decide_eq_false (fun e=>e5 (by injection e))) (iteF ?_)
      refine ⟨_,rfl,_,_,rfl,rfl,m8,_,_,rfl,rfl,_,rfl,ifB_pos (decide_eq_true (by show n % 8 > 5; omega)) ?_⟩
      refine ⟨_,rfl,_,rfl,st,_,_,_,rfl,rfl,SqL.of ei,atI_last _ _,f.e,_,_,_,rfl,rfl,SqL.of q.he,rfl,szr rfl,fun b nb=>?_⟩
      have Tb:=same_upd (o:=HO.lst []) nb
      refine ⟨f.l,b,f.xs,rfl,rfl,SqL.of (Tb _ _ q.hl),SqL.of upd_same,_,rfl,ifB_neg (xe.trans ht') ?_⟩
      have I2:=I.same Tb
      have e2:=Tb _ _ e1
      revert I2 e2
      generalize (upd H1 b (HO.lst []))=H2
      intro I2 e2
      refine ⟨_,rfl,_,_,rfl,rfl,m8,rfl,_,rfl,ifB_neg (decide_eq_false (fun e=>e5 (by injection e))) ?_⟩
      refine ⟨_,rfl,st,_,rfl,.inl (SqL.of e2),_,_,rfl,rfl,_,rfl,?_⟩
      cases r with
      | nil =>
       refine ifB_neg (decide_eq_false (by show ¬ (1:Int) > 1; decide)) ?_
       refine ⟨W,_,⟨_,_,_,_,_,rfl⟩,I2.mono (by omega),?_,ok,by simp,Nat.le_trans wz (by omega)⟩
       rw [es,stepD,if_neg hp,if_neg e5,if_neg (by show ¬ 1 < 1; decide)]
      | cons f' r =>
       refine ifB_pos (decide_eq_true (by rw [fl]; show ((datS r).length + 1 + 1:Nat) > (1:Int); omega)) ?_
       have hno:f.hd≠.no:=fun z=>by
        have h3:=ok.2.2.1.1 (by simp [datS])
        rw [z] at h3
        exact h3
       refine ⟨_,rfl,_,rfl,st,W,H,f,f',r,4 * i,_,rfl,I2,hno,by omega,fun xs' H' I'=>?_⟩
       have wc:wsD ((f'.hd,f'.sk ++ [mk f.hd f.sk]) :: datS r)=wsD (datS (f :: f' :: r)) ++ [(")":Str)]:=wsD_close hno _ _ _ _
       refine ⟨W,_,⟨_,_,_,_,_,rfl⟩,(I'.mono (by omega)).words ?_,?_,?_,by simp,?_⟩
       ·show (wsD ((f'.hd,f'.sk ++ [mk f.hd f.sk]) :: datS r)).map V.str=_
        rw [wc,List.map_append]
        rfl
       ·rw [es,stepD,if_neg hp,if_neg e5,if_pos (by show 1 < (datS r).length + 1 + 1; omega)]
        rfl
       ·have h1:=ok.1
        refine okD_close ok h1 (fun z=>?_)
        have h2:f.sk.isEmpty=false:=ht'
        rw [z] at h2
        cases h2
       ·show wsz (wsD ((f'.hd,f'.sk ++ [mk f.hd f.sk]) :: datS r))≤_
        rw [wc,wsz_app,wsz_br]
        omega
  ·rintro σ H1 ⟨W,fs,⟨v3,v4,v5,v6,v7,rfl⟩,I,ed,ok,ne,wz⟩
   refine ⟨fun m σ H2=>∃ (W:Addr) (fs:List Fr) (n:Nat),m=fs.length∧(∃ v3 v4 v5 v6 v7,σ=[some (.ref a),some (.ref st),some (.ref W),v3,v4,v5,v6,v7])∧StkI H H2 st W fs n ((wsD (datS fs)).map V.str)∧n + 4 * fs.length≤300∧finD (datS fs)=treeF ns∧okD (datS fs)∧fs≠[]∧wsz (wsD (datS fs)) + 4 * fs.length≤1800,⟨_,W,fs,_,rfl,⟨_,_,_,_,_,rfl⟩,I,?_,?_,ok,ne,?_⟩,?_⟩
   ·cases fs with
    | nil=>exact absurd rfl ne
    | cons f r =>
     have:=ok.2.1
     have e':(List.map (fun f:Fr=>(f.hd,f.sk)) r).length=r.length:=List.length_map ..
     rw [List.length_cons]
     omega
   ·rw [ed]
    rfl
   ·cases fs with
    | nil=>exact absurd rfl ne
    | cons f r =>
     have:=ok.2.1
     have e':(List.map (fun f:Fr=>(f.hd,f.sk)) r).length=r.length:=List.length_map ..
     rw [List.length_cons]
     omega
   ·rintro m σ H2 ⟨W,fs,n,rfl,⟨v3,v4,v5,v6,v7,rfl⟩,I,nb,ef,ok,ne,wz⟩
    cases fs with
    | nil=>exact absurd rfl ne
    | cons f r =>
     have q:=I.fr f List.mem_cons_self
     refine ⟨_,rfl,st,_,rfl,.inl (SqL.of I.es),_,_,rfl,rfl,_,rfl,?_⟩
     cases r with
     | nil =>
      refine ifB_neg (decide_eq_false (by show ¬ (1:Int) > 1; decide)) ?_
      have e0:H2 st=some (.lst [V.ref f.e]):=I.es
      refine ⟨_,rfl,st,_,_,_,rfl,rfl,SqL.of e0,rfl,f.e,_,_,_,rfl,rfl,SqL.of q.he,rfl,_,rfl,szr rfl,fun r1 nr=>?_⟩
      have T:=same_upd (o:=HO.tup [V.ref f.l,.ref W]) nr
      have ef':f.sk=treeF ns:=ef
      have eb:f.hd=.no:=ok.2.2.1.2 rfl
      have ews:wsD (datS [f])=wds f.sk:=by
       show wsD [] ++ hdP f.hd ++ wds f.sk=_
       rw [eb]
       rfl
      have wz':=wz
      have I':=I.ew.1
      rw [ews] at wz' I'
      refine z r1 f.l W f.xs _ (I.sub.trans T) upd_same (T _ _ q.hl) ?_ ?_ ?_ ?_
      ·rw [← ef']
       exact T _ _ I'
      ·rw [← ef']
       exact (q.sk.same wo_same).same T
      ·rw [← ef']
       exact ok.1
      ·rw [← ef']
       omega
     | cons f' r =>
      have fl:((f :: f' :: r).reverse.map fun f=>V.ref f.e).length=r.length + 1 + 1:=by simp
      refine ifB_pos (decide_eq_true (by rw [fl]; show ((r.length + 1 + 1:Nat):Int) > (1:Int); omega)) ?_
      refine ⟨_,fun _ _ h=>h,?_⟩
      have ei:=I.es
      rw [List.reverse_cons,List.map_append] at ei
      have xl':f.xs.length=f.sk.length:=q.sk.length
      have lk:=q.ln
      rw [List.length_cons,List.length_cons] at nb
      refine' laterS (fun σ H3=>(∃ v3 v4 v5 v6 v7,σ=[some (.ref a),some (.ref st),some (.ref W),v3,v4,v5,v6,v7])∧∃ f1:Fr,StkI H H3 st W (f1 :: f' :: r) (n + 2) ((wsD (datS (f1 :: f' :: r))).map V.str)∧f1.hd=f.hd∧f1.sk=fill f.sk∧wsz (wsD (datS (f1 :: f' :: r)))≤wsz (wsD (datS (f :: f' :: r))) + 2) (fun fin=>_) _
      rotate_left
      ·refine ⟨_,rfl,_,rfl,st,_,_,_,rfl,rfl,SqL.of ei,atI_last _ _,f.e,_,_,_,rfl,rfl,SqL.of q.he,rfl,szr rfl,fun b nb'=>?_⟩
       have Tb:=same_upd (o:=HO.lst []) nb'
       refine ⟨f.l,b,f.xs,rfl,rfl,SqL.of (Tb _ _ q.hl),SqL.of upd_same,_,rfl,?_⟩
       have I2:=I.same Tb
       revert I2
       generalize (upd H2 b (HO.lst []))=H3
       intro I2
       have q2:=I2.fr f List.mem_cons_self
       have ei2:=I2.es
       rw [List.reverse_cons,List.map_append] at ei2
       have xe:f.xs.isEmpty=f.sk.isEmpty:=by
        cases hx:f.xs <;> cases hk:f.sk <;> simp_all
       refine ifC (fun he=>?_) (fun he=>fin _ _ ⟨⟨_,_,_,_,_,rfl⟩,f,I2.mono (by omega),rfl,by rw [fill,if_neg (by rw [← xe,he]; decide)],by omega⟩)
       refine ⟨_,rfl,_,rfl,st,_,_,_,rfl,rfl,SqL.of ei2,atI_last _ _,f.e,_,_,_,rfl,rfl,SqL.of q2.he,rfl,.inl ⟨rfl,_,SqL.of q2.hl⟩,szr rfl,fun t nt=>?_⟩
       have Tt:=same_upd (o:=HO.tup [V.str "line",.int 0,.int 1]) nt
       have I3:=I2.same Tt
       have et:(upd H3 t (HO.tup [V.str "line",.int 0,.int 1])) t=some (HO.tup [V.str "line",.int 0,.int 1]):=upd_same
       have q3:=I3.fr f List.mem_cons_self
       refine ⟨f.l,f.xs,_,rfl,rfl,q3.hl,small1000 (by omega),?_⟩
       have I4:=I3.push (st:=.line false 0 1) (.line (wo_at et (I3.tup et)))
       revert I4
       generalize (upd (upd H3 t (HO.tup [V.str "line",.int 0,.int 1])) f.l (.lst (f.xs ++ [V.ref t])))=H4
       intro I4
       obtain ⟨ew4,wl4⟩:=I4.ew
       refine ⟨_,rfl,.inl ⟨rfl,_,SqL.of ew4⟩,W,_,_,rfl,rfl,ew4,small1000 (by omega),?_⟩
       have wp:wsD ((f.hd,f.sk ++ [Sk.line false 0 1]) :: datS (f' :: r))=wsD (datS (f :: f' :: r)) ++ [("n":Str)]:=by rw [wsD_push,n_wd]; rfl
       refine fin _ _ ⟨⟨_,_,_,_,_,rfl⟩,_,((I4.mono (Nat.le_succ _)).wapp (by rw [List.length_append]; show _ + 1≤_; omega)).words ?_,rfl,by rw [fill,if_pos (by rw [← xe,he])],?_⟩
       ·show (wsD ((f.hd,f.sk ++ [Sk.line false 0 1]) :: datS (f' :: r))).map V.str=_
        rw [wp,List.map_append]
        rfl
       ·show wsz (wsD ((f.hd,f.sk ++ [Sk.line false 0 1]) :: datS (f' :: r)))≤_
        rw [wp,wsz_app,wsz_n]
        exact Nat.le_refl _
      rintro σ H3 ⟨⟨v3,v4,v5,v6,v7,rfl⟩,f1,I3,e1,e2,wz3⟩
      have hno:f1.hd≠.no:=fun z=>by
       have h3:=ok.2.2.1.1 (by simp [datS])
       rw [← e1,z] at h3
       exact h3
      refine ⟨_,rfl,_,rfl,st,W,H,f1,f',r,n + 2,_,rfl,I3,hno,by omega,fun xs' H' I'=>?_⟩
      have wc:wsD ((f'.hd,f'.sk ++ [mk f1.hd f1.sk]) :: datS r)=wsD (datS (f1 :: f' :: r)) ++ [(")":Str)]:=wsD_close hno _ _ _ _
      refine ⟨r.length + 1,by rw [List.length_cons,List.length_cons]; omega,W,{ f' with xs:=xs',sk:=f'.sk ++ [mk f1.hd f1.sk] } :: r,n + 2 + 2,rfl,⟨_,_,_,_,_,rfl⟩,I'.words ?_,by rw [List.length_cons]; omega,?_,?_,by simp,?_⟩
      ·show (wsD ((f'.hd,f'.sk ++ [mk f1.hd f1.sk]) :: datS r)).map V.str=_
       rw [wc,List.map_append]
       rfl
      ·rw [← ef]
       show finG (f'.sk ++ [mk f1.hd f1.sk]) f'.hd (datS r)=finG (f'.sk ++ [mk f.hd (fill f.sk)]) f'.hd (datS r)
       rw [e1,e2]
      ·show okD ((f'.hd,f'.sk ++ [mk f1.hd f1.sk]) :: datS r)
       rw [e1,e2]
       refine okD_close (h:=f.hd) (l:=f.sk) ok ?_ ?_
       ·have h1:=ok.1
        have h1:vds f.sk (8 - ((datS r).length + 1)):=h1
        unfold fill
        split
        ·exact vds_snoc h1 (by simp only [Sk.vd]; decide)
        ·exact h1
       ·unfold fill
        split
        ·simp
        ·rename_i hz
         exact fun z=>hz (by rw [z]; rfl)
      ·show wsz (wsD ((f'.hd,f'.sk ++ [mk f1.hd f1.sk]) :: datS r)) + _≤_
       rw [wc,wsz_app,wsz_br]
       rw [List.length_cons,List.length_cons] at wz
       rw [List.length_cons]
       omega
end
def cnD (sd:List (Hd×List Sk)):Prop:=∀ x∈sd,cns x.2
theorem cns_snoc {l:List Sk} {s:Sk} (h:cns l) (g:s.cn):cns (l ++ [s]):=cns_of fun x hx=>by
 rcases List.mem_append.mp hx with hx | hx
 ·exact cns_at h x hx
 ·rw [List.mem_singleton.mp hx]; exact g
theorem pl_cn (n:Int):(plF n).cn:=by
 unfold plF
 split
 ·simp only [Sk.cn]
 ·split
  ·simp only [Sk.cn]
  ·split <;> simp only [Sk.cn]
theorem mk_cn {h:Hd} {l:List Sk} (c:cns l):(mk h l).cn:=by
 cases h <;> simp only [mk,Sk.cn] <;> exact c
theorem fill_cn {l:List Sk} (h:cns l):cns (fill l):=by
 unfold fill
 split
 ·exact cns_snoc h (by simp only [Sk.cn])
 ·exact h
theorem cnD_step {sd:List (Hd×List Sk)} {n:Int} (h:cnD sd):cnD (stepD sd n):=by
 unfold stepD
 split
 ·cases sd with
  | nil=>exact h
  | cons a r =>
   intro x hx
   rcases List.mem_cons.mp hx with rfl | hx
   ·exact cns_snoc (h a List.mem_cons_self) (pl_cn _)
   ·exact h x (List.mem_cons_of_mem _ hx)
 ·split
  ·intro x hx
   rcases List.mem_cons.mp hx with rfl | hx
   ·simp only [cns]
   ·exact h x hx
  ·split
   ·cases sd with
    | nil=>exact h
    | cons a r =>
     cases r with
     | nil=>exact h
     | cons b r =>
      intro x hx
      rcases List.mem_cons.mp hx with rfl | hx
      ·exact cns_snoc (h b (List.mem_cons_of_mem _ List.mem_cons_self)) (mk_cn (h a List.mem_cons_self))
      ·exact h x (List.mem_cons_of_mem _ (List.mem_cons_of_mem _ hx))
   ·exact h
theorem cnD_run (ns:List Int) (i:Nat):cnD (runD ns i):=by
 induction i with
 | zero =>
  intro x hx
  rw [List.mem_singleton.mp hx]
  simp only [cns]
 | succ i ih=>rw [runD_succ]; exact cnD_step ih
theorem fin_cn:∀ {r:List (Hd×List Sk)} {l:List Sk} {h:Hd},cns l→cnD r→cns (finG l h r)
 | [],l,h,c,_=>c
 | (h',l') :: r,l,h,c,o=>fin_cn (r:=r) (cns_snoc (o _ List.mem_cons_self) (mk_cn (fill_cn c))) fun x hx=>o x (List.mem_cons_of_mem _ hx)
theorem tree_cn (ns:List Int):cns (treeF ns):=by
 have h:=cnD_run ns ns.length
 unfold treeF
 revert h
 generalize runD ns ns.length=sd
 intro h
 cases sd with
 | nil=>simp only [finD,cns]
 | cons a r=>exact fin_cn (h a List.mem_cons_self) fun x hx=>h x (List.mem_cons_of_mem _ hx)
theorem cut_hiA {vs:List V} {n:Nat}:cutV vs none (some (n:Int))=vs.take n:=by
 unfold cutV HT.sIx
 have:¬ ((n:Int) < 0):=by omega
 simp [this]
theorem join_sz (ws:List Str):(ws.map (·.length)).sum + ws.length=wsz ws:=by
 induction ws with
 | nil=>rfl
 | cons x r ih=>rw [wsz_cons,List.map_cons,List.sum_cons,List.length_cons]; omega
theorem lng_sh {H:Hp} {xs:List V} {a b:Int} {l l':Bool} (h:SksIs H xs [.line l a b]):SksIs H xs [.line l' a b]:=by
 cases h with
 | cons h t =>
  cases h with
  | line e=>exact .cons (.line e) t
theorem long_txt (a b:Int):(("line ":Str) ++ nT a ++ (" ":Str) ++ nT b)=txt [.line true a b]:=by
 unfold txt
 simp only [wds,Sk.wd,lnW,List.append_nil]
 rw [jn_cons _ (by simp),jn_cons _ (by simp),jn_one,show ("line ":Str)=("line":Str) ++ blank by decide +kernel,show (" ":Str)=blank from rfl]
 simp only [app_as]
theorem short_txt {x:Str} (h:x∈eightW):txt [.line false (wayF x).1 (wayF x).2]=x:=by
 unfold txt
 simp only [wds,Sk.wd,lnW,List.append_nil]
 rw [lineW_some (way_wd x h),jn_one]
theorem way_abs:∀ x∈eightW,(wayF x).1.natAbs < 10 ^ 2∧(wayF x).2.natAbs < 10 ^ 2:=by
 intro x hx
 have:=way_vd x hx
 omega
section
variable {P:Program} {w:World} {K:PySem.W.Frag} {mg:Str→Option Value} {base:Heap}
def spLaw (K:PySem.W.Frag):Sp:=fun vs H Q _=>∃ (a:Addr) (ns:List Int),vs=[.ref a]∧SqL K H a (ns.map V.int)∧ns.length≤63∧∀ H',Q (.bl true) H'
theorem scLaw:FnScope ["_law_script","_law_due","_law_words","_law_text","_law_found","_law_word","_law_far_here","_law_told"] ["_law_script"] (defScope sLaw):=⟨rfl,rfl,rfl,by decide +kernel,rfl,by decide +kernel,by decide +kernel⟩
theorem ok_law {f fT fR fS fW:Addr} {fd fdT fdR fdS fdW:FuncData} {k:Nat} (D:Df K mg "law" sLaw f fd) (B:Blt mg)
  (DT:Df K mg "_law_tree" sTree fT fdT) (bT:Binds K fdT ["_law_cells"] []) (GT:FnOk P w K mg base CX0 4 fT fdT ["_law_cells"] (spTree K))
  (DR:Df K mg "read" sRead fR fdR) (bR:Binds K fdR ["text"] []) (GR:FnOk P w K mg base CX0 k fR fdR ["text"] spRead)
  (DS:Df K mg "shown" sShown fS fdS) (bS:Binds K fdS ["strokes"] []) (GS:FnOk P w K mg base CX0 k fS fdS ["strokes"] (spShown 9))
  (DW:Df K mg "_law_ways" sWays fW fdW) (bW:Binds K fdW [] []) (GW:FnOk P w K mg base CX0 2 fW fdW [] spWays) (h4:4≤k) :
  FnOk P w K mg base CX0 (k + 1) f fd ["_law_script"] (spLaw K):=by
 refine D.F.ok scLaw (fun vs H Q E h=>?_) (fun cdv Ar outer s H vs Q E hr h=>?_)
 ·obtain ⟨a,ns,rfl,_⟩:=h
  rfl
 ·obtain ⟨a,ns,rfl,hS,hlen,z⟩:=h
  have hr2:Room 2 _:=hr.mono (by omega)
  have hr4:Room 4 _:=hr.mono h4
  refine ⟨_,(pss_cons (ps_if (PW.pt (pw_or (pt_cmpR (op_neSk hr2) (pec GR hr rfl DR.m DR.F.kp bR .nil pass0 (pac (pe_str) pa_nil)) (pe_lst pa_nil) (nomark _)) (pw_or1 (pt_cmpR op_ne (pec GS hr rfl DS.m DS.F.kp bS .nil pass0 (pac (pe_lst pa_nil) pa_nil)) pe_str (nomark _))))) (pss_one (ps_never)) pss_nil)
   (pss_cons (ps_asg (pec GT hr4 rfl DT.m DT.F.kp bT .nil pass0 (pac (pe_slice sl_list (pv 0) po_none (po_some pe_int)) pa_nil)) (pg_tup (n:=2) rfl (pgs_cons (pg_name (i:=1) scLaw.nd rfl (Or.inl rfl)) (pgs_cons (pg_name (i:=2) scLaw.nd rfl (Or.inl rfl)) pgs_nil))))
   (pss_cons (ps_set (i:=3) scLaw.nd rfl (Or.inl rfl) (pe_bm PySem.F.plainAttrs_str PySem.F.slot_str_join PySem.F.type_str_join mt_join pe_str (pac (pv 2) pa_nil)))
   (pss_cons (ps_set (i:=4) scLaw.nd rfl (Or.inl rfl) (pec GR hr rfl DR.m DR.F.kp bR .nil pass0 (pac (pv 3) pa_nil)))
   (pss_cons (ps_if (PW.pt (pw_or (pt_not (pt_val (pe_callB call_isi (by rfl) B.isi boot_isinstance (pac (pv 4) (pac (pe_bltn (v:=.ty "list") (by rfl) B.list boot_list rfl) pa_nil))))) (pw_or (pt_cmpR (op_neSk hr2) (pv 4) (pv 1) (nomark _)) (pw_or1 (pt_cmpR op_ne (pec GS hr rfl DS.m DS.F.kp bS .nil pass0 (pac (pv 4) pa_nil)) (pv 3) (nomark _)))))) (pss_one (ps_never)) pss_nil)
   (pss_cons (ps_expr (pe_bm PySem.F.plainAttrs_list PySem.F.slot_list_append PySem.F.type_list_append mt_append (pv 4) (pac (pe_tup (pac (pe_str) (pac (pe_int) (pac (pe_int) pa_nil)))) pa_nil)))
   (pss_cons (ps_if (PW.pt (pw_and (pt_cmpR op_gt (pe_callB call_len_seq (by rfl) B.len PySem.boot_len (pac (pv 4) pa_nil)) pe_int (nomark _)) (pw_and1 (pt_val (pe_callB call_isi (by rfl) B.isi boot_isinstance (pac (pe_ix ix_tup (pe_ix ix_list (pv 4) pe_int (fun _ _=>rfl)) (pe_un un_neg pe_int) (fun _ _=>rfl)) (pac (pe_bltn (v:=.ty "list") (by rfl) B.list boot_list rfl) pa_nil))))))) (pss_one (ps_expr (pe_bm PySem.F.plainAttrs_list PySem.F.slot_list_append PySem.F.type_list_append mt_append (pe_ix ix_tup (pe_ix ix_list (pv 4) pe_int (fun _ _=>rfl)) (pe_un un_neg pe_int) (fun _ _=>rfl)) (pac (pe_tup (pac (pe_str) (pac (pe_int) (pac (pe_int) pa_nil)))) pa_nil)))) pss_nil)
   (pss_cons (ps_if (PW.pt (pw_or (pt_cmpR (op_neSk hr2) (pec GR hr rfl DR.m DR.F.kp bR .nil pass0 (pac (pv 3) pa_nil)) (pv 1) (nomark _)) (pw_or1 (pt_cmpR op_ne (pec GS hr rfl DS.m DS.F.kp bS .nil pass0 (pac (pv 1) pa_nil)) (pv 3) (nomark _))))) (pss_one (ps_never)) pss_nil)
   (pss_cons (ps_for PassesOwn.never rfl (pi_itemsK (pe_call0 GW hr2 rfl DW.m DW.F.kp bW .nil pass0)) (pg_tup (n:=2) rfl (pgs_cons (pg_name (i:=5) scLaw.nd rfl (Or.inl rfl)) (pgs_cons (pg_name (i:=6) scLaw.nd rfl (Or.inl rfl)) pgs_nil))) (pss_cons (ps_set (i:=7) scLaw.nd rfl (Or.inl rfl) (pe_op op_add_str (pe_op op_add_str (pe_op op_add_str pe_str (pe_callTy call_str_int (by rfl) B.str boot_str (pac (pe_ix ix_tup (pv 6) pe_int (fun _ _=>rfl)) pa_nil))) pe_str) (pe_callTy call_str_int (by rfl) B.str boot_str (pac (pe_ix ix_tup (pv 6) pe_int (fun _ _=>rfl)) pa_nil))))
   (pss_one (ps_if (PW.pt (pw_or (pt_cmpR (op_neSk hr2) (pec GR hr rfl DR.m DR.F.kp bR .nil pass0 (pac (pv 7) pa_nil)) (pe_lst (pac (pe_op op_catT (pe_tup (pac (pe_str) pa_nil)) (pv 6)) pa_nil)) (nomark _)) (pw_or1 (pt_cmpR op_ne (pec GS hr rfl DS.m DS.F.kp bS .nil pass0 (pac (pec GR hr rfl DR.m DR.F.kp bR .nil pass0 (pac (pv 7) pa_nil)) pa_nil)) (pv 5) (nomark _))))) (pss_one (ps_never)) pss_nil))))
   (pss_one (ps_ret pe_bl))))))))))),?_⟩
  have gz:gds ([]:List Sk) 8:=by simp only [gds]
  have vz:∀ n,vds ([]:List Sk) n:=fun n=>by simp only [vds]
  refine ⟨[],rfl,vz 8,(by show 0≤2000; omega),Nat.zero_le _,fun L0 xs0 H1 S1 n1 e1 k1=>?_⟩
  refine ⟨szr rfl,fun l0 m0=>?_⟩
  have T0:=same_upd (o:=HO.lst []) m0
  have k1:=(k1.same fr_same).same T0
  refine ⟨L0,l0,_,_,[],rfl,rfl,T0 _ _ e1,upd_same,k1,.nil,gz,_,rfl,ifB_neg rfl ?_⟩
  refine ⟨szr rfl,fun l1 m1=>?_⟩
  have T1:=same_upd (o:=HO.lst []) m1
  refine ⟨l1,[],[],rfl,upd_same,.nil,⟨8,rfl,vz 8⟩,(by simp only [cns]),Nat.zero_le _,fun H2 S2=>?_⟩
  refine ⟨rfl,_,rfl,ifB_neg (by decide +kernel) ?_⟩
  have cut:cutV (ns.map V.int) none (some 60)=(ns.take 60).map V.int:=by
   have:=cut_hiA (vs:=ns.map V.int) (n:=60)
   rw [← List.map_take] at this
   exact this
  have ml:(ns.take 60).length≤60:=by rw [List.length_take]; omega
  revert ml
  generalize hms:ns.take 60=ms at cut
  intro ml
  refine ⟨_,rfl,_,rfl,a,_,rfl,(S1.trans (T0.trans (T1.trans S2))).seq hS,fun p1 np1=>?_⟩
  rw [cut]
  refine ⟨p1,ms,rfl,SqL.of upd_same,ml,fun r1 du W1 xs1 H3 S3 er1 el1 ew1 sk1 g1 z1=>?_⟩
  refine ⟨r1,_,rfl,SqT.of er1,rfl,_,_,rfl,_,_,rfl,rfl,?_⟩
  have c1:=tree_cn ms
  revert sk1 g1 z1 c1 ew1
  generalize treeF ms=u
  intro ew1 sk1 g1 z1 c1
  have gd1:=vds_gds g1
  have lw:(wds u).length≤2000:=Nat.le_trans (wsz_len _) (by omega)
  have lt:(txt u).length≤2000:=Nat.le_trans jn_le (by omega)
  refine ⟨rfl,_,rfl,blank,W1,wds u,rfl,rfl,SqL.of ew1,?_,?_⟩
  ·have:=join_sz (wds u)
   show _ + (wds u).length * 1≤_
   omega
  refine ⟨_,rfl,u,rfl,g1,lt,lw,fun L xs H4 S4 nL eL kL=>?_⟩
  have kA:=kL.same fr_same
  refine ⟨_,rfl,_,.lst,.lst,rfl,.lst eL,_,rfl,iteF ?_⟩
  refine ⟨_,rfl,_,rfl,L,du,_,_,u,rfl,rfl,eL,S4 _ _ el1,kA,sk1.same S4,gd1,_,rfl,ifB_neg rfl ?_⟩
  refine ⟨_,rfl,L,xs,u,rfl,eL,kA,⟨8,rfl,g1⟩,c1,by omega,fun H5 S5=>?_⟩
  refine ⟨_,rfl,rfl,_,rfl,ifB_neg (by show (!decide (V.str (txt u)=V.str (txt u)))=false; simp) ?_⟩
  have eL5:=S5 _ _ eL
  have k5:SksIs (fr H3 H5 [L]) xs u:=kL.same (fr_to fun c o x y e=>⟨x,y,S5 _ _ e⟩)
  have S35:=S4.trans S5
  have lx:xs.length≤2000:=by rw [kL.length]; exact Nat.le_trans (wds_len u) lw
  refine ⟨_,rfl,.inl ⟨rfl,_,SqL.of eL5⟩,szr rfl,fun t nt=>?_⟩
  have Tt:=same_upd (o:=HO.tup [V.str "by",.int 1,.int 1]) nt
  refine ⟨L,xs,_,rfl,rfl,Tt _ _ eL5,by rw [sizeLine_eq]; omega,?_⟩
  have eL6:(upd (upd H5 t (.tup [V.str "by",.int 1,.int 1])) L (.lst (xs ++ [V.ref t]))) L=some (.lst (xs ++ [V.ref t])):=upd_same
  have k6:SksIs (fr H3 (upd (upd H5 t (.tup [V.str "by",.int 1,.int 1])) L (.lst (xs ++ [V.ref t]))) [L]) xs u:=k5.same (fr_to fun c o x y e=>⟨x,y,by rw [upd_ne (fun q=>y (by simp [q]))]; exact Tt _ _ e⟩)
  have S36:Same H3 (upd (upd H5 t (.tup [V.str "by",.int 1,.int 1])) L (.lst (xs ++ [V.ref t]))):=same_updN (S35.trans Tt) nL
  revert eL6 k6 S36
  generalize (upd (upd H5 t (.tup [V.str "by",.int 1,.int 1])) L (.lst (xs ++ [V.ref t])))=H6
  intro eL6 k6 S36
  refine' laterS (fun σ H7=>σ=[some (.ref a),some (.ref du),some (.ref W1),some (.str (txt u)),some (.ref L),none,none,none]∧Same H3 H7) (fun fin=>_) _
  rotate_left
  ·refine ⟨_,rfl,L,_,rfl,.inl (SqL.of eL6),_,_,rfl,rfl,_,rfl,?_⟩
   have hx:xs=[]∨∃ v vs st,xs=v :: vs∧SkIs (fr H3 H6 [L]) v st∧st.wd.length≤(wds u).length:=by
    cases k6 with
    | nil=>exact .inl rfl
    | @cons v st vs ss hk ht=>exact .inr ⟨v,vs,st,rfl,hk,by simp only [wds,List.length_append]; omega⟩
   rcases hx with hx | ⟨v,vs,st,hx,hk,hwl⟩
   ·exact ifB_neg (decide_eq_false (by rw [hx]; show ¬ (1:Int) > 1; decide)) (iteF (fin _ _ ⟨rfl,S36⟩))
   ·refine ifB_pos (decide_eq_true (by rw [hx]; show ((v :: vs ++ [V.ref t]).length:Int) > 1; rw [List.length_append,List.length_cons]; show ((vs.length + 1 + 1:Nat):Int) > 1; omega)) ?_
    have ix:atI (xs ++ [V.ref t]) 0=some v:=atI_nat (j:=0) (by rw [hx]; rfl)
    cases hk with
    | line e=>exact ⟨_,rfl,L,_,_,_,rfl,rfl,SqL.of eL6,ix,_,rfl,_,_,_,_,rfl,rfl,SqT.of (fr_of e).2.2,rfl,_,.int,.lst,rfl,.int _,_,rfl,iteF (fin _ _ ⟨rfl,S36⟩)⟩
    | by_ e=>exact ⟨_,rfl,L,_,_,_,rfl,rfl,SqL.of eL6,ix,_,rfl,_,_,_,_,rfl,rfl,SqT.of (fr_of e).2.2,rfl,_,.int,.lst,rfl,.int _,_,rfl,iteF (fin _ _ ⟨rfl,S36⟩)⟩
    | ink e=>exact ⟨_,rfl,L,_,_,_,rfl,rfl,SqL.of eL6,ix,_,rfl,_,_,_,_,rfl,rfl,SqT.of (fr_of e).2.2,rfl,_,.str,.lst,rfl,.str _,_,rfl,iteF (fin _ _ ⟨rfl,S36⟩)⟩
    | @back q l ys u2 e el h =>
     have el':=(fr_of el).2.2
     have ly:ys.length≤2000:=by
      rw [h.length]
      refine Nat.le_trans (wds_len _) (Nat.le_trans ?_ (Nat.le_trans hwl lw))
      simp only [Sk.wd,List.length_append,List.length_cons]
      omega
     refine ⟨_,rfl,L,_,_,_,rfl,rfl,SqL.of eL6,ix,_,rfl,_,_,_,_,rfl,rfl,SqT.of (fr_of e).2.2,rfl,_,.lst,.lst,rfl,.lst el',_,rfl,iteT ?_⟩
     refine ⟨_,rfl,L,_,_,_,rfl,rfl,SqL.of eL6,ix,_,rfl,_,_,_,_,rfl,rfl,SqT.of (fr_of e).2.2,rfl,.inl ⟨rfl,_,SqL.of el'⟩,szr rfl,fun t2 n2=>?_⟩
     have T2:=same_upd (o:=HO.tup [V.str "by",.int 1,.int 1]) n2
     exact ⟨l,ys,_,rfl,rfl,T2 _ _ el',by rw [sizeLine_eq]; omega,fin _ _ ⟨rfl,same_updN (S36.trans T2) (fr_of el).1⟩⟩
    | @times q l ys m u2 e el h =>
     have el':=(fr_of el).2.2
     have ly:ys.length≤2000:=by
      rw [h.length]
      refine Nat.le_trans (wds_len _) (Nat.le_trans ?_ (Nat.le_trans hwl lw))
      simp only [Sk.wd,List.length_append,List.length_cons]
      omega
     refine ⟨_,rfl,L,_,_,_,rfl,rfl,SqL.of eL6,ix,_,rfl,_,_,_,_,rfl,rfl,SqT.of (fr_of e).2.2,rfl,_,.lst,.lst,rfl,.lst el',_,rfl,iteT ?_⟩
     refine ⟨_,rfl,L,_,_,_,rfl,rfl,SqL.of eL6,ix,_,rfl,_,_,_,_,rfl,rfl,SqT.of (fr_of e).2.2,rfl,.inl ⟨rfl,_,SqL.of el'⟩,szr rfl,fun t2 n2=>?_⟩
     have T2:=same_upd (o:=HO.tup [V.str "by",.int 1,.int 1]) n2
     exact ⟨l,ys,_,rfl,rfl,T2 _ _ el',by rw [sizeLine_eq]; omega,fin _ _ ⟨rfl,same_updN (S36.trans T2) (fr_of el).1⟩⟩
    | @turn q l ys k2 u2 e el h =>
     have el':=(fr_of el).2.2
     have ly:ys.length≤2000:=by
      rw [h.length]
      refine Nat.le_trans (wds_len _) (Nat.le_trans ?_ (Nat.le_trans hwl lw))
      simp only [Sk.wd,List.length_append,List.length_cons]
      omega
     refine ⟨_,rfl,L,_,_,_,rfl,rfl,SqL.of eL6,ix,_,rfl,_,_,_,_,rfl,rfl,SqT.of (fr_of e).2.2,rfl,_,.lst,.lst,rfl,.lst el',_,rfl,iteT ?_⟩
     refine ⟨_,rfl,L,_,_,_,rfl,rfl,SqL.of eL6,ix,_,rfl,_,_,_,_,rfl,rfl,SqT.of (fr_of e).2.2,rfl,.inl ⟨rfl,_,SqL.of el'⟩,szr rfl,fun t2 n2=>?_⟩
     have T2:=same_upd (o:=HO.tup [V.str "by",.int 1,.int 1]) n2
     exact ⟨l,ys,_,rfl,rfl,T2 _ _ el',by rw [sizeLine_eq]; omega,fin _ _ ⟨rfl,same_updN (S36.trans T2) (fr_of el).1⟩⟩
  rintro σ H7 ⟨rfl,S7⟩
  refine ⟨_,rfl,u,rfl,g1,lt,lw,fun L2 xs2 H8 S8 nL2 eL2 kL2=>?_⟩
  have S38:=S7.trans S8
  refine ⟨_,rfl,L2,du,_,_,u,rfl,rfl,eL2,S38 _ _ el1,kL2.same fr_same,sk1.same S38,gd1,_,rfl,ifB_neg rfl ?_⟩
  refine ⟨_,rfl,du,xs1,u,rfl,S38 _ _ el1,sk1.same S38,⟨8,rfl,g1⟩,c1,by omega,fun H9 S9=>?_⟩
  refine ⟨_,rfl,rfl,_,rfl,ifB_neg (by show (!decide (V.str (txt u)=V.str (txt u)))=false; simp) ?_⟩
  refine ⟨rfl,fun d kvs H10 S10 ed gd ik kl=>?_⟩
  refine ⟨d,kvs,rfl,ed,fun o=>?_⟩
  have keep:∀ {q:Addr} {p:Int×Int},two H10 q p→two (upd H10 d (.frz o (.dK kvs))) q p:=fun {q p} t=>by
   show (upd H10 d _) q=_
   rw [upd_ne (fun y=>by
    have t':H10 q=_:=t
    rw [y,ed] at t'
    cases t')]
   exact t
  have ik':∀ kv∈kvs,Itm (upd H10 d (.frz o (.dK kvs))) kv:=fun kv hk=>by
   obtain ⟨wd,q,h1,h2,h3⟩:=ik kv hk
   exact ⟨wd,q,h1,h2,keep h3⟩
  refine for_itT (fun i σ H=>(∃ v5 v6 v7,σ=[some (.ref a),some (.ref du),some (.ref W1),some (.str (txt u)),some (.ref L),v5,v6,v7])∧H d=some (.frz o (.dK kvs))∧∀ kv∈kvs,Itm H kv) ⟨⟨_,_,_,rfl⟩,upd_same,ik'⟩ (fun _ _ _ _ h=>h.2.1) ?_ ?_
  ·rintro i kv p σ H11 hkv ⟨⟨v5,v6,v7,rfl⟩,ef,im⟩ np
   obtain ⟨wd,q,rfl,hw,tq⟩:=im kv (List.mem_of_getElem? hkv)
   have Tp:=same_upd (o:=HO.tup [V.str wd,.ref q]) np
   refine ⟨p,_,rfl,SqT.of upd_same,rfl,_,_,rfl,_,_,rfl,rfl,?_⟩
   have tq1:=Tp _ _ tq
   have ab:=way_abs wd hw
   have l1:=nT_len2 ab.1
   have l2:=nT_len2 ab.2
   have vv:vds [Sk.line true (wayF wd).1 (wayF wd).2] 8:=by
    simp only [vds,Sk.vd]
    exact ⟨way_vd wd hw,True.intro⟩
   have vf:vds [Sk.line false (wayF wd).1 (wayF wd).2] 8:=by
    simp only [vds,Sk.vd]
    exact ⟨way_vd wd hw,True.intro⟩
   have cf:cns [Sk.line false (wayF wd).1 (wayF wd).2]:=by simp only [cns,Sk.cn,and_self]
   refine ⟨_,rfl,q,_,_,_,rfl,rfl,SqT.of tq1,rfl,_,rfl,log_small (by omega),_,_,rfl,rfl,?_,_,_,rfl,rfl,?_,_,rfl,q,_,_,_,rfl,rfl,SqT.of tq1,rfl,_,rfl,log_small (by omega),_,_,rfl,rfl,?_,?_⟩
   ·rw [sizeLine_eq]
    show 5 + (nT (wayF wd).1).length≤_
    omega
   ·rw [sizeLine_eq,app_len]
    show 5 + (nT (wayF wd).1).length + 1≤_
    omega
   ·rw [sizeLine_eq,app_len,app_len]
    show 5 + (nT (wayF wd).1).length + 1 + (nT (wayF wd).2).length≤_
    omega
   have lt2:(txt [Sk.line true (wayF wd).1 (wayF wd).2]).length≤2000:=by
    rw [← long_txt,app_len,app_len,app_len]
    show 5 + (nT (wayF wd).1).length + 1 + (nT (wayF wd).2).length≤_
    omega
   have lw2:(wds [Sk.line true (wayF wd).1 (wayF wd).2]).length≤2000:=by
    simp only [wds,Sk.wd,lnW,List.append_nil,List.length_cons,List.length_nil]
    omega
   have hl2:=w8_len wd hw
   have zf:wsz (wds [Sk.line false (wayF wd).1 (wayF wd).2])≤2001:=by
    simp only [wds,Sk.wd,lnW,List.append_nil]
    rw [lineW_some (way_wd wd hw),wsz_cons,wsz_nil]
    omega
   refine ⟨_,rfl,[Sk.line true (wayF wd).1 (wayF wd).2],by rw [← long_txt]; rfl,vv,lt2,lw2,fun L3 xs3 H12 S12 nL3 eL3 kL3=>?_⟩
   have k3:=lng_sh (l':=false) (kL3.same fr_same)
   have tq2:=S12 _ _ tq1
   refine ⟨szr rfl,fun t1 n1=>?_⟩
   have T1:=same_upd (o:=HO.tup [V.str "line"]) n1
   refine ⟨_,rfl,t1,q,_,_,rfl,rfl,SqT.of upd_same,SqT.of (T1 _ _ tq2),by simp,szr rfl,fun h=>(by cases h),fun _ t n2=>?_⟩
   have T2:=same_upd (o:=HO.tup ([V.str "line"] ++ [V.int (wayF wd).1,.int (wayF wd).2])) n2
   refine ⟨szr rfl,fun l3 n3=>?_⟩
   have T3:=same_upd (o:=HO.lst [V.ref t]) n3
   have T13:=T1.trans (T2.trans T3)
   refine ⟨L3,l3,_,_,[Sk.line false (wayF wd).1 (wayF wd).2],rfl,rfl,T13 _ _ eL3,upd_same,k3.same T13,.cons (.line (T3 _ _ upd_same)) .nil,vds_gds vf,_,rfl,ifB_neg rfl ?_⟩
   refine ⟨_,rfl,[Sk.line true (wayF wd).1 (wayF wd).2],by rw [← long_txt]; rfl,vv,lt2,lw2,fun L4 xs4 H13 S13 nL4 eL4 kL4=>?_⟩
   refine ⟨L4,xs4,[Sk.line false (wayF wd).1 (wayF wd).2],rfl,eL4,lng_sh (kL4.same fr_same),⟨8,rfl,vf⟩,cf,zf,fun H14 S14=>?_⟩
   rw [short_txt hw]
   refine ⟨_,rfl,rfl,_,rfl,ifB_neg (by show (!decide (V.str wd=V.str wd))=false; simp) ?_⟩
   have SS:=Tp.trans (S12.trans (T13.trans (S13.trans S14)))
   refine ⟨⟨_,_,_,rfl⟩,SS _ _ ef,fun kv hk=>?_⟩
   obtain ⟨wd',q',h1,h2,h3⟩:=im kv hk
   exact ⟨wd',q',h1,h2,SS _ _ h3⟩
  ·rintro σ H11 ⟨⟨v5,v6,v7,rfl⟩,_,_⟩
   exact z _
end
end K21
namespace K21
open PySem PySem.Spec PyProof.Rows L2 BF
theorem kis {P:Program} {w:World} (x:Str) (t:Tok):(mixKind P w).is (Sum.inr x) (.str x t)=true:=by simp [mixKind,keyIs,Value.isStrOf]
def wayA (l:List Addr) (x:Str):Addr:=(((ways8.map (·.1)).zip l).lookup x).getD 0
theorem wy_mk {P:Program} {w:World} {K:PySem.W.Frag} {mg:Str→Option Value} {d q0 q1 q2 q3 q4 q5 q6 q7 ep n0 n1 n2 n3 n4 n5 n6 n7:Nat} {k0 a0 b0 k1 a1 b1 k2 a2 b2 k3 a3 b3 k4 a4 b4 k5 a5 b5 k6 a6 b6 k7 a7 b7:Tok} {o0 o1 o2 o3 o4 o5 o6 o7:Option Addr} {s0 s1 s2 s3 s4 s5 s6 s7:Array (Option Value)}
  (m:mg "WAYS"=some (.ref d)) (s:(d == sysModules)=false) (l:K.lookup d=some ⟨.type "dict",none,.dict #[⟨PyData.keyHash w.params "n",.str "n" k0,.ref q0⟩,⟨PyData.keyHash w.params "ne",.str "ne" k1,.ref q1⟩,⟨PyData.keyHash w.params "e",.str "e" k2,.ref q2⟩,⟨PyData.keyHash w.params "se",.str "se" k3,.ref q3⟩,⟨PyData.keyHash w.params "s",.str "s" k4,.ref q4⟩,⟨PyData.keyHash w.params "sw",.str "sw" k5,.ref q5⟩,⟨PyData.keyHash w.params "w",.str "w" k6,.ref q6⟩,⟨PyData.keyHash w.params "nw",.str "nw" k7,.ref q7⟩] ep,#[]⟩)
  (l0:K.lookup q0=some ⟨.type "tuple",o0,.seq #[.int (0) a0,.int (1) b0] n0,s0⟩) (l1:K.lookup q1=some ⟨.type "tuple",o1,.seq #[.int (1) a1,.int (1) b1] n1,s1⟩) (l2:K.lookup q2=some ⟨.type "tuple",o2,.seq #[.int (1) a2,.int (0) b2] n2,s2⟩) (l3:K.lookup q3=some ⟨.type "tuple",o3,.seq #[.int (1) a3,.int (-1) b3] n3,s3⟩) (l4:K.lookup q4=some ⟨.type "tuple",o4,.seq #[.int (0) a4,.int (-1) b4] n4,s4⟩) (l5:K.lookup q5=some ⟨.type "tuple",o5,.seq #[.int (-1) a5,.int (-1) b5] n5,s5⟩) (l6:K.lookup q6=some ⟨.type "tuple",o6,.seq #[.int (-1) a6,.int (0) b6] n6,s6⟩) (l7:K.lookup q7=some ⟨.type "tuple",o7,.seq #[.int (-1) a7,.int (1) b7] n7,s7⟩):Wy P w K mg:=by
 refine ⟨d,wayA [q0,q1,q2,q3,q4,q5,q6,q7],m,⟨s,_,_,_,[(Sum.inr "n",.ref q0),(Sum.inr "ne",.ref q1),(Sum.inr "e",.ref q2),(Sum.inr "se",.ref q3),(Sum.inr "s",.ref q4),(Sum.inr "sw",.ref q5),(Sum.inr "w",.ref q6),(Sum.inr "nw",.ref q7)],l,⟨rfl,rfl,rfl⟩,rfl,?_,?_,?_,?_⟩,?_⟩
 ·intro e he
  simp only [List.mem_toArray,List.mem_cons,List.not_mem_nil,or_false] at he
  rcases he with rfl | rfl | rfl | rfl | rfl | rfl | rfl | rfl
  ·exact ⟨Sum.inr "n",kis _ _,rfl⟩
  ·exact ⟨Sum.inr "ne",kis _ _,rfl⟩
  ·exact ⟨Sum.inr "e",kis _ _,rfl⟩
  ·exact ⟨Sum.inr "se",kis _ _,rfl⟩
  ·exact ⟨Sum.inr "s",kis _ _,rfl⟩
  ·exact ⟨Sum.inr "sw",kis _ _,rfl⟩
  ·exact ⟨Sum.inr "w",kis _ _,rfl⟩
  ·exact ⟨Sum.inr "nw",kis _ _,rfl⟩
 ·exact .cons (kis _ _) rfl (.cons (kis _ _) rfl (.cons (kis _ _) rfl (.cons (kis _ _) rfl (.cons (kis _ _) rfl (.cons (kis _ _) rfl (.cons (kis _ _) rfl (.cons (kis _ _) rfl (.nil))))))))
 ·show ([Sum.inr "n",Sum.inr "ne",Sum.inr "e",Sum.inr "se",Sum.inr "s",Sum.inr "sw",Sum.inr "w",Sum.inr "nw"]:List Key).Nodup
  decide +kernel
 ·exact .cons ⟨rfl,rfl⟩ (.cons ⟨rfl,rfl⟩ (.cons ⟨rfl,rfl⟩ (.cons ⟨rfl,rfl⟩ (.cons ⟨rfl,rfl⟩ (.cons ⟨rfl,rfl⟩ (.cons ⟨rfl,rfl⟩ (.cons ⟨rfl,rfl⟩ (.nil))))))))
 ·intro x hx H
  simp only [ways8,List.mem_cons,List.not_mem_nil,or_false] at hx
  rcases hx with rfl | rfl | rfl | rfl | rfl | rfl | rfl | rfl
  ·exact .inr ⟨_,_,_,l0,rfl,rfl,szr rfl,.cons ⟨_,rfl⟩ (.cons ⟨_,rfl⟩ .nil)⟩
  ·exact .inr ⟨_,_,_,l1,rfl,rfl,szr rfl,.cons ⟨_,rfl⟩ (.cons ⟨_,rfl⟩ .nil)⟩
  ·exact .inr ⟨_,_,_,l2,rfl,rfl,szr rfl,.cons ⟨_,rfl⟩ (.cons ⟨_,rfl⟩ .nil)⟩
  ·exact .inr ⟨_,_,_,l3,rfl,rfl,szr rfl,.cons ⟨_,rfl⟩ (.cons ⟨_,rfl⟩ .nil)⟩
  ·exact .inr ⟨_,_,_,l4,rfl,rfl,szr rfl,.cons ⟨_,rfl⟩ (.cons ⟨_,rfl⟩ .nil)⟩
  ·exact .inr ⟨_,_,_,l5,rfl,rfl,szr rfl,.cons ⟨_,rfl⟩ (.cons ⟨_,rfl⟩ .nil)⟩
  ·exact .inr ⟨_,_,_,l6,rfl,rfl,szr rfl,.cons ⟨_,rfl⟩ (.cons ⟨_,rfl⟩ .nil)⟩
  ·exact .inr ⟨_,_,_,l7,rfl,rfl,szr rfl,.cons ⟨_,rfl⟩ (.cons ⟨_,rfl⟩ .nil)⟩
end K21
def PySem.W.Fast.tw9407401279620373512:=0
def PySem.W.Fast.tw15533311112528151051:=0
def PySem.W.Fast.tw12009507555332650317:=0
def PySem.W.Fast.tw2240992191213871205:=0
def PySem.W.Fast.tw7694143337192228966:=0
def PySem.W.Fast.tw5473467219847492960:=0
def PySem.W.Fast.tw16408489200194269122:=0
def PySem.W.Fast.tw1241341282311530813:=0
def PySem.W.Fast.tw17074456504552672059:=0
def PySem.W.Fast.tw3219999668201551028:=0
def PySem.W.Fast.tw17275955861290372911:=0
def PySem.W.Fast.tw16820508212664696719:=0
def PySem.W.Fast.tw16251245131243230952:=0
def PySem.W.Fast.tw2265623690081962564:=0
def PySem.W.Fast.tw16765435339373887810:=0
def PySem.W.Fast.tw14577203593812851534:=0
def PySem.W.Fast.tw14164053519738752159:=0
def PySem.W.Fast.tw8743213361773742564:=0
def PySem.W.Fast.tw15574901272400904864:=0
def PySem.W.Fast.tw9938985068846856131:=0
def PySem.W.Fast.tw11532183435434746011:=0
def PySem.W.Fast.tw10677503263248377107:=0
def PySem.W.Fast.tw7924056893871000056:=0
def PySem.W.Fast.tw2777522972679283230:=0
def PySem.W.Fast.tw10364163735224628145:=0
def PySem.W.Fast.tw14634088420007165540:=0
def PySem.W.Fast.tw13224806777500989318:=0
def PySem.W.Fast.tw3668361304860023723:=0
def PySem.W.Fast.tw4763566435933731326:=0
def PySem.W.Fast.tw13781738329125902428:=0
def PySem.W.Fast.tw16987036948555885158:=0
def PySem.W.Fast.tw10488827335314227031:=0
def PySem.W.Fast.tw9911352662750094477:=0
def PySem.W.Fast.tw10001404496149582198:=0
def PySem.W.Fast.tw12454109854061531790:=0
def PySem.W.Fast.tw12122004398871984821:=0
def PySem.W.Fast.tw6084654627631765104:=0
def PySem.W.Fast.tw3083424597754549989:=0
def PySem.W.Fast.tw12917588134105275922:=0
def PySem.W.Fast.tw14233478335230845424:=0
def PySem.W.Fast.tw14039447193734227337:=0
def PySem.W.Fast.tw16882525100561770585:=0
def PySem.W.Fast.tw5835614615623186932:=0
def PySem.W.Fast.tw6693154669122153629:=0
def PySem.W.Fast.tw8936663289076848272:=0
def PySem.W.Fast.tw17606555498175877705:=0
def PySem.W.Fast.tw9585443376515234749:=0
def PySem.W.Fast.tw14744243132499742496:=0
def PySem.W.Fast.tw12150368283331466856:=0
def PySem.W.Fast.tw1526227661264346705:=0
def PySem.W.Fast.tw4699068464395094389:=0
def PySem.W.Fast.tw13443050531214420934:=0
def PySem.W.Fast.tw8453408476961540887:=0
def PySem.W.Fast.tw3205161204806606714:=0
namespace K21
open PySem PySem.Spec PyProof.Rows L2 BF
theorem ln1 {us:List Value} (h:us.length=1):∃ a0,us=[a0]:=match us,h with | [a0],_=>⟨a0,rfl⟩
theorem ln2 {us:List Value} (h:us.length=2):∃ a0 a1,us=[a0,a1]:=match us,h with | [a0,a1],_=>⟨a0,a1,rfl⟩
theorem ln3 {us:List Value} (h:us.length=3):∃ a0 a1 a2,us=[a0,a1,a2]:=match us,h with | [a0,a1,a2],_=>⟨a0,a1,a2,rfl⟩
theorem all_mk {l:PySem.W.OpenLaw} {w:World} {K:PySem.W.Frag} {h:Heap} {mg:Str→Option Value} {fa fCo fNx fEx fNw fNu fRL fRB fRK fRT fRM fRI fRS fRR fRd fSL fSI fSS fSh fN fWy fF fPl fHd fCz fTr fZ:Addr} (X:K.In h) (G:h.Ns mainGlobals mg) (hfa:mg "law"=some (.ref fa))
  {odCo anCo odNx anNx odEx anEx odNw anNw odNu anNu odRL anRL odRB anRB odRK anRK odRT anRT odRM anRM odRI anRI odRS anRS odRR anRR odRd anRd odSL anSL odSI anSI odSS anSS odSh anSh odN anN odWy anWy odF anF odPl anPl odHd anHd odCz anCz odTr anTr odZ anZ:Option Addr} {slCo slNx slEx slNw slNu slRL slRB slRK slRT slRM slRI slRS slRR slRd slSL slSI slSS slSh slN slWy slF slPl slHd slCz slTr slZ:Array (Option Value)} {ocCo kVCo dcCo pmCo cdCo ctCo ocNx kVNx dcNx pmNx cdNx ctNx ocEx kVEx dcEx pmEx cdEx ctEx ocNw kVNw dcNw pmNw cdNw ctNw ocNu kVNu dcNu pmNu cdNu ctNu ocRL kVRL dcRL pmRL cdRL ctRL ocRB kVRB dcRB pmRB cdRB ctRB ocRK kVRK dcRK pmRK cdRK ctRK ocRT kVRT dcRT pmRT cdRT ctRT ocRM kVRM dcRM pmRM cdRM ctRM ocRI kVRI dcRI pmRI cdRI ctRI ocRS kVRS dcRS pmRS cdRS ctRS ocRR kVRR dcRR pmRR cdRR ctRR ocRd kVRd dcRd pmRd cdRd ctRd ocSL kVSL dcSL pmSL cdSL ctSL ocSI kVSI dcSI pmSI cdSI ctSI ocSS kVSS dcSS pmSS cdSS ctSS ocSh kVSh dcSh pmSh cdSh ctSh ocN kVN dcN pmN cdN ctN ocWy kVWy dcWy pmWy cdWy ctWy ocF kVF dcF pmF cdF ctF ocPl kVPl dcPl pmPl cdPl ctPl ocHd kVHd dcHd pmHd cdHd ctHd ocCz kVCz dcCz pmCz cdCz ctCz ocTr kVTr dcTr pmTr cdTr ctTr ocZ kVZ dcZ pmZ cdZ ctZ:Value} {t_far t_lon t_most t_sig t_fig t_dep t_rou t_las:Tok}
  (aCo:PySem.W.nsIn K mainGlobals "is_colour"=some (some (.ref fCo))) (lCo:K.lookup fCo=some ⟨ocCo,odCo,.func (PySem.W.fnOf "is_colour" "is_colour" (defArgs sColour) (defBody sColour) (defScope sColour) .none kVCo dcCo pmCo anCo cdCo ctCo),slCo⟩) (cCo:PySem.W.codeIn K cdCo "is_colour"=true) (kCo:PySem.W.keepIn K (.ref fCo)=true)
  (aNx:PySem.W.nsIn K mainGlobals "next_word"=some (some (.ref fNx))) (lNx:K.lookup fNx=some ⟨ocNx,odNx,.func (PySem.W.fnOf "next_word" "next_word" (defArgs sNext) (defBody sNext) (defScope sNext) .none kVNx dcNx pmNx anNx cdNx ctNx),slNx⟩) (cNx:PySem.W.codeIn K cdNx "next_word"=true) (kNx:PySem.W.keepIn K (.ref fNx)=true)
  (aEx:PySem.W.nsIn K mainGlobals "expect"=some (some (.ref fEx))) (lEx:K.lookup fEx=some ⟨ocEx,odEx,.func (PySem.W.fnOf "expect" "expect" (defArgs sExpect) (defBody sExpect) (defScope sExpect) .none kVEx dcEx pmEx anEx cdEx ctEx),slEx⟩) (cEx:PySem.W.codeIn K cdEx "expect"=true) (kEx:PySem.W.keepIn K (.ref fEx)=true)
  (aNw:PySem.W.nsIn K mainGlobals "is_number_word"=some (some (.ref fNw))) (lNw:K.lookup fNw=some ⟨ocNw,odNw,.func (PySem.W.fnOf "is_number_word" "is_number_word" (defArgs sNumW) (defBody sNumW) (defScope sNumW) .none kVNw dcNw pmNw anNw cdNw ctNw),slNw⟩) (cNw:PySem.W.codeIn K cdNw "is_number_word"=true) (kNw:PySem.W.keepIn K (.ref fNw)=true)
  (aNu:PySem.W.nsIn K mainGlobals "number"=some (some (.ref fNu))) (lNu:K.lookup fNu=some ⟨ocNu,odNu,.func (PySem.W.fnOf "number" "number" (defArgs sNumber) (defBody sNumber) (defScope sNumber) .none kVNu dcNu pmNu anNu cdNu ctNu),slNu⟩) (cNu:PySem.W.codeIn K cdNu "number"=true) (kNu:PySem.W.keepIn K (.ref fNu)=true)
  (aRL:PySem.W.nsIn K mainGlobals "read_line"=some (some (.ref fRL))) (lRL:K.lookup fRL=some ⟨ocRL,odRL,.func (PySem.W.fnOf "read_line" "read_line" (defArgs sRdLine) (defBody sRdLine) (defScope sRdLine) .none kVRL dcRL pmRL anRL cdRL ctRL),slRL⟩) (cRL:PySem.W.codeIn K cdRL "read_line"=true) (kRL:PySem.W.keepIn K (.ref fRL)=true)
  (aRB:PySem.W.nsIn K mainGlobals "read_by"=some (some (.ref fRB))) (lRB:K.lookup fRB=some ⟨ocRB,odRB,.func (PySem.W.fnOf "read_by" "read_by" (defArgs sRdBy) (defBody sRdBy) (defScope sRdBy) .none kVRB dcRB pmRB anRB cdRB ctRB),slRB⟩) (cRB:PySem.W.codeIn K cdRB "read_by"=true) (kRB:PySem.W.keepIn K (.ref fRB)=true)
  (aRK:PySem.W.nsIn K mainGlobals "read_ink"=some (some (.ref fRK))) (lRK:K.lookup fRK=some ⟨ocRK,odRK,.func (PySem.W.fnOf "read_ink" "read_ink" (defArgs sRdInk) (defBody sRdInk) (defScope sRdInk) .none kVRK dcRK pmRK anRK cdRK ctRK),slRK⟩) (cRK:PySem.W.codeIn K cdRK "read_ink"=true) (kRK:PySem.W.keepIn K (.ref fRK)=true)
  (aRT:PySem.W.nsIn K mainGlobals "read_turn"=some (some (.ref fRT))) (lRT:K.lookup fRT=some ⟨ocRT,odRT,.func (PySem.W.fnOf "read_turn" "read_turn" (defArgs sRdTurn) (defBody sRdTurn) (defScope sRdTurn) .none kVRT dcRT pmRT anRT cdRT ctRT),slRT⟩) (cRT:PySem.W.codeIn K cdRT "read_turn"=true) (kRT:PySem.W.keepIn K (.ref fRT)=true)
  (aRM:PySem.W.nsIn K mainGlobals "read_times"=some (some (.ref fRM))) (lRM:K.lookup fRM=some ⟨ocRM,odRM,.func (PySem.W.fnOf "read_times" "read_times" (defArgs sRdTimes) (defBody sRdTimes) (defScope sRdTimes) .none kVRM dcRM pmRM anRM cdRM ctRM),slRM⟩) (cRM:PySem.W.codeIn K cdRM "read_times"=true) (kRM:PySem.W.keepIn K (.ref fRM)=true)
  (aRI:PySem.W.nsIn K mainGlobals "read_inner"=some (some (.ref fRI))) (lRI:K.lookup fRI=some ⟨ocRI,odRI,.func (PySem.W.fnOf "read_inner" "read_inner" (defArgs sRdInner) (defBody sRdInner) (defScope sRdInner) .none kVRI dcRI pmRI anRI cdRI ctRI),slRI⟩) (cRI:PySem.W.codeIn K cdRI "read_inner"=true) (kRI:PySem.W.keepIn K (.ref fRI)=true)
  (aRS:PySem.W.nsIn K mainGlobals "read_stroke"=some (some (.ref fRS))) (lRS:K.lookup fRS=some ⟨ocRS,odRS,.func (PySem.W.fnOf "read_stroke" "read_stroke" (defArgs sRdStroke) (defBody sRdStroke) (defScope sRdStroke) .none kVRS dcRS pmRS anRS cdRS ctRS),slRS⟩) (cRS:PySem.W.codeIn K cdRS "read_stroke"=true) (kRS:PySem.W.keepIn K (.ref fRS)=true)
  (aRR:PySem.W.nsIn K mainGlobals "read_row"=some (some (.ref fRR))) (lRR:K.lookup fRR=some ⟨ocRR,odRR,.func (PySem.W.fnOf "read_row" "read_row" (defArgs sRdRow) (defBody sRdRow) (defScope sRdRow) .none kVRR dcRR pmRR anRR cdRR ctRR),slRR⟩) (cRR:PySem.W.codeIn K cdRR "read_row"=true) (kRR:PySem.W.keepIn K (.ref fRR)=true)
  (aRd:PySem.W.nsIn K mainGlobals "read"=some (some (.ref fRd))) (lRd:K.lookup fRd=some ⟨ocRd,odRd,.func (PySem.W.fnOf "read" "read" (defArgs sRead) (defBody sRead) (defScope sRead) .none kVRd dcRd pmRd anRd cdRd ctRd),slRd⟩) (cRd:PySem.W.codeIn K cdRd "read"=true) (kRd:PySem.W.keepIn K (.ref fRd)=true)
  (aSL:PySem.W.nsIn K mainGlobals "shown_line"=some (some (.ref fSL))) (lSL:K.lookup fSL=some ⟨ocSL,odSL,.func (PySem.W.fnOf "shown_line" "shown_line" (defArgs sShLine) (defBody sShLine) (defScope sShLine) .none kVSL dcSL pmSL anSL cdSL ctSL),slSL⟩) (cSL:PySem.W.codeIn K cdSL "shown_line"=true) (kSL:PySem.W.keepIn K (.ref fSL)=true)
  (aSI:PySem.W.nsIn K mainGlobals "shown_inner"=some (some (.ref fSI))) (lSI:K.lookup fSI=some ⟨ocSI,odSI,.func (PySem.W.fnOf "shown_inner" "shown_inner" (defArgs sShInner) (defBody sShInner) (defScope sShInner) .none kVSI dcSI pmSI anSI cdSI ctSI),slSI⟩) (cSI:PySem.W.codeIn K cdSI "shown_inner"=true) (kSI:PySem.W.keepIn K (.ref fSI)=true)
  (aSS:PySem.W.nsIn K mainGlobals "shown_stroke"=some (some (.ref fSS))) (lSS:K.lookup fSS=some ⟨ocSS,odSS,.func (PySem.W.fnOf "shown_stroke" "shown_stroke" (defArgs sShStroke) (defBody sShStroke) (defScope sShStroke) .none kVSS dcSS pmSS anSS cdSS ctSS),slSS⟩) (cSS:PySem.W.codeIn K cdSS "shown_stroke"=true) (kSS:PySem.W.keepIn K (.ref fSS)=true)
  (aSh:PySem.W.nsIn K mainGlobals "shown"=some (some (.ref fSh))) (lSh:K.lookup fSh=some ⟨ocSh,odSh,.func (PySem.W.fnOf "shown" "shown" (defArgs sShown) (defBody sShown) (defScope sShown) .none kVSh dcSh pmSh anSh cdSh ctSh),slSh⟩) (cSh:PySem.W.codeIn K cdSh "shown"=true) (kSh:PySem.W.keepIn K (.ref fSh)=true)
  (aN:PySem.W.nsIn K mainGlobals "_law_number"=some (some (.ref fN))) (lN:K.lookup fN=some ⟨ocN,odN,.func (PySem.W.fnOf "_law_number" "_law_number" (defArgs sNum) (defBody sNum) (defScope sNum) .none kVN dcN pmN anN cdN ctN),slN⟩) (cN:PySem.W.codeIn K cdN "_law_number"=true) (kN:PySem.W.keepIn K (.ref fN)=true)
  (aWy:PySem.W.nsIn K mainGlobals "_law_ways"=some (some (.ref fWy))) (lWy:K.lookup fWy=some ⟨ocWy,odWy,.func (PySem.W.fnOf "_law_ways" "_law_ways" (defArgs sWays) (defBody sWays) (defScope sWays) .none kVWy dcWy pmWy anWy cdWy ctWy),slWy⟩) (cWy:PySem.W.codeIn K cdWy "_law_ways"=true) (kWy:PySem.W.keepIn K (.ref fWy)=true)
  (aF:PySem.W.nsIn K mainGlobals "_law_far"=some (some (.ref fF))) (lF:K.lookup fF=some ⟨ocF,odF,.func (PySem.W.fnOf "_law_far" "_law_far" (defArgs sFar) (defBody sFar) (defScope sFar) .none kVF dcF pmF anF cdF ctF),slF⟩) (cF:PySem.W.codeIn K cdF "_law_far"=true) (kF:PySem.W.keepIn K (.ref fF)=true)
  (aPl:PySem.W.nsIn K mainGlobals "_law_plain"=some (some (.ref fPl))) (lPl:K.lookup fPl=some ⟨ocPl,odPl,.func (PySem.W.fnOf "_law_plain" "_law_plain" (defArgs sPlain) (defBody sPlain) (defScope sPlain) .none kVPl dcPl pmPl anPl cdPl ctPl),slPl⟩) (cPl:PySem.W.codeIn K cdPl "_law_plain"=true) (kPl:PySem.W.keepIn K (.ref fPl)=true)
  (aHd:PySem.W.nsIn K mainGlobals "_law_head"=some (some (.ref fHd))) (lHd:K.lookup fHd=some ⟨ocHd,odHd,.func (PySem.W.fnOf "_law_head" "_law_head" (defArgs sHead) (defBody sHead) (defScope sHead) .none kVHd dcHd pmHd anHd cdHd ctHd),slHd⟩) (cHd:PySem.W.codeIn K cdHd "_law_head"=true) (kHd:PySem.W.keepIn K (.ref fHd)=true)
  (aCz:PySem.W.nsIn K mainGlobals "_law_closed"=some (some (.ref fCz))) (lCz:K.lookup fCz=some ⟨ocCz,odCz,.func (PySem.W.fnOf "_law_closed" "_law_closed" (defArgs sClosed) (defBody sClosed) (defScope sClosed) .none kVCz dcCz pmCz anCz cdCz ctCz),slCz⟩) (cCz:PySem.W.codeIn K cdCz "_law_closed"=true) (kCz:PySem.W.keepIn K (.ref fCz)=true)
  (aTr:PySem.W.nsIn K mainGlobals "_law_tree"=some (some (.ref fTr))) (lTr:K.lookup fTr=some ⟨ocTr,odTr,.func (PySem.W.fnOf "_law_tree" "_law_tree" (defArgs sTree) (defBody sTree) (defScope sTree) .none kVTr dcTr pmTr anTr cdTr ctTr),slTr⟩) (cTr:PySem.W.codeIn K cdTr "_law_tree"=true) (kTr:PySem.W.keepIn K (.ref fTr)=true)
  (aZ:PySem.W.nsIn K mainGlobals "law"=some (some (.ref fZ))) (lZ:K.lookup fZ=some ⟨ocZ,odZ,.func (PySem.W.fnOf "law" "law" (defArgs sLaw) (defBody sLaw) (defScope sLaw) .none kVZ dcZ pmZ anZ cdZ ctZ),slZ⟩) (cZ:PySem.W.codeIn K cdZ "law"=true) (kZ:PySem.W.keepIn K (.ref fZ)=true)
  {yd yq0 yq1 yq2 yq3 yq4 yq5 yq6 yq7 yep yn0 yn1 yn2 yn3 yn4 yn5 yn6 yn7:Nat} {yk0 ya0 yb0 yk1 ya1 yb1 yk2 ya2 yb2 yk3 ya3 yb3 yk4 ya4 yb4 yk5 ya5 yb5 yk6 ya6 yb6 yk7 ya7 yb7:Tok} {yo0 yo1 yo2 yo3 yo4 yo5 yo6 yo7:Option Addr} {ys0 ys1 ys2 ys3 ys4 ys5 ys6 ys7:Array (Option Value)}
  (ym:PySem.W.nsIn K mainGlobals "WAYS"=some (some (.ref yd))) (yz:(yd == sysModules)=false) (yl:K.lookup yd=some ⟨.type "dict",none,.dict #[⟨PyData.keyHash w.params "n",.str "n" yk0,.ref yq0⟩,⟨PyData.keyHash w.params "ne",.str "ne" yk1,.ref yq1⟩,⟨PyData.keyHash w.params "e",.str "e" yk2,.ref yq2⟩,⟨PyData.keyHash w.params "se",.str "se" yk3,.ref yq3⟩,⟨PyData.keyHash w.params "s",.str "s" yk4,.ref yq4⟩,⟨PyData.keyHash w.params "sw",.str "sw" yk5,.ref yq5⟩,⟨PyData.keyHash w.params "w",.str "w" yk6,.ref yq6⟩,⟨PyData.keyHash w.params "nw",.str "nw" yk7,.ref yq7⟩] yep,#[]⟩)
  (yl0:K.lookup yq0=some ⟨.type "tuple",yo0,.seq #[.int (0) ya0,.int (1) yb0] yn0,ys0⟩) (yl1:K.lookup yq1=some ⟨.type "tuple",yo1,.seq #[.int (1) ya1,.int (1) yb1] yn1,ys1⟩) (yl2:K.lookup yq2=some ⟨.type "tuple",yo2,.seq #[.int (1) ya2,.int (0) yb2] yn2,ys2⟩) (yl3:K.lookup yq3=some ⟨.type "tuple",yo3,.seq #[.int (1) ya3,.int (-1) yb3] yn3,ys3⟩) (yl4:K.lookup yq4=some ⟨.type "tuple",yo4,.seq #[.int (0) ya4,.int (-1) yb4] yn4,ys4⟩) (yl5:K.lookup yq5=some ⟨.type "tuple",yo5,.seq #[.int (-1) ya5,.int (-1) yb5] yn5,ys5⟩) (yl6:K.lookup yq6=some ⟨.type "tuple",yo6,.seq #[.int (-1) ya6,.int (0) yb6] yn6,ys6⟩) (yl7:K.lookup yq7=some ⟨.type "tuple",yo7,.seq #[.int (-1) ya7,.int (1) yb7] yn7,ys7⟩)
  (z_isi:PySem.W.nsIn K mainGlobals "isinstance"=some none)
  (z_int:PySem.W.nsIn K mainGlobals "int"=some none)
  (z_list:PySem.W.nsIn K mainGlobals "list"=some none)
  (z_str:PySem.W.nsIn K mainGlobals "str"=some none)
  (z_len:PySem.W.nsIn K mainGlobals "len"=some none)
  (z_all:PySem.W.nsIn K mainGlobals "all"=some none)
  (z_range:PySem.W.nsIn K mainGlobals "range"=some none)
  (z_abs:PySem.W.nsIn K mainGlobals "abs"=some none)
  (z_max:PySem.W.nsIn K mainGlobals "max"=some none)
  (z_rev:PySem.W.nsIn K mainGlobals "reversed"=some none)
  (g_far:PySem.W.nsIn K mainGlobals "FARTHEST"=some (some (.int 1000000000 t_far)))
  (g_lon:PySem.W.nsIn K mainGlobals "LONGEST"=some (some (.int 9 t_lon)))
  (g_most:PySem.W.nsIn K mainGlobals "MOST_LETTERS"=some (some (.int 8 t_most)))
  (g_sig:PySem.W.nsIn K mainGlobals "MOST_SIGNS"=some (some (.int 2000 t_sig)))
  (g_fig:PySem.W.nsIn K mainGlobals "MOST_FIGURES"=some (some (.int 10 t_fig)))
  (g_dep:PySem.W.nsIn K mainGlobals "MOST_DEPTH"=some (some (.int 8 t_dep)))
  (g_rou:PySem.W.nsIn K mainGlobals "MOST_ROUNDS"=some (some (.int 60 t_rou)))
  (g_las:PySem.W.nsIn K mainGlobals "LAST_TURNING"=some (some (.int 7 t_las))) :
  ∃ fd:FuncData,(∀ (s:Shared) (v:Value),BindsTo s fd ⟨[v],[]⟩ [("_law_script",v)])∧∀ base:Heap,K.In base→base.Ns mainGlobals mg→FnOk l.prog w K mg base CX0 41 fa fd ["_law_script"] (spLaw K):=by
 have e:=hfa.symm.trans (PySem.W.mg_of X G aZ)
 cases e
 have DCo:=df_mk (st:=sColour) X G aCo lCo cCo kCo
 have DNx:=df_mk (st:=sNext) X G aNx lNx cNx kNx
 have DEx:=df_mk (st:=sExpect) X G aEx lEx cEx kEx
 have DNw:=df_mk (st:=sNumW) X G aNw lNw cNw kNw
 have DNu:=df_mk (st:=sNumber) X G aNu lNu cNu kNu
 have DRL:=df_mk (st:=sRdLine) X G aRL lRL cRL kRL
 have DRB:=df_mk (st:=sRdBy) X G aRB lRB cRB kRB
 have DRK:=df_mk (st:=sRdInk) X G aRK lRK cRK kRK
 have DRT:=df_mk (st:=sRdTurn) X G aRT lRT cRT kRT
 have DRM:=df_mk (st:=sRdTimes) X G aRM lRM cRM kRM
 have DRI:=df_mk (st:=sRdInner) X G aRI lRI cRI kRI
 have DRS:=df_mk (st:=sRdStroke) X G aRS lRS cRS kRS
 have DRR:=df_mk (st:=sRdRow) X G aRR lRR cRR kRR
 have DRd:=df_mk (st:=sRead) X G aRd lRd cRd kRd
 have DSL:=df_mk (st:=sShLine) X G aSL lSL cSL kSL
 have DSI:=df_mk (st:=sShInner) X G aSI lSI cSI kSI
 have DSS:=df_mk (st:=sShStroke) X G aSS lSS cSS kSS
 have DSh:=df_mk (st:=sShown) X G aSh lSh cSh kSh
 have DN:=df_mk (st:=sNum) X G aN lN cN kN
 have DWy:=df_mk (st:=sWays) X G aWy lWy cWy kWy
 have DF:=df_mk (st:=sFar) X G aF lF cF kF
 have DPl:=df_mk (st:=sPlain) X G aPl lPl cPl kPl
 have DHd:=df_mk (st:=sHead) X G aHd lHd cHd kHd
 have DCz:=df_mk (st:=sClosed) X G aCz lCz cCz kCz
 have DTr:=df_mk (st:=sTree) X G aTr lTr cTr kTr
 have DZ:=df_mk (st:=sLaw) X G aZ lZ cZ kZ
 have B:Blt mg:=⟨PySem.W.mg_none_of X G z_isi,PySem.W.mg_none_of X G z_int,PySem.W.mg_none_of X G z_list,PySem.W.mg_none_of X G z_str,PySem.W.mg_none_of X G z_len,PySem.W.mg_none_of X G z_all,PySem.W.mg_none_of X G z_range,PySem.W.mg_none_of X G z_abs,PySem.W.mg_none_of X G z_max,PySem.W.mg_none_of X G z_rev,⟨t_far,PySem.W.mg_of X G g_far⟩,⟨t_lon,PySem.W.mg_of X G g_lon⟩,⟨t_most,PySem.W.mg_of X G g_most⟩,⟨t_sig,PySem.W.mg_of X G g_sig⟩,⟨t_fig,PySem.W.mg_of X G g_fig⟩,⟨t_dep,PySem.W.mg_of X G g_dep⟩,⟨t_rou,PySem.W.mg_of X G g_rou⟩,⟨t_las,PySem.W.mg_of X G g_las⟩⟩
 have Yw:Wy l.prog w K mg:=wy_mk (PySem.W.mg_of X G ym) yz yl yl0 yl1 yl2 yl3 yl4 yl5 yl6 yl7
 have bCo:=DCo.F.binds (ps:=["thing"]) fun _ _ _ _ _ _ us hl=>by obtain ⟨_,rfl⟩:=ln1 hl; rfl
 have bNx:=DNx.F.binds (ps:=["words"]) fun _ _ _ _ _ _ us hl=>by obtain ⟨_,rfl⟩:=ln1 hl; rfl
 have bEx:=DEx.F.binds (ps:=["words","wanted"]) fun _ _ _ _ _ _ us hl=>by obtain ⟨_,_,rfl⟩:=ln2 hl; rfl
 have bNw:=DNw.F.binds (ps:=["word"]) fun _ _ _ _ _ _ us hl=>by obtain ⟨_,rfl⟩:=ln1 hl; rfl
 have bNu:=DNu.F.binds (ps:=["word","least","most"]) fun _ _ _ _ _ _ us hl=>by obtain ⟨_,_,_,rfl⟩:=ln3 hl; rfl
 have bRL:=DRL.F.binds (ps:=["words"]) fun _ _ _ _ _ _ us hl=>by obtain ⟨_,rfl⟩:=ln1 hl; rfl
 have bRB:=DRB.F.binds (ps:=["words"]) fun _ _ _ _ _ _ us hl=>by obtain ⟨_,rfl⟩:=ln1 hl; rfl
 have bRK:=DRK.F.binds (ps:=["words"]) fun _ _ _ _ _ _ us hl=>by obtain ⟨_,rfl⟩:=ln1 hl; rfl
 have bRT:=DRT.F.binds (ps:=["words","depth"]) fun _ _ _ _ _ _ us hl=>by obtain ⟨_,_,rfl⟩:=ln2 hl; rfl
 have bRM:=DRM.F.binds (ps:=["word","words","depth"]) fun _ _ _ _ _ _ us hl=>by obtain ⟨_,_,_,rfl⟩:=ln3 hl; rfl
 have bRI:=DRI.F.binds (ps:=["words","depth"]) fun _ _ _ _ _ _ us hl=>by obtain ⟨_,_,rfl⟩:=ln2 hl; rfl
 have bRS:=DRS.F.binds (ps:=["words","depth"]) fun _ _ _ _ _ _ us hl=>by obtain ⟨_,_,rfl⟩:=ln2 hl; rfl
 have bRR:=DRR.F.binds (ps:=["words","depth"]) fun _ _ _ _ _ _ us hl=>by obtain ⟨_,_,rfl⟩:=ln2 hl; rfl
 have bRd:=DRd.F.binds (ps:=["text"]) fun _ _ _ _ _ _ us hl=>by obtain ⟨_,rfl⟩:=ln1 hl; rfl
 have bSL:=DSL.F.binds (ps:=["x","y"]) fun _ _ _ _ _ _ us hl=>by obtain ⟨_,_,rfl⟩:=ln2 hl; rfl
 have bSI:=DSI.F.binds (ps:=["strokes"]) fun _ _ _ _ _ _ us hl=>by obtain ⟨_,rfl⟩:=ln1 hl; rfl
 have bSS:=DSS.F.binds (ps:=["stroke"]) fun _ _ _ _ _ _ us hl=>by obtain ⟨_,rfl⟩:=ln1 hl; rfl
 have bSh:=DSh.F.binds (ps:=["strokes"]) fun _ _ _ _ _ _ us hl=>by obtain ⟨_,rfl⟩:=ln1 hl; rfl
 have bN:=DN.F.binds (ps:=["_law_cell","_law_k"]) fun _ _ _ _ _ _ us hl=>by obtain ⟨_,_,rfl⟩:=ln2 hl; rfl
 have bWy:=DWy.F.binds (ps:=[]) fun _ _ _ _ _ _ us hl=>match us,hl with | [],_=>rfl
 have bF:=DF.F.binds (ps:=["_law_number_here","_law_sort"]) fun _ _ _ _ _ _ us hl=>by obtain ⟨_,_,rfl⟩:=ln2 hl; rfl
 have bPl:=DPl.F.binds (ps:=["_law_number_here"]) fun _ _ _ _ _ _ us hl=>by obtain ⟨_,rfl⟩:=ln1 hl; rfl
 have bHd:=DHd.F.binds (ps:=["_law_number_here"]) fun _ _ _ _ _ _ us hl=>by obtain ⟨_,rfl⟩:=ln1 hl; rfl
 have bCz:=DCz.F.binds (ps:=["_law_stack","_law_words"]) fun _ _ _ _ _ _ us hl=>by obtain ⟨_,_,rfl⟩:=ln2 hl; rfl
 have bTr:=DTr.F.binds (ps:=["_law_cells"]) fun _ _ _ _ _ _ us hl=>by obtain ⟨_,rfl⟩:=ln1 hl; rfl
 refine ⟨PySem.W.fnOf "law" "law" (defArgs sLaw) (defBody sLaw) (defScope sLaw) .none kVZ dcZ pmZ anZ cdZ ctZ,fun s v=>.of_eq rfl,fun base _ _=>?_⟩
 have GNx:FnOk l.prog w K mg base CX0 1 fNx _ ["words"] spNext:=ok_next DNx
 have GNu:FnOk l.prog w K mg base CX0 2 fNu _ ["word","least","most"] spNumber:=ok_number DNu B DNw bNw (ok_numW DNw B)
 have GRR:FnOk l.prog w K mg base CX0 39 fRR _ ["words","depth"] (spRow 9):=rows B Yw DRR bRR DRS bRS DRI bRI DRT bRT DRM bRM DEx bEx (ok_expect DEx DNx bNx GNx) DNx bNx GNx DNu bNu GNu DRL bRL (ok_rdLine DRL B DNx bNx GNx DNu bNu GNu) DRB bRB (ok_rdBy DRB B DNx bNx GNx DNu bNu GNu) DRK bRK (ok_rdInk DRK DNx bNx GNx DCo bCo (ok_colour DCo B)) 9
 have GRd:FnOk l.prog w K mg base CX0 40 fRd _ ["text"] spRead:=ok_read DRd B DRR bRR GRR
 have GSh:FnOk l.prog w K mg base CX0 28 fSh _ ["strokes"] (spShown 9):=showns B DSh bSh DSS bSS DSL bSL (ok_shLine DSL Yw) DSI bSI 9
 have GWy:FnOk l.prog w K mg base CX0 2 fWy _ [] spWays:=ok_ways DWy
 have GF:FnOk l.prog w K mg base CX0 1 fF _ ["_law_number_here","_law_sort"] spFar:=ok_far DF B
 have GPl:FnOk l.prog w K mg base CX0 3 fPl _ ["_law_number_here"] spPlain:=ok_plain DPl DWy bWy GWy DF bF GF
 have GTr:FnOk l.prog w K mg base CX0 4 fTr _ ["_law_cells"] (spTree K):=ok_tree DTr B DN bN (ok_num DN) DPl bPl GPl DHd bHd (ok_head DHd B) DCz bCz (ok_closed DCz)
 exact ok_law DZ B DTr bTr GTr DRd bRd GRd DSh bSh (GSh.mono (by decide)) DWy bWy GWy (by decide)
theorem walk {l:PySem.W.OpenLaw} {q:Program} {loose:List Str} {XP:(Str→Option Value)→Heap→Prop} {YP:World→Heap→Prop} {d:DefRec} {K:Params→PySem.W.Frag} (hn:l.most=some 63) (hdf:d.params.defaults=[])
  (hY:∀ (w:World) (h:Heap),YP w h→(K w.params).In h)
  (F:∀ (w:World) (mg:Str→Option Value) (fa:Addr) (h:Heap),(K w.params).In h→h.Ns mainGlobals mg→mg d.name=some (.ref fa) →
   ∃ fd:FuncData,(∀ (s:Shared) (u:Value),BindsTo s fd ⟨[u],[]⟩ [("_law_script",u)])∧∀ base:Heap,(K w.params).In base→base.Ns mainGlobals mg→FnOk l.prog w (K w.params) mg base CX0 41 fa fd ["_law_script"] (spLaw (K w.params))) :
  PySem.W.WalkO q loose XP YP l.row.toRowW d [] (fun f vs=>PySem.call f vs) :=
 L2.walk_of (n:=63) (k:=41) (x:="_law_script") (CX:=fun _=>CX0) (sp:=fun w=>spLaw (K w.params)) hn (by decide) hdf ⟨rfl,by decide,by decide⟩ hY F (fun _ _ a ns hl _ hS=>⟨a,ns,rfl,hS,hl,fun _=>rfl⟩) fun _ _ _ _ _ z=>z
end K21
open PySem PySem.W PyProof.Rows
set_option maxRecDepth 100000 in
set_option maxHeartbeats 0 in
theorem PySem.Challenge.cw_bothfaces_k21_drawings_read_holds : PySem.Challenge.rw_bothfaces_k21_drawings_read.Holds := by
 w_on; o_law; k_head; (case hw=>w_witness2)
 k_fill
 refine K21.walk (l:=PySem.Challenge.rw_bothfaces_k21_drawings_read) rfl rfl (fun w h Y=>PySem.W.kIn_of Y) ?F
 case F =>
  intro w mg fa h KX G hmg
  refine' K21.all_mk KX G hmg ?aCo ?lCo ?cCo ?kCo ?aNx ?lNx ?cNx ?kNx ?aEx ?lEx ?cEx ?kEx ?aNw ?lNw ?cNw ?kNw ?aNu ?lNu ?cNu ?kNu ?aRL ?lRL ?cRL ?kRL ?aRB ?lRB ?cRB ?kRB ?aRK ?lRK ?cRK ?kRK ?aRT ?lRT ?cRT ?kRT ?aRM ?lRM ?cRM ?kRM ?aRI ?lRI ?cRI ?kRI ?aRS ?lRS ?cRS ?kRS ?aRR ?lRR ?cRR ?kRR ?aRd ?lRd ?cRd ?kRd ?aSL ?lSL ?cSL ?kSL ?aSI ?lSI ?cSI ?kSI ?aSS ?lSS ?cSS ?kSS ?aSh ?lSh ?cSh ?kSh ?aN ?lN ?cN ?kN ?aWy ?lWy ?cWy ?kWy ?aF ?lF ?cF ?kF ?aPl ?lPl ?cPl ?kPl ?aHd ?lHd ?cHd ?kHd ?aCz ?lCz ?cCz ?kCz ?aTr ?lTr ?cTr ?kTr ?aZ ?lZ ?cZ ?kZ ?ym ?yz ?yl ?yl0 ?yl1 ?yl2 ?yl3 ?yl4 ?yl5 ?yl6 ?yl7 ?z_isi ?z_int ?z_list ?z_str ?z_len ?z_all ?z_range ?z_abs ?z_max ?z_rev ?g_far ?g_lon ?g_most ?g_sig ?g_fig ?g_dep ?g_rou ?g_las
  (case aCo=>k_is)
  (case lCo=>k_is)
  (case cCo=>k_is)
  (case kCo=>k_is)
  (case aNx=>k_is)
  (case lNx=>k_is)
  (case cNx=>k_is)
  (case kNx=>k_is)
  (case aEx=>k_is)
  (case lEx=>k_is)
  (case cEx=>k_is)
  (case kEx=>k_is)
  (case aNw=>k_is)
  (case lNw=>k_is)
  (case cNw=>k_is)
  (case kNw=>k_is)
  (case aNu=>k_is)
  (case lNu=>k_is)
  (case cNu=>k_is)
  (case kNu=>k_is)
  (case aRL=>k_is)
  (case lRL=>k_is)
  (case cRL=>k_is)
  (case kRL=>k_is)
  (case aRB=>k_is)
  (case lRB=>k_is)
  (case cRB=>k_is)
  (case kRB=>k_is)
  (case aRK=>k_is)
  (case lRK=>k_is)
  (case cRK=>k_is)
  (case kRK=>k_is)
  (case aRT=>k_is)
  (case lRT=>k_is)
  (case cRT=>k_is)
  (case kRT=>k_is)
  (case aRM=>k_is)
  (case lRM=>k_is)
  (case cRM=>k_is)
  (case kRM=>k_is)
  (case aRI=>k_is)
  (case lRI=>k_is)
  (case cRI=>k_is)
  (case kRI=>k_is)
  (case aRS=>k_is)
  (case lRS=>k_is)
  (case cRS=>k_is)
  (case kRS=>k_is)
  (case aRR=>k_is)
  (case lRR=>k_is)
  (case cRR=>k_is)
  (case kRR=>k_is)
  (case aRd=>k_is)
  (case lRd=>k_is)
  (case cRd=>k_is)
  (case kRd=>k_is)
  (case aSL=>k_is)
  (case lSL=>k_is)
  (case cSL=>k_is)
  (case kSL=>k_is)
  (case aSI=>k_is)
  (case lSI=>k_is)
  (case cSI=>k_is)
  (case kSI=>k_is)
  (case aSS=>k_is)
  (case lSS=>k_is)
  (case cSS=>k_is)
  (case kSS=>k_is)
  (case aSh=>k_is)
  (case lSh=>k_is)
  (case cSh=>k_is)
  (case kSh=>k_is)
  (case aN=>k_is)
  (case lN=>k_is)
  (case cN=>k_is)
  (case kN=>k_is)
  (case aWy=>k_is)
  (case lWy=>k_is)
  (case cWy=>k_is)
  (case kWy=>k_is)
  (case aF=>k_is)
  (case lF=>k_is)
  (case cF=>k_is)
  (case kF=>k_is)
  (case aPl=>k_is)
  (case lPl=>k_is)
  (case cPl=>k_is)
  (case kPl=>k_is)
  (case aHd=>k_is)
  (case lHd=>k_is)
  (case cHd=>k_is)
  (case kHd=>k_is)
  (case aCz=>k_is)
  (case lCz=>k_is)
  (case cCz=>k_is)
  (case kCz=>k_is)
  (case aTr=>k_is)
  (case lTr=>k_is)
  (case cTr=>k_is)
  (case kTr=>k_is)
  (case aZ=>k_is)
  (case lZ=>k_is)
  (case cZ=>k_is)
  (case kZ=>k_is)
  (case ym=>k_is)
  (case yz=>rfl)
  (case yl=>k_is)
  (case yl0=>k_is)
  (case yl1=>k_is)
  (case yl2=>k_is)
  (case yl3=>k_is)
  (case yl4=>k_is)
  (case yl5=>k_is)
  (case yl6=>k_is)
  (case yl7=>k_is)
  (case z_isi=>k_is)
  (case z_int=>k_is)
  (case z_list=>k_is)
  (case z_str=>k_is)
  (case z_len=>k_is)
  (case z_all=>k_is)
  (case z_range=>k_is)
  (case z_abs=>k_is)
  (case z_max=>k_is)
  (case z_rev=>k_is)
  (case g_far=>k_is)
  (case g_lon=>k_is)
  (case g_most=>k_is)
  (case g_sig=>k_is)
  (case g_fig=>k_is)
  (case g_dep=>k_is)
  (case g_rou=>k_is)
  (case g_las=>k_is)
