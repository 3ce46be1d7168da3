import PyProof.Rows.All
import Wide.All
import OpenK.AllK
import Wide.FinOn
import Lean
import PyProof.EqAt
import PyProof.EqKinds
import PyProof.TupleCall
import PyProof.NeKinds
import Wide.Seal
import KE.KDictList
import KE.KSortTup
import KE.KDictOf
import KE.KTryMore
import PyProof.CompUse
import PyProof.AttrMissHeap
import PyProof.Rows.TupTab
import PyProof.ZipIter
import PyProof.Rows.ZipGen
import PyProof.LayNew
import KE.KRevSl
import PyProof.SumWalk
import PyProof.EnumMake
import PyProof.EnumFor
import PyProof.Rows.EnumRows
import PyProof.ListRange
import PyProof.Rows.Range3
import PyProof.Rows.TupDisplay
import PyProof.ListIndex
import PyProof.StrOps2
import PyProof.NoPylong
import PyProof.Draws
import PyProof.Conv_int_bool
import KE.KItemsList
import PyProof.FactsAll.set_2
import PyProof.MeetsSeq2
import PySem.Challenge.RW_bothfaces_k63_whole_alike_faces
abbrev za0:=@List.length_map
abbrev za1:=@List.length_append
abbrev za2:=@List.getElem?_eq_getElem
abbrev za3:=@List.getElem?_eq_some_iff
abbrev za4:=@Nat.le_refl
abbrev za5:=@List.mem_append_right
abbrev za6:=@List.mem_map
abbrev za7:=@List.mem_singleton
abbrev za8:=@Array.length_toList
abbrev za9:=@List.mem_append
abbrev zaa:=@List.mem_cons
abbrev zab:=@Bool.false_eq_true
abbrev zac:=@List.mem_cons_of_mem
abbrev zad:=@List.mem_cons_self
abbrev zae:=@List.mem_append_left
abbrev zaf:=@Array.getElem?_eq_getElem
abbrev zag:=@List.size_toArray
abbrev zah:=@List.length_cons
abbrev zai:=@List.append_assoc
abbrev zaj:=@Bool.false_ne_true
abbrev zak:=@List.mem_of_getElem?
abbrev zal:=@List.getElem?_append_left
abbrev zam:=@List.length_singleton
abbrev zan:=@List.length_take
abbrev zao:=@List.getElem?_map
abbrev zap:=@Nat.ne_of_lt
abbrev zaq:=@Array.getElem?_toList
abbrev zar:=@List.map_append
abbrev zas:=@List.take_of_length_le
abbrev zat:=@List.getElem?_append_right
abbrev zau:=@List.append_nil
abbrev zav:=@List.pairwise_append
abbrev zaw:=@List.mem_iff_getElem?
abbrev zax:=@Nat.lt_of_lt_of_le
abbrev zay:=@List.map_cons
abbrev zaz:=@List.take_append_drop
abbrev zb0:=@List.take_add_one
abbrev zb1:=@Nat.le_trans
abbrev zb2:=@List.perm_append_comm
abbrev zb3:=@List.take_zero
abbrev zb4:=@List.pairwise_iff_getElem
abbrev zb5:=@Array.toList_append
abbrev zb6:=@Array.mem_toList_iff
abbrev zb7:=@List.not_mem_nil
abbrev zb8:=@Array.mem_of_getElem?
abbrev zb9:=@List.length_drop
abbrev zba:=@Nat.zero_le
abbrev zbb:=@List.nodup_cons
abbrev zbc:=@List.length_nil
abbrev zbd:=@List.getElem?_drop
abbrev zbe:=@Nat.lt_succ_self
abbrev zbf:=@List.mem_filter
abbrev zbg:=@List.getElem?_eq_none
abbrev zbh:=@List.eq_nil_or_concat
abbrev zbi:=@List.concat_eq_append
abbrev zbj:=@List.mem_flatten
abbrev zbk:=@Nat.le_of_lt_succ
abbrev zbl:=@List.pairwise_map
abbrev zbm:=@List.filter_cons_of_pos
abbrev zbn:=@List.filter_cons_of_neg
abbrev zbo:=@List.getElem?_take
abbrev zbp:=@List.drop_eq_nil_of_le
abbrev zbq:=@List.getElem?_zip_eq_some
abbrev zbr:=@List.nil_append
abbrev zbs:=@Option.some_ne_none
abbrev zbt:=@Nat.lt_succ_of_lt
abbrev zbu:=@List.nodup_append
abbrev zbv:=@Nat.lt_irrefl
abbrev zbw:=@List.zip_cons_cons
abbrev zbx:=@List.length_eq_zero_iff
abbrev zby:=@List.mem_of_mem_take
abbrev zbz:=@List.take_sublist
abbrev zc0:=@List.reverse_cons
abbrev zc1:=@List.filter_append
abbrev zc2:=@List.cons_append
abbrev zc3:=@List.find?_cons
abbrev zc4:=@List.toList_toArray
abbrev zc5:=@Array.getElem?_eq_none
abbrev zc6:=@List.perm_ext_iff_of_nodup
abbrev zc7:=@Bool.and_eq_true
abbrev zc8:=@List.getElem_mem
abbrev zc9:=@Nat.ne_of_gt
abbrev zca:=@Nat.lt_or_ge
abbrev zcb:=@Bool.not_true
abbrev zcc:=@List.length_filter_le
abbrev zcd:=@List.mem_of_mem_drop
abbrev zce:=@List.drop_sublist
abbrev zcf:=@List.forIn_cons
abbrev zcg:=@Nat.add_sub_cancel_left
abbrev zch:=@List.mem_range
abbrev zci:=@List.nodup_nil
set_option Elab.async false
set_option linter.all false
set_option maxRecDepth 100000
set_option maxHeartbeats 4000000
namespace L2
open PySem PySem.Spec PyProof.Rows
abbrev Key:=Sum Int Str
def keyIs:Key→Value→Bool
 | .inl k,v=>Value.isInt k v
 | .inr x,v=>Value.isStrOf x v
def keyH(w:World):Key→Int
 | .inl k=>hashInt k
 | .inr x=>hashStr w x
theorem br:∀ {k:Key} {v:Value},keyIs k v=true→(∃ i t,k=Sum.inl i∧v=Value.int i t)∨(∃ x t,k=Sum.inr x∧v=Value.str x t)
 | .inl i,v,h=>by
  obtain⟨t,e⟩:=Value.isInt_shape (k:=i) (v:=v) h
  exact .inl ⟨i,t,rfl,e⟩
 | .inr x,v,h=>by
  obtain⟨t,e⟩:=Value.isStrOf_shape (x:=x) (v:=v) h
  exact .inr ⟨x,t,rfl,e⟩
theorem keyIs_int(i:Int)(t:Tok):keyIs (.inl i) (.int i t)=true:=by simp[keyIs,Value.isInt]
theorem keyIs_str(x:Str)(t:Tok):keyIs (.inr x) (.str x t)=true:=by simp[keyIs,Value.isStrOf]
theorem key_ll(a b:Int):decide ((Sum.inl a:Key)=Sum.inl b)=(a==b):=by
 by_cases e:a=b
 ·subst e;simp
 ·have h:¬ (Sum.inl a:Key)=Sum.inl b:=fun q=>e (Sum.inl.inj q)
  rw[decide_eq_false h]
  exact(beq_eq_false_iff_ne.mpr e).symm
theorem key_rr(a b:Str):decide ((Sum.inr a:Key)=Sum.inr b)=decide (a=b):=by
 by_cases e:a=b
 ·subst e;simp
 ·have h:¬ (Sum.inr a:Key)=Sum.inr b:=fun q=>e (Sum.inr.inj q)
  rw[decide_eq_false h,decide_eq_false e]
theorem key_lr(a:Int)(b:Str):decide ((Sum.inl a:Key)=Sum.inr b)=false:=decide_eq_false (fun q=>nomatch q)
theorem key_rl(a:Str)(b:Int):decide ((Sum.inr a:Key)=Sum.inl b)=false:=decide_eq_false (fun q=>nomatch q)
def c8(prog:Program)(w:World):PySem.KeyKind prog w Key where
 is:=keyIs
 hash:=keyH w
 inj:=fun v a b ha hb=>by
  rcases br ha with ⟨i,t,rfl,rfl⟩ | ⟨x,t,rfl,rfl⟩
  ·rcases br hb with ⟨j,u,rfl,e⟩ | ⟨y,u,rfl,e⟩
   ·injection e with e1 _;rw[e1]
   ·exact nomatch e
  ·rcases br hb with ⟨j,u,rfl,e⟩ | ⟨y,u,rfl,e⟩
   ·exact nomatch e
   ·injection e with e1 _;rw[e1]
 byValue:=fun k v h=>by
  rcases br h with ⟨i,t,rfl,rfl⟩ | ⟨x,t,rfl,rfl⟩<;>rfl
 pyHash:=fun hv h=>by
  rcases br hv with ⟨i,t,rfl,rfl⟩ | ⟨x,t,rfl,rfl⟩
  ·exact wpAny_pyHash_int h
  ·exact wpAny_pyHash_str h
 eqBool:=fun hu hv h=>by
  rcases br hu with ⟨i,t,rfl,rfl⟩ | ⟨x,t,rfl,rfl⟩
  ·rcases br hv with ⟨j,u,rfl,rfl⟩ | ⟨y,u,rfl,rfl⟩
   ·rw[key_ll]at h;exact wpAny_eqBool_int h
   ·rw[key_lr]at h;exact SeqAt.EqAt.int_str i t y u _ _ _ _ h
  ·rcases br hv with ⟨j,u,rfl,rfl⟩ | ⟨y,u,rfl,rfl⟩
   ·rw[key_rl]at h;exact SeqAt.EqAt.str_int x t j u _ _ _ _ h
   ·rw[key_rr]at h;exact wpAny_eqBool_str h
 «strs»:=fun k x t v h=>by
  rcases br h with ⟨i,u,rfl,e⟩ | ⟨y,u,rfl,e⟩
  ·exact nomatch e
  ·injection e with e1 _
   subst e1
   cases v<;>rfl
theorem mixKind_int(prog:Program)(w:World)(i:Int)(t:Tok):(c8 prog w).is (.inl i) (.int i t)=true:=keyIs_int i t
theorem mixKind_str(prog:Program)(w:World)(x:Str)(t:Tok):(c8 prog w).is (.inr x) (.str x t)=true:=keyIs_str x t
inductive V where
 | non | bl (b:Bool) | int (i:Int) | str (x:Str) | byt (b:Array UInt8) | flt (b:UInt64) | ref (a:Addr) | ty (n:String)
 deriving DecidableEq
def RelV:V→Value→Prop
 | .non,u=>u=Value.none
 | .bl b,u=>u=Value.bool b
 | .int i,u=>∃ t,u=Value.int i t
 | .str x,u=>∃ t,u=Value.str x t
 | .byt b,u=>∃ t,u=Value.bytes b t
 | .flt b,u=>∃ t,u=Value.float b t
 | .ref a,u=>u=Value.ref a
 | .ty n,u=>u=Value.type n
abbrev Vals:List V→List Value→Prop:=Paired RelV
theorem Vals.length{xs:List V}{us:List Value}(r:Vals xs us):xs.length=us.length:=Paired.length r
theorem Vals.get:∀ {xs:List V} {us:List Value} {i:Nat} {x:V},Vals xs us→xs[i]?=some x→∃ u,us[i]?=some u∧RelV x u
 | _,_,_,_,.nil,e=>by simp at e
 | _,_,0,_,.cons r _,e=>by simp at e;subst e;exact⟨_,rfl,r⟩
 | _,_,i+1,x,.cons _ t,e=>by
  obtain⟨u,h1,h2⟩:=Vals.get (i:=i) (x:=x) t (by simpa using e)
  exact⟨u,by simpa using h1,h2⟩
theorem Vals.append:∀ {xs ys:List V} {us ws:List Value},Vals xs us→Vals ys ws→Vals (xs++ys) (us++ws)
 | []=>by intro g s;cases g;exact s
 | x::xs=>by
  intro g s
  cases g with
  | cons r t=>exact .cons r (Vals.append t s)
theorem Vals.take:∀ {xs:List V} {us:List Value} (n:Nat),Vals xs us→Vals (xs.take n) (us.take n)
 | _,_,0,_=>.nil
 | _,_,_+1,.nil=>.nil
 | _,_,n+1,.cons r t=>.cons r (Vals.take n t)
theorem Vals.drop:∀ {xs:List V} {us:List Value} (n:Nat),Vals xs us→Vals (xs.drop n) (us.drop n)
 | _,_,0,r=>r
 | _,_,_+1,.nil=>.nil
 | _,_,n+1,.cons _ t=>Vals.drop n t
def RelO:Option V→Option Value→Prop
 | some v,some u=>RelV v u
 | none,none=>True
 | _,_=>False
def KV{κ:Type}:List (κ×V)→List (κ×Value)→Prop:=Paired fun(p:κ×V) (q:κ×Value)=>p.1=q.1∧RelV p.2 q.2
def kV:Key→V
 | .inl i=>.int i
 | .inr x=>.str x
inductive HO where
 | lst (xs:List V)
 | tup (xs:List V)
 | dK (kvs:List (Key×V)) | dT (kvs:List (List Key×V))
 | set (S:Int→Bool) (n:Nat)
 | ins (C dx:Addr) (fs:List (Str×V))
 | own (x:Addr)
 | xd (fs:List (Str×V))
 | met (f x:Addr)
 | rng (lo hi:Int)
 | frz (o:Obj) (u:HO)
 | tbl (ps:Array Value)
 | ext (φ:Heap→Prop)
abbrev Hp:=Addr→Option HO
def upd(H:Hp)(a:Addr)(o:HO):Hp:=fun b=>if b=a then some o else H b
theorem a6{H:Hp}{a:Addr}{o:HO}:upd H a o a=some o:=by unfold upd;rw[if_pos rfl]
theorem af{H:Hp}{a b:Addr}{o:HO}(h:b≠a):upd H a o b=H b:=by unfold upd;rw[if_neg h]
theorem dI{H:Hp}{a b:Addr}{o:HO}(h:H a=some o)(h':H b=none):a≠b:=by
 intro e;subst e;rw[h]at h';cases h'
def TupX(h:Heap)(a:Addr)(items:Array Value):Prop:=∃ o,h.get? a=some o∧o.cls=.type "tuple"∧∃ n,(o.data,o.dict)=(.seq items n,(none:Option Addr))
theorem TupX.tup{h:Heap}{a:Addr}{items:Array Value}(p:TupX h a items):IsTup h a items:=by
 obtain⟨o,e,c,n,d⟩:=p
 exact⟨o,e,c,n,congrArg Prod.fst d⟩
theorem TupX.new(h:Heap)(items:Array Value):TupX (h.push { cls:=.type "tuple",data:=.seq items }) h.objs.size items:=⟨_,Heap.get?_push_size _ rfl,rfl,_,rfl⟩
section
variable(P:Program)(w:World)
def bb(H:Hp)(h:Heap)(a:Addr):HO→Prop
 | .lst xs=>xs.length≤sizeLine∧∃ (its:List Value) (n:Nat),Vals xs its∧h.get? a=some { cls:=.type "list",data:=.seq its.toArray n }
 | .tup xs=>xs.length≤sizeLine∧∃ its:List Value,Vals xs its∧TupX h a its.toArray
 | .dK kvs=>kvs.length≤sizeLine∧(a==sysModules)=false∧∃ vs,KV kvs vs∧h.DictOf (c8 P w) a vs
 | .dT kvs=>kvs.length≤sizeLine∧(a==sysModules)=false∧∃ xs:List (List Key×Addr×Value),
   Paired (fun(p:List Key×V) (q:List Key×Addr×Value)=>p.1=q.1∧H q.2.1=some (.tup (p.1.map kV))∧RelV p.2 q.2.2) kvs xs ∧
   ∃ o es ep,h.get? a=some o∧o.ExactDict∧o.data=.dict es ep∧es.toList=xs.map (entryOfKey (tupleKind (c8 P w)))∧(xs.map (·.1)).Nodup
 | .set S n=>h.SetOf (intKind P w) a S n
 | .ins C dx fs=>H dx=some (.own a)∧fs.length≤1000∧dx≠a∧h.get? a=some (PySem.W.instObj C dx) ∧
   ∃ mA,h.Ns1 dx mA∧(∀ f,RelO (fs.lookup f) (mA f))∧PySem.Within mA (fs.map (·.1))
 | .own _=>∃ o,h.get? a=some o
 | .xd fs=>∃ mA,h.Ns1 a mA∧∀ f,RelO (fs.lookup f) (mA f)
 | .rng lo hi=>∃ t u v,h.get? a=some { cls:=.type "range",data:=.fields #[.int lo t,.int hi u,.int 1 v] }
 | .frz o u=>h.get? a=some o∧bb H h a u
 | .tbl ps=>h.get? a=some { cls:=.none,data:=.fields ps }
 | .met f x=>h.get? a=some (PySem.W.methodObj (.ref f) (.ref x))
 | .ext φ=>φ h∧(∃ o,h.get? a=some o)∧∀ h1 h2:Heap,φ h1→(∀ o,h1.get? a=some o→h2.get? a=some o)→φ h2
def HOk(H:Hp)(h:Heap):Prop:=∀ a o,H a=some o→bb P w H h a o
end
section
variable{P:Program}{w:World}{H H':Hp}{h h':Heap}{a:Addr}{o:HO}
theorem bb.lt(x:bb P w H h a o):a<h.objs.size:=by
 cases o with
 | lst xs=>obtain⟨_,_,_,_,e⟩:=x;exact Heap.lt_size e
 | tup xs=>obtain⟨_,_,_,p⟩:=x;exact p.tup.lt
 | dK kvs=>obtain⟨_,_,_,_,o,_,_,e,_⟩:=x;exact Heap.lt_size e
 | dT kvs=>obtain⟨_,_,_,_,o,_,_,e,_⟩:=x;exact Heap.lt_size e
 | set S n=>obtain⟨o,_,_,_,e,_⟩:=x;exact Heap.lt_size e
 | ins C dx fs=>obtain⟨_,_,_,e,_⟩:=x;exact Heap.lt_size e
 | own y=>obtain⟨_,e⟩:=x;exact Heap.lt_size e
 | xd fs=>obtain⟨_,⟨_,_,_,e,_⟩,_⟩:=x;exact Heap.lt_size e
 | rng lo hi=>obtain⟨_,_,_,e⟩:=x;exact Heap.lt_size e
 | frz ob u=>obtain⟨e,_⟩:=x;exact Heap.lt_size e
 | tbl ps=>exact Heap.lt_size (show h.get? a=some _ from x)
 | met f y=>exact Heap.lt_size (show h.get? a=some _ from x)
 | ext φ=>obtain⟨_,⟨_,e⟩,_⟩:=x;exact Heap.lt_size e
theorem Paired.mapP{α β:Type}{F G:α→β→Prop}:∀ {l₁:List α} {l₂:List β},Paired F l₁ l₂→(∀ a b,F a b→G a b)→Paired G l₁ l₂
 | []=>by intro g f;cases g;exact .nil
 | x::l=>by
  intro g f
  cases g with
  | cons r t=>exact .cons (f _ _ r) (Paired.mapP t f)
theorem bb.stay(x:bb P w H h a o)(k:∀ b u,(b=a∨H b=some (.own a))→h.get? b=some u→h'.get? b=some u)
  (ho:∀ b,H b=some (.own a)→H' b=some (.own a)) (ht:∀ b xs,H b=some (.tup xs)→H' b=some (.tup xs)):bb P w H' h' a o:=by
 induction o with
 | lst xs=>obtain⟨z,its,n,r,e⟩:=x;exact⟨z,its,n,r,k _ _ (.inl rfl) e⟩
 | tup xs=>obtain⟨z,its,r,ob,e,c⟩:=x;exact⟨z,its,r,ob,k _ _ (.inl rfl) e,c⟩
 | dK kvs=>obtain⟨z,y,vs,r,ob,es,ep,e,c⟩:=x;exact⟨z,y,vs,r,ob,es,ep,k _ _ (.inl rfl) e,c⟩
 | dT kvs =>
  obtain⟨z,y,xs,r,ob,es,ep,e,c⟩:=x
  exact⟨z,y,xs,Paired.mapP r fun p q z=>⟨z.1,ht _ _ z.2.1,z.2.2⟩,ob,es,ep,k _ _ (.inl rfl) e,c⟩
 | set S n=>obtain⟨ob,es,ep,t,e,c⟩:=x;exact⟨ob,es,ep,t,k _ _ (.inl rfl) e,c⟩
 | ins C dx fs =>
  obtain⟨d,z,ne,e,mA,⟨od,es,ep,e2,c⟩,r⟩:=x
  exact⟨ho _ d,z,ne,k _ _ (.inl rfl) e,mA,⟨od,es,ep,k _ _ (.inr d) e2,c⟩,r⟩
 | own y=>obtain⟨ob,e⟩:=x;exact⟨ob,k _ _ (.inl rfl) e⟩
 | xd fs=>obtain⟨mA,⟨od,es,ep,e,c⟩,r⟩:=x;exact⟨mA,⟨od,es,ep,k _ _ (.inl rfl) e,c⟩,r⟩
 | rng lo hi=>obtain⟨t,u,v,e⟩:=x;exact⟨t,u,v,k _ _ (.inl rfl) e⟩
 | frz ob u ih=>obtain⟨e,q⟩:=x;exact⟨k _ _ (.inl rfl) e,ih q⟩
 | tbl ps =>
  have e:h.get? a=some { cls:=.none,data:=.fields ps }:=x
  show h'.get? a=some { cls:=.none,data:=.fields ps }
  exact k a _ (.inl rfl) e
 | met f y =>
  have e:h.get? a=some (PySem.W.methodObj (.ref f) (.ref y)):=x
  show h'.get? a=some (PySem.W.methodObj (.ref f) (.ref y))
  exact k a _ (.inl rfl) e
 | ext φ=>obtain⟨p,⟨o,e⟩,st⟩:=x;exact⟨st _ _ p fun o q=>k _ _ (.inl rfl) q,⟨o,k _ _ (.inl rfl) e⟩,st⟩
theorem HOk.lt(x:HOk P w H h)(e:H a=some o):a<h.objs.size:=(x a o e).lt
theorem HOk.fresh(x:HOk P w H h)(e:h.objs.size≤a):H a=none:=by
 cases q:H a with
 | none=>rfl
 | some u=>exact absurd (zax (x.lt q) e) (zbv _)
theorem HOk.kept(x:HOk P w H h)(k:∀ b u,h.get? b=some u→h'.get? b=some u):HOk P w H h':=fun a o e =>
 (x a o e).stay (fun b u _ q=>k b u q) (fun _ q=>q) fun _ _ q=>q
theorem HOk.laid(x:HOk P w H h)(k:∀ b u,h.get? b=some u→h'.get? b=some u)(hp:h.objs.size≤a)(new:bb P w (upd H a o) h' a o):HOk P w (upd H a o) h':=fun b u e=>by
 have hn:=x.fresh hp
 by_cases hb:b=a
 ·subst hb;rw[a6]at e;cases e;exact new
 ·rw[af hb]at e
  exact(x b u e).stay (fun c v _ q=>k c v q) (fun c q=>by rw[af (dI q hn)];exact q) fun c xs q=>by rw[af (dI q hn)];exact q
end
def Rd(H:Hp)(a:Addr)(u:HO):Prop:=H a=some u∨∃ o,H a=some (.frz o u)
theorem Rd.ok{P:Program}{w:World}{H:Hp}{h:Heap}{a:Addr}{u:HO}(r:Rd H a u)(x:HOk P w H h):bb P w H h a u:=by
 rcases r with r | ⟨o,r⟩
 ·exact x a u r
 ·obtain⟨_,q⟩:=x a _ r
  exact q
def Mut:Option HO→Prop
 | some (.lst _)=>True
 | some (.dK _)=>True
 | some (.dT _)=>True
 | some (.set _ _)=>True
 | some (.ins _ _ _)=>True
 | some (.ext _)=>True
 | _=>False
section
variable{P:Program}{w:World}{H:Hp}{h h':Heap}{x e:Addr}{o':HO}
theorem HOk.write(ok:HOk P w H h)(mu:Mut (H x))(he:e=x∨H e=some (.own x))(k:∀ b u,b≠e→h.get? b=some u→h'.get? b=some u)(heo:∃ u,h'.get? e=some u)
  (new:bb P w (upd H x o') h' x o'):HOk P w (upd H x o') h':=fun b u q=>by
 have nown:∀ c y,H c=some (.own y)→c≠x:=fun c y r z=>by subst z;rw[r]at mu;exact mu
 have ntup:∀ c xs,H c=some (.tup xs)→c≠x:=fun c xs r z=>by subst z;rw[r]at mu;exact mu
 by_cases hb:b=x
 ·subst hb;rw[a6]at q;cases q;exact new
 ·rw[af hb]at q
  by_cases hbe:b=e
  ·have q':H b=some (.own x):=by
    rcases he with z | z
    ·exact absurd (hbe.trans z) hb
    ·rw[hbe];exact z
   rw[q]at q';cases q'
   obtain⟨v,hv⟩:=heo
   exact⟨v,by rw[hbe];exact hv⟩
  ·refine(ok b u q).stay (fun c v hc r=>k c v ?_ r) (fun c r=>by rw[af (nown c b r)];exact r) fun c xs r=>by rw[af (ntup c xs r)];exact r
   rcases hc with rfl | hc
   ·exact hbe
   ·rintro rfl
    rcases he with z | z
    ·exact nown c b hc z
    ·rw[hc]at z;cases z;exact hb rfl
end
structure Un(fs ex:List Addr)(H H':Hp)(h h':Heap):Prop where
 keep:∀ b o,h.get? b=some o→H b=none→b∉fs→b∉ex→h'.get? b=some o
 slot:∀ b o,h.get? b=some o→H b=none→b∈fs→b∉ex→∃ sl,h'.get? b=some { o with slots:=sl }
 free:∀ b o,h.get? b=some o→H b=none→b∉ex→H' b=none
 there:∀ b o,h.get? b=some o→b∉ex→∃ o',h'.get? b=some o'
 tups:∀ b xs,H b=some (.tup xs)→H' b=some (.tup xs)
 frzs:∀ b o u,H b=some (.frz o u)→H' b=some (.frz o u)
 tbls:∀ b ps,H b=some (.tbl ps)→∃ more,H' b=some (.tbl (ps++more))
section
variable{fs fs' ex ex':List Addr}{H H1 H2:Hp}{h h1 h2 h':Heap}{a x e:Addr}{o:HO}
theorem Un.any(u:Un fs ex H H1 h h1){b:Addr}{ob:Obj}(q:h.get? b=some ob)(n:H b=none)(hx:b∉ex):∃ sl,h1.get? b=some { ob with slots:=sl }:=by
 by_cases hb:b∈fs
 ·exact u.slot b ob q n hb hx
 ·exact⟨ob.slots,u.keep b ob q n hb hx⟩
theorem Un.kept(k:∀ b u,h.get? b=some u→h'.get? b=some u):Un fs ex H H h h' :=
 ⟨fun b ob q _ _ _=>k b ob q,fun b ob q _ _ _=>⟨ob.slots,k b ob q⟩,fun _ _ _ n _=>n,fun b ob q _=>⟨ob,k b ob q⟩,fun _ _ q=>q,fun _ _ _ q=>q,fun _ ps q=>⟨#[],by rw[q];simp⟩⟩
theorem Un.refl:Un fs ex H H h h:=Un.kept fun _ _ q=>q
theorem Un.laid(k:∀ b u,h.get? b=some u→h'.get? b=some u)(hp:h.objs.size≤a)(hn:H a=none):Un fs ex H (upd H a o) h h' where
 keep:=fun b u q _ _ _=>k b u q
 slot:=fun b u q _ _ _=>⟨u.slots,k b u q⟩
 free:=fun b u q n _=>by rw[af (zap (zax (Heap.lt_size q) hp))];exact n
 there:=fun b u q _=>⟨u,k b u q⟩
 tups:=fun b xs q=>by rw[af (dI q hn)];exact q
 frzs:=fun b u xs q=>by rw[af (dI q hn)];exact q
 tbls:=fun b ps q=>⟨#[],by rw[af (dI q hn),q];simp⟩
theorem Un.write(mu:Mut (H x))(he:e=x∨H e=some (.own x))(k:∀ b u,b≠e→h.get? b=some u→h'.get? b=some u)(heo:∃ u,h'.get? e=some u):Un fs ex H (upd H x o) h h':=by
 have hx:∀ b,H b=none→b≠x:=fun b n z=>by subst z;rw[n]at mu;exact mu
 have hb:∀ b,H b=none→b≠e:=fun b n z=>by
  subst z
  rcases he with r | r
  ·exact hx b n r
  ·rw[n]at r;cases r
 have hm:∀ b u,H b=some u→¬ Mut (some u)→b≠x:=fun b u q nm z=>by subst z;rw[q]at mu;exact nm mu
 refine⟨fun b u q n _ _=>k b u (hb b n) q,fun b u q n _ _=>⟨u.slots,k b u (hb b n) q⟩,fun b u q n _=>by rw[af (hx b n)];exact n,fun b u q _=>?_,
  fun b xs q=>by rw[af (hm b _ q fun z=>z)];exact q,fun b u xs q=>by rw[af (hm b _ q fun z=>z)];exact q,fun b ps q=>⟨#[],by rw[af (hm b _ q fun z=>z),q];simp⟩⟩
 by_cases hbe:b=e
 ·subst hbe;exact heo
 ·exact⟨u,k b u hbe q⟩
end
def trk(h:Heap)(H:Hp):List Addr:=(List.range h.objs.size).filter fun a=>(H a).isSome
def hidT(h:Heap)(H:Hp):Heap:=PySem.W.hideAll h (trk h H)
theorem hidT_size(h:Heap)(H:Hp):(hidT h H).objs.size=h.objs.size:=PySem.W.hideAll_size _ _
theorem hidT_get{h:Heap}{H:Hp}{b:Addr}{o:Obj}(e:h.get? b=some o)(n:H b=none):(hidT h H).get? b=some o :=
 PySem.W.hideAll_get _ e fun hm=>by
  have q:(H b).isSome=true:=(zbf.mp hm).2
  rw[n]at q;simp at q
theorem of_hidT{h:Heap}{H:Hp}{b:Addr}{o:Obj}(e:(hidT h H).get? b=some o):h.get? b=some o∧H b=none:=by
 have e':h.get? b=some o:=PySem.W.of_hideAll (trk h H) e
 refine⟨e',?_⟩
 cases q:H b with
 | none=>rfl
 | some x =>
  have hm:b∈trk h H:=zbf.mpr ⟨zch.mpr (Heap.lt_size e'),by simp[q]⟩
  have z:(hidT h H).get? b=none:=PySem.W.hideAll_none (trk h H) hm
  rw[z]at e;cases e
structure Mod(K:PySem.W.Frag)(mg:Str→Option Value)(base:Heap):Prop where
 kin:K.In base
 glob:base.Ns mainGlobals mg
 blt:∃ mb,base.Ns builtinsNs mb∧∀ x:Str,x≠"__name__"→mb x=bootBuiltins x
 nolimit:base.NoLimit
set_option genInjectivity false in
structure Cx where
 prog:Program
 w:World
 K:PySem.W.Frag
 mg:Str→Option Value
 base:Heap
 A:Around
 N:List Str
 s₀:Shared
 H₀:Hp
 env:Env
 outer:List Env
 stack:List Env
 ex:List Addr
 fn:Str→Bool
 calm:Bool
 pn:List (Addr×Obj)
 xe:Value→Shared→Prop
def frs(l:List Env):List Addr:=l.filterMap (·.frame)
abbrev Cx.fs(X:Cx):List Addr:=frs X.outer
def Vis(sc:Scope)(x:Str):Prop:=sc.names.lookup x=some .local∨sc.names.lookup x=some .cell∨sc.names.lookup x=some .free
def Loc(sc:Scope)(x:Str):Prop:=sc.names.lookup x=some .local∨sc.names.lookup x=some .cell
def Look(env:Env)(h:Heap)(m:Str→Option Value)(x:Str)(u:Value):Prop :=
 (env.kindOf x=some .local∧m x=some u)∨((env.kindOf x=some .cell∨env.kindOf x=some .free)∧∃ c,env.cells.lookup x=some c∧h.IsCell c (some u))
structure Cx.Ok(X:Cx):Prop where
 mod:Mod X.K X.mg X.base
 kind:X.env.scope.kind=.function
 glob:X.env.globals=mainGlobals
 blt:X.env.builtins=builtinsNs
 above:X.s₀.heap.objs.size≤X.env.locals
 inj:∀ x y c,X.env.cells.lookup x=some c→X.env.cells.lookup y=some c→x=y
 has:∀ x,(X.env.kindOf x=some .cell∨X.env.kindOf x=some .free)→∃ c,X.env.cells.lookup x=some c
 cab:∀ x c,X.fn x=true→X.env.cells.lookup x=some c→X.s₀.heap.objs.size≤c
 hd:X.calm=true→X.A.handled=none
 frames:X.A.frames=some X.stack
 stk:X.stack=X.outer∨(X.stack=X.env::X.outer∧X.env.frame=some X.env.locals)
 exf:∀ b∈X.ex,b≠X.env.locals∧∀ x c,X.env.cells.lookup x=some c→c≠b
 bs:∀ b o,X.base.get? b=some o→X.s₀.heap.get? b=some o∧X.H₀ b=none
 bsz:X.base.objs.size≤X.s₀.heap.objs.size
 noex:∀ b o,X.base.get? b=some o→b∉X.ex
 exfs:∀ b∈X.ex,b∉X.fs
 funs:X.s₀.heap.FunFrames X.base X.outer
 frf:∀ b∈X.fs,X.H₀ b=none
structure Inv(X:Cx)(pins:List (Addr×Obj))(σ:List (Option V))(H:Hp)(s:Shared):Prop where
 ok:X.Ok
 os:s.os=X.s₀.os
 bare:AllBare s.gens
 base:Un X.fs X.ex X.H₀ H X.s₀.heap s.heap
 loc:∃ m,s.heap.Ns X.env.locals m∧∀ (i:Nat) (x:Str) (v:V),X.N[i]?=some x→σ[i]?=some (some v)→Vis X.env.scope x→∃ u,RelV v u∧Look X.env s.heap m x u
 cell:∀ x c,X.env.cells.lookup x=some c→∃ v,s.heap.IsCell c v
 free:H X.env.locals=none
 freeC:∀ x c,X.env.cells.lookup x=some c→H c=none
 pin:∀ p∈X.pn++pins,s.heap.get? p.1=some p.2∧H p.1=none∧p.1≠X.env.locals∧p.1∉X.fs∧∀ v,p.2.data≠.cell v
 hok:HOk X.prog X.w H s.heap
 len:σ.length=X.N.length
section
variable{X:Cx}{pins:List (Addr×Obj)}{σ:List (Option V)}{H H':Hp}{s:Shared}{h':Heap}
theorem Cx.Ok.nofr(ok:X.Ok){b:Addr}{o:Obj}(e:X.base.get? b=some o):b∉X.fs:=fun hb=>by
 have:=(ok.funs.mem hb).1
 rw[e]at this;cases this
theorem Inv.bs(I:Inv X pins σ H s):∀ b o,X.base.get? b=some o→s.heap.get? b=some o∧H b=none:=fun b o e =>
 ⟨I.base.keep b o (I.ok.bs b o e).1 (I.ok.bs b o e).2 (I.ok.nofr e) (I.ok.noex b o e),I.base.free b o (I.ok.bs b o e).1 (I.ok.bs b o e).2 (I.ok.noex b o e)⟩
theorem Inv.bk(I:Inv X pins σ H s):∀ b o,X.base.get? b=some o→s.heap.get? b=some o:=fun b o e=>(I.bs b o e).1
theorem Inv.mod(I:Inv X pins σ H s):Mod X.K X.mg X.base:=I.ok.mod
theorem Inv.kIn(I:Inv X pins σ H s):X.K.In s.heap:=I.ok.mod.kin.keeps I.bk
theorem Inv.lt(I:Inv X pins σ H s):X.env.locals<s.heap.objs.size:=let ⟨_,hn,_⟩:=I.loc;hn.lt
theorem Inv.sz(I:Inv X pins σ H s):X.s₀.heap.objs.size≤s.heap.objs.size:=zb1 I.ok.above (Nat.le_of_lt I.lt)
theorem Inv.nofs(I:Inv X pins σ H s){a:Addr}(h:s.heap.objs.size≤a):a∉X.fs:=fun hb=>by
 obtain⟨_,o,ho,_⟩:=I.ok.funs.mem hb
 exact absurd (zax (Heap.lt_size ho) (zb1 I.sz h)) (zbv _)
theorem Inv.cne(I:Inv X pins σ H s):∀ x c,X.env.cells.lookup x=some c→c≠X.env.locals:=fun x c e z=>by
 obtain⟨v,o,ho,hd⟩:=I.cell x c e
 obtain⟨m,⟨o',es,ep,ho',hd',_⟩,_⟩:=I.loc
 rw[z,ho']at ho;cases ho;rw[hd']at hd;cases hd
theorem Inv.funs(I:Inv X pins σ H s):s.heap.FunFrames X.base X.outer:=by
 have all:∀ (l:List Env),(∀ b∈frs l,b∈X.fs)→X.s₀.heap.FunFrames X.base l→s.heap.FunFrames X.base l:=by
  intro l
  induction l with
  | nil=>intro _ _;trivial
  | cons env r ih =>
   intro hs hl
   obtain⟨hk,⟨L,o,hf,hn,ho,hd⟩,hr⟩:=hl
   have hL:L∈X.fs:=hs L (by unfold frs;rw[List.filterMap_cons,hf];exact zad)
   obtain⟨sl,e⟩:=I.base.slot L o ho (I.ok.frf L hL) hL fun z=>I.ok.exfs L z hL
   exact⟨hk,⟨L,_,hf,hn,e,hd⟩,ih (fun b hb=>hs b (by unfold frs;rw[List.filterMap_cons,hf];exact zac _ hb)) hr⟩
 exact all X.outer (fun _ hb=>hb) I.ok.funs
theorem Inv.stack(I:Inv X pins σ H s):s.heap.FunFrames X.base X.stack:=by
 rcases I.ok.stk with e | ⟨e,hf⟩
 ·rw[e];exact I.funs
 ·rw[e]
  obtain⟨m,hn,_⟩:=I.loc
  refine .cons (by rw[I.ok.kind];decide) hf hn ?_ I.funs
  exact Heap.get?_none_of_le (zb1 I.ok.bsz I.ok.above)
theorem Inv.stkSub(I:Inv X pins σ H s):∀ b∈frs X.stack,b∈X.env.locals::X.fs:=fun b hb=>by
 rcases I.ok.stk with e | ⟨e,hf⟩
 ·rw[e]at hb;exact zac _ hb
 ·rw[e]at hb
  unfold frs at hb
  rw[List.filterMap_cons,hf]at hb
  exact hb
theorem Inv.stkFree(I:Inv X pins σ H s):∀ b∈frs X.stack,H b=none:=fun b hb=>by
 rcases zaa.mp (I.stkSub b hb) with e | hb
 ·rw[e];exact I.free
 ·obtain⟨_,o,ho,_⟩:=I.ok.funs.mem hb
  exact I.base.free b o ho (I.ok.frf b hb) fun z=>I.ok.exfs b z hb
theorem Inv.step{g':Array GenState}{t':Nat}{d':Drawn}{ch:List Addr}(I:Inv X pins σ H s)
  (hch:∀ b∈ch,(b∈X.ex∨X.s₀.heap.objs.size≤b)∧b≠X.env.locals∧(∀ x c,X.env.cells.lookup x=some c→c≠b)∧∀ p∈X.pn++pins,p.1≠b)
  (keep:∀ b o,b≠X.env.locals→b∉X.fs→b∉ch→s.heap.get? b=some o→H b=none→h'.get? b=some o)
  (slot:∀ b o,b≠X.env.locals→b∈X.fs→b∉ch→s.heap.get? b=some o→H b=none→∃ sl,h'.get? b=some { o with slots:=sl }) (free:∀ b o,b∉ch→s.heap.get? b=some o→H b=none→H' b=none)
  (there:∀ b o,b∉ch→s.heap.get? b=some o→∃ o',h'.get? b=some o')
  (tups:∀ b xs,H b=some (.tup xs)→H' b=some (.tup xs)) (frzs:∀ b o u,H b=some (.frz o u)→H' b=some (.frz o u)) (tbls:∀ b ps,H b=some (.tbl ps)→∃ more,H' b=some (.tbl (ps++more)))
  (ns:∀ m,s.heap.Ns X.env.locals m→h'.Ns X.env.locals m) (hok:HOk X.prog X.w H' h') (hg:AllBare g') :
  Inv X pins σ H' { s with heap:=h',gens:=g',drawn:=d',toks:=t' }:=by
 have neL:∀ b o,X.s₀.heap.get? b=some o→b≠X.env.locals:=fun b o e=>zap (zax (Heap.lt_size e) I.ok.above)
 have neC:∀ b o,X.s₀.heap.get? b=some o→b∉X.ex→b∉ch:=fun b o e hx hb=>by
  rcases(hch b hb).1 with z | z
  ·exact hx z
  ·exact absurd (zax (Heap.lt_size e) z) (zbv _)
 have cellK:∀ x c,X.env.cells.lookup x=some c→∀ v,s.heap.IsCell c v→h'.IsCell c v:=fun x c e v ⟨o,ho,hd⟩=>by
  have nch:c∉ch:=fun z=>(hch c z).2.2.1 x c e rfl
  by_cases hc:c∈X.fs
  ·obtain⟨sl,q⟩:=slot c o (I.cne x c e) hc nch ho (I.freeC x c e)
   exact⟨_,q,hd⟩
  ·exact⟨o,keep c o (I.cne x c e) hc nch ho (I.freeC x c e),hd⟩
 refine⟨I.ok,I.os,hg,⟨fun b o e n hb hx=>?_,fun b o e n hb hx=>?_,fun b o e n hx=>?_,fun b o e hx=>?_,fun b xs e=>tups b xs (I.base.tups b xs e),fun b o xs e=>frzs b o xs (I.base.frzs b o xs e),fun b ps e=>?_⟩,?_,fun x c e=>?_,?_,fun x c e=>?_,fun p hp=>?_,hok,I.len⟩
 ·exact keep b o (neL b o e) hb (neC b o e hx) (I.base.keep b o e n hb hx) (I.base.free b o e n hx)
 ·obtain⟨sl,e1⟩:=I.base.slot b o e n hb hx
  obtain⟨sl',e2⟩:=slot b _ (neL b o e) hb (neC b o e hx) e1 (I.base.free b o e n hx)
  exact⟨sl',e2⟩
 ·obtain⟨o',e1⟩:=I.base.there b o e hx
  exact free b o' (neC b o e hx) e1 (I.base.free b o e n hx)
 ·obtain⟨o',e1⟩:=I.base.there b o e hx
  exact there b o' (neC b o e hx) e1
 ·obtain⟨m1,e1⟩:=I.base.tbls b ps e
  obtain⟨m2,e2⟩:=tbls b _ e1
  exact⟨m1++m2,by rw[e2,Array.append_assoc]⟩
 ·obtain⟨m,hn,hl⟩:=I.loc
  refine⟨m,ns m hn,fun i x v e1 e2 e3=>?_⟩
  obtain⟨u,r,l⟩:=hl i x v e1 e2 e3
  refine⟨u,r,?_⟩
  rcases l with l | ⟨k,c,e,z⟩
  ·exact .inl l
  ·exact .inr ⟨k,c,e,cellK x c e _ z⟩
 ·obtain⟨v,z⟩:=I.cell x c e
  exact⟨v,cellK x c e v z⟩
 ·obtain⟨m,⟨o,_,_,ho,_⟩,_⟩:=I.loc
  exact free _ o (fun z=>(hch _ z).2.1 rfl) ho I.free
 ·obtain⟨v,o,ho,hd⟩:=I.cell x c e
  exact free c o (fun z=>(hch c z).2.2.1 x c e rfl) ho (I.freeC x c e)
 ·obtain⟨e,n,ne,nf,d⟩:=I.pin p hp
  have nch:p.1∉ch:=fun z=>(hch p.1 z).2.2.2 p hp rfl
  exact⟨keep p.1 p.2 ne nf nch e n,free p.1 p.2 nch e n,ne,nf,d⟩
theorem Inv.un{t':Nat}(I:Inv X pins σ H s)(u:Un X.fs [] H H' s.heap h')(hok:HOk X.prog X.w H' h'):Inv X pins σ H' { s with heap:=h',toks:=t' }:=by
 obtain⟨m,⟨o,es,ep,ho,r⟩,_⟩:=id I.loc
 obtain⟨sl,hL⟩:=u.any ho I.free (by simp)
 exact I.step (g':=s.gens) (d':=s.drawn) (ch:=[]) (fun _ z=>nomatch z) (fun b o _ hb _ e n=>u.keep b o e n hb (by simp)) (fun b o _ hb _ e n=>u.slot b o e n hb (by simp)) (fun b o _ e n=>u.free b o e n (by simp)) (fun b o _ e=>u.there b o e (by simp)) u.tups u.frzs u.tbls (fun m' hm=>by
  obtain⟨o',es',ep',ho',r'⟩:=hm
  rw[ho]at ho';cases ho'
  exact⟨_,es',ep',hL,r'⟩) hok I.bare
theorem Inv.call{g':Array GenState}{t':Nat}{d':Drawn}{ch:List Addr}(I:Inv X pins σ H s)(u:Un (frs X.stack) ch H H' s.heap h')(hok:HOk X.prog X.w H' h')(hg:AllBare g')
  (hch:∀ b∈ch,(b∈X.ex∨X.s₀.heap.objs.size≤b)∧b≠X.env.locals∧(∀ x c,X.env.cells.lookup x=some c→c≠b)∧∀ p∈X.pn++pins,p.1≠b) :
  Inv X pins σ H' { s with heap:=h',gens:=g',drawn:=d',toks:=t' }:=by
 obtain⟨m,⟨o,es,ep,ho,r⟩,_⟩:=id I.loc
 obtain⟨sl,hL⟩:=u.any ho I.free fun z=>(hch _ z).2.1 rfl
 exact I.step (ch:=ch) hch (fun b o hL hb hc e n=>u.keep b o e n (fun z=>(zaa.mp (I.stkSub b z)).elim hL hb) hc) (fun b o _ _ hc e n=>u.any e n hc) (fun b o hc e n=>u.free b o e n hc) (fun b o hc e=>u.there b o e hc) u.tups u.frzs u.tbls (fun m' hm=>by
  obtain⟨o',es',ep',ho',r'⟩:=hm
  rw[ho]at ho';cases ho'
  exact⟨_,es',ep',hL,r'⟩) hok hg
theorem Inv.turned{t':Nat}{it:Addr}(I:Inv X pins σ H s)(k:∀ b o,b≠it→s.heap.get? b=some o→h'.get? b=some o)(hn:H it=none)(hL:it≠X.env.locals)
  (h1:it∈X.ex∨X.s₀.heap.objs.size≤it) (h2:∀ x c,X.env.cells.lookup x=some c→c≠it) (h3:∀ p∈X.pn++pins,p.1≠it):Inv X pins σ H { s with heap:=h',toks:=t' }:=by
 have nit:∀ b u,H b=some u→b≠it:=fun b u e z=>by rw[z,hn]at e;cases e
 refine I.step (g':=s.gens) (d':=s.drawn) (ch:=[it]) (fun b hb=>?_) (fun b o _ _ hc e _=>k b o (fun z=>hc (by simp[z])) e) (fun b o _ _ hc e _=>⟨o.slots,k b o (fun z=>hc (by simp[z])) e⟩) (fun _ _ _ _ n=>n)
  (fun b o hc e=>⟨o,k b o (fun z=>hc (by simp[z])) e⟩) (fun _ _ e=>e) (fun _ _ _ e=>e) (fun b ps e=>⟨#[],by rw[e];simp⟩) (fun m hm=>?_) (fun b u e=>?_) I.bare
 ·have e:b=it:=by simpa using hb
  subst e
  exact⟨h1,hL,h2,h3⟩
 ·obtain⟨o,es,ep,ho,r⟩:=hm
  exact⟨o,es,ep,k _ o (Ne.symm hL) ho,r⟩
 ·refine(I.hok b u e).stay (fun c v hc q=>k c v ?_ q) (fun _ q=>q) fun _ _ q=>q
  rcases hc with z | z
  ·rw[z];exact nit b u e
  ·exact nit c _ z
theorem Inv.tok(I:Inv X pins σ H s)(t:Nat):Inv X pins σ H { s with toks:=t }:=I.un (h':=s.heap) (t':=t) Un.refl I.hok
theorem Inv.kept{t':Nat}(I:Inv X pins σ H s)(k:∀ b u,s.heap.get? b=some u→h'.get? b=some u):Inv X pins σ H { s with heap:=h',toks:=t' }:=I.un (Un.kept k) (I.hok.kept k)
theorem Inv.laid{a:Addr}{o:HO}{t':Nat}(I:Inv X pins σ H s)(k:∀ b u,s.heap.get? b=some u→h'.get? b=some u)(hp:s.heap.objs.size≤a)(new:bb X.prog X.w (upd H a o) h' a o) :
  Inv X pins σ (upd H a o) { s with heap:=h',toks:=t' }:=I.un (Un.laid k hp (I.hok.fresh hp)) (I.hok.laid k hp new)
theorem Inv.write{x e:Addr}{o:HO}{t':Nat}(I:Inv X pins σ H s)(mu:Mut (H x))(he:e=x∨H e=some (.own x))(k:∀ b u,b≠e→s.heap.get? b=some u→h'.get? b=some u)(heo:∃ u,h'.get? e=some u)
  (new:bb X.prog X.w (upd H x o) h' x o):Inv X pins σ (upd H x o) { s with heap:=h',toks:=t' }:=I.un (Un.write mu he k heo) (I.hok.write mu he k heo new)
theorem Inv.pins_of{pins':List (Addr×Obj)}(I:Inv X pins σ H s)(h:∀ p∈pins',s.heap.get? p.1=some p.2∧H p.1=none∧p.1≠X.env.locals∧p.1∉X.fs∧∀ v,p.2.data≠.cell v):Inv X pins' σ H s :=
 ⟨I.ok,I.os,I.bare,I.base,I.loc,I.cell,I.free,I.freeC,fun p hp=>(za9.mp hp).elim (fun z=>I.pin p (zae _ z)) (h p),I.hok,I.len⟩
theorem nodup_ix{N:List Str}(hN:N.Nodup){i j:Nat}{x:Str}(a:N[i]?=some x)(b:N[j]?=some x):i=j:=by
 obtain⟨h1,e1⟩:=za3.mp a
 obtain⟨h2,e2⟩:=za3.mp b
 exact(List.getElem_inj hN).mp (e1.trans e2.symm)
theorem store_ok2{M:Model}{A:Around}{E:Value→Shared→Prop}{i:Nat}{x:Str}{v:V}{u:Value}{Q:Unit→Shared→Prop}(I:Inv X pins σ H s)(hN:X.N.Nodup)(hi:X.N[i]?=some x)(hx:Loc X.env.scope x)(r:RelV v u)
  (h:∀ s',Inv X pins (σ.set i (some v)) H s'→(∃ a,Heap.SameBut a s.heap s'.heap∧(a=X.env.locals∨X.env.cells.lookup x=some a))→Q () s') (hf:X.fn x=true∨X.env.scope.names.lookup x=some .local:=by first | exact .inl rfl | exact .inr rfl | assumption):wpAny M A (storeName X.env x u) Q E s:=by
 obtain⟨m,hn,hl⟩:=id I.loc
 have hcls:(X.env.scope.kind==.class||(X.env.scope.kind==.module&&X.env.locals !=X.env.globals))=false:=by rw[I.ok.kind];rfl
 have hiσ:i < σ.length:=by rw[I.len];exact(za3.mp hi).1
 have cne:=I.cne
 have tracked:∀ {a:Addr} {h':Heap},(∃ o,s.heap.get? a=some o∧H a=none)→Heap.SameBut a s.heap h'→HOk X.prog X.w H h':=fun {a h'} ha hs b ob e=>by
  obtain⟨_,_,hfree⟩:=ha
  refine(I.hok b ob e).stay (fun c w' hc q=>(hs.2 c ?_).trans q) (fun _ q=>q) fun _ _ q=>q
  rintro rfl
  rcases hc with rfl | hc
  ·rw[hfree]at e;cases e
  ·rw[hfree]at hc;cases hc
 rcases hx with hk | hk
 ·refine wpAny_storeName_local hk hn (fun h' hn' hs=>?_) hcls
  obtain⟨oL,_,_,hoL,_⟩:=id hn
  refine h _ ⟨I.ok,I.os,I.bare,⟨fun b o e n hb hx=>?_,fun b o e n hb hx=>?_,I.base.free,fun b o e hx=>?_,I.base.tups,I.base.frzs,I.base.tbls⟩,⟨_,hn',fun j y v' e1 e2 e3=>?_⟩,fun y c e=>?_,I.free,I.freeC,fun p hp=>?_,tracked ⟨oL,hoL,I.free⟩ hs,by simpa using I.len⟩ ⟨_,hs,.inl rfl⟩
  ·exact(hs.2 b (zap (zax (Heap.lt_size e) I.ok.above))).trans (I.base.keep b o e n hb hx)
  ·obtain⟨sl,e1⟩:=I.base.slot b o e n hb hx
   exact⟨sl,(hs.2 b (zap (zax (Heap.lt_size e) I.ok.above))).trans e1⟩
  ·obtain⟨o',e1⟩:=I.base.there b o e hx
   exact⟨o',(hs.2 b (zap (zax (Heap.lt_size e) I.ok.above))).trans e1⟩
  ·by_cases hj:j=i
   ·subst hj
    rw[hi]at e1;cases e1
    rw[List.getElem?_set_self hiσ]at e2
    cases e2
    exact⟨u,r,.inl ⟨hk,by simp⟩⟩
   ·rw[List.getElem?_set_ne (Ne.symm hj)]at e2
    obtain⟨u',r',q⟩:=hl j y v' e1 e2 e3
    refine⟨u',r',?_⟩
    rcases q with ⟨k,e⟩ | ⟨k,c,e,z⟩
    ·refine .inl ⟨k,?_⟩
     have:y≠x:=fun e=>hj (nodup_ix hN e1 (e▸hi))
     simp[this,e]
    ·exact .inr ⟨k,c,e,z.sameBut hs (cne y c e)⟩
  ·obtain⟨w',z⟩:=I.cell y c e
   exact⟨w',z.sameBut hs (cne y c e)⟩
  ·obtain⟨e,n,ne,nf,d⟩:=I.pin p hp
   exact⟨(hs.2 p.1 ne).trans e,n,ne,nf,d⟩
 ·have hfn:X.fn x=true:=by
   rcases hf with z | z
   ·exact z
   ·rw[z]at hk;cases hk
  obtain⟨c,hc⟩:=I.ok.has x (.inl hk)
  obtain⟨w',z⟩:=I.cell x c hc
  refine wpAny_storeName_cell I.ok.kind hk hc z (fun h' hc' hs=>?_)
  obtain⟨oc,hoc,hocd⟩:=id z
  refine h { s with heap:=h' } ⟨I.ok,I.os,I.bare,⟨fun b o e n hb hx=>?_,fun b o e n hb hx=>?_,I.base.free,fun b o e hx=>?_,I.base.tups,I.base.frzs,I.base.tbls⟩,⟨m,hn.sameBut hs (Ne.symm (cne x c hc)),fun j y v' e1 e2 e3=>?_⟩,fun y c' e=>?_,I.free,I.freeC,fun p hp=>?_,tracked ⟨oc,hoc,I.freeC x c hc⟩ hs,by simpa using I.len⟩ ⟨c,hs,.inr hc⟩
  ·exact(hs.2 b (zap (zax (Heap.lt_size e) (I.ok.cab x c hfn hc)))).trans (I.base.keep b o e n hb hx)
  ·obtain⟨sl,e1⟩:=I.base.slot b o e n hb hx
   exact⟨sl,(hs.2 b (zap (zax (Heap.lt_size e) (I.ok.cab x c hfn hc)))).trans e1⟩
  ·obtain⟨o',e1⟩:=I.base.there b o e hx
   exact⟨o',(hs.2 b (zap (zax (Heap.lt_size e) (I.ok.cab x c hfn hc)))).trans e1⟩
  ·by_cases hj:j=i
   ·subst hj
    rw[hi]at e1;cases e1
    rw[List.getElem?_set_self hiσ]at e2
    cases e2
    exact⟨u,r,.inr ⟨.inl hk,c,hc,hc'⟩⟩
   ·rw[List.getElem?_set_ne (Ne.symm hj)]at e2
    obtain⟨u',r',q⟩:=hl j y v' e1 e2 e3
    refine⟨u',r',?_⟩
    rcases q with q | ⟨k,c',e,z'⟩
    ·exact .inl q
    ·refine .inr ⟨k,c',e,z'.sameBut hs ?_⟩
     rintro rfl
     exact hj (nodup_ix hN e1 (I.ok.inj _ _ _ e hc▸hi))
  ·by_cases hcc:c'=c
   ·subst hcc;exact⟨_,hc'⟩
   ·obtain⟨w2,z2⟩:=I.cell y c' e
    exact⟨w2,z2.sameBut hs hcc⟩
  ·obtain⟨e,n,ne,nf,d⟩:=I.pin p hp
   refine⟨(hs.2 p.1 ?_).trans e,n,ne,nf,d⟩
   intro q
   rw[q,hoc]at e
   have q':oc=p.2:=Option.some.inj e
   exact d w' (by rw[← q'];exact hocd)
theorem store_ok{M:Model}{A:Around}{E:Value→Shared→Prop}{i:Nat}{x:Str}{v:V}{u:Value}{Q:Unit→Shared→Prop}(I:Inv X pins σ H s)(hN:X.N.Nodup)(hi:X.N[i]?=some x)(hx:Loc X.env.scope x)(r:RelV v u)
  (h:∀ s',Inv X pins (σ.set i (some v)) H s'→Q () s') (hf:X.fn x=true∨X.env.scope.names.lookup x=some .local:=by first | exact .inl rfl | exact .inr rfl | assumption):wpAny M A (storeName X.env x u) Q E s :=
 store_ok2 I hN hi hx r (fun s' I' _=>h s' I') hf
theorem Inv.call'{s':Shared}{ch:List Addr}(I:Inv X pins σ H s)(ho:s'.os=s.os)(u:Un (frs X.stack) ch H H' s.heap s'.heap)(hok:HOk X.prog X.w H' s'.heap)(hg:AllBare s'.gens)
  (hch:∀ b∈ch,(b∈X.ex∨X.s₀.heap.objs.size≤b)∧b≠X.env.locals∧(∀ x c,X.env.cells.lookup x=some c→c≠b)∧∀ p∈X.pn++pins,p.1≠b):Inv X pins σ H' s':=by
 obtain⟨h',g',d',t',o'⟩:=s'
 have e:o'=s.os:=ho
 subst e
 exact I.call (g':=g') (t':=t') (d':=d') u hok hg hch
end
abbrev XK:=Value→Option Addr→Hp→Prop
abbrev St:=List (Option V)
abbrev VK:=V→Hp→Prop
abbrev TE:=St→Hp→VK→Prop
abbrev TT:=St→Hp→(Bool→Hp→Prop)→Prop
abbrev TA:=St→Hp→(List V→Hp→Prop)→Prop
structure Ends where
 nx:St→Hp→Prop
 rt:VK
 bk:St→Hp→Prop:=fun _ _=>False
 ct:St→Hp→Prop:=fun _ _=>False
abbrev TS:=Ends→St→Hp→Prop
def EP(X:Cx)(pins:List (Addr×Obj))(σ:St)(Q:VK)(u:Value)(s':Shared):Prop:=∃ v H',Inv X pins σ H' s'∧RelV v u∧Q v H'
def TP(X:Cx)(pins:List (Addr×Obj))(σ:St)(Q:Bool→Hp→Prop)(b:Bool)(s':Shared):Prop:=∃ H',Inv X pins σ H' s'∧Q b H'
def AP(X:Cx)(pins:List (Addr×Obj))(σ:St)(Q:List V→Hp→Prop)(us:List Value)(s':Shared):Prop:=∃ vs H',Inv X pins σ H' s'∧Vals vs us∧Q vs H'
def SP(X:Cx)(pins:List (Addr×Obj))(D:Ends)(f:Flow)(s':Shared):Prop :=
 match f with
 | .next=>∃ σ' H',Inv X pins σ' H' s'∧D.nx σ' H'
 | .brk=>∃ σ' H',Inv X pins σ' H' s'∧D.bk σ' H'
 | .cont=>∃ σ' H',Inv X pins σ' H' s'∧D.ct σ' H'
 | .ret u=>∃ v σ' H',Inv X pins σ' H' s'∧RelV v u∧D.rt v H'
def PE(X:Cx)(e:Expr)(t:TE):Prop :=
 ∀ (pins:List (Addr×Obj)) (s:Shared) (σ:St) (H:Hp) (Q:VK),Inv X pins σ H s→t σ H Q→wpAny (model X.prog X.w) X.A (eval e X.env) (EP X pins σ Q) X.xe s
def PT(X:Cx)(e:Expr)(t:TT):Prop :=
 ∀ (pins:List (Addr×Obj)) (s:Shared) (σ:St) (H:Hp) (Q:Bool→Hp→Prop),Inv X pins σ H s→t σ H Q→wpAny (model X.prog X.w) X.A (isTrue e X.env (eval e X.env)) (TP X pins σ Q) X.xe s
def PW(X:Cx)(e:Expr)(t:TT):Prop :=
 ∀ (whole:Sem Value) (pins:List (Addr×Obj)) (s:Shared) (σ:St) (H:Hp) (Q:Bool→Hp→Prop),Inv X pins σ H s→t σ H Q→wpAny (model X.prog X.w) X.A (isTrue e X.env whole) (TP X pins σ Q) X.xe s
theorem PW.pt{X:Cx}{e:Expr}{t:TT}(h:PW X e t):PT X e t:=h _
def PA(X:Cx)(es:List Expr)(t:TA):Prop :=
 ∀ (pos:Pos) (pins:List (Addr×Obj)) (s:Shared) (σ:St) (H:Hp) (Q:List V→Hp→Prop),Inv X pins σ H s→t σ H Q→wpAny (model X.prog X.w) X.A (spliced (backTo pos (starEach es X.env))) (AP X pins σ Q) X.xe s
def PS(X:Cx)(st:Stmt)(t:TS):Prop :=
 ∀ (pins:List (Addr×Obj)) (s:Shared) (σ:St) (H:Hp) (D:Ends),Inv X pins σ H s→t D σ H→wpAny (model X.prog X.w) X.A (exec st X.env) (SP X pins D) X.xe s
def PSs(X:Cx)(st:List Stmt)(t:TS):Prop :=
 ∀ (pins:List (Addr×Obj)) (s:Shared) (σ:St) (H:Hp) (D:Ends),Inv X pins σ H s→t D σ H→wpAny (model X.prog X.w) X.A (execs st X.env) (SP X pins D) X.xe s
theorem thn{α:Type}{t:Sem α}{Q Q':α→Shared→Prop}{M:Model}{A:Around}{E:Value→Shared→Prop}{s:Shared}(h:wpAny M A t Q E s)(hQ:∀ a s,Q a s→Q' a s):wpAny M A t Q' E s:=wpAny_mono h hQ fun _ _ x=>x
section
variable{X:Cx}
def tVar(i:Nat):TE:=fun σ H Q=>∃ v,σ[i]?=some (some v)∧Q v H
def tC(v:V):TE:=fun _ H Q=>Q v H
theorem pe_var{i:Nat}{x:Str}{pos:Pos}(hN:X.N[i]?=some x)(hv:Vis X.env.scope x)(hd:(x==("__debug__":Str))=false:=by decide)(hcd:(x==("__classdict__":Str))=false:=by decide):PE X (.Name x pos) (tVar i):=by
 intro pins s σ H Q I h
 obtain⟨v,e,h⟩:=h
 obtain⟨m,hn,hl⟩:=I.loc
 obtain⟨u,r,l⟩:=hl i x v hN e hv
 have fin:EP X pins σ Q u s:=⟨v,H,I,r,h⟩
 rcases l with ⟨hk,hm⟩ | ⟨hk,c,hc,hcell⟩
 ·exact wpAny_Name (wpAny_loadName_local I.ok.kind hk hn hm fin) hd
 ·rcases hk with hk | hk
  ·exact wpAny_Name (wpAny_loadName_cell I.ok.kind hk hc hcell fin) hd
  ·exact wpAny_Name (wpAny_loadName_free I.ok.kind hk hc hcell fin hcd) hd
theorem a8{i j pos}:PE X (.Constant (.int i) j pos) (tC (.int i)):=fun _ _ _ H _ I h=>wpAny_Constant_int ⟨.int i,H,I.tok _,⟨_,rfl⟩,h⟩
theorem g5{b j pos}:PE X (.Constant (.bool b) j pos) (tC (.bl b)):=fun _ _ _ H _ I h=>Constant_bool ⟨.bl b,H,I,rfl,h⟩
theorem jt{j pos}:PE X (.Constant .none j pos) (tC .non):=fun _ _ _ H _ I h=>Constant_none ⟨.non,H,I,rfl,h⟩
theorem c7{x j pos}:PE X (.Constant (.str x) j pos) (tC (.str x)):=fun _ _ _ H _ I h=>Calls.Constant_str ⟨.str x,H,I.tok _,⟨_,rfl⟩,h⟩
def Gl(X:Cx)(x:Str):Prop:=X.env.kindOf x=some .globalImplicit
theorem ld_glob{E:Value→Shared→Prop}{pins:List (Addr×Obj)}{s:Shared}{σ:St}{H:Hp}{x:Str}{u:Value}{pos:Pos}{Q:Value→Shared→Prop}(I:Inv X pins σ H s)(hg:Gl X x)(hm:X.mg x=some u)(h:Q u s)
  (hd:(x==("__debug__":Str))=false:=by decide):wpAny (model X.prog X.w) X.A (eval (.Name x pos) X.env) Q E s :=
 Calls.Name_function_global I.ok.kind hg (Calls.loadGlobal_global (by rw[I.ok.glob];exact I.mod.glob.keeps I.bk) hm h) hd
theorem eI{E:Value→Shared→Prop}{pins:List (Addr×Obj)}{s:Shared}{σ:St}{H:Hp}{x:Str}{u:Value}{pos:Pos}{Q:Value→Shared→Prop}(I:Inv X pins σ H s)(hg:Gl X x)(hm:X.mg x=none)(hv:bootBuiltins x=some u)(h:Q u s)
  (hn:x≠"__name__":=by decide) (hd:(x==("__debug__":Str))=false:=by decide):wpAny (model X.prog X.w) X.A (eval (.Name x pos) X.env) Q E s:=by
 obtain⟨mb,h1,h2⟩:=I.mod.blt
 exact Calls.Name_function_global I.ok.kind hg (Calls.loadGlobal_builtin (by rw[I.ok.glob];exact I.mod.glob.keeps I.bk) hm (by rw[I.ok.blt];exact h1.keeps I.bk) ((h2 x hn).trans hv) h) hd
theorem pe_bltn{x:Str}{v:V}{u:Value}{pos:Pos}(hg:Gl X x)(hm:X.mg x=none)(hv:bootBuiltins x=some u)(r:RelV v u)(hn:x≠"__name__":=by decide)(hd:(x==("__debug__":Str))=false:=by decide):PE X (.Name x pos) (tC v) :=
 fun _ _ _ H _ I h=>eI I hg hm hv ⟨v,H,I,r,h⟩ hn hd
variable{a b:Expr}{ta tb:TE}{pos:Pos}
def tB(t:TE):TT:=fun σ H Q=>t σ H fun x H1=>∃ c,x=.bl c∧Q c H1
theorem fj{e:Expr}{t:TE}(h:PE X e t)(he:∀ whole,isTrue e X.env whole=(do let v ← whole;standAt e.pos;holding [v] (truthy v)):=by intro _;rfl):PT X e (tB t):=by
 intro pins s σ H Q I hw
 refine isTrue_plain (thn (h pins s σ H _ I hw) fun v s1 zz1=>?_) (he _)
 obtain⟨x,H1,I1,r1,q1⟩:=zz1
 obtain⟨d,rfl,q⟩:=q1
 cases r1
 exact wpAny_truthy_bool ⟨H1,I1,q⟩
variable{tA tB':TT}{rest:List Expr}
def tAnd(t u:TT):TT:=fun σ H Q=>t σ H fun c H1=>if c=true then u σ H1 Q else Q false H1
def tOr(t u:TT):TT:=fun σ H Q=>t σ H fun c H1=>if c=true then Q true H1 else u σ H1 Q
def tNot(t:TT):TT:=fun σ H Q=>t σ H fun c H1=>Q (!c) H1
theorem jS(ha:PT X a tA):PW X (.BoolOp .And [a] pos) tA:=by
 intro wh pins s σ H Q I h
 refine isTrue_and (thn (ha pins s σ H Q I h) fun c s1 e=>?_)
 cases c with
 | true=>exact isTrue_and_nil e
 | false=>exact e
theorem jp(ha:PT X a tA):PW X (.BoolOp .Or [a] pos) tA:=by
 intro wh pins s σ H Q I h
 refine isTrue_or (thn (ha pins s σ H Q I h) fun c s1 e=>?_)
 cases c with
 | false=>exact isTrue_or_nil e
 | true=>exact e
theorem pw_and(ha:PT X a tA)(hb:PW X (.BoolOp .And (b::rest) pos) tB'):PW X (.BoolOp .And (a::b::rest) pos) (tAnd tA tB'):=by
 intro wh pins s σ H Q I h
 refine isTrue_and (thn (ha pins s σ H _ I h) fun c s1 zz1=>?_)
 obtain⟨H1,I1,q1⟩:=zz1
 cases c with
 | true=>exact hb wh pins s1 σ H1 Q I1 q1
 | false=>exact⟨H1,I1,q1⟩
theorem jH(ha:PT X a tA)(hb:PW X (.BoolOp .Or (b::rest) pos) tB'):PW X (.BoolOp .Or (a::b::rest) pos) (tOr tA tB'):=by
 intro wh pins s σ H Q I h
 refine isTrue_or (thn (ha pins s σ H _ I h) fun c s1 zz1=>?_)
 obtain⟨H1,I1,q1⟩:=zz1
 cases c with
 | true=>exact⟨H1,I1,q1⟩
 | false=>exact hb wh pins s1 σ H1 Q I1 q1
theorem jq(ha:PT X a tA):PT X (.UnaryOp .Not a pos) (tNot tA):=by
 intro pins s σ H Q I h
 exact isTrue_not (ha pins s σ H (fun c H1=>Q (!c) H1) I h)
def tIf(t:TT)(ta tb:TE):TE:=fun σ H Q=>t σ H fun c H1=>if c=true then ta σ H1 Q else tb σ H1 Q
theorem iU{c:Expr}(hc:PT X c tA)(ha:PE X a ta)(hb:PE X b tb):PE X (.IfExp c a b pos) (tIf tA ta tb):=by
 intro pins s σ H Q I h
 refine wpAny_IfExp (thn (hc pins s σ H _ I h) fun d s1 zz1=>?_)
 obtain⟨H1,I1,q1⟩:=zz1
 cases d with
 | true=>exact ha pins s1 σ H1 Q I1 q1
 | false=>exact hb pins s1 σ H1 Q I1 q1
end
def SqL(K:PySem.W.Frag)(H:Hp)(a:Addr)(xs:List V):Prop :=
 Rd H a (.lst xs) ∨
  ∃ (o:Obj) (its:Array Value) (n:Nat),K.lookup a=some o∧o.cls=.type "list"∧o.dict=none∧o.data=.seq its n∧its.size≤sizeLine∧Vals xs its.toList
def SqT(K:PySem.W.Frag)(H:Hp)(a:Addr)(xs:List V):Prop :=
 Rd H a (.tup xs) ∨
  ∃ (o:Obj) (its:Array Value) (n:Nat),K.lookup a=some o∧o.cls=.type "tuple"∧o.data=.seq its n∧its.size≤sizeLine∧Vals xs its.toList
def absV:Value→Option V
 | .none=>some .non
 | .bool b=>some (.bl b)
 | .int i _=>some (.int i)
 | .str x _=>some (.str x)
 | .bytes b _=>some (.byt b)
 | .float b _=>some (.flt b)
 | .ref a=>some (.ref a)
 | .type n=>some (.ty n)
 | _=>none
theorem RelV.abs{x:V}{u:Value}(r:RelV x u):absV u=some x:=by
 cases x with
 | non=>cases r;rfl
 | bl _=>cases r;rfl
 | int _=>obtain⟨t,rfl⟩:=r;rfl
 | str _=>obtain⟨t,rfl⟩:=r;rfl
 | byt _=>obtain⟨t,rfl⟩:=r;rfl
 | flt _=>obtain⟨t,rfl⟩:=r;rfl
 | ref _=>cases r;rfl
 | ty _=>cases r;rfl
theorem RelV.inj{x y:V}{u:Value}(r:RelV x u)(q:RelV y u):x=y:=Option.some.inj (r.abs.symm.trans q.abs)
theorem Vals.inj:∀ {xs ys:List V} {us:List Value},Vals xs us→Vals ys us→xs=ys
 | []=>by intro g h;cases g;cases h;rfl
 | x::xs=>by
  intro g h
  cases g with
  | cons r t =>
  cases h with
  | cons r' t'=>rw[r.inj r',Vals.inj t t']
section
variable{X:Cx}{pins:List (Addr×Obj)}{σ:St}{H:Hp}{s:Shared}{a:Addr}{xs ys:List V}
theorem SqL.of{K:PySem.W.Frag}(h:H a=some (.lst xs)):SqL K H a xs:=.inl (.inl h)
theorem SqT.of{K:PySem.W.Frag}(h:H a=some (.tup xs)):SqT K H a xs:=.inl (.inl h)
theorem Inv.list(I:Inv X pins σ H s)(h:SqL X.K H a xs):∃ its:List Value,Vals xs its∧PlainL s.heap a its.toArray∧xs.length≤sizeLine:=by
 rcases h with h | ⟨o,its,n,hk,hc,hd,hs,hz,r⟩
 ·obtain⟨z,its,n,r,e⟩:=h.ok I.hok
  exact⟨its,r,⟨_,n,e,rfl,rfl,rfl⟩,z⟩
 ·refine⟨its.toList,r,⟨o,n,I.kIn a o hk,hc,hd,by simpa using hs⟩,?_⟩
  have e:=r.length
  simp only[za8]at e
  omega
theorem Inv.tuple(I:Inv X pins σ H s)(h:SqT X.K H a xs):∃ its:List Value,Vals xs its∧IsTup s.heap a its.toArray∧xs.length≤sizeLine:=by
 rcases h with h | ⟨o,its,n,hk,hc,hs,hz,r⟩
 ·obtain⟨z,its,r,p⟩:=h.ok I.hok
  exact⟨its,r,p.tup,z⟩
 ·refine⟨its.toList,r,⟨o,I.kIn a o hk,hc,n,by simpa using hs⟩,?_⟩
  have e:=r.length
  simp only[za8]at e
  omega
theorem Inv.list_inj(I:Inv X pins σ H s)(h:SqL X.K H a xs)(h':SqL X.K H a ys):xs=ys:=by
 obtain⟨its,r,⟨o,n,e,_,_,d⟩,_⟩:=I.list h
 obtain⟨its',r',⟨o',n',e',_,_,d'⟩,_⟩:=I.list h'
 rw[e]at e';cases e'
 rw[d]at d'
 injection d' with d1 _
 have:its=its':=by simpa using congrArg Array.toList d1
 subst this
 exact r.inj r'
theorem Inv.tuple_inj(I:Inv X pins σ H s)(h:SqT X.K H a xs)(h':SqT X.K H a ys):xs=ys:=by
 obtain⟨its,r,⟨o,e,_,n,d⟩,_⟩:=I.tuple h
 obtain⟨its',r',⟨o',e',_,n',d'⟩,_⟩:=I.tuple h'
 rw[e]at e';cases e'
 rw[d]at d'
 injection d' with d1 _
 have:its=its':=by simpa using congrArg Array.toList d1
 subst this
 exact r.inj r'
end
abbrev Cx.wish(X:Cx)(E:Value→Shared→Prop):Cx:={ X with xe:=E }
abbrev Cx.nox(X:Cx):Cx:=X.wish fun _ _=>False
theorem Cx.Ok.wish{X:Cx}(ok:X.Ok)(E:Value→Shared→Prop):(X.wish E).Ok :=
 ⟨ok.mod,ok.kind,ok.glob,ok.blt,ok.above,ok.inj,ok.has,ok.cab,ok.hd,ok.frames,ok.stk,ok.exf,ok.bs,ok.bsz,ok.noex,ok.exfs,ok.funs,ok.frf⟩
theorem Cx.Ok.unwish{X:Cx}{E:Value→Shared→Prop}(ok:(X.wish E).Ok):X.Ok :=
 ⟨ok.mod,ok.kind,ok.glob,ok.blt,ok.above,ok.inj,ok.has,ok.cab,ok.hd,ok.frames,ok.stk,ok.exf,ok.bs,ok.bsz,ok.noex,ok.exfs,ok.funs,ok.frf⟩
section
variable{X:Cx}{pins:List (Addr×Obj)}{σ:St}{H:Hp}{s:Shared}{E:Value→Shared→Prop}
theorem Inv.wish(I:Inv X pins σ H s)(E:Value→Shared→Prop):Inv (X.wish E) pins σ H s:=⟨I.ok.wish E,I.os,I.bare,I.base,I.loc,I.cell,I.free,I.freeC,I.pin,I.hok,I.len⟩
theorem Inv.unwish(I:Inv (X.wish E) pins σ H s):Inv X pins σ H s:=⟨I.ok.unwish,I.os,I.bare,I.base,I.loc,I.cell,I.free,I.freeC,I.pin,I.hok,I.len⟩
theorem SP.unwish{D:Ends}{f:Flow}{s':Shared}(h:SP (X.wish E) pins D f s'):SP X pins D f s':=by
 cases f with
 | next=>obtain⟨σ',H',I,q⟩:=h;exact⟨σ',H',I.unwish,q⟩
 | brk=>obtain⟨σ',H',I,q⟩:=h;exact⟨σ',H',I.unwish,q⟩
 | cont=>obtain⟨σ',H',I,q⟩:=h;exact⟨σ',H',I.unwish,q⟩
 | ret u=>obtain⟨v,σ',H',I,r,q⟩:=h;exact⟨v,σ',H',I.unwish,r,q⟩
theorem PSs.nox{st:List Stmt}{t:TS}(h:PSs X.nox st t):PSs X st t:=fun pins s σ H D I hw =>
 wpAny_mono (h pins s σ H D (I.wish _) hw) (fun _ _ q=>q.unwish) fun _ _ z=>False.elim z
end
section
variable{X:Cx}{st:Stmt}{rest:List Stmt}{t u:TS}{e:Expr}{te:TE}{pos:Pos}
def tNext:TS:=fun D σ H=>D.nx σ H
def tSeq(t u:TS):TS:=fun D σ H=>t { D with nx:=u D } σ H
theorem bm:PSs X [] tNext:=fun _ _ σ H _ I h=>wpAny_execs_nil ⟨σ,H,I,h⟩
theorem aa(h1:PS X st t)(h2:PSs X rest u):PSs X (st::rest) (tSeq t u):=by
 intro pins s σ H D I h
 refine wpAny_execs_cons (thn (h1 pins s σ H { D with nx:=u D } I h) fun f s1 q=>?_)
 cases f with
 | next =>
  obtain⟨σ',H',I',q⟩:=q
  exact h2 pins s1 σ' H' D I' q
 | ret v=>exact q
 | brk=>exact q
 | cont=>exact q
theorem ag(h1:PS X st t):PSs X [st] t:=by
 intro pins s σ H D I h
 refine wpAny_execs_cons (thn (h1 pins s σ H D I h) fun f s1 q=>?_)
 cases f with
 | next=>exact wpAny_execs_nil q
 | ret v=>exact q
 | brk=>exact q
 | cont=>exact q
theorem Inv.quiet{pins:List (Addr×Obj)}{σ:St}{H:Hp}{s:Shared}(I:Inv X pins σ H s):interactive X.env=false:=by simp[interactive,I.ok.kind]
def tDrop(te:TE):TS:=fun D σ H=>te σ H fun _ H1=>D.nx σ H1
theorem dq(he:PE X e te)(hs:swapsWith e none pos.line X.env=pure false:=by rfl):PS X (.Expr e pos) (tDrop te):=by
 intro pins s σ H D I h
 exact wpAny_Expr_any (thn (he pins s σ H _ I h) fun v s1 ⟨x,H1,I1,r1,q1⟩=>⟨σ,H1,I1,q1⟩) I.quiet hs
def tRet(te:TE):TS:=fun D σ H=>te σ H D.rt
theorem aD(he:PE X e te):PS X (.Return (some e) pos) (tRet te):=by
 intro pins s σ H D I h
 exact wpAny_Return_some (thn (he pins s σ H _ I h) fun v s1 ⟨x,H1,I1,r1,q1⟩=>⟨x,σ,H1,I1,r1,q1⟩)
def tIfS(c:TT)(t u:TS):TS:=fun D σ H=>c σ H fun b H1=>if b=true then t D σ H1 else u D σ H1
theorem dE{c:Expr}{a b:List Stmt}{tc:TT}(hc:PT X c tc)(ha:PSs X a t)(hb:PSs X b u):PS X (.If c a b pos) (tIfS tc t u):=by
 intro pins s σ H D I h
 refine wpAny_If (thn (hc pins s σ H _ I h) fun d s1 zz1=>?_)
 obtain⟨H1,I1,q1⟩:=zz1
 cases d with
 | true=>exact ha pins s1 σ H1 D I1 q1
 | false=>exact hb pins s1 σ H1 D I1 q1
end
abbrev TG:=V→St→Hp→(St→Hp→Prop)→Prop
abbrev TGs:=List V→St→Hp→(St→Hp→Prop)→Prop
def PG(X:Cx)(target:Expr)(t:TG):Prop :=
 ∀ (pins:List (Addr×Obj)) (s:Shared) (σ:St) (H:Hp) (v:V) (u:Value) (Q:St→Hp→Prop),Inv X pins σ H s→RelV v u→t v σ H Q →
  wpAny (model X.prog X.w) X.A (assign target X.env u) (fun _ s'=>∃ σ' H',Inv X pins σ' H' s'∧Q σ' H') X.xe s
def PGs(X:Cx)(ts:List Expr)(t:TGs):Prop :=
 ∀ (pins:List (Addr×Obj)) (s:Shared) (σ:St) (H:Hp) (vs:List V) (us:List Value) (Q:St→Hp→Prop),Inv X pins σ H s→Vals vs us→t vs σ H Q →
  wpAny (model X.prog X.w) X.A (assignInOrder ((assignEach ts X.env).map (·.2)) us) (fun _ s'=>∃ σ' H',Inv X pins σ' H' s'∧Q σ' H') X.xe s
section
variable{X:Cx}{pos:Pos}
def gJ(i:Nat):TG:=fun v σ H Q=>Q (σ.set i (some v)) H
theorem al{i:Nat}{x:Str}(hN:X.N.Nodup)(hi:X.N[i]?=some x)(hx:Loc X.env.scope x)(hf:X.fn x=true∨X.env.scope.names.lookup x=some .local:=by first | exact .inl rfl | exact .inr rfl | assumption):PG X (.Name x pos) (gJ i):=by
 intro pins s σ H v u Q I r h
 exact wpAny_assign_Name (store_ok I hN hi hx r (fun s' I'=>⟨_,H,I',h⟩) hf)
def gNil:TGs:=fun vs σ H Q=>vs=[]∧Q σ H
def gCons(t:TG)(u:TGs):TGs:=fun vs σ H Q=>∃ v r,vs=v::r∧t v σ H fun σ' H'=>u r σ' H' Q
theorem dX:PGs X [] gNil:=by
 intro pins s σ H vs us Q I r h
 obtain⟨e,h⟩:=h
 subst e
 cases r
 exact assignInOrder_nil ⟨σ,H,I,h⟩
theorem b0{e:Expr}{es:List Expr}{t:TG}{u:TGs}(h1:PG X e t)(h2:PGs X es u)
  (hs:(assignEach (e::es) X.env).map (·.2)=assign e X.env::(assignEach es X.env).map (·.2):=by rfl):PGs X (e::es) (gCons t u):=by
 intro pins s σ H vs us Q I r h
 obtain⟨v,vr,e1,h⟩:=h
 subst e1
 cases r with
 | cons r rr =>
  rw[hs]
  refine assignInOrder_cons (thn (h1 pins s σ H _ _ _ I r h) fun _ s1 zz1=>?_)
  obtain⟨σ1,H1,I1,q1⟩:=zz1
  exact h2 pins s1 σ1 H1 _ _ Q I1 rr q1
def gTup(K:PySem.W.Frag)(n:Nat)(t:TGs):TG:=fun v σ H Q=>∃ a xs,v=.ref a∧SqT K H a xs∧xs.length=n∧t xs σ H Q
theorem fk{es:List Expr}{k:Nat}{t:TGs}{n:Nat}(hc:X.calm=true)(h:PGs X es t)
  (hn:(assignEach es X.env).length=n:=by rfl) (hst:(assignEach es X.env).findIdx? (·.1)=none:=by rfl):PG X (.Tuple es k pos) (gTup X.K n t):=by
 intro pins s σ H v u Q I r hw
 obtain⟨a,xs,e1,hq,hl,hw⟩:=hw
 subst e1
 cases r
 obtain⟨its,rv,ht,hz⟩:=I.tuple hq
 refine assign_Tuple_tuple (I.ok.hd hc) ht (by simp[hn,← hl,rv.length]) hst fun h' hx=>?_
 have I1:Inv X pins σ H { s with heap:=h' }:=I.kept (t':=s.toks) fun b o e=>hx b o (zap (Heap.lt_size e)) e
 exact h pins _ σ H xs _ Q I1 (by simpa using rv) hw
def tAsg(te:TE)(g:TG):TS:=fun D σ H=>te σ H fun x H1=>g x σ H1 D.nx
theorem ps_asg{tg e:Expr}{te:TE}{g:TG}(he:PE X e te)(hg:PG X tg g)(hs:swapsWithSole [tg] e pos.line X.env=pure false:=by rfl)(hw:swappedStores [tg] e X.env=pure none:=by rfl)
  (h1:(assignEach [tg] X.env).map (·.2)=[assign tg X.env]:=by rfl):PS X (.Assign [tg] e pos) (tAsg te g):=by
 intro pins s σ H D I h
 refine wpAny_Assign_stores (thn (he pins s σ H _ I h) fun v s1 zz1=>?_) hs hw
 obtain⟨x,H1,I1,r1,q1⟩:=zz1
 rw[h1]
 exact thn (hg pins s1 σ H1 x v _ I1 r1 q1) fun _ s2 q=>q
theorem ai{i:Nat}{x:Str}{e:Expr}{te:TE}{pos':Pos}(hN:X.N.Nodup)(hi:X.N[i]?=some x)(hx:Loc X.env.scope x)(he:PE X e te)(hs:swapsWith e (some (.Name x pos')) pos.line X.env=pure false:=by rfl)(hf:X.fn x=true∨X.env.scope.names.lookup x=some .local:=by first | exact .inl rfl | exact .inr rfl | assumption) :
  PS X (.Assign [.Name x pos'] e pos) (tAsg te (gJ i)):=by
 intro pins s σ H D I h
 refine wpAny_Assign_Name (thn (he pins s σ H _ I h) fun v s1 zz1=>?_) hs
 obtain⟨y,H1,I1,r1,q1⟩:=zz1
 exact store_ok I1 hN hi hx r1 (fun s2 I2=>⟨_,H1,I2,q1⟩) hf
end
section
variable{X:Cx}{pos:Pos}
def tWhile(c:TT)(tb:TS):TS:=fun D σ H=>∃ W:Nat→St→Hp→Prop,(∃ m,W m σ H)∧∀ m σ H,W m σ H →
 c σ H fun b H1=>if b=true then ∃ N:St→Hp→Prop,(∀ σ' H',N σ' H'→∃ m',m'<m∧W m' σ' H')∧tb { D with nx:=N,ct:=N,bk:=D.nx } σ H1 else D.nx σ H1
theorem ps_while{c:Expr}{body:List Stmt}{tc:TT}{tb:TS}(hp:PassesOwn (model X.prog X.w) X.A X.env X.xe)(hc:PT X c tc)(hb:PSs X body tb):PS X (.While c body [] pos) (tWhile tc tb):=by
 intro pins s σ H D I h
 obtain⟨W,⟨m0,w0⟩,turn⟩:=h
 refine wpAny_While (codeAny_whileLoop (fun n s'=>∃ σ' H',Inv X pins σ' H' s'∧W n σ' H') ?_ m0 ⟨σ,H,I,w0⟩)
 rintro n s1 ⟨σ1,H1,I1,w1⟩
 refine wpAny_passesOwn hp (thn (hc pins s1 σ1 H1 _ I1 (turn n σ1 H1 w1)) fun b s2 zz1=>?_)
 obtain⟨H2,I2,q2⟩:=zz1
 cases b with
 | true =>
  obtain⟨N,hN,q2⟩:=q2
  rw[if_pos rfl]
  refine wpAny_passesOwn hp (thn (hb pins s2 σ1 H2 _ I2 q2) fun f s3 q3=>?_)
  cases f with
  | next =>
   obtain⟨σ3,H3,I3,n3⟩:=q3
   obtain⟨m',hm,w3⟩:=hN σ3 H3 n3
   exact⟨m',hm,σ3,H3,I3,w3⟩
  | cont =>
   obtain⟨σ3,H3,I3,n3⟩:=q3
   obtain⟨m',hm,w3⟩:=hN σ3 H3 n3
   exact⟨m',hm,σ3,H3,I3,w3⟩
  | brk=>exact q3
  | ret v=>exact q3
 | false =>
  rw[if_neg zaj]
  exact wpAny_execs_nil ⟨σ1,H2,I2,q2⟩
end
structure It where
 go:Nat→Hp→Prop
 yld:Nat→Hp→V→Hp→Prop
 stop:Nat→Hp→Prop
def FpOk(X:Cx)(pins:List (Addr×Obj))(H:Hp)(b:Addr):Prop :=
 H b=none∧b≠X.env.locals∧b∉X.fs∧(b∈X.ex∨X.s₀.heap.objs.size≤b)∧(∀ x c,X.env.cells.lookup x=some c→c≠b)∧∀ p∈X.pn++pins,p.1≠b
theorem Inv.fpOk{X:Cx}{pins:List (Addr×Obj)}{σ:St}{H H':Hp}{s:Shared}{b:Addr}(I:Inv X pins σ H s)(hb:s.heap.objs.size≤b)(hn:H' b=none):FpOk X pins H' b:=by
 refine⟨hn,zc9 (zax I.lt hb),I.nofs hb,.inr (zb1 I.sz hb),fun x c e z=>?_,fun p hp z=>?_⟩
 ·obtain⟨v,q⟩:=I.cell x c e
  exact absurd (zax q.lt (by rw[z];exact hb)) (zbv _)
 ·exact absurd (zax (Heap.lt_size (I.pin p hp).1) (by rw[z];exact hb)) (zbv _)
structure Turn(P:Program)(w:World)(K:PySem.W.Frag)(tg:Expr)(J:It)(fp:List Addr)(it:Addr)(tn:Nat→Heap→Prop):Prop where
 mem:it∈fp
 obj:∀ i h,tn i h→∀ b∈fp,∃ o,h.get? b=some o∧∀ v,o.data≠.cell v
 keep:∀ i h h',tn i h→(∀ b∈fp,∀ o,h.get? b=some o→h'.get? b=some o)→tn i h'
 item:∀ (X:Cx),X.prog=P→X.w=w→X.K=K→X.calm=true→∀ (i:Nat) (pins:List (Addr×Obj)) (s:Shared) (σ:St) (H:Hp) (E:Value→Shared→Prop),Inv X pins σ H s→(∀ b∈fp,FpOk X pins H b)→tn i s.heap→J.go i H →
  wpAny (model P w) X.A (pyNext (.ref it)) (fun r s1=>∃ u,r=some u ∧
   wpAny (model P w) X.A (letOwnedTupleGo tg (.ref it) u) (fun _ s2=>∃ x H',Inv X pins σ H' s2∧RelV x u∧J.yld i H x H'∧tn (i+1) s2.heap∧∀ b∈fp,H' b=none) E s1) E s
 done:∀ (X:Cx),X.prog=P→X.w=w→X.K=K→X.calm=true→∀ (i:Nat) (pins:List (Addr×Obj)) (s:Shared) (σ:St) (H:Hp) (E:Value→Shared→Prop),Inv X pins σ H s→(∀ b∈fp,FpOk X pins H b)→tn i s.heap→J.stop i H →
  wpAny (model P w) X.A (pyNext (.ref it)) (fun r s1=>r=none∧Inv X pins σ H s1) E s
 self:∀ (A:Around) (i:Nat) (s:Shared) (Q:Value→Shared→Prop) (E:Value→Shared→Prop),tn i s.heap→Q (.ref it) s→wpAny (model P w) A (pyIter (.ref it)) Q E s
abbrev TI:=St→Hp→(It→Hp→Prop)→Prop
def PIE(X:Cx)(pins:List (Addr×Obj))(σ:St)(tg:Expr)(R:It→Hp→Prop)(itv:Value)(s2:Shared):Prop :=
 ∃ (it:Addr) (fp:List Addr) (tn:Nat→Heap→Prop) (J:It) (H':Hp),itv=.ref it∧Inv X pins σ H' s2∧Turn X.prog X.w X.K tg J fp it tn∧tn 0 s2.heap∧(∀ b∈fp,FpOk X pins H' b)∧R J H'
def PI(X:Cx)(tg iter:Expr)(wi:TI):Prop :=
 ∀ (pins:List (Addr×Obj)) (s:Shared) (σ:St) (H:Hp) (R:It→Hp→Prop),Inv X pins σ H s→wi σ H R →
  wpAny (model X.prog X.w) X.A (eval iter X.env) (fun v s1=>wpAny (model X.prog X.w) X.A (pyIter v) (PIE X pins σ tg R) X.xe s1) X.xe s
theorem go_of{M:Model}{A:Around}{E:Value→Shared→Prop}{s:Shared}{tg:Expr}{it:Addr}{u:Value}{o:Obj}{n:String}{vs:Array Value}{Q:Unit→Shared→Prop}(ho:s.heap.get? it=some o)(hc:o.cls=.type n)(hd:o.data=.fields vs)
    (hn:["enumerate","zip","dict_itemiterator","dict_reverseitemiterator","odict_iterator","itertools.zip_longest","itertools.pairwise"].contains n=false) (hQ:Q () s):wpAny M A (letOwnedTupleGo tg (.ref it) u) Q E s:=by
  unfold letOwnedTupleGo
  cases tg<;>first
    | exact wpAny_pure hQ
    | (cases u<;>first
        | exact wpAny_pure hQ
        | (refine wpAny_bind (wpAny_load ho ?_)
           rw[hc,hd]
           show wpAny M A (if (["enumerate","zip","dict_itemiterator","dict_reverseitemiterator","odict_iterator","itertools.zip_longest","itertools.pairwise"].contains n&&vs[0]?==some (rawInt _))=true then _ else _) Q E s
           rw[if_neg (by intro h;rw[hn,Bool.false_and]at h;cases h)]
           exact wpAny_pure hQ))
def Itl(K:PySem.W.Frag)(a:Addr):It :=
 ⟨fun i H=>∃ xs x,SqL K H a xs∧xs[i]?=some x,fun i H x H'=>H'=H∧∀ xs,SqL K H a xs→xs[i]?=some x,fun i H=>∃ xs,SqL K H a xs∧xs.length≤i⟩
def Itt(K:PySem.W.Frag)(a:Addr):It :=
 ⟨fun i H=>∃ xs x,SqT K H a xs∧xs[i]?=some x,fun i H x H'=>H'=H∧∀ xs,SqT K H a xs→xs[i]?=some x,fun i H=>∃ xs,SqT K H a xs∧xs.length≤i⟩
def Itr(lo:Int)(n:Nat):It:=⟨fun i _=>i<n,fun i H x H'=>H'=H∧x=.int (lo+i),fun i _=>n≤i⟩
theorem turn_list{P:Program}{w:World}{K:PySem.W.Frag}{tg:Expr}(a it:Addr):Turn P w K tg (Itl K a) [it] it (fun i h=>h.IsListIter it a i) where
 mem:=by simp
 obj:=fun i h st b hb=>by
  have e:b=it:=by simpa using hb
  subst e
  obtain⟨o,e,c,d⟩:=st
  exact⟨o,e,fun v z=>by rw[d]at z;cases z⟩
 keep:=fun i h h' st k=>st.at fun o e=>k it (by simp) o e
 item:=by
  intro X hP hw hK hc i pins s σ H E I hf st hg
  subst hP hw hK
  obtain⟨xs,x,hq,hx⟩:=hg
  obtain⟨its,rv,p,hz⟩:=I.list hq
  obtain⟨u,hu,ru⟩:=rv.get hx
  obtain⟨f0,f1,f2,f3,f4,f5⟩:=hf it (by simp)
  refine wpAny_pyNext_list_item st p.isList (x:=u) (by simpa using hu) fun h' st' sb=>?_
  have I1:Inv X pins σ H { s with heap:=h' }:=I.turned (t':=s.toks) (fun b o hb e=>(sb.2 b hb).trans e) f0 f1 f3 f4 f5
  obtain⟨o,e,c,d⟩:=id st'
  exact⟨u,rfl,go_of (s:={ s with heap:=h' }) e c d (by decide) ⟨x,H,I1,ru,⟨rfl,fun ys hy=>by rw[I.list_inj hy hq];exact hx⟩,st',fun b hb=>(hf b hb).1⟩⟩
 done:=by
  intro X hP hw hK hc i pins s σ H E I hf st hg
  subst hP hw hK
  obtain⟨xs,hq,hx⟩:=hg
  obtain⟨its,rv,p,hz⟩:=I.list hq
  obtain⟨f0,f1,f2,f3,f4,f5⟩:=hf it (by simp)
  have hl:=rv.length
  exact wpAny_pyNext_list_end (I.ok.hd hc) st p.isList (by simp;omega) fun h' eb=>⟨rfl,I.turned (t':=s.toks) (fun b o hb e=>eb b o hb e) f0 f1 f3 f4 f5⟩
 self:=fun _ _ _ _ _ st h=>wpAny_pyIter_listiter st h
theorem turn_tuple{P:Program}{w:World}{K:PySem.W.Frag}{tg:Expr}(a it:Addr):Turn P w K tg (Itt K a) [it] it (fun i h=>h.IsTupleIter it a i) where
 mem:=by simp
 obj:=fun i h st b hb=>by
  have e:b=it:=by simpa using hb
  subst e
  obtain⟨o,e,c,d⟩:=st
  exact⟨o,e,fun v z=>by rw[d]at z;cases z⟩
 keep:=fun i h h' st k=>st.at fun o e=>k it (by simp) o e
 item:=by
  intro X hP hw hK hc i pins s σ H E I hf st hg
  subst hP hw hK
  obtain⟨xs,x,hq,hx⟩:=hg
  obtain⟨its,rv,p,hz⟩:=I.tuple hq
  obtain⟨u,hu,ru⟩:=rv.get hx
  obtain⟨f0,f1,f2,f3,f4,f5⟩:=hf it (by simp)
  refine wpAny_pyNext_tuple_item st (show s.heap.IsTuple a its.toArray from p) (x:=u) (by simpa using hu) fun h' st' sb=>?_
  have I1:Inv X pins σ H { s with heap:=h' }:=I.turned (t':=s.toks) (fun b o hb e=>(sb.2 b hb).trans e) f0 f1 f3 f4 f5
  obtain⟨o,e,c,d⟩:=id st'
  exact⟨u,rfl,go_of (s:={ s with heap:=h' }) e c d (by decide) ⟨x,H,I1,ru,⟨rfl,fun ys hy=>by rw[I.tuple_inj hy hq];exact hx⟩,st',fun b hb=>(hf b hb).1⟩⟩
 done:=by
  intro X hP hw hK hc i pins s σ H E I hf st hg
  subst hP hw hK
  obtain⟨xs,hq,hx⟩:=hg
  obtain⟨its,rv,p,hz⟩:=I.tuple hq
  obtain⟨f0,f1,f2,f3,f4,f5⟩:=hf it (by simp)
  have hl:=rv.length
  exact wpAny_pyNext_tuple_end (I.ok.hd hc) st (show s.heap.IsTuple a its.toArray from p) (by simp;omega) fun h' eb=>⟨rfl,I.turned (t':=s.toks) (fun b o hb e=>eb b o hb e) f0 f1 f3 f4 f5⟩
 self:=fun _ _ _ _ _ st h=>wpAny_pyIter_tupleiter st h
theorem turn_range{P:Program}{w:World}{K:PySem.W.Frag}{tg:Expr}(it:Addr)(lo:Int)(n:Nat):Turn P w K tg (Itr lo n) [it] it (fun i h=>IsRangeIter h it (lo+(i:Nat)*1) ((n:Int)-(i:Nat)) 1) where
 mem:=by simp
 obj:=fun i h st b hb=>by
  have e:b=it:=by simpa using hb
  subst e
  exact⟨_,st,fun v z=>by
   have z':Data.fields _=Data.cell v:=z
   cases z'⟩
 keep:=fun i h h' st k=>k it (by simp) _ st
 item:=by
  intro X hP hw hK hc i pins s σ H E I hf st hg
  subst hP hw hK
  obtain⟨f0,f1,f2,f3,f4,f5⟩:=hf it (by simp)
  have W:=Walks.range (prog:=X.prog) (w:=X.w) (I.ok.hd hc) it lo 1 n
  refine W.item i s _ _ hg st fun v h' tk hv st' kk=>?_
  obtain⟨t,rfl⟩:=hv
  have I1:Inv X pins σ H { s with heap:=h',toks:=tk }:=I.turned (fun b o hb e=>kk b o (by simpa using hb) e) f0 f1 f3 f4 f5
  refine⟨_,rfl,go_of (s:={ s with heap:=h',toks:=tk }) (n:="range_iterator") st' rfl rfl (by decide) ⟨.int (lo+i),H,I1,⟨t,?_⟩,⟨rfl,rfl⟩,st',fun b hb=>(hf b hb).1⟩⟩
  rw[Int.mul_one]
 done:=by
  intro X hP hw hK hc i pins s σ H E I hf st hg
  subst hP hw hK
  obtain⟨f0,f1,f2,f3,f4,f5⟩:=hf it (by simp)
  exact wpAny_pyNext_range_end (I.ok.hd hc) st (by have:n≤i:=hg;omega) fun h' eb=>⟨rfl,I.turned (t':=s.toks) (fun b o hb e=>eb b o hb e) f0 f1 f3 f4 f5⟩
 self:=fun _ _ _ _ _ st h=>wpAny_pyIter_rangeiter st h
section
variable{X:Cx}{tg:Expr}
def iList(K:PySem.W.Frag)(tl:TE):TI:=fun σ H R=>tl σ H fun x H1=>∃ a,x=.ref a∧(∃ xs,SqL K H1 a xs)∧R (Itl K a) H1
def iTup(K:PySem.W.Frag)(tl:TE):TI:=fun σ H R=>tl σ H fun x H1=>∃ a,x=.ref a∧(∃ xs,SqT K H1 a xs)∧R (Itt K a) H1
theorem c6{l:Expr}{tl:TE}(hl:PE X l tl):PI X tg l (iList X.K tl):=by
 intro pins s σ H R I h
 refine thn (hl pins s σ H _ I h) fun v s1 zz1=>?_
 obtain⟨x,H1,I1,r1,q1⟩:=zz1
 obtain⟨a,e,⟨xs,hq⟩,q⟩:=q1
 subst e
 cases r1
 obtain⟨its,rv,p,hz⟩:=I1.list hq
 refine wpAny_pyIter_list p.isList ?_
 refine⟨s1.heap.objs.size,[s1.heap.objs.size],_,_,H1,rfl,I1.kept (t':=s1.toks) fun b o e=>Heap.get?_push_of_some _ e,turn_list a _,⟨_,Heap.get?_push_size _ rfl,rfl,rfl⟩,fun b hb=>?_,q⟩
 have e:b=s1.heap.objs.size:=by simpa using hb
 subst e
 exact I1.fpOk (za4 _) (I1.hok.fresh (za4 _))
theorem pi_tup{l:Expr}{tl:TE}(hl:PE X l tl):PI X tg l (iTup X.K tl):=by
 intro pins s σ H R I h
 refine thn (hl pins s σ H _ I h) fun v s1 zz1=>?_
 obtain⟨x,H1,I1,r1,q1⟩:=zz1
 obtain⟨a,e,⟨xs,hq⟩,q⟩:=q1
 subst e
 cases r1
 obtain⟨its,rv,p,hz⟩:=I1.tuple hq
 refine wpAny_pyIter_tuple (show s1.heap.IsTuple a its.toArray from p) ?_
 refine⟨s1.heap.objs.size,[s1.heap.objs.size],_,_,H1,rfl,I1.kept (t':=s1.toks) fun b o e=>Heap.get?_push_of_some _ e,turn_tuple a _,⟨_,Heap.get?_push_size _ rfl,rfl,rfl⟩,fun b hb=>?_,q⟩
 have e:b=s1.heap.objs.size:=by simpa using hb
 subst e
 exact I1.fpOk (za4 _) (I1.hok.fresh (za4 _))
theorem range_it{pins:List (Addr×Obj)}{σ:St}{H:Hp}{s:Shared}{R:It→Hp→Prop}{E:Value→Shared→Prop}{lo hi:Int}{t u v:Tok}{tk:Nat}(I:Inv X pins σ H s)(h1:-(2 ^ 62)≤lo)(h2:lo<2 ^ 62)(h3:-(2 ^ 62)≤hi)(h4:hi<2 ^ 62)
  (q:R (Itr lo (hi-lo).toNat) H):wpAny (model X.prog X.w) X.A (pyIter (.ref s.heap.objs.size)) (PIE X pins σ tg R) E { s with heap:=s.heap.push { cls:=.type "range",data:=.fields #[.int lo t,.int hi u,.int 1 v] },toks:=tk }:=by
 refine wpAny_pyIter_range (IsRange.new ..) (small_one h1 h2 h3 h4) ?_
 have I1:Inv X pins σ H { s with heap:=s.heap.push { cls:=.type "range",data:=.fields #[.int lo t,.int hi u,.int 1 v] },toks:=tk }:=I.kept fun b o e=>Heap.get?_push_of_some _ e
 refine⟨(s.heap.push { cls:=.type "range",data:=.fields #[.int lo t,.int hi u,.int 1 v] }).objs.size,[(s.heap.push { cls:=.type "range",data:=.fields #[.int lo t,.int hi u,.int 1 v] }).objs.size],_,_,H,rfl,
  I1.kept (t':=tk) fun b o e=>Heap.get?_push_of_some _ e,turn_range _ lo (hi-lo).toNat,?_,fun b hb=>?_,q⟩
 ·have e1:lo+((0:Nat):Int)*1=lo:=by simp
  have e2:(((hi-lo).toNat:Nat):Int)-((0:Nat):Int)=Builtin.Range.rangeSize lo hi 1:=by rw[rangeSize_one];split<;>omega
  show IsRangeIter _ _ (lo+((0:Nat):Int)*1) ((((hi-lo).toNat:Nat):Int)-((0:Nat):Int)) 1
  rw[e1,e2]
  exact Heap.get?_push_size _ rfl
 ·have e:b=(s.heap.push { cls:=.type "range",data:=.fields #[.int lo t,.int hi u,.int 1 v] }).objs.size:=by simpa using hb
  subst e
  exact I1.fpOk (za4 _) (I1.hok.fresh (za4 _))
def iRng1(ta:TA):TI:=fun σ H R=>ta σ H fun vs H1=>∃ j:Int,vs=[.int j]∧-(2 ^ 62)≤j∧j<2 ^ 62∧R (Itr 0 j.toNat) H1
theorem pi_range1{a:Expr}{ta:TA}{p pos:Pos}(hg:Gl X "range")(hm:X.mg "range"=none)(ha:PA X [a] ta)(hs:starEach [a] X.env=[(false,eval a X.env)]:=by rfl):PI X tg (.Call (.Name "range" p) [a] [] pos) (iRng1 ta):=by
 intro pins s σ H R I h
 refine Call_ (eI I hg hm boot_range (PyProof.Rows.callWith_type1 (thn (ha pos pins s σ H _ I h) fun us s1 zz1=>?_) hs rfl))
 obtain⟨vs,H1,I1,r1,q1⟩:=zz1
 obtain⟨j,e,q1,q2,q⟩:=q1
 subst e
 cases r1 with
 | cons r rr =>
  cases rr
  obtain⟨t,rfl⟩:=r
  exact call_range_1 (range_it I1 (by omega) (by omega) q1 q2 (by simpa using q))
def tFor(wi:TI)(g:TG)(tb:TS):TS:=fun D σ H=>wi σ H fun J H1=>∃ W:Nat→Nat→St→Hp→Prop,(∃ m,W 0 m σ H1)∧∀ i m σ H,W i m σ H →
 (J.stop i H∧D.nx σ H)∨(J.go i H∧∃ N:St→Hp→Prop,(∀ σ' H',N σ' H'→∃ m',m'<m∧W (i+1) m' σ' H')∧∀ x H',J.yld i H x H'→g x σ H' fun σ2 H2=>tb { D with nx:=N,ct:=N,bk:=D.nx } σ2 H2)
def jr(fp:List Addr)(h:Heap):List (Addr×Obj):=fp.filterMap fun b=>(h.get? b).map fun o=>(b,o)
theorem dJ{fp:List Addr}{h:Heap}{b:Addr}{o:Obj}(hb:b∈fp)(e:h.get? b=some o):(b,o)∈jr fp h:=List.mem_filterMap.mpr ⟨b,hb,by rw[e];rfl⟩
theorem of_pinsAt{fp:List Addr}{h:Heap}{p:Addr×Obj}(hp:p∈jr fp h):p.1∈fp∧h.get? p.1=some p.2:=by
 obtain⟨b,hb,e⟩:=List.mem_filterMap.mp hp
 cases q:h.get? b with
 | none=>rw[q]at e;cases e
 | some o =>
  rw[q]at e
  have e':(b,o)=p:=Option.some.inj e
  subst e'
  exact⟨hb,q⟩
theorem Inv.pinned{pins:List (Addr×Obj)}{σ:St}{H:Hp}{s:Shared}{fp:List Addr}(I:Inv X pins σ H s)(hf:∀ b∈fp,FpOk X pins H b)(ho:∀ b∈fp,∃ o,s.heap.get? b=some o∧∀ v,o.data≠.cell v):Inv X (pins++jr fp s.heap) σ H s :=
 I.pins_of fun p hp=>(za9.mp hp).elim (fun z=>I.pin p (za5 _ z)) fun z=>by
  obtain⟨hb,e⟩:=of_pinsAt z
  obtain⟨f0,f1,f2,_⟩:=hf p.1 hb
  obtain⟨o,e',d⟩:=ho p.1 hb
  rw[e]at e';cases e'
  exact⟨e,f0,f1,f2,d⟩
theorem Inv.unpinned{pins pl:List (Addr×Obj)}{σ:St}{H:Hp}{s:Shared}(I:Inv X (pins++pl) σ H s):Inv X pins σ H s:=I.pins_of fun p hp=>I.pin p (za5 _ (zae _ hp))
theorem cp{iter:Expr}{body:List Stmt}{wi:TI}{g:TG}{tb:TS}{pos:Pos}(hp:PassesOwn (model X.prog X.w) X.A X.env X.xe)(hc:X.calm=true)(hi:PI X tg iter wi)(hg:PG X tg g)(hb:PSs X body tb)
  (hs:∀ x,foldedSetIterable iter X.env x=pure x:=by intro _;rfl):PS X (.For tg iter body [] pos) (tFor wi g tb):=by
 intro pins s σ H D I h
 refine wpAny_For (thn (hi pins s σ H _ I h) fun v s1 h1=>thn h1 fun itv s2 h2=>?_) hs
 obtain⟨it,fp,tn,J,H2,e,I2,T,st2,f2,W,⟨m0,w0⟩,turn⟩:=h2
 subst e
 have stat:∀ {H':Hp},(∀ b∈fp,H' b=none)→∀ b∈fp,FpOk X pins H' b:=fun hn b hb=>⟨hn b hb,(f2 b hb).2⟩
 refine codeAny_forLoop_any (fun n s'=>∃ i σ' H',Inv X pins σ' H' s'∧tn i s'.heap∧(∀ b∈fp,H' b=none)∧W i n σ' H') ?_ m0 ⟨0,σ,H2,I2,st2,fun b hb=>(f2 b hb).1,w0⟩
 rintro n s3 ⟨i,σ3,H3,I3,st3,fr3,w3⟩
 rcases turn i n σ3 H3 w3 with ⟨stop,qn⟩ | ⟨go,N,hN,step⟩
 ·refine wpAny_passesOwn hp (thn (T.done X rfl rfl rfl hc i pins s3 σ3 H3 X.xe I3 (stat fr3) st3 stop) fun r s4 ⟨hr,I4⟩=>?_)
  subst hr
  exact wpAny_execs_nil ⟨σ3,H3,I4,qn⟩
 ·refine wpAny_passesOwn hp (thn (T.item X rfl rfl rfl hc i pins s3 σ3 H3 X.xe I3 (stat fr3) st3 go) fun r s4 ⟨u,hr,h4⟩=>?_)
  subst hr
  refine wpAny_passesOwn hp (thn h4 fun _ s5 zz1=>?_)
  obtain⟨x,H5,I5,r5,y5,st5,fr5⟩:=zz1
  have I5':=I5.pinned (stat fr5) (T.obj _ _ st5)
  refine wpAny_passesOwn hp (thn (hg _ s5 σ3 H5 x u _ I5' r5 (step x H5 y5)) fun _ s6 zz1=>?_)
  obtain⟨σ6,H6,I6,q6⟩:=zz1
  refine wpAny_passesOwn hp (thn (hb _ s6 σ6 H6 _ I6 q6) fun f s7 q7=>?_)
  have again:∀ {σ7:St} {H7:Hp},Inv X (pins++jr fp s5.heap) σ7 H7 s7→N σ7 H7→∃ m,m<n∧∃ i σ' H',Inv X pins σ' H' s7∧tn i s7.heap∧(∀ b∈fp,H' b=none)∧W i m σ' H':=fun {σ7 H7} I7 n7=>by
   obtain⟨m',hm,w7⟩:=hN σ7 H7 n7
   refine⟨m',hm,i+1,σ7,H7,I7.unpinned,T.keep _ _ _ st5 fun b hb o e=>(I7.pin (b,o) (za5 _ (za5 _ (dJ hb e)))).1,fun b hb=>?_,w7⟩
   obtain⟨o,e,d⟩:=T.obj _ _ st5 b hb
   exact(I7.pin (b,o) (za5 _ (za5 _ (dJ hb e)))).2.1
  cases f with
  | next=>obtain⟨σ7,H7,I7,n7⟩:=q7;exact again I7 n7
  | cont=>obtain⟨σ7,H7,I7,n7⟩:=q7;exact again I7 n7
  | brk=>obtain⟨σ7,H7,I7,q7⟩:=q7;exact⟨σ7,H7,I7.unpinned,q7⟩
  | ret v=>obtain⟨x7,σ7,H7,I7,r7,q7⟩:=q7;exact⟨x7,σ7,H7,I7.unpinned,r7,q7⟩
end
theorem d4{K:PySem.W.Frag}{a:Addr}{xs:List V}{g:TG}{tb:TS}{D:Ends}{σ:St}{H:Hp}(Pv:Nat→St→Hp→Prop)(h0:Pv 0 σ H)(hl:∀ i σ H,i≤xs.length→Pv i σ H→SqL K H a xs)
  (hs:∀ i x σ H,xs[i]?=some x→Pv i σ H→g x σ H fun σ2 H2=>tb { D with nx:=Pv (i+1),ct:=Pv (i+1),bk:=D.nx } σ2 H2) (hd:∀ σ H,Pv xs.length σ H→D.nx σ H) :
  ∃ W:Nat→Nat→St→Hp→Prop,(∃ m,W 0 m σ H)∧∀ i m σ H,W i m σ H →
   ((Itl K a).stop i H∧D.nx σ H)∨((Itl K a).go i H∧∃ N:St→Hp→Prop,(∀ σ' H',N σ' H'→∃ m',m'<m∧W (i+1) m' σ' H')∧∀ x H',(Itl K a).yld i H x H'→g x σ H' fun σ2 H2=>tb { D with nx:=N,ct:=N,bk:=D.nx } σ2 H2):=by
 refine⟨fun i m σ H=>m=xs.length-i∧i≤xs.length∧Pv i σ H,⟨xs.length,by simp,zba _,h0⟩,?_⟩
 rintro i m σ H ⟨rfl,hi,p⟩
 have q:=hl i σ H hi p
 by_cases hlt:i<xs.length
 ·refine .inr ⟨⟨xs,xs[i],q,by simp[hlt]⟩,Pv (i+1),fun σ' H' p'=>⟨xs.length-(i+1),by omega,rfl,hlt,p'⟩,fun x H' y=>?_⟩
  obtain⟨e,y⟩:=y
  subst e
  exact hs i x σ _ (y xs q) p
 ·have e:i=xs.length:=by omega
  subst e
  exact .inl ⟨⟨xs,q,za4 _⟩,hd σ H p⟩
theorem for_tup{K:PySem.W.Frag}{a:Addr}{xs:List V}{g:TG}{tb:TS}{D:Ends}{σ:St}{H:Hp}(Pv:Nat→St→Hp→Prop)(h0:Pv 0 σ H)(hl:∀ i σ H,i≤xs.length→Pv i σ H→SqT K H a xs)
  (hs:∀ i x σ H,xs[i]?=some x→Pv i σ H→g x σ H fun σ2 H2=>tb { D with nx:=Pv (i+1),ct:=Pv (i+1),bk:=D.nx } σ2 H2) (hd:∀ σ H,Pv xs.length σ H→D.nx σ H) :
  ∃ W:Nat→Nat→St→Hp→Prop,(∃ m,W 0 m σ H)∧∀ i m σ H,W i m σ H →
   ((Itt K a).stop i H∧D.nx σ H)∨((Itt K a).go i H∧∃ N:St→Hp→Prop,(∀ σ' H',N σ' H'→∃ m',m'<m∧W (i+1) m' σ' H')∧∀ x H',(Itt K a).yld i H x H'→g x σ H' fun σ2 H2=>tb { D with nx:=N,ct:=N,bk:=D.nx } σ2 H2):=by
 refine⟨fun i m σ H=>m=xs.length-i∧i≤xs.length∧Pv i σ H,⟨xs.length,by simp,zba _,h0⟩,?_⟩
 rintro i m σ H ⟨rfl,hi,p⟩
 have q:=hl i σ H hi p
 by_cases hlt:i<xs.length
 ·refine .inr ⟨⟨xs,xs[i],q,by simp[hlt]⟩,Pv (i+1),fun σ' H' p'=>⟨xs.length-(i+1),by omega,rfl,hlt,p'⟩,fun x H' y=>?_⟩
  obtain⟨e,y⟩:=y
  subst e
  exact hs i x σ _ (y xs q) p
 ·have e:i=xs.length:=by omega
  subst e
  exact .inl ⟨⟨xs,q,za4 _⟩,hd σ H p⟩
theorem for_range{lo:Int}{n:Nat}{g:TG}{tb:TS}{D:Ends}{σ:St}{H:Hp}(Pv:Nat→St→Hp→Prop)(h0:Pv 0 σ H)
  (hs:∀ i σ H,i<n→Pv i σ H→g (.int (lo+i)) σ H fun σ2 H2=>tb { D with nx:=Pv (i+1),ct:=Pv (i+1),bk:=D.nx } σ2 H2) (hd:∀ σ H,Pv n σ H→D.nx σ H) :
  ∃ W:Nat→Nat→St→Hp→Prop,(∃ m,W 0 m σ H)∧∀ i m σ H,W i m σ H →
   ((Itr lo n).stop i H∧D.nx σ H)∨((Itr lo n).go i H∧∃ N:St→Hp→Prop,(∀ σ' H',N σ' H'→∃ m',m'<m∧W (i+1) m' σ' H')∧∀ x H',(Itr lo n).yld i H x H'→g x σ H' fun σ2 H2=>tb { D with nx:=N,ct:=N,bk:=D.nx } σ2 H2):=by
 refine⟨fun i m σ H=>m=n-i∧i≤n∧Pv i σ H,⟨n,by simp,zba _,h0⟩,?_⟩
 rintro i m σ H ⟨rfl,hi,p⟩
 by_cases hlt:i<n
 ·refine .inr ⟨hlt,Pv (i+1),fun σ' H' p'=>⟨n-(i+1),by omega,rfl,hlt,p'⟩,fun x H' y=>?_⟩
  obtain⟨e,y⟩:=y
  subst e y
  exact hs i σ _ hlt p
 ·have e:i=n:=by omega
  subst e
  exact .inl ⟨za4 _,hd σ H p⟩
abbrev R2:=V→V→Hp→VK→Prop
def OpR(X:Cx)(f:Value→Value→Sem Value)(r:R2):Prop :=
 ∀ (pins:List (Addr×Obj)) (s:Shared) (σ:St) (H:Hp) (x y:V) (v u:Value) (Q:VK),Inv X pins σ H s→RelV x v→RelV y u→r x y H Q →
  wpAny (model X.prog X.w) X.A (f v u) (EP X pins σ Q) X.xe s
def UnR(X:Cx)(f:Value→Sem Value)(r:V→Hp→VK→Prop):Prop :=
 ∀ (pins:List (Addr×Obj)) (s:Shared) (σ:St) (H:Hp) (x:V) (v:Value) (Q:VK),Inv X pins σ H s→RelV x v→r x H Q →
  wpAny (model X.prog X.w) X.A (f v) (EP X pins σ Q) X.xe s
def gf(X:Cx)(f:Value)(r:List V→Hp→VK→Prop):Prop :=
 ∀ (pins:List (Addr×Obj)) (s:Shared) (σ:St) (H:Hp) (xs:List V) (us:List Value) (Q:VK),Inv X pins σ H s→Vals xs us→r xs H Q →
  wpAny (model X.prog X.w) X.A (call f us) (EP X pins σ Q) X.xe s
def TruR(X:Cx)(r:V→Hp→(Bool→Hp→Prop)→Prop):Prop :=
 ∀ (pins:List (Addr×Obj)) (s:Shared) (σ:St) (H:Hp) (x:V) (v:Value) (Q:Bool→Hp→Prop),Inv X pins σ H s→RelV x v→r x H Q →
  wpAny (model X.prog X.w) X.A (truthy v) (TP X pins σ Q) X.xe s
def tOp(r:R2)(ta tb:TE):TE:=fun σ H Q=>ta σ H fun x H1=>tb σ H1 fun y H2=>r x y H2 Q
def tUn(r:V→Hp→VK→Prop)(ta:TE):TE:=fun σ H Q=>ta σ H fun x H1=>r x H1 Q
def rI(C:Int→Int→Prop)(g:Int→Int→V):R2:=fun x y H Q=>∃ i j,x=.int i∧y=.int j∧C i j∧Q (g i j) H
def rI0(g:Int→Int→V):R2:=fun x y H Q=>∃ i j,x=.int i∧y=.int j∧Q (g i j) H
def rU(g:Int→V):V→Hp→VK→Prop:=fun x H Q=>∃ i,x=.int i∧Q (g i) H
section
variable{X:Cx}{a b c:Expr}{ta tb tc:TE}{pos:Pos}
theorem binT(ha:PE X a ta)(hb:PE X b tb){pins:List (Addr×Obj)}{s:Shared}{σ:St}{H:Hp}{R:V→V→Hp→Prop}(I:Inv X pins σ H s)
  (h:ta σ H fun x H1=>tb σ H1 fun y H2=>R x y H2) {Q:Value→Shared→Prop} {f:Value→Value→Sem Value}
  (hf:∀ v u s2 x y H2,Inv X pins σ H2 s2→RelV x v→RelV y u→R x y H2→wpAny (model X.prog X.w) X.A (f v u) Q X.xe s2) :
  wpAny (model X.prog X.w) X.A (eval a X.env) (fun v s₁=>wpAny (model X.prog X.w) X.A (eval b X.env) (fun u s₂=>wpAny (model X.prog X.w) X.A (f v u) Q X.xe s₂) X.xe s₁) X.xe s:=by
 refine thn (ha pins s σ H _ I h) fun v s1 zz1=>?_
 obtain⟨x,H1,I1,r1,q1⟩:=zz1
 refine thn (hb pins s1 σ H1 _ I1 q1) fun u s2 zz1=>?_
 obtain⟨y,H2,I2,r2,q2⟩:=zz1
 exact hf v u s2 x y H2 I2 r1 r2 q2
theorem ah{op:Operator}{r:R2}(ho:OpR X (binaryOp op) r)(ha:PE X a ta)(hb:PE X b tb):PE X (.BinOp a op b pos) (tOp r ta tb):=by
 intro pins s σ H Q I h
 exact wpAny_BinOp (binT ha hb I h fun v u s2 x y H2 I2 rx ry q=>ho pins s2 σ H2 x y v u Q I2 rx ry q)
theorem pe_un{op:UnaryOp}{r:V→Hp→VK→Prop}(ho:UnR X (unaryOp op) r)(ha:PE X a ta):PE X (.UnaryOp op a pos) (tUn r ta):=by
 intro pins s σ H Q I h
 exact UnaryOp_ (thn (ha pins s σ H _ I h) fun v s1 ⟨x,H1,I1,r1,q1⟩=>ho pins s1 σ H1 x v Q I1 r1 q1)
theorem opI{f:Value→Value→Sem Value}{C:Int→Int→Prop}{g:Int→Int→Int}
  (rule:∀ (i j:Int) (t u:Tok) (s:Shared) (Q:Value→Shared→Prop) (E:Value→Shared→Prop),C i j→Q (.int (g i j) s.toks) { s with toks:=s.toks+1 }→wpAny (model X.prog X.w) X.A (f (.int i t) (.int j u)) Q E s) :
  OpR X f (rI C fun i j=>.int (g i j)):=by
 intro pins s σ H x y v u Q I rx ry h
 obtain⟨i,j,rfl,rfl,hc,q⟩:=h
 obtain⟨t,rfl⟩:=rx
 obtain⟨t',rfl⟩:=ry
 exact rule i j t t' s _ _ hc ⟨.int (g i j),H,I.tok _,⟨_,rfl⟩,q⟩
theorem opI0{f:Value→Value→Sem Value}{g:Int→Int→Int}
  (rule:∀ (i j:Int) (t u:Tok) (s:Shared) (Q:Value→Shared→Prop) (E:Value→Shared→Prop),Q (.int (g i j) s.toks) { s with toks:=s.toks+1 }→wpAny (model X.prog X.w) X.A (f (.int i t) (.int j u)) Q E s) :
  OpR X f (rI0 fun i j=>.int (g i j)):=by
 intro pins s σ H x y v u Q I rx ry h
 obtain⟨i,j,rfl,rfl,q⟩:=h
 obtain⟨t,rfl⟩:=rx
 obtain⟨t',rfl⟩:=ry
 exact rule i j t t' s _ _ ⟨.int (g i j),H,I.tok _,⟨_,rfl⟩,q⟩
theorem opB0{f:Value→Value→Sem Value}{g:Int→Int→Bool}
  (rule:∀ (i j:Int) (t u:Tok) (s:Shared) (Q:Value→Shared→Prop) (E:Value→Shared→Prop),Q (.bool (g i j)) s→wpAny (model X.prog X.w) X.A (f (.int i t) (.int j u)) Q E s) :
  OpR X f (rI0 fun i j=>.bl (g i j)):=by
 intro pins s σ H x y v u Q I rx ry h
 obtain⟨i,j,rfl,rfl,q⟩:=h
 obtain⟨t,rfl⟩:=rx
 obtain⟨t',rfl⟩:=ry
 exact rule i j t t' s _ _ ⟨.bl (g i j),H,I,rfl,q⟩
def CDiv(i j:Int):Prop:=0<j∧j<1073741824
def CPow(i j:Int):Prop:=0≤j∧j≤1000000∧i.natAbs<2 ^ 64
def CMul(i j:Int):Prop:=(-(2 ^ 64)<i∧i<2 ^ 64)∨(-(2 ^ 64)<j∧j<2 ^ 64)
theorem CMul.ok{i j:Int}(h:CMul i j):IntMulOk i j:=by
 rcases h with ⟨h1,h2⟩ | ⟨h1,h2⟩
 ·exact .of_left (intBits_le_64 h1 h2)
 ·exact .of_right (intBits_le_64 h1 h2)
theorem df:OpR X (binaryOp .Add) (rI0 fun i j=>.int (i+j)):=opI0 fun _ _ _ _ _ _ _ q=>add_int q
theorem cB:OpR X (binaryOp .Sub) (rI0 fun i j=>.int (i-j)):=opI0 fun _ _ _ _ _ _ _ q=>sub_int q
theorem iz:OpR X (binaryOp .Mult) (rI CMul fun i j=>.int (i*j)):=opI fun _ _ _ _ _ _ _ hc q=>mul_int q hc.ok
theorem eJ:OpR X (binaryOp .FloorDiv) (rI CDiv fun i j=>.int (i / j)):=opI fun i j _ _ _ _ _ hc q=>by
 have h1:(0:Int)<j:=hc.1
 have h2:j<1073741824:=hc.2
 exact floordiv_int (by omega) (by rw[Int.fdiv_eq_ediv_of_nonneg i (by omega)];exact q) (.inl (PyProof.noPylong_small (by omega)))
theorem bw:OpR X (binaryOp .Mod) (rI (fun _ j=>0<j) fun i j=>.int (i % j)):=opI fun i j _ _ _ _ _ hc q=>by
 have h1:(0:Int)<j:=hc
 exact mod_int' (by omega) (by rw[Int.fmod_eq_emod_of_nonneg i (by omega)];exact q)
theorem op_pow:OpR X (binaryOp .Pow) (rI CPow fun i j=>.int (i ^ j.toNat)):=opI fun _ _ _ _ _ _ _ hc q=>pow_int_small hc.1 hc.2.1 hc.2.2 q
theorem unI{f:Value→Sem Value}{g:Int→Int}
  (rule:∀ (i:Int) (t:Tok) (s:Shared) (Q:Value→Shared→Prop) (E:Value→Shared→Prop),Q (.int (g i) s.toks) { s with toks:=s.toks+1 }→wpAny (model X.prog X.w) X.A (f (.int i t)) Q E s) :
  UnR X f (rU fun i=>.int (g i)):=by
 intro pins s σ H x v Q I rx h
 obtain⟨i,rfl,q⟩:=h
 obtain⟨t,rfl⟩:=rx
 exact rule i t s _ _ ⟨.int (g i),H,I.tok _,⟨_,rfl⟩,q⟩
theorem un_neg:UnR X (unaryOp .USub) (rU fun i=>.int (-i)):=unI fun _ _ _ _ _ q=>neg_int q
end
def scal:V→V→Bool
 | .non,.non=>true | .non,.int _=>true | .int _,.non=>true | .non,.bl _=>true | .bl _,.non=>true | .non,.str _=>true | .str _,.non=>true
 | .int _,.int _=>true | .bl _,.bl _=>true | .str _,.str _=>true | .byt _,.byt _=>true
 | .int _,.str _=>true | .str _,.int _=>true | .bl _,.str _=>true | .str _,.bl _=>true
 | _,_=>false
def rEq:R2:=fun x y H Q=>scal x y=true∧Q (.bl (decide (x=y))) H
def rNe:R2:=fun x y H Q=>scal x y=true∧Q (.bl (!decide (x=y))) H
theorem dec_int{i j:Int}:decide (V.int i=V.int j)=(i==j):=by
 rw[Bool.eq_iff_iff]
 simp
theorem dec_bl{i j:Bool}:decide (V.bl i=V.bl j)=(i==j):=by
 rw[Bool.eq_iff_iff]
 simp
theorem dec_str{i j:Str}:decide (V.str i=V.str j)=(i==j):=by
 rw[Bool.eq_iff_iff]
 simp
theorem dec_byt{i j:Array UInt8}:decide (V.byt i=V.byt j)=(i.toList==j.toList):=by
 rw[Bool.eq_iff_iff]
 cases i
 cases j
 simp
section
variable{X:Cx}{a b c:Expr}{ta tb tc:TE}{pos:Pos}
theorem b4{pins:List (Addr×Obj)}{σ:St}{H:Hp}{s:Shared}{Q:VK}{k k':Bool}(I:Inv X pins σ H s)(q:Q (.bl k) H)(e:k=k'):EP X pins σ Q (.bool k') s:=by
 subst e
 exact⟨.bl k,H,I,rfl,q⟩
theorem jJ:OpR X (compareOp .Eq) rEq:=by
 intro pins s σ H x y v u Q I rx ry h
 obtain⟨hs,q⟩:=h
 cases x with
 | non =>
  cases rx
  cases y with
  | non=>cases ry;exact PySem.EqNone.eq_none_none (b4 I q (by simp))
  | bl j=>cases ry;exact PySem.EqNone.eq_none_bool (b4 I q (by simp))
  | int j=>obtain⟨t',rfl⟩:=ry;exact PySem.EqNone.eq_none_int (b4 I q (by simp))
  | str j=>obtain⟨t',rfl⟩:=ry;exact PySem.EqNone.eq_none_str (b4 I q (by simp))
  | _=>exact absurd (show false=true from hs) zaj
 | bl i =>
  cases rx
  cases y with
  | non=>cases ry;exact PySem.EqNone.eq_bool_none (b4 I q (by simp))
  | bl j=>cases ry;exact eq_bool (b4 I q dec_bl)
  | str j=>obtain⟨t',rfl⟩:=ry;exact PySem.EqMixed.eq_bool_str (b4 I q (by simp))
  | _=>exact absurd (show false=true from hs) zaj
 | int i =>
  obtain⟨t,rfl⟩:=rx
  cases y with
  | non=>cases ry;exact PySem.EqNone.eq_int_none (b4 I q (by simp))
  | int j=>obtain⟨t',rfl⟩:=ry;exact eq_int (b4 I q dec_int)
  | str j=>obtain⟨t',rfl⟩:=ry;exact PySem.EqMixed.eq_int_str (b4 I q (by simp))
  | _=>exact absurd (show false=true from hs) zaj
 | str i =>
  obtain⟨t,rfl⟩:=rx
  cases y with
  | non=>cases ry;exact PySem.EqNone.eq_str_none (b4 I q (by simp))
  | bl j=>cases ry;exact PySem.EqMixed.eq_str_bool (b4 I q (by simp))
  | int j=>obtain⟨t',rfl⟩:=ry;exact PySem.EqMixed.eq_str_int (b4 I q (by simp))
  | str j=>obtain⟨t',rfl⟩:=ry;exact eq_str (b4 I q dec_str)
  | _=>exact absurd (show false=true from hs) zaj
 | byt i =>
  obtain⟨t,rfl⟩:=rx
  cases y with
  | byt j=>obtain⟨t',rfl⟩:=ry;exact PySem.W.eq_bytes (b4 I q dec_byt)
  | _=>exact absurd (show false=true from hs) zaj
 | _=>cases y<;>exact absurd (show false=true from hs) zaj
theorem op_ne:OpR X (compareOp .NotEq) rNe:=by
 intro pins s σ H x y v u Q I rx ry h
 obtain⟨hs,q⟩:=h
 cases x with
 | non =>
  cases rx
  cases y with
  | non=>cases ry;exact PySem.EqNone.ne_none_none (b4 I q (by simp))
  | bl j=>cases ry;exact PySem.EqNone.ne_none_bool (b4 I q (by simp))
  | int j=>obtain⟨t',rfl⟩:=ry;exact PySem.EqNone.ne_none_int (b4 I q (by simp))
  | str j=>obtain⟨t',rfl⟩:=ry;exact PySem.EqNone.ne_none_str (b4 I q (by simp))
  | _=>exact absurd (show false=true from hs) zaj
 | bl i =>
  cases rx
  cases y with
  | non=>cases ry;exact PySem.EqNone.ne_bool_none (b4 I q (by simp))
  | bl j=>cases ry;exact ne_bool (b4 I q (congrArg not dec_bl))
  | str j=>obtain⟨t',rfl⟩:=ry;exact PySem.EqMixed.ne_bool_str (b4 I q (by simp))
  | _=>exact absurd (show false=true from hs) zaj
 | int i =>
  obtain⟨t,rfl⟩:=rx
  cases y with
  | non=>cases ry;exact PySem.EqNone.ne_int_none (b4 I q (by simp))
  | int j=>obtain⟨t',rfl⟩:=ry;exact ne_int (b4 I q (congrArg not dec_int))
  | str j=>obtain⟨t',rfl⟩:=ry;exact PySem.EqMixed.ne_int_str (b4 I q (by simp))
  | _=>exact absurd (show false=true from hs) zaj
 | str i =>
  obtain⟨t,rfl⟩:=rx
  cases y with
  | non=>cases ry;exact PySem.EqNone.ne_str_none (b4 I q (by simp))
  | bl j=>cases ry;exact PySem.EqMixed.ne_str_bool (b4 I q (by simp))
  | int j=>obtain⟨t',rfl⟩:=ry;exact PySem.EqMixed.ne_str_int (b4 I q (by simp))
  | str j=>obtain⟨t',rfl⟩:=ry;exact ne_str (b4 I q (congrArg not dec_str))
  | _=>exact absurd (show false=true from hs) zaj
 | byt i =>
  obtain⟨t,rfl⟩:=rx
  cases y with
  | byt j=>obtain⟨t',rfl⟩:=ry;exact PySem.W.ne_bytes (b4 I q (congrArg not dec_byt))
  | _=>exact absurd (show false=true from hs) zaj
 | _=>cases y<;>exact absurd (show false=true from hs) zaj
theorem op_lt:OpR X (compareOp .Lt) (rI0 fun i j=>.bl (decide (i<j))):=opB0 fun _ _ _ _ _ _ _ q=>lt_int q
theorem op_gt:OpR X (compareOp .Gt) (rI0 fun i j=>.bl (decide (j<i))):=opB0 fun _ _ _ _ _ _ _ q=>gt_int q
theorem op_isN:OpR X (compareOp .Is) (fun x y H Q=>y=.non∧Q (.bl (decide (x=.non))) H):=by
 intro pins s σ H x y v u Q I rx ry h
 obtain⟨rfl,q⟩:=h
 cases ry
 refine is_none_gen (b4 I q ?_)
 cases x<;>first
  | (cases rx;rfl)
  | (obtain⟨t,rfl⟩:=rx;rfl)
theorem op_notN:OpR X (compareOp .IsNot) (fun x y H Q=>y=.non∧Q (.bl (!decide (x=.non))) H):=by
 intro pins s σ H x y v u Q I rx ry h
 obtain⟨rfl,q⟩:=h
 cases ry
 refine isnot_none_gen (b4 I q ?_)
 cases x<;>first
  | (cases rx;rfl)
  | (obtain⟨t,rfl⟩:=rx;rfl)
theorem b9(b:Expr){op:CmpOp}(h:op≠.In:=by decide)(h2:op≠.NotIn:=by decide):behindInMarks op b=false:=by
 have e1:(op==CmpOp.In)=false:=by cases op<;>first | rfl | exact absurd rfl h
 have e2:(op==CmpOp.NotIn)=false:=by cases op<;>first | rfl | exact absurd rfl h2
 cases b<;>simp[behindInMarks,e1,e2]
theorem pe_cmpR{op:CmpOp}{r:R2}(ho:OpR X (compareOp op) r)(ha:PE X a ta)(hb:PE X b tb)(hm:behindInMarks op b=false):PE X (.Compare a [op] [b] pos) (tOp r ta tb):=by
 intro pins s σ H Q I h
 exact wpAny_Compare1 (binT ha hb I h fun v u s2 x y H2 I2 rx ry q=>ho pins s2 σ H2 x y v u Q I2 rx ry q) hm
def tTest(t:TE):TT:=fun σ H Q=>t σ H fun x H'=>∃ k,x=.bl k∧Q k H'
theorem ar{op:CmpOp}{r:R2}(ho:OpR X (compareOp op) r)(ha:PE X a ta)(hb:PE X b tb)(hm:behindInMarks op b=false):PT X (.Compare a [op] [b] pos) (tTest (tOp r ta tb)):=by
 intro pins s σ H Q I h
 refine wpAny_isTrue_Compare1 (thn (ha pins s σ H _ I h) fun v s1 ⟨x,H1,I1,r1,q1⟩=>thn (hb pins s1 σ H1 _ I1 q1) fun u s2 ⟨y,H2,I2,r2,q2⟩ =>
  thn (ho pins s2 σ H2 x y v u _ I2 r1 r2 q2) fun c s3 ⟨z,H3,I3,r3,k,e,q3⟩=>?_) hm
 subst e
 cases r3
 exact wpAny_truthy_bool ⟨H3,I3,q3⟩
def TruV(K:PySem.W.Frag)(x:V)(H:Hp)(k:Bool):Prop :=
 match x with
 | .non=>k=false
 | .bl b=>k=b
 | .int i=>k=(i !=0)
 | .str y=>y.length≤sizeLine∧k=((y.length:Int) !=0)
 | .byt y=>y.size≤sizeLine∧k=((y.size:Int) !=0)
 | .ref p=>(∃ xs,SqL K H p xs∧k=!xs.isEmpty)∨(∃ xs,SqT K H p xs∧k=!xs.isEmpty)∨∃ kvs,H p=some (.dK kvs)∧k=!kvs.isEmpty
 | _=>False
theorem isEmpty_kv{κ:Type}{kvs:List (κ×V)}{vs:List (κ×Value)}(r:KV kvs vs):(!vs.isEmpty)=!kvs.isEmpty:=by
 cases r<;>rfl
theorem isEmpty_of{xs:List V}{its:List Value}(r:Vals xs its):(!its.toArray.isEmpty)=!xs.isEmpty:=by
 cases r<;>simp
theorem line63:(sizeLine:Nat)<2 ^ 63:=by rw[sizeLine_eq];decide
theorem tru_ok:TruR X (fun x H Q=>∃ k,TruV X.K x H k∧Q k H):=by
 intro pins s σ H x v Q I rx h
 obtain⟨k,e,q⟩:=h
 have hl:=line63
 have hs:sizeLine=16777216:=sizeLine_eq
 cases x with
 | non =>
  cases rx
  have e':k=false:=e
  subst e'
  exact truthy_none ⟨H,I,q⟩
 | bl b =>
  cases rx
  have e':k=b:=e
  subst e'
  exact wpAny_truthy_bool ⟨H,I,q⟩
 | int i =>
  obtain⟨t,rfl⟩:=rx
  have e':k=(i !=0):=e
  subst e'
  exact PySem.P.truthy_int ⟨H,I,q⟩
 | str y =>
  obtain⟨t,rfl⟩:=rx
  obtain⟨hy,e'⟩:y.length≤sizeLine∧k=((y.length:Int) !=0):=e
  subst e'
  exact PySem.P.truthy_str (by omega) ⟨H,I.tok _,q⟩
 | byt y =>
  obtain⟨t,rfl⟩:=rx
  obtain⟨hy,e'⟩:y.size≤sizeLine∧k=((y.size:Int) !=0):=e
  subst e'
  exact PySem.W.truthy_bytes (by omega) ⟨H,I.tok _,q⟩
 | ref p =>
  cases rx
  have e':(∃ xs,SqL X.K H p xs∧k=!xs.isEmpty)∨(∃ xs,SqT X.K H p xs∧k=!xs.isEmpty)∨∃ kvs,H p=some (.dK kvs)∧k=!kvs.isEmpty:=e
  rcases e' with ⟨xs,hx,e'⟩ | ⟨xs,hx,e'⟩ | ⟨kvs,hx,e'⟩
  ·subst e'
   obtain⟨its,r,pl,hz⟩:=I.list hx
   have hlen:=r.length
   exact wpAny_truthy_list pl.isList (by simp only[zag];omega) ⟨H,I.tok _,by rw[isEmpty_of r];exact q⟩
  ·subst e'
   obtain⟨its,r,pl,hz⟩:=I.tuple hx
   have hlen:=r.length
   exact truthy_tuple pl (by simp only[zag];omega) ⟨H,I.tok _,by rw[isEmpty_of r];exact q⟩
  ·subst e'
   obtain⟨hz,hS,vs,r,m⟩:kvs.length≤sizeLine∧(p==sysModules)=false∧∃ vs,KV kvs vs∧s.heap.DictOf (c8 X.prog X.w) p vs:=I.hok p _ hx
   have hlen:kvs.length=vs.length:=Paired.length r
   exact wpAny_truthy_dict hS m (by omega) ⟨H,I.tok _,by rw[isEmpty_kv r];exact q⟩
 | _=>exact(show False from e).elim
theorem pt_truth(ha:PE X a ta)(he:∀ whole,isTrue a X.env whole=(do let v ← whole;standAt a.pos;holding [v] (truthy v))) :
  PT X a (fun σ H Q=>ta σ H fun x H'=>∃ k,TruV X.K x H' k∧Q k H'):=by
 intro pins s σ H Q I h
 exact isTrue_plain (thn (ha pins s σ H _ I h) fun v s1 ⟨x,H1,I1,r1,q1⟩=>tru_ok pins s1 σ H1 x v Q I1 r1 q1) (he _)
theorem gt{x:V}{us:List Value}(r:Vals [x] us):∃ u,us=[u]∧RelV x u:=by
 cases r with
 | cons r1 r2=>cases r2;exact⟨_,rfl,r1⟩
theorem vals2{x y:V}{us:List Value}(r:Vals [x,y] us):∃ u w',us=[u,w']∧RelV x u∧RelV y w':=by
 cases r with
 | cons r1 r2 =>
  cases r2 with
  | cons r3 r4=>cases r4;exact⟨_,_,rfl,r1,r3⟩
theorem call_max2(hc:X.calm=true):gf X (.builtin "max") (fun xs H Q=>∃ i j,xs=[.int i,.int j]∧Q (.int (if j>i then j else i)) H):=by
 intro pins s σ H xs us Q I r h
 obtain⟨i,j,rfl,q⟩:=h
 obtain⟨u,w',rfl,⟨t,rfl⟩,⟨t',rfl⟩⟩:=vals2 r
 refine max_two_ints (I.ok.hd hc) fun h' tk k=>⟨_,H,I.kept k,?_,q⟩
 by_cases hj:j>i
 ·rw[if_pos hj,if_pos hj];exact⟨_,rfl⟩
 ·rw[if_neg hj,if_neg hj];exact⟨_,rfl⟩
theorem call_min2(hc:X.calm=true):gf X (.builtin "min") (fun xs H Q=>∃ i j,xs=[.int i,.int j]∧Q (.int (if j<i then j else i)) H):=by
 intro pins s σ H xs us Q I r h
 obtain⟨i,j,rfl,q⟩:=h
 obtain⟨u,w',rfl,⟨t,rfl⟩,⟨t',rfl⟩⟩:=vals2 r
 refine min_two_ints (I.ok.hd hc) fun h' tk k=>⟨_,H,I.kept k,?_,q⟩
 by_cases hj:j<i
 ·rw[if_pos hj,if_pos hj];exact⟨_,rfl⟩
 ·rw[if_neg hj,if_neg hj];exact⟨_,rfl⟩
theorem call_int1:gf X (.type "int") (fun xs H Q=>(∃ i,xs=[.int i]∧Q (.int i) H)∨∃ k,xs=[.bl k]∧Q (.int (if k then 1 else 0)) H):=by
 intro pins s σ H xs us Q I r h
 rcases h with ⟨i,rfl,q⟩ | ⟨k,rfl,q⟩
 ·obtain⟨u,rfl,t,rfl⟩:=gt r
  exact call_int_int ⟨.int i,H,I,⟨_,rfl⟩,q⟩
 ·obtain⟨u,rfl,r1⟩:=gt r
  cases r1
  exact call_int_bool ⟨.int (if k then 1 else 0),H,I.tok _,⟨_,rfl⟩,q⟩
end
structure ObjM(h:Heap)(x dx C:Addr)(mA:Str→Option Value):Prop where
 obj:h.get? x=some (PySem.W.instObj C dx)
 ns:h.Ns1 dx mA
 ne:dx≠x
theorem lookIn_ns{h:Heap}{dx:Addr}{mA:Str→Option Value}(n:h.Ns1 dx mA):∃ od,h.get? dx=some od∧∀ name,PySem.W.lookIn name od=some (mA name):=by
 obtain⟨o,es,ep,ho,hd,hk,_,hm⟩:=n
 refine⟨o,ho,fun name=>?_⟩
 have e:=hm name
 unfold nsFind findBy at e
 rw[← Array.find?_toList]at e
 unfold PySem.W.lookIn
 rw[hd]
 dsimp only
 split
 ·rename_i y q
  rw[q]at e
  exact congrArg some e
 ·rename_i q
  rw[q]at e
  have a:es.toList.any (·.refKey)=false:=by
   rw[List.any_eq_false]
   intro y hy
   obtain⟨z,t,hkey⟩:=hk y (zb6.mp hy)
   simp[DictEntry.refKey,hkey]
  have a':¬ es.toList.any (·.refKey)=true:=by rw[a];exact zaj
  rw[if_neg a']
  exact congrArg some e
theorem ObjM.look{h:Heap}{x dx C:Addr}{mA:Str→Option Value}(I:ObjM h x dx C mA):∃ od,PySem.W.InstAt h x (PySem.W.instObj C dx) C (some od)∧∀ name,PySem.W.lookIn name od=some (mA name) :=
 let ⟨od,ho,hl⟩:=lookIn_ns I.ns
 ⟨od,⟨I.obj,rfl,rfl,ho⟩,hl⟩
section
variable{prog:Program}{w:World}{A:Around}{E:Value→Shared→Prop}{s:Shared}{K:PySem.W.Frag}{x dx C f:Addr}{mA:Str→Option Value}{name:Str}{v:Value}
end
theorem RelO.some_of{v:V}{o:Option Value}(r:RelO (some v) o):∃ u,o=some u∧RelV v u:=by
 cases o with
 | none=>exact(show False from r).elim
 | some u=>exact⟨u,rfl,r⟩
section
variable{P:Program}{w:World}{H H':Hp}{h h':Heap}{a C dx:Addr}{fs fs':List (Str×V)}
theorem ins_get(hok:HOk P w H h)(e:H a=some (.ins C dx fs)):∃ mA,ObjM h a dx C mA∧(∀ f,RelO (fs.lookup f) (mA f))∧PySem.Within mA (fs.map (·.1))∧fs.length≤1000∧H dx=some (.own a):=by
 obtain⟨d,z,ne,ob,mA,n,r,q⟩:=(show bb P w H h a (.ins C dx fs) from hok a _ e)
 exact⟨mA,⟨ob,n,ne⟩,r,q,z,d⟩
end
structure Cls(K:PySem.W.Frag)(C:Addr):Prop where
 pg:PySem.W.plainGet K C Str.empty=true
 hd:PySem.W.hasDictIn K C=true
 po:PySem.W.plainOver K C=true
 sa:PySem.W.findIn K (.ref C) "__setattr__"=some (some (.builtin "object.__setattr__"))
theorem Cls.get{K:PySem.W.Frag}{C:Addr}(c:Cls K C)(f:Str):PySem.W.plainGet K C f=true:=c.pg
section
variable{X:Cx}{pins:List (Addr×Obj)}{σ:St}{H:Hp}{s:Shared}{a C dx:Addr}{fs:List (Str×V)}{f:Str}{v:V}{A:Around}{E:Value→Shared→Prop}
end
section
variable{X:Cx}{o e value:Expr}{f:Str}{pos pos' tpos:Pos}{ta tv:TE}
end
section
variable{X:Cx}{pins:List (Addr×Obj)}{σ:St}{H:Hp}{s:Shared}{A:Around}{E:Value→Shared→Prop}{Q:Value→Shared→Prop}{c:Value}{b:Bool}
inductive TyOf(K:PySem.W.Frag)(H:Hp):V→Value→Prop where
 | non:TyOf K H .non (.type "NoneType")
 | bl (x:Bool):TyOf K H (.bl x) (.type "bool")
 | int (i:Int):TyOf K H (.int i) (.type "int")
 | str (x:Str):TyOf K H (.str x) (.type "str")
 | flt (x:UInt64):TyOf K H (.flt x) (.type "float")
 | lst {a:Addr} {xs:List V} (e:H a=some (.lst xs)):TyOf K H (.ref a) (.type "list")
 | frz {a:Addr} {o:Obj} {xs:List V} (e:H a=some (.frz o (.lst xs))):TyOf K H (.ref a) (.type "list")
 | tup {a:Addr} {xs:List V} (e:H a=some (.tup xs)):TyOf K H (.ref a) (.type "tuple")
 | dK {a:Addr} {kvs:List (Key×V)} (e:H a=some (.dK kvs)):TyOf K H (.ref a) (.type "dict")
 | dT {a:Addr} {kvs:List (List Key×V)} (e:H a=some (.dT kvs)):TyOf K H (.ref a) (.type "dict")
 | ins {a C dx:Addr} {fs:List (Str×V)} (e:H a=some (.ins C dx fs)) (cl:Cls K C) (ha:PySem.W.findIn K (.ref C) "__class__"=some (some (.builtin "object.__class__")))
   (hn:PySem.W.specialIn K (.builtin "object.__class__") "__get__"=some (some (.builtin "getset_descriptor.__get__"))) (htk:PySem.W.takesIn K (.builtin "object.__class__")=some true)
   (hm:PySem.W.mroIn K C (.type "object")=some true):TyOf K H (.ref a) (.ref C)
theorem isinst_ok{x:V}{u t:Value}(I:Inv X pins σ H s)(rx:RelV x u)(ty:TyOf X.K H x t)(e:PySem.W.kitOne X.K t c=some b)(h:∀ tk,Q (.bool b) { s with toks:=tk }) :
  wpAny (model X.prog X.w) A (call (.builtin "isinstance") [u,c]) Q E s:=by
 cases ty with
 | non=>cases (show u=Value.none from rx);exact PySem.W.kia_one PySem.W.kitx_none I.kIn True.intro e (fun z=>nomatch z) h
 | bl y=>cases (show u=Value.bool y from rx);exact PySem.W.kia_one PySem.W.kitx_bool I.kIn True.intro e (fun z=>nomatch z) h
 | int i=>obtain⟨t,q⟩:=(show ∃ t,u=Value.int i t from rx);cases q;exact PySem.W.kia_one PySem.W.kitx_int I.kIn True.intro e (fun z=>nomatch z) h
 | str y=>obtain⟨t,q⟩:=(show ∃ t,u=Value.str y t from rx);cases q;exact PySem.W.kia_one PySem.W.kitx_str I.kIn True.intro e (fun z=>nomatch z) h
 | flt y=>obtain⟨t,q⟩:=(show ∃ t,u=Value.float y t from rx);cases q;exact PySem.W.kia_one PySem.W.kitx_float I.kIn True.intro e (fun z=>nomatch z) h
 | @lst a xs ea =>
  cases (show u=Value.ref a from rx)
  obtain⟨_,_,n,_,h1⟩:=(show bb X.prog X.w H s.heap a (.lst xs) from I.hok a _ ea)
  exact PySem.W.kia_one PySem.W.kitx_list I.kIn ⟨_,h1,rfl⟩ e (fun z=>nomatch z) h
 | @frz a ob xs ea =>
  cases (show u=Value.ref a from rx)
  obtain⟨_,_,_,n,_,h1⟩:=(show bb X.prog X.w H s.heap a (.frz ob (.lst xs)) from I.hok a _ ea)
  exact PySem.W.kia_one PySem.W.kitx_list I.kIn ⟨_,h1,rfl⟩ e (fun z=>nomatch z) h
 | @tup a xs ea =>
  cases (show u=Value.ref a from rx)
  obtain⟨_,_,_,p⟩:=(show bb X.prog X.w H s.heap a (.tup xs) from I.hok a _ ea)
  obtain⟨o,h1,h2,_⟩:=p
  exact PySem.W.kia_one PySem.W.kitx_tuple I.kIn ⟨o,h1,h2⟩ e (fun z=>nomatch z) h
 | @dK a kvs ea =>
  cases (show u=Value.ref a from rx)
  obtain⟨_,_,vs,_,p⟩:=(show bb X.prog X.w H s.heap a (.dK kvs) from I.hok a _ ea)
  obtain⟨o,es,ep,h1,h2,_⟩:=p
  exact PySem.W.kia_one PySem.W.kitx_dict I.kIn ⟨o,h1,h2.1⟩ e (fun z=>nomatch z) h
 | @dT a kvs ea =>
  cases (show u=Value.ref a from rx)
  obtain⟨_,_,xs,_,o,es,ep,h1,h2,_⟩:=(show bb X.prog X.w H s.heap a (.dT kvs) from I.hok a _ ea)
  exact PySem.W.kia_one PySem.W.kitx_dict I.kIn ⟨o,h1,h2.1⟩ e (fun z=>nomatch z) h
 | @ins a C dx fs ea cl ha hn htk hm =>
  cases (show u=Value.ref a from rx)
  obtain⟨mA,O,_⟩:=ins_get I.hok ea
  obtain⟨od,J,_⟩:=O.look
  exact PySem.W.kia_one (PySem.W.kitx_own (cl.get _) cl.hd ha hn htk hm) I.kIn J e (fun z=>nomatch z) h
end
structure Room(k:Nat)(A:Around):Prop where
 hd:A.handled=none
 dp:A.depth+3*k+5<recursionLimit
 un:A.units+16*k+200<cLine
theorem Room.mono{j k:Nat}{A:Around}(r:Room k A)(h:j≤k):Room j A:=⟨r.hd,by have:=r.dp;omega,by have:=r.un;omega⟩
theorem Room.deeper{k:Nat}{A:Around}(r:Room (k+1) A)(env:Env):Room k (A.deeper env) :=
 ⟨r.hd,by have:=r.dp;show A.depth+1+3*k+5<_;omega,by have:=r.un;show A.units+3+16*k+200<_;omega⟩
theorem Room.depth{k:Nat}{A:Around}(r:Room k A):A.depth<recursionLimit:=by have:=r.dp;omega
theorem Room.units{k:Nat}{A:Around}(r:Room k A):A.units+64<cLine:=by have:=r.un;omega
theorem Room.units0{k:Nat}{A:Around}(r:Room k A):A.units<cLine:=by have:=r.un;omega
def tNil:TA:=fun _ H Q=>Q [] H
def gD(ta:TE)(tr:TA):TA:=fun σ H Q=>ta σ H fun x H1=>tr σ H1 fun xs H2=>Q (x::xs) H2
section
variable{X:Cx}{e:Expr}{es:List Expr}{te:TE}{t:TA}{pos:Pos}
theorem a9:PA X [] tNil:=fun _ _ _ _ H Q I h=>Calls.spliced_nil ⟨[],H,I,.nil,h⟩
theorem pa_cons(ha:PE X e te)(hr:PA X es t)(hs:starEach (e::es) X.env=(false,eval e X.env)::starEach es X.env:=by rfl):PA X (e::es) (gD te t):=by
 intro pos pins s σ H Q I h
 rw[hs]
 show wpAny _ _ (spliced ((false,eval e X.env)::backTo pos (starEach es X.env))) _ _ s
 refine Calls.spliced_cons (thn (ha pins s σ H _ I h) fun u s1 zz1=>?_)
 obtain⟨x,H1,I1,r1,q1⟩:=zz1
 exact thn (hr pos pins s1 σ H1 _ I1 q1) fun us s2 ⟨xs,H2,I2,r2,q2⟩=>⟨x::xs,H2,I2,.cons r1 r2,q2⟩
def tTup(t:TA):TE:=fun σ H Q=>t σ H fun xs H1=>xs.length≤sizeLine∧∀ p,H1 p=none→Q (.ref p) (upd H1 p (.tup xs))
def tLst(t:TA):TE:=fun σ H Q=>t σ H fun xs H1=>xs.length≤sizeLine∧∀ p,H1 p=none→Q (.ref p) (upd H1 p (.lst xs))
theorem ap{x1}(h:PA X es t):PE X (.Tuple es x1 pos) (tTup t):=by
 intro pins s σ H Q I hq
 refine wpAny_Tuple_spliced (thn (h pos pins s σ H _ I hq) fun us s1 ⟨xs,H1,I1,r,z,q⟩=>⟨by rw[← r.length];exact z,?_⟩)
 have hf:H1 s1.heap.objs.size=none:=I1.hok.fresh (za4 _)
 refine⟨.ref s1.heap.objs.size,upd H1 s1.heap.objs.size (.tup xs),I1.laid (t':=s1.toks) (fun b u e=>Heap.get?_push_of_some _ e) (za4 _) ?_,rfl,q _ hf⟩
 exact⟨z,us,r,⟨_,Heap.get?_push_size _ rfl,rfl,_,rfl⟩⟩
theorem eW(h:PA X es t):PE X (.List es pos) (tLst t):=by
 intro pins s σ H Q I hq
 refine wpAny_List_spliced (thn (h pos pins s σ H _ I hq) fun us s1 ⟨xs,H1,I1,r,z,q⟩=>⟨by rw[← r.length];exact z,?_⟩)
 have hf:H1 s1.heap.objs.size=none:=I1.hok.fresh (za4 _)
 refine⟨.ref s1.heap.objs.size,upd H1 s1.heap.objs.size (.lst xs),I1.laid (t':=s1.toks) (fun b u e=>Heap.get?_push_of_some _ e) (za4 _) ?_,rfl,q _ hf⟩
 exact⟨z,us,0,r,Heap.get?_push_size _ rfl⟩
end
abbrev Sp:=List V→Hp→VK→XK→Prop
abbrev CXT:=List Env→Hp→Shared→XK→Value→Shared→Prop
structure Env0(P:Program)(w:World)(K:PySem.W.Frag)(mg:Str→Option Value)(base:Heap)(A:Around)(outer:List Env)(s:Shared)(H:Hp):Prop where
 frames:A.frames=some outer
 mod:Mod K mg base
 bs:∀ b o,base.get? b=some o→s.heap.get? b=some o∧H b=none
 bsz:base.objs.size≤s.heap.objs.size
 funs:s.heap.FunFrames base outer
 frf:∀ b∈frs outer,H b=none
 hok:HOk P w H s.heap
 bare:AllBare s.gens
def CE(outer:List Env)(P:Program)(w:World)(H:Hp)(s:Shared)(Q:VK)(u:Value)(s':Shared):Prop :=
 ∃ v H',s'.os=s.os∧AllBare s'.gens∧Un (frs outer) [] H H' s.heap s'.heap∧HOk P w H' s'.heap∧RelV v u∧Q v H'
def CR(CX:CXT)(outer:List Env)(P:Program)(w:World)(H:Hp)(s:Shared)(Q:VK)(E:XK)(r:Result)(s':Shared):Prop :=
 match r with
 | .ok (.ret u)=>CE outer P w H s Q u s'
 | .ok _=>False
 | .error e=>CX outer H s E e s'
structure FnOk(P:Program)(w:World)(K:PySem.W.Frag)(mg:Str→Option Value)(base:Heap)(CX:CXT)(k:Nat)(f:Addr)(fd:FuncData)(ps:List Str)(sp:Sp):Prop where
 len:∀ vs H Q E,sp vs H Q E→vs.length=ps.length
 run:∀ (A:Around) (outer:List Env) (s:Shared) (H:Hp) (args:Args) (us:List Value) (vs:List V) (Q:VK) (E:XK),Room k A→Env0 P w K mg base A outer s H→BindsTo s fd args (ps.zip us)→Vals vs us→sp vs H Q E →
  codeAny (model P w) A (.call (.ref f) args) (CR CX outer P w H s Q E) s
section
variable{X:Cx}{pins:List (Addr×Obj)}{σ:St}{H:Hp}{s s':Shared}
theorem Inv.env0(I:Inv X pins σ H s):Env0 X.prog X.w X.K X.mg X.base X.A X.stack s H :=
 ⟨I.ok.frames,I.ok.mod,I.bs,zb1 I.ok.bsz I.sz,I.stack,I.stkFree,I.hok,I.bare⟩
theorem Inv.after{Q:VK}{u:Value}(I:Inv X pins σ H s)(h:CE X.stack X.prog X.w H s Q u s'):EP X pins σ Q u s':=by
 obtain⟨v,H',os,bare,un,hok,r,q⟩:=h
 obtain⟨hh,g,d,t,os'⟩:=s'
 obtain rfl:os'=s.os:=os
 exact⟨v,H',I.call (h':=hh) (g':=g) (d':=d) (t':=t) (ch:=[]) un hok bare (fun b z=>absurd z (by simp)),r,q⟩
end
def tCall(sp:Sp)(dvs:List V)(E:XK)(t:TA):TE:=fun σ H Q=>t σ H fun vs H1=>sp (vs++dvs) H1 Q E
def bh(K:PySem.W.Frag)(fd:FuncData)(ps:List Str)(ds:List Value):Prop :=
 ∀ (s:Shared) (us:List Value),K.In s.heap→(us++ds).length=ps.length→BindsTo s fd ⟨us,[]⟩ (ps.zip (us++ds))
theorem bh.all{K:PySem.W.Frag}{fd:FuncData}{ps:List Str}(h:∀ us:List Value,us.length=ps.length→bindArgs fd ⟨us,[]⟩=pure (ps.zip us)):bh K fd ps []:=fun s us _ hl=>by
 rw[zau]at hl ⊢
 exact .of_eq (h us hl)
def Passes(CX:CXT)(X:Cx)(E:XK):Prop:=∀ (pins:List (Addr×Obj)) (σ:St) (H:Hp) (s:Shared) (e:Value) (s':Shared),Inv X pins σ H s→CX X.stack H s E e s'→X.xe e s'
section
variable{X:Cx}{CX:CXT}{k:Nat}{f C:Addr}{fd:FuncData}{ps:List Str}{sp:Sp}{dvs:List V}{ds:List Value}{E:XK}{x m:Str}{p pos apos:Pos}{e o:Expr}{es:List Expr}{ta:TE}{t:TA}
theorem run_fn{pins:List (Addr×Obj)}{σ:St}{H:Hp}{s:Shared}{Q:VK}{us:List Value}{vs:List V}(F:FnOk X.prog X.w X.K X.mg X.base CX k f fd ps sp)(hr:Room k X.A)(hb:bh X.K fd ps ds)(hd:Vals dvs ds)(hx:Passes CX X E)
  (I:Inv X pins σ H s) (r:Vals vs us) (h:sp (vs++dvs) H Q E):wpAny (model X.prog X.w) X.A (call (.ref f) us) (EP X pins σ Q) X.xe s:=by
 have r2:Vals (vs++dvs) (us++ds):=r.append hd
 have hl:(us++ds).length=ps.length:=by rw[← r2.length];exact F.len _ _ _ _ h
 refine wpAny_call (codeAny_mono (F.run X.A X.stack s H ⟨us,[]⟩ (us++ds) (vs++dvs) Q E hr I.env0 (hb s us I.kIn hl) r2 h) fun r s' hq=>?_)
 cases r with
 | error e=>exact hx pins σ H s e s' I hq
 | ok fl =>
  cases fl with
  | ret u=>exact I.after hq
  | next=>exact False.elim hq
  | brk=>exact False.elim hq
  | cont=>exact False.elim hq
theorem pe_call(F:FnOk X.prog X.w X.K X.mg X.base CX k f fd ps sp)(hr:Room k X.A)(hg:Gl X x)(hm:X.mg x=some (.ref f))(hk:PySem.W.keepIn X.K (.ref f)=true)(hb:bh X.K fd ps ds)(hd:Vals dvs ds)(hx:Passes CX X E)
  (ha:PA X (e::es) t) (hdb:(x==("__debug__":Str))=false:=by decide) (he:starEach (e::es) X.env=(false,eval e X.env)::starEach es X.env:=by rfl) (hpl:(backTo pos (starEach es X.env)).any (·.1)=false:=by rfl) :
  PE X (.Call (.Name x p) (e::es) [] pos) (tCall sp dvs E t):=by
 intro pins s σ H Q I h
 refine wpAny_Call_Name_kw (ld_glob I hg hm ?_ hdb)
 refine PySem.W.callWith_K (h₀:=X.base) I.ok.mod.kin hk (thn (ha pos pins s σ H _ I h) fun us s1 zz1=>?_) he hpl
 obtain⟨vs,H1,I1,r,q⟩:=zz1
 refine ⟨I1.kIn,?_⟩
 exact run_fn F hr hb hd hx I1 r q
end
section
variable{X:Cx}{CX:CXT}{k:Nat}{f C:Addr}{fd:FuncData}{ps ks:List Str}{sp:Sp}{E:XK}{x m:Str}{p pos apos kpos:Pos}{e o:Expr}{es:List Expr}{kws:List Keyword}{te ta:TE}{t tk:TA}{nm:Option Str}
variable{g:List Value→List Value→List Value}{gV:List V→List V→List V}
end
structure aS(N P:List Str)(sc:Scope):Prop where
 kind:sc.kind=.function
 co:sc.isCoroutine=false
 gen:sc.isGenerator=false
 nd:N.Nodup
 pre:N.take P.length=P
 par:∀ x∈P,sc.names.lookup x=some .local∨sc.names.lookup x=some .cell
 nofree:∀ y∈sc.names,y.2≠.free
theorem bindL_out{kindOf:Str→Option NameKind}{x:Str}:∀ {binds:List (Str×Value)} {m:Str→Option Value},(∀ v,(x,v)∉binds)→bindL kindOf binds m x=m x
 | [],_,_=>rfl
 | (n,v)::r,m,h=>by
  unfold bindL
  rw[bindL_out fun w hw=>h w (zac _ hw)]
  split
  ·have:x≠n:=by rintro rfl;exact h v zad
   simp[this]
  ·rfl
theorem bindC_out{kindOf:Str→Option NameKind}{x:Str}:∀ {binds:List (Str×Value)} {m:Str→Option Value},(∀ v,(x,v)∉binds)→bindC kindOf binds m x=m x
 | [],_,_=>rfl
 | (n,v)::r,m,h=>by
  unfold bindC
  rw[bindC_out fun w hw=>h w (zac _ hw)]
  split
  ·rfl
  ·have:x≠n:=by rintro rfl;exact h v zad
   simp[this]
theorem bindL_get{kindOf:Str→Option NameKind}{x:Str}{v:Value}:∀ {P:List Str} {vs:List Value} {i:Nat} {m:Str→Option Value},P.Nodup→P[i]?=some x→vs[i]?=some v→kindOf x=some .local →
  bindL kindOf (P.zip vs) m x=some v
 | [],_,_,_,_,h,_,_=>by simp at h
 | _::_,[],_,_,_,_,h,_=>by simp at h
 | p::P,w::vs,0,m,nd,h1,h2,hk=>by
  simp at h1 h2;subst h1;subst h2
  show bindL kindOf ((p,w)::P.zip vs) m p=_
  unfold bindL
  rw[bindL_out fun v hv=>(zbb.mp nd).1 (List.of_mem_zip hv).1,if_pos hk]
  simp
 | p::P,w::vs,i+1,m,nd,h1,h2,hk=>by
  show bindL kindOf ((p,w)::P.zip vs) m x=_
  unfold bindL
  exact bindL_get (i:=i) (zbb.mp nd).2 (by simpa using h1) (by simpa using h2) hk
theorem bindC_get{kindOf:Str→Option NameKind}{x:Str}{v:Value}:∀ {P:List Str} {vs:List Value} {i:Nat} {m:Str→Option Value},P.Nodup→P[i]?=some x→vs[i]?=some v→kindOf x≠some .local →
  bindC kindOf (P.zip vs) m x=some v
 | [],_,_,_,_,h,_,_=>by simp at h
 | _::_,[],_,_,_,_,h,_=>by simp at h
 | p::P,w::vs,0,m,nd,h1,h2,hk=>by
  simp at h1 h2;subst h1;subst h2
  show bindC kindOf ((p,w)::P.zip vs) m p=_
  unfold bindC
  rw[bindC_out fun v hv=>(zbb.mp nd).1 (List.of_mem_zip hv).1,if_neg hk]
  simp
 | p::P,w::vs,i+1,m,nd,h1,h2,hk=>by
  show bindC kindOf ((p,w)::P.zip vs) m x=_
  unfold bindC
  exact bindC_get (i:=i) (zbb.mp nd).2 (by simpa using h1) (by simpa using h2) hk
def start(N:List Str)(vs:List V):St:=vs.map some++List.replicate (N.length-vs.length) none
def cxOf(CX:CXT)(P:Program)(w:World)(K:PySem.W.Frag)(mg:Str→Option Value)(base:Heap)(N:List Str)(qual:Str)(scope:Scope)(f:Addr)(cd:Value)(A:Around)(outer:List Env)(s:Shared)(H:Hp)(E:XK):Cx where
 prog:=P
 w:=w
 K:=K
 mg:=mg
 base:=base
 A:=A.deeper (envOfC qual scope s.heap.objs.size f cd)
 N:=N
 s₀:=s
 H₀:=H
 env:=envOfC qual scope s.heap.objs.size f cd
 outer:=outer
 stack:=envOfC qual scope s.heap.objs.size f cd::outer
 ex:=[]
 calm:=true
 fn:=fun _=>true
 pn:=[]
 xe:=fun e s'=>wpAny (model P w) (A.deeper (envOfC qual scope s.heap.objs.size f cd)) (leaving (envOfC qual scope s.heap.objs.size f cd) e) (fun _ s''=>CX outer H s E e s'') (fun e' s''=>CX outer H s E e' s'') s'
theorem cell_has{sc:Scope}{n:Nat}{x:Str}(h:sc.names.lookup x=some .cell):∃ c,(cellsFrom n sc.names []).lookup x=some c:=by
 have q:=PySem.W.cellsFrom_some sc.names n [] (.inl h)
 exact Option.isSome_iff_exists.mp q
theorem inv_start{CX:CXT}{P:Program}{w:World}{K:PySem.W.Frag}{mg:Str→Option Value}{base:Heap}{N ps:List Str}{qual:Str}{scope:Scope}{f:Addr}{cd:Value}{A:Around}{outer:List Env}{s s1:Shared}{H:Hp}{E:XK}{us:List Value}{vs:List V}
  (S:aS N ps scope) (hd:A.handled=none) (e0:Env0 P w K mg base A outer s H) (hl:vs.length=ps.length) (r:Vals vs us)
  (x:InCallC s s.heap.objs.size (bindL (envOfC qual scope s.heap.objs.size f cd).kindOf (ps.zip us) fun _=>none) (cellsFrom (s.heap.objs.size+1) scope.names []) (bindC (envOfC qual scope s.heap.objs.size f cd).kindOf (ps.zip us) fun _=>none) s1) :
  Inv (cxOf CX P w K mg base N qual scope f cd A outer s H E) [] (start N vs) H s1:=by
 have hpl:ps.length≤N.length:=by have:=congrArg List.length S.pre;rw[zan]at this;omega
 obtain⟨h1,tk,rfl,hk⟩:=x.done
 have noA:∀ b:Addr,b∉(cxOf CX P w K mg base N qual scope f cd A outer s H E).ex:=fun b z=>absurd (show b∈([]:List Addr) from z) (by simp)
 refine⟨⟨e0.mod,S.kind,rfl,rfl,za4 _,fun y z c h1 h2=>?_,fun y hy=>?_,fun y c _ h=>?_,fun _=>hd,Around.frames_deeper e0.frames,.inr ⟨rfl,rfl⟩,fun b z=>absurd z (noA b),e0.bs,e0.bsz,fun b _ _=>noA b,fun b z=>absurd z (noA b),e0.funs,e0.frf⟩,
  rfl,e0.bare,Un.kept hk,⟨_,x.toInCall.ns,fun i y v h1 h2 h3=>?_⟩,fun y c h=>⟨_,x.cell y c h⟩,e0.hok.fresh (za4 _),fun y c h=>?_,fun p hp=>absurd (show p∈([]:List (Addr×Obj)) from hp) (by simp),e0.hok.kept hk,?_⟩
 ·exact name_of_addr x.apart (PySem.mem_of_lookup h1) (PySem.mem_of_lookup h2)
 ·have hy:scope.names.lookup y=some .cell∨scope.names.lookup y=some .free:=hy
  rcases hy with hy | hy
  ·exact cell_has hy
  ·exact absurd rfl (S.nofree _ (PySem.mem_of_lookup hy))
 ·exact Nat.le_of_lt (x.above y c (PySem.mem_of_lookup h))
 ·have hi:i<vs.length:=by
   unfold start at h2
   by_cases hi:i<vs.length
   ·exact hi
   ·rw[zat (by simpa using hi)]at h2
    rw[List.getElem?_replicate]at h2
    split at h2<;>cases h2
  have ha:vs[i]?=some v:=by
   unfold start at h2
   rw[zal (by simpa using hi),zao]at h2
   cases e:vs[i]? with
   | none=>rw[e]at h2;cases h2
   | some a=>rw[e]at h2;cases h2;rfl
  obtain⟨u,hu,rv⟩:=r.get ha
  have hp:ps[i]?=some y:=by
   rw[← S.pre,List.getElem?_take_of_lt (by omega)];exact h1
  have ndP:ps.Nodup:=by rw[← S.pre];exact S.nd.sublist (zbz _ _)
  refine⟨u,rv,?_⟩
  rcases S.par y (zak hp) with k | k
  ·exact .inl ⟨k,bindL_get ndP hp hu k⟩
  ·obtain⟨c,e⟩:=cell_has (n:=s.heap.objs.size+1) k
   refine .inr ⟨.inl k,c,e,?_⟩
   have q:=x.cell y c e
   rw[bindC_get ndP hp hu (by show scope.names.lookup y≠_;rw[k];decide)]at q
   exact q
 ·exact e0.hok.fresh (Nat.le_of_lt (x.above y c (PySem.mem_of_lookup h)))
 ·unfold start
  show _=N.length
  rw[za1,za0,List.length_replicate]
  omega
theorem fn_of{CX:CXT}{P:Program}{w:World}{K:PySem.W.Frag}{mg:Str→Option Value}{base:Heap}{k:Nat}{f:Addr}{name qual:Str}{params:Arguments}{body:List Stmt}{scope:Scope}{dV kV doc pm cdv ct oc:Value}{an od:Option Addr}
  {osl:Array (Option Value)} {N ps:List Str} {sp:Sp} (lk:K.lookup f=some ⟨oc,od,.func (PySem.W.fnOf name qual params body scope dV kV doc pm an cdv ct),osl⟩) (hcd:PySem.W.codeIn K cdv qual=true) (S:aS N ps scope)
  (len:∀ vs H Q E,sp vs H Q E→vs.length=ps.length)
  (hbody:∀ (A:Around) (outer:List Env) (s:Shared) (H:Hp) (vs:List V) (Q:VK) (E:XK),Room k (A.deeper (envOfC qual scope s.heap.objs.size f cdv))→sp vs H Q E →
   ∃ t,PSs (cxOf CX P w K mg base N qual scope f cdv A outer s H E) body t∧t { nx:=fun _ H'=>Q .non H',rt:=Q } (start N vs) H) :
  FnOk P w K mg base CX (k+1) f (PySem.W.fnOf name qual params body scope dV kV doc pm an cdv ct) ps sp:=by
 refine⟨len,fun A outer s H args us vs Q E hr e0 hb r hsp=>?_⟩
 have hl:=len _ _ _ _ hsp
 have KX:K.In s.heap:=e0.mod.kin.keeps fun b o e=>(e0.bs b o e).1
 have lim:s.heap.NoLimit:=e0.mod.nolimit.keeps fun b o e=>(e0.bs b o e).1
 have hkind:∀ y∈ps.zip us,scope.names.lookup y.1=some .local∨(scope.names.lookup y.1=some .cell∧((cellsFrom (s.heap.objs.size+1) scope.names []).lookup y.1).isSome=true):=fun⟨n,v⟩ hy=>by
  rcases S.par n (List.of_mem_zip hy).1 with q | q
  ·exact .inl q
  ·exact .inr ⟨q,PySem.W.cellsFrom_some _ _ _ (.inl q)⟩
 refine codeAny_call_function hr.depth (KX _ _ lk) rfl S.co S.gen rfl (PySem.W.codeRec_of KX hcd) (hb _ _ _ _ ?_)
 refine wpAny_newFunctionEnv_cells S.kind hkind fun env he s1 x=>?_
 subst he
 refine⟨lim.keeps x.toInCall.keep,codeAny_func ?_⟩
 obtain⟨t,ht,hq⟩:=hbody A outer s H vs Q E (hr.deeper _) hsp
 have I:Inv (cxOf CX P w K mg base N qual scope f cdv A outer s H E) [] (start N vs) H s1:=inv_start S hr.hd e0 hl r x
 refine wpAny_mono (ht [] s1 (start N vs) H _ I hq) (fun fl s' hs=>?_) fun e s' hs=>hs
 have fin:∀ {σ':St} {H':Hp} {v:V} {u:Value},Inv (cxOf CX P w K mg base N qual scope f cdv A outer s H E) [] σ' H' s'→RelV v u→Q v H'→CE outer P w H s Q u s' :=
  fun {σ' H' v u} J rv q=>⟨v,H',J.os,J.bare,J.base,J.hok,rv,q⟩
 cases fl with
 | ret u =>
  obtain⟨v,σ',H',J,rv,q⟩:=hs
  exact fin J rv q
 | next =>
  obtain⟨σ',H',J,q⟩:=hs
  exact fin (v:=V.non) (u:=Value.none) J rfl q
 | brk =>
  obtain⟨_,_,_,q⟩:=hs
  exact False.elim q
 | cont =>
  obtain⟨_,_,_,q⟩:=hs
  exact False.elim q
section
variable{X:Cx}{x:Str}{p pos:Pos}{e:Expr}{es:List Expr}{t:TA}{id T:String}{r:List V→Hp→VK→Prop}
def tCB(r:List V→Hp→VK→Prop)(t:TA):TE:=fun σ H Q=>t σ H fun vs H1=>r vs H1 Q
theorem b7(hc:gf X (.builtin id) r)(hg:Gl X x)(hm:X.mg x=none)(hv:bootBuiltins x=some (.builtin id))(ha:PA X (e::es) t)(hn:x≠"__name__":=by decide)(hdb:(x==("__debug__":Str))=false:=by decide)
  (he:starEach (e::es) X.env=(false,eval e X.env)::starEach es X.env:=by rfl) (hpl:(backTo pos (starEach es X.env)).any (·.1)=false:=by rfl):PE X (.Call (.Name x p) (e::es) [] pos) (tCB r t):=by
 intro pins s σ H Q I h
 refine wpAny_Call_Name_kw (eI I hg hm hv ?_ hn hdb)
 exact PyProof.Rows.callWith_builtin1 (thn (ha pos pins s σ H _ I h) fun us s1 ⟨vs,H1,I1,r1,q1⟩=>hc pins s1 σ H1 vs us Q I1 r1 q1) he hpl
theorem g4(hc:gf X (.type T) r)(hg:Gl X x)(hm:X.mg x=none)(hv:bootBuiltins x=some (.type T))(ha:PA X (e::es) t)(hn:x≠"__name__":=by decide)(hdb:(x==("__debug__":Str))=false:=by decide)
  (he:starEach (e::es) X.env=(false,eval e X.env)::starEach es X.env:=by rfl) (hpl:(backTo pos (starEach es X.env)).any (·.1)=false:=by rfl):PE X (.Call (.Name x p) (e::es) [] pos) (tCB r t):=by
 intro pins s σ H Q I h
 refine wpAny_Call_Name_kw (eI I hg hm hv ?_ hn hdb)
 exact PyProof.Rows.callWith_type1 (thn (ha pos pins s σ H _ I h) fun us s1 ⟨vs,H1,I1,r1,q1⟩=>hc pins s1 σ H1 vs us Q I1 r1 q1) he hpl
end
end L2
namespace HT
open PySem PyProof.Rows
def dw:List Int→List Int→Bool
 | [],[]=>false
 | [],_::_=>true
 | _::_,[]=>false
 | x::xs,y::ys=>if x=y then dw xs ys else decide (x<y)
theorem lexLt_cons(x y:Int)(xs ys:List Int):dw (x::xs) (y::ys)=if x=y then dw xs ys else decide (x<y):=rfl
theorem lexLt_nil_nil:dw [] []=false:=rfl
theorem lexLt_nil_cons(y:Int)(ys:List Int):dw [] (y::ys)=true:=rfl
theorem lexLt_cons_nil(x:Int)(xs:List Int):dw (x::xs) []=false:=rfl
theorem eqAt_int(A:Around)(s:Shared)(a:Int)(t:Tok)(c:Int)(u:Tok):∃ e,SeqAt.EqAt A s (.int a t) (.int c u) e∧(e=true↔a=c) :=
 ⟨(a==c),SeqAt.EqAt.int_int a t c u,by simp⟩
theorem rcLt_int(A:Around)(s:Shared)(a:Int)(t:Tok)(c:Int)(u:Tok)(prog:Program)(w:World)(E:Value→Shared→Prop)(Q:Value→Shared→Prop)(h:Q (.bool (decide (a<c))) s) :
  wpAny (model prog w) A (richCompare .Lt (.int a t) (.int c u)) Q E s :=
 (PyProof.Rows.lt_int h:wpAny (model prog w) A (compareOp .Lt (.int a t) (.int c u)) Q E s)
section
open PySem.SeqAt
open PySem.AutoSeq1 (wpAny_loadPart')
open PySem.MeetsSeq PySem.MeetsSeq2 PySem.MeetsSeq3
theorem tuple_lt_ints(l b:Addr)(items items2:Array Value)(n n2:Nat)(dd dd2:Option Addr)(sl sl2:Array (Option Value))(ns ms:List Int)(hi:IntsAre items.toList ns)(hj:IntsAre items2.toList ms) :
  Meets (Builtin.«tuple.__lt__» ⟨[.ref l,.ref b],[]⟩)
   (fun _ R s=>s.heap.get? l=some { cls:=.type "tuple",dict:=dd,data:=.seq items n,slots:=sl }∧s.heap.get? b=some { cls:=.type "tuple",dict:=dd2,data:=.seq items2 n2,slots:=sl2 } ∧
    R (.ok (.ret (.bool (dw ns ms)))) s) :=
 .of_wp fun prog w A R s h=>by
  obtain⟨hp,g,d,tk,os⟩:=s;obtain⟨hl,hb,h⟩:=h
  have f2:=AutoSeq1.sub_tuple_tuple
  have z1:items.size=ns.length:=by rw[← hi.length];simp
  have z2:items2.size=ms.length:=by rw[← hj.length];simp
  wp_walk using wpAny_loadPart' hl,wpAny_loadPart' hb,wpAny_forIn_list _ (fun rest b s'=>b.1=none∧s'=⟨hp,g,d,tk,os⟩∧∃ (vs ws:List Value) (ns' ms':List Int),rest=vs.zip ws ∧
   IntsAre vs ns'∧IntsAre ws ms'∧ns'.length+items2.size=ms'.length+items.size∧R (.ok (.ret (.bool (dw ns' ms')))) ⟨hp,g,d,tk,os⟩) _
  case turn =>
   rintro⟨y,x⟩ rest b s' ⟨hb',rfl,vs,ws,ns',ms',hz,hvi,hwi,hlen,hR⟩
   cases hvi with
   | nil=>rw[List.zip_nil_left]at hz;cases hz
   | cons a t hvi' =>
    cases hwi with
    | nil=>rw[List.zip_nil_right]at hz;cases hz
    | cons c u hwi' =>
     rw[zbw]at hz
     injection hz with hyx hrest
     injection hyx with hy hx
     subst hy hx
     rw[lexLt_cons]at hR
     simp only[zah]at hlen
     obtain⟨e,he,hiff⟩:=eqAt_int A.in1 ⟨hp,g,d,tk,os⟩ a t c u
     refine wpAny_bind (he prog w _ _ ?_)
     cases e with
     | true =>
      rw[if_pos (hiff.mp rfl)]at hR
      wp_walk
      exact⟨rfl,rfl,_,_,_,_,hrest,hvi',hwi',by omega,hR⟩
     | false =>
      rw[if_neg (fun q=>absurd (hiff.mpr q) zaj)]at hR
      have hri:=rcLt_int A.in1 ⟨hp,g,d,tk,os⟩ a t c u prog w
      wp_walk using hri
      exact⟨_,rfl,by simpa using hR⟩
  case fin =>
   rintro⟨b1,b2⟩ s' ⟨hb',rfl,vs,ws,ns',ms',hz,hvi,hwi,hlen,hR⟩
   simp only at hb'
   subst hb'
   have hv:dw ns' ms'=decide (items.size<items2.size):=by
    cases hvi with
    | nil =>
     cases hwi with
     | nil =>
      simp only[zbc]at hlen
      rw[lexLt_nil_nil]
      exact(decide_eq_false (by omega)).symm
     | cons c u hw =>
      simp only[zbc,zah]at hlen
      rw[lexLt_nil_cons]
      exact(decide_eq_true (by omega)).symm
    | cons a t hv =>
     cases hwi with
     | nil =>
      simp only[zbc,zah]at hlen
      rw[lexLt_cons_nil]
      exact(decide_eq_false (by omega)).symm
     | cons c u hw =>
      rw[zbw]at hz
      cases hz
   rw[hv]at hR
   wp_walk
   exact⟨_,rfl,by simpa [Builtin.Tuple.tupleCompareSizes] using hR⟩
  case h =>
   exact⟨rfl,rfl,items.toList,items2.toList,ns,ms,rfl,hi,hj,by omega,h⟩
end
section
variable{prog:Program}{w:World}{A:Around}{E:Value→Shared→Prop}{s:Shared}
theorem lt_tupInts{l b:Addr}{items items2:Array Value}{ns ms:List Int}{Q:Value→Shared→Prop}(hl:IsTup s.heap l items)(hb:IsTup s.heap b items2)(hi:IntsAre items.toList ns)(hj:IntsAre items2.toList ms)
  (hu:A.units<cLine) (h:Q (.bool (dw ns ms)) s):wpAny (model prog w) A (compareOp .Lt (.ref l) (.ref b)) Q E s:=by
 obtain⟨⟨cls,dd,data,sl⟩,ho,hc,n,hd⟩:=id hl
 obtain⟨⟨cls2,dd2,data2,sl2⟩,ho2,hc2,n2,hd2⟩:=id hb
 simp only at hc hd hc2 hd2
 subst hc hd hc2 hd2
 exact richCompare_meets_room (op:=.Lt) ⟨_,ho,rfl⟩ ⟨_,ho2,rfl⟩ PySem.F.slot_tuple_lt PySem.F.entry_tuple_lt (PySem.F.args_tuple_lt_2 _ _) (tuple_lt_ints l b items items2 n n2 dd dd2 sl sl2 ns ms hi hj)
  ⟨ho,ho2,show Value.bool (dw ns ms)≠Value.notImplemented∧Q (.bool (dw ns ms)) s from ⟨(fun x=>nomatch x),h⟩⟩ hu
theorem cat_tup{t b:Addr}{vs ws:List Value}{Q:Value→Shared→Prop}(ht:IsTup s.heap t vs.toArray)(hb:IsTup s.heap b ws.toArray)(hv:vs≠[])
  (h1:ws=[]→Q (.ref t) s) (h2:ws≠[]→Q (.ref s.heap.objs.size) { s with heap:=s.heap.push { cls:=.type "tuple",data:=.seq (vs++ws).toArray } })
  (hsz:vs.length+ws.length≤sizeLine):wpAny (model prog w) A (binaryOp .Add (.ref t) (.ref b)) Q E s:=by
 obtain⟨⟨cls,dd,data,sl⟩,ho,hc,n,hd⟩:=id ht
 obtain⟨⟨cls2,dd2,data2,sl2⟩,ho2,hc2,n2,hd2⟩:=id hb
 simp only at hc hd hc2 hd2
 subst hc hd hc2 hd2
 have e:vs.toArray++ws.toArray=(vs++ws).toArray:=by simp
 by_cases hw:ws=[]
 ·exact concat_meets ⟨_,ho,rfl⟩ ⟨_,ho2,rfl⟩ noFill_tuple_add seq_tuple_add PySem.F.slot_tuple_add PySem.F.entry_tuple_add (PySem.F.args_tuple_add_2 _ _)
   (tuple_addW1 t b vs.toArray ws.toArray n n2 dd dd2 sl sl2 (by simpa using hv) (by simp[hw])) ⟨ho,ho2,h1 hw⟩
 ·refine concat_meets ⟨_,ho,rfl⟩ ⟨_,ho2,rfl⟩ noFill_tuple_add seq_tuple_add PySem.F.slot_tuple_add PySem.F.entry_tuple_add (PySem.F.args_tuple_add_2 _ _)
   (tuple_addW2 t b vs.toArray ws.toArray n n2 dd dd2 sl sl2 (by simpa using hv) (by simpa using hw) (by rw[zag,zag];exact hsz)) ⟨ho,ho2,?_⟩
  rw[e]
  exact h2 hw
def sIx(n d:Nat):Option Int→Nat
 | none=>d
 | some v=>if v<0 then (v+(n:Int)).toNat else min v.toNat n
theorem sIx_none(n d:Nat):sIx n d none=d:=rfl
theorem f7(n d k:Nat):sIx n d (some (k:Int))=min k n:=by
 show(if (k:Int)<0 then ((k:Int)+(n:Int)).toNat else min (k:Int).toNat n)=min k n
 rw[if_neg (by omega),Int.toNat_natCast]
theorem sIx_le(n d:Nat)(hd:d≤n)(o:Option Int):sIx n d o≤n:=by
 cases o with
 | none=>exact hd
 | some v =>
  show(if v<0 then (v+(n:Int)).toNat else min v.toNat n)≤n
  by_cases hv:v<0
  ·rw[if_pos hv];omega
  ·rw[if_neg hv];exact Nat.min_le_right _ _
theorem clip_eq(v:Int)(n d:Nat):(if v<0 then max (v+(n:Int)) 0 else min v (n:Int))=((sIx n d (some v):Nat):Int):=by
 show(if v<0 then max (v+(n:Int)) 0 else min v (n:Int))=(((if v<0 then (v+(n:Int)).toNat else min v.toNat n):Nat):Int)
 by_cases hv:v<0
 ·simp only[if_pos hv];omega
 ·simp only[if_neg hv];omega
theorem adjust_gen(lo hi:Option Int)(n:Nat):Builtin.Slice.sliceAdjust lo hi 1 (n:Int)=(((sIx n 0 lo:Nat):Int),((sIx n n hi:Nat):Int)):=by
 have h1:¬ ((1:Int)<0):=by omega
 unfold Builtin.Slice.sliceAdjust
 simp only[h1,if_false]
 refine Prod.ext ?_ ?_
 ·cases lo with
  | none=>rfl
  | some v=>exact clip_eq v n 0
 ·cases hi with
  | none=>rfl
  | some v=>exact clip_eq v n n
theorem places_gen(i j:Nat):Builtin.Slice.slicePlaces (i:Int) (j:Int) 1=j-i:=by
 unfold Builtin.Slice.slicePlaces
 have h1:(1:Int)>0:=by omega
 simp only[h1,if_true,Int.ediv_one]
 split<;>omega
theorem eT{v:Value}{o:Option Int}{Q:Option Int→Shared→Prop}(p:IsPart v o)(h:Q o s):wpAny (model prog w) A (Builtin.Slice.slicePartIndex v) Q E s:=by
 cases p with
 | none=>exact slicePart_none h
 | int i t=>exact slicePart_int h
theorem jk{sl:Addr}{vl vu:Value}{lo hi:Option Int}{n:Nat}{Q:Int×Int×Nat→Shared→Prop}(hs:s.heap.IsSliceOf sl vl vu .none)(pl:IsPart vl lo)(pu:IsPart vu hi)
  (h:Q (((sIx n 0 lo:Nat):Int),1,sIx n n hi-sIx n 0 lo) s):wpAny (model prog w) A (Builtin.Slice.sliceApplied (.ref sl) (pure (n:Int))) Q E s:=by
 obtain⟨os,hos,hcs,hds⟩:=id hs
 unfold Builtin.Slice.sliceApplied Builtin.Slice.sliceFields
 refine wpAny_bind (wpAny_bind (wpAny_field hos hds (x:=vl) rfl (wpAny_bind (wpAny_field hos hds (x:=vu) rfl (wpAny_bind (wpAny_field hos hds (x:=.none) rfl (wpAny_pure ?_)))))))
 refine wpAny_bind (slicePart_none ?_)
 show wpAny _ _ (if ((1:Int)==0)=true then _ else _) _ _ s
 rw[if_neg (by decide)]
 refine wpAny_bind (eT pl (wpAny_bind (eT pu (wpAny_bind (wpAny_pure ?_)))))
 show wpAny _ _ (match Builtin.Slice.sliceAdjust lo hi 1 (n:Int) with | (lo,hi)=>pure (lo,(1:Int),Builtin.Slice.slicePlaces lo hi 1)) _ _ s
 rw[adjust_gen lo hi n]
 show wpAny _ _ (pure (((sIx n 0 lo:Nat):Int),(1:Int),Builtin.Slice.slicePlaces ((sIx n 0 lo:Nat):Int) ((sIx n n hi:Nat):Int) 1)) _ _ s
 rw[places_gen]
 exact wpAny_pure h
theorem pick_gen(xs:Array Value)(i k:Nat):((List.range k).filterMap fun(m:Nat)=>xs[((i:Int)+(m:Int)*1).toNat]?).toArray=((xs.toList.drop i).take k).toArray:=by
 have e:(fun(m:Nat)=>xs[((i:Int)+(m:Int)*1).toNat]?)=fun m=>xs[i+m]?:=by
  funext m
  have:((i:Int)+(m:Int)*1).toNat=i+m:=by omega
  rw[this]
 rw[e]
 have:=pick_run xs i k
 rw[List.filterMap_map]at this
 have e2:((fun x=>xs[x]?) ∘ fun x=>i+x)=fun m=>xs[i+m]?:=rfl
 rw[e2]at this
 rw[this]
theorem j4{t sl:Addr}{items:Array Value}{vl vu:Value}{lo hi:Option Int}{Q:Value→Shared→Prop}(ht:IsTup s.heap t items)(hs:s.heap.IsSliceOf sl vl vu .none)(pl:IsPart vl lo)(pu:IsPart vu hi)
  (hw:¬ (sIx items.size 0 lo=0∧sIx items.size items.size hi=items.size))
  (h:Q (.ref s.heap.objs.size) { s with heap:=s.heap.push { cls:=.type "tuple",data:=.seq ((items.toList.drop (sIx items.size 0 lo)).take (sIx items.size items.size hi-sIx items.size 0 lo)).toArray } })
  (hsz:items.size≤sizeLine):wpAny (model prog w) A (getItem (.ref t) (.ref sl)) Q E s:=by
 have htake:sizeOk (.seq ((items.toList.drop (sIx items.size 0 lo)).take (sIx items.size items.size hi-sIx items.size 0 lo)).toArray):=by
  show((items.toList.drop (sIx items.size 0 lo)).take (sIx items.size items.size hi-sIx items.size 0 lo)).toArray.size≤sizeLine
  rw[zag,zan,zb9,za8]
  omega
 have hj:sIx items.size items.size hi≤items.size:=sIx_le _ _ (za4 _) hi
 obtain⟨os,hos,hcs,hds⟩:=id hs
 have hTs:s.TypeIs (.ref sl) "slice":=⟨os,hos,hcs⟩
 unfold getItem
 try with_reducible refine wpAny_holding ?_
 first | refine wpAny_bind (wpAny_pure ?_) | skip
 refine wpAny_bind (wpAny_sequenceKey ht.typeIs (by decide) ?_)
 refine wpAny_bind (wpAny_callSpecial?_slot (name:=Str.ofString "__getitem__") ht.typeIs PyProof.Rows.slot_tuple_getitem
  (wpAny_call_entry PyProof.Rows.slot_tuple_getitem ht.typeIs entry_tuple_getitem ?_ (args_tuple_getitem _ _)))
 show wpAny _ _ (Builtin.Tuple.tupleItemsOf (.ref t)>>=_) _ _ s
 refine wpAny_bind (tupleItemsOf_ ht ?_)
 refine wpAny_bind (wpAny_typeOf hTs ?_)
 rw[if_pos (by decide)]
 refine wpAny_bind (jk hs pl pu ?_)
 have hno:¬ ((((sIx items.size 0 lo:Nat):Int)==0&&(1:Int)==1&&(sIx items.size items.size hi-sIx items.size 0 lo)==items.size)=true):=by
  intro q
  rw[zc7,zc7]at q
  have q1:((sIx items.size 0 lo:Nat):Int)=0:=eq_of_beq q.1.1
  have q2:sIx items.size items.size hi-sIx items.size 0 lo=items.size:=eq_of_beq q.2
  exact hw ⟨by omega,by omega⟩
 show wpAny _ _ (if (((sIx items.size 0 lo:Nat):Int)==0&&(1:Int)==1&&(sIx items.size items.size hi-sIx items.size 0 lo)==items.size)=true then _ else _) _ _ s
 rw[if_neg hno,pick_gen]
 first
  | exact wpAny_bind (m:=Builtin.Tuple.tupleExact _) (wpAny_newObj_type (wpAny_pure ⟨_,rfl,wpAny_pure h⟩) htake)
  | exact wpAny_bind (m:=Builtin.Tuple.tupleExact _) (wpAny_newObj_type (wpAny_bind (wpAny_pure (wpAny_pure ⟨_,rfl,wpAny_pure h⟩))) htake)
  | exact wpAny_bind (wpAny_bind (m:=Builtin.Tuple.tupleExact _) (wpAny_newObj_type (wpAny_pure (wpAny_pure ⟨_,rfl,wpAny_pure h⟩)) htake))
  | exact wpAny_bind (wpAny_bind (m:=Builtin.Tuple.tupleExact _) (wpAny_newObj_type (wpAny_pure ⟨_,rfl,wpAny_pure h⟩) htake))
end
end HT
namespace L2
open PySem PySem.Spec PyProof.Rows
abbrev TO:=St→Hp→(Option Int→Hp→Prop)→Prop
def PO(X:Cx)(e:Option Expr)(t:TO):Prop :=
 ∀ (pins:List (Addr×Obj)) (s:Shared) (σ:St) (H:Hp) (Q:Option Int→Hp→Prop),Inv X pins σ H s→t σ H Q →
  wpAny (model X.prog X.w) X.A (evalPart e X.env) (fun u s'=>∃ o H',Inv X pins σ H' s'∧IsPart u o∧Q o H') X.xe s
def tNoPart:TO:=fun _ H Q=>Q none H
def tPart(t:TE):TO:=fun σ H Q=>t σ H fun x H1=>∃ i,x=.int i∧Q (some i) H1
theorem intsAre_of{ns:List Int}:∀ {us:List Value},Vals (ns.map V.int) us→IntsAre us ns:=by
 induction ns with
 | nil=>intro us r;rw[List.map_nil]at r;cases r;exact .nil
 | cons n ns ih =>
  intro us r
  rw[zay]at r
  cases r with
  | cons r1 r2 =>
   obtain⟨t,e⟩:=r1
   subst e
   exact .cons n t (ih r2)
section
variable{X:Cx}{e:Expr}{te:TE}{lo hi:Option Expr}{tl th:TO}{pos p2:Pos}
theorem po_none:PO X none tNoPart:=by
 intro pins s σ H Q I h
 rw[evalPart_none]
 exact wpAny_pure ⟨none,H,I,.none,h⟩
theorem gj(h:PE X e te):PO X (some e) (tPart te):=by
 intro pins s σ H Q I hw
 rw[evalPart_some]
 refine thn (h pins s σ H _ I hw) fun u s1 zz1=>?_
 obtain⟨x,H1,I1,r1,q1⟩:=zz1
 obtain⟨i,rfl,q⟩:=q1
 obtain⟨t,rfl⟩:=r1
 exact⟨some i,H1,I1,.int i t,q⟩
def SlR(X:Cx)(r:V→Option Int→Option Int→Hp→VK→Prop):Prop :=
 ∀ (pins:List (Addr×Obj)) (s:Shared) (σ:St) (H:Hp) (x:V) (v vl vu:Value) (lo hi:Option Int) (sl:Addr) (Q:VK),Inv X pins σ H s→RelV x v→s.heap.IsSliceOf sl vl vu .none→IsPart vl lo→IsPart vu hi→r x lo hi H Q →
  ∃ T id,typeLookup (.type T) "__getitem__"=pure (some (.builtin id))∧s.TypeIs v T∧wpAny (model X.prog X.w) X.A (getItem v (.ref sl)) (EP X pins σ Q) X.xe s
def tSl(r:V→Option Int→Option Int→Hp→VK→Prop)(te:TE)(tl th:TO):TE:=fun σ H Q=>te σ H fun x H1=>tl σ H1 fun l H2=>th σ H2 fun u H3=>r x l u H3 Q
theorem gF{r:V→Option Int→Option Int→Hp→VK→Prop}(hr:SlR X r)(he:PE X e te)(hl:PO X lo tl)(hu:PO X hi th):PE X (.Subscript e (.Slice lo hi none p2) pos) (tSl r te tl th):=by
 intro pins s σ H Q I h
 refine Subscript_ (thn (he pins s σ H _ I h) fun v s1 zz1=>?_)
 obtain⟨x,H1,I1,r1,q1⟩:=zz1
 refine wpAny_Slice (thn (hl pins s1 σ H1 _ I1 q1) fun vl s2 zz1=>?_)
 obtain⟨l,H2,I2,pl,q2⟩:=zz1
 refine thn (hu pins s2 σ H2 _ I2 q2) fun vu s3 zz2=>?_
 obtain⟨u,H3,I3,pu,q3⟩:=zz2
 rw[evalPart_none]
 refine wpAny_pure ?_
 have I4:Inv X pins σ H3 { s3 with heap:=s3.heap.push { cls:=.type "slice",data:=.fields #[vl,vu,.none] } }:=I3.kept (t':=s3.toks) fun b ob q=>Heap.get?_push_of_some _ q
 obtain⟨T,id,hT,ht,hg⟩:=hr pins { s3 with heap:=s3.heap.push { cls:=.type "slice",data:=.fields #[vl,vu,.none] } } σ H3 x v vl vu l u s3.heap.objs.size Q I4 r1 (Heap.IsSliceOf.new ..) pl pu q3
 show wpAny (model X.prog X.w) X.A (subscriptTail e (.Slice lo hi none p2) v (.ref s3.heap.objs.size)) (EP X pins σ Q) X.xe { s3 with heap:=s3.heap.push { cls:=.type "slice",data:=.fields #[vl,vu,.none] } }
 exact tail_any (ops:=[.ref s3.heap.objs.size,v]) ht hT hg (by with_unfolding_all rfl)
def cutV(xs:List V)(lo hi:Option Int):List V:=(xs.drop (HT.sIx xs.length 0 lo)).take (HT.sIx xs.length xs.length hi-HT.sIx xs.length 0 lo)
theorem fb(xs:List V)(lo hi:Option Int):(cutV xs lo hi).length≤xs.length:=by
 unfold cutV
 rw[zan,zb9]
 omega
def rSlT(K:PySem.W.Frag):V→Option Int→Option Int→Hp→VK→Prop:=fun x lo hi H Q=>∃ a xs,x=.ref a∧SqT K H a xs ∧
 ¬ (HT.sIx xs.length 0 lo=0∧HT.sIx xs.length xs.length hi=xs.length)∧∀ p,H p=none→Q (.ref p) (upd H p (.tup (cutV xs lo hi)))
theorem sl_tup:SlR X (rSlT X.K):=by
 intro pins s σ H x v vl vu lo hi sl Q I rx hs pl pu h
 obtain⟨a,xs,rfl,hx,hw,q⟩:=h
 cases rx
 obtain⟨its,r,ht,hz⟩:=I.tuple hx
 have hlen:its.toArray.size=xs.length:=by rw[zag];exact r.length.symm
 refine⟨"tuple",_,PyProof.Rows.slot_tuple_getitem.lookup,ht.typeIs,?_⟩
 refine HT.j4 ht hs pl pu (by rw[hlen];exact hw) ?_ (by rw[hlen];exact hz)
 rw[hlen]
 refine⟨.ref s.heap.objs.size,_,I.laid (t':=s.toks) (o:=.tup (cutV xs lo hi)) (fun b ob q=>Heap.get?_push_of_some _ q) (za4 _) ?_,rfl,q _ (I.hok.fresh (za4 _))⟩
 exact⟨zb1 (fb xs lo hi) hz,_,(r.drop (HT.sIx xs.length 0 lo)).take (HT.sIx xs.length xs.length hi-HT.sIx xs.length 0 lo),TupX.new _ _⟩
def rLtT(K:PySem.W.Frag):R2:=fun x y H Q=>∃ a b ns ms,x=.ref a∧y=.ref b∧SqT K H a (ns.map V.int)∧SqT K H b (ms.map V.int)∧Q (.bl (HT.dw ns ms)) H
theorem op_ltT(hu:X.A.units<cLine):OpR X (compareOp .Lt) (rLtT X.K):=by
 intro pins s σ H x y v u Q I rx ry h
 obtain⟨a,b,ns,ms,rfl,rfl,ha,hb,q⟩:=h
 cases rx
 cases ry
 obtain⟨its,r1,p1,_⟩:=I.tuple ha
 obtain⟨its2,r2,p2,_⟩:=I.tuple hb
 have i1:IntsAre its.toArray.toList ns:=intsAre_of r1
 have i2:IntsAre its2.toArray.toList ms:=intsAre_of r2
 exact HT.lt_tupInts p1 p2 i1 i2 hu ⟨.bl (HT.dw ns ms),H,I,rfl,q⟩
def rCatT(K:PySem.W.Frag):R2:=fun x y H Q=>∃ a b xs ys,x=.ref a∧y=.ref b∧SqT K H a xs∧SqT K H b ys∧xs≠[]∧xs.length+ys.length≤sizeLine ∧
 (ys=[]→Q (.ref a) H)∧(ys≠[]→∀ p,H p=none→Q (.ref p) (upd H p (.tup (xs++ys))))
theorem Vals.nil_iff{xs:List V}{us:List Value}(r:Vals xs us):us=[]↔xs=[]:=by
 cases r with
 | nil=>simp
 | cons _ _=>simp
theorem op_catT:OpR X (binaryOp .Add) (rCatT X.K):=by
 intro pins s σ H x y v u Q I rx ry h
 obtain⟨a,b,xs,ys,rfl,rfl,ha,hb,hx,hz,q1,q2⟩:=h
 cases rx
 cases ry
 obtain⟨its,r1,p1,_⟩:=I.tuple ha
 obtain⟨its2,r2,p2,_⟩:=I.tuple hb
 refine HT.cat_tup p1 p2 (fun z=>hx (r1.nil_iff.mp z)) (fun z=>⟨.ref a,H,I,rfl,q1 (r2.nil_iff.mp z)⟩) (fun z=>?_) (by rw[← r1.length,← r2.length];exact hz)
 refine⟨.ref s.heap.objs.size,_,I.laid (t':=s.toks) (o:=.tup (xs++ys)) (fun b ob q=>Heap.get?_push_of_some _ q) (za4 _) ?_,rfl,q2 (fun w=>z (r2.nil_iff.mpr w)) _ (I.hok.fresh (za4 _))⟩
 exact⟨by rw[za1];exact hz,_,r1.append r2,TupX.new _ _⟩
end
def ixN(n:Nat)(i:Int):Option Nat:=if 0≤i then (if i<n then some i.toNat else none) else if -(n:Int)≤i then some (i+n).toNat else none
def atI{α:Type}(xs:List α)(i:Int):Option α:=(ixN xs.length i).bind fun j=>xs[j]?
theorem ixN_seq{n:Nat}{i:Int}{j:Nat}(h:ixN n i=some j):seqIndex? i n=some j∧j<n∧-(n:Int)≤i∧i<n:=by
 unfold ixN at h
 by_cases h0:0≤i
 ·rw[if_pos h0]at h
  by_cases h1:i<n
  ·rw[if_pos h1]at h
   have e:i.toNat=j:=Option.some.inj h
   exact⟨by rw[seqIndex_of h0 h1,e],by omega,by omega,h1⟩
  ·rw[if_neg h1]at h;cases h
 ·rw[if_neg h0]at h
  by_cases h1:-(n:Int)≤i
  ·rw[if_pos h1]at h
   have e:(i+n).toNat=j:=Option.some.inj h
   exact⟨by rw[seqIndex_neg (by omega) h1,e],by omega,h1,by omega⟩
  ·rw[if_neg h1]at h;cases h
theorem atI_get{α:Type}{xs:List α}{i:Int}{v:α}(h:atI xs i=some v):∃ j,seqIndex? i xs.length=some j∧xs[j]?=some v∧j<xs.length∧-(xs.length:Int)≤i∧i<xs.length:=by
 unfold atI at h
 cases e:ixN xs.length i with
 | none=>rw[e]at h;cases h
 | some j =>
  rw[e]at h
  obtain⟨h1,h2,h3,h4⟩:=ixN_seq e
  exact⟨j,h1,h,h2,h3,h4⟩
theorem jc{α:Type}{xs:List α}{j:Nat}{v:α}(h:xs[j]?=some v):atI xs (j:Int)=some v:=by
 have hj:j<xs.length:=(za3.mp h).1
 have e:ixN xs.length (j:Int)=some j:=by
  unfold ixN
  rw[if_pos (by omega),if_pos (by omega)];simp
 unfold atI;rw[e];exact h
theorem atI_last{α:Type}(xs:List α)(v:α):atI (xs++[v]) (-1)=some v:=by
 have hl:(xs++[v]).length=xs.length+1:=by simp
 have e:ixN (xs++[v]).length (-1)=some xs.length:=by
  unfold ixN
  rw[hl,if_neg (by decide),if_pos (by omega)]
  congr 1
  omega
 unfold atI
 rw[e]
 show(xs++[v])[xs.length]?=some v
 simp
def PlainIx(b:Expr):Prop:=∀ o i,subscripted b false o i=operate [o,i] (getItem o i)
def IxR(X:Cx)(r:R2):Prop :=
 ∀ (value slice:Expr) (pins:List (Addr×Obj)) (s:Shared) (σ:St) (H:Hp) (x y:V) (v u:Value) (Q:VK),Inv X pins σ H s→RelV x v→RelV y u→r x y H Q →
  subscripted slice false v u=operate [v,u] (getItem v u)→wpAny (model X.prog X.w) X.A (subscriptTail value slice v u) (EP X pins σ Q) X.xe s
def MtR(X:Cx)(id:String)(r:V→List V→Hp→VK→Prop):Prop :=
 ∀ (pins:List (Addr×Obj)) (s:Shared) (σ:St) (H:Hp) (x:V) (xs:List V) (v:Value) (us:List Value) (Q:VK),Inv X pins σ H s→RelV x v→Vals xs us→r x xs H Q →
  wpAny (model X.prog X.w) X.A (call (.builtin id) (v::us)) (EP X pins σ Q) X.xe s
section
variable{X:Cx}{a b:Expr}{ta tb:TE}{pos:Pos}
theorem b6{r:R2}(hr:IxR X r)(ha:PE X a ta)(hb:PE X b tb)(hs:PlainIx b):PE X (.Subscript a b pos) (tOp r ta tb):=by
 intro pins s σ H Q I h
 exact Subscript_ (binT ha hb I h fun v u s2 x y H2 I2 rx ry q=>hr a b pins s2 σ H2 x y v u Q I2 rx ry q (hs _ _))
def rIxL(K:PySem.W.Frag):R2:=fun x y H Q=>∃ p xs i v,x=.ref p∧y=.int i∧SqL K H p xs∧atI xs i=some v∧Q v H
def rIxT(K:PySem.W.Frag):R2:=fun x y H Q=>∃ p xs i v,x=.ref p∧y=.int i∧SqT K H p xs∧atI xs i=some v∧Q v H
theorem ix_list:IxR X (rIxL X.K):=by
 intro value slice pins s σ H x y v u Q I rx ry h hs
 obtain⟨p,xs,i,z,rfl,rfl,hq,he,q⟩:=h
 cases rx
 obtain⟨t,rfl⟩:=ry
 obtain⟨its,r,pl,hz⟩:=I.list hq
 obtain⟨j,h1,h2,h3,h4,h5⟩:=atI_get he
 obtain⟨w,ew,rw'⟩:=r.get h2
 have hl:=r.length
 have hn:=line63
 have fin:EP X pins σ Q w s:=⟨z,H,I,rw',q⟩
 by_cases h0:0≤i
 ·have hj:i.toNat=j:=by
   rw[seqIndex_of h0 h5]at h1
   exact Option.some.inj h1
  exact item_listR pl.isList h0 (by omega) (by rw[hj];simpa using ew) fin hs
 ·have hj:(i+(its.toArray.size:Int)).toNat=j:=by
   rw[seqIndex_neg (by omega) h4]at h1
   rw[zag,← hl]
   exact Option.some.inj h1
  exact subscriptTail_builtinR (x:=w) pl.isList.typeIs slot_list_getitem.lookup
   (wpAny_getItem_list_neg (Q:=fun r s'=>r=w∧EP X pins σ Q r s') pl.isList (by omega) (by rw[zag]<;>omega) (by omega) (by rw[hj];simpa using ew) ⟨rfl,fin⟩) hs
theorem aw:IxR X (rIxT X.K):=by
 intro value slice pins s σ H x y v u Q I rx ry h hs
 obtain⟨p,xs,i,z,rfl,rfl,hq,he,q⟩:=h
 cases rx
 obtain⟨t,rfl⟩:=ry
 obtain⟨its,r,pl,hz⟩:=I.tuple hq
 obtain⟨j,h1,h2,h3,h4,h5⟩:=atI_get he
 obtain⟨w,ew,rw'⟩:=r.get h2
 have hl:=r.length
 have hn:=line63
 have fin:EP X pins σ Q w s:=⟨z,H,I,rw',q⟩
 exact subscriptTail_builtinR (x:=w) pl.typeIs slot_tuple_getitem.lookup
  (getItem_tuple (j:=j) (Q:=fun r s'=>r=w∧EP X pins σ Q r s') pl (by omega) (by omega) (by rw[zag,← hl];exact h1) (by simpa using ew) ⟨rfl,fin⟩) hs
theorem slice_bounds(lo hi:Option Int)(n:Nat):(sliceBounds lo hi none n).1=((HT.sIx n 0 lo:Nat):Int)∧(sliceBounds lo hi none n).2.1=((HT.sIx n n hi:Nat):Int)∧(sliceBounds lo hi none n).2.2=1:=by
 refine⟨?_,?_,rfl⟩
 ·cases lo with
  | none=>simp[sliceBounds,HT.sIx]
  | some i =>
   simp only[sliceBounds,HT.sIx,Option.getD_none,show(1:Int)>0 by decide,if_true]
   by_cases h:i<0
   ·simp only[h,if_true]<;>omega
   ·simp only[h,if_false]<;>omega
 ·cases hi with
  | none=>simp[sliceBounds,HT.sIx]
  | some i =>
   simp only[sliceBounds,HT.sIx,Option.getD_none,show(1:Int)>0 by decide,if_true]
   by_cases h:i<0
   ·simp only[h,if_true]<;>omega
   ·simp only[h,if_false]<;>omega
theorem slicePick_cut(its:List Value)(lo hi:Option Int):slicePick its.toArray lo hi none=((its.drop (HT.sIx its.length 0 lo)).take (HT.sIx its.length its.length hi-HT.sIx its.length 0 lo)).toArray:=by
 obtain⟨h1,h2,h3⟩:=slice_bounds lo hi its.toArray.size
 unfold slicePick
 rw[h1,h2,h3]
 simp only[sliceRange_one,pick_run,zag]<;>rfl
def rSlL(K:PySem.W.Frag):V→Option Int→Option Int→Hp→VK→Prop:=fun x lo hi H Q=>∃ a xs,x=.ref a∧SqL K H a xs∧∀ p,H p=none→Q (.ref p) (upd H p (.lst (cutV xs lo hi)))
theorem sl_list:SlR X (rSlL X.K):=by
 intro pins s σ H x v vl vu lo hi sl Q I rx hs pl pu h
 obtain⟨a,xs,rfl,hx,q⟩:=h
 cases rx
 obtain⟨its,r,ht,hz⟩:=I.list hx
 have hlen:=r.length
 refine⟨"list",_,slot_list_getitem.lookup,ht.isList.typeIs,?_⟩
 refine wpAny_getItem_list_slice ht.isList hs pl pu .none (by simp) ?_ (by rw[zag]<;>omega)
 rw[slicePick_cut,← hlen]
 refine⟨.ref s.heap.objs.size,_,I.laid (t':=s.toks) (o:=.lst (cutV xs lo hi)) (fun b ob q=>Heap.get?_push_of_some _ q) (za4 _) ?_,rfl,q _ (I.hok.fresh (za4 _))⟩
 exact⟨zb1 (fb xs lo hi) hz,_,0,(r.drop (HT.sIx xs.length 0 lo)).take (HT.sIx xs.length xs.length hi-HT.sIx xs.length 0 lo),Heap.get?_push_size _ rfl⟩
theorem ca:gf X (.builtin "len") (fun xs H Q=>∃ p ys,xs=[.ref p]∧(SqL X.K H p ys∨SqT X.K H p ys)∧Q (.int ys.length) H):=by
 intro pins s σ H xs us Q I r h
 obtain⟨p,ys,rfl,hq,q⟩:=h
 obtain⟨u,rfl,rx⟩:=gt r
 cases rx
 have hn:=line63
 rcases hq with hq | hq
 ·obtain⟨its,r',pl,hz⟩:=I.list hq
  have hlen:=r'.length
  exact Calls.call_len_list pl.isList (by simp only[zag]<;>omega) ⟨.int ys.length,H,I.tok _,⟨s.toks+1,by rw[zag,hlen]⟩,q⟩
 ·obtain⟨its,r',pl,hz⟩:=I.tuple hq
  have hlen:=r'.length
  exact len_tuple pl (by simp only[zag]<;>omega) ⟨.int ys.length,H,I.tok _,⟨s.toks+1,by rw[zag,hlen]⟩,q⟩
theorem jb:gf X (.type "list") (fun xs H Q=>∃ p ys,xs=[.ref p]∧(SqL X.K H p ys∨SqT X.K H p ys)∧∀ l,H l=none→Q (.ref l) (upd H l (.lst ys))):=by
 intro pins s σ H xs us Q I r h
 obtain⟨p,ys,rfl,hq,q⟩:=h
 obtain⟨u,rfl,rx⟩:=gt r
 cases rx
 have fin:∀ (its:List Value),Vals ys its→ys.length≤sizeLine→∀ (h':Heap) (c':Nat),(∀ b o',s.heap.get? b=some o'→h'.get? b=some o') →
   h'.get? s.heap.objs.size=some { cls:=.type "list",dict:=none,data:=.seq its.toArray c',slots:=#[] }→EP X pins σ Q (.ref s.heap.objs.size) { s with heap:=h' }:=fun its r' hz h' c' kp e =>
  ⟨.ref s.heap.objs.size,_,I.laid (t':=s.toks) kp (za4 _) (show bb X.prog X.w _ h' _ (.lst ys) from ⟨hz,its,c',r',e⟩),rfl,q _ (I.hok.fresh (za4 _))⟩
 rcases hq with hq | hq
 ·obtain⟨its,r',pl,hz⟩:=I.list hq
  have hlen:=r'.length
  obtain⟨o,ho,hc,n,hd⟩:=pl.isList
  exact call_list_seq p (.inl rfl) ho hc hd (fun h' c' kp e=>fin its r' hz h' c' kp e) (by simp only[zag]<;>omega)
 ·obtain⟨its,r',pl,hz⟩:=I.tuple hq
  have hlen:=r'.length
  obtain⟨o,ho,hc,n,hd⟩:=pl
  exact call_list_seq p (.inr rfl) ho hc hd (fun h' c' kp e=>fin its r' hz h' c' kp e) (by simp only[zag]<;>omega)
theorem call_tuple_of:gf X (.type "tuple") (fun xs H Q=>∃ p ys,xs=[.ref p]∧((SqL X.K H p ys∧∀ l,H l=none→Q (.ref l) (upd H l (.tup ys)))∨(SqT X.K H p ys∧Q (.ref p) H))):=by
 intro pins s σ H xs us Q I r h
 obtain⟨p,ys,rfl,h⟩:=h
 obtain⟨u,rfl,rx⟩:=gt r
 cases rx
 rcases h with ⟨hq,q⟩ | ⟨hq,q⟩
 ·obtain⟨its,r',pl,hz⟩:=I.list hq
  have hlen:=r'.length
  refine call_tuple_list pl.isList (fun h' kp=>?_) (by simp only[zag]<;>omega)
  have I1:Inv X pins σ H { s with heap:=h' }:=I.kept (t':=s.toks) kp
  have I2:Inv X pins σ (upd H h'.objs.size (.tup ys)) { s with heap:=h'.push { cls:=.type "tuple",data:=.seq its.toArray } } :=
   I1.laid (t':=s.toks) (fun b o e=>Heap.get?_push_of_some _ e) (za4 _) (show bb X.prog X.w _ _ _ (.tup ys) from ⟨hz,its,r',TupX.new _ _⟩)
  exact⟨.ref h'.objs.size,_,I2,rfl,q _ (I1.hok.fresh (za4 _))⟩
 ·obtain⟨its,r',pl,hz⟩:=I.tuple hq
  exact call_tuple_same pl ⟨.ref p,H,I,rfl,q⟩
def tyV(K:PySem.W.Frag)(T:String)(x:V)(H:Hp):Prop:=match x with
 | .str _=>T="str"
 | .int _=>T="int"
 | .ref p=>(T="list"∧∃ xs,SqL K H p xs)∨(T="tuple"∧∃ o,K.lookup p=some o∧o.cls=.type "tuple"∧o.dict=none) ∨
   (T="dict"∧((∃ kvs,H p=some (.dK kvs))∨∃ kvs,H p=some (.dT kvs)))∨(T="set"∧∃ S n,H p=some (.set S n))
 | _=>False
theorem tyV_is{pins:List (Addr×Obj)}{σ:St}{H:Hp}{s:Shared}{T:String}{x:V}{v:Value}(I:Inv X pins σ H s)(r:RelV x v)(ty:tyV X.K T x H) :
  s.TypeIs v T∧∀ a,v=.ref a→∃ ob,s.heap.get? a=some ob∧ob.dict=none:=by
 cases x with
 | str z =>
  obtain⟨t,rfl⟩:=r
  cases (show T="str" from ty)
  exact⟨typeIs_str s z t,fun _ e=>nomatch e⟩
 | int i =>
  obtain⟨t,rfl⟩:=r
  cases (show T="int" from ty)
  exact⟨typeIs_int s i t,fun _ e=>nomatch e⟩
 | ref p =>
  cases r
  rcases ty with ⟨rfl,xs,hq⟩ | ⟨rfl,o,hk,hc,hd⟩ | ⟨rfl,hk⟩ | ⟨rfl,S,n,hk⟩
  ·obtain⟨its,_,pl,_⟩:=I.list hq
   refine⟨pl.isList.typeIs,fun a e=>?_⟩
   cases e
   obtain⟨o,n,e,c,hd,_⟩:=pl
   exact⟨o,e,hd⟩
  ·refine⟨⟨o,I.kIn p o hk,hc⟩,fun a e=>?_⟩
   cases e
   exact⟨o,I.kIn _ o hk,hd⟩
  ·have z:∃ o,s.heap.get? p=some o∧o.ExactDict:=by
    rcases hk with ⟨kvs,hk⟩ | ⟨kvs,hk⟩
    ·obtain⟨_,_,_,_,o,_,_,e,ex,_⟩:=I.hok p _ hk
     exact⟨o,e,ex⟩
    ·obtain⟨_,_,_,_,o,_,_,e,ex,_⟩:=I.hok p _ hk
     exact⟨o,e,ex⟩
   obtain⟨o,e,ex⟩:=z
   refine⟨⟨o,e,ex.1⟩,fun a e2=>?_⟩
   cases e2
   exact⟨o,e,ex.2.1⟩
  ·obtain⟨o,_,_,_,e,ex,_⟩:=I.hok p _ hk
   refine⟨⟨o,e,ex.1⟩,fun a e2=>?_⟩
   cases e2
   exact⟨o,e,ex.2.1⟩
 | _=>exact False.elim ty
def tBM0(K:PySem.W.Frag)(T:String)(r:V→List V→Hp→VK→Prop)(to:TE):TE:=fun σ H Q=>to σ H fun x H1=>tyV K T x H1∧r x [] H1 Q
def tBM(K:PySem.W.Frag)(T:String)(r:V→List V→Hp→VK→Prop)(to:TE)(t:TA):TE:=fun σ H Q=>to σ H fun x H1=>tyV K T x H1∧t σ H1 fun xs H2=>r x xs H2 Q
variable{o e:Expr}{es:List Expr}{to:TE}{t:TA}{name:Str}{apos cpos:Pos}{T id:String}{r:V→List V→Hp→VK→Prop}
theorem pe_bm0(pa:PlainAttrs T)(slot:Slot T name id)(hty:typeOf (.builtin id)=pure (.type "method_descriptor"))(hm:MtR X id r)(ho:PE X o to)
  (hbase:attributeBase o name X.env (eval o X.env)=eval o X.env:=by rfl) (hline:(apos.endLine==cpos.line)=true:=by rfl):PE X (.Call (.Attribute o name apos) [] [] cpos) (tBM0 X.K T r to):=by
 intro pins s σ H Q I h
 refine wpAny_Call_method0_late hbase hline (thn (ho pins s σ H _ I h) fun v s1 zz1=>?_)
 obtain⟨x,H1,I1,r1,ty,q1⟩:=zz1
 obtain⟨h1,h2⟩:=tyV_is I1 r1 ty
 exact⟨T,id,pa,slot,hty,h1,h2,Calls.callWith_builtin rfl (PySem.evalArgs_none (hm pins s1 σ H1 x [] v [] Q I1 r1 .nil q1))⟩
theorem iV(pa:PlainAttrs T)(slot:Slot T name id)(hty:typeOf (.builtin id)=pure (.type "method_descriptor"))(hm:MtR X id r)(ho:PE X o to)(ha:PA X (e::es) t)
  (hbase:attributeBase o name X.env (eval o X.env)=eval o X.env:=by rfl)
  (hfew:((backTo cpos (starEach (e::es) X.env)).all (fun x=>!x.1)&&(backToKw cpos (keywordEach [] X.env)).all (fun x=>x.1.isSome)
   && decide ((e::es).length+([]:List Keyword).length+(if ([]:List Keyword).isEmpty then 0 else 1)<30))=true:=by rfl)
  (hline:(apos.endLine==cpos.line)=true:=by rfl) (hs:starEach (e::es) X.env=(false,eval e X.env)::starEach es X.env:=by rfl) (hplain:(backTo cpos (starEach es X.env)).any (·.1)=false:=by rfl) :
  PE X (.Call (.Attribute o name apos) (e::es) [] cpos) (tBM X.K T r to t):=by
 intro pins s σ H Q I h
 refine wpAny_Call_method_late hbase hfew hline rfl (thn (ho pins s σ H _ I h) fun v s1 zz1=>?_)
 obtain⟨x,H1,I1,r1,ty,q1⟩:=zz1
 obtain⟨h1,h2⟩:=tyV_is I1 r1 ty
 refine⟨T,id,pa,slot,hty,h1,h2,?_⟩
 have hA:=ha cpos pins s1 σ H1 _ I1 q1
 rw[hs]at hA ⊢
 refine Calls.callWith_builtin (by show(false||(backTo cpos (starEach es X.env)).any (·.1))=false;rw[hplain]<;>rfl) (Calls.evalArgs_plain ?_)
 exact thn hA fun us s2 ⟨vs,H2,I2,r2,q2⟩=>hm pins s2 σ H2 x vs v us Q I2 r1 r2 q2
/- xs.append(e),list.index on a module's tuple .. are MtR facts of 06m -/
end
def MtM(X:Cx)(id:String)(r:V→List V→Hp→VK→Prop):Prop :=
 ∀ (pins:List (Addr×Obj)) (s:Shared) (σ:St) (H:Hp) (x:V) (xs:List V) (v:Value) (us:List Value) (Q:VK),Inv X pins σ H s→RelV x v→Vals xs us→r x xs H Q →
  wpAny (model X.prog X.w) X.A (call (.builtin id) (v::us)) (EP X pins σ Q) X.xe s
theorem Vals.one:∀ {x:V} {us:List Value},Vals [x] us→∃ u,us=[u]∧RelV x u:=by
 intro x us g
 cases g with
 | cons r t =>
  cases t
  exact⟨_,rfl,r⟩
theorem Vals.zero:∀ {us:List Value},Vals [] us→us=[]
 | _,.nil=>rfl
theorem Vals.dropLast{xs:List V}{us:List Value}(h:Vals xs us):Vals xs.dropLast us.dropLast:=by
 induction h with
 | nil=>exact .nil
 | cons r t ih =>
  cases t with
  | nil=>exact .nil
  | cons q t'=>exact .cons r ih
theorem erase_last{α:Type}(l:List α):l.eraseIdx (l.length-1)=l.dropLast:=by
 induction l with
 | nil=>rfl
 | cons a r ih =>
  cases r with
  | nil=>rfl
  | cons b r =>
   have e:(a::b::r).length-1=((b::r).length-1)+1:=by
    have h1:(a::b::r).length=r.length+2:=rfl
    have h2:(b::r).length=r.length+1:=rfl
    omega
   rw[e,List.eraseIdx_cons_succ,ih]
   all_goals rfl
section
variable{X:Cx}{pins:List (Addr×Obj)}{σ:St}{H:Hp}{s:Shared}{l b:Addr}{xs ys zs:List V}
theorem Inv.lset{its its':List Value}{n:Nat}{f:Array Value→Array Value}{t':Nat}(I:Inv X pins σ H s)(hH:H l=some (.lst xs))
  (e:s.heap.get? l=some { cls:=.type "list",data:=.seq its.toArray n }) (hf:f its.toArray=its'.toArray) (hv:Vals ys its') (hz:ys.length≤sizeLine) :
  Inv X pins σ (upd H l (.lst ys)) { s with heap:=s.heap.update l (Obj.mapSeq f),toks:=t' }:=by
 have q:=PySem.IsL.update e f
 rw[hf]at q
 refine I.write (x:=l) (e:=l) (by rw[hH];exact trivial) (.inl rfl) (fun b' u hb hu=>(Heap.get?_update_other s.heap (Obj.mapSeq f) (Ne.symm hb)).trans hu) ⟨_,q⟩ ?_
 exact⟨hz,its',_,hv,q⟩
theorem Inv.lnew{its:List Value}{t':Nat}(I:Inv X pins σ H s)(hv:Vals ys its)(hz:ys.length≤sizeLine) :
  Inv X pins σ (upd H s.heap.objs.size (.lst ys)) { s with heap:=s.heap.push { cls:=.type "list",data:=.seq its.toArray },toks:=t' } :=
 I.laid (fun _ _ q=>Heap.get?_push_of_some _ q) (za4 _) ⟨hz,its,0,hv,Heap.get?_push_size _ rfl⟩
theorem Inv.fresh(I:Inv X pins σ H s):H s.heap.objs.size=none:=I.hok.fresh (za4 _)
theorem Inv.lstM(I:Inv X pins σ H s)(hH:H l=some (.lst xs)):xs.length≤sizeLine∧∃ (its:List Value) (n:Nat),Vals xs its∧xs.length=its.length∧s.heap.get? l=some { cls:=.type "list",data:=.seq its.toArray n }:=by
 obtain⟨z,its,n,r,e⟩:=I.hok l _ hH
 exact⟨z,its,n,r,r.length,e⟩
end
section
variable{X:Cx}
def rAppend:V→List V→Hp→VK→Prop:=fun x vs H Q=>∃ l xs y,x=.ref l∧vs=[y]∧H l=some (.lst xs)∧xs.length<sizeLine∧Q .non (upd H l (.lst (xs++[y])))
theorem bD:MtM X "list.append" rAppend:=by
 intro pins s σ H x vs v us Q I rx rv h
 obtain⟨l,xs,y,rfl,rfl,hH,hz,q⟩:=h
 cases rx
 obtain⟨u,rfl,ru⟩:=rv.one
 obtain⟨z,its,n,r,hl,e⟩:=I.lstM hH
 refine call_meets F.slot_list_append ⟨_,e,rfl⟩ F.entry_list_append (F.args_list_append_2 _ _) (PySem.list_append l its.toArray n u (by rw[zag];omega)) ⟨e,?_⟩
 refine⟨.non,_,I.lset (its':=its++[u]) hH e (by simp) (r.append (.cons ru .nil)) ?_,rfl,q⟩
 rw[za1,zam]
 omega
def rPop:V→List V→Hp→VK→Prop:=fun x vs H Q=>∃ l xs y,x=.ref l∧vs=[]∧H l=some (.lst xs)∧xs[xs.length-1]?=some y∧Q y (upd H l (.lst xs.dropLast))
theorem mt_pop:MtM X "list.pop" rPop:=by
 intro pins s σ H x vs v us Q I rx rv h
 obtain⟨l,xs,y,rfl,rfl,hH,hy,q⟩:=h
 cases rx
 have hus:=rv.zero
 subst hus
 obtain⟨z,its,n,r,hl,e⟩:=I.lstM hH
 obtain⟨u,hu,ru⟩:=r.get hy
 have hy':its.toArray[its.toArray.size-1]?=some u:=by
  show its.toArray[its.length-1]?=some u
  rw[← zaq,← hl]
  exact hu
 refine call_meets F.slot_list_pop ⟨_,e,rfl⟩ F.entry_list_pop (F.args_list_pop_1 _) (MeetsSeq.list_pop_last l its.toArray n u hy' (by rw[zag];omega)) ⟨e,?_⟩
 refine⟨y,_,I.lset (its':=its.dropLast) hH e ?_ r.dropLast ?_,ru,q⟩
 ·show its.toArray.eraseIdxIfInBounds (its.toArray.size-1)=its.dropLast.toArray
  rw[zag,List.eraseIdxIfInBounds_toArray,erase_last]
 ·rw[List.length_dropLast]
  omega
def rCat:R2:=fun x y H Q=>∃ l b xs zs,x=.ref l∧y=.ref b∧H l=some (.lst xs)∧H b=some (.lst zs)∧xs.length+zs.length≤sizeLine∧∀ p,H p=none→Q (.ref p) (upd H p (.lst (xs++zs)))
theorem op_cat:OpR X (binaryOp .Add) rCat:=by
 intro pins s σ H x y v u Q I rx ry h
 obtain⟨l,b,xs,zs,rfl,rfl,hH,hB,hz,q⟩:=h
 cases rx
 cases ry
 obtain⟨z,its,n,r,hl,e⟩:=I.lstM hH
 obtain⟨z2,its2,n2,r2,hl2,e2⟩:=I.lstM hB
 refine PySem.P.add_list e e2 ?_ (by rw[zag,zag];omega)
 have ea:its.toArray++its2.toArray=(its++its2).toArray:=by simp
 rw[ea]
 exact⟨.ref _,_,I.lnew (t':=s.toks) (r.append r2) (by rw[za1];omega),rfl,q _ I.fresh⟩
end
section
variable{prog:Program}{w:World}{A:Around}{E:Value→Shared→Prop}{s:Shared}
end
section
variable{X:Cx}
end
end L2
namespace Att
open PySem PySem.W PySem.Calls PyProof.Rows
theorem jL{P:Params}{h:Heap}:∀ (ns:List Int) (vs:List Value),WellAll P h vs (ns.map WData.int)→IntsAre vs ns:=by
 intro ns
 induction ns with
 | nil =>
  intro vs w
  rw[List.map_nil]at w
  cases w
  exact .nil
 | cons n ns ih =>
  intro vs w
  rw[zay]at w
  cases w with
  | cons a b =>
   cases a
   exact .cons _ _ (ih _ b)
theorem script_of{l:OpenLaw}{n:Nat}(hn:l.most=some n){P:Params}{h:Heap}{args:List WData}{vals:List Value}
  (hpre:l.row.toRowW.claim.pre args=true) (hwl:WellAll P h vals args) :
  ∃ a vs ns,vals=[Value.ref a]∧args=[WData.list (ns.map WData.int)]∧h.get? a=some { cls:=.type "list",data:=.seq vs.toArray }∧IntsAre vs ns∧ns.length≤n:=by
 have hsh:WShape.hasAll [] args [.list .int]=true:=(pre_splitW hpre).1
 have hc:l.pre.holds [] { args:=args }=true:=(pre_splitW hpre).2
 obtain⟨d,r,rfl,h1,h2⟩:=hasAllW_cons hsh
 obtain rfl:=hasAllW_nil h2
 obtain⟨xs,rfl,h3⟩:=hasW_list h1
 obtain⟨ns,rfl⟩:=items_int h3
 have hlen:ns.length≤n:=by
  unfold OpenLaw.pre at hc
  have h4:(WTm.not (.lt (.lit (.int (n:Int))) (.len (.arg 0)))).holds [] { args:=[.list (ns.map .int)] }=true:=by
   have h4:=(holds_andW hc).1
   rw[hn]at h4
   exact h4
  have h5:=condW_of h4 (w_not (w_lt w_lit (w_len_list (w_arg rfl))))
  rw[za0]at h5
  refine Nat.le_of_not_lt fun q=>?_
  have q':(n:Int)<((ns.length:Nat):Int):=by omega
  first
   | (rw[decide_eq_true q']at h5;exact absurd h5 (by decide))
   | (simp at h5;omega)
 cases hwl with
 | cons w1 w2 =>
  cases w2
  cases w1 with
  | list ho hall=>exact⟨_,_,ns,rfl,rfl,ho,jL ns _ hall,hlen⟩
theorem post_true(l:OpenLaw)(args:List WData):l.row.toRowW.claim.post args (.bool true) args=true :=
 postW_of (r:=l.row.toRowW) (X:=(true==true))
  (show WShape.has [] (.bool true) .bool=true by first | rfl | decide | simp[WShape.has,WShape.arms,WShape.armsAll])
  (show(WTm.eq .res (.lit (.bool true))).value [] { args:=args,res:=some (.bool true),after:=args }=some (.bool (true==true)) from w_eq_bool (w_res rfl) w_lit) rfl
theorem attach_call{l:OpenLaw}{n:Nat}{q:Program}{loose:List Str}{XP:(Str→Option Value)→Heap→Prop}{YP:World→Heap→Prop}{d:DefRec}
  (hn:l.most=some n) (hdf:d.params.defaults=[])
  (call:∀ (w:World) (s₀ s₁:Shared) (mg mb:Str→Option Value) (fa:Addr) (o:Obj) (pm cd doc:Value) (a:Addr) (vs:List Value) (ns:List Int),
   Ground q loose [] XP w s₀ mg mb s₁.heap→YP w s₁.heap →
   s₁.heap.get? fa=some o→o.data=.func (docDef d.name d.params d.body d.scope pm cd doc)→s₁.heap.CodeRec cd d.name→mg d.name=some (.ref fa) →
   s₁.heap.get? a=some { cls:=.type "list",data:=.seq vs.toArray }→IntsAre vs ns→ns.length≤n→s₁.gens=#[] →
   codeAny (model l.prog w) callerA (.call (.ref fa) ⟨[.ref a],[]⟩) (fun r s'=>r=.ok (.ret (.bool true))∧OldK s₁.heap s'.heap∧s'.os=s₁.os∧AllBare s'.gens) s₁) :
  WalkO q loose XP YP l.row.toRowW d [] (fun f vs=>PySem.call f vs):=by
 intro w s₀ s₁ mg mb G Y fa o pm cd doc dV kV ho hd hcd hD hmg hg args vals as hpre hlay hrd hwl hlo
 obtain rfl:dV=.none:=Dflts.none hD hdf
 obtain rfl:kV=.none:=Dflts.noKw hD
 obtain⟨a,vs,ns,rfl,rfl,hobj,hints,hlen⟩:=script_of hn hpre hwl
 refine enter_call (codeAny_mono (call w s₀ s₁ mg mb fa o pm cd doc a vs ns G Y ho (fd_plain hd) hcd hmg hobj hints hlen hg) fun r s' hq=>?_)
 obtain⟨rfl,h2,h3,h4⟩:=hq
 exact⟨.inl ⟨.bool true,.bool true,[],rfl,fun _=>rfl,.bool true,post_true l _,fun _=>⟨List.Pairwise.nil,fun _ hm=>(nomatch hm)⟩⟩,h2,h3,h4⟩
section
variable{prog:Program}{w:World}{A:Around}{E:Value→Shared→Prop}{s:Shared}{K:Frag}
end
end Att
namespace L2
open PySem PySem.Spec PyProof.Rows
theorem vals_ints:∀ {vs:List Value} {ns:List Int},IntsAre vs ns→Vals (ns.map V.int) vs
 | _,_,.nil=>.nil
 | _,_,.cons n t h=>.cons ⟨t,rfl⟩ (vals_ints h)
def Only(H:Hp):Prop:=∀ b,H b=none∨∃ o xs,H b=some (.frz o (.lst xs))
theorem law_call{P:Program}{w:World}{K:PySem.W.Frag}{mg mb:Str→Option Value}{CX:CXT}{k:Nat}{fa a:Addr}{fd:FuncData}{x:Str}{sp:Sp}{s₁:Shared}{vs:List Value}{ns:List Int}
  (KX:K.In s₁.heap) (hns:s₁.heap.Ns mainGlobals mg) (hb:s₁.heap.Ns builtinsNs mb) (hbb:∀ x:Str,x≠"__name__"→mb x=bootBuiltins x) (hlim:s₁.heap.NoLimit) (hg:s₁.gens=#[])
  (ha:s₁.heap.get? a=some { cls:=.type "list",data:=.seq vs.toArray }) (hi:IntsAre vs ns) (hl:ns.length≤sizeLine) (hr:Room k callerA)
  (F:∀ base:Heap,K.In base→base.Ns mainGlobals mg→FnOk P w K mg base CX k fa fd [x] sp) (hbind:∀ (s:Shared) (u:Value),BindsTo s fd ⟨[u],[]⟩ [(x,u)])
  (hsp:∀ H:Hp,Only H→SqL K H a (ns.map V.int)→sp [.ref a] H (fun v _=>v=.bl true) fun _ _ _=>False)
  (hCX:∀ H e s',CX [] H s₁ (fun _ _ _=>False) e s'→False) :
  codeAny (model P w) callerA (.call (.ref fa) ⟨[.ref a],[]⟩) (fun r s'=>r=.ok (.ret (.bool true))∧OldK s₁.heap s'.heap∧s'.os=s₁.os∧AllBare s'.gens) s₁:=by
 have rv:=vals_ints hi
 have lenV:=hi.length
 have core:∀ H:Hp,Only H→SqL K H a (ns.map V.int)→HOk P w H s₁.heap→(∀ b,H b≠none→b=a)→(H a≠none→K.lookup a=none) →
   codeAny (model P w) callerA (.call (.ref fa) ⟨[.ref a],[]⟩) (fun r s'=>r=.ok (.ret (.bool true))∧OldK s₁.heap s'.heap∧s'.os=s₁.os∧AllBare s'.gens) s₁:=by
  intro H hO hS hok hA hK
  have base_of:∀ {b:Addr} {o:Obj},s₁.heap.get? b=some o→H b=none→(hidT s₁.heap H).get? b=some o:=fun e n=>hidT_get e n
  have noA:∀ {b:Addr} {o:Obj} {es:Array DictEntry} {ep:Nat},s₁.heap.get? b=some o→o.data=.dict es ep→H b=none:=fun {b o es ep} e d=>by
   cases q:H b with
   | none=>rfl
   | some u =>
    have e':b=a:=hA b (by rw[q];simp)
    subst e'
    rw[ha]at e;cases e
    have d':Data.seq vs.toArray _=Data.dict es ep:=d
    cases d'
  have nsK:∀ {b:Addr} {m:Str→Option Value},s₁.heap.Ns b m→(hidT s₁.heap H).Ns b m:=fun {b m} ⟨o,es,ep,e,d,r⟩=>⟨o,es,ep,base_of e (noA e d),d,r⟩
  have hKb:K.In (hidT s₁.heap H):=fun b o e=>base_of (KX b o e) (by
   cases q:H b with
   | none=>rfl
   | some u =>
    have e':b=a:=hA b (by rw[q];simp)
    subst e'
    rw[hK (by rw[q];simp)]at e;cases e)
  have hM:Mod K mg (hidT s₁.heap H):=⟨hKb,nsK hns,⟨mb,nsK hb,hbb⟩,let ⟨mc,h1,h2⟩:=hlim;⟨mc,nsK h1,h2⟩⟩
  have e0:Env0 P w K mg (hidT s₁.heap H) callerA [] s₁ H:=⟨rfl,hM,fun b o e=>of_hidT e,Nat.le_of_eq (hidT_size _ _),trivial,fun b hb=>absurd (show b∈([]:List Addr) from hb) (by simp),hok,.of_eq hg⟩
  refine codeAny_mono ((F _ hKb (nsK hns)).run callerA [] s₁ H ⟨[.ref a],[]⟩ [.ref a] [.ref a] _ _ hr e0 (hbind s₁ (.ref a)) (.cons rfl .nil) (hsp H hO hS)) fun r s' h=>?_
  cases r with
  | error e=>exact(hCX H e s' h).elim
  | ok fl =>
   cases fl with
   | next=>exact False.elim h
   | brk=>exact False.elim h
   | cont=>exact False.elim h
   | ret u =>
    obtain⟨v,H',os,bare,un,hok',r',q⟩:=h
    have q':v=.bl true:=q
    subst q'
    obtain rfl:u=Value.bool true:=r'
    refine⟨rfl,OldK.of_keep fun b o e=>?_,os,bare⟩
    cases q:H b with
    | none=>exact un.keep b o e q (by intro z;exact absurd (show b∈([]:List Addr) from z) (by simp)) (by simp)
    | some u =>
     rcases hO b with z | ⟨ob,xs,z⟩
     ·rw[q]at z;cases z
     ·have z2:=un.frzs b ob _ z
      obtain⟨e1,_⟩:=hok b _ z
      obtain⟨e2,_⟩:=hok' b _ z2
      rw[e]at e1;cases e1
      exact e2
 cases hk:K.lookup a with
 | some o =>
  have e:=KX a o hk
  rw[ha]at e
  cases e
  refine core (fun _=>none) (fun _=>.inl rfl) (.inr ⟨_,vs.toArray,_,hk,rfl,rfl,rfl,by rw[zag,lenV];exact hl,by simpa using rv⟩) (fun b u z=>by have z':(none:Option HO)=some u:=z;cases z') (fun b z=>absurd rfl z) fun z=>absurd rfl z
 | none =>
  refine core (fun b=>if b=a then some (.frz { cls:=.type "list",data:=.seq vs.toArray } (.lst (ns.map V.int))) else none) (fun b=>?_) (.inl (.inr ⟨{ cls:=.type "list",data:=.seq vs.toArray },if_pos rfl⟩)) (fun b u z=>?_) (fun b z=>?_) fun _=>hk
  ·by_cases hb:b=a
   ·exact .inr ⟨_,_,if_pos hb⟩
   ·exact .inl (if_neg hb)
  ·by_cases hb:b=a
   ·have z':=(if_pos hb).symm.trans z
    cases z'
    subst hb
    exact⟨ha,by rw[za0];exact hl,vs,_,rv,ha⟩
   ·have z':=(if_neg hb).symm.trans z
    cases z'
  ·by_cases hb:b=a
   ·exact hb
   ·exact absurd (if_neg hb) z
theorem walk_of{l:PySem.W.OpenLaw}{n k:Nat}{q:Program}{loose:List Str}{XP:(Str→Option Value)→Heap→Prop}{YP:World→Heap→Prop}{d:DefRec}{K:Params→PySem.W.Frag}{CX:World→CXT}{sp:World→Sp}{x:Str}
  (hn:l.most=some n) (hn2:n≤sizeLine) (hdf:d.params.defaults=[]) (hr:Room k callerA)
  (hY:∀ (w:World) (h:Heap),YP w h→(K w.params).In h)
  (F:∀ (w:World) (mg:Str→Option Value) (fa:Addr) (h:Heap),(K w.params).In h→h.Ns mainGlobals mg→mg d.name=some (.ref fa) →
   ∃ fd:FuncData,(∀ (s:Shared) (u:Value),BindsTo s fd ⟨[u],[]⟩ [(x,u)]) ∧
    ∀ base:Heap,(K w.params).In base→base.Ns mainGlobals mg→FnOk l.prog w (K w.params) mg base (CX w) k fa fd [x] (sp w))
  (hsp:∀ (w:World) (H:Hp) (a:Addr) (ns:List Int),ns.length≤n→Only H→SqL (K w.params) H a (ns.map V.int)→sp w [.ref a] H (fun v _=>v=.bl true) fun _ _ _=>False)
  (hCX:∀ (w:World) (H:Hp) (s:Shared) (e:Value) (s':Shared),CX w [] H s (fun _ _ _=>False) e s'→False) :
  PySem.W.WalkO q loose XP YP l.row.toRowW d [] (fun f vs=>PySem.call f vs):=by
 refine Att.attach_call hn hdf fun w s₀ s₁ mg mb fa o pm cd doc a vs ns G Y ho hd hcd hmg hobj hints hlen hg=>?_
 have KX:=hY w _ Y
 obtain⟨fd,hb,hF⟩:=F w mg fa _ KX G.T.g hmg
 exact law_call KX G.T.g G.T.b G.T.builtins G.T.nolimit hg hobj hints (zb1 hlen hn2) hr hF hb (fun H hO hS=>hsp w H a ns hlen hO hS) fun H e s'=>hCX w H s₁ e s'
end L2
/- THE LAST THEOREM (shape;LID,My.* are yours):
   My.Adr: a structure of the addresses that your layer names (classes,functions);My.Txt K t: a structure (Prop) of the equations over K;
   My.txt_mk:{K} {implicit addresses ..} (e1:nsIn K mainGlobals "law"=some (some (.ref f))) (e2:K.lookup f=some ⟨oc,od,.func (fnOf "law" "law" params body scope dV kV doc pm an cdv ct),sl⟩) (e3:codeIn K cdv "law"=true) ..:∃ t,My.Txt K t
set_option maxRecDepth 100000 in
set_option maxHeartbeats 0 in
theorem PySem.Challenge.cw_LID_holds : PySem.Challenge.rw_LID.Holds := by
 w_on;o_law;k_head;(case hw=>w_witness2)
 k_fill
 refine L2.walk_of (l:=PySem.Challenge.rw_LID) (n:=63) (k:=40) (x:="script") (CX:=fun w=>..) (sp:=fun _=>My.sp_law) rfl (by decide) rfl ⟨rfl,by decide,by decide⟩ (fun w h Y=>PySem.W.kIn_of Y) ?F ?S ?C
 case F =>
  intro w mg fa h KX G hmg
  have T:∃ t,My.Txt (L2.KOf KX) t:=by
   dsimp only[L2.KOf]                          -- K must stand as «<heap const> w.params» for k_is
   refine' My.txt_mk ?e1 ?e2 ?e3 ..
   (case e1=>PySem.W.k_is)                    -- in the order: a name -> its address -> its object -> its parts
   (case e2=>PySem.W.k_is)
   ..
  obtain⟨t,T⟩:=T
  have e0:=hmg.symm.trans (PySem.W.mg_of KX G T.law)
  cases e0                                       -- fa is the law's own address
  exact⟨_,fun s u=>.of_eq rfl,fun base kb nb=>My.law_fn T kb nb⟩     -- if «.of_eq rfl» comes too early: refine' ⟨_,?b,fun base kb nb=>My.law_fn T kb nb⟩;exact fun s u=>.of_eq rfl
 case S=>exact fun w H a ns hl hO hS=>..
 case C=>exact ..
(the tactic k_is has no namespace: write k_is) -/
namespace L2
open PySem PySem.Spec PyProof.Rows
def au(s:Stmt):Arguments:=match s with
 | .FunctionDef _ a _ _ _ _ _ _ _ _=>a
 | _=>{ posonlyargs:=[],args:=[],vararg:=none,kwonlyargs:=[],kw_defaults:=[],kwarg:=none,defaults:=[] }
def aq(s:Stmt):List Stmt:=match s with
 | .FunctionDef _ _ b _ _ _ _ _ _ _=>b
 | _=>[]
def ab(s:Stmt):Scope:=match s with
 | .FunctionDef _ _ _ _ _ _ sc _ _ _=>sc
 | _=>{ kind:=.function,names:=[],isGenerator:=false,isCoroutine:=false }
abbrev CX0:CXT:=fun _ _ _ _ _ _=>False
abbrev E0:XK:=fun _ _ _=>False
theorem bf{X:Cx}:Passes CX0 X E0:=fun _ _ _ _ _ _ _ h=>h.elim
structure Fun(K:PySem.W.Frag)(x qual:Str)(st:Stmt)(f:Addr)(fd:FuncData):Prop where
 ex:∃ (oc:Value) (od:Option Addr) (kV doc pm:Value) (an:Option Addr) (cdv ct:Value) (osl:Array (Option Value)),
  fd=PySem.W.fnOf x qual (au st) (aq st) (ab st) .none kV doc pm an cdv ct∧K.lookup f=some ⟨oc,od,.func fd,osl⟩∧PySem.W.codeIn K cdv qual=true
 kp:PySem.W.keepIn K (.ref f)=true
section
variable{P:Program}{w:World}{K:PySem.W.Frag}{mg:Str→Option Value}{base:Heap}
theorem Fun.ok{x qual:Str}{st:Stmt}{f:Addr}{fd:FuncData}{N ps:List Str}{k:Nat}{sp:Sp}(F:Fun K x qual st f fd)(S:aS N ps (ab st))(len:∀ vs H Q E,sp vs H Q E→vs.length=ps.length)
  (hbody:∀ (cdv:Value) (A:Around) (outer:List Env) (s:Shared) (H:Hp) (vs:List V) (Q:VK) (E:XK),Room k (A.deeper (envOfC qual (ab st) s.heap.objs.size f cdv))→sp vs H Q E →
   ∃ t,PSs (cxOf CX0 P w K mg base N qual (ab st) f cdv A outer s H E).nox (aq st) t∧t { nx:=fun _ H'=>Q .non H',rt:=Q } (start N vs) H):FnOk P w K mg base CX0 (k+1) f fd ps sp:=by
 obtain⟨oc,od,kV,doc,pm,an,cdv,ct,osl,rfl,lk,hcd⟩:=F.ex
 refine fn_of lk hcd S len fun A outer s H vs Q E hr hsp=>?_
 obtain⟨t,h,q⟩:=hbody cdv A outer s H vs Q E hr hsp
 exact⟨t,h.nox,q⟩
theorem Fun.binds{x qual:Str}{st:Stmt}{f:Addr}{fd:FuncData}{ps:List Str}(F:Fun K x qual st f fd)
  (h:∀ (kV doc pm:Value) (an:Option Addr) (cdv ct:Value) (us:List Value),us.length=ps.length→bindArgs (PySem.W.fnOf x qual (au st) (aq st) (ab st) .none kV doc pm an cdv ct) ⟨us,[]⟩=pure (ps.zip us)):bh K fd ps []:=by
 obtain⟨oc,od,kV,doc,pm,an,cdv,ct,osl,rfl,lk,hcd⟩:=F.ex
 exact .all (h kV doc pm an cdv ct)
theorem fun_mk{x qual:Str}{st:Stmt}{f:Addr}{oc:Value}{od an:Option Addr}{osl:Array (Option Value)}{kV doc pm cdv ct:Value}(l:K.lookup f=some ⟨oc,od,.func (PySem.W.fnOf x qual (au st) (aq st) (ab st) .none kV doc pm an cdv ct),osl⟩)
  (c:PySem.W.codeIn K cdv qual=true) (k:PySem.W.keepIn K (.ref f)=true):Fun K x qual st f (PySem.W.fnOf x qual (au st) (aq st) (ab st) .none kV doc pm an cdv ct):=⟨⟨oc,od,kV,doc,pm,an,cdv,ct,osl,rfl,l,c⟩,k⟩
end
theorem be{n:Nat}(h:n≤1000):n<sizeLine:=Nat.lt_of_le_of_lt h (by decide)
section
variable{X:Cx}
theorem pv(i:Nat){x:Str}{pos:Pos}(hN:X.N[i]?=some x:=by rfl)(hv:Vis X.env.scope x:=by first | exact Or.inl rfl | exact Or.inr (Or.inl rfl) | exact Or.inr (Or.inr rfl))(hd:(x==("__debug__":Str))=false:=by decide)
  (hcd:(x==("__classdict__":Str))=false:=by decide):PE X (.Name x pos) (tVar i):=pe_var hN hv hd hcd
end
theorem iteF{A B:Prop}(h:B):if false=true then A else B:=by
 rw[if_neg zaj]
 exact h
theorem iteT{A B:Prop}(h:A):if true=true then A else B:=by
 rw[if_pos rfl]
 exact h
def Same(H H':Hp):Prop:=∀ b o,H b=some o→H' b=some o
theorem Same.refl(H:Hp):Same H H:=fun _ _ h=>h
theorem Same.trans{H H1 H2:Hp}(a:Same H H1)(b:Same H1 H2):Same H H2:=fun c o h=>b c o (a c o h)
theorem Same.seq{K:PySem.W.Frag}{H H':Hp}{a:Addr}{xs:List V}(e:Same H H')(h:SqL K H a xs):SqL K H' a xs:=by
 rcases h with (h | ⟨o,h⟩) | h
 ·exact .inl (.inl (e _ _ h))
 ·exact .inl (.inr ⟨o,e _ _ h⟩)
 ·exact .inr h
section
variable{κ:Type}[DecidableEq κ]
def valV(kvs:List (κ×V))(k:κ):Option V:=(kvs.find? fun kv=>decide (kv.1=k)).map (·.2)
def putK(kvs:List (κ×V))(k:κ)(v:V):List (κ×V) :=
 if (kvs.any fun kv=>decide (kv.1=k))=true then kvs.map (fun kv=>if kv.1=k then (kv.1,v) else kv) else kvs++[(k,v)]
theorem cb{p:κ×V}{r:List (κ×V)}{k:κ}(e:p.1=k):valV (p::r) k=some p.2:=by simp[valV,zc3,e]
theorem cc{p:κ×V}{r:List (κ×V)}{k:κ}(e:¬ p.1=k):valV (p::r) k=valV r k:=by simp[valV,zc3,e]
theorem cD(k:κ):∀ kvs:List (κ×V),(kvs.any fun kv=>decide (kv.1=k))=(valV kvs k).isSome
 | []=>rfl
 | p::r=>by
  rw[List.any_cons]
  by_cases e:p.1=k
  ·simp only[cb e,decide_eq_true e,Bool.true_or,Option.isSome_some]
  ·rw[cc e,decide_eq_false e,Bool.false_or];exact cD k r
theorem valV_map(k j:κ)(y:V):∀ kvs:List (κ×V),valV (kvs.map fun kv=>if kv.1=k then (kv.1,y) else kv) j=(valV kvs j).map fun x=>if j=k then y else x
 | []=>rfl
 | p::r=>by
  have ih:=valV_map k j y r
  rw[zay]
  by_cases h:p.1=k
  ·rw[if_pos h]
   by_cases e:p.1=j
   ·rw[cb (p:=(p.1,y)) e,cb e,Option.map_some,if_pos (e.symm.trans h)]
   ·rw[cc (p:=(p.1,y)) e,cc e,ih]
  ·rw[if_neg h]
   by_cases e:p.1=j
   ·rw[cb (p:=p) e,cb e,Option.map_some,if_neg (fun z=>h (e.trans z))]
   ·rw[cc (p:=p) e,cc e,ih]
theorem valV_snoc(k j:κ)(y:V):∀ kvs:List (κ×V),valV kvs k=none→valV (kvs++[(k,y)]) j=if j=k then some y else valV kvs j
 | [],_=>by
  by_cases e:k=j
  ·rw[if_pos e.symm];exact cb (p:=(k,y)) e
  ·rw[if_neg (fun z=>e z.symm)];exact cc (p:=(k,y)) e
 | p::r,hn=>by
  rw[zc2]
  have hk:¬ p.1=k:=fun z=>by rw[cb z]at hn;cases hn
  rw[cc hk]at hn
  have ih:=valV_snoc k j y r hn
  by_cases e:p.1=j
  ·rw[cb e,cb e,if_neg (fun z=>hk (e.trans z))]
  ·rw[cc e,cc e,ih]
theorem cm(kvs:List (κ×V))(k j:κ)(y:V):valV (putK kvs k y) j=if j=k then some y else valV kvs j:=by
 unfold putK
 by_cases a:(kvs.any fun kv=>decide (kv.1=k))=true
 ·rw[if_pos a,valV_map]
  rw[cD]at a
  by_cases e:j=k
  ·obtain⟨x,hx⟩:=Option.isSome_iff_exists.mp a
   rw[if_pos e,e,hx,Option.map_some,if_pos rfl]
  ·rw[if_neg e]
   cases valV kvs j with
   | none=>rfl
   | some x=>rw[Option.map_some,if_neg e]
 ·rw[if_neg a]
  refine valV_snoc k j y kvs ?_
  rw[cD]at a
  cases q:valV kvs k with
  | none=>rfl
  | some x=>rw[q]at a;exact(a rfl).elim
theorem length_putK(kvs:List (κ×V))(k:κ)(v:V):(putK kvs k v).length≤kvs.length+1:=by
 unfold putK
 split
 ·rw[za0];omega
 ·rw[za1,zah,zbc];omega
theorem putK_new{kvs:List (κ×V)}{k:κ}(v:V)(h:valV kvs k=none):putK kvs k v=kvs++[(k,v)]:=by
 unfold putK
 rw[cD,h]
 exact if_neg (by decide)
theorem RelO.isSome_eq{o:Option V}{u:Option Value}(r:RelO o u):o.isSome=u.isSome:=by
 cases o with
 | none=>cases u with
  | none=>rfl
  | some _=>exact(show False from r).elim
 | some _=>cases u with
  | none=>exact(show False from r).elim
  | some _=>rfl
theorem KV.val{kvs:List (κ×V)}{vs:List (κ×Value)}(r:KV kvs vs)(k:κ):RelO (valV kvs k) (valueAt vs k):=by
 unfold KV at r
 induction r with
 | nil=>exact True.intro
 | @cons p q ps qs h t ih =>
  obtain⟨h1,h2⟩:=h
  by_cases e:p.1=k
  ·have e':q.1=k:=h1.symm.trans e
   have b:valueAt (q::qs) k=some q.2:=by simp[valueAt,zc3,e']
   rw[cb e,b];exact h2
  ·have e':¬ q.1=k:=fun z=>e (h1.trans z)
   have b:valueAt (q::qs) k=valueAt qs k:=by simp[valueAt,zc3,e']
   rw[cc e,b];exact ih
theorem KV.any{kvs:List (κ×V)}{vs:List (κ×Value)}(r:KV kvs vs)(k:κ):(kvs.any fun kv=>decide (kv.1=k))=vs.any fun kv=>decide (kv.1=k):=by
 unfold KV at r
 induction r with
 | nil=>rfl
 | cons h t ih=>rw[List.any_cons,List.any_cons,ih,h.1]
theorem KV.repl{kvs:List (κ×V)}{vs:List (κ×Value)}(r:KV kvs vs)(k:κ){y:V}{u:Value}(ry:RelV y u) :
  KV (kvs.map fun kv=>if kv.1=k then (kv.1,y) else kv) (vs.map fun kv=>if kv.1=k then (kv.1,u) else kv):=by
 unfold KV at r ⊢
 induction r with
 | nil=>exact .nil
 | @cons p q ps qs h t ih =>
  rw[zay,zay]
  refine .cons ?_ ih
  obtain⟨h1,h2⟩:=h
  by_cases e:p.1=k
  ·rw[if_pos e,if_pos (h1.symm.trans e)];exact⟨h1,ry⟩
  ·rw[if_neg e,if_neg (fun z=>e (h1.trans z))];exact⟨h1,h2⟩
theorem KV.put{kvs:List (κ×V)}{vs:List (κ×Value)}(r:KV kvs vs)(k:κ){y:V}{u:Value}(ry:RelV y u):KV (putK kvs k y) (stored vs k u):=by
 unfold putK stored
 rw[r.any k]
 by_cases e:(vs.any fun kv=>decide (kv.1=k))=true
 ·rw[if_pos e,if_pos e];exact r.repl k ry
 ·rw[if_neg e,if_neg e];exact Paired.snoc r ⟨rfl,ry⟩
end
theorem kV_is{P:Program}{w:World}{k:Key}{u:Value}(r:RelV (kV k) u):(c8 P w).is k u=true:=by
 cases k with
 | inl i=>obtain⟨t,e⟩:=(show ∃ t,u=Value.int i t from r);subst e;exact mixKind_int P w i t
 | inr x=>obtain⟨t,e⟩:=(show ∃ t,u=Value.str x t from r);subst e;exact mixKind_str P w x t
theorem items_are{P:Program}{w:World}:∀ {ks:List Key} {us:List Value},Vals (ks.map kV) us→ItemsAre (c8 P w) ks us
 | [],_,r=>by rw[List.map_nil]at r;cases r;exact .nil
 | k::ks,_,r=>by
  rw[zay]at r
  cases r with
  | cons h t=>exact .cons (kV_is h) (items_are t)
abbrev KT(H:Hp):List (List Key×V)→List (List Key×Addr×Value)→Prop:=Paired fun p q=>p.1=q.1∧H q.2.1=some (.tup (p.1.map kV))∧RelV p.2 q.2.2
theorem KT.val{H:Hp}{kvs:List (List Key×V)}{xs:List (List Key×Addr×Value)}(r:KT H kvs xs)(k:List Key):RelO (valV kvs k) ((atKey xs k).map (·.2)):=by
 induction r with
 | nil=>exact True.intro
 | @cons p q ps qs h t ih =>
  obtain⟨h1,_,h2⟩:=h
  by_cases e:p.1=k
  ·have e':q.1=k:=h1.symm.trans e
   have b:atKey (q::qs) k=some q.2:=by simp[atKey,zc3,e']
   rw[cb e,b];exact h2
  ·have e':¬ q.1=k:=fun z=>e (h1.trans z)
   have b:atKey (q::qs) k=atKey qs k:=by simp[atKey,zc3,e']
   rw[cc e,b];exact ih
section
variable{P:Program}{w:World}{H:Hp}{h:Heap}{a:Addr}
theorem rd_of{u:HO}(ok:HOk P w H h)(e:Rd H a u):bb P w H h a u:=e.ok ok
theorem dk_rd{kvs:List (Key×V)}(ok:HOk P w H h)(e:Rd H a (.dK kvs)):kvs.length≤sizeLine∧(a==sysModules)=false∧∃ vs,KV kvs vs∧h.DictOf (c8 P w) a vs :=
 show bb P w H h a (.dK kvs) from rd_of ok e
theorem dk_of{kvs:List (Key×V)}(ok:HOk P w H h)(e:H a=some (.dK kvs)):kvs.length≤sizeLine∧(a==sysModules)=false∧∃ vs,KV kvs vs∧h.DictOf (c8 P w) a vs:=dk_rd ok (.inl e)
theorem key_of{ks:List Key}(ok:HOk P w H h)(e:H a=some (.tup (ks.map kV))):(tupleKind (c8 P w)).is h ks a:=by
 obtain⟨_,its,r,tx⟩:=(show bb P w H h a (.tup (ks.map kV)) from ok a _ e);obtain⟨o,h1,h2,n,h3⟩:=tx.tup
 exact⟨o,its.toArray,n,h1,h2,h3,by simpa using items_are r⟩
theorem dt_rd{kvs:List (List Key×V)}(ok:HOk P w H h)(e:Rd H a (.dT kvs)):kvs.length≤sizeLine∧(a==sysModules)=false ∧
  ∃ xs,KT H kvs xs∧h.DictOfH (tupleKind (c8 P w)) a xs:=by
 obtain⟨z,y,xs,r,o,es,ep,h1,h2,h3,h4,h5⟩:=(show bb P w H h a (.dT kvs) from rd_of ok e)
 refine⟨z,y,xs,r,o,es,ep,h1,h2,h3,h4,fun x hx=>?_,h5⟩
 have all:∀ {l:List (List Key×V)} {m:List (List Key×Addr×Value)},KT H l m→∀ x∈m,(tupleKind (c8 P w)).is h x.1 x.2.1:=by
  intro l m q
  induction q with
  | nil=>intro x hx;exact nomatch hx
  | @cons p q ps qs hq t ih =>
   intro x hx
   rcases zaa.mp hx with e | hx
   ·subst e
    exact key_of ok (by rw[← hq.1];exact hq.2.1)
   ·exact ih x hx
 exact all r x hx
end
def DGet(H:Hp)(a:Addr)(y:V)(r:Option V):Prop :=
 (∃ kvs k,Rd H a (.dK kvs)∧y=kV k∧r=valV kvs k)∨∃ kvs k b,Rd H a (.dT kvs)∧y=.ref b∧H b=some (.tup (k.map kV))∧r=valV kvs k
theorem DGet.k{H:Hp}{a:Addr}{kvs:List (Key×V)}{k:Key}(e:H a=some (.dK kvs)):DGet H a (kV k) (valV kvs k):=.inl ⟨kvs,k,.inl e,rfl,rfl⟩
section
variable{X:Cx}{pins:List (Addr×Obj)}{σ:St}{H:Hp}{s:Shared}{a:Addr}{y v:V}{u r:Value}{o:Option V}{A:Around}{E:Value→Shared→Prop}
theorem Inv.big(I:Inv X pins σ H s):sysModules<s.heap.objs.size:=by
 have h:mainGlobals<s.heap.objs.size:=(I.mod.glob.keeps I.bk).lt
 exact Nat.lt_trans (by decide) h
theorem d_getItem{Q:Value→Shared→Prop}(hu:A.units+1<cLine)(I:Inv X pins σ H s)(g:DGet H a y (some v))(ry:RelV y u)(h:∀ w' s',Inv X pins σ H s'→RelV v w'→Q w' s') :
  wpAny (model X.prog X.w) A (getItem (.ref a) u) Q E s:=by
 rcases g with ⟨kvs,k,e,ey,l⟩ | ⟨kvs,k,b,e,ey,eb,l⟩
 ·subst ey
  obtain⟨z,hd,vs,rel,dd⟩:=dk_rd I.hok e
  obtain⟨w',hw,rw'⟩:=RelO.some_of (v:=v) (o:=valueAt vs k) (by rw[l];exact rel.val k)
  exact wpAny_getItem_of (kV_is ry) dd.mapOf hw (h w' _ (I.tok _) rw')
 ·subst ey
  cases (show u=Value.ref b from ry)
  obtain⟨z,hd,xs,rel,dd⟩:=dt_rd I.hok e
  obtain⟨w',hw,rw'⟩:=RelO.some_of (v:=v) (o:=(atKey xs k).map (·.2)) (by rw[l];exact rel.val k)
  obtain⟨p,hp,hp2⟩:=Option.map_eq_some_iff.mp hw
  refine wpAny_getItem_heap (tupleKind_room_in1 hu) (key_of I.hok eb) dd hp ?_
  rw[hp2]
  exact h w' _ (I.tok _) rw'
theorem d_write{h':Heap}{t':Nat}{ob:HO}(I:Inv X pins σ H s)(mu:Mut (H a))(hs:Heap.SameBut a s.heap h')(he:∃ q,h'.get? a=some q)(new:bb X.prog X.w (upd H a ob) h' a ob) :
  Inv X pins σ (upd H a ob) { s with heap:=h',toks:=t' } :=
 I.write (x:=a) (e:=a) mu (.inl rfl) (fun b q hb z=>(hs.2 b hb).trans z) he new
theorem dk_new{P:Program}{w:World}{H':Hp}{h':Heap}{kvs:List (Key×V)}{vs:List (Key×Value)}(z:kvs.length≤sizeLine)(hd:(a==sysModules)=false)(rel:KV kvs vs)(dd:h'.DictOf (c8 P w) a vs) :
  bb P w H' h' a (.dK kvs):=⟨z,hd,vs,rel,dd⟩
end
section
variable{X:Cx}{pins:List (Addr×Obj)}{σ:St}{H:Hp}{s:Shared}{a:Addr}{kvs:List (Key×V)}{k:Key}{u:Value}{A:Around}{E:Value→Shared→Prop}
end
def NoSl(i:Expr):Prop:=∀ ov iv,subscripted i false ov iv=operate [ov,iv] (getItem ov iv)
theorem subD_of{prog:Program}{w:World}{A:Around}{E:Value→Shared→Prop}{s:Shared}{env:Env}{value slice:Expr}{pos:Pos}{T id:String}{Q:Value→Shared→Prop}
  (hl:typeLookup (.type T) "__getitem__"=pure (some (.builtin id))) (hs:NoSl slice)
  (h:wpAny (model prog w) A (eval value env) (fun o s₁=>wpAny (model prog w) A (eval slice env) (fun i s₂=>s₂.TypeIs o T∧wpAny (model prog w) A (getItem o i) Q E s₂) E s₁) E s) :
  wpAny (model prog w) A (eval (.Subscript value slice pos) env) Q E s:=by
 refine Subscript_ (wpAny_mono h (fun o s₁ h₁=>wpAny_mono h₁ (fun i s₂ h₂=>?_) fun _ _ x=>x) fun _ _ x=>x)
 obtain⟨hT,h₂⟩:=h₂
 unfold subscriptTail
 refine wpAny_bind ?_
 rw[getitemInPython_of_ne hT.not_modules]
 refine wpAny_bind (wpAny_specialOf hT hl ?_)
 have fin:wpAny (model prog w) A (subscripted slice false o i) (fun r s₃=>wpAny (model prog w) A (letTemporaryGo value o r>>=fun _=>pure r) Q E s₃) E s₂:=by
  rw[hs o i]
  exact wpAny_operating (wpAny_mono h₂ (fun r s₃ h₃=>wpAny_bind (wpAny_letTemporaryGo (wpAny_pure h₃))) fun _ _ x=>x)
 first
  | exact wpAny_pure (wpAny_bind fin)
  | exact wpAny_bind (wpAny_pure (wpAny_bind fin))
  | exact wpAny_bind fin
theorem dict_typeIs{X:Cx}{pins:List (Addr×Obj)}{σ:St}{H:Hp}{s:Shared}{a:Addr}{y:V}{o:Option V}(I:Inv X pins σ H s)(g:DGet H a y o):s.TypeIs (.ref a) "dict":=by
 rcases g with ⟨kvs,k,e,_,_⟩ | ⟨kvs,k,b,e,_,_,_⟩
 ·obtain⟨_,_,vs,_,dd⟩:=dk_rd I.hok e
  exact dd.typeIs
 ·obtain⟨_,_,xs,_,dd⟩:=dt_rd I.hok e
  exact dd.typeIs
def tDGet(td ty:TE):TE:=fun σ H Q=>td σ H fun x H1=>ty σ H1 fun y H2=>∃ a v,x=.ref a∧DGet H2 a y (some v)∧Q v H2
section
variable{X:Cx}{o i e value:Expr}{pos pos' tpos:Pos}{td ty tv:TE}
theorem jT(hu:X.A.units+1<cLine)(ho:PE X o td)(hi:PE X i ty)(hs:NoSl i):PE X (.Subscript o i pos) (tDGet td ty):=by
 intro pins s σ H Q I h
 refine subD_of PySem.F.slot_dict_getitem.lookup hs (thn (ho pins s σ H _ I h) fun u s1 zz1=>?_)
 obtain⟨x,H1,I1,rx,q1⟩:=zz1
 refine thn (hi pins s1 σ H1 _ I1 q1) fun iv s2 zz2=>?_
 obtain⟨y,H2,I2,ry,a,v,ex,g,q2⟩:=zz2
 subst ex
 obtain rfl:u=Value.ref a:=rx
 exact⟨dict_typeIs I2 g,d_getItem hu I2 g ry fun w' s3 I3 rw'=>⟨v,H2,I3,rw',q2⟩⟩
end
theorem dk_empty{P:Program}{w:World}{H:Hp}(h:Heap)(hb:sysModules<h.objs.size):bb P w H (h.push { cls:=.type "dict",data:=.dict #[] }) h.objs.size (.dK []) :=
 ⟨zba _,beq_eq_false_iff_ne.mpr (Ne.symm (zap hb)),[],.nil,Heap.DictOf.new h⟩
section
variable{X:Cx}{pos:Pos}
end
def tPairs:List (TE×TE)→St→Hp→(List (V×V)→Hp→Prop)→Prop
 | [],_,H,Q=>Q [] H
 | (tk,tv)::r,σ,H,Q=>tk σ H fun x H1=>tv σ H1 fun y H2=>tPairs r σ H2 fun ps H3=>Q ((x,y)::ps) H3
abbrev VV:List (V×V)→List (Value×Value)→Prop:=Paired fun p q=>RelV p.1 q.1∧RelV p.2 q.2
def PPs(X:Cx)(pos:Pos)(keys:List (Option Expr))(values:List Expr)(trs:List (TE×TE)):Prop :=
 ∀ (pins:List (Addr×Obj)) (s:Shared) (σ:St) (H:Hp) (Q:List (V×V)→Hp→Prop),Inv X pins σ H s→tPairs trs σ H Q →
  wpAny (model X.prog X.w) X.A (evalPairs (pairTrees keys values X.env pos)) (fun vs s'=>∃ ps H',Inv X pins σ H' s'∧VV ps vs∧Q ps H') X.xe s
theorem pps_nil{X:Cx}{pos:Pos}:PPs X pos [] [] []:=fun pins s σ H Q I h=>pairTrees_nil_walk ⟨[],H,I,.nil,h⟩
theorem iT{X:Cx}{pos:Pos}{k v:Expr}{ks:List (Option Expr)}{vs:List Expr}{tk tv:TE}{trs:List (TE×TE)}(hk:PE X k tk)(hv:PE X v tv)(hr:PPs X pos ks vs trs) :
  PPs X pos (some k::ks) (v::vs) ((tk,tv)::trs):=fun pins s σ H Q I h =>
 pairTrees_cons_walk (thn (hk pins s σ H _ I h) fun u s1 ⟨x,H1,I1,rx,q1⟩=>thn (hv pins s1 σ H1 _ I1 q1) fun w2 s2 ⟨y,H2,I2,ry,q2⟩ =>
  thn (hr pins s2 σ H2 _ I2 q2) fun ws s3 ⟨ps,H3,I3,rel,q3⟩=>⟨(x,y)::ps,H3,I3,.cons ⟨rx,ry⟩ rel,q3⟩)
def fm(kvs more:List (Key×V)):List (Key×V):=more.foldl (fun acc kv=>putK acc kv.1 kv.2) kvs
theorem KV.merge:∀ {more:List (Key×V)} {rs:List (Key×Value)} {kvs:List (Key×V)} {vs:List (Key×Value)},KV more rs→KV kvs vs→KV (fm kvs more) (merged vs rs):=by
 intro more rs kvs vs r
 unfold KV at r
 induction r generalizing kvs vs with
 | nil=>intro q;exact q
 | @cons p q ps qs h t ih =>
  intro r0
  have e:KV (putK kvs p.1 p.2) (stored vs q.1 q.2):=by
   have:=r0.put p.1 h.2
   rw[← h.1];exact this
  exact ih e
theorem ib:∀ (more kvs:List (Key×V)),(fm kvs more).length≤kvs.length+more.length
 | [],kvs=>by show kvs.length≤kvs.length+0;omega
 | p::r,kvs=>by
  have h1:=ib r (putK kvs p.1 p.2)
  have h2:=length_putK kvs p.1 p.2
  show(fm (putK kvs p.1 p.2) r).length≤_
  rw[zah];omega
theorem carries_of{P:Program}{w:World}:∀ {kvs:List (Key×V)} {ws:List (Value×Value)},VV (kvs.map fun kv=>(kV kv.1,kv.2)) ws→∃ rs,Carries (c8 P w) ws rs∧KV kvs rs
 | [],_,r=>by rw[List.map_nil]at r;cases r;exact⟨[],True.intro,.nil⟩
 | p::kvs,_,r=>by
  rw[zay]at r
  cases r with
  | @cons a b as bs h t =>
   obtain⟨rs,c,q⟩:=carries_of (P:=P) (w:=w) t
   obtain⟨b1,b2⟩:=b
   exact⟨(p.1,b2)::rs,⟨kV_is h.1,rfl,c⟩,.cons ⟨rfl,h.2⟩ q⟩
def tDisp(trs:List (TE×TE)):TE:=fun σ H Q=>∀ p,H p=none→tPairs trs σ (upd H p (.dK [])) fun ps H2=>H2 p=some (.dK [])∧∃ kvs:List (Key×V),ps=kvs.map (fun kv=>(kV kv.1,kv.2))∧kvs.length≤15∧Q (.ref p) (upd H2 p (.dK (fm [] kvs)))
theorem pe_disp{X:Cx}{pos:Pos}{keys:List (Option Expr)}{values:List Expr}{trs:List (TE×TE)}(h:PPs X pos keys values trs)(hall:keys.all (·.isSome)=true)(hl:keys.length=values.length)(h0:keys≠[])
  (h15:keys.length≤15):PE X (.Dict keys values pos) (tDisp trs):=by
 intro pins s σ H Q I q
 have hn:=I.hok.fresh (za4 s.heap.objs.size)
 have I1:=I.laid (a:=s.heap.objs.size) (o:=.dK []) (h':=s.heap.push { cls:=.type "dict",data:=.dict #[] }) (t':=s.toks) (fun _ _ q=>Heap.get?_push_of_some _ q) (za4 _) (dk_empty s.heap I.big)
 refine wpAny_Dict_walk (knd:=c8 X.prog X.w) hall hl h0 h15 (thn (h pins _ σ _ _ I1 (q _ hn)) fun ws s2 zz1=>?_)
 obtain⟨ps,H2,I2,rel,e,kvs,ep,lk,q2⟩:=zz1
 subst ep
 obtain⟨rs,c,rk⟩:=carries_of (P:=X.prog) (w:=X.w) rel
 obtain⟨z,hd,vs0,r0,dd⟩:=dk_of I2.hok e
 cases r0
 refine⟨rs,c,dd,fun h' dd' hs=>⟨.ref s.heap.objs.size,_,?_,rfl,q2⟩⟩
 have hz:(fm [] kvs).length≤sizeLine:=by
  have h1:=ib kvs []
  rw[zbc]at h1
  rw[sizeLine_eq];omega
 have he:∃ q,h'.get? s.heap.objs.size=some q:=let ⟨q,_,_,hq,_⟩:=dd';⟨q,hq⟩
 exact d_write I2 (by rw[e];exact True.intro) hs he (dk_new hz hd (rk.merge .nil) dd')
section
variable{X:Cx}{pins:List (Addr×Obj)}{σ:St}{H:Hp}{s:Shared}{a:Addr}{y d:V}{u r:Value}{o:Option V}{A:Around}{E:Value→Shared→Prop}
end
section
variable{X:Cx}{o e f:Expr}{apos cpos:Pos}{td ty tx:TE}
end
section
variable{X:Cx}{pins:List (Addr×Obj)}{σ:St}{H:Hp}{s:Shared}{a:Addr}{kvs:List (Key×V)}{A:Around}{E:Value→Shared→Prop}
end
section
variable{X:Cx}{pins:List (Addr×Obj)}{σ:St}{H:Hp}{s:Shared}{a:Addr}{y:V}{u:Value}{A:Around}{E:Value→Shared→Prop}
end
section
variable{X:Cx}
end
section
variable{κ:Type}[DecidableEq κ]
theorem iH{kvs:List (κ×V)}{k:κ}(h:valV kvs k=none):¬ k∈kvs.map (·.1):=by
 intro m
 obtain⟨p,hp,e⟩:=za6.mp m
 have q:(kvs.any fun kv=>decide (kv.1=k))=true:=List.any_eq_true.mpr ⟨p,hp,decide_eq_true e⟩
 rw[cD,h]at q
 exact absurd q (by simp)
theorem dW{kvs:List (κ×V)}{k:κ}{v:V}(h:valV kvs k=some v):k∈kvs.map (·.1):=by
 have q:(kvs.any fun kv=>decide (kv.1=k))=true:=by
  rw[cD,h]
  all_goals rfl
 obtain⟨p,hp,e⟩:=List.any_eq_true.mp q
 exact za6.mpr ⟨p,hp,of_decide_eq_true e⟩
theorem nd_snoc:∀ {l:List κ} {k:κ},l.Nodup→¬ k∈l→(l++[k]).Nodup
 | [],k,_,_=>by simp
 | a::r,k,h,hk=>by
  obtain⟨h1,h2⟩:=zbb.mp h
  show(a::(r++[k])).Nodup
  refine zbb.mpr ⟨fun m=>?_,nd_snoc h2 fun m=>hk (zaa.mpr (Or.inr m))⟩
  rcases za9.mp m with q | q
  ·exact h1 q
  ·exact hk (zaa.mpr (Or.inl (za7.mp q).symm))
theorem nd_putK{kvs:List (κ×V)}{k:κ}(v:V)(hn:(kvs.map (·.1)).Nodup)(h:valV kvs k=none):((putK kvs k v).map (·.1)).Nodup:=by
 rw[putK_new v h,zar]
 exact nd_snoc hn (iH h)
end
end L2
namespace BF
open PySem PySem.Spec PyProof.Rows L2
theorem pe_imp{X:Cx}{e:Expr}{t t':TE}(h:PE X e t)(k:∀ σ H Q,t' σ H Q→t σ H Q):PE X e t' :=
 fun pins s σ H Q I hw=>h pins s σ H Q I (k σ H Q hw)
inductive Kn where
 | non | bl | int | str | lst | tup | dic
def Kn.nm:Kn→String
 | .non=>"NoneType" | .bl=>"bool" | .int=>"int" | .str=>"str" | .lst=>"list" | .tup=>"tuple" | .dic=>"dict"
inductive Knd(H:Hp):V→Kn→Prop where
 | non:Knd H .non .non
 | bl (b:Bool):Knd H (.bl b) .bl
 | int (i:Int):Knd H (.int i) .int
 | str (x:Str):Knd H (.str x) .str
 | lst {a:Addr} {xs:List V} (e:H a=some (.lst xs)):Knd H (.ref a) .lst
 | tup {a:Addr} {xs:List V} (e:H a=some (.tup xs)):Knd H (.ref a) .tup
 | dic {a:Addr} {kvs:List (Key×V)} (e:H a=some (.dK kvs)):Knd H (.ref a) .dic
theorem Knd.ty{K:PySem.W.Frag}{H:Hp}{v:V}{k:Kn}(h:Knd H v k):TyOf K H v (.type k.nm):=by
 cases h with
 | non=>exact .non
 | bl b=>exact .bl b
 | int i=>exact .int i
 | str x=>exact .str x
 | lst e=>exact .lst e
 | tup e=>exact .tup e
 | dic e=>exact .dK e
def isaK:Kn→Kn→Bool
 | .non,.non=>true
 | .bl,.bl=>true
 | .bl,.int=>true
 | .int,.int=>true
 | .str,.str=>true
 | .lst,.lst=>true
 | .tup,.tup=>true
 | .dic,.dic=>true
 | _,_=>false
theorem kit_of(K:PySem.W.Frag)(k c:Kn):PySem.W.kitOne K (.type k.nm) (.type c.nm)=some (isaK k c):=by
 cases k<;>cases c<;>kernel_rfl
theorem call_isi{X:Cx}:gf X (.builtin "isinstance") (fun xs H Q=>∃ x k c,xs=[x,.ty (Kn.nm c)]∧Knd H x k∧Q (.bl (isaK k c)) H):=by
 intro pins s σ H xs us Q I r h
 obtain⟨x,k,c,rfl,kd,q⟩:=h
 obtain⟨u,w',rfl,r1,r2⟩:=vals2 r
 have e:w'=Value.type (Kn.nm c):=r2
 subst e
 exact isinst_ok I r1 kd.ty (kit_of X.K k c) fun tk=>⟨.bl (isaK k c),H,I.tok tk,rfl,q⟩
theorem pe_p9{X:Cx}{j1 j2:Nat}{p1 p2 pos:Pos}:PE X (.BinOp (.Constant (.int 10) j1 p1) .Pow (.Constant (.int 9) j2 p2) pos) (tC (.int 1000000000)) :=
 pe_imp (ah op_pow a8 a8) fun σ H Q q=>⟨10,9,rfl,rfl,⟨by decide,by decide,by decide⟩,by
  have e:((10:Int) ^ (9:Int).toNat)=1000000000:=by decide
  show Q (V.int _) H
  rw[e];exact q⟩
theorem f9{p:Prop}[Decidable p]{A B:Prop}(h:p)(a:A):if decide p=true then A else B:=by
 rw[if_pos (decide_eq_true h)];exact a
theorem dY{p:Prop}[Decidable p]{A B:Prop}(h:¬ p)(b:B):if decide p=true then A else B:=by
 rw[if_neg (by intro z;exact h (of_decide_eq_true z))];exact b
theorem gZ{c:Bool}{A B:Prop}(h:c=true)(a:A):if c=true then A else B:=by
 rw[if_pos h];exact a
theorem hV{c:Bool}{A B:Prop}(h:c=false)(b:B):if c=true then A else B:=by
 rw[if_neg (by rw[h];exact zaj)];exact b
theorem a7{H:Hp}{p:Addr}{o:HO}(h:H p=none):Same H (upd H p o):=fun b u e=>by
 rw[af (dI e h)];exact e
theorem sz{n:Nat}(h:n≤1000):n≤sizeLine:=Nat.le_of_lt (be h)
theorem szr{n:Nat}(h:Nat.ble n 1000=true):n≤sizeLine:=sz (Nat.le_of_ble_eq_true h)
theorem cut_mem{xs:List V}{lo hi:Option Int}{x:V}(h:x∈cutV xs lo hi):x∈xs:=by
 unfold cutV at h
 exact zcd (zby h)
structure Df(K:PySem.W.Frag)(mg:Str→Option Value)(x:Str)(st:Stmt)(f:Addr)(fd:FuncData):Prop where
 F:Fun K x x st f fd
 m:mg x=some (.ref f)
theorem cq{K:PySem.W.Frag}{mg:Str→Option Value}{h:Heap}(X:K.In h)(G:h.Ns mainGlobals mg){x:Str}{st:Stmt}{f:Addr}{oc:Value}{od an:Option Addr}{osl:Array (Option Value)}{kV doc pm cdv ct:Value}
  (a:PySem.W.nsIn K mainGlobals x=some (some (.ref f))) (l:K.lookup f=some ⟨oc,od,.func (PySem.W.fnOf x x (au st) (aq st) (ab st) .none kV doc pm an cdv ct),osl⟩)
  (c:PySem.W.codeIn K cdv x=true) (k:PySem.W.keepIn K (.ref f)=true):Df K mg x st f (PySem.W.fnOf x x (au st) (aq st) (ab st) .none kV doc pm an cdv ct) :=
 ⟨fun_mk l c k,PySem.W.mg_of X G a⟩
def clOf(env:Env):List (Str×NameKind)→List (Str×Addr)→List (Str×Addr)
 | [],acc=>acc
 | (n,k)::r,acc=>if (k==NameKind.free)=true then (match env.cells.lookup n with | some a=>clOf env r ((n,a)::acc) | none=>clOf env r acc) else clOf env r acc
theorem g8(env:Env):∀ (l:List (Str×NameKind)) (acc:List (Str×Addr)),(∀ p∈acc,env.cells.lookup p.1=some p.2)→∀ p∈clOf env l acc,env.cells.lookup p.1=some p.2
 | [],_,h=>h
 | (n,k)::r,acc,h=>by
  unfold clOf
  split
  ·split
   ·rename_i a e
    refine g8 env r _ fun p hp=>?_
    rcases zaa.mp hp with rfl | hp
    ·exact e
    ·exact h p hp
   ·exact g8 env r acc h
  ·exact g8 env r acc h
theorem j9(env:Env):∀ (l:List (Str×NameKind)) (acc:List (Str×Addr)) (x:Str),(∃ c,acc.lookup x=some c)→∃ c,(clOf env l acc).lookup x=some c
 | [],_,_,h=>h
 | (n,k)::r,acc,x,h=>by
  unfold clOf
  split
  ·split
   ·rename_i a e
    refine j9 env r _ x ?_
    rw[List.lookup_cons]
    cases q:x==n with
    | true=>exact⟨a,rfl⟩
    | false=>exact h
   ·exact j9 env r acc x h
  ·exact j9 env r acc x h
theorem g9(env:Env):∀ (l:List (Str×NameKind)) (acc:List (Str×Addr)) (x:Str),l.lookup x=some NameKind.free→(∃ c,env.cells.lookup x=some c)→∃ c,(clOf env l acc).lookup x=some c
 | [],_,_,h,_=>by simp at h
 | (n,k)::r,acc,x,h,hc=>by
  rw[List.lookup_cons]at h
  cases q:x==n with
  | true =>
   rw[q]at h
   have ek:k=NameKind.free:=Option.some.inj h
   have en:x=n:=eq_of_beq q
   subst ek en
   obtain⟨c,e⟩:=hc
   unfold clOf
   rw[if_pos (by decide:(NameKind.free==NameKind.free)=true),e]
   refine j9 env r _ x ⟨c,?_⟩
   rw[List.lookup_cons,q]
  | false =>
   rw[q]at h
   unfold clOf
   split
   ·split
    ·exact g9 env r _ x h hc
    ·exact g9 env r _ x h hc
   ·exact g9 env r _ x h hc
def lab(env:Env)(p:Str×NameKind):Str×NameKind:=if (p.2==NameKind.free&&env.scope.kind==.function&&env.kindOf p.1==some .cell) then (p.1,NameKind.cell) else (p.1,p.2)
theorem lab_eq(env:Env)(n:Str)(k:NameKind):lab env (n,k)=(n,if (k==NameKind.free&&env.scope.kind==.function&&env.kindOf n==some .cell) then NameKind.cell else k):=by
 unfold lab
 split<;>rfl
theorem fi(scope:Scope)(env:Env):(relabel scope env).names=scope.names.map (lab env):=rfl
theorem di(env:Env):∀ (l:List (Str×NameKind)) (x:Str),
  (l.map (lab env)).lookup x=(l.lookup x).map fun k=>if (k==NameKind.free&&env.scope.kind==.function&&env.kindOf x==some .cell) then NameKind.cell else k
 | [],_=>rfl
 | (n,k)::r,x=>by
  have ih:=di env r x
  rw[zay,lab_eq,List.lookup_cons,List.lookup_cons]
  cases q:x==n with
  | true =>
   have en:x=n:=eq_of_beq q
   subst en
   rfl
  | false=>exact ih
def bg(X:Cx)(N':List Str)(scope:Scope)(C:Addr)(s₀:Shared)(H₀:Hp)(fp:List Addr)(pn:List (Addr×Obj)):Cx where
 prog:=X.prog
 w:=X.w
 K:=X.K
 mg:=X.mg
 base:=X.base
 A:=X.A
 N:=N'
 s₀:=s₀
 H₀:=H₀
 env:=compEnvC scope (clOf X.env scope.names []) C X.env
 outer:=X.stack
 stack:=X.stack
 ex:=fp
 fn:=fun _=>false
 calm:=X.calm
 pn:=pn
 xe:=fun _ _=>False
def pick(idx:List (Option Nat))(σ:L2.St):L2.St:=idx.map fun o=>match o with | none=>none | some i=>(σ[i]?).getD none
structure CompOk(X:Cx)(scope:Scope)(N':List Str)(idx:List (Option Nat)):Prop where
 kind:scope.kind=.function
 cell:∀ y∈scope.names,y.2≠.cell
 names:∀ y∈scope.names,y.2=.local→scope.names.lookup y.1=some .local
 free:∀ y∈scope.names,y.2=.free→X.env.kindOf y.1=some .cell
 len:idx.length=N'.length
 idx:∀ p∈idx.zip N',∀ i,p.1=some i→X.N[i]?=some p.2∧X.env.kindOf p.2=some .cell∧scope.names.lookup p.2=some .free
def compB(osc scope:Scope)(ON N':List Str)(idx:List (Option Nat)):Bool :=
 (scope.kind==.function)&&scope.names.all (fun y=>y.2 !=.cell)&&scope.names.all (fun y=>y.2 !=.local||scope.names.lookup y.1==some .local) &&
  scope.names.all (fun y=>y.2 !=.free||osc.names.lookup y.1==some .cell)&&(idx.length==N'.length) &&
  (idx.zip N').all fun p=>match p.1 with | none=>true | some i=>(ON[i]?==some p.2)&&(osc.names.lookup p.2==some .cell)&&(scope.names.lookup p.2==some .free)
theorem eQ{X:Cx}{scope:Scope}{N':List Str}{idx:List (Option Nat)}(h:compB X.env.scope scope X.N N' idx=true):CompOk X scope N' idx:=by
 unfold compB at h
 simp only[zc7,List.all_eq_true]at h
 obtain⟨⟨⟨⟨⟨h1,h2⟩,h3⟩,h4⟩,h5⟩,h6⟩:=h
 refine⟨by simpa using h1,fun y hy=>by simpa using h2 y hy,fun y hy e=>?_,fun y hy e=>?_,by simpa using h5,fun p hp i e=>?_⟩
 ·have:=h3 y hy
  rw[e]at this
  simpa using this
 ·have:=h4 y hy
  rw[e]at this
  show X.env.scope.names.lookup y.1=some .cell
  simpa using this
 ·have:=h6 p hp
  rw[e]at this
  simp only[zc7]at this
  obtain⟨⟨g1,g2⟩,g3⟩:=this
  exact⟨by simpa using g1,by show X.env.scope.names.lookup p.2=some .cell;simpa using g2,by simpa using g3⟩
def CompW(J:It)(idx:List (Option Nat))(g:TG)(tt:TT)(te:TE)(σ:L2.St)(H1:Hp)(D:Addr)(Q:VK):Prop :=
 ∃ W:Nat→Nat→L2.St→Hp→Prop,(∃ m,W 0 m (pick idx σ) (upd H1 D (.lst [])))∧∀ i m σ2 H2,W i m σ2 H2 →
  (J.stop i H2∧Q (.ref D) H2) ∨
  (J.go i H2∧∀ x H3,J.yld i H2 x H3→g x σ2 H3 fun σ4 H4=>tt σ4 H4 fun b H5 =>
   if b=true then te σ4 H5 fun v H6=>∃ ys,H6 D=some (.lst ys)∧ys.length<sizeLine∧∃ m',m'<m∧W (i+1) m' σ4 (upd H6 D (.lst (ys++[v])))
   else ∃ m',m'<m∧W (i+1) m' σ4 H5)
def tComp(wi:TI)(idx:List (Option Nat))(g:TG)(tt:TT)(te:TE):TE:=fun σ H Q=>wi σ H fun J H1=>∀ D,H1 D=none→CompW J idx g tt te σ H1 D Q
def PTs(X:Cx)(ifs:List Expr)(t:TT):Prop :=
 ∀ (pins:List (Addr×Obj)) (s:Shared) (σ:L2.St) (H:Hp) (Q:Bool→Hp→Prop),Inv X pins σ H s→t σ H Q →
  wpAny (model X.prog X.w) X.A (forIn ifs true fun c r=>if r=true then do let ok ← isTrue c X.env (eval c X.env);pure (ForInStep.yield ok) else pure (ForInStep.yield r)) (TP X pins σ Q) X.xe s
def tYes:TT:=fun _ H Q=>Q true H
theorem pts_nil{X:Cx}:PTs X [] tYes:=fun pins s σ H Q I h=>wpAny_tests_nil ⟨H,I,h⟩
theorem pts_one{X:Cx}{c:Expr}{t:TT}(h:PT X c t):PTs X [c] t:=fun pins s σ H Q I hw=>wpAny_tests_one (h pins s σ H Q I hw)
theorem comp_loop{prog:Program}{w:World}{A:Around}{elt target iter:Expr}{ifs:List Expr}{scope:Scope}{pos:Pos}{it acc:Value}{env:Env}{R:Result→Shared→Prop}{s:Shared}(I:Nat→Shared→Prop)
  (turn:∀ n s,I n s→wpAny (model prog w) A (pyNext it) (fun r s₁=>match r with
   | none=>R (.ok .next) s₁
   | some v=>wpAny (model prog w) A (letOwnedTupleGo target it v) (fun _ s₀=>wpAny (model prog w) A (assign target env v) (fun _ s₂ =>
     wpAny (model prog w) A (forIn ifs true fun c r=>if r=true then do let ok ← isTrue c env (eval c env);pure (ForInStep.yield ok) else pure (ForInStep.yield r)) (fun ok s₃ =>
      if ok=true then wpAny (model prog w) A (eval elt env) (fun x s₄ =>
       wpAny (model prog w) A (call (.builtin "list.append") [acc,x]) (fun _ s₅=>∃ m,m<n∧I m s₅) (fun _ _=>False) s₄) (fun _ _=>False) s₃
      else ∃ m,m<n∧I m s₃) (fun _ _=>False) s₂) (fun _ _=>False) s₀) (fun _ _=>False) s₁) (fun _ _=>False) s)
  (n:Nat) (h:I n s):codeAny (model prog w) A (.compLoop (.ListComp elt [⟨target,iter,ifs,0⟩] scope pos) 0 it acc env) R s:=by
 refine codeAny_loop rfl I (fun n s hI=>?_) n h
 show wpAny _ A ((compTurn (.ListComp elt [⟨target,iter,ifs,0⟩] scope pos) 0 it acc env).onRaise (fun x=>do noteFrame x env;theTreesLotGoes x)) _ _ s
 refine wpAny_noted (wpAny_mono (E:=fun _ _=>False) ?_ (fun _ _ q=>q) fun _ _ z=>z.elim)
 rw[compTurn_list]
 refine wpAny_bind (wpAny_standAt (wpAny_bind (wpAny_mono (turn n s hI) (fun r s₁ h₁=>?_) fun _ _ h'=>h')))
 cases r with
 | none=>exact wpAny_pure h₁
 | some v =>
  refine wpAny_bind (wpAny_mono h₁ (fun _ s₀ h₀'=>?_) fun _ _ h'=>h')
  refine wpAny_bind (wpAny_mono h₀' (fun _ s₂ h₂=>?_) fun _ _ h'=>h')
  refine wpAny_bind (wpAny_mono h₂ (fun ok s₃ h₃=>?_) fun _ _ h'=>h')
  cases ok with
  | false=>exact wpAny_pure ⟨rfl,h₃⟩
  | true =>
   exact wpAny_bind (wpAny_bind (wpAny_mono h₃ (fun x s₄ h₄=>wpAny_bind (wpAny_mono h₄ (fun _ s₅ h₅=>wpAny_pure (wpAny_pure ⟨rfl,h₅⟩)) fun _ _ h'=>h')) fun _ _ h'=>h'))
section
variable{X:Cx}{elt tg iter:Expr}{ifs:List Expr}{scope:Scope}{pos:Pos}{N':List Str}{idx:List (Option Nat)}{wi:TI}{g:TG}{tt:TT}{te:TE}
theorem comp_ok{pins:List (Addr×Obj)}{σ:L2.St}{H:Hp}{s:Shared}{C:Addr}{fp:List Addr}(S:CompOk X scope N' idx)(I:Inv X pins σ H s)(hC:s.heap.objs.size≤C)(hf:∀ b∈fp,FpOk X pins H b)(hlt:∀ b∈fp,b<s.heap.objs.size)(pn:List (Addr×Obj)) :
  (bg X N' scope C s H fp pn).Ok:=by
 have sub:∀ x c,(clOf X.env scope.names []).lookup x=some c→X.env.cells.lookup x=some c:=fun x c e=>g8 X.env scope.names [] (fun p hp=>(nomatch hp)) (x,c) (PySem.mem_of_lookup e)
 have cne:∀ x c,(clOf X.env scope.names []).lookup x=some c→c<s.heap.objs.size:=fun x c e=>by
  obtain⟨v,q⟩:=I.cell x c (sub x c e)
  exact q.lt
 refine⟨I.ok.mod,S.kind,I.ok.glob,I.ok.blt,hC,fun x y c h1 h2=>I.ok.inj x y c (sub _ _ h1) (sub _ _ h2),fun x hx=>?_,fun x c h _=>absurd h zaj,I.ok.hd,I.ok.frames,.inl rfl,fun b hb=>⟨?_,fun x c e z=>?_⟩,I.bs,zb1 I.ok.bsz I.sz,fun b o e hb=>?_,fun b hb z=>?_,I.stack,I.stkFree⟩
 ·have hx':((relabel scope X.env).names.lookup x=some .cell)∨((relabel scope X.env).names.lookup x=some .free):=hx
  rw[fi,di]at hx'
  have hfr:scope.names.lookup x=some .free:=by
   cases q:scope.names.lookup x with
   | none=>rw[q]at hx';rcases hx' with z | z<;>cases z
   | some k =>
    rw[q]at hx'
    simp only[Option.map_some,Option.some.injEq]at hx'
    cases k with
    | free=>rfl
    | cell=>exact absurd rfl (S.cell _ (PySem.mem_of_lookup q))
    | _=>exfalso;rcases hx' with z | z<;>simp at z
  exact g9 X.env scope.names [] x hfr (I.ok.has x (.inl (S.free _ (PySem.mem_of_lookup hfr) rfl)))
 ·exact zap (zax (hlt b hb) hC)
 ·exact(hf b hb).2.2.2.2.1 x c (sub x c e) z
 ·rcases(hf b hb).2.2.2.1 with z | z
  ·exact I.ok.noex b o e z
  ·exact absurd (zax (Heap.lt_size (I.ok.bs b o e).1) z) (zbv _)
 ·rcases zaa.mp (I.stkSub b z) with e | e
  ·exact(hf b hb).2.1 e
  ·exact(hf b hb).2.2.1 e
theorem pe_comp(S:CompOk X scope N' idx)(hclos:closureFor scope X.env=pure (clOf X.env scope.names []))(hc:X.calm=true)(hi:PI X tg iter wi)
  (hg:∀ C s₀ H₀ fp pn,PG (bg X N' scope C s₀ H₀ fp pn) tg g) (ht:∀ C s₀ H₀ fp pn,PTs (bg X N' scope C s₀ H₀ fp pn) ifs tt) (he:∀ C s₀ H₀ fp pn,PE (bg X N' scope C s₀ H₀ fp pn) elt te)
  (hs:∀ x,foldedSetIterable iter X.env x=pure x:=by intro _;rfl):PE X (.ListComp elt [⟨tg,iter,ifs,0⟩] scope pos) (tComp wi idx g tt te):=by
 intro pins s σ H Q I h
 rw[eval_ListComp]
 refine wpAny_comprehension_free (use:=none) rfl hs hclos S.kind S.names (thn (hi pins s σ H _ I h) fun xv s₁ h₁=>thn h₁ fun itv s₂ h₂=>?_)
 obtain⟨it,fp,tn,J,H2,e,I2,T,st2,f2,hJ⟩:=h₂
 subst e
 obtain⟨W,⟨m0,w0⟩,turn⟩:=hJ s₂.heap.objs.size (I2.hok.fresh (za4 _))
 have hlt:∀ b∈fp,b<s₂.heap.objs.size:=fun b hb=>by
  obtain⟨o,e,_⟩:=T.obj _ _ st2 b hb
  exact Heap.lt_size e
 refine wpAny_newObj_type (wpAny_newFunctionEnv S.cell (by intro y hy;simp at hy) (fun h₁ hns₁ hsb₁=>?_) S.kind)
 dsimp only at hns₁ hsb₁ ⊢
 generalize hH2:s₂.heap.push { cls:=.type "list",dict:=none,data:=.seq ([]:List Value).toArray }=P2 at hns₁ hsb₁ ⊢
 have hC:P2.objs.size=s₂.heap.objs.size+1:=by rw[← hH2,Heap.size_push]
 have neC:∀ b:Addr,b<s₂.heap.objs.size→b≠P2.objs.size:=fun b hb=>zap (by rw[hC];exact zbt hb)
 have neD:s₂.heap.objs.size≠P2.objs.size:=zap (by rw[hC];exact zbe _)
 have old:∀ b o,s₂.heap.get? b=some o→h₁.get? b=some o:=fun b o e =>
  hsb₁.extBut b o (neC b (Heap.lt_size e)) (Heap.get?_push_of_some _ (hH2▸Heap.get?_push_of_some _ e))
 have hacc:h₁.get? s₂.heap.objs.size=some { cls:=.type "list",data:=.seq ([]:List Value).toArray } :=
  hsb₁.extBut _ _ neD (Heap.get?_push_of_some _ (hH2▸Heap.get?_push_size _ rfl))
 have nD:H2 s₂.heap.objs.size=none:=I2.hok.fresh (za4 _)
 have nC:H2 P2.objs.size=none:=I2.hok.fresh (by omega)
 have ok:=comp_ok (C:=P2.objs.size) S I2 (by omega) f2 hlt (X.pn++pins)
 have pinlt:∀ p∈X.pn++pins,p.1<s₂.heap.objs.size:=fun p hp=>Heap.lt_size (I2.pin p hp).1
 have sub:∀ x c,(clOf X.env scope.names []).lookup x=some c→X.env.cells.lookup x=some c:=fun x c e=>g8 X.env scope.names [] (fun p hp=>(nomatch hp)) (x,c) (PySem.mem_of_lookup e)
 have I3:Inv (bg X N' scope P2.objs.size s₂ H2 fp (X.pn++pins)) [] (pick idx σ) (upd H2 s₂.heap.objs.size (.lst [])) { s₂ with heap:=h₁,toks:=s₂.toks+([]:List (Str×Value)).length }:=by
  refine⟨ok,rfl,I2.bare,?_,⟨_,hns₁,fun j x v h1 h2 h3=>?_⟩,fun x c e=>?_,?_,fun x c e=>?_,fun p hp=>?_,?_,?_⟩
  ·exact Un.laid old (za4 _) nD
  ·have hj:j<idx.length:=by
    have:=(za3.mp h2).1
    unfold pick at this
    rwa [za0]at this
   unfold pick at h2
   rw[zao,za2 hj]at h2
   have h2':=Option.some.inj h2
   cases q:idx[j] with
   | none=>rw[q]at h2';cases h2'
   | some i =>
    have h2':(σ[i]?).getD none=some v:=by rw[q]at h2';exact h2'
    have hmem:(idx[j],x)∈idx.zip N':=by
     refine zaw.mpr ⟨j,?_⟩
     rw[zbq]
     exact⟨za2 hj,h1⟩
    obtain⟨z1,z2,z3⟩:=S.idx _ hmem i q
    have hσ:σ[i]?=some (some v):=by
     cases r:σ[i]? with
     | none=>rw[r]at h2';cases h2'
     | some y=>rw[r]at h2';rw[show y=some v from h2']
    obtain⟨m,hn,hl⟩:=I2.loc
    obtain⟨u,ru,lk⟩:=hl i x v z1 hσ (.inr (.inl z2))
    refine⟨u,ru,.inr ⟨.inl ?_,?_⟩⟩
    ·show(relabel scope X.env).names.lookup x=some .cell
     rw[fi,di,z3,I2.ok.kind]
     simp[z2]
    ·obtain⟨c,hcl⟩:=g9 X.env scope.names [] x z3 (I2.ok.has x (.inl z2))
     rcases lk with ⟨k1,_⟩ | ⟨_,c',e1,e2⟩
     ·rw[z2]at k1;cases k1
     ·refine⟨c,hcl,?_⟩
      have e3:=sub x c hcl
      rw[e1]at e3
      cases e3
      obtain⟨o,ho,hd⟩:=e2
      exact⟨o,old _ _ ho,hd⟩
  ·obtain⟨v,o,ho,hd⟩:=I2.cell x c (sub x c e)
   exact⟨v,o,old _ _ ho,hd⟩
  ·show upd H2 _ _ P2.objs.size=none
   rw[af (Ne.symm neD)];exact nC
  ·obtain⟨v,q⟩:=I2.cell x c (sub x c e)
   rw[af (zap q.lt)]
   exact I2.freeC x c (sub x c e)
  ·rw[zau]at hp
   obtain⟨e,n,ne,nf,d⟩:=I2.pin p hp
   refine⟨old _ _ e,?_,?_,fun z=>?_,d⟩
   ·rw[af (zap (pinlt p hp))];exact n
   ·exact neC _ (pinlt p hp)
   ·rcases zaa.mp (I2.stkSub _ z) with z | z
    ·exact ne z
    ·exact nf z
  ·exact I2.hok.laid old (za4 _) ⟨zba _,[],0,.nil,hacc⟩
  ·show(pick idx σ).length=N'.length
   unfold pick
   rw[za0]
   exact S.len
 have stat:∀ {pl:List (Addr×Obj)} {H':Hp},(∀ b∈fp,H' b=none)→(∀ p∈pl,p.1∉fp)→∀ b∈fp,FpOk (bg X N' scope P2.objs.size s₂ H2 fp (X.pn++pins)) pl H' b:=fun {pl H'} hn hp b hb=>by
  refine⟨hn b hb,(ok.exf b hb).1,ok.exfs b hb,.inl hb,(ok.exf b hb).2,fun p hpp z=>?_⟩
  rcases za9.mp hpp with h1 | h1
  ·exact(f2 b hb).2.2.2.2.2 p h1 z
  ·exact hp p h1 (z▸hb)
 have loop:codeAny (model X.prog X.w) X.A (.compLoop (.ListComp elt [⟨tg,iter,ifs,0⟩] scope pos) 0 (.ref it) (.ref s₂.heap.objs.size) (compEnvC scope (clOf X.env scope.names []) P2.objs.size X.env))
   (compPost (model X.prog X.w) X.A X.xe none (EP X pins σ Q) (.ref s₂.heap.objs.size) P2.objs.size) { s₂ with heap:=h₁,toks:=s₂.toks+([]:List (Str×Value)).length }:=by
  refine comp_loop (fun n s'=>∃ i σ' H',Inv (bg X N' scope P2.objs.size s₂ H2 fp (X.pn++pins)) [] σ' H' s'∧tn i s'.heap∧(∀ b∈fp,H' b=none)∧W i n σ' H') ?_ m0
   ⟨0,_,_,I3,T.keep _ _ _ st2 fun b _ o e=>old b o e,fun b hb=>by rw[af (zap (hlt b hb))];exact(f2 b hb).1,w0⟩
  rintro n s3 ⟨i,σ3,H3,J3,st3,fr3,w3⟩
  rcases turn i n σ3 H3 w3 with ⟨stop,q⟩ | ⟨go,step⟩
  ·refine wpAny_mono (T.done (bg X N' scope P2.objs.size s₂ H2 fp (X.pn++pins)) rfl rfl rfl hc i [] s3 σ3 H3 (fun _ _=>False) J3 (stat fr3 (fun _ z=>nomatch z)) st3 stop) (fun r s4 hr=>?_) fun _ _ z=>z
   obtain⟨rfl,J4⟩:=hr
   obtain⟨m,hn,_⟩:=J4.loc
   refine⟨m,hn,fun h' hs'=>?_⟩
   have fC:H3 P2.objs.size=none:=J4.free
   have up:∀ b o,b≠P2.objs.size→s4.heap.get? b=some o→h'.get? b=some o:=fun b o hb e=>hs'.extBut b o hb e
   have un:Un (frs X.stack) fp H2 H3 s₂.heap h':=by
    have u:=J4.base
    refine⟨fun b o e n1 h1 h2=>?_,fun b o e n1 h1 h2=>?_,u.free,fun b o e h2=>?_,u.tups,u.frzs,u.tbls⟩
    ·exact up b o (neC b (Heap.lt_size e)) (u.keep b o e n1 h1 h2)
    ·obtain⟨sl,e1⟩:=u.slot b o e n1 h1 h2
     exact⟨sl,up b _ (neC b (Heap.lt_size e)) e1⟩
    ·obtain⟨o',e1⟩:=u.there b o e h2
     exact⟨o',up b _ (neC b (Heap.lt_size e)) e1⟩
   have hok:HOk X.prog X.w H3 h':=fun b o e=>(J4.hok b o e).stay (fun c v hcc e1=>up c v (fun z=>by
    subst z
    rcases hcc with z | z
    ·subst z;rw[fC]at e;cases e
    ·rw[fC]at z;cases z) e1) (fun _ z=>z) fun _ _ z=>z
   refine⟨.ref s₂.heap.objs.size,H3,?_,rfl,q⟩
   refine I2.call' (s':={ s4 with heap:=h' }) (ch:=fp) ?_ un hok J4.bare fun b hb=>?_
   ·exact J4.os
   ·obtain⟨f0,f1,f2',f3,f4,f5⟩:=f2 b hb
    exact⟨f3,f1,f4,f5⟩
  ·refine wpAny_mono (T.item (bg X N' scope P2.objs.size s₂ H2 fp (X.pn++pins)) rfl rfl rfl hc i [] s3 σ3 H3 (fun _ _=>False) J3 (stat fr3 (fun _ z=>nomatch z)) st3 go) (fun r s4 hr=>?_) fun _ _ z=>z
   obtain⟨u,rfl,h4⟩:=hr
   refine wpAny_mono h4 (fun _ s5 h5=>?_) fun _ _ z=>z
   obtain⟨x,H5,J5,r5,y5,st5,fr5⟩:=h5
   have J5':=J5.pinned (stat fr5 (fun _ z=>nomatch z)) (T.obj _ _ st5)
   refine wpAny_mono (hg _ _ _ _ _ _ s5 σ3 H5 x u _ J5' r5 (step x H5 y5)) (fun _ s6 h6=>?_) fun _ _ z=>z
   obtain⟨σ6,H6,J6,q6⟩:=h6
   have again:∀ {s9:Shared} {σ9:L2.St} {H9:Hp},Inv (bg X N' scope P2.objs.size s₂ H2 fp (X.pn++pins)) ([]++jr fp s5.heap) σ9 H9 s9→(∃ m',m'<n∧W (i+1) m' σ9 H9) →
     ∃ m,m<n∧∃ i σ' H',Inv (bg X N' scope P2.objs.size s₂ H2 fp (X.pn++pins)) [] σ' H' s9∧tn i s9.heap∧(∀ b∈fp,H' b=none)∧W i m σ' H':=fun {s9 σ9 H9} J9 hw=>by
    obtain⟨m',hm,w9⟩:=hw
    refine⟨m',hm,i+1,σ9,H9,J9.unpinned,T.keep _ _ _ st5 fun b hb o e=>(J9.pin (b,o) (za5 _ (za5 _ (dJ hb e)))).1,fun b hb=>?_,w9⟩
    obtain⟨o,e,d⟩:=T.obj _ _ st5 b hb
    exact(J9.pin (b,o) (za5 _ (za5 _ (dJ hb e)))).2.1
   refine wpAny_mono (ht _ _ _ _ _ _ s6 σ6 H6 _ J6 q6) (fun ok' s7 h7=>?_) fun _ _ z=>z
   obtain⟨H7,J7,q7⟩:=h7
   cases ok' with
   | false=>exact again J7 q7
   | true =>
    refine wpAny_mono (he _ _ _ _ _ _ s7 σ6 H7 _ J7 q7) (fun xv2 s8 h8=>?_) fun _ _ z=>z
    obtain⟨v,H8,J8,r8,ys,hD,hz,hw⟩:=h8
    refine wpAny_mono (bD (X:=bg X N' scope P2.objs.size s₂ H2 fp (X.pn++pins)) _ s8 σ6 H8 (.ref s₂.heap.objs.size) [v] (.ref s₂.heap.objs.size) [xv2] (fun _ H9=>∃ m',m'<n∧W (i+1) m' σ6 H9) J8 rfl (.cons r8 .nil) ⟨_,ys,v,rfl,rfl,hD,hz,hw⟩) (fun _ s9 h9=>?_) fun _ _ z=>z
    obtain⟨_,H9,J9,_,q9⟩:=h9
    exact again J9 q9
 exact codeAny_compStart_list loop (T.self X.A 0 _ _ _ (T.keep _ _ _ st2 fun b _ o e=>old b o e) loop)
end
theorem comp_n{J:It}{n:Nat}{idx:List (Option Nat)}{g:TG}{tt:TT}{te:TE}{σ:L2.St}{H1:Hp}{D:Addr}{Q:VK}(Pv:Nat→L2.St→Hp→Prop)
  (h0:Pv 0 (pick idx σ) (upd H1 D (.lst []))) (hgo:∀ i σ2 H2,i<n→Pv i σ2 H2→J.go i H2) (hstop:∀ σ2 H2,Pv n σ2 H2→J.stop n H2∧Q (.ref D) H2)
  (hs:∀ i σ2 H2,i<n→Pv i σ2 H2→∀ x H3,J.yld i H2 x H3→g x σ2 H3 fun σ4 H4=>tt σ4 H4 fun b H5 =>
   if b=true then te σ4 H5 fun v H6=>∃ ys,H6 D=some (.lst ys)∧ys.length<sizeLine∧Pv (i+1) σ4 (upd H6 D (.lst (ys++[v]))) else Pv (i+1) σ4 H5) :
  CompW J idx g tt te σ H1 D Q:=by
 refine⟨fun i m σ H=>m=n-i∧i≤n∧Pv i σ H,⟨n,by simp,zba _,h0⟩,?_⟩
 rintro i m σ2 H2 ⟨rfl,hi,p⟩
 by_cases hlt:i<n
 ·refine .inr ⟨hgo i σ2 H2 hlt p,fun x H3 y=>?_⟩
  have key:∀ (σ':L2.St) (H':Hp),(∃ m',m'<n-i∧m'=n-(i+1)∧i+1≤n∧Pv (i+1) σ' H')=Pv (i+1) σ' H':=fun σ' H' =>
   propext ⟨fun⟨_,_,_,_,q⟩=>q,fun q=>⟨n-(i+1),by omega,rfl,hlt,q⟩⟩
  simp only[key]
  exact hs i σ2 H2 hlt p x H3 y
 ·have e:i=n:=by omega
  subst e
  exact .inl (hstop σ2 H2 p)
theorem atI_of{α:Type}{xs:List α}{m:Int}(h0:0≤m)(h1:m<xs.length):∃ c,atI xs m=some c∧c∈xs:=by
 obtain⟨j,rfl⟩:=Int.eq_ofNat_of_zero_le h0
 have hj:j<xs.length:=by omega
 exact⟨xs[j],jc (za2 hj),zc8 hj⟩
theorem cmulR{i j:Int}(h1:-(2 ^ 64)<j)(h2:j<2 ^ 64):CMul i j:=Or.inr ⟨h1,h2⟩
section
variable{rest:List Expr}{env:Env}
theorem iN{x p}:starEach (.Name x p::rest) env=(false,eval (.Name x p) env)::starEach rest env:=rfl
theorem se_const{c k p}:starEach (.Constant c k p::rest) env=(false,eval (.Constant c k p) env)::starEach rest env:=rfl
theorem se_sub{a b p}:starEach (.Subscript a b p::rest) env=(false,eval (.Subscript a b p) env)::starEach rest env:=rfl
theorem gU{f a k p}:starEach (.Call f a k p::rest) env=(false,eval (.Call f a k p) env)::starEach rest env:=rfl
theorem jn{a o b p}:starEach (.BinOp a o b p::rest) env=(false,eval (.BinOp a o b p) env)::starEach rest env:=rfl
theorem se_tup{l k p}:starEach (.Tuple l k p::rest) env=(false,eval (.Tuple l k p) env)::starEach rest env:=rfl
theorem iO{l p}:starEach (.List l p::rest) env=(false,eval (.List l p) env)::starEach rest env:=rfl
theorem iP{e g s p}:starEach (.ListComp e g s p::rest) env=(false,eval (.ListComp e g s p) env)::starEach rest env:=rfl
theorem se_cmp{a o b p}:starEach (.Compare a o b p::rest) env=(false,eval (.Compare a o b p) env)::starEach rest env:=rfl
theorem se_un{o a p}:starEach (.UnaryOp o a p::rest) env=(false,eval (.UnaryOp o a p) env)::starEach rest env:=rfl
end
section
variable{X:Cx}{e:Expr}{es:List Expr}{te:TE}{t:TA}{pos:Pos}
theorem pac(ha:PE X e te)(hr:PA X es t)(hs:starEach (e::es) X.env=(false,eval e X.env)::starEach es X.env:=by
  first | exact iN | exact se_const | exact se_sub | exact gU | exact jn | exact se_tup | exact iO | exact se_dict | exact iP | exact se_attr | exact se_cmp | exact se_bool | exact se_un | exact se_if) :
  PA X (e::es) (gD te t):=pa_cons ha hr hs
variable{CX:CXT}{k:Nat}{f:Addr}{fd:FuncData}{ps:List Str}{sp:Sp}{dvs:List V}{ds:List Value}{E:XK}{x:Str}{p:Pos}
theorem pec(F:FnOk X.prog X.w X.K X.mg X.base CX k f fd ps sp)(hr:Room k X.A)(hg:Gl X x)(hm:X.mg x=some (.ref f))(hk:PySem.W.keepIn X.K (.ref f)=true)(hb:bh X.K fd ps ds)(hd:Vals dvs ds)(hx:Passes CX X E)
  (ha:PA X (e::es) t) (hdb:(x==("__debug__":Str))=false:=by decide)
  (he:starEach (e::es) X.env=(false,eval e X.env)::starEach es X.env:=by
   first | exact iN | exact se_const | exact se_sub | exact gU | exact jn | exact se_tup | exact iO | exact se_dict | exact iP | exact se_attr | exact se_cmp | exact se_bool | exact se_un | exact se_if)
  (hpl:(backTo pos (starEach es X.env)).any (·.1)=false:=by rfl):PE X (.Call (.Name x p) (e::es) [] pos) (tCall sp dvs E t):=pe_call F hr hg hm hk hb hd hx ha hdb he hpl
end
end BF
namespace BF
open PySem PySem.Spec PyProof.Rows L2 PySem.SeqAt
inductive Dt where
 | int (i:Int)
 | str (x:Str)
 | tup (l:List Dt)
mutual
def Dt.beq:Dt→Dt→Bool
 | .int i,.int j=>i==j
 | .str x,.str y=>x==y
 | .tup l,.tup m=>Dt.beqs l m
 | _,_=>false
def Dt.beqs:List Dt→List Dt→Bool
 | [],[]=>true
 | a::l,b::m=>Dt.beq a b&&Dt.beqs l m
 | _,_=>false
end
mutual
theorem Dt.beq_iff:∀ a b:Dt,Dt.beq a b=true↔a=b
 | .int i,.int j=>by simp[Dt.beq]
 | .str x,.str y=>by simp[Dt.beq]
 | .tup l,.tup m=>by simp[Dt.beq,Dt.beqs_iff l m]
 | .int i,.str y=>by simp[Dt.beq]
 | .int i,.tup m=>by simp[Dt.beq]
 | .str x,.int j=>by simp[Dt.beq]
 | .str x,.tup m=>by simp[Dt.beq]
 | .tup l,.int j=>by simp[Dt.beq]
 | .tup l,.str y=>by simp[Dt.beq]
theorem Dt.beqs_iff:∀ l m:List Dt,Dt.beqs l m=true↔l=m
 | [],[]=>by simp[Dt.beqs]
 | a::l,b::m=>by simp[Dt.beqs,Dt.beq_iff a b,Dt.beqs_iff l m]
 | [],b::m=>by simp[Dt.beqs]
 | a::l,[]=>by simp[Dt.beqs]
end
theorem Dt.beq_self(a:Dt):Dt.beq a a=true:=(Dt.beq_iff a a).mpr rfl
mutual
def Dt.dp:Dt→Nat
 | .int _=>0
 | .str _=>0
 | .tup l=>Dt.dps l+1
def Dt.dps:List Dt→Nat
 | []=>0
 | a::l=>max (Dt.dp a) (Dt.dps l)
end
mutual
inductive DtIs(H:Hp):V→Dt→Prop where
 | int (i:Int):DtIs H (.int i) (.int i)
 | str (x:Str):DtIs H (.str x) (.str x)
 | tup {a:Addr} {xs:List V} {ds:List Dt} (e:H a=some (.tup xs)) (h:ac H xs ds):DtIs H (.ref a) (.tup ds)
inductive ac(H:Hp):List V→List Dt→Prop where
 | nil:ac H [] []
 | cons {v:V} {d:Dt} {vs:List V} {ds:List Dt} (h:DtIs H v d) (t:ac H vs ds):ac H (v::vs) (d::ds)
end
mutual
theorem DtIs.inj{H:Hp}:∀ {d:Dt} {v:V} {d':Dt},DtIs H v d→DtIs H v d'→d=d'
 | .int i=>by
  intro g h
  cases g
  cases h
  rfl
 | .str x=>by
  intro g h
  cases g
  cases h
  rfl
 | .tup ds=>by
  intro g h
  cases g with
  | tup e q =>
  cases h with
  | tup e2 q2 =>
   rw[e]at e2
   cases e2
   rw[ac.inj q q2]
theorem ac.inj{H:Hp}:∀ {ds:List Dt} {vs:List V} {ds':List Dt},ac H vs ds→ac H vs ds'→ds=ds'
 | []=>by
  intro g h
  cases g
  cases h
  rfl
 | d::ds=>by
  intro g h
  cases g with
  | cons q t =>
  cases h with
  | cons q2 t2=>rw[DtIs.inj q q2,ac.inj t t2]
end
mutual
theorem DtIs.same{H H':Hp}(S:Same H H'):∀ {d:Dt} {v:V},DtIs H v d→DtIs H' v d
 | .int i=>by intro g;cases g;exact .int i
 | .str x=>by intro g;cases g;exact .str x
 | .tup ds=>by
  intro g
  cases g with
  | tup e q=>exact .tup (S _ _ e) (ac.same S q)
theorem ac.same{H H':Hp}(S:Same H H'):∀ {ds:List Dt} {vs:List V},ac H vs ds→ac H' vs ds
 | []=>by intro g;cases g;exact .nil
 | d::ds=>by
  intro g
  cases g with
  | cons q t=>exact .cons (DtIs.same S q) (ac.same S t)
end
theorem ac.length{H:Hp}:∀ {ds:List Dt} {vs:List V},ac H vs ds→vs.length=ds.length
 | []=>by intro g;cases g;exact rfl
 | d::ds=>by
  intro g
  cases g with
  | cons q t=>exact by rw[zah,zah,ac.length t]
def itEq(ds ds':List Dt)(j:Nat):Bool:=match ds[j]?,ds'[j]? with
 | some a,some b=>Dt.beq a b
 | _,_=>true
theorem eY:∀ ds ds':List Dt,((List.range (min ds.length ds'.length)).all (itEq ds ds')&&ds.length==ds'.length)=Dt.beqs ds ds'
 | [],[]=>rfl
 | [],b::m=>by simp[Dt.beqs]
 | a::l,[]=>by simp[Dt.beqs]
 | a::l,b::m=>by
  have ih:=eY l m
  rw[zah,zah,Nat.succ_min_succ,List.range_succ_eq_map,List.all_cons,List.all_map]
  have e0:itEq (a::l) (b::m) 0=Dt.beq a b:=rfl
  have e1:(itEq (a::l) (b::m) ∘ Nat.succ)=itEq l m:=by
   funext j
   simp[itEq]
  rw[e0,e1]
  show _=(Dt.beq a b&&Dt.beqs l m)
  rw[← ih,Bool.and_assoc]
  simp
section
variable{X:Cx}{pins:List (Addr×Obj)}{σ:L2.St}{H:Hp}{s:Shared}
theorem dp_at:∀ {ds:List Dt} {j:Nat} {d:Dt},ds[j]?=some d→d.dp≤Dt.dps ds
 | [],j,d,e=>by simp at e
 | a::l,0,d,e=>by
  have e':=Option.some.inj e
  subst e'
  simp only[Dt.dps]
  omega
 | a::l,j+1,d,e=>by
  have:=dp_at (ds:=l) (j:=j) (d:=d) (by simpa using e)
  simp only[Dt.dps]
  omega
theorem rel_at:∀ {ds:List Dt} {vs:List V} {us:List Value},ac H vs ds→Vals vs us→∀ {j:Nat} {u:Value},us[j]?=some u→∃ v d,ds[j]?=some d∧DtIs H v d∧RelV v u
 | []=>by
  intro g r j u e
  cases g
  cases r
  simp at e
 | d::ds=>by
  intro g r j u e
  cases g with
  | cons h t =>
  cases r with
  | cons r rs =>
  cases j with
  | zero =>
   have e':=Option.some.inj e
   subst e'
   exact⟨_,_,rfl,h,r⟩
  | succ j =>
   obtain⟨v,d,a,b,c⟩:=rel_at t rs (j:=j) (u:=u) (by simpa using e)
   exact⟨v,d,by simpa using a,b,c⟩
theorem eqAt_n(I:Inv X pins σ H s)(n:Nat):∀ {d d':Dt} {v v':V} {u u':Value} (A:Around),d.dp≤n→DtIs H v d→RelV v u→DtIs H v' d'→RelV v' u'→A.units+n<cLine→EqAt A s u u' (Dt.beq d d'):=by
 induction n with
 | zero =>
  intro d d' v v' u u' A hn h r h' r' hu
  cases h with
  | int i =>
   obtain⟨t,rfl⟩:=r
   cases h' with
   | int j=>obtain⟨t',rfl⟩:=r';exact EqAt.int_int i t j t'
   | str y=>obtain⟨t',rfl⟩:=r';exact EqAt.int_str i t y t'
   | tup e q=>cases r';obtain⟨its,_,p,_⟩:=I.tuple (SqT.of e);exact EqAt.int_tuple i t p hu
  | str x =>
   obtain⟨t,rfl⟩:=r
   cases h' with
   | int j=>obtain⟨t',rfl⟩:=r';exact EqAt.str_int x t j t'
   | str y=>obtain⟨t',rfl⟩:=r';exact EqAt.str_str x t y t'
   | tup e q=>cases r';obtain⟨its,_,p,_⟩:=I.tuple (SqT.of e);exact EqAt.str_tuple x t p hu
  | tup e q=>simp only[Dt.dp]at hn;omega
 | succ n ih =>
  intro d d' v v' u u' A hn h r h' r' hu
  by_cases h0:d.dp≤n
  ·exact ih A h0 h r h' r' (by omega)
  cases h with
  | int i=>simp only[Dt.dp]at h0;omega
  | str x=>simp only[Dt.dp]at h0;omega
  | @tup a xs l e q =>
   cases r
   cases h' with
   | int j=>obtain⟨t',rfl⟩:=r';obtain⟨its,_,p,_⟩:=I.tuple (SqT.of e);exact EqAt.tuple_int j t' p (by omega)
   | str y=>obtain⟨t',rfl⟩:=r';obtain⟨its,_,p,_⟩:=I.tuple (SqT.of e);exact EqAt.tuple_str y t' p (by omega)
   | @tup b ys m e' q' =>
    cases r'
    by_cases hab:a=b
    ·subst hab
     have z:=DtIs.inj (DtIs.tup e q) (DtIs.tup e' q')
     rw[z,Dt.beq_self]
     exact EqAt.same _
    ·obtain⟨its,rv,p,_⟩:=I.tuple (SqT.of e)
     obtain⟨its',rv',p',_⟩:=I.tuple (SqT.of e')
     have n1:its.toArray.size=l.length:=by rw[zag,← rv.length,q.length]
     have n2:its'.toArray.size=m.length:=by rw[zag,← rv'.length,q'.length]
     simp only[Dt.dp]at hn
     have R:=RcAt.tuples (A:=A) (s:=s) (e:=itEq l m) p p' (by omega) (fun j h1 h2=>by
      obtain⟨v1,d1,a1,b1,c1⟩:=rel_at q rv (j:=j) (u:=its.toArray[j]) (by simp)
      obtain⟨v2,d2,a2,b2,c2⟩:=rel_at q' rv' (j:=j) (u:=its'.toArray[j]) (by simp)
      have z:itEq l m j=Dt.beq d1 d2:=by unfold itEq;rw[a1,a2]
      rw[z]
      exact ih A.in1 (by have:=dp_at a1;omega) b1 c1 b2 c2 (by show A.units+1+_<_;omega))
     rw[n1,n2,eY]at R
     exact EqAt.of_refs hab R
theorem eqAt_D(I:Inv X pins σ H s){d d':Dt}{v v':V}{u u':Value}(A:Around)(h:DtIs H v d)(r:RelV v u)(h':DtIs H v' d')(r':RelV v' u')(hu:A.units+d.dp<cLine):EqAt A s u u' (Dt.beq d d'):=eqAt_n I _ A (za4 _) h r h' r' hu
theorem eqsAt_D(I:Inv X pins σ H s){ds ds':List Dt}{vs vs':List V}{us us':List Value}(A:Around)(q:ac H vs ds)(rv:Vals vs us)(q':ac H vs' ds')(rv':Vals vs' us')(hu:A.units+Dt.dps ds<cLine)
  (j:Nat) (u u':Value) (e:us[j]?=some u) (e':us'[j]?=some u'):EqAt A s u u' (itEq ds ds' j):=by
 obtain⟨v1,d1,a1,b1,c1⟩:=rel_at q rv e
 obtain⟨v2,d2,a2,b2,c2⟩:=rel_at q' rv' e'
 have z:itEq ds ds' j=Dt.beq d1 d2:=by unfold itEq;rw[a1,a2]
 rw[z]
 exact eqAt_n I _ A (dp_at a1) b1 c1 b2 c2 hu
theorem op_eqD{k:Nat}(hr:Room k X.A):OpR X (compareOp .Eq) (fun x y H Q=>∃ d d',DtIs H x d∧DtIs H y d'∧d.dp≤60∧(∃ l,d=.tup l)∧(∃ l,d'=.tup l)∧Q (.bl (Dt.beq d d')) H):=by
 intro pins s σ H x y v u Q I rx ry h
 obtain⟨d,d',hd,hd',h60,⟨l,rfl⟩,⟨m,rfl⟩,q⟩:=h
 have hu:=hr.units
 cases hd with
 | @tup a xs _ e h1 =>
  cases hd' with
  | @tup b ys _ e' h2 =>
   cases rx
   cases ry
   obtain⟨its,rv,p,_⟩:=I.tuple (SqT.of e)
   obtain⟨its',rv',p',_⟩:=I.tuple (SqT.of e')
   have n1:its.toArray.size=l.length:=by rw[zag,← rv.length,h1.length]
   have n2:its'.toArray.size=m.length:=by rw[zag,← rv'.length,h2.length]
   have hd:Dt.dps l+1≤60:=by simpa only[Dt.dp] using h60
   have R:=RcAt.tuples (A:=X.A) (s:=s) (e:=itEq l m) p p' (by omega) (fun j j1 j2=>eqsAt_D I X.A.in1 h1 rv h2 rv' (by show X.A.units+1+_<_;omega) j _ _ (by simp) (by simp))
   rw[n1,n2,eY]at R
   exact R X.prog X.w X.xe _ ⟨.bl _,H,I,rfl,q⟩
theorem op_neD{k:Nat}(hr:Room k X.A):OpR X (compareOp .NotEq) (fun x y H Q=>∃ d d',DtIs H x d∧DtIs H y d'∧d.dp≤60∧(∃ l,d=.tup l)∧(∃ l,d'=.tup l)∧Q (.bl (!Dt.beq d d')) H):=by
 intro pins s σ H x y v u Q I rx ry h
 obtain⟨d,d',hd,hd',h60,⟨l,rfl⟩,⟨m,rfl⟩,q⟩:=h
 have hu:=hr.units
 cases hd with
 | @tup a xs _ e h1 =>
  cases hd' with
  | @tup b ys _ e' h2 =>
   cases rx
   cases ry
   obtain⟨its,rv,p,_⟩:=I.tuple (SqT.of e)
   obtain⟨its',rv',p',_⟩:=I.tuple (SqT.of e')
   have n1:its.toArray.size=l.length:=by rw[zag,← rv.length,h1.length]
   have n2:its'.toArray.size=m.length:=by rw[zag,← rv'.length,h2.length]
   have hd:Dt.dps l+1≤60:=by simpa only[Dt.dp] using h60
   have R:=RcNeAt.tuples (A:=X.A) (s:=s) (e:=itEq l m) p p' (by omega) (fun j j1 j2=>eqsAt_D I X.A.in1 h1 rv h2 rv' (by show X.A.units+1+_<_;omega) j _ _ (by simp) (by simp))
   rw[n1,n2,eY]at R
   exact R X.prog X.w X.xe _ ⟨.bl _,H,I,rfl,q⟩
end
end BF
namespace BF
open PySem PySem.Spec PyProof.Rows L2
theorem lex2(x y z w:Int):HT.dw [x,y] [z,w]=(decide (x<z)||(decide (x=z)&&decide (y<w))):=by
 show(if x=z then (if y=w then false else decide (y<w)) else decide (x<z))=_
 by_cases h:x=z
 ·rw[if_pos h,decide_eq_true h,decide_eq_false (by omega:¬ x<z)]
  by_cases k:y=w
  ·rw[if_pos k,decide_eq_false (by omega:¬ y<w)];rfl
  ·rw[if_neg k];simp
 ·rw[if_neg h,decide_eq_false h];simp
theorem jU{x y z w:Int}(h:HT.dw [x,y] [z,w]=true):HT.dw [z,w] [x,y]=false:=by
 rw[lex2]at h ⊢
 simp at h ⊢
 omega
def two(H:Hp)(q:Addr)(p:Int×Int):Prop:=H q=some (.tup [.int p.1,.int p.2])
theorem ao{H:Hp}{q:Addr}{p:Int×Int}(h:two H q p):DtIs H (.ref q) (.tup [.int p.1,.int p.2]):=.tup h (.cons (.int _) (.cons (.int _) .nil))
end BF
namespace BF
open PySem PyProof.Rows
set_option genInjectivity false in
structure Ord(M:Model)(A:Around)(E:Value→Shared→Prop)(s:Shared)(kd:SortKind) where
 O:KeyOrd
 key:Keyed→O.α
 G:Keyed→Prop
 lt:∀ {st:SortSt} {x y:Keyed} {Q:Option Bool→SortSt→Prop},kindOf st=kd→G x→G y→Q (some (O.blt (key x) (key y))) st→wpS M A E s (lt' x y) Q st
section
variable{M:Model}{A:Around}{E:Value→Shared→Prop}{s:Shared}{kd:SortKind}
def Ord.le(o:Ord M A E s kd)(x y:Keyed):Prop:=o.O.kle (o.key x) (o.key y)
def Ord.b(o:Ord M A E s kd)(x y:Keyed):Bool:=o.O.blt (o.key x) (o.key y)
theorem Ord.le_refl(o:Ord M A E s kd)(x:Keyed):o.le x x:=KeyOrd.kle_refl _
theorem Ord.le_trans(o:Ord M A E s kd){x y z:Keyed}(h:o.le x y)(k:o.le y z):o.le x z:=KeyOrd.kle_trans h k
theorem Ord.le_of_b(o:Ord M A E s kd){x y:Keyed}(h:o.b x y=true):o.le x y:=KeyOrd.kle_of_klt h
theorem Ord.le_of_nb(o:Ord M A E s kd){x y:Keyed}(h:o.b x y=false):o.le y x:=h
theorem Ord.b_le(o:Ord M A E s kd){x y z:Keyed}(h:o.b x y=true)(k:o.le y z):o.b x z=true:=KeyOrd.klt_of_klt_of_kle h k
theorem Ord.le_b(o:Ord M A E s kd){x y z:Keyed}(h:o.le x y)(k:o.b y z=true):o.b x z=true:=KeyOrd.klt_of_kle_of_klt h k
theorem Ord.nb_of_le(o:Ord M A E s kd){x y:Keyed}(h:o.le x y):o.b y x=false:=h
def Ord.up(o:Ord M A E s kd)(xs:Array Keyed)(lo hi:Nat):Prop:=∀ i j x y,lo≤i→i≤j→j<hi→xs[i]?=some x→xs[j]?=some y→o.le x y
def Ord.all(o:Ord M A E s kd)(xs:Array Keyed):Prop:=∀ (i:Nat) x,xs[i]?=some x→o.G x
theorem ax{xs:Array Keyed}{i:Nat}{x:Keyed}{Q:Keyed→SortSt→Prop}{st:SortSt}(e:xs[i]?=some x)(h:Q x st):wpS M A E s (elem' xs i) Q st:=by
 rw[elem'_eq,e];exact wpS_pure h
def gal:Bool→Keyed→Array Keyed→Nat→Nat→Nat→StateT SortSt Sem (Option Nat):=sortPriv% PySem.Builtin.gallop
def byd(left:Bool)(key:Keyed)(xs:Array Keyed)(base i:Nat):StateT SortSt Sem (Option Bool):=do
 let x ← elem' xs (base+i)
 if left then lt' x key else return (← lt' key x).map (!·)
def jw(left:Bool)(key:Keyed)(xs:Array Keyed)(base n l r:Nat):StateT SortSt Sem (Option Nat):=do
 let mut l:=l
 let mut r:=r
 for _ in [0:n] do
  if l ≥ r then break
  let some more ← byd left key xs base (l+(r-l) / 2) | return none
  if more then l:=l+(r-l) / 2+1 else r:=l+(r-l) / 2
 return some r
def galUp(left:Bool)(key:Keyed)(xs:Array Keyed)(base n hint:Nat):StateT SortSt Sem (Option Nat):=do
 let mut p:=0
 let mut q:=1
 for _ in [0:n] do
  if q ≥ n-hint then break
  let some more ← byd left key xs base (hint+q) | return none
  if !more then break
  p:=q
  q:=2*q+1
 jw left key xs base n (hint+p+1) (hint+min q (n-hint))
def galDn(left:Bool)(key:Keyed)(xs:Array Keyed)(base n hint:Nat):StateT SortSt Sem (Option Nat):=do
 let mut p:=0
 let mut q:=1
 for _ in [0:n] do
  if q ≥ hint+1 then break
  let some more ← byd left key xs base (hint-q) | return none
  if more then break
  p:=q
  q:=2*q+1
 jw left key xs base n (hint+1-min q (hint+1)) (hint-p)
theorem gal_eq(left:Bool)(key:Keyed)(xs:Array Keyed)(base n hint:Nat):gal left key xs base n hint=(do
  let some right ← byd left key xs base hint | return none
  if right then galUp left key xs base n hint else galDn left key xs base n hint):=rfl
def Ord.byB(o:Ord M A E s kd)(left:Bool)(key x:Keyed):Bool:=if left then o.b x key else !o.b key x
theorem jN(o:Ord M A E s kd){left:Bool}{key x:Keyed}{xs:Array Keyed}{base i:Nat}{Q:Option Bool→SortSt→Prop}{st:SortSt}(hk:kindOf st=kd)(gk:o.G key)(gx:o.G x)(e:xs[base+i]?=some x)
  (h:Q (some (o.byB left key x)) st):wpS M A E s (byd left key xs base i) Q st:=by
 unfold byd
 refine wpS_bind (ax e ?_)
 cases left with
 | true=>exact o.lt hk gx gk h
 | false=>exact wpS_bind (o.lt hk gk gx (wpS_pure h))
end
section
variable{M:Model}{A:Around}{E:Value→Shared→Prop}{s:Shared}{kd:SortKind}
theorem gQ(o:Ord M A E s kd){left:Bool}{key:Keyed}{xs:Array Keyed}{base n hint:Nat}{Q:Option Nat→SortSt→Prop}{st:SortSt}(hk:kindOf st=kd)(gk:o.G key)(ga:o.all xs)(hsz:base+n≤xs.size)(hh:hint<n)
  (up:o.up xs base (base+n)) (h:∀ k,k≤n→(∀ i x,i<k→xs[base+i]?=some x→o.byB left key x=true)→(∀ i x,k≤i→i<n→xs[base+i]?=some x→o.byB left key x=false)→Q (some k) st) :
  wpS M A E s (gal left key xs base n hint) Q st:=by
 rw[gal_eq]
 have at':∀ i,i<n→∃ x,xs[base+i]?=some x:=fun i hi=>⟨_,getElem?_pos _ _ (by omega)⟩
 have mono:∀ i j x y,i≤j→j<n→xs[base+i]?=some x→xs[base+j]?=some y→o.byB left key y=true→o.byB left key x=true:=fun i j x y hij hj ex ey hb=>by
  have le:=up (base+i) (base+j) x y (by omega) (by omega) (by omega) ex ey
  unfold Ord.byB at hb ⊢
  cases left with
  | true=>exact o.le_b le hb
  | false =>
   have hb':o.b key y=false:=by simpa using hb
   have:o.b key x=false:=o.nb_of_le (o.le_trans le hb')
   simp[this]
 have down:∀ m,m<n→(∃ x,xs[base+m]?=some x∧o.byB left key x=true)→∀ i x,i<m+1→xs[base+i]?=some x→o.byB left key x=true:=fun m hm ⟨y,ey,hy⟩ i x hi ex=>mono i m x y (by omega) hm ex ey hy
 have upp:∀ m,(∃ x,xs[base+m]?=some x∧o.byB left key x=false)→∀ i x,m≤i→i<n→xs[base+i]?=some x→o.byB left key x=false:=fun m ⟨y,ey,hy⟩ i x hi hn ex=>by
  cases hb:o.byB left key x with
  | false=>rfl
  | true=>rw[mono m i y x hi hn ey ex hb]at hy;cases hy
 have fin:∀ l r,l≤r→r≤n→(∀ i x,i<l→xs[base+i]?=some x→o.byB left key x=true)→(∀ i x,r≤i→i<n→xs[base+i]?=some x→o.byB left key x=false)→wpS M A E s (jw left key xs base n l r) Q st:=fun l r hlr hrn h1 h2=>by
  unfold jw
  refine wpS_bind (wpS_mono (wpS_forRange (I:=fun t c st'=>st'=st∧∃ l r,c=(none,l,r)∧l≤r∧r≤n∧r-l≤n-t∧(∀ i x,i<l→xs[base+i]?=some x→o.byB left key x=true)∧(∀ i x,r≤i→i<n→xs[base+i]?=some x→o.byB left key x=false))
   (Q:=fun c st'=>st'=st∧∃ l,c=(none,l,l)∧l≤n∧(∀ i x,i<l→xs[base+i]?=some x→o.byB left key x=true)∧(∀ i x,l≤i→i<n→xs[base+i]?=some x→o.byB left key x=false)) ?step ?fin ⟨rfl,l,r,rfl,hlr,hrn,by omega,h1,h2⟩) ?post)
  case post =>
   rintro c st' ⟨rfl,l,rfl,hl,a1,a2⟩
   exact wpS_pure (h l hl a1 a2)
  case fin =>
   rintro c st' ⟨rfl,l,r,rfl,h3,h4,h5,a1,a2⟩
   have:l=r:=by omega
   subst this
   exact⟨rfl,l,rfl,h4,a1,a2⟩
  case step =>
   rintro t c st' _ ht ⟨rfl,l,r,rfl,h3,h4,h5,a1,a2⟩
   dsimp only
   by_cases hge:l ≥ r
   ·rw[if_pos hge]
    have:l=r:=by omega
    subst this
    exact wpS_pure ⟨rfl,l,rfl,h4,a1,a2⟩
   ·rw[if_neg hge]
    obtain⟨y,ey⟩:=at' (l+(r-l) / 2) (by omega)
    refine wpS_bind (jN o hk gk (ga _ _ ey) ey ?_)
    cases hb:o.byB left key y with
    | true =>
     refine wpS_pure ⟨rfl,l+(r-l) / 2+1,r,rfl,by omega,h4,by omega,fun i x hi ex=>down _ (by omega) ⟨y,ey,hb⟩ i x hi ex,a2⟩
    | false =>
     refine wpS_pure ⟨rfl,l,l+(r-l) / 2,rfl,by omega,by omega,by omega,a1,fun i x hi hn ex=>upp _ ⟨y,ey,hb⟩ i x hi hn ex⟩
 obtain⟨xh,eh⟩:=at' hint hh
 refine wpS_bind (jN o hk gk (ga _ _ eh) eh ?_)
 cases hb:o.byB left key xh with
 | true =>
  show wpS M A E s (galUp left key xs base n hint) Q st
  unfold galUp
  refine wpS_bind (wpS_mono (wpS_forRange (I:=fun t c st'=>st'=st∧∃ p q,c=(none,p,q)∧p<q∧t<q∧hint+p<n∧∃ x,xs[base+(hint+p)]?=some x∧o.byB left key x=true)
   (Q:=fun c st'=>st'=st∧∃ p q,c=(none,p,q)∧p<q∧hint+p<n∧(∃ x,xs[base+(hint+p)]?=some x∧o.byB left key x=true)∧(n-hint≤q∨(hint+q<n∧∃ x,xs[base+(hint+q)]?=some x∧o.byB left key x=false))) ?step ?fin ⟨rfl,0,1,rfl,by omega,by omega,by omega,xh,eh,hb⟩) ?post)
  case post =>
   rintro c st' ⟨rfl,p,q,rfl,h1,h2,a1,a2⟩
   show wpS M A E s (jw left key xs base n (hint+p+1) (hint+min q (n-hint))) Q _
   refine fin _ _ ?_ ?_ (fun i x hi ex=>down _ h2 a1 i x hi ex) fun i x hi hn ex=>?_
   ·rcases a2 with z | ⟨z,_⟩<;>omega
   ·omega
   ·rcases a2 with z | ⟨z,y⟩
    ·omega
    ·exact upp _ y i x (by omega) hn ex
  case fin =>
   rintro c st' ⟨rfl,p,q,rfl,h1,h2,h3,a1⟩
   exact⟨rfl,p,q,rfl,h1,h3,a1,.inl (by omega)⟩
  case step =>
   rintro t c st' _ ht ⟨rfl,p,q,rfl,h1,h2,h3,a1⟩
   dsimp only
   by_cases hge:q ≥ n-hint
   ·rw[if_pos hge]
    exact wpS_pure ⟨rfl,p,q,rfl,h1,h3,a1,.inl hge⟩
   ·rw[if_neg hge]
    obtain⟨y,ey⟩:=at' (hint+q) (by omega)
    refine wpS_bind (jN o hk gk (ga _ _ ey) ey ?_)
    cases hy:o.byB left key y with
    | true=>exact wpS_pure ⟨rfl,q,2*q+1,rfl,by omega,by omega,by omega,y,ey,hy⟩
    | false=>exact wpS_pure ⟨rfl,p,q,rfl,h1,h3,a1,.inr ⟨by omega,y,ey,hy⟩⟩
 | false =>
  show wpS M A E s (galDn left key xs base n hint) Q st
  unfold galDn
  refine wpS_bind (wpS_mono (wpS_forRange (I:=fun t c st'=>st'=st∧∃ p q,c=(none,p,q)∧p<q∧t<q∧p≤hint∧∃ x,xs[base+(hint-p)]?=some x∧o.byB left key x=false)
   (Q:=fun c st'=>st'=st∧∃ p q,c=(none,p,q)∧p<q∧p≤hint∧(∃ x,xs[base+(hint-p)]?=some x∧o.byB left key x=false)∧(hint+1≤q∨(q≤hint∧∃ x,xs[base+(hint-q)]?=some x∧o.byB left key x=true))) ?step ?fin ⟨rfl,0,1,rfl,by omega,by omega,by omega,xh,eh,hb⟩) ?post)
  case post =>
   rintro c st' ⟨rfl,p,q,rfl,h1,h2,a1,a2⟩
   show wpS M A E s (jw left key xs base n (hint+1-min q (hint+1)) (hint-p)) Q _
   refine fin _ _ ?_ ?_ (fun i x hi ex=>?_) fun i x hi hn ex=>upp _ a1 i x hi hn ex
   ·rcases a2 with z | ⟨z,_⟩<;>omega
   ·omega
   ·rcases a2 with z | ⟨z,y⟩
    ·omega
    ·exact down _ (by omega) y i x (by omega) ex
  case fin =>
   rintro c st' ⟨rfl,p,q,rfl,h1,h2,h3,a1⟩
   exact⟨rfl,p,q,rfl,h1,h3,a1,.inl (by omega)⟩
  case step =>
   rintro t c st' _ ht ⟨rfl,p,q,rfl,h1,h2,h3,a1⟩
   dsimp only
   by_cases hge:q ≥ hint+1
   ·rw[if_pos hge]
    exact wpS_pure ⟨rfl,p,q,rfl,h1,h3,a1,.inl hge⟩
   ·rw[if_neg hge]
    obtain⟨y,ey⟩:=at' (hint-q) (by omega)
    refine wpS_bind (jN o hk gk (ga _ _ ey) ey ?_)
    cases hy:o.byB left key y with
    | false=>exact wpS_pure ⟨rfl,q,2*q+1,rfl,by omega,by omega,by omega,y,ey,hy⟩
    | true=>exact wpS_pure ⟨rfl,p,q,rfl,h1,h3,a1,.inr ⟨by omega,y,ey,hy⟩⟩
end
section
variable{M:Model}{A:Around}{E:Value→Shared→Prop}{s:Shared}{kd:SortKind}
structure Ord.Mg(o:Ord M A E s kd)(la lb out:List Keyed)(i j:Nat):Prop where
 perm:out.Perm (la.take i++lb.take j)
 up:out.Pairwise o.le
 la:∀ x∈out,∀ y∈la.drop i,o.le x y
 lb:∀ x∈out,∀ y∈lb.drop j,o.le x y
def Ord.Merged(o:Ord M A E s kd)(la lb out:List Keyed):Prop:=out.Perm (la++lb)∧out.Pairwise o.le
variable{o:Ord M A E s kd}{la lb out:List Keyed}{i j k:Nat}
theorem Ord.Mg.zero:o.Mg la lb [] 0 0:=⟨by simp,.nil,by simp,by simp⟩
theorem mem_take_drop{x:Keyed}{l:List Keyed}{i k:Nat}(h:x∈(l.drop i).take k):x∈l.drop i:=zby h
theorem Ord.Mg.manyA(m:o.Mg la lb out i j)(ua:la.Pairwise o.le)(h:∀ x∈(la.drop i).take k,∀ y∈lb.drop j,o.le x y):o.Mg la lb (out++(la.drop i).take k) (i+k) j:=by
 have e:la.take (i+k)=la.take i++(la.drop i).take k:=List.take_add
 have ud:(la.drop i).Pairwise o.le:=ua.sublist (zce _ _)
 have ed:(la.drop i).take k++la.drop (i+k)=la.drop i:=by rw[← List.drop_drop];exact zaz k _
 refine⟨?_,?_,?_,?_⟩
 ·rw[e]
  refine(m.perm.append_right _).trans ?_
  rw[zai,zai]
  exact List.Perm.append_left _ zb2
 ·exact zav.mpr ⟨m.up,ud.sublist (zbz _ _),fun x hx y hy=>m.la x hx y (mem_take_drop hy)⟩
 ·intro x hx y hy
  rcases za9.mp hx with hx | hx
  ·exact m.la x hx y (by rw[← ed];exact za5 _ hy)
  ·rw[← ed]at ud
   exact(zav.mp ud).2.2 x hx y hy
 ·intro x hx y hy
  rcases za9.mp hx with hx | hx
  ·exact m.lb x hx y hy
  ·exact h x hx y hy
theorem Ord.Mg.swap(m:o.Mg la lb out i j):o.Mg lb la out j i:=⟨m.perm.trans zb2,m.up,m.lb,m.la⟩
theorem Ord.Mg.manyB(m:o.Mg la lb out i j)(ub:lb.Pairwise o.le)(h:∀ x∈(lb.drop j).take k,∀ y∈la.drop i,o.le x y):o.Mg la lb (out++(lb.drop j).take k) i (j+k):=(m.swap.manyA ub h).swap
theorem Ord.Mg.endB(m:o.Mg la lb out i j)(ua:la.Pairwise o.le)(ub:lb.Pairwise o.le)(h:∀ x∈lb.drop j,∀ y∈la.drop i,o.le x y):o.Merged la lb (out++lb.drop j++la.drop i):=by
 refine⟨?_,?_⟩
 ·refine((m.perm.append_right _).append_right _).trans ?_
  have e1:la=la.take i++la.drop i:=(zaz _ _).symm
  have e2:lb=lb.take j++lb.drop j:=(zaz _ _).symm
  refine List.Perm.trans ?_ (show(la.take i++la.drop i++(lb.take j++lb.drop j)).Perm (la++lb) by rw[← e1,← e2])
  simp only[zai]
  refine List.Perm.append_left _ ?_
  rw[← zai]
  exact zb2
 ·have ua':(la.drop i).Pairwise o.le:=ua.sublist (zce _ _)
  have ub':(lb.drop j).Pairwise o.le:=ub.sublist (zce _ _)
  refine zav.mpr ⟨zav.mpr ⟨m.up,ub',m.lb⟩,ua',fun x hx y hy=>?_⟩
  rcases za9.mp hx with hx | hx
  ·exact m.la x hx y hy
  ·exact h x hx y hy
theorem Ord.Merged.swap(m:o.Merged la lb out):o.Merged lb la out:=⟨m.1.trans zb2,m.2⟩
theorem Ord.Mg.endA(m:o.Mg la lb out i j)(ua:la.Pairwise o.le)(ub:lb.Pairwise o.le)(h:∀ x∈la.drop i,∀ y∈lb.drop j,o.le x y):o.Merged la lb (out++la.drop i++lb.drop j):=(m.swap.endB ub ua h).swap
end
theorem gM{α β:Type}{m m':StateT SortSt Sem α}{f f':α→StateT SortSt Sem β}(h:m=m')(k:f=f'):m>>=f=m'>>=f':=by rw[h,k]
def setG(g:Nat):StateT SortSt Sem Unit:=modify fun st=>SortSt.mk' (kindOf st) (arrOf st) (pendingOf st) g (failedOf st)
section
abbrev MT1:=Option (Array Keyed)×Array Keyed×Nat×Nat×Nat×Nat
abbrev MT2:=Option (Array Keyed)×Array Keyed×Nat×Nat×Nat×Nat×Nat
abbrev MT0:=Option (Array Keyed)×Array Keyed×Nat×Nat×Nat
variable(u v:Array Keyed)
def loU(r:Array Keyed)(p q:Nat):Array Keyed:=r++u.extract p u.size++v.extract q v.size
def loV(r:Array Keyed)(p q:Nat):Array Keyed:=r++v.extract q v.size++u.extract p u.size
def loLin(g:Nat)(t:MT1):StateT SortSt Sem (ForInStep MT1):=do
 let y ← elem' v t.2.2.2.1
 let x ← elem' u t.2.2.1
 match ← lt' y x with
 | some less =>
  if less then do
   let y ← elem' v t.2.2.2.1
   if t.2.2.2.1+1==v.size then pure (.done (some (loU u v (t.2.1.push y) t.2.2.1 (t.2.2.2.1+1)),t.2.1.push y,t.2.2.1,t.2.2.2.1+1,0,t.2.2.2.2.2+1))
   else if t.2.2.2.2.2+1 ≥ g then pure (.done (none,t.2.1.push y,t.2.2.1,t.2.2.2.1+1,0,t.2.2.2.2.2+1))
   else pure (.yield (none,t.2.1.push y,t.2.2.1,t.2.2.2.1+1,0,t.2.2.2.2.2+1))
  else do
   let x ← elem' u t.2.2.1
   if t.2.2.1+1+1==u.size then pure (.done (some (loV u v (t.2.1.push x) (t.2.2.1+1) t.2.2.2.1),t.2.1.push x,t.2.2.1+1,t.2.2.2.1,t.2.2.2.2.1+1,0))
   else if t.2.2.2.2.1+1 ≥ g then pure (.done (none,t.2.1.push x,t.2.2.1+1,t.2.2.2.1,t.2.2.2.2.1+1,0))
   else pure (.yield (none,t.2.1.push x,t.2.2.1+1,t.2.2.2.1,t.2.2.2.2.1+1,0))
 | _=>pure (.done (some (loU u v t.2.1 t.2.2.1 t.2.2.2.1),t.2.1,t.2.2.1,t.2.2.2.1,t.2.2.2.2.1,t.2.2.2.2.2))
def lo4(r:Array Keyed)(p q g cu cv:Nat):StateT SortSt Sem (ForInStep MT2):=do
 let x ← elem' u p
 if p+1+1==u.size then pure (.done (some (loV u v (r.push x) (p+1) q),r.push x,p+1,q,g,cu,cv))
 else if cu<7&&cv<7 then pure (.done (none,r.push x,p+1,q,g,cu,cv))
 else pure (.yield (none,r.push x,p+1,q,g,cu,cv))
def lo3(r:Array Keyed)(p q g cu cv:Nat):StateT SortSt Sem (ForInStep MT2):=do
 let x ← elem' u p
 match ← gal true x v q (v.size-q) 0 with
 | some k =>
  if k>0 then
   if q+k==v.size then pure (.done (some (loU u v (r++v.extract q (q+k)) p (q+k)),r++v.extract q (q+k),p,q+k,g,cu,k))
   else lo4 u v (r++v.extract q (q+k)) p (q+k) g cu k
  else lo4 u v r p q g cu k
 | _=>pure (.done (some (loU u v r p q),r,p,q,g,cu,cv))
def lo2(r:Array Keyed)(p q g cu cv:Nat):StateT SortSt Sem (ForInStep MT2):=do
 let y ← elem' v q
 if q+1==v.size then pure (.done (some (loU u v (r.push y) p (q+1)),r.push y,p,q+1,g,cu,cv))
 else lo3 u v (r.push y) p (q+1) g cu cv
def lo1(r:Array Keyed)(p q g cu cv:Nat):StateT SortSt Sem (ForInStep MT2):=do
 setG g
 let y ← elem' v q
 match ← gal false y u p (u.size-p) 0 with
 | some k =>
  if k>0 then
   if p+k+1==u.size then pure (.done (some (loV u v (r++u.extract p (p+k)) (p+k) q),r++u.extract p (p+k),p+k,q,g,k,cv))
   else if p+k==u.size then pure (.done (some (loU u v (r++u.extract p (p+k)) (p+k) q),r++u.extract p (p+k),p+k,q,g,k,cv))
   else lo2 u v (r++u.extract p (p+k)) (p+k) q g k cv
  else lo2 u v r p q g k cv
 | _=>pure (.done (some (loU u v r p q),r,p,q,g,cu,cv))
def lo0(t:MT2):StateT SortSt Sem (ForInStep MT2) :=
 if t.2.2.2.2.1>1 then lo1 u v t.2.1 t.2.2.1 t.2.2.2.1 (t.2.2.2.2.1-1) t.2.2.2.2.2.1 t.2.2.2.2.2.2 else lo1 u v t.2.1 t.2.2.1 t.2.2.2.1 t.2.2.2.2.1 t.2.2.2.2.2.1 t.2.2.2.2.2.2
def loOut(t:MT0):StateT SortSt Sem (ForInStep MT0):=do
 let t1 ← forIn [0:u.size+v.size] ((none,t.2.1,t.2.2.1,t.2.2.2.1,0,0):MT1) (fun _ t1=>loLin u v t.2.2.2.2 t1)
 match t1.1 with
 | some z=>pure (.done (some z,t1.2.1,t1.2.2.1,t1.2.2.2.1,t.2.2.2.2))
 | none=>do
  rule "list.sort.gallop"
  let t2 ← forIn [0:u.size+v.size] ((none,t1.2.1,t1.2.2.1,t1.2.2.2.1,t.2.2.2.2+1,t1.2.2.2.2.1,t1.2.2.2.2.2):MT2) (fun _ t2=>lo0 u v t2)
  match t2.1 with
  | some z=>pure (.done (some z,t2.2.1,t2.2.2.1,t2.2.2.2.1,t2.2.2.2.2.1))
  | none=>do
   setG (t2.2.2.2.2.1+1)
   pure (.yield (none,t2.2.1,t2.2.2.1,t2.2.2.2.1,t2.2.2.2.2.1+1))
def mlo:Array Keyed→Array Keyed→StateT SortSt Sem (Array Keyed):=sortPriv% PySem.Builtin.mergeLo
theorem mlo_eq0(u v:Array Keyed):mlo u v=(do
  rule "list.sort.merge-lo"
  let fullEnd (r:Array Keyed) (p q:Nat):=r++u.extract p u.size++v.extract q v.size
  let lastU (r:Array Keyed) (p q:Nat):=r++v.extract q v.size++u.extract p u.size
  let mut r:Array Keyed:=#[← elem' v 0]
  let mut p:=0
  let mut q:=1
  if q==v.size then return fullEnd r p q
  if p+1==u.size then return lastU r p q
  let mut g:=gallopOf (← get)
  for _ in [0:u.size+v.size] do
   let mut cu:=0
   let mut cv:=0
   for _ in [0:u.size+v.size] do
    let some less ← lt' (← elem' v q) (← elem' u p) | return fullEnd r p q
    if less then
     r:=r.push (← elem' v q);q:=q+1;cv:=cv+1;cu:=0
     if q==v.size then return fullEnd r p q
     if cv ≥ g then break
    else
     r:=r.push (← elem' u p);p:=p+1;cu:=cu+1;cv:=0
     if p+1==u.size then return lastU r p q
     if cu ≥ g then break
   rule "list.sort.gallop"
   g:=g+1
   for _ in [0:u.size+v.size] do
    if g>1 then g:=g-1
    setG g
    let some k ← gal false (← elem' v q) u p (u.size-p) 0 | return fullEnd r p q
    cu:=k
    if k>0 then
     r:=r++u.extract p (p+k);p:=p+k
     if p+1==u.size then return lastU r p q
     if p==u.size then return fullEnd r p q
    r:=r.push (← elem' v q);q:=q+1
    if q==v.size then return fullEnd r p q
    let some k ← gal true (← elem' u p) v q (v.size-q) 0 | return fullEnd r p q
    cv:=k
    if k>0 then
     r:=r++v.extract q (q+k);q:=q+k
     if q==v.size then return fullEnd r p q
    r:=r.push (← elem' u p);p:=p+1
    if p+1==u.size then return lastU r p q
    if cu<7&&cv<7 then break
   g:=g+1
   setG g
  unsupported "internal:list.sort.merge-bound"):=rfl
theorem mlo_eq:mlo u v=(do
  rule "list.sort.merge-lo"
  let y ← elem' v 0
  if 1==v.size then pure (loU u v #[y] 0 1)
  else if 0+1==u.size then pure (loV u v #[y] 0 1)
  else do
   let st ← get
   let t ← forIn [0:u.size+v.size] ((none,#[y],0,1,gallopOf st):MT0) (fun _ t=>loOut u v t)
   match t.1 with
   | some z=>pure z
   | none=>unsupported "internal:list.sort.merge-bound"):=by
 rw[mlo_eq0]
 dsimp only[loOut,lo0,lo1,lo2,lo3,lo4,loLin,loU,loV]
 refine bind_congr fun _=>bind_congr fun y=>?_
 refine ite_congr rfl (fun _=>rfl) fun _=>ite_congr rfl (fun _=>rfl) fun _=>?_
 refine bind_congr fun st=>?_
 refine gM (congrArg (forIn _ _) (funext fun x=>funext fun t=>?_)) ?_
 ·refine gM (congrArg (forIn _ _) (funext fun x=>funext fun t1=>?_)) (funext fun t1=>?_)
  ·refine bind_congr fun y=>bind_congr fun x=>bind_congr fun z=>?_
   cases z with
   | none=>with_reducible rfl
   | some z=>cases z<;>with_reducible rfl
  ·obtain⟨z,t1⟩:=t1
   cases z with
   | some z=>with_reducible rfl
   | none =>
    dsimp only
    refine bind_congr fun _=>?_
    refine gM (congrArg (forIn _ _) (funext fun x=>funext fun t2=>?_)) (funext fun t2=>?_)
    ·refine ite_congr rfl (fun _=>?_) (fun _=>?_)
     all_goals (refine bind_congr fun _=>bind_congr fun y=>bind_congr fun k=>?_)
     all_goals cases k
     ·with_reducible rfl
     ·refine ite_congr rfl (fun _=>ite_congr rfl (fun _=>rfl) fun _=>ite_congr rfl (fun _=>rfl) fun _=>?_) (fun _=>?_)
      all_goals (refine bind_congr fun _=>ite_congr rfl (fun _=>rfl) fun _=>bind_congr fun _=>bind_congr fun k=>?_)
      all_goals cases k<;>with_reducible rfl
     ·with_reducible rfl
     ·refine ite_congr rfl (fun _=>ite_congr rfl (fun _=>rfl) fun _=>ite_congr rfl (fun _=>rfl) fun _=>?_) (fun _=>?_)
      all_goals (refine bind_congr fun _=>ite_congr rfl (fun _=>rfl) fun _=>bind_congr fun _=>bind_congr fun k=>?_)
      all_goals cases k<;>with_reducible rfl
    ·obtain⟨z,t2⟩:=t2
     cases z<;>with_reducible rfl
 ·funext t
  obtain⟨z,t⟩:=t
  cases z<;>with_reducible rfl
end
section
variable{M:Model}{A:Around}{E:Value→Shared→Prop}{s:Shared}{kd:SortKind}
structure Gs(st st':SortSt):Prop where
 k:kindOf st'=kindOf st
 a:arrOf st'=arrOf st
 p:pendingOf st'=pendingOf st
 f:failedOf st'=failedOf st
theorem Gs.refl(st:SortSt):Gs st st:=⟨rfl,rfl,rfl,rfl⟩
theorem iG{st st':SortSt}{g:Nat}{Q:Unit→SortSt→Prop}(h:Gs st st')(k:∀ st2,Gs st st2→Q () st2):wpS M A E s (setG g) Q st' :=
 wpS_modify (k _ ⟨h.k,h.a,h.p,h.f⟩)
theorem xt{u:Array Keyed}{p:Nat}:(u.extract p u.size).toList=u.toList.drop p:=by
 rw[Array.toList_extract]
 show(u.toList.drop p).take (u.size-p)=_
 exact zas (by simp)
theorem xk{u:Array Keyed}{p k:Nat}:(u.extract p (p+k)).toList=(u.toList.drop p).take k:=by simp[Array.toList_extract,List.extract]
theorem d6{u:Array Keyed}{p:Nat}(h:p<u.size):∃ x,u[p]?=some x:=⟨u[p],getElem?_pos u p h⟩
theorem drop1{u:Array Keyed}{p:Nat}{x:Keyed}(e:u[p]?=some x):(u.toList.drop p).take 1=[x]:=by
 have e':u.toList[p]?=some x:=by simpa using e
 obtain⟨h,rfl⟩:=za3.mp e'
 rw[List.drop_eq_getElem_cons h]
 rfl
theorem eK{u:Array Keyed}{p:Nat}{y:Keyed}:y∈u.toList.drop p↔∃ i,p≤i∧u[i]?=some y:=by
 rw[zaw]
 constructor
 ·rintro⟨n,e⟩
  rw[zbd]at e
  exact⟨p+n,by omega,by simpa using e⟩
 ·rintro⟨i,hi,e⟩
  exact⟨i-p,by rw[zbd,show p+(i-p)=i by omega];simpa using e⟩
theorem up_at{o:Ord M A E s kd}{u:Array Keyed}(uu:u.toList.Pairwise o.le){i j:Nat}{x y:Keyed}(hij:i≤j)(ex:u[i]?=some x)(ey:u[j]?=some y):o.le x y:=by
 have ex':u.toList[i]?=some x:=by simpa using ex
 have ey':u.toList[j]?=some y:=by simpa using ey
 obtain⟨h1,rfl⟩:=za3.mp ex'
 obtain⟨h2,rfl⟩:=za3.mp ey'
 rcases Nat.lt_or_eq_of_le hij with h | h
 ·exact zb4.mp uu i j h1 h2 h
 ·subst h;exact o.le_refl _
theorem up_of{o:Ord M A E s kd}{u:Array Keyed}(uu:u.toList.Pairwise o.le)(lo hi:Nat):o.up u lo hi:=fun i j x y _ h _ ex ey=>up_at uu h ex ey
theorem j0{o:Ord M A E s kd}{u:Array Keyed}(uu:u.toList.Pairwise o.le){p:Nat}{x:Keyed}(e:u[p]?=some x):∀ y∈u.toList.drop p,o.le x y:=fun y hy=>by
 obtain⟨i,hi,ey⟩:=eK.mp hy
 exact up_at uu hi e ey
section
variable(o:Ord M A E s kd)(u v:Array Keyed)
structure jg:Prop where
 gu:o.all u
 gv:o.all v
 uu:u.toList.Pairwise o.le
 uv:v.toList.Pairwise o.le
 h2:∀ x y,x∈v.toList→u[u.size-1]?=some y→o.le x y
def Live(r:Array Keyed)(p q:Nat):Prop:=o.Mg u.toList v.toList r.toList p q∧p+1<u.size∧q<v.size
def Res(z:Array Keyed):Prop:=o.Merged u.toList v.toList z.toList
end
variable{o:Ord M A E s kd}{u v:Array Keyed}{r:Array Keyed}{p q:Nat}
theorem Ord.Mg.pushA(m:o.Mg u.toList v.toList r.toList p q)(uu:u.toList.Pairwise o.le){x:Keyed}(e:u[p]?=some x)(h:∀ y∈v.toList.drop q,o.le x y):o.Mg u.toList v.toList (r.push x).toList (p+1) q:=by
 have:=m.manyA (k:=1) uu (by rw[drop1 e];intro a ha y hy;rw[za7.mp ha];exact h y hy)
 rw[drop1 e]at this
 simpa using this
theorem Ord.Mg.pushB(m:o.Mg u.toList v.toList r.toList p q)(uv:v.toList.Pairwise o.le){y:Keyed}(e:v[q]?=some y)(h:∀ x∈u.toList.drop p,o.le y x):o.Mg u.toList v.toList (r.push y).toList p (q+1):=by
 have:=m.manyB (k:=1) uv (by rw[drop1 e];intro a ha y hy;rw[za7.mp ha];exact h y hy)
 rw[drop1 e]at this
 simpa using this
theorem resU(m:o.Mg u.toList v.toList r.toList p q)(uu:u.toList.Pairwise o.le)(uv:v.toList.Pairwise o.le)(h:u.size≤p∨v.size≤q):Res o u v (loU u v r p q):=by
 unfold Res loU
 rw[zb5,zb5,xt,xt]
 refine m.endA uu uv fun x hx y hy=>?_
 rcases h with h | h
 ·rw[zbp (by simpa using h)]at hx;cases hx
 ·rw[zbp (by simpa using h)]at hy;cases hy
theorem resV(L:jg o u v)(m:o.Mg u.toList v.toList r.toList p q)(h:p+1=u.size):Res o u v (loV u v r p q):=by
 unfold Res loV
 rw[zb5,zb5,xt,xt]
 refine m.endB L.uu L.uv fun x hx y hy=>?_
 obtain⟨i,hi,ey⟩:=eK.mp hy
 have hi':i<u.size:=by
  rcases zca i u.size with z | z
  ·exact z
  ·rw[getElem?_neg _ _ (by omega)]at ey;cases ey
 have:i=u.size-1:=by omega
 subst this
 exact L.h2 x y (zcd hx) ey
def lp(u v:Array Keyed)(o:Ord M A E s kd)(c:Nat):ForInStep MT1→Prop
 | .done (some z,_)=>Res o u v z
 | .done (none,r,p,q,_)=>Live o u v r p q∧c<p+q
 | .yield (some _,_)=>False
 | .yield (none,r,p,q,_)=>Live o u v r p q∧c<p+q
theorem wpS_loLin(L:jg o u v){g a b:Nat}{st:SortSt}(hk:kindOf st=kd)(l:Live o u v r p q):wpS M A E s (loLin u v g (none,r,p,q,a,b)) (fun t st'=>st'=st∧lp u v o (p+q) t) st:=by
 obtain⟨m,hp,hq⟩:=l
 obtain⟨x,ex⟩:=d6 (u:=u) (p:=p) (by omega)
 obtain⟨y,ey⟩:=d6 hq
 unfold loLin
 refine wpS_bind (ax ey (wpS_bind (ax ex (wpS_bind (o.lt hk (L.gv _ _ ey) (L.gu _ _ ex) ?_)))))
 dsimp only
 cases hb:o.O.blt (o.key y) (o.key x) with
 | true =>
  refine wpS_bind (ax ey ?_)
  have m':=m.pushB L.uv ey fun z hz=>o.le_trans (o.le_of_b hb) (j0 L.uu ex z hz)
  by_cases h1:q+1=v.size
  ·rw[if_pos (by simpa using h1)]
   exact wpS_pure ⟨rfl,resU m' L.uu L.uv (.inr (by omega))⟩
  ·rw[if_neg (by simpa using h1)]
   split
   ·exact wpS_pure ⟨rfl,⟨m',hp,by omega⟩,by omega⟩
   ·exact wpS_pure ⟨rfl,⟨m',hp,by omega⟩,by omega⟩
 | false =>
  refine wpS_bind (ax ex ?_)
  have m':=m.pushA L.uu ex fun z hz=>o.le_trans (o.le_of_nb hb) (j0 L.uv ey z hz)
  by_cases h1:p+1+1=u.size
  ·rw[if_pos (by simpa using h1)]
   exact wpS_pure ⟨rfl,resV L m' h1⟩
  ·rw[if_neg (by simpa using h1)]
   split
   ·exact wpS_pure ⟨rfl,⟨m',by omega,hq⟩,by omega⟩
   ·exact wpS_pure ⟨rfl,⟨m',by omega,hq⟩,by omega⟩
end
section
variable{M:Model}{A:Around}{E:Value→Shared→Prop}{s:Shared}{kd:SortKind}{o:Ord M A E s kd}{u v:Array Keyed}{r:Array Keyed}{p q g cu cv c:Nat}{st:SortSt}
theorem gm{u:Array Keyed}{p k:Nat}{y:Keyed}(h:y∈(u.toList.drop p).take k):∃ i,i<k∧u[p+i]?=some y:=by
 obtain⟨n,e⟩:=zaw.mp h
 rw[zbo]at e
 split at e
 ·rw[zbd]at e
  exact⟨n,by assumption,by simpa using e⟩
 ·cases e
theorem lt_of_at{u:Array Keyed}{i:Nat}{y:Keyed}(e:u[i]?=some y):i<u.size:=by
 rcases zca i u.size with z | z
 ·exact z
 ·rw[getElem?_neg u i (by omega)]at e;cases e
def gp(u v:Array Keyed)(o:Ord M A E s kd)(c:Nat):ForInStep MT2→Prop
 | .done (some z,_)=>Res o u v z
 | .done (none,r,p,q,_)=>Live o u v r p q∧c<p+q
 | .yield (some _,_)=>False
 | .yield (none,r,p,q,_)=>Live o u v r p q∧c<p+q
theorem wpS_lo4(L:jg o u v)(m:o.Mg u.toList v.toList r.toList p q)(hp:p+1<u.size)(hq:q<v.size)(hc:c≤p+q){x:Keyed}(ex:u[p]?=some x)(hx:∀ y∈v.toList.drop q,o.le x y) :
  wpS M A E s (lo4 u v r p q g cu cv) (fun t st'=>st'=st∧gp u v o c t) st:=by
 unfold lo4
 refine wpS_bind (ax ex ?_)
 have m':=m.pushA L.uu ex hx
 by_cases h1:p+1+1=u.size
 ·rw[if_pos (by simpa using h1)]
  exact wpS_pure ⟨rfl,resV L m' h1⟩
 ·rw[if_neg (by simpa using h1)]
  split
  ·exact wpS_pure ⟨rfl,⟨m',by omega,hq⟩,by omega⟩
  ·exact wpS_pure ⟨rfl,⟨m',by omega,hq⟩,by omega⟩
theorem wpS_lo3(L:jg o u v)(hk:kindOf st=kd)(m:o.Mg u.toList v.toList r.toList p q)(hp:p+1<u.size)(hq:q<v.size)(hc:c≤p+q) :
  wpS M A E s (lo3 u v r p q g cu cv) (fun t st'=>st'=st∧gp u v o c t) st:=by
 unfold lo3
 obtain⟨x,ex⟩:=d6 (u:=u) (p:=p) (by omega)
 refine wpS_bind (ax ex ?_)
 refine wpS_bind (gQ o hk (L.gu _ _ ex) L.gv (by omega) (by omega) (up_of L.uv _ _) fun k hkn h1 h2=>?_)
 have rest:∀ y∈v.toList.drop (q+k),o.le x y:=fun y hy=>by
  obtain⟨i,hi,ey⟩:=eK.mp hy
  have:=lt_of_at ey
  exact o.le_of_nb (h2 (i-q) y (by omega) (by omega) (by rw[show q+(i-q)=i by omega];exact ey))
 dsimp only
 split
 ·have m':=m.manyB (k:=k) L.uv fun a ha y hy=>by
   obtain⟨i,hi,ea⟩:=gm ha
   exact o.le_trans (o.le_of_b (h1 i a hi ea)) (j0 L.uu ex y hy)
  have m'':o.Mg u.toList v.toList (r++v.extract q (q+k)).toList p (q+k):=by rw[zb5,xk];exact m'
  by_cases h3:q+k=v.size
  ·rw[if_pos (by simpa using h3)]
   exact wpS_pure ⟨rfl,resU m'' L.uu L.uv (.inr (by omega))⟩
  ·rw[if_neg (by simpa using h3)]
   exact wpS_lo4 L m'' hp (by omega) (by omega) ex rest
 ·have:k=0:=by omega
  subst this
  exact wpS_lo4 L m hp hq hc ex rest
theorem wpS_lo2(L:jg o u v)(hk:kindOf st=kd)(m:o.Mg u.toList v.toList r.toList p q)(hp:p+1<u.size)(hq:q<v.size)(hc:c≤p+q){y:Keyed}(ey:v[q]?=some y)(hy:∀ x∈u.toList.drop p,o.le y x) :
  wpS M A E s (lo2 u v r p q g cu cv) (fun t st'=>st'=st∧gp u v o c t) st:=by
 unfold lo2
 refine wpS_bind (ax ey ?_)
 have m':=m.pushB L.uv ey hy
 by_cases h1:q+1=v.size
 ·rw[if_pos (by simpa using h1)]
  exact wpS_pure ⟨rfl,resU m' L.uu L.uv (.inr (by omega))⟩
 ·rw[if_neg (by simpa using h1)]
  exact wpS_lo3 L hk m' hp (by omega) (by omega)
theorem wpS_lo1(L:jg o u v){st0:SortSt}(hs:Gs st0 st)(hk:kindOf st0=kd)(l:Live o u v r p q) :
  wpS M A E s (lo1 u v r p q g cu cv) (fun t st'=>Gs st0 st'∧gp u v o (p+q) t) st:=by
 obtain⟨m,hp,hq⟩:=l
 unfold lo1
 refine wpS_bind (iG hs fun st2 hs2=>?_)
 have hk2:kindOf st2=kd:=hs2.k.trans hk
 obtain⟨y,ey⟩:=d6 hq
 refine wpS_bind (ax ey ?_)
 refine wpS_bind (gQ o hk2 (L.gv _ _ ey) L.gu (by omega) (by omega) (up_of L.uu _ _) fun k hkn h1 h2=>?_)
 have rest:∀ x∈u.toList.drop (p+k),o.le y x:=fun x hx=>by
  obtain⟨i,hi,ex⟩:=eK.mp hx
  have:=lt_of_at ex
  have z:=h2 (i-p) x (by omega) (by omega) (by rw[show p+(i-p)=i by omega];exact ex)
  exact o.le_of_b (by simpa [Ord.byB] using z)
 dsimp only
 split
 ·have m':=m.manyA (k:=k) L.uu fun a ha b hb=>by
   obtain⟨i,hi,ea⟩:=gm ha
   have z:=h1 i a hi ea
   have z':o.b y a=false:=by simpa [Ord.byB] using z
   exact o.le_trans (o.le_of_nb z') (j0 L.uv ey b hb)
  have m'':o.Mg u.toList v.toList (r++u.extract p (p+k)).toList (p+k) q:=by rw[zb5,xk];exact m'
  by_cases h3:p+k+1=u.size
  ·rw[if_pos (by simpa using h3)]
   exact wpS_pure ⟨hs2,resV L m'' h3⟩
  ·rw[if_neg (by simpa using h3)]
   by_cases h4:p+k=u.size
   ·rw[if_pos (by simpa using h4)]
    exact wpS_pure ⟨hs2,resU m'' L.uu L.uv (.inl (by omega))⟩
   ·rw[if_neg (by simpa using h4)]
    exact wpS_mono (wpS_lo2 L hk2 m'' (by omega) hq (by omega) ey rest) fun t st' ⟨e,z⟩=>⟨e▸hs2,z⟩
 ·have:k=0:=by omega
  subst this
  exact wpS_mono (wpS_lo2 L hk2 m hp hq (by omega) ey rest) fun t st' ⟨e,z⟩=>⟨e▸hs2,z⟩
theorem wpS_lo0(L:jg o u v){st0:SortSt}(hs:Gs st0 st)(hk:kindOf st0=kd)(l:Live o u v r p q) :
  wpS M A E s (lo0 u v (none,r,p,q,g,cu,cv)) (fun t st'=>Gs st0 st'∧gp u v o (p+q) t) st:=by
 unfold lo0
 split
 ·exact wpS_lo1 L hs hk l
 ·exact wpS_lo1 L hs hk l
def op0(u v:Array Keyed)(o:Ord M A E s kd)(c:Nat):ForInStep MT0→Prop
 | .done (some z,_)=>Res o u v z
 | .done (none,_)=>False
 | .yield (some _,_)=>False
 | .yield (none,r,p,q,_)=>Live o u v r p q∧c<p+q
theorem wpS_loOut(L:jg o u v){st0:SortSt}(hs:Gs st0 st)(hk:kindOf st0=kd)(l:Live o u v r p q) :
  wpS M A E s (loOut u v (none,r,p,q,g)) (fun t st'=>Gs st0 st'∧op0 u v o (p+q) t) st:=by
 unfold loOut
 have hk1:kindOf st=kd:=hs.k.trans hk
 have hpos:0<u.size+v.size:=by have:=l.2.1;omega
 refine wpS_bind (wpS_mono (wpS_forRange (I:=fun i t st'=>st'=st∧∃ r1 p1 q1 a b,t=(none,r1,p1,q1,a,b)∧Live o u v r1 p1 q1∧p+q+i≤p1+q1)
  (Q:=fun t st'=>st'=st∧((∃ z t',t=(some z,t')∧Res o u v z)∨∃ r1 p1 q1 a b,t=(none,r1,p1,q1,a,b)∧Live o u v r1 p1 q1∧p+q<p1+q1)) ?step ?fin ⟨rfl,r,p,q,0,0,rfl,l,by omega⟩) ?post)
 case fin =>
  rintro t st' ⟨rfl,r1,p1,q1,a,b,rfl,l1,hc⟩
  exact⟨rfl,.inr ⟨r1,p1,q1,a,b,rfl,l1,by omega⟩⟩
 case step =>
  rintro i t st' _ hi ⟨rfl,r1,p1,q1,a,b,rfl,l1,hc⟩
  refine wpS_mono (wpS_loLin L hk1 l1) fun t st'' zz1=>?_
  obtain⟨e,z⟩:=zz1
  subst e
  match t,z with
  | .done (some z,t'),hz=>exact⟨rfl,.inl ⟨z,t',rfl,hz⟩⟩
  | .done (none,r2,p2,q2,a2,b2),hz=>exact⟨rfl,.inr ⟨r2,p2,q2,a2,b2,rfl,hz.1,by have:=hz.2;omega⟩⟩
  | .yield (none,r2,p2,q2,a2,b2),hz=>exact⟨rfl,r2,p2,q2,a2,b2,rfl,hz.1,by have:=hz.2;omega⟩
 case post =>
  rintro t st' ⟨rfl,⟨z,t',rfl,hz⟩ | ⟨r1,p1,q1,a,b,rfl,l1,hc⟩⟩
  ·exact wpS_pure ⟨hs,hz⟩
  ·dsimp only
   refine wpS_bind (wpS_lift (wpAny_rule ⟨rfl,?_⟩))
   refine wpS_bind (wpS_mono (wpS_forRange (I:=fun i t st2=>Gs st0 st2∧∃ r2 p2 q2 g2 a b,t=(none,r2,p2,q2,g2,a,b)∧Live o u v r2 p2 q2∧p+q<p2+q2)
    (Q:=fun t st2=>Gs st0 st2∧((∃ z t',t=(some z,t')∧Res o u v z)∨∃ r2 p2 q2 g2 a b,t=(none,r2,p2,q2,g2,a,b)∧Live o u v r2 p2 q2∧p+q<p2+q2)) ?step2 ?fin2 ⟨hs,r1,p1,q1,_,_,_,rfl,l1,hc⟩) ?post2)
   case fin2 =>
    rintro t st2 ⟨hs2,r2,p2,q2,g2,a,b,rfl,l2,hc2⟩
    exact⟨hs2,.inr ⟨r2,p2,q2,g2,a,b,rfl,l2,hc2⟩⟩
   case step2 =>
    rintro i t st2 _ hi ⟨hs2,r2,p2,q2,g2,a,b,rfl,l2,hc2⟩
    refine wpS_mono (wpS_lo0 L hs2 hk l2) fun t st3 zz1=>?_
    obtain⟨hs3,z⟩:=zz1
    match t,z with
    | .done (some z,t'),hz=>exact⟨hs3,.inl ⟨z,t',rfl,hz⟩⟩
    | .done (none,r3,p3,q3,g3,a3,b3),hz=>exact⟨hs3,.inr ⟨r3,p3,q3,g3,a3,b3,rfl,hz.1,by have:=hz.2;omega⟩⟩
    | .yield (none,r3,p3,q3,g3,a3,b3),hz=>exact⟨hs3,r3,p3,q3,g3,a3,b3,rfl,hz.1,by have:=hz.2;omega⟩
   case post2 =>
    rintro t st2 ⟨hs2,⟨z,t',rfl,hz⟩ | ⟨r2,p2,q2,g2,a,b,rfl,l2,hc2⟩⟩
    ·exact wpS_pure ⟨hs2,hz⟩
    ·exact wpS_bind (iG hs2 fun st3 hs3=>wpS_pure ⟨hs3,l2,hc2⟩)
theorem wpS_mlo(L:jg o u v){Q:Array Keyed→SortSt→Prop}(hk:kindOf st=kd)(hu:0<u.size)(hv:0<v.size)
  (h1:∀ x y,v[0]?=some x→y∈u.toList→o.le x y) (h:∀ st' out,Gs st st'→o.Merged u.toList v.toList out.toList→Q out st'):wpS M A E s (mlo u v) Q st:=by
 rw[mlo_eq]
 refine wpS_bind (wpS_lift (wpAny_rule ⟨rfl,?_⟩))
 obtain⟨y,ey⟩:=d6 hv
 refine wpS_bind (ax ey ?_)
 have m:o.Mg u.toList v.toList (#[y]:Array Keyed).toList 0 1:=by
  have:=(Ord.Mg.zero (o:=o) (la:=u.toList) (lb:=v.toList)).pushB (r:=#[]) L.uv ey (fun x hx=>h1 y x ey (by simpa using hx))
  simpa using this
 by_cases h3:1=v.size
 ·rw[if_pos (by simpa using h3)]
  exact wpS_pure (h _ _ (.refl _) (resU m L.uu L.uv (.inr (by omega))))
 ·rw[if_neg (by simpa using h3)]
  by_cases h4:0+1=u.size
  ·rw[if_pos (by simpa using h4)]
   exact wpS_pure (h _ _ (.refl _) (resV L m h4))
  ·rw[if_neg (by simpa using h4)]
   refine wpS_bind (wpS_get ?_)
   refine wpS_bind (wpS_mono (wpS_forRange (I:=fun i t st2=>Gs st st2∧∃ r2 p2 q2 g2,t=(none,r2,p2,q2,g2)∧Live o u v r2 p2 q2∧i<p2+q2)
    (Q:=fun t st2=>Gs st st2∧∃ z t',t=(some z,t')∧Res o u v z) ?step ?fin ⟨.refl _,_,0,1,_,rfl,⟨m,by omega,by omega⟩,by omega⟩) ?post)
   case fin =>
    rintro t st2 ⟨hs2,r2,p2,q2,g2,rfl,l2,hc⟩
    have:=l2.2.1
    have:=l2.2.2
    omega
   case step =>
    rintro i t st2 _ hi ⟨hs2,r2,p2,q2,g2,rfl,l2,hc⟩
    refine wpS_mono (wpS_loOut L hs2 hk l2) fun t st3 zz1=>?_
    obtain⟨hs3,z⟩:=zz1
    match t,z with
    | .done (some z,t'),hz=>exact⟨hs3,z,t',rfl,hz⟩
    | .yield (none,r3,p3,q3,g3),hz=>exact⟨hs3,r3,p3,q3,g3,rfl,hz.1,by have:=hz.2;omega⟩
   case post =>
    rintro t st2 ⟨hs2,z,t',rfl,hz⟩
    exact wpS_pure (h _ _ hs2 hz)
end
section
abbrev NT1:=Option (Array Keyed)×Nat×Nat×Array Keyed×Nat×Nat
abbrev NT2:=Option (Array Keyed)×Nat×Nat×Array Keyed×Nat×Nat×Nat
abbrev NT0:=Option (Array Keyed)×Nat×Nat×Array Keyed×Nat
variable(u v:Array Keyed)
def hiU(p q:Nat)(r:Array Keyed):Array Keyed:=u.extract 0 p++v.extract 0 q++r.reverse
def hiV(p q:Nat)(r:Array Keyed):Array Keyed:=v.extract 0 q++u.extract 0 p++r.reverse
def hiLin(g:Nat)(t:NT1):StateT SortSt Sem (ForInStep NT1):=do
 let y ← elem' v (t.2.2.1-1)
 let x ← elem' u (t.2.1-1)
 match ← lt' y x with
 | some less =>
  if less then do
   let x ← elem' u (t.2.1-1)
   if t.2.1-1==0 then pure (.done (some (hiU u v (t.2.1-1) t.2.2.1 (t.2.2.2.1.push x)),t.2.1-1,t.2.2.1,t.2.2.2.1.push x,t.2.2.2.2.1+1,0))
   else if t.2.2.2.2.1+1 ≥ g then pure (.done (none,t.2.1-1,t.2.2.1,t.2.2.2.1.push x,t.2.2.2.2.1+1,0))
   else pure (.yield (none,t.2.1-1,t.2.2.1,t.2.2.2.1.push x,t.2.2.2.2.1+1,0))
  else do
   let y ← elem' v (t.2.2.1-1)
   if t.2.2.1-1==1 then pure (.done (some (hiV u v t.2.1 (t.2.2.1-1) (t.2.2.2.1.push y)),t.2.1,t.2.2.1-1,t.2.2.2.1.push y,0,t.2.2.2.2.2+1))
   else if t.2.2.2.2.2+1 ≥ g then pure (.done (none,t.2.1,t.2.2.1-1,t.2.2.2.1.push y,0,t.2.2.2.2.2+1))
   else pure (.yield (none,t.2.1,t.2.2.1-1,t.2.2.2.1.push y,0,t.2.2.2.2.2+1))
 | _=>pure (.done (some (hiU u v t.2.1 t.2.2.1 t.2.2.2.1),t.2.1,t.2.2.1,t.2.2.2.1,t.2.2.2.2.1,t.2.2.2.2.2))
def hi4(p q:Nat)(r:Array Keyed)(g cu cv:Nat):StateT SortSt Sem (ForInStep NT2):=do
 let x ← elem' u (p-1)
 if p-1==0 then pure (.done (some (hiU u v (p-1) q (r.push x)),p-1,q,r.push x,g,cu,cv))
 else if cu<7&&cv<7 then pure (.done (none,p-1,q,r.push x,g,cu,cv))
 else pure (.yield (none,p-1,q,r.push x,g,cu,cv))
def hi3(p q:Nat)(r:Array Keyed)(g cu cv:Nat):StateT SortSt Sem (ForInStep NT2):=do
 let x ← elem' u (p-1)
 match ← gal true x v 0 q (q-1) with
 | some k =>
  if q-k>0 then
   if k==1 then pure (.done (some (hiV u v p k (r++(v.extract k q).reverse)),p,k,r++(v.extract k q).reverse,g,cu,q-k))
   else if k==0 then pure (.done (some (hiU u v p k (r++(v.extract k q).reverse)),p,k,r++(v.extract k q).reverse,g,cu,q-k))
   else hi4 u v p k (r++(v.extract k q).reverse) g cu (q-k)
  else hi4 u v p q r g cu (q-k)
 | _=>pure (.done (some (hiU u v p q r),p,q,r,g,cu,cv))
def hi2(p q:Nat)(r:Array Keyed)(g cu cv:Nat):StateT SortSt Sem (ForInStep NT2):=do
 let y ← elem' v (q-1)
 if q-1==1 then pure (.done (some (hiV u v p (q-1) (r.push y)),p,q-1,r.push y,g,cu,cv))
 else hi3 u v p (q-1) (r.push y) g cu cv
def hi1(p q:Nat)(r:Array Keyed)(g cu cv:Nat):StateT SortSt Sem (ForInStep NT2):=do
 setG g
 let y ← elem' v (q-1)
 match ← gal false y u 0 p (p-1) with
 | some k =>
  if p-k>0 then
   if k==0 then pure (.done (some (hiU u v k q (r++(u.extract k p).reverse)),k,q,r++(u.extract k p).reverse,g,p-k,cv))
   else hi2 u v k q (r++(u.extract k p).reverse) g (p-k) cv
  else hi2 u v p q r g (p-k) cv
 | _=>pure (.done (some (hiU u v p q r),p,q,r,g,cu,cv))
def hi0(t:NT2):StateT SortSt Sem (ForInStep NT2) :=
 if t.2.2.2.2.1>1 then hi1 u v t.2.1 t.2.2.1 t.2.2.2.1 (t.2.2.2.2.1-1) t.2.2.2.2.2.1 t.2.2.2.2.2.2 else hi1 u v t.2.1 t.2.2.1 t.2.2.2.1 t.2.2.2.2.1 t.2.2.2.2.2.1 t.2.2.2.2.2.2
def hiOut(t:NT0):StateT SortSt Sem (ForInStep NT0):=do
 let t1 ← forIn [0:u.size+v.size] ((none,t.2.1,t.2.2.1,t.2.2.2.1,0,0):NT1) (fun _ t1=>hiLin u v t.2.2.2.2 t1)
 match t1.1 with
 | some z=>pure (.done (some z,t1.2.1,t1.2.2.1,t1.2.2.2.1,t.2.2.2.2))
 | none=>do
  rule "list.sort.gallop"
  let t2 ← forIn [0:u.size+v.size] ((none,t1.2.1,t1.2.2.1,t1.2.2.2.1,t.2.2.2.2+1,t1.2.2.2.2.1,t1.2.2.2.2.2):NT2) (fun _ t2=>hi0 u v t2)
  match t2.1 with
  | some z=>pure (.done (some z,t2.2.1,t2.2.2.1,t2.2.2.2.1,t2.2.2.2.2.1))
  | none=>do
   setG (t2.2.2.2.2.1+1)
   pure (.yield (none,t2.2.1,t2.2.2.1,t2.2.2.2.1,t2.2.2.2.2.1+1))
def mhi:Array Keyed→Array Keyed→StateT SortSt Sem (Array Keyed):=sortPriv% PySem.Builtin.mergeHi
theorem mhi_eq0:mhi u v=(do
  rule "list.sort.merge-hi"
  let fullEnd (r:Array Keyed) (p q:Nat):=u.extract 0 p++v.extract 0 q++r.reverse
  let firstV (r:Array Keyed) (p q:Nat):=v.extract 0 q++u.extract 0 p++r.reverse
  let mut p:=u.size-1
  let mut q:=v.size
  let mut r:Array Keyed:=#[← elem' u p]
  if p==0 then return fullEnd r p q
  if q==1 then return firstV r p q
  let mut g:=gallopOf (← get)
  for _ in [0:u.size+v.size] do
   let mut cu:=0
   let mut cv:=0
   for _ in [0:u.size+v.size] do
    let some less ← lt' (← elem' v (q-1)) (← elem' u (p-1)) | return fullEnd r p q
    if less then
     p:=p-1;r:=r.push (← elem' u p);cu:=cu+1;cv:=0
     if p==0 then return fullEnd r p q
     if cu ≥ g then break
    else
     q:=q-1;r:=r.push (← elem' v q);cv:=cv+1;cu:=0
     if q==1 then return firstV r p q
     if cv ≥ g then break
   rule "list.sort.gallop"
   g:=g+1
   for _ in [0:u.size+v.size] do
    if g>1 then g:=g-1
    setG g
    let some m ← gal false (← elem' v (q-1)) u 0 p (p-1) | return fullEnd r p q
    let k:=p-m
    cu:=k
    if k>0 then
     r:=r++(u.extract m p).reverse;p:=m
     if p==0 then return fullEnd r p q
    q:=q-1;r:=r.push (← elem' v q)
    if q==1 then return firstV r p q
    let some m ← gal true (← elem' u (p-1)) v 0 q (q-1) | return fullEnd r p q
    let k:=q-m
    cv:=k
    if k>0 then
     r:=r++(v.extract m q).reverse;q:=m
     if q==1 then return firstV r p q
     if q==0 then return fullEnd r p q
    p:=p-1;r:=r.push (← elem' u p)
    if p==0 then return fullEnd r p q
    if cu<7&&cv<7 then break
   g:=g+1
   setG g
  unsupported "internal:list.sort.merge-bound"):=rfl
theorem mhi_eq:mhi u v=(do
  rule "list.sort.merge-hi"
  let x ← elem' u (u.size-1)
  if u.size-1==0 then pure (hiU u v (u.size-1) v.size #[x])
  else if v.size==1 then pure (hiV u v (u.size-1) v.size #[x])
  else do
   let st ← get
   let t ← forIn [0:u.size+v.size] ((none,u.size-1,v.size,#[x],gallopOf st):NT0) (fun _ t=>hiOut u v t)
   match t.1 with
   | some z=>pure z
   | none=>unsupported "internal:list.sort.merge-bound"):=by
 rw[mhi_eq0]
 dsimp only[hiOut,hi0,hi1,hi2,hi3,hi4,hiLin,hiU,hiV]
 refine bind_congr fun _=>bind_congr fun y=>?_
 refine ite_congr rfl (fun _=>rfl) fun _=>ite_congr rfl (fun _=>rfl) fun _=>?_
 refine bind_congr fun st=>?_
 refine gM (congrArg (forIn _ _) (funext fun x=>funext fun t=>?_)) ?_
 ·refine gM (congrArg (forIn _ _) (funext fun x=>funext fun t1=>?_)) (funext fun t1=>?_)
  ·refine bind_congr fun y=>bind_congr fun x=>bind_congr fun z=>?_
   cases z with
   | none=>with_reducible rfl
   | some z=>cases z<;>with_reducible rfl
  ·obtain⟨z,t1⟩:=t1
   cases z with
   | some z=>with_reducible rfl
   | none =>
    dsimp only
    refine bind_congr fun _=>?_
    refine gM (congrArg (forIn _ _) (funext fun x=>funext fun t2=>?_)) (funext fun t2=>?_)
    ·refine ite_congr rfl (fun _=>?_) (fun _=>?_)
     all_goals (refine bind_congr fun _=>bind_congr fun y=>bind_congr fun k=>?_)
     all_goals cases k
     ·with_reducible rfl
     ·refine ite_congr rfl (fun _=>ite_congr rfl (fun _=>rfl) fun _=>?_) (fun _=>?_)
      all_goals (refine bind_congr fun _=>ite_congr rfl (fun _=>rfl) fun _=>bind_congr fun _=>bind_congr fun k=>?_)
      all_goals cases k<;>with_reducible rfl
     ·with_reducible rfl
     ·refine ite_congr rfl (fun _=>ite_congr rfl (fun _=>rfl) fun _=>?_) (fun _=>?_)
      all_goals (refine bind_congr fun _=>ite_congr rfl (fun _=>rfl) fun _=>bind_congr fun _=>bind_congr fun k=>?_)
      all_goals cases k<;>with_reducible rfl
    ·obtain⟨z,t2⟩:=t2
     cases z<;>with_reducible rfl
 ·funext t
  obtain⟨z,t⟩:=t
  cases z<;>with_reducible rfl
end
section
variable{M:Model}{A:Around}{E:Value→Shared→Prop}{s:Shared}{kd:SortKind}
structure Ord.Hg(o:Ord M A E s kd)(la lb out:List Keyed)(i j:Nat):Prop where
 perm:out.Perm (la.drop i++lb.drop j)
 up:out.Pairwise o.le
 la:∀ x∈out,∀ y∈la.take i,o.le y x
 lb:∀ x∈out,∀ y∈lb.take j,o.le y x
section
variable{o:Ord M A E s kd}{la lb out:List Keyed}{i j k:Nat}
theorem Ord.Hg.manyA(m:o.Hg la lb out i j)(ua:la.Pairwise o.le)(hk:k≤i)(h:∀ x∈(la.take i).drop k,∀ y∈lb.take j,o.le y x):o.Hg la lb ((la.take i).drop k++out) k j:=by
 have ut:(la.take i).Pairwise o.le:=ua.sublist (zbz _ _)
 have et:la.take k++(la.take i).drop k=la.take i:=by
  have:=zaz k (la.take i)
  rwa [List.take_take,Nat.min_eq_left hk]at this
 have ed:(la.take i).drop k++la.drop i=la.drop k:=by
  have:(la.take i++la.drop i).drop k=la.drop k:=by rw[zaz]
  rw[← this,List.drop_append]
  by_cases hl:k≤(la.take i).length
  ·rw[Nat.sub_eq_zero_of_le hl,List.drop_zero]
  ·have hl':la.length<k:=by
    rw[zan]at hl
    omega
   rw[zbp (show(la.take i).length≤k by rw[zan];omega),zbp (show la.length≤i by omega)]
   simp
 refine⟨?_,?_,?_,?_⟩
 ·rw[← ed,zai]
  exact List.Perm.append_left _ m.perm
 ·exact zav.mpr ⟨ut.sublist (zce _ _),m.up,fun x hx y hy=>m.la y hy x (zcd hx)⟩
 ·intro x hx y hy
  rcases za9.mp hx with hx | hx
  ·rw[← et]at ut
   exact(zav.mp ut).2.2 y hy x hx
  ·exact m.la x hx y (by rw[← et];exact zae _ hy)
 ·intro x hx y hy
  rcases za9.mp hx with hx | hx
  ·exact h x hx y hy
  ·exact m.lb x hx y hy
theorem Ord.Hg.swap(m:o.Hg la lb out i j):o.Hg lb la out j i:=⟨m.perm.trans zb2,m.up,m.lb,m.la⟩
theorem Ord.Hg.manyB(m:o.Hg la lb out i j)(ub:lb.Pairwise o.le)(hk:k≤j)(h:∀ x∈(lb.take j).drop k,∀ y∈la.take i,o.le y x):o.Hg la lb ((lb.take j).drop k++out) i k:=(m.swap.manyA ub hk h).swap
theorem Ord.Hg.endA(m:o.Hg la lb out i j)(ua:la.Pairwise o.le)(ub:lb.Pairwise o.le)(h:∀ x∈la.take i,∀ y∈lb.take j,o.le x y):o.Merged la lb (la.take i++lb.take j++out):=by
 refine⟨?_,?_⟩
 ·refine(List.Perm.append_left _ m.perm).trans ?_
  have e1:la=la.take i++la.drop i:=(zaz _ _).symm
  have e2:lb=lb.take j++lb.drop j:=(zaz _ _).symm
  refine List.Perm.trans ?_ (show(la.take i++la.drop i++(lb.take j++lb.drop j)).Perm (la++lb) by rw[← e1,← e2])
  simp only[zai]
  refine List.Perm.append_left _ ?_
  rw[← zai,← zai]
  exact List.Perm.append_right _ zb2
 ·refine zav.mpr ⟨zav.mpr ⟨ua.sublist (zbz _ _),ub.sublist (zbz _ _),h⟩,m.up,fun x hx y hy=>?_⟩
  rcases za9.mp hx with hx | hx
  ·exact m.la y hy x hx
  ·exact m.lb y hy x hx
theorem Ord.Hg.endB(m:o.Hg la lb out i j)(ua:la.Pairwise o.le)(ub:lb.Pairwise o.le)(h:∀ x∈lb.take j,∀ y∈la.take i,o.le x y):o.Merged la lb (lb.take j++la.take i++out):=(m.swap.endA ub ua h).swap
end
theorem x0{u:Array Keyed}{p:Nat}:(u.extract 0 p).toList=u.toList.take p:=by
 rw[Array.toList_extract]
 show(u.toList.drop 0).take (p-0)=_
 simp
theorem xd{u:Array Keyed}{k p:Nat}:(u.extract k p).toList=(u.toList.take p).drop k:=by
 rw[Array.toList_extract,List.drop_take]
theorem iY{u:Array Keyed}{p:Nat}{y:Keyed}(h:y∈u.toList.take p):∃ i,i<p∧u[i]?=some y:=by
 obtain⟨i,hi,e⟩:=gm (u:=u) (p:=0) (k:=p) (by simpa using h)
 exact⟨i,hi,by simpa using e⟩
theorem mem_seg{u:Array Keyed}{k p:Nat}{y:Keyed}(h:y∈(u.toList.take p).drop k):∃ i,k≤i∧i<p∧u[i]?=some y:=by
 obtain⟨n,e⟩:=zaw.mp h
 rw[zbd,zbo]at e
 split at e
 ·exact⟨k+n,by omega,by assumption,by simpa using e⟩
 ·cases e
theorem seg1{u:Array Keyed}{p:Nat}{x:Keyed}(h0:0<p)(e:u[p-1]?=some x):(u.toList.take p).drop (p-1)=[x]:=by
 rw[List.drop_take,show p-(p-1)=1 by omega]
 exact drop1 e
theorem iZ{o:Ord M A E s kd}{u:Array Keyed}(uu:u.toList.Pairwise o.le){p:Nat}{x:Keyed}(e:u[p-1]?=some x):∀ y∈u.toList.take p,o.le y x:=fun y hy=>by
 obtain⟨i,hi,ey⟩:=iY hy
 exact up_at uu (by omega) ey e
section
variable(o:Ord M A E s kd)(u v:Array Keyed)
structure jh:Prop where
 gu:o.all u
 gv:o.all v
 uu:u.toList.Pairwise o.le
 uv:v.toList.Pairwise o.le
 h1:∀ x y,v[0]?=some x→y∈u.toList→o.le x y
def eH(p q:Nat)(r:Array Keyed):Prop:=o.Hg u.toList v.toList r.toList.reverse p q∧0<p∧1<q∧p≤u.size∧q≤v.size
end
variable{o:Ord M A E s kd}{u v:Array Keyed}{r:Array Keyed}{p q g cu cv c:Nat}{st:SortSt}
theorem Ord.Hg.pushA(m:o.Hg u.toList v.toList r.toList.reverse p q)(uu:u.toList.Pairwise o.le)(h0:0<p){x:Keyed}(e:u[p-1]?=some x)(h:∀ y∈v.toList.take q,o.le y x):o.Hg u.toList v.toList (r.push x).toList.reverse (p-1) q:=by
 have:=m.manyA (k:=p-1) uu (by omega) (by rw[seg1 h0 e];intro a ha y hy;rw[za7.mp ha];exact h y hy)
 rw[seg1 h0 e]at this
 simpa using this
theorem Ord.Hg.pushB(m:o.Hg u.toList v.toList r.toList.reverse p q)(uv:v.toList.Pairwise o.le)(h0:0<q){y:Keyed}(e:v[q-1]?=some y)(h:∀ x∈u.toList.take p,o.le x y):o.Hg u.toList v.toList (r.push y).toList.reverse p (q-1):=by
 have:=m.manyB (k:=q-1) uv (by omega) (by rw[seg1 h0 e];intro a ha y hy;rw[za7.mp ha];exact h y hy)
 rw[seg1 h0 e]at this
 simpa using this
theorem resHU(m:o.Hg u.toList v.toList r.toList.reverse p q)(uu:u.toList.Pairwise o.le)(uv:v.toList.Pairwise o.le)(h:p=0∨q=0):Res o u v (hiU u v p q r):=by
 unfold Res hiU
 rw[zb5,zb5,x0,x0,Array.toList_reverse]
 refine m.endA uu uv fun x hx y hy=>?_
 rcases h with rfl | rfl
 ·rw[zb3]at hx;cases hx
 ·rw[zb3]at hy;cases hy
theorem resHV(L:jh o u v)(m:o.Hg u.toList v.toList r.toList.reverse p q)(h:q=1):Res o u v (hiV u v p q r):=by
 unfold Res hiV
 rw[zb5,zb5,x0,x0,Array.toList_reverse]
 refine m.endB L.uu L.uv fun x hx y hy=>?_
 subst h
 obtain⟨i,hi,ex⟩:=iY hx
 have:i=0:=by omega
 subst this
 exact L.h1 x y ex (zby hy)
def hlp(u v:Array Keyed)(o:Ord M A E s kd)(c:Nat):ForInStep NT1→Prop
 | .done (some z,_)=>Res o u v z
 | .done (none,p,q,r,_)=>eH o u v p q r∧p+q<c
 | .yield (some _,_)=>False
 | .yield (none,p,q,r,_)=>eH o u v p q r∧p+q<c
theorem wpS_hiLin(L:jh o u v){a b:Nat}(hk:kindOf st=kd)(l:eH o u v p q r):wpS M A E s (hiLin u v g (none,p,q,r,a,b)) (fun t st'=>st'=st∧hlp u v o (p+q) t) st:=by
 obtain⟨m,hp,hq,hpu,hqv⟩:=l
 obtain⟨x,ex⟩:=d6 (u:=u) (p:=p-1) (by omega)
 obtain⟨y,ey⟩:=d6 (u:=v) (p:=q-1) (by omega)
 unfold hiLin
 refine wpS_bind (ax ey (wpS_bind (ax ex (wpS_bind (o.lt hk (L.gv _ _ ey) (L.gu _ _ ex) ?_)))))
 dsimp only
 cases hb:o.O.blt (o.key y) (o.key x) with
 | true =>
  refine wpS_bind (ax ex ?_)
  have m':=m.pushA L.uu hp ex fun z hz=>o.le_trans (iZ L.uv ey z hz) (o.le_of_b hb)
  by_cases h1:p-1=0
  ·rw[if_pos (by simpa using h1)]
   exact wpS_pure ⟨rfl,resHU m' L.uu L.uv (.inl h1)⟩
  ·rw[if_neg (by simpa using h1)]
   split
   ·exact wpS_pure ⟨rfl,⟨m',by omega,hq,by omega,hqv⟩,by omega⟩
   ·exact wpS_pure ⟨rfl,⟨m',by omega,hq,by omega,hqv⟩,by omega⟩
 | false =>
  refine wpS_bind (ax ey ?_)
  have m':=m.pushB L.uv (by omega) ey fun z hz=>o.le_trans (iZ L.uu ex z hz) (o.le_of_nb hb)
  by_cases h1:q-1=1
  ·rw[if_pos (by simpa using h1)]
   exact wpS_pure ⟨rfl,resHV L m' h1⟩
  ·rw[if_neg (by simpa using h1)]
   split
   ·exact wpS_pure ⟨rfl,⟨m',hp,by omega,hpu,by omega⟩,by omega⟩
   ·exact wpS_pure ⟨rfl,⟨m',hp,by omega,hpu,by omega⟩,by omega⟩
def hgp(u v:Array Keyed)(o:Ord M A E s kd)(c:Nat):ForInStep NT2→Prop
 | .done (some z,_)=>Res o u v z
 | .done (none,p,q,r,_)=>eH o u v p q r∧p+q<c
 | .yield (some _,_)=>False
 | .yield (none,p,q,r,_)=>eH o u v p q r∧p+q<c
theorem wpS_hi4(L:jh o u v)(l:eH o u v p q r)(hc:p+q≤c){x:Keyed}(ex:u[p-1]?=some x)(hx:∀ y∈v.toList.take q,o.le y x) :
  wpS M A E s (hi4 u v p q r g cu cv) (fun t st'=>st'=st∧hgp u v o c t) st:=by
 obtain⟨m,hp,hq,hpu,hqv⟩:=l
 unfold hi4
 refine wpS_bind (ax ex ?_)
 have m':=m.pushA L.uu hp ex hx
 by_cases h1:p-1=0
 ·rw[if_pos (by simpa using h1)]
  exact wpS_pure ⟨rfl,resHU m' L.uu L.uv (.inl h1)⟩
 ·rw[if_neg (by simpa using h1)]
  split
  ·exact wpS_pure ⟨rfl,⟨m',by omega,hq,by omega,hqv⟩,by omega⟩
  ·exact wpS_pure ⟨rfl,⟨m',by omega,hq,by omega,hqv⟩,by omega⟩
theorem wpS_hi3(L:jh o u v)(hk:kindOf st=kd)(l:eH o u v p q r)(hc:p+q≤c) :
  wpS M A E s (hi3 u v p q r g cu cv) (fun t st'=>st'=st∧hgp u v o c t) st:=by
 obtain⟨m,hp,hq,hpu,hqv⟩:=l
 unfold hi3
 obtain⟨x,ex⟩:=d6 (u:=u) (p:=p-1) (by omega)
 refine wpS_bind (ax ex ?_)
 refine wpS_bind (gQ o hk (L.gu _ _ ex) L.gv (by omega) (by omega) (up_of L.uv _ _) fun k hkn h1 h2=>?_)
 have rest:∀ y∈v.toList.take k,o.le y x:=fun y hy=>by
  obtain⟨i,hi,ey⟩:=iY hy
  exact o.le_of_b (h1 i y hi (by rw[Nat.zero_add];exact ey))
 dsimp only
 split
 ·have m':=m.manyB (k:=k) L.uv hkn fun b hb a ha=>by
   obtain⟨i,hi,hi2,eb⟩:=mem_seg hb
   exact o.le_trans (iZ L.uu ex a ha) (o.le_of_nb (h2 i b hi hi2 (by rw[Nat.zero_add];exact eb)))
  have m'':o.Hg u.toList v.toList (r++(v.extract k q).reverse).toList.reverse p k:=by
   rw[zb5,List.reverse_append,Array.toList_reverse,List.reverse_reverse,xd];exact m'
  by_cases h3:k=1
  ·rw[if_pos (by simpa using h3)]
   exact wpS_pure ⟨rfl,resHV L m'' h3⟩
  ·rw[if_neg (by simpa using h3)]
   by_cases h4:k=0
   ·rw[if_pos (by simpa using h4)]
    exact wpS_pure ⟨rfl,resHU m'' L.uu L.uv (.inr h4)⟩
   ·rw[if_neg (by simpa using h4)]
    exact wpS_hi4 L ⟨m'',hp,by omega,hpu,by omega⟩ (by omega) ex rest
 ·have:k=q:=by omega
  subst this
  exact wpS_hi4 L ⟨m,hp,hq,hpu,hqv⟩ hc ex rest
theorem wpS_hi2(L:jh o u v)(hk:kindOf st=kd)(l:eH o u v p q r)(hc:p+q≤c){y:Keyed}(ey:v[q-1]?=some y)(hy:∀ x∈u.toList.take p,o.le x y) :
  wpS M A E s (hi2 u v p q r g cu cv) (fun t st'=>st'=st∧hgp u v o c t) st:=by
 obtain⟨m,hp,hq,hpu,hqv⟩:=l
 unfold hi2
 refine wpS_bind (ax ey ?_)
 have m':=m.pushB L.uv (by omega) ey hy
 by_cases h1:q-1=1
 ·rw[if_pos (by simpa using h1)]
  exact wpS_pure ⟨rfl,resHV L m' h1⟩
 ·rw[if_neg (by simpa using h1)]
  exact wpS_hi3 L hk ⟨m',hp,by omega,hpu,by omega⟩ (by omega)
theorem wpS_hi1(L:jh o u v){st0:SortSt}(hs:Gs st0 st)(hk:kindOf st0=kd)(l:eH o u v p q r) :
  wpS M A E s (hi1 u v p q r g cu cv) (fun t st'=>Gs st0 st'∧hgp u v o (p+q) t) st:=by
 obtain⟨m,hp,hq,hpu,hqv⟩:=id l
 unfold hi1
 refine wpS_bind (iG hs fun st2 hs2=>?_)
 have hk2:kindOf st2=kd:=hs2.k.trans hk
 obtain⟨y,ey⟩:=d6 (u:=v) (p:=q-1) (by omega)
 refine wpS_bind (ax ey ?_)
 refine wpS_bind (gQ o hk2 (L.gv _ _ ey) L.gu (by omega) (by omega) (up_of L.uu _ _) fun k hkn h1 h2=>?_)
 have rest:∀ x∈u.toList.take k,o.le x y:=fun x hx=>by
  obtain⟨i,hi,ex⟩:=iY hx
  have z:=h1 i x hi (by rw[Nat.zero_add];exact ex)
  have z':o.b y x=false:=by simpa [Ord.byB] using z
  exact o.le_of_nb z'
 dsimp only
 split
 ·have m':=m.manyA (k:=k) L.uu hkn fun a ha b hb=>by
   obtain⟨i,hi,hi2,ea⟩:=mem_seg ha
   have z:=h2 i a hi hi2 (by rw[Nat.zero_add];exact ea)
   have z':o.b y a=true:=by simpa [Ord.byB] using z
   exact o.le_trans (iZ L.uv ey b hb) (o.le_of_b z')
  have m'':o.Hg u.toList v.toList (r++(u.extract k p).reverse).toList.reverse k q:=by
   rw[zb5,List.reverse_append,Array.toList_reverse,List.reverse_reverse,xd];exact m'
  by_cases h4:k=0
  ·rw[if_pos (by simpa using h4)]
   exact wpS_pure ⟨hs2,resHU m'' L.uu L.uv (.inl h4)⟩
  ·rw[if_neg (by simpa using h4)]
   exact wpS_mono (wpS_hi2 L hk2 ⟨m'',by omega,hq,by omega,hqv⟩ (by omega) ey rest) fun t st' ⟨e,z⟩=>⟨e▸hs2,z⟩
 ·have:k=p:=by omega
  subst this
  exact wpS_mono (wpS_hi2 L hk2 l (by omega) ey rest) fun t st' ⟨e,z⟩=>⟨e▸hs2,z⟩
theorem wpS_hi0(L:jh o u v){st0:SortSt}(hs:Gs st0 st)(hk:kindOf st0=kd)(l:eH o u v p q r) :
  wpS M A E s (hi0 u v (none,p,q,r,g,cu,cv)) (fun t st'=>Gs st0 st'∧hgp u v o (p+q) t) st:=by
 unfold hi0
 split
 ·exact wpS_hi1 L hs hk l
 ·exact wpS_hi1 L hs hk l
def hop(u v:Array Keyed)(o:Ord M A E s kd)(c:Nat):ForInStep NT0→Prop
 | .done (some z,_)=>Res o u v z
 | .done (none,_)=>False
 | .yield (some _,_)=>False
 | .yield (none,p,q,r,_)=>eH o u v p q r∧p+q<c
theorem wpS_hiOut(L:jh o u v){st0:SortSt}(hs:Gs st0 st)(hk:kindOf st0=kd)(l:eH o u v p q r) :
  wpS M A E s (hiOut u v (none,p,q,r,g)) (fun t st'=>Gs st0 st'∧hop u v o (p+q) t) st:=by
 unfold hiOut
 have hk1:kindOf st=kd:=hs.k.trans hk
 have hpos:0<u.size+v.size:=by have:=l.2.2.2.1;have:=l.2.1;omega
 refine wpS_bind (wpS_mono (wpS_forRange (I:=fun i t st'=>st'=st∧∃ p1 q1 r1 a b,t=(none,p1,q1,r1,a,b)∧eH o u v p1 q1 r1∧p1+q1+i≤p+q)
  (Q:=fun t st'=>st'=st∧((∃ z t',t=(some z,t')∧Res o u v z)∨∃ p1 q1 r1 a b,t=(none,p1,q1,r1,a,b)∧eH o u v p1 q1 r1∧p1+q1<p+q)) ?step ?fin ⟨rfl,p,q,r,0,0,rfl,l,by omega⟩) ?post)
 case fin =>
  rintro t st' ⟨rfl,p1,q1,r1,a,b,rfl,l1,hc⟩
  exact⟨rfl,.inr ⟨p1,q1,r1,a,b,rfl,l1,by omega⟩⟩
 case step =>
  rintro i t st' _ hi ⟨rfl,p1,q1,r1,a,b,rfl,l1,hc⟩
  refine wpS_mono (wpS_hiLin L hk1 l1) fun t st'' zz1=>?_
  obtain⟨e,z⟩:=zz1
  subst e
  match t,z with
  | .done (some z,t'),hz=>exact⟨rfl,.inl ⟨z,t',rfl,hz⟩⟩
  | .done (none,p2,q2,r2,a2,b2),hz=>exact⟨rfl,.inr ⟨p2,q2,r2,a2,b2,rfl,hz.1,by have:=hz.2;omega⟩⟩
  | .yield (none,p2,q2,r2,a2,b2),hz=>exact⟨rfl,p2,q2,r2,a2,b2,rfl,hz.1,by have:=hz.2;omega⟩
 case post =>
  rintro t st' ⟨rfl,⟨z,t',rfl,hz⟩ | ⟨p1,q1,r1,a,b,rfl,l1,hc⟩⟩
  ·exact wpS_pure ⟨hs,hz⟩
  ·dsimp only
   refine wpS_bind (wpS_lift (wpAny_rule ⟨rfl,?_⟩))
   refine wpS_bind (wpS_mono (wpS_forRange (I:=fun i t st2=>Gs st0 st2∧∃ p2 q2 r2 g2 a b,t=(none,p2,q2,r2,g2,a,b)∧eH o u v p2 q2 r2∧p2+q2<p+q)
    (Q:=fun t st2=>Gs st0 st2∧((∃ z t',t=(some z,t')∧Res o u v z)∨∃ p2 q2 r2 g2 a b,t=(none,p2,q2,r2,g2,a,b)∧eH o u v p2 q2 r2∧p2+q2<p+q)) ?step2 ?fin2 ⟨hs,p1,q1,r1,_,_,_,rfl,l1,hc⟩) ?post2)
   case fin2 =>
    rintro t st2 ⟨hs2,p2,q2,r2,g2,a,b,rfl,l2,hc2⟩
    exact⟨hs2,.inr ⟨p2,q2,r2,g2,a,b,rfl,l2,hc2⟩⟩
   case step2 =>
    rintro i t st2 _ hi ⟨hs2,p2,q2,r2,g2,a,b,rfl,l2,hc2⟩
    refine wpS_mono (wpS_hi0 L hs2 hk l2) fun t st3 zz1=>?_
    obtain⟨hs3,z⟩:=zz1
    match t,z with
    | .done (some z,t'),hz=>exact⟨hs3,.inl ⟨z,t',rfl,hz⟩⟩
    | .done (none,p3,q3,r3,g3,a3,b3),hz=>exact⟨hs3,.inr ⟨p3,q3,r3,g3,a3,b3,rfl,hz.1,by have:=hz.2;omega⟩⟩
    | .yield (none,p3,q3,r3,g3,a3,b3),hz=>exact⟨hs3,p3,q3,r3,g3,a3,b3,rfl,hz.1,by have:=hz.2;omega⟩
   case post2 =>
    rintro t st2 ⟨hs2,⟨z,t',rfl,hz⟩ | ⟨p2,q2,r2,g2,a,b,rfl,l2,hc2⟩⟩
    ·exact wpS_pure ⟨hs2,hz⟩
    ·exact wpS_bind (iG hs2 fun st3 hs3=>wpS_pure ⟨hs3,l2,hc2⟩)
theorem wpS_mhi(L:jh o u v){Q:Array Keyed→SortSt→Prop}(hk:kindOf st=kd)(hu:0<u.size)(hv:0<v.size)
  (h2:∀ x y,x∈v.toList→u[u.size-1]?=some y→o.le x y) (h:∀ st' out,Gs st st'→o.Merged u.toList v.toList out.toList→Q out st'):wpS M A E s (mhi u v) Q st:=by
 rw[mhi_eq]
 refine wpS_bind (wpS_lift (wpAny_rule ⟨rfl,?_⟩))
 obtain⟨x,ex⟩:=d6 (u:=u) (p:=u.size-1) (by omega)
 refine wpS_bind (ax ex ?_)
 have m0:o.Hg u.toList v.toList (#[]:Array Keyed).toList.reverse u.size v.size:=⟨by simp,by simp,by simp,by simp⟩
 have m:o.Hg u.toList v.toList (#[x]:Array Keyed).toList.reverse (u.size-1) v.size:=by
  have:=m0.pushA L.uu hu ex (fun y hy=>h2 y x (zby hy) ex)
  simpa using this
 by_cases h3:u.size-1=0
 ·rw[if_pos (by simpa using h3)]
  exact wpS_pure (h _ _ (.refl _) (resHU m L.uu L.uv (.inl h3)))
 ·rw[if_neg (by simpa using h3)]
  by_cases h4:v.size=1
  ·rw[if_pos (by simpa using h4)]
   exact wpS_pure (h _ _ (.refl _) (resHV L m h4))
  ·rw[if_neg (by simpa using h4)]
   refine wpS_bind (wpS_get ?_)
   refine wpS_bind (wpS_mono (wpS_forRange (I:=fun i t st2=>Gs st st2∧∃ p2 q2 r2 g2,t=(none,p2,q2,r2,g2)∧eH o u v p2 q2 r2∧p2+q2+i<u.size+v.size)
    (Q:=fun t st2=>Gs st st2∧∃ z t',t=(some z,t')∧Res o u v z) ?step ?fin ⟨.refl _,u.size-1,v.size,_,_,rfl,⟨m,by omega,by omega,by omega,by omega⟩,by omega⟩) ?post)
   case fin =>
    rintro t st2 ⟨hs2,p2,q2,r2,g2,rfl,l2,hc⟩
    omega
   case step =>
    rintro i t st2 _ hi ⟨hs2,p2,q2,r2,g2,rfl,l2,hc⟩
    refine wpS_mono (wpS_hiOut L hs2 hk l2) fun t st3 zz1=>?_
    obtain⟨hs3,z⟩:=zz1
    match t,z with
    | .done (some z,t'),hz=>exact⟨hs3,z,t',rfl,hz⟩
    | .yield (none,p3,q3,r3,g3),hz=>exact⟨hs3,p3,q3,r3,g3,rfl,hz.1,by have:=hz.2;omega⟩
   case post =>
    rintro t st2 ⟨hs2,z,t',rfl,hz⟩
    exact wpS_pure (h _ _ hs2 hz)
end
section
theorem splice_go:∀ (zs:List Keyed) (n L:Nat) (xs:Array Keyed),L+n+zs.length≤xs.size →
  ((zs.zipIdx n).foldl (fun a (pj:Keyed×Nat)=>a.setIfInBounds (L+pj.2) pj.1) xs).toList=xs.toList.take (L+n)++zs++xs.toList.drop (L+n+zs.length)
 | [],n,L,xs,h=>by simp
 | z::zs,n,L,xs,h=>by
  rw[List.zipIdx_cons,List.foldl_cons]
  simp only[zah]at h
  rw[splice_go zs (n+1) L (xs.setIfInBounds (L+n) z) (by rw[Array.size_setIfInBounds];omega)]
  have hlt:L+n<xs.toList.length:=by rw[za8];omega
  rw[Array.toList_setIfInBounds]
  have e1:(xs.toList.set (L+n) z).take (L+(n+1))=xs.toList.take (L+n)++[z]:=by
   rw[show L+(n+1)=(L+n)+1 by omega,List.take_succ,List.take_set,List.getElem?_set_self hlt]
   congr 1
   exact List.set_eq_of_length_le (by rw[zan];omega)
  have e2:(xs.toList.set (L+n) z).drop (L+(n+1)+zs.length)=xs.toList.drop (L+n+(z::zs).length):=by
   rw[List.drop_set_of_lt (by omega),zah]
   congr 1
   omega
  rw[e1,e2]
  simp
theorem splice(zs xs:Array Keyed)(L:Nat)(h:L+zs.size≤xs.size) :
  (zs.toList.zipIdx.foldl (fun a (pj:Keyed×Nat)=>a.setIfInBounds (L+pj.2) pj.1) xs).toList=xs.toList.take L++zs.toList++xs.toList.drop (L+zs.size):=by
 have:=splice_go zs.toList 0 L xs (by rw[za8];omega)
 simpa using this
end
section
variable{M:Model}{A:Around}{E:Value→Shared→Prop}{s:Shared}{kd:SortKind}{o:Ord M A E s kd}
theorem at_mid{xs:Array Keyed}{pre B post:List Keyed}(e:xs.toList=pre++B++post){i:Nat}(hi:i<B.length):xs[pre.length+i]?=B[i]?:=by
 have:xs.toList[pre.length+i]?=B[i]?:=by
  rw[e,zai,zat (by omega),zcg,zal hi]
 rw[← this];simp
theorem iL{xs:Array Keyed}{l:List Keyed}(e:xs.toList=l):xs.size=l.length:=by rw[← e];simp
theorem up_mid{xs:Array Keyed}{pre B post:List Keyed}(e:xs.toList=pre++B++post)(ub:B.Pairwise o.le):o.up xs pre.length (pre.length+B.length):=fun i j x y h1 h2 h3 ex ey=>by
 have ex':=at_mid e (i:=i-pre.length) (by omega)
 have ey':=at_mid e (i:=j-pre.length) (by omega)
 rw[show pre.length+(i-pre.length)=i by omega,ex]at ex'
 rw[show pre.length+(j-pre.length)=j by omega,ey]at ey'
 have bu:(B.toArray).toList.Pairwise o.le:=by simpa using ub
 exact up_at (u:=B.toArray) bu (i:=i-pre.length) (j:=j-pre.length) (by omega) (by simpa using ex'.symm) (by simpa using ey'.symm)
def mAt:Nat→StateT SortSt Sem Bool:=sortPriv% PySem.Builtin.mergeAt
theorem mAt_eq(i:Nat):mAt i=(do
  let st ← get
  let (some (p,n,pw),some (q,m,_)):=((pendingOf st)[i]?,(pendingOf st)[i+1]?) | unsupported "internal:list.sort.pending"
  set (SortSt.mk' (kindOf st) (arrOf st) (((pendingOf st).setIfInBounds i (p,n+m,pw)).eraseIdxIfInBounds (i+1)) (gallopOf st) (failedOf st))
  let some k ← gal false (← elem' (arrOf st) q) (arrOf st) p n 0 | return false
  let (p,n):=(p+k,n-k)
  if n==0 then return true
  let some m ← gal true (← elem' (arrOf st) (p+n-1)) (arrOf st) q m (m-1) | return false
  if m==0 then return true
  let x:=(arrOf st).extract p q
  let y:=(arrOf st).extract q (q+m)
  let z ← if n≤m then mlo x y else mhi x y
  modify fun st=>setArr st (z.toList.zipIdx.foldl (fun a (pj:Keyed×Nat)=>a.setIfInBounds (p+pj.2) pj.1) (arrOf st))
  return (failedOf (← get)).isNone):=rfl
end
section
variable{M:Model}{A:Around}{E:Value→Shared→Prop}{s:Shared}{kd:SortKind}{o:Ord M A E s kd}
theorem wpS_set{σ:Type}{st st2:σ}{Q:PUnit→σ→Prop}(h:Q ⟨⟩ st2):wpS M A E s (set st2:StateT σ Sem PUnit) Q st:=by
 unfold wpS;rw[StateT.run_set];exact wpAny_pure ⟨rfl,h⟩
theorem jv{l:List Keyed}{x:Keyed}(h:x∈l):∃ i,i<l.length∧l[i]?=some x:=by
 obtain⟨i,e⟩:=zaw.mp h
 exact⟨i,(za3.mp e).1,e⟩
theorem wpS_mAt{st:SortSt}{i:Nat}{Q:Bool→SortSt→Prop}{pre B C post:List Keyed}{P1 P2:List (Nat×Nat×Nat)}{pw pw2:Nat}(hk:kindOf st=kd)(hf:failedOf st=none)(ga:o.all (arrOf st))
  (e:(arrOf st).toList=pre++B++C++post) (uB:B.Pairwise o.le) (uC:C.Pairwise o.le) (hB:0<B.length) (hC:0<C.length)
  (ep:(pendingOf st).toList=P1++(pre.length,B.length,pw)::(pre.length+B.length,C.length,pw2)::P2) (hi:i=P1.length)
  (h:∀ st' D,kindOf st'=kd→failedOf st'=none→(arrOf st').toList=pre++D++post→D.Pairwise o.le→D.Perm (B++C)→(pendingOf st').toList=P1++(pre.length,B.length+C.length,pw)::P2→Q true st') :
  wpS M A E s (mAt i) Q st:=by
 subst hi
 have g1:(pendingOf st)[P1.length]?=some (pre.length,B.length,pw):=by
  rw[← zaq,ep];simp
 have g2:(pendingOf st)[P1.length+1]?=some (pre.length+B.length,C.length,pw2):=by
  rw[← zaq,ep,zat (by omega)];simp
 rw[mAt_eq]
 refine wpS_bind (wpS_get ?_)
 rw[g1,g2]
 dsimp only
 refine wpS_bind (wpS_set ?_)
 have pp:(((pendingOf st).setIfInBounds P1.length (pre.length,B.length+C.length,pw)).eraseIdxIfInBounds (P1.length+1)).toList=P1++(pre.length,B.length+C.length,pw)::P2:=by
  rw[Array.toList_eraseIdxIfInBounds,Array.toList_setIfInBounds,ep,List.set_append_right _ _ (za4 _),Nat.sub_self,List.set_cons_zero,List.eraseIdx_append_of_length_le (by omega),zcg]
  rfl
 have eB:(arrOf st).toList=pre++B++(C++post):=by rw[e];simp
 have eC:(arrOf st).toList=(pre++B)++C++post:=e
 have lB:(pre++B).length=pre.length+B.length:=by simp
 have sz:=iL e
 simp only[za1]at sz
 have aB:∀ j,j<B.length→(arrOf st)[pre.length+j]?=B[j]?:=fun j hj=>at_mid eB hj
 have aC:∀ j,j<C.length→(arrOf st)[pre.length+B.length+j]?=C[j]?:=fun j hj=>by have:=at_mid eC hj;rwa [lB]at this
 have gB:∀ x∈B,o.G x:=fun x hx=>by
  obtain⟨j,hj,ej⟩:=jv hx
  exact ga _ x ((aB j hj).trans ej)
 have gC:∀ x∈C,o.G x:=fun x hx=>by
  obtain⟨j,hj,ej⟩:=jv hx
  exact ga _ x ((aC j hj).trans ej)
 obtain⟨c0,ec0⟩:∃ c,C[0]?=some c:=⟨C[0],za2 hC⟩
 have ac0:(arrOf st)[pre.length+B.length]?=some c0:=by have:=aC 0 hC;rw[Nat.add_zero]at this;rw[this,ec0]
 have c0C:∀ c∈C,o.le c0 c:=fun c hc=>j0 (u:=C.toArray) (by simpa using uC) (p:=0) (x:=c0) (by simpa using ec0) c (by simpa using hc)
 refine wpS_bind (ax ac0 ?_)
 refine wpS_bind (gQ o (by exact hk) (gC _ (zak ec0)) ga (by omega) hB (up_mid eB uB) fun k hkn k1 k2=>?_)
 have lo1:∀ x∈B.take k,o.le x c0:=fun x hx=>by
  obtain⟨j,hj,ej⟩:=jv hx
  rw[zan]at hj
  rw[zbo,if_pos (by omega)]at ej
  have z:=k1 j x (by omega) ((aB j (by omega)).trans ej)
  have z':o.b c0 x=false:=by simpa [Ord.byB] using z
  exact o.le_of_nb z'
 have hi1:∀ x∈B.drop k,o.le c0 x:=fun x hx=>by
  obtain⟨j,hj,ej⟩:=jv hx
  rw[zb9]at hj
  rw[zbd]at ej
  have z:=k2 (k+j) x (by omega) (by omega) ((aB (k+j) (by omega)).trans ej)
  exact o.le_of_b (by simpa [Ord.byB] using z)
 dsimp only
 by_cases hn:B.length-k=0
 ·rw[if_pos (by simpa using hn)]
  refine wpS_pure (h _ (B++C) hk hf (by rw[e];simp) (zav.mpr ⟨uB,uC,fun x hx y hy=>?_⟩) (List.Perm.refl _) pp)
  rw[← zas (show B.length≤k by omega)]at hx
  exact o.le_trans (lo1 x hx) (c0C y hy)
 ·rw[if_neg (by simpa using hn)]
  obtain⟨bl,ebl⟩:∃ b,B[B.length-1]?=some b:=⟨B[B.length-1],za2 (by omega)⟩
  have abl:(arrOf st)[pre.length+k+(B.length-k)-1]?=some bl:=by
   rw[show pre.length+k+(B.length-k)-1=pre.length+(B.length-1) by omega,aB _ (by omega),ebl]
  have Bbl:∀ b∈B,o.le b bl:=fun b hb=>iZ (u:=B.toArray) (by simpa using uB) (p:=B.length) (x:=bl) (by simpa using ebl) b (by simpa using hb)
  refine wpS_bind (ax abl ?_)
  have upC:=up_mid eC uC
  rw[lB]at upC
  refine wpS_bind (gQ o (by exact hk) (gB _ (zak ebl)) ga (by omega) (by omega) upC fun m hmn m1 m2=>?_)
  have lo2:∀ x∈C.take m,o.le x bl:=fun x hx=>by
   obtain⟨j,hj,ej⟩:=jv hx
   rw[zan]at hj
   rw[zbo,if_pos (by omega)]at ej
   exact o.le_of_b (m1 j x (by omega) ((aC j (by omega)).trans ej))
  have hi2:∀ x∈C.drop m,o.le bl x:=fun x hx=>by
   obtain⟨j,hj,ej⟩:=jv hx
   rw[zb9]at hj
   rw[zbd]at ej
   exact o.le_of_nb (m2 (m+j) x (by omega) (by omega) ((aC (m+j) (by omega)).trans ej))
  dsimp only
  by_cases hm:m=0
  ·rw[if_pos (by simpa using hm)]
   subst hm
   refine wpS_pure (h _ (B++C) hk hf (by rw[e];simp) (zav.mpr ⟨uB,uC,fun x hx y hy=>?_⟩) (List.Perm.refl _) pp)
   exact o.le_trans (Bbl x hx) (hi2 y (by simpa using hy))
  ·rw[if_neg (by simpa using hm)]
   generalize hX:(arrOf st).extract (pre.length+k) (pre.length+B.length)=X
   generalize hY:(arrOf st).extract (pre.length+B.length) (pre.length+B.length+m)=Y
   have lX:X.toList=B.drop k:=by
    rw[← hX,xd,eB,← lB,List.take_left,List.drop_append,zbp (by omega),zcg,zbr]
   have lY:Y.toList=C.take m:=by
    rw[← hY,xk,eC,← lB,zai,List.drop_left,List.take_append_of_le_length (by omega)]
   have szX:X.size=B.length-k:=by rw[iL lX,zb9]
   have szY:Y.size=m:=by rw[iL lY,zan];omega
   have gX:o.all X:=fun i x ex=>gB x (zcd (by rw[← lX];exact zb6.mpr (zb8 ex)))
   have gY:o.all Y:=fun i x ex=>gC x (zby (by rw[← lY];exact zb6.mpr (zb8 ex)))
   have uX:X.toList.Pairwise o.le:=by rw[lX];exact uB.sublist (zce _ _)
   have uY:Y.toList.Pairwise o.le:=by rw[lY];exact uC.sublist (zbz _ _)
   have p1:∀ x y,Y[0]?=some x→y∈X.toList→o.le x y:=fun x y ex hy=>by
    have:x=c0:=by
     have e1:Y.toList[0]?=some x:=by simpa using ex
     rw[lY,zbo,if_pos (by omega),ec0]at e1
     exact(Option.some.inj e1).symm
    rw[this]
    exact hi1 y (by rw[← lX];exact hy)
   have p2:∀ x y,x∈Y.toList→X[X.size-1]?=some y→o.le x y:=fun x y hx ey=>by
    have:y=bl:=by
     have e1:X.toList[X.size-1]?=some y:=by simpa using ey
     rw[lX,zbd,szX,show k+(B.length-k-1)=B.length-1 by omega,ebl]at e1
     exact(Option.some.inj e1).symm
    rw[this]
    exact lo2 x (by rw[← lY];exact hx)
   have fin:∀ (st':SortSt) (out:Array Keyed),kindOf st'=kd→arrOf st'=arrOf st→(pendingOf st').toList=P1++(pre.length,B.length+C.length,pw)::P2→failedOf st'=none→o.Merged X.toList Y.toList out.toList →
     wpS M A E s (do modify fun st=>setArr st (out.toList.zipIdx.foldl (fun a (pj:Keyed×Nat)=>a.setIfInBounds (pre.length+k+pj.2) pj.1) (arrOf st));return (failedOf (← get)).isNone) Q st':=fun st' out hk' ha' hp' hf' hm'=>by
    refine wpS_bind (wpS_modify (wpS_bind (wpS_get ?_)))
    have hm1:=hm'.1
    rw[lX,lY]at hm1
    have szO:out.size=B.length-k+m:=by
     have:=hm1.length_eq
     rw[za8,za1,zb9,zan]at this
     omega
    have ef:(failedOf (setArr st' (out.toList.zipIdx.foldl (fun a (pj:Keyed×Nat)=>a.setIfInBounds (pre.length+k+pj.2) pj.1) (arrOf st')))).isNone=true:=by
     show(failedOf st').isNone=true
     rw[hf'];rfl
    rw[ef]
    refine wpS_pure (h _ (B.take k++out.toList++C.drop m) hk' hf' ?_ ?_ ?_ hp')
    ·show(out.toList.zipIdx.foldl (fun a (pj:Keyed×Nat)=>a.setIfInBounds (pre.length+k+pj.2) pj.1) (arrOf st')).toList=_
     rw[ha',splice _ _ _ (by rw[szO];omega),szO]
     have t1:(arrOf st).toList.take (pre.length+k)=pre++B.take k:=by
      rw[eB,zai,List.take_append,zas (by omega),zcg,List.take_append_of_le_length (by omega)]
     have t2:(arrOf st).toList.drop (pre.length+k+(B.length-k+m))=C.drop m++post:=by
      rw[eC,zai,List.drop_append,zbp (by omega),lB,show pre.length+k+(B.length-k+m)-(pre.length+B.length)=m by omega,zbr,List.drop_append_of_le_length (by omega)]
     rw[t1,t2]
     simp
    ·have inO:∀ x∈out.toList,x∈B.drop k∨x∈C.take m:=fun x hx=>za9.mp (hm1.mem_iff.mp hx)
     have uB':=uB
     rw[← zaz k B]at uB'
     have uC':=uC
     rw[← zaz m C]at uC'
     refine zav.mpr ⟨zav.mpr ⟨uB.sublist (zbz _ _),hm'.2,fun x hx y hy=>?_⟩,uC.sublist (zce _ _),fun x hx y hy=>?_⟩
     ·rcases inO y hy with z | z
      ·exact(zav.mp uB').2.2 x hx y z
      ·exact o.le_trans (lo1 x hx) (c0C y (zby z))
     ·rcases za9.mp hx with hx | hx
      ·exact o.le_trans (Bbl x (zby hx)) (hi2 y hy)
      ·rcases inO x hx with z | z
       ·exact o.le_trans (Bbl x (zcd z)) (hi2 y hy)
       ·exact(zav.mp uC').2.2 x z y hy
    ·refine((List.Perm.append_left _ hm1).append_right _).trans ?_
     rw[← zai,zaz,zai,zaz]
   by_cases hnm:B.length-k≤m
   ·rw[if_pos hnm]
    refine wpS_bind (wpS_mlo ⟨gX,gY,uX,uY,p2⟩ (by exact hk) (by omega) (by omega) p1 fun st' out gs mg=>?_)
    exact fin st' out (gs.k.trans hk) gs.a (by rw[gs.p];exact pp) (gs.f.trans hf) mg
   ·rw[if_neg hnm]
    refine wpS_bind (wpS_mhi ⟨gX,gY,uX,uY,p1⟩ (by exact hk) (by omega) (by omega) p2 fun st' out gs mg=>?_)
    exact fin st' out (gs.k.trans hk) gs.a (by rw[gs.p];exact pp) (gs.f.trans hf) mg
end
section
variable{M:Model}{A:Around}{E:Value→Shared→Prop}{s:Shared}{kd:SortKind}{o:Ord M A E s kd}
structure As(lo:Nat)(st st':SortSt):Prop where
 k:kindOf st'=kindOf st
 p:pendingOf st'=pendingOf st
 f:failedOf st'=failedOf st
 perm:(arrOf st').Perm (arrOf st)
 pre:∀ j,j<lo→(arrOf st')[j]?=(arrOf st)[j]?
theorem As.refl(lo:Nat)(st:SortSt):As lo st st:=⟨rfl,rfl,rfl,.refl _,fun _ _=>rfl⟩
theorem As.arr{lo:Nat}{st st':SortSt}(h:As lo st st'){xs:Array Keyed}(hp:xs.Perm (arrOf st'))(hq:∀ j,j<lo→xs[j]?=(arrOf st')[j]?):As lo st (setArr st' xs) :=
 ⟨h.k,h.p,h.f,hp.trans h.perm,fun j hj=>(hq j hj).trans (h.pre j hj)⟩
theorem As.all{lo:Nat}{st st':SortSt}(h:As lo st st')(ga:o.all (arrOf st)):o.all (arrOf st'):=fun i x e=>by
 have:x∈(arrOf st'):=zb8 e
 have:x∈(arrOf st):=h.perm.mem_iff.mp this
 obtain⟨j,e2⟩:=Array.getElem?_of_mem this
 exact ga j x e2
theorem As.size{lo:Nat}{st st':SortSt}(h:As lo st st'):(arrOf st').size=(arrOf st).size:=h.perm.size_eq
theorem gP{st:SortSt}{i j:Nat}{x y:Keyed}{Q:Option Bool→SortSt→Prop}(hk:kindOf st=kd)(ga:o.all (arrOf st))(ex:(arrOf st)[i]?=some x)(ey:(arrOf st)[j]?=some y)(h:Q (some (o.b x y)) st):wpS M A E s (ltAt' i j) Q st:=by
 rw[ltAt'_eq]
 refine wpS_bind (wpS_get ?_)
 exact wpS_bind (ax ex (wpS_bind (ax ey (o.lt hk (ga _ _ ex) (ga _ _ ey) h))))
def bsort:Nat→Nat→Nat→StateT SortSt Sem Bool:=sortPriv% PySem.Builtin.binarySort
theorem bsort_eq(lo n ok:Nat):bsort lo n ok=(do
  for t in [max ok 1:n] do
   let mut a:=0
   let mut b:=t
   for _ in [0:t] do
    if a ≥ b then break
    let some less ← ltAt' (lo+t) (lo+(a+b) / 2) | return false
    if less then b:=(a+b) / 2 else a:=(a+b) / 2+1
   moveDown' (lo+t) (lo+a)
  return true):=rfl
theorem wpS_bsort{st:SortSt}{lo n ok:Nat}{Q:Bool→SortSt→Prop}(hk:kindOf st=kd)(ga:o.all (arrOf st))(hn:lo+n≤(arrOf st).size)(hok:ok≤n)(hs:o.up (arrOf st) lo (lo+ok))
  (h:∀ st',As lo st st'→o.up (arrOf st') lo (lo+n)→Q true st'):wpS M A E s (bsort lo n ok) Q st:=by
 rw[bsort_eq]
 refine wpS_bind (wpS_mono (wpS_forRange (I:=fun t c st'=>c=(none,())∧As lo st st'∧o.up (arrOf st') lo (lo+min t n)) (Q:=fun c st'=>c=(none,())∧As lo st st'∧o.up (arrOf st') lo (lo+n)) ?step ?fin ?init) ?post)
 case post =>
  rintro c st' ⟨rfl,h1,h2⟩
  exact wpS_pure (h st' h1 h2)
 case init =>
  refine⟨rfl,.refl _ _,fun i j x y h1 h2 h3 ex ey=>?_⟩
  by_cases hz:ok=0
  ·have:i=j:=by omega
   subst this
   rw[ex]at ey
   cases ey
   exact o.le_refl _
  ·exact hs i j x y h1 h2 (by omega) ex ey
 case fin =>
  rintro c st' ⟨hc,h1,h2⟩
  refine⟨hc,h1,?_⟩
  rwa [show min (max (max ok 1) n) n=n by omega]at h2
 case step =>
  rintro t c st' h1 h2 ⟨rfl,hA,hU⟩
  rw[show min t n=t by omega]at hU
  have hk':kindOf st'=kd:=hA.k.trans hk
  have ga':=hA.all ga
  have hsz:=hA.size
  obtain⟨x,ex⟩:=d6 (u:=arrOf st') (p:=lo+t) (by omega)
  refine wpS_bind (wpS_mono (wpS_forRange (I:=fun z c st''=>st''=st'∧∃ a b,c=(none,a,b)∧a≤b∧b≤t∧b-a≤t-z∧(∀ i y,i<a→(arrOf st')[lo+i]?=some y→o.le y x)∧(∀ i y,b≤i→i<t→(arrOf st')[lo+i]?=some y→o.b x y=true))
   (Q:=fun c st''=>st''=st'∧∃ a,c=(none,a,a)∧a≤t∧(∀ i y,i<a→(arrOf st')[lo+i]?=some y→o.le y x)∧(∀ i y,a≤i→i<t→(arrOf st')[lo+i]?=some y→o.b x y=true)) ?istep ?ifin ⟨rfl,0,t,rfl,by omega,by omega,by omega,fun i y hi=>by omega,fun i y p q=>by omega⟩) ?ipost)
  case ifin =>
   rintro c st'' ⟨rfl,a,b,rfl,h3,h4,h5,a1,a2⟩
   have:a=b:=by omega
   subst this
   exact⟨rfl,a,rfl,h4,a1,a2⟩
  case istep =>
   rintro z c st'' _ hz ⟨rfl,a,b,rfl,h3,h4,h5,a1,a2⟩
   dsimp only
   by_cases hge:a ≥ b
   ·rw[if_pos hge]
    have:a=b:=by omega
    subst this
    exact wpS_pure ⟨rfl,a,rfl,h4,a1,a2⟩
   ·rw[if_neg hge]
    obtain⟨y,ey⟩:=d6 (u:=arrOf st'') (p:=lo+(a+b) / 2) (by omega)
    refine wpS_bind (gP hk' ga' ex ey ?_)
    cases hb:o.b x y with
    | true =>
     refine wpS_pure ⟨rfl,a,(a+b) / 2,rfl,by omega,by omega,by omega,a1,fun i y' hi hi2 ey'=>?_⟩
     exact o.b_le hb (hU _ _ y y' (by omega) (by omega) (by omega) ey ey')
    | false =>
     refine wpS_pure ⟨rfl,(a+b) / 2+1,b,rfl,by omega,by omega,by omega,fun i y' hi ey'=>?_,a2⟩
     exact o.le_trans (hU _ _ y' y (by omega) (by omega) (by omega) ey' ey) (o.le_of_nb hb)
  case ipost =>
   rintro c st'' ⟨rfl,a,rfl,h3,a1,a2⟩
   show wpS _ _ _ _ (do moveDown' (lo+t) (lo+a);pure (ForInStep.yield (none,()))) _ _
   rw[moveDown'_eq]
   have hb:=getElem?_bubble (xs:=arrOf st'') (src:=lo+t) (by omega) (lo+t-(lo+a)) (by omega)
   rw[show lo+t-(lo+t-(lo+a))=lo+a by omega]at hb
   refine wpS_bind (wpS_modify (wpS_pure ⟨rfl,hA.arr (bubble_perm _ _ _) fun j hj=>?_,?_⟩))
   ·rw[hb j,if_neg (by omega),if_neg (by omega)]
   ·rw[show min (t+1) n=t+1 by omega]
    intro i j p q h5 h6 h7 ep eq
    have ep':(bubble (arrOf st'') (lo+t) (lo+t-(lo+a)))[i]?=some p:=ep
    have eq':(bubble (arrOf st'') (lo+t) (lo+t-(lo+a)))[j]?=some q:=eq
    rw[hb i]at ep'
    rw[hb j]at eq'
    by_cases c1:i=lo+a
    ·rw[if_pos c1]at ep'
     rw[ex]at ep'
     cases ep'
     by_cases c2:j=lo+a
     ·rw[if_pos c2,ex]at eq'
      cases eq'
      exact o.le_refl _
     ·rw[if_neg c2,if_pos (by omega)]at eq'
      exact o.le_of_b (a2 (j-1-lo) q (by omega) (by omega) (by rw[show lo+(j-1-lo)=j-1 by omega];exact eq'))
    ·rw[if_neg c1]at ep'
     by_cases c3:lo+a<i∧i≤lo+t
     ·rw[if_pos c3]at ep'
      rw[if_neg (by omega),if_pos (by omega)]at eq'
      exact hU _ _ p q (by omega) (by omega) (by omega) ep' eq'
     ·rw[if_neg c3]at ep'
      by_cases c2:j=lo+a
      ·rw[if_pos c2,ex]at eq'
       cases eq'
       exact a1 (i-lo) p (by omega) (by rw[show lo+(i-lo)=i by omega];exact ep')
      ·rw[if_neg c2]at eq'
       by_cases c4:lo+a<j∧j≤lo+t
       ·rw[if_pos c4]at eq'
        exact hU _ _ p q (by omega) (by omega) (by omega) ep' eq'
       ·rw[if_neg c4]at eq'
        exact hU _ _ p q (by omega) (by omega) (by omega) ep' eq'
def crun:Nat→Nat→StateT SortSt Sem (Option Nat):=sortPriv% PySem.Builtin.countRun
theorem crun_eq(lo left:Nat):crun lo left=(do
  let mut n:=1
  for _ in [1:left] do
   let some less ← ltAt' (lo+n) (lo+n-1) | return none
   if less then break
   n:=n+1
  if n==left then return some n
  if n>1 then
   let some rose ← ltAt' lo (lo+n-1) | return none
   if rose then return some n
   reverseSlice' lo (lo+n)
  rule "list.sort.descending-run"
  n:=n+1
  let mut same:=0
  for _ in [n:left] do
   let some less ← ltAt' (lo+n) (lo+n-1) | return none
   if less then
    if same>0 then reverseSlice' (lo+n-(same+1)) (lo+n)
    same:=0
   else
    let some more ← ltAt' (lo+n-1) (lo+n) | return none
    if more then break
    same:=same+1
   n:=n+1
  if same>0 then reverseSlice' (lo+n-(same+1)) (lo+n)
  reverseSlice' lo (lo+n)
  for _ in [n:left] do
   let some less ← ltAt' (lo+n) (lo+n-1) | return none
   if less then break
   n:=n+1
  return some n):=rfl
end
section
def cr3(lo left n:Nat):StateT SortSt Sem (Option Nat):=do
 let mut n:=n
 for _ in [n:left] do
  let some less ← ltAt' (lo+n) (lo+n-1) | return none
  if less then break
  n:=n+1
 return some n
def cr2b(lo left n:Nat):StateT SortSt Sem (Option Nat):=do
 reverseSlice' lo (lo+n)
 cr3 lo left n
def cr2a(lo left n same:Nat):StateT SortSt Sem (Option Nat) :=
 if same>0 then do
  reverseSlice' (lo+n-(same+1)) (lo+n)
  cr2b lo left n
 else cr2b lo left n
abbrev CT:=Option (Option Nat)×Nat×Nat
def cr2s(lo:Nat)(t:CT):StateT SortSt Sem (ForInStep CT):=do
 match ← ltAt' (lo+t.2.1) (lo+t.2.1-1) with
 | some less =>
  if less then
   if t.2.2>0 then do
    reverseSlice' (lo+t.2.1-(t.2.2+1)) (lo+t.2.1)
    pure (.yield (none,t.2.1+1,0))
   else pure (.yield (none,t.2.1+1,0))
  else do
   match ← ltAt' (lo+t.2.1-1) (lo+t.2.1) with
   | some more=>if more then pure (.done (none,t.2.1,t.2.2)) else pure (.yield (none,t.2.1+1,t.2.2+1))
   | _=>pure (.done (some none,t.2.1,t.2.2))
 | _=>pure (.done (some none,t.2.1,t.2.2))
def cr2(lo left n:Nat):StateT SortSt Sem (Option Nat):=do
 rule "list.sort.descending-run"
 let t ← forIn [n+1:left] ((none,n+1,0):CT) (fun _ t=>cr2s lo t)
 match t.1 with
 | some z=>pure z
 | none=>cr2a lo left t.2.1 t.2.2
def cr1(lo left n:Nat):StateT SortSt Sem (Option Nat) :=
 if n==left then pure (some n)
 else if n>1 then do
  match ← ltAt' lo (lo+n-1) with
  | some rose=>if rose then pure (some n) else do
   reverseSlice' lo (lo+n)
   cr2 lo left n
  | _=>pure none
 else cr2 lo left n
theorem crun_fac(lo left:Nat):crun lo left=(do
  let t ← forIn [1:left] ((none,1):Option (Option Nat)×Nat) (fun _ t=>do
   match ← ltAt' (lo+t.2) (lo+t.2-1) with
   | some less=>if less then pure (.done (none,t.2)) else pure (.yield (none,t.2+1))
   | _=>pure (.done (some none,t.2)))
  match t.1 with
  | some z=>pure z
  | none=>cr1 lo left t.2):=by
 rw[crun_eq]
 dsimp only[cr1,cr2,cr2s,cr2a,cr2b,cr3]
 refine gM (congrArg (forIn _ _) (funext fun x=>funext fun t=>?_)) (funext fun t=>?_)
 ·refine bind_congr fun z=>?_
  cases z<;>with_reducible rfl
 ·obtain⟨z,n⟩:=t
  cases z with
  | some z=>with_reducible rfl
  | none =>
   dsimp only
   refine ite_congr rfl (fun _=>rfl) fun _=>ite_congr rfl (fun _=>?_) (fun _=>?_)
   ·refine bind_congr fun z=>?_
    cases z with
    | none=>with_reducible rfl
    | some z =>
     dsimp only
     refine ite_congr rfl (fun _=>rfl) fun _=>bind_congr fun _=>bind_congr fun _=>?_
     refine gM (congrArg (forIn _ _) (funext fun x=>funext fun t=>?_)) (funext fun t=>?_)
     ·refine bind_congr fun z=>?_
      cases z with
      | none=>with_reducible rfl
      | some z =>
       first
        | (dsimp only;done)
        | (dsimp only;refine ite_congr rfl (fun _=>rfl) fun _=>bind_congr fun z=>?_;cases z<;>first | with_reducible rfl | rfl)
     ·obtain⟨z,t⟩:=t
      cases z<;>first | with_reducible rfl | rfl
   ·refine bind_congr fun _=>?_
    refine gM (congrArg (forIn _ _) (funext fun x=>funext fun t=>?_)) (funext fun t=>?_)
    ·refine bind_congr fun z=>?_
     cases z with
     | none=>with_reducible rfl
     | some z =>
      first
       | (dsimp only;done)
       | (dsimp only;refine ite_congr rfl (fun _=>rfl) fun _=>bind_congr fun z=>?_;cases z<;>first | with_reducible rfl | rfl)
    ·obtain⟨z,t⟩:=t
     cases z<;>first | with_reducible rfl | rfl
end
section
variable{M:Model}{A:Around}{E:Value→Shared→Prop}{s:Shared}{kd:SortKind}{o:Ord M A E s kd}
def Ord.dn(o:Ord M A E s kd)(xs:Array Keyed)(lo hi:Nat):Prop:=∀ i j x y,lo≤i→i≤j→j<hi→xs[i]?=some x→xs[j]?=some y→o.le y x
def Ord.eqs(o:Ord M A E s kd)(xs:Array Keyed)(a b:Nat):Prop:=∀ i j x y,a≤i→i<b→a≤j→j<b→xs[i]?=some x→xs[j]?=some y→o.le x y
abbrev rv(xs:Array Keyed)(i j:Nat):Array Keyed:=mirror xs i j ((j-i) / 2)
theorem jG{xs:Array Keyed}{i j:Nat}(h:j≤xs.size)(k:Nat):(rv xs i j)[k]?=if i≤k∧k<j then xs[i+j-1-k]? else xs[k]?:=getElem?_mirror_all h k
theorem up_rv{xs:Array Keyed}{lo hi:Nat}(h:hi≤xs.size)(d:o.dn xs lo hi):o.up (rv xs lo hi) lo hi:=fun i j x y h1 h2 h3 ex ey=>by
 rw[jG h,if_pos (by omega)]at ex ey
 exact d _ _ y x (by omega) (by omega) (by omega) ey ex
theorem dn_rv{xs:Array Keyed}{lo a hi:Nat}(h:hi≤xs.size)(ha:lo≤a)(d:o.dn xs lo hi)(q:o.eqs xs a hi):o.dn (rv xs a hi) lo hi:=fun i j x y h1 h2 h3 ex ey=>by
 rw[jG h]at ex ey
 by_cases c1:a≤i
 ·rw[if_pos (by omega)]at ex ey
  exact q _ _ y x (by omega) (by omega) (by omega) (by omega) ey ex
 ·rw[if_neg (by omega)]at ex
  by_cases c2:a≤j
  ·rw[if_pos (by omega)]at ey
   exact d _ _ x y h1 (by omega) (by omega) ex ey
  ·rw[if_neg (by omega)]at ey
   exact d _ _ x y h1 h2 h3 ex ey
theorem jM{st:SortSt}{i j:Nat}{Q:Unit→SortSt→Prop}(h:Q () (setArr st (rv (arrOf st) i j))):wpS M A E s (reverseSlice' i j) Q st:=by
 rw[reverseSlice'_eq];exact wpS_modify h
theorem As.rv{lo a b:Nat}{st st':SortSt}(h:As lo st st')(hb:b≤(arrOf st').size)(ha:lo≤a):As lo st (setArr st' (BF.rv (arrOf st') a b)) :=
 h.arr (mirror_perm _ _ _ _) fun j hj=>by rw[jG hb,if_neg (by omega)]
variable{st st':SortSt}{lo left n:Nat}{Q:Option Nat→SortSt→Prop}
theorem up_more{xs:Array Keyed}(h1:1≤n)(u:o.up xs lo (lo+n)){x y:Keyed}(ex:xs[lo+n]?=some x)(ey:xs[lo+n-1]?=some y)(hle:o.le y x):o.up xs lo (lo+(n+1)):=fun i j a b h2 h3 h4 ea eb=>by
 by_cases c:j=lo+n
 ·subst c
  rw[ex]at eb
  cases eb
  by_cases c2:i=lo+n
  ·subst c2
   rw[ex]at ea
   cases ea
   exact o.le_refl _
  ·exact o.le_trans (u i (lo+n-1) a y h2 (by omega) (by omega) ea ey) hle
 ·exact u i j a b h2 h3 (by omega) ea eb
theorem wpS_cr3(hk:kindOf st=kd)(ga:o.all (arrOf st))(hA:As lo st st')(hsz:lo+left≤(arrOf st).size)(h1:1≤n)(hn:n≤left)(u:o.up (arrOf st') lo (lo+n))
  (h:∀ m st2,As lo st st2→1≤m→m≤left→o.up (arrOf st2) lo (lo+m)→Q (some m) st2):wpS M A E s (cr3 lo left n) Q st':=by
 unfold cr3
 have sz:=hA.size
 refine wpS_bind (wpS_mono (wpS_forRange (I:=fun t c st2=>st2=st'∧c=(none,t)∧t≤left∧1≤t∧o.up (arrOf st') lo (lo+t)) (Q:=fun c st2=>st2=st'∧∃ t,c=(none,t)∧t≤left∧1≤t∧o.up (arrOf st') lo (lo+t)) ?step ?fin ⟨rfl,rfl,hn,h1,u⟩) ?post)
 case fin =>
  rintro c st2 ⟨rfl,rfl,h2,h3,h4⟩
  exact⟨rfl,_,rfl,h2,h3,h4⟩
 case post =>
  rintro c st2 ⟨rfl,t,rfl,h2,h3,h4⟩
  exact wpS_pure (h t _ hA h3 h2 h4)
 case step =>
  rintro t c st2 _ ht ⟨rfl,rfl,h2,h3,h4⟩
  obtain⟨x,ex⟩:=d6 (u:=arrOf st2) (p:=lo+t) (by omega)
  obtain⟨y,ey⟩:=d6 (u:=arrOf st2) (p:=lo+t-1) (by omega)
  dsimp only
  refine wpS_bind (gP (hA.k.trans hk) (hA.all ga) ex ey ?_)
  cases hb:o.b x y with
  | true=>exact wpS_pure ⟨rfl,t,rfl,h2,h3,h4⟩
  | false=>exact wpS_pure ⟨rfl,rfl,by omega,by omega,up_more h3 h4 ex ey (o.le_of_nb hb)⟩
theorem wpS_cr2b(hk:kindOf st=kd)(ga:o.all (arrOf st))(hA:As lo st st')(hsz:lo+left≤(arrOf st).size)(h1:1≤n)(hn:n≤left)(d:o.dn (arrOf st') lo (lo+n))
  (h:∀ m st2,As lo st st2→1≤m→m≤left→o.up (arrOf st2) lo (lo+m)→Q (some m) st2):wpS M A E s (cr2b lo left n) Q st':=by
 unfold cr2b
 have sz:=hA.size
 exact wpS_bind (jM (wpS_cr3 hk ga (hA.rv (by omega) (za4 _)) hsz h1 hn (up_rv (by omega) d) h))
theorem wpS_cr2a{same:Nat}(hk:kindOf st=kd)(ga:o.all (arrOf st))(hA:As lo st st')(hsz:lo+left≤(arrOf st).size)(hs:same+1≤n)(hn:n≤left)(d:o.dn (arrOf st') lo (lo+n))(q:o.eqs (arrOf st') (lo+n-(same+1)) (lo+n))
  (h:∀ m st2,As lo st st2→1≤m→m≤left→o.up (arrOf st2) lo (lo+m)→Q (some m) st2):wpS M A E s (cr2a lo left n same) Q st':=by
 unfold cr2a
 have sz:=hA.size
 split
 ·exact wpS_bind (jM (wpS_cr2b hk ga (hA.rv (by omega) (by omega)) hsz (by omega) hn (dn_rv (by omega) (by omega) d q) h))
 ·exact wpS_cr2b hk ga hA hsz (by omega) hn d h
theorem j7{xs:Array Keyed}(h1:1≤n)(d:o.dn xs lo (lo+n)){x y:Keyed}(ex:xs[lo+n]?=some x)(ey:xs[lo+n-1]?=some y)(hle:o.le x y):o.dn xs lo (lo+(n+1)):=fun i j a b h2 h3 h4 ea eb=>by
 by_cases c:j=lo+n
 ·subst c
  rw[ex]at eb
  cases eb
  by_cases c2:i=lo+n
  ·subst c2
   rw[ex]at ea
   cases ea
   exact o.le_refl _
  ·exact o.le_trans hle (d i (lo+n-1) a y h2 (by omega) (by omega) ea ey)
 ·exact d i j a b h2 h3 (by omega) ea eb
theorem wpS_cr2(hk:kindOf st=kd)(ga:o.all (arrOf st))(hA:As lo st st')(hsz:lo+left≤(arrOf st).size)(h1:1≤n)(hn:n+1≤left)(d:o.dn (arrOf st') lo (lo+(n+1)))
  (h:∀ m st2,As lo st st2→1≤m→m≤left→o.up (arrOf st2) lo (lo+m)→Q (some m) st2):wpS M A E s (cr2 lo left n) Q st':=by
 unfold cr2
 refine wpS_bind (wpS_lift (wpAny_rule ⟨rfl,?_⟩))
 refine wpS_bind (wpS_mono (wpS_forRange (I:=fun t c st2=>As lo st st2∧∃ same,c=(none,t,same)∧t≤left∧same+1≤t∧o.dn (arrOf st2) lo (lo+t)∧o.eqs (arrOf st2) (lo+t-(same+1)) (lo+t))
  (Q:=fun c st2=>As lo st st2∧∃ t same,c=(none,t,same)∧t≤left∧same+1≤t∧o.dn (arrOf st2) lo (lo+t)∧o.eqs (arrOf st2) (lo+t-(same+1)) (lo+t)) ?step ?fin ⟨hA,0,rfl,hn,by omega,d,?init⟩) ?post)
 case init =>
  intro i j x y h2 h3 h4 h5 ex ey
  have:i=j:=by omega
  subst this
  rw[ex]at ey
  cases ey
  exact o.le_refl _
 case fin =>
  rintro c st2 ⟨hA2,same,rfl,h2,h3,h4,h5⟩
  exact⟨hA2,_,same,rfl,h2,h3,h4,h5⟩
 case post =>
  rintro c st2 ⟨hA2,t,same,rfl,h2,h3,h4,h5⟩
  exact wpS_cr2a hk ga hA2 hsz h3 h2 h4 h5 h
 case step =>
  rintro t c st2 ht0 ht ⟨hA2,same,rfl,h2,h3,h4,h5⟩
  have sz:=hA2.size
  obtain⟨x,ex⟩:=d6 (u:=arrOf st2) (p:=lo+t) (by omega)
  obtain⟨y,ey⟩:=d6 (u:=arrOf st2) (p:=lo+t-1) (by omega)
  unfold cr2s
  dsimp only
  refine wpS_bind (gP (hA2.k.trans hk) (hA2.all ga) ex ey ?_)
  have one:∀ (zs:Array Keyed),o.eqs zs (lo+(t+1)-(0+1)) (lo+(t+1)):=fun zs i j p q a1 a2 a3 a4 ep eq=>by
   have:i=j:=by omega
   subst this
   rw[ep]at eq
   cases eq
   exact o.le_refl _
  cases hb:o.b x y with
  | true =>
   dsimp only
   rw[if_pos rfl]
   split
   ·refine wpS_bind (jM (wpS_pure ⟨hA2.rv (by omega) (by omega),0,rfl,by omega,by omega,?_,one _⟩))
    have ex':(rv (arrOf st2) (lo+t-(same+1)) (lo+t))[lo+t]?=some x:=by rw[jG (by omega),if_neg (by omega)];exact ex
    obtain⟨y',ey'⟩:=d6 (u:=rv (arrOf st2) (lo+t-(same+1)) (lo+t)) (p:=lo+t-1) (by rw[mirror_size];omega)
    refine j7 (by omega) (dn_rv (by omega) (by omega) h4 h5) ex' ey' ?_
    rw[jG (by omega),if_pos (by omega)]at ey'
    exact o.le_trans (o.le_of_b hb) (h5 _ _ y y' (by omega) (by omega) (by omega) (by omega) ey ey')
   ·exact wpS_pure ⟨hA2,0,rfl,by omega,by omega,j7 (by omega) h4 ex ey (o.le_of_b hb),one _⟩
  | false =>
   dsimp only
   rw[if_neg zaj]
   refine wpS_bind (gP (hA2.k.trans hk) (hA2.all ga) ey ex ?_)
   cases hc:o.b y x with
   | true=>exact wpS_pure ⟨hA2,t,same,rfl,h2,h3,h4,h5⟩
   | false =>
    refine wpS_pure ⟨hA2,same+1,rfl,by omega,by omega,j7 (by omega) h4 ex ey (o.le_of_nb hc),fun i j p q a1 a2 a3 a4 ep eq=>?_⟩
    have lx:∀ i p,lo+t-(same+1)≤i→i<lo+(t+1)→(arrOf st2)[i]?=some p→o.le p x∧o.le x p:=fun i p b1 b2 e=>by
     by_cases c:i=lo+t
     ·subst c
      rw[ex]at e
      cases e
      exact⟨o.le_refl _,o.le_refl _⟩
     ·exact⟨o.le_trans (h5 _ _ p y b1 (by omega) (by omega) (by omega) e ey) (o.le_of_nb hb),o.le_trans (o.le_of_nb hc) (h5 _ _ y p (by omega) (by omega) b1 (by omega) ey e)⟩
    exact o.le_trans (lx i p (by omega) (by omega) ep).1 (lx j q (by omega) (by omega) eq).2
theorem wpS_crun(hk:kindOf st=kd)(ga:o.all (arrOf st))(hsz:lo+left≤(arrOf st).size)(hl:1≤left)
  (h:∀ m st2,As lo st st2→1≤m→m≤left→o.up (arrOf st2) lo (lo+m)→Q (some m) st2):wpS M A E s (crun lo left) Q st:=by
 rw[crun_fac]
 have at0:∀ zs:Array Keyed,o.up zs lo (lo+1):=fun zs i j p q a1 a2 a3 ep eq=>by
  have:i=j:=by omega
  subst this
  rw[ep]at eq
  cases eq
  exact o.le_refl _
 refine wpS_bind (wpS_mono (wpS_forRange (I:=fun t c st2=>st2=st∧c=(none,t)∧t≤left∧1≤t∧o.up (arrOf st) lo (lo+t))
  (Q:=fun c st2=>st2=st∧∃ t,c=(none,t)∧t≤left∧1≤t∧o.up (arrOf st) lo (lo+t)∧(t=left∨∃ x y,(arrOf st)[lo+t]?=some x∧(arrOf st)[lo+t-1]?=some y∧o.b x y=true)) ?step ?fin ⟨rfl,rfl,hl,by omega,at0 _⟩) ?post)
 case fin =>
  rintro c st2 ⟨rfl,rfl,h2,h3,h4⟩
  exact⟨rfl,_,rfl,h2,h3,h4,.inl (by omega)⟩
 case step =>
  rintro t c st2 _ ht ⟨rfl,rfl,h2,h3,h4⟩
  obtain⟨x,ex⟩:=d6 (u:=arrOf st2) (p:=lo+t) (by omega)
  obtain⟨y,ey⟩:=d6 (u:=arrOf st2) (p:=lo+t-1) (by omega)
  dsimp only
  refine wpS_bind (gP hk ga ex ey ?_)
  cases hb:o.b x y with
  | true=>exact wpS_pure ⟨rfl,t,rfl,h2,h3,h4,.inr ⟨x,y,ex,ey,hb⟩⟩
  | false=>exact wpS_pure ⟨rfl,rfl,by omega,by omega,up_more h3 h4 ex ey (o.le_of_nb hb)⟩
 case post =>
  rintro c st2 ⟨rfl,t,rfl,h2,h3,h4,h5⟩
  dsimp only
  unfold cr1
  by_cases c1:t=left
  ·rw[if_pos (by simpa using c1)]
   exact wpS_pure (h t _ (.refl _ _) h3 h2 h4)
  ·rw[if_neg (by simpa using c1)]
   rcases h5 with h5 | ⟨x,y,ex,ey,hb⟩
   ·exact absurd h5 c1
   ·split
    ·obtain⟨z,ez⟩:=d6 (u:=arrOf st2) (p:=lo) (by omega)
     refine wpS_bind (gP hk ga ez ey ?_)
     cases hr:o.b z y with
     | true=>exact wpS_pure (h t _ (.refl _ _) h3 h2 h4)
     | false =>
      refine wpS_bind (jM (wpS_cr2 hk ga ((As.refl lo st2).rv (by omega) (za4 _)) hsz h3 (by omega) ?_ h))
      have all:∀ i p,lo≤i→i<lo+t→(arrOf st2)[i]?=some p→o.le p y∧o.le y p:=fun i p b1 b2 e =>
       ⟨h4 i (lo+t-1) p y b1 (by omega) (by omega) e ey,o.le_trans (o.le_of_nb hr) (h4 lo i z p (za4 _) b1 b2 ez e)⟩
      have q:o.dn (rv (arrOf st2) lo (lo+t)) lo (lo+t):=fun i j p q a1 a2 a3 ep eq=>by
       rw[jG (by omega),if_pos (by omega)]at ep eq
       exact o.le_trans (all _ q (by omega) (by omega) eq).1 (all _ p (by omega) (by omega) ep).2
      have ex':(rv (arrOf st2) lo (lo+t))[lo+t]?=some x:=by rw[jG (by omega),if_neg (by omega)];exact ex
      obtain⟨y',ey'⟩:=d6 (u:=rv (arrOf st2) lo (lo+t)) (p:=lo+t-1) (by rw[mirror_size];omega)
      refine j7 h3 q ex' ey' ?_
      rw[jG (by omega),if_pos (by omega)]at ey'
      exact o.le_trans (o.le_of_b hb) (all _ y' (by omega) (by omega) ey').2
    ·have:t=1:=by omega
     subst this
     refine wpS_cr2 hk ga (.refl _ _) hsz (za4 _) (by omega) (j7 (za4 _) ?_ ex ey (o.le_of_b hb)) h
     intro i j p q a1 a2 a3 ep eq
     have:i=j:=by omega
     subst this
     rw[ep]at eq
     cases eq
     exact o.le_refl _
end
section
def mrun:Nat→Nat→Nat→Nat:=sortPriv% PySem.Builtin.minRun
def pwr:Nat→Nat→Nat→Nat→Nat:=sortPriv% PySem.Builtin.power
def sruns:StateT SortSt Sem Unit:=sortPriv% PySem.Builtin.sortRuns
abbrev jP(st:SortSt)(p:Array (Nat×Nat×Nat)):SortSt:=SortSt.mk' (kindOf st) (arrOf st) p (gallopOf st) (failedOf st)
theorem sruns_eq:sruns=(do
  let all:=(arrOf (← get)).size
  let least:=mrun all all 0
  let mut at_:=0
  for _ in [0:all] do
   if at_ ≥ all then break
   let some met ← crun at_ (all-at_) | return
   let mut n:=met
   if n<least then
    rule "list.sort.binary-insertion"
    let most:=min (all-at_) least
    if !(← bsort at_ most n) then return
    n:=most
   if let some (s1,n1,_):=(pendingOf (← get)).back? then
    let w:=pwr all (2*s1+n1) (2*s1+n1+n1+n) all
    for _ in [0:all] do
     let p:=pendingOf (← get)
     let some (_,_,older):=(if p.size>1 then p[p.size-2]? else none) | break
     if older≤w then break
     if !(← mAt (p.size-2)) then return
    modify fun st=>jP st ((pendingOf st).modify ((pendingOf st).size-1) fun(x,y,_)=>(x,y,w))
   modify fun st=>jP st ((pendingOf st).push (at_,n,0))
   at_:=at_+n
  for _ in [0:all] do
   let p:=pendingOf (← get)
   if p.size≤1 then break
   let i:=p.size-2
   let before:=if i>0 then p[i-1]?.map (·.2.1) else none
   let i:=if before.any (·<(p[i+1]?.elim 0 (·.2.1))) then i-1 else i
   if !(← mAt i) then return):=rfl
def srM(w:Nat):StateT SortSt Sem (ForInStep (Option Unit×Unit)):=do
 let st ← get
 match (if (pendingOf st).size>1 then (pendingOf st)[(pendingOf st).size-2]? else none) with
 | some (_,_,older) =>
  if older≤w then pure (.done (none,()))
  else do
   let b ← mAt ((pendingOf st).size-2)
   if !b then pure (.done (some (),())) else pure (.yield (none,()))
 | _=>pure (.done (none,()))
def srP(lo n:Nat):StateT SortSt Sem (ForInStep (Option Unit×Nat)):=do
 modify fun st=>jP st ((pendingOf st).push (lo,n,0))
 pure (.yield (none,lo+n))
def srT(all lo n:Nat):StateT SortSt Sem (ForInStep (Option Unit×Nat)):=do
 let st ← get
 match (pendingOf st).back? with
 | some (s1,n1,_)=>do
  let t ← forIn [0:all] ((none,()):Option Unit×Unit) (fun _ _=>srM (pwr all (2*s1+n1) (2*s1+n1+n1+n) all))
  match t.1 with
  | some r=>pure (.done (some r,lo))
  | none=>do
   modify fun st=>jP st ((pendingOf st).modify ((pendingOf st).size-1) fun x=>(x.1,x.2.1,pwr all (2*s1+n1) (2*s1+n1+n1+n) all))
   srP lo n
 | _=>srP lo n
end
section
variable{M:Model}{A:Around}{E:Value→Shared→Prop}{s:Shared}{kd:SortKind}
inductive Pend(o:Ord M A E s kd):Nat→List (Nat×Nat×Nat)→List (List Keyed)→Prop where
 | nil (n:Nat):Pend o n [] []
 | cons {n w:Nat} {R:List Keyed} {ps:List (Nat×Nat×Nat)} {Rs:List (List Keyed)} (u:R.Pairwise o.le) (h:0<R.length) (t:Pend o (n+R.length) ps Rs):Pend o n ((n,R.length,w)::ps) (R::Rs)
variable{o:Ord M A E s kd}
theorem Pend.length{n:Nat}{ps:List (Nat×Nat×Nat)}{Rs:List (List Keyed)}(p:Pend o n ps Rs):ps.length=Rs.length:=by
 induction p with
 | nil=>rfl
 | cons u h t ih=>simp[ih]
theorem Pend.le{n:Nat}{ps:List (Nat×Nat×Nat)}{Rs:List (List Keyed)}(p:Pend o n ps Rs):ps.length≤Rs.flatten.length:=by
 induction p with
 | nil=>simp
 | cons u h t ih=>simp only[zah,List.flatten_cons,za1];omega
theorem Pend.snoc{n w:Nat}{ps:List (Nat×Nat×Nat)}{Rs:List (List Keyed)}(p:Pend o n ps Rs){R:List Keyed}(u:R.Pairwise o.le)(h:0<R.length):Pend o n (ps++[(n+Rs.flatten.length,R.length,w)]) (Rs++[R]):=by
 induction p with
 | nil n=>exact .cons u h (.nil _)
 | @cons n w' R' ps Rs u' h' t ih =>
  refine .cons u' h' ?_
  have:n+(R'::Rs).flatten.length=n+R'.length+Rs.flatten.length:=by simp;omega
  rw[this]
  exact ih
theorem Pend.other{n:Nat}{ps:List (Nat×Nat×Nat)}{Rs:List (List Keyed)}(p:Pend o n ps Rs):∀ {ps':List (Nat×Nat×Nat)},ps'.map (fun x=>(x.1,x.2.1))=ps.map (fun x=>(x.1,x.2.1))→Pend o n ps' Rs:=by
 induction p with
 | nil n =>
  intro ps' e
  cases ps' with
  | nil=>exact .nil n
  | cons a l=>simp at e
 | @cons n w R ps Rs u h t ih =>
  intro ps' e
  cases ps' with
  | nil=>simp at e
  | cons a l =>
   obtain⟨a1,a2,a3⟩:=a
   simp only[zay,List.cons.injEq,Prod.mk.injEq]at e
   obtain⟨⟨rfl,rfl⟩,e2⟩:=e
   exact .cons u h (ih e2)
theorem Pend.pick{n:Nat}{ps:List (Nat×Nat×Nat)}{Rs:List (List Keyed)}(p:Pend o n ps Rs):∀ (i:Nat),i+1<ps.length→∃ P1 P2 Rs1 Rs2 B C w w2,P1.length=i∧ps=P1++(n+Rs1.flatten.length,B.length,w)::(n+Rs1.flatten.length+B.length,C.length,w2)::P2 ∧
  Rs=Rs1++B::C::Rs2∧B.Pairwise o.le∧C.Pairwise o.le∧0<B.length∧0<C.length∧∀ D:List Keyed,D.Pairwise o.le→D.length=B.length+C.length→Pend o n (P1++(n+Rs1.flatten.length,B.length+C.length,w)::P2) (Rs1++D::Rs2):=by
 induction p with
 | nil n=>intro i hi;simp at hi
 | @cons n w R ps Rs u h t ih =>
  intro i hi
  cases i with
  | zero =>
   cases t with
   | nil=>simp at hi
   | @cons _ w2 R2 ps2 Rs2 u2 h2 t2 =>
    refine⟨[],ps2,[],Rs2,R,R2,w,w2,rfl,by simp,rfl,u,u2,h,h2,fun D uD lD=>?_⟩
    have t3:Pend o (n+D.length) ps2 Rs2:=by rw[lD,← Nat.add_assoc];exact t2
    have:=Pend.cons (w:=w) uD (by omega) t3
    rw[lD]at this
    simpa using this
  | succ i =>
   simp only[zah]at hi
   obtain⟨P1,P2,Rs1,Rs2,B,C,v,v2,e1,e2,e3,uB,uC,hB,hC,k⟩:=ih i (by omega)
   have e:n+(R::Rs1).flatten.length=n+R.length+Rs1.flatten.length:=by simp;omega
   refine⟨(n,R.length,w)::P1,P2,R::Rs1,Rs2,B,C,v,v2,by simp[e1],?_,by simp[e3],uB,uC,hB,hC,fun D uD lD=>?_⟩
   ·rw[e,e2];rfl
   ·rw[e]
    exact .cons u h (k D uD lD)
structure SRun(o:Ord M A E s kd)(a₀:Array Keyed)(lo:Nat)(rest:List Keyed)(st:SortSt):Prop where
 k:kindOf st=kd
 f:failedOf st=none
 perm:(arrOf st).Perm a₀
 ex:∃ Rs,(arrOf st).toList=Rs.flatten++rest∧Rs.flatten.length=lo∧Pend o 0 (pendingOf st).toList Rs
variable{a₀:Array Keyed}{lo:Nat}{rest:List Keyed}{st:SortSt}
theorem all_perm{xs ys:Array Keyed}(p:ys.Perm xs)(ga:o.all xs):o.all ys:=fun i x e=>by
 obtain⟨j,e2⟩:=Array.getElem?_of_mem (p.mem_iff.mp (zb8 e))
 exact ga j x e2
theorem SRun.merge(S:SRun o a₀ lo rest st)(ga:o.all a₀){i:Nat}(hi:i+1<(pendingOf st).size){Q:Bool→SortSt→Prop}(h:∀ st',SRun o a₀ lo rest st'→(pendingOf st').size+1=(pendingOf st).size→Q true st'):wpS M A E s (mAt i) Q st:=by
 obtain⟨Rs,e,el,p⟩:=S.ex
 obtain⟨P1,P2,Rs1,Rs2,B,C,w,w2,e1,e2,e3,uB,uC,hB,hC,k⟩:=p.pick i (by simpa using hi)
 simp only[Nat.zero_add]at e2 k
 have ea:(arrOf st).toList=Rs1.flatten++B++C++(Rs2.flatten++rest):=by rw[e,e3];simp
 refine wpS_mAt S.k S.f (all_perm S.perm ga) ea uB uC hB hC e2 e1.symm fun st' D hk' hf' ha' uD pD hp'=>?_
 have lD:D.length=B.length+C.length:=by rw[pD.length_eq,za1]
 refine h st' ⟨hk',hf',?_,Rs1++D::Rs2,by rw[ha'];simp,?_,by rw[hp'];exact k D uD lD⟩ ?_
 ·refine Array.Perm.trans ?_ S.perm
  rw[Array.perm_iff_toList_perm,ha',ea]
  refine List.Perm.append_right _ ?_
  rw[zai]
  exact List.Perm.append_left _ pD
 ·rw[← el,e3]
  simp[lD]
  omega
 ·have a1:=congrArg List.length hp'
  have a2:=congrArg List.length e2
  simp at a1 a2
  omega
theorem wpS_srM(S:SRun o a₀ lo rest st)(ga:o.all a₀){w:Nat}:wpS M A E s (srM w) (fun t st'=>SRun o a₀ lo rest st'∧(t=.done (none,())∨t=.yield (none,()))) st:=by
 unfold srM
 refine wpS_bind (wpS_get ?_)
 by_cases h1:(pendingOf st).size>1
 ·rw[if_pos h1]
  obtain⟨x,ex⟩:∃ x,(pendingOf st)[(pendingOf st).size-2]?=some x:=⟨(pendingOf st)[(pendingOf st).size-2],getElem?_pos _ _ (by omega)⟩
  rw[ex]
  obtain⟨x1,x2,x3⟩:=x
  dsimp only
  split
  ·exact wpS_pure ⟨S,.inl rfl⟩
  ·exact wpS_bind (S.merge ga (by omega) fun st' S' _=>wpS_pure ⟨S',.inr rfl⟩)
 ·rw[if_neg h1]
  exact wpS_pure ⟨S,.inl rfl⟩
theorem wpS_srP(S:SRun o a₀ lo rest st){n:Nat}(hn:0<n)(hr:n≤rest.length)(u:(rest.take n).Pairwise o.le):wpS M A E s (srP lo n) (fun t st'=>t=.yield (none,lo+n)∧SRun o a₀ (lo+n) (rest.drop n) st') st:=by
 unfold srP
 refine wpS_bind (wpS_modify (wpS_pure ⟨rfl,S.k,S.f,S.perm,?_⟩))
 obtain⟨Rs,e,el,p⟩:=S.ex
 have ln:(rest.take n).length=n:=by rw[zan];omega
 refine⟨Rs++[rest.take n],?_,by simp[el];omega,?_⟩
 ·show(arrOf st).toList=_
  rw[e]
  simp
 ·have:=p.snoc (w:=0) u (by omega)
  rw[Nat.zero_add,el,ln]at this
  show Pend o 0 ((pendingOf st).push (lo,n,0)).toList _
  rw[Array.toList_push]
  exact this
theorem wpS_srT(S:SRun o a₀ lo rest st)(ga:o.all a₀){all n:Nat}(hn:0<n)(hr:n≤rest.length)(u:(rest.take n).Pairwise o.le):wpS M A E s (srT all lo n) (fun t st'=>t=.yield (none,lo+n)∧SRun o a₀ (lo+n) (rest.drop n) st') st:=by
 unfold srT
 refine wpS_bind (wpS_get ?_)
 cases hb:(pendingOf st).back? with
 | none=>exact wpS_srP S hn hr u
 | some x =>
  obtain⟨s1,n1,w1⟩:=x
  dsimp only
  refine wpS_bind (wpS_mono (wpS_forRange (I:=fun t c st2=>c=(none,())∧SRun o a₀ lo rest st2) (Q:=fun c st2=>c=(none,())∧SRun o a₀ lo rest st2) ?step (fun c st2 hh=>hh) ⟨rfl,S⟩) ?post)
  case step =>
   rintro t c st2 _ _ ⟨rfl,S2⟩
   refine wpS_mono (wpS_srM S2 ga) fun t st3 zz1=>?_
   obtain⟨S3,ht⟩:=zz1
   rcases ht with rfl | rfl
   ·exact⟨rfl,S3⟩
   ·exact⟨rfl,S3⟩
  case post =>
   rintro c st2 ⟨rfl,S2⟩
   dsimp only
   refine wpS_bind (wpS_modify ?_)
   refine wpS_srP (lo:=lo) (rest:=rest) (SRun.mk (by exact S2.k) (by exact S2.f) (by exact S2.perm) ?_) hn hr u
   obtain⟨Rs,e,el,p⟩:=S2.ex
   refine⟨Rs,e,el,p.other ?_⟩
   show(((pendingOf st2).modify ((pendingOf st2).size-1) _).toList).map _=_
   rw[Array.toList_modify]
   refine List.ext_getElem? fun i=>?_
   rw[zao,zao,List.getElem?_modify]
   split
   ·cases (pendingOf st2).toList[i]?<;>rfl
   ·cases (pendingOf st2).toList[i]?<;>rfl
end
section
variable{M:Model}{A:Around}{E:Value→Shared→Prop}{s:Shared}{kd:SortKind}{o:Ord M A E s kd}{a₀:Array Keyed}{lo:Nat}{rest:List Keyed}{st st':SortSt}
theorem SRun.as(S:SRun o a₀ lo rest st)(h:As lo st st'):SRun o a₀ lo ((arrOf st').toList.drop lo) st'∧lo+((arrOf st').toList.drop lo).length=a₀.size:=by
 obtain⟨Rs,e,el,p⟩:=S.ex
 have sz:(arrOf st').size=a₀.size:=(h.perm.trans S.perm).size_eq
 have sz0:(arrOf st).size=a₀.size:=S.perm.size_eq
 have le:lo≤a₀.size:=by
  have:=iL e
  rw[za1]at this
  omega
 have et:(arrOf st').toList.take lo=Rs.flatten:=by
  have:(arrOf st').toList.take lo=(arrOf st).toList.take lo:=by
   refine List.ext_getElem? fun i=>?_
   rw[zbo,zbo]
   split
   ·have:=h.pre i (by assumption)
    simpa using this
   ·rfl
  rw[this,e,← el,List.take_left]
 refine⟨⟨h.k.trans S.k,h.f.trans S.f,h.perm.trans S.perm,Rs,?_,el,by rw[h.p];exact p⟩,?_⟩
 ·rw[← et,zaz]
 ·rw[zb9,za8,sz];omega
theorem up_take{xs:Array Keyed}{m:Nat}(h:o.up xs lo (lo+m)):((xs.toList.drop lo).take m).Pairwise o.le:=by
 rw[zb4]
 intro i j hi hj hij
 have bi:i<m:=by rw[zan]at hi;omega
 have bj:j<m:=by rw[zan]at hj;omega
 have ei:xs[lo+i]?=some ((xs.toList.drop lo).take m)[i]:=by
  have:=za2 hi
  rw[zbo,if_pos bi,zbd]at this
  simpa using this
 have ej:xs[lo+j]?=some ((xs.toList.drop lo).take m)[j]:=by
  have:=za2 hj
  rw[zbo,if_pos bj,zbd]at this
  simpa using this
 exact h _ _ _ _ (by omega) (by omega) (by omega) ei ej
theorem pick_ok(c:Prop)[Decidable c](k:Nat)(h:1<k):(if c then k-2-1 else k-2)+1<k:=by split<;>omega
theorem wpS_conv{α:Type}{m m':StateT SortSt Sem α}{Q:α→SortSt→Prop}(e:m=m')(h:wpS M A E s m Q st):wpS M A E s m' Q st:=e▸h
theorem wpS_sruns{Q:Unit→SortSt→Prop}(hk:kindOf st=kd)(hf:failedOf st=none)(ga:o.all (arrOf st))(hp:pendingOf st=#[])
  (h:∀ st',failedOf st'=none→(arrOf st').Perm (arrOf st)→(arrOf st').toList.Pairwise o.le→Q () st'):wpS M A E s sruns Q st:=by
 rw[sruns_eq]
 refine wpS_bind (wpS_get ?_)
 dsimp only
 have S0:SRun o (arrOf st) 0 (arrOf st).toList st:=⟨hk,hf,.refl _,[],rfl,rfl,by rw[hp];exact .nil 0⟩
 have z0:0+(arrOf st).toList.length=(arrOf st).size:=by simp
 refine wpS_bind (wpS_mono (wpS_forRange (I:=fun t c st2=>∃ lo rest,c=(none,lo)∧SRun o (arrOf st) lo rest st2∧t≤lo∧lo+rest.length=(arrOf st).size)
  (Q:=fun c st2=>c=(none,(arrOf st).size)∧SRun o (arrOf st) (arrOf st).size [] st2) ?step ?fin ⟨0,_,rfl,S0,za4 _,z0⟩) ?post)
 case fin =>
  rintro c st2 ⟨lo,rest,rfl,S,h1,h2⟩
  have h3:rest.length=0:=by omega
  have e1:rest=[]:=List.eq_nil_of_length_eq_zero h3
  subst e1
  have e2:lo=(arrOf st).size:=by simpa using h2
  subst e2
  exact⟨rfl,S⟩
 case step =>
  rintro t c st2 _ ht ⟨lo,rest,rfl,S,h1,h2⟩
  dsimp only
  by_cases hge:lo ≥ (arrOf st).size
  ·rw[if_pos hge]
   have h3:rest.length=0:=by omega
   have e1:rest=[]:=List.eq_nil_of_length_eq_zero h3
   subst e1
   have e2:lo=(arrOf st).size:=by simpa using h2
   subst e2
   exact wpS_pure ⟨rfl,S⟩
  ·rw[if_neg hge]
   have ga2:=all_perm S.perm ga
   have sz2:(arrOf st2).size=(arrOf st).size:=S.perm.size_eq
   refine wpS_bind (wpS_crun S.k ga2 (by omega) (by omega) fun m st3 A3 m1 m2 u3=>?_)
   obtain⟨S3,l3⟩:=S.as A3
   have ga3:=all_perm S3.perm ga
   have sz3:(arrOf st3).size=(arrOf st).size:=S3.perm.size_eq
   have tail:∀ (n:Nat) (st4:SortSt) (Q':ForInStep (Option Unit×Nat)→SortSt→Prop),SRun o (arrOf st) lo ((arrOf st4).toList.drop lo) st4→lo+((arrOf st4).toList.drop lo).length=(arrOf st).size→0<n→n≤(arrOf st).size-lo→o.up (arrOf st4) lo (lo+n) →
     (∀ st',(∃ lo' rest,((none,lo+n):Option Unit×Nat)=(none,lo')∧SRun o (arrOf st) lo' rest st'∧t+1≤lo'∧lo'+rest.length=(arrOf st).size)→Q' (.yield (none,lo+n)) st')→wpS M A E s (srT (arrOf st).size lo n) Q' st4:=fun n st4 Q' S4 l4 n0 n1 u4 hq=>by
    refine wpS_mono (wpS_srT S4 ga n0 (by omega) (up_take u4)) fun r st5 zz1=>?_
    obtain⟨er,S5⟩:=zz1
    subst er
    exact hq st5 ⟨lo+n,_,rfl,S5,by omega,by rw[zb9];omega⟩
   dsimp only
   split
   ·refine wpS_bind (wpS_lift (wpAny_rule ⟨rfl,?_⟩))
    refine wpS_bind (wpS_bsort S3.k ga3 (by omega) (by omega) u3 fun st4 A4 u4=>?_)
    obtain⟨S4,l4⟩:=S3.as A4
    rw[if_neg (by decide)]
    refine wpS_conv (m:=srT (arrOf st).size lo (min ((arrOf st).size-lo) (mrun (arrOf st).size (arrOf st).size 0))) ?_ (tail _ st4 _ S4 l4 (by omega) (by omega) u4 fun st' hh=>hh)
    ·dsimp only[srT,srM,srP]
     refine bind_congr fun sx=>?_
     cases (pendingOf sx).back? with
     | none=>rfl
     | some x =>
      obtain⟨s1,n1,w1⟩:=x
      refine gM (congrArg (forIn _ _) (funext fun _=>funext fun _=>bind_congr fun sy=>?_)) (funext fun tt=>?_)
      ·generalize (if (pendingOf sy).size>1 then (pendingOf sy)[(pendingOf sy).size-2]? else none)=zz
       rcases zz with _ | ⟨_,_,_⟩<;>rfl
      ·obtain⟨z,_⟩:=tt
       cases z<;>rfl
   ·refine wpS_conv (m:=srT (arrOf st).size lo m) ?_ (tail m st3 _ S3 l3 (by omega) m2 u3 fun st' hh=>hh)
    ·dsimp only[srT,srM,srP]
     refine bind_congr fun sx=>?_
     cases (pendingOf sx).back? with
     | none=>rfl
     | some x =>
      obtain⟨s1,n1,w1⟩:=x
      refine gM (congrArg (forIn _ _) (funext fun _=>funext fun _=>bind_congr fun sy=>?_)) (funext fun tt=>?_)
      ·generalize (if (pendingOf sy).size>1 then (pendingOf sy)[(pendingOf sy).size-2]? else none)=zz
       rcases zz with _ | ⟨_,_,_⟩<;>rfl
      ·obtain⟨z,_⟩:=tt
       cases z<;>rfl
 case post =>
  rintro c st2 ⟨rfl,S⟩
  dsimp only
  have p2:(pendingOf st2).size≤(arrOf st).size:=by
   obtain⟨Rs,e,el,p⟩:=S.ex
   have:=p.le
   rw[el]at this
   simpa using this
  refine wpS_bind (wpS_mono (wpS_forRange (I:=fun t c st2=>c=(none,())∧SRun o (arrOf st) (arrOf st).size [] st2∧((pendingOf st2).size+t≤(arrOf st).size∨(pendingOf st2).size≤1))
   (Q:=fun c st2=>c=(none,())∧SRun o (arrOf st) (arrOf st).size [] st2∧(pendingOf st2).size≤1) ?step2 ?fin2 ⟨rfl,S,.inl (by omega)⟩) ?post2)
  case fin2 =>
   rintro c st3 ⟨rfl,S3,h3⟩
   exact⟨rfl,S3,by omega⟩
  case step2 =>
   rintro t c st3 _ ht ⟨rfl,S3,h3⟩
   refine wpS_bind (wpS_get ?_)
   by_cases h4:(pendingOf st3).size≤1
   ·rw[if_pos h4]
    exact wpS_pure ⟨rfl,S3,h4⟩
   ·rw[if_neg h4]
    refine wpS_bind (S3.merge ga ?_ fun st4 S4 e4=>?_)
    ·exact pick_ok _ _ (by omega)
    ·exact wpS_pure ⟨rfl,S4,.inl (by omega)⟩
  case post2 =>
   rintro c st3 ⟨rfl,S3,h3⟩
   refine wpS_pure (h st3 S3.f S3.perm ?_)
   obtain⟨Rs,e,el,p⟩:=S3.ex
   rw[e,zau]
   have hl:=p.length
   have hl2:Rs.length≤1:=by rw[← hl];simpa using h3
   cases Rs with
   | nil=>exact List.Pairwise.nil
   | cons R Rs' =>
    cases Rs' with
    | cons R2 Rs2=>simp at hl2
    | nil =>
     generalize (pendingOf st3).toList=ps at p
     cases p with
     | cons u _ _=>simpa using u
end
section
variable{prog:Program}{w:World}{A:Around}{E:Value→Shared→Prop}{s:Shared}
abbrev cr(h:Heap)(a:Addr)(vs:List Value):Heap:=((h.update a (Obj.mapSeq fun _=>#[])).push (seqObj "tuple" vs.toArray 0)).push (seqObj "list" #[] 0)
theorem pw_short{α:Type}{R:α→α→Prop}:∀ {L:List α},L.length<2→L.Pairwise R
 | [],_=>.nil
 | [_],_=>List.pairwise_singleton _ _
 | _::_::_,h=>absurd h (by simp)
theorem ia{a:Addr}{vs:List Value}{n:Nat}{P:Fin→Shared→Prop}{kd:SortKind}(ho:s.heap.get? a=some (seqObj "list" vs.toArray n))(hle:vs.length≤sizeLine)
  (hkk:2≤vs.length→∀ Q:SortKind→Shared→Prop,Q kd { s with heap:=cr s.heap a vs }→wpAny (model prog w) A (keyKind' vs.toArray) Q E { s with heap:=cr s.heap a vs })
  (o:Ord (model prog w) A E { s with heap:=cr s.heap a vs } kd) (ga:o.all (pairsOf vs))
  (h:∀ ks:Array Keyed,ks.Perm (pairsOf vs)→ks.toList.Pairwise o.le→P (.done (.ret .none)) { s with heap:=sortedHeap s.heap a vs (ks.map (·.2)) }) :
  wpAny (model prog w) A (Builtin.«list.sort» ⟨[.ref a],[]⟩) P E s:=by
 rw[list_sort_plain]
 have ha:=Heap.lt_size ho
 refine wpAny_bind (listItems_at ho rfl (wpAny_bind (listUpdate_at ho rfl ?_)))
 obtain⟨e1,h1⟩:∃ e1,(s.heap.update a (Obj.mapSeq fun _=>#[])).get? a=some (seqObj "list" #[] e1):=⟨_,get?_update_seq ho (fun _=>#[])⟩
 refine wpAny_bind (seqEpoch_at h1 rfl (wpAny_bind (wpAny_newTuple (wpAny_bind (wpAny_newList (wpAny_holding ?_))))))
 have h6:(cr s.heap a vs).get? a=some (seqObj "list" #[] e1):=by
  have n1:a≠(s.heap.update a (Obj.mapSeq fun _=>#[])).objs.size:=zap (by rw[Heap.size_update];exact ha)
  have n2:a≠((s.heap.update a (Obj.mapSeq fun _=>#[])).push (seqObj "tuple" vs.toArray 0)).objs.size:=zap (by rw[size_push',Heap.size_update];exact zbt ha)
  rw[Heap.get?_push_ne _ _ _ n2,Heap.get?_push_ne _ _ _ n1]
  exact h1
 show wpAny (model prog w) A _ P E { s with heap:=cr s.heap a vs }
 dsimp only
 by_cases h2:vs.toArray.size<2
 ·rw[if_pos h2,if_pos h2]
  refine wpAny_bind (wpAny_pure ?_)
  rw[StateT.run_pure]
  refine wpAny_bind (wpAny_pure (wpAny_bind (seqEpoch_at h6 rfl (wpAny_bind (listUpdate_at h6 rfl ?_ (hsz2:=?_))))))
  ·simp only[bne_self_eq_false,zab,if_false]
   refine wpAny_pure (h (pairsOf vs) (Array.Perm.refl _) ?_)
   have hl:(pairsOf vs).toList.length<2:=by rw[za8,pairsOf_size];simpa using h2
   exact pw_short hl
  ·rw[Array.size_map]
   show(pairsOf vs).size≤_
   rw[pairsOf_size]
   omega
 ·rw[if_neg h2,if_neg h2]
  have h3:2≤vs.length:=by simpa using h2
  refine wpAny_bind (hkk h3 _ ?_)
  refine wpAny_bind (wpAny_mono (wpS_sruns (o:=o) (st:=SortSt.mk' kd (pairsOf vs) #[] 7 none) (Q:=fun _ st'=>failedOf st'=none∧(arrOf st').Perm (pairsOf vs)∧(arrOf st').toList.Pairwise o.le) rfl rfl ga rfl fun st' a1 a2 a3=>⟨a1,a2,a3⟩) ?_ fun _ _ e=>e)
  rintro⟨⟨⟩,st'⟩ s' ⟨rfl,hf,hp,hs⟩
  refine wpAny_bind (seqEpoch_at h6 rfl (wpAny_bind (listUpdate_at h6 rfl ?_ (hsz2:=?_))))
  ·dsimp only at hf ⊢
   rw[hf]
   simp only[bne_self_eq_false,zab,if_false]
   exact wpAny_pure (h _ hp hs)
  ·refine zb1 (Nat.le_of_eq ((Array.size_map ..).trans (hp.size_eq.trans (pairsOf_size _)))) ?_
   omega
end
section
variable{prog:Program}{w:World}{A:Around}{E:Value→Shared→Prop}{s:Shared}
abbrev fc(h:Heap)(vs:List Value):Heap:=((h.push (seqObj "list" #[] 0)).update h.objs.size (Obj.mapSeq (·++vs.toArray))).push (seqObj "list" vs.toArray 0)
theorem sorted_any{l:Addr}{vs:List Value}{Q:Value→Shared→Prop}{kd:SortKind}(hl:s.heap.IsList l vs.toArray)(hle:vs.length≤sizeLine)(le:Keyed→Keyed→Prop)
  (hkk:2≤vs.length→∀ (A':Around) (E':Value→Shared→Prop) (Q:SortKind→Shared→Prop),Q kd { s with heap:=cr (fc s.heap vs) (s.heap.objs.size+1) vs }→wpAny (model prog w) A' (keyKind' vs.toArray) Q E' { s with heap:=cr (fc s.heap vs) (s.heap.objs.size+1) vs })
  (ord:∀ (A':Around) (E':Value→Shared→Prop),A'.units≤A.units+4→∃ o:Ord (model prog w) A' E' { s with heap:=cr (fc s.heap vs) (s.heap.objs.size+1) vs } kd,o.all (pairsOf vs)∧∀ x y,o.le x y→le x y)
  (h:∀ ks:Array Keyed,ks.Perm (pairsOf vs)→ks.toList.Pairwise le→Q (.ref (s.heap.objs.size+1)) { s with heap:=sortedAll s.heap vs (ks.map (·.2)) }) :
  wpAny (model prog w) A (call (.builtin "sorted") [.ref l]) Q E s:=by
 refine Calls.call_function_entry kind_sorted plain_sorted entry_sorted (args_sorted1 _) ?_
 unfold Builtin.«sorted»
 refine wpAny_bind (m:=checkCount "sorted" 1 1 _) (wpAny_pure (wpAny_bind (collect_list hl (wpAny_bind (wpAny_newList ?_)) hle)))
 have hsz:((s.heap.push (seqObj "list" #[] 0)).update s.heap.objs.size (Obj.mapSeq (·++vs.toArray))).objs.size=s.heap.objs.size+1:=by
  rw[Heap.size_update,size_push']
 have hb:(fc s.heap vs).get? (s.heap.objs.size+1)=some (seqObj "list" vs.toArray 0):=by
  rw[← hsz];exact Heap.get?_push_size _ rfl
 show wpAny _ _ _ _ _ { s with heap:=fc s.heap vs }
 rw[hsz]
 obtain⟨o,ga,ho⟩:=ord A.in1.in1 E (by show A.units+1+1≤_;omega)
 refine wpAny_bind (wpAny_holding (wpAny_call_entry slot_list_sort ⟨_,hb,rfl⟩ entry_list_sort (ia (s:={ s with heap:=fc s.heap vs }) (kd:=kd) hb hle (fun h2 Q q=>hkk h2 _ _ Q q) o ga fun ks kp ku=>⟨_,rfl,?_⟩) (args_list_sort _)))
 exact wpAny_pure ⟨_,rfl,h ks kp (ku.imp fun {x y} z=>ho x y z)⟩
end
mutual
def Dt.blt:Dt→Dt→Bool
 | .int i,.int j=>decide (i<j)
 | .int _,.str _=>true
 | .int _,.tup _=>true
 | .str _,.int _=>false
 | .str x,.str y=>decide (x.cps.toList<y.cps.toList)
 | .str _,.tup _=>true
 | .tup _,.int _=>false
 | .tup _,.str _=>false
 | .tup l,.tup m=>Dt.blts l m
def Dt.blts:List Dt→List Dt→Bool
 | [],[]=>false
 | [],_::_=>true
 | _::_,[]=>false
 | a::l,b::m=>if Dt.beq a b=true then Dt.blts l m else Dt.blt a b
end
theorem Dt.beq_false{a b:Dt}:Dt.beq a b=false↔a≠b:=by
 rw[← Bool.not_eq_true,Dt.beq_iff]
mutual
theorem Dt.irr:∀ a:Dt,Dt.blt a a=false
 | .int i=>by simp[Dt.blt]
 | .str x=>by simp only[Dt.blt,decide_eq_false_iff_not];exact List.lt_irrefl _
 | .tup l=>by simp only[Dt.blt];exact Dt.irrs l
theorem Dt.irrs:∀ l:List Dt,Dt.blts l l=false
 | []=>by simp[Dt.blts]
 | a::l=>by simp only[Dt.blts,Dt.beq_self,if_true];exact Dt.irrs l
end
mutual
theorem Dt.tot:∀ a b:Dt,Dt.blt a b=false→Dt.blt b a=false→a=b
 | .int i,.int j=>by simp only[Dt.blt,decide_eq_false_iff_not];intro h1 h2;congr 1;omega
 | .int i,.str y=>by simp[Dt.blt]
 | .int i,.tup m=>by simp[Dt.blt]
 | .str x,.int j=>by simp[Dt.blt]
 | .str x,.str y=>by
  simp only[Dt.blt,decide_eq_false_iff_not]
  intro h1 h2
  have:x.cps.toList=y.cps.toList:=List.le_antisymm (List.not_lt.mp h2) (List.not_lt.mp h1)
  cases x with | mk cx =>
  cases y with | mk cy =>
  have:cx=cy:=Array.toList_inj.mp this
  rw[this]
 | .str x,.tup m=>by simp[Dt.blt]
 | .tup l,.int j=>by simp[Dt.blt]
 | .tup l,.str y=>by simp[Dt.blt]
 | .tup l,.tup m=>by simp only[Dt.blt];intro h1 h2;rw[Dt.tots l m h1 h2]
theorem Dt.tots:∀ l m:List Dt,Dt.blts l m=false→Dt.blts m l=false→l=m
 | [],[]=>by simp
 | [],b::m=>by simp[Dt.blts]
 | a::l,[]=>by simp[Dt.blts]
 | a::l,b::m=>by
  simp only[Dt.blts]
  intro h1 h2
  by_cases e:a=b
  ·subst e
   rw[if_pos (Dt.beq_self a)]at h1 h2
   rw[Dt.tots l m h1 h2]
  ·rw[if_neg (by rw[Dt.beq_iff];exact e)]at h1
   rw[if_neg (by rw[Dt.beq_iff];exact fun z=>e z.symm)]at h2
   exact absurd (Dt.tot a b h1 h2) e
end
mutual
theorem Dt.trn:∀ a b c:Dt,Dt.blt a b=true→Dt.blt b c=true→Dt.blt a c=true
 | .int i,.int j,.int k=>by simp only[Dt.blt,decide_eq_true_eq];omega
 | .int i,.int j,.str z=>by simp[Dt.blt]
 | .int i,.int j,.tup n=>by simp[Dt.blt]
 | .int i,.str y,.int k=>by simp[Dt.blt]
 | .int i,.str y,.str z=>by simp[Dt.blt]
 | .int i,.str y,.tup n=>by simp[Dt.blt]
 | .int i,.tup m,.int k=>by simp[Dt.blt]
 | .int i,.tup m,.str z=>by simp[Dt.blt]
 | .int i,.tup m,.tup n=>by simp[Dt.blt]
 | .str x,.int j,c=>by intro h;simp only[Dt.blt,zab]at h
 | .str x,.str y,.int k=>by simp[Dt.blt]
 | .str x,.str y,.str z=>by simp only[Dt.blt,decide_eq_true_eq];exact List.lt_trans
 | .str x,.str y,.tup n=>by simp[Dt.blt]
 | .str x,.tup m,.int k=>by simp[Dt.blt]
 | .str x,.tup m,.str z=>by simp[Dt.blt]
 | .str x,.tup m,.tup n=>by simp[Dt.blt]
 | .tup l,.int j,c=>by intro h;simp only[Dt.blt,zab]at h
 | .tup l,.str y,c=>by intro h;simp only[Dt.blt,zab]at h
 | .tup l,.tup m,.int k=>by simp[Dt.blt]
 | .tup l,.tup m,.str z=>by simp[Dt.blt]
 | .tup l,.tup m,.tup n=>by simp only[Dt.blt];exact Dt.trns l m n
theorem Dt.trns:∀ l m n:List Dt,Dt.blts l m=true→Dt.blts m n=true→Dt.blts l n=true
 | [],[],n=>by intro h;simp only[Dt.blts,zab]at h
 | [],b::m,[]=>by simp[Dt.blts]
 | [],b::m,c::n=>by simp[Dt.blts]
 | a::l,[],n=>by intro h;simp only[Dt.blts,zab]at h
 | a::l,b::m,[]=>by simp[Dt.blts]
 | a::l,b::m,c::n=>by
  simp only[Dt.blts]
  intro h1 h2
  by_cases e1:a=b
  ·subst e1
   rw[if_pos (Dt.beq_self a)]at h1
   by_cases e2:a=c
   ·subst e2
    rw[if_pos (Dt.beq_self a)]at h2 ⊢
    exact Dt.trns l m n h1 h2
   ·have ne:¬ Dt.beq a c=true:=by rw[Dt.beq_iff];exact e2
    rw[if_neg ne]at h2 ⊢
    exact h2
  ·rw[if_neg (by rw[Dt.beq_iff];exact e1)]at h1
   by_cases e2:b=c
   ·subst e2
    rw[if_neg (by rw[Dt.beq_iff];exact e1)]
    exact h1
   ·rw[if_neg (by rw[Dt.beq_iff];exact e2)]at h2
    have t:=Dt.trn a b c h1 h2
    by_cases e3:a=c
    ·subst e3
     rw[Dt.irr]at t
     cases t
    ·rw[if_neg (by rw[Dt.beq_iff];exact e3)]
     exact t
end
def dtOrd:KeyOrd where
 α:=Dt
 blt:=Dt.blt
 irrefl:=Dt.irr
 trans:=Dt.trn
 negTrans a b c h:=by
  cases hb:Dt.blt a b with
  | true=>exact .inl rfl
  | false =>
   cases hc:Dt.blt b a with
   | true=>exact .inr (Dt.trn _ _ _ hc h)
   | false=>rw[← Dt.tot a b hb hc];exact .inr h
 total:=Dt.tot
end BF
namespace BF
open PySem PySem.Spec PyProof.Rows L2 PySem.SeqAt
def LtAt(A:Around)(s:Shared)(x y:Value)(b:Bool):Prop:=∀ (prog:Program) (w:World) (Q E:Value→Shared→Prop),Q (.bool b) s→wpAny (model prog w) A (richCompare .Lt x y) Q E s
inductive Lx(A:Around)(s:Shared):List Value→List Value→Bool→Prop where
 | both:Lx A s [] [] false
 | left (y:Value) (ys:List Value):Lx A s [] (y::ys) true
 | right (x:Value) (xs:List Value):Lx A s (x::xs) [] false
 | like {x y:Value} {xs ys:List Value} {r:Bool} (h:EqAt A s x y true) (t:Lx A s xs ys r):Lx A s (x::xs) (y::ys) r
 | part {x y:Value} {r:Bool} (xs ys:List Value) (h:EqAt A s x y false) (k:LtAt A s x y r):Lx A s (x::xs) (y::ys) r
section
open PySem.AutoSeq1 (wpAny_loadPart')
open PySem.MeetsSeq PySem.MeetsSeq2 PySem.MeetsSeq3
theorem tuple_lt_lx(l b:Addr)(pa pb:Array Value)(n n2:Nat)(dd dd2:Option Addr)(sl sl2:Array (Option Value))(r:Bool) :
  Meets (Builtin.«tuple.__lt__» ⟨[.ref l,.ref b],[]⟩)
   (fun A R s=>Lx A.in1 s pa.toList pb.toList r∧s.heap.get? l=some { cls:=.type "tuple",dict:=dd,data:=.seq pa n,slots:=sl }∧s.heap.get? b=some { cls:=.type "tuple",dict:=dd2,data:=.seq pb n2,slots:=sl2 } ∧
    R (.ok (.ret (.bool r))) s) :=
 .of_wp fun prog w A R s h=>by
  obtain⟨hp,g,d,tk,os⟩:=s
  obtain⟨lx,hl,hb,h⟩:=h
  have f2:=AutoSeq1.sub_tuple_tuple
  wp_walk using wpAny_loadPart' hl,wpAny_loadPart' hb,wpAny_forIn_list _ (fun rest q s'=>q.1=none∧s'=⟨hp,g,d,tk,os⟩∧∃ (vs ws:List Value),rest=vs.zip ws ∧
   Lx A.in1 ⟨hp,g,d,tk,os⟩ vs ws r∧vs.length+pb.size=ws.length+pa.size) _
  case turn =>
   rintro⟨y,x⟩ rest q s' ⟨hq,rfl,vs,ws,hz,lx,hlen⟩
   cases lx with
   | both=>rw[List.zip_nil_left]at hz;cases hz
   | left=>rw[List.zip_nil_left]at hz;cases hz
   | right=>rw[List.zip_nil_right]at hz;cases hz
   | @like x' y' xs ys _ he t =>
    rw[zbw]at hz
    injection hz with e1 e2
    injection e1 with e3 e4
    subst e3 e4
    simp only[zah]at hlen
    refine wpAny_bind (he prog w _ _ ?_)
    wp_walk
    exact⟨rfl,rfl,_,_,e2,t,by omega⟩
   | @part x' y' _ xs ys he k =>
    rw[zbw]at hz
    injection hz with e1 e2
    injection e1 with e3 e4
    subst e3 e4
    refine wpAny_bind (he prog w _ _ ?_)
    have kk:∀ (E:Value→Shared→Prop) (Q:Value→Shared→Prop),Q (.bool r) ⟨hp,g,d,tk,os⟩→wpAny (model prog w) A.in1 (richCompare .Lt y x) Q E ⟨hp,g,d,tk,os⟩:=fun E Q z=>k prog w Q E z
    wp_walk using kk
    exact⟨_,rfl,by simpa using h⟩
  case fin =>
   rintro⟨b1,b2⟩ s' ⟨hq,rfl,vs,ws,hz,lx,hlen⟩
   simp only at hq
   subst hq
   have hv:r=decide (pa.size<pb.size):=by
    cases lx with
    | both=>simp only[zbc]at hlen;exact(decide_eq_false (by omega)).symm
    | left=>simp only[zbc,zah]at hlen;exact(decide_eq_true (by omega)).symm
    | right=>simp only[zbc,zah]at hlen;exact(decide_eq_false (by omega)).symm
    | like=>rw[zbw]at hz;cases hz
    | part=>rw[zbw]at hz;cases hz
   subst hv
   wp_walk
   exact⟨_,rfl,by simpa [Builtin.Tuple.tupleCompareSizes] using h⟩
  case h =>
   exact⟨rfl,rfl,pa.toList,pb.toList,rfl,lx,by simp;omega⟩
end
theorem ltAt_tuples{A:Around}{s:Shared}{l b:Addr}{pa pb:Array Value}{r:Bool}(hl:IsTup s.heap l pa)(hb:IsTup s.heap b pb)(lx:Lx A.in1 s pa.toList pb.toList r)(hu:A.units<cLine):LtAt A s (.ref l) (.ref b) r:=by
 intro prog w Q E h
 obtain⟨⟨cls,dd,data,sl⟩,ho,hc,n,hd⟩:=id hl
 obtain⟨⟨cls2,dd2,data2,sl2⟩,ho2,hc2,n2,hd2⟩:=id hb
 simp only at hc hd hc2 hd2
 subst hc hd hc2 hd2
 exact richCompare_meets_room (op:=.Lt) ⟨_,ho,rfl⟩ ⟨_,ho2,rfl⟩ PySem.F.slot_tuple_lt PySem.F.entry_tuple_lt (PySem.F.args_tuple_lt_2 _ _) (tuple_lt_lx l b pa pb n n2 dd dd2 sl sl2 r)
  ⟨lx,ho,ho2,show Value.bool r≠Value.notImplemented∧Q (.bool r) s from ⟨(fun x=>nomatch x),h⟩⟩ hu
mutual
def Dt.like:Dt→Dt→Bool
 | .int _,.int _=>true
 | .str _,.str _=>true
 | .tup l,.tup m=>Dt.likes l m
 | _,_=>false
def Dt.likes:List Dt→List Dt→Bool
 | a::l,b::m=>Dt.like a b&&Dt.likes l m
 | _,_=>true
end
section
variable{X:Cx}{pins:List (Addr×Obj)}{σ:L2.St}{H:Hp}{s:Shared}
mutual
theorem ltAt_D(I:Inv X pins σ H s):∀ {d d':Dt} {v v':V} {u u':Value} (A:Around),DtIs H v d→RelV v u→DtIs H v' d'→RelV v' u'→Dt.like d d'=true→A.units+d.dp<cLine→LtAt A s u u' (Dt.blt d d')
 | .int i,.int j=>by
  intro A h r h' r' hk hu
  cases h
  cases h'
  obtain⟨t,rfl⟩:=r
  obtain⟨t',rfl⟩:=r'
  intro prog w Q E h
  rw[show Dt.blt (.int i) (.int j)=decide (i<j) by simp only[Dt.blt]]at h
  exact(PyProof.Rows.lt_int h:wpAny (model prog w) A (compareOp .Lt (.int i t) (.int j t')) Q E s)
 | .str x,.str y=>by
  intro A h r h' r' hk hu
  cases h
  cases h'
  obtain⟨t,rfl⟩:=r
  obtain⟨t',rfl⟩:=r'
  intro prog w Q E h
  rw[show Dt.blt (.str x) (.str y)=decide (x.cps.toList<y.cps.toList) by simp only[Dt.blt]]at h
  exact(PyProof.Rows.lt_str h:wpAny (model prog w) A (compareOp .Lt (.str x t) (.str y t')) Q E s)
 | .tup l,.tup m=>by
  intro A h r h' r' hk hu
  cases h with
  | tup e q =>
  cases h' with
  | tup e' q' =>
  cases r
  cases r'
  obtain⟨its,rv,p,_⟩:=I.tuple (SqT.of e)
  obtain⟨its',rv',p',_⟩:=I.tuple (SqT.of e')
  have hd:A.units+(Dt.dps l+1)<cLine:=by simpa only[Dt.dp] using hu
  have hk':Dt.likes l m=true:=by simpa only[Dt.like] using hk
  rw[show Dt.blt (.tup l) (.tup m)=Dt.blts l m by simp only[Dt.blt]]
  exact ltAt_tuples p p' (lx_D I A.in1 q rv q' rv' hk' (by show A.units+1+_<_;omega)) (by omega)
 | .int _,.str _=>by
  intro A h r h' r' hk hu
  simp only[Dt.like,zab]at hk
 | .int _,.tup _=>by
  intro A h r h' r' hk hu
  simp only[Dt.like,zab]at hk
 | .str _,.int _=>by
  intro A h r h' r' hk hu
  simp only[Dt.like,zab]at hk
 | .str _,.tup _=>by
  intro A h r h' r' hk hu
  simp only[Dt.like,zab]at hk
 | .tup _,.int _=>by
  intro A h r h' r' hk hu
  simp only[Dt.like,zab]at hk
 | .tup _,.str _=>by
  intro A h r h' r' hk hu
  simp only[Dt.like,zab]at hk
theorem lx_D(I:Inv X pins σ H s):∀ {ds ds':List Dt} {vs vs':List V} {us us':List Value} (A:Around),ac H vs ds→Vals vs us→ac H vs' ds'→Vals vs' us'→Dt.likes ds ds'=true→A.units+Dt.dps ds<cLine→Lx A s us us' (Dt.blts ds ds')
 | [],[]=>by
  intro A h r h' r' hk hu
  cases h
  cases r
  cases h'
  cases r'
  rw[show Dt.blts [] []=false by simp only[Dt.blts]];exact .both
 | [],_::_=>by
  intro A h r h' r' hk hu
  cases h
  cases r
  cases h'
  cases r'
  rw[show ∀ a l,Dt.blts [] (a::l)=true from fun a l=>by simp only[Dt.blts]];exact .left _ _
 | _::_,[]=>by
  intro A h r h' r' hk hu
  cases h
  cases r
  cases h'
  cases r'
  rw[show ∀ a l,Dt.blts (a::l) []=false from fun a l=>by simp only[Dt.blts]];exact .right _ _
 | d::ds,d'::ds'=>by
  intro A h r h' r' hk hu
  cases h with
  | cons h t =>
  cases r with
  | cons r rs =>
  cases h' with
  | cons h' t' =>
  cases r' with
  | cons r' rs' =>
  have hk':Dt.like d d'=true∧Dt.likes ds ds'=true:=by simpa only[Dt.likes,zc7] using hk
  have hu':A.units+max d.dp (Dt.dps ds)<cLine:=by simpa only[Dt.dps] using hu
  have hq:=eqAt_D I A h r h' r' (by omega)
  rw[show Dt.blts (d::ds) (d'::ds')=if Dt.beq d d'=true then Dt.blts ds ds' else Dt.blt d d' by simp only[Dt.blts]]
  cases hb:Dt.beq d d' with
  | true =>
   rw[hb]at hq
   rw[if_pos rfl]
   exact .like hq (lx_D I A t rs t' rs' hk'.2 (by omega))
  | false =>
   rw[hb]at hq
   rw[if_neg zaj]
   exact .part _ _ hq (ltAt_D I A h r h' r' hk'.1 (by omega))
end
end
abbrev gT(f:Bool):SortKind:=(sortPriv% PySem.Builtin.KeyKind.tuples) f
theorem keyLt_tuples(f:Bool)(x y:Value):keyLt' (gT f) x y=(do
  let a ← Builtin.List.listItems x
  let b ← Builtin.List.listItems y
  for ((p,q),i) in (a.toList.zip b.toList).zipIdx do
   if !(← eqBool p q) then return ← oneLt' (f&&i==0) p q
  return a.size<b.size):=rfl
theorem oneLt_false(x y:Value):oneLt' false x y=(do truthOfDropped (← richCompare .Lt x y)):=rfl
inductive Lk(A:Around)(s:Shared)(prog:Program)(w:World)(f:Bool):Nat→List Value→List Value→Bool→Prop where
 | both (i:Nat):Lk A s prog w f i [] [] false
 | left (i:Nat) (y:Value) (ys:List Value):Lk A s prog w f i [] (y::ys) true
 | right (i:Nat) (x:Value) (xs:List Value):Lk A s prog w f i (x::xs) [] false
 | like {i:Nat} {x y:Value} {xs ys:List Value} {r:Bool} (h:EqAt A s x y true) (t:Lk A s prog w f (i+1) xs ys r):Lk A s prog w f i (x::xs) (y::ys) r
 | part {i:Nat} {x y:Value} {r:Bool} (xs ys:List Value) (h:EqAt A s x y false) (k:∀ (E:Value→Shared→Prop) (Q:Bool→Shared→Prop),Q r s→wpAny (model prog w) A (oneLt' (f&&i==0) x y) Q E s):Lk A s prog w f i (x::xs) (y::ys) r
theorem keyLt_lk{A:Around}{s:Shared}{prog:Program}{w:World}{f:Bool}{l b:Addr}{pa pb:Array Value}{r:Bool}{Q:Bool→Shared→Prop}{E:Value→Shared→Prop}(hl:IsTup s.heap l pa)(hb:IsTup s.heap b pb)(lk:Lk A s prog w f 0 pa.toList pb.toList r)(h:Q r s) :
  wpAny (model prog w) A (keyLt' (gT f) (.ref l) (.ref b)) Q E s:=by
 obtain⟨o1,ho,hc,n,hd⟩:=id hl
 obtain⟨o2,ho2,hc2,n2,hd2⟩:=id hb
 rw[keyLt_tuples]
 refine wpAny_bind (listItems_at ho hd ?_)
 refine wpAny_bind (listItems_at ho2 hd2 ?_)
 refine wpAny_bind (wpAny_forIn_list _ (fun rest c s'=>c=(none,())∧s'=s∧∃ (i:Nat) (vs ws:List Value),rest=(vs.zip ws).zipIdx i∧Lk A s prog w f i vs ws r∧vs.length+pb.size=ws.length+pa.size)
  (fun c s'=>s'=s∧(c=(some r,())∨(c=(none,())∧r=decide (pa.size<pb.size)))) ?turn ?fin _ _ ⟨rfl,rfl,0,_,_,rfl,lk,by simp;omega⟩ |> fun z=>wpAny_mono z ?post fun _ _ e=>e)
 case turn =>
  rintro⟨⟨p,q⟩,j⟩ rest c s' ⟨rfl,rfl,i,vs,ws,hz,lk,hlen⟩
  cases lk with
  | both=>simp at hz
  | left=>simp at hz
  | right=>simp at hz
  | @like _ x y xs ys _ he t =>
   rw[zbw,List.zipIdx_cons]at hz
   injection hz with e1 e2
   injection e1 with e3 e4
   injection e3 with e5 e6
   subst e5 e6 e4
   simp only[zah]at hlen
   refine wpAny_bind (he prog w _ _ ?_)
   exact wpAny_pure ⟨rfl,rfl,_,_,_,e2,t,by omega⟩
  | @part _ x y _ xs ys he k =>
   rw[zbw,List.zipIdx_cons]at hz
   injection hz with e1 e2
   injection e1 with e3 e4
   injection e3 with e5 e6
   subst e5 e6 e4
   refine wpAny_bind (he prog w _ _ ?_)
   exact wpAny_bind (k _ _ (wpAny_pure ⟨rfl,.inl rfl⟩))
 case fin =>
  rintro c s' ⟨rfl,rfl,i,vs,ws,hz,lk,hlen⟩
  refine⟨rfl,.inr ⟨rfl,?_⟩⟩
  cases lk with
  | both=>simp only[zbc]at hlen;exact(decide_eq_false (by omega)).symm
  | left=>simp only[zbc,zah]at hlen;exact(decide_eq_true (by omega)).symm
  | right=>simp only[zbc,zah]at hlen;exact(decide_eq_false (by omega)).symm
  | like=>simp at hz
  | part=>simp at hz
 case post =>
  rintro c s' ⟨rfl,rfl | ⟨rfl,hr⟩⟩
  ·exact wpAny_pure h
  ·subst hr
   exact wpAny_pure h
section
variable{X:Cx}{pins:List (Addr×Obj)}{σ:L2.St}{H:Hp}{s:Shared}
def Dt.flat:Dt→Bool
 | .tup _=>false
 | _=>true
theorem oneLt_D(I:Inv X pins σ H s){d d':Dt}{v v':V}{u u':Value}{A:Around}{g:Bool}(h:DtIs H v d)(r:RelV v u)(h':DtIs H v' d')(r':RelV v' u')(hk:Dt.like d d'=true)(hu:A.units+d.dp<cLine)(hg:g=true→Dt.flat d=true)
  {prog:Program} {w:World} {E:Value→Shared→Prop} {Q:Bool→Shared→Prop} (q:Q (Dt.blt d d') s):wpAny (model prog w) A (oneLt' g u u') Q E s:=by
 cases g with
 | false =>
  rw[oneLt_false]
  exact wpAny_bind (ltAt_D I A h r h' r' hk hu prog w _ _ (wpAny_truthy_bool q))
 | true =>
  have hf:=hg rfl
  cases h with
  | int i =>
   cases h' with
   | int j =>
    obtain⟨t,rfl⟩:=r
    obtain⟨t',rfl⟩:=r'
    exact oneLt_int (by simpa only[Dt.blt] using q)
   | str y=>simp only[Dt.like,zab]at hk
   | tup _ _=>simp only[Dt.like,zab]at hk
  | str x =>
   cases h' with
   | str y =>
    obtain⟨t,rfl⟩:=r
    obtain⟨t',rfl⟩:=r'
    exact oneLt_str (by simpa only[Dt.blt] using q)
   | int j=>simp only[Dt.like,zab]at hk
   | tup _ _=>simp only[Dt.like,zab]at hk
  | tup _ _=>simp only[Dt.flat,zab]at hf
theorem lk_D(I:Inv X pins σ H s){f:Bool}{prog:Program}{w:World}:∀ {ds ds':List Dt} {vs vs':List V} {us us':List Value} (A:Around) (i:Nat),ac H vs ds→Vals vs us→ac H vs' ds'→Vals vs' us'→Dt.likes ds ds'=true→A.units+Dt.dps ds<cLine →
  (f=true→i=0→∀ d,ds.head?=some d→Dt.flat d=true)→Lk A s prog w f i us us' (Dt.blts ds ds')
 | [],[]=>by
  intro A i h r h' r' hk hu hf
  cases h
  cases r
  cases h'
  cases r'
  rw[show Dt.blts [] []=false by simp only[Dt.blts]];exact .both _
 | [],_::_=>by
  intro A i h r h' r' hk hu hf
  cases h
  cases r
  cases h'
  cases r'
  rw[show ∀ a l,Dt.blts [] (a::l)=true from fun a l=>by simp only[Dt.blts]];exact .left _ _ _
 | _::_,[]=>by
  intro A i h r h' r' hk hu hf
  cases h
  cases r
  cases h'
  cases r'
  rw[show ∀ a l,Dt.blts (a::l) []=false from fun a l=>by simp only[Dt.blts]];exact .right _ _ _
 | d::ds,d'::ds'=>by
  intro A i h r h' r' hk hu hf
  cases h with
  | cons h t =>
  cases r with
  | cons r rs =>
  cases h' with
  | cons h' t' =>
  cases r' with
  | cons r' rs' =>
  have hk':Dt.like d d'=true∧Dt.likes ds ds'=true:=by simpa only[Dt.likes,zc7] using hk
  have hu':A.units+max d.dp (Dt.dps ds)<cLine:=by simpa only[Dt.dps] using hu
  have hq:=eqAt_D I A h r h' r' (by omega)
  rw[show Dt.blts (d::ds) (d'::ds')=if Dt.beq d d'=true then Dt.blts ds ds' else Dt.blt d d' by simp only[Dt.blts]]
  cases hb:Dt.beq d d' with
  | true =>
   rw[hb]at hq
   rw[if_pos rfl]
   exact .like hq (lk_D I A (i+1) t rs t' rs' hk'.2 (by omega) (fun _ z=>absurd z (by omega)))
  | false =>
   rw[hb]at hq
   rw[if_neg zaj]
   refine .part _ _ hq fun E Q q=>oneLt_D I h r h' r' hk'.1 (by omega) (fun hg=>?_) q
   rw[zc7]at hg
   exact hf hg.1 (by simpa using hg.2) d rfl
end
section
variable{X:Cx}{pins:List (Addr×Obj)}{σ:L2.St}{H:Hp}{s:Shared}
def gO(H:Hp)(u:Value)(d:Dt):Prop:=∃ v,RelV v u∧DtIs H v d
theorem gO.inj{u:Value}{d d':Dt}(h:gO H u d)(h':gO H u d'):d=d':=by
 obtain⟨v,r,q⟩:=h
 obtain⟨v',r',q'⟩:=h'
 cases q with
 | int i =>
  obtain⟨t,rfl⟩:=r
  cases q' with
  | int j=>obtain⟨t',e⟩:=r';cases e;rfl
  | str y=>obtain⟨t',e⟩:=r';cases e
  | tup e _=>cases r'
 | str x =>
  obtain⟨t,rfl⟩:=r
  cases q' with
  | int j=>obtain⟨t',e⟩:=r';cases e
  | str y=>obtain⟨t',e⟩:=r';cases e;rfl
  | tup e _=>cases r'
 | @tup a xs ds e h =>
  cases r
  cases q' with
  | int j=>obtain⟨t',e⟩:=r';cases e
  | str y=>obtain⟨t',e⟩:=r';cases e
  | @tup a' xs' ds' e' h2 =>
   cases r'
   exact DtIs.inj (.tup e h) (.tup e' h2)
open Classical in
noncomputable def datKey (H:Hp) (p:Keyed):Dt:=if h:∃ d,gO H p.1 d then Classical.choose h else .int 0
theorem i4{p:Keyed}{d:Dt}(h:gO H p.1 d):datKey H p=d:=by
 have hx:∃ d,gO H p.1 d:=⟨d,h⟩
 unfold datKey
 rw[dif_pos hx]
 exact gO.inj (Classical.choose_spec hx) h
noncomputable def ordT (I:Inv X pins σ H s) (prog:Program) (w:World) (A:Around) (E:Value→Shared→Prop) (f:Bool) (P:Dt→Prop) (hP:∀ d d',P d→P d'→∃ l m,d=.tup l∧d'=.tup m∧Dt.likes l m=true∧A.units+Dt.dps l<cLine∧(f=true→∀ a,l.head?=some a→Dt.flat a=true)) :
  Ord (model prog w) A E s (gT f) where
 O:=dtOrd
 key:=datKey H
 G:=fun p=>∃ d,gO H p.1 d∧P d
 lt:=fun {st x y Q} hk gx gy h=>by
  obtain⟨d,hd,pd⟩:=gx
  obtain⟨d',hd',pd'⟩:=gy
  rw[i4 hd,i4 hd']at h
  obtain⟨l,m,rfl,rfl,lk,hu,hf⟩:=hP d d' pd pd'
  obtain⟨v,r,q⟩:=hd
  obtain⟨v',r',q'⟩:=hd'
  obtain⟨x1,x2⟩:=x
  obtain⟨y1,y2⟩:=y
  cases q with
  | tup e qs =>
   cases q' with
   | tup e' qs' =>
    cases r
    cases r'
    obtain⟨its,rv,p,_⟩:=I.tuple (SqT.of e)
    obtain⟨its',rv',p',_⟩:=I.tuple (SqT.of e')
    rw[lt'_eq]
    refine wpS_bind (wpS_get ?_)
    rw[hk]
    have hb:Q (some (Dt.blts l m)) st:=by
     have:dtOrd.blt (.tup l) (.tup m)=Dt.blts l m:=by show Dt.blt _ _=_;simp only[Dt.blt]
     rw[← this];exact h
    refine wpS_bind (wpS_lift (wpAny_attempt (keyLt_lk p p' (lk_D I A 0 qs rv qs' rv' lk hu (fun z _=>hf z)) ⟨rfl,?_⟩)))
    exact wpS_pure hb
end
theorem vals_perm{us us':List Value}(p:us.Perm us'):∀ {ys:List V},Vals ys us→∃ zs,Vals zs us'∧ys.Perm zs:=by
 induction p with
 | nil=>intro ys r;exact⟨ys,r,.refl _⟩
 | cons x _ ih =>
  intro ys r
  cases r with
  | cons r1 r2 =>
   obtain⟨zs,a,b⟩:=ih r2
   exact⟨_::zs,.cons r1 a,b.cons _⟩
 | swap x y l =>
  intro ys r
  cases r with
  | cons r1 r2 =>
   cases r2 with
   | cons r3 r4=>exact⟨_::_::_,.cons r3 (.cons r1 r4),.swap _ _ _⟩
 | trans _ _ ih1 ih2 =>
  intro ys r
  obtain⟨zs,a,b⟩:=ih1 r
  obtain⟨ws,c,d⟩:=ih2 a
  exact⟨ws,c,b.trans d⟩
theorem dts_perm{H:Hp}{ys zs:List V}(p:ys.Perm zs):∀ {ds:List Dt},ac H ys ds→∃ es,ac H zs es∧ds.Perm es:=by
 induction p with
 | nil=>intro ds r;exact⟨ds,r,.refl _⟩
 | cons x _ ih =>
  intro ds r
  cases r with
  | cons r1 r2 =>
   obtain⟨es,a,b⟩:=ih r2
   exact⟨_::es,.cons r1 a,b.cons _⟩
 | swap x y l =>
  intro ds r
  cases r with
  | cons r1 r2 =>
   cases r2 with
   | cons r3 r4=>exact⟨_::_::_,.cons r3 (.cons r1 r4),.swap _ _ _⟩
 | trans _ _ ih1 ih2 =>
  intro ds r
  obtain⟨es,a,b⟩:=ih1 r
  obtain⟨fs,c,d⟩:=ih2 a
  exact⟨fs,c,b.trans d⟩
def Dt.tag:Dt→String
 | .int _=>"int"
 | .str _=>"str"
 | .tup _=>"tuple"
theorem mid_old{h:Heap}{vs:List Value}{c:Addr}{o:Obj}(e:h.get? c=some o):(cr (fc h vs) (h.objs.size+1) vs).get? c=some o:=by
 have hc:=Heap.lt_size e
 refine Heap.get?_push_of_some _ (Heap.get?_push_of_some _ ?_)
 rw[Heap.get?_update_other _ _ (Ne.symm (zap (zbt hc)))]
 refine Heap.get?_push_of_some _ ?_
 rw[Heap.get?_update_other _ _ (Ne.symm (zap hc))]
 exact Heap.get?_push_of_some _ e
theorem iD{H:Hp}:∀ {ys:List V} {ds:List Dt} {us:List Value},ac H ys ds→Vals ys us→∀ (i:Nat) (u:Value),us[i]?=some u→∃ d,ds[i]?=some d∧gO H u d
 | []=>by
  intro g r i u e
  cases g
  cases r
  simp at e
 | y::ys=>by
  intro g r i u e
  cases g with
  | cons h t =>
  cases r with
  | cons r rs =>
  cases i with
  | zero =>
   simp at e
   subst e
   exact⟨_,rfl,_,r,h⟩
  | succ i =>
   simp at e
   obtain⟨d,e1,e2⟩:=iD t rs i u e
   exact⟨d,by simpa using e1,e2⟩
section
variable{X:Cx}
theorem looks_D{M:Model}{pins:List (Addr×Obj)}{σ:L2.St}{H:Hp}{s:Shared}(I:Inv X pins σ H s){u:Value}{d:Dt}(h:gO H u d):PySem.W.Looks M s.heap (typeOf u) (.type d.tag):=by
 obtain⟨v,r,q⟩:=h
 cases q with
 | int i=>obtain⟨t,rfl⟩:=r;exact .now
 | str x=>obtain⟨t,rfl⟩:=r;exact .now
 | tup e _ =>
  cases r
  obtain⟨its,_,⟨o,ho,hc,_⟩,_⟩:=I.tuple (SqT.of e)
  exact hc▸(show PySem.W.Looks M s.heap (typeOf (.ref _)) o.cls from (PySem.W.Looks.ld ho).andThen .now)
theorem katT{pins:List (Addr×Obj)}{σ:L2.St}{H:Hp}{s:Shared}(I:Inv X pins σ H s){T:String}:∀ {ys:List V} {ds:List Dt} {us:List Value},ac H ys ds→Vals ys us→(∀ d∈ds,∃ e r,d=.tup (e::r)∧e.tag=T) →
  ∃ fs,PySem.W.KatTups s.heap us fs∧fs.length=us.length∧∀ f∈fs,∃ e,gO H f e∧e.tag=T
 | _,_,_,.nil,.nil,_=>⟨[],trivial,rfl,fun _ z=>nomatch z⟩
 | _,_,_,.cons h t,.cons r rs,hs=>by
  obtain⟨fs,k,lf,hf⟩:=katT I t rs fun d hd=>hs d (zac _ hd)
  obtain⟨e,r',rfl,et⟩:=hs _ (zad ..)
  cases h with
  | tup ex qs =>
   cases r
   obtain⟨its,rv,⟨o,ho,hc,n,hd⟩,_⟩:=I.tuple (SqT.of ex)
   cases qs with
   | cons q1 q2 =>
    cases rv with
    | cons r1 r2 =>
     refine⟨_::fs,PySem.W.KatTups.cons ho hc hd rfl k,by simp[lf],fun f hf'=>?_⟩
     rcases zaa.mp hf' with rfl | hf'
     ·exact⟨e,⟨_,r1,q1⟩,et⟩
     ·exact hf f hf'
def rSortT(X:Cx):List V→Hp→VK→Prop:=fun xs H Q=>∃ a ys ds T,xs=[.ref a]∧SqL X.K H a ys∧ac H ys ds∧(∀ d∈ds,∃ e r,d=.tup (e::r)∧e.tag=T) ∧
 (∀ d∈ds,∀ d'∈ds,Dt.like d d'=true)∧(∀ d∈ds,X.A.units+4+d.dp<cLine) ∧
 ∀ l zs es,H l=none→zs.Perm ys→ac H zs es→es.Perm ds→es.Pairwise (fun d d'=>Dt.blt d' d=false)→Q (.ref l) (upd H l (.lst zs))
theorem ja:gf X (.builtin "sorted") (rSortT X):=by
 intro pins s σ H xs us Q I r h
 obtain⟨a,ys,ds,T,rfl,hS,hD,hT,hL,hu,q⟩:=h
 obtain⟨u,rfl,r1⟩:=gt r
 cases r1
 obtain⟨its,rv,p,hz⟩:=I.list hS
 have hlen:its.length≤sizeLine:=by rw[← rv.length];exact hz
 have I6:Inv X pins σ H { s with heap:=cr (fc s.heap its) (s.heap.objs.size+1) its }:=I.kept (t':=s.toks) fun b o e=>mid_old e
 refine sorted_any (kd:=gT (Value.type T !=Value.type "tuple")) p.isList hlen (fun x y=>Dt.blt (datKey H y) (datKey H x)=false) (fun h2 A' E' Q' q'=>?_) (fun A' E' hA=>?_) fun ks kp ku=>?_
 ·obtain⟨fs,k,lf,hf⟩:=katT I6 hD rv hT
  refine PySem.W.kat_kind (T:=.type T) k (by omega) (fun v hv=>?_) (by simp) q'
  obtain⟨e,he,et⟩:=hf v hv
  exact et▸looks_D I6 he
 ·refine⟨ordT I6 X.prog X.w A' E' _ (fun d=>d∈ds) fun d d' hd hd'=>?_,fun i x ex=>?_,fun x y hxy=>hxy⟩
  ·obtain⟨e,l,rfl,et⟩:=hT d hd
   obtain⟨e',l',rfl,et'⟩:=hT d' hd'
   refine⟨_,_,rfl,rfl,by simpa only[Dt.like] using hL _ hd _ hd',?_,fun hf b hb=>?_⟩
   ·have:=hu _ hd
    simp only[Dt.dp]at this
    omega
   ·have:e=b:=by simpa using hb
    subst this
    cases e with
    | int _=>rfl
    | str _=>rfl
    | tup m=>rw[← et]at hf;simp[Dt.tag]at hf
  ·have hx:(pairsOf its).toList[i]?=some x:=by simpa using ex
   rw[pairsOf_toList]at hx
   obtain⟨d,e1,e2⟩:=iD hD rv i x.1 (by
    rw[zbq]at hx
    exact hx.1)
   exact⟨d,e2,zak e1⟩
 ·-- the row told
  have kl:ks.toList.Perm (its.zip its):=by rw[← pairsOf_toList];exact Array.perm_iff_toList_perm.mp kp
  have k2:((ks.map (·.2)).toList).Perm its:=by
   rw[Array.toList_map]
   have:=kl.map (·.2)
   rwa [List.map_snd_zip (by omega)]at this
  have k12:∀ x∈ks.toList,x.1=x.2:=fun x hx=>by
   have:=kl.mem_iff.mp hx
   obtain⟨i,e⟩:=zaw.mp this
   rw[zbq]at e
   exact Option.some.inj (e.1.symm.trans e.2)
  obtain⟨zs,vz,pz⟩:=vals_perm k2.symm rv
  obtain⟨es,de,pe⟩:=dts_perm pz hD
  refine⟨.ref (s.heap.objs.size+1),upd H (s.heap.objs.size+1) (.lst zs),I.laid (t':=s.toks) (fun b o e=>sortedAll_old e) (Nat.le_succ _) ?_,rfl,q _ zs es (I.hok.fresh (Nat.le_succ _)) pz.symm de pe.symm ?_⟩
  ·obtain⟨n,e⟩:=sortedAll_at s.heap its (ks.map (·.2))
   refine⟨by rw[← pz.length_eq];exact hz,(ks.map (·.2)).toList,n,vz,?_⟩
   rw[e]
  ·rw[zb4]at ku ⊢
   intro i j hi hj hij
   have lks:ks.toList.length=es.length:=by
    rw[kl.length_eq,List.length_zip,← de.length,← pz.length_eq,rv.length,Nat.min_self]
   have z:=ku i j (by omega) (by omega) hij
   have key:∀ (i:Nat) (h1:i<ks.toList.length) (h2:i<es.length),datKey H ks.toList[i]=es[i]:=fun i h1 h2=>by
    have e0:((ks.map (·.2)).toList)[i]?=some ks.toList[i].2:=by
     rw[Array.toList_map,zao,za2 h1];rfl
    obtain⟨d,e1,e2⟩:=iD de vz i _ e0
    rw[za2 h2]at e1
    cases e1
    refine i4 ?_
    rw[k12 _ (zc8 h1)]
    exact e2
   rw[key i (by omega) hi,key j (by omega) hj]at z
   exact z
end
end BF
namespace BF
open PySem PySem.SetTable
def lpN(m:Nat):Nat→Nat→Nat→Nat×Nat
 | 0,i,pt=>(i,pt)
 | n+1,i,pt=>lpN m n ((i*5+1+pt / 32) % (m+1)) (pt / 32)
def itf(m:Nat):Nat→Nat→Nat
 | 0,i=>i
 | n+1,i=>itf m n ((i*5+1) % (m+1))
theorem lpN_zero(m:Nat):∀ n i,lpN m n i 0=(itf m n i,0)
 | 0,_=>rfl
 | n+1,i=>lpN_zero m n _
theorem lpN_add(m:Nat):∀ a b i pt,lpN m (a+b) i pt=lpN m b (lpN m a i pt).1 (lpN m a i pt).2
 | 0,b,i,pt=>by rw[Nat.zero_add];rfl
 | a+1,b,i,pt=>by
  rw[Nat.succ_add]
  exact lpN_add m a b _ _
theorem lpN_pt(m:Nat):∀ n i pt,(lpN m n i pt).2=pt / 32 ^ n
 | 0,_,pt=>by rw[Nat.pow_zero,Nat.div_one];rfl
 | n+1,i,pt=>by
  rw[Nat.pow_succ,Nat.mul_comm,← Nat.div_div_eq_div_mul]
  exact lpN_pt m n _ _
theorem lpN_le(m:Nat):∀ n i pt,i≤m→(lpN m n i pt).1≤m
 | 0,i,pt,h=>h
 | n+1,i,pt,h=>lpN_le m n _ _ (zbk (Nat.mod_lt _ (Nat.succ_pos m)))
theorem jW(m:Nat):∀ a b i,itf m (a+b) i=itf m b (itf m a i)
 | 0,b,i=>by rw[Nat.zero_add];rfl
 | a+1,b,i=>by
  rw[Nat.succ_add]
  exact jW m a b _
def orb(m:Nat):Nat→Nat→Nat
 | 0,_=>0
 | n+1,i=>2 ^ i ||| orb m n ((i*5+1) % (m+1))
theorem orb_bit(m:Nat):∀ n i j,(orb m n i).testBit j=true→∃ b,b<n∧itf m b i=j
 | 0,i,j,h=>by simp[orb]at h
 | n+1,i,j,h=>by
  rw[orb,Nat.testBit_or,Bool.or_eq_true]at h
  rcases h with h | h
  ·rw[Nat.testBit_two_pow]at h
   exact⟨0,Nat.succ_pos _,by show i=j;simpa using h⟩
  ·obtain⟨b,hb,e⟩:=orb_bit m n _ j h
   exact⟨b+1,Nat.succ_lt_succ hb,e⟩
def bd(m:Nat):Prop:=m=7∨m=15∨m=31∨m=63∨m=127∨m=255∨m=511∨m=1023
theorem orb_full{m:Nat}(h:bd m):orb m (m+1) 0=2 ^ (m+1)-1∧itf m (m+1) 0=0:=by
 rcases h with rfl | rfl | rfl | rfl | rfl | rfl | rfl | rfl<;>exact⟨by decide +kernel,by decide +kernel⟩
theorem itf_zero{m:Nat}(h:bd m){j:Nat}(hj:j≤m):∃ b,b≤m∧itf m b 0=j:=by
 obtain⟨b,hb,e⟩:=orb_bit m (m+1) 0 j (by rw[(orb_full h).1,Nat.testBit_two_pow_sub_one];exact decide_eq_true (Nat.lt_succ_of_le hj))
 exact⟨b,zbk hb,e⟩
theorem itf_cover{m:Nat}(h:bd m){i j:Nat}(hi:i≤m)(hj:j≤m):∃ b,b≤m∧itf m b i=j:=by
 obtain⟨a,ha,ea⟩:=itf_zero h hi
 obtain⟨b,hb,eb⟩:=itf_zero h hj
 by_cases hab:a≤b
 ·refine⟨b-a,by omega,?_⟩
  rw[← ea,← jW,Nat.add_sub_cancel' hab,eb]
 ·refine⟨m+1-a+b,by omega,?_⟩
  rw[← ea,← jW]
  have:a+(m+1-a+b)=(m+1)+b:=by omega
  rw[this,jW,(orb_full h).2,eb]
theorem lpN_cover{m:Nat}(h:bd m){i j pt:Nat}(hi:i≤m)(hp:pt<2 ^ 64)(hj:j≤m):∃ b,b<m+15∧(lpN m b i pt).1=j:=by
 obtain⟨b,hb,e⟩:=itf_cover h (lpN_le m 13 i pt hi) hj
 refine⟨13+b,by omega,?_⟩
 rw[lpN_add,lpN_pt,Nat.div_eq_of_lt (Nat.lt_trans hp (by decide)),lpN_zero]
 exact e
def advM(m:Nat)(p:Probe):Probe :=
 if p.more>0 then { p with j:=p.j+1,more:=p.more-1 } else
 { p with j:=(leap m p.i p.perturb).1,more:=runEnd m (leap m p.i p.perturb).1-(leap m p.i p.perturb).1,i:=(leap m p.i p.perturb).1,perturb:=(leap m p.i p.perturb).2 }
theorem adv_eq(t:SetTable)(p:Probe):t.advance p=advM t.mask p:=rfl
def bst(m i pt k:Nat):Probe:={ j:=i+k,more:=runEnd m i-i-k,i:=i,perturb:=pt,dummy:=none }
theorem start_eq(t:SetTable)(h:Int):t.probeStart h=bst t.mask (bits h % (t.mask+1)) (bits h) 0:=rfl
theorem bst_in{m i pt k:Nat}(h:k<runEnd m i-i):advM m (bst m i pt k)=bst m i pt (k+1):=by
 unfold advM
 rw[if_pos (show(bst m i pt k).more>0 by show runEnd m i-i-k>0;omega)]
 rfl
theorem bst_out{m i pt k:Nat}(h:runEnd m i-i≤k):advM m (bst m i pt k)=bst m ((i*5+1+pt / 32) % (m+1)) (pt / 32) 0:=by
 unfold advM
 rw[if_neg (show ¬ (bst m i pt k).more>0 by show ¬ runEnd m i-i-k>0;omega)]
 rfl
theorem run9(m i:Nat):runEnd m i-i≤9:=by
 unfold runEnd;split<;>omega
def Hits(m:Nat)(occ:Nat→Prop):Nat→Probe→Prop
 | 0,p=>¬ occ p.j
 | n+1,p=>¬ occ p.j∨Hits m occ n (advM m p)
theorem Hits.up{m:Nat}{occ:Nat→Prop}:∀ {n:Nat} {p:Probe},Hits m occ n p→Hits m occ (n+1) p
 | 0,p,h=>.inl h
 | n+1,p,.inl h=>.inl h
 | n+1,p,.inr h=>.inr h.up
theorem Hits.mono{m:Nat}{occ:Nat→Prop}{n k:Nat}{p:Probe}(h:Hits m occ n p)(hk:n≤k):Hits m occ k p:=by
 induction hk with
 | refl=>exact h
 | step _ ih=>exact ih.up
theorem hits_in{m:Nat}{occ:Nat→Prop}{i pt n:Nat}(h:Hits m occ n (bst m ((i*5+1+pt / 32) % (m+1)) (pt / 32) 0)) :
  ∀ d k,runEnd m i-i-k=d→k≤runEnd m i-i→Hits m occ (n+1+d) (bst m i pt k)
 | 0,k,hd,hk=>.inr (by rw[bst_out (by omega)];exact h)
 | d+1,k,hd,hk=>by
  refine .inr ?_
  rw[bst_in (by omega)]
  exact hits_in h d (k+1) (by omega) (by omega)
theorem hits_of{m:Nat}{occ:Nat→Prop}:∀ (b i pt:Nat),¬ occ (lpN m b i pt).1→Hits m occ (10*b) (bst m i pt 0)
 | 0,i,pt,h=>h
 | b+1,i,pt,h=>by
  have r:=run9 m i
  exact(hits_in (hits_of b _ _ h) (runEnd m i-i) 0 (by omega) (zba _)).mono (by omega)
inductive Rch(m:Nat)(occ:Nat→Prop):Probe→Nat→Prop where
 | here (p:Probe):Rch m occ p p.j
 | next {p:Probe} {j:Nat} (h:occ p.j) (r:Rch m occ (advM m p) j):Rch m occ p j
theorem Rch.mono{m:Nat}{occ occ':Nat→Prop}(w:∀ j,occ j→occ' j){p:Probe}{j:Nat}(h:Rch m occ p j):Rch m occ' p j:=by
 induction h with
 | here p=>exact .here p
 | next h _ ih=>exact .next (w _ h) ih
theorem bits_lt(h:Int):bits h<2 ^ 64:=by
 unfold bits
 have h1:(0:Int)≤h % 2 ^ 64:=Int.emod_nonneg _ (by decide)
 have h2:h % 2 ^ 64<2 ^ 64:=Int.emod_lt_of_pos _ (by decide)
 omega
def fh(m:Nat)(h:Int):Probe:=bst m (bits h % (m+1)) (bits h) 0
theorem hits_start{m:Nat}(hm:bd m){occ:Nat→Prop}{j:Nat}(hj:j≤m)(he:¬ occ j)(h:Int):Hits m occ (10*(m+14)) (fh m h):=by
 obtain⟨b,hb,e⟩:=lpN_cover hm (zbk (Nat.mod_lt (bits h) (Nat.succ_pos m))) (bits_lt h) hj
 exact(hits_of b _ _ (by rw[e];exact he)).mono (by omega)
theorem pigeon:∀ (n:Nat) (l:List Nat),(∀ j,j<n→j∈l)→n≤l.length
 | 0,l,_=>zba _
 | n+1,l,h=>by
  have hn:=h n (zbe n)
  have:=pigeon n (l.erase n) fun j hj=>(List.mem_erase_of_ne (zap hj)).mpr (h j (zbt hj))
  rw[List.length_erase_of_mem hn]at this
  have:=List.length_pos_of_mem hn
  omega
theorem jI{n:Nat}{l:List Nat}(h:l.length<n):∃ j,j<n∧j∉l:=by
 refine Classical.byContradiction fun hc=>?_
 have:=pigeon n l fun j hj=>Classical.byContradiction fun hn=>hc ⟨j,hj,hn⟩
 omega
def Rises(xs:List Nat):Prop:=xs.Pairwise (· < ·)
theorem below_go(xs:Array Nat)(j:Nat)(hr:Rises xs.toList):∀ (fuel lo hi:Nat),hi-lo≤fuel→lo≤hi→hi≤xs.size→(∀ i,i<lo→∀ x,xs[i]?=some x→x<j)→(∀ i,hi≤i→∀ x,xs[i]?=some x→j≤x) →
  ∃ p,SetTable.below.go xs j fuel lo hi=p∧p≤xs.size∧(∀ i,i<p→∀ x,xs[i]?=some x→x<j)∧(∀ i,p≤i→∀ x,xs[i]?=some x→j≤x)
 | 0,lo,hi,hf,hl,hs,h1,h2=>by
  have:lo=hi:=by omega
  subst this
  exact⟨lo,rfl,hs,h1,h2⟩
 | fuel+1,lo,hi,hf,hl,hs,h1,h2=>by
  unfold SetTable.below.go
  by_cases hlt:lo<hi
  ·rw[if_pos hlt]
   have hm:(lo+hi) / 2<xs.size:=by omega
   have em:xs.getD ((lo+hi) / 2) j=xs[(lo+hi) / 2]:=by simp[Array.getD,hm]
   have inc:∀ a b x y:Nat,a<b→xs[a]?=some x→xs[b]?=some y→x<y:=fun a b x y hab ea eb=>by
    have ea':xs.toList[a]?=some x:=by rw[zaq];exact ea
    have eb':xs.toList[b]?=some y:=by rw[zaq];exact eb
    obtain⟨ha,ea'⟩:=za3.mp ea'
    obtain⟨hb,eb'⟩:=za3.mp eb'
    have:=zb4.mp hr a b ha hb hab
    rw[ea',eb']at this
    exact this
   dsimp only
   rw[em]
   by_cases hx:xs[(lo+hi) / 2]<j
   ·rw[if_pos hx]
    refine below_go xs j hr fuel ((lo+hi) / 2+1) hi (by omega) (by omega) hs (fun i hi' x ex=>?_) h2
    rcases zca i ((lo+hi) / 2) with h | h
    ·exact Nat.lt_trans (inc i _ x _ h ex (zaf hm)) hx
    ·have:i=(lo+hi) / 2:=by omega
     subst this
     rw[zaf hm]at ex
     cases ex
     exact hx
   ·rw[if_neg hx]
    refine below_go xs j hr fuel lo ((lo+hi) / 2) (by omega) (by omega) (by omega) h1 (fun i hi' x ex=>?_)
    rcases zca ((lo+hi) / 2) i with h | h
    ·have:=inc _ i _ x h (zaf hm) ex
     omega
    ·have:i=(lo+hi) / 2:=by omega
     subst this
     rw[zaf hm]at ex
     cases ex
     omega
  ·rw[if_neg hlt]
   have:lo=hi:=by omega
   subst this
   exact⟨lo,rfl,hs,h1,h2⟩
theorem gq{xs:Array Nat}(hr:Rises xs.toList)(j:Nat):below xs j≤xs.size∧(∀ i,i<below xs j→∀ x,xs[i]?=some x→x<j)∧(∀ i,below xs j≤i→∀ x,xs[i]?=some x→j≤x):=by
 obtain⟨p,e,h⟩:=below_go xs j hr xs.size 0 xs.size (by omega) (zba _) (za4 _) (fun i h=>absurd h (Nat.not_lt_zero _)) (fun i h x ex=>by
  have:xs[i]?=none:=zc5 h
  rw[this]at ex;cases ex)
 have:below xs j=p:=e
 rw[this]
 exact h
theorem iF{xs:Array Nat}(hr:Rises xs.toList){i j:Nat}(h:xs[i]?=some j):below xs j=i:=by
 obtain⟨_,h1,h2⟩:=gq hr j
 rcases Nat.lt_trichotomy (below xs j) i with h' | h' | h'
 ·-- the place at below is at least j and less than the one at i
  have hi:i<xs.size:=by
   rcases zca i xs.size with z | z
   ·exact z
   ·rw[zc5 z]at h;cases h
  have hb:below xs j<xs.size:=Nat.lt_trans h' hi
  have h3:=h2 _ (za4 _) _ (zaf hb)
  have:=zb4.mp hr (below xs j) i (by simpa using hb) (by simpa using hi) h'
  rw[zaf hi]at h
  cases h
  simp only[Array.getElem_toList]at this
  omega
 ·exact h'
 ·exact absurd (h1 i h' j h) (zbv _)
structure ic(t:SetTable)(n:Nat):Prop where
 mask:bd t.mask
 rises:Rises t.place.toList
 size:t.place.size=n
 clean:t.dummies=#[]
 top:∀ j∈t.place.toList,j≤t.mask
 full:n*5<t.mask*3
def Occ(t:SetTable)(j:Nat):Prop:=j∈t.place.toList
theorem slot_empty{t:SetTable}{n:Nat}(ok:ic t n){j:Nat}(h:¬ Occ t j):t.slot j=.empty:=by
 unfold SetTable.slot
 have h1:(t.place[below t.place j]?==some j)=false:=by
  cases e:t.place[below t.place j]? with
  | none=>rfl
  | some x =>
   by_cases hx:x=j
   ·subst hx
    exact absurd (zb6.mpr (zb8 e)) h
   ·simpa using hx
 have h2:has t.dummies j=false:=by rw[ok.clean];rfl
 dsimp only
 rw[h1,h2]
 rfl
theorem slot_live{t:SetTable}{n:Nat}(ok:ic t n){i j:Nat}(h:t.place[i]?=some j):t.slot j=.live i:=by
 unfold SetTable.slot
 dsimp only
 rw[iF ok.rises h,h]
 simp
theorem occ_at{t:SetTable}{j:Nat}(h:Occ t j):∃ i:Nat,t.place[i]?=some j:=by
 obtain⟨i,e⟩:=zaw.mp h
 exact⟨i,by rw[← zaq];exact e⟩
theorem ic.free{t:SetTable}{n:Nat}(ok:ic t n):∃ j,j≤t.mask∧¬ Occ t j:=by
 have:t.place.toList.length<t.mask+1:=by
  rw[za8,ok.size]
  have:=ok.full
  omega
 obtain⟨j,h1,h2⟩:=jI this
 exact⟨j,zbk h1,h2⟩
theorem ic.fits{t:SetTable}{n:Nat}(ok:ic t n):t.fits n=true:=by
 unfold SetTable.fits SetTable.fill
 rw[ok.size,ok.clean]
 have:=ok.full
 simp
 omega
theorem ic.odd{t:SetTable}{n:Nat}(ok:ic t n):t.gaveWay=false:=by
 unfold SetTable.gaveWay
 rcases ok.mask with h | h | h | h | h | h | h | h<;>rw[h]<;>rfl
theorem probe_go{t:SetTable}{n:Nat}(ok:ic t n)(hashAt:Nat→Int)(h:Int):∀ (k fuel:Nat) (p:Probe),p.dummy=none→k<fuel→Hits t.mask (Occ t) k p →
  (∃ j,SetTable.probe.go t hashAt h fuel p=some (.empty j none)∧¬ Occ t j∧Rch t.mask (Occ t) p j∧(∀ j' i':Nat,Rch t.mask (Occ t) p j'→t.place[i']?=some j'→hashAt i'≠h)) ∨
  (∃ (j i:Nat) (q:Probe) (k':Nat),SetTable.probe.go t hashAt h fuel p=some (.candidate j i q)∧t.place[i]?=some j∧hashAt i=h∧q.dummy=none∧k'<k∧Hits t.mask (Occ t) k' q ∧
   (∀ j',Rch t.mask (Occ t) q j'→Rch t.mask (Occ t) p j')∧(∀ j' i':Nat,Rch t.mask (Occ t) p j'→t.place[i']?=some j'→hashAt i'≠h∨i'=i∨Rch t.mask (Occ t) q j'))
 | k,0,p,_,hf,_=>absurd hf (Nat.not_lt_zero _)
 | k,fuel+1,p,hd,hf,hh=>by
  unfold SetTable.probe.go
  by_cases ho:Occ t p.j
  ·obtain⟨i,ei⟩:=occ_at ho
   rw[slot_live ok ei]
   dsimp only
   have hh':∃ k',k=k'+1∧Hits t.mask (Occ t) k' (advM t.mask p):=by
    cases k with
    | zero=>exact absurd ho hh
    | succ k'=>exact⟨k',rfl,hh.resolve_left fun z=>z ho⟩
   obtain⟨k',rfl,hh'⟩:=hh'
   have hd':(advM t.mask p).dummy=none:=by
    unfold advM;split<;>exact hd
   have un:∀ i',t.place[i']?=some p.j→i'=i:=fun i' e'=>by rw[← iF ok.rises e',iF ok.rises ei]
   by_cases hq:hashAt i=h
   ·rw[if_pos (by simpa using hq)]
    refine .inr ⟨p.j,i,advM t.mask p,k',rfl,ei,hq,hd',zbe _,hh',fun j' r=>.next ho r,fun j' i' r e'=>?_⟩
    cases r with
    | here=>exact .inr (.inl (un i' e'))
    | next _ r=>exact .inr (.inr r)
   ·rw[if_neg (by simpa using hq),adv_eq]
    rcases probe_go ok hashAt h k' fuel (advM t.mask p) hd' (by omega) hh' with ⟨j,e,h1,h2,h3⟩ | ⟨j,i2,q,k2,e,h1,h2,h3,h4,h5,h6,h7⟩
    ·refine .inl ⟨j,e,h1,.next ho h2,fun j' i' r e'=>?_⟩
     cases r with
     | here=>rw[un i' e'];exact hq
     | next _ r=>exact h3 j' i' r e'
    ·refine .inr ⟨j,i2,q,k2,e,h1,h2,h3,by omega,h5,fun j' r=>.next ho (h6 j' r),fun j' i' r e'=>?_⟩
     cases r with
     | here=>rw[un i' e'];exact .inl hq
     | next _ r=>exact h7 j' i' r e'
  ·rw[slot_empty ok ho]
   dsimp only
   refine .inl ⟨p.j,by rw[hd],ho,.here p,fun j' i' r e'=>?_⟩
   cases r with
   | here=>exact absurd (zb6.mpr (zb8 e')) ho
   | next h _=>exact absurd h ho
theorem insAt_get{α:Type}(xs:Array α)(p:Nat)(x:α)(hp:p≤xs.size)(i:Nat):(insertAt xs p x)[i]?=if i<p then xs[i]? else if i=p then some x else xs[i-1]?:=by
 rw[← zaq,SetTable.toList_insertAt]
 have hl:(xs.toList.take p).length=p:=by rw[zan,za8];omega
 by_cases h1:i<p
 ·rw[if_pos h1]
  rw[zal (by omega),List.getElem?_take_of_lt h1,zaq]
 ·rw[if_neg h1]
  rw[zat (by omega),hl]
  by_cases h2:i=p
  ·rw[if_pos h2,h2,Nat.sub_self];rfl
  ·rw[if_neg h2]
   have:i-p=(i-1-p)+1:=by omega
   rw[this,List.getElem?_cons_succ,zbd,zaq]
   congr 1
   omega
theorem iB{α:Type}(xs:Array α)(p:Nat)(x:α):(insertAt xs p x).size=xs.size+1:=by
 rw[← za8,(SetTable.insertAt_perm xs p x).length_eq,Array.toList_push,za1,za8];rfl
structure SetPre(t:SetTable)(es:Array (Int×Value)):Prop where
 mask:bd t.mask
 rises:Rises t.place.toList
 size:t.place.size=es.size
 clean:t.dummies=#[]
 top:∀ j∈t.place.toList,j≤t.mask
 reach:∀ (i j:Nat) (e:Int×Value),t.place[i]?=some j→es[i]?=some e→Rch t.mask (Occ t) (fh t.mask e.1) j
structure ba(t:SetTable)(es:Array (Int×Value)):Prop extends SetPre t es where
 full:es.size*5<t.mask*3
theorem ba.tab{t:SetTable}{es:Array (Int×Value)}(h:ba t es):ic t es.size:=⟨h.mask,h.rises,h.size,h.clean,h.top,h.full⟩
theorem put_place{t:SetTable}(h:t.dummies=#[])(j:Nat):(t.put j).1={ t with place:=insertAt t.place (below t.place j) j }∧(t.put j).2=below t.place j:=by
 unfold SetTable.put
 dsimp only
 refine⟨?_,rfl⟩
 have:has t.dummies j=false:=by rw[h];rfl
 rw[this]
 rfl
theorem ba.put{t:SetTable}{es:Array (Int×Value)}(h:ba t es){j:Nat}(hj:j≤t.mask)(hf:¬ Occ t j){e:Int×Value}(hr:Rch t.mask (Occ t) (fh t.mask e.1) j) :
  SetPre (t.put j).1 (insertAt es (t.put j).2 e):=by
 obtain⟨e1,e2⟩:=put_place h.clean j
 rw[e1,e2]
 obtain⟨b1,b2,b3⟩:=gq h.rises j
 have hp:below t.place j≤es.size:=by rw[← h.size];exact b1
 have mem:∀ x,x∈(insertAt t.place (below t.place j) j).toList↔x=j∨x∈t.place.toList:=fun x=>by
  rw[(SetTable.insertAt_perm t.place (below t.place j) j).mem_iff,Array.toList_push,za9,za7,Or.comm]
 have oc:∀ x,Occ t x→Occ { t with place:=insertAt t.place (below t.place j) j } x:=fun x hx=>(mem x).mpr (.inr hx)
 refine⟨h.mask,?_,?_,h.clean,fun x hx=>?_,fun i k e' ep ee=>?_⟩
 ·show Rises (insertAt t.place (below t.place j) j).toList
  rw[SetTable.toList_insertAt]
  have hr:=h.rises
  have sp:=zaz (below t.place j) t.place.toList
  unfold Rises at hr ⊢
  rw[← sp,zav]at hr
  obtain⟨r1,r2,r3⟩:=hr
  rw[zav]
  refine⟨r1,List.pairwise_cons.mpr ⟨fun y hy=>?_,r2⟩,fun x hx y hy=>?_⟩
  ·obtain⟨i,ei⟩:=zaw.mp hy
   rw[zbd,zaq]at ei
   have:=b3 _ (Nat.le_add_right _ _) _ ei
   have:y≠j:=fun z=>hf (by
    subst z
    exact zb6.mpr (zb8 ei))
   omega
  ·have hx2:x<j:=by
    obtain⟨i,ei⟩:=zaw.mp hx
    obtain⟨hi,_⟩:=za3.mp ei
    rw[zan]at hi
    rw[List.getElem?_take_of_lt (by omega),zaq]at ei
    exact b2 i (by omega) x ei
   rcases zaa.mp hy with rfl | hy
   ·exact hx2
   ·exact r3 x hx y hy
 ·show(insertAt t.place (below t.place j) j).size=_
  rw[iB,iB,h.size]
 ·rcases(mem x).mp hx with rfl | hx
  ·exact hj
  ·exact h.top x hx
 ·show Rch t.mask _ (fh t.mask e'.1) k
  have ep':(insertAt t.place (below t.place j) j)[i]?=some k:=ep
  rw[insAt_get _ _ _ b1]at ep'
  rw[insAt_get _ _ _ hp]at ee
  by_cases h1:i<below t.place j
  ·rw[if_pos h1]at ep' ee
   exact(h.reach i k e' ep' ee).mono oc
  ·rw[if_neg h1]at ep' ee
   by_cases h2:i=below t.place j
   ·rw[if_pos h2]at ep' ee
    cases ep'
    cases ee
    exact hr.mono oc
   ·rw[if_neg h2]at ep' ee
    exact(h.reach _ k e' ep' ee).mono oc
theorem ba.off{t:SetTable}{es:Array (Int×Value)}(h:SetPre t es):SetPre { t with plain:=false } es:=⟨h.mask,h.rises,h.size,h.clean,h.top,h.reach⟩
def OccO(owner:Array (Option Nat))(j:Nat):Prop:=∃ k,owner[j]?=some (some k)
theorem occO_iff{owner:Array (Option Nat)}{m j:Nat}(hs:owner.size=m+1)(hj:j≤m):(owner.getD j (some 0)).isNone=true↔¬ OccO owner j:=by
 have hlt:j<owner.size:=by omega
 have e:owner[j]?=some owner[j]:=zaf hlt
 have eg:owner.getD j (some 0)=owner[j]:=by simp[Array.getD,hlt]
 rw[eg]
 unfold OccO
 rw[e]
 cases owner[j] with
 | none=>simp
 | some k=>simp
theorem rch_in{m:Nat}{occ:Nat→Prop}{i pt k:Nat}(hk:k≤runEnd m i-i)(ho:∀ k',k'<k→occ (i+k')):∀ d a,k-a=d→a≤k→Rch m occ (bst m i pt a) (i+k)
 | 0,a,hd,ha=>by
  have:a=k:=by omega
  subst this
  exact .here (bst m i pt a)
 | d+1,a,hd,ha=>by
  refine .next (ho a (by omega)) ?_
  rw[bst_in (by omega)]
  exact rch_in hk ho d (a+1) (by omega) (by omega)
theorem rch_out{m:Nat}{occ:Nat→Prop}{i pt j:Nat}(ho:∀ k',k'≤runEnd m i-i→occ (i+k'))(r:Rch m occ (bst m ((i*5+1+pt / 32) % (m+1)) (pt / 32) 0) j) :
  ∀ d a,runEnd m i-i-a=d→a≤runEnd m i-i→Rch m occ (bst m i pt a) j
 | 0,a,hd,ha=>.next (ho a ha) (by rw[bst_out (by omega)];exact r)
 | d+1,a,hd,ha=>by
  refine .next (ho a ha) ?_
  rw[bst_in (by omega)]
  exact rch_out ho r d (a+1) (by omega) (by omega)
theorem jo{m i:Nat}(hi:i≤m):i≤runEnd m i∧runEnd m i≤m:=by
 unfold runEnd;split<;>omega
theorem free_spec{m:Nat}{owner:Array (Option Nat)}(hs:owner.size=m+1):∀ (fuel i pt:Nat),i≤m→(∃ b,b<fuel∧¬ OccO owner (lpN m b i pt).1) →
  ∃ j,SetTable.layClean.free m owner fuel i pt=some j∧j≤m∧¬ OccO owner j∧Rch m (OccO owner) (bst m i pt 0) j
 | 0,i,pt,hi,h=>by obtain⟨b,hb,_⟩:=h;exact absurd hb (Nat.not_lt_zero _)
 | fuel+1,i,pt,hi,h=>by
  obtain⟨r1,r2⟩:=jo hi
  unfold SetTable.layClean.free
  cases hf:(List.range (runEnd m i+1-i)).find? (fun k=>(owner.getD (i+k) (some 0)).isNone) with
  | some k =>
   dsimp only
   rw[List.find?_range_eq_some]at hf
   obtain⟨h1,h2,h3⟩:=hf
   have hk:=zch.mp h2
   refine⟨i+k,rfl,by omega,(occO_iff hs (by omega)).mp h1,rch_in (by omega) (fun k' hk'=>?_) k 0 (by omega) (zba _)⟩
   have:=h3 k' hk'
   refine Classical.byContradiction fun hc=>?_
   rw[(occO_iff hs (by omega)).mpr hc]at this
   simp at this
  | none =>
   dsimp only
   rw[List.find?_range_eq_none]at hf
   have all:∀ k',k'≤runEnd m i-i→OccO owner (i+k'):=fun k' hk'=>by
    have:=hf k' (by omega)
    refine Classical.byContradiction fun hc=>?_
    rw[(occO_iff hs (by omega)).mpr hc]at this
    simp at this
   obtain⟨b,hb,hn⟩:=h
   cases b with
   | zero=>exact absurd (all 0 (zba _)) hn
   | succ b =>
    obtain⟨j,e,h1,h2,h3⟩:=free_spec hs fuel ((i*5+1+pt / 32) % (m+1)) (pt / 32) (zbk (Nat.mod_lt _ (Nat.succ_pos m))) ⟨b,by omega,hn⟩
    exact⟨j,e,h1,h2,rch_out all h3 _ 0 rfl (zba _)⟩
structure Own(m:Nat)(owner:Array (Option Nat))(js:List Nat)(hs:List Int):Prop where
 size:owner.size=m+1
 len:js.length=hs.length
 iff:∀ j k:Nat,owner[j]?=some (some k)↔js[k]?=some j
 top:∀ j∈js,j≤m
 reach:∀ (k j:Nat) (h:Int),js[k]?=some j→hs[k]?=some h→Rch m (OccO owner) (fh m h) j
def jV(m:Nat)(acc:Option (Array (Option Nat)×Nat))(h:Int):Option (Array (Option Nat)×Nat):=do
 let (owner,k) ← acc
 let j ← SetTable.layClean.free m owner (turns m) (bits h % (m+1)) (bits h)
 pure (owner.setIfInBounds j (some k),k+1)
theorem Own.step{m:Nat}(hm:bd m){owner:Array (Option Nat)}{js:List Nat}{hs:List Int}(o:Own m owner js hs)(hl:hs.length≤m)(h:Int) :
  ∃ owner' js',jV m (some (owner,hs.length)) h=some (owner',(hs++[h]).length)∧Own m owner' js' (hs++[h]):=by
 have:js.length<m+1:=by rw[o.len];omega
 obtain⟨q,hq,hn⟩:=jI this
 have hno:¬ OccO owner q:=fun⟨k,e⟩=>hn (zak ((o.iff q k).mp e))
 obtain⟨b,hb,eb⟩:=lpN_cover hm (zbk (Nat.mod_lt (bits h) (Nat.succ_pos m))) (bits_lt h) (zbk hq)
 obtain⟨j,e,h1,h2,h3⟩:=free_spec o.size (turns m) (bits h % (m+1)) (bits h) (zbk (Nat.mod_lt (bits h) (Nat.succ_pos m))) ⟨b,hb,by rw[eb];exact hno⟩
 have oc:∀ x,OccO owner x→OccO (owner.setIfInBounds j (some hs.length)) x:=fun x ⟨k,ek⟩=>by
  refine⟨k,?_⟩
  rw[Array.getElem?_setIfInBounds]
  by_cases hx:j=x
  ·subst hx;exact absurd ⟨k,ek⟩ h2
  ·rw[if_neg hx];exact ek
 refine⟨owner.setIfInBounds j (some hs.length),js++[j],?_,?_,?_,fun x k=>?_,fun x hx=>?_,fun k x h' ex eh=>?_⟩
 ·show(do let j ← SetTable.layClean.free m owner (turns m) (bits h % (m+1)) (bits h);pure (owner.setIfInBounds j (some hs.length),hs.length+1))=_
  rw[e,za1]
  rfl
 ·rw[Array.size_setIfInBounds];exact o.size
 ·rw[za1,za1,o.len];rfl
 ·rw[Array.getElem?_setIfInBounds]
  by_cases hx:j=x
  ·subst hx
   rw[if_pos rfl,if_pos (by rw[o.size];omega)]
   constructor
   ·intro z
    have:hs.length=k:=by simpa using z
    subst this
    rw[← o.len,zat (za4 _),Nat.sub_self];rfl
   ·intro z
    rcases zca k js.length with hk | hk
    ·rw[zal hk]at z
     exact absurd ⟨k,(o.iff _ _).mpr z⟩ h2
    ·rw[zat hk]at z
     have:k-js.length=0:=by
      cases hc:k-js.length with
      | zero=>rfl
      | succ n=>rw[hc]at z;simp at z
     have hkk:=o.len
     have:k=hs.length:=by omega
     rw[this]
  ·rw[if_neg hx,o.iff]
   rcases zca k js.length with hk | hk
   ·rw[zal hk]
   ·rw[zat hk,zbg hk]
    constructor
    ·intro z;cases z
    ·intro z
     cases hc:k-js.length with
     | zero=>rw[hc]at z;simp at z;exact absurd z hx
     | succ n=>rw[hc]at z;simp at z
 ·rcases za9.mp hx with hx | hx
  ·exact o.top x hx
  ·rw[za7]at hx;subst hx;exact h1
 ·rcases zca k js.length with hk | hk
  ·rw[zal hk]at ex
   rw[zal (by rw[← o.len];exact hk)]at eh
   exact(o.reach k x h' ex eh).mono oc
  ·rw[zat hk]at ex
   rw[zat (by rw[← o.len];exact hk),← o.len]at eh
   cases hc:k-js.length with
   | succ n=>rw[hc]at ex;simp at ex
   | zero =>
    rw[hc]at ex eh
    simp at ex eh
    subst ex eh
    exact h3.mono oc
theorem lay_fold{m:Nat}(hm:bd m):∀ (rest:List Int) (owner:Array (Option Nat)) (js:List Nat) (hs:List Int),Own m owner js hs→(hs++rest).length≤m →
  ∃ owner' js',rest.foldl (jV m) (some (owner,hs.length))=some (owner',(hs++rest).length)∧Own m owner' js' (hs++rest)
 | [],owner,js,hs,o,hl=>⟨owner,js,by simp,by simpa using o⟩
 | h::rest,owner,js,hs,o,hl=>by
  have e:hs++h::rest=(hs++[h])++rest:=by simp
  rw[e]at hl ⊢
  obtain⟨o1,j1,e1,w1⟩:=o.step hm (by rw[za1,za1]at hl;omega) h
  rw[List.foldl_cons,e1]
  exact lay_fold hm rest o1 j1 (hs++[h]) w1 hl
theorem own_init(m:Nat):Own m (Array.replicate (m+1) none) [] []:=by
 refine⟨by simp,rfl,fun j k=>?_,fun j hj=>(by cases hj),fun k j h e=>(by simp at e)⟩
 constructor
 ·intro z
  rw[Array.getElem?_replicate]at z
  split at z<;>simp at z
 ·intro z;simp at z
theorem layClean_ok{m:Nat}(hm:bd m)(hashes:Array Int)(hl:hashes.size≤m):∃ owner js,layClean m hashes=some owner∧Own m owner js hashes.toList:=by
 obtain⟨owner,js,e,o⟩:=lay_fold hm hashes.toList _ _ _ (own_init m) (by simpa using hl)
 refine⟨owner,js,?_,by simpa using o⟩
 have z:layClean m hashes=(hashes.foldl (jV m) (some (Array.replicate (m+1) none,0))).map (·.1):=rfl
 rw[z,← Array.foldl_toList]
 have e':hashes.toList.foldl (jV m) (some (Array.replicate (m+1) none,0))=some (owner,([]++hashes.toList).length):=e
 rw[e']
 rfl
theorem laid_ok{m finger moves:Nat}{led plain:Bool}{es:Array (Int×Value)}(hm:bd m)(hn:es.size*5<m*3) :
  ∃ t' order,SetTable.laid m finger moves led plain (es.map (·.1))=some (t',order)∧(order.filterMap (es[·]?)).toList.Perm es.toList∧ba t' (order.filterMap (es[·]?))∧t'.led=led∧t'.mask=m:=by
 obtain⟨owner,js,e,o⟩:=layClean_ok hm (es.map (·.1)) (by rw[Array.size_map];omega)
 let live:=(List.range (m+1)).filterMap fun j=>(owner.getD j none).map (j,·)
 have memL:∀ j k,(j,k)∈live↔js[k]?=some j:=fun j k=>by
  show(j,k)∈(List.range (m+1)).filterMap _↔_
  rw[List.mem_filterMap]
  constructor
  ·rintro⟨x,hx,ex⟩
   rw[zch]at hx
   have hlt:x<owner.size:=by rw[o.size];exact hx
   have eg:owner.getD x none=owner[x]:=by simp[Array.getD,hlt]
   rw[eg]at ex
   cases hc:owner[x] with
   | none=>rw[hc]at ex;simp at ex
   | some k' =>
    rw[hc]at ex
    simp at ex
    obtain⟨rfl,rfl⟩:=ex
    exact(o.iff _ _).mp (by rw[zaf hlt,hc])
  ·intro z
   have hx:=o.top j (zak z)
   have eo:=(o.iff j k).mpr z
   refine⟨j,zch.mpr (by omega),?_⟩
   rw[Array.getD_eq_getD_getElem?,eo]
   rfl
 have pw:live.Pairwise (fun a b=>a.1<b.1):=by
  refine List.Pairwise.filterMap _ (fun a a' haa b hb b' hb'=>?_) List.pairwise_lt_range
  cases hc:owner.getD a none with
  | none=>rw[hc]at hb;simp at hb
  | some k =>
   cases hc':owner.getD a' none with
   | none=>rw[hc']at hb';simp at hb'
   | some k' =>
    rw[hc]at hb;rw[hc']at hb'
    simp at hb hb'
    subst hb hb'
    exact haa
 have hlen:js.length=es.size:=by rw[o.len];simp
 have ordN:(live.map (·.2)).Nodup:=by
  unfold List.Nodup
  rw[zbl]
  refine(zb4.mpr fun a b ha hb hab=>?_)
  have h1:=zb4.mp pw a b ha hb hab
  intro z
  have m1:=(memL live[a].1 live[a].2).mp (zc8 ha)
  have m2:=(memL live[b].1 live[b].2).mp (zc8 hb)
  rw[z,m2]at m1
  have:=Option.some.inj m1
  omega
 have ordP:(live.map (·.2)).Perm (List.range es.size):=by
  rw[zc6 ordN List.nodup_range]
  intro k
  rw[zch,za6]
  constructor
  ·rintro⟨⟨j,k'⟩,hx,rfl⟩
   obtain⟨hlt,_⟩:=za3.mp ((memL j k').mp hx)
   omega
  ·intro hk
   have hk':k<js.length:=by omega
   exact⟨(js[k],k),(memL _ _).mpr (za2 hk'),rfl⟩
 have esL:((live.map (·.2)).toArray.filterMap (es[·]?)).toList=(live.map (·.2)).filterMap (fun i=>es[i]?):=by rw[Array.toList_filterMap]
 have esP:((live.map (·.2)).toArray.filterMap (es[·]?)).toList.Perm es.toList:=by
  rw[esL]
  refine(ordP.filterMap _).trans ?_
  rw[filterMap_getElem?_range]
 have esz:((live.map (·.2)).toArray.filterMap (es[·]?)).size=es.size:=by rw[← za8,esP.length_eq,za8]
 have esAt:(live.map (·.2)).filterMap (fun i=>es[i]?)=live.map (fun x=>(es[x.2]?).getD (0,.none)):=by
  have:∀ l:List (Nat×Nat),(∀ x∈l,x.2<es.size)→(l.map (·.2)).filterMap (fun i=>es[i]?)=l.map (fun x=>(es[x.2]?).getD (0,.none)):=by
   intro l
   induction l with
   | nil=>intro _;rfl
   | cons x l ih =>
    intro h
    have hx:=h x zad
    rw[zay,List.filterMap_cons,zaf hx,ih fun y hy=>h y (zac _ hy),zay,zaf hx]
    rfl
  refine this live fun x hx=>?_
  obtain⟨hlt,_⟩:=za3.mp ((memL x.1 x.2).mp hx)
  omega
 refine⟨{ mask:=m,place:=(live.map (·.1)).toArray,dummies:=#[],finger,led,moves,plain },(live.map (·.2)).toArray,?_,esP,⟨⟨hm,?_,?_,rfl,fun j hj=>?_,fun i j ev ep ee=>?_⟩,?_⟩,rfl,rfl⟩
 ·unfold SetTable.laid
  rw[e]
  rfl
 ·show(live.map (·.1)).toArray.toList.Pairwise (· < ·)
  rw[zc4,zbl]
  exact pw
 ·rw[esz]
  show(live.map (·.1)).toArray.size=_
  have:=ordP.length_eq
  rw[za0,List.length_range]at this
  rw[zag,za0,this]
 ·have hj':j∈live.map (·.1):=by simpa using hj
  obtain⟨⟨x,k⟩,hx,rfl⟩:=za6.mp hj'
  exact o.top _ (zak ((memL x k).mp hx))
 ·have ep':(live.map (·.1)).toArray[i]?=some j:=ep
  rw[List.getElem?_toArray,zao]at ep'
  rw[← zaq,esL,esAt,zao]at ee
  cases hc:live[i]? with
  | none=>rw[hc]at ep';simp at ep'
  | some x =>
   rw[hc]at ep' ee
   simp at ep' ee
   subst ep'
   have mx:=(memL x.1 x.2).mp (zak hc)
   obtain⟨hlt,_⟩:=za3.mp mx
   have hlt':x.2<es.size:=by omega
   rw[zaf hlt']at ee
   have hr:=o.reach x.2 x.1 ev.1 mx (by
    rw[Array.toList_map,zao,zaq,zaf hlt',← ee]
    rfl)
   refine hr.mono fun q zz1=>?_
   obtain⟨k,ek⟩:=zz1
   show q∈(live.map (·.1)).toArray.toList
   rw[zc4,za6]
   exact⟨(q,k),(memL q k).mpr ((o.iff q k).mp ek),rfl⟩
 ·rw[esz];exact hn
theorem relaid_ok{t:SetTable}{es:Array (Int×Value)}{wanted:Nat}(hm:bd (sizeAbove wanted-1))(hn:es.size*5<(sizeAbove wanted-1)*3) :
  ∃ t' order,t.relaid (es.map (·.1)) wanted=some (t',order)∧(order.filterMap (es[·]?)).toList.Perm es.toList∧ba t' (order.filterMap (es[·]?))∧t'.led=t.led∧t'.mask=sizeAbove wanted-1:=by
 unfold SetTable.relaid
 exact laid_ok hm hn
end BF
namespace BF
open PySem PySem.Spec PyProof.Rows L2 PySem.W
mutual
inductive DatH(h:Heap):Value→Dt→Prop where
 | int (i:Int) (t:Tok):DatH h (.int i t) (.int i)
 | str (x:Str) (t:Tok):DatH h (.str x t) (.str x)
 | tup {a:Addr} {o:Obj} {items:Array Value} {n:Nat} {ds:List Dt} (ho:h.get? a=some o) (hc:o.cls=.type "tuple") (hd:o.data=.seq items n) (r:ay h items.toList ds):DatH h (.ref a) (.tup ds)
inductive ay(h:Heap):List Value→List Dt→Prop where
 | nil:ay h [] []
 | cons {v:Value} {d:Dt} {vs:List Value} {ds:List Dt} (q:DatH h v d) (t:ay h vs ds):ay h (v::vs) (d::ds)
end
mutual
theorem DatH.keep{h h':Heap}(k:∀ b o,h.get? b=some o→h'.get? b=some o):∀ {d:Dt} {v:Value},DatH h v d→DatH h' v d
 | _,_,.int i t=>.int i t
 | _,_,.str x t=>.str x t
 | .tup ds,_,.tup ho hc hd r=>.tup (k _ _ ho) hc hd (ay.keep k r)
theorem ay.keep{h h':Heap}(k:∀ b o,h.get? b=some o→h'.get? b=some o):∀ {ds:List Dt} {vs:List Value},ay h vs ds→ay h' vs ds
 | []=>by intro g;cases g;exact .nil
 | d::ds=>by
  intro g
  cases g with
  | cons q t=>exact .cons (DatH.keep k q) (ay.keep k t)
end
mutual
def bc(w:World):Dt→Int
 | .int i=>hashInt i
 | .str x=>hashStr w x
 | .tup l=>reduceHash (Builtin.Tuple.tupleHashOf (gI w l))
def gI(w:World):List Dt→List Int
 | []=>[]
 | d::l=>bc w d::gI w l
end
section
variable{X:Cx}{pins:List (Addr×Obj)}{σ:L2.St}{H:Hp}{s:Shared}
mutual
theorem c9(I:Inv X pins σ H s):∀ {d:Dt} {v:V} {u:Value},DtIs H v d→RelV v u→DatH s.heap u d
 | _,_,_,.int i,r=>by obtain⟨t,rfl⟩:=r;exact .int i t
 | _,_,_,.str x,r=>by obtain⟨t,rfl⟩:=r;exact .str x t
 | .tup ds,_,_,.tup e q,r=>by
  cases r
  obtain⟨its,rv,⟨o,ho,hc,n,hd⟩,_⟩:=I.tuple (SqT.of e)
  exact .tup ho hc hd (by rw[zc4];exact d5 I q rv)
theorem d5(I:Inv X pins σ H s):∀ {ds:List Dt} {vs:List V} {us:List Value},ac H vs ds→Vals vs us→ay s.heap us ds
 | []=>by
  intro g r
  cases g
  cases r
  exact .nil
 | d::ds=>by
  intro g r
  cases g with
  | cons q t =>
  cases r with
  | cons r rs=>exact .cons (c9 I q r) (d5 I t rs)
end
end
section
variable{prog:Program}{w:World}{E:Value→Shared→Prop}
set_option maxRecDepth 100000 in
mutual
theorem pyHash_D:∀ (d:Dt) (v:Value) (A:Around) (s:Shared) (Q:Int→Shared→Prop),DatH s.heap v d→A.units+d.dp<cLine→(∀ tk,s.toks≤tk→Q (bc w d) { s with toks:=tk })→wpAny (model prog w) A (pyHash v) Q E s
 | .int i,_,A,s,Q,.int _ t,hu,h=>wpAny_pyHash_int (h _ (Nat.le_succ _))
 | .str x,_,A,s,Q,.str _ t,hu,h=>wpAny_pyHash_str (h _ (Nat.le_succ _))
 | .tup ds,_,A,s,Q,.tup (a:=a) (items:=items) ho hc hd r,hu,h=>by
  have hu':A.units+(Dt.dps ds+1)<cLine:=by simpa only[Dt.dp] using hu
  refine pyHash_slot (T:="tuple") ⟨_,ho,hc⟩ F.slot_tuple_hash F.entry_tuple_hash (F.args_tuple_hash_1 _) (beq_builtin_none _) (.inr (by omega)) ?_
  show wpAny _ _ (Builtin.Tuple.tupleItemsOf (.ref a)>>=_) _ _ s
  refine wpAny_bind (wpAny_tupleItemsOf ho hd ?_)
  refine wpAny_bind ?_
  rw[← Array.forIn_toList]
  refine hashLoop_D ds items.toList A.in1 s #[] _ r (by simp only[Around.in1_units];omega) fun tk htk b hb=>?_
  show wpAny _ _ (retInt (Builtin.Tuple.tupleHashOf b.toList)) _ _ _
  rw[hb]
  exact wpAny_bind (wpAny_mkInt (wpAny_pure ⟨_,_,rfl,by have:=h (tk+1) (Nat.le_succ_of_le htk);rw[bc]at this;exact this⟩))
theorem hashLoop_D:∀ (ds:List Dt) (vs:List Value) (A:Around) (s:Shared) (b:Array Int) (Q:Array Int→Shared→Prop),ay s.heap vs ds→A.units+Dt.dps ds<cLine →
  (∀ tk,s.toks≤tk→∀ b',b'.toList=b.toList++gI w ds→Q b' { s with toks:=tk }) →
  wpAny (model prog w) A (forIn vs b fun x r=>do let h ← pyHash x;pure PUnit.unit;pure (ForInStep.yield (r.push h))) Q E s
 | [],_,A,s,b,Q,.nil,_,h=>wpAny_pure (h s.toks (za4 _) b (by simp[gI]))
 | d::ds,_,A,s,b,Q,.cons q t,hu,h=>by
  simp only[Dt.dps]at hu
  rw[zcf]
  refine wpAny_bind (wpAny_bind (pyHash_D d _ A s _ q (by omega) fun tk htk=>?_))
  refine wpAny_bind (wpAny_pure (wpAny_pure ?_))
  exact hashLoop_D ds _ A _ _ Q t (by omega) fun tk' htk' b' hb=>h tk' (zb1 htk htk') b' (by simp[hb,gI])
end
mutual
theorem byValue_D:∀ (d:Dt) (v:Value) (n:Nat) (A:Around) (s:Shared) (Q:Bool→Shared→Prop),DatH s.heap v d→(∀ b,Q b s)→wpAny (model prog w) A (hashByValue n v) Q E s
 | .int i,_,n,A,s,Q,.int _ t,h=>by
  have:hashByValue n (.int i t)=pure true:=by cases n<;>rfl
  rw[this];exact wpAny_pure (h _)
 | .str x,_,n,A,s,Q,.str _ t,h=>by
  have:hashByValue n (.str x t)=pure false:=by cases n<;>rfl
  rw[this];exact wpAny_pure (h _)
 | .tup ds,_,0,A,s,Q,.tup (a:=a) (items:=items) ho hc hd r,h=>wpAny_pure (h _)
 | .tup ds,_,n+1,A,s,Q,.tup (a:=a) (items:=items) ho hc hd r,h=>by
  unfold hashByValue
  refine wpAny_bind (wpAny_specialOf ⟨_,ho,hc⟩ F.slot_tuple_hash.lookup ?_)
  dsimp only
  refine wpAny_bind (wpAny_seqItems ho hd ?_)
  show wpAny _ _ (forIn items _ _>>=_) _ _ _
  rw[← Array.forIn_toList]
  refine wpAny_bind (byValues_D ds items.toList n A s _ r fun b=>?_)
  cases b with
  | none=>exact wpAny_pure (h _)
  | some b=>exact wpAny_pure (h _)
theorem byValues_D:∀ (ds:List Dt) (vs:List Value) (n:Nat) (A:Around) (s:Shared) (Q:Option Bool×PUnit→Shared→Prop),ay s.heap vs ds→(∀ b,Q (b,⟨⟩) s) →
  wpAny (model prog w) A (forIn vs ((none,⟨⟩):Option Bool×PUnit) fun x r=>do
   let c ← hashByValue n x
   if (!c)=true then pure (ForInStep.done (some false,⟨⟩)) else pure (ForInStep.yield (none,⟨⟩))) Q E s
 | [],_,n,A,s,Q,.nil,h=>wpAny_pure (h _)
 | d::ds,_,n,A,s,Q,.cons q t,h=>by
  rw[zcf]
  refine wpAny_bind (wpAny_bind (byValue_D d _ n A s _ q fun b=>?_))
  cases b with
  | false=>exact wpAny_pure (wpAny_pure (h _))
  | true=>exact wpAny_pure (byValues_D ds _ n A s Q t h)
end
end
section
variable{prog:Program}{w:World}{E:Value→Shared→Prop}
theorem sub_tt:isSubtype (.type "tuple") (.type "tuple")=pure true:=PySem.isSubtype_tuple_tuple
mutual
theorem jR:∀ (d:Dt) (v:Value) (n:Nat) (A:Around) (s:Shared) (Q:Bool→Shared→Prop),DatH s.heap v d→d.dp≤n→Q true s→wpAny (model prog w) A (eqIsQuiet n v) Q E s
 | .int i,_,n,A,s,Q,.int _ t,hn,h=>by
  rw[eqIsQuiet_byValue n (v:=.int i t) rfl];exact wpAny_pure h
 | .str x,_,n,A,s,Q,.str _ t,hn,h=>by
  rw[eqIsQuiet_byValue n (v:=.str x t) rfl];exact wpAny_pure h
 | .tup ds,_,0,A,s,Q,.tup (a:=a) (items:=items) ho hc hd r,hn,h=>by
  simp only[Dt.dp]at hn
  omega
 | .tup ds,_,n+1,A,s,Q,.tup (a:=a) (items:=items) ho hc hd r,hn,h=>by
  have hn':Dt.dps ds≤n:=by simp only[Dt.dp]at hn;omega
  unfold eqIsQuiet
  refine wpAny_bind (wpAny_specialOf ⟨_,ho,hc⟩ F.slot_tuple_eq.lookup ?_)
  dsimp only
  refine wpAny_bind (wpAny_isInstance ⟨_,ho,hc⟩ sub_tt ?_)
  simp only[zcb,zab,if_false]
  refine wpAny_bind (wpAny_seqItems ho hd ?_)
  show wpAny _ _ (forIn items _ _>>=_) _ _ _
  rw[← Array.forIn_toList]
  exact wpAny_bind (quiets_D ds items.toList n A s _ r hn' (wpAny_pure h))
theorem quiets_D:∀ (ds:List Dt) (vs:List Value) (n:Nat) (A:Around) (s:Shared) (Q:Option Bool×PUnit→Shared→Prop),ay s.heap vs ds→Dt.dps ds≤n→Q (none,⟨⟩) s →
  wpAny (model prog w) A (forIn vs ((none,⟨⟩):Option Bool×PUnit) fun x r=>do
   let c ← eqIsQuiet n x
   if (!c)=true then pure (ForInStep.done (some false,⟨⟩)) else pure (ForInStep.yield (none,⟨⟩))) Q E s
 | [],_,n,A,s,Q,.nil,_,h=>wpAny_pure h
 | d::ds,_,n,A,s,Q,.cons q t,hn,h=>by
  simp only[Dt.dps]at hn
  rw[zcf]
  exact wpAny_bind (wpAny_bind (jR d _ n A s _ q (by omega) (wpAny_pure (quiets_D ds _ n A s Q t (by omega) h))))
end
mutual
theorem ofCls_D:∀ (d:Dt) (v:Value) (n:Nat) (A:Around) (s:Shared) (Q:Bool→Shared→Prop),DatH s.heap v d→d.dp≤n→Q false s→wpAny (model prog w) A (ofAClassStatement n v) Q E s
 | .int i,_,n,A,s,Q,.int _ t,hn,h=>by
  have:ofAClassStatement n (.int i t)=pure false:=by cases n<;>rfl
  rw[this];exact wpAny_pure h
 | .str x,_,n,A,s,Q,.str _ t,hn,h=>by
  have:ofAClassStatement n (.str x t)=pure false:=by cases n<;>rfl
  rw[this];exact wpAny_pure h
 | .tup ds,_,0,A,s,Q,.tup (a:=a) (items:=items) ho hc hd r,hn,h=>by
  simp only[Dt.dp]at hn
  omega
 | .tup ds,_,n+1,A,s,Q,.tup (a:=a) (items:=items) ho hc hd r,hn,h=>by
  have hn':Dt.dps ds≤n:=by simp only[Dt.dp]at hn;omega
  unfold ofAClassStatement
  refine wpAny_bind (wpAny_typeOf (T:="tuple") ⟨_,ho,hc⟩ ?_)
  dsimp only
  refine wpAny_bind (wpAny_pure ?_)
  simp only[zcb,zab,if_false]
  refine wpAny_bind (wpAny_seqItems ho hd ?_)
  show wpAny _ _ (forIn items _ _>>=_) _ _ _
  rw[← Array.forIn_toList]
  exact wpAny_bind (ofClss_D ds items.toList n A s _ r hn' (wpAny_pure h))
theorem ofClss_D:∀ (ds:List Dt) (vs:List Value) (n:Nat) (A:Around) (s:Shared) (Q:Option Bool×PUnit→Shared→Prop),ay s.heap vs ds→Dt.dps ds≤n→Q (none,⟨⟩) s →
  wpAny (model prog w) A (forIn vs ((none,⟨⟩):Option Bool×PUnit) fun x r=>do
   let c ← ofAClassStatement n x
   if c=true then pure (ForInStep.done (some true,⟨⟩)) else pure (ForInStep.yield (none,⟨⟩))) Q E s
 | [],_,n,A,s,Q,.nil,_,h=>wpAny_pure h
 | d::ds,_,n,A,s,Q,.cons q t,hn,h=>by
  simp only[Dt.dps]at hn
  rw[zcf]
  exact wpAny_bind (wpAny_bind (ofCls_D d _ n A s _ q (by omega) (wpAny_pure (ofClss_D ds _ n A s Q t (by omega) h))))
end
theorem seen_D{x:Value}{dx:Dt}{A:Around}{s:Shared}{Q:Bool→Shared→Prop}(hx:DatH s.heap x dx)(h8:dx.dp≤8)(stored:List Value)(hs:∀ y∈stored,∃ dy,DatH s.heap y dy∧dy.dp≤8)(h:Q false s) :
  wpAny (model prog w) A (searchCouldBeSeen x stored) Q E s:=by
 unfold searchCouldBeSeen
 refine wpAny_bind (wpAny_forIn_list _ (fun rest r s'=>r.1=none∧s'=s∧∀ y∈rest,∃ dy,DatH s.heap y dy∧dy.dp≤8) _ ?_ ?_ stored _ ⟨rfl,rfl,hs⟩)
 ·rintro y rest r s' ⟨hr,rfl,hs'⟩
  obtain⟨dy,hy,hy8⟩:=hs' y zad
  have tl:∀ y∈rest,∃ dy,DatH s'.heap y dy∧dy.dp≤8:=fun z hz=>hs' z (zac _ hz)
  dsimp only
  split<;>(
   split
   ·exact wpAny_pure ⟨rfl,rfl,tl⟩
   ·refine wpAny_bind (jR _ _ 8 A s' _ hx h8 ?_)
    simp only[zcb,zab,if_false]
    refine wpAny_bind (jR _ _ 8 A s' _ hy hy8 ?_)
    simp only[zcb,zab,if_false]
    refine wpAny_bind (ofCls_D _ _ 8 A s' _ hx h8 ?_)
    simp only[zab,if_false]
    refine wpAny_bind (ofCls_D _ _ 8 A s' _ hy hy8 ?_)
    simp only[zab,if_false]
    exact wpAny_pure ⟨rfl,rfl,tl⟩)
 ·rintro⟨r1,r2⟩ s' ⟨hr,rfl,_⟩
  have hr':r1=none:=hr
  subst hr'
  exact wpAny_pure h
end
end BF
namespace BF
open PySem PySem.Spec PyProof.Rows L2 PySem.SeqAt
theorem ay.length{h:Heap}:∀ {ds:List Dt} {vs:List Value},ay h vs ds→vs.length=ds.length
 | []=>by intro g;cases g;exact rfl
 | d::ds=>by
  intro g
  cases g with
  | cons q t=>exact by rw[zah,zah,ay.length t]
mutual
theorem DatH.inj{h:Heap}:∀ {d:Dt} {v:Value} {d':Dt},DatH h v d→DatH h v d'→d=d'
 | .int i=>by
  intro g q
  cases g
  cases q
  rfl
 | .str x=>by
  intro g q
  cases g
  cases q
  rfl
 | .tup ds=>by
  intro g q
  cases g with
  | tup ho hc hd r =>
  cases q with
  | tup ho2 hc2 hd2 r2 =>
   rw[ho]at ho2
   cases ho2
   rw[hd]at hd2
   cases hd2
   rw[ay.inj r r2]
theorem ay.inj{h:Heap}:∀ {ds:List Dt} {vs:List Value} {ds':List Dt},ay h vs ds→ay h vs ds'→ds=ds'
 | []=>by
  intro g q
  cases g
  cases q
  rfl
 | d::ds=>by
  intro g q2
  cases g with
  | cons q t =>
  cases q2 with
  | cons a b=>rw[DatH.inj q a,ay.inj t b]
end
section
variable{s:Shared}
theorem tup_H{h:Heap}{u:Value}{l:List Dt}(q:DatH h u (.tup l)):∃ a its o n,u=.ref a∧h.get? a=some o∧o.cls=.type "tuple"∧o.data=.seq its n∧ay h its.toList l:=by
 cases q with
 | tup ho hc hd r=>exact⟨_,_,_,_,rfl,ho,hc,hd,r⟩
mutual
theorem jx:∀ {d d':Dt} {u u':Value} (A:Around),DatH s.heap u d→DatH s.heap u' d'→A.units+d.dp<cLine→EqAt A s u u' (Dt.beq d d')
 | .int i,.int j=>by
  intro A h h' hu
  cases h with
  | int _ t =>
  cases h' with
  | int _ t'=>exact EqAt.int_int i t j t'
 | .str x,.str y=>by
  intro A h h' hu
  cases h with
  | str _ t =>
  cases h' with
  | str _ t'=>exact EqAt.str_str x t y t'
 | .int i,.str y=>by
  intro A h h' hu
  cases h with
  | int _ t =>
  cases h' with
  | str _ t'=>exact EqAt.int_str i t y t'
 | .str x,.int j=>by
  intro A h h' hu
  cases h with
  | str _ t =>
  cases h' with
  | int _ t'=>exact EqAt.str_int x t j t'
 | .int i,.tup m=>by
  intro A h h' hu
  cases h with
  | int _ t =>
  cases h' with
  | tup ho hc hd r=>exact EqAt.int_tuple i t ⟨_,ho,hc,_,hd⟩ (by omega)
 | .str x,.tup m=>by
  intro A h h' hu
  cases h with
  | str _ t =>
  cases h' with
  | tup ho hc hd r=>exact EqAt.str_tuple x t ⟨_,ho,hc,_,hd⟩ (by omega)
 | .tup l,.int j=>by
  intro A h h' hu
  cases h with
  | tup ho hc hd r =>
  cases h' with
  | int _ t'=>exact EqAt.tuple_int j t' ⟨_,ho,hc,_,hd⟩ (by omega)
 | .tup l,.str y=>by
  intro A h h' hu
  cases h with
  | tup ho hc hd r =>
  cases h' with
  | str _ t'=>exact EqAt.tuple_str y t' ⟨_,ho,hc,_,hd⟩ (by omega)
 | .tup l,.tup m=>by
  intro A h h' hu
  obtain⟨a,its,o,n,rfl,ho,hc,hd,r⟩:=tup_H h
  obtain⟨b,its',o',n',rfl,ho',hc',hd',r'⟩:=tup_H h'
  by_cases hab:a=b
  ·subst hab
   have z:=DatH.inj (DatH.tup ho hc hd r) (DatH.tup ho' hc' hd' r')
   rw[z,Dt.beq_self]
   exact EqAt.same _
  ·have n1:its.size=l.length:=by rw[← za8,r.length]
   have n2:its'.size=m.length:=by rw[← za8,r'.length]
   have hd2:A.units+(Dt.dps l+1)<cLine:=by simpa only[Dt.dp] using hu
   have R:=RcAt.tuples (A:=A) (s:=s) (e:=itEq l m) ⟨_,ho,hc,_,hd⟩ ⟨_,ho',hc',_,hd'⟩ (by omega) (fun j h1 h2=>by
    have:=eqsAt_H A.in1 r r' (by show A.units+1+_<_;omega) j
    exact this _ _ (by simp) (by simp))
   rw[n1,n2,eY]at R
   exact EqAt.of_refs hab R
theorem eqsAt_H:∀ {ds ds':List Dt} {us us':List Value} (A:Around),ay s.heap us ds→ay s.heap us' ds'→A.units+Dt.dps ds<cLine →
  ∀ (j:Nat) (u u':Value),us[j]?=some u→us'[j]?=some u'→EqAt A s u u' (itEq ds ds' j)
 | [],_=>by
  intro A h h' hu j u u' e e'
  cases h
  simp at e
 | d::ds,[]=>by
  intro A h h' hu j u u' e e'
  cases h'
  simp at e'
 | d::ds,d'::ds'=>by
  intro A h h' hu j u u' e e'
  cases h with
  | cons h t =>
  cases h' with
  | cons h' t' =>
  simp only[Dt.dps]at hu
  cases j with
  | zero =>
   have e1:=Option.some.inj e
   have e2:=Option.some.inj e'
   subst e1 e2
   exact jx A h h' (by omega)
  | succ j =>
  have:=eqsAt_H A t t' (by omega) j u u' (by simpa using e) (by simpa using e')
  have z:itEq (d::ds) (d'::ds') (j+1)=itEq ds ds' j:=by simp[itEq]
  rw[z]
  exact this
end
end
def gc(w:World)(h:Heap)(es:Array (Int×Value)):Prop:=∀ e∈es.toList,∃ d,DatH h e.2 d∧d.dp≤8∧e.1=bc w d∧∃ l,d=.tup l
section
variable{prog:Program}{w:World}{E:Value→Shared→Prop}{A:Around}{s:Shared}
set_option maxHeartbeats 1000000 in
theorem search_D{S:Addr}{o:Obj}{es:Array (Int×Value)}{ep:Nat}{t:SetTable}(ok:ba t es)(ho:s.heap.get? S=some o)(hd:o.data=.set es ep t)(en:gc w s.heap es)
  {x:Value} {dx:Dt} (hx:DatH s.heap x dx) (h8:dx.dp≤8) (hu:A.units+8<cLine) {Q:SetFound→Shared→Prop} (h1:(∃ e∈es.toList,DatH s.heap e.2 dx)→Q (.there none) s) :
  ∀ (k fuel:Nat) (p:SetTable.Probe) (stand:Option SetTable.Probe),stand.getD (t.probeStart (bc w dx))=p→p.dummy=none→k<fuel→k≤10*(t.mask+14)→Hits t.mask (Occ t) k p →
   (∀ j,¬ Occ t j→Rch t.mask (Occ t) p j→(∀ (j' i':Nat) (e:Int×Value),Rch t.mask (Occ t) p j'→t.place[i']?=some j'→es[i']?=some e→¬ DatH s.heap e.2 dx)→Q (.free j false) s) →
   wpAny (model prog w) A (setSearchFrom S x (bc w dx) true fuel stand) Q E s
 | k,0,p,stand,_,_,hf,_,_,_=>absurd hf (Nat.not_lt_zero _)
 | k,fuel+1,p,stand,hst,hpd,hf,hk,hh,h2=>by
  unfold setSearchFrom
  refine wpAny_bind (wpAny_setState_of ho hd ok.tab.fits ?_)
  dsimp only
  rw[ok.tab.odd,hst]
  simp only[zab,if_false]
  generalize hp:SetTable.probe t _ _ p=pr
  have hdat:∀ (i:Nat) (e:Int×Value),es[i]?=some e→DatH s.heap e.2 dx→W.hashAt es i=bc w dx:=fun i e ee q=>by
   obtain⟨d,q1,_,q3,_⟩:=en e (zb6.mpr (zb8 ee))
   unfold W.hashAt
   rw[ee]
   show e.1=_
   rw[q3,DatH.inj q1 q]
  rcases probe_go ok.tab (W.hashAt es) (bc w dx) k (10*SetTable.turns t.mask) p hpd (by show k<10*(t.mask+15);omega) hh with ⟨j,e,e1,e2,e3⟩ | ⟨j,i,q,k',e,e1,e2,e3,e4,e5,e6,e7⟩
  ·have:pr=some (.empty j none):=hp.symm.trans e
   subst this
   dsimp only
   exact wpAny_pure (h2 j e1 e2 fun j' i' ev r pl ee q=>e3 j' i' r pl (hdat i' ev ee q))
  ·have:pr=some (.candidate j i q):=hp.symm.trans e
   subst this
   dsimp only
   have hi:i<es.size:=by
    rw[← ok.size]
    rcases zca i t.place.size with z | z
    ·exact z
    ·rw[zc5 z]at e1;cases e1
   obtain⟨⟨hy,y⟩,ei⟩:∃ ev,es[i]?=some ev:=⟨_,zaf hi⟩
   have emem:(hy,y)∈es.toList:=zb6.mpr (zb8 ei)
   obtain⟨dy,q1,q2,q3,l,rfl⟩:=en (hy,y) emem
   have main:wpAny (model prog w) A (do
     let some (_,y):=es[i]? | unsupported "internal:set-entry"
     let equal ← holding [y] (eqBool y x)
     let (es',_,t') ← setState S
     if true&&equal then return .there none
     let some same:=t'.sameMemory t.moves t.mask | unsupported "set.changed-during-lookup:is-the-new-block-at-the-old-address"
     let still ← match (if same then t'.slot j else .empty) with
      | .live i'=>match es'[i']? with
       | some (_,y')=>do pure (if ← isSame y' y then some i' else none)
       | none=>pure none
      | _=>pure none
     match still with
     | none=>rule "set.search.anew";setSearchFrom S x (bc w dx) true fuel none
     | some i'=>if equal then return .there (some i') else setSearchFrom S x (bc w dx) true fuel (some q)) Q E s:=by
    rw[ei]
    dsimp only
    refine wpAny_bind (wpAny_holding (jx A q1 hx (by omega) prog w E _ ?_))
    refine wpAny_bind (wpAny_setState_of ho hd ok.tab.fits ?_)
    dsimp only
    cases hb:Dt.beq (.tup l) dx with
    | true =>
     have:Dt.tup l=dx:=(Dt.beq_iff _ _).mp hb
     subst this
     simp only[Bool.and_self,if_true]
     exact wpAny_pure (h1 ⟨(hy,y),emem,q1⟩)
    | false =>
     have sm:t.sameMemory t.moves t.mask=some true:=by
      unfold SetTable.sameMemory
      rw[if_pos (by simp)]
     simp only[Bool.and_false,zab,if_false,sm,if_true,slot_live ok.tab e1,ei]
     cases q1 with
     | @tup b oo items nn _ ho' hc' hd' r' =>
      refine wpAny_bind (wpAny_isSame_ref_self (wpAny_bind (wpAny_pure ?_)))
      simp only[if_true]
      refine search_D ok ho hd en hx h8 hu h1 k' fuel q (some q) rfl e3 (by omega) (by omega) e5 fun j2 n2 r2 all2=>?_
      refine h2 j2 n2 (e6 j2 r2) fun j' i' ev r pl ee qq=>?_
      rcases e7 j' i' r pl with z | z | z
      ·exact z (hdat i' ev ee qq)
      ·subst z
       rw[ei]at ee
       cases ee
       have:=DatH.inj (DatH.tup ho' hc' hd' r') qq
       rw[this,Dt.beq_self]at hb
       cases hb
      ·exact all2 j' i' ev z pl ee qq
   cases hled:t.led with
   | true =>
    simp only[zcb,zab,if_false]
    exact main
   | false =>
    simp only[Bool.not_false,if_true]
    refine wpAny_bind (seen_D hx h8 _ (fun y' hy'=>?_) ?_)
    ·obtain⟨e',he',rfl⟩:=za6.mp hy'
     have:e'∈es.toList:=by
      have:=zb6.mp he'
      exact zb6.mpr (Array.mem_filter.mp this).1
     obtain⟨d,a1,a2,_,_⟩:=en e' this
     exact⟨d,a1,a2⟩
    ·simp only[zab,if_false]
     exact main
end
theorem adv_le{m:Nat}{p:SetTable.Probe}(h:p.j+p.more≤m):(advM m p).j+(advM m p).more≤m:=by
 unfold advM
 split
 ·show p.j+1+(p.more-1)≤m
  omega
 ·have h1:(SetTable.leap m p.i p.perturb).1≤m:=zbk (Nat.mod_lt _ (Nat.succ_pos m))
  have h2:=jo h1
  show(SetTable.leap m p.i p.perturb).1+(SetTable.runEnd m (SetTable.leap m p.i p.perturb).1-(SetTable.leap m p.i p.perturb).1)≤m
  omega
theorem Rch.le{m:Nat}{occ:Nat→Prop}{p:SetTable.Probe}{j:Nat}(r:Rch m occ p j):p.j+p.more≤m→j≤m:=by
 induction r with
 | here p=>intro h;omega
 | next _ _ ih=>intro h;exact ih (adv_le h)
theorem start_le(m:Nat)(h:Int):(fh m h).j+(fh m h).more≤m:=by
 have h1:SetTable.bits h % (m+1)≤m:=zbk (Nat.mod_lt _ (Nat.succ_pos m))
 have h2:=jo h1
 show SetTable.bits h % (m+1)+0+(SetTable.runEnd m (SetTable.bits h % (m+1))-SetTable.bits h % (m+1)-0)≤m
 omega
theorem grow_ok{m n:Nat}(hm:bd m)(h1:n*5<m*3)(h2:¬ (n+1)*5<m*3)(h3:n<306):bd (SetTable.sizeAbove (SetTable.grown (n+1))-1)∧(n+1)*5<(SetTable.sizeAbove (SetTable.grown (n+1))-1)*3∧SetTable.sizeAbove (SetTable.grown (n+1))≤1024:=by
 have:∀ n<306,∀ m∈[7,15,31,63,127,255,511,1023],n*5<m*3→¬ (n+1)*5<m*3→(SetTable.sizeAbove (SetTable.grown (n+1))-1)∈[7,15,31,63,127,255,511,1023]∧(n+1)*5<(SetTable.sizeAbove (SetTable.grown (n+1))-1)*3∧SetTable.sizeAbove (SetTable.grown (n+1))≤1024:=by
  decide +kernel
 obtain⟨a,b⟩:=this n h3 m (by simpa[bd] using hm) h1 h2
 exact⟨by simpa[bd] using a,b⟩
section
variable{prog:Program}{w:World}{E:Value→Shared→Prop}{A:Around}{s:Shared}
theorem iM{n:Nat}(h:n≤1024):n≤sizeLine:=by rw[sizeLine_eq];omega
theorem jO{n:Nat}(h:n≤512):n≤sizeLine:=iM (by omega)
theorem eE{h:Heap}{S:Addr}{o:Obj}{es es':Array (Int×Value)}{ep:Nat}{t t':SetTable}(ho:h.get? S=some o)(hd:o.data=.set es ep t) :
  (h.update S (Obj.putSet es' t')).get? S=some { o with data:=.set es' (ep+1) t' }:=by
 have:=Heap.get?_update_self (Obj.putSet es' t') ho (by rw[putSet_of es' t' hd];rfl)
 rw[putSet_of es' t' hd]at this
 exact this
theorem relay_D{S:Addr}{o:Obj}{es:Array (Int×Value)}{ep:Nat}{t:SetTable}{wanted:Nat}(hf:t.fits es.size=true)(ho:s.heap.get? S=some o)(hd:o.data=.set es ep t)
  (hm:bd (SetTable.sizeAbove wanted-1)) (hn:es.size*5<(SetTable.sizeAbove wanted-1)*3) (hw:SetTable.sizeAbove wanted≤1024) {Q:Unit→Shared→Prop}
  (q:∀ h' es' ep' t',Heap.SameBut S s.heap h'→h'.get? S=some { o with data:=.set es' ep' t' }→ba t' es'→t'.led=t.led→t'.mask=SetTable.sizeAbove wanted-1→es'.toList.Perm es.toList→Q () { s with heap:=h' }) :
  wpAny (model prog w) A (setRelay S wanted) Q E s:=by
 obtain⟨t',order,e,hp,ok,hl,hk⟩:=relaid_ok (t:=t) (es:=es) hm hn
 unfold setRelay
 refine wpAny_bind (wpAny_setState_of ho hd hf ?_)
 dsimp only
 rw[if_neg (Nat.not_lt.mpr (iM hw)),e]
 have hsz:(order.filterMap (es[·]?)).size=es.size:=by rw[← za8,hp.length_eq,za8]
 refine wpAny_bind ?_
 show wpAny (model prog w) A (if ((order.filterMap (es[·]?)).size !=es.size)=true then unsupported "internal:set-table-lost-an-element" else pure (order.filterMap (es[·]?),t')) _ E s
 rw[if_neg (by rw[hsz];simp)]
 refine wpAny_pure ?_
 dsimp only
 refine wpAny_storeSet_of ho hd ?_ (by rw[hsz];exact iM (by omega))
 exact q _ _ _ t' (Heap.SameBut.update _ _ _) (eE ho hd) ok hl hk hp
set_option maxHeartbeats 1000000 in
theorem addH_D{S:Addr}{o:Obj}{es:Array (Int×Value)}{ep:Nat}{t:SetTable}(ok:ba t es)(ho:s.heap.get? S=some o)(hd:o.data=.set es ep t)(en:gc w s.heap es)
  {x:Value} {l:List Dt} (hx:DatH s.heap x (.tup l)) (h8:(Dt.tup l).dp≤8) (hu:A.units+8<cLine) (hn:es.size<306) {Q:Bool→Shared→Prop}
  (q1:(∃ e∈es.toList,DatH s.heap e.2 (.tup l))→Q false s)
  (q2:∀ h' es' ep' t',(¬ ∃ e∈es.toList,DatH s.heap e.2 (.tup l))→Heap.SameBut S s.heap h'→h'.get? S=some { o with data:=.set es' ep' t' }→ba t' es'→t'.led=t.led→es'.toList.Perm ((bc w (.tup l),x)::es.toList)→Q true { s with heap:=h' }) :
  wpAny (model prog w) A (setAddHashed S x (bc w (.tup l))) Q E s:=by
 unfold setAddHashed
 refine wpAny_holding ?_
 unfold setAddHashedIn
 have ho':s.heap.get? S=some o:=ho
 refine wpAny_bind (wpAny_setState_of ho' hd ok.tab.fits ?_)
 dsimp only
 have hb:byScan x es=false:=by
  cases hx with
  | tup _ _ _ _=>rfl
 rw[hb]
 simp only[zab,if_false]
 obtain⟨jf,hj1,hj2⟩:=ok.tab.free
 have hstart:t.probeStart (bc w (.tup l))=fh t.mask (bc w (.tup l)):=start_eq _ _
 have reachAll:∀ e∈es.toList,DatH s.heap e.2 (.tup l)→∃ (i j:Nat),t.place[i]?=some j∧es[i]?=some e∧Rch t.mask (Occ t) (fh t.mask (bc w (.tup l))) j:=fun e he qe=>by
  obtain⟨i,ei⟩:=zaw.mp he
  rw[zaq]at ei
  have hi:i<t.place.size:=by
   rw[ok.size]
   rcases zca i es.size with z | z
   ·exact z
   ·rw[zc5 z]at ei;cases ei
  obtain⟨d,a1,_,a3,_⟩:=en e he
  have:=ok.reach i _ e (zaf hi) ei
  rw[a3,DatH.inj a1 qe]at this
  exact⟨i,_,zaf hi,ei,this⟩
 refine wpAny_bind ?_
 unfold setSearch
 refine search_D ok ho' hd en hx h8 hu (fun he=>wpAny_pure (q1 he)) (10*(t.mask+14)) 100000 _ none rfl rfl ?_ (za4 _) ?_ fun j nj rj all=>?_
 ·rcases ok.mask with h | h | h | h | h | h | h | h<;>rw[h]<;>decide
 ·show Hits _ _ _ (t.probeStart (bc w (.tup l)))
  rw[hstart]
  exact hits_start ok.mask hj1 hj2 _
 ·have rj':Rch t.mask (Occ t) (fh t.mask (bc w (.tup l))) j:=by rw[← hstart];exact rj
  have none':¬ ∃ e∈es.toList,DatH s.heap e.2 (.tup l):=fun⟨e,he,qe⟩=>by
   obtain⟨i,j',p1,p2,p3⟩:=reachAll e he qe
   exact all j' i e (by show Rch _ _ (t.probeStart _) _;rw[hstart];exact p3) p1 p2 qe
  have jm:j≤t.mask:=rj'.le (start_le _ _)
  have pre:=ok.put jm nj (e:=(bc w (.tup l),x)) rj'
  dsimp only
  refine wpAny_bind (wpAny_setState_of ho' hd ok.tab.fits ?_)
  dsimp only
  have fin:∀ t1:SetTable,SetPre t1 (SetTable.insertAt es (t.put j).2 (bc w (.tup l),x))→t1.mask=t.mask→t1.led=t.led →
    wpAny (model prog w) A (do
     storeSet S (SetTable.insertAt es (t.put j).2 (bc w (.tup l),x)) t1
     if (!false&&t1.tooFull)=true then setRelay S (SetTable.grown (es.size+1))
     pure true) Q E s:=fun t1 p1 m1 l1=>by
   have sz1:(SetTable.insertAt es (t.put j).2 (bc w (.tup l),x)).size=es.size+1:=iB _ _ _
   have per:=SetTable.insertAt_perm es (t.put j).2 (bc w (.tup l),x)
   have per':(SetTable.insertAt es (t.put j).2 (bc w (.tup l),x)).toList.Perm ((bc w (.tup l),x)::es.toList):=by
    refine per.trans ?_
    rw[Array.toList_push]
    exact zb2
   refine wpAny_bind (wpAny_storeSet_of ho' hd ?_ (by rw[sz1];exact jO (by omega)))
   have fill:t1.fill=es.size+1:=by
    unfold SetTable.fill
    rw[p1.size,p1.clean,sz1];rfl
   by_cases hf:(es.size+1)*5<t.mask*3
   ·have tf:t1.tooFull=false:=by
     unfold SetTable.tooFull
     rw[fill,m1]
     exact decide_eq_false (by omega)
    rw[tf]
    simp only[Bool.and_false,zab,if_false]
    refine wpAny_pure (q2 _ _ _ t1 none' (Heap.SameBut.update _ _ _) (eE ho' hd) ⟨p1,?_⟩ l1 per')
    rw[sz1,m1];exact hf
   ·have tf:t1.tooFull=true:=by
     unfold SetTable.tooFull
     rw[fill,m1]
     exact decide_eq_true (by omega)
    rw[tf]
    simp only[Bool.not_false,Bool.and_self,if_true]
    obtain⟨g1,g2,g3⟩:=grow_ok ok.mask ok.full hf hn
    refine wpAny_bind (relay_D (s:={ s with heap:=s.heap.update S (Obj.putSet (SetTable.insertAt es (t.put j).2 (bc w (.tup l),x)) t1) }) ?_ (eE ho' hd) rfl g1 (by rw[sz1];exact g2) g3 fun h' es' ep' t' sb g' ok' l' _ p'=>?_)
    ·unfold SetTable.fits
     rw[fill,p1.size,sz1,m1]
     have:=ok.full
     simp
     omega
    ·exact wpAny_pure (q2 _ _ _ t' none' ((Heap.SameBut.update _ _ _).trans sb) g' ok' (l'.trans l1) (p'.trans per'))
  cases hpl:(t.put j).1.plain with
  | true =>
   simp only[if_true]
   refine wpAny_bind (byValue_D _ _ 8 A s _ hx fun b=>?_)
   cases b with
   | true=>exact fin _ pre rfl rfl
   | false=>exact fin _ (ba.off pre) rfl rfl
  | false =>
   simp only[zab,if_false]
   refine wpAny_bind (wpAny_pure ?_)
   exact fin _ pre rfl rfl
set_option maxHeartbeats 1000000 in
theorem add_D{S:Addr}{o:Obj}{es:Array (Int×Value)}{ep:Nat}{t:SetTable}(ok:ba t es)(ho:s.heap.get? S=some o)(hd:o.data=.set es ep t)(en:gc w s.heap es)
  {x:Value} {l:List Dt} (hx:DatH s.heap x (.tup l)) (h8:(Dt.tup l).dp≤8) (hu:A.units+8<cLine) (hn:es.size<306) {Q:Bool→Shared→Prop}
  (q1:∀ tk,s.toks≤tk→(∃ e∈es.toList,DatH s.heap e.2 (.tup l))→Q false { s with toks:=tk })
  (q2:∀ tk h' es' ep' t',s.toks≤tk→(¬ ∃ e∈es.toList,DatH s.heap e.2 (.tup l))→Heap.SameBut S s.heap h'→h'.get? S=some { o with data:=.set es' ep' t' }→ba t' es'→t'.led=t.led→es'.toList.Perm ((bc w (.tup l),x)::es.toList)→Q true { s with heap:=h',toks:=tk }) :
  wpAny (model prog w) A (setAdd S x) Q E s:=by
 unfold setAdd
 refine wpAny_holding (wpAny_bind (pyHash_D _ _ A s _ hx (by omega) fun tk htk=>?_))
 exact addH_D (s:={ s with toks:=tk }) ok ho hd en hx h8 hu hn (fun he=>q1 tk htk he) fun h' es' ep' t' ne sb g ok' l' p'=>q2 tk h' es' ep' t' htk ne sb g ok' l' p'
end
def b5(es:Array (Int×Value))(ep:Nat)(t:SetTable):Obj:={ cls:=.type "set",dict:=none,data:=.set es ep t }
def b8(w:World):Bool:=w.params.followText "set-order"
structure SetIs(w:World)(h0 h:Heap)(S:Addr)(vs:List Value)(ds:List Dt)(es:Array (Int×Value))(ep:Nat)(t:SetTable)(dl:List Dt):Prop where
 get:h.get? S=some (b5 es ep t)
 ok:ba t es
 led:t.led=!b8 w
 ent:gc w h0 es
 dat:ay h0 (es.toList.map (·.2)) dl
 nodup:dl.Nodup
 mem:∀ d,d∈dl↔d∈ds
 sub:∀ e∈es.toList,e.2∈vs
theorem gc.keep{w:World}{h h':Heap}{es:Array (Int×Value)}(k:∀ b o,h.get? b=some o→h'.get? b=some o)(en:gc w h es):gc w h' es:=fun e he=>by
 obtain⟨d,a1,a2⟩:=en e he
 exact⟨d,a1.keep k,a2⟩
theorem bp{h:Heap}:∀ {ds:List Dt} {vs:List Value},ay h vs ds→(∀ d∈ds,∃ v∈vs,DatH h v d)∧(∀ v∈vs,∃ d∈ds,DatH h v d)
 | []=>by intro g;cases g;exact ⟨fun _ h=>(nomatch h),fun _ h=>(nomatch h)⟩
 | d::ds=>by
  intro g
  cases g with
  | cons q t =>
    obtain⟨h1,h2⟩:=bp t
    refine⟨fun d' hd=>?_,fun v hv=>?_⟩
    ·rcases zaa.mp hd with rfl | hd
     ·exact⟨_,zad,q⟩
     ·obtain⟨v,a,b⟩:=h1 d' hd
      exact⟨v,zac _ a,b⟩
    ·rcases zaa.mp hv with rfl | hv
     ·exact⟨_,zad,q⟩
     ·obtain⟨v,a,b⟩:=h2 v hv
      exact⟨v,zac _ a,b⟩
theorem dQ{h:Heap}{ys zs:List Value}(p:ys.Perm zs):∀ {ds:List Dt},ay h ys ds→∃ es,ay h zs es∧ds.Perm es:=by
 induction p with
 | nil=>intro ds r;exact⟨ds,r,.refl _⟩
 | cons x _ ih =>
  intro ds r
  cases r with
  | cons r1 r2 =>
   obtain⟨es,a,b⟩:=ih r2
   exact⟨_::es,.cons r1 a,b.cons _⟩
 | swap x y l =>
  intro ds r
  cases r with
  | cons r1 r2 =>
   cases r2 with
   | cons r3 r4=>exact⟨_::_::_,.cons r3 (.cons r1 r4),.swap _ _ _⟩
 | trans _ _ ih1 ih2 =>
  intro ds r
  obtain⟨es,a,b⟩:=ih1 r
  obtain⟨fs,c,d⟩:=ih2 a
  exact⟨fs,c,b.trans d⟩
theorem i5{h:Heap}:∀ {ds:List Dt} {vs:List Value},ay h vs ds→∀ (i:Nat) (v:Value),vs[i]?=some v→∃ d,ds[i]?=some d∧DatH h v d
 | []=>by
  intro g i v e
  cases g
  simp at e
 | d::ds=>by
  intro g i v e
  cases g with
  | cons q t =>
  cases i with
  | zero=>simp at e;subst e;exact⟨d,rfl,q⟩
  | succ i =>
   simp at e
   obtain⟨d',a,b⟩:=i5 t i v e
   exact⟨d',by simpa using a,b⟩
section
variable{prog:Program}{w:World}{A:Around}{R:Result→Shared→Prop}{I:Addr}{fp wr:List Addr}{G:Array GenState→Array GenState→Prop}{n:Nat}{P:Nat→Value→Prop}{St:Nat→Shared→Prop}
theorem update_loop_D(W:WalksS prog w A.in1 I fp wr G n P St)(h0:Heap)(S:Addr)(hSf:S∉fp)(hS0:h0.objs.size≤S)(hw0:∀ b∈wr,h0.objs.size≤b)(ds:List Dt)(hn:ds.length=n)(hb:n<306)(vs:List Value)(hvs:∀ i v,P i v→v∈vs)
  (hval:∀ i v,P i v→∃ d,ds[i]?=some d∧DatH h0 v d) (htup:∀ d∈ds,∃ l,d=.tup l∧d.dp≤8) (hu:A.units+9<cLine) :
  ∀ (k i:Nat) (s:Shared),n-i=k→i≤n→St i s→(∀ b o,h0.get? b=some o→s.heap.get? b=some o) →
   (∃ es ep t dl,SetIs w h0 s.heap S vs (ds.take i) es ep t dl) →
   (∀ s',Moved (S::wr) G s s'→(∀ b o,h0.get? b=some o→s'.heap.get? b=some o)→(∃ es ep t dl,SetIs w h0 s'.heap S vs ds es ep t dl)→R (.ok (.ret .none)) s') →
   codeAny (model prog w) A (.builtin "set.update.loop" ⟨[.ref S,.ref I],[]⟩) R s:=by
 have hSw:S∉wr:=fun h=>hSf (W.sub _ h)
 have hsub:∀ b∈wr,b∈S::wr:=fun b hb=>zac _ hb
 have old:∀ {s s':Shared},Moved wr G s s'→(∀ b o,h0.get? b=some o→s.heap.get? b=some o)→(∀ b o,h0.get? b=some o→s'.heap.get? b=some o):=fun {s s'} hm hk b o e =>
  hm.heap b o (fun hb=>absurd (Heap.lt_size e) (Nat.not_lt.mpr (hw0 b hb))) (hk b o e)
 intro k
 induction k with
 | zero =>
  intro i s hk hi hst ho hS hR
  have hin:i=n:=by omega
  subst hin
  refine codeAny_builtin F.entry_set_update_loop ?_
  rw[Around.under_plainId F.plain_set_update_loop _]
  show wpAny _ A.in1 (pyNext (.ref I)>>=_) _ _ s
  refine wpAny_bind (W.done s _ _ hst fun s' hm=>?_)
  show wpAny _ A.in1 (ret Value.none) _ _ s'
  refine wpAny_pure (hR s' (hm.mono hsub) (old hm ho) ?_)
  obtain⟨es,ep,t,dl,z⟩:=hS
  rw[zas (by omega)]at z
  exact⟨es,ep,t,dl,hm.heap S _ hSw z.get,z.ok,z.led,z.ent,z.dat,z.nodup,z.mem,z.sub⟩
 | succ k ih =>
  intro i s hk hi hst ho hS hR
  have hlt:i<n:=by omega
  refine codeAny_builtin F.entry_set_update_loop ?_
  rw[Around.under_plainId F.plain_set_update_loop _]
  show wpAny _ A.in1 (pyNext (.ref I)>>=_) _ _ s
  refine wpAny_bind (W.item i s _ _ hlt hst fun v s' hP hst' hm=>?_)
  obtain⟨d,ed,dv⟩:=hval i v hP
  obtain⟨l,rfl,h8⟩:=htup d (zak ed)
  obtain⟨es,ep,t,dl,z⟩:=hS
  have ho':=old hm ho
  have hget':s'.heap.get? S=some (b5 es ep t):=hm.heap S _ hSw z.get
  have tk1:ds.take (i+1)=ds.take i++[.tup l]:=by
   rw[List.take_succ,ed];rfl
  have hlen:es.size≤i:=by
   have h1:es.size=dl.length:=by rw[← z.dat.length,za0,za8]
   have h2:dl.length≤(ds.take i).length:=by
    refine List.Nodup.length_le_of_subset z.nodup fun x hx=>(z.mem x).mp hx
   rw[zan]at h2
   omega
  show wpAny _ A.in1 (holding [v] (setAdd S v)>>=_) _ _ s'
  refine wpAny_bind (wpAny_holding ?_)
  have memIff:(∃ e∈es.toList,DatH s'.heap e.2 (.tup l))↔Dt.tup l∈dl:=by
   constructor
   ·rintro⟨e,he,q⟩
    obtain⟨d',hd',q'⟩:=(bp z.dat).2 e.2 (za6.mpr ⟨e,he,rfl⟩)
    rw[DatH.inj q (q'.keep ho')]
    exact hd'
   ·intro hd'
    obtain⟨v',hv',q'⟩:=(bp z.dat).1 _ hd'
    obtain⟨e,he,rfl⟩:=za6.mp hv'
    exact⟨e,he,q'.keep ho'⟩
  refine add_D (A:=A.in1) z.ok hget' rfl (z.ent.keep ho') (dv.keep ho') h8 (by show A.units+1+8<_;omega) (by omega) (fun tk htk he=>?_) fun tk h' es' ep' t' htk he sb g' ok' l' p'=>?_
  ·refine wpAny_pure ⟨plainId_quiet F.plain_set_update_loop _,ih (i+1) _ (by omega) hlt (W.frame _ s' _ _ hst' htk fun b hb o e=>e) ho' ?_ fun s'' hm'' ho'' hS''=>?_⟩
   ·rw[tk1]
    refine⟨es,ep,t,dl,hget',z.ok,z.led,z.ent,z.dat,z.nodup,fun d=>?_,z.sub⟩
    rw[za9,za7,z.mem]
    constructor
    ·exact .inl
    ·rintro(q | rfl)
     ·exact q
     ·exact(z.mem _).mp (memIff.mp he)
   ·exact hR s'' (Moved.trans W.gtrans ((hm.mono hsub).then_heap htk fun b o hb e=>e) hm'') ho'' hS''
  ·refine wpAny_pure ⟨plainId_quiet F.plain_set_update_loop _,ih (i+1) _ (by omega) hlt (W.frame _ s' _ _ hst' htk fun b hb o e=>?_) (fun b o e=>?_) ?_ fun s'' hm'' ho'' hS''=>?_⟩
   ·rw[sb.2 b (fun h:b=S=>hSf (by rw[← h];exact hb))];exact e
   ·rw[sb.2 b (fun h:b=S=>absurd (Heap.lt_size e) (Nat.not_lt.mpr (by rw[h];exact hS0)))];exact ho' b o e
   ·rw[tk1]
    have hl:dl.length=es.size:=by rw[← z.dat.length,za0,za8]
    obtain⟨dl',q1,q2⟩:=dQ ((p'.map (·.2)).symm) (ds:=.tup l::dl) (.cons dv z.dat)
    refine⟨es',ep',t',dl',g',ok',l'.trans z.led,fun e he=>?_,q1,?_,fun d=>?_,fun e he=>?_⟩
    ·rcases zaa.mp (p'.mem_iff.mp he) with rfl | he
     ·exact⟨.tup l,dv,h8,rfl,l,rfl⟩
     ·exact z.ent e he
    ·refine q2.nodup_iff.mp (zbb.mpr ⟨fun hc=>he (memIff.mpr hc),z.nodup⟩)
    ·rw[← q2.mem_iff,zaa,za9,za7,z.mem,Or.comm]
    ·rcases zaa.mp (p'.mem_iff.mp he) with rfl | he
     ·exact hvs i v hP
     ·exact z.sub e he
   ·refine hR s'' (Moved.trans W.gtrans ((hm.mono hsub).then_heap htk fun b o hb e=>?_) hm'') ho'' hS''
    rw[sb.2 b (fun h:b=S=>hb (by rw[h];exact zad))];exact e
end
section
variable{prog:Program}{w:World}{A:Around}{E:Value→Shared→Prop}{s:Shared}
def set0(w:World):Obj:=b5 #[] 0 (.fresh 0 0 (!b8 w))
theorem setNew_D(v:Value){Q:Value→Shared→Prop}(q:Q (.ref s.heap.objs.size) { s with heap:=s.heap.push (set0 w) }) :
  codeAny (model prog w) A (.call (.builtin "set.__new__") ⟨[.type "set",v],[]⟩) (wants Q E) s:=by
 refine codeAny_of_tree (show wpAny _ A.in1 (do checkBuiltinCall "set.__new__" ⟨[.type "set",v],[]⟩;again (.builtin "set.__new__" ⟨[.type "set",v],[]⟩)) _ _ s from ?_)
 refine wpAny_bind (wpAny_of_eq (PySem.F.newCall_set_1 v) (wpAny_pure ⟨plainId_quiet PySem.F.plain_set_new _,codeAny_builtin PySem.F.entry_set_new ?_⟩))
 rw[Around.under_plainId PySem.F.plain_set_new _];unfold Builtin.«set.__new__» Builtin.Frozenset.newClass
 have hss:=sub_set_self
 obtain⟨h1,h2,h3,h4,h5⟩:=s
 dsimp only;wp_walk
 refine wpAny_askSetting (wpAny_pure ?_);dsimp only;simp only[newObj]
 exact wpAny_bind (wpAny_alloc (wpAny_pure (wpAny_pure q)))
theorem set0_is(h0 h:Heap)(vs:List Value){S:Addr}(e:h.get? S=some (set0 w)):∃ es ep t dl,SetIs w h0 h S vs [] es ep t dl:=by
 refine⟨#[],0,.fresh 0 0 (!b8 w),[],e,⟨⟨.inl rfl,List.Pairwise.nil,rfl,rfl,fun j hj=>?_,fun i j e' hp=>?_⟩,?_⟩,rfl,fun e' he=>?_,.nil,zci,fun d=>Iff.rfl,fun e' he=>?_⟩
 ·exact absurd hj (by simp[SetTable.fresh])
 ·simp[SetTable.fresh]at hp
 ·show 0*5<7*3;decide
 ·simp at he
 ·simp at he
set_option maxRecDepth 100000 in
set_option maxHeartbeats 3200000 in
theorem iE{l:Addr}{its:Array Value}{ds:List Dt}{Q:Value→Shared→Prop}(hh:A.handled=none)(hl:s.heap.IsList l its)(hi:ay s.heap its.toList ds)(hb:its.size<306)
  (htup:∀ d∈ds,∃ l,d=.tup l∧d.dp≤8) (hu:A.units+12<cLine)
  (q:∀ (h':Heap) (tk:Nat) es ep t dl,SetIs w s.heap h' s.heap.objs.size its.toList ds es ep t dl→(∀ b o,s.heap.get? b=some o→h'.get? b=some o)→s.heap.objs.size<h'.objs.size→Q (.ref s.heap.objs.size) { s with heap:=h',toks:=tk }) :
  wpAny (model prog w) A (call (.type "set") [.ref l]) Q E s:=by
 obtain⟨c,tl,hmro⟩:=PySem.F.called_set.mro
 have hmd:=PySem.F.called_set.made
 have hsb:=PySem.F.called_set.sub
 have n1:=PySem.F.called_set.notType
 have n2:=PySem.F.called_set.canCreate
 have n3:=PySem.F.typeCall_set_1 (.ref l)
 refine wpAny_call (codeAny_of_tree (show wpAny _ _ (callAny (.type "set") _) _ _ _ from ?_))
 refine wpAny_pure ⟨Code.quiet_builtin _ (by decide +kernel),codeAny_builtin PySem.F.entry_type_call ?_⟩
 rw[Around.under_plain (weight_type_call_type "set" [.ref l] []) rfl];repeat (any_goals (first | assumption | wp_step))
 refine codeAny_mono (setNew_D (.ref l) (E:=E) (Q:=fun r z=>r=.ref s.heap.objs.size∧z={ s with heap:=s.heap.push (set0 w) }) ⟨rfl,rfl⟩) fun res z hz=>?_
 cases res with
 | error e=>exact hz
 | ok fl =>
  cases fl with
  | ret r =>
   obtain⟨rfl,rfl⟩:=hz
   have g0:(s.heap.push (set0 w)).get? s.heap.objs.size=some (set0 w):=Heap.get?_push_size _ rfl
   have hT:Shared.TypeIs { s with heap:=s.heap.push (set0 w) } (.ref s.heap.objs.size) "set":=⟨_,g0,rfl⟩
   have i1:=PySem.F.called_set.init.lookup
   have i2:=PySem.F.called_set.init.bind (.ref s.heap.objs.size)
   repeat (any_goals (first | assumption | wp_step))
   refine codeAny_mono (codeAny_call_builtin (R:=wants (fun r z=>r=.none∧∃ h' tk es ep t dl,z={ s with heap:=h',toks:=tk }∧SetIs w s.heap h' s.heap.objs.size its.toList ds es ep t dl∧(∀ b o,s.heap.get? b=some o→h'.get? b=some o)∧s.heap.objs.size<h'.objs.size) E)
    PySem.F.called_set.init.plain PySem.F.entry_set_init (check_set_init_1 hT ?_)) fun res z hz=>?_
   ·obtain⟨ol,hol,hcl,nl,hdl⟩:=id hl
    obtain⟨oc,od,oda,osl⟩:=ol
    simp only at hcl hdl
    subst hcl;subst hdl
    have hol':(s.heap.push (set0 w)).get? l=some { cls:=.type "list",dict:=od,data:=.seq its nl,slots:=osl }:=Heap.get?_push_of_some _ hol
    have j1:=PySem.F.sub_list_set
    have j2:=PySem.F.sub_list_frozenset
    have j3:(Value.type "list"==Value.type "dict")=false:=by decide
    have hl1:(s.heap.push (set0 w)).IsList l its:=⟨_,hol',rfl,nl,rfl⟩
    unfold Builtin.«set.__init__» noKeywords Builtin.Frozenset.updateFrom
    generalize hPI:pyIter=PI
    wp_walk
    subst hPI
    refine wpAny_pyIter_list hl1 (wpAny_bind (wpAny_runValue ?_))
    have hlS:l<s.heap.objs.size:=Heap.lt_size hol
    have hlI:l≠(s.heap.push (set0 w)).objs.size:=by rw[Heap.size_push];exact zap (zbt hlS)
    have hSf:s.heap.objs.size∉[(s.heap.push (set0 w)).objs.size,l]:=by
     rw[Heap.size_push];simp only[zaa,zb7,or_false,not_or];exact⟨zap (zbe _),zc9 hlS⟩
    have h3:A.in1.in1.in1.handled=none:=by simp[hh]
    refine update_loop_D ((Walks.list h3 _ l hlI its).toS) s.heap s.heap.objs.size hSf (za4 _) (fun b hb=>?_) ds (by rw[← hi.length,za8]) hb its.toList (fun i v hv=>zb6.mpr (zb8 hv)) (fun i v hv=>i5 hi i v (by rw[zaq];exact hv)) htup
     (by simp only[Around.in1_units];omega) (its.size-0) 0 _ (by omega) (zba _) ⟨⟨_,Heap.get?_push_size _ rfl,rfl,rfl⟩,hl1.push _⟩ (fun b o e=>Heap.get?_push_of_some _ (Heap.get?_push_of_some _ e)) ?_ ?_
    ·have:b=(s.heap.push (set0 w)).objs.size:=by simpa using hb
     rw[this,Heap.size_push];exact Nat.le_succ _
    ·exact set0_is _ _ _ (Heap.get?_push_of_some _ g0)
    ·intro z hm old hS
     obtain⟨h',g',d',tk',os'⟩:=z
     have e1:g'=s.gens:=hm.gens
     have e2:d'=s.drawn:=hm.drawn
     have e3:os'=s.os:=hm.os
     subst e1;subst e2;subst e3
     obtain⟨es,ep,t,dl,hS⟩:=hS
     show wpAny _ _ _ _ _ _
     refine wpAny_pure (show wpAny _ _ (ret Value.none) _ _ _ from ?_)
     exact wpAny_pure ⟨rfl,h',tk',es,ep,t,dl,rfl,hS,old,Heap.lt_size hS.get⟩
   ·cases res with
    | error e=>exact hz
    | ok fl =>
     cases fl with
     | ret r =>
      obtain⟨rfl,h',tk,es,ep,t,dl,rfl,hS,old,hlt⟩:=hz
      repeat (any_goals (first | assumption | wp_step))
      exact q h' tk es ep t dl hS old hlt
     | _=>exact hz.elim
  | _=>exact hz.elim
end
theorem jj:Slot "set_iterator" "__next__" "set_iterator.__next__" :=
 .of (owner:="set_iterator") (n:="__next__") (by rw[typeLookup_type,builtinLookup_eq_fast];kernel_rfl) (by decide +kernel) (by decide +kernel) (by decide +kernel) (by first | exact .inl (by decide +kernel) | exact .inr (by decide +kernel)) (by rw[isSubtype_type];kernel_rfl)
theorem entrySI:entryFor table "set_iterator.__next__"=some Builtin.«set_iterator.__next__»:=entryFor_of_tree (by kernel_rfl)
theorem ownSI:Manifest.owners.lookup (String.ofList ['r','o','t','a','r','e','t','i','_','t','e','s'].reverse)=some Manifest.sig_set_iterator:=by kernel_rfl
theorem argsSI(a:Value):argsOk "set_iterator.__next__" ⟨[a],[]⟩:=by
 unfold argsOk;rw[signature?_of (id:="set_iterator.__next__") (n:=['_','_','t','x','e','n','_','_']) (o:=['r','o','t','a','r','e','t','i','_','t','e','s']) (by kernel_rfl) ownSI];kernel_rfl
theorem entrySIter:entryFor table "set.__iter__"=some Builtin.«frozenset.__iter__»:=entryFor_alias (id':="frozenset.__iter__") (by kernel_rfl) rfl (by decide +kernel) (by kernel_rfl)
section
variable{M:Model}{A:Around}{E:Value→Shared→Prop}{s:Shared}
theorem choose_any{src:Source}{n:Nat}{Q:Nat→Shared→Prop}(hn:n≠0)(q:∀ i d,i<n→Q i { s with drawn:=d }):wpAny M A (choose src n) Q E s:=fun Γ p hΓ=>by
 show Sem.wp M Γ (.choose src n .pure) _ _ p s
 rw[Sem.wp_choose]
 exact⟨hn,q _ _ (Nat.mod_lt _ (Nat.pos_of_ne_zero hn))⟩
theorem perm_erase{α:Type}{xs:List α}{i:Nat}{x:α}(h:xs[i]?=some x):(x::xs.eraseIdx i).Perm xs:=by
 induction xs generalizing i with
 | nil=>simp at h
 | cons y ys ih =>
  cases i with
  | zero=>simp at h;subst h;simp
  | succ i =>
   simp at h
   rw[List.eraseIdx_cons_succ]
   exact(List.Perm.swap y x _).trans ((ih h).cons y)
theorem fo{α:Type}:∀ (n:Nat) (xs:List α) (s:Shared) {Q:List α→Shared→Prop},n=xs.length→(∀ ys d,ys.Perm xs→Q ys { s with drawn:=d })→wpAny M A (drawOrder n xs) Q E s
 | 0,xs,s,Q,hn,q=>by
  have:xs=[]:=zbx.mp hn.symm
  subst this
  exact wpAny_pure (q [] s.drawn (.refl _))
 | n+1,[],s,Q,hn,q=>by simp at hn
 | n+1,x::xs,s,Q,hn,q=>by
  unfold drawOrder
  refine wpAny_bind (choose_any (by simp) fun i d hi=>?_)
  have e:(x::xs)[i]?=some (x::xs)[i]:=za2 hi
  rw[e]
  dsimp only
  have hl:n=((x::xs).eraseIdx i).length:=by
   have:=List.length_eraseIdx_of_lt hi
   rw[this];simp at hn;simp[hn]
  refine wpAny_bind (fo n _ { s with drawn:=d } hl fun ys d' hp=>wpAny_pure ?_)
  exact q _ d' ((hp.cons _).trans (perm_erase e))
end
theorem pick_go{α:Type}(next:Nat→Nat):∀ (fuel k:Nat) (left:List α) (out:Array α),fuel=left.length→∃ ys,ys.Perm left∧(pickOrder.go next fuel k left out).toList=out.toList++ys
 | 0,k,left,out,h=>by
  have:left=[]:=zbx.mp h.symm
  subst this
  exact⟨[],.refl _,by unfold pickOrder.go;simp⟩
 | fuel+1,k,left,out,h=>by
  unfold pickOrder.go
  have hp:next k % left.length<left.length:=Nat.mod_lt _ (by omega)
  have e:left[next k % left.length]?=some left[next k % left.length]:=za2 hp
  rw[e]
  dsimp only
  obtain⟨ys,p1,p2⟩:=pick_go next fuel (k+1) (left.eraseIdx (next k % left.length)) (out.push left[next k % left.length]) (by
   rw[List.length_eraseIdx_of_lt hp];omega)
  exact⟨_::ys,(p1.cons _).trans (perm_erase e),by rw[p2,Array.toList_push];simp⟩
theorem pick_perm{α:Type}(next:Nat→Nat)(xs:Array α):(pickOrder next xs).toList.Perm xs.toList:=by
 obtain⟨ys,p1,p2⟩:=pick_go next xs.size 0 xs.toList #[] (by simp)
 show(pickOrder.go next xs.size 0 xs.toList #[]).toList.Perm _
 rw[p2]
 simpa using p1
def g6(first:Value)(i n:Nat)(S:Addr)(ep:Nat):Obj:={ cls:=.type "set_iterator",data:=.fields #[first,.int i 0,.ref S,.int n 0,.int ep 0] }
inductive ItF(w:World)(h:Heap)(S:Addr)(es:Array (Int×Value))(ep:Nat)(t:SetTable)(ord:List Value)(i:Nat):Value→List Addr→Prop where
 | text (hb:b8 w=true) (ho:ord=(pickOrder (w.params.setOrder S ep) es).toList.map (·.2)):ItF w h S es ep t ord i (.int 0 0) []
 | drawn {T:Addr} {o:Obj} {nn:Nat} {pl:List Nat} (hb:b8 w=false) (hd:(!t.plain&&decide (es.size>1))=true) (hT:h.get? T=some o) (hs:o.data=.seq (pl.map fun(k:Nat)=>Value.int (k:Int) 0).toArray nn) (hp:pl.Perm (List.range es.size))
   (ho:ord=pl.map fun k=>((es[k]?).map (·.2)).getD .none):ItF w h S es ep t ord i (.ref T) [T]
 | slots {sl:Nat} (hb:b8 w=false) (hd:(!t.plain&&decide (es.size>1))=false) (hs:SetTable.below t.place sl=i) (ho:ord=es.toList.map (·.2)):ItF w h S es ep t ord i (.int sl 0) []
theorem it_set0(first x:Value)(i n:Nat)(S:Addr)(ep:Nat):Obj.mapFields (·.setIfInBounds 0 x) (g6 first i n S ep)=g6 x i n S ep:=rfl
theorem it_set1(first:Value)(i n:Nat)(S:Addr)(ep:Nat):Obj.mapFields (·.setIfInBounds 1 (.int ((i:Int)+1) 0)) (g6 first i n S ep)=g6 first (i+1) n S ep:=rfl
theorem ItF.keep{w:World}{h h':Heap}{S:Addr}{es:Array (Int×Value)}{ep:Nat}{t:SetTable}{ord:List Value}{i:Nat}{first:Value}{fp:List Addr}(x:ItF w h S es ep t ord i first fp)(k:∀ b∈fp,∀ o,h.get? b=some o→h'.get? b=some o):ItF w h' S es ep t ord i first fp:=by
 cases x with
 | text a b=>exact .text a b
 | drawn a b c d e f=>exact .drawn a b (k _ (by simp) _ c) d e f
 | slots a b c d=>exact .slots a b c d
section
variable{prog:Program}{w:World}{A:Around}{E:Value→Shared→Prop}{s:Shared}{I S:Addr}{es:Array (Int×Value)}{ep:Nat}{t:SetTable}{ord:List Value}{i:Nat}{first:Value}{fp:List Addr}
theorem bx{α:Type}{f:Bool→Sem α}{Q:α→Shared→Prop}(q:wpAny (model prog w) A (f (b8 w)) Q E s):wpAny (model prog w) A (setsByText>>=f) Q E s:=by
 unfold setsByText
 exact wpAny_bind (wpAny_bind (wpAny_askSetting (wpAny_pure q)))
set_option maxHeartbeats 1000000 in
theorem next_item(ok:ba t es)(hled:t.led=!b8 w)(hS:s.heap.get? S=some (b5 es ep t))(hI:s.heap.get? I=some (g6 first i es.size S ep))(hf:ItF w s.heap S es ep t ord i first fp)(hne:S≠I)(hfp:∀ b∈fp,b≠I)
  {v:Value} (hv:ord[i]?=some v) {Q:Option Value→Shared→Prop} (q:∀ first' h',h'.get? I=some (g6 first' (i+1) es.size S ep)→ItF w h' S es ep t ord (i+1) first' fp→Heap.SameBut I s.heap h'→Q (some v) { s with heap:=h' }) :
  wpAny (model prog w) A (pyNext (.ref I)) Q E s:=by
 have hT:s.TypeIs (.ref I) "set_iterator":=⟨_,hI,rfl⟩
 unfold pyNext
 refine wpAny_bind (wpAny_attempt (wpAny_callSpecial?_slot (name:=Str.ofString "__next__") hT jj (wpAny_call_entry jj hT entrySI ?_ (argsSI _))))
 show wpAny _ _ (fieldsOf (.ref I)>>=_) _ _ s
 refine wpAny_bind (wpAny_fieldsOf hI rfl ?_)
 dsimp only
 refine wpAny_bind (wpAny_setEntries_of hS rfl ok.tab.fits ?_)
 rw[if_neg (by simp)]
 have upd2:∀ x:Value,((s.heap.update I (Obj.mapFields (·.setIfInBounds 0 x))).get? I)=some (g6 x i es.size S ep):=fun x=>by
  have:=Heap.get?_update_self (Obj.mapFields (·.setIfInBounds 0 x)) hI rfl
  rw[it_set0]at this;exact this
 have upd3:∀ (f:Value) (h:Heap),h.get? I=some (g6 f i es.size S ep)→(h.update I (Obj.mapFields (·.setIfInBounds 1 (.int ((i:Int)+1) 0)))).get? I=some (g6 f (i+1) es.size S ep):=fun f h e=>by
  have:=Heap.get?_update_self (Obj.mapFields (·.setIfInBounds 1 (.int ((i:Int)+1) 0))) e rfl
  rw[it_set1]at this;exact this
 cases hf with
 | text hb ho =>
  dsimp only
  refine wpAny_bind ?_
  unfold setNext
  refine wpAny_bind (wpAny_setState_of hS rfl ok.tab.fits ?_)
  refine bx ?_
  rw[hb]
  simp only[if_true,Int.toNat_natCast]
  rw[if_neg (by simp)]
  unfold setWalk
  refine wpAny_bind (wpAny_bind (wpAny_setState_of hS rfl ok.tab.fits ?_))
  refine bx ?_
  rw[hb]
  simp only[if_true]
  refine wpAny_bind (wpAny_askSetting (wpAny_pure ?_))
  rw[ho,zao,zaq]at hv
  cases hx:(pickOrder (w.params.setOrder S ep) es)[i]? with
  | none=>rw[hx]at hv;cases hv
  | some e =>
   rw[hx]at hv
   cases hv
   refine wpAny_pure ?_
   generalize hg:(pickOrder _ es)[i]?=g
   have:g=some e:=hg.symm.trans hx
   subst this
   dsimp only[Option.map]
   refine wpAny_bind (wpAny_setField hI rfl (by simp) (wpAny_bind (wpAny_setField (upd2 _) rfl (by simp) (wpAny_pure ⟨_,rfl,wpAny_pure ?_⟩))))
   exact q _ _ (upd3 _ _ (upd2 _)) (.text hb ho) ((Heap.SameBut.update _ _ _).trans (Heap.SameBut.update _ _ _))
 | @drawn T o nn pl hb hd hT' hs hp ho =>
  dsimp only
  refine wpAny_bind (wpAny_seqItems hT' hs ?_)
  dsimp only
  rw[ho,zao]at hv
  cases hx:pl[i]? with
  | none=>rw[hx]at hv;cases hv
  | some k =>
   rw[hx]at hv
   have hk:k<es.size:=zch.mp (hp.mem_iff.mp (zak hx))
   have hev:v=es[k].2:=by
    have:=(Option.some.inj hv).symm
    rw[this]
    show((es[k]?).map (·.2)).getD .none=_
    rw[zaf hk];rfl
   subst hev
   have e1:(pl.map fun(k:Nat)=>Value.int (k:Int) 0).toArray[((i:Int)).toNat]?=some (.int (k:Int) 0):=by
    rw[List.getElem?_toArray,zao,Int.toNat_natCast,hx];rfl
   rw[e1]
   dsimp only
   refine wpAny_bind ?_
   unfold setNextDrawn
   refine wpAny_bind (wpAny_setState_of hS rfl ok.tab.fits ?_)
   dsimp only
   rw[if_neg (by simp)]
   rw[Int.toNat_natCast,zaf hk]
   dsimp only
   refine wpAny_pure (wpAny_bind (wpAny_setField hI rfl (by simp) (wpAny_pure ⟨_,rfl,wpAny_pure ?_⟩)))
   refine q _ _ (upd3 _ _ hI) ?_ (Heap.SameBut.update _ _ _)
   refine ItF.keep (h:=s.heap) (.drawn hb hd hT' hs hp ho) fun b hb' o' e=>?_
   rw[Heap.get?_update_other _ _ (fun z=>hfp b hb' z.symm)];exact e
 | @slots sl hb hd hs ho =>
  dsimp only
  refine wpAny_bind ?_
  unfold setNext
  refine wpAny_bind (wpAny_setState_of hS rfl ok.tab.fits ?_)
  refine bx ?_
  rw[hb]
  simp only[zab,if_false,Int.toNat_natCast]
  have hlt:i<es.size:=by
   rw[ho]at hv
   obtain⟨h1,_⟩:=za3.mp hv
   simpa using h1
  have hpl:i<t.place.size:=by rw[ok.size];exact hlt
  have hev:v=es[i].2:=by
   rw[ho,zao,zaq,zaf hlt]at hv
   exact(Option.some.inj hv).symm
  subst hev
  split
  ·rename_i hc
   exact absurd (show(!t.plain&&decide (es.size>1))=true from hc) (by rw[hd];simp)
  ·have hl:t.led=true:=by rw[hled,hb];rfl
   refine wpAny_bind (m:=(if (!t.led&&!es.isEmpty)=true then unsupported "set:maker-not-led" else pure ())) ?_
   rw[hl]
   simp only[zcb,Bool.false_and,zab,if_false]
   refine wpAny_pure ?_
   rw[hs,zaf hlt,zaf hpl]
   dsimp only
   refine wpAny_pure ?_
   dsimp only
   refine wpAny_bind (wpAny_setField hI rfl (by simp) (wpAny_bind (wpAny_setField (upd2 _) rfl (by simp) (wpAny_pure ⟨_,rfl,wpAny_pure ?_⟩))))
   refine q _ _ (upd3 _ _ (upd2 _)) (.slots (sl:=t.place[i]+1) hb hd ?_ ho) ((Heap.SameBut.update _ _ _).trans (Heap.SameBut.update _ _ _))
   obtain⟨b1,b2,b3⟩:=gq ok.rises (t.place[i]+1)
   rcases Nat.lt_trichotomy (SetTable.below t.place (t.place[i]+1)) (i+1) with z | z | z
   ·have:=b3 i (by omega) _ (zaf hpl)
    omega
   ·exact z
   ·have hb1:i+1<t.place.size:=by omega
    have h1:=b2 (i+1) z _ (zaf hb1)
    have h2:=zb4.mp ok.rises i (i+1) (by simpa using hpl) (by simpa using hb1) (zbe i)
    simp only[Array.getElem_toList]at h2
    omega
end
section
variable{prog:Program}{w:World}{A:Around}{E:Value→Shared→Prop}{s:Shared}
theorem stop_any{α:Type}(hh:A.handled=none){Q:α→Shared→Prop}(q:∀ h' v,(∀ b o,s.heap.get? b=some o→h'.get? b=some o)→Shared.TypeIs { s with heap:=h' } v "StopIteration"→E v { s with heap:=h' }) :
  wpAny (model prog w) A (newExc (.type "StopIteration") []>>=fun e=>(raiseNew e:Sem α)) Q E s:=by
 refine wpAny_bind ?_
 simp only[newExc,newTuple]
 refine wpAny_bind (wpAny_newObj_type ?_ (by size_fits))
 refine wpAny_bind (m:=firstArgMember _ _) (wpAny_of_eq (a:=Value.none) (by first | rfl | (simp only[firstArgMember];rfl)) (wpAny_newObj_type ?_ (by size_fits)))
 simp only[raiseNew]
 refine wpAny_bind (wpAny_handled (by
  rw[hh]
  refine wpAny_bind (wpAny_pure (wpAny_throw (q _ _ (fun b o e=>Heap.get?_push_of_some _ (Heap.get?_push_of_some _ e)) ?_)))
  exact⟨_,Heap.get?_push_size _ rfl,rfl⟩))
variable{I S:Addr}{es:Array (Int×Value)}{ep:Nat}{t:SetTable}{ord:List Value}{i:Nat}{first:Value}{fp:List Addr}
set_option maxHeartbeats 1000000 in
theorem next_end(hh:A.handled=none)(ok:ba t es)(hled:t.led=!b8 w)(hS:s.heap.get? S=some (b5 es ep t))(hI:s.heap.get? I=some (g6 first i es.size S ep))(hf:ItF w s.heap S es ep t ord i first fp)
  (hv:ord[i]?=none) {Q:Option Value→Shared→Prop} (q:∀ h',(∀ b o,b≠I→s.heap.get? b=some o→h'.get? b=some o)→Q none { s with heap:=h' }) :
  wpAny (model prog w) A (pyNext (.ref I)) Q E s:=by
 have hT:s.TypeIs (.ref I) "set_iterator":=⟨_,hI,rfl⟩
 unfold pyNext
 refine wpAny_bind (wpAny_attempt (wpAny_callSpecial?_slot (name:=Str.ofString "__next__") hT jj (wpAny_call_entry jj hT entrySI ?_ (argsSI _))))
 show wpAny _ _ (fieldsOf (.ref I)>>=_) _ _ s
 refine wpAny_bind (wpAny_fieldsOf hI rfl ?_)
 dsimp only
 refine wpAny_bind (wpAny_setEntries_of hS rfl ok.tab.fits ?_)
 rw[if_neg (by simp)]
 have hh1:A.in1.handled=none:=hh
 have fin:∀ (h1:Heap),(∀ b o,b≠I→s.heap.get? b=some o→h1.get? b=some o)→∀ (h':Heap) (v:Value),(∀ b o,h1.get? b=some o→h'.get? b=some o)→Shared.TypeIs { s with heap:=h' } v "StopIteration" →
   wpAny (model prog w) A (match (Except.error v:Except Value (Option Value)) with
    | .ok (some v)=>pure (some v)
    | .ok none=>unsupported "iter:the-iterator's-class-has-lost-its-__next__-amid-the-walk"
    | .error e=>do if ← isInstance e (.type "StopIteration") then pure none else throw e) Q E { s with heap:=h' }:=fun h1 k1 h' v k2 ht=>by
  dsimp only
  refine wpAny_bind (wpAny_isInstance (T:="StopIteration") (b:=true) ht isSubtype_stop ?_)
  exact wpAny_pure (q h' fun b o hb e=>k2 b o (k1 b o hb e))
 have up:∀ (h:Heap) (f:Obj→Obj) (b:Addr) (o:Obj),b≠I→h.get? b=some o→(h.update I f).get? b=some o:=fun h f b o hb e=>by
  rw[Heap.get?_update_other _ _ (fun z=>hb z.symm)];exact e
 cases hf with
 | text hb ho =>
  dsimp only
  refine wpAny_bind ?_
  unfold setNext
  refine wpAny_bind (wpAny_setState_of hS rfl ok.tab.fits ?_)
  refine bx ?_
  rw[hb]
  simp only[if_true,Int.toNat_natCast]
  rw[if_neg (by simp)]
  unfold setWalk
  refine wpAny_bind (wpAny_bind (wpAny_setState_of hS rfl ok.tab.fits ?_))
  refine bx ?_
  rw[hb]
  simp only[if_true]
  refine wpAny_bind (wpAny_askSetting (wpAny_pure ?_))
  rw[ho,zao,zaq]at hv
  have hx:(pickOrder (w.params.setOrder S ep) es)[i]?=none:=by simpa using hv
  refine wpAny_pure ?_
  generalize hg:(pickOrder _ es)[i]?=g
  have:g=none:=hg.symm.trans hx
  subst this
  dsimp only[Option.map]
  refine wpAny_bind (wpAny_setField hI rfl (by simp) ?_)
  exact stop_any hh1 (fin _ (up _ _))
 | @drawn T o nn pl hb hd hT' hs hp ho =>
  dsimp only
  refine wpAny_bind (wpAny_seqItems hT' hs ?_)
  dsimp only
  rw[ho,zao]at hv
  have hx:pl[i]?=none:=by simpa using hv
  have e1:(pl.map fun(k:Nat)=>Value.int (k:Int) 0).toArray[((i:Int)).toNat]?=none:=by
   rw[List.getElem?_toArray,zao,Int.toNat_natCast,hx];rfl
  rw[e1]
  dsimp only
  have upd2:((s.heap.update I (Obj.mapFields (·.setIfInBounds 0 (.int 0 0)))).get? I)=some (g6 (.int 0 0) i es.size S ep):=by
   have:=Heap.get?_update_self (Obj.mapFields (·.setIfInBounds 0 (.int 0 0))) hI rfl
   rw[it_set0]at this;exact this
  refine wpAny_bind (wpAny_setField hI rfl (by simp) (wpAny_bind (wpAny_setField upd2 rfl (by simp) ?_)))
  exact stop_any hh1 (fin _ fun b o hb e=>up _ _ b o hb (up _ _ b o hb e))
 | @slots sl hb hd hs ho =>
  dsimp only
  refine wpAny_bind ?_
  unfold setNext
  refine wpAny_bind (wpAny_setState_of hS rfl ok.tab.fits ?_)
  refine bx ?_
  rw[hb]
  simp only[zab,if_false,Int.toNat_natCast]
  have hge:es[i]?=none:=by
   rw[ho,zao,zaq]at hv
   simpa using hv
  split
  ·rename_i hc
   exact absurd (show(!t.plain&&decide (es.size>1))=true from hc) (by rw[hd];simp)
  ·have hl:t.led=true:=by rw[hled,hb];rfl
   refine wpAny_bind (m:=(if (!t.led&&!es.isEmpty)=true then unsupported "set:maker-not-led" else pure ())) ?_
   rw[hl]
   simp only[zcb,Bool.false_and,zab,if_false]
   refine wpAny_pure ?_
   rw[hs,hge]
   dsimp only
   refine wpAny_pure ?_
   dsimp only
   refine wpAny_bind (wpAny_setField hI rfl (by simp) ?_)
   exact stop_any hh1 (fin _ (up _ _))
end
theorem slotSII:Slot "set_iterator" "__iter__" "set_iterator.__iter__" :=
 .of (owner:="set_iterator") (n:="__iter__") (by rw[typeLookup_type,builtinLookup_eq_fast];kernel_rfl) (by decide +kernel) (by decide +kernel) (by decide +kernel) (by first | exact .inl (by decide +kernel) | exact .inr (by decide +kernel)) (by rw[isSubtype_type];kernel_rfl)
theorem entrySII:entryFor table "set_iterator.__iter__"=some Builtin.«dict_keyiterator.__iter__»:=entryFor_alias (id':="dict_keyiterator.__iter__") (by kernel_rfl) rfl (by decide +kernel) (by kernel_rfl)
theorem argsSII(a:Value):argsOk "set_iterator.__iter__" ⟨[a],[]⟩:=by
 unfold argsOk;rw[signature?_of (id:="set_iterator.__iter__") (n:=['_','_','r','e','t','i','_','_']) (o:=['r','o','t','a','r','e','t','i','_','t','e','s']) (by kernel_rfl) ownSI];kernel_rfl
section
variable{prog:Program}{w:World}{A:Around}{E:Value→Shared→Prop}{s:Shared}{S:Addr}{es:Array (Int×Value)}{ep:Nat}{t:SetTable}
theorem hint_set{Q:Bool→Shared→Prop}(hT:s.TypeIs (.ref S) "set")(h:Q false s):wpAny (model prog w) A (Builtin.List.listLengthHint (.ref S)) Q E s:=by
 unfold Builtin.List.listLengthHint
 refine wpAny_bind (wpAny_specialOf hT PySem.F.slot_set_len.lookup ?_)
 generalize hid:("set.__len__":String)=id0
 wp_delta
 rw[show splitId id0=some ("set","__len__") from by subst hid;decide +kernel]
 subst hid
 refine wpAny_bind (wpAny_isInstance (T:="set") (b:=true) hT sub_set_self (wpAny_ite_split (fun hab=>absurd hab (by decide)) (fun _=>?_)))
 exact wpAny_ite_split (fun _=>wpAny_bind (wpAny_typeOf hT (wpAny_pure h))) (fun hab=>absurd (by decide +kernel) hab)
theorem walks_set(hh:A.handled=none)(ok:ba t es)(hled:t.led=!b8 w)(ord:List Value)(hord:ord.length=es.size)(I:Addr)(fp:List Addr)(hne:S≠I)(hfp:∀ b∈fp,b≠I) :
  Walks prog w A I (I::S::fp) [I] es.size (fun i v=>ord[i]?=some v) (fun i h=>h.get? S=some (b5 es ep t)∧∃ first,h.get? I=some (g6 first i es.size S ep)∧ItF w h S es ep t ord i first fp) where
 sub:=fun b hb=>by simp at hb;simp[hb]
 frame:=fun i h h' st hk=>by
  obtain⟨a,first,b,c⟩:=st
  exact⟨hk S (by simp) _ a,first,hk I (by simp) _ b,c.keep fun b hb o e=>hk b (by simp[hb]) o e⟩
 item:=fun i s Q E hi st hQ=>by
  obtain⟨a,first,b,c⟩:=st
  have hl:i<ord.length:=by omega
  refine next_item ok hled a b c hne hfp (za2 hl) fun first' h' e1 e2 e3=>?_
  exact hQ _ h' s.toks (za2 hl) ⟨by rw[e3.2 S hne];exact a,first',e1,e2⟩ fun b o hb e=>by
   rw[e3.2 b (fun z=>hb (by simp[z]))];exact e
 done:=fun s Q E st hQ=>by
  obtain⟨a,first,b,c⟩:=st
  exact next_end hh ok hled a b c (zbg (by omega)) fun h' k=>hQ h' s.toks fun b o hb e=>k b o (fun z=>hb (by simp[z])) e
 self:=fun i s Q E st hQ=>by
  obtain⟨a,first,b,c⟩:=st
  have hT:s.TypeIs (.ref I) "set_iterator":=⟨_,b,rfl⟩
  refine wpAny_pyIter_slot hT slotSII (wpAny_call_entry slotSII hT entrySII (show wpAny _ _ (ret (.ref I)) _ _ s from ?_) (argsSII _))
  exact wpAny_pure ⟨_,rfl,"set_iterator",_,hT,jj.lookup,hQ⟩
theorem iter_set(ok:ba t es)(hS:s.heap.get? S=some (b5 es ep t))(h3:es.size≤400){Q:Value→Shared→Prop}
  (q:∀ (h':Heap) d I fp first ord,(∀ b o,s.heap.get? b=some o→h'.get? b=some o)→s.heap.objs.size≤I→I<h'.objs.size→(∀ b∈fp,s.heap.objs.size≤b∧b≠I∧b<h'.objs.size)→h'.get? I=some (g6 first 0 es.size S ep)→ItF w h' S es ep t ord 0 first fp→ord.Perm (es.toList.map (·.2)) →
   Q (.ref I) { s with heap:=h',drawn:=d }) :
  wpAny (model prog w) A (pyIter (.ref S)) Q E s:=by
 have hT:s.TypeIs (.ref S) "set":=⟨_,hS,rfl⟩
 refine wpAny_pyIter_slot hT PySem.F.slot_set_iter (wpAny_call_entry PySem.F.slot_set_iter hT entrySIter ?_ (PySem.F.args_set_iter_1 _))
 unfold Builtin.«frozenset.__iter__»
 show wpAny _ _ (Builtin.Frozenset.sizeOf S>>=_) _ _ s
 unfold Builtin.Frozenset.sizeOf
 refine wpAny_bind (wpAny_bind (wpAny_setEntries_of hS rfl ok.tab.fits (wpAny_pure ?_)))
 unfold setDrawn
 refine wpAny_bind (wpAny_bind (wpAny_setState_of hS rfl ok.tab.fits ?_))
 refine bx ?_
 dsimp only
 refine wpAny_pure ?_
 have tail:∀ (first:Value) (h1:Heap) (d:Drawn) (fp:List Addr) (ord:List Value),(∀ b o,s.heap.get? b=some o→h1.get? b=some o)→(∀ b∈fp,s.heap.objs.size≤b∧b<h1.objs.size)→s.heap.objs.size≤h1.objs.size →
   (∀ h':Heap,(∀ b o,h1.get? b=some o→h'.get? b=some o)→ItF w h' S es ep t ord 0 first fp)→ord.Perm (es.toList.map (·.2)) →
   wpAny (model prog w) A.in1 (do
    let e ← setEpoch S
    let r ← newFields "set_iterator" [first,rawInt 0,.ref S,rawInt es.size,rawInt e]
    ret r) (fun fin s'=>∃ r,fin=.done (.ret r)∧∃ T' r',s'.TypeIs r T'∧typeLookup (.type T') "__next__"=pure (some r')∧Q r s') E { s with heap:=h1,drawn:=d }:=fun first h1 d fp ord k1 k2 k3 k4 k5=>by
  refine wpAny_bind (wpAny_setEpoch_of (s:={ s with heap:=h1,drawn:=d }) (k1 _ _ hS) rfl ok.tab.fits ?_)
  refine wpAny_bind (wpAny_newObj_type ?_)
  refine wpAny_pure ⟨_,rfl,"set_iterator",_,⟨_,Heap.get?_push_size _ rfl,rfl⟩,jj.lookup,?_⟩
  refine q _ d h1.objs.size fp first ord (fun b o e=>Heap.get?_push_of_some _ (k1 b o e)) k3 (by rw[Heap.size_push];exact zbe _) (fun b hb=>⟨(k2 b hb).1,zap (k2 b hb).2,by rw[Heap.size_push];exact zbt (k2 b hb).2⟩) (Heap.get?_push_size _ rfl) (k4 _ fun b o e=>Heap.get?_push_of_some _ e) k5
 cases hb:b8 w with
 | true =>
  simp only[zcb,Bool.false_and,zab,if_false]
  refine wpAny_bind (wpAny_pure ?_)
  exact tail _ s.heap s.drawn [] _ (fun b o e=>e) (fun b hb=>nomatch hb) (za4 _) (fun h' k=>.text hb rfl) ((pick_perm _ _).map _)
 | false =>
  split
  ·rename_i hc
   have hd:(!t.plain&&decide (es.size>1))=true:=hc
   refine wpAny_bind (fo es.size (List.range es.size) s (by simp) fun pl d hp=>?_)
   unfold newTuple
   refine wpAny_bind (wpAny_newObj_type ?_ ?_)
   ·refine tail _ _ d [s.heap.objs.size] _ (fun b o e=>Heap.get?_push_of_some _ e) (fun b hb=>by simp at hb;rw[hb,Heap.size_push];exact⟨za4 _,zbe _⟩) (by rw[Heap.size_push];exact Nat.le_succ _)
     (fun h' k=>.drawn hb hd (k _ _ (Heap.get?_push_size _ rfl)) rfl hp rfl) ?_
    refine(hp.map _).trans ?_
    have:(List.range es.size).map (fun k=>((es[k]?).map (·.2)).getD .none)=es.toList.map (·.2):=by
     refine List.ext_getElem (by simp) fun n h1 h2=>?_
     have hn:n<es.size:=by simpa using h1
     simp[hn]
    rw[this]
   ·have:(pl.map fun(i:Nat)=>rawInt (i:Int)).toArray.size≤sizeLine:=by
     rw[zag,za0,hp.length_eq,List.length_range];exact jO (by omega)
    exact this
  ·rename_i hc
   have hd:(!t.plain&&decide (es.size>1))=false:=by
    cases hx:(!t.plain&&decide (es.size>1)) with
    | false=>rfl
    | true=>exact absurd (show _=true from hx) hc
   refine wpAny_bind (wpAny_pure ?_)
   refine tail _ s.heap s.drawn [] _ (fun b o e=>e) (fun b hb=>nomatch hb) (za4 _) (fun h' k=>.slots (sl:=0) hb hd ?_ rfl) (.refl _)
   obtain⟨b1,b2,b3⟩:=gq ok.rises 0
   rcases Nat.eq_zero_or_pos (SetTable.below t.place 0) with z | z
   ·exact z
   ·have:0<t.place.size:=by omega
    exact absurd (b2 0 z _ (zaf this)) (Nat.not_lt_zero _)
end
section
variable{prog:Program}{w:World}{A:Around}{E:Value→Shared→Prop}{s:Shared}{S:Addr}{es:Array (Int×Value)}{ep:Nat}{t:SetTable}
set_option maxHeartbeats 1000000 in
theorem collect_set(hh:A.handled=none)(ok:ba t es)(hled:t.led=!b8 w)(hS:s.heap.get? S=some (b5 es ep t))(h3:es.size≤400){Q:List Value→Shared→Prop}
  (q:∀ (h':Heap) d tk its,(∀ b o,s.heap.get? b=some o→h'.get? b=some o)→its.Perm (es.toList.map (·.2))→Q its { s with heap:=h',drawn:=d,toks:=tk }) :
  wpAny (model prog w) A (collect (.ref S)) Q E s:=by
 unfold collect
 refine wpAny_bind (wpAny_runValue (codeAny_builtin PySem.F.entry_proto_collect ?_))
 rw[Around.under_plainId PySem.F.plain_proto_collect _]
 have hlt:=Heap.lt_size hS
 have g0:(s.heap.push (seqObj "list" #[] 0)).get? s.heap.objs.size=some (seqObj "list" #[] 0):=Heap.get?_push_size _ rfl
 have g1:(s.heap.push (seqObj "list" #[] 0)).get? S=some (b5 es ep t):=Heap.get?_push_of_some _ hS
 show wpAny _ A.in1 (newList []>>=fun b=>again (.builtin "list.__iadd__" ⟨[b,.ref S],[]⟩)) _ _ s
 refine wpAny_bind (wpAny_newList (wpAny_pure ⟨plainId_quiet PySem.F.plain_list_iadd _,codeAny_builtin PySem.F.entry_list_iadd ?_⟩))
 rw[Around.under_plainId PySem.F.plain_list_iadd _]
 show wpAny _ A.in1 (Builtin.List.listExtendWith (.ref s.heap.objs.size) (.ref S) (.ref s.heap.objs.size)) _ _ { s with heap:=s.heap.push (seqObj "list" #[] 0) }
 unfold Builtin.List.listExtendWith
 refine wpAny_bind (wpAny_typeOf (T:="set") ⟨_,g1,rfl⟩ ?_)
 have b1:Builtin.List.listSameRef (.ref s.heap.objs.size) (.ref S)=false:=by
  show(s.heap.objs.size==S)=false
  exact beq_eq_false_iff_ne.mpr (Ne.symm (zap hlt))
 have b2:(Value.type "set"==Value.type "list")=false:=by decide
 have b3:(Value.type "set"==Value.type "tuple")=false:=by decide
 simp only[b1,b2,b3,Bool.or_false,zab,if_false]
 refine wpAny_bind (iter_set ok g1 h3 fun h1 d I fp first ord k1 k2 k3 k4 k5 k6 k7=>?_)
 have hlen:ord.length=es.size:=by rw[k7.length_eq,za0,za8]
 have gS:h1.get? S=some (b5 es ep t):=k1 _ _ g1
 have gL:h1.get? s.heap.objs.size=some (seqObj "list" #[] 0):=k1 _ _ g0
 have nLI:s.heap.objs.size≠I:=zap (zax (by rw[Heap.size_push];exact zbe _) k2)
 have nSI:S≠I:=zap (zax (by rw[Heap.size_push];exact zbt hlt) k2)
 have W:=(walks_set (A:=A.in1) (ep:=ep) (S:=S) (prog:=prog) (by simp[hh]) ok hled ord hlen I fp nSI fun b hb=>(k4 b hb).2.1).toS
 have hLf:s.heap.objs.size∉I::S::fp:=by
  simp only[zaa,not_or]
  refine⟨nLI,Ne.symm (zap hlt),fun hb=>?_⟩
  have:=(k4 _ hb).1
  rw[Heap.size_push]at this
  exact absurd this (Nat.not_le.mpr (zbe _))
 refine wpAny_bind (wpAny_holding (hint_set ⟨_,gS,rfl⟩ ?_))
 refine wpAny_ite_split (fun _=>?_) (fun hab=>absurd (by decide +kernel) hab)
 refine wpAny_bind (wpAny_rule (wpAny_bind ?_))
 show wpAny _ A.in1 (updateSeq s.heap.objs.size (·.push .none)>>=fun _=>updateSeq s.heap.objs.size (·.pop)) _ _ _
 refine wpAny_bind (wpAny_updateSeq gL rfl ?_)
 have gL2:=Heap.get?_update_self (Obj.mapSeq (·.push Value.none)) gL rfl
 refine wpAny_updateSeq (hz:=by seq_fits) gL2 rfl ?_
 have gL3:=Heap.get?_update_self (Obj.mapSeq (·.pop)) gL2 rfl
 have oth:∀ b o,b≠s.heap.objs.size→h1.get? b=some o→((h1.update s.heap.objs.size (Obj.mapSeq (·.push Value.none))).update s.heap.objs.size (Obj.mapSeq (·.pop))).get? b=some o :=
  fun b o hb e=>(Heap.get?_update_other _ _ (Ne.symm hb)).trans ((Heap.get?_update_other _ _ (Ne.symm hb)).trans e)
 refine wpAny_pure ⟨plainId_quiet PySem.F.plain_extend_loop _,codeAny_extend_loopS W (jO (by omega)) _ hLf _ es.size 0 _ #[] _ rfl (zba _) ?_ gL3 (ItemsOf.nil _) fun z acc c hm gz hacc=>?_⟩
 ·exact⟨oth _ _ (zap hlt) gS,first,oth _ _ (Ne.symm nLI) k5,k6.keep fun b hb o e=>oth b o (fun zz=>hLf (by simp[← zz,hb])) e⟩
 ·show wpAny _ A (load s.heap.objs.size>>=_) _ _ z
  refine wpAny_bind (wpAny_load gz (wpAny_pure ?_))
  obtain⟨hz,gz',dz,tz,oz⟩:=z
  have e1:gz'=s.gens:=hm.gens
  have e2:dz=d:=hm.drawn
  have e3:oz=s.os:=hm.os
  subst e1;subst e2;subst e3
  refine q hz dz tz acc.toList (fun b o e=>?_) ?_
  ·have hb:b≠s.heap.objs.size:=zap (Heap.lt_size e)
   refine hm.heap b o (fun hmem=>?_) (oth b o hb (k1 b o (Heap.get?_push_of_some _ e)))
   rcases zaa.mp hmem with z1 | z1
   ·exact hb z1
   ·have:b=I:=by simpa using z1
    rw[this]at e
    have k2':s.heap.objs.size+1≤I:=by have:=k2;rwa [Heap.size_push]at this
    exact absurd (zax (Heap.lt_size e) (zb1 (Nat.le_succ _) k2')) (zbv _)
  ·have:acc.toList=ord:=by
    refine List.ext_getElem? fun j=>?_
    cases hj:acc.toList[j]? with
    | none =>
     have:acc.toList.length≤j:=List.getElem?_eq_none_iff.mp hj
     rw[za8,hacc.1]at this
     exact(zbg (by omega)).symm
    | some v=>exact(hacc.2 j v (by rw[← zaq];exact hj)).symm
   rw[this]
   exact k7
end
theorem Inv.drw{X:Cx}{pins:List (Addr×Obj)}{σ:L2.St}{H:Hp}{s:Shared}(I:Inv X pins σ H s)(d:Drawn):Inv X pins σ H { s with drawn:=d } :=
 ⟨I.ok,I.os,I.bare,I.base,I.loc,I.cell,I.free,I.freeC,I.pin,I.hok,I.len⟩
theorem mid_old1{h:Heap}{vs:List Value}{c:Addr}{o:Obj}(e:h.get? c=some o):(cr (h.push (seqObj "list" vs.toArray 0)) h.objs.size vs).get? c=some o:=by
 have hc:=Heap.lt_size e
 refine Heap.get?_push_of_some _ (Heap.get?_push_of_some _ ?_)
 rw[Heap.get?_update_other _ _ (Ne.symm (zap hc))]
 exact Heap.get?_push_of_some _ e
section
variable{X:Cx}
theorem sort_tail{pins:List (Addr×Obj)}{σ:L2.St}{H:Hp}{s:Shared}(I:Inv X pins σ H s){A:Around}{E:Value→Shared→Prop}{its:List Value}{ys:List V}{ds:List Dt}{T:String}(rv:Vals ys its)(hlen:its.length≤sizeLine)(hD:ac H ys ds)
  (hT:∀ d∈ds,∃ e r,d=.tup (e::r)∧e.tag=T) (hL:∀ d∈ds,∀ d'∈ds,Dt.like d d'=true) (hu:∀ d∈ds,A.units+4+d.dp<cLine) {R:Fin→Shared→Prop}
  (q:∀ l zs es h',zs.Perm ys→ac H zs es→es.Perm ds→es.Pairwise (fun d d'=>Dt.blt d' d=false)→H l=none→Inv X pins σ (upd H l (.lst zs)) { s with heap:=h' }→R (.done (.ret (.ref l))) { s with heap:=h' }) :
  wpAny (model X.prog X.w) A (do
   let l ← newList its
   let _ ← holding [l] (call (.builtin "list.sort") [l] [])
   ret l) R E s:=by
 have I6:Inv X pins σ H { s with heap:=cr (s.heap.push (seqObj "list" its.toArray 0)) s.heap.objs.size its }:=I.kept (t':=s.toks) fun b o e=>mid_old1 e
 refine wpAny_bind (wpAny_newList ?_)
 have hb:(s.heap.push (seqObj "list" its.toArray 0)).get? s.heap.objs.size=some (seqObj "list" its.toArray 0):=Heap.get?_push_size _ rfl
 have o:Σ' o:Ord (model X.prog X.w) A.in1 E { s with heap:=cr (s.heap.push (seqObj "list" its.toArray 0)) s.heap.objs.size its } (gT (Value.type T !=Value.type "tuple")),o.all (pairsOf its)∧∀ x y,o.le x y→Dt.blt (datKey H y) (datKey H x)=false:=by
  refine⟨ordT I6 X.prog X.w A.in1 E _ (fun d=>d∈ds) fun d d' hd hd'=>?_,fun i x ex=>?_,fun x y hxy=>hxy⟩
  ·obtain⟨e,l,rfl,et⟩:=hT d hd
   obtain⟨e',l',rfl,et'⟩:=hT d' hd'
   refine⟨_,_,rfl,rfl,by simpa only[Dt.like] using hL _ hd _ hd',?_,fun hf b hb=>?_⟩
   ·have:=hu _ hd
    simp only[Dt.dp]at this
    show A.units+1+_<_
    omega
   ·have:e=b:=by simpa using hb
    subst this
    cases e with
    | int _=>rfl
    | str _=>rfl
    | tup m=>rw[← et]at hf;simp[Dt.tag]at hf
  ·have hx:(pairsOf its).toList[i]?=some x:=by simpa using ex
   rw[pairsOf_toList]at hx
   obtain⟨d,e1,e2⟩:=iD hD rv i x.1 (by
    rw[zbq]at hx
    exact hx.1)
   exact⟨d,e2,zak e1⟩
 obtain⟨o,ga,hle⟩:=o
 refine wpAny_bind (wpAny_holding (wpAny_call_entry slot_list_sort ⟨_,hb,rfl⟩ entry_list_sort (ia (s:={ s with heap:=s.heap.push (seqObj "list" its.toArray 0) }) (kd:=gT (Value.type T !=Value.type "tuple")) hb hlen (fun h2 Q q'=>?_) o ga fun ks kp ku=>⟨_,rfl,?_⟩) (args_list_sort _)))
 ·obtain⟨fs,k,lf,hf⟩:=katT I6 hD rv hT
  refine PySem.W.kat_kind (T:=.type T) k (by omega) (fun v hv=>?_) (by simp) q'
  obtain⟨e,he,et⟩:=hf v hv
  exact et▸looks_D I6 he
 ·refine wpAny_pure ?_
  have kl:ks.toList.Perm (its.zip its):=by rw[← pairsOf_toList];exact Array.perm_iff_toList_perm.mp kp
  have k2:((ks.map (·.2)).toList).Perm its:=by
   rw[Array.toList_map]
   have:=kl.map (·.2)
   rwa [List.map_snd_zip (by omega)]at this
  have k12:∀ x∈ks.toList,x.1=x.2:=fun x hx=>by
   have:=kl.mem_iff.mp hx
   obtain⟨i,e⟩:=zaw.mp this
   rw[zbq]at e
   exact Option.some.inj (e.1.symm.trans e.2)
  obtain⟨zs,vz,pz⟩:=vals_perm k2.symm rv
  obtain⟨es,de,pe⟩:=dts_perm pz hD
  refine q s.heap.objs.size zs es _ pz.symm de pe.symm ?_ (I.hok.fresh (za4 _)) (I.laid (t':=s.toks) (fun b o e=>?_) (za4 _) ?_)
  ·have ku':=ku.imp fun {x y} z=>hle x y z
   rw[zb4]at ku' ⊢
   intro i j hi hj hij
   have lks:ks.toList.length=es.length:=by
    rw[kl.length_eq,List.length_zip,← de.length,← pz.length_eq,rv.length,Nat.min_self]
   have z:=ku' i j (by omega) (by omega) hij
   have key:∀ (i:Nat) (h1:i<ks.toList.length) (h2:i<es.length),datKey H ks.toList[i]=es[i]:=fun i h1 h2=>by
    have e0:((ks.map (·.2)).toList)[i]?=some ks.toList[i].2:=by
     rw[Array.toList_map,zao,za2 h1];rfl
    obtain⟨d,e1,e2⟩:=iD de vz i _ e0
    rw[za2 h2]at e1
    cases e1
    refine i4 ?_
    rw[k12 _ (zc8 h1)]
    exact e2
   rw[key i (by omega) hi,key j (by omega) hj]at z
   exact z
  ·have hlt:=Heap.lt_size e
   rw[sortedHeap_old (zap hlt) (by rw[Heap.size_push];exact zbt hlt)]
   exact Heap.get?_push_of_some _ e
  ·obtain⟨n,e⟩:=sortedHeap_at (out:=ks.map (·.2)) hb
   refine⟨by rw[← pz.length_eq,rv.length];exact hlen,(ks.map (·.2)).toList,n,vz,?_⟩
   rw[e]
theorem pick_dts{H:Hp}{us:List Value}{ys:List V}{ds:List Dt}(hD:ac H ys ds)(rv:Vals ys us):∀ its:List Value,(∀ u∈its,u∈us)→∃ zs es,Vals zs its∧ac H zs es
 | [],_=>⟨[],[],.nil,.nil⟩
 | u::its,h=>by
  obtain⟨zs,es,a,b⟩:=pick_dts hD rv its fun x hx=>h x (zac _ hx)
  obtain⟨i,ei⟩:=zaw.mp (h u zad)
  obtain⟨d,_,v,r,q⟩:=iD hD rv i u ei
  exact⟨v::zs,d::es,.cons r a,.cons q b⟩
end
theorem dps_le:∀ {ds:List Dt} {n:Nat},(∀ d∈ds,d.dp≤n)→Dt.dps ds≤n
 | [],n,_=>by simp[Dt.dps]
 | d::ds,n,h=>by
  simp only[Dt.dps]
  have:=h d zad
  have:=dps_le (ds:=ds) fun x hx=>h x (zac _ hx)
  omega
section
variable{X:Cx}
theorem op_neL{k:Nat}(hr:Room k X.A):OpR X (compareOp .NotEq) (fun x y H Q=>∃ a b xs ys ds es,x=.ref a∧y=.ref b∧SqL X.K H a xs∧SqL X.K H b ys∧ac H xs ds∧ac H ys es∧(∀ d∈ds,d.dp≤50)∧Q (.bl (!Dt.beqs ds es)) H):=by
 intro pins s σ H x y v u Q I rx ry h
 obtain⟨a,b,xs,ys,ds,es,rfl,rfl,hx,hy,hd,he,h5,q⟩:=h
 have hu:=hr.units
 have h5':=dps_le h5
 cases rx
 cases ry
 obtain⟨its,rv,p,_⟩:=I.list hx
 obtain⟨its',rv',p',_⟩:=I.list hy
 have n1:its.toArray.size=ds.length:=by rw[zag,← rv.length,hd.length]
 have n2:its'.toArray.size=es.length:=by rw[zag,← rv'.length,he.length]
 have fin:∀ c,c=(!Dt.beqs ds es)→RcNeAt X.A s (.ref a) (.ref b) c→wpAny (model X.prog X.w) X.A (richCompare .NotEq (.ref a) (.ref b)) (EP X pins σ Q) X.xe s:=fun c hc R=>by
  subst hc
  exact R X.prog X.w X.xe _ ⟨.bl _,H,I,rfl,q⟩
 by_cases hl:ds.length=es.length
 ·have R:=RcNeAt.lists (A:=X.A) (s:=s) (e:=itEq ds es) p.isList p'.isList (by rw[n1,n2,hl]) (by omega) (fun j j1 j2=>eqsAt_D I X.A.in1 hd rv he rv' (by show X.A.units+1+_<_;omega) j _ _ (by simp) (by simp))
  refine fin _ ?_ R
  rw[n1,← eY,hl,Nat.min_self]
  simp
 ·refine fin true ?_ (RcNeAt.lists_lengths p.isList p'.isList (by rw[n1,n2];simpa using hl) (by omega))
  rw[← eY]
  simp[hl]
end
theorem Dt.beqs_self(l:List Dt):Dt.beqs l l=true:=(Dt.beqs_iff l l).mpr rfl
def hD(p:Int×Int):Dt:=.tup [.int p.1,.int p.2]
def hLt(p q:Int×Int):Bool:=HT.dw [p.1,p.2] [q.1,q.2]
theorem jX(p q:Int×Int):hLt p q=true↔p.1<q.1∨(p.1=q.1∧p.2<q.2):=by
 unfold hLt
 rw[lex2]
 simp
theorem hLt_same{p q:Int×Int}(h1:hLt p q=false)(h2:hLt q p=false):p=q:=by
 have a:¬ (p.1<q.1∨(p.1=q.1∧p.2<q.2)):=fun z=>by rw[(jX p q).mpr z]at h1;cases h1
 have b:¬ (q.1<p.1∨(q.1=p.1∧q.2<p.2)):=fun z=>by rw[(jX q p).mpr z]at h2;cases h2
 obtain⟨x,y⟩:=p
 obtain⟨z,w⟩:=q
 simp only at a b
 have e1:x=z:=by omega
 have e2:y=w:=by omega
 rw[e1,e2]
theorem rise_eq:∀ {l m:List Dt},l.Perm m→l.Pairwise (fun d d'=>Dt.blt d' d=false)→m.Pairwise (fun d d'=>Dt.blt d' d=false)→l=m
 | [],m,p,_,_=>(List.nil_perm.mp p).symm
 | a::l,[],p,_,_=>(List.perm_nil.mp p)
 | a::l,b::m,p,h1,h2=>by
  rw[List.pairwise_cons]at h1 h2
  have e:a=b:=by
   rcases zaa.mp (p.mem_iff.mp (zad (a:=a) (l:=l))) with z | z
   ·exact z
   ·rcases zaa.mp (p.mem_iff.mpr (zad (a:=b) (l:=m))) with y | y
    ·exact y.symm
    ·exact Dt.tot a b (h2.1 a z) (h1.1 b y)
  subst e
  rw[rise_eq ((List.perm_cons a).mp p) h1.2 h2.2]
mutual
theorem DtIs.updL{H:Hp}{a:Addr}{xs:List V}{o:HO}(ha:H a=some (.lst xs)):∀ {d:Dt} {v:V},DtIs H v d→DtIs (upd H a o) v d
 | .int i,_,.int _=>.int i
 | .str x,_,.str _=>.str x
 | .tup ds,_,.tup (a:=b) e q=>.tup (by
   have:b≠a:=fun z=>by rw[z,ha]at e;cases e
   rw[af this];exact e) (ac.updL ha q)
theorem ac.updL{H:Hp}{a:Addr}{xs:List V}{o:HO}(ha:H a=some (.lst xs)):∀ {ds:List Dt} {vs:List V},ac H vs ds→ac (upd H a o) vs ds
 | []=>by intro g;cases g;exact .nil
 | d::ds=>by
  intro g
  cases g with
  | cons q t=>exact .cons (DtIs.updL ha q) (ac.updL ha t)
end
end BF
namespace BF
open PySem PySem.Spec PyProof.Rows L2
theorem laterS{G:Prop}{A:L2.St→Hp→Prop}(C:L2.St→Hp→Prop)(main:(∀ σ H',C σ H'→A σ H')→G)(last:∀ σ H',C σ H'→A σ H'):G:=main last
theorem ifC{c:Bool}{A B:Prop}(a:c=true→A)(b:c=false→B):if c=true then A else B:=by
 cases c with
 | true=>exact a rfl
 | false=>exact b rfl
theorem am{H H2:Hp}{L:Addr}{o:HO}(s:Same H H2)(n:H L=none):Same H (upd H2 L o):=fun b u e=>by
 rw[af (fun z=>by rw[z,n]at e;cases e)]
 exact s b u e
theorem ac.snoc{H:Hp}{v:V}{d:Dt}(q:DtIs H v d):∀ {ds:List Dt} {vs:List V},ac H vs ds→ac H (vs++[v]) (ds++[d])
 | []=>by intro g;cases g;exact .cons q .nil
 | _::_=>by
  intro g
  cases g with
  | cons a t=>exact .cons a (ac.snoc q t)
def ordP(p q:Int×Int):(Int×Int)×(Int×Int):=if hLt p q=true then (p,q) else (q,p)
theorem hD_two{H:Hp}{x:Addr}{p:Int×Int}(h:DtIs H (.ref x) (hD p)):two H x p:=by
 cases h with
 | tup e q =>
  cases q with
  | cons a b =>
   cases a
   cases b with
   | cons c d =>
    cases c
    cases d
    exact e
theorem ac.at{H:Hp}:∀ {ds:List Dt} {vs:List V},ac H vs ds→∀ (i:Nat) (v:V),vs[i]?=some v→∃ d,ds[i]?=some d∧DtIs H v d
 | []=>by
  intro g i v e
  cases g
  simp at e
 | d::ds=>by
  intro g i v e
  cases g with
  | cons q t =>
  cases i with
  | zero=>simp at e;subst e;exact⟨d,rfl,q⟩
  | succ i =>
   simp at e
   obtain⟨d',a,b⟩:=ac.at t i v e
   exact⟨d',by simpa using a,b⟩
theorem cf{H H':Hp}{l:Addr}(s:Same H H')(n:H' l=none):H l=none:=by
 cases h:H l with
 | none=>rfl
 | some u=>rw[s _ _ h]at n;cases n
theorem eqv_two{p q:Int×Int}:hD p=hD q↔p=q:=by
 obtain⟨a,b⟩:=p
 obtain⟨c,d⟩:=q
 simp[hD]
end BF
namespace BF
open PySem PySem.Spec PyProof.Rows L2 PySem.SeqAt
theorem room_ok:∀ n,n<121→0<n→bd (SetTable.sizeAbove (n*2)-1)∧n*5<(SetTable.sizeAbove (n*2)-1)*3∧SetTable.sizeAbove (n*2)≤1024:=by
 unfold bd
 decide +kernel
section
variable{prog:Program}{w:World}{A:Around}{E:Value→Shared→Prop}{s:Shared}
theorem walk_any{S:Addr}{es:Array (Int×Value)}{ep:Nat}{t:SetTable}(ok:ba t es)(hled:t.led=!b8 w)(hS:s.heap.get? S=some (b5 es ep t)){Q:Array (Int×Value)→Shared→Prop}
  (q:∀ arr d,arr.toList.Perm es.toList→Q arr { s with drawn:=d }):wpAny (model prog w) A (setWalk S) Q E s:=by
 unfold setWalk
 refine wpAny_bind (wpAny_setState_of hS rfl ok.tab.fits ?_)
 refine bx ?_
 cases hb:b8 w with
 | true =>
  simp only[if_true]
  exact wpAny_bind (wpAny_askSetting (wpAny_pure (q _ s.drawn (pick_perm _ _))))
 | false =>
  simp only[zab,if_false]
  split
  ·refine wpAny_bind (fo es.size es.toList s (by simp) fun pl d hp=>wpAny_pure (q _ d (by simpa using hp)))
  ·refine wpAny_bind ?_
   show wpAny _ _ (if (!t.led&&decide (es.size>1))=true then unsupported _ else pure ()) _ _ _
   rw[hled,hb]
   exact wpAny_pure (wpAny_pure (q _ s.drawn (.refl _)))
theorem quiet_no{S:Addr}{rest:List Addr}{es:Array (Int×Value)}{ep:Nat}{t:SetTable}(ok:ba t es)(hS:s.heap.get? S=some (b5 es ep t))(hn:0<es.size)(en:gc w s.heap es){Q:Bool→Shared→Prop}(q:Q false s) :
  wpAny (model prog w) A (setsQuiet (S::rest)) Q E s:=by
 unfold setsQuiet
 refine wpAny_bind (wpAny_forIn_list _ (fun l (b:Option Bool×Unit) s'=>l=S::rest∧b=(none,())∧s'=s) _ ?_ ?_ _ _ ⟨rfl,rfl,rfl⟩)
 ·rintro x l b s' ⟨e1,rfl,rfl⟩
  obtain⟨rfl,rfl⟩:=List.cons.inj e1
  refine wpAny_bind (wpAny_setEntries_of hS rfl ok.tab.fits ?_)
  refine wpAny_bind (wpAny_mono (PySem.MeetsSeq2.wpAny_forIn_array _ (fun l (b:Option Bool×Unit) z=>l=es.toList∧b=(none,())∧z=s') (fun b z=>b=(some false,())∧z=s') ?_ ?_ _ _ ⟨rfl,rfl,rfl⟩) (fun b z hz=>?_) fun _ _ h'=>h')
  ·rintro⟨h',v⟩ l b z ⟨e2,rfl,rfl⟩
   obtain⟨d,dv,_,_,dl,rfl⟩:=en (h',v) (by rw[← e2];exact zad)
   cases dv with
   | tup g c n x2 =>
    refine wpAny_bind (wpAny_specialOf (T:="tuple") ⟨_,g,c⟩ PySem.F.slot_tuple_eq.lookup ?_)
    rw[if_pos (by decide +kernel)]
    exact wpAny_pure ⟨rfl,rfl⟩
  ·rintro b z ⟨e2,_⟩
   have:=congrArg List.length e2
   rw[za8]at this
   simp at this
   omega
  ·obtain⟨rfl,rfl⟩:=hz
   exact wpAny_pure (wpAny_pure q)
 ·rintro b s' ⟨e1,_⟩
  cases e1
end
section
variable{prog:Program}{w:World}{A:Around}{E:Value→Shared→Prop}{s:Shared}
theorem unseen_any{S R:Addr}{es:Array (Int×Value)}{ep:Nat}{t:SetTable}(ok:ba t es)(hled:t.led=!b8 w)(hS:s.heap.get? S=some (b5 es ep t))(en:gc w s.heap es){Q:Array (Int×Value)→Shared→Prop}
  (q:∀ arr d,arr.toList.Perm es.toList→Q arr { s with drawn:=d }):wpAny (model prog w) A (setWalkUnseen S [R] (some R)) Q E s:=by
 unfold setWalkUnseen
 refine wpAny_bind (wpAny_setState_of hS rfl ok.tab.fits ?_)
 refine bx ?_
 by_cases hc:(b8 w||t.led&&t.plain||decide (es.size≤1))=true
 ·dsimp only
  rw[if_pos hc]
  exact walk_any ok hled hS q
 ·dsimp only
  rw[if_neg hc]
  have hn:0<es.size:=by
   simp at hc
   omega
  refine wpAny_bind (quiet_no ok hS hn en ?_)
  simp only[Bool.not_false,if_true]
  exact walk_any ok hled hS q
theorem room_D{R:Addr}{es:Array (Int×Value)}{ep n:Nat}{t:SetTable}(ok:ba t es)(hled:t.led=!b8 w)(hR:s.heap.get? R=some (b5 es ep t))(hn:es.size+n≤120)(n0:0<n){Q:Unit→Shared→Prop}
  (q:∀ h' es' ep' t',Heap.SameBut R s.heap h'→h'.get? R=some (b5 es' ep' t')→ba t' es'→t'.led=!b8 w→es'.toList.Perm es.toList→(es.size+n)*5<t'.mask*3→Q () { s with heap:=h' }) :
  wpAny (model prog w) A (setRoomFor R n) Q E s:=by
 unfold setRoomFor
 refine wpAny_bind (wpAny_setState_of hR rfl ok.tab.fits ?_)
 have fill:t.fill=es.size:=by
  unfold SetTable.fill
  rw[ok.size,ok.clean];rfl
 dsimp only
 unfold SetTable.roomFor
 rw[fill,ok.size]
 by_cases h:(es.size+n)*5 ≥ t.mask*3
 ·rw[if_pos h]
  obtain⟨r1,r2,r3⟩:=room_ok (es.size+n) (by omega) (by omega)
  refine relay_D ok.tab.fits hR rfl r1 (by omega) r3 fun h' es' ep' t' sb g ok' l' m' p'=>?_
  exact q h' es' ep' t' sb g ok' (l'.trans hled) p' (by rw[m'];exact r2)
 ·rw[if_neg h]
  exact wpAny_pure (q s.heap es ep t ⟨rfl,fun _ _=>rfl⟩ hR ok hled (.refl _) (by omega))
theorem jK{R S:Addr}{epR:Nat}{tR:SetTable}{es:Array (Int×Value)}{ep:Nat}{t:SetTable}{each:Sem Unit}(hne:R≠S)(okR:ba tR #[])(hlR:tR.led=!b8 w)(hR:s.heap.get? R=some (b5 #[] epR tR))
  (ok:ba t es) (hled:t.led=!b8 w) (hS:s.heap.get? S=some (b5 es ep t)) (hn:es.size≤120) {Q:Unit→Shared→Prop}
  (q:∀ h' es' ep' t',Heap.SameBut R s.heap h'→h'.get? R=some (b5 es' ep' t')→ba t' es'→t'.led=!b8 w→es'.toList.Perm es.toList→Q () { s with heap:=h' }) :
  wpAny (model prog w) A (setMerge R S each) Q E s:=by
 unfold setMerge
 rw[if_neg (by simpa using hne)]
 refine wpAny_bind (wpAny_setState_of hS rfl ok.tab.fits ?_)
 dsimp only
 by_cases he:es.isEmpty=true
 ·rw[if_pos he]
  have:es=#[]:=by simpa using he
  subst this
  refine wpAny_pure (q s.heap _ _ _ (.refl _ _) hR okR hlR (.refl _))
 rw[if_neg he]
 have n0:0<es.size:=by
  rcases Nat.eq_zero_or_pos es.size with z | z
  ·exact absurd (by simpa using z) he
  ·exact z
 refine wpAny_bind (room_D (n:=es.size) okR hlR hR (by simpa using hn) n0 fun h1 es1 ep1 t1 sb g1 ok1 l1 p1 m1=>?_)
 have e0:es1=#[]:=by
  have:=p1.length_eq
  simpa using this
 subst e0
 have m1:es.size*5<t1.mask*3:=by simpa using m1
 have hS1:h1.get? S=some (b5 es ep t):=by rw[sb.2 S (Ne.symm hne)];exact hS
 have fill:t1.fill=0:=by
  unfold SetTable.fill
  rw[ok1.size,ok1.clean];rfl
 refine wpAny_bind (wpAny_setState_of (s:={ s with heap:=h1 }) g1 rfl ok1.tab.fits ?_)
 dsimp only
 unfold SetTable.road
 rw[fill]
 simp only[bne_self_eq_false,zab,if_false]
 have sz:es.size≤sizeLine:=iM (by omega)
 split
 ·refine wpAny_storeSet_of (s:={ s with heap:=h1 }) g1 rfl ?_ sz
  exact q _ es _ _ (sb.trans (Heap.SameBut.update _ _ _)) (eE g1 rfl) ⟨⟨ok.mask,ok.rises,ok.size,ok.clean,ok.top,ok.reach⟩,ok.full⟩ (by show(t1.led&&t.led)=_;rw[l1,hled,Bool.and_self]) (.refl _)
 ·obtain⟨t',order,e,hp,ok',hl,_⟩:=laid_ok (finger:=t1.finger) (moves:=t1.moves) (led:=t1.led&&t.led) (plain:=t1.plain&&t.plain) ok1.mask m1
  rw[e]
  have hsz:(order.filterMap (es[·]?)).size=es.size:=by rw[← za8,hp.length_eq,za8]
  refine wpAny_bind ?_
  show wpAny (model prog w) A (if ((order.filterMap (es[·]?)).size !=es.size)=true then unsupported "internal:set-table-lost-an-element" else pure (order.filterMap (es[·]?),t')) _ E _
  rw[if_neg (by rw[hsz];simp)]
  refine wpAny_pure ?_
  dsimp only
  refine wpAny_storeSet_of (s:={ s with heap:=h1 }) g1 rfl ?_ (by rw[hsz];exact sz)
  exact q _ _ _ t' (sb.trans (Heap.SameBut.update _ _ _)) (eE g1 rfl) ok' (by rw[hl,l1,hled,Bool.and_self]) hp
 ·rename_i heq
  split at heq<;>cases heq
structure MrgI(w:World)(h0:Heap)(R:Addr)(dl:List Dt)(vs:List Value)(done:List (Int×Value))(h:Heap)(es:Array (Int×Value))(ep:Nat)(t:SetTable)(dl':List Dt):Prop where
 get:h.get? R=some (b5 es ep t)
 ok:ba t es
 led:t.led=!b8 w
 ent:gc w h0 es
 dat:ay h0 (es.toList.map (·.2)) dl'
 nodup:dl'.Nodup
 mem:∀ d,d∈dl'↔d∈dl∨∃ e∈done,DatH h0 e.2 d
 sub:∀ e∈es.toList,e.2∈vs
 keep:∀ b o,h0.get? b=some o→h.get? b=some o
 len:es.size≤dl.length+done.length
theorem merge_more{R S:Addr}{h0:Heap}{dl dl0:List Dt}{vs:List Value}{esR:Array (Int×Value)}{epR:Nat}{tR:SetTable}{es:Array (Int×Value)}{ep:Nat}{t:SetTable}{each:Sem Unit}(hne:R≠S)(r0:h0.objs.size≤R)(I0:MrgI w h0 R dl vs [] s.heap esR epR tR dl0)(nR:0<esR.size)
  (ok:ba t es) (hled:t.led=!b8 w) (hS:h0.get? S=some (b5 es ep t)) (en:gc w h0 es) (sv:∀ e∈es.toList,e.2∈vs) (hn:dl.length+es.size≤120) (hu:A.units+8<cLine)
  (he:∀ (s:Shared) (Q:Unit→Shared→Prop),s.heap.get? S=some (b5 es ep t)→Q () s→wpAny (model prog w) A each Q E s) {Q:Unit→Shared→Prop}
  (q:∀ z es' ep' t' dl',z.gens=s.gens→z.os=s.os→s.toks≤z.toks→MrgI w h0 R dl vs es.toList z.heap es' ep' t' dl'→Q () z) :
  wpAny (model prog w) A (setMerge R S each) Q E s:=by
 unfold setMerge
 rw[if_neg (by simpa using hne)]
 have hS0:=I0.keep _ _ hS
 refine wpAny_bind (wpAny_setState_of hS0 rfl ok.tab.fits ?_)
 dsimp only
 by_cases hem:es.isEmpty=true
 ·rw[if_pos hem]
  have:es=#[]:=by simpa using hem
  subst this
  exact wpAny_pure (q s esR epR tR dl0 rfl rfl (za4 _) I0)
 rw[if_neg hem]
 have n0:0<es.size:=by
  rcases Nat.eq_zero_or_pos es.size with z | z
  ·exact absurd (by simpa using z) hem
  ·exact z
 have lR:esR.size≤dl.length:=I0.len
 refine wpAny_bind (room_D (n:=es.size) I0.ok I0.led I0.get (by omega) n0 fun h1 es1 ep1 t1 sb g1 ok1 l1 p1 m1=>?_)
 have e1:es1.size=esR.size:=by rw[← za8,p1.length_eq,za8]
 have fill:t1.fill=es1.size:=by
  unfold SetTable.fill
  rw[ok1.size,ok1.clean];rfl
 refine wpAny_bind (wpAny_setState_of (s:={ s with heap:=h1 }) g1 rfl ok1.tab.fits ?_)
 dsimp only
 unfold SetTable.road
 rw[fill,if_pos (by rw[bne_iff_ne];omega)]
 have k1:∀ b o,h0.get? b=some o→h1.get? b=some o:=fun b o e=>by
  rw[sb.2 b (fun z=>absurd (Heap.lt_size e) (Nat.not_lt.mpr (by rw[z];exact r0)))]
  exact I0.keep b o e
 obtain⟨dl1,q1,q2⟩:=dQ ((p1.map (·.2)).symm) I0.dat
 have I1:MrgI w h0 R dl vs [] h1 es1 ep1 t1 dl1:=⟨g1,ok1,l1,fun e he=>I0.ent e (p1.mem_iff.mp he),q1,q2.nodup_iff.mp I0.nodup,fun d=>by rw[← q2.mem_iff];exact I0.mem d,fun e he=>I0.sub e (p1.mem_iff.mp he),k1,by rw[e1];exact I0.len⟩
 dsimp only
 refine wpAny_bind (unseen_any (s:={ s with heap:=h1 }) ok hled (k1 _ _ hS) (en.keep k1) fun arr d pa=>?_)
 refine wpAny_bind (wpAny_mono (PySem.MeetsSeq2.wpAny_forIn_array _ (fun rest _ z=>∃ done es' ep' t' dl',arr.toList=done++rest∧z.gens=s.gens∧z.os=s.os∧s.toks≤z.toks∧MrgI w h0 R dl vs done z.heap es' ep' t' dl') (fun _ z=>∃ es' ep' t' dl',z.gens=s.gens∧z.os=s.os∧s.toks≤z.toks∧MrgI w h0 R dl vs arr.toList z.heap es' ep' t' dl') ?_ ?_ _ _ ⟨[],es1,ep1,t1,dl1,rfl,rfl,rfl,za4 _,I1⟩) (fun _ z hz=>?_) fun _ _ h'=>h')
 ·rintro⟨hx,x⟩ rest _ z ⟨done,es',ep',t',dl',e,g,o,tk,I⟩
  have xin:(hx,x)∈es.toList:=pa.mem_iff.mp (by rw[e];exact za5 _ zad)
  obtain⟨dx,dv,d8,eh,ls,rfl⟩:=en _ xin
  have eh:hx=bc w (.tup ls):=eh
  subst eh
  have dl3:done.length+1≤es.size:=by
   have:=congrArg List.length e
   rw[pa.length_eq,za8,za1,zah]at this
   omega
  have memIff:(∃ e∈es'.toList,DatH z.heap e.2 (.tup ls))↔Dt.tup ls∈dl':=by
   constructor
   ·rintro⟨e,he,q⟩
    obtain⟨d',hd',q'⟩:=(bp I.dat).2 e.2 (za6.mpr ⟨e,he,rfl⟩)
    rw[DatH.inj q (q'.keep I.keep)]
    exact hd'
   ·intro hd'
    obtain⟨v',hv',q'⟩:=(bp I.dat).1 _ hd'
    obtain⟨e,he,rfl⟩:=za6.mp hv'
    exact⟨e,he,q'.keep I.keep⟩
  refine wpAny_bind (wpAny_holding (wpAny_mono (Q:=fun(_:Bool) z'=>∃ es2 ep2 t2 dl2,z'.gens=s.gens∧z'.os=s.os∧s.toks≤z'.toks∧MrgI w h0 R dl vs (done++[(bc w (.tup ls),x)]) z'.heap es2 ep2 t2 dl2) (addH_D (s:=z) I.ok I.get rfl (I.ent.keep I.keep) (dv.keep I.keep) d8 hu (by have:=I.len;omega) (fun he'=>?_) fun h' es2 ep2 t2 ne sb' g' ok' l' p'=>?_) (fun _ z' hz=>?_) fun _ _ h'=>h'))
  ·refine⟨es',ep',t',dl',g,o,tk,I.get,I.ok,I.led,I.ent,I.dat,I.nodup,fun d=>?_,I.sub,I.keep,by rw[za1];exact zb1 I.len (by omega)⟩
   rw[I.mem d]
   constructor
   ·rintro(h | ⟨e,he,q⟩)
    ·exact .inl h
    ·exact .inr ⟨e,zae _ he,q⟩
   ·rintro(h | ⟨e,he,q⟩)
    ·exact .inl h
    ·rcases za9.mp he with he | he
     ·exact .inr ⟨e,he,q⟩
     ·rw[za7]at he
      subst he
      have:=DatH.inj q dv
      rw[this]
      exact(I.mem _).mp (memIff.mp he')
  ·obtain⟨dl2,a1,a2⟩:=dQ ((p'.map (·.2)).symm) (ds:=.tup ls::dl') (.cons dv I.dat)
   have k2:∀ b o,h0.get? b=some o→h'.get? b=some o:=fun b o e=>by
    rw[sb'.2 b (fun z=>absurd (Heap.lt_size e) (Nat.not_lt.mpr (by rw[z];exact r0)))]
    exact I.keep b o e
   refine⟨es2,ep2,t2,dl2,g,o,tk,g',ok',l'.trans I.led,fun e he=>?_,a1,a2.nodup_iff.mp (zbb.mpr ⟨fun hc=>ne (memIff.mpr hc),I.nodup⟩),fun d=>?_,fun e he=>?_,k2,?_⟩
   ·rcases zaa.mp (p'.mem_iff.mp he) with rfl | he
    ·exact en _ xin
    ·exact I.ent e he
   ·rw[← a2.mem_iff,zaa,I.mem d]
    constructor
    ·rintro(rfl | h | ⟨e,he,q⟩)
     ·exact .inr ⟨_,za5 _ (za7.mpr rfl),dv⟩
     ·exact .inl h
     ·exact .inr ⟨e,zae _ he,q⟩
    ·rintro(h | ⟨e,he,q⟩)
     ·exact .inr (.inl h)
     ·rcases za9.mp he with he | he
      ·exact .inr (.inr ⟨e,he,q⟩)
      ·rw[za7]at he
       subst he
       exact .inl (DatH.inj q dv)
   ·rcases zaa.mp (p'.mem_iff.mp he) with rfl | he
    ·exact sv _ xin
    ·exact I.sub e he
   ·have:=p'.length_eq
    rw[za8,zah,za8]at this
    rw[this,za1]
    have:=I.len
    show _≤dl.length+(done.length+1)
    omega
  ·obtain⟨es2,ep2,t2,dl2,g2,o2,tk2,I2⟩:=hz
   refine wpAny_bind (he z' _ (I2.keep _ _ hS) (wpAny_bind (wpAny_setState_of (I2.keep _ _ hS) rfl ok.tab.fits ?_)))
   dsimp only
   rw[if_neg (by simp)]
   exact wpAny_pure ⟨_,es2,ep2,t2,dl2,by rw[e,zai];rfl,g2,o2,tk2,I2⟩
 ·rintro _ z ⟨done,es',ep',t',dl',e,g,o,tk,I⟩
  rw[zau]at e
  subst e
  exact⟨es',ep',t',dl',g,o,tk,I⟩
 ·obtain⟨es',ep',t',dl',g,o,tk,I⟩:=hz
  refine wpAny_pure (q z es' ep' t' dl' g o tk ⟨I.get,I.ok,I.led,I.ent,I.dat,I.nodup,fun d=>?_,I.sub,I.keep,?_⟩)
  ·rw[I.mem d]
   constructor
   ·rintro(h | ⟨e,he,q⟩)
    ·exact .inl h
    ·exact .inr ⟨e,pa.mem_iff.mp he,q⟩
   ·rintro(h | ⟨e,he,q⟩)
    ·exact .inl h
    ·exact .inr ⟨e,pa.mem_iff.mpr he,q⟩
  ·rw[← pa.length_eq];exact I.len
end
theorem entryOr:entryFor table "set.__or__"=some Builtin.«frozenset.__or__»:=entryFor_alias (id':="frozenset.__or__") (by kernel_rfl) rfl (by decide +kernel) (by kernel_rfl)
section
variable{prog:Program}{w:World}{A:Around}{E:Value→Shared→Prop}{s:Shared}
theorem any_set{S:Addr}(hT:s.TypeIs (.ref S) "set"){Q:Bool→Shared→Prop}(q:Q true s):wpAny (model prog w) A (Builtin.Frozenset.isAnySet (.ref S)) Q E s:=by
 unfold Builtin.Frozenset.isAnySet
 refine wpAny_bind (wpAny_isInstance (T:="set") (b:=true) hT sub_set_self ?_)
 exact wpAny_pure q
theorem copy_D{S:Addr}{es:Array (Int×Value)}{ep:Nat}{t:SetTable}(g:s.heap.get? S=some (b5 es ep t))(ok:ba t es)(hl:t.led=!b8 w)(hn:es.size≤120){Q:Value→Shared→Prop}
  (q:∀ h' es' ep' t',(∀ b o,s.heap.get? b=some o→h'.get? b=some o)→h'.get? s.heap.objs.size=some (b5 es' ep' t')→ba t' es'→t'.led=!b8 w→es'.toList.Perm es.toList→Q (.ref s.heap.objs.size) { s with heap:=h' }) :
  wpAny (model prog w) A (Builtin.Frozenset.copyOf S) Q E s:=by
 have hT:s.TypeIs (.ref S) "set":=⟨_,g,rfl⟩
 unfold Builtin.Frozenset.copyOf Builtin.Frozenset.baseOf
 refine wpAny_bind (wpAny_bind (wpAny_isInstance (T:="set") (b:=true) hT sub_set_self (wpAny_pure ?_)))
 simp only[if_true]
 unfold newSet
 refine wpAny_bind (bx ?_)
 dsimp only
 refine wpAny_newObj_type ?_
 have lt:=Heap.lt_size g
 have g':(s.heap.push (set0 w)).get? S=some (b5 es ep t):=Heap.get?_push_of_some _ g
 have g0:(s.heap.push (set0 w)).get? s.heap.objs.size=some (set0 w):=Heap.get?_push_size _ rfl
 refine wpAny_bind (wpAny_pure ?_)
 refine wpAny_bind (jK (s:={ s with heap:=s.heap.push (set0 w) }) (R:=s.heap.objs.size) (tR:=.fresh 0 0 (!b8 w)) (epR:=0) (zc9 lt) ⟨⟨.inl rfl,List.Pairwise.nil,rfl,rfl,fun j hj=>?_,fun i j e' hp=>?_⟩,?_⟩ rfl g0 ok hl g' hn fun h' es' ep' t' sb e1 e2 e3 e4=>?_)
 ·exact absurd hj (by simp[SetTable.fresh])
 ·simp[SetTable.fresh]at hp
 ·show 0*5<7*3;decide
 ·refine wpAny_pure (q h' es' ep' t' (fun b o e=>?_) e1 e2 e3 e4)
  rw[sb.2 b (zap (Heap.lt_size e))]
  exact Heap.get?_push_of_some _ e
theorem or_D{S1 S2:Addr}{es1 es2:Array (Int×Value)}{ep1 ep2:Nat}{t1 t2:SetTable}{dl1 dl2:List Dt}{vs:List Value}(n12:S1≠S2)(g1:s.heap.get? S1=some (b5 es1 ep1 t1))(g2:s.heap.get? S2=some (b5 es2 ep2 t2))(ok1:ba t1 es1)(ok2:ba t2 es2)(l1:t1.led=!b8 w)(l2:t2.led=!b8 w)
  (en1:gc w s.heap es1) (en2:gc w s.heap es2) (da1:ay s.heap (es1.toList.map (·.2)) dl1) (nd1:dl1.Nodup) (da2:ay s.heap (es2.toList.map (·.2)) dl2) (nd2:dl2.Nodup) (sv1:∀ e∈es1.toList,e.2∈vs) (sv2:∀ e∈es2.toList,e.2∈vs) (hn:es1.size+es2.size≤120) (hu:A.units+12<cLine) {Q:Value→Shared→Prop}
  (q:∀ z es ep t dl,z.gens=s.gens→z.os=s.os→s.toks≤z.toks→MrgI w s.heap s.heap.objs.size dl1 vs es2.toList z.heap es ep t dl→Q (.ref s.heap.objs.size) z) :
  wpAny (model prog w) A (binaryOp .BitOr (.ref S1) (.ref S2)) Q E s:=by
 have T1:s.TypeIs (.ref S1) "set":=⟨_,g1,rfl⟩
 have T2:s.TypeIs (.ref S2) "set":=⟨_,g2,rfl⟩
 refine wpAny_binaryOp_same (op:=.BitOr) (T:="set") T1 T2 PySem.F.fills_set_or PySem.F.slot_set_or (wpAny_call_entry PySem.F.slot_set_or T1 entryOr ?_ (PySem.F.args_set_or_2 _ _))
 unfold Builtin.«frozenset.__or__»
 refine wpAny_bind ?_
 unfold Builtin.Frozenset.slot1
 refine wpAny_bind ?_
 show wpAny _ _ (pure (Value.ref S1,[Value.ref S2])) _ _ _
 refine wpAny_pure (wpAny_pure ?_)
 dsimp only
 simp only[zab,if_false]
 refine wpAny_bind (wpAny_bind (any_set T1 (any_set T2 ?_)))
 simp only[zcb,zab,if_false]
 refine wpAny_bind (wpAny_pure ?_)
 refine wpAny_bind ?_
 refine wpAny_bind (copy_D g1 ok1 l1 (by omega) fun h1 esR epR tR k1 gR okR lR pR=>?_)
 have hne:((Value.ref S2 !=Value.ref S1)=true):=by simp[Ne.symm n12]
 rw[if_pos hne]
 refine wpAny_bind (wpAny_pure (wpAny_bind (wpAny_holding ?_)))
 have T2':Shared.TypeIs { s with heap:=h1 } (.ref S2) "set":=⟨_,k1 _ _ g2,rfl⟩
 unfold Builtin.Frozenset.updateFrom
 refine wpAny_bind (any_set T2' ?_)
 simp only[if_true]
 refine wpAny_bind (wpAny_pure ?_)
 unfold Builtin.Frozenset.merge
 refine wpAny_bind (wpAny_setEpoch_of (s:={ s with heap:=h1 }) (k1 _ _ g2) rfl ok2.tab.fits ?_)
 have lt2:=Heap.lt_size g2
 have szR:esR.size=es1.size:=by rw[← za8,pR.length_eq,za8]
 have sz1:es1.size=dl1.length:=by rw[← da1.length,za0,za8]
 have each:∀ (z:Shared) (Q':Unit→Shared→Prop),z.heap.get? S2=some (b5 es2 ep2 t2)→Q' () z→wpAny (model prog w) A.in1 (Builtin.Frozenset.unchanged (toString "frozenset."++toString "__or__") S2 ep2) Q' E z:=fun z Q' hz hq=>by
  unfold Builtin.Frozenset.unchanged
  refine wpAny_bind (wpAny_setEpoch_of hz rfl ok2.tab.fits ?_)
  rw[if_neg (by simp)]
  exact wpAny_pure hq
 refine wpAny_mono (Q:=fun _ (z:Shared)=>∃ es ep t dl,z.gens=s.gens∧z.os=s.os∧s.toks≤z.toks∧MrgI w s.heap s.heap.objs.size dl1 vs es2.toList z.heap es ep t dl) ?_ (fun _ z ⟨es,ep,t,dl,a,b,c,d⟩=>wpAny_pure (wpAny_pure ⟨_,rfl,by simp,q z es ep t dl a b c d⟩)) fun _ _ h=>h
 rcases Nat.eq_zero_or_pos esR.size with e0 | e0
 ·have er:esR=#[]:=by simpa using e0
  subst er
  have d0:dl1=[]:=zbx.mp (by omega)
  subst d0
  refine jK (s:={ s with heap:=h1 }) (zc9 lt2) okR lR gR ok2 l2 (k1 _ _ g2) (by omega) fun h' es' ep' t' sb e1 e2 e3 e4=>?_
  obtain⟨dl,a1,a2⟩:=dQ ((e4.map (·.2)).symm) da2
  refine⟨es',ep',t',dl,rfl,rfl,za4 _,e1,e2,e3,fun e he=>en2 e (e4.mem_iff.mp he),a1,a2.nodup_iff.mp nd2,fun d=>?_,fun e he=>sv2 e (e4.mem_iff.mp he),fun b o e=>?_,?_⟩
  ·rw[← a2.mem_iff]
   constructor
   ·intro hd
    obtain⟨v,hv,qv⟩:=(bp da2).1 d hd
    obtain⟨e,he,rfl⟩:=za6.mp hv
    exact .inr ⟨e,he,qv⟩
   ·rintro(h | ⟨e,he,qv⟩)
    ·exact nomatch h
    ·obtain⟨d',hd',q'⟩:=(bp da2).2 e.2 (za6.mpr ⟨e,he,rfl⟩)
     rw[DatH.inj qv q']
     exact hd'
  ·rw[sb.2 b (zap (Heap.lt_size e))]
   exact k1 b o e
  ·rw[← za8,e4.length_eq]
   show _≤0+_
   omega
 ·obtain⟨dl,a1,a2⟩:=dQ ((pR.map (·.2)).symm) da1
  refine merge_more (s:={ s with heap:=h1 }) (h0:=s.heap) (dl:=dl1) (vs:=vs) (zc9 lt2) (za4 _) ⟨gR,okR,lR,fun e he=>en1 e (pR.mem_iff.mp he),a1,a2.nodup_iff.mp nd1,fun d=>?_,fun e he=>sv1 e (pR.mem_iff.mp he),k1,by rw[szR,sz1];exact za4 _⟩ e0 ok2 l2 g2 en2 sv2 (by omega) (by show A.units+1+8<_;omega) each fun z es ep t dl a b c d=>⟨es,ep,t,dl,a,b,c,d⟩
  rw[← a2.mem_iff]
  exact⟨.inl,fun h=>h.elim id fun⟨_,z,_⟩=>nomatch z⟩
end
theorem dat_move{h h':Heap}{its:List Value}{ds:List Dt}(A:ay h its ds)(B:ay h' its ds){v:Value}{d:Dt}(hv:v∈its)(q:DatH h v d):DatH h' v d:=by
 obtain⟨i,hi⟩:=zaw.mp hv
 obtain⟨d1,e1,q1⟩:=i5 A i v hi
 obtain⟨d2,e2,q2⟩:=i5 B i v hi
 rw[e1]at e2
 cases e2
 rw[DatH.inj q q1]
 exact q2
theorem g7{h h':Heap}:∀ {vs:List Value} {ds:List Dt},ay h vs ds→(∀ v∈vs,∀ d,DatH h v d→DatH h' v d)→ay h' vs ds
 | _,_,.nil,_=>.nil
 | _,_,.cons q t,k=>.cons (k _ zad _ q) (g7 t fun v hv=>k v (zac _ hv))
theorem dts_join{H:Hp}:∀ {xs ys:List V} {ds es:List Dt},ac H xs ds→ac H ys es→ac H (xs++ys) (ds++es)
 | []=>by intro g h;cases g;exact h
 | x::xs=>by
  intro g h
  cases g with
  | cons q t=>exact .cons q (dts_join t h)
section
variable{X:Cx}
def tSortOr(X:Cx)(t1 t2:TA):TE:=fun σ H Q=>t1 σ H fun xs H1=>∃ a ys ds,xs=[.ref a]∧SqL X.K H1 a ys∧ac H1 ys ds∧ys.length≤60∧(∀ d∈ds,∃ l,d=.tup l∧d.dp≤8)∧t2 σ H1 fun xs' H2=>∃ a' ys' ds' T,xs'=[.ref a']∧SqL X.K H2 a' ys'∧ac H2 ys' ds'∧ac H2 ys ds∧ys'.length≤60 ∧
 (∀ d∈ds++ds',∃ e r,d=.tup (e::r)∧e.tag=T)∧(∀ d∈ds++ds',∀ d'∈ds++ds',Dt.like d d'=true)∧(∀ d∈ds++ds',d.dp≤8) ∧
 ∀ l zs es,H2 l=none→ac H2 zs es→es.Nodup→(∀ d,d∈es↔d∈ds∨d∈ds')→es.Pairwise (fun d d'=>Dt.blt d' d=false)→zs.length≤ys.length+ys'.length→Q (.ref l) (upd H2 l (.lst zs))
set_option maxHeartbeats 1000000 in
theorem pe_sortOr{e1 e2:Expr}{t1 t2:TA}{p p1 p2 pos pb c1 c2:Pos}{k:Nat}(hr:Room k X.A)(hg:Gl X "sorted")(hm:X.mg "sorted"=none)(hg':Gl X "set")(hm':X.mg "set"=none)(ha:PA X [e1] t1)(hb:PA X [e2] t2)
  (he1:starEach [e1] X.env=(false,eval e1 X.env)::starEach [] X.env:=by first | exact iN | exact gU | exact se_sub | exact iO | exact iP | exact jn | rfl)
  (he2:starEach [e2] X.env=(false,eval e2 X.env)::starEach [] X.env:=by first | exact iN | exact gU | exact se_sub | exact iO | exact iP | exact jn | rfl) :
  PE X (.Call (.Name "sorted" p) [.BinOp (.Call (.Name "set" p1) [e1] [] c1) .BitOr (.Call (.Name "set" p2) [e2] [] c2) pb] [] pos) (tSortOr X t1 t2):=by
 intro pins s σ H Q I h
 have hu:=hr.units
 refine wpAny_Call_Name_kw (eI I hg hm boot_sorted ?_)
 refine PyProof.Rows.callWith_builtin1 ?_ jn rfl
 show wpAny _ _ (spliced ((false,eval (.BinOp (.Call (.Name "set" p1) [e1] [] c1) .BitOr (.Call (.Name "set" p2) [e2] [] c2) pb) X.env)::backTo pos (starEach [] X.env))) _ _ s
 refine Calls.spliced_cons (wpAny_BinOp ?_)
 refine wpAny_Call_Name_kw (eI I hg' hm' boot_set ?_)
 refine PyProof.Rows.callWith_type1 (thn (ha c1 pins s σ H _ I h) fun us s1 zz1=>?_) he1 rfl
 obtain⟨vs,H1,I1,r1,q1⟩:=zz1
 obtain⟨a,ys,ds,rfl,hS,hD,hn,tup,q1⟩:=q1
 obtain⟨u,rfl,r2⟩:=gt r1
 cases r2
 obtain⟨its,rv,pl,hz⟩:=I1.list hS
 have hd0:=d5 I1 hD rv
 refine iE hr.hd pl.isList (by rw[zc4];exact hd0) (by rw[zag,← rv.length];omega) tup (by omega) fun h' tk es ep tb dl hset old hlt=>?_
 have I2:Inv X pins σ H1 { s1 with heap:=h',toks:=tk }:=I1.kept old
 have fr:=I1.hok.fresh (za4 s1.heap.objs.size)
 have I2p:Inv X ((s1.heap.objs.size,b5 es ep tb)::pins) σ H1 { s1 with heap:=h',toks:=tk }:=I2.pins_of fun pp hp=>by
  rcases zaa.mp hp with rfl | hp
  ·exact⟨hset.get,fr,zc9 I1.lt,I1.nofs (za4 _),fun v z=>by cases z⟩
  ·exact I2.pin pp (za5 _ hp)
 refine wpAny_Call_Name_kw (eI I2p hg' hm' boot_set ?_)
 refine PyProof.Rows.callWith_type1 (thn (hb c2 _ _ σ H1 _ I2p q1) fun us s2 zz1=>?_) he2 rfl
 obtain⟨vs2,H2,I3,r3,q2⟩:=zz1
 obtain⟨a',ys',ds',T,rfl,hS',hD',hDD,hn',hT,hL,h8,q⟩:=q2
 obtain⟨u,rfl,r4⟩:=gt r3
 cases r4
 have get1:s2.heap.get? s1.heap.objs.size=some (b5 es ep tb):=(I3.pin (s1.heap.objs.size,b5 es ep tb) (za5 _ zad)).1
 obtain⟨its',rv',pl',hz'⟩:=I3.list hS'
 have hd1:=d5 I3 hD' rv'
 have hd2:=d5 I3 hDD rv
 have tup':∀ d∈ds',∃ l,d=.tup l∧d.dp≤8:=fun d hd=>by
  obtain⟨e',r',rfl,_⟩:=hT d (za5 _ hd)
  exact⟨_,rfl,h8 _ (za5 _ hd)⟩
 refine iE hr.hd pl'.isList (by rw[zc4];exact hd1) (by rw[zag,← rv'.length];omega) tup' (by omega) fun h2 tk2 es2 ep2 tb2 dl2 hset2 old2 hlt2=>?_
 have mv:∀ v∈es.toList.map (·.2),∀ d,DatH s1.heap v d→DatH h2 v d:=fun v hv d qd=>by
  obtain⟨e',he',rfl⟩:=za6.mp hv
  exact(dat_move hd0 hd2 (by simpa using hset.sub e' he') qd).keep old2
 have mv2:∀ v∈es2.toList.map (·.2),∀ d,DatH s2.heap v d→DatH h2 v d:=fun v _ d qd=>qd.keep old2
 have sz1:es.size≤ys.length:=by
  have h1:es.size=dl.length:=by rw[← hset.dat.length,za0,za8]
  have h2:dl.length≤ds.length:=List.Nodup.length_le_of_subset hset.nodup fun x hx=>(hset.mem x).mp hx
  rw[h1,hD.length];exact h2
 have sz2:es2.size≤ys'.length:=by
  have h1:es2.size=dl2.length:=by rw[← hset2.dat.length,za0,za8]
  have h2:dl2.length≤ds'.length:=List.Nodup.length_le_of_subset hset2.nodup fun x hx=>(hset2.mem x).mp hx
  rw[h1,hD'.length];exact h2
 refine or_D (s:={ s2 with heap:=h2,toks:=tk2 }) (vs:=its++its') (zap (Heap.lt_size get1)) (old2 _ _ get1) hset2.get hset.ok hset2.ok hset.led hset2.led
  (fun e' he'=>let ⟨d,a1,a2⟩:=hset.ent e' he';⟨d,mv e'.2 (za6.mpr ⟨e',he',rfl⟩) d a1,a2⟩) (fun e' he'=>let ⟨d,a1,a2⟩:=hset2.ent e' he';⟨d,a1.keep old2,a2⟩) (g7 hset.dat mv) hset.nodup (g7 hset2.dat mv2) hset2.nodup
  (fun e' he'=>zae _ (by simpa using hset.sub e' he')) (fun e' he'=>za5 _ (by simpa using hset2.sub e' he')) (by omega) (by omega) fun z es3 ep3 t3 dl3 eg eo et M=>?_
 have I4:Inv X pins σ H2 { s2 with heap:=h2,toks:=tk2 }:=(I3.pins_of fun pp hp=>I3.pin pp (za5 _ (zac _ hp))).kept old2
 have I5:Inv X pins σ H2 z:=by
  have J:=Inv.drw (I4.kept (t':=z.toks) M.keep) z.drawn
  obtain⟨zh,zg,zd,zt,zo⟩:=z
  cases eg
  cases eo
  exact J
 refine Calls.spliced_nil ?_
 have len3:es3.size≤ys.length+ys'.length:=by
  have:=M.len
  have e9:es2.toList.length=es2.size:=za8
  have h1:es.size=dl.length:=by rw[← hset.dat.length,za0,za8]
  omega
 show wpAny (model X.prog X.w) X.A (call (.builtin "sorted") [.ref h2.objs.size]) _ _ z
 refine Calls.call_function_entry kind_sorted plain_sorted entry_sorted (args_sorted1 _) ?_
 unfold Builtin.«sorted»
 refine wpAny_bind (m:=checkCount "sorted" 1 1 _) (wpAny_pure (wpAny_bind (collect_set (A:=X.A.in1) (s:=z) (show X.A.in1.handled=none from hr.hd) M.ok M.led M.get (by omega) fun h3 d tk3 jts k3 pj=>?_)))
 have I6:Inv X pins σ H2 { z with heap:=h3,drawn:=d,toks:=tk3 }:=Inv.drw (I5.kept (t':=tk3) k3) d
 have sub:∀ u∈jts,u∈its++its':=fun u hu'=>by
  obtain⟨e',he',rfl⟩:=za6.mp (pj.mem_iff.mp hu')
  exact M.sub e' he'
 obtain⟨zs,es',vz,dz⟩:=pick_dts (dts_join hDD hD') (rv.append rv') jts sub
 obtain⟨dj,dj1,dj2⟩:=dQ pj.symm (M.dat.keep fun b o e'=>k3 b o (M.keep b o e'))
 have edj:es'=dj:=ay.inj (d5 I6 dz vz) dj1
 subst edj
 have mem':∀ d',d'∈es'↔d'∈ds∨d'∈ds':=fun d'=>by
  rw[← dj2.mem_iff,M.mem d',hset.mem]
  refine or_congr Iff.rfl ⟨fun⟨e',he',qe⟩=>?_,fun hd=>?_⟩
  ·obtain⟨d2,m2,q2⟩:=(bp (g7 hset2.dat mv2)).2 e'.2 (za6.mpr ⟨e',he',rfl⟩)
   rw[DatH.inj qe q2]
   exact(hset2.mem _).mp m2
  ·obtain⟨v,hv,qv⟩:=(bp (g7 hset2.dat mv2)).1 d' ((hset2.mem _).mpr hd)
   obtain⟨e',he',rfl⟩:=za6.mp hv
   exact⟨e',he',qv⟩
 have mem2:∀ d',d'∈es'→d'∈ds++ds':=fun d' hd=>za9.mpr ((mem' d').mp hd)
 have lenj:jts.length≤ys.length+ys'.length:=by rw[pj.length_eq,za0,za8];exact len3
 refine sort_tail I6 vz (zb1 lenj (jO (by omega))) dz (fun d' hd'=>hT d' (mem2 d' hd')) (fun d1 h1 d2 h2'=>hL d1 (mem2 d1 h1) d2 (mem2 d2 h2')) (fun d' hd'=>?_) fun l zz ez h3 pz dzz pe srt hl J=>?_
 ·have:=h8 d' (mem2 d' hd')
  show X.A.units+1+4+_<_
  omega
 ·refine⟨_,rfl,.ref l,upd H2 l (.lst zz),J,rfl,q l zz ez hl dzz ?_ (fun d'=>by rw[pe.mem_iff];exact mem' d') srt ?_⟩
  ·exact pe.nodup_iff.mpr (dj2.nodup_iff.mp M.nodup)
  ·rw[pz.length_eq,vz.length];exact lenj
end
end BF
namespace BF
open PySem PySem.Spec PyProof.Rows L2
section
variable{X:Cx}
def rLenSet(X:Cx):List V→Hp→VK→Prop:=fun xs H Q=>∃ a ys ds,xs=[.ref a]∧SqL X.K H a ys∧ac H ys ds∧ys.length<306∧(∀ d∈ds,∃ l,d=.tup l∧d.dp≤8)∧∀ dl:List Dt,dl.Nodup→(∀ d,d∈dl↔d∈ds)→Q (.int dl.length) H
theorem pe_lenSet{e:Expr}{t:TA}{p p' pos pos':Pos}{k:Nat}(hr:Room k X.A)(hg:Gl X "len")(hm:X.mg "len"=none)(hg':Gl X "set")(hm':X.mg "set"=none)(ha:PA X [e] t)
  (he:starEach [e] X.env=(false,eval e X.env)::starEach [] X.env:=by first | exact iN | exact gU | exact iO | exact iP | exact jn | rfl) :
  PE X (.Call (.Name "len" p) [.Call (.Name "set" p') [e] [] pos'] [] pos) (tCB (rLenSet X) t):=by
 intro pins s σ H Q I h
 have hu:=hr.units
 refine wpAny_Call_Name_kw (eI I hg hm PySem.boot_len ?_)
 refine PyProof.Rows.callWith_builtin1 ?_ gU rfl
 show wpAny _ _ (spliced ((false,eval (.Call (.Name "set" p') [e] [] pos') X.env)::backTo pos (starEach [] X.env))) _ _ s
 refine Calls.spliced_cons ?_
 refine wpAny_Call_Name_kw (eI I hg' hm' boot_set ?_)
 refine PyProof.Rows.callWith_type1 (thn (ha pos' pins s σ H _ I h) fun us s1 zz1=>?_) he rfl
 obtain⟨vs,H1,I1,r1,q1⟩:=zz1
 obtain⟨a,ys,ds,rfl,hS,hD,hn,tup,q⟩:=q1
 obtain⟨u,rfl,r2⟩:=gt r1
 cases r2
 obtain⟨its,rv,pl,hz⟩:=I1.list hS
 have hd0:=d5 I1 hD rv
 refine iE hr.hd pl.isList (by rw[zc4];exact hd0) (by rw[zag,← rv.length];exact hn) tup (by omega) fun h' tk es ep tb dl hset old hlt=>?_
 refine Calls.spliced_nil ?_
 have I2:Inv X pins σ H1 { s1 with heap:=h',toks:=tk }:=I1.kept old
 have esn:es.size=dl.length:=by rw[← hset.dat.length,za0,za8]
 have small:dl.length≤ds.length:=List.Nodup.length_le_of_subset hset.nodup fun x hx=>(hset.mem x).mp hx
 have hl63:=line63
 show wpAny (model X.prog X.w) X.A (call (.builtin "len") [.ref s1.heap.objs.size]) _ _ { s1 with heap:=h',toks:=tk }
 refine call_len_set (s:={ s1 with heap:=h',toks:=tk }) hset.get ⟨rfl,rfl,rfl⟩ rfl hset.ok.tab.fits ?_ ⟨.int dl.length,H1,I2.tok _,⟨tk+1,by rw[esn]⟩,q dl hset.nodup hset.mem⟩
 have:=hD.length
 omega
end
end BF
namespace BF
open PySem PySem.Spec PyProof.Rows L2 PySem.W
instance:DecidableEq Dt:=fun a b=>decidable_of_iff (Dt.beq a b=true) (Dt.beq_iff a b)
theorem Dt.dec_eq(a b:Dt):decide (a=b)=Dt.beq a b:=by
 cases h:Dt.beq a b with
 | true=>exact decide_eq_true ((Dt.beq_iff a b).mp h)
 | false=>exact decide_eq_false fun z=>by rw[(Dt.beq_iff a b).mpr z]at h;cases h
mutual
def jz:Dt→Nat
 | .int _=>1
 | .str _=>1
 | .tup l=>jZ l+1
def jZ:List Dt→Nat
 | []=>0
 | d::l=>jz d+jZ l
end
section
variable{prog:Program}{w:World}{E:Value→Shared→Prop}
set_option maxRecDepth 100000 in
mutual
theorem pyHash_X:∀ (d:Dt) (v:Value) (A:Around) (s:Shared) (Q:Int→Shared→Prop),DatH s.heap v d→A.units+d.dp<cLine→Q (bc w d) { s with toks:=s.toks+jz d }→wpAny (model prog w) A (pyHash v) Q E s
 | .int i,_,A,s,Q,.int _ t,hu,h=>wpAny_pyHash_int (by rw[bc,jz]at h;exact h)
 | .str x,_,A,s,Q,.str _ t,hu,h=>wpAny_pyHash_str (by rw[bc,jz]at h;exact h)
 | .tup ds,_,A,s,Q,.tup (a:=a) (items:=items) ho hc hd r,hu,h=>by
  have hu':A.units+(Dt.dps ds+1)<cLine:=by simpa only[Dt.dp] using hu
  refine pyHash_slot (T:="tuple") ⟨_,ho,hc⟩ F.slot_tuple_hash F.entry_tuple_hash (F.args_tuple_hash_1 _) (beq_builtin_none _) (.inr (by omega)) ?_
  show wpAny _ _ (Builtin.Tuple.tupleItemsOf (.ref a)>>=_) _ _ s
  refine wpAny_bind (wpAny_tupleItemsOf ho hd ?_)
  refine wpAny_bind ?_
  rw[← Array.forIn_toList]
  refine hashLoop_X ds items.toList A.in1 s #[] _ r (by simp only[Around.in1_units];omega) fun b hb=>?_
  show wpAny _ _ (retInt (Builtin.Tuple.tupleHashOf b.toList)) _ _ _
  rw[hb]
  exact wpAny_bind (wpAny_mkInt (wpAny_pure ⟨_,_,rfl,by rw[bc,jz,← Nat.add_assoc]at h;exact h⟩))
theorem hashLoop_X:∀ (ds:List Dt) (vs:List Value) (A:Around) (s:Shared) (b:Array Int) (Q:Array Int→Shared→Prop),ay s.heap vs ds→A.units+Dt.dps ds<cLine →
  (∀ b',b'.toList=b.toList++gI w ds→Q b' { s with toks:=s.toks+jZ ds }) →
  wpAny (model prog w) A (forIn vs b fun x r=>do let h ← pyHash x;pure PUnit.unit;pure (ForInStep.yield (r.push h))) Q E s
 | [],_,A,s,b,Q,.nil,_,h=>wpAny_pure (h b (by simp[gI]))
 | d::ds,_,A,s,b,Q,.cons q t,hu,h=>by
  simp only[Dt.dps]at hu
  rw[zcf]
  refine wpAny_bind (wpAny_bind (pyHash_X d _ A s _ q (by omega) ?_))
  refine wpAny_bind (wpAny_pure (wpAny_pure ?_))
  refine hashLoop_X ds _ A _ _ Q t (by omega) fun b' hb=>?_
  have:=h b' (by simp[hb,gI])
  rw[jZ,← Nat.add_assoc]at this
  exact this
end
end
mutual
theorem DatH.but{h h':Heap}{c:Addr}{o:Obj}{es:Array DictEntry}{ep:Nat}(ho:h.get? c=some o)(hd:o.data=.dict es ep)(k:Heap.SameBut c h h'):∀ {d:Dt} {v:Value},DatH h v d→DatH h' v d
 | _,_,.int i t=>.int i t
 | _,_,.str x t=>.str x t
 | .tup ds,_,.tup (a:=a) ho' hc hd' r=>.tup (k.extBut _ _ (fun z=>by
   rw[z,ho]at ho'
   cases ho'
   rw[hd]at hd'
   cases hd') ho') hc hd' (ay.but ho hd k r)
theorem ay.but{h h':Heap}{c:Addr}{o:Obj}{es:Array DictEntry}{ep:Nat}(ho:h.get? c=some o)(hd:o.data=.dict es ep)(k:Heap.SameBut c h h'):∀ {ds:List Dt} {vs:List Value},ay h vs ds→ay h' vs ds
 | []=>by intro g;cases g;exact .nil
 | d::ds=>by
  intro g
  cases g with
  | cons q t=>exact .cons (DatH.but ho hd k q) (ay.but ho hd k t)
end
def dN(prog:Program)(w:World):HeapKind prog w Dt where
 is:=fun h d a=>DatH h (.ref a) d∧d.dp≤8
 hash:=bc w
 draws:=jz
 room:=fun A=>A.units+9<cLine
 inj:=fun hx hy=>DatH.inj hx.1 hy.1
 keeps:=fun x ho hd hs=>⟨x.1.but ho hd hs,x.2⟩
 pyHash:=fun hu hk h=>pyHash_X _ _ _ _ _ hk.1 (by have:=hk.2;omega) h
 eqBool:=fun {A E s x y a b Q} hu hx hy h=>jx A hx.1 hy.1 (by have:=hx.2;omega) _ _ _ _ (by rw[← Dt.dec_eq];exact h)
 quiet:=fun hk h=>jR _ _ 8 _ _ _ hk.1 hk.2 h
end BF
namespace BF
open PySem PySem.Spec PyProof.Rows L2
def cw(P:Program)(w:World)(h:Heap)(D:Addr)(xs:List (Dt×Addr×Value)):Prop:=∃ o es ep,h.get? D=some o∧o.ExactDict∧o.data=.dict es ep∧es.toList=xs.map (entryOfKey (dN P w))∧(xs.map (·.1)).Nodup
theorem cw.full{P:Program}{w:World}{h:Heap}{D:Addr}{xs:List (Dt×Addr×Value)}(p:cw P w h D xs)(k:∀ x∈xs,DatH h (.ref x.2.1) x.1∧x.1.dp≤8):h.DictOfH (dN P w) D xs:=by
 obtain⟨o,es,ep,a,b,c,d,e⟩:=p
 exact⟨o,es,ep,a,b,c,d,k,e⟩
theorem cw.of{P:Program}{w:World}{h:Heap}{D:Addr}{xs:List (Dt×Addr×Value)}(p:h.DictOfH (dN P w) D xs):cw P w h D xs:=by
 obtain⟨o,es,ep,a,b,c,d,_,e⟩:=p
 exact⟨o,es,ep,a,b,c,d,e⟩
theorem cw.keep{P:Program}{w:World}{h h':Heap}{D:Addr}{xs:List (Dt×Addr×Value)}(p:cw P w h D xs)(k:∀ o,h.get? D=some o→h'.get? D=some o):cw P w h' D xs:=by
 obtain⟨o,es,ep,a,b,c,d,e⟩:=p
 exact⟨o,es,ep,k o a,b,c,d,e⟩
theorem jE(xs:List (Dt×Addr×Value))(k:Dt)(a:Addr)(v:Value):(storedH xs k a v).length≤xs.length+1:=by
 unfold storedH
 split
 ·rw[za0];omega
 ·rw[za1];exact za4 _
theorem jD{xs:List (Dt×Addr×Value)}{k:Dt}{a:Addr}{v:Value}{x:Dt×Addr×Value}(h:x∈storedH xs k a v):(x.1=k∧x.2.1=a)∨∃ y∈xs,x.1=y.1∧x.2.1=y.2.1:=by
 unfold storedH at h
 split at h
 ·obtain⟨y,hy,rfl⟩:=za6.mp h
  right
  refine⟨y,hy,?_⟩
  unfold putAt
  split<;>exact⟨rfl,rfl⟩
 ·rcases za9.mp h with h | h
  ·exact .inr ⟨x,h,rfl,rfl⟩
  ·rw[za7]at h
   rw[h]
   exact .inl ⟨rfl,rfl⟩
theorem i6(xs:List (Dt×Addr×Value))(k:Dt):(atKey xs k).isSome=true↔k∈xs.map (·.1):=by
 unfold atKey
 rw[Option.isSome_map,List.find?_isSome]
 constructor
 ·rintro⟨x,hx,h⟩
  exact za6.mpr ⟨x,hx,of_decide_eq_true h⟩
 ·intro h
  obtain⟨x,hx,rfl⟩:=za6.mp h
  exact⟨x,hx,decide_eq_true rfl⟩
section
variable{prog:Program}{w:World}{A:Around}{R:Result→Shared→Prop}{I:Addr}{fp wr:List Addr}{St:Nat→Heap→Prop}
end
def dicO(P:Program)(w:World)(a:Addr)(xs:List (Dt×Addr×Value)):HO:=.ext fun h=>cw P w h a xs
structure DicH(P:Program)(w:World)(H:Hp)(a:Addr)(xs:List (Dt×Addr×Value)):Prop where
 at_:H a=some (dicO P w a xs)
 sys:(a==sysModules)=false
 len:xs.length≤1000
 key:∀ x∈xs,DtIs H (.ref x.2.1) x.1∧x.1.dp≤8
theorem DicH.same{P:Program}{w:World}{H H':Hp}{a:Addr}{xs:List (Dt×Addr×Value)}(d:DicH P w H a xs)(s:Same H H'):DicH P w H' a xs :=
 ⟨s _ _ d.at_,d.sys,d.len,fun x hx=>⟨(d.key x hx).1.same s,(d.key x hx).2⟩⟩
section
variable{X:Cx}{pins:List (Addr×Obj)}{σ:L2.St}{H:Hp}{s:Shared}
theorem eN{a:Addr}{xs:List (Dt×Addr×Value)}(I:Inv X pins σ H s)(d:DicH X.prog X.w H a xs):s.heap.DictOfH (dN X.prog X.w) a xs:=by
 have ok:=I.hok a _ d.at_
 exact cw.full ok.1 fun x hx=>⟨c9 I (d.key x hx).1 rfl,(d.key x hx).2⟩
end
section
variable{X:Cx}
def rNotInD(P:Program)(w:World):R2:=fun x y H Q=>∃ (b a:Addr) (d:Dt) (xs:List (Dt×Addr×Value)),x=.ref b∧y=.ref a∧DtIs H (.ref b) d∧d.dp≤8∧DicH P w H a xs∧Q (.bl (!decide (d∈xs.map (·.1)))) H
def rInD(P:Program)(w:World):R2:=fun x y H Q=>∃ (b a:Addr) (d:Dt) (xs:List (Dt×Addr×Value)),x=.ref b∧y=.ref a∧DtIs H (.ref b) d∧d.dp≤8∧DicH P w H a xs∧Q (.bl (decide (d∈xs.map (·.1)))) H
theorem gW{k:Nat}(hr:Room k X.A):OpR X (compareOp .NotIn) (rNotInD X.prog X.w):=by
 intro pins s σ H x y v u Q I rx ry h
 obtain⟨b,a,d,xs,rfl,rfl,hd,h8,hdic,q⟩:=h
 have hu:=hr.units
 cases rx
 cases ry
 refine wpAny_notIn_heap (knd:=dN X.prog X.w) (k:=d) (by show X.A.units+1+9<cLine;omega) ⟨c9 I hd rfl,h8⟩ hdic.sys (eN I hdic) ?_
 have e:(atKey xs d).isSome=decide (d∈xs.map (·.1)):=by
  cases hs:(atKey xs d).isSome with
  | true=>exact(decide_eq_true ((i6 xs d).mp hs)).symm
  | false=>exact(decide_eq_false fun z=>by rw[(i6 xs d).mpr z]at hs;cases hs).symm
 rw[e]
 exact⟨.bl _,H,I.tok _,rfl,q⟩
theorem op_inD{k:Nat}(hr:Room k X.A):OpR X (compareOp .In) (rInD X.prog X.w):=by
 intro pins s σ H x y v u Q I rx ry h
 obtain⟨b,a,d,xs,rfl,rfl,hd,h8,hdic,q⟩:=h
 have hu:=hr.units
 cases rx
 cases ry
 refine wpAny_in_heap (knd:=dN X.prog X.w) (k:=d) (by show X.A.units+1+9<cLine;omega) ⟨c9 I hd rfl,h8⟩ hdic.sys (eN I hdic) ?_
 have e:(atKey xs d).isSome=decide (d∈xs.map (·.1)):=by
  cases hs:(atKey xs d).isSome with
  | true=>exact(decide_eq_true ((i6 xs d).mp hs)).symm
  | false=>exact(decide_eq_false fun z=>by rw[(i6 xs d).mpr z]at hs;cases hs).symm
 rw[e]
 exact⟨.bl _,H,I.tok _,rfl,q⟩
end
abbrev KD:List (Dt×V)→List (Dt×Addr×Value)→Prop:=Paired fun(p:Dt×V) (q:Dt×Addr×Value)=>p.1=q.1∧RelV p.2 q.2.2
theorem KD.val{kvs:List (Dt×V)}{xs:List (Dt×Addr×Value)}(r:KD kvs xs)(k:Dt):RelO (valV kvs k) ((atKey xs k).map (·.2)):=by
 induction r with
 | nil=>exact True.intro
 | @cons p q ps qs h t ih =>
  obtain⟨h1,h2⟩:=h
  by_cases e:p.1=k
  ·have e':q.1=k:=h1.symm.trans e
   have b:atKey (q::qs) k=some q.2:=by simp[atKey,zc3,e']
   rw[cb e,b];exact h2
  ·have e':¬ q.1=k:=fun z=>e (h1.trans z)
   have b:atKey (q::qs) k=atKey qs k:=by simp[atKey,zc3,e']
   rw[cc e,b];exact ih
theorem KD.repl{kvs:List (Dt×V)}{xs:List (Dt×Addr×Value)}(r:KD kvs xs)(k:Dt){y:V}{u:Value}(ry:RelV y u):KD (kvs.map fun kv=>if kv.1=k then (kv.1,y) else kv) (xs.map (putAt k u)):=by
 induction r with
 | nil=>exact .nil
 | @cons p q ps qs h t ih =>
  rw[zay,zay]
  refine .cons ?_ ih
  obtain⟨h1,h3⟩:=h
  unfold putAt
  by_cases e:p.1=k
  ·rw[if_pos e,if_pos (h1.symm.trans e)];exact⟨h1,ry⟩
  ·rw[if_neg e,if_neg (fun z=>e (h1.trans z))];exact⟨h1,h3⟩
theorem KD.put{kvs:List (Dt×V)}{xs:List (Dt×Addr×Value)}(r:KD kvs xs)(k:Dt){b:Addr}{y:V}{u:Value}(ry:RelV y u):KD (putK kvs k y) (storedH xs k b u):=by
 have e:(kvs.any fun kv=>decide (kv.1=k))=(atKey xs k).isSome:=by
  rw[cD,(r.val k).isSome_eq,Option.isSome_map]
 unfold putK storedH
 rw[e]
 by_cases q:(atKey xs k).isSome=true
 ·rw[if_pos q,if_pos q];exact r.repl k ry
 ·rw[if_neg q,if_neg q];exact Paired.snoc r ⟨rfl,ry⟩
def DicV(P:Program)(w:World)(H:Hp)(a:Addr)(kvs:List (Dt×V)):Prop:=∃ xs,DicH P w H a xs∧KD kvs xs
theorem DicV.same{P:Program}{w:World}{H H':Hp}{a:Addr}{kvs:List (Dt×V)}(d:DicV P w H a kvs)(s:Same H H'):DicV P w H' a kvs:=by
 obtain⟨xs,h,r⟩:=d
 exact⟨xs,h.same s,r⟩
theorem DicV.ext{P:Program}{w:World}{H:Hp}{a:Addr}{kvs:List (Dt×V)}(d:DicV P w H a kvs):∃ φ,H a=some (.ext φ):=by
 obtain⟨xs,h,_⟩:=d
 exact⟨_,h.at_⟩
mutual
theorem DtIs.updX{H:Hp}{a:Addr}{φ:Heap→Prop}{o:HO}(ha:H a=some (.ext φ)):∀ {d:Dt} {v:V},DtIs H v d→DtIs (upd H a o) v d
 | .int i,_,.int _=>.int i
 | .str x,_,.str _=>.str x
 | .tup ds,_,.tup (a:=b) e q=>.tup (by
   have:b≠a:=fun z=>by rw[z,ha]at e;cases e
   rw[af this];exact e) (ac.updX ha q)
theorem ac.updX{H:Hp}{a:Addr}{φ:Heap→Prop}{o:HO}(ha:H a=some (.ext φ)):∀ {ds:List Dt} {vs:List V},ac H vs ds→ac (upd H a o) vs ds
 | []=>by intro g;cases g;exact .nil
 | d::ds=>by
  intro g
  cases g with
  | cons q t=>exact .cons (DtIs.updX ha q) (ac.updX ha t)
end
section
variable{X:Cx}
def tDNewD(P:Program)(w:World):TE:=fun _ H Q=>∀ a o,H a=none→DicV P w (upd H a o) a []→Q (.ref a) (upd H a o)
theorem eX{pos:Pos}:PE X (.Dict [] [] pos) (tDNewD X.prog X.w):=fun pins s σ H Q I h=>by
 have fr:=I.hok.fresh (za4 s.heap.objs.size)
 have dp:cw X.prog X.w (s.heap.push { cls:=.type "dict",data:=.dict #[] }) s.heap.objs.size []:=.of (Heap.DictOfH.new s.heap)
 refine wpAny_Dict_empty ⟨.ref s.heap.objs.size,_,I.laid (a:=s.heap.objs.size) (o:=dicO X.prog X.w s.heap.objs.size []) (t':=s.toks) (fun _ _ q=>Heap.get?_push_of_some _ q) (za4 _) ⟨dp,⟨_,Heap.get?_push_size _ rfl⟩,fun h1 h2 p1 k=>p1.keep k⟩,rfl,h _ _ fr ⟨[],⟨a6,?_,zba _,fun _ hx=>nomatch hx⟩,.nil⟩⟩
 exact beq_eq_false_iff_ne.mpr (zc9 I.big)
def tDGetD(P:Program)(w:World)(td ty:TE):TE:=fun σ H Q=>td σ H fun x H1=>ty σ H1 fun y H2=>∃ a b d kvs v,x=.ref a∧y=.ref b∧DtIs H2 (.ref b) d∧d.dp≤8∧DicV P w H2 a kvs∧valV kvs d=some v∧Q v H2
theorem gG{k:Nat}{o i:Expr}{td ty:TE}{pos:Pos}(hr:Room k X.A)(ho:PE X o td)(hi:PE X i ty)(hs:NoSl i):PE X (.Subscript o i pos) (tDGetD X.prog X.w td ty):=by
 intro pins s σ H Q I h
 have hu:=hr.units
 refine subD_of PySem.F.slot_dict_getitem.lookup hs (thn (ho pins s σ H _ I h) fun u s1 zz1=>?_)
 obtain⟨x,H1,I1,rx,q1⟩:=zz1
 refine thn (hi pins s1 σ H1 _ I1 q1) fun iv s2 zz2=>?_
 obtain⟨y,H2,I2,ry,a,b,d,kvs,v,ex,ey,hd,h8,⟨xs,dic,r⟩,hv,q2⟩:=zz2
 subst ex ey
 obtain rfl:u=Value.ref a:=rx
 obtain rfl:iv=Value.ref b:=ry
 have full:=eN I2 dic
 have rel:=r.val d
 rw[hv]at rel
 cases hk:atKey xs d with
 | none=>rw[hk]at rel;exact absurd rel id
 | some p =>
  rw[hk]at rel
  refine⟨full.typeIs,wpAny_getItem_heap (knd:=dN X.prog X.w) (by show X.A.units+1+9<cLine;omega) ⟨c9 I2 hd rfl,h8⟩ full hk ⟨v,H2,I2.tok _,rel,q2⟩⟩
def sDPutD(P:Program)(w:World)(td ty tv:TE):TS:=fun D σ H=>tv σ H fun v H1=>td σ H1 fun x H2=>ty σ H2 fun y H3=>∃ a b d kvs,x=.ref a∧y=.ref b∧DtIs H3 (.ref b) d∧d.dp≤8∧DicV P w H3 a kvs∧kvs.length<1000 ∧
 ∀ o,DicV P w (upd H3 a o) a (putK kvs d v)→D.nx σ (upd H3 a o)
theorem eV{k:Nat}{o i value:Expr}{td ty tv:TE}{pos' pos:Pos}(hr:Room k X.A)(ho:PE X o td)(hi:PE X i ty)(hv:PE X value tv)(hs:swapsWith value (some (.Subscript o i pos')) pos.line X.env=pure false) :
  PS X (.Assign [.Subscript o i pos'] value pos) (sDPutD X.prog X.w td ty tv):=by
 intro pins s σ H D I h
 have hu:=hr.units
 refine wpAny_Assign_Subscript (thn (hv pins s σ H _ I h) fun r s1 zz1=>?_) hs
 obtain⟨v,H1,I1,rv,q1⟩:=zz1
 refine thn (ho pins s1 σ H1 _ I1 q1) fun u s2 zz2=>?_
 obtain⟨x,H2,I2,rx,q2⟩:=zz2
 refine thn (hi pins s2 σ H2 _ I2 q2) fun iv s3 zz3=>?_
 obtain⟨y,H3,I3,ry,a,b,d,kvs,ex,ey,hd,h8,⟨xs,dic,rel⟩,hl,q3⟩:=zz3
 subst ex ey
 obtain rfl:u=Value.ref a:=rx
 obtain rfl:iv=Value.ref b:=ry
 have full:=eN I3 dic
 have xl:xs.length<1000:=by rw[← Paired.length rel];exact hl
 refine wpAny_setItem_heap (knd:=dN X.prog X.w) (k:=d) (by show X.A.units+1+9<cLine;omega) ⟨c9 I3 hd rfl,h8⟩ full (fun h' dd' hsb=>?_) (sz (by omega))
 have dp:cw X.prog X.w h' a (storedH xs d b r):=.of dd'
 refine⟨σ,upd H3 a (dicO X.prog X.w a (storedH xs d b r)),d_write I3 (by rw[dic.at_];exact True.intro) hsb (let ⟨q,_,_,hq,_⟩:=dd';⟨q,hq⟩) ⟨dp,(let ⟨q,_,_,hq,_⟩:=dd';⟨q,hq⟩),fun h1 h2 p1 k=>p1.keep k⟩,q3 _ ⟨_,⟨a6,dic.sys,?_,fun z hz=>?_⟩,rel.put d rv⟩⟩
 ·exact zb1 (jE _ _ _ _) (by omega)
 ·rcases jD hz with ⟨z1,z2⟩ | ⟨y,hy,z1,z2⟩
  ·rw[z1,z2];exact⟨DtIs.updX dic.at_ hd,h8⟩
  ·rw[z1,z2];exact⟨DtIs.updX dic.at_ (dic.key y hy).1,(dic.key y hy).2⟩
end
end BF
namespace BF
open PySem PySem.Spec PyProof.Rows L2 PySem.SeqAt
open Classical in
noncomputable def dOf (h:Heap) (y:Value):Dt:=if e:∃ d,DatH h y d then Classical.choose e else .int 0
theorem dOf_eq{h:Heap}{y:Value}{d:Dt}(q:DatH h y d):dOf h y=d:=by
 unfold dOf
 rw[dif_pos ⟨d,q⟩]
 exact DatH.inj (Classical.choose_spec (⟨d,q⟩:∃ d,DatH h y d)) q
theorem any_dOf{h:Heap}{d:Dt}:∀ {us:List Value} {ds:List Dt},ay h us ds→(us.any fun y=>Dt.beq (dOf h y) d)=ds.any fun d'=>Dt.beq d' d
 | _,_,.nil=>rfl
 | _,_,.cons q t=>by rw[List.any_cons,List.any_cons,dOf_eq q,any_dOf t]
section
variable{X:Cx}
end
end BF
namespace BF
open PySem PySem.Spec PyProof.Rows L2
def DRaw(h:Heap)(d:Addr)(ks:List Value)(ep:Nat):Prop:=∃ o es,h.get? d=some o∧o.ExactDict∧o.data=.dict es ep∧es.toList.map (·.key)=ks
theorem DRaw.at'{h h':Heap}{d:Addr}{ks:List Value}{ep:Nat}(q:DRaw h d ks ep)(k:∀ o,h.get? d=some o→h'.get? d=some o):DRaw h' d ks ep:=let ⟨o,es,ho,r⟩:=q;⟨o,es,k o ho,r⟩
theorem DRaw.lt{h:Heap}{d:Addr}{ks:List Value}{ep:Nat}(q:DRaw h d ks ep):d<h.objs.size:=let ⟨_,_,ho,_⟩:=q;Heap.lt_size ho
theorem DRaw.typeIs{s:Shared}{d:Addr}{ks:List Value}{ep:Nat}(q:DRaw s.heap d ks ep):s.TypeIs (.ref d) "dict":=let ⟨o,_,ho,hc,_⟩:=q;⟨o,ho,hc.1⟩
section
variable{P:Program}{w:World}{A:Around}{E:Value→Shared→Prop}{s:Shared}{d it:Addr}{ks:List Value}{ep n:Nat}
theorem drw_iter{Q:Value→Shared→Prop}(hd:(d==sysModules)=false)(q:DRaw s.heap d ks ep)
  (z:Q (.ref s.heap.objs.size) { s with heap:=s.heap.push { cls:=.type "dict_keyiterator",data:=.fields #[.ref d,.int 0 0,.int ks.length 0,.int ep 0] } }):wpAny (model P w) A (pyIter (.ref d)) Q E s:=by
 obtain⟨o,es,ho,hc,dat,ek⟩:=id q
 have ty:=q.typeIs
 refine wpAny_pyIter_slot ty F.slot_dict_iter (wpAny_call_entry F.slot_dict_iter ty F.entry_dict_iter ?_ (F.args_dict_iter_1 _))
 unfold Builtin.«dict.__iter__»;refine wpAny_bind ?_;unfold Builtin.Dict.dictSlotNone;refine wpAny_bind (wpAny_notOrdered_dict ty ?_)
 show wpAny _ _ (pure (Value.ref d)) _ _ _
 refine wpAny_pure ?_;show wpAny _ _ (Builtin.Dict.showsAll d>>=_) _ _ _;unfold Builtin.Dict.showsAll
 rw[if_neg (fun e=>by rw[hd]at e;cases e)]
 refine wpAny_bind (wpAny_pure (wpAny_bind (wpAny_dictEntries ho dat (wpAny_bind (wpAny_dictEpoch ho dat ?_)))))
 have hn:es.size=ks.length:=by rw[← ek,za0,za8]
 refine wpAny_bind (wpAny_newObj_type (wpAny_pure ⟨_,rfl,"dict_keyiterator",_,⟨_,Heap.get?_push_size _ rfl,rfl⟩,F.slot_dict_keyiterator_next.lookup,by simpa [rawInt,hn] using z⟩))
theorem drw_item{u:Value}{Q:Option Value→Shared→Prop}(ik:s.heap.IsKeyIter it d n ks.length ep)(q:DRaw s.heap d ks ep)(hu:ks[n]?=some u)
  (z:∀ h',h'.IsKeyIter it d (n+1) ks.length ep→Heap.SameBut it s.heap h'→Q (some u) { s with heap:=h' }):wpAny (model P w) A (pyNext (.ref it)) Q E s:=by
 obtain⟨o,ho,hc,dat⟩:=id ik
 obtain⟨od,es,hod,hcd,dd,ek⟩:=id q
 have hn:es.size=ks.length:=by rw[← ek,za0,za8]
 unfold pyNext
 refine wpAny_bind (wpAny_attempt (wpAny_callSpecial?_slot (name:=Str.ofString "__next__") ik.typeIs F.slot_dict_keyiterator_next (wpAny_call_entry F.slot_dict_keyiterator_next ik.typeIs F.entry_dict_keyiterator_next ?_ (F.args_dict_keyiterator_next_1 _))))
 refine wpAny_bind (wpAny_pure (wpAny_bind (wpAny_bind ?_)))
 first | refine wpAny_bind (wpAny_typeNameOfWhole_keyiter ik.typeIs (wpAny_pure ?_)) | refine wpAny_bind (wpAny_typeNameOf_keyiter ik.typeIs (wpAny_pure ?_))
 refine wpAny_bind (wpAny_fieldsOf ho dat ?_)
 have own:Builtin.Dict_items.ownsTuple "dict_keyiterator"=false:=by decide
 simp only[own,zab,if_false]
 show wpAny _ _ (if (Value.ref d==Value.none)=true then _ else _) _ _ _
 rw[if_neg (fun e:(Value.ref d==Value.none)=true=>zaj e)]
 refine wpAny_bind (wpAny_pure (wpAny_bind (wpAny_dictEntries hod dd ?_)))
 rw[if_neg (by rw[hn];simp)]
 refine wpAny_bind (wpAny_pure (wpAny_bind (wpAny_dictEpoch hod dd ?_)))
 rw[if_neg (by simp)];refine wpAny_pure ?_
 have lt:n<es.size:=by rw[hn];exact(za3.mp hu).1
 have key:es[n].key=u:=by
  rw[← ek,zao,zaq,zaf lt]at hu
  exact Option.some.inj hu
 simp only[show ¬ ((n:Int)<0) from by omega,if_false,Int.toNat_natCast,zaf lt]
 refine wpAny_bind ?_;first | refine wpAny_bind (wpAny_typeNameOfWhole_keyiter ik.typeIs (wpAny_pure ?_)) | refine wpAny_bind (wpAny_typeNameOf_keyiter ik.typeIs (wpAny_pure ?_))
 refine wpAny_bind (wpAny_isOneOf_keyiter ik.typeIs ?_)
 show wpAny _ _ (setField (.ref it) 1 (rawInt ((n:Int)+1))>>=_) _ _ s
 refine wpAny_bind (wpAny_setField ho dat (by simp) ?_)
 have ik':(s.heap.update it (Obj.mapFields (·.setIfInBounds 1 (rawInt ((n:Int)+1))))).IsKeyIter it d (n+1) ks.length ep :=
  ⟨_,Heap.get?_update_self _ ho (Obj.isFreed_of_fields (Obj.data_mapFields dat _)),(Obj.cls_mapFields ..).trans hc,by rw[Obj.data_mapFields dat];simp[rawInt]⟩
 refine wpAny_bind (wpAny_holding (wpAny_bind (wpAny_isOneOf_keyiter (s:={ s with heap:=s.heap.update it (Obj.mapFields (·.setIfInBounds 1 (rawInt ((n:Int)+1)))) }) ik'.typeIs ?_)))
 show wpAny _ _ (pure es[n].key) _ _ _
 rw[key]
 exact wpAny_pure (wpAny_pure ⟨_,rfl,wpAny_pure (z _ ik' (Heap.SameBut.update ..))⟩)
theorem drw_end{Q:Option Value→Shared→Prop}(hh:A.handled=none)(ik:s.heap.IsKeyIter it d n ks.length ep)(q:DRaw s.heap d ks ep)(hu:ks[n]?=none)
  (z:∀ h',Heap.ExtBut it s.heap h'→Q none { s with heap:=h' }):wpAny (model P w) A (pyNext (.ref it)) Q E s:=by
 obtain⟨o,ho,hc,dat⟩:=id ik
 obtain⟨od,es,hod,hcd,dd,ek⟩:=id q
 have hn:es.size=ks.length:=by rw[← ek,za0,za8]
 unfold pyNext
 refine wpAny_bind (wpAny_attempt (wpAny_callSpecial?_slot (name:=Str.ofString "__next__") ik.typeIs F.slot_dict_keyiterator_next (wpAny_call_entry F.slot_dict_keyiterator_next ik.typeIs F.entry_dict_keyiterator_next ?_ (F.args_dict_keyiterator_next_1 _))))
 refine wpAny_bind (wpAny_pure (wpAny_bind (wpAny_bind ?_)))
 first | refine wpAny_bind (wpAny_typeNameOfWhole_keyiter ik.typeIs (wpAny_pure ?_)) | refine wpAny_bind (wpAny_typeNameOf_keyiter ik.typeIs (wpAny_pure ?_))
 refine wpAny_bind (wpAny_fieldsOf ho dat ?_)
 have own:Builtin.Dict_items.ownsTuple "dict_keyiterator"=false:=by decide
 simp only[own,zab,if_false]
 show wpAny _ _ (if (Value.ref d==Value.none)=true then _ else _) _ _ _
 rw[if_neg (fun e:(Value.ref d==Value.none)=true=>zaj e)]
 refine wpAny_bind (wpAny_pure (wpAny_bind (wpAny_dictEntries hod dd ?_)))
 rw[if_neg (by rw[hn];simp)]
 refine wpAny_bind (wpAny_pure (wpAny_bind (wpAny_dictEpoch hod dd ?_)))
 rw[if_neg (by simp)];refine wpAny_pure ?_
 have ge:es.size≤n:=by rw[hn];simpa using hu
 simp only[show ¬ ((n:Int)<0) from by omega,if_false,Int.toNat_natCast,zc5 ge]
 refine wpAny_bind ?_;first | refine wpAny_bind (wpAny_typeNameOfWhole_keyiter ik.typeIs (wpAny_pure ?_)) | refine wpAny_bind (wpAny_typeNameOf_keyiter ik.typeIs (wpAny_pure ?_))
 show wpAny _ _ (setField (.ref it) 0 .none>>=_) _ _ s
 refine wpAny_bind (wpAny_setField ho dat (by simp) ?_)
 show wpAny _ _ (newExc (.type "StopIteration") []>>=_) _ _ (_:Shared)
 refine wpAny_bind ?_;simp only[newExc,newTuple];refine wpAny_bind (wpAny_newObj_type ?_ (by size_fits));refine wpAny_bind (m:=firstArgMember _ _) (wpAny_of_eq (a:=Value.none) (by first | rfl | (simp only[firstArgMember];rfl)) ?_)
 refine wpAny_newObj_type ?_ (by size_fits);simp only[raiseNew];refine wpAny_bind (wpAny_handled ?_)
 first | rw[show A.in1.handled=none from hh] | rw[hh]
 refine wpAny_bind (wpAny_pure (wpAny_throw ?_))
 exact wpAny_bind (wpAny_isInstance (T:="StopIteration") (b:=true) ⟨_,Heap.get?_push_size _ rfl,rfl⟩ isSubtype_stop (wpAny_pure (z _ (((Heap.SameBut.update ..).extBut.push _).push _))))
theorem walks_drw(hh:A.handled=none)(I d:Addr)(ne:d≠I)(ks:List Value)(ep:Nat) :
  Walks P w A I [I,d] [I] ks.length (fun i v=>ks[i]?=some v) (fun i h=>h.IsKeyIter I d i ks.length ep∧DRaw h d ks ep) where
 sub:=fun b hb=>by simp at hb;simp[hb]
 frame:=fun _ _ _ st k=>⟨st.1.at fun o e=>k I (by simp) o e,st.2.at' fun o e=>k d (by simp) o e⟩
 item:=fun i s Q E hi st z=>by
  refine drw_item st.1 st.2 (za2 hi) fun h' ik sb=>?_
  exact z _ h' s.toks (za2 hi) ⟨ik,st.2.at' fun o e=>sb.extBut _ _ ne e⟩ fun b o hb e=>sb.extBut b o (fun t=>hb (by simp[t])) e
 done:=fun s Q E st z=>drw_end hh st.1 st.2 (by simp) fun h' sb=>z h' s.toks fun b o hb e=>sb b o (fun t=>hb (by simp[t])) e
 self:=fun _ _ _ _ st z=>wpAny_pyIter_keyiter st.1 z
theorem src_drw(lo:(d==sysModules)=false):PySem.W.KdlSrc P w "dict" d d ks.length (fun i v=>ks[i]?=some v) (fun h=>DRaw h d ks ep) where
 type:=fun _ q=>q.typeIs
 there:=fun _ q=>⟨q.lt,q.lt⟩
 keep:=fun _ _ q k=>q.at' fun o e=>k d (.inl rfl) o e
 notList:=by decide
 notTuple:=by decide
 hint:=fun _ _ _ _ q z=>PySem.W.kdl_hint_dict q.typeIs z
 iter:=fun _ _ hh q=>⟨_,_,(fun _ _ z=>drw_iter lo q z),walks_drw hh _ d (zap q.lt) ks ep,⟨⟨_,Heap.get?_push_size _ rfl,rfl,rfl⟩,q.at' fun o e=>Heap.get?_push_of_some _ e⟩⟩
theorem items_eq{P':Nat→Value→Prop}{acc:Array Value}(h:ItemsOf (fun i v=>ks[i]?=some v) acc ks.length):acc.toList=ks:=by
 obtain⟨h1,h2⟩:=h
 apply List.ext_getElem?
 intro i
 by_cases hi:i<ks.length
 ·have:=h2 i (acc[i]'(by omega)) (by simp[show i<acc.size by omega])
  rw[this,zaq,zaf (by omega)]
 ·rw[zbg (by rw[za8];omega),zbg (by omega)]
theorem collect_drw(hh:A.handled=none)(lo:(d==sysModules)=false)(q:DRaw s.heap d ks ep)(hz:ks.length≤sizeLine){Q:List Value→Shared→Prop}
  (k:∀ (h':Heap) tk,(∀ b o,s.heap.get? b=some o→h'.get? b=some o)→Q ks { s with heap:=h',toks:=tk }):wpAny (model P w) A (collect (.ref d)) Q E s:=by
 unfold collect
 refine wpAny_bind (wpAny_runValue (codeAny_builtin PySem.F.entry_proto_collect ?_))
 rw[Around.under_plainId PySem.F.plain_proto_collect _]
 have hlt:=q.lt
 have g0:(s.heap.push (seqObj "list" #[] 0)).get? s.heap.objs.size=some (seqObj "list" #[] 0):=Heap.get?_push_size _ rfl
 have q1:DRaw (s.heap.push (seqObj "list" #[] 0)) d ks ep:=q.at' fun o e=>Heap.get?_push_of_some _ e
 show wpAny _ A.in1 (newList []>>=fun b=>again (.builtin "list.__iadd__" ⟨[b,.ref d],[]⟩)) _ _ s
 refine wpAny_bind (wpAny_newList (wpAny_pure ⟨plainId_quiet PySem.F.plain_list_iadd _,codeAny_builtin PySem.F.entry_list_iadd ?_⟩))
 rw[Around.under_plainId PySem.F.plain_list_iadd _]
 show wpAny _ A.in1 (Builtin.List.listExtendWith (.ref s.heap.objs.size) (.ref d) (.ref s.heap.objs.size)) _ _ { s with heap:=s.heap.push (seqObj "list" #[] 0) }
 have ne:s.heap.objs.size≠d:=Ne.symm (zap hlt)
 refine PySem.W.kdl_extend (R:=fun r s'=>match r with
  | .ok (.ret v)=>wpAny (model P w) A (match v with
   | .ref a=>do
    match (← load a).data with
    | .seq xs _=>pure xs.toList
    | _=>unsupported "internal:collect"
   | _=>unsupported "internal:collect") Q E s'
  | .ok _=>False
  | .error e=>E e s') (s:={ s with heap:=s.heap.push (seqObj "list" #[] 0) }) (src_drw lo) hh q1 s.heap.objs.size ne ne (.ref s.heap.objs.size) 0 g0 (fun h' tk acc c kk gS it=>?_) hz
 show wpAny _ A (load s.heap.objs.size>>=_) _ _ _
 refine wpAny_bind (wpAny_load (s:={ s with heap:=h',toks:=tk }) gS (wpAny_pure ?_))
 have e:acc.toList=ks:=items_eq (P':=fun _ _=>True) it
 show Q acc.toList _
 rw[e]
 exact k h' tk fun b o eb=>kk b o (fun t=>by rw[t]at eb;exact absurd (Heap.lt_size eb) (zbv _)) (Heap.get?_push_of_some _ eb)
end
end BF
namespace BF
open PySem PySem.Spec PyProof.Rows L2 PySem.SeqAt
theorem KD.keys{kvs:List (Dt×V)}{xs:List (Dt×Addr×Value)}(r:KD kvs xs):kvs.map (·.1)=xs.map (·.1):=by
 induction r with
 | nil=>rfl
 | cons h _ ih=>rw[zay,zay,ih,h.1]
theorem vals_refs(xs:List (Dt×Addr×Value)):Vals (xs.map fun x=>V.ref x.2.1) (xs.map fun x=>Value.ref x.2.1):=by
 induction xs with
 | nil=>exact .nil
 | cons x _ ih=>exact .cons rfl ih
theorem j5{P:Program}{w:World}{H:Hp}:∀ {xs:List (Dt×Addr×Value)},(∀ x∈xs,DtIs H (.ref x.2.1) x.1∧x.1.dp≤8)→ac H (xs.map fun x=>V.ref x.2.1) (xs.map (·.1))
 | [],_=>.nil
 | x::xs,h=>.cons (h x zad).1 (j5 (P:=P) (w:=w) fun y hy=>h y (zac _ hy))
section
variable{X:Cx}
theorem raw_of{pins:List (Addr×Obj)}{σ:L2.St}{H:Hp}{s:Shared}{a:Addr}{xs:List (Dt×Addr×Value)}(I:Inv X pins σ H s)(d:DicH X.prog X.w H a xs):∃ ep,DRaw s.heap a (xs.map fun x=>Value.ref x.2.1) ep:=by
 obtain⟨o,es,ep,ho,hc,dat,ek,_⟩:=eN I d
 refine⟨ep,o,es,ho,hc,dat,?_⟩
 rw[ek,List.map_map]
 rfl
theorem gn{k:Nat}(hr:Room k X.A):gf X (.builtin "sorted") (fun xs H Q=>∃ (a:Addr) (kvs:List (Dt×V)) (T:String),xs=[.ref a]∧DicV X.prog X.w H a kvs∧(∀ p∈kvs,∃ e r,p.1=.tup (e::r)∧e.tag=T)∧(∀ p∈kvs,∀ p'∈kvs,Dt.like p.1 p'.1=true) ∧
  ∀ l zs es,H l=none→ac H zs es→es.Perm (kvs.map (·.1))→es.Pairwise (fun d d'=>Dt.blt d' d=false)→Q (.ref l) (upd H l (.lst zs))):=by
 intro pins s σ H xs us Q I r h
 obtain⟨a,kvs,T,rfl,⟨ys,dic,kd⟩,hT,hL,q⟩:=h
 have hu:=hr.units
 obtain⟨u,rfl,rx⟩:=gt r
 cases rx
 obtain⟨ep,raw⟩:=raw_of I dic
 have hk:=kd.keys
 have kmem:∀ d∈ys.map (·.1),∃ p∈kvs,p.1=d:=fun d hd=>by
  rw[← hk]at hd
  obtain⟨p,hp,e⟩:=za6.mp hd
  exact⟨p,hp,e⟩
 have dk:=j5 (P:=X.prog) (w:=X.w) (H:=H) dic.key
 refine Calls.call_function_entry kind_sorted plain_sorted entry_sorted (args_sorted1 _) ?_
 unfold Builtin.«sorted»
 refine wpAny_bind (m:=checkCount "sorted" 1 1 _) (wpAny_pure (wpAny_bind (collect_drw (A:=X.A.in1) (show X.A.in1.handled=none from hr.hd) dic.sys raw (by rw[za0];exact sz dic.len) fun h' tk kk=>?_)))
 have I2:Inv X pins σ H { s with heap:=h',toks:=tk }:=I.kept kk
 refine sort_tail (T:=T) I2 (vals_refs ys) (by rw[za0];exact sz dic.len) dk (fun d hd=>?_) (fun d1 h1 d2 h2=>?_) (fun d hd=>?_) fun l zz ez h3 pz dz pe srt hl J=>?_
 ·obtain⟨p,hp,rfl⟩:=kmem d hd
  exact hT p hp
 ·obtain⟨p1,hp1,rfl⟩:=kmem d1 h1
  obtain⟨p2,hp2,rfl⟩:=kmem d2 h2
  exact hL p1 hp1 p2 hp2
 ·obtain⟨x,hx,rfl⟩:=za6.mp hd
  have:=(dic.key x hx).2
  show X.A.units+1+4+_<_
  omega
 ·exact⟨_,rfl,.ref l,upd H l (.lst zz),J,rfl,q l zz ez hl dz (by rw[hk];exact pe) srt⟩
end
end BF
namespace BF
open PySem PySem.Spec PyProof.Rows L2
section
variable{X:Cx}{o e:Expr}{es:List Expr}{to:TE}{t:TA}{name:Str}{apos cpos:Pos}{id:String}{r:V→List V→Hp→VK→Prop}
def tBMD(P:Program)(w:World)(r:V→List V→Hp→VK→Prop)(to:TE)(t:TA):TE:=fun σ H Q=>to σ H fun x H1=>(∃ a kvs,x=.ref a∧DicV P w H1 a kvs)∧t σ H1 fun xs H2=>r x xs H2 Q
theorem ju(slot:Slot "dict" name id)(hty:typeOf (.builtin id)=pure (.type "method_descriptor"))(hm:MtR X id r)(ho:PE X o to)(ha:PA X (e::es) t)
  (hbase:attributeBase o name X.env (eval o X.env)=eval o X.env:=by rfl)
  (hfew:((backTo cpos (starEach (e::es) X.env)).all (fun x=>!x.1)&&(backToKw cpos (keywordEach [] X.env)).all (fun x=>x.1.isSome)&&decide ((e::es).length+([]:List Keyword).length+(if ([]:List Keyword).isEmpty then 0 else 1)<30))=true:=by rfl)
  (hline:(apos.endLine==cpos.line)=true:=by rfl) (hs:starEach (e::es) X.env=(false,eval e X.env)::starEach es X.env:=by rfl) (hplain:(backTo cpos (starEach es X.env)).any (·.1)=false:=by rfl) :
  PE X (.Call (.Attribute o name apos) (e::es) [] cpos) (tBMD X.prog X.w r to t):=by
 intro pins s σ H Q I h
 refine wpAny_Call_method_late hbase hfew hline rfl (thn (ho pins s σ H _ I h) fun v s1 zz1=>?_)
 obtain⟨x,H1,I1,r1,⟨a,kvs,ex,⟨xs,dic,_⟩⟩,q1⟩:=zz1
 subst ex
 cases r1
 obtain⟨ob,_,_,e1,ex,_⟩:=eN I1 dic
 refine⟨"dict",id,F.plainAttrs_dict,slot,hty,⟨ob,e1,ex.1⟩,fun b e2=>by cases e2;exact⟨ob,e1,ex.2.1⟩,?_⟩
 have hA:=ha cpos pins s1 σ H1 _ I1 q1
 rw[hs]at hA ⊢
 refine Calls.callWith_builtin (by show(false||(backTo cpos (starEach es X.env)).any (·.1))=false;rw[hplain]<;>rfl) (Calls.evalArgs_plain (thn hA fun us s2 ⟨vs,H2,I2,r2,q2⟩=>hm pins s2 σ H2 (.ref a) vs (.ref a) us Q I2 rfl r2 q2))
end
section
variable{P:Program}{w:World}{A:Around}{E:Value→Shared→Prop}{s:Shared}{K:Type}[DecidableEq K]{knd:HeapKind P w K}
theorem setDef_heap{d a:Addr}{xs:List (K×Addr×Value)}{k:K}{v:Value}{Q:Value→Shared→Prop}(hu:knd.room A)(hkey:knd.is s.heap k a)(hm:s.heap.DictOfH knd d xs)
  (h1:∀ p,atKey xs k=some p→Q p.2 { s with toks:=s.toks+knd.draws k })
  (h2:atKey xs k=none→∀ h',h'.DictOfH knd d (storedH xs k a v)→Heap.SameBut d s.heap h'→Q v { s with heap:=h',toks:=s.toks+knd.draws k }) (hsz:xs.length≤sizeLine) :
  wpAny (model P w) A (dictSetDefault d (.ref a) v) Q E s:=by
 obtain⟨o,es,ep,ho,hc,hd,he,his,hn⟩:=hm
 unfold dictSetDefault;try with_reducible refine wpAny_holding ?_
 refine wpAny_bind (knd.pyHash hu hkey (wpAny_bind (wpAny_dictFind_heap (s:={ s with toks:=s.toks+knd.draws k }) hu hkey ho hd he his hn (fun hno=>?_) fun j p hj=>?_)))
 ·have hnot:k∉xs.map (·.1):=not_mem_keys_of_get hno
  refine wpAny_bind (wpAny_rule (wpAny_bind (wpAny_updateDictKeys (hz:=by have e:=size_of_entries he;omega) (s:={ s with toks:=s.toks+knd.draws k }) ho hd (wpAny_pure (h2 (atKey_none_of_get hno) _ ⟨_,_,ep+1,Heap.get?_update_self _ ho (Obj.isFreed_of_dict (Obj.data_mapDictKeys hd _)),hc.mapDictKeys _,Obj.data_mapDictKeys hd _,?_,fun x hx=>?_,?_⟩ (Heap.SameBut.update ..))))))
  ·rw[storedH_new (atKey_none_of_get hno)];simp[he,entryOfKey]
  ·rw[storedH_new (atKey_none_of_get hno)]at hx
   rcases za9.mp hx with hx | hx
   ·exact knd.keeps (his x hx) ho hd (Heap.SameBut.update ..)
   ·have e':=za7.mp hx
    subst e'
    exact knd.keeps hkey ho hd (Heap.SameBut.update ..)
  ·rw[storedH_new (atKey_none_of_get hno),zar,zbu]
   refine⟨hn,by simp,fun x hx y hy e'=>?_⟩
   have ey:=za7.mp hy
   rw[e',ey]at hx
   exact hnot hx
 ·refine wpAny_bind (wpAny_dictEntries (s:={ s with toks:=s.toks+knd.draws k }) ho hd ?_)
  rw[entry_at he j,hj]
  exact wpAny_bind (wpAny_rule (wpAny_pure (h1 p (atKey_of_get hn hj))))
end
section
variable{X:Cx}
theorem mt_getD{k:Nat}(hr:Room k X.A):MtR X "dict.get" (fun x vs H Q=>∃ (a b:Addr) (d:Dt) (kvs:List (Dt×V)) (v:V),x=.ref a∧vs=[.ref b,v]∧DtIs H (.ref b) d∧d.dp≤8∧DicV X.prog X.w H a kvs∧Q ((valV kvs d).getD v) H):=by
 intro pins s σ H x vs v us Q I rx rv h
 obtain⟨a,b,d,kvs,y,rfl,rfl,hd,h8,⟨xs,dic,kd⟩,q⟩:=h
 have hu:=hr.units
 cases rx
 cases rv with
 | cons r1 r2 =>
  cases r2 with
  | cons r2 r3 =>
   cases r3
   cases r1
   rename_i dv
   have full:=eN I dic
   refine wpAny_call_entry F.slot_dict_get full.typeIs F.entry_dict_get ?_ (F.args_dict_get_3 _ _ _)
   show wpAny _ _ (dictGet a (.ref b)>>=_) _ _ s
   refine wpAny_bind (wpAny_dictGet_heap (knd:=dN X.prog X.w) (k:=d) (by show X.A.units+1+9<cLine;omega) ⟨c9 I hd rfl,h8⟩ full ?_)
   have rel:=kd.val d
   cases hk:(atKey xs d).map (·.2) with
   | some p =>
    rw[hk]at rel
    cases hv:valV kvs d with
    | none=>rw[hv]at rel;exact absurd rel id
    | some u=>rw[hv]at rel q;exact wpAny_pure ⟨p,rfl,u,H,I.tok _,rel,q⟩
   | none =>
    rw[hk]at rel
    cases hv:valV kvs d with
    | some u=>rw[hv]at rel;exact absurd rel id
    | none =>
     rw[hv]at q
     show wpAny _ _ (Builtin.Dict.missed a (.ref b)>>=_) _ _ _
     exact wpAny_bind (wpAny_missed_other dic.sys (wpAny_pure ⟨dv,rfl,y,H,I.tok _,r2,q⟩))
theorem mt_setDef{k:Nat}(hr:Room k X.A):MtR X "dict.setdefault" (fun x vs H Q=>∃ (a b:Addr) (d:Dt) (kvs:List (Dt×V)) (v:V),x=.ref a∧vs=[.ref b,v]∧DtIs H (.ref b) d∧d.dp≤8∧DicV X.prog X.w H a kvs∧kvs.length<1000 ∧
  (∀ u,valV kvs d=some u→Q u H)∧(valV kvs d=none→∀ o,DicV X.prog X.w (upd H a o) a (putK kvs d v)→Q v (upd H a o))):=by
 intro pins s σ H x vs v us Q I rx rv h
 obtain⟨a,b,d,kvs,y,rfl,rfl,hd,h8,⟨xs,dic,kd⟩,hl,q1,q2⟩:=h
 have hu:=hr.units
 cases rx
 cases rv with
 | cons r1 r2 =>
  cases r2 with
  | cons r2 r3 =>
   cases r3
   cases r1
   rename_i dv
   have full:=eN I dic
   have xl:xs.length<1000:=by rw[← Paired.length kd];exact hl
   have rel:=kd.val d
   refine wpAny_call_entry F.slot_dict_setdefault full.typeIs F.entry_dict_setdefault ?_ (F.args_dict_setdefault_3 _ _ _)
   unfold Builtin.«dict.setdefault»
   refine wpAny_bind ?_;unfold Builtin.Dict.keyAndDefault;refine wpAny_bind (wpAny_notOrdered_dict full.typeIs ?_)
   show wpAny _ _ (pure (a,Value.ref b,some dv)) _ _ s
   refine wpAny_pure ?_
   show wpAny _ _ (if (a==sysModules)=true then _ else (dictSetDefault a (.ref b) dv>>=_)) _ _ s
   rw[if_neg (fun e=>by rw[dic.sys]at e;cases e)]
   refine wpAny_bind (setDef_heap (knd:=dN X.prog X.w) (k:=d) (by show X.A.units+1+9<cLine;omega) ⟨c9 I hd rfl,h8⟩ full (fun p hp=>?_) (fun hno h' dd' hsb=>?_) (sz (by omega)))
   ·rw[hp]at rel
    cases hv:valV kvs d with
    | none=>rw[hv]at rel;exact absurd rel id
    | some u=>rw[hv]at rel;exact wpAny_pure ⟨p.2,rfl,u,H,I.tok _,rel,q1 u hv⟩
   ·rw[hno]at rel
    cases hv:valV kvs d with
    | some u=>rw[hv]at rel;exact absurd rel id
    | none =>
     have dp:cw X.prog X.w h' a (storedH xs d b dv):=.of dd'
     refine wpAny_pure ⟨dv,rfl,y,upd H a (dicO X.prog X.w a (storedH xs d b dv)),d_write I (by rw[dic.at_];exact True.intro) hsb (let ⟨q,_,_,hq,_⟩:=dd';⟨q,hq⟩) ⟨dp,(let ⟨q,_,_,hq,_⟩:=dd';⟨q,hq⟩),fun h1 h2 p1 k=>p1.keep k⟩,r2,q2 hv _ ⟨_,⟨a6,dic.sys,?_,fun z hz=>?_⟩,kd.put d r2⟩⟩
     ·exact zb1 (jE _ _ _ _) (by omega)
     ·rcases jD hz with ⟨z1,z2⟩ | ⟨y',hy,z1,z2⟩
      ·rw[z1,z2];exact⟨DtIs.updX dic.at_ hd,h8⟩
      ·rw[z1,z2];exact⟨DtIs.updX dic.at_ (dic.key y' hy).1,(dic.key y' hy).2⟩
end
abbrev Ho:=Int×Int
abbrev Ln:=Ho×Ho
def lnD(a:Ln):Dt:=.tup [hD a.1,hD a.2]
theorem bZ{p q:Ho}(h:hD p=hD q):p=q:=eqv_two.mp h
theorem lnD_inj{a b:Ln}(h:lnD a=lnD b):a=b:=by
 have h':[hD a.1,hD a.2]=[hD b.1,hD b.2]:=by unfold lnD at h;exact Dt.tup.inj h
 simp only[List.cons.injEq,and_true]at h'
 exact Prod.ext (bZ h'.1) (bZ h'.2)
theorem hD_like(p q:Ho):Dt.like (hD p) (hD q)=true:=by simp[hD,Dt.like,Dt.likes]
theorem lnD_like(a b:Ln):Dt.like (lnD a) (lnD b)=true:=by simp[lnD,hD,Dt.like,Dt.likes]
theorem lnD_dp(a:Ln):(lnD a).dp=2:=by simp[lnD,hD,Dt.dp,Dt.dps]
theorem iC(p:Ho):(hD p).dp=1:=by simp[hD,Dt.dp,Dt.dps]
theorem valV_no{kvs:List (Dt×V)}{d:Dt}(h:¬ d∈kvs.map (·.1)):valV kvs d=none:=by
 cases hv:valV kvs d with
 | none=>rfl
 | some v=>exact absurd (dW hv) h
theorem putK_mem(kvs:List (Dt×V))(k:Dt)(v:V)(d:Dt):d∈(putK kvs k v).map (·.1)↔d=k∨d∈kvs.map (·.1):=by
 constructor
 ·intro h
  by_cases e:d=k
  ·exact .inl e
  ·right
   cases hv:valV kvs d with
   | some u=>exact dW hv
   | none =>
    have h2:=cm kvs k d v
    rw[if_neg e,hv]at h2
    exact absurd h (iH h2)
 ·rintro(e | e)
  ·have h2:=cm kvs k d v
   rw[if_pos e]at h2
   exact dW h2
  ·by_cases e':d=k
   ·have h2:=cm kvs k d v
    rw[if_pos e']at h2
    exact dW h2
   ·have h2:=cm kvs k d v
    rw[if_neg e']at h2
    cases hv:valV kvs d with
    | some u=>rw[hv]at h2;exact dW h2
    | none=>exact absurd e (iH hv)
theorem putK_nd(kvs:List (Dt×V))(k:Dt)(v:V)(hn:(kvs.map (·.1)).Nodup):((putK kvs k v).map (·.1)).Nodup:=by
 cases hv:valV kvs k with
 | none=>exact nd_putK v hn hv
 | some u =>
  have e:(putK kvs k v).map (·.1)=kvs.map (·.1):=by
   unfold putK
   rw[if_pos (by rw[cD,hv];rfl),List.map_map]
   apply List.map_congr_left
   intro p _
   show(if p.1=k then (p.1,v) else p).1=p.1
   split<;>rfl
  rw[e]
  exact hn
theorem fD(kvs:List (Dt×V))(k:Dt)(v:V):(putK kvs k v).length≤kvs.length+1:=by
 unfold putK
 split
 ·rw[za0];omega
 ·simp
set_option genInjectivity false in
structure ZK(P:Program)(w:World) where
 It:Heap→Addr→Addr→Nat→Prop
 Sq:Heap→Addr→Array Value→Prop
 itAt:∀ {h h':Heap} {i l:Addr} {k:Nat},It h i l k→(∀ o,h.get? i=some o→h'.get? i=some o)→It h' i l k
 itHas:∀ {h:Heap} {i l:Addr} {k:Nat},It h i l k→∃ o,h.get? i=some o∧∀ v,o.data≠.cell v
 sqAt:∀ {h h':Heap} {l:Addr} {xs:Array Value},Sq h l xs→(∀ o,h.get? l=some o→h'.get? l=some o)→Sq h' l xs
 nxt:∀ {A:Around} {s:Shared} {i l:Addr} {k:Nat} {xs:Array Value} {x:Value} {Q:Value→Shared→Prop} {E:Value→Shared→Prop},It s.heap i l k→Sq s.heap l xs→xs[k]?=some x →
  (∀ h',It h' i l (k+1)→Heap.SameBut i s.heap h'→Q x { s with heap:=h' })→wpAny (model P w) A (Builtin.SmallTypes.nextOf (.ref i)) Q E s
 fin:∀ {A:Around} {s:Shared} {i l:Addr} {k:Nat} {xs:Array Value} {Q:Value→Shared→Prop} {E:Value→Shared→Prop},A.handled=none→It s.heap i l k→Sq s.heap l xs→xs[k]?=none →
  (∀ h' e,Heap.ExtBut i s.heap h'→(∃ o,h'.get? e=some o∧o.cls=.type "StopIteration")→E (.ref e) { s with heap:=h' })→wpAny (model P w) A (Builtin.SmallTypes.nextOf (.ref i)) Q E s
section
variable{P:Program}{w:World}{A:Around}{E:Value→Shared→Prop}{s:Shared}
end
def zkLst(P:Program)(w:World):ZK P w where
 It:=fun h i l k=>h.IsListIter i l k
 Sq:=fun h l xs=>h.IsList l xs
 itAt:=fun st k=>st.at fun o e=>k o e
 itHas:=fun st=>by
  obtain⟨o,e,c,d⟩:=st
  exact⟨o,e,fun v z=>by rw[d]at z;cases z⟩
 sqAt:=fun q k=>q.at fun o e=>k o e
 nxt:=fun a b c d=>wpAny_nextOf_list_item a b c d
 fin:=fun a b c d e=>wpAny_nextOf_list_end a b c d e
section
variable{P:Program}{w:World}{A:Around}{E:Value→Shared→Prop}{s:Shared}{z TI TO i1 i2 l1 l2:Addr}{m:Nat}{xs ys:Array Value}
structure ZAt(Z:ZK P w)(h:Heap)(z TI TO i1 i2 l1 l2:Addr)(m:Nat)(f0:Value):Prop where
 zip:IsZip h z TI TO f0
 ti:IsPair h TI (.ref i1) (.ref i2)
 to:∃ a b,IsPair h TO a b
 n1:Z.It h i1 l1 m
 n2:Z.It h i2 l2 m
theorem ZAt.at{Z:ZK P w}{h h':Heap}{f0:Value}(q:ZAt Z h z TI TO i1 i2 l1 l2 m f0)(k:∀ c,c=z∨c=TI∨c=TO∨c=i1∨c=i2→∀ o,h.get? c=some o→h'.get? c=some o):ZAt Z h' z TI TO i1 i2 l1 l2 m f0:=by
 obtain⟨a,b,e⟩:=q.to
 exact⟨k _ (.inl rfl) _ q.zip,k _ (.inr (.inl rfl)) _ q.ti,⟨a,b,k _ (.inr (.inr (.inl rfl))) _ e⟩,Z.itAt q.n1 (k _ (.inr (.inr (.inr (.inl rfl))))),Z.itAt q.n2 (k _ (.inr (.inr (.inr (.inr rfl)))))⟩
theorem zip_step(Z:ZK P w){x y:Value}{Q:Value→Shared→Prop}(D:ZipApart z TI TO i1 i2 l1 l2)(q:ZAt Z s.heap z TI TO i1 i2 l1 l2 m .none)
  (s1:Z.Sq s.heap l1 xs) (s2:Z.Sq s.heap l2 ys) (hx:xs[m]?=some x) (hy:ys[m]?=some y)
  (k:∀ h',ZAt Z h' z TI TO i1 i2 l1 l2 (m+1) (rawInt s.heap.objs.size)→IsPair h' s.heap.objs.size x y →
   (∀ c o,c≠z→c≠TO→c≠i1→c≠i2→s.heap.get? c=some o→h'.get? c=some o)→Q (.ref s.heap.objs.size) { s with heap:=h' }) :
  wpAny (model P w) A (Builtin.«zip.__next__» ⟨[.ref z],[]⟩) (fun r s'=>∃ v,r=.done (.ret v)∧Q v s') E s:=by
 obtain⟨hz,hi,⟨a,b,ho⟩,n1,n2⟩:=q
 show wpAny _ _ (field (.ref z) 2>>=_) _ _ s
 refine wpAny_bind (wpAny_field hz rfl (x:=.bool false) (by rfl) ?_)
 show wpAny _ _ (field (.ref z) 3>>=_) _ _ s
 refine wpAny_bind (wpAny_field hz rfl (x:=.ref TI) (by rfl) (wpAny_bind (wpAny_seqItems hi rfl ?_)))
 show wpAny _ _ (Builtin.SmallTypes.ownedTupleIsFree (.ref z)>>=_) _ _ s
 refine wpAny_bind ?_;unfold Builtin.SmallTypes.ownedTupleIsFree
 refine wpAny_bind (wpAny_field hz rfl (x:=.none) (by rfl) (wpAny_pure ?_))
 simp only[if_true]
 refine wpAny_bind (wpAny_rule (wpAny_bind (wpAny_field hz rfl (x:=.ref TO) (by rfl) ?_)))
 refine wpAny_bind (wpAny_setField_rec hz (by simp) fun ha za sa=>?_)
 replace za:IsZip ha z TI TO .ellipsis:=za
 refine wpAny_bind ?_;simp only[List.zipIdx_cons,List.zipIdx_nil,zcf,List.forIn_nil]
 refine wpAny_bind (wpAny_bind (wpAny_onRaise ?_));show wpAny _ _ (Builtin.SmallTypes.nextOf (.ref i1)>>=_) _ _ (_:Shared)
 refine wpAny_bind (Z.nxt (Z.itAt n1 fun o e=>sa.extBut _ _ D.i1z e) (Z.sqAt s1 fun o e=>sa.extBut _ _ D.l1z e) hx fun hb nb sb=>wpAny_pure ?_)
 have ob:IsPair hb TO a b:=sb.extBut _ _ D.TOi1 (sa.extBut _ _ D.TOz ho)
 refine wpAny_bind (wpAny_seqItems ob rfl (wpAny_bind (wpAny_updateSeq_pair ob fun hc oc sc=>?_)))
 replace oc:IsPair hc TO x b:=oc
 refine wpAny_bind (wpAny_letGo (wpAny_pure (wpAny_bind (wpAny_bind (wpAny_onRaise ?_)))));show wpAny _ _ (Builtin.SmallTypes.nextOf (.ref i2)>>=_) _ _ (_:Shared)
 have kc:∀ c o,c≠z→c≠TO→c≠i1→s.heap.get? c=some o→hc.get? c=some o:=fun c o c1 c2 c3 e=>sc.extBut _ _ c2 (sb.extBut _ _ c3 (sa.extBut _ _ c1 e))
 refine wpAny_bind (Z.nxt (Z.itAt n2 fun o e=>kc _ o D.i2z D.TOi2.symm D.i12.symm e) (Z.sqAt s2 fun o e=>kc _ o D.l2z D.l2TO D.l2i1 e) hy fun hd nd sd=>wpAny_pure ?_)
 have od:IsPair hd TO x b:=sd.extBut _ _ D.TOi2 oc
 refine wpAny_bind (wpAny_seqItems od rfl (wpAny_bind (wpAny_updateSeq_pair od fun he oe se=>?_)))
 replace oe:IsPair he TO x y:=oe
 refine wpAny_bind (wpAny_letGo (wpAny_pure (wpAny_pure (wpAny_bind (wpAny_seqItems oe rfl (wpAny_bind (wpAny_newTuple ?_)))))))
 have hsz:he.objs.size=s.heap.objs.size:=by rw[se.1,sd.1,sc.1,sb.1,sa.1]
 have ke:∀ c o,c≠TO→c≠i1→c≠i2→ha.get? c=some o→he.get? c=some o:=fun c o c2 c3 c4 e=>se.extBut _ _ c2 (sd.extBut _ _ c4 (sc.extBut _ _ c2 (sb.extBut _ _ c3 e)))
 have ze:IsZip he z TI TO .ellipsis:=ke _ _ D.TOz.symm D.i1z.symm D.i2z.symm za
 have m1:Z.It he i1 l1 (m+1):=Z.itAt nb fun o e=>se.extBut _ _ D.TOi1.symm (sd.extBut _ _ D.i12 (sc.extBut _ _ D.TOi1.symm e))
 have m2:Z.It he i2 l2 (m+1):=Z.itAt nd fun o e=>se.extBut _ _ D.TOi2.symm e
 have zlt:z<he.objs.size:=Heap.lt_size ze
 show wpAny _ _ (Builtin.SmallTypes.ownedTupleHandOut (.ref z) (.ref he.objs.size)>>=_) _ _ (_:Shared)
 refine wpAny_bind ?_;unfold Builtin.SmallTypes.ownedTupleHandOut
 have zf:IsZip (he.push { cls:=.type "tuple",data:=.seq #[x,y] }) z TI TO .ellipsis:=Heap.get?_push_of_some _ ze
 refine wpAny_bind (wpAny_setField_rec zf (by simp) fun hg zg sg=>?_)
 replace zg:IsZip hg z TI TO (rawInt he.objs.size):=zg
 refine wpAny_setField_rec zg (by simp) fun hh zh sh=>?_
 replace zh:IsZip hh z TI TO (rawInt he.objs.size):=zh
 have up:∀ c o,c≠z→he.get? c=some o→hh.get? c=some o:=fun c o c1 e=>sh.extBut _ _ c1 (sg.extBut _ _ c1 (Heap.get?_push_of_some _ e))
 have th:IsPair hh he.objs.size x y:=sh.extBut _ _ (zc9 zlt) (sg.extBut _ _ (zc9 zlt) (Heap.get?_push_size _ rfl))
 rw[hsz]at zh th
 refine wpAny_pure ⟨_,rfl,?_⟩
 show Q (.ref he.objs.size) _
 rw[hsz]
 exact k hh ⟨zh,up _ _ D.TIz (ke _ _ D.TITO D.TIi1 D.TIi2 (sa.extBut _ _ D.TIz hi)),⟨x,y,up _ _ D.TOz oe⟩,Z.itAt m1 fun o e=>up _ o D.i1z e,Z.itAt m2 fun o e=>up _ o D.i2z e⟩ th
  fun c o c1 c2 c3 c4 e=>up c o c1 (ke c o c2 c3 c4 (sa.extBut _ _ c1 e))
theorem zip_stop(Z:ZK P w){Q:Fin→Shared→Prop}(hh:A.handled=none)(D:ZipApart z TI TO i1 i2 l1 l2)(q:ZAt Z s.heap z TI TO i1 i2 l1 l2 m .none)
  (s1:Z.Sq s.heap l1 xs) (s2:Z.Sq s.heap l2 ys) (he:xs[m]?=none∨ys[m]?=none)
  (k:∀ h' e,(∀ c o,c≠z→c≠TO→c≠i1→c≠i2→s.heap.get? c=some o→h'.get? c=some o)→(∃ o,h'.get? e=some o∧o.cls=.type "StopIteration")→E (.ref e) { s with heap:=h' }) :
  wpAny (model P w) A (Builtin.«zip.__next__» ⟨[.ref z],[]⟩) Q E s:=by
 obtain⟨hz,hi,⟨a,b,ho⟩,n1,n2⟩:=q
 show wpAny _ _ (field (.ref z) 2>>=_) _ _ s
 refine wpAny_bind (wpAny_field hz rfl (x:=.bool false) (by rfl) ?_)
 show wpAny _ _ (field (.ref z) 3>>=_) _ _ s
 refine wpAny_bind (wpAny_field hz rfl (x:=.ref TI) (by rfl) (wpAny_bind (wpAny_seqItems hi rfl ?_)))
 show wpAny _ _ (Builtin.SmallTypes.ownedTupleIsFree (.ref z)>>=_) _ _ s
 refine wpAny_bind ?_;unfold Builtin.SmallTypes.ownedTupleIsFree
 refine wpAny_bind (wpAny_field hz rfl (x:=.none) (by rfl) (wpAny_pure ?_))
 simp only[if_true]
 refine wpAny_bind (wpAny_rule (wpAny_bind (wpAny_field hz rfl (x:=.ref TO) (by rfl) ?_)))
 refine wpAny_bind (wpAny_setField_rec hz (by simp) fun ha za sa=>?_)
 replace za:IsZip ha z TI TO .ellipsis:=za
 refine wpAny_bind ?_;simp only[List.zipIdx_cons,List.zipIdx_nil,zcf,List.forIn_nil]
 refine wpAny_bind (wpAny_bind (wpAny_onRaise ?_));show wpAny _ _ (Builtin.SmallTypes.nextOf (.ref i1)>>=_) _ _ (_:Shared)
 cases hx:xs[m]? with
 | none =>
  refine wpAny_bind (Z.fin hh (Z.itAt n1 fun o e=>sa.extBut _ _ D.i1z e) (Z.sqAt s1 fun o e=>sa.extBut _ _ D.l1z e) hx fun hb e sb zz1=>?_)
  obtain⟨oe,he',ce⟩:=zz1
  have zb:IsZip hb z TI TO .ellipsis:=sb _ _ D.i1z.symm za
  have ez:e≠z:=fun t=>by subst t;rw[zb]at he';cases he';simp at ce
  exact wpAny_setField_rec zb (by simp) fun hc _ sc=>k hc e (fun c o c1 _ c3 _ t=>sc.extBut _ _ c1 (sb _ _ c3 (sa.extBut _ _ c1 t))) ⟨oe,sc.extBut _ _ ez he',ce⟩
 | some x =>
  have hy:ys[m]?=none:=he.elim (fun t=>by rw[hx]at t;cases t) id
  refine wpAny_bind (Z.nxt (Z.itAt n1 fun o e=>sa.extBut _ _ D.i1z e) (Z.sqAt s1 fun o e=>sa.extBut _ _ D.l1z e) hx fun hb nb sb=>wpAny_pure ?_)
  have ob:IsPair hb TO a b:=sb.extBut _ _ D.TOi1 (sa.extBut _ _ D.TOz ho)
  refine wpAny_bind (wpAny_seqItems ob rfl (wpAny_bind (wpAny_updateSeq_pair ob fun hc oc sc=>?_)))
  refine wpAny_bind (wpAny_letGo (wpAny_pure (wpAny_bind (wpAny_bind (wpAny_onRaise ?_)))));show wpAny _ _ (Builtin.SmallTypes.nextOf (.ref i2)>>=_) _ _ (_:Shared)
  have kc:∀ c o,c≠z→c≠TO→c≠i1→s.heap.get? c=some o→hc.get? c=some o:=fun c o c1 c2 c3 e=>sc.extBut _ _ c2 (sb.extBut _ _ c3 (sa.extBut _ _ c1 e))
  refine wpAny_bind (Z.fin hh (Z.itAt n2 fun o e=>kc _ o D.i2z D.TOi2.symm D.i12.symm e) (Z.sqAt s2 fun o e=>kc _ o D.l2z D.l2TO D.l2i1 e) hy fun hd e sd zz1=>?_)
  obtain⟨oe,he',ce⟩:=zz1
  have zd:IsZip hd z TI TO .ellipsis:=sd _ _ D.i2z.symm (sc.extBut _ _ D.TOz.symm (sb.extBut _ _ D.i1z.symm za))
  have ez:e≠z:=fun t=>by subst t;rw[zd]at he';cases he';simp at ce
  exact wpAny_setField_rec zd (by simp) fun hf _ sf=>k hf e (fun c o c1 c2 c3 c4 t=>sf.extBut _ _ c1 (sd _ _ c4 (kc c o c1 c2 c3 t))) ⟨oe,sf.extBut _ _ ez he',ce⟩
theorem next_zip(Z:ZK P w){x y:Value}{Q:Option Value→Shared→Prop}(D:ZipApart z TI TO i1 i2 l1 l2)(q:ZAt Z s.heap z TI TO i1 i2 l1 l2 m .none)
  (s1:Z.Sq s.heap l1 xs) (s2:Z.Sq s.heap l2 ys) (hx:xs[m]?=some x) (hy:ys[m]?=some y)
  (k:∀ h',ZAt Z h' z TI TO i1 i2 l1 l2 (m+1) (rawInt s.heap.objs.size)→IsPair h' s.heap.objs.size x y →
   (∀ c o,c≠z→c≠TO→c≠i1→c≠i2→s.heap.get? c=some o→h'.get? c=some o)→Q (some (.ref s.heap.objs.size)) { s with heap:=h' }) :
  wpAny (model P w) A (pyNext (.ref z)) Q E s:=by
 have tz:s.TypeIs (.ref z) "zip":=⟨_,q.zip,rfl⟩
 unfold pyNext
 exact wpAny_bind (wpAny_attempt (wpAny_callSpecial?_slot (name:=Str.ofString "__next__") tz F.slot_zip_next (wpAny_call_entry F.slot_zip_next tz F.entry_zip_next
  (zip_step Z D q s1 s2 hx hy fun h' a b c=>wpAny_pure (k h' a b c)) (F.args_zip_next_1 _))))
theorem next_zip_end(Z:ZK P w){Q:Option Value→Shared→Prop}(hh:A.handled=none)(D:ZipApart z TI TO i1 i2 l1 l2)(q:ZAt Z s.heap z TI TO i1 i2 l1 l2 m .none)
  (s1:Z.Sq s.heap l1 xs) (s2:Z.Sq s.heap l2 ys) (he:xs[m]?=none∨ys[m]?=none)
  (k:∀ h',(∀ c o,c≠z→c≠TO→c≠i1→c≠i2→s.heap.get? c=some o→h'.get? c=some o)→Q none { s with heap:=h' }):wpAny (model P w) A (pyNext (.ref z)) Q E s:=by
 have tz:s.TypeIs (.ref z) "zip":=⟨_,q.zip,rfl⟩
 unfold pyNext
 refine wpAny_bind (wpAny_attempt (wpAny_callSpecial?_slot (name:=Str.ofString "__next__") tz F.slot_zip_next (wpAny_call_entry F.slot_zip_next tz F.entry_zip_next (zip_stop Z hh D q s1 s2 he fun h' e kk ⟨o,ho,co⟩=>?_) (F.args_zip_next_1 _))))
 exact wpAny_bind (wpAny_isInstance (T:="StopIteration") (b:=true) ⟨o,ho,co⟩ isSubtype_stop (wpAny_pure (k _ kk)))
end
section
variable{X:Cx}{pins:List (Addr×Obj)}{σ:L2.St}{H:Hp}{s:Shared}{h':Heap}
theorem eP{t':Nat}{L:List Addr}(I:Inv X pins σ H s)(k:∀ b o,b∉L→s.heap.get? b=some o→h'.get? b=some o)(f:∀ b∈L,FpOk X pins H b):Inv X pins σ H { s with heap:=h',toks:=t' }:=by
 have nl:∀ b u,H b=some u→b∉L:=fun b u e z=>by rw[(f b z).1]at e;cases e
 have hL:X.env.locals∉L:=fun z=>(f _ z).2.1 rfl
 refine I.step (g':=s.gens) (d':=s.drawn) (ch:=L) (fun b hb=>?_) (fun b o _ _ hc e _=>k b o hc e) (fun b o _ _ hc e _=>⟨o.slots,k b o hc e⟩) (fun _ _ _ _ n=>n)
  (fun b o hc e=>⟨o,k b o hc e⟩) (fun _ _ e=>e) (fun _ _ _ e=>e) (fun b ps e=>⟨#[],by rw[e];simp⟩) (fun m hm=>?_) (fun b u e=>?_) I.bare
 ·obtain⟨f0,f1,f2,f3,f4,f5⟩:=f b hb
  exact⟨f3,f1,f4,f5⟩
 ·obtain⟨o,es,ep,ho,r⟩:=hm
  exact⟨o,es,ep,k _ o hL ho,r⟩
 ·refine(I.hok b u e).stay (fun c v hc q=>k c v ?_ q) (fun _ q=>q) fun _ _ q=>q
  rcases hc with z | z
  ·rw[z];exact nl b u e
  ·exact nl c _ z
end
structure ZX(K:PySem.W.Frag)(Sq:Hp→Addr→List V→Prop)(zk:∀ (P:Program) (w:World),ZK P w):Prop where
 get:∀ {X:Cx} {pins:List (Addr×Obj)} {σ:L2.St} {H:Hp} {s:Shared} {a:Addr} {xs:List V},X.K=K→Inv X pins σ H s→Sq H a xs→∃ its:List Value,Vals xs its∧(zk X.prog X.w).Sq s.heap a its.toArray
 inj:∀ {X:Cx} {pins:List (Addr×Obj)} {σ:L2.St} {H:Hp} {s:Shared} {a:Addr} {xs ys:List V},X.K=K→Inv X pins σ H s→Sq H a xs→Sq H a ys→xs=ys
theorem zxLst(K:PySem.W.Frag):ZX K (SqL K) zkLst where
 get:=fun e I h=>by
  subst e
  obtain⟨its,rv,p,hz⟩:=I.list h
  exact⟨its,rv,p.isList⟩
 inj:=fun e I h1 h2=>by subst e;exact I.list_inj h1 h2
def Itz(Sq:Hp→Addr→List V→Prop)(a b:Addr):It :=
  ⟨fun i H=>∃ xs ys x y,Sq H a xs∧Sq H b ys∧xs[i]?=some x∧ys[i]?=some y,
   fun i H v H'=>∃ p x y,v=.ref p∧H p=none∧H'=upd H p (.tup [x,y])∧(∀ xs,Sq H a xs→xs[i]?=some x)∧∀ ys,Sq H b ys→ys[i]?=some y,
   fun i H=>∃ xs ys,Sq H a xs∧Sq H b ys∧(xs.length≤i∨ys.length≤i)⟩
theorem two_size:2≤sizeLine:=by decide
theorem turn_zip{P:Program}{w:World}{K:PySem.W.Frag}{Sq:Hp→Addr→List V→Prop}{zk:∀ (P:Program) (w:World),ZK P w}(Zx:ZX K Sq zk){es:List Expr}{n:Nat}{p:Pos}{z TI TO i1 i2 a b:Addr}(D:ZipApart z TI TO i1 i2 a b) :
  Turn P w K (.Tuple es n p) (Itz Sq a b) [z,TI,TO,i1,i2] z (fun i h=>ZAt (zk P w) h z TI TO i1 i2 a b i .none) where
 mem:=by simp
 obj:=fun i h st c hc=>by
  obtain⟨u,v,e⟩:=st.to
  simp only[zaa,zb7,or_false]at hc
  rcases hc with rfl | rfl | rfl | rfl | rfl
  ·exact⟨_,st.zip,fun v t=>by have t':Data.fields _=Data.cell v:=t;cases t'⟩
  ·exact⟨_,st.ti,fun v t=>by have t':Data.seq _ _=Data.cell v:=t;cases t'⟩
  ·exact⟨_,e,fun v t=>by have t':Data.seq _ _=Data.cell v:=t;cases t'⟩
  ·exact(zk P w).itHas st.n1
  ·exact(zk P w).itHas st.n2
 keep:=fun i h h' st k=>st.at fun c hc o e=>k c (by rcases hc with rfl | rfl | rfl | rfl | rfl<;>simp) o e
 item:=by
  intro X hP hw hK hc i pins s σ H E I hf st hg
  subst hP hw
  obtain⟨xs,ys,x,y,qa,qb,hx,hy⟩:=hg
  obtain⟨us,ru,pu⟩:=Zx.get hK I qa
  obtain⟨vs,rv,pv'⟩:=Zx.get hK I qb
  obtain⟨u,hu,eu⟩:=ru.get hx
  obtain⟨v,hv,ev⟩:=rv.get hy
  have nfp:∀ c∈[z,TI,TO,i1,i2],c≠s.heap.objs.size:=fun c hc' t=>by
   obtain⟨a',b',e⟩:=st.to
   have lt:c<s.heap.objs.size:=by
    simp only[zaa,zb7,or_false]at hc'
    rcases hc' with rfl | rfl | rfl | rfl | rfl
    ·exact Heap.lt_size st.zip
    ·exact Heap.lt_size st.ti
    ·exact Heap.lt_size e
    ·obtain⟨o,e',_⟩:=(zk X.prog X.w).itHas st.n1;exact Heap.lt_size e'
    ·obtain⟨o,e',_⟩:=(zk X.prog X.w).itHas st.n2;exact Heap.lt_size e'
   exact absurd lt (by rw[t];exact zbv _)
  refine next_zip (zk X.prog X.w) D st pu pv' (x:=u) (y:=v) (by simpa using hu) (by simpa using hv) fun h1 st1 pr k1=>?_
  refine⟨_,rfl,wpAny_letOwnedTupleGo_zip (s:={ s with heap:=h1 }) st1.zip fun h2 z2 sb=>?_⟩
  have hfr:H s.heap.objs.size=none:=I.hok.fresh (za4 _)
  have Im:Inv X pins σ (upd H s.heap.objs.size (.tup [x,y])) { s with heap:=s.heap.push { cls:=.type "tuple",data:=.seq #[u,v] },toks:=s.toks } :=
   I.laid (fun b o e=>Heap.get?_push_of_some _ e) (za4 _) ⟨two_size,[u,v],.cons eu (.cons ev .nil),⟨_,Heap.get?_push_size _ rfl,rfl,_,rfl⟩⟩
  have ff:∀ c∈[z,TI,TO,i1,i2],FpOk X pins (upd H s.heap.objs.size (.tup [x,y])) c:=fun c hc'=>by
   obtain⟨f0,fr⟩:=hf c hc'
   exact⟨by rw[af (nfp c hc')];exact f0,fr⟩
  have kk:∀ c o,c∉[z,TI,TO,i1,i2]→(s.heap.push { cls:=.type "tuple",data:=.seq #[u,v] }).get? c=some o→h2.get? c=some o:=fun c o hc' e=>by
   have cz:c≠z:=fun t=>hc' (by simp[t])
   rcases Heap.get?_push_cases e with ⟨rfl,rfl⟩ | e
   ·exact sb.extBut _ _ cz pr
   ·exact sb.extBut _ _ cz (k1 c o cz (fun t=>hc' (by simp[t])) (fun t=>hc' (by simp[t])) (fun t=>hc' (by simp[t])) e)
  have I2:=eP (h':=h2) (t':=s.toks) Im kk ff
  refine⟨.ref s.heap.objs.size,upd H s.heap.objs.size (.tup [x,y]),I2,rfl,⟨_,x,y,rfl,hfr,rfl,fun xs' q=>?_,fun ys' q=>?_⟩,?_,fun c hc'=>(ff c hc').1⟩
  ·rw[Zx.inj hK I q qa];exact hx
  ·rw[Zx.inj hK I q qb];exact hy
  ·obtain⟨a',b',e⟩:=st1.to
   have k2:∀ c,c≠z→∀ o,h1.get? c=some o→h2.get? c=some o:=fun c cz o e=>sb.extBut _ _ cz e
   exact⟨z2,k2 _ D.TIz _ st1.ti,⟨a',b',k2 _ D.TOz _ e⟩,(zk X.prog X.w).itAt st1.n1 (k2 _ D.i1z),(zk X.prog X.w).itAt st1.n2 (k2 _ D.i2z)⟩
 done:=by
  intro X hP hw hK hc i pins s σ H E I hf st hg
  subst hP hw
  obtain⟨xs,ys,qa,qb,he⟩:=hg
  obtain⟨us,ru,pu⟩:=Zx.get hK I qa
  obtain⟨vs,rv,pv'⟩:=Zx.get hK I qb
  have l1:=ru.length
  have l2:=rv.length
  exact next_zip_end (zk X.prog X.w) (I.ok.hd hc) D st pu pv' (he.elim (fun t=>.inl (by simp;omega)) fun t=>.inr (by simp;omega)) fun h1 k1 =>
   ⟨rfl,eP (t':=s.toks) (L:=[z,TI,TO,i1,i2]) I (fun c o hc' e=>k1 c o (fun t=>hc' (by simp[t])) (fun t=>hc' (by simp[t])) (fun t=>hc' (by simp[t])) (fun t=>hc' (by simp[t])) e) hf⟩
 self:=fun _ _ _ _ _ st h=>wpAny_pyIter_zip st.zip h
section
variable{P:Program}{w:World}{A:Around}{E:Value→Shared→Prop}{s:Shared}
theorem call_zipL{a b:Addr}{xs ys:Array Value}{Q:Value→Shared→Prop}(t1:s.heap.IsList a xs)(t2:s.heap.IsList b ys)
  (k:∀ h',ZAt (zkLst P w) h' (s.heap.objs.size+4) (s.heap.objs.size+2) (s.heap.objs.size+3) s.heap.objs.size (s.heap.objs.size+1) a b 0 .none→(∀ c o,s.heap.get? c=some o→h'.get? c=some o)→Q (.ref (s.heap.objs.size+4)) { s with heap:=h' }) :
  wpAny (model P w) A (call (.type "zip") [.ref a,.ref b]) Q E s :=
 call_zip_2 t1 t2 fun h' a1 a2 a3 a4 a5 _ kk=>k h' ⟨a1,a2,⟨_,_,a3⟩,a4,a5⟩ kk
end
section
variable{X:Cx}
def iZip(Sq:Hp→Addr→List V→Prop)(ta:TA):TI:=fun σ H R=>ta σ H fun vs H1=>∃ a b xs ys,vs=[.ref a,.ref b]∧Sq H1 a xs∧Sq H1 b ys∧R (Itz Sq a b) H1
theorem zip_it{Sq:Hp→Addr→List V→Prop}{zk:∀ (P:Program) (w:World),ZK P w}(Zx:ZX X.K Sq zk){es:List Expr}{n:Nat}{p:Pos}{pins:List (Addr×Obj)}{σ:L2.St}{H:Hp}{s:Shared}{a b:Addr}{h':Heap}{R:It→Hp→Prop}{E:Value→Shared→Prop}
  (I:Inv X pins σ H s) (la:a<s.heap.objs.size) (lb:b<s.heap.objs.size) (st:ZAt (zk X.prog X.w) h' (s.heap.objs.size+4) (s.heap.objs.size+2) (s.heap.objs.size+3) s.heap.objs.size (s.heap.objs.size+1) a b 0 .none)
  (k:∀ c o,s.heap.get? c=some o→h'.get? c=some o) (q:R (Itz Sq a b) H) :
  wpAny (model X.prog X.w) X.A (pyIter (.ref (s.heap.objs.size+4))) (PIE X pins σ (.Tuple es n p) R) E { s with heap:=h' }:=by
 refine wpAny_pyIter_zip (s:={ s with heap:=h' }) st.zip ?_
 refine⟨_,_,_,_,H,rfl,I.kept (t':=s.toks) k,turn_zip Zx (zipApart_new la lb),st,fun c hc=>?_,q⟩
 have hs:s.heap.objs.size≤c:=by
  simp only[zaa,zb7,or_false]at hc
  rcases hc with rfl | rfl | rfl | rfl | rfl
  ·exact Nat.le_add_right _ 4
  ·exact Nat.le_add_right _ 2
  ·exact Nat.le_add_right _ 3
  ·exact za4 _
  ·exact Nat.le_add_right _ 1
 exact I.fpOk hs (I.hok.fresh hs)
theorem pi_zipL{es:List Expr}{n:Nat}{pt:Pos}{a b:Expr}{ta:TA}{p pos:Pos}(hg:Gl X "zip")(hm:X.mg "zip"=none)(ha:PA X [a,b] ta)(hs:starEach [a,b] X.env=[(false,eval a X.env),(false,eval b X.env)]:=by rfl)(hs2:starEach [b] X.env=[(false,eval b X.env)]:=by rfl) :
  PI X (.Tuple es n pt) (.Call (.Name "zip" p) [a,b] [] pos) (iZip (SqL X.K) ta):=by
 intro pins s σ H R I h
 refine Call_ (eI I hg hm boot_zip (PyProof.Rows.callWith_type1 (thn (ha pos pins s σ H _ I h) fun us s1 ⟨vs,H1,I1,r1,q1⟩=>?_) (by rw[hs,hs2]) (by rw[hs2];rfl)))
 obtain⟨x,y,xs,ys,e,qx,qy,q⟩:=q1
 subst e
 cases r1 with
 | cons r rr =>
  cases rr with
  | cons r' rr =>
   cases rr
   cases r
   cases r'
   obtain⟨us,ru,pu⟩:=(zxLst X.K).get rfl I1 qx
   obtain⟨vs,rv,pv'⟩:=(zxLst X.K).get rfl I1 qy
   refine call_zipL pu pv' fun h' st k=>zip_it (zxLst X.K) I1 ?_ ?_ st k q
   ·obtain⟨o,e,_⟩:=pu;exact Heap.lt_size e
   ·obtain⟨o,e,_⟩:=pv';exact Heap.lt_size e
end
section
variable{prog:Program}{w:World}{A:Around}{E:Value→Shared→Prop}{s:Shared}
theorem adjust_rev(n:Nat):Builtin.Slice.sliceAdjust none none (-1) (n:Int)=((n:Int)-1,-1):=by
 unfold Builtin.Slice.sliceAdjust
 have h1:((-1:Int)<0):=by omega
 simp only[h1,if_true]
theorem places_rev(n:Nat):Builtin.Slice.slicePlaces ((n:Int)-1) (-1) (-1)=n:=by
 unfold Builtin.Slice.slicePlaces
 have h1:¬ ((-1:Int)>0):=by omega
 simp only[h1,if_false]
 have e:(- -1:Int)=1:=by omega
 simp only[e,Int.ediv_one]
 split<;>omega
theorem applied_rev{sl:Addr}{t:Tok}{n:Nat}{Q:Int×Int×Nat→Shared→Prop}(hs:s.heap.IsSliceOf sl .none .none (.int (-1) t))
  (h:Q ((n:Int)-1,-1,n) s):wpAny (model prog w) A (Builtin.Slice.sliceApplied (.ref sl) (pure (n:Int))) Q E s:=by
 obtain⟨os,hos,hcs,hds⟩:=id hs
 unfold Builtin.Slice.sliceApplied Builtin.Slice.sliceFields
 refine wpAny_bind (wpAny_bind (wpAny_field hos hds (x:=.none) rfl (wpAny_bind (wpAny_field hos hds (x:=.none) rfl (wpAny_bind (wpAny_field hos hds (x:=.int (-1) t) rfl (wpAny_pure ?_)))))))
 refine wpAny_bind (HT.eT (.int (-1) t) ?_)
 show wpAny _ _ (if ((-1:Int)==0)=true then _ else _) _ _ s
 rw[if_neg (by decide)]
 refine wpAny_bind (HT.eT .none (wpAny_bind (HT.eT .none (wpAny_bind (wpAny_pure ?_)))))
 show wpAny _ _ (match Builtin.Slice.sliceAdjust none none (-1) (n:Int) with | (lo,hi)=>pure (lo,(-1:Int),Builtin.Slice.slicePlaces lo hi (-1))) _ _ s
 rw[adjust_rev n]
 show wpAny _ _ (pure ((n:Int)-1,(-1:Int),Builtin.Slice.slicePlaces ((n:Int)-1) (-1) (-1))) _ _ s
 rw[places_rev]
 exact wpAny_pure h
theorem pick_rev(xs:Array Value):((List.range xs.size).filterMap fun(m:Nat)=>xs[((xs.size:Int)-1+(m:Int)*(-1)).toNat]?).toArray=xs.toList.reverse.toArray:=by
 have e:(fun(m:Nat)=>xs[((xs.size:Int)-1+(m:Int)*(-1)).toNat]?)=(fun k=>xs[k]?) ∘ fun(m:Nat)=>((xs.size:Int)-1-(m:Int)).toNat:=by
  funext m
  show xs[((xs.size:Int)-1+(m:Int)*(-1)).toNat]?=xs[((xs.size:Int)-1-m).toNat]?
  congr 1
  omega
 rw[e,← List.filterMap_map]
 have e2:(List.range xs.size).map (fun(m:Nat)=>((xs.size:Int)-1-(m:Int)).toNat)=(List.range xs.size).reverse:=by
  rw[← PySem.W.krv_range]
  apply List.map_congr_left
  intro k hk
  have:=zch.mp hk
  omega
 rw[e2,List.filterMap_reverse,PySem.W.krv_all]
theorem tuple_rev{t sl:Addr}{items:Array Value}{tk:Tok}{Q:Value→Shared→Prop}(ht:IsTup s.heap t items)(hs:s.heap.IsSliceOf sl .none .none (.int (-1) tk))
  (h:Q (.ref s.heap.objs.size) { s with heap:=s.heap.push { cls:=.type "tuple",data:=.seq items.toList.reverse.toArray } })
  (hsz:items.size≤sizeLine):wpAny (model prog w) A (getItem (.ref t) (.ref sl)) Q E s:=by
 have hfit:sizeOk (.seq items.toList.reverse.toArray):=by
  show items.toList.reverse.toArray.size≤sizeLine
  rw[zag,List.length_reverse,za8]
  exact hsz
 obtain⟨os,hos,hcs,hds⟩:=id hs
 have hTs:s.TypeIs (.ref sl) "slice":=⟨os,hos,hcs⟩
 unfold getItem;try with_reducible refine wpAny_holding ?_
 first | refine wpAny_bind (wpAny_pure ?_) | skip
 refine wpAny_bind (wpAny_sequenceKey ht.typeIs (by decide) (wpAny_bind (wpAny_callSpecial?_slot (name:=Str.ofString "__getitem__") ht.typeIs PyProof.Rows.slot_tuple_getitem (wpAny_call_entry PyProof.Rows.slot_tuple_getitem ht.typeIs entry_tuple_getitem ?_ (args_tuple_getitem _ _)))))
 show wpAny _ _ (Builtin.Tuple.tupleItemsOf (.ref t)>>=_) _ _ s
 refine wpAny_bind (tupleItemsOf_ ht (wpAny_bind (wpAny_typeOf hTs ?_)))
 rw[if_pos (by decide)]
 refine wpAny_bind (applied_rev hs ?_)
 have hno:¬ ((((items.size:Int)-1)==0&&(-1:Int)==1&&items.size==items.size)=true):=by
  rw[show((-1:Int)==1)=false from rfl,Bool.and_false,Bool.false_and]
  exact zaj
 show wpAny _ _ (if (((items.size:Int)-1)==0&&(-1:Int)==1&&items.size==items.size)=true then _ else _) _ _ s
 rw[if_neg hno,pick_rev]
 first
  | exact wpAny_bind (m:=Builtin.Tuple.tupleExact _) (wpAny_newObj_type (wpAny_pure ⟨_,rfl,wpAny_pure h⟩) hfit)
  | exact wpAny_bind (m:=Builtin.Tuple.tupleExact _) (wpAny_newObj_type (wpAny_bind (wpAny_pure (wpAny_pure ⟨_,rfl,wpAny_pure h⟩))) hfit)
  | exact wpAny_bind (wpAny_bind (m:=Builtin.Tuple.tupleExact _) (wpAny_newObj_type (wpAny_pure (wpAny_pure ⟨_,rfl,wpAny_pure h⟩)) hfit))
  | exact wpAny_bind (wpAny_bind (m:=Builtin.Tuple.tupleExact _) (wpAny_newObj_type (wpAny_pure ⟨_,rfl,wpAny_pure h⟩) hfit))
end
section
variable{X:Cx}{e st:Expr}{te ts:TE}{p2 pos:Pos}
theorem vals_rev{xs:List V}{us:List Value}(r:Vals xs us):Vals xs.reverse us.reverse:=by
 induction r with
 | nil=>exact .nil
 | cons a _ ih=>rw[zc0,zc0];exact ih.append (.cons a .nil)
def RvR(X:Cx)(r:V→Hp→VK→Prop):Prop :=
 ∀ (pins:List (Addr×Obj)) (s:Shared) (σ:L2.St) (H:Hp) (x:V) (v:Value) (t:Tok) (sl:Addr) (Q:VK),Inv X pins σ H s→RelV x v→s.heap.IsSliceOf sl .none .none (.int (-1) t)→r x H Q →
  ∃ T id,typeLookup (.type T) "__getitem__"=pure (some (.builtin id))∧s.TypeIs v T∧wpAny (model X.prog X.w) X.A (getItem v (.ref sl)) (EP X pins σ Q) X.xe s
def tRev(r:V→Hp→VK→Prop)(te ts:TE):TE:=fun σ H Q=>te σ H fun x H1=>ts σ H1 fun y H2=>y=.int (-1)∧r x H2 Q
theorem pe_rev{r:V→Hp→VK→Prop}(hr:RvR X r)(he:PE X e te)(hs:PE X st ts):PE X (.Subscript e (.Slice none none (some st) p2) pos) (tRev r te ts):=by
 intro pins s σ H Q I h
 refine Subscript_ (thn (he pins s σ H _ I h) fun v s1 zz1=>?_)
 obtain⟨x,H1,I1,r1,q1⟩:=zz1
 refine wpAny_Slice ?_
 rw[evalPart_none,evalPart_some]
 refine wpAny_pure (wpAny_pure (thn (hs pins s1 σ H1 _ I1 q1) fun vk s3 zz1=>?_))
 obtain⟨y,H3,I3,r3,ey,q3⟩:=zz1
 subst ey
 obtain⟨t,rfl⟩:=r3
 have I4:Inv X pins σ H3 { s3 with heap:=s3.heap.push { cls:=.type "slice",data:=.fields #[.none,.none,.int (-1) t] } }:=I3.kept (t':=s3.toks) fun b ob q=>Heap.get?_push_of_some _ q
 obtain⟨T,id,hT,ht,hg⟩:=hr pins { s3 with heap:=s3.heap.push { cls:=.type "slice",data:=.fields #[.none,.none,.int (-1) t] } } σ H3 x v t s3.heap.objs.size Q I4 r1 (Heap.IsSliceOf.new ..) q3
 show wpAny (model X.prog X.w) X.A (subscriptTail e (.Slice none none (some st) p2) v (.ref s3.heap.objs.size)) (EP X pins σ Q) X.xe { s3 with heap:=s3.heap.push { cls:=.type "slice",data:=.fields #[.none,.none,.int (-1) t] } }
 exact tail_any (ops:=[v,.ref s3.heap.objs.size]) ht hT hg (by with_unfolding_all rfl)
theorem rv_tup:RvR X (fun x H Q=>∃ a xs,x=.ref a∧SqT X.K H a xs∧∀ p,H p=none→Q (.ref p) (upd H p (.tup xs.reverse))):=by
 intro pins s σ H x v t sl Q I rx hs h
 obtain⟨a,xs,rfl,hx,q⟩:=h
 cases rx
 obtain⟨its,r,ht,hz⟩:=I.tuple hx
 have hlen:its.toArray.size=xs.length:=by rw[zag];exact r.length.symm
 refine⟨"tuple",_,PyProof.Rows.slot_tuple_getitem.lookup,ht.typeIs,?_⟩
 refine tuple_rev ht hs ?_ (by rw[hlen];exact hz)
 refine⟨.ref s.heap.objs.size,_,I.laid (t':=s.toks) (o:=.tup xs.reverse) (fun b ob q=>Heap.get?_push_of_some _ q) (za4 _) ?_,rfl,q _ (I.hok.fresh (za4 _))⟩
 exact⟨by rw[List.length_reverse];exact hz,_,vals_rev r,TupX.new _ _⟩
end
theorem for_zip{Sq:Hp→Addr→List V→Prop}{a b:Addr}{xs ys:List V}{n:Nat}{g:TG}{tb:TS}{D:Ends}{σ:L2.St}{H:Hp}(hx:n≤xs.length)(hy:n≤ys.length)(hn:n=xs.length∨n=ys.length)(Pv:Nat→L2.St→Hp→Prop)(h0:Pv 0 σ H)
  (hl:∀ i σ H,i≤n→Pv i σ H→Sq H a xs∧Sq H b ys)
  (hs:∀ i x y p σ H,i<n→xs[i]?=some x→ys[i]?=some y→Pv i σ H→H p=none→g (.ref p) σ (upd H p (.tup [x,y])) fun σ2 H2=>tb { D with nx:=Pv (i+1),ct:=Pv (i+1),bk:=D.nx } σ2 H2)
  (hd:∀ σ H,Pv n σ H→D.nx σ H) :
  ∃ W:Nat→Nat→L2.St→Hp→Prop,(∃ m,W 0 m σ H)∧∀ i m σ H,W i m σ H →
   ((Itz Sq a b).stop i H∧D.nx σ H)∨((Itz Sq a b).go i H∧∃ N:L2.St→Hp→Prop,(∀ σ' H',N σ' H'→∃ m',m'<m∧W (i+1) m' σ' H')∧∀ x H',(Itz Sq a b).yld i H x H'→g x σ H' fun σ2 H2=>tb { D with nx:=N,ct:=N,bk:=D.nx } σ2 H2):=by
 refine⟨fun i m σ H=>m=n-i∧i≤n∧Pv i σ H,⟨n,by simp,zba _,h0⟩,?_⟩
 rintro i m σ H ⟨rfl,hi,p⟩
 obtain⟨q1,q2⟩:=hl i σ H hi p
 by_cases hlt:i<n
 ·refine .inr ⟨⟨xs,ys,xs[i],ys[i],q1,q2,za2 _,za2 _⟩,Pv (i+1),fun σ' H' p'=>⟨n-(i+1),by omega,rfl,hlt,p'⟩,fun v H' y=>?_⟩
  obtain⟨r,x,y,rfl,hr,rfl,e1,e2⟩:=y
  exact hs i x y r σ H hlt (e1 _ q1) (e2 _ q2) p hr
 ·have e:i=n:=by omega
  subst e
  exact .inl ⟨⟨xs,ys,q1,q2,hn.elim (fun e=>.inl (by omega)) fun e=>.inr (by omega)⟩,hd σ H p⟩
theorem ordP_comm(p q:Int×Int):ordP p q=ordP q p:=by
 unfold ordP
 cases h1:hLt p q with
 | true =>
  have h2:hLt q p=false:=jU h1
  rw[h2]
  rfl
 | false =>
  cases h2:hLt q p with
  | true=>rfl
  | false =>
   have:=hLt_same h1 h2
   subst this
   rfl
def ThT(H:Hp)(t:Addr)(hs:List (Int×Int)):Prop:=∃ vs,H t=some (.tup vs)∧ac H vs (hs.map hD)
theorem ThT.same{H H':Hp}{l:Addr}{hs:List (Int×Int)}(h:ThT H l hs)(s:Same H H'):ThT H' l hs:=by
 obtain⟨vs,e,d⟩:=h
 exact⟨vs,s _ _ e,d.same s⟩
theorem ThT.dt{H:Hp}{l:Addr}{hs:List (Int×Int)}(h:ThT H l hs):DtIs H (.ref l) (.tup (hs.map hD)):=by
 obtain⟨vs,e,d⟩:=h
 exact .tup e d
def DtL(H:Hp)(l:Addr)(ds:List Dt):Prop:=∃ vs,H l=some (.lst vs)∧ac H vs ds
theorem DtL.same{H H':Hp}{l:Addr}{ds:List Dt}(h:DtL H l ds)(s:Same H H'):DtL H' l ds:=by
 obtain⟨vs,e,d⟩:=h
 exact⟨vs,s _ _ e,d.same s⟩
theorem jC{H:Hp}{vs:List V}{hs:List (Int×Int)}(h:ac H vs (hs.map hD)){i:Nat}{v:V}(e:vs[i]?=some v):∃ q p,v=.ref q∧hs[i]?=some p∧two H q p:=by
 obtain⟨d,ed,dv⟩:=h.at i v e
 rw[zao]at ed
 cases hp:hs[i]? with
 | none=>rw[hp]at ed;cases ed
 | some p =>
  rw[hp]at ed
  cases ed
  obtain⟨q,rfl⟩:∃ q,v=.ref q:=by cases dv;exact⟨_,rfl⟩
  exact⟨q,p,rfl,rfl,hD_two dv⟩
abbrev Ap:=List (Ho×Dt)
def atH(ev:Ap)(h:Ho):List Dt:=(ev.filter fun e=>decide (e.1=h)).map (·.2)
theorem atH_snoc(ev:Ap)(e:Ho×Dt)(h:Ho):atH (ev++[e]) h=atH ev h++(if e.1=h then [e.2] else []):=by
 unfold atH
 rw[zc1,zar,List.filter_cons]
 by_cases z:e.1=h
 ·rw[if_pos z,if_pos (decide_eq_true z)];rfl
 ·rw[if_neg z,if_neg (by rw[decide_eq_false z];exact zaj)];rfl
theorem atH_app(ev ev':Ap)(h:Ho):atH (ev++ev') h=atH ev h++atH ev' h:=by
 unfold atH
 rw[zc1,zar]
theorem atH_len(ev:Ap)(h:Ho):(atH ev h).length≤ev.length:=by
 unfold atH
 rw[za0]
 exact zcc _ _
theorem atH_no{ev:Ap}{h:Ho}(n:∀ e∈ev,e.1≠h):atH ev h=[]:=by
 unfold atH
 rw[List.filter_eq_nil_iff.mpr (fun e he=>by rw[decide_eq_false (n e he)];exact zaj)]
 rfl
theorem DicV.updL{P:Program}{w:World}{H:Hp}{a r:Addr}{ys:List V}{o:HO}{kvs:List (Dt×V)}(d:DicV P w H a kvs)(er:H r=some (.lst ys)):DicV P w (upd H r o) a kvs:=by
 obtain⟨xs,h,kd⟩:=d
 have ne:a≠r:=fun z=>by
  have:=h.at_
  rw[z,er]at this
  cases this
 exact⟨xs,⟨by rw[af ne];exact h.at_,h.sys,h.len,fun x hx=>⟨(h.key x hx).1.updL er,(h.key x hx).2⟩⟩,kd⟩
def SetD(P:Program)(w:World)(H:Hp)(a:Addr)(kvs:List (Dt×V))(d:Dt)(v u:V)(H':Hp):Prop:=(valV kvs d=some u∧H'=H)∨(valV kvs d=none∧u=v∧∃ o,H'=upd H a o∧DicV P w (upd H a o) a (putK kvs d v))
theorem iA{X:Cx}{k:Nat}(hr:Room k X.A):MtR X "dict.setdefault" (fun x vs H Q=>∃ (a b:Addr) (d:Dt) (kvs:List (Dt×V)) (v:V),x=.ref a∧vs=[.ref b,v]∧DtIs H (.ref b) d∧d.dp≤8∧DicV X.prog X.w H a kvs∧kvs.length<1000 ∧
  ∀ u H',SetD X.prog X.w H a kvs d v u H'→Q u H'):=by
 intro pins s σ H x vs v us Q I rx rv h
 obtain⟨a,b,d,kvs,y,e1,e2,h1,h2,h3,h4,q⟩:=h
 exact mt_setDef hr pins s σ H x vs v us Q I rx rv ⟨a,b,d,kvs,y,e1,e2,h1,h2,h3,h4,fun u e=>q u H (.inl ⟨e,rfl⟩),fun e o d'=>q _ _ (.inr ⟨e,rfl,o,rfl,d'⟩)⟩
structure DoL(P:Program)(w:World)(H0 H:Hp)(a:Addr)(ks:List Ho)(ev:Ap)(kvs:List (Dt×V)):Prop where
 dic:DicV P w H a kvs
 nd:(kvs.map (·.1)).Nodup
 mem:∀ d,d∈kvs.map (·.1)↔∃ h∈ks,hD h=d
 evk:∀ e∈ev,e.1∈ks
 val:∀ h∈ks,∃ r,valV kvs (hD h)=some (.ref r)∧H0 r=none∧DtL H r (atH ev h)
 sep:∀ h g r,valV kvs (hD h)=some (.ref r)→valV kvs (hD g)=some (.ref r)→h=g
section
variable{P:Program}{w:World}{H0 H:Hp}{a:Addr}{ks:List Ho}{ev:Ap}{kvs:List (Dt×V)}
theorem DoL.same{H':Hp}(D:DoL P w H0 H a ks ev kvs)(s:Same H H'):DoL P w H0 H' a ks ev kvs :=
 ⟨D.dic.same s,D.nd,D.mem,D.evk,fun h hh=>let ⟨r,e,n,d⟩:=D.val h hh;⟨r,e,n,d.same s⟩,D.sep⟩
theorem DoL.start(d:DicV P w H a []):DoL P w H0 H a [] [] [] :=
 ⟨d,zci,fun d=>⟨fun h=>(nomatch h),fun⟨_,h,_⟩=>(nomatch h)⟩,fun _ h=>(nomatch h),fun _ h=>(nomatch h),fun _ _ _ h=>(nomatch h)⟩
theorem DoL.noKey{h:Ho}(D:DoL P w H0 H a ks ev kvs)(hn:h∉ks):valV kvs (hD h)=none:=valV_no fun z=>by
 obtain⟨g,hg,e⟩:=(D.mem _).mp z
 exact hn (bZ e▸hg)
theorem DoL.isIn{h:Ho}{u:V}(D:DoL P w H0 H a ks ev kvs)(e:valV kvs (hD h)=some u):h∈ks:=by
 obtain⟨g,hg,e⟩:=(D.mem _).mp (dW e)
 exact bZ e▸hg
theorem DtL.updX{H:Hp}{r a:Addr}{φ:Heap→Prop}{o:HO}{ds:List Dt}(h:DtL H r ds)(ha:H a=some (.ext φ)):DtL (upd H a o) r ds:=by
 obtain⟨vs,e,d⟩:=h
 have ne:r≠a:=fun z=>by rw[z,ha]at e;cases e
 exact⟨vs,by rw[af ne];exact e,d.updX ha⟩
theorem DtL.updL{H:Hp}{r q:Addr}{ys:List V}{o:HO}{ds:List Dt}(h:DtL H r ds)(hq:H q=some (.lst ys))(ne:r≠q):DtL (upd H q o) r ds:=by
 obtain⟨vs,e,d⟩:=h
 exact⟨vs,by rw[af ne];exact e,d.updL hq⟩
theorem DoL.key{h:Ho}{L:Addr}{o:HO}(D:DoL P w H0 H a ks ev kvs)(hn:h∉ks)(nL:H L=none)(n0:H0 L=none)(d':DicV P w (upd (upd H L (.lst [])) a o) a (putK kvs (hD h) (.ref L))) :
  DoL P w H0 (upd (upd H L (.lst [])) a o) a (h::ks) ev (putK kvs (hD h) (.ref L)):=by
 have S:=a7 (o:=HO.lst []) nL
 obtain⟨φ,ext⟩:=(D.dic.same S).ext
 have fr:∀ g r,valV kvs (hD g)=some (.ref r)→r≠L:=fun g r e z=>by
  obtain⟨r',e',_,vs,el,_⟩:=D.val g (D.isIn e)
  rw[e]at e'
  cases e'
  rw[z,nL]at el
  cases el
 have neL:L≠a:=fun z=>by
  obtain⟨φ',e'⟩:=D.dic.ext
  rw[← z,nL]at e'
  cases e'
 refine⟨d',putK_nd _ _ _ D.nd,fun d=>?_,fun e he=>zac _ (D.evk e he),fun g hg=>?_,fun g g' r e1 e2=>?_⟩
 ·rw[putK_mem,D.mem]
  constructor
  ·rintro(rfl | ⟨g,hg,rfl⟩)
   ·exact⟨h,zad ..,rfl⟩
   ·exact⟨g,zac _ hg,rfl⟩
  ·rintro⟨g,hg,rfl⟩
   rcases zaa.mp hg with rfl | hg
   ·exact .inl rfl
   ·exact .inr ⟨g,hg,rfl⟩
 ·rw[cm]
  by_cases e:hD g=hD h
  ·have:=bZ e
   subst this
   rw[if_pos rfl]
   refine⟨L,rfl,n0,[],by rw[af neL];exact a6,?_⟩
   rw[atH_no fun x hx (z:x.1=g)=>hn (by rw[← z];exact D.evk x hx)]
   exact .nil
  ·rw[if_neg e]
   have hg':g∈ks:=by
    rcases zaa.mp hg with z | z
    ·exact absurd (by rw[z]) e
    ·exact z
   obtain⟨r,e1,n1,d1⟩:=D.val g hg'
   exact⟨r,e1,n1,(d1.same S).updX ext⟩
 ·rw[cm]at e1 e2
  by_cases z1:hD g=hD h
  ·by_cases z2:hD g'=hD h
   ·exact bZ (z1.trans z2.symm)
   ·rw[if_pos z1]at e1
    rw[if_neg z2]at e2
    cases e1
    exact absurd rfl (fr _ _ e2)
  ·by_cases z2:hD g'=hD h
   ·rw[if_neg z1]at e1
    rw[if_pos z2]at e2
    cases e2
    exact absurd rfl (fr _ _ e1)
   ·rw[if_neg z1]at e1
    rw[if_neg z2]at e2
    exact D.sep _ _ _ e1 e2
theorem DoL.app{h:Ho}{r:Addr}{ys:List V}{v:V}{x:Dt}(D:DoL P w H0 H a ks ev kvs)(hk:valV kvs (hD h)=some (.ref r))(er:H r=some (.lst ys))(dv:DtIs H v x) :
  DoL P w H0 (upd H r (.lst (ys++[v]))) a ks (ev++[(h,x)]) kvs:=by
 refine⟨D.dic.updL er,D.nd,D.mem,fun e he=>?_,fun g hg=>?_,D.sep⟩
 ·rcases za9.mp he with he | he
  ·exact D.evk e he
  ·rw[za7.mp he]
   exact D.isIn hk
 ·obtain⟨q,e1,n1,d1⟩:=D.val g hg
  rw[atH_snoc]
  by_cases z:h=g
  ·subst z
   rw[hk]at e1
   cases e1
   rw[if_pos rfl]
   obtain⟨vs,ev',dv'⟩:=d1
   rw[er]at ev'
   cases ev'
   exact⟨r,hk,n1,_,a6,(dv'.updL er).snoc (dv.updL er)⟩
  ·rw[if_neg z,zau]
   refine⟨q,e1,n1,d1.updL er fun z'=>z ?_⟩
   rw[z']at e1
   exact D.sep _ _ _ hk e1
theorem DoL.setDef{h:Ho}{L:Addr}{u:V}{H':Hp}(D:DoL P w H0 H a ks ev kvs)(S:Same H0 H)(na:H0 a=none)(nL:H L=none)(sd:SetD P w (upd H L (.lst [])) a kvs (hD h) (.ref L) u H') :
  ∃ r ks' kvs' ys,u=.ref r∧DoL P w H0 H' a ks' ev kvs'∧Same H0 H'∧(∀ g,g∈ks'↔g=h∨g∈ks)∧valV kvs' (hD h)=some (.ref r)∧H0 r=none∧H' r=some (.lst ys)∧ys.length≤ev.length∧kvs'.length≤kvs.length+1 ∧
   ∀ C cs,H C=some (.lst cs)→(∀ h r,valV kvs (hD h)=some (.ref r)→r≠C)→H' C=some (.lst cs)∧∀ h r,valV kvs' (hD h)=some (.ref r)→r≠C:=by
 have T:=a7 (o:=HO.lst []) nL
 rcases sd with ⟨e,rfl⟩ | ⟨e,rfl,o,rfl,d'⟩
 ·have hi:=D.isIn e
  obtain⟨r,e1,n1,vs,er,dr⟩:=D.val h hi
  rw[e]at e1
  cases e1
  refine⟨r,ks,kvs,vs,rfl,D.same T,S.trans T,fun g=>⟨.inr,?_⟩,e,n1,T _ _ er,by rw[dr.length];exact atH_len _ _,by omega,fun C cs eC nc=>⟨T _ _ eC,nc⟩⟩
  rintro(rfl | z)
  ·exact hi
  ·exact z
 ·have hn:h∉ks:=fun z=>by
   obtain⟨r,e1,_⟩:=D.val h z
   rw[e]at e1
   cases e1
  have n0:=cf S nL
  have D':=D.key hn nL n0 d'
  obtain⟨r,e1,n1,vs,er,dr⟩:=D'.val h (zad ..)
  have e2:valV (putK kvs (hD h) (.ref L)) (hD h)=some (.ref L):=by rw[cm,if_pos rfl]
  rw[e2]at e1
  cases e1
  refine⟨L,_,_,vs,rfl,D',am (S.trans T) na,fun g=>zaa,e2,n0,er,by rw[dr.length];exact atH_len _ _,fD _ _ _,fun C cs eC nc=>⟨?_,fun g r' hg=>?_⟩⟩
  ·obtain⟨φ,ext⟩:=D.dic.ext
   rw[af (fun e=>by rw[e,ext]at eC;cases eC)]
   exact T _ _ eC
  ·rw[cm]at hg
   by_cases z:hD g=hD h
   ·rw[if_pos z]at hg
    cases hg
    exact fun e=>by rw[e,eC]at nL;cases nL
   ·rw[if_neg z]at hg
    exact nc g r' hg
theorem DoL.get{h:Ho}(D:DoL P w H0 H a ks ev kvs)(hh:h∈ks):∃ r vs,valV kvs (hD h)=some (.ref r)∧H r=some (.lst vs)∧ac H vs (atH ev h):=by
 obtain⟨r,e,_,vs,er,d⟩:=D.val h hh
 exact⟨r,vs,e,er,d⟩
end
def rInTp(K:PySem.W.Frag):R2:=fun x y H Q=>∃ (a:Addr) (xs:List V) (ds:List Dt) (d:Dt),y=.ref a∧DtIs H x d∧SqT K H a xs∧ac H xs ds∧(∀ d∈ds,d.dp≤50)∧Q (.bl (ds.any fun d'=>Dt.beq d' d)) H
section
variable{X:Cx}
theorem op_inTp{k:Nat}(hr:Room k X.A):OpR X (compareOp .In) (rInTp X.K):=by
 intro pins s σ H x y v u Q I rx ry h
 obtain⟨a,xs,ds,d,rfl,hx,hS,hD,h5,q⟩:=h
 have hu:=hr.units
 cases ry
 obtain⟨its,rv,p,_⟩:=I.tuple hS
 have hd:=d5 I hD rv
 refine SeqAt.in_tupleAt (fun y=>Dt.beq (dOf s.heap y) d) (show s.heap.IsTuple a its.toArray from p) (fun y hy=>?_) ⟨.bl _,H,I,rfl,?_⟩
 ·obtain⟨d',hd',e⟩:=(bp hd).2 y (by simpa using hy)
  rw[dOf_eq e]
  have:=h5 d' hd'
  exact jx _ e (c9 I hx rx) (by show X.A.units+1+_<_;omega)
 ·rw[show(its.toArray.any fun y=>Dt.beq (dOf s.heap y) d)=its.any fun y=>Dt.beq (dOf s.heap y) d by simp,any_dOf hd]
  exact q
end
def rNotInTp(K:PySem.W.Frag):R2:=fun x y H Q=>∃ (a:Addr) (xs:List V) (ds:List Dt) (d:Dt),y=.ref a∧DtIs H x d∧SqT K H a xs∧ac H xs ds∧(∀ d∈ds,d.dp≤50)∧Q (.bl (!ds.any fun d'=>Dt.beq d' d)) H
section
variable{X:Cx}
theorem op_notInTp{k:Nat}(hr:Room k X.A):OpR X (compareOp .NotIn) (rNotInTp X.K):=by
 intro pins s σ H x y v u Q I rx ry h
 obtain⟨a,xs,ds,d,rfl,hx,hS,hD,h5,q⟩:=h
 have hu:=hr.units
 cases ry
 obtain⟨its,rv,p,_⟩:=I.tuple hS
 have hd:=d5 I hD rv
 refine SeqAt.notIn_tupleAt (fun y=>Dt.beq (dOf s.heap y) d) (show s.heap.IsTuple a its.toArray from p) (fun y hy=>?_) ⟨.bl _,H,I,rfl,?_⟩
 ·obtain⟨d',hd',e⟩:=(bp hd).2 y (by simpa using hy)
  rw[dOf_eq e]
  have:=h5 d' hd'
  exact jx _ e (c9 I hx rx) (by show X.A.units+1+_<_;omega)
 ·rw[show(its.toArray.any fun y=>Dt.beq (dOf s.heap y) d)=its.any fun y=>Dt.beq (dOf s.heap y) d by simp,any_dOf hd]
  exact q
end
def Adj(ls:List Ln)(k m:Ho):Prop:=∃ a∈ls,(a.1=k∧a.2=m)∨(a.2=k∧a.1=m)
theorem Adj.symm{ls:List Ln}{k m:Ho}(h:Adj ls k m):Adj ls m k:=by
 obtain⟨a,ha,h | h⟩:=h
 ·exact⟨a,ha,.inr ⟨h.2,h.1⟩⟩
 ·exact⟨a,ha,.inl ⟨h.2,h.1⟩⟩
inductive Cn(ls:List Ln)(h:Ho):Ho→Prop where
 | refl:Cn ls h h
 | step {k m:Ho}:Cn ls h k→Adj ls k m→Cn ls h m
theorem Cn.trans{ls:List Ln}{x y z:Ho}(h:Cn ls x y)(g:Cn ls y z):Cn ls x z:=by
 induction g with
 | refl=>exact h
 | step _ a ih=>exact .step ih a
theorem Cn.symm{ls:List Ln}{x y:Ho}(h:Cn ls x y):Cn ls y x:=by
 induction h with
 | refl=>exact .refl
 | step _ a ih=>exact(Cn.step .refl a.symm).trans ih
theorem Cn.line{ls:List Ln}{a:Ln}(h:a∈ls):Cn ls a.1 a.2:=.step .refl ⟨a,h,.inl ⟨rfl,rfl⟩⟩
theorem Cn.stay{ls:List Ln}{S:Ho→Prop}(cl:∀ a∈ls,S a.1↔S a.2){x y:Ho}(h:Cn ls x y)(hx:S x):S y:=by
 induction h with
 | refl=>exact hx
 | step _ a ih =>
  obtain⟨l,hl,⟨e1,e2⟩ | ⟨e1,e2⟩⟩:=a
  ·rw[← e2];exact(cl l hl).mp (by rw[e1];exact ih)
  ·rw[← e2];exact(cl l hl).mpr (by rw[e1];exact ih)
theorem Cn.mono{ls ms:List Ln}{x y:Ho}(sub:∀ a∈ls,a∈ms)(h:Cn ls x y):Cn ms x y:=by
 induction h with
 | refl=>exact .refl
 | step _ a ih =>
  obtain⟨l,hl,e⟩:=a
  exact .step ih ⟨l,sub l hl,e⟩
def setL(L:Ho→Option Ho)(h f:Ho):Ho→Option Ho:=fun k=>if k=h then some f else L k
theorem jl{L:Ho→Option Ho}{h f:Ho}:setL L h f h=some f:=if_pos rfl
theorem setL_ne{L:Ho→Option Ho}{h f k:Ho}(e:k≠h):setL L h f k=L k:=if_neg e
section
variable{X:Cx}{pins:List (Addr×Obj)}{σ:L2.St}{H:Hp}{s:Shared}
theorem inv_thaw{a:Addr}{o:Obj}{φ:Heap→Prop}(I:Inv X pins σ H s)(ha:H a=some (.frz o (.ext φ)))(h0:∀ o' u',X.H₀ a≠some (.frz o' u')):Inv X pins σ (upd H a (.ext φ)) s:=by
 have nn:∀ b,H b=none→b≠a:=fun b n z=>by rw[z,ha]at n;cases n
 have ntup:∀ b xs,H b=some (.tup xs)→b≠a:=fun b xs q z=>by rw[z,ha]at q;cases q
 have nown:∀ b c,H b=some (.own c)→b≠a:=fun b c q z=>by rw[z,ha]at q;cases q
 refine⟨I.ok,I.os,I.bare,⟨I.base.keep,I.base.slot,fun b ob q n hx=>?_,I.base.there,fun b xs q=>?_,fun b ob u q=>?_,fun b ps q=>?_⟩,I.loc,I.cell,?_,fun x c e=>?_,fun p hp=>?_,fun b u q=>?_,I.len⟩
 ·have:=I.base.free b ob q n hx
  rw[af (nn b this)]
  exact this
 ·have:=I.base.tups b xs q
  rw[af (ntup b xs this)]
  exact this
 ·have:=I.base.frzs b ob u q
  rw[af (fun(z:b=a)=>h0 ob u (by rw[← z];exact q))]
  exact this
 ·obtain⟨m,e⟩:=I.base.tbls b ps q
  exact⟨m,by rw[af (fun z=>by rw[z,ha]at e;cases e)];exact e⟩
 ·rw[af (nn _ I.free)];exact I.free
 ·rw[af (nn _ (I.freeC x c e))];exact I.freeC x c e
 ·obtain⟨p1,p2,p3⟩:=I.pin p hp
  exact⟨p1,by rw[af (nn _ p2)];exact p2,p3⟩
 ·by_cases hb:b=a
  ·subst hb
   rw[a6]at q
   cases q
   exact(show bb X.prog X.w H s.heap b (.frz o (.ext φ)) from I.hok b _ ha).2
  ·rw[af hb]at q
   exact(I.hok b u q).stay (fun c v _ r=>r) (fun c r=>by rw[af (nown c b r)];exact r) fun c xs r=>by rw[af (ntup c xs r)];exact r
variable{tg:Expr}
end
section
variable{X:Cx}
theorem call_lenV:gf X (.builtin "len") (fun xs H Q=>∃ (a:Addr) (kvs:List (Dt×V)),xs=[.ref a]∧DicV X.prog X.w H a kvs∧Q (.int kvs.length) H):=by
 intro pins s σ H xs us Q I r h
 obtain⟨a,kvs,rfl,⟨ys,dic,kd⟩,q⟩:=h
 obtain⟨u,rfl,rx⟩:=gt r
 cases rx
 obtain⟨ep,raw⟩:=raw_of I dic
 obtain⟨o,es,ho,hex,dat,ek⟩:=id raw
 have ty:=raw.typeIs
 have hn:es.size=kvs.length:=by
  have h1:es.toList.length=ys.length:=by rw[← za0 (f:=(·.key)),ek,za0]
  have h2:kvs.length=ys.length:=Paired.length kd
  rw[← za8,h1,h2]
 have hl:kvs.length≤1000:=by rw[show kvs.length=ys.length from Paired.length kd];exact dic.len
 refine PyProof.Rows.call_len_slot (n:=(kvs.length:Int)) ty F.slot_dict_len (fun Q' hq=>?_) (by omega) (by omega) ⟨.int kvs.length,H,I.tok _,⟨_,rfl⟩,q⟩
 refine wpAny_call_entry F.slot_dict_len ty F.entry_dict_len ?_ (F.args_dict_len_1 _)
 unfold Builtin.«dict.__len__»;refine wpAny_bind ?_;unfold Builtin.Dict.dictSlotNone;refine wpAny_bind (wpAny_notOrdered_dict ty ?_)
 show wpAny _ _ (pure (Value.ref a)) _ _ _
 refine wpAny_pure ?_
 show wpAny _ _ (dictSize a>>=_) _ _ s
 unfold dictSize
 refine wpAny_bind (wpAny_bind (wpAny_dictEntries ho dat (wpAny_pure ?_)))
 refine wpAny_bind (m:=Builtin.Dict.pendingCount a) (wpAny_pendingCount_other dic.sys ?_)
 have e0:((es.size:Int)+((0:Nat):Int))=(kvs.length:Int):=by rw[hn];simp
 show wpAny _ _ (retInt ((es.size:Int)+((0:Nat):Int))) _ _ s
 rw[e0]
 exact wpAny_bind (wpAny_mkInt (wpAny_pure ⟨_,rfl,hq⟩))
end
section
variable{X:Cx}{elt tg iter:Expr}{ifs:List Expr}{scope:Scope}{pos:Pos}{N':List Str}{idx:List (Option Nat)}{wi:TI}{g:TG}{tt:TT}{te:TE}
theorem iu{k:Nat}{y:Str}{py spos:Pos}(hN:X.N.Nodup)(hk:X.N[k]?=some y)(hy:Loc X.env.scope y)(hf:X.fn y=true∨X.env.scope.names.lookup y=some .local)(hlc:X.env.scope.names.lookup y=some .local)
  (S:CompOk X scope N' idx) (hclos:closureFor scope X.env=pure (clOf X.env scope.names [])) (hc:X.calm=true) (hi:PI X tg iter wi)
  (hg:∀ C s₀ H₀ fp pn,PG (bg X N' scope C s₀ H₀ fp pn) tg g) (ht:∀ C s₀ H₀ fp pn,PTs (bg X N' scope C s₀ H₀ fp pn) ifs tt) (he:∀ C s₀ H₀ fp pn,PE (bg X N' scope C s₀ H₀ fp pn) elt te)
  (hsw:swapsWith (.ListComp elt [⟨tg,iter,ifs,0⟩] scope pos) (some (.Name y py)) spos.line X.env=pure true:=by rfl)
  (hs:∀ x,foldedSetIterable iter X.env x=pure x:=by intro _;rfl):PS X (.Assign [.Name y py] (.ListComp elt [⟨tg,iter,ifs,0⟩] scope pos) spos) (tAsg (tComp wi idx g tt te) (gJ k)):=by
 intro pins s σ H E' I h
 rw[exec_Assign_Name_used _ _ _ _ hsw]
 refine wpAny_bind (wpAny_standAt (wpAny_bind ?_))
 refine(show wpAny _ _ (do let _ ← comprehension (.ListComp elt [⟨tg,iter,ifs,0⟩] scope pos) scope X.env _ (newList []) false (eval iter X.env) (some (assign (.Name y py) X.env))) _ _ s from ?_)
 refine wpAny_bind (wpAny_mono (Q:=fun _ s'=>SP X pins E' .next s') ?_ (fun _ s' hq=>wpAny_pure (wpAny_pure hq)) fun _ _ e=>e)
 refine wpAny_comprehension_free (use:=some (assign (.Name y py) X.env)) rfl hs hclos S.kind S.names (thn (hi pins s σ H _ I h) fun xv s₁ h₁=>thn h₁ fun itv s₂ h₂=>?_)
 obtain⟨it,fp,tn,J,H2,e,I2,T,st2,f2,hJ⟩:=h₂
 subst e
 obtain⟨W,⟨m0,w0⟩,turn⟩:=hJ s₂.heap.objs.size (I2.hok.fresh (za4 _))
 have hlt:∀ b∈fp,b<s₂.heap.objs.size:=fun b hb=>by
  obtain⟨o,e,_⟩:=T.obj _ _ st2 b hb
  exact Heap.lt_size e
 refine wpAny_newObj_type (wpAny_newFunctionEnv S.cell (by intro y hy;simp at hy) (fun h₁ hns₁ hsb₁=>?_) S.kind)
 dsimp only at hns₁ hsb₁ ⊢
 generalize hH2:s₂.heap.push { cls:=.type "list",dict:=none,data:=.seq ([]:List Value).toArray }=P2 at hns₁ hsb₁ ⊢
 have hC:P2.objs.size=s₂.heap.objs.size+1:=by rw[← hH2,Heap.size_push]
 have neC:∀ b:Addr,b<s₂.heap.objs.size→b≠P2.objs.size:=fun b hb=>zap (by rw[hC];exact zbt hb)
 have neD:s₂.heap.objs.size≠P2.objs.size:=zap (by rw[hC];exact zbe _)
 have old:∀ b o,s₂.heap.get? b=some o→h₁.get? b=some o:=fun b o e =>
  hsb₁.extBut b o (neC b (Heap.lt_size e)) (Heap.get?_push_of_some _ (hH2▸Heap.get?_push_of_some _ e))
 have hacc:h₁.get? s₂.heap.objs.size=some { cls:=.type "list",data:=.seq ([]:List Value).toArray } :=
  hsb₁.extBut _ _ neD (Heap.get?_push_of_some _ (hH2▸Heap.get?_push_size _ rfl))
 have nD:H2 s₂.heap.objs.size=none:=I2.hok.fresh (za4 _)
 have nC:H2 P2.objs.size=none:=I2.hok.fresh (by omega)
 have ok:=comp_ok (C:=P2.objs.size) S I2 (by omega) f2 hlt (X.pn++pins)
 have pinlt:∀ p∈X.pn++pins,p.1<s₂.heap.objs.size:=fun p hp=>Heap.lt_size (I2.pin p hp).1
 have sub:∀ x c,(clOf X.env scope.names []).lookup x=some c→X.env.cells.lookup x=some c:=fun x c e=>g8 X.env scope.names [] (fun p hp=>(nomatch hp)) (x,c) (PySem.mem_of_lookup e)
 have I3:Inv (bg X N' scope P2.objs.size s₂ H2 fp (X.pn++pins)) [] (pick idx σ) (upd H2 s₂.heap.objs.size (.lst [])) { s₂ with heap:=h₁,toks:=s₂.toks+([]:List (Str×Value)).length }:=by
  refine⟨ok,rfl,I2.bare,?_,⟨_,hns₁,fun j x v h1 h2 h3=>?_⟩,fun x c e=>?_,?_,fun x c e=>?_,fun p hp=>?_,?_,?_⟩
  ·exact Un.laid old (za4 _) nD
  ·have hj:j<idx.length:=by
    have:=(za3.mp h2).1
    unfold pick at this
    rwa [za0]at this
   unfold pick at h2
   rw[zao,za2 hj]at h2
   have h2':=Option.some.inj h2
   cases q:idx[j] with
   | none=>rw[q]at h2';cases h2'
   | some i =>
    have h2':(σ[i]?).getD none=some v:=by rw[q]at h2';exact h2'
    have hmem:(idx[j],x)∈idx.zip N':=by
     refine zaw.mpr ⟨j,?_⟩
     rw[zbq]
     exact⟨za2 hj,h1⟩
    obtain⟨z1,z2,z3⟩:=S.idx _ hmem i q
    have hσ:σ[i]?=some (some v):=by
     cases r:σ[i]? with
     | none=>rw[r]at h2';cases h2'
     | some y=>rw[r]at h2';rw[show y=some v from h2']
    obtain⟨m,hn,hl⟩:=I2.loc
    obtain⟨u,ru,lk⟩:=hl i x v z1 hσ (.inr (.inl z2))
    refine⟨u,ru,.inr ⟨.inl ?_,?_⟩⟩
    ·show(relabel scope X.env).names.lookup x=some .cell
     rw[fi,di,z3,I2.ok.kind]
     simp[z2]
    ·obtain⟨c,hcl⟩:=g9 X.env scope.names [] x z3 (I2.ok.has x (.inl z2))
     rcases lk with ⟨k1,_⟩ | ⟨_,c',e1,e2⟩
     ·rw[z2]at k1;cases k1
     ·refine⟨c,hcl,?_⟩
      have e3:=sub x c hcl
      rw[e1]at e3
      cases e3
      obtain⟨o,ho,hd⟩:=e2
      exact⟨o,old _ _ ho,hd⟩
  ·obtain⟨v,o,ho,hd⟩:=I2.cell x c (sub x c e)
   exact⟨v,o,old _ _ ho,hd⟩
  ·show upd H2 _ _ P2.objs.size=none
   rw[af (Ne.symm neD)];exact nC
  ·obtain⟨v,q⟩:=I2.cell x c (sub x c e)
   rw[af (zap q.lt)]
   exact I2.freeC x c (sub x c e)
  ·rw[zau]at hp
   obtain⟨e,n,ne,nf,d⟩:=I2.pin p hp
   refine⟨old _ _ e,?_,?_,fun z=>?_,d⟩
   ·rw[af (zap (pinlt p hp))];exact n
   ·exact neC _ (pinlt p hp)
   ·rcases zaa.mp (I2.stkSub _ z) with z | z
    ·exact ne z
    ·exact nf z
  ·exact I2.hok.laid old (za4 _) ⟨zba _,[],0,.nil,hacc⟩
  ·show(pick idx σ).length=N'.length
   unfold pick
   rw[za0]
   exact S.len
 have stat:∀ {pl:List (Addr×Obj)} {H':Hp},(∀ b∈fp,H' b=none)→(∀ p∈pl,p.1∉fp)→∀ b∈fp,FpOk (bg X N' scope P2.objs.size s₂ H2 fp (X.pn++pins)) pl H' b:=fun {pl H'} hn hp b hb=>by
  refine⟨hn b hb,(ok.exf b hb).1,ok.exfs b hb,.inl hb,(ok.exf b hb).2,fun p hpp z=>?_⟩
  rcases za9.mp hpp with h1 | h1
  ·exact(f2 b hb).2.2.2.2.2 p h1 z
  ·exact hp p h1 (z▸hb)
 have loop:codeAny (model X.prog X.w) X.A (.compLoop (.ListComp elt [⟨tg,iter,ifs,0⟩] scope pos) 0 (.ref it) (.ref s₂.heap.objs.size) (compEnvC scope (clOf X.env scope.names []) P2.objs.size X.env))
   (compPost (model X.prog X.w) X.A X.xe (some (assign (.Name y py) X.env)) (fun _ s'=>SP X pins E' .next s') (.ref s₂.heap.objs.size) P2.objs.size) { s₂ with heap:=h₁,toks:=s₂.toks+([]:List (Str×Value)).length }:=by
  refine comp_loop (fun n s'=>∃ i σ' H',Inv (bg X N' scope P2.objs.size s₂ H2 fp (X.pn++pins)) [] σ' H' s'∧tn i s'.heap∧(∀ b∈fp,H' b=none)∧W i n σ' H') ?_ m0
   ⟨0,_,_,I3,T.keep _ _ _ st2 fun b _ o e=>old b o e,fun b hb=>by rw[af (zap (hlt b hb))];exact(f2 b hb).1,w0⟩
  rintro n s3 ⟨i,σ3,H3,J3,st3,fr3,w3⟩
  rcases turn i n σ3 H3 w3 with ⟨stop,q⟩ | ⟨go,step⟩
  ·refine wpAny_mono (T.done (bg X N' scope P2.objs.size s₂ H2 fp (X.pn++pins)) rfl rfl rfl hc i [] s3 σ3 H3 (fun _ _=>False) J3 (stat fr3 (fun _ z=>nomatch z)) st3 stop) (fun r s4 hr=>?_) fun _ _ z=>z
   obtain⟨rfl,J4⟩:=hr
   obtain⟨m,hn,_⟩:=J4.loc
   have fC:H3 P2.objs.size=none:=J4.free
   have un:Un (frs X.stack) fp H2 H3 s₂.heap s4.heap:=J4.base
   have IO:Inv X pins σ H3 s4:=by
    refine I2.call' (s':=s4) (ch:=fp) ?_ un J4.hok J4.bare fun b hb=>?_
    ·exact J4.os
    ·obtain⟨f0,f1,f2',f3,f4,f5⟩:=f2 b hb
     exact⟨f3,f1,f4,f5⟩
   have hCl:P2.objs.size≠X.env.locals:=Ne.symm (neC _ I2.lt)
   have hCc:∀ x c,X.env.cells.lookup x=some c→c≠P2.objs.size:=fun x c e=>by
    obtain⟨v,q'⟩:=I2.cell x c e
    exact neC c q'.lt
   have hCp:∀ p∈X.pn++pins,p.1≠P2.objs.size:=fun p hp=>neC _ (pinlt p hp)
   refine(show wpAny _ _ (assign (.Name y py) X.env (.ref s₂.heap.objs.size)) _ _ s4 from wpAny_assign_Name ?_)
   refine store_ok2 (v:=.ref s₂.heap.objs.size) IO hN hk hy rfl (fun s5 I5 hsb=>?_) hf
   obtain⟨ad,hsb,had⟩:=hsb
   have hadC:P2.objs.size≠ad:=by
    rcases had with z | z
    ·rw[z];exact hCl
    ·exact Ne.symm (hCc _ _ z)
   refine⟨m,hn.sameBut hsb hadC,fun h' hs'=>?_⟩
   refine⟨_,H3,?_,q⟩
   exact I5.turned (t':=s5.toks) (it:=P2.objs.size) (fun b o hb e=>hs'.extBut b o hb e) fC hCl (.inr (zb1 I2.sz (by omega))) hCc hCp
  ·refine wpAny_mono (T.item (bg X N' scope P2.objs.size s₂ H2 fp (X.pn++pins)) rfl rfl rfl hc i [] s3 σ3 H3 (fun _ _=>False) J3 (stat fr3 (fun _ z=>nomatch z)) st3 go) (fun r s4 hr=>?_) fun _ _ z=>z
   obtain⟨u,rfl,h4⟩:=hr
   refine wpAny_mono h4 (fun _ s5 h5=>?_) fun _ _ z=>z
   obtain⟨x,H5,J5,r5,y5,st5,fr5⟩:=h5
   have J5':=J5.pinned (stat fr5 (fun _ z=>nomatch z)) (T.obj _ _ st5)
   refine wpAny_mono (hg _ _ _ _ _ _ s5 σ3 H5 x u _ J5' r5 (step x H5 y5)) (fun _ s6 h6=>?_) fun _ _ z=>z
   obtain⟨σ6,H6,J6,q6⟩:=h6
   have again:∀ {s9:Shared} {σ9:L2.St} {H9:Hp},Inv (bg X N' scope P2.objs.size s₂ H2 fp (X.pn++pins)) ([]++jr fp s5.heap) σ9 H9 s9→(∃ m',m'<n∧W (i+1) m' σ9 H9) →
     ∃ m,m<n∧∃ i σ' H',Inv (bg X N' scope P2.objs.size s₂ H2 fp (X.pn++pins)) [] σ' H' s9∧tn i s9.heap∧(∀ b∈fp,H' b=none)∧W i m σ' H':=fun {s9 σ9 H9} J9 hw=>by
    obtain⟨m',hm,w9⟩:=hw
    refine⟨m',hm,i+1,σ9,H9,J9.unpinned,T.keep _ _ _ st5 fun b hb o e=>(J9.pin (b,o) (za5 _ (za5 _ (dJ hb e)))).1,fun b hb=>?_,w9⟩
    obtain⟨o,e,d⟩:=T.obj _ _ st5 b hb
    exact(J9.pin (b,o) (za5 _ (za5 _ (dJ hb e)))).2.1
   refine wpAny_mono (ht _ _ _ _ _ _ s6 σ6 H6 _ J6 q6) (fun ok' s7 h7=>?_) fun _ _ z=>z
   obtain⟨H7,J7,q7⟩:=h7
   cases ok' with
   | false=>exact again J7 q7
   | true =>
    refine wpAny_mono (he _ _ _ _ _ _ s7 σ6 H7 _ J7 q7) (fun xv2 s8 h8=>?_) fun _ _ z=>z
    obtain⟨v,H8,J8,r8,ys,hD,hz,hw⟩:=h8
    refine wpAny_mono (bD (X:=bg X N' scope P2.objs.size s₂ H2 fp (X.pn++pins)) _ s8 σ6 H8 (.ref s₂.heap.objs.size) [v] (.ref s₂.heap.objs.size) [xv2] (fun _ H9=>∃ m',m'<n∧W (i+1) m' σ6 H9) J8 rfl (.cons r8 .nil) ⟨_,ys,v,rfl,rfl,hD,hz,hw⟩) (fun _ s9 h9=>?_) fun _ _ z=>z
    obtain⟨_,H9,J9,_,q9⟩:=h9
    exact again J9 q9
 exact codeAny_compStart_list loop (T.self X.A 0 _ _ _ (T.keep _ _ _ st2 fun b _ o e=>old b o e) loop)
end
abbrev Sti:=Bool×Ln
def fS(b:Bool):Str:=if b=true then "front" else "back"
def sD(s:Sti):Dt:=.tup [.str (fS s.1),lnD s.2]
theorem fS_inj{a b:Bool}(h:fS a=fS b):a=b:=by
 cases a<;>cases b
 ·rfl
 ·exact absurd h (by decide +kernel)
 ·exact absurd h (by decide +kernel)
 ·rfl
theorem sD_inj{s t:Sti}(h:sD s=sD t):s=t:=by
 have h':[Dt.str (fS s.1),lnD s.2]=[Dt.str (fS t.1),lnD t.2]:=by unfold sD at h;exact Dt.tup.inj h
 simp only[List.cons.injEq,and_true,Dt.str.injEq]at h'
 exact Prod.ext (fS_inj h'.1) (lnD_inj h'.2)
abbrev Tie:=Ho×Ln×Ln
def tD(x:Tie):Dt:=.tup [hD x.1,lnD x.2.1,lnD x.2.2]
def cj(a:Ln)(h:Ho):Prop:=a.1=h∨a.2=h
def oth(a:Ln)(h:Ho):Ho:=if h=a.1 then a.2 else a.1
theorem oth_end(a:Ln)(h:Ho):cj a (oth a h):=by
 unfold oth cj
 split
 ·exact .inr rfl
 ·exact .inl rfl
theorem oth_ne{a:Ln}{h:Ho}(n:a.1≠a.2)(e:cj a h):oth a h≠h:=by
 unfold oth
 rcases e with e | e
 ·rw[if_pos e.symm,← e]
  exact Ne.symm n
 ·by_cases z:h=a.1
  ·exact absurd (z.symm.trans e.symm) n
  ·rw[if_neg z,← e]
   exact n
theorem end_two{a:Ln}{h g:Ho}(eh:cj a h)(eg:cj a g):g=h∨g=oth a h:=by
 unfold oth
 rcases eh with eh | eh
 ·rw[if_pos eh.symm]
  rcases eg with eg | eg
  ·exact .inl (eg.symm.trans eh)
  ·exact .inr eg.symm
 ·by_cases z:h=a.1
  ·rw[if_pos z]
   rcases eg with eg | eg
   ·exact .inl (eg.symm.trans z.symm)
   ·exact .inr eg.symm
  ·rw[if_neg z]
   rcases eg with eg | eg
   ·exact .inr eg.symm
   ·exact .inl (eg.symm.trans eh)
def Pt(T:List Tie)(s:Sti)(h:Ho)(t:Sti):Prop:=t.1=(!s.1)∧(h,(if s.1=true then s.2 else t.2),(if s.1=true then t.2 else s.2))∈T
theorem Pt.symm{T:List Tie}{s t:Sti}{h:Ho}(p:Pt T s h t):Pt T t h s:=by
 obtain⟨b,a⟩:=s
 obtain⟨c,d⟩:=t
 obtain⟨p1,p2⟩:=p
 have p1:c=(!b):=p1
 subst p1
 cases b
 ·exact⟨rfl,p2⟩
 ·exact⟨rfl,p2⟩
theorem Pt.face{T:List Tie}{s t:Sti}{h:Ho}(p:Pt T s h t):t.1=(!s.1):=p.1
theorem Pt.ne{T:List Tie}{s:Sti}{h:Ho}(p:Pt T s h s):False:=by
 have:=p.1
 cases hb:s.1<;>rw[hb]at this<;>cases this
structure d7(fs bs:List Ln)(T:List Tie):Prop where
 mem:∀ x∈T,x.2.1∈fs∧x.2.2∈bs∧cj x.2.1 x.1∧cj x.2.2 x.1
 f1:(T.map fun x=>(x.1,x.2.1)).Nodup
 b1:(T.map fun x=>(x.1,x.2.2)).Nodup
theorem inj_map{α β:Type}{f:α→β}:∀ {l:List α},(l.map f).Nodup→∀ {a b:α},a∈l→b∈l→f a=f b→a=b
 | [],_,_,_,h,_,_=>nomatch h
 | x::l,nd,a,b,ha,hb,e=>by
  rw[zay,zbb]at nd
  rcases zaa.mp ha with ea | ha'
  ·rcases zaa.mp hb with eb | hb'
   ·rw[ea,eb]
   ·exact absurd (ea▸e▸za6.mpr ⟨b,hb',rfl⟩) nd.1
  ·rcases zaa.mp hb with eb | hb'
   ·exact absurd (eb▸e▸za6.mpr ⟨a,ha',rfl⟩) nd.1
   ·exact inj_map nd.2 ha' hb' e
theorem d7.fn{fs bs:List Ln}{T:List Tie}(k:d7 fs bs T){s t t':Sti}{h:Ho}(p:Pt T s h t)(p':Pt T s h t'):t=t':=by
 obtain⟨b,a⟩:=s
 obtain⟨c,d⟩:=t
 obtain⟨c',d'⟩:=t'
 obtain⟨p1,p2⟩:=p
 obtain⟨q1,q2⟩:=p'
 have p1:c=(!b):=p1
 have q1:c'=(!b):=q1
 subst p1 q1
 cases b
 ·have:=inj_map k.b1 p2 q2 rfl
  simp only[zab,if_false,Prod.mk.injEq]at this
  rw[this.2.1]
 ·have:=inj_map k.f1 p2 q2 rfl
  simp only[if_true,Prod.mk.injEq]at this
  rw[this.2.2]
theorem d7.ends{fs bs:List Ln}{T:List Tie}(k:d7 fs bs T){s t:Sti}{h:Ho}(p:Pt T s h t):cj s.2 h∧cj t.2 h:=by
 obtain⟨b,a⟩:=s
 obtain⟨c,d⟩:=t
 obtain⟨_,p2⟩:=p
 have m:=k.mem _ p2
 cases b
 ·exact⟨m.2.2.2,m.2.2.1⟩
 ·exact⟨m.2.2.1,m.2.2.2⟩
def InW(fs bs:List Ln)(s:Sti):Prop:=(s.1=true∧s.2∈fs)∨(s.1=false∧s.2∈bs)
theorem d7.inW{fs bs:List Ln}{T:List Tie}(k:d7 fs bs T){s t:Sti}{h:Ho}(p:Pt T s h t):InW fs bs t:=by
 obtain⟨b,a⟩:=s
 obtain⟨c,d⟩:=t
 obtain⟨p1,p2⟩:=p
 have p1:c=(!b):=p1
 subst p1
 have m:=k.mem _ p2
 cases b
 ·exact .inl ⟨rfl,m.1⟩
 ·exact .inr ⟨rfl,m.2.1⟩
structure Wlk(T:List Tie)(s0:Sti)(h0:Ho)(ps:List Sti)(hs:List Ho):Prop where
 len:hs.length=ps.length+1
 hb:hs[0]?=some h0
 sb:ps[0]?=some s0
 nd:ps.Nodup
 ends:∀ (k:Nat) p e x,ps[k]?=some p→hs[k]?=some e→hs[k+1]?=some x→cj p.2 e∧x=oth p.2 e
 lnk:∀ (k:Nat) p q e,ps[k]?=some p→ps[k+1]?=some q→hs[k+1]?=some e→Pt T p e q
theorem Wlk.one{T:List Tie}{s0:Sti}{h0:Ho}(e:cj s0.2 h0):Wlk T s0 h0 [s0] [h0,oth s0.2 h0]:=by
 refine⟨rfl,rfl,rfl,by simp,fun k p e' x h1 h2 h3=>?_,fun k p q e' h1 h2 h3=>?_⟩
 ·match k,h1 with
  | 0,h1 =>
   cases h1
   cases h2
   cases h3
   exact⟨e,rfl⟩
  | k+1,h1=>simp at h1
 ·simp at h2
theorem Wlk.at{T:List Tie}{s0:Sti}{h0:Ho}{ps:List Sti}{hs:List Ho}(W:Wlk T s0 h0 ps hs){k:Nat}(hk:k≤ps.length):∃ e,hs[k]?=some e:=⟨_,za2 (by rw[W.len];omega)⟩
theorem nd_idx{ps:List Sti}(nd:ps.Nodup){i j:Nat}{p:Sti}(hi:ps[i]?=some p)(hj:ps[j]?=some p):i=j:=by
 obtain⟨h1,e1⟩:=za3.mp hi
 obtain⟨h2,e2⟩:=za3.mp hj
 exact(List.getElem_inj nd).mp (e1.trans e2.symm)
theorem Wlk.step{T:List Tie}{s0 p t:Sti}{h0 h:Ho}{ps:List Sti}{hs:List Ho}(W:Wlk T s0 h0 (ps++[p]) (hs++[h]))(q:Pt T p h t)(et:cj t.2 h)(n:t∉ps++[p]):Wlk T s0 h0 (ps++[p]++[t]) (hs++[h]++[oth t.2 h]):=by
 have wl:=W.len
 rw[za1,za1,zam,zam]at wl
 have hl:hs.length=ps.length+1:=by omega
 have lp:(ps++[p]).length=ps.length+1:=by simp
 have lh:(hs++[h]).length=ps.length+2:=by simp[hl]
 have gl:(hs++[h])[ps.length+1]?=some h:=by rw[← hl];simp
 have gp:(ps++[p])[ps.length]?=some p:=by simp
 refine⟨by simp[hl],?_,?_,?_,fun k a e x h1 h2 h3=>?_,fun k a b e h1 h2 h3=>?_⟩
 ·rw[zal (by omega)];exact W.hb
 ·rw[zal (by omega)];exact W.sb
 ·rw[zbu]
  refine⟨W.nd,by simp,fun a ha b hb e=>?_⟩
  rw[za7]at hb
  exact n (hb▸e▸ha)
 ·have hk:k<(ps++[p]++[t]).length:=(za3.mp h1).1
  rw[za1,lp,zam]at hk
  by_cases hk2:k<ps.length+1
  ·rw[zal (by omega)]at h1
   rw[zal (by omega)]at h2
   rw[zal (by omega)]at h3
   exact W.ends k a e x h1 h2 h3
  ·have:k=ps.length+1:=by omega
   subst this
   rw[zat (by omega),lp,Nat.sub_self]at h1
   cases h1
   rw[zal (by omega),gl]at h2
   cases h2
   rw[zat (by omega),lh,Nat.sub_self]at h3
   cases h3
   exact⟨et,rfl⟩
 ·have hk:k+1<(ps++[p]++[t]).length:=(za3.mp h2).1
  rw[za1,lp,zam]at hk
  by_cases hk2:k+1<ps.length+1
  ·rw[zal (by omega)]at h1
   rw[zal (by omega)]at h2
   rw[zal (by omega)]at h3
   exact W.lnk k a b e h1 h2 h3
  ·have:k=ps.length:=by omega
   subst this
   rw[zal (by omega),gp]at h1
   cases h1
   rw[zat (by omega),lp,Nat.sub_self]at h2
   cases h2
   rw[zal (by omega),gl]at h3
   cases h3
   exact q
theorem Wlk.close{fs bs:List Ln}{T:List Tie}(ok:d7 fs bs T)(ne:∀ s,InW fs bs s→s.2.1≠s.2.2){s0 p t:Sti}{h0 h:Ho}{ps:List Sti}{hs:List Ho}(W:Wlk T s0 h0 (ps++[p]) (hs++[h]))(pin:InW fs bs p)(q:Pt T p h t)(m:t∈ps++[p]):t=s0∧h=h0:=by
 have wl:=W.len
 rw[za1,za1,zam,zam]at wl
 have hl:hs.length=ps.length+1:=by omega
 have gl:(hs++[h])[ps.length+1]?=some h:=by rw[← hl];simp
 have gp:(ps++[p])[ps.length]?=some p:=by simp
 obtain⟨i,hi⟩:=zaw.mp m
 have il:i<ps.length+1:=by have:=(za3.mp hi).1;simpa using this
 obtain⟨e,he⟩:=W.at (k:=i) (by simp;omega)
 obtain⟨x,hx⟩:=W.at (k:=i+1) (by simp;omega)
 obtain⟨ee,ex⟩:=W.ends i t e x hi he hx
 have eh:=(ok.ends q).2
 have qs:=q.symm
 obtain⟨e',he'⟩:=W.at (k:=ps.length) (by simp)
 obtain⟨ee',ex'⟩:=W.ends ps.length p e' h gp he' gl
 have hne:h≠e':=by rw[ex'];exact oth_ne (ne p pin) ee'
 rcases end_two ee eh with z | z
 ·subst z
  by_cases i0:i=0
  ·subst i0
   rw[W.hb]at he
   rw[W.sb]at hi
   cases he
   cases hi
   exact⟨rfl,rfl⟩
  ·obtain⟨j,rfl⟩:∃ j,i=j+1:=⟨i-1,by omega⟩
   have hj:(ps++[p])[j]?=some ((ps++[p])[j]'(by simp;omega)):=za2 _
   have l:=W.lnk j _ t h hj hi he
   have:=ok.fn l.symm qs
   rw[this]at hj
   have:=nd_idx W.nd hj gp
   omega
 ·have zx:h=x:=z.trans ex.symm
  subst zx
  by_cases ip:i=ps.length
  ·subst ip
   rw[gp]at hi
   cases hi
   exact q.ne.elim
  ·have hj:(ps++[p])[i+1]?=some ((ps++[p])[i+1]'(by simp;omega)):=za2 _
   have l:=W.lnk i t _ h hi hj hx
   have:=ok.fn l qs
   rw[this]at hj
   have:=nd_idx W.nd hj gp
   have hpi:i+1=ps.length:=this
   rw[hpi]at hx
   rw[hx]at he'
   exact absurd (Option.some.inj he') hne
def Clo(T:List Tie)(U:List Sti):Prop:=∀ u∈U,∀ h t,Pt T u h t→t∈U
theorem Wlk.clo{fs bs:List Ln}{T:List Tie}(ok:d7 fs bs T){s0 p:Sti}{h0 h:Ho}{ps:List Sti}{hs:List Ho}{U:List Sti}(W:Wlk T s0 h0 (ps++[p]) (hs++[h]))(cl:Clo T U)
  (fin:((∀ t,¬ Pt T p h t)∧∀ t,¬ Pt T s0 h0 t)∨(h=h0∧Pt T p h s0)):Clo T (U++(ps++[p])):=by
 have wl:=W.len
 rw[za1,za1,zam,zam]at wl
 have hl:hs.length=ps.length+1:=by omega
 have gl:(hs++[h])[ps.length+1]?=some h:=by rw[← hl];simp
 have gp:(ps++[p])[ps.length]?=some p:=by simp
 intro u hu g t q
 rcases za9.mp hu with hu | hu
 ·exact zae _ (cl u hu g t q)
 refine za5 _ ?_
 obtain⟨i,hi⟩:=zaw.mp hu
 have il:i<ps.length+1:=by have:=(za3.mp hi).1;simpa using this
 obtain⟨e,he⟩:=W.at (k:=i) (by simp;omega)
 obtain⟨x,hx⟩:=W.at (k:=i+1) (by simp;omega)
 obtain⟨ee,ex⟩:=W.ends i u e x hi he hx
 rcases end_two ee (ok.ends q).1 with z | z
 ·subst z
  by_cases i0:i=0
  ·subst i0
   rw[W.hb]at he
   rw[W.sb]at hi
   cases he
   cases hi
   rcases fin with ⟨_,f2⟩ | ⟨f1,f2⟩
   ·exact absurd q (f2 t)
   ·subst f1
    rw[ok.fn q f2.symm]
    exact zak gp
  ·obtain⟨j,rfl⟩:∃ j,i=j+1:=⟨i-1,by omega⟩
   have hj:(ps++[p])[j]?=some ((ps++[p])[j]'(by simp;omega)):=za2 _
   rw[ok.fn q (W.lnk j _ u g hj hi he).symm]
   exact zak hj
 ·have zx:g=x:=z.trans ex.symm
  subst zx
  by_cases ip:i=ps.length
  ·subst ip
   rw[gp]at hi
   cases hi
   rw[gl]at hx
   cases hx
   rcases fin with ⟨f1,_⟩ | ⟨_,f2⟩
   ·exact absurd q (f1 t)
   ·rw[ok.fn q f2]
    exact zak W.sb
  ·have hj:(ps++[p])[i+1]?=some ((ps++[p])[i+1]'(by simp;omega)):=za2 _
   rw[ok.fn q (W.lnk i u _ g hi hj hx)]
   exact zak hj
def kD(s:Sti)(h:Ho):Dt:=.tup [sD s,hD h]
theorem kD_inj{s t:Sti}{h g:Ho}(e:kD s h=kD t g):s=t∧h=g:=by
 have h':[sD s,hD h]=[sD t,hD g]:=by unfold kD at e;exact Dt.tup.inj e
 simp only[List.cons.injEq,and_true]at h'
 exact⟨sD_inj h'.1,bZ h'.2⟩
theorem sD_dp(s:Sti):(sD s).dp≤8:=by simp[sD,lnD,hD,Dt.dp,Dt.dps]
theorem kD_dp(s:Sti)(h:Ho):(kD s h).dp≤8:=by simp[kD,sD,lnD,hD,Dt.dp,Dt.dps]
def putF(f:Dt→Option Dt)(k e:Dt):Dt→Option Dt:=fun k'=>if k'=k then some e else f k'
def tf1(f:Dt→Option Dt)(x:Tie):Dt→Option Dt:=putF (putF f (kD (true,x.2.1) x.1) (sD (false,x.2.2))) (kD (false,x.2.2) x.1) (sD (true,x.2.1))
def tf(T:List Tie):Dt→Option Dt:=T.foldl tf1 (fun _=>none)
theorem tf_snoc(T:List Tie)(x:Tie):tf (T++[x])=tf1 (tf T) x:=by unfold tf;rw[List.foldl_append];rfl
theorem d7.init{fs bs:List Ln}{T:List Tie}{x:Tie}(k:d7 fs bs (T++[x])):d7 fs bs T:=by
 refine⟨fun y hy=>k.mem y (zae _ hy),?_,?_⟩
 ·have:=k.f1
  rw[zar,zbu]at this
  exact this.1
 ·have:=k.b1
  rw[zar,zbu]at this
  exact this.1
theorem Pt.mono{T:List Tie}{x:Tie}{s t:Sti}{h:Ho}(p:Pt T s h t):Pt (T++[x]) s h t:=⟨p.1,zae _ p.2⟩
theorem Pt.last{T:List Tie}{x:Tie}:Pt (T++[x]) (true,x.2.1) x.1 (false,x.2.2):=⟨rfl,za5 _ (za7.mpr rfl)⟩
theorem Pt.cases{T:List Tie}{x:Tie}{s t:Sti}{h:Ho}(p:Pt (T++[x]) s h t):Pt T s h t∨(s=(true,x.2.1)∧h=x.1∧t=(false,x.2.2))∨(s=(false,x.2.2)∧h=x.1∧t=(true,x.2.1)):=by
 obtain⟨b,a⟩:=s
 obtain⟨c,d⟩:=t
 obtain⟨p1,p2⟩:=p
 have p1:c=(!b):=p1
 subst p1
 rcases za9.mp p2 with p2 | p2
 ·exact .inl ⟨rfl,p2⟩
 ·have e:=za7.mp p2
  subst e
  cases b
  ·exact .inr (.inr ⟨rfl,rfl,rfl⟩)
  ·exact .inr (.inl ⟨rfl,rfl,rfl⟩)
theorem tf_ok{fs bs:List Ln}:∀ (n:Nat) {T:List Tie},T.length=n→d7 fs bs T→(∀ s h t,Pt T s h t→tf T (kD s h)=some (sD t))∧∀ s h,(∀ t,¬ Pt T s h t)→tf T (kD s h)=none
 | 0,T,hl,_=>by
  have:=zbx.mp hl
  subst this
  exact⟨fun s h t p=>(nomatch p.2),fun _ _ _=>rfl⟩
 | n+1,T,hl,k=>by
  obtain⟨T',x,rfl⟩:∃ T' x,T=T'++[x]:=by
   rcases zbh T with rfl | ⟨T',x,rfl⟩
   ·cases hl
   ·exact⟨T',x,zbi ..⟩
  rw[za1,zam]at hl
  obtain⟨i1,i2⟩:=tf_ok n (T:=T') (by omega) k.init
  rw[tf_snoc]
  have key:∀ s h,tf1 (tf T') x (kD s h)=(if kD s h=kD (false,x.2.2) x.1 then some (sD (true,x.2.1)) else if kD s h=kD (true,x.2.1) x.1 then some (sD (false,x.2.2)) else tf T' (kD s h)):=fun s h=>rfl
  constructor
  ·intro s h t p
   rw[key]
   by_cases e1:kD s h=kD (false,x.2.2) x.1
   ·rw[if_pos e1]
    obtain⟨rfl,rfl⟩:=kD_inj e1
    rw[k.fn p Pt.last.symm]
   ·rw[if_neg e1]
    by_cases e2:kD s h=kD (true,x.2.1) x.1
    ·rw[if_pos e2]
     obtain⟨rfl,rfl⟩:=kD_inj e2
     rw[k.fn p Pt.last]
    ·rw[if_neg e2]
     rcases p.cases with q | ⟨rfl,rfl,rfl⟩ | ⟨rfl,rfl,rfl⟩
     ·exact i1 s h t q
     ·exact absurd rfl e2
     ·exact absurd rfl e1
  ·intro s h hn
   rw[key]
   by_cases e1:kD s h=kD (false,x.2.2) x.1
   ·obtain⟨rfl,rfl⟩:=kD_inj e1
    exact absurd Pt.last.symm (hn _)
   ·rw[if_neg e1]
    by_cases e2:kD s h=kD (true,x.2.1) x.1
    ·obtain⟨rfl,rfl⟩:=kD_inj e2
     exact absurd Pt.last (hn _)
    ·rw[if_neg e2]
     exact i2 s h fun t q=>hn t q.mono
structure DicD(P:Program)(w:World)(H:Hp)(d:Addr)(kvs:List (Dt×V))(f:Dt→Option Dt):Prop where
 dic:DicV P w H d kvs
 no:∀ k,f k=none→valV kvs k=none
 yes:∀ k e,f k=some e→∃ r,valV kvs k=some (.ref r)∧DtIs H (.ref r) e
section
variable{P:Program}{w:World}{H:Hp}{d:Addr}{kvs:List (Dt×V)}{f:Dt→Option Dt}
theorem DicD.start(h:DicV P w H d []):DicD P w H d [] (fun _=>none):=⟨h,fun _ _=>rfl,fun _ _ z=>(nomatch z)⟩
theorem DicD.same{H':Hp}(D:DicD P w H d kvs f)(s:Same H H'):DicD P w H' d kvs f:=⟨D.dic.same s,D.no,fun k e z=>let ⟨r,v,t⟩:=D.yes k e z;⟨r,v,t.same s⟩⟩
theorem DicD.put{k e:Dt}{r:Addr}{o:HO}(D:DicD P w H d kvs f)(t:DtIs H (.ref r) e)(d':DicV P w (upd H d o) d (putK kvs k (.ref r))):DicD P w (upd H d o) d (putK kvs k (.ref r)) (putF f k e):=by
 obtain⟨φ,ext⟩:=D.dic.ext
 refine⟨d',fun k' z=>?_,fun k' e' z=>?_⟩
 ·unfold putF at z
  rw[cm]
  by_cases hk:k'=k
  ·rw[if_pos hk]at z;cases z
  ·rw[if_neg hk]at z ⊢
   exact D.no k' z
 ·unfold putF at z
  rw[cm]
  by_cases hk:k'=k
  ·rw[if_pos hk]at z ⊢
   cases z
   exact⟨r,rfl,t.updX ext⟩
  ·rw[if_neg hk]at z ⊢
   obtain⟨r',v,t'⟩:=D.yes k' e' z
   exact⟨r',v,t'.updX ext⟩
end
section
variable{X:Cx}
theorem mt_get1{k:Nat}(hr:Room k X.A):MtR X "dict.get" (fun x vs H Q=>∃ (a b:Addr) (d:Dt) (kvs:List (Dt×V)),x=.ref a∧vs=[.ref b]∧DtIs H (.ref b) d∧d.dp≤8∧DicV X.prog X.w H a kvs∧Q ((valV kvs d).getD .non) H):=by
 intro pins s σ H x vs v us Q I rx rv h
 obtain⟨a,b,d,kvs,rfl,rfl,hd,h8,⟨xs,dic,kd⟩,q⟩:=h
 have hu:=hr.units
 cases rx
 cases rv with
 | cons r1 r2 =>
  cases r2
  cases r1
  have full:=eN I dic
  refine wpAny_call_entry F.slot_dict_get full.typeIs F.entry_dict_get ?_ (F.args_dict_get_2 _ _)
  show wpAny _ _ (dictGet a (.ref b)>>=_) _ _ s
  refine wpAny_bind (wpAny_dictGet_heap (knd:=dN X.prog X.w) (k:=d) (by show X.A.units+1+9<cLine;omega) ⟨c9 I hd rfl,h8⟩ full ?_)
  have rel:=kd.val d
  cases hk:(atKey xs d).map (·.2) with
  | some p =>
   rw[hk]at rel
   cases hv:valV kvs d with
   | none=>rw[hv]at rel;exact absurd rel id
   | some u=>rw[hv]at rel q;exact wpAny_pure ⟨p,rfl,u,H,I.tok _,rel,q⟩
  | none =>
   rw[hk]at rel
   cases hv:valV kvs d with
   | some u=>rw[hv]at rel;exact absurd rel id
   | none =>
    rw[hv]at q
    show wpAny _ _ (Builtin.Dict.missed a (.ref b)>>=_) _ _ _
    exact wpAny_bind (wpAny_missed_other dic.sys (wpAny_pure ⟨.none,rfl,.non,H,I.tok _,rfl,q⟩))
end
section
variable{prog:Program}{w:World}{A:Around}{E:Value→Shared→Prop}{s:Shared}
theorem put_at{l:Addr}{its:List Value}{n:Nat}{k:Int}{t:Tok}{v:Value}{Q:Unit→Shared→Prop}(e:s.heap.get? l=some { cls:=.type "list",data:=.seq its.toArray n })(h0:0≤k)(hj:k<its.length)(hf:k<2 ^ 63)
  (h:Q () { s with heap:=s.heap.update l (Obj.mapSeq fun xs=>xs.setIfInBounds k.toNat v) }):wpAny (model prog w) A (setItem (.ref l) (.int k t) v) Q E s:=by
 have hl:s.heap.IsList l its.toArray:=⟨_,e,rfl,n,rfl⟩
 unfold setItem
 try with_reducible refine wpAny_holding ?_
 first | refine wpAny_bind (wpAny_pure ?_) | skip
 refine wpAny_bind (wpAny_sequenceKey hl.typeIs (by decide) ?_)
 refine wpAny_bind (wpAny_callSpecial?_slot (name:=Str.ofString "__setitem__") hl.typeIs PySem.slot_list_setitem ?_)
 refine wpAny_call_entry PySem.slot_list_setitem hl.typeIs PySem.entry_list_setitem ?_ (PySem.args_list_setitem _ _ _)
 show wpAny _ _ (Builtin.List.listSubscript? (.int k t)>>=_) _ _ s
 refine wpAny_bind (wpAny_listSubscript_int (fitsIndex_of h0 hf) ?_)
 clear hf
 obtain⟨j,rfl⟩:=Int.eq_ofNat_of_zero_le h0
 have hj':j<its.length:=by omega
 have hx:its.toArray[j]?=some (its[j]):=by simp[hj']
 show wpAny _ _ ((seqItemAt l j>>=fun r=>pure (r.map (j,·)))>>=_) _ _ s
 refine wpAny_bind (wpAny_bind (wpAny_seqItemAt e rfl (wpAny_pure ?_)))
 rw[hx]
 refine wpAny_bind (m:=setSeqItemAt l j v) (wpAny_setSeqItemAt e rfl ?_)
 first
  | exact wpAny_bind (wpAny_pure (wpAny_pure ⟨.none,rfl,wpAny_pure h⟩))
  | exact wpAny_pure ⟨.none,rfl,wpAny_pure h⟩
end
theorem Vals.set{y:V}{r:Value}(ry:RelV y r):∀ {xs:List V} {its:List Value},Vals xs its→∀ i:Nat,Vals (xs.set i y) (its.set i r)
 | _,_,.nil,_=>.nil
 | _,_,.cons _ t,0=>.cons ry t
 | _,_,.cons q t,i+1=>.cons q (Vals.set ry t i)
section
variable{X:Cx}
def sPutL(td ty tv:TE):TS:=fun D σ H=>tv σ H fun v H1=>td σ H1 fun x H2=>ty σ H2 fun y H3=>∃ (l:Addr) (xs:List V) (i:Nat) (e:Int),x=.ref l∧y=.int e∧e=(i:Int)∧H3 l=some (.lst xs)∧i<xs.length∧D.nx σ (upd H3 l (.lst (xs.set i v)))
theorem ps_putL{o i value:Expr}{td ty tv:TE}{pos' pos:Pos}(ho:PE X o td)(hi:PE X i ty)(hv:PE X value tv)(hs:swapsWith value (some (.Subscript o i pos')) pos.line X.env=pure false) :
  PS X (.Assign [.Subscript o i pos'] value pos) (sPutL td ty tv):=by
 intro pins s σ H D I h
 refine wpAny_Assign_Subscript (thn (hv pins s σ H _ I h) fun r s1 zz1=>?_) hs
 obtain⟨v,H1,I1,rv,q1⟩:=zz1
 refine thn (ho pins s1 σ H1 _ I1 q1) fun u s2 zz2=>?_
 obtain⟨x,H2,I2,rx,q2⟩:=zz2
 refine thn (hi pins s2 σ H2 _ I2 q2) fun iv s3 zz3=>?_
 obtain⟨y,H3,I3,ry,l,xs,j,e,ex,ey,ee,hl,hj,q3⟩:=zz3
 subst ex ey ee
 obtain rfl:u=Value.ref l:=rx
 obtain⟨t,rfl⟩:=ry
 obtain⟨z,its,n,r',hl',eg⟩:=I3.lstM hl
 refine put_at eg (by omega) (by omega) (by rw[sizeLine_eq]at z;omega) ⟨σ,_,I3.lset (its':=its.set j r) (f:=fun xs=>xs.setIfInBounds j r) hl eg (by simp) (Vals.set rv r' j) (by rw[List.length_set];exact z),q3⟩
end
def Ite(K:PySem.W.Frag)(a:Addr):It :=
 ⟨fun i H=>∃ xs x,SqL K H a xs∧xs[i]?=some x,fun i H v H'=>∃ p x,v=.ref p∧H p=none∧H'=upd H p (.tup [.int i,x])∧∀ xs,SqL K H a xs→xs[i]?=some x,fun i H=>∃ xs,SqL K H a xs∧xs.length≤i⟩
theorem two_fits:2≤sizeLine:=by decide
theorem hW{P:Program}{w:World}{A:Around}{E:Value→Shared→Prop}{s:Shared}{e it:Addr}{i:Int}{old:Value}{Q:Value→Shared→Prop}(he:IsEnum s.heap e it i old)(q:Q (.ref e) s):wpAny (model P w) A (pyIter (.ref e)) Q E s:=by
 have ty:s.TypeIs (.ref e) "enumerate":=⟨_,he,rfl⟩
 refine wpAny_pyIter_slot ty F.slot_enumerate_iter (wpAny_call_entry F.slot_enumerate_iter ty F.entry_enumerate_iter ?_ (F.args_enumerate_iter_1 _))
 show wpAny _ _ (ret (.ref e)) _ _ s
 exact wpAny_pure ⟨_,rfl,"enumerate",_,ty,F.slot_enumerate_next.lookup,q⟩
theorem turn_enum{P:Program}{w:World}{K:PySem.W.Frag}{es:List Expr}{n:Nat}{p:Pos}{e it a:Addr}(ne:e≠it) :
  Turn P w K (.Tuple es n p) (Ite K a) [e,it] e (fun i h=>(∃ old,IsEnum h e it (i:Int) old)∧h.IsListIter it a i) where
 mem:=by simp
 obj:=fun i h st c hc=>by
  obtain⟨⟨old,he⟩,hi⟩:=st
  simp only[zaa,zb7,or_false]at hc
  rcases hc with rfl | rfl
  ·exact⟨_,he,fun v t=>by have t':Data.fields _=Data.cell v:=t;cases t'⟩
  ·obtain⟨o,e',_,d⟩:=hi
   exact⟨o,e',fun v z=>by rw[d]at z;cases z⟩
 keep:=fun i h h' st k=>by
  obtain⟨⟨old,he⟩,hi⟩:=st
  exact⟨⟨old,k e (by simp) _ he⟩,hi.at fun o e'=>k it (by simp) o e'⟩
 item:=by
  intro X hP hw hK hc i pins s σ H E I hf st hg
  subst hP hw hK
  obtain⟨xs,x,q,hx⟩:=hg
  obtain⟨⟨old,he⟩,hi⟩:=st
  obtain⟨us,ru,pu,_⟩:=I.list q
  obtain⟨u,hu,eu⟩:=ru.get hx
  refine wpAny_pyNext_enum_item he hi pu.isList (x:=u) (by simpa using hu) ne fun h1 he1 hi1 pr sz1 k1=>?_
  refine⟨_,rfl,wpAny_letOwnedTupleGo_enum (s:={ s with heap:=h1,toks:=s.toks+1 }) he1 fun h2 he2 sb=>?_⟩
  have hfr:H s.heap.objs.size=none:=I.hok.fresh (za4 _)
  have Im:Inv X pins σ (upd H s.heap.objs.size (.tup [.int (i:Int),x])) { s with heap:=s.heap.push { cls:=.type "tuple",data:=.seq #[.int i s.toks,u] },toks:=s.toks+1 } :=
   I.laid (fun b o e=>Heap.get?_push_of_some _ e) (za4 _) ⟨two_fits,[.int i s.toks,u],.cons ⟨_,rfl⟩ (.cons eu .nil),⟨_,Heap.get?_push_size _ rfl,rfl,_,rfl⟩⟩
  have nfp:∀ c∈[e,it],c≠s.heap.objs.size:=fun c hc' t=>by
   have lt:c<s.heap.objs.size:=by
    simp only[zaa,zb7,or_false]at hc'
    rcases hc' with rfl | rfl
    ·exact Heap.lt_size he
    ·obtain⟨o,e',_⟩:=hi;exact Heap.lt_size e'
   exact absurd lt (by rw[t];exact zbv _)
  have ff:∀ c∈[e,it],FpOk X pins (upd H s.heap.objs.size (.tup [.int (i:Int),x])) c:=fun c hc'=>by
   obtain⟨f0,fr⟩:=hf c hc'
   exact⟨by rw[af (nfp c hc')];exact f0,fr⟩
  have kk:∀ c o,c∉[e,it]→(s.heap.push { cls:=.type "tuple",data:=.seq #[.int i s.toks,u] }).get? c=some o→h2.get? c=some o:=fun c o hc' e'=>by
   have ce:c≠e:=fun t=>hc' (by simp[t])
   have ci:c≠it:=fun t=>hc' (by simp[t])
   rcases Heap.get?_push_cases e' with ⟨rfl,rfl⟩ | e'
   ·exact sb.extBut _ _ ce pr
   ·exact sb.extBut _ _ ce (k1 c o ce ci e')
  have I2:=eP (h':=h2) (t':=s.toks+1) Im kk ff
  refine⟨.ref s.heap.objs.size,upd H s.heap.objs.size (.tup [.int (i:Int),x]),I2,rfl,⟨_,x,rfl,hfr,rfl,fun xs' q'=>?_⟩,?_,fun c hc'=>(ff c hc').1⟩
  ·rw[I.list_inj q' q];exact hx
  ·exact⟨⟨u,he2⟩,hi1.at fun o e'=>sb.extBut _ _ (Ne.symm ne) e'⟩
 done:=by
  intro X hP hw hK hc i pins s σ H E I hf st hg
  subst hP hw hK
  obtain⟨xs,q,hl⟩:=hg
  obtain⟨⟨old,he⟩,hi⟩:=st
  obtain⟨us,ru,pu,_⟩:=I.list q
  have l1:=ru.length
  exact wpAny_pyNext_enum_end (I.ok.hd hc) he hi pu.isList (by simp;omega) fun h1 k1 =>
   ⟨rfl,eP (t':=s.toks) (L:=[e,it]) I (fun c o hc' e'=>k1 c o (fun t=>hc' (by simp[t])) e') hf⟩
 self:=fun _ _ _ _ _ st h=>by
  obtain⟨⟨old,he⟩,_⟩:=st
  exact hW he h
section
variable{X:Cx}
def iEnum(K:PySem.W.Frag)(ta:TA):TI:=fun σ H R=>ta σ H fun vs H1=>∃ a xs,vs=[.ref a]∧SqL K H1 a xs∧R (Ite K a) H1
theorem pi_enum{es:List Expr}{n:Nat}{pt:Pos}{a:Expr}{ta:TA}{p pos:Pos}(hg:Gl X "enumerate")(hm:X.mg "enumerate"=none)(ha:PA X [a] ta)(hs:starEach [a] X.env=[(false,eval a X.env)]:=by rfl) :
  PI X (.Tuple es n pt) (.Call (.Name "enumerate" p) [a] [] pos) (iEnum X.K ta):=by
 intro pins s σ H R I h
 refine Call_ (eI I hg hm boot_enumerate (PyProof.Rows.callWith_type1 (thn (ha pos pins s σ H _ I h) fun us s1 zz1=>?_) hs rfl))
 obtain⟨vs,H1,I1,r1,q1⟩:=zz1
 obtain⟨x,xs,e,q,qr⟩:=q1
 subst e
 cases r1 with
 | cons r rr =>
  cases rr
  cases r
  obtain⟨us,ru,pu,_⟩:=I1.list q
  refine call_enumerate_list pu.isList fun h' he hi _ k=>?_
  refine hW (s:={ s1 with heap:=h' }) he ?_
  refine⟨_,_,_,_,H1,rfl,I1.kept (t':=s1.toks) k,turn_enum (Ne.symm (zap (zbe _))),⟨⟨_,he⟩,hi⟩,fun c hc=>?_,qr⟩
  have hs:s1.heap.objs.size≤c:=by
   simp only[zaa,zb7,or_false]at hc
   rcases hc with rfl | rfl
   ·exact Nat.le_succ _
   ·exact za4 _
  exact I1.fpOk hs (I1.hok.fresh hs)
end
section
variable{X:Cx}
def CDivL(i j:Int):Prop:=0<j∧j<2 ^ 90
theorem iW:OpR X (binaryOp .FloorDiv) (rI CDivL fun i j=>.int (i / j)):=opI fun i j _ _ _ _ _ hc q=>by
 have h1:(0:Int)<j:=hc.1
 have h2:j<2 ^ 90:=hc.2
 refine floordiv_int (by omega) (by rw[Int.fdiv_eq_ediv_of_nonneg i (by omega)];exact q) (.inl (PyProof.noPylong_of_log2 ?_))
 have h3:j.natAbs<2 ^ 90:=by omega
 have:=(Nat.log2_lt (by omega)).mpr h3
 omega
end
theorem pe_p24{X:Cx}{j1 j2:Nat}{p1 p2 pos:Pos}:PE X (.BinOp (.Constant (.int 10) j1 p1) .Pow (.Constant (.int 24) j2 p2) pos) (tC (.int 1000000000000000000000000)) :=
 pe_imp (ah op_pow a8 a8) fun σ H Q q=>⟨10,24,rfl,rfl,⟨by decide,by decide,by decide⟩,by
  have e:((10:Int) ^ (24:Int).toNat)=1000000000000000000000000:=by decide
  show Q (V.int _) H
  rw[e];exact q⟩
theorem for_enum{K:PySem.W.Frag}{a:Addr}{xs:List V}{g:TG}{tb:TS}{D:Ends}{σ:L2.St}{H:Hp}(Pv:Nat→L2.St→Hp→Prop)(h0:Pv 0 σ H)(hl:∀ i σ H,i≤xs.length→Pv i σ H→SqL K H a xs)
  (hs:∀ i x p σ H,xs[i]?=some x→Pv i σ H→H p=none→g (.ref p) σ (upd H p (.tup [.int i,x])) fun σ2 H2=>tb { D with nx:=Pv (i+1),ct:=Pv (i+1),bk:=D.nx } σ2 H2) (hd:∀ σ H,Pv xs.length σ H→D.nx σ H) :
  ∃ W:Nat→Nat→L2.St→Hp→Prop,(∃ m,W 0 m σ H)∧∀ i m σ H,W i m σ H →
   ((Ite K a).stop i H∧D.nx σ H)∨((Ite K a).go i H∧∃ N:L2.St→Hp→Prop,(∀ σ' H',N σ' H'→∃ m',m'<m∧W (i+1) m' σ' H')∧∀ x H',(Ite K a).yld i H x H'→g x σ H' fun σ2 H2=>tb { D with nx:=N,ct:=N,bk:=D.nx } σ2 H2):=by
 refine⟨fun i m σ H=>m=xs.length-i∧i≤xs.length∧Pv i σ H,⟨xs.length,by simp,zba _,h0⟩,?_⟩
 rintro i m σ H ⟨rfl,hi,p⟩
 have q:=hl i σ H hi p
 by_cases hlt:i<xs.length
 ·refine .inr ⟨⟨xs,xs[i],q,by simp[hlt]⟩,Pv (i+1),fun σ' H' p'=>⟨xs.length-(i+1),by omega,rfl,hlt,p'⟩,fun v H' y=>?_⟩
  obtain⟨r,x,rfl,hr,rfl,e1⟩:=y
  exact hs i x r σ H (e1 xs q) p hr
 ·have e:i=xs.length:=by omega
  subst e
  exact .inl ⟨⟨xs,q,za4 _⟩,hd σ H p⟩
def FrzV(P:Program)(w:World)(H:Hp)(a:Addr)(kvs:List (Dt×V)):Prop:=∃ o xs,H a=some (.frz o (dicO P w a xs))∧(∀ x∈xs,DtIs H (.ref x.2.1) x.1∧x.1.dp≤8)∧KD kvs xs
theorem FrzV.same{P:Program}{w:World}{H H':Hp}{a:Addr}{kvs:List (Dt×V)}(d:FrzV P w H a kvs)(s:Same H H'):FrzV P w H' a kvs:=by
 obtain⟨o,xs,e,k,kd⟩:=d
 exact⟨o,xs,s _ _ e,fun x hx=>⟨(k x hx).1.same s,(k x hx).2⟩,kd⟩
theorem FrzV.of{P:Program}{w:World}{H:Hp}{a:Addr}{kvs:List (Dt×V)}{φ:Heap→Prop}(d:DicV P w H a kvs)(e:H a=some (.ext φ))(o:Obj):FrzV P w (upd H a (.frz o (.ext φ))) a kvs:=by
 obtain⟨xs,dic,kd⟩:=d
 have e2:=dic.at_
 rw[e]at e2
 refine⟨o,xs,by rw[a6,Option.some.inj e2],fun x hx=>⟨DtIs.updX e (dic.key x hx).1,(dic.key x hx).2⟩,kd⟩
section
variable{X:Cx}
def tDGetF(P:Program)(w:World)(td ty:TE):TE:=fun σ H Q=>td σ H fun x H1=>ty σ H1 fun y H2=>∃ a b d kvs v,x=.ref a∧y=.ref b∧DtIs H2 (.ref b) d∧d.dp≤8∧FrzV P w H2 a kvs∧valV kvs d=some v∧Q v H2
theorem pe_dgetF{k:Nat}{o i:Expr}{td ty:TE}{pos:Pos}(hr:Room k X.A)(ho:PE X o td)(hi:PE X i ty)(hs:NoSl i):PE X (.Subscript o i pos) (tDGetF X.prog X.w td ty):=by
 intro pins s σ H Q I h
 have hu:=hr.units
 refine subD_of PySem.F.slot_dict_getitem.lookup hs (thn (ho pins s σ H _ I h) fun u s1 zz1=>?_)
 obtain⟨x,H1,I1,rx,q1⟩:=zz1
 refine thn (hi pins s1 σ H1 _ I1 q1) fun iv s2 zz2=>?_
 obtain⟨y,H2,I2,ry,a,b,d,kvs,v,ex,ey,hd,h8,⟨o',xs,ea,ka,r⟩,hv,q2⟩:=zz2
 subst ex ey
 obtain rfl:u=Value.ref a:=rx
 obtain rfl:iv=Value.ref b:=ry
 have ok:=(show bb X.prog X.w H2 s2.heap a (.frz o' (dicO X.prog X.w a xs)) from I2.hok a _ ea)
 have full:s2.heap.DictOfH (dN X.prog X.w) a xs:=cw.full ok.2.1 fun x hx=>⟨c9 I2 (ka x hx).1 rfl,(ka x hx).2⟩
 have rel:=r.val d
 rw[hv]at rel
 cases hk:atKey xs d with
 | none=>rw[hk]at rel;exact absurd rel id
 | some p =>
  rw[hk]at rel
  refine⟨full.typeIs,wpAny_getItem_heap (knd:=dN X.prog X.w) (by show X.A.units+1+9<cLine;omega) ⟨c9 I2 hd rfl,h8⟩ full hk ⟨v,H2,I2.tok _,rel,q2⟩⟩
theorem call_listD{k:Nat}(hr:Room k X.A):gf X (.type "list") (fun xs H Q=>∃ (a:Addr) (kvs:List (Dt×V)),xs=[.ref a]∧DicV X.prog X.w H a kvs∧∀ l zs,H l=none→ac H zs (kvs.map (·.1))→Q (.ref l) (upd H l (.lst zs))):=by
 intro pins s σ H xs us Q I r h
 obtain⟨a,kvs,rfl,⟨ys,dic,kd⟩,q⟩:=h
 obtain⟨u,rfl,rx⟩:=gt r
 cases rx
 obtain⟨ep,raw⟩:=raw_of I dic
 refine PySem.W.kdl_call (src_drw (ks:=ys.map fun x=>Value.ref x.2.1) (ep:=ep) dic.sys) hr.hd raw (by rw[za0];exact sz dic.len) fun h' tk acc c kk gS it=>?_
 have e:acc.toList=ys.map fun x=>Value.ref x.2.1:=items_eq (P':=fun _ _=>True) it
 have dk:=j5 (P:=X.prog) (w:=X.w) (H:=H) dic.key
 refine⟨.ref s.heap.objs.size,_,I.laid (t':=tk) kk (za4 _) (show bb X.prog X.w _ h' _ (.lst (ys.map fun x=>V.ref x.2.1)) from ⟨by rw[za0];exact sz dic.len,acc.toList,c,by rw[e];exact vals_refs ys,by rw[Array.toArray_toList];exact gS⟩),rfl,q _ _ (I.hok.fresh (za4 _)) (by rw[kd.keys];exact dk)⟩
end
section
variable{X:Cx}{o e:Expr}{es:List Expr}{to:TE}{t:TA}{name:Str}{apos cpos:Pos}{id:String}{r:V→List V→Hp→VK→Prop}
def rCatA(K:PySem.W.Frag):R2:=fun x y H Q=>∃ a b xs ys,x=.ref a∧y=.ref b∧SqT K H a xs∧SqT K H b ys∧xs.length+ys.length≤sizeLine ∧
 (xs=[]→Q (.ref b) H)∧(xs≠[]→ys=[]→Q (.ref a) H)∧(xs≠[]→ys≠[]→∀ p,H p=none→Q (.ref p) (upd H p (.tup (xs++ys))))
theorem op_catA:OpR X (binaryOp .Add) (rCatA X.K):=by
 intro pins s σ H x y v u Q I rx ry h
 obtain⟨a,b,xs,ys,rfl,rfl,ha,hb,hz,q0,q1,q2⟩:=h
 by_cases hx:xs=[]
 ·cases rx
  cases ry
  obtain⟨its,r1,ht,_⟩:=I.tuple ha
  obtain⟨its2,r2,hb2,_⟩:=I.tuple hb
  have e0:its=[]:=(Vals.nil_iff r1).mpr hx
  obtain⟨⟨c1,d1,k1,s1⟩,o1,hc1,n1,hd1⟩:=id ht
  obtain⟨⟨c2,d2,k2,s2⟩,o2,hc2,n2,hd2⟩:=id hb2
  simp only at hc1 hd1 hc2 hd2
  subst hc1 hd1 hc2 hd2
  exact concat_meets ⟨_,o1,rfl⟩ ⟨_,o2,rfl⟩ noFill_tuple_add seq_tuple_add F.slot_tuple_add F.entry_tuple_add (F.args_tuple_add_2 _ _) (tuple_addW0 a b _ _ n1 n2 d1 d2 s1 s2 (by simp[e0])) ⟨o1,o2,⟨.ref b,H,I,rfl,q0 hx⟩⟩
 ·exact op_catT pins s σ H (.ref a) (.ref b) v u Q I rx ry ⟨a,b,xs,ys,rfl,rfl,ha,hb,hx,hz,q1 hx,q2 hx⟩
def tBMT(r:V→List V→Hp→VK→Prop)(to:TE)(t:TA):TE:=fun σ H Q=>to σ H fun x H1=>(∃ a xs,x=.ref a∧H1 a=some (.tup xs))∧t σ H1 fun xs H2=>r x xs H2 Q
theorem pe_bmT(slot:Slot "tuple" name id)(hty:typeOf (.builtin id)=pure (.type "method_descriptor"))(hm:MtR X id r)(ho:PE X o to)(ha:PA X (e::es) t)
  (hbase:attributeBase o name X.env (eval o X.env)=eval o X.env:=by rfl)
  (hfew:((backTo cpos (starEach (e::es) X.env)).all (fun x=>!x.1)&&(backToKw cpos (keywordEach [] X.env)).all (fun x=>x.1.isSome)&&decide ((e::es).length+([]:List Keyword).length+(if ([]:List Keyword).isEmpty then 0 else 1)<30))=true:=by rfl)
  (hline:(apos.endLine==cpos.line)=true:=by rfl) (hs:starEach (e::es) X.env=(false,eval e X.env)::starEach es X.env:=by rfl) (hplain:(backTo cpos (starEach es X.env)).any (·.1)=false:=by rfl) :
  PE X (.Call (.Attribute o name apos) (e::es) [] cpos) (tBMT r to t):=by
 intro pins s σ H Q I h
 refine wpAny_Call_method_late hbase hfew hline rfl (thn (ho pins s σ H _ I h) fun v s1 zz1=>?_)
 obtain⟨x,H1,I1,r1,⟨a,xs,ex,ea⟩,q1⟩:=zz1
 subst ex
 cases r1
 obtain⟨_,its,_,ob,e1,hc,n,hd⟩:=(show bb X.prog X.w H1 s1.heap a (.tup xs) from I1.hok a _ ea)
 refine⟨"tuple",id,F.plainAttrs_tuple,slot,hty,⟨ob,e1,hc⟩,fun b e2=>by cases e2;exact⟨ob,e1,congrArg Prod.snd hd⟩,?_⟩
 have hA:=ha cpos pins s1 σ H1 _ I1 q1
 rw[hs]at hA ⊢
 refine Calls.callWith_builtin (by show(false||(backTo cpos (starEach es X.env)).any (·.1))=false;rw[hplain]<;>rfl) (Calls.evalArgs_plain (thn hA fun us s2 ⟨vs,H2,I2,r2,q2⟩=>hm pins s2 σ H2 (.ref a) vs (.ref a) us Q I2 rfl r2 q2))
end
end BF
namespace BF
open PySem PySem.Spec PyProof.Rows L2 PySem.SeqAt
section
open PySem.AutoSeq1 (wpAny_loadPart')
open PySem.MeetsSeq PySem.MeetsSeq2 PySem.MeetsSeq3
theorem tuple_indexAt(l:Addr)(items:Array Value)(n:Nat)(dd:Option Addr)(sl:Array (Option Value))(x:Value)(e:Value→Bool)(j:Nat)(hj:j<items.size)
  (hit:e items[j]=true) (hno:∀ m (hm:m<items.size),m<j→e items[m]=false) :
  Meets (Builtin.«tuple.index» ⟨[.ref l,x],[]⟩)
   (fun A R s=>s.heap.get? l=some { cls:=.type "tuple",dict:=dd,data:=.seq items n,slots:=sl }∧(∀ y,y∈items→EqAt A.in1 s y x (e y))∧R (.ok (.ret (.int j s.toks))) { s with toks:=s.toks+1 }) :=
 .of_wp fun prog w A R s h=>by
  obtain⟨hp,g,d,tk,os⟩:=s
  obtain⟨hl,he,h⟩:=h
  unfold Builtin.«tuple.index»
  simp only[Std.Legacy.Range.forIn_eq_forIn_range']
  wp_walk using wpAny_loadPart' hl,wpAny_forIn_list _ (fun rest q s'=>q.1=none∧s'=⟨hp,g,d,tk,os⟩∧∃ i,i≤j∧rest=List.range' i (items.size-i)) _
  case turn =>
   rintro i rest q s' ⟨hq,rfl,i',hi,hr⟩
   obtain⟨k,hk⟩:∃ k,items.size-i'=k+1:=⟨items.size-i'-1,by omega⟩
   rw[hk,List.range'_succ]at hr
   injection hr with h1 h2
   subst h1
   have hlt:i<items.size:=by omega
   rw[zaf hlt]
   refine wpAny_bind (he _ (Array.getElem_mem hlt) prog w _ _ ?_)
   by_cases hij:i=j
   ·subst hij
    rw[hit]
    wp_walk
    exact⟨_,rfl,h⟩
   ·rw[hno i hlt (by omega)]
    wp_walk
    exact⟨rfl,rfl,i+1,by omega,by rw[h2,show items.size-(i+1)=k by omega]⟩
  case fin =>
   rintro b s' ⟨hb,rfl,i,hi,hr⟩
   obtain⟨k,hk⟩:∃ k,items.size-i=k+1:=⟨items.size-i-1,by omega⟩
   rw[hk,List.range'_succ]at hr
   cases hr
  case h =>
   refine⟨rfl,rfl,0,zba _,?_⟩
   simp[Std.Legacy.Range.size]
end
section
variable{X:Cx}
theorem mt_tIndex{k:Nat}(hr:Room k X.A):MtR X "tuple.index" (fun x vs H Q=>∃ (a:Addr) (xs:List V) (ds:List Dt) (y:V) (d:Dt) (j:Nat),x=.ref a∧vs=[y]∧SqT X.K H a xs∧ac H xs ds∧DtIs H y d∧(∀ d∈ds,d.dp≤50)∧ds[j]?=some d∧(∀ m,m<j→ds[m]?≠some d)∧Q (.int j) H):=by
 intro pins s σ H x vs v us Q I rx rv h
 obtain⟨a,xs,ds,y,d,j,rfl,rfl,hS,hD,hy,h5,hj,hno,q⟩:=h
 have hu:=hr.units
 cases rx
 cases rv with
 | cons r1 r2 =>
  cases r2
  obtain⟨its,rv',p,_⟩:=I.tuple hS
  obtain⟨⟨cls,dd,data,sl⟩,ho,hc,n,hd⟩:=id p
  simp only at hc hd
  subst hc hd
  have hdd:=d5 I hD rv'
  have ny:DatH s.heap _ d:=c9 I hy r1
  have ilen:its.length=ds.length:=by rw[← rv'.length,hD.length]
  have hjl:j<ds.length:=(za3.mp hj).1
  have at_:∀ (m:Nat) (hm:m<its.toArray.size) (hm':m<ds.length),dOf s.heap its.toArray[m]=ds[m]:=fun m hm hm'=>by
   obtain⟨d',e1,e2⟩:=iD hD rv' m its.toArray[m] (by simp)
   rw[za2 hm']at e1
   cases e1
   obtain⟨v',rr,qq⟩:=e2
   exact dOf_eq (c9 I qq rr)
  refine call_meets F.slot_tuple_index ⟨_,ho,rfl⟩ F.entry_tuple_index (F.args_tuple_index_2 _ _) (tuple_indexAt a its.toArray n dd sl _ (fun y=>Dt.beq (dOf s.heap y) d) j (by rw[zag];omega) ?_ (fun m hm hmj=>?_)) ⟨ho,fun y hy'=>?_,⟨.int j,H,I.tok _,⟨_,rfl⟩,q⟩⟩
  ·show Dt.beq (dOf s.heap _) d=true
   rw[at_ j (by rw[zag];omega) hjl]
   rw[za2 hjl]at hj
   rw[Option.some.inj hj]
   exact Dt.beq_self _
  ·show Dt.beq (dOf s.heap _) d=false
   have hm':m<ds.length:=by omega
   rw[at_ m hm hm']
   exact Dt.beq_false.mpr fun e=>hno m hmj (by rw[za2 hm',e])
  ·obtain⟨d',hd',e⟩:=(bp hdd).2 y (by simpa using hy')
   show EqAt _ _ _ _ (Dt.beq (dOf s.heap y) d)
   rw[dOf_eq e]
   have:=h5 d' hd'
   exact jx _ e ny (by show X.A.units+1+_<_;omega)
end
end BF
namespace BF
open PySem PySem.Spec PyProof.Rows L2
section
variable{prog:Program}{w:World}{A:Around}{E:Value→Shared→Prop}{s:Shared}
theorem nextOf_tupE{it t:Addr}{i:Nat}{items:Array Value}{x:Value}{Q:Value→Shared→Prop}(hi:s.heap.IsTupleIter it t i)(ht:s.heap.IsTuple t items)(hx:items[i]?=some x)
  (q:∀ h',h'.IsTupleIter it t (i+1)→Heap.SameBut it s.heap h'→Q x { s with heap:=h' }):wpAny (model prog w) A (Builtin.SmallTypes.nextOf (.ref it)) Q E s:=by
 obtain⟨o,ho,hc,hd⟩:=id hi;obtain⟨ol,hol,_,nl,hdl⟩:=ht
 unfold Builtin.SmallTypes.nextOf;refine wpAny_bind (wpAny_callSpecial?_slot (name:=Str.ofString "__next__") hi.typeIs F.slot_tuple_iterator_next (wpAny_call_entry F.slot_tuple_iterator_next hi.typeIs F.entry_tuple_iterator_next ?_ (F.args_tuple_iterator_next_1 _)))
 show wpAny _ _ (field (.ref it) 0>>=_) _ _ s;refine wpAny_bind (wpAny_field ho hd (x:=.ref t) rfl ?_)
 show wpAny _ _ (if (Value.ref t==Value.none)=true then _ else _) _ _ s;rw[if_neg (show ¬ ((Value.ref t==Value.none)=true) from zaj)]
 show wpAny _ _ (field (.ref it) 1>>=_) _ _ s;refine wpAny_bind (wpAny_field ho hd (x:=.int i 0) rfl ?_)
 show wpAny _ _ (seqItems? (.ref t)>>=_) _ _ s;refine wpAny_bind (wpAny_seqItems hol hdl ?_);simp only[Int.toNat_natCast,hx]
 refine wpAny_bind (wpAny_setField ho hd (by simp) (wpAny_pure ⟨x,rfl,wpAny_pure (q _ ⟨_,Heap.get?_update_self _ ho (Obj.isFreed_of_fields (Obj.data_mapFields hd _)),(Obj.cls_mapFields ..).trans hc,by rw[Obj.data_mapFields hd];simp[rawInt]⟩ (Heap.SameBut.update ..))⟩))
theorem i9{it t:Addr}{i:Nat}{items:Array Value}{Q:Value→Shared→Prop}(hh:A.handled=none)(hi:s.heap.IsTupleIter it t i)(ht:s.heap.IsTuple t items)(hx:items[i]?=none)
  (q:∀ h' e,Heap.ExtBut it s.heap h'→(∃ o,h'.get? e=some o∧o.cls=.type "StopIteration")→E (.ref e) { s with heap:=h' }):wpAny (model prog w) A (Builtin.SmallTypes.nextOf (.ref it)) Q E s:=by
 obtain⟨o,ho,hc,hd⟩:=id hi;obtain⟨ol,hol,_,nl,hdl⟩:=ht
 unfold Builtin.SmallTypes.nextOf;refine wpAny_bind (wpAny_callSpecial?_slot (name:=Str.ofString "__next__") hi.typeIs F.slot_tuple_iterator_next (wpAny_call_entry F.slot_tuple_iterator_next hi.typeIs F.entry_tuple_iterator_next ?_ (F.args_tuple_iterator_next_1 _)))
 show wpAny _ _ (field (.ref it) 0>>=_) _ _ s;refine wpAny_bind (wpAny_field ho hd (x:=.ref t) rfl ?_)
 show wpAny _ _ (if (Value.ref t==Value.none)=true then _ else _) _ _ s;rw[if_neg (show ¬ ((Value.ref t==Value.none)=true) from zaj)]
 show wpAny _ _ (field (.ref it) 1>>=_) _ _ s;refine wpAny_bind (wpAny_field ho hd (x:=.int i 0) rfl ?_)
 show wpAny _ _ (seqItems? (.ref t)>>=_) _ _ s;refine wpAny_bind (wpAny_seqItems hol hdl ?_);simp only[Int.toNat_natCast,hx]
 refine wpAny_bind (wpAny_rule (wpAny_bind (wpAny_setField ho hd (by simp) ?_)));show wpAny _ _ (newExc (.type "StopIteration") []>>=_) _ _ _
 refine wpAny_bind ?_;simp only[newExc,newTuple];refine wpAny_bind (wpAny_newObj_type ?_ (by size_fits));refine wpAny_bind (m:=firstArgMember _ _) (wpAny_of_eq (a:=Value.none) (by first | rfl | (simp only[firstArgMember];rfl)) ?_)
 refine wpAny_newObj_type ?_ (by size_fits);simp only[raiseNew];refine wpAny_bind (wpAny_handled ?_)
 first | rw[show A.in1.handled=none from hh] | rw[hh]
 refine wpAny_bind (wpAny_pure (wpAny_throw ?_));exact q _ _ (((Heap.SameBut.update ..).extBut.push _).push _) ⟨_,Heap.get?_push_size _ rfl,rfl⟩
end
theorem draws_tup{prog:Program}{w:World}{A:Around}(hh:A.handled=none)(it t:Addr)(hne:t≠it)(items:Array Value):Draws prog w A it [it,t] items.size (fun i v=>items[i]?=some v) (fun i h=>h.IsTupleIter it t i∧h.IsTuple t items) where
 live:=fun _ _ st=>let ⟨o,ho,_⟩:=st.1;⟨o,ho⟩
 frame:=fun _ _ _ st hk=>⟨let ⟨o,ho,r⟩:=st.1;⟨o,hk it (by simp) o ho,r⟩,let ⟨o,ho,r⟩:=st.2;⟨o,hk t (by simp) o ho,r⟩⟩
 item:=fun i s Q E hi st hQ=>by
  refine nextOf_tupE st.1 st.2 (x:=items[i]) (by simp[hi]) fun h' hit' hs'=>?_
  exact hQ _ h' s.toks (by simp[hi]) ⟨hit',let ⟨o,ho,r⟩:=st.2;⟨o,hs'.extBut _ _ hne ho,r⟩⟩ hs'
 done:=fun s Q E st hE=>i9 hh st.1 st.2 (by simp) hE
theorem draws_end{prog:Program}{w:World}{A:Around}(hh:A.handled=none)(it t:Addr)(n:Nat)(items:Array Value)(hn:items[n]?=none):Draws prog w A it [it,t] n (fun _ _=>False) (fun i h=>i=n∧h.IsTupleIter it t n∧h.IsTuple t items) where
 live:=fun _ _ st=>let ⟨o,ho,_⟩:=st.2.1;⟨o,ho⟩
 frame:=fun _ _ _ st hk=>⟨st.1,(let ⟨o,ho,r⟩:=st.2.1;⟨o,hk it (by simp) o ho,r⟩),let ⟨o,ho,r⟩:=st.2.2;⟨o,hk t (by simp) o ho,r⟩⟩
 item:=fun i s Q E hi st hQ=>absurd st.1 (zap hi)
 done:=fun s Q E st hE=>i9 hh st.2.1 st.2.2 hn hE
section
open PySem.AutoSeq1 (wpAny_loadPart')
theorem meets_enumT(l:Addr)(items:Array Value)(n:Nat)(dct:Option Addr)(sl:Array (Option Value)) :
  Meets (Builtin.«enumerate.__new__» ⟨[.type "enumerate",.ref l],[]⟩) (fun _ R s=>s.heap.get? l=some { cls:=.type "tuple",dict:=dct,data:=.seq items n,slots:=sl } ∧
   R (.ok (.ret (.ref (s.heap.push { cls:=.type "tuple_iterator",data:=.fields #[.ref l,.int 0 0] }).objs.size)))
    { s with heap:=(s.heap.push { cls:=.type "tuple_iterator",data:=.fields #[.ref l,.int 0 0] }).push { cls:=.type "enumerate",data:=.fields #[.none,.bool false,.ref s.heap.objs.size,rawInt 0,.none,.none] } }) :=
 .of_wp fun prog w A R s h=>by
  obtain⟨hp,g,d,tk,os⟩:=s;obtain⟨hl,h⟩:=h;have hsub:=sub_enumerate
  have hT:Heap.IsTuple (Shared.heap ⟨hp,g,d,tk,os⟩) l items:=⟨_,hl,rfl,n,rfl⟩
  wp_walk using wpAny_loadPart' hl
  refine wpAny_stack_any fun st=>wpAny_pure ?_
  split
  ·rename_i c _ _ _ _ _
   cases (c==Value.type "enumerate")<;>(wp_walk using wpAny_loadPart' hl,wpAny_pyIter_tuple hT;exact⟨_,rfl,h⟩)
  ·wp_walk using wpAny_loadPart' hl,wpAny_pyIter_tuple hT
   exact⟨_,rfl,h⟩
end
section
variable{prog:Program}{w:World}{A:Around}{E:Value→Shared→Prop}{s:Shared}
theorem call_enumT{l:Addr}{items:Array Value}{Q:Value→Shared→Prop}(hT:s.heap.IsTuple l items)
  (h:∀ h',IsEnum h' (s.heap.objs.size+1) s.heap.objs.size 0 .none→h'.IsTupleIter s.heap.objs.size l 0→h'.objs.size=s.heap.objs.size+2→(∀ b o,s.heap.get? b=some o→h'.get? b=some o)→Q (.ref (s.heap.objs.size+1)) { s with heap:=h' }) :
  wpAny (model prog w) A (call (.type "enumerate") [.ref l]) Q E s:=by
 obtain⟨⟨c,dct,dt,sl⟩,hl,hc,n,hd⟩:=hT
 have hc':c=.type "tuple":=hc
 have hd':dt=.seq items n:=hd
 subst hc' hd'
 refine callType_new F.called_enumerate (by decide) (F.typeCall_enumerate_1 _) (F.newCall_enumerate_1 _) (fun obj=>F.args_object_init_2 obj _) F.entry_enumerate_new (meets_enumT l items n dct sl) ⟨hl,?_⟩
 have hz:(s.heap.push { cls:=.type "tuple_iterator",data:=.fields #[.ref l,.int 0 0] }).objs.size=s.heap.objs.size+1:=Heap.size_push ..
 show _∧_
 rw[hz]
 have he:IsEnum ((s.heap.push { cls:=.type "tuple_iterator",data:=.fields #[.ref l,.int 0 0] }).push { cls:=.type "enumerate",data:=.fields #[.none,.bool false,.ref s.heap.objs.size,rawInt 0,.none,.none] }) (s.heap.objs.size+1) s.heap.objs.size 0 .none:=by
  have:=Heap.get?_push_size (s.heap.push { cls:=.type "tuple_iterator",data:=.fields #[.ref l,.int 0 0] }) (o:={ cls:=.type "enumerate",data:=.fields #[.none,.bool false,.ref s.heap.objs.size,rawInt 0,.none,.none] }) rfl
  rw[hz]at this;exact this
 refine⟨⟨_,he,rfl⟩,h _ he ⟨_,Heap.get?_push_of_some _ (Heap.get?_push_size _ rfl),rfl,rfl⟩ (by rw[Heap.size_push,hz]) fun b o x=>Heap.get?_push_of_some _ (Heap.get?_push_of_some _ x)⟩
end
def Iet(K:PySem.W.Frag)(a:Addr):It :=
 ⟨fun i H=>∃ xs x,SqT K H a xs∧xs[i]?=some x,fun i H v H'=>∃ p x,v=.ref p∧H p=none∧H'=upd H p (.tup [.int i,x])∧∀ xs,SqT K H a xs→xs[i]?=some x,fun i H=>∃ xs,SqT K H a xs∧xs.length≤i⟩
theorem turn_enumT{P:Program}{w:World}{K:PySem.W.Frag}{es:List Expr}{n:Nat}{p:Pos}{e it a:Addr}(ne:e≠it) :
  Turn P w K (.Tuple es n p) (Iet K a) [e,it] e (fun i h=>(∃ old,IsEnum h e it (i:Int) old)∧h.IsTupleIter it a i) where
 mem:=by simp
 obj:=fun i h st c hc=>by
  obtain⟨⟨old,he⟩,hi⟩:=st
  simp only[zaa,zb7,or_false]at hc
  rcases hc with rfl | rfl
  ·exact⟨_,he,fun v t=>by have t':Data.fields _=Data.cell v:=t;cases t'⟩
  ·obtain⟨o,e',_,d⟩:=hi
   exact⟨o,e',fun v z=>by rw[d]at z;cases z⟩
 keep:=fun i h h' st k=>by
  obtain⟨⟨old,he⟩,hi⟩:=st
  exact⟨⟨old,k e (by simp) _ he⟩,hi.at fun o e'=>k it (by simp) o e'⟩
 item:=by
  intro X hP hw hK hc i pins s σ H E I hf st hg
  subst hP hw hK
  obtain⟨xs,x,q,hx⟩:=hg
  obtain⟨⟨old,he⟩,hi⟩:=st
  obtain⟨us,ru,pu,_⟩:=I.tuple q
  obtain⟨u,hu,eu⟩:=ru.get hx
  have la:a≠it:=fun z=>by obtain⟨o1,e1,c1,_⟩:=hi;obtain⟨o2,e2,c2,_⟩:=pu;rw[z,e1]at e2;cases e2;rw[c1]at c2;injection c2 with c3;exact absurd c3 (by decide)
  have ea:a≠e:=fun z=>by obtain⟨o2,e2,c2,_⟩:=pu;rw[z,he]at e2;cases e2;injection c2 with c3;exact absurd c3 (by decide)
  refine wpAny_pyNext_enum_itemD (draws_tup (A:=X.A.in1) (show X.A.in1.handled=none from I.ok.hd hc) it a la us.toArray) he ⟨hi,pu⟩ (by simpa using (za3.mp hu).1) ne (by simp[ne,Ne.symm ea]) fun x1 h1 tk1 hx1 he1 hi1 pr sz1 k1=>?_
  have hx1':us[i]?=some x1:=by simpa using hx1
  have ex1:u=x1:=Option.some.inj (hu.symm.trans hx1')
  subst ex1
  refine⟨_,rfl,wpAny_letOwnedTupleGo_enum (s:={ s with heap:=h1,toks:=tk1+1 }) he1 fun h2 he2 sb=>?_⟩
  have hfr:H s.heap.objs.size=none:=I.hok.fresh (za4 _)
  have Im:Inv X pins σ (upd H s.heap.objs.size (.tup [.int (i:Int),x])) { s with heap:=s.heap.push { cls:=.type "tuple",data:=.seq #[.int i tk1,u] },toks:=tk1+1 } :=
   I.laid (fun b o e=>Heap.get?_push_of_some _ e) (za4 _) ⟨two_fits,[.int i tk1,u],.cons ⟨_,rfl⟩ (.cons eu .nil),⟨_,Heap.get?_push_size _ rfl,rfl,_,rfl⟩⟩
  have nfp:∀ c∈[e,it],c≠s.heap.objs.size:=fun c hc' t=>by
   have lt:c<s.heap.objs.size:=by
    simp only[zaa,zb7,or_false]at hc'
    rcases hc' with rfl | rfl
    ·exact Heap.lt_size he
    ·obtain⟨o,e',_⟩:=hi;exact Heap.lt_size e'
   exact absurd lt (by rw[t];exact zbv _)
  have ff:∀ c∈[e,it],FpOk X pins (upd H s.heap.objs.size (.tup [.int (i:Int),x])) c:=fun c hc'=>by
   obtain⟨f0,fr⟩:=hf c hc'
   exact⟨by rw[af (nfp c hc')];exact f0,fr⟩
  have kk:∀ c o,c∉[e,it]→(s.heap.push { cls:=.type "tuple",data:=.seq #[.int i tk1,u] }).get? c=some o→h2.get? c=some o:=fun c o hc' e'=>by
   have ce:c≠e:=fun t=>hc' (by simp[t])
   have ci:c≠it:=fun t=>hc' (by simp[t])
   rcases Heap.get?_push_cases e' with ⟨rfl,rfl⟩ | e'
   ·exact sb.extBut _ _ ce pr
   ·exact sb.extBut _ _ ce (k1 c o ce ci e')
  have I2:=eP (h':=h2) (t':=tk1+1) Im kk ff
  refine⟨.ref s.heap.objs.size,upd H s.heap.objs.size (.tup [.int (i:Int),x]),I2,rfl,⟨_,x,rfl,hfr,rfl,fun xs' q'=>?_⟩,?_,fun c hc'=>(ff c hc').1⟩
  ·rw[I.tuple_inj q' q];exact hx
  ·exact⟨⟨u,he2⟩,(show h1.IsTupleIter it a (i+1) from hi1.1).at fun o e'=>sb.extBut _ _ (Ne.symm ne) e'⟩
 done:=by
  intro X hP hw hK hc i pins s σ H E I hf st hg
  subst hP hw hK
  obtain⟨xs,q,hl⟩:=hg
  obtain⟨⟨old,he⟩,hi⟩:=st
  obtain⟨us,ru,pu,_⟩:=I.tuple q
  have l1:=ru.length
  exact wpAny_pyNext_enum_endD (draws_end (A:=X.A.in1) (show X.A.in1.handled=none from I.ok.hd hc) it a i us.toArray (by simp;omega)) he ⟨rfl,hi,pu⟩ fun h1 k1 =>
   ⟨rfl,eP (t':=s.toks) (L:=[e,it]) I (fun c o hc' e'=>k1 c o (fun t=>hc' (by simp[t])) e') hf⟩
 self:=fun _ _ _ _ _ st h=>by
  obtain⟨⟨old,he⟩,_⟩:=st
  exact hW he h
section
variable{X:Cx}
def iEnumT(K:PySem.W.Frag)(ta:TA):TI:=fun σ H R=>ta σ H fun vs H1=>∃ a xs,vs=[.ref a]∧SqT K H1 a xs∧R (Iet K a) H1
theorem pi_enumT{es:List Expr}{n:Nat}{pt:Pos}{a:Expr}{ta:TA}{p pos:Pos}(hg:Gl X "enumerate")(hm:X.mg "enumerate"=none)(ha:PA X [a] ta)(hs:starEach [a] X.env=[(false,eval a X.env)]:=by rfl) :
  PI X (.Tuple es n pt) (.Call (.Name "enumerate" p) [a] [] pos) (iEnumT X.K ta):=by
 intro pins s σ H R I h
 refine Call_ (eI I hg hm boot_enumerate (PyProof.Rows.callWith_type1 (thn (ha pos pins s σ H _ I h) fun us s1 zz1=>?_) hs rfl))
 obtain⟨vs,H1,I1,r1,q1⟩:=zz1
 obtain⟨x,xs,e,q,qr⟩:=q1
 subst e
 cases r1 with
 | cons r rr =>
  cases rr
  cases r
  obtain⟨us,ru,pu,_⟩:=I1.tuple q
  refine call_enumT pu fun h' he hi _ k=>?_
  refine hW (s:={ s1 with heap:=h' }) he ?_
  refine⟨_,_,_,_,H1,rfl,I1.kept (t':=s1.toks) k,turn_enumT (Ne.symm (zap (zbe _))),⟨⟨_,he⟩,hi⟩,fun c hc=>?_,qr⟩
  have hs:s1.heap.objs.size≤c:=by
   simp only[zaa,zb7,or_false]at hc
   rcases hc with rfl | rfl
   ·exact Nat.le_succ _
   ·exact za4 _
  exact I1.fpOk hs (I1.hok.fresh hs)
end
abbrev Thd:=Bool×List Ho
def thD(t:Thd):Dt:=.tup [.str (fS t.1),.tup (t.2.map hD)]
def ae(f:Bool)(i:Nat):Bool:=if i % 2=0 then f else !f
theorem bt(f:Bool)(i:Nat):ae f (i+1)=!(ae f i):=by
 unfold ae
 rcases Nat.mod_two_eq_zero_or_one i with e | e
 ·rw[if_neg (by omega),if_pos e]
 ·rw[if_pos (by omega),if_neg (by omega),Bool.not_not]
theorem faceAt_add(f:Bool)(i j:Nat):ae f (i+j)=ae (ae f i) j:=by
 induction j with
 | zero=>rfl
 | succ j ih=>rw[← Nat.add_assoc,bt,ih,bt]
theorem gK{f:Bool}{i:Nat}(e:i % 2=0):ae f i=f:=by unfold ae;rw[if_pos e]
theorem faceAt_not(f:Bool)(i:Nat):ae (!f) i=!(ae f i):=by unfold ae;split<;>rfl
def begun(r:Thd)(h:Ho)(f:Bool):List Ho :=
 let hs:=(r.2.drop (r.2.idxOf h)).take (r.2.length-1-r.2.idxOf h)++r.2.take (r.2.idxOf h+1)
 if ae r.1 (r.2.idxOf h)=f then hs else hs.reverse
def ft(r:Thd)(f:Bool):List Ho→List Ho→Option (List Ho)
 | _,[]=>none
 | pre,h::rest=>if h∈r.2 then some (pre++begun r h (ae f pre.length)++rest) else ft r f (pre++[h]) rest
def cg(t r:Thd):Option Thd:=(ft r t.1 [] t.2).map fun l=>(t.1,l)
def takG(r:Thd):List Thd→List Thd→Option (List Thd)
 | _,[]=>none
 | pre,t::rest=>match cg t r with
  | some l=>some (pre++l::rest)
  | none=>takG r (pre++[t]) rest
def takR(ts:List Thd)(r:Thd):Option (List Thd):=takG r [] ts
def fewG:Nat→List Thd→List Thd→List Thd
 | 0,told,_=>told
 | n+1,told,rings=>match rings.getLast? with
  | none=>told
  | some r=>match takR told r with
   | some told'=>fewG n told' rings.dropLast
   | none=>match takR rings.dropLast r with
    | some rings'=>fewG n told rings'
    | none=>fewG n (told++[r]) rings.dropLast
def Rg(t:Thd):Prop:=∃ h m,t.2=h::(m++[h])
theorem Rg.len{t:Thd}(k:Rg t):2≤t.2.length:=by
 obtain⟨h,m,e⟩:=k
 rw[e];simp
theorem eD{α:Type}(l:List α)(a:α):(l++[a]).getLast?=some a:=by simp
theorem split_at{h:Ho}:∀ {l:List Ho},h∈l→∃ A B,l=A++h::B∧h∉A∧l.idxOf h=A.length
 | [],m=>nomatch m
 | a::l,m=>by
  by_cases e:a=h
  ·subst e
   exact⟨[],l,rfl,zb7,List.idxOf_cons_self⟩
  ·obtain⟨A,B,e1,e2,e3⟩:=split_at ((zaa.mp m).resolve_left (Ne.symm e))
   refine⟨a::A,B,by rw[e1];rfl,fun z=>?_,?_⟩
   ·rcases zaa.mp z with z | z
    ·exact e z.symm
    ·exact e2 z
   ·rw[List.idxOf_cons,e3,show(a==h)=false from beq_eq_false_iff_ne.mpr e];rfl
theorem Rg.cut{r:Thd}(k:Rg r){h:Ho}(m:h∈r.2):∃ A B a,r.2=A++h::(B++[a])∧h∉A∧r.2.idxOf h=A.length∧(A++[h]).head?=some a ∧
  ∀ f,begun r h f=if ae r.1 A.length=f then h::(B++(A++[h])) else (h::(B++(A++[h]))).reverse:=by
 obtain⟨A,B,e,hn,hi⟩:=split_at m
 obtain⟨a,M,ea⟩:=k
 have hB:∃ B',B=B'++[a]:=by
  rcases zbh B with rfl | ⟨B',b,rfl⟩
  ·exfalso
   rw[ea]at e
   cases A with
   | nil =>
    have:=congrArg List.length e
    simp at this
   | cons x A =>
    rw[zc2]at e
    injection e with e1 e2
    have:(M++[a]).getLast?=(A++[h]).getLast?:=by rw[e2]
    simp at this
    exact hn (by rw[← this,e1];exact zad ..)
  ·refine⟨B',?_⟩
   rw[zbi]at e ⊢
   have:(r.2).getLast?=some b:=by rw[e,show A++h::(B'++[b])=(A++h::B')++[b] by simp,eD]
   have h2:(r.2).getLast?=some a:=by rw[ea,show a::(M++[a])=(a::M)++[a] by simp,eD]
   rw[h2]at this
   rw[Option.some.inj this]
 obtain⟨B',rfl⟩:=hB
 refine⟨A,B',a,e,hn,hi,?_,fun f=>?_⟩
 ·have h2:(r.2).head?=some a:=by rw[ea];rfl
  rw[e]at h2
  cases A with
  | nil=>exact h2
  | cons x A=>exact h2
 ·unfold begun
  rw[hi]
  have l1:r.2.length-1-A.length=(h::B').length:=by rw[e];simp<;>omega
  have d1:r.2.drop A.length=(h::B')++[a]:=by rw[e,List.drop_left];rfl
  have t1:r.2.take (A.length+1)=A++[h]:=by
   rw[e,show A++h::(B'++[a])=(A++[h])++(B'++[a]) by simp,show A.length+1=(A++[h]).length by simp,List.take_left]
  have hs:(r.2.drop A.length).take (r.2.length-1-A.length)++r.2.take (A.length+1)=h::(B'++(A++[h])):=by
   rw[l1,d1,List.take_left,t1];rfl
  simp only[hs]
theorem Rg.begun{r:Thd}(k:Rg r){h:Ho}(m:h∈r.2)(f:Bool):∃ M,begun r h f=h::(M++[h])∧(begun r h f).length=r.2.length∧∀ x,x∈begun r h f↔x∈r.2:=by
 obtain⟨A,B,a,e,hn,_,hh,eb⟩:=k.cut m
 have ha:∀ x,x=a→x∈A++[h]:=fun x z=>by rw[z];exact List.mem_of_mem_head? hh
 have mm:∀ x,(x=h∨x∈B∨x∈A++[h])↔x∈r.2:=fun x=>by
  rw[e]
  simp only[za9,zaa,zb7,or_false]at ha ⊢
  constructor
  ·rintro(z | z | z | z)
   ·exact .inr (.inl z)
   ·exact .inr (.inr (.inl z))
   ·exact .inl z
   ·exact .inr (.inl z)
  ·rintro(z | z | z | z)
   ·exact .inr (.inr (.inl z))
   ·exact .inl z
   ·exact .inr (.inl z)
   ·exact .inr (.inr (ha x z))
 rw[eb]
 split
 ·refine⟨B++A,by simp,by rw[e];simp;omega,fun x=>?_⟩
  rw[zaa,za9]
  exact mm x
 ·refine⟨(B++A).reverse,by simp,by rw[e];simp;omega,fun x=>?_⟩
  rw[List.mem_reverse,zaa,za9]
  exact mm x
theorem withG_some{r:Thd}{f:Bool}:∀ {l pre m:List Ho},ft r f pre l=some m→∃ A h B,l=A++h::B∧h∈r.2∧(∀ x∈A,x∉r.2)∧m=pre++A++begun r h (ae f (pre.length+A.length))++B
 | [],pre,m,e=>nomatch e
 | h::l,pre,m,e=>by
  rw[ft]at e
  by_cases c:h∈r.2
  ·rw[if_pos c]at e
   cases e
   exact⟨[],h,l,rfl,c,fun _ z=>(nomatch z),by simp⟩
  ·rw[if_neg c]at e
   obtain⟨A,g,B,e1,e2,e3,e4⟩:=withG_some e
   refine⟨h::A,g,B,by rw[e1];rfl,e2,fun x hx=>?_,?_⟩
   ·rcases zaa.mp hx with rfl | hx
    ·exact c
    ·exact e3 x hx
   ·rw[e4]
    simp only[za1,zah,zbc,zai,zc2,zbr]
    rw[show pre.length+(0+1)+A.length=pre.length+(A.length+1) by omega]
theorem withG_none{r:Thd}{f:Bool}:∀ {l pre:List Ho},ft r f pre l=none→∀ x∈l,x∉r.2
 | [],_,_=>fun _ z=>nomatch z
 | h::l,pre,e=>by
  rw[ft]at e
  by_cases c:h∈r.2
  ·rw[if_pos c]at e;cases e
  ·rw[if_neg c]at e
   intro x hx
   rcases zaa.mp hx with rfl | hx
   ·exact c
   ·exact withG_none e x hx
theorem d9{t r l:Thd}(e:cg t r=some l):∃ A h B,t.2=A++h::B∧h∈r.2∧(∀ x∈A,x∉r.2)∧l=(t.1,A++begun r h (ae t.1 A.length)++B):=by
 unfold cg at e
 cases z:ft r t.1 [] t.2 with
 | none=>rw[z]at e;cases e
 | some m =>
  rw[z]at e
  cases e
  obtain⟨A,h,B,e1,e2,e3,e4⟩:=withG_some z
  exact⟨A,h,B,e1,e2,e3,by rw[e4];simp⟩
theorem withR_none{t r:Thd}(e:cg t r=none):∀ x∈t.2,x∉r.2:=by
 unfold cg at e
 exact withG_none (Option.map_eq_none_iff.mp e)
theorem eO{r:Thd}:∀ {l pre m:List Thd},takG r pre l=some m→∃ A t B t',l=A++t::B∧cg t r=some t'∧(∀ x∈A,cg x r=none)∧m=pre++A++t'::B
 | [],pre,m,e=>nomatch e
 | t::l,pre,m,e=>by
  rw[takG]at e
  cases c:cg t r with
  | some t' =>
   rw[c]at e
   cases e
   exact⟨[],t,l,t',rfl,c,fun _ z=>(nomatch z),by simp⟩
  | none =>
   rw[c]at e
   obtain⟨A,g,B,t',e1,e2,e3,e4⟩:=eO e
   refine⟨t::A,g,B,t',by rw[e1];rfl,e2,fun x hx=>?_,by rw[e4];simp⟩
   rcases zaa.mp hx with rfl | hx
   ·exact c
   ·exact e3 x hx
theorem ji{r:Thd}:∀ {l pre:List Thd},takG r pre l=none→∀ t∈l,cg t r=none
 | [],_,_=>fun _ z=>nomatch z
 | t::l,pre,e=>by
  rw[takG]at e
  cases c:cg t r with
  | some t'=>rw[c]at e;cases e
  | none =>
   rw[c]at e
   intro x hx
   rcases zaa.mp hx with rfl | hx
   ·exact c
   ·exact ji e x hx
theorem Rg.with{t r l:Thd}(kt:Rg t)(kr:Rg r)(e:cg t r=some l):Rg l:=by
 obtain⟨A,h,B,e1,e2,e3,rfl⟩:=d9 e
 obtain⟨M,eb,_,_⟩:=kr.begun e2 (ae t.1 A.length)
 obtain⟨a,m,ea⟩:=kt
 cases A with
 | nil =>
  rw[ea]at e1
  injection e1 with e1 e5
  subst e1
  refine⟨a,M++[a]++m,?_⟩
  show []++BF.begun r a (ae t.1 0)++B=_
  have eb:BF.begun r a (ae t.1 0)=a::(M++[a]):=eb
  rw[eb,← e5];simp
 | cons x A =>
  rw[ea]at e1
  injection e1 with e1 e5
  subst e1
  have hB:∃ B',h::B=B'++[a]:=by
   rcases zbh (h::B) with z | ⟨B',b,z⟩
   ·cases z
   ·rw[zbi]at z
    refine⟨B',?_⟩
    have e6:m++[a]=(A++B')++[b]:=by rw[zai,← z];exact e5
    have:=congrArg List.getLast? e6
    rw[eD,eD]at this
    rw[z,Option.some.inj this]
  cases B with
  | nil =>
   obtain⟨B',hB⟩:=hB
   have:B'=[]∧h=a:=by
    cases B' with
    | nil=>simp at hB;exact⟨rfl,hB⟩
    | cons y B'=>simp at hB
   exact absurd e2 (this.2▸e3 a (zad ..))
  | cons b B =>
   obtain⟨B',hB⟩:=hB
   have hb2:∃ B2,b::B=B2++[a]:=by
    cases B' with
    | nil=>simp at hB
    | cons y B'=>exact⟨B',by rw[zc2]at hB;injection hB⟩
   obtain⟨B2,hb2⟩:=hb2
   refine⟨a,A++BF.begun r h (ae t.1 (a::A).length)++B2,?_⟩
   show(a::A)++BF.begun r h (ae t.1 (a::A).length)++b::B=_
   rw[hb2];simp
def stsF:Bool→List Ho→List Sti
 | f,a::b::l=>(f,ordP a b)::stsF (!f) (b::l)
 | _,_=>[]
def allS(ts:List Thd):List Sti:=(ts.map fun t=>stsF t.1 t.2).flatten
def onF(b:Bool)(ss:List Sti):List Ln:=(ss.filter fun s=>s.1==b).map (·.2)
theorem onF_app(b:Bool)(ss us:List Sti):onF b (ss++us)=onF b ss++onF b us:=by unfold onF;rw[zc1,zar]
theorem iX(b c:Bool)(ss:List Sti)(a:Ln):onF b (ss++[(c,a)])=onF b ss++(if c=b then [a] else []):=by
 rw[onF_app]
 unfold onF
 by_cases h:c=b
 ·rw[if_pos h,zbm (by simpa using h)];rfl
 ·rw[if_neg h,zbn (by simpa using h)];rfl
theorem bz(f:Bool)(a b:Ho)(l:List Ho):stsF f (a::b::l)=(f,ordP a b)::stsF (!f) (b::l):=by rw[stsF]
theorem gE(f:Bool)(a:Ho):stsF f [a]=[]:=by rw[stsF];exact fun _ _ _ h=>by cases h
theorem fw:∀ (f:Bool) (l:List Ho),(stsF f l).length=l.length-1
 | f,[]=>by rw[stsF];rfl;exact fun _ _ _ h=>by cases h
 | f,[a]=>by rw[gE];rfl
 | f,a::b::l=>by
  rw[bz,zah,fw (!f) (b::l)]
  simp
theorem onF_len(b:Bool)(ss:List Sti):(onF b ss).length≤ss.length:=by unfold onF;rw[za0];exact zcc ..
theorem eS:∀ (f:Bool) (A B:List Ho) (h:Ho),stsF f (A++h::B)=stsF f (A++[h])++stsF (ae f A.length) (h::B)
 | f,[],B,h=>by
  show stsF f (h::B)=stsF f [h]++stsF f (h::B)
  rw[gE];rfl
 | f,[a],B,h=>by
  show stsF f (a::h::B)=stsF f [a,h]++stsF (!f) (h::B)
  rw[bz,bz,gE];rfl
 | f,a::b::A,B,h=>by
  have ih:=eS (!f) (b::A) B h
  show stsF f (a::b::(A++h::B))=stsF f (a::b::(A++[h]))++_
  rw[bz,bz]
  have e:ae f (a::b::A).length=ae (!f) (b::A).length:=by
   rw[faceAt_not,zah,bt]
  rw[e,zc2]
  exact congrArg _ ih
theorem stsF_at:∀ (f:Bool) (l:List Ho) (k:Nat) (p q:Ho),l[k]?=some p→l[k+1]?=some q→(stsF f l)[k]?=some (ae f k,ordP p q)
 | f,[],k,p,q,h,_=>by simp at h
 | f,[a],k,p,q,_,h=>by simp at h
 | f,a::b::l,0,p,q,h1,h2=>by
  cases h1
  cases h2
  rw[bz];rfl
 | f,a::b::l,k+1,p,q,h1,h2=>by
  rw[bz,List.getElem?_cons_succ,stsF_at (!f) (b::l) k p q h1 h2,faceAt_not,bt]
theorem stsF_rev:∀ (l:List Ho) (f:Bool),stsF f l.reverse=(stsF (ae f l.length) l).reverse
 | [],f=>by simp[stsF]
 | [a],f=>by simp[stsF]
 | a::b::l,f=>by
  have ih:=stsF_rev (b::l) f
  rw[bz,zc0,zc0,zc0,zai]
  show stsF f (l.reverse++b::[a])=_
  rw[eS,bz,gE,← zc0,ih,List.length_reverse]
  have e1:(!ae f (a::b::l).length)=ae f (b::l).length:=by rw[zah,bt,Bool.not_not]
  have e2:ae f (a::b::l).length=ae f l.length:=by rw[zah,zah,bt,bt,Bool.not_not]
  rw[e1,e2,ordP_comm]
theorem begun_sts{r:Thd}(k:Rg r)(ev:r.2.length % 2=1){h:Ho}(m:h∈r.2)(f:Bool):(stsF f (begun r h f)).Perm (stsF r.1 r.2):=by
 obtain⟨A,B,a,e,hn,_,hh,eb⟩:=k.cut m
 have hl:(A.length+B.length) % 2=1:=by
  rw[e]at ev
  simp at ev
  omega
 have key:(stsF (ae r.1 A.length) (h::(B++(A++[h])))).Perm (stsF r.1 r.2):=by
  have hA:∃ A',A++[h]=a::A':=by
   cases A with
   | nil=>exact⟨[],by simp at hh;rw[hh];rfl⟩
   | cons x A=>exact⟨A++[h],by simp at hh;rw[hh];rfl⟩
  obtain⟨A',hA⟩:=hA
  have c1:stsF (ae r.1 A.length) (h::(B++(A++[h])))=stsF (ae r.1 A.length) (h::(B++[a]))++stsF (ae (ae r.1 A.length) (h::B).length) (A++[h]):=by
   rw[hA]
   exact eS (ae r.1 A.length) (h::B) A' a
  have c2:ae (ae r.1 A.length) (h::B).length=r.1:=by
   rw[← faceAt_add,zah]
   exact gK (by omega)
  have c3:stsF r.1 r.2=stsF r.1 (A++[h])++stsF (ae r.1 A.length) (h::(B++[a])):=by
   rw[e]
   exact eS r.1 A (B++[a]) h
  rw[c1,c2,c3]
  exact zb2
 rw[eb]
 by_cases hf:ae r.1 A.length=f
 ·rw[if_pos hf,← hf]
  exact key
 ·rw[if_neg hf,stsF_rev]
  have hf2:ae f (h::(B++(A++[h]))).length=ae r.1 A.length:=by
   have o:(h::(B++(A++[h]))).length % 2=1:=by simp;omega
   unfold ae at hf ⊢
   rw[if_neg (by omega)]
   revert hf
   split<;>cases r.1<;>cases f<;>simp
  rw[hf2]
  exact(List.reverse_perm _).trans key
theorem with_sts{t r l:Thd}(k:Rg r)(ev:r.2.length % 2=1)(e:cg t r=some l):(stsF l.1 l.2).Perm (stsF t.1 t.2++stsF r.1 r.2):=by
 obtain⟨A,h,B,e1,e2,_,rfl⟩:=d9 e
 obtain⟨M,eb,bl,_⟩:=k.begun e2 (ae t.1 A.length)
 have p1:=begun_sts k ev e2 (ae t.1 A.length)
 show(stsF t.1 (A++begun r h (ae t.1 A.length)++B)).Perm _
 rw[eb]at p1 bl ⊢
 have bl':M.length+2=r.2.length:=by simpa using bl
 have c1:stsF t.1 (A++(h::(M++[h]))++B)=stsF t.1 (A++[h])++(stsF (ae t.1 A.length) (h::(M++[h]))++stsF (ae t.1 A.length) (h::B)):=by
  rw[show A++(h::(M++[h]))++B=A++h::(M++h::B) by simp,eS t.1 A (M++h::B) h]
  have:h::(M++h::B)=(h::M)++h::B:=rfl
  rw[this,eS (ae t.1 A.length) (h::M) B h]
  have c:ae (ae t.1 A.length) (h::M).length=ae t.1 A.length:=gK (by rw[zah];omega)
  rw[c];rfl
 rw[c1,e1,eS t.1 A B h,zai]
 exact List.Perm.append_left _ ((List.Perm.append_right _ p1).trans zb2)
theorem with_odd{t r l:Thd}(k:Rg r)(ev:r.2.length % 2=1)(e:cg t r=some l):l.2.length % 2=t.2.length % 2:=by
 obtain⟨A,h,B,e1,e2,_,rfl⟩:=d9 e
 obtain⟨M,eb,bl,_⟩:=k.begun e2 (ae t.1 A.length)
 show(A++begun r h (ae t.1 A.length)++B).length % 2=_
 rw[za1,za1,bl,e1,za1,zah]
 omega
def Itk(a:Addr)(o:Obj)(φ:Heap→Prop)(zs:List V):It:=⟨fun i H=>i<zs.length∧H a=some (.frz o (.ext φ)),fun i H x H'=>H'=H∧zs[i]?=some x,fun i H=>zs.length≤i∧H a=some (.frz o (.ext φ))⟩
theorem turn_keys{P:Program}{w:World}{K:PySem.W.Frag}{tg:Expr}{a it:Addr}{o:Obj}{φ:Heap→Prop}{xs:List (Dt×Addr×Value)}{ep:Nat}(hd:∀ h:Heap,h.get? a=some o→DRaw h a (xs.map fun x=>Value.ref x.2.1) ep) :
  Turn P w K tg (Itk a o φ (xs.map fun x=>V.ref x.2.1)) [it] it (fun i h=>h.IsKeyIter it a i (xs.map fun x=>Value.ref x.2.1).length ep) where
 mem:=za7.mpr rfl
 obj:=fun i h ⟨o',e',c',d'⟩ b hb=>by
  rw[za7.mp hb]
  exact⟨o',e',fun v z=>by rw[d']at z;cases z⟩
 keep:=fun i h h' ⟨o',e',c',d'⟩ k=>⟨o',k it (za7.mpr rfl) o' e',c',d'⟩
 item:=by
  intro X hP hw hK hc i pins s σ H E I hf st hg
  subst hP hw hK
  obtain⟨hi,fz⟩:=hg
  have ob:=(show bb X.prog X.w H s.heap a (.frz o (.ext φ)) from I.hok a _ fz)
  have raw:=hd _ ob.1
  rw[za0]at hi
  have hu:(xs.map fun x=>Value.ref x.2.1)[i]?=some (Value.ref (xs[i]).2.1):=by rw[zao,za2 hi];rfl
  have hz:(xs.map fun x=>V.ref x.2.1)[i]?=some (V.ref (xs[i]).2.1):=by rw[zao,za2 hi];rfl
  obtain⟨f0,f1,_,f3,f4,f5⟩:=hf it (za7.mpr rfl)
  refine drw_item st raw hu fun h' ik' sb=>⟨_,rfl,?_⟩
  have I4:Inv X pins σ H { s with heap:=h' }:=I.turned (t':=s.toks) (fun b o hb e=>(sb.2 b hb).trans e) f0 f1 f3 f4 f5
  obtain⟨o',e',c',d'⟩:=id ik'
  exact go_of (s:={ s with heap:=h' }) e' c' d' (by decide) ⟨V.ref (xs[i]).2.1,H,I4,rfl,⟨rfl,hz⟩,ik',fun b hb=>(hf b hb).1⟩
 done:=by
  intro X hP hw hK hc i pins s σ H E I hf st hg
  subst hP hw hK
  obtain⟨hi,fz⟩:=hg
  have ob:=(show bb X.prog X.w H s.heap a (.frz o (.ext φ)) from I.hok a _ fz)
  have raw:=hd _ ob.1
  rw[za0]at hi
  obtain⟨f0,f1,_,f3,f4,f5⟩:=hf it (za7.mpr rfl)
  exact drw_end (I.ok.hd hc) st raw (by rw[zbg];rw[za0];exact hi) fun h' eb=>⟨rfl,I.turned (t':=s.toks) (fun b o hb e=>eb b o hb e) f0 f1 f3 f4 f5⟩
 self:=fun _ _ _ _ _ st h=>wpAny_pyIter_keyiter st h
section
variable{X:Cx}{tg:Expr}
def iKeys(P:Program)(w:World)(td:TE):TI:=fun σ H R=>td σ H fun x H1=>∃ (a:Addr) (kvs:List (Dt×V)),x=.ref a∧DicV P w H1 a kvs∧∀ (zs:List V) (o:Obj) (φ:Heap→Prop),ac H1 zs (kvs.map (·.1))→H1 a=some (.ext φ)→R (Itk a o φ zs) (upd H1 a (.frz o (.ext φ)))
theorem pi_keys{iter:Expr}{td:TE}(hd:PE X iter td):PI X tg iter (iKeys X.prog X.w td):=by
 intro pins s σ H R I h
 refine thn (hd pins s σ H _ I h) fun v s1 zz1=>?_
 obtain⟨x,H1,I1,r1,a,kvs,ex,⟨xs,dic,kd⟩,q⟩:=zz1
 subst ex
 obtain rfl:v=Value.ref a:=r1
 obtain⟨ep,raw⟩:=raw_of I1 dic
 obtain⟨o,es,ho,hex,dat,ek⟩:=id raw
 refine drw_iter dic.sys raw ?_
 have dz:ac H1 (xs.map fun x=>V.ref x.2.1) (kvs.map (·.1)):=by rw[kd.keys];exact j5 (P:=X.prog) (w:=X.w) dic.key
 have nit:H1 s1.heap.objs.size=none:=I1.hok.fresh (za4 _)
 have lt:a<s1.heap.objs.size:=Heap.lt_size ho
 have ne:s1.heap.objs.size≠a:=zc9 lt
 have I2:Inv X pins σ H1 { s1 with heap:=s1.heap.push { cls:=.type "dict_keyiterator",data:=.fields #[.ref a,.int 0 0,.int (xs.map fun x=>Value.ref x.2.1).length 0,.int ep 0] } }:=I1.kept (t':=s1.toks) fun b o e=>Heap.get?_push_of_some _ e
 have hok2:=(show bb X.prog X.w H1 _ a (dicO X.prog X.w a xs) from I2.hok a _ dic.at_)
 have I3:=I2.write (x:=a) (e:=a) (o:=.frz o (dicO X.prog X.w a xs)) (t':=s1.toks) (by rw[dic.at_];exact True.intro) (.inl rfl) (fun b u _ hu=>hu) ⟨o,Heap.get?_push_of_some _ ho⟩ ⟨Heap.get?_push_of_some _ ho,hok2⟩
 refine⟨s1.heap.objs.size,[s1.heap.objs.size],_,_,_,rfl,I3,turn_keys (xs:=xs) (ep:=ep) (fun h e=>⟨o,es,e,hex,dat,ek⟩),⟨_,Heap.get?_push_size _ rfl,rfl,rfl⟩,fun b hb=>?_,q _ o _ dz dic.at_⟩
 rw[za7.mp hb]
 exact I1.fpOk (za4 _) (by rw[af ne];exact nit)
def tThaw(t:TE):TE:=fun σ H Q=>t σ H fun v H'=>∃ (a:Addr) (o:Obj) (φ φ':Heap→Prop),H a=some (.ext φ')∧H' a=some (.frz o (.ext φ))∧Q v (upd H' a (.ext φ))
theorem pe_thaw{e:Expr}{t:TE}(h:PE X e t):PE X e (tThaw t):=fun pins s σ H Q I hq=>thn (h pins s σ H _ I hq) fun v s1 ⟨x,H1,I1,r,a,o,φ,φ',ha,ha',q⟩ =>
 ⟨x,_,inv_thaw I1 ha' (fun o' u' e=>by
  have:=I.base.frzs a o' u' e
  rw[ha]at this
  cases this),r,q⟩
end
end BF
namespace K63
open PySem PySem.Spec PyProof.Rows L2 BF
def top(i:Nat):Stmt:=PySem.Challenge.pw_bothfaces_k63_whole_alike_faces.main.body.getD i (.Pass ⟨0,0,0,0⟩)
abbrev sTied:Stmt:=top 1
abbrev sOthE:Stmt:=top 2
abbrev sFrom:Stmt:=top 3
abbrev sBy:Stmt:=top 4
abbrev iq:Stmt:=top 6
abbrev f8:Stmt:=top 7
abbrev gi:Stmt:=top 9
abbrev sTies:Stmt:=top 10
abbrev ir:Stmt:=top 12
abbrev im:Stmt:=top 13
abbrev io:Stmt:=top 14
abbrev sFew:Stmt:=top 15
abbrev iS:Stmt:=top 17
abbrev sLine:Stmt:=top 19
abbrev sFar:Stmt:=top 20
abbrev sMix:Stmt:=top 21
abbrev sNums:Stmt:=top 22
abbrev sAny:Stmt:=top 23
abbrev sWork:Stmt:=top 24
abbrev sStep:Stmt:=top 25
abbrev jF:Stmt:=top 26
abbrev gh:Stmt:=top 28
abbrev sLaw:Stmt:=top 30
seal L2.PE L2.PA L2.PS L2.PSs L2.PT L2.PW L2.PG L2.PGs L2.PI BF.PTs L2.PPs L2.PO
theorem ln_two{H:Hp}{v:V}{a:Ln}(h:DtIs H v (lnD a)):∃ r x y,v=.ref r∧H r=some (.tup [.ref x,.ref y])∧two H x a.1∧two H y a.2:=by
 unfold lnD at h
 cases h with
 | tup e h1 =>
  cases h1 with
  | cons q1 t1 =>
   cases t1 with
   | cons q2 t2 =>
    cases t2
    cases q1 with
    | @tup x _ _ e1 k1 =>
     cases q2 with
     | @tup y _ _ e2 k2=>exact⟨_,x,y,rfl,e,hD_two (.tup e1 k1),hD_two (.tup e2 k2)⟩
theorem as_hD:∀ {es:List Dt},(∀ d∈es,∃ h:Ho,d=hD h)→∃ hs:List Ho,es=hs.map hD
 | [],_=>⟨[],rfl⟩
 | d::es,h=>by
  obtain⟨hs,e⟩:=as_hD (es:=es) fun x hx=>h x (zac _ hx)
  obtain⟨p,hp⟩:=h d (zad ..)
  exact⟨p::hs,by rw[e,hp];rfl⟩
theorem nodup_of_map{hs:List Ho}(h:(hs.map hD).Nodup):hs.Nodup:=(zbl.mp h).imp fun n e=>n (by rw[e])
theorem ln_at{H:Hp}{vs:List V}{ls:List Ln}(h:ac H vs (ls.map lnD)){i:Nat}{v:V}(e:vs[i]?=some v):∃ r x y a,v=.ref r∧ls[i]?=some a∧H r=some (.tup [.ref x,.ref y])∧two H x a.1∧two H y a.2:=by
 obtain⟨d,ed,dv⟩:=h.at i v e
 rw[zao]at ed
 cases ha:ls[i]? with
 | none=>rw[ha]at ed;cases ed
 | some a =>
  rw[ha]at ed
  cases ed
  obtain⟨r,x,y,rfl,er,tx,ty⟩:=ln_two dv
  exact⟨r,x,y,a,rfl,rfl,er,tx,ty⟩
theorem ln_dt{H:Hp}{r x y:Addr}{a:Ln}(er:H r=some (.tup [.ref x,.ref y]))(tx:two H x a.1)(ty:two H y a.2):DtIs H (.ref r) (lnD a):=.tup er (.cons (ao tx) (.cons (ao ty) .nil))
theorem dapp{H':Hp}{us ws:List V}{ds es:List Dt}(h1:ac H' us ds)(h2:ac H' ws es):ac H' (us++ws) (ds++es):=by
 induction ds generalizing us with
 | nil=>cases h1;exact h2
 | cons d ds ih=>cases h1 with
  | cons q tl=>exact .cons q (ih tl)
theorem dts_init{H:Hp}:∀ {ds es:List Dt} {us ws:List V},ac H (us++ws) (ds++es)→us.length=ds.length→ac H us ds
 | [],_,[],_,_,_=>.nil
 | d::ds,_,u::us,_,.cons q t,hl=>.cons q (dts_init t (by simpa using hl))
 | [],_,_::_,_,_,hl=>by simp at hl
 | _::_,_,[],_,_,hl=>by simp at hl
theorem beq_hD(p q:Ho):Dt.beq (hD p) (hD q)=decide (p=q):=by
 by_cases h:p=q
 ·rw[h,Dt.beq_self,decide_eq_true rfl]
 ·rw[decide_eq_false h]
  exact Dt.beq_false.mpr fun e=>h (bZ e)
structure WkIs(H:Hp)(t F B:Addr)(fs bs:List Ln):Prop where
 t:H t=some (.tup [.ref F,.ref B])
 f:DtL H F (fs.map lnD)
 b:DtL H B (bs.map lnD)
 lf:fs.length≤80
 lb:bs.length≤60
section
variable{P:Program}{w:World}{K:PySem.W.Frag}{mg:Str→Option Value}{base:Heap}
def spCell(K:PySem.W.Frag):Sp:=fun vs H Q _=>∃ (a:Addr) (ns:List Int) (k:Nat),vs=[.ref a,.int k]∧SqL K H a (ns.map V.int)∧∀ c,Q (.int c) H
theorem scCell:aS ["_law_script","_law_k"] ["_law_script","_law_k"] (ab iS):=⟨rfl,rfl,rfl,by decide +kernel,rfl,by decide +kernel,by decide +kernel⟩
theorem ok_cell{f:Addr}{fd:FuncData}(D:Df K mg "_law_cell_at" iS f fd)(hlen:mg "len"=none):FnOk P w K mg base CX0 1 f fd ["_law_script","_law_k"] (spCell K):=by
 refine D.F.ok scCell (fun vs H Q E h=>?_) (fun cdv A outer s H vs Q E hr h=>?_)
 ·obtain⟨a,ns,k,rfl,_⟩:=h
  rfl
 ·obtain⟨a,ns,k,rfl,hS,q⟩:=h
  refine⟨_,aa (dE (ar op_lt (pv 1) (b7 ca (by rfl) hlen PySem.boot_len (pac (pv 0) a9)) (b9 _)) (ag (aD (b6 ix_list (pv 0) (pv 1) (fun _ _=>rfl)))) bm) (ag (aD a8)),?_⟩
  refine⟨_,rfl,_,rfl,a,_,rfl,.inl hS,_,_,rfl,rfl,_,rfl,?_⟩
  rw[za0]
  by_cases hk:(k:Int)<(ns.length:Int)
  ·refine f9 hk ?_
   obtain⟨c,hc,hm⟩:=atI_of (xs:=ns.map V.int) (m:=(k:Int)) (by omega) (by rw[za0];exact hk)
   obtain⟨z,_,rfl⟩:=za6.mp hm
   exact⟨_,rfl,_,rfl,a,_,_,_,rfl,rfl,hS,hc,q z⟩
  ·exact dY hk (q 0)
theorem ten_pick{H':Hp}{t0 t1 t2 t3 t4 t5 t6 t7 t8 t9:Addr}(k:Int)(h0:0≤k)(h1:k<10)(e0:H' t0=some (.tup [.int 1,.int 0]))(e1:H' t1=some (.tup [.int 0,.int 1]))(e2:H' t2=some (.tup [.int 1,.int 1]))(e3:H' t3=some (.tup [.int 1,.int (-1)]))(e4:H' t4=some (.tup [.int 1,.int 0]))
  (e5:H' t5=some (.tup [.int 0,.int 1])) (e6:H' t6=some (.tup [.int 2,.int 1])) (e7:H' t7=some (.tup [.int 9,.int (-9)])) (e8:H' t8=some (.tup [.int 0,.int 3])) (e9:H' t9=some (.tup [.int 4,.int 0])) :
  ∃ (r:Addr) (e o:Int),atI [V.ref t0,.ref t1,.ref t2,.ref t3,.ref t4,.ref t5,.ref t6,.ref t7,.ref t8,.ref t9] k=some (.ref r)∧H' r=some (.tup [.int e,.int o])∧(0<e∨e=0∧0<o):=by
 have h:k=0∨k=1∨k=2∨k=3∨k=4∨k=5∨k=6∨k=7∨k=8∨k=9:=by omega
 rcases h with rfl | rfl | rfl | rfl | rfl | rfl | rfl | rfl | rfl | rfl
 ·exact⟨t0,_,_,rfl,e0,by decide⟩
 ·exact⟨t1,_,_,rfl,e1,by decide⟩
 ·exact⟨t2,_,_,rfl,e2,by decide⟩
 ·exact⟨t3,_,_,rfl,e3,by decide⟩
 ·exact⟨t4,_,_,rfl,e4,by decide⟩
 ·exact⟨t5,_,_,rfl,e5,by decide⟩
 ·exact⟨t6,_,_,rfl,e6,by decide⟩
 ·exact⟨t7,_,_,rfl,e7,by decide⟩
 ·exact⟨t8,_,_,rfl,e8,by decide⟩
 ·exact⟨t9,_,_,rfl,e9,by decide⟩
def spLine:Sp:=fun vs H Q _=>∃ (n x y:Int) (t:Addr),vs=[.int n,.ref t]∧H t=some (.tup [.int x,.int y])∧∀ (r:Addr) (a:Ln) H',Same H H'→hLt a.1 a.2=true→DtIs H' (.ref r) (lnD a)→Q (.ref r) H'
theorem scLine:aS ["_law_number","_law_far_here","_law_x","_law_y","_law_east","_law_north"] ["_law_number","_law_far_here"] (ab sLine):=⟨rfl,rfl,rfl,by decide +kernel,rfl,by decide +kernel,by decide +kernel⟩
theorem ok_line{f:Addr}{fd:FuncData}(D:Df K mg "_law_line" sLine f fd):FnOk P w K mg base CX0 1 f fd ["_law_number","_law_far_here"] spLine:=by
 refine D.F.ok scLine (fun vs H Q E h=>?_) (fun cdv A outer s H vs Q E hr h=>?_)
 ·obtain⟨n,x,y,t,rfl,_⟩:=h
  rfl
 ·obtain⟨n,x,y,t,rfl,et,z⟩:=h
  refine⟨_,(aa (ai (i:=2) scLine.nd rfl (Or.inl rfl) (ah df (ah bw (pv 0) a8) (b6 aw (pv 1) a8 (fun _ _=>rfl))))
   (aa (ai (i:=3) scLine.nd rfl (Or.inl rfl) (ah df (ah bw (ah eJ (pv 0) a8) a8) (b6 aw (pv 1) a8 (fun _ _=>rfl))))
   (aa (ps_asg (b6 ix_list (eW (pac (ap (pac (a8) (pac (a8) a9))) (pac (ap (pac (a8) (pac (a8) a9))) (pac (ap (pac (a8) (pac (a8) a9))) (pac (ap (pac (a8) (pac (pe_un un_neg a8) a9))) (pac (ap (pac (a8) (pac (a8) a9))) (pac (ap (pac (a8) (pac (a8) a9))) (pac (ap (pac (a8) (pac (a8) a9))) (pac (ap (pac (a8) (pac (pe_un un_neg a8) a9))) (pac (ap (pac (a8) (pac (a8) a9))) (pac (ap (pac (a8) (pac (a8) a9))) a9))))))))))) (ah bw (ah eJ (pv 0) a8) a8) (fun _ _=>rfl)) (fk rfl (b0 (al (i:=4) scLine.nd rfl (Or.inl rfl)) (b0 (al (i:=5) scLine.nd rfl (Or.inl rfl)) dX))))
   (ag (aD (ap (pac (ap (pac (pv 2) (pac (pv 3) a9))) (pac (ap (pac (ah df (pv 2) (pv 4)) (pac (ah df (pv 3) (pv 5)) a9))) a9)))))))),?_⟩
  refine⟨_,rfl,_,_,rfl,rfl,(by show(0:Int)<_;decide),_,rfl,t,_,_,_,rfl,rfl,SqT.of et,rfl,_,_,rfl,rfl,?_⟩
  refine⟨_,rfl,_,_,rfl,rfl,⟨by decide,by decide⟩,_,_,rfl,rfl,(by show(0:Int)<_;decide),_,rfl,t,_,_,_,rfl,rfl,SqT.of et,rfl,_,_,rfl,rfl,?_⟩
  refine⟨szr rfl,fun t0 n0=>⟨szr rfl,fun t1 n1=>⟨szr rfl,fun t2 n2=>⟨_,rfl,szr rfl,fun t3 n3=>⟨szr rfl,fun t4 n4=>⟨szr rfl,fun t5 n5=>⟨szr rfl,fun t6 n6=>⟨_,rfl,szr rfl,fun t7 n7=>⟨szr rfl,fun t8 n8=>⟨szr rfl,fun t9 n9=>⟨szr rfl,fun l nl=>?_⟩⟩⟩⟩⟩⟩⟩⟩⟩⟩⟩
  have VV:=a7 (o:=HO.lst [V.ref t0,.ref t1,.ref t2,.ref t3,.ref t4,.ref t5,.ref t6,.ref t7,.ref t8,.ref t9]) nl
  have U9:=(a7 (o:=HO.tup [V.int 4,.int 0]) n9).trans VV
  have U8:=(a7 (o:=HO.tup [V.int 0,.int 3]) n8).trans U9
  have U7:=(a7 (o:=HO.tup [V.int 9,.int (-9)]) n7).trans U8
  have U6:=(a7 (o:=HO.tup [V.int 2,.int 1]) n6).trans U7
  have U5:=(a7 (o:=HO.tup [V.int 0,.int 1]) n5).trans U6
  have U4:=(a7 (o:=HO.tup [V.int 1,.int 0]) n4).trans U5
  have U3:=(a7 (o:=HO.tup [V.int 1,.int (-1)]) n3).trans U4
  have U2:=(a7 (o:=HO.tup [V.int 1,.int 1]) n2).trans U3
  have U1:=(a7 (o:=HO.tup [V.int 0,.int 1]) n1).trans U2
  have U0:=(a7 (o:=HO.tup [V.int 1,.int 0]) n0).trans U1
  refine⟨_,rfl,_,_,rfl,rfl,⟨by decide,by decide⟩,_,_,rfl,rfl,(by show(0:Int)<_;decide),?_⟩
  obtain⟨r,e,o,hr',er,ho⟩:=ten_pick (n / 25 % 10) (by omega) (by omega) (U1 t0 _ a6) (U2 t1 _ a6) (U3 t2 _ a6) (U4 t3 _ a6) (U5 t4 _ a6) (U6 t5 _ a6) (U7 t6 _ a6) (U8 t7 _ a6) (U9 t8 _ a6) (VV t9 _ a6)
  refine⟨l,_,_,_,rfl,rfl,SqL.of a6,hr',?_⟩
  refine⟨r,_,rfl,SqT.of er,rfl,_,_,rfl,_,_,rfl,rfl,?_⟩
  refine⟨_,rfl,_,rfl,szr rfl,fun q1 m1=>⟨_,rfl,_,rfl,_,_,rfl,rfl,_,rfl,_,rfl,_,_,rfl,rfl,szr rfl,fun q2 m2=>⟨szr rfl,fun r' nr=>?_⟩⟩⟩
  have T1:=a7 (o:=HO.tup [V.int (n % 5+x),.int (n / 5 % 5+y)]) m1
  have T2:=a7 (o:=HO.tup [V.int (n % 5+x+e),.int (n / 5 % 5+y+o)]) m2
  have T3:=a7 (o:=HO.tup [V.ref q1,.ref q2]) nr
  exact z r' ((n % 5+x,n / 5 % 5+y),(n % 5+x+e,n / 5 % 5+y+o)) _ (((U0.trans T1).trans T2).trans T3) ((jX _ _).mpr (by show _<_∨(_=_∧_<_);simp only[];omega)) (.tup a6 (.cons (ao (T3 _ _ (T2 _ _ a6))) (.cons (ao (T3 _ _ a6)) .nil)))
def spFar(K:PySem.W.Frag):Sp:=fun vs H Q _=>∃ (a:Addr) (ns:List Int),vs=[.ref a]∧SqL K H a (ns.map V.int)∧∀ (t:Addr) (x y:Int) H',Same H H'→H' t=some (.tup [.int x,.int y])→Q (.ref t) H'
theorem scFar:aS ["_law_script","_law_number"] ["_law_script"] (ab sFar):=⟨rfl,rfl,rfl,by decide +kernel,rfl,by decide +kernel,by decide +kernel⟩
theorem ok_far{f fC:Addr}{fd fdC:FuncData}(D:Df K mg "_law_far" sFar f fd)(DC:Df K mg "_law_cell_at" iS fC fdC)(bC:bh K fdC ["_law_script","_law_k"] [])(GC:FnOk P w K mg base CX0 1 fC fdC ["_law_script","_law_k"] (spCell K)):FnOk P w K mg base CX0 2 f fd ["_law_script"] (spFar K):=by
 refine D.F.ok scFar (fun vs H Q E h=>?_) (fun cdv A outer s H vs Q E hr h=>?_)
 ·obtain⟨a,ns,rfl,_⟩:=h
  rfl
 ·obtain⟨a,ns,rfl,hS,z⟩:=h
  refine⟨_,(aa (ai (i:=1) scFar.nd rfl (Or.inl rfl) (pec GC hr rfl DC.m DC.F.kp bC .nil bf (pac (pv 0) (pac (a8) a9))))
   (aa (dE (ar jJ (ah bw (pv 1) a8) a8 (b9 _)) (ag (aD (ap (pac (ah bw (ah iz (ah eJ (pv 1) a8) a8) (ah cB pe_p9 a8)) (pac (ah cB a8 (ah bw (ah iz (ah eJ (pv 1) a8) a8) (ah cB pe_p9 a8))) a9))))) bm)
   (ag (aD (ap (pac (ah cB (ah bw (ah eJ (pv 1) a8) a8) a8) (pac (ah cB (ah bw (ah eJ (pv 1) a8) a8) a8) a9))))))),?_⟩
  refine⟨_,rfl,a,ns,0,rfl,hS,fun c=>⟨_,rfl,_,_,rfl,rfl,(by show(0:Int)<_;decide),rfl,_,rfl,ifC (fun _=>?_) (fun _=>?_)⟩⟩
  ·refine⟨_,rfl,_,_,rfl,rfl,⟨by decide,by decide⟩,_,_,rfl,rfl,cmulR (by decide) (by decide),_,_,rfl,rfl,_,_,rfl,rfl,(by show(0:Int)<_;decide),?_⟩
   refine⟨_,rfl,_,_,rfl,rfl,⟨by decide,by decide⟩,_,_,rfl,rfl,cmulR (by decide) (by decide),_,_,rfl,rfl,_,_,rfl,rfl,(by show(0:Int)<_;decide),_,_,rfl,rfl,szr rfl,fun t nt=>?_⟩
   exact z t _ _ _ (a7 nt) a6
  ·refine⟨_,rfl,_,_,rfl,rfl,⟨by decide,by decide⟩,_,_,rfl,rfl,(by show(0:Int)<_;decide),_,_,rfl,rfl,?_⟩
   refine⟨_,rfl,_,_,rfl,rfl,⟨by decide,by decide⟩,_,_,rfl,rfl,(by show(0:Int)<_;decide),_,_,rfl,rfl,szr rfl,fun t nt=>?_⟩
   exact z t _ _ _ (a7 nt) a6
def spMix:Sp:=fun vs H Q _=>∃ (c:Int) (k:Nat),vs=[.int c,.int k]∧k≤63∧∀ m,Q (.int m) H
theorem scMix:aS ["_law_cell","_law_k"] ["_law_cell","_law_k"] (ab sMix):=⟨rfl,rfl,rfl,by decide +kernel,rfl,by decide +kernel,by decide +kernel⟩
theorem ok_mix{f:Addr}{fd:FuncData}(D:Df K mg "_law_mixed" sMix f fd):FnOk P w K mg base CX0 1 f fd ["_law_cell","_law_k"] spMix:=by
 refine D.F.ok scMix (fun vs H Q E h=>?_) (fun cdv A outer s H vs Q E hr h=>?_)
 ·obtain⟨c,k,rfl,_⟩:=h
  rfl
 ·obtain⟨c,k,rfl,hk,z⟩:=h
  refine⟨_,(ag (aD (ah bw (ah df (ah df (ah iz (ah bw (ah iz (pv 0) a8) a8) a8) (ah iz (ah iz a8 (pv 1)) (pv 1))) (ah iz a8 (pv 1))) a8))),?_⟩
  have ck:∀ i:Int,CMul i (k:Int):=fun i=>cmulR (by omega) (by omega)
  exact⟨_,rfl,_,_,rfl,rfl,cmulR (by decide) (by decide),_,_,rfl,rfl,(by show(0:Int)<_;decide),_,_,rfl,rfl,cmulR (by decide) (by decide),_,rfl,_,_,rfl,rfl,ck _,_,rfl,_,_,rfl,rfl,ck _,_,_,rfl,rfl,_,rfl,_,_,rfl,rfl,ck _,_,_,rfl,rfl,_,_,rfl,rfl,(by show(0:Int)<_;decide),z _⟩
def spAny:Sp:=fun vs H Q _=>∃ n:Int,vs=[.int n]∧∀ (r:Addr) (a:Ln) H',Same H H'→hLt a.1 a.2=true→DtIs H' (.ref r) (lnD a)→Q (.ref r) H'
theorem i7:aS ["_law_number","_law_x","_law_y","_law_way","_law_east","_law_north"] ["_law_number"] (ab sAny):=⟨rfl,rfl,rfl,by decide +kernel,rfl,by decide +kernel,by decide +kernel⟩
theorem ok_any{f:Addr}{fd:FuncData}(D:Df K mg "_law_anywhere" sAny f fd)(hmin:mg "min"=none)(hmax:mg "max"=none):FnOk P w K mg base CX0 1 f fd ["_law_number"] spAny:=by
 refine D.F.ok i7 (fun vs H Q E h=>?_) (fun cdv A outer s H vs Q E hr h=>?_)
 ·obtain⟨n,rfl,_⟩:=h
  rfl
 ·obtain⟨n,rfl,z⟩:=h
  refine⟨_,(aa (ai (i:=1) i7.nd rfl (Or.inl rfl) (ah cB (ah bw (pv 0) a8) pe_p9))
   (aa (ai (i:=2) i7.nd rfl (Or.inl rfl) (ah cB (ah bw (ah iW (pv 0) a8) a8) pe_p9))
   (aa (ai (i:=3) i7.nd rfl (Or.inl rfl) (ah bw (ah iW (ah iW (pv 0) a8) a8) a8))
   (aa (ai (i:=4) i7.nd rfl (Or.inl rfl) a8)
   (aa (ai (i:=5) i7.nd rfl (Or.inl rfl) (ah df (pv 3) a8))
   (aa (dE (ar op_gt (pv 3) a8 (b9 _)) (aa (ai (i:=4) i7.nd rfl (Or.inl rfl) (ah df a8 (ah eJ (ah cB (pv 3) a8) a8)))
   (ag (ai (i:=5) i7.nd rfl (Or.inl rfl) (ah cB (ah bw (ah cB (pv 3) a8) a8) a8)))) bm)
   (aa (ai (i:=1) i7.nd rfl (Or.inl rfl) (b7 (call_min2 rfl) (by rfl) hmin boot_min (pac (pv 1) (pac (ah cB pe_p9 (pv 4)) a9))))
   (aa (ai (i:=2) i7.nd rfl (Or.inl rfl) (b7 (call_max2 rfl) (by rfl) hmax boot_max (pac (b7 (call_min2 rfl) (by rfl) hmin boot_min (pac (pv 2) (pac (ah cB pe_p9 (pv 5)) a9))) (pac (ah cB (ah cB a8 pe_p9) (pv 5)) a9))))
   (ag (aD (ap (pac (ap (pac (pv 1) (pac (pv 2) a9))) (pac (ap (pac (ah df (pv 1) (pv 4)) (pac (ah df (pv 2) (pv 5)) a9))) a9))))))))))))),?_⟩
  refine⟨_,rfl,_,_,rfl,rfl,(by show(0:Int)<_;decide),_,_,rfl,rfl,?_⟩
  refine⟨_,rfl,_,_,rfl,rfl,⟨by decide,by decide⟩,_,_,rfl,rfl,(by show(0:Int)<_;decide),_,_,rfl,rfl,?_⟩
  refine⟨_,rfl,_,_,rfl,rfl,⟨by decide,by decide⟩,_,_,rfl,rfl,⟨by decide,by decide⟩,_,_,rfl,rfl,(by show(0:Int)<_;decide),?_⟩
  refine⟨_,rfl,_,_,rfl,rfl,?_⟩
  refine' laterS (fun σ H1=>∃ wy x y e o:Int,σ=[some (.int n),some (.int x),some (.int y),some (.int wy),some (.int e),some (.int o)]∧H1=H∧(0<e∨e=0∧0<o)) (fun fin=>_) _
  rotate_left
  ·refine⟨_,rfl,_,_,rfl,rfl,_,rfl,?_⟩
   by_cases h8:8<n / 2000000001 / 2000000001 % 180
   ·refine f9 h8 ?_
    refine⟨_,rfl,_,_,rfl,rfl,_,_,rfl,rfl,⟨by decide,by decide⟩,_,_,rfl,rfl,?_⟩
    refine⟨_,rfl,_,_,rfl,rfl,_,_,rfl,rfl,(by show(0:Int)<_;decide),_,_,rfl,rfl,?_⟩
    exact fin _ _ ⟨_,_,_,_,_,rfl,rfl,.inl (by omega)⟩
   ·refine dY h8 ?_
    exact fin _ _ ⟨_,_,_,_,_,rfl,rfl,.inr ⟨rfl,by omega⟩⟩
  rintro σ H1 ⟨wy,x,y,e,o,rfl,rfl,ho⟩
  refine⟨_,rfl,_,rfl,_,_,rfl,rfl,_,_,rfl,?_⟩
  refine⟨_,rfl,_,rfl,_,_,rfl,rfl,_,_,rfl,_,_,rfl,rfl,_,rfl,_,_,rfl,rfl,_,_,rfl,?_⟩
  generalize (if 1000000000-e<x then 1000000000-e else x)=x'
  generalize (if 0-1000000000-o>_ then _ else _:Int)=y'
  refine⟨_,rfl,_,rfl,szr rfl,fun q1 m1=>⟨_,rfl,_,rfl,_,_,rfl,rfl,_,rfl,_,rfl,_,_,rfl,rfl,szr rfl,fun q2 m2=>⟨szr rfl,fun r' nr=>?_⟩⟩⟩
  have T1:=a7 (o:=HO.tup [V.int x',.int y']) m1
  have T2:=a7 (o:=HO.tup [V.int (x'+e),.int (y'+o)]) m2
  have T3:=a7 (o:=HO.tup [V.ref q1,.ref q2]) nr
  exact z r' ((x',y'),(x'+e,y'+o)) _ ((T1.trans T2).trans T3) ((jX _ _).mpr (by show _<_∨(_=_∧_<_);simp only[];omega)) (.tup a6 (.cons (ao (T3 _ _ (T2 _ _ a6))) (.cons (ao (T3 _ _ a6)) .nil)))
end
def dD(H:Hp)(r:Addr):Prop:=∃ (n:Int) (b:Bool),H r=some (.tup [.int n,.bl b])
theorem dD.same{H H':Hp}{r:Addr}(h:dD H r)(s:Same H H'):dD H' r:=let ⟨n,b,e⟩:=h;⟨n,b,s _ _ e⟩
theorem dD.updL{H:Hp}{r l:Addr}{ys:List V}{o:HO}(h:dD H r)(e:H l=some (.lst ys)):dD (upd H l o) r:=by
 obtain⟨n,b,q⟩:=h
 exact⟨n,b,by rw[af (fun z=>by rw[z,e]at q;cases q)];exact q⟩
section
variable{P:Program}{w:World}{K:PySem.W.Frag}{mg:Str→Option Value}{base:Heap}
def spNums(K:PySem.W.Frag):Sp:=fun vs H Q _=>∃ (a:Addr) (ns:List Int) (mo:Nat),vs=[.ref a,.int mo]∧SqL K H a (ns.map V.int)∧ns.length≤63∧mo≤40 ∧
 ∀ (l:Addr) (rs:List Addr) H',Same H H'→H l=none→H' l=some (.lst (rs.map V.ref))→rs.length≤mo→(∀ r∈rs,dD H' r)→Q (.ref l) H'
def nuI(H:Hp)(a:Addr)(mo:Nat)(L:Addr)(m:Nat)(σ:L2.St)(H1:Hp):Prop:=∃ (c:Int) (v4 v5 v6:Option V) (rs:List Addr),σ=[some (.ref a),some (.int mo),some (.ref L),some (.int c),v4,v5,v6]∧Same H H1∧H1 L=some (.lst (rs.map V.ref))∧rs.length≤mo∧(∀ r∈rs,dD H1 r)∧m=mo-rs.length
theorem ig:aS ["_law_script","_law_most","_law_found","_law_cell","_law_start","_law_k","_law_one"] ["_law_script","_law_most"] (ab sNums):=⟨rfl,rfl,rfl,by decide +kernel,rfl,by decide +kernel,by decide +kernel⟩
theorem ok_nums{f fC fM:Addr}{fd fdC fdM:FuncData}(D:Df K mg "_law_numbers" sNums f fd)
  (DC:Df K mg "_law_cell_at" iS fC fdC) (bC:bh K fdC ["_law_script","_law_k"] []) (GC:FnOk P w K mg base CX0 1 fC fdC ["_law_script","_law_k"] (spCell K))
  (DM:Df K mg "_law_mixed" sMix fM fdM) (bM:bh K fdM ["_law_cell","_law_k"] []) (GM:FnOk P w K mg base CX0 1 fM fdM ["_law_cell","_law_k"] spMix)
  (hlen:mg "len"=none) (hint:mg "int"=none) (henum:mg "enumerate"=none):FnOk P w K mg base CX0 2 f fd ["_law_script","_law_most"] (spNums K):=by
 refine D.F.ok ig (fun vs H Q E h=>?_) (fun cdv A outer s H vs Q E hr h=>?_)
 ·obtain⟨a,ns,mo,rfl,_⟩:=h
  rfl
 ·obtain⟨a,ns,mo,rfl,hS,hlen',hmo,z⟩:=h
  refine⟨_,(aa (ai (i:=2) ig.nd rfl (Or.inl rfl) (eW a9))
   (aa (ai (i:=3) ig.nd rfl (Or.inl rfl) (pec GC hr rfl DC.m DC.F.kp bC .nil bf (pac (pv 0) (pac (a8) a9))))
   (aa (ps_while PassesOwn.never (PW.pt (pw_and (ar jJ (ah bw (pec GC hr rfl DC.m DC.F.kp bC .nil bf (pac (pv 0) (pac (a8) a9))) a8) a8 (b9 _)) (pw_and (ar op_ne (pv 3) a8 (b9 _)) (jS (ar op_lt (b7 ca (by rfl) hlen PySem.boot_len (pac (pv 2) a9)) (pv 1) (b9 _)))))) (aa (dq (iV PySem.F.plainAttrs_list PySem.F.slot_list_append PySem.F.type_list_append bD (pv 2) (pac (ap (pac (ah bw (pv 3) pe_p24) (pac (g5) a9))) a9)))
   (ag (ai (i:=3) ig.nd rfl (Or.inl rfl) (ah iW (pv 3) pe_p24)))))
   (aa (ai (i:=4) ig.nd rfl (Or.inl rfl) (ah df a8 (g4 call_int1 (by rfl) hint boot_int (pac (pe_cmpR jJ (ah bw (pec GC hr rfl DC.m DC.F.kp bC .nil bf (pac (pv 0) (pac (a8) a9))) a8) a8 (b9 _)) a9))))
   (aa (cp PassesOwn.never rfl (pi_enum rfl henum (pac (gF sl_list (pv 0) (gj (pv 4)) (gj (ah cB (ah df (pv 4) (pv 1)) (b7 ca (by rfl) hlen PySem.boot_len (pac (pv 2) a9))))) a9)) (fk rfl (b0 (al (i:=5) ig.nd rfl (Or.inl rfl)) (b0 (al (i:=6) ig.nd rfl (Or.inl rfl)) dX))) (ag (dq (iV PySem.F.plainAttrs_list PySem.F.slot_list_append PySem.F.type_list_append bD (pv 2) (pac (ap (pac (pec GM hr rfl DM.m DM.F.kp bM .nil bf (pac (pv 6) (pac (pv 5) a9))) (pac (g5) a9))) a9)))))
   (ag (aD (pv 2)))))))),?_⟩
  refine⟨szr rfl,fun L nL=>?_⟩
  have S0:=a7 (o:=HO.lst []) nL
  have e0:(upd H L (.lst [])) L=some (.lst []):=a6
  revert S0 e0
  generalize (upd H L (.lst []))=H0
  intro S0 e0
  refine⟨_,rfl,a,ns,2,rfl,S0.seq hS,fun c2=>?_⟩
  refine' laterS (fun σ H1=>∃ m,nuI H a mo L m σ H1) (fun fin=>_) _
  rotate_left
  ·refine⟨nuI H a mo L,⟨mo,c2,_,_,_,[],rfl,S0,e0,zba _,(fun _ h=>nomatch h),rfl⟩,?_⟩
   rintro m σ H1 ⟨c,v4,v5,v6,rs,rfl,S1,e1,rl,rn,rfl⟩
   have out:nuI H a mo L (mo-rs.length) [some (.ref a),some (.int mo),some (.ref L),some (.int c),v4,v5,v6] H1:=⟨c,v4,v5,v6,rs,rfl,S1,e1,rl,rn,rfl⟩
   refine⟨_,rfl,a,ns,0,rfl,S1.seq hS,fun c0=>⟨_,_,rfl,rfl,(by show(0:Int)<_;decide),rfl,_,rfl,ifC (fun _=>?_) (fun _=>iteF (fin _ _ ⟨_,out⟩))⟩⟩
   refine⟨_,rfl,rfl,_,rfl,ifC (fun _=>?_) (fun _=>iteF (fin _ _ ⟨_,out⟩))⟩
   refine⟨_,rfl,L,_,rfl,.inl (SqL.of e1),_,rfl,_,_,rfl,rfl,_,rfl,?_⟩
   rw[za0]
   by_cases hk:(rs.length:Int)<(mo:Int)
   rotate_left
   ·exact dY hk (fin _ _ ⟨_,out⟩)
   ·refine f9 hk ?_
    refine⟨fun σ H2=>∃ m',m'<mo-rs.length∧nuI H a mo L m' σ H2,fun σ' H' n=>n,?_⟩
    refine⟨_,rfl,.inl ⟨rfl,_,SqL.of e1⟩,_,rfl,_,_,rfl,rfl,(by show(0:Int)<_;decide),szr rfl,fun t nt=>?_⟩
    have T:=a7 (o:=HO.tup [V.int (c % 1000000000000000000000000),.bl true]) nt
    have e2:=T _ _ e1
    refine⟨L,_,_,rfl,rfl,e2,be (by rw[za0];omega),?_⟩
    refine⟨_,rfl,_,_,rfl,rfl,⟨by decide,by decide⟩,?_⟩
    refine⟨mo-(rs++[t]).length,by rw[za1];show mo-(rs.length+1)<_;omega,_,v4,v5,v6,rs++[t],rfl,am (S1.trans T) nL,by rw[a6,zar];rfl,by rw[za1];show rs.length+1≤_;omega,fun r hr=>?_,rfl⟩
    rcases za9.mp hr with hr | hr
    ·exact((rn r hr).same T).updL e2
    ·rw[za7.mp hr]
     exact dD.updL ⟨_,_,a6⟩ e2
  rintro σ H1 ⟨m,c,v4,v5,v6,rs,rfl,S1,e1,rl,rn,rfl⟩
  refine⟨_,rfl,a,ns,0,rfl,S1.seq hS,fun c0=>⟨_,_,rfl,rfl,(by show(0:Int)<_;decide),rfl,?_⟩⟩
  refine .inr ⟨_,rfl,_,_,rfl,rfl,?_⟩
  obtain⟨st,hst,hst'⟩:∃ st:Nat,(2:Int)+(if decide ((fun i j=>V.int (i % j)) c0 2=V.int 0)=true then 1 else 0)=(st:Int)∧st≤3:=by
   split
   ·exact⟨3,rfl,by decide⟩
   ·exact⟨2,rfl,by decide⟩
  have e4:(fun i j:Int=>V.int (i+j)) 2 (if decide ((fun i j=>V.int (i % j)) c0 2=V.int 0)=true then 1 else 0)=V.int (st:Int):=congrArg V.int hst
  rw[e4]
  refine⟨_,rfl,_,rfl,_,rfl,_,rfl,_,rfl,_,_,rfl,rfl,_,rfl,L,_,rfl,.inl (SqL.of e1),_,_,rfl,rfl,_,rfl,?_⟩
  have hup:(st:Int)+(mo:Int)-((rs.map V.ref).length:Int)=((st+(mo-rs.length):Nat):Int):=by rw[za0];omega
  rw[hup]
  refine⟨a,_,rfl,S1.seq hS,fun l1 m1=>?_⟩
  have U1:=a7 (o:=HO.lst (cutV (ns.map V.int) (some (st:Int)) (some ((st+(mo-rs.length):Nat):Int)))) m1
  have cl:(cutV (ns.map V.int) (some (st:Int)) (some ((st+(mo-rs.length):Nat):Int))).length≤mo-rs.length:=by
   unfold cutV
   rw[zan]
   have q1:HT.sIx (ns.map V.int).length 0 (some (st:Int))=min st (ns.map V.int).length:=HT.f7 _ _ st
   have q2:HT.sIx (ns.map V.int).length (ns.map V.int).length (some ((st+(mo-rs.length):Nat):Int))=min (st+(mo-rs.length)) (ns.map V.int).length:=HT.f7 _ _ _
   rw[q1,q2,zb9]
   omega
  have hint':∀ v∈cutV (ns.map V.int) (some (st:Int)) (some ((st+(mo-rs.length):Nat):Int)),∃ i,v=.int i:=fun v hv=>by
   obtain⟨i,_,rfl⟩:=za6.mp (cut_mem hv)
   exact⟨i,rfl⟩
  refine⟨l1,_,rfl,SqL.of a6,?_⟩
  have S2:=S1.trans U1
  have e2:=U1 _ _ e1
  have el:(upd H1 l1 (.lst (cutV (ns.map V.int) (some (st:Int)) (some ((st+(mo-rs.length):Nat):Int))))) l1=some (.lst (cutV (ns.map V.int) (some (st:Int)) (some ((st+(mo-rs.length):Nat):Int)))):=a6
  have rn2:∀ r∈rs,dD (upd H1 l1 (.lst (cutV (ns.map V.int) (some (st:Int)) (some ((st+(mo-rs.length):Nat):Int))))) r:=fun r hr'=>(rn r hr').same U1
  have neL:L≠l1:=fun e=>by rw[← e,e1]at m1;cases m1
  revert S2 e2 el rn2 cl hint'
  generalize (upd H1 l1 (.lst (cutV (ns.map V.int) (some (st:Int)) (some ((st+(mo-rs.length):Nat):Int)))))=H2
  generalize cutV (ns.map V.int) (some (st:Int)) (some ((st+(mo-rs.length):Nat):Int))=cs
  intro cl hint' S2 e2 el rn2
  refine for_enum (K:=K) (a:=l1) (xs:=cs) (fun i σ H3=>(∃ v5 v6,σ=[some (.ref a),some (.int mo),some (.ref L),some (.int c),some (.int st),v5,v6])∧Same H H3∧H3 l1=some (.lst cs)∧∃ rs':List Addr,H3 L=some (.lst (rs'.map V.ref))∧rs'.length=rs.length+i∧∀ r∈rs',dD H3 r)
   ⟨⟨_,_,rfl⟩,S2,el,rs,e2,rfl,rn2⟩ (fun i σ H3 _ ⟨_,_,e,_⟩=>SqL.of e) ?_ ?_
  ·rintro i x p σ H3 hx ⟨⟨v5,v6,rfl⟩,S3,el3,rs',eL3,rl',rn'⟩ np
   obtain⟨x,rfl⟩:=hint' x (zak hx)
   have hi:i<cs.length:=(za3.mp hx).1
   have Tp:=a7 (o:=HO.tup [V.int (i:Int),.int x]) np
   refine⟨p,_,rfl,SqT.of a6,rfl,_,_,rfl,_,_,rfl,rfl,?_⟩
   have eL4:=Tp _ _ eL3
   refine⟨_,rfl,.inl ⟨rfl,_,SqL.of eL4⟩,_,rfl,_,rfl,x,i,rfl,by omega,fun m=>⟨szr rfl,fun t nt=>?_⟩⟩
   have Tt:=a7 (o:=HO.tup [V.int m,.bl false]) nt
   have eL5:=Tt _ _ eL4
   refine⟨L,_,_,rfl,rfl,eL5,be (by rw[za0];omega),?_⟩
   refine⟨⟨_,_,rfl⟩,am (S3.trans (Tp.trans Tt)) nL,by rw[af (Ne.symm neL)];exact Tt _ _ (Tp _ _ el3),rs'++[t],by rw[a6,zar];rfl,by rw[za1,rl'];rfl,fun r hr'=>?_⟩
   rcases za9.mp hr' with hr' | hr'
   ·exact(((rn' r hr').same Tp).same Tt).updL eL5
   ·rw[za7.mp hr']
    exact dD.updL ⟨_,_,a6⟩ eL5
  ·rintro σ H3 ⟨⟨v5,v6,rfl⟩,S3,el3,rs',eL3,rl',rn'⟩
   exact⟨_,rfl,z L rs' H3 S3 nL eL3 (by omega) rn'⟩
def LsOk(ls:List Ln):Prop:=ls.length≤40∧ls.Nodup∧(ls.map lnD).Pairwise (fun d d'=>Dt.blt d' d=false)∧∀ a∈ls,hLt a.1 a.2=true
def LnK(kvs:List (Dt×V)):Prop:=(kvs.map (·.1)).Nodup∧∀ p∈kvs,∃ a:Ln,p.1=lnD a∧hLt a.1 a.2=true
theorem LnK.put{kvs:List (Dt×V)}(h:LnK kvs){a:Ln}(ne:hLt a.1 a.2=true)(v:V):LnK (putK kvs (lnD a) v):=⟨putK_nd _ _ _ h.1,fun p hp=>by
 have hm:p.1∈(putK kvs (lnD a) v).map (·.1):=za6.mpr ⟨p,hp,rfl⟩
 rcases(putK_mem kvs (lnD a) v p.1).mp hm with e | e
 ·exact⟨a,e,ne⟩
 ·obtain⟨q,hq,e'⟩:=za6.mp e
  obtain⟨b,hb,hn⟩:=h.2 q hq
  exact⟨b,by rw[← e'];exact hb,hn⟩⟩
theorem as_lnD:∀ {es:List Dt},(∀ d∈es,∃ a:Ln,d=lnD a∧hLt a.1 a.2=true)→∃ ls:List Ln,es=ls.map lnD∧∀ a∈ls,hLt a.1 a.2=true
 | [],_=>⟨[],rfl,fun _ h=>nomatch h⟩
 | d::es,h=>by
  obtain⟨ls,e,k⟩:=as_lnD (es:=es) fun x hx=>h x (zac _ hx)
  obtain⟨a,ha,hn⟩:=h d (zad ..)
  refine⟨a::ls,by rw[e,ha];rfl,fun b hb=>?_⟩
  rcases zaa.mp hb with rfl | hb
  ·exact hn
  ·exact k b hb
theorem ls_of{kvs:List (Dt×V)}{es:List Dt}(h:LnK kvs)(kl:kvs.length≤40)(pe:es.Perm (kvs.map (·.1)))(srt:es.Pairwise (fun d d'=>Dt.blt d' d=false)):∃ ls:List Ln,es=ls.map lnD∧LsOk ls:=by
 obtain⟨ls,rfl,k⟩:=as_lnD (es:=es) fun d hd=>by
  obtain⟨p,hp,rfl⟩:=za6.mp (pe.mem_iff.mp hd)
  exact h.2 p hp
 refine⟨ls,rfl,?_,?_,srt,k⟩
 ·have:=pe.length_eq
  rw[za0,za0]at this
  omega
 ·exact(zbl.mp (pe.nodup_iff.mpr h.1)).imp fun n e=>n (by rw[e])
theorem jA{P:Program}{w:World}{H:Hp}{a b:Addr}{kvs:List (Dt×V)}{φ:Heap→Prop}{o:HO}(d:DicV P w H b kvs)(ha:H a=some (.ext φ))(ne:b≠a):DicV P w (upd H a o) b kvs:=by
 obtain⟨xs,dic,kd⟩:=d
 refine⟨xs,⟨by rw[af ne];exact dic.at_,dic.sys,dic.len,fun x hx=>⟨DtIs.updX ha (dic.key x hx).1,(dic.key x hx).2⟩⟩,kd⟩
def spWork(K:PySem.W.Frag):Sp:=fun vs H Q _=>∃ (a:Addr) (ns:List Int) (mo:Nat),vs=[.ref a,.int mo]∧SqL K H a (ns.map V.int)∧ns.length≤63∧mo≤40 ∧
 ∀ (R F B:Addr) (fs bs:List Ln) H',Same H H'→H' R=some (.tup [.ref F,.ref B])→DtL H' F (fs.map lnD)→DtL H' B (bs.map lnD)→LsOk fs→LsOk bs→Q (.ref R) H'
def wkS(a:Addr)(mo:Nat)(tf d0 d1:Addr)(v5 v6 v7 v8:Option V):L2.St:=[some (.ref a),some (.int mo),some (.ref tf),some (.ref d0),some (.ref d1),v5,v6,v7,v8]
def wkI(P:Program)(w:World)(H:Hp)(l:Addr)(rs:List Addr)(d0 d1:Addr)(i:Nat)(H6:Hp):Prop:=Same H H6∧H6 l=some (.lst (rs.map V.ref))∧∃ k0 k1,DicV P w H6 d0 k0∧DicV P w H6 d1 k1∧LnK k0∧LnK k1∧k0.length≤i∧k1.length≤i
theorem gg:aS ["_law_script","_law_most","_law_far_here","_law_front","_law_back","_law_number","_law_free","_law_edge","_law_both"] ["_law_script","_law_most"] (ab sWork):=⟨rfl,rfl,rfl,by decide +kernel,rfl,by decide +kernel,by decide +kernel⟩
theorem ok_work{f fC fF fN fL fA:Addr}{fd fdC fdF fdN fdL fdA:FuncData}(D:Df K mg "_law_work" sWork f fd)
  (DC:Df K mg "_law_cell_at" iS fC fdC) (bC:bh K fdC ["_law_script","_law_k"] []) (GC:FnOk P w K mg base CX0 1 fC fdC ["_law_script","_law_k"] (spCell K))
  (DF:Df K mg "_law_far" sFar fF fdF) (bF:bh K fdF ["_law_script"] []) (GF:FnOk P w K mg base CX0 2 fF fdF ["_law_script"] (spFar K))
  (DN:Df K mg "_law_numbers" sNums fN fdN) (bN:bh K fdN ["_law_script","_law_most"] []) (GN:FnOk P w K mg base CX0 2 fN fdN ["_law_script","_law_most"] (spNums K))
  (DL:Df K mg "_law_line" sLine fL fdL) (bL:bh K fdL ["_law_number","_law_far_here"] []) (GL:FnOk P w K mg base CX0 1 fL fdL ["_law_number","_law_far_here"] spLine)
  (DA:Df K mg "_law_anywhere" sAny fA fdA) (bA:bh K fdA ["_law_number"] []) (GA:FnOk P w K mg base CX0 1 fA fdA ["_law_number"] spAny) (hsorted:mg "sorted"=none):FnOk P w K mg base CX0 3 f fd ["_law_script","_law_most"] (spWork K):=by
 refine D.F.ok gg (fun vs H Q E h=>?_) (fun cdv A outer s H vs Q E hr h=>?_)
 ·obtain⟨a,ns,mo,rfl,_⟩:=h
  rfl
 ·obtain⟨a,ns,mo,rfl,hS,hlen,hmo,z⟩:=h
  have hr1:Room 1 _:=hr.mono (by decide)
  refine⟨_,(aa (ai (i:=2) gg.nd rfl (Or.inl rfl) (pec GF hr rfl DF.m DF.F.kp bF .nil bf (pac (pv 0) a9)))
   (aa (ai (i:=3) gg.nd rfl (Or.inl rfl) eX)
   (aa (ai (i:=4) gg.nd rfl (Or.inl rfl) eX)
   (aa (cp PassesOwn.never rfl (c6 (pec GN hr rfl DN.m DN.F.kp bN .nil bf (pac (pv 0) (pac (pv 1) a9)))) (fk rfl (b0 (al (i:=5) gg.nd rfl (Or.inl rfl)) (b0 (al (i:=6) gg.nd rfl (Or.inl rfl)) dX))) (aa (ai (i:=7) gg.nd rfl (Or.inl rfl) (pec GL hr1 rfl DL.m DL.F.kp bL .nil bf (pac (ah eJ (pv 5) a8) (pac (pv 2) a9))))
   (aa (dE (fj (pv 6)) (ag (ai (i:=7) gg.nd rfl (Or.inl rfl) (pec GA hr1 rfl DA.m DA.F.kp bA .nil bf (pac (ah eJ (pv 5) a8) a9)))) bm)
   (aa (ai (i:=8) gg.nd rfl (Or.inl rfl) (pe_cmpR jJ (ah bw (pec GC hr1 rfl DC.m DC.F.kp bC .nil bf (pac (pv 0) (pac (a8) a9))) a8) a8 (b9 _)))
   (aa (dE (PW.pt (jH (fj (pv 8)) (jp (ar op_lt (ah bw (pv 5) a8) a8 (b9 _))))) (ag (eV hr1 (pv 3) (pv 7) g5 rfl)) bm)
   (ag (dE (PW.pt (jH (fj (pv 8)) (jp (ar op_gt (ah bw (pv 5) a8) a8 (b9 _))))) (ag (eV hr1 (pv 4) (pv 7) g5 rfl)) bm)))))))
   (ag (aD (ap (pac (b7 (gn hr1) (by rfl) hsorted boot_sorted (pac (pv 3) a9)) (pac (b7 (gn hr1) (by rfl) hsorted boot_sorted (pac (pv 4) a9)) a9))))))))),?_⟩
  refine⟨_,rfl,a,ns,rfl,hS,fun tf fx fy H1 S1 etf=>?_⟩
  refine fun d0 o0 n0 dic0=>?_
  have T0:=a7 (o:=o0) n0
  refine fun d1 o1 n1 dic1=>?_
  have T1:=a7 (o:=o1) n1
  have ne01:d0≠d1:=fun e=>by
   obtain⟨φ,ee⟩:=dic0.ext
   rw[← e,ee]at n1
   cases n1
  have S2:=S1.trans (T0.trans T1)
  have hd0:H1 d0=none:=n0
  have hd1:H1 d1=none:=cf T0 n1
  refine⟨_,rfl,_,rfl,a,ns,mo,rfl,S2.seq hS,hlen,hmo,fun l rs H3 S3 nl el rl hn=>?_⟩
  have S13:Same H1 H3:=(T0.trans T1).trans S3
  have da:=(dic0.same T1).same S3
  have db:=dic1.same S3
  refine⟨l,rfl,⟨_,SqL.of el⟩,?_⟩
  have keepX:∀ {H':Hp} {dd b:Addr} {kvs:List (Dt×V)} {o:HO} {v:HO},DicV P w H' dd kvs→H' b=some v→(∀ φ,v≠.ext φ)→(upd H' dd o) b=some v:=fun {H' dd b kvs o v} dd' hb hv=>by
   obtain⟨φ,ee⟩:=dd'.ext
   rw[af (fun e=>by rw[e,ee]at hb;exact hv φ (Option.some.inj hb).symm)]
   exact hb
  have numK:∀ {H':Hp} {dd:Addr} {kvs:List (Dt×V)} {o:HO},DicV P w H' dd kvs→(∀ r∈rs,dD H' r)→∀ r∈rs,dD (upd H' dd o) r:=fun {H' dd kvs o} dd' h r hr'=>by
   obtain⟨n,b,e⟩:=h r hr'
   exact⟨n,b,keepX dd' e (fun _ zz=>nomatch zz)⟩
  refine d4 (K:=K) (a:=l) (xs:=rs.map V.ref) (fun i σ H6=>(∃ v5 v6 v7 v8,σ=wkS a mo tf d0 d1 v5 v6 v7 v8)∧wkI P w H1 l rs d0 d1 i H6∧∀ r∈rs,dD H6 r)
   ⟨⟨_,_,_,_,rfl⟩,⟨S13,el,[],[],da,db,⟨zci,fun _ h=>nomatch h⟩,⟨zci,fun _ h=>nomatch h⟩,za4 _,za4 _⟩,hn⟩ (fun i σ H6 _ ⟨_,⟨_,e,_⟩,_⟩=>SqL.of e) ?_ ?_
  ·rintro i x σ H6 hx ⟨⟨v5,v6,v7,v8,rfl⟩,⟨S6,el6,k0,k1,da6,db6,la,lb,ka,kb⟩,hn6⟩
   rw[zao]at hx
   cases hp:rs[i]? with
   | none=>rw[hp]at hx;cases hx
   | some r =>
    rw[hp]at hx
    cases hx
    have hi:i<rs.length:=(za3.mp hp).1
    obtain⟨n,b,er⟩:=hn6 r (zak hp)
    refine⟨r,_,rfl,SqT.of er,rfl,_,_,rfl,_,_,rfl,rfl,?_⟩
    refine⟨_,rfl,_,_,rfl,rfl,⟨by decide,by decide⟩,_,rfl,_,fx,fy,tf,rfl,S6 _ _ etf,fun e1 an H7 S7 hlt dt7=>?_⟩
    refine' laterS (fun σ H8=>∃ (e1:Addr) (an:Ln),σ=wkS a mo tf d0 d1 (some (.int n)) (some (.bl b)) (some (.ref e1)) v8∧Same H6 H8∧hLt an.1 an.2=true∧DtIs H8 (.ref e1) (lnD an)) (fun fin=>_) _
    rotate_left
    ·refine⟨_,rfl,b,rfl,ifC (fun _=>?_) (fun _=>fin _ _ ⟨e1,an,rfl,S7,hlt,dt7⟩)⟩
     refine⟨_,rfl,_,_,rfl,rfl,⟨by decide,by decide⟩,_,rfl,fun e2 bn H8 S8 hlt' dt8=>?_⟩
     exact fin _ _ ⟨e2,bn,rfl,S7.trans S8,hlt',dt8⟩
    rintro σ H8 ⟨e1,an,rfl,S8,hlt,dt8⟩
    have h8:(lnD an).dp≤8:=by rw[lnD_dp];decide
    refine⟨_,rfl,a,ns,1,rfl,((S1.trans S6).trans S8).seq hS,fun c1=>⟨_,_,rfl,rfl,(by show(0:Int)<_;decide),rfl,?_⟩⟩
    generalize hbo:decide ((fun i j=>V.int (i % j)) c1 3=V.int 1)=bo
    have da8:=da6.same S8
    have db8:=db6.same S8
    have hn8:∀ r∈rs,dD H8 r:=fun r hr'=>(hn6 r hr').same S8
    refine' laterS (fun σ H9=>σ=wkS a mo tf d0 d1 (some (.int n)) (some (.bl b)) (some (.ref e1)) (some (.bl bo))∧Same H1 H9∧H9 l=some (.lst (rs.map V.ref))∧DtIs H9 (.ref e1) (lnD an)∧(∀ r∈rs,dD H9 r)∧∃ k0,DicV P w H9 d0 k0∧DicV P w H9 d1 k1∧LnK k0∧k0.length≤i+1) (fun fin=>_) _
    rotate_left
    ·have put:∀ D:Ends,(∀ H',(Same H1 H'∧H' l=some (.lst (rs.map V.ref))∧DtIs H' (.ref e1) (lnD an)∧(∀ r∈rs,dD H' r)∧∃ k0,DicV P w H' d0 k0∧DicV P w H' d1 k1∧LnK k0∧k0.length≤i+1)→D.nx (wkS a mo tf d0 d1 (some (.int n)) (some (.bl b)) (some (.ref e1)) (some (.bl bo))) H')→(sDPutD P w (tVar 3) (tVar 7) (tC (.bl true))) D (wkS a mo tf d0 d1 (some (.int n)) (some (.bl b)) (some (.ref e1)) (some (.bl bo))) H8:=fun D hD=>by
      refine⟨_,rfl,_,rfl,d0,e1,lnD an,k0,rfl,rfl,dt8,h8,da8,by omega,fun o dic'=>hD _ ?_⟩
      obtain⟨φ,ee⟩:=da8.ext
      exact⟨am (S6.trans S8) hd0,keepX da8 (S8 _ _ el6) (fun _ zz=>nomatch zz),dt8.updX ee,numK da8 hn8,_,dic',jA db8 ee (Ne.symm ne01),la.put hlt _,zb1 (fD _ _ _) (Nat.succ_le_succ ka)⟩
     refine⟨_,rfl,bo,rfl,ifC (fun _=>put _ fun H' h=>fin _ _ ⟨rfl,h⟩) (fun _=>?_)⟩
     refine⟨_,rfl,_,_,rfl,rfl,(by show(0:Int)<_;decide),_,_,rfl,rfl,_,rfl,ifC (fun _=>put _ fun H' h=>fin _ _ ⟨rfl,h⟩) (fun _=>?_)⟩
     exact fin _ _ ⟨rfl,S6.trans S8,S8 _ _ el6,dt8,hn8,k0,da8,db8,la,by omega⟩
    rintro σ H9 ⟨rfl,S9,el9,dt9,hn9,k0',da9,db9,la9,ka9⟩
    have put:∀ D:Ends,(∀ H',(wkI P w H1 l rs d0 d1 (i+1) H'∧∀ r∈rs,dD H' r)→D.nx (wkS a mo tf d0 d1 (some (.int n)) (some (.bl b)) (some (.ref e1)) (some (.bl bo))) H')→(sDPutD P w (tVar 4) (tVar 7) (tC (.bl true))) D (wkS a mo tf d0 d1 (some (.int n)) (some (.bl b)) (some (.ref e1)) (some (.bl bo))) H9:=fun D hD=>by
     refine⟨_,rfl,_,rfl,d1,e1,lnD an,k1,rfl,rfl,dt9,h8,db9,by omega,fun o dic'=>hD _ ?_⟩
     obtain⟨φ,ee⟩:=db9.ext
     exact⟨⟨am S9 hd1,keepX db9 el9 (fun _ zz=>nomatch zz),_,_,jA da9 ee ne01,dic',la9,lb.put hlt _,ka9,zb1 (fD _ _ _) (Nat.succ_le_succ kb)⟩,numK db9 hn9⟩
    refine⟨_,rfl,bo,rfl,ifC (fun _=>put _ fun H' h=>⟨⟨_,_,_,_,rfl⟩,h⟩) (fun _=>?_)⟩
    refine⟨_,rfl,_,_,rfl,rfl,(by show(0:Int)<_;decide),_,_,rfl,rfl,_,rfl,ifC (fun _=>put _ fun H' h=>⟨⟨_,_,_,_,rfl⟩,h⟩) (fun _=>?_)⟩
    exact⟨⟨_,_,_,_,rfl⟩,⟨S9,el9,k0',k1,da9,db9,la9,lb,ka9,by omega⟩,hn9⟩
  ·rintro σ H6 ⟨⟨v5,v6,v7,v8,rfl⟩,⟨S6,el6,k0,k1,da6,db6,la,lb,ka,kb⟩,_⟩
   rw[za0]at ka kb
   have sortOk:∀ {kk:List (Dt×V)},LnK kk→(∀ p∈kk,∃ e r,p.1=Dt.tup (e::r)∧e.tag="tuple")∧(∀ p∈kk,∀ p'∈kk,Dt.like p.1 p'.1=true):=fun {kk} lk=>⟨fun p hp=>by
     obtain⟨b,hb,_⟩:=lk.2 p hp
     exact⟨_,_,hb,rfl⟩,fun p hp p' hp'=>by
     obtain⟨b,hb,_⟩:=lk.2 p hp
     obtain⟨b',hb',_⟩:=lk.2 p' hp'
     rw[hb,hb']
     exact lnD_like b b'⟩
   refine⟨_,rfl,d0,k0,"tuple",rfl,da6,(sortOk la).1,(sortOk la).2,fun F fv es nF dF pe srt=>?_⟩
   obtain⟨fs,rfl,fok⟩:=ls_of la (by omega) pe srt
   have TF:=a7 (o:=HO.lst fv) nF
   refine⟨_,rfl,d1,k1,"tuple",rfl,db6.same TF,(sortOk lb).1,(sortOk lb).2,fun B bv es nB dB pe' srt'=>?_⟩
   obtain⟨bs,rfl,bok⟩:=ls_of lb (by omega) pe' srt'
   have TB:=a7 (o:=HO.lst bv) nB
   refine⟨szr rfl,fun R nR=>?_⟩
   have TR:=a7 (o:=HO.tup [V.ref F,.ref B]) nR
   exact z R F B fs bs _ ((S1.trans S6).trans ((TF.trans TB).trans TR)) a6 ⟨fv,TR _ _ (TB _ _ a6),dF.same ((TF.trans TB).trans TR)⟩ ⟨bv,TR _ _ a6,dB.same (TB.trans TR)⟩ fok bok
end
theorem tie_at{H:Hp}{vs:List V}{T:List Tie}(h:ac H vs (T.map tD)){i:Nat}{v:V}(e:vs[i]?=some v):∃ r q a b x,v=.ref r∧T[i]?=some x∧H r=some (.tup [.ref q,.ref a,.ref b])∧two H q x.1∧DtIs H (.ref a) (lnD x.2.1)∧DtIs H (.ref b) (lnD x.2.2):=by
 obtain⟨d,ed,dv⟩:=h.at i v e
 rw[zao]at ed
 cases ha:T[i]? with
 | none=>rw[ha]at ed;cases ed
 | some x =>
  rw[ha]at ed
  cases ed
  unfold tD at dv
  cases dv with
  | tup e1 t1 =>
   cases t1 with
   | cons q1 t1 =>
    cases t1 with
    | cons q2 t1 =>
     cases t1 with
     | cons q3 t1 =>
      cases t1
      obtain⟨r2,_,_,rfl,_⟩:=ln_two q2
      obtain⟨r3,_,_,rfl,_⟩:=ln_two q3
      cases q1 with
      | @tup r1 _ _ e1' k1=>exact⟨_,r1,r2,r3,x,rfl,rfl,e1,hD_two (.tup e1' k1),q2,q3⟩
section
variable{P:Program}{w:World}{K:PySem.W.Frag}{mg:Str→Option Value}{base:Heap}
def spTied(P:Program)(w:World):Sp:=fun vs H Q _=>∃ (l:Addr) (T:List Tie),vs=[.ref l]∧DtL H l (T.map tD)∧T.length≤300∧∀ d kvs H',Same H H'→H d=none→DicD P w H' d kvs (tf T)→Q (.ref d) H'
theorem scTied:aS ["ties","tied","hole","one","other"] ["ties"] (ab sTied):=⟨rfl,rfl,rfl,by decide +kernel,rfl,by decide +kernel,by decide +kernel⟩
theorem ok_tied{f:Addr}{fd:FuncData}(D:Df K mg "tied_by_end" sTied f fd):FnOk P w K mg base CX0 1 f fd ["ties"] (spTied P w):=by
 refine D.F.ok scTied (fun vs H Q E h=>?_) (fun cdv A outer s H vs Q E hr h=>?_)
 ·obtain⟨l,T,rfl,_⟩:=h
  rfl
 ·obtain⟨l,T,rfl,⟨lv,el,dl⟩,tl,z⟩:=h
  have lvl:lv.length=T.length:=by rw[dl.length,za0]
  refine⟨_,(aa (ai (i:=1) scTied.nd rfl (Or.inl rfl) eX)
   (aa (cp PassesOwn.never rfl (c6 (pv 0)) (fk rfl (b0 (al (i:=2) scTied.nd rfl (Or.inl rfl)) (b0 (al (i:=3) scTied.nd rfl (Or.inl rfl)) (b0 (al (i:=4) scTied.nd rfl (Or.inl rfl)) dX)))) (aa (eV hr (pv 1) (ap (pac (ap (pac (c7) (pac (pv 3) a9))) (pac (pv 2) a9))) (ap (pac (c7) (pac (pv 4) a9))) rfl)
   (ag (eV hr (pv 1) (ap (pac (ap (pac (c7) (pac (pv 4) a9))) (pac (pv 2) a9))) (ap (pac (c7) (pac (pv 3) a9))) rfl))))
   (ag (aD (pv 1))))),?_⟩
  refine fun dA o0 ndA dic0=>?_
  have S0:=a7 (o:=o0) ndA
  refine⟨_,rfl,l,rfl,⟨_,SqL.of (S0 _ _ el)⟩,?_⟩
  refine d4 (K:=K) (a:=l) (xs:=lv) (fun i σ H2=>(∃ v2 v3 v4,σ=[some (.ref l),some (.ref dA),v2,v3,v4])∧Same H H2∧∃ kvs,DicD P w H2 dA kvs (tf (T.take i))∧kvs.length≤2*i)
   ⟨⟨_,_,_,rfl⟩,S0,[],by rw[zb3];exact DicD.start dic0,za4 _⟩ (fun i σ H2 _ ⟨_,s2,_⟩=>SqL.of (s2 _ _ el)) ?_ ?_
  ·rintro i x σ H2 hx ⟨⟨v2,v3,v4,rfl⟩,S2,kvs,D2,kl⟩
   obtain⟨r,q,a,b,t,rfl,ht,er,tq,da,db⟩:=tie_at dl hx
   have hi:i<T.length:=(za3.mp ht).1
   have tk:T.take (i+1)=T.take i++[t]:=by rw[zb0,ht];rfl
   refine⟨r,_,rfl,SqT.of (S2 _ _ er),rfl,_,_,rfl,_,_,rfl,_,_,rfl,rfl,?_⟩
   refine⟨_,rfl,szr rfl,fun u1 n1=>?_⟩
   have T1:=a7 (o:=HO.tup [V.str "back",.ref b]) n1
   refine⟨_,rfl,_,rfl,szr rfl,fun u2 n2=>?_⟩
   have T2:=a7 (o:=HO.tup [V.str "front",.ref a]) n2
   refine⟨_,rfl,szr rfl,fun u3 n3=>?_⟩
   have T3:=a7 (o:=HO.tup [V.ref u2,.ref q]) n3
   have T13:=(T1.trans T2).trans T3
   have S3:=S2.trans T13
   have d1:DtIs (upd (upd (upd H2 u1 (.tup [V.str "back",.ref b])) u2 (.tup [V.str "front",.ref a])) u3 (.tup [V.ref u2,.ref q])) (.ref u1) (sD (false,t.2.2)):=.tup (T3 _ _ (T2 _ _ a6)) (.cons (.str _) (.cons (db.same S3) .nil))
   have d3:DtIs (upd (upd (upd H2 u1 (.tup [V.str "back",.ref b])) u2 (.tup [V.str "front",.ref a])) u3 (.tup [V.ref u2,.ref q])) (.ref u3) (kD (true,t.2.1) t.1):=.tup a6 (.cons (.tup (T3 _ _ a6) (.cons (.str _) (.cons (da.same S3) .nil))) (.cons (ao (S3 _ _ tq)) .nil))
   have D3:=D2.same T13
   refine⟨dA,u3,_,kvs,rfl,rfl,d3,kD_dp _ _,D3.dic,by omega,fun o1 dic1=>?_⟩
   have D4:=D3.put d1 dic1
   have S4:=am (o:=o1) S3 ndA
   have pl:=fD kvs (kD (true,t.2.1) t.1) (.ref u1)
   revert D4 S4
   generalize (upd (upd (upd (upd H2 u1 (.tup [V.str "back",.ref b])) u2 (.tup [V.str "front",.ref a])) u3 (.tup [V.ref u2,.ref q])) dA o1)=H4
   intro D4 S4
   refine⟨_,rfl,szr rfl,fun w1 m1=>?_⟩
   have R1:=a7 (o:=HO.tup [V.str "front",.ref a]) m1
   refine⟨_,rfl,_,rfl,szr rfl,fun w2 m2=>?_⟩
   have R2:=a7 (o:=HO.tup [V.str "back",.ref b]) m2
   refine⟨_,rfl,szr rfl,fun w3 m3=>?_⟩
   have R3:=a7 (o:=HO.tup [V.ref w2,.ref q]) m3
   have R13:=(R1.trans R2).trans R3
   have S5:=S4.trans R13
   have e1:DtIs (upd (upd (upd H4 w1 (.tup [V.str "front",.ref a])) w2 (.tup [V.str "back",.ref b])) w3 (.tup [V.ref w2,.ref q])) (.ref w1) (sD (true,t.2.1)):=.tup (R3 _ _ (R2 _ _ a6)) (.cons (.str _) (.cons (da.same S5) .nil))
   have e3:DtIs (upd (upd (upd H4 w1 (.tup [V.str "front",.ref a])) w2 (.tup [V.str "back",.ref b])) w3 (.tup [V.ref w2,.ref q])) (.ref w3) (kD (false,t.2.2) t.1):=.tup a6 (.cons (.tup (R3 _ _ a6) (.cons (.str _) (.cons (db.same S5) .nil))) (.cons (ao (S5 _ _ tq)) .nil))
   have D5:=D4.same R13
   refine⟨dA,w3,_,_,rfl,rfl,e3,kD_dp _ _,D5.dic,by omega,fun o2 dic2=>?_⟩
   have D6:=D5.put e1 dic2
   refine⟨⟨_,_,_,rfl⟩,am S5 ndA,_,by rw[tk,tf_snoc];exact D6,?_⟩
   exact zb1 (fD _ _ _) (by omega)
  ·rintro σ H2 ⟨⟨v2,v3,v4,rfl⟩,S2,kvs,D2,kl⟩
   rw[zas (by omega)]at D2
   exact⟨_,rfl,z dA kvs H2 S2 ndA D2⟩
def spOthE:Sp:=fun vs H Q _=>∃ (r x y q:Addr) (a:Ln) (h:Ho),vs=[.ref r,.ref q]∧H r=some (.tup [.ref x,.ref y])∧two H x a.1∧two H y a.2∧two H q h∧∀ z,two H z (oth a h)→Q (.ref z) H
theorem scOthE:aS ["line","hole"] ["line","hole"] (ab sOthE):=⟨rfl,rfl,rfl,by decide +kernel,rfl,by decide +kernel,by decide +kernel⟩
theorem ok_othE{f:Addr}{fd:FuncData}(D:Df K mg "other_end" sOthE f fd):FnOk P w K mg base CX0 1 f fd ["line","hole"] spOthE:=by
 refine D.F.ok scOthE (fun vs H Q E h=>?_) (fun cdv A outer s H vs Q E hr h=>?_)
 ·obtain⟨r,x,y,q,a,h,rfl,_⟩:=h
  rfl
 ·obtain⟨r,x,y,q,a,h,rfl,er,tx,ty,tq,z⟩:=h
  refine⟨_,(ag (aD (iU (ar (op_eqD hr) (pv 1) (b6 aw (pv 0) a8 (fun _ _=>rfl)) (b9 _)) (b6 aw (pv 0) a8 (fun _ _=>rfl)) (b6 aw (pv 0) a8 (fun _ _=>rfl))))),?_⟩
  refine⟨_,rfl,_,rfl,r,_,_,_,rfl,rfl,SqT.of er,rfl,hD h,hD a.1,ao tq,ao tx,by rw[iC];decide,⟨_,rfl⟩,⟨_,rfl⟩,_,rfl,?_⟩
  by_cases e:h=a.1
  ·refine gZ (by rw[e];exact Dt.beq_self _) ⟨_,rfl,r,_,_,_,rfl,rfl,SqT.of er,rfl,z y ?_⟩
   unfold oth
   rw[if_pos e]
   exact ty
  ·refine hV (Dt.beq_false.mpr fun z'=>e (bZ z')) ⟨_,rfl,r,_,_,_,rfl,rfl,SqT.of er,rfl,z x ?_⟩
   unfold oth
   rw[if_neg e]
   exact tx
end
def UsIs(kvs:List (Dt×V))(U:List Sti):Prop:=kvs.map (·.1)=U.map sD
theorem UsIs.len{kvs:List (Dt×V)}{U:List Sti}(k:UsIs kvs U):kvs.length=U.length:=by
 have:=congrArg List.length k
 rw[za0,za0]at this
 exact this
theorem UsIs.mem{kvs:List (Dt×V)}{U:List Sti}(k:UsIs kvs U)(s:Sti):sD s∈kvs.map (·.1)↔s∈U:=by
 rw[k]
 constructor
 ·intro hh
  obtain⟨g,hg,e⟩:=za6.mp hh
  exact sD_inj e▸hg
 ·exact fun hh=>za6.mpr ⟨s,hh,rfl⟩
theorem UsIs.put{kvs:List (Dt×V)}{U:List Sti}(k:UsIs kvs U){s:Sti}(n:s∉U)(v:V):UsIs (putK kvs (sD s) v) (U++[s]):=by
 unfold UsIs putK
 cases hv:valV kvs (sD s) with
 | some u=>exact absurd ((k.mem s).mp (dW hv)) n
 | none =>
  rw[if_neg (by rw[cD,hv];exact zaj),zar,zar,k]
  rfl
def askL(fs bs:List Ln):List Sti:=fs.map (fun a=>(true,a))++bs.map (fun a=>(false,a))
theorem c5{fs bs:List Ln}{s:Sti}:s∈askL fs bs↔InW fs bs s:=by
 unfold askL InW
 rw[za9]
 constructor
 ·rintro(h | h)
  ·obtain⟨a,ha,rfl⟩:=za6.mp h
   exact .inl ⟨rfl,ha⟩
  ·obtain⟨a,ha,rfl⟩:=za6.mp h
   exact .inr ⟨rfl,ha⟩
 ·obtain⟨b,a⟩:=s
  rintro(⟨h1,h2⟩ | ⟨h1,h2⟩)
  ·have h1:b=true:=h1
   subst h1
   exact .inl (za6.mpr ⟨a,h2,rfl⟩)
  ·have h1:b=false:=h1
   subst h1
   exact .inr (za6.mpr ⟨a,h2,rfl⟩)
theorem jd(fs bs:List Ln):(askL fs bs).length=fs.length+bs.length:=by unfold askL;rw[za1,za0,za0]
theorem us_len{fs bs:List Ln}{U:List Sti}(nd:U.Nodup)(iw:∀ u∈U,InW fs bs u):U.length≤fs.length+bs.length:=by
 rw[← jd]
 exact List.Nodup.length_le_of_subset nd fun u hu=>c5.mpr (iw u hu)
theorem st_at{H:Hp}{r:Addr}{s:Sti}(h:DtIs H (.ref r) (sD s)):∃ la x y,H r=some (.tup [.str (fS s.1),.ref la])∧H la=some (.tup [.ref x,.ref y])∧two H x s.2.1∧two H y s.2.2:=by
 unfold sD at h
 cases h with
 | tup e h1 =>
  cases h1 with
  | cons q1 t1 =>
   cases q1
   cases t1 with
   | cons q2 t2 =>
    cases t2
    obtain⟨la,x,y,rfl,el,tx,ty⟩:=ln_two q2
    exact⟨la,x,y,e,el,tx,ty⟩
theorem same_upd2{H H':Hp}{d:Addr}{o o2:HO}(s:Same (upd H d o) H'):Same (upd H d o2) (upd H' d o2):=fun b v hb=>by
 by_cases e:b=d
 ·subst e
  rw[a6]at hb ⊢
  exact hb
 ·rw[af e]at hb ⊢
  exact s b v (by rw[af e];exact hb)
theorem dicd_updX{P:Program}{w:World}{H:Hp}{a b:Addr}{kvs:List (Dt×V)}{f:Dt→Option Dt}{φ:Heap→Prop}{o:HO}(d:DicD P w H b kvs f)(ha:H a=some (.ext φ))(ne:b≠a):DicD P w (upd H a o) b kvs f :=
 ⟨jA d.dic ha ne,d.no,fun k e z=>let ⟨r,v,t⟩:=d.yes k e z;⟨r,v,t.updX ha⟩⟩
def Fin(T:List Tie)(s0:Sti)(h0:Ho)(ps:List Sti)(hs:List Ho)(h:Ho):Prop:=∃ ps' p,ps=ps'++[p]∧Wlk T s0 h0 (ps'++[p]) (hs++[h])∧((∀ t,¬ Pt T p h t)∨(h=h0∧Pt T p h s0))
def Nxt(T:List Tie)(fs bs:List Ln)(U:List Sti)(s0:Sti)(h0:Ho)(ps:List Sti)(hs:List Ho)(h:Ho)(t:Sti):Prop :=
 InW fs bs t∧cj t.2 h∧(t∉U++ps→Wlk T s0 h0 (ps++[t]) (hs++[h]++[oth t.2 h]))∧(t∈U++ps→Fin T s0 h0 ps hs h)
theorem nxt_of{fs bs:List Ln}{T:List Tie}{U:List Sti}{s0 t t2:Sti}{h0:Ho}{ps:List Sti}{hs:List Ho}{h1:Ho}(ok:d7 fs bs T)(ne:∀ s,InW fs bs s→s.2.1≠s.2.2)(cl:Clo T U)(W:Wlk T s0 h0 (ps++[t]) (hs++[h1]))(it:InW fs bs t)(tu:t∉U)(q:Pt T t h1 t2) :
  Nxt T fs bs U s0 h0 (ps++[t]) hs h1 t2:=by
 refine⟨ok.inW q,(ok.ends q).2,fun n=>?_,fun m=>?_⟩
 ·exact W.step q (ok.ends q).2 fun z=>n (za5 _ z)
 ·have m2:t2∈ps++[t]:=by
   rcases za9.mp m with m | m
   ·exact absurd (cl t2 m h1 t q.symm) tu
   ·exact m
  obtain⟨e1,e2⟩:=W.close ok ne it q m2
  exact⟨ps,t,rfl,W,.inr ⟨e2,e1▸q⟩⟩
section
variable{P:Program}{w:World}{K:PySem.W.Frag}{mg:Str→Option Value}{base:Heap}
structure FrOk(P:Program)(w:World)(H:Hp)(dT dU:Addr)(kT kU:List (Dt×V))(fs bs:List Ln)(T:List Tie)(U:List Sti):Prop where
 ok:d7 fs bs T
 ne:∀ s,InW fs bs s→s.2.1≠s.2.2
 len:fs.length+bs.length≤200
 td:DicD P w H dT kT (tf T)
 ud:DicV P w H dU kU
 us:UsIs kU U
 nd:U.Nodup
 iw:∀ u∈U,InW fs bs u
 cl:Clo T U
 dd:dT≠dU
def spFrom(P:Program)(w:World):Sp:=fun vs H Q _=>∃ (dT sr q dU:Addr) (kT kU:List (Dt×V)) (fs bs:List Ln) (T:List Tie) (U:List Sti) (s0:Sti) (h0:Ho),vs=[.ref dT,.ref sr,.ref q,.ref dU]∧FrOk P w H dT dU kT kU fs bs T U ∧
 DtIs H (.ref sr) (sD s0)∧two H q h0∧InW fs bs s0∧s0∉U∧cj s0.2 h0 ∧
 ∀ th hh ps hs h kU' o H',Same (upd H dU o) H'→H th=none→DicV P w H' dU kU'→UsIs kU' (U++ps)→(U++ps).Nodup→(∀ u∈U++ps,InW fs bs u)→H' th=some (.tup [.str (fS s0.1),.ref hh])→ThT H' hh (hs++[h])→Fin T s0 h0 ps hs h→Q (.ref th) H'
theorem scFrom:aS ["tied","stitch","hole","used","face","holes"] ["tied","stitch","hole","used"] (ab sFrom):=⟨rfl,rfl,rfl,by decide +kernel,rfl,by decide +kernel,by decide +kernel⟩
theorem ok_from{f fO:Addr}{fd fdO:FuncData}(D:Df K mg "thread_from" sFrom f fd)(DO:Df K mg "other_end" sOthE fO fdO)(bO:bh K fdO ["line","hole"] [])(GO:FnOk P w K mg base CX0 1 fO fdO ["line","hole"] spOthE)(htuple:mg "tuple"=none) :
  FnOk P w K mg base CX0 2 f fd ["tied","stitch","hole","used"] (spFrom P w):=by
 refine D.F.ok scFrom (fun vs H Q E h=>?_) (fun cdv A outer s H vs Q E hr h=>?_)
 ·obtain⟨dT,sr,q,dU,kT,kU,fs,bs,T,U,s0,h0,rfl,_⟩:=h
  rfl
 ·obtain⟨dT,sr,q,dU,kT,kU,fs,bs,T,U,s0,h0,rfl,F,ds,tq,is0,ns0,es0,z⟩:=h
  refine⟨_,(aa (ai (i:=4) scFrom.nd rfl (Or.inl rfl) (b6 aw (pv 1) a8 (fun _ _=>rfl)))
   (aa (ai (i:=5) scFrom.nd rfl (Or.inl rfl) (eW (pac (pv 2) a9)))
   (aa (ps_while PassesOwn.never (PW.pt (pw_and (ar op_notN (pv 1) jt (b9 _)) (jS (ar (gW hr) (pv 1) (pv 3) rfl)))) (aa (eV hr (pv 3) (pv 1) g5 rfl)
   (aa (ai (i:=2) scFrom.nd rfl (Or.inl rfl) (pec GO hr rfl DO.m DO.F.kp bO .nil bf (pac (b6 aw (pv 1) a8 (fun _ _=>rfl)) (pac (pv 2) a9))))
   (aa (dq (iV PySem.F.plainAttrs_list PySem.F.slot_list_append PySem.F.type_list_append bD (pv 5) (pac (pv 2) a9)))
   (ag (ai (i:=1) scFrom.nd rfl (Or.inl rfl) (ju PySem.F.slot_dict_get PySem.F.type_dict_get (mt_get1 hr) (pv 0) (pac (ap (pac (pv 1) (pac (pv 2) a9))) a9))))))))
   (ag (aD (ap (pac (pv 4) (pac (g4 call_tuple_of (by rfl) htuple boot_tuple (pac (pv 5) a9)) a9)))))))),?_⟩
  obtain⟨la0,x0,y0,es,el0,tx0,ty0⟩:=st_at ds
  obtain⟨φ,extU⟩:=F.ud.ext
  refine⟨_,rfl,sr,_,_,_,rfl,rfl,SqT.of es,rfl,?_⟩
  refine⟨_,rfl,szr rfl,fun L nL=>?_⟩
  have T0:=a7 (o:=HO.lst [V.ref q]) nL
  have neLU:L≠dU:=fun e=>by rw[e,extU]at nL;cases nL
  have nLU:∀ {o:HO},(upd H dU o) L=none:=fun {o}=>by rw[af neLU];exact nL
  obtain⟨tfY,tfN⟩:=tf_ok T.length rfl F.ok
  have S0:Same (upd H dU (.ext φ)) (upd H L (.lst [V.ref q])):=fun b v hb=>by
   by_cases e:b=dU
   ·subst e
    rw[a6]at hb
    rw[af (Ne.symm neLU),extU]
    exact hb
   ·rw[af e]at hb
    exact T0 _ _ hb
  refine⟨fun m σ H5=>∃ (cur:V) (hq:Addr) (o:HO) (kU':List (Dt×V)) (ps:List Sti) (hs:List Ho) (h:Ho),σ=[some (.ref dT),some cur,some (.ref hq),some (.ref dU),some (.str (fS s0.1)),some (.ref L)]∧Same (upd H dU o) H5∧DicV P w H5 dU kU'∧UsIs kU' (U++ps)∧(U++ps).Nodup∧(∀ u∈U++ps,InW fs bs u)∧two H5 hq h∧DtL H5 L ((hs++[h]).map hD)∧hs.length=ps.length ∧
    ((∃ r t,cur=.ref r∧DtIs H5 (.ref r) (sD t)∧Nxt T fs bs U s0 h0 ps hs h t)∨(cur=.non∧Fin T s0 h0 ps hs h))∧m=1000-ps.length,
   ⟨1000,.ref sr,q,.ext φ,kU,[],[],h0,rfl,S0,F.ud.same T0,by rw[zau];exact F.us,by rw[zau];exact F.nd,by rw[zau];exact F.iw,T0 _ _ tq,⟨_,a6,.cons (ao (T0 _ _ tq)) .nil⟩,rfl,
    .inl ⟨sr,s0,rfl,ds.same T0,is0,es0,fun _=>Wlk.one es0,fun m=>absurd (by simpa using m) ns0⟩,rfl⟩,?_⟩
  rintro m σ H5 ⟨cur,hq,o,kU',ps,hs,h,rfl,S5,ud,us,nd,iw,th,⟨lv,eL,dL⟩,hl,alt,rfl⟩
  have ul:=us_len nd iw
  have flen:=F.len
  rw[za1]at ul
  have kl:=us.len
  rw[za1]at kl
  have lvl:lv.length=hs.length+1:=by rw[dL.length,za0,za1];rfl
  have finish:Fin T s0 h0 ps hs h→(tRet (tTup (gD (tVar 4) (gD (tCB (fun xs H Q=>∃ p ys,xs=[V.ref p]∧((SqL K H p ys∧∀ l,H l=none→Q (.ref l) (upd H l (.tup ys)))∨(SqT K H p ys∧Q (.ref p) H))) (gD (tVar 5) tNil)) tNil)))) { nx:=fun x H'=>Q V.non H',rt:=Q } [some (V.ref dT),some cur,some (.ref hq),some (.ref dU),some (.str (fS s0.1)),some (.ref L)] H5:=fun fin=>by
   refine⟨_,rfl,_,rfl,L,lv,rfl,.inl ⟨SqL.of eL,fun hh nh=>⟨szr rfl,fun th' nth=>?_⟩⟩⟩
   have U1:=a7 (o:=HO.tup lv) nh
   have U2:=a7 (o:=HO.tup [V.str (fS s0.1),.ref hh]) nth
   have U12:=U1.trans U2
   have nthH:H th'=none:=by
    have:=cf (S5.trans U1) nth
    by_cases e:th'=dU
    ·subst e
     rw[a6]at this
     cases this
    ·rw[af e]at this
     exact this
   exact z th' hh ps hs h kU' o _ (S5.trans U12) nthH (ud.same U12) us nd iw a6 ⟨lv,U2 _ _ a6,dL.same U12⟩ fin
  rcases alt with ⟨r,t,rfl,dt,it,et,nx,dn⟩ | ⟨rfl,fin⟩
  ·refine⟨_,rfl,rfl,_,rfl,?_⟩
   refine iteT ?_
   obtain⟨xsU,dicU,kdU⟩:=id ud
   refine⟨_,rfl,_,rfl,r,dU,sD t,xsU,rfl,rfl,dt,sD_dp t,dicU,_,rfl,?_⟩
   have key:decide (sD t∈xsU.map (·.1))=decide (t∈U++ps):=by
    rw[← kdU.keys]
    exact decide_eq_decide.mpr (us.mem t)
   rw[key]
   by_cases ht:t∈U++ps
   ·refine hV (by rw[decide_eq_true ht];rfl) ?_
    exact finish (dn ht)
   ·refine gZ (by rw[decide_eq_false ht];rfl) ?_
    have W1:=nx ht
    refine⟨fun σ H6=>∃ m',m'<1000-ps.length∧∃ (cur:V) (hq:Addr) (o:HO) (kU':List (Dt×V)) (ps:List Sti) (hs:List Ho) (h:Ho),σ=[some (.ref dT),some cur,some (.ref hq),some (.ref dU),some (.str (fS s0.1)),some (.ref L)]∧Same (upd H dU o) H6∧DicV P w H6 dU kU'∧UsIs kU' (U++ps)∧(U++ps).Nodup∧(∀ u∈U++ps,InW fs bs u)∧two H6 hq h∧DtL H6 L ((hs++[h]).map hD)∧hs.length=ps.length ∧
     ((∃ r t,cur=.ref r∧DtIs H6 (.ref r) (sD t)∧Nxt T fs bs U s0 h0 ps hs h t)∨(cur=.non∧Fin T s0 h0 ps hs h))∧m'=1000-ps.length,fun _ _ n=>n,?_⟩
    refine⟨_,rfl,_,rfl,dU,r,sD t,kU',rfl,rfl,dt,sD_dp t,ud,by omega,fun o2 dic2=>?_⟩
    obtain⟨ψ,ext5⟩:=ud.ext
    have S6:Same (upd H dU o2) (upd H5 dU o2):=same_upd2 S5
    have nd':(U++(ps++[t])).Nodup:=by
     rw[← zai,zbu]
     refine⟨nd,by simp,fun a ha b hb e=>?_⟩
     rw[za7]at hb
     exact ht (hb▸e▸ha)
    have iw':∀ u∈U++(ps++[t]),InW fs bs u:=fun u hu=>by
     rw[← zai]at hu
     rcases za9.mp hu with hu | hu
     ·exact iw u hu
     ·rw[za7.mp hu];exact it
    have us':=us.put ht (.bl true)
    rw[zai]at us'
    have neX:∀ {b:Addr} {v:HO},H5 b=some v→(∀ ψ',v≠.ext ψ')→(upd H5 dU o2) b=some v:=fun {b v} hb hv=>by
     rw[af (fun e=>by rw[e,ext5]at hb;exact hv ψ (Option.some.inj hb).symm)]
     exact hb
    have dt6:=dt.updX (o:=o2) ext5
    have th6:two (upd H5 dU o2) hq h:=neX th (fun _ zz=>nomatch zz)
    have eL6:=neX eL (fun _ zz=>nomatch zz)
    have dL6:=dL.updX (o:=o2) ext5
    have td6:DicD P w (upd H5 dU o2) dT kT (tf T):=(dicd_updX (o:=o2) F.td extU F.dd).same S6
    revert S6 dt6 th6 eL6 dL6 dic2 td6
    generalize (upd H5 dU o2)=H6
    intro dic2 S6 dt6 th6 eL6 dL6 td6
    obtain⟨la,x,y,er,el,tx,ty⟩:=st_at dt6
    refine⟨_,rfl,r,_,_,_,rfl,rfl,SqT.of er,rfl,_,rfl,la,x,y,hq,t.2,h,rfl,el,tx,ty,th6,fun hq1 th1=>?_⟩
    refine⟨_,rfl,.inl ⟨rfl,_,SqL.of eL6⟩,_,rfl,L,lv,_,rfl,rfl,eL6,be (by omega),?_⟩
    have neL:∀ {b:Addr} {v:HO},H6 b=some v→(∀ ys,v≠.lst ys)→(upd H6 L (.lst (lv++[V.ref hq1]))) b=some v:=fun {b v} hb hv=>by
     rw[af (fun e=>by rw[e,eL6]at hb;exact hv lv (Option.some.inj hb).symm)]
     exact hb
    have S7:Same (upd H dU o2) (upd H6 L (.lst (lv++[V.ref hq1]))):=am S6 nLU
    have dt7:=dt6.updL (o:=.lst (lv++[V.ref hq1])) eL6
    have th7:two (upd H6 L (.lst (lv++[V.ref hq1]))) hq1 (oth t.2 h):=neL th1 (fun _ zz=>nomatch zz)
    have dL7:DtL (upd H6 L (.lst (lv++[V.ref hq1]))) L ((hs++[h]++[oth t.2 h]).map hD):=⟨_,a6,by rw[zar];exact(dL6.updL eL6).snoc ((ao th1).updL eL6)⟩
    have ud7:=dic2.updL (o:=.lst (lv++[V.ref hq1])) eL6
    have td7:DicD P w (upd H6 L (.lst (lv++[V.ref hq1]))) dT kT (tf T):=(dicd_updX (o:=o2) F.td extU F.dd).same S7
    revert S7 dt7 th7 dL7 ud7 td7
    generalize (upd H6 L (.lst (lv++[V.ref hq1])))=H7
    intro S7 dt7 th7 dL7 ud7 td7
    refine⟨_,rfl,⟨dT,kT,rfl,td7.dic⟩,_,rfl,_,rfl,szr rfl,fun u nu=>?_⟩
    have Tu:=a7 (o:=HO.tup [V.ref r,.ref hq1]) nu
    have dk:DtIs (upd H7 u (.tup [V.ref r,.ref hq1])) (.ref u) (kD t (oth t.2 h)):=.tup a6 (.cons (dt7.same Tu) (.cons (ao (Tu _ _ th7)) .nil))
    have td8:=td7.same Tu
    refine⟨dT,u,_,kT,rfl,rfl,dk,kD_dp _ _,td8.dic,?_⟩
    have tnu:t∉U:=fun z'=>ht (zae _ z')
    refine⟨1000-(ps++[t]).length,by rw[za1,zam];omega,_,hq1,o2,_,ps++[t],hs++[h],oth t.2 h,rfl,S7.trans Tu,ud7.same Tu,us',nd',iw',Tu _ _ th7,dL7.same Tu,by simp[hl],?_,rfl⟩
    by_cases hp:∃ t2,Pt T t (oth t.2 h) t2
    ·obtain⟨t2,q2⟩:=hp
     obtain⟨r2,v2,d2⟩:=td8.yes _ _ (tfY _ _ _ q2)
     exact .inl ⟨r2,t2,by rw[v2];rfl,d2,nxt_of F.ok F.ne F.cl W1 it tnu q2⟩
    ·have hn:∀ t2,¬ Pt T t (oth t.2 h) t2:=fun t2 q2=>hp ⟨t2,q2⟩
     exact .inr ⟨by rw[td8.no _ (tfN _ _ hn)];rfl,ps,t,rfl,W1,.inl hn⟩
  ·refine⟨_,rfl,rfl,_,rfl,?_⟩
   refine iteF (iteF ?_)
   exact finish fin
end
structure Row where
 f:Bool
 ps:List Sti
 hs:List Ho
 c:Bool
def gb(T:List Tie)(r:Row):Prop:=∃ s0 h0 hs' h ps' p,r.f=s0.1∧r.hs=hs'++[h]∧r.ps=ps'++[p]∧Wlk T s0 h0 (ps'++[p]) (hs'++[h])∧(if r.c=true then h=h0∧Pt T p h s0 else (∀ t,¬ Pt T p h t)∧∀ t,¬ Pt T s0 h0 t)
def fg(H:Hp)(v:V)(r:Row):Prop:=∃ u th hh,v=.ref u∧H u=some (.tup [.ref th,.bl r.c])∧H th=some (.tup [.str (fS r.f),.ref hh])∧ThT H hh r.hs
theorem fg.same{H H':Hp}{v:V}{r:Row}(h:fg H v r)(s:Same H H'):fg H' v r:=by
 obtain⟨u,th,hh,e,e1,e2,t⟩:=h
 exact⟨u,th,hh,e,s _ _ e1,s _ _ e2,t.same s⟩
theorem fg.updX{H:Hp}{v:V}{r:Row}{d:Addr}{φ:Heap→Prop}{o:HO}(h:fg H v r)(hd:H d=some (.ext φ)):fg (upd H d o) v r:=by
 obtain⟨u,th,hh,e,e1,e2,vs,e3,t⟩:=h
 have ne:∀ {b:Addr} {xs:List V},H b=some (.tup xs)→b≠d:=fun {b xs} hb z=>by rw[z,hd]at hb;cases hb
 exact⟨u,th,hh,e,by rw[af (ne e1)];exact e1,by rw[af (ne e2)];exact e2,vs,by rw[af (ne e3)];exact e3,t.updX hd⟩
theorem fg.updL{H:Hp}{v:V}{r:Row}{L:Addr}{ys:List V}{o:HO}(h:fg H v r)(hd:H L=some (.lst ys)):fg (upd H L o) v r:=by
 obtain⟨u,th,hh,e,e1,e2,vs,e3,t⟩:=h
 have ne:∀ {b:Addr} {xs:List V},H b=some (.tup xs)→b≠L:=fun {b xs} hb z=>by rw[z,hd]at hb;cases hb
 exact⟨u,th,hh,e,by rw[af (ne e1)];exact e1,by rw[af (ne e2)];exact e2,vs,by rw[af (ne e3)];exact e3,t.updL hd⟩
def fq(H:Hp)(vs:List V)(rows:List Row):Prop:=vs.length=rows.length∧∀ (i:Nat) v r,vs[i]?=some v→rows[i]?=some r→fg H v r
theorem fq.imp{H H':Hp}{vs:List V}{rows:List Row}(h:fq H vs rows)(k:∀ v r,fg H v r→fg H' v r):fq H' vs rows:=⟨h.1,fun i v r e1 e2=>k v r (h.2 i v r e1 e2)⟩
theorem fq.snoc{H:Hp}{vs:List V}{rows:List Row}{v:V}{r:Row}(h:fq H vs rows)(k:fg H v r):fq H (vs++[v]) (rows++[r]):=by
 refine⟨by simp[h.1],fun i u q e1 e2=>?_⟩
 by_cases hi:i<vs.length
 ·rw[zal hi]at e1
  rw[zal (by rw[← h.1];exact hi)]at e2
  exact h.2 i u q e1 e2
 ·have hi':i=vs.length:=by
   have:=(za3.mp e1).1
   rw[za1,zam]at this
   omega
  subst hi'
  rw[zat (za4 _),Nat.sub_self]at e1
  rw[h.1,zat (za4 _),Nat.sub_self]at e2
  cases e1
  cases e2
  exact k
def aj(rows:List Row):List Sti:=(rows.map (·.ps)).flatten
theorem bq(rows:List Row)(r:Row):aj (rows++[r])=aj rows++r.ps:=by simp[aj]
theorem askL_nd{fs bs:List Ln}(nf:fs.Nodup)(nb:bs.Nodup):(askL fs bs).Nodup:=by
 unfold askL
 rw[zbu]
 refine⟨zbl.mpr (nf.imp fun n e=>n (Prod.mk.inj e).2),zbl.mpr (nb.imp fun n e=>n (Prod.mk.inj e).2),fun a ha b hb e=>?_⟩
 obtain⟨x,_,rfl⟩:=za6.mp ha
 obtain⟨y,_,rfl⟩:=za6.mp hb
 exact absurd (Prod.mk.inj e).1 (by decide)
theorem dicd_inK{P:Program}{w:World}{H:Hp}{d:Addr}{kvs:List (Dt×V)}{fs bs:List Ln}{T:List Tie}(D:DicD P w H d kvs (tf T))(ok:d7 fs bs T)(s:Sti)(h:Ho):kD s h∈kvs.map (·.1)↔∃ t,Pt T s h t:=by
 obtain⟨y,n⟩:=tf_ok T.length rfl ok
 constructor
 ·intro m
  refine Classical.byContradiction fun hn=>?_
  exact iH (D.no _ (n s h fun t q=>hn ⟨t,q⟩)) m
 ·rintro⟨t,q⟩
  obtain⟨r,v,_⟩:=D.yes _ _ (y s h t q)
  exact dW v
structure ByI(P:Program)(w:World)(H3 H:Hp)(dU L:Addr)(fs bs:List Ln)(T:List Tie)(rows:List Row)(kU:List (Dt×V))(vs:List V):Prop where
 s:Same H3 H
 ud:DicV P w H dU kU
 us:UsIs kU (aj rows)
 nd:(aj rows).Nodup
 iw:∀ u∈aj rows,InW fs bs u
 cl:Clo T (aj rows)
 gd:∀ r∈rows,gb T r
 el:H L=some (.lst vs)
 ri:fq H vs rows
 ll:rows.length≤(aj rows).length
theorem ByI.more{P:Program}{w:World}{H3 H H':Hp}{dU L:Addr}{fs bs:List Ln}{T:List Tie}{rows:List Row}{kU:List (Dt×V)}{vs:List V}(B:ByI P w H3 H dU L fs bs T rows kU vs)(s:Same H H'):ByI P w H3 H' dU L fs bs T rows kU vs :=
 ⟨B.s.trans s,B.ud.same s,B.us,B.nd,B.iw,B.cl,B.gd,s _ _ B.el,B.ri.imp fun _ _ k=>k.same s,B.ll⟩
theorem ByI.add{P:Program}{w:World}{H3 H H':Hp}{dU L th hh u:Addr}{fs bs:List Ln}{T:List Tie}{rows:List Row}{kU kU':List (Dt×V)}{vs:List V}{ps:List Sti}{hs:List Ho}{h h0:Ho}{s0:Sti}{o:HO}{c:Bool}
  (B:ByI P w H3 H dU L fs bs T rows kU vs) (ok:d7 fs bs T) (nU:H3 dU=none) (nL:H3 L=none) (S:Same (upd H dU o) H') (ud:DicV P w H' dU kU') (us:UsIs kU' (aj rows++ps)) (nd:(aj rows++ps).Nodup) (iw:∀ u∈aj rows++ps,InW fs bs u)
  (eth:H' th=some (.tup [.str (fS s0.1),.ref hh])) (hth:ThT H' hh (hs++[h])) (fin:∃ ps' p,ps=ps'++[p]∧Wlk T s0 h0 (ps'++[p]) (hs++[h])∧(if c=true then h=h0∧Pt T p h s0 else (∀ t,¬ Pt T p h t)∧∀ t,¬ Pt T s0 h0 t)) (nu:H' u=none) :
  (upd H' u (.tup [V.ref th,.bl c])) L=some (.lst vs)∧ByI P w H3 (upd (upd H' u (.tup [V.ref th,.bl c])) L (.lst (vs++[.ref u]))) dU L fs bs T (rows++[⟨s0.1,ps,hs++[h],c⟩]) kU' (vs++[.ref u]):=by
 obtain⟨φ,ext⟩:=B.ud.ext
 have neLU:L≠dU:=fun e=>by have:=B.el;rw[e,ext]at this;cases this
 have Tu:=a7 (o:=HO.tup [V.ref th,.bl c]) nu
 have eL1:H' L=some (.lst vs):=S _ _ (by rw[af neLU];exact B.el)
 have eL:=Tu _ _ eL1
 have S3:Same H3 H':=fun b v hb=>S _ _ (by
  rw[af (fun e=>by rw[e,nU]at hb;cases hb)]
  exact B.s _ _ hb)
 obtain⟨ps',p,rfl,W,f⟩:=fin
 have ri:fq H' vs rows:=B.ri.imp fun _ _ k=>(k.updX ext).same S
 have new:fg (upd H' u (.tup [V.ref th,.bl c])) (.ref u) ⟨s0.1,ps'++[p],hs++[h],c⟩:=⟨u,th,hh,rfl,a6,Tu _ _ eth,hth.same Tu⟩
 refine⟨eL,am (S3.trans Tu) nL,(ud.same Tu).updL eL,?_,?_,?_,?_,fun r hr=>?_,a6,((ri.imp fun _ _ k=>(k.same Tu).updL eL).snoc (new.updL eL)),?_⟩
 ·rw[bq];exact us
 ·rw[bq];exact nd
 ·rw[bq];exact iw
 ·rw[bq]
  refine W.clo ok B.cl ?_
  cases c
  ·exact .inl f
  ·exact .inr f
 ·rcases za9.mp hr with hr | hr
  ·exact B.gd r hr
  ·rw[za7.mp hr]
   exact⟨s0,h0,hs,h,ps',p,rfl,rfl,rfl,W,f⟩
 ·rw[bq,za1,za1,za1,zam,zam]
  have:=B.ll
  omega
section
variable{P:Program}{w:World}{K:PySem.W.Frag}{mg:Str→Option Value}{base:Heap}
def spBy:Sp:=fun vs H Q _=>∃ (t F B l:Addr) (fs bs:List Ln) (T:List Tie),vs=[.ref t,.ref l]∧H t=some (.tup [.ref F,.ref B])∧DtL H F (fs.map lnD)∧DtL H B (bs.map lnD)∧DtL H l (T.map tD)∧d7 fs bs T∧(∀ a∈fs,a.1≠a.2)∧(∀ a∈bs,a.1≠a.2)∧fs.Nodup∧bs.Nodup∧fs.length≤100∧bs.length≤100∧T.length≤300 ∧
 ∀ L vs rows H',Same H H'→H L=none→H' L=some (.lst vs)→fq H' vs rows→(∀ r∈rows,gb T r)→(aj rows).Perm (askL fs bs)→Q (.ref L) H'
theorem scBy:aS ["work","ties","tied","asked","used","told","stitch","hole"] ["work","ties"] (ab sBy):=⟨rfl,rfl,rfl,by decide +kernel,rfl,by decide +kernel,by decide +kernel⟩
theorem comp_face{F L:Addr}{fv:List V}{ls:List Ln}{b:Bool}{H:Hp}{σ:L2.St}{Q:VK}(eF:H F=some (.lst fv))(dF:ac H fv (ls.map lnD))(ll:ls.length≤130)(nL:H L=none)
  (hσ:pick [none] σ=[none]) (z:∀ H',Same H H'→DtL H' L ((ls.map fun a=>(b,a)).map sD)→Q (.ref L) H') :
  CompW (Itl K F) [none] (gJ 0) tYes (tTup (gD (tC (.str (fS b))) (gD (tVar 0) tNil))) σ H L Q:=by
 have fvl:fv.length=ls.length:=by rw[dF.length,za0]
 refine comp_n (J:=Itl K F) (n:=fv.length) (fun i σ2 H2=>(∃ v0,σ2=[v0])∧Same H H2∧DtL H2 L (((ls.take i).map fun a=>(b,a)).map sD)) ?_ ?_ ?_ ?_
 ·exact⟨⟨_,hσ⟩,a7 nL,[],a6,.nil⟩
 ·rintro i σ2 H2 hi ⟨⟨v0,rfl⟩,S2,_⟩
  exact⟨fv,_,SqL.of (S2 _ _ eF),za2 hi⟩
 ·rintro σ2 H2 ⟨⟨v0,rfl⟩,S2,hL⟩
  rw[zas (by omega)]at hL
  exact⟨⟨fv,SqL.of (S2 _ _ eF),za4 _⟩,z H2 S2 hL⟩
 ·rintro i σ2 H2 hi ⟨⟨v0,rfl⟩,S2,ys,eL,dL⟩ x H3 ⟨rfl,hx⟩
  have hx:=hx fv (SqL.of (S2 _ _ eF))
  obtain⟨r,x1,y1,a,rfl,ha,er,tx,ty⟩:=ln_at (dF.same S2) hx
  have tk:ls.take (i+1)=ls.take i++[a]:=by rw[zb0,ha];rfl
  have yl:ys.length≤130:=by
   rw[dL.length,za0,za0,zan]
   omega
  refine⟨_,rfl,szr rfl,fun u nu=>?_⟩
  have Tu:=a7 (o:=HO.tup [V.str (fS b),.ref r]) nu
  have eL2:=Tu _ _ eL
  refine⟨ys,eL2,be (by omega),⟨_,rfl⟩,am (S2.trans Tu) nL,_,a6,?_⟩
  rw[tk,zar,zar]
  refine((dL.same Tu).updL eL2).snoc (DtIs.updL eL2 ?_)
  exact .tup a6 (.cons (.str _) (.cons ((ln_dt er tx ty).same Tu) .nil))
theorem ok_by{f fT fF:Addr}{fd fdT fdF:FuncData}(D:Df K mg "threads_by" sBy f fd)(DT:Df K mg "tied_by_end" sTied fT fdT)(bT:bh K fdT ["ties"] [])(GT:FnOk P w K mg base CX0 1 fT fdT ["ties"] (spTied P w))
  (DF:Df K mg "thread_from" sFrom fF fdF) (bF:bh K fdF ["tied","stitch","hole","used"] []) (GF:FnOk P w K mg base CX0 2 fF fdF ["tied","stitch","hole","used"] (spFrom P w)):FnOk P w K mg base CX0 3 f fd ["work","ties"] spBy:=by
 refine D.F.ok scBy (fun vs H Q E h=>?_) (fun cdv A outer s H vs Q E hr h=>?_)
 ·obtain⟨t,F,B,l,fs,bs,T,rfl,_⟩:=h
  rfl
 ·obtain⟨t,F,B,l,fs,bs,T,rfl,et,⟨fv,eF,dF⟩,⟨bv,eB,dB⟩,hl,ok,hnf,hnb,ndf,ndb,lf,lb,lt,z⟩:=h
  have hr1:Room 1 _:=hr.mono (by decide)
  refine⟨_,(aa (ai (i:=2) scBy.nd rfl (Or.inl rfl) (pec GT hr1 rfl DT.m DT.F.kp bT .nil bf (pac (pv 1) a9)))
   (aa (ai (i:=3) scBy.nd rfl (Or.inl rfl) (ah op_cat
     (pe_comp (te:=tTup (gD (tC (.str (fS true))) (gD (tVar 0) tNil))) (N':=["line"]) (idx:=[none]) (eQ (by kernel_rfl)) (by kernel_rfl) rfl (c6 (b6 aw (pv 0) a8 (fun _ _=>rfl))) (fun _ _ _ _ _=>al (i:=0) (show(["line"]:List Str).Nodup by decide +kernel) rfl (Or.inl rfl)) (fun _ _ _ _ _=>pts_nil) (fun _ _ _ _ _=>ap (pac (c7) (pac (pv 0) a9))))
     (pe_comp (te:=tTup (gD (tC (.str (fS false))) (gD (tVar 0) tNil))) (N':=["line"]) (idx:=[none]) (eQ (by kernel_rfl)) (by kernel_rfl) rfl (c6 (b6 aw (pv 0) a8 (fun _ _=>rfl))) (fun _ _ _ _ _=>al (i:=0) (show(["line"]:List Str).Nodup by decide +kernel) rfl (Or.inl rfl)) (fun _ _ _ _ _=>pts_nil) (fun _ _ _ _ _=>ap (pac (c7) (pac (pv 0) a9))))))
   (aa (ai (i:=4) scBy.nd rfl (Or.inl rfl) eX)
   (aa (ai (i:=5) scBy.nd rfl (Or.inl rfl) (eW a9))
   (aa (cp PassesOwn.never rfl (c6 (pv 3)) (al (i:=6) scBy.nd rfl (Or.inl rfl)) (ag (cp PassesOwn.never rfl (pi_tup (b6 aw (pv 6) a8 (fun _ _=>rfl))) (al (i:=7) scBy.nd rfl (Or.inl rfl)) (ag (dE (PW.pt (pw_and (ar (gW hr1) (pv 6) (pv 4) rfl) (jS (ar (gW hr1) (ap (pac (pv 6) (pac (pv 7) a9))) (pv 2) rfl)))) (ag (dq (iV PySem.F.plainAttrs_list PySem.F.slot_list_append PySem.F.type_list_append bD (pv 5) (pac (ap (pac (pec GF hr rfl DF.m DF.F.kp bF .nil bf (pac (pv 2) (pac (pv 6) (pac (pv 7) (pac (pv 4) a9))))) (pac (g5) a9))) a9)))) bm)))))
   (aa (cp PassesOwn.never rfl (c6 (pv 3)) (al (i:=6) scBy.nd rfl (Or.inl rfl)) (ag (dE (ar (gW hr1) (pv 6) (pv 4) rfl) (ag (dq (iV PySem.F.plainAttrs_list PySem.F.slot_list_append PySem.F.type_list_append bD (pv 5) (pac (ap (pac (pec GF hr rfl DF.m DF.F.kp bF .nil bf (pac (pv 2) (pac (pv 6) (pac (b6 aw (b6 aw (pv 6) a8 (fun _ _=>rfl)) a8 (fun _ _=>rfl)) (pac (pv 4) a9))))) (pac (g5) a9))) a9)))) bm)))
   (ag (aD (pv 5))))))))),?_⟩
  refine⟨_,rfl,l,T,rfl,hl,lt,fun dT kT H1 S1 nT td=>?_⟩
  refine⟨_,rfl,t,_,_,_,rfl,rfl,SqT.of (S1 _ _ et),rfl,F,rfl,⟨_,SqL.of (S1 _ _ eF)⟩,fun A1 n1=>?_⟩
  refine comp_face (b:=true) (S1 _ _ eF) (dF.same S1) (by omega) n1 rfl fun H2 S2 hA=>?_
  have S12:=S1.trans S2
  refine⟨_,rfl,t,_,_,_,rfl,rfl,SqT.of (S12 _ _ et),rfl,B,rfl,⟨_,SqL.of (S12 _ _ eB)⟩,fun B1 n2=>?_⟩
  refine comp_face (b:=false) (S12 _ _ eB) (dB.same S12) (by omega) n2 rfl fun H2' S2' hB=>?_
  obtain⟨av,eA,dA⟩:=hA.same S2'
  obtain⟨cv,eC,dC⟩:=hB
  have avl:av.length=fs.length:=by rw[dA.length,za0,za0]
  have cvl:cv.length=bs.length:=by rw[dC.length,za0,za0]
  refine⟨A1,B1,av,cv,rfl,rfl,eA,eC,sz (by omega),fun Ak nAk=>?_⟩
  have T3:=a7 (o:=HO.lst (av++cv)) nAk
  have dAk:ac H2' (av++cv) ((askL fs bs).map sD):=by unfold askL;rw[zar];exact dapp dA dC
  have akl:(av++cv).length=(askL fs bs).length:=by rw[dAk.length,za0]
  have S13:=(S12.trans S2').trans T3
  have td3:=((td.same S2).same S2').same T3
  have eAk:(upd H2' Ak (.lst (av++cv))) Ak=some (.lst (av++cv)):=a6
  have dAk3:=dAk.same T3
  revert S13 td3 eAk dAk3 akl
  generalize (upd H2' Ak (.lst (av++cv)))=H3
  generalize av++cv=ak
  intro akl S13 td3 eAk dAk3
  have ql:=jd fs bs
  refine fun dU oU nU dicU=>?_
  have TU:=a7 (o:=oU) nU
  refine⟨szr rfl,fun L nL=>?_⟩
  have TL:=a7 (o:=HO.lst []) nL
  have nL3:H3 L=none:=cf TU nL
  have ndd:dT≠dU:=fun e=>by
   obtain⟨φ,ext⟩:=td3.dic.ext
   rw[e,nU]at ext
   cases ext
  have neq:∀ s,InW fs bs s→s.2.1≠s.2.2:=fun s h=>by
   rcases h with ⟨_,h⟩ | ⟨_,h⟩
   ·exact hnf _ h
   ·exact hnb _ h
  have B0:ByI P w H3 (upd (upd H3 dU oU) L (.lst [])) dU L fs bs T [] [] []:=⟨TU.trans TL,dicU.same TL,rfl,zci,fun _ h=>(nomatch h),fun _ h=>(nomatch h),fun _ h=>(nomatch h),a6,⟨rfl,fun i v r e=>by simp at e⟩,za4 _⟩
  have rb:∀ {rows:List Row} {H':Hp} {kU:List (Dt×V)} {vs:List V},ByI P w H3 H' dU L fs bs T rows kU vs→vs.length≤200∧kU.length≤200:=fun {rows H' kU vs} b=>by
   have h1:=us_len b.nd b.iw
   have h2:=b.ll
   have h3:=b.ri.1
   have h4:=b.us.len
   omega
  have fr:∀ {rows:List Row} {H':Hp} {kU:List (Dt×V)} {vs:List V},ByI P w H3 H' dU L fs bs T rows kU vs→FrOk P w H' dT dU kT kU fs bs T (aj rows):=fun {rows H' kU vs} b=>⟨ok,neq,by omega,td3.same b.s,b.ud,b.us,b.nd,b.iw,b.cl,ndd⟩
  have inU:∀ {rows:List Row} {H':Hp} {kU:List (Dt×V)} {vs:List V} {xs:List (Dt×Addr×Value)} (s:Sti),ByI P w H3 H' dU L fs bs T rows kU vs→KD kU xs→decide (sD s∈xs.map (·.1))=decide (s∈aj rows):=fun {rows H' kU vs xs} s b kd=>by
   rw[← kd.keys]
   exact decide_eq_decide.mpr (b.us.mem s)
  revert B0
  generalize (upd (upd H3 dU oU) L (.lst []))=H4
  intro B0
  refine⟨_,rfl,Ak,rfl,⟨_,SqL.of (B0.s _ _ eAk)⟩,?_⟩
  refine d4 (K:=K) (a:=Ak) (xs:=ak) (fun i σ H5=>(∃ v6 v7,σ=[some (.ref t),some (.ref l),some (.ref dT),some (.ref Ak),some (.ref dU),some (.ref L),v6,v7])∧∃ rows kU vs,ByI P w H3 H5 dU L fs bs T rows kU vs∧∀ s∈(askL fs bs).take i,s∈aj rows∨∀ h,cj s.2 h→∃ t',Pt T s h t')
   ⟨⟨_,_,rfl⟩,[],[],[],B0,by rw[zb3];exact fun _ h=>(nomatch h)⟩ (fun i σ H5 _ ⟨_,_,_,_,b,_⟩=>SqL.of (b.s _ _ eAk)) ?_ ?_
  ·rintro i x σ H5 hx ⟨⟨v6,v7,rfl⟩,rows,kU,vs,B5,done⟩
   obtain⟨d,ed,dx⟩:=dAk3.at i x hx
   rw[zao]at ed
   cases hs:(askL fs bs)[i]? with
   | none=>rw[hs]at ed;cases ed
   | some s0 =>
   rw[hs]at ed
   cases ed
   obtain⟨sr,rfl⟩:∃ sr,x=.ref sr:=by cases dx;exact⟨_,rfl⟩
   have is0:InW fs bs s0:=c5.mp (zak hs)
   have tk:(askL fs bs).take (i+1)=(askL fs bs).take i++[s0]:=by rw[zb0,hs];rfl
   obtain⟨la,x0,y0,es,el,tx,ty⟩:=st_at dx
   refine⟨_,rfl,sr,_,_,_,rfl,rfl,SqT.of (B5.s _ _ es),rfl,la,rfl,⟨_,SqT.of (B5.s _ _ el)⟩,?_⟩
   refine for_tup (K:=K) (a:=la) (xs:=[V.ref x0,.ref y0]) (fun m σ H6=>(∃ v7,σ=[some (.ref t),some (.ref l),some (.ref dT),some (.ref Ak),some (.ref dU),some (.ref L),some (.ref sr),v7])∧∃ rows kU vs,ByI P w H3 H6 dU L fs bs T rows kU vs∧(∀ s∈(askL fs bs).take i,s∈aj rows∨∀ h,cj s.2 h→∃ t',Pt T s h t')∧(s0∈aj rows∨∀ h∈[s0.2.1,s0.2.2].take m,∃ t',Pt T s0 h t'))
    ⟨⟨_,rfl⟩,rows,kU,vs,B5,done,.inr (by rw[zb3];exact fun _ h=>(nomatch h))⟩ (fun m σ H6 _ ⟨_,_,_,_,b,_⟩=>SqT.of (b.s _ _ el)) ?_ ?_
   ·rintro m u σ H6 hu ⟨⟨v7,rfl⟩,rows,kU,vs,B6,done,dm⟩
    obtain⟨hq,hp,rfl,th,te,ep⟩:∃ (hq:Addr) (hp:Ho),u=.ref hq∧two H3 hq hp∧[s0.2.1,s0.2.2].take (m+1)=[s0.2.1,s0.2.2].take m++[hp]∧cj s0.2 hp:=by
     match m,hu with
     | 0,hu=>cases hu;exact⟨x0,s0.2.1,rfl,tx,rfl,.inl rfl⟩
     | 1,hu=>cases hu;exact⟨y0,s0.2.2,rfl,ty,rfl,.inr rfl⟩
     | m+2,hu=>simp at hu
    obtain⟨xsU,dicU6,kdU⟩:=id B6.ud
    refine⟨_,rfl,_,rfl,sr,dU,sD s0,xsU,rfl,rfl,dx.same B6.s,sD_dp s0,dicU6,_,rfl,?_⟩
    rw[inU s0 B6 kdU]
    by_cases hin:s0∈aj rows
    ·refine hV (by rw[decide_eq_true hin];rfl) (iteF ?_)
     exact⟨⟨_,rfl⟩,rows,kU,vs,B6,done,.inl hin⟩
    ·refine gZ (by rw[decide_eq_false hin];rfl) ?_
     refine⟨_,rfl,_,rfl,szr rfl,fun k1 nk1=>?_⟩
     have Tk:=a7 (o:=HO.tup [V.ref sr,.ref hq]) nk1
     have B7:=B6.more Tk
     have dk:DtIs (upd H6 k1 (.tup [V.ref sr,.ref hq])) (.ref k1) (kD s0 hp):=.tup a6 (.cons (dx.same B7.s) (.cons (ao (B7.s _ _ th)) .nil))
     have td7:=td3.same B7.s
     obtain⟨xsT,dicT,kdT⟩:=id td7.dic
     refine⟨_,rfl,k1,dT,kD s0 hp,xsT,rfl,rfl,dk,kD_dp _ _,dicT,_,rfl,?_⟩
     have key:decide (kD s0 hp∈xsT.map (·.1))=true↔∃ t',Pt T s0 hp t':=by
      rw[← kdT.keys,decide_eq_true_eq]
      exact dicd_inK td7 ok s0 hp
     by_cases ht:∃ t',Pt T s0 hp t'
     ·refine hV (by rw[key.mpr ht];rfl) ?_
      refine⟨⟨_,rfl⟩,rows,kU,vs,B7,done,.inr fun h hh=>?_⟩
      rw[te]at hh
      rcases za9.mp hh with hh | hh
      ·rcases dm with dm | dm
       ·exact absurd dm hin
       ·exact dm h hh
      ·rw[za7.mp hh]
       exact ht
     ·refine gZ (by
       have:¬ decide (kD s0 hp∈xsT.map (·.1))=true:=fun z'=>ht (key.mp z')
       simpa using this) ?_
      revert B7
      generalize (upd H6 k1 (.tup [V.ref sr,.ref hq]))=H7
      intro B7
      refine⟨_,rfl,.inl ⟨rfl,_,SqL.of B7.el⟩,?_⟩
      refine⟨_,rfl,_,rfl,_,rfl,_,rfl,dT,sr,hq,dU,kT,kU,fs,bs,T,aj rows,s0,hp,rfl,fr B7,dx.same B7.s,B7.s _ _ th,is0,hin,ep,fun th' hh ps hs h kU' o H8 S8 nth ud us nd iw eth hth fin=>?_⟩
      refine⟨szr rfl,fun u nu=>?_⟩
      have hn:∀ t',¬ Pt T s0 hp t':=fun t' q=>ht ⟨t',q⟩
      obtain⟨ps',p,e1,W,alt⟩:=fin
      have f2:∃ ps' p,ps=ps'++[p]∧Wlk T s0 hp (ps'++[p]) (hs++[h])∧(if false=true then h=hp∧Pt T p h s0 else (∀ t,¬ Pt T p h t)∧∀ t,¬ Pt T s0 hp t):=⟨ps',p,e1,W,by
       rw[if_neg (by decide)]
       rcases alt with a | ⟨a1,a2⟩
       ·exact⟨a,hn⟩
       ·exact absurd (a1▸a2.symm) (hn p)⟩
      obtain⟨eL,B9⟩:=B7.add ok nU nL3 S8 ud us nd iw eth hth f2 nu
      refine⟨L,vs,_,rfl,rfl,eL,be (by have:=(rb B7).1;omega),⟨_,rfl⟩,_,kU',_,B9,fun s hs'=>?_,.inl ?_⟩
      ·rw[bq]
       rcases done s hs' with q | q
       ·exact .inl (zae _ q)
       ·exact .inr q
      ·rw[bq]
       exact za5 _ (by
        show s0∈ps
        rw[e1]
        exact zak W.sb)
   ·rintro σ H6 ⟨⟨v7,rfl⟩,rows,kU,vs,B6,done,dm⟩
    refine⟨⟨_,_,rfl⟩,rows,kU,vs,B6,fun s hs'=>?_⟩
    rw[tk]at hs'
    rcases za9.mp hs' with hs' | hs'
    ·exact done s hs'
    ·rw[za7.mp hs']
     rcases dm with q | q
     ·exact .inl q
     ·refine .inr fun h eh=>q h ?_
      show h∈[s0.2.1,s0.2.2].take 2
      rcases eh with e | e
      ·rw[← e];simp
      ·rw[← e];simp
  ·rintro σ H5 ⟨⟨v6,v7,rfl⟩,rows,kU,vs,B5,done⟩
   rw[zas (by omega)]at done
   refine⟨_,rfl,Ak,rfl,⟨_,SqL.of (B5.s _ _ eAk)⟩,?_⟩
   refine d4 (K:=K) (a:=Ak) (xs:=ak) (fun i σ H6=>(∃ v6,σ=[some (.ref t),some (.ref l),some (.ref dT),some (.ref Ak),some (.ref dU),some (.ref L),v6,v7])∧∃ rows kU vs,ByI P w H3 H6 dU L fs bs T rows kU vs∧(∀ s∈askL fs bs,s∈aj rows∨∀ h,cj s.2 h→∃ t',Pt T s h t')∧∀ s∈(askL fs bs).take i,s∈aj rows)
    ⟨⟨_,rfl⟩,rows,kU,vs,B5,done,by rw[zb3];exact fun _ h=>(nomatch h)⟩ (fun i σ H6 _ ⟨_,_,_,_,b,_⟩=>SqL.of (b.s _ _ eAk)) ?_ ?_
   ·rintro i x σ H6 hx ⟨⟨v6,rfl⟩,rows,kU,vs,B6,done,dn⟩
    obtain⟨d,ed,dx⟩:=dAk3.at i x hx
    rw[zao]at ed
    cases hs:(askL fs bs)[i]? with
    | none=>rw[hs]at ed;cases ed
    | some s0 =>
    rw[hs]at ed
    cases ed
    obtain⟨sr,rfl⟩:∃ sr,x=.ref sr:=by cases dx;exact⟨_,rfl⟩
    have is0:InW fs bs s0:=c5.mp (zak hs)
    have tk:(askL fs bs).take (i+1)=(askL fs bs).take i++[s0]:=by rw[zb0,hs];rfl
    obtain⟨la,x0,y0,es,el,tx,ty⟩:=st_at dx
    obtain⟨xsU,dicU6,kdU⟩:=id B6.ud
    refine⟨_,rfl,_,rfl,sr,dU,sD s0,xsU,rfl,rfl,dx.same B6.s,sD_dp s0,dicU6,_,rfl,?_⟩
    rw[inU s0 B6 kdU]
    by_cases hin:s0∈aj rows
    ·refine hV (by rw[decide_eq_true hin];rfl) ?_
     refine⟨⟨_,rfl⟩,rows,kU,vs,B6,done,fun s hs'=>?_⟩
     rw[tk]at hs'
     rcases za9.mp hs' with hs' | hs'
     ·exact dn s hs'
     ·rw[za7.mp hs'];exact hin
    ·refine gZ (by rw[decide_eq_false hin];rfl) ?_
     refine⟨_,rfl,.inl ⟨rfl,_,SqL.of B6.el⟩,?_⟩
     refine⟨_,rfl,_,rfl,_,rfl,sr,_,_,_,rfl,rfl,SqT.of (B6.s _ _ es),rfl,la,_,_,_,rfl,rfl,SqT.of (B6.s _ _ el),rfl,_,rfl,dT,sr,x0,dU,kT,kU,fs,bs,T,aj rows,s0,s0.2.1,rfl,fr B6,dx.same B6.s,B6.s _ _ tx,is0,hin,.inl rfl,fun th' hh ps hs h kU' o H8 S8 nth ud us nd iw eth hth fin=>?_⟩
     refine⟨szr rfl,fun u nu=>?_⟩
     obtain⟨ps',p,e1,W,alt⟩:=fin
     have pin:p∈aj rows++ps:=za5 _ (by rw[e1];simp)
     have pnu:p∉aj rows:=fun z'=>by
      rw[zbu]at nd
      exact nd.2.2 p z' p (by rw[e1];simp) rfl
     have eph:cj p.2 h:=by
      have wl:=W.len
      rw[za1,za1,zam,zam]at wl
      obtain⟨e',he'⟩:=W.at (k:=ps'.length) (by simp)
      have:=(W.ends ps'.length p e' h (by simp) he' (by rw[show ps'.length+1=hs.length by omega];simp)).2
      rw[this]
      exact oth_end _ _
     have f2:∃ ps' p,ps=ps'++[p]∧Wlk T s0 s0.2.1 (ps'++[p]) (hs++[h])∧(if true=true then h=s0.2.1∧Pt T p h s0 else (∀ t,¬ Pt T p h t)∧∀ t,¬ Pt T s0 s0.2.1 t):=⟨ps',p,e1,W,by
      rw[if_pos rfl]
      rcases alt with a | a
      ·rcases done p (c5.mpr (iw p pin)) with q | q
       ·exact absurd q pnu
       ·obtain⟨t',q'⟩:=q h eph
        exact absurd q' (a t')
      ·exact a⟩
     obtain⟨eL,B9⟩:=B6.add ok nU nL3 S8 ud us nd iw eth hth f2 nu
     refine⟨L,vs,_,rfl,rfl,eL,be (by have:=(rb B6).1;omega),⟨_,rfl⟩,_,kU',_,B9,fun s hs'=>?_,fun s hs'=>?_⟩
     ·rw[bq]
      rcases done s hs' with q | q
      ·exact .inl (zae _ q)
      ·exact .inr q
     ·rw[bq]
      rw[tk]at hs'
      rcases za9.mp hs' with hs' | hs'
      ·exact zae _ (dn s hs')
      ·rw[za7.mp hs']
       exact za5 _ (by
        show s0∈ps
        rw[e1]
        exact zak W.sb)
   ·rintro σ H6 ⟨⟨v6,rfl⟩,rows,kU,vs,B6,done,dn⟩
    rw[zas (by omega)]at dn
    have nL0:H L=none:=cf S13 nL3
    refine⟨_,rfl,z L vs rows H6 (S13.trans B6.s) nL0 B6.el B6.ri B6.gd ?_⟩
    exact(zc6 B6.nd (askL_nd ndf ndb)).mpr fun s=>⟨fun h=>c5.mpr (B6.iw s h),dn s⟩
end
def byEv(ls:List Ln):Ap:=(ls.map fun a=>[(a.1,lnD a),(a.2,lnD a)]).flatten
theorem byEv_snoc(ls:List Ln)(a:Ln):byEv (ls++[a])=byEv ls++[(a.1,lnD a),(a.2,lnD a)]:=by simp[byEv]
theorem jB(ls:List Ln)(a:Ln):byEv (a::ls)=[(a.1,lnD a),(a.2,lnD a)]++byEv ls:=by simp[byEv]
theorem byEv_len:∀ ls:List Ln,(byEv ls).length=2*ls.length
 | []=>rfl
 | a::ls=>by
  rw[jB,za1,byEv_len ls,zah]
  show 2+2*ls.length=2*(ls.length+1)
  omega
theorem byEv_mem{h:Ho}:∀ {ls:List Ln},(∃ e∈byEv ls,e.1=h)↔∃ a∈ls,a.1=h∨a.2=h
 | []=>⟨fun⟨_,h,_⟩=>(nomatch h),fun⟨_,h,_⟩=>(nomatch h)⟩
 | a::ls=>by
  have ih:=byEv_mem (h:=h) (ls:=ls)
  rw[jB]
  constructor
  ·rintro⟨e,he,z⟩
   rcases za9.mp he with he | he
   ·simp only[zaa,zb7,or_false]at he
    rcases he with rfl | rfl
    ·exact⟨a,zad ..,.inl z⟩
    ·exact⟨a,zad ..,.inr z⟩
   ·obtain⟨b,hb,zb⟩:=ih.mp ⟨e,he,z⟩
    exact⟨b,zac _ hb,zb⟩
  ·rintro⟨b,hb,z⟩
   rcases zaa.mp hb with rfl | hb
   ·rcases z with z | z
    ·exact⟨(b.1,lnD b),zae _ (by simp),z⟩
    ·exact⟨(b.2,lnD b),zae _ (by simp),z⟩
   ·obtain⟨e,he,ze⟩:=ih.mpr ⟨b,hb,z⟩
    exact⟨e,za5 _ he,ze⟩
def atLn(ls:List Ln)(h:Ho):List Ln:=ls.filter fun a=>decide (a.1=h)||decide (a.2=h)
theorem atLn_le(ls:List Ln)(h:Ho):(atLn ls h).length≤ls.length:=zcc ..
theorem atLn_no{ls:List Ln}{h:Ho}(n:¬ ∃ a∈ls,a.1=h∨a.2=h):atLn ls h=[]:=by
 unfold atLn
 refine List.filter_eq_nil_iff.mpr fun a ha z=>n ⟨a,ha,?_⟩
 simpa using z
theorem atH_byEv(h:Ho):∀ {ls:List Ln},(∀ a∈ls,a.1≠a.2)→atH (byEv ls) h=(atLn ls h).map lnD
 | [],_=>rfl
 | a::ls,hn=>by
  have ih:=atH_byEv h (ls:=ls) fun b hb=>hn b (zac _ hb)
  have ne:=hn a (zad ..)
  rw[jB,atH_app,ih]
  unfold atLn
  rw[List.filter_cons]
  by_cases h1:a.1=h
  ·have h2:¬ a.2=h:=fun z=>ne (h1.trans z.symm)
   simp[atH,h1,h2]
  ·by_cases h2:a.2=h
   ·simp[atH,h1,h2]
   ·simp[atH,h1,h2]
def gA(fs bs:List Ln)(h:Ho):List Dt:=List.zipWith (fun a b=>Dt.tup [hD h,lnD a,lnD b]) (atLn fs h) (atLn bs h)
def fu(fs bs:List Ln)(hs:List Ho):List Dt:=(hs.map (gA fs bs)).flatten
theorem tieAt_len(fs bs:List Ln)(h:Ho):(gA fs bs h).length=min (atLn fs h).length (atLn bs h).length:=by unfold gA;rw[List.length_zipWith]
theorem tiesL_snoc(fs bs:List Ln)(hs:List Ho)(h:Ho):fu fs bs (hs++[h])=fu fs bs hs++gA fs bs h:=by simp[fu]
theorem tiesL_len(fs bs:List Ln):∀ hs:List Ho,(fu fs bs hs).length≤fs.length*hs.length
 | []=>za4 _
 | h::hs=>by
  have ih:=tiesL_len fs bs hs
  have e:fu fs bs (h::hs)=gA fs bs h++fu fs bs hs:=by simp[fu]
  have h1:=tieAt_len fs bs h
  have h2:=atLn_le fs h
  rw[e,za1,zah,Nat.mul_succ]
  omega
theorem tieAt_take{fs bs:List Ln}{h:Ho}{i:Nat}{a b:Ln}(ha:(atLn fs h)[i]?=some a)(hb:(atLn bs h)[i]?=some b):(gA fs bs h).take (i+1)=(gA fs bs h).take i++[Dt.tup [hD h,lnD a,lnD b]]:=by
 rw[zb0]
 unfold gA
 rw[List.getElem?_zipWith,ha,hb]
 rfl
section
variable{P:Program}{w:World}{K:PySem.W.Frag}{mg:Str→Option Value}{base:Heap}
def spByHole(P:Program)(w:World):Sp:=fun vs H Q _=>∃ (F:Addr) (ls:List Ln),vs=[.ref F]∧DtL H F (ls.map lnD)∧ls.length≤130 ∧
 ∀ d ks kvs H',Same H H'→H d=none→DoL P w H H' d ks (byEv ls) kvs→(∀ h,h∈ks↔∃ e∈byEv ls,e.1=h)→Q (.ref d) H'
theorem iR:aS ["lines","by_hole","line","hole"] ["lines"] (ab gi):=⟨rfl,rfl,rfl,by decide +kernel,rfl,by decide +kernel,by decide +kernel⟩
theorem ok_byHole{f:Addr}{fd:FuncData}(D:Df K mg "lines_by_hole" gi f fd):FnOk P w K mg base CX0 1 f fd ["lines"] (spByHole P w):=by
 refine D.F.ok iR (fun vs H Q E h=>?_) (fun cdv A outer s H vs Q E hr h=>?_)
 ·obtain⟨F,ls,rfl,_⟩:=h
  rfl
 ·obtain⟨F,ls,rfl,hF,ll,z⟩:=h
  refine⟨_,(aa (ai (i:=1) iR.nd rfl (Or.inl rfl) eX)
   (aa (cp PassesOwn.never rfl (c6 (pv 0)) (al (i:=2) iR.nd rfl (Or.inl rfl)) (ag (cp PassesOwn.never rfl (pi_tup (pv 2)) (al (i:=3) iR.nd rfl (Or.inl rfl)) (ag (dq (iV PySem.F.plainAttrs_list PySem.F.slot_list_append PySem.F.type_list_append bD (ju PySem.F.slot_dict_setdefault PySem.F.type_dict_setdefault (iA hr) (pv 1) (pac (pv 3) (pac (eW a9) a9))) (pac (pv 2) a9)))))))
   (ag (aD (pv 1))))),?_⟩
  obtain⟨fv,eF,dF⟩:=hF
  have fvl:fv.length=ls.length:=by rw[dF.length,za0]
  refine fun dA o0 ndA dic0=>?_
  have S0:=a7 (o:=o0) ndA
  refine⟨_,rfl,F,rfl,⟨_,SqL.of (S0 _ _ eF)⟩,?_⟩
  refine d4 (K:=K) (a:=F) (xs:=fv) (fun i σ H2=>(∃ v2 v3,σ=[some (.ref F),some (.ref dA),v2,v3])∧Same H H2∧∃ ks kvs,DoL P w H H2 dA ks (byEv (ls.take i)) kvs∧(∀ h,h∈ks↔∃ e∈byEv (ls.take i),e.1=h)∧kvs.length≤2*i)
   ⟨⟨_,_,rfl⟩,S0,[],[],by rw[zb3];exact DoL.start dic0,by rw[zb3];exact fun h=>⟨fun z=>(nomatch z),fun⟨_,z,_⟩=>(nomatch z)⟩,za4 _⟩ (fun i σ H2 _ ⟨_,s2,_⟩=>SqL.of (s2 _ _ eF)) ?_ ?_
  ·rintro i x σ H2 hx ⟨⟨v2,v3,rfl⟩,S2,ks,kvs,D2,mem2,kl⟩
   obtain⟨r,x0,y0,a,rfl,ha,er,tx,ty⟩:=ln_at dF hx
   have hi:i<ls.length:=(za3.mp ha).1
   have tk:ls.take (i+1)=ls.take i++[a]:=by rw[zb0,ha];rfl
   refine⟨_,rfl,r,rfl,⟨_,SqT.of (S2 _ _ er)⟩,?_⟩
   refine for_tup (K:=K) (a:=r) (xs:=[V.ref x0,.ref y0]) (fun m σ H4=>(∃ v3,σ=[some (.ref F),some (.ref dA),some (.ref r),v3])∧Same H H4∧∃ ks kvs,DoL P w H H4 dA ks (byEv (ls.take i)++[(a.1,lnD a),(a.2,lnD a)].take m) kvs∧(∀ h,h∈ks↔∃ e∈byEv (ls.take i)++[(a.1,lnD a),(a.2,lnD a)].take m,e.1=h)∧kvs.length≤2*i+m)
    ⟨⟨_,rfl⟩,S2,ks,kvs,by rw[zb3,zau];exact D2,by rw[zb3,zau];exact mem2,kl⟩ (fun m σ H4 _ ⟨_,s4,_⟩=>SqT.of (s4 _ _ er)) ?_ ?_
   ·rintro m u σ H4 hu ⟨⟨v3,rfl⟩,S4,ks,kvs,D4,mem4,kl⟩
    obtain⟨hq,hp,rfl,th,te,hm2⟩:∃ (hq:Addr) (hp:Ho),u=.ref hq∧two H hq hp∧[(a.1,lnD a),(a.2,lnD a)].take (m+1)=[(a.1,lnD a),(a.2,lnD a)].take m++[(hp,lnD a)]∧m<2:=by
     match m,hu with
     | 0,hu=>cases hu;exact⟨x0,a.1,rfl,tx,rfl,by decide⟩
     | 1,hu=>cases hu;exact⟨y0,a.2,rfl,ty,rfl,by decide⟩
     | m+2,hu=>simp at hu
    refine⟨_,rfl,⟨dA,kvs,rfl,D4.dic⟩,_,rfl,szr rfl,fun L nL=>?_⟩
    have T:=a7 (o:=HO.lst []) nL
    refine⟨dA,hq,hD hp,kvs,.ref L,rfl,rfl,ao (T _ _ (S4 _ _ th)),by rw[iC];decide,D4.dic.same T,by omega,fun u H5 sd=>?_⟩
    obtain⟨r',ks',kvs',ys,rfl,D5,S5,hk',e5,n5,er5,yl,kl5,_⟩:=D4.setDef S4 ndA nL sd
    have yl2:ys.length≤300:=by
     rw[za1,byEv_len,zan,zan]at yl
     have:[(a.1,lnD a),(a.2,lnD a)].length=2:=rfl
     omega
    refine⟨.inl ⟨rfl,_,SqL.of er5⟩,_,rfl,r',ys,_,rfl,rfl,er5,be (by omega),?_⟩
    refine⟨⟨_,rfl⟩,am S5 n5,ks',kvs',?_,?_,by omega⟩
    ·rw[te,← zai]
     exact D5.app e5 er5 (ln_dt (S5 _ _ er) (S5 _ _ tx) (S5 _ _ ty))
    ·intro g
     rw[hk',mem4,te,← zai]
     constructor
     ·rintro(rfl | ⟨e,he,z⟩)
      ·exact⟨(g,lnD a),za5 _ (za7.mpr rfl),rfl⟩
      ·exact⟨e,zae _ he,z⟩
     ·rintro⟨e,he,z⟩
      rcases za9.mp he with he | he
      ·exact .inr ⟨e,he,z⟩
      ·rw[za7.mp he]at z
       exact .inl z.symm
   ·rintro σ H4 ⟨⟨v3,rfl⟩,S4,ks,kvs,D4,mem4,kl⟩
    have e2:byEv (ls.take (i+1))=byEv (ls.take i)++[(a.1,lnD a),(a.2,lnD a)].take [V.ref x0,.ref y0].length:=by rw[tk,byEv_snoc];rfl
    refine⟨⟨_,_,rfl⟩,S4,ks,kvs,by rw[e2];exact D4,by rw[e2];exact mem4,?_⟩
    have:[V.ref x0,.ref y0].length=2:=rfl
    omega
  ·rintro σ H2 ⟨⟨v2,v3,rfl⟩,S2,ks,kvs,D2,mem2,kl⟩
   rw[zas (by omega)]at D2 mem2
   exact⟨_,rfl,z dA ks kvs H2 S2 ndA D2 mem2⟩
def spTies:Sp:=fun vs H Q _=>∃ (t F B:Addr) (fs bs:List Ln),vs=[.ref t]∧H t=some (.tup [.ref F,.ref B])∧DtL H F (fs.map lnD)∧DtL H B (bs.map lnD)∧fs.length≤130∧bs.length≤130∧(∀ a∈fs,a.1≠a.2)∧(∀ a∈bs,a.1≠a.2) ∧
 ∀ l hs H',Same H H'→H l=none→(hs.map hD).Pairwise (fun d d'=>Dt.blt d' d=false)→hs.Nodup→(∀ h,h∈hs↔∃ a∈fs,a.1=h∨a.2=h)→DtL H' l (fu fs bs hs)→Q (.ref l) H'
theorem ie:aS ["work","front","back","ties","hole","one","other"] ["work"] (ab sTies):=⟨rfl,rfl,rfl,by decide +kernel,rfl,by decide +kernel,by decide +kernel⟩
theorem ok_ties{f fB:Addr}{fd fdB:FuncData}(D:Df K mg "plain_ties" sTies f fd)(DB:Df K mg "lines_by_hole" gi fB fdB)(bB:bh K fdB ["lines"] [])(GB:FnOk P w K mg base CX0 1 fB fdB ["lines"] (spByHole P w))(hsorted:mg "sorted"=none)(hzip:mg "zip"=none) :
  FnOk P w K mg base CX0 2 f fd ["work"] spTies:=by
 refine D.F.ok ie (fun vs H Q E h=>?_) (fun cdv A outer s H vs Q E hr h=>?_)
 ·obtain⟨t,F,B,fs,bs,rfl,_⟩:=h
  rfl
 ·obtain⟨t,F,B,fs,bs,rfl,et,hF,hB,lf,lb,hnf,hnb,z⟩:=h
  refine⟨_,(aa (ai (i:=1) ie.nd rfl (Or.inl rfl) (pec GB hr rfl DB.m DB.F.kp bB .nil bf (pac (b6 aw (pv 0) a8 (fun _ _=>rfl)) a9)))
   (aa (ai (i:=2) ie.nd rfl (Or.inl rfl) (pec GB hr rfl DB.m DB.F.kp bB .nil bf (pac (b6 aw (pv 0) a8 (fun _ _=>rfl)) a9)))
   (aa (ai (i:=3) ie.nd rfl (Or.inl rfl) (eW a9))
   (aa (cp PassesOwn.never rfl (c6 (b7 (gn hr) (by rfl) hsorted boot_sorted (pac (pv 1) a9))) (al (i:=4) ie.nd rfl (Or.inl rfl)) (ag (cp PassesOwn.never rfl (pi_zipL rfl hzip (pac (gG hr (pv 1) (pv 4) (fun _ _=>rfl)) (pac (ju PySem.F.slot_dict_get PySem.F.type_dict_get (mt_getD hr) (pv 2) (pac (pv 4) (pac (eW a9) a9))) a9)))
      (fk rfl (b0 (al (i:=5) ie.nd rfl (Or.inl rfl)) (b0 (al (i:=6) ie.nd rfl (Or.inl rfl)) dX))) (ag (dq (iV PySem.F.plainAttrs_list PySem.F.slot_list_append PySem.F.type_list_append bD (pv 3) (pac (ap (pac (pv 4) (pac (pv 5) (pac (pv 6) a9)))) a9)))))))
   (ag (aD (pv 3))))))),?_⟩
  refine⟨_,rfl,t,_,_,_,rfl,rfl,SqT.of et,rfl,F,fs,rfl,hF,lf,fun dF ksF kvF H1 S1 nF DF0 memF=>?_⟩
  refine⟨_,rfl,t,_,_,_,rfl,rfl,SqT.of (S1 _ _ et),rfl,B,bs,rfl,hB.same S1,lb,fun dB ksB kvB H2 S2 nB DB2 memB=>?_⟩
  have DF2:=DF0.same S2
  have S12:=S1.trans S2
  refine⟨szr rfl,fun L nL=>?_⟩
  have T3:=a7 (o:=HO.lst []) nL
  have nL0:H L=none:=cf S12 nL
  refine⟨_,rfl,dF,kvF,"int",rfl,DF2.dic.same T3,fun p hp=>?_,fun p hp p' hp'=>?_,fun G gv es nG dG pe srt=>?_⟩
  ·obtain⟨g,_,e⟩:=(DF2.mem p.1).mp (za6.mpr ⟨p,hp,rfl⟩)
   exact⟨_,_,e.symm,rfl⟩
  ·obtain⟨g,_,e⟩:=(DF2.mem p.1).mp (za6.mpr ⟨p,hp,rfl⟩)
   obtain⟨g',_,e'⟩:=(DF2.mem p'.1).mp (za6.mpr ⟨p',hp',rfl⟩)
   rw[← e,← e']
   exact hD_like _ _
  obtain⟨hs,rfl⟩:=as_hD (es:=es) fun d hd=>by
   obtain⟨g,_,e⟩:=(DF2.mem d).mp (pe.mem_iff.mp hd)
   exact⟨g,e.symm⟩
  have hnd:hs.Nodup:=nodup_of_map (pe.nodup_iff.mpr DF2.nd)
  have hmem:∀ h,h∈hs↔h∈ksF:=fun h=>by
   constructor
   ·intro hh
    obtain⟨g,hg,e⟩:=(DF2.mem _).mp (pe.mem_iff.mp (za6.mpr ⟨h,hh,rfl⟩))
    exact bZ e▸hg
   ·intro hh
    obtain⟨g,hg,e⟩:=za6.mp (pe.mem_iff.mpr ((DF2.mem (hD h)).mpr ⟨h,hh,rfl⟩))
    exact bZ e▸hg
  have hmem2:∀ h,h∈hs↔∃ a∈fs,a.1=h∨a.2=h:=fun h=>by rw[hmem,memF,byEv_mem]
  have hsl:hs.length≤260:=by
   have:hs.length≤((byEv fs).map (·.1)).length:=List.Nodup.length_le_of_subset hnd fun h hh=>by
    obtain⟨e,he,z⟩:=(memF h).mp ((hmem h).mp hh)
    exact za6.mpr ⟨e,he,z⟩
   rw[za0,byEv_len]at this
   omega
  have gvl:gv.length=hs.length:=by rw[dG.length,za0]
  have T4:=a7 (o:=HO.lst gv) nG
  have nGL:G≠L:=fun e=>by
   rw[e,a6]at nG
   cases nG
  refine⟨G,rfl,⟨_,SqL.of a6⟩,?_⟩
  have S24:Same H2 (upd (upd H2 L (.lst [])) G (.lst gv)):=T3.trans T4
  have eG:(upd (upd H2 L (.lst [])) G (.lst gv)) G=some (.lst gv):=a6
  have eL:(upd (upd H2 L (.lst [])) G (.lst gv)) L=some (.lst []):=T4 _ _ a6
  have dG4:=dG.same T4
  revert S24 eG eL dG4
  generalize (upd (upd H2 L (.lst [])) G (.lst gv))=H4
  intro S24 eG eL dG4
  have tot:∀ i,(fu fs bs (hs.take i)).length≤33800:=fun i=>by
   have h1:=tiesL_len fs bs (hs.take i)
   have h2:(hs.take i).length≤260:=by rw[zan];omega
   exact zb1 h1 (zb1 (Nat.mul_le_mul lf h2) (by decide))
  refine d4 (K:=K) (a:=G) (xs:=gv) (fun i σ H6=>(∃ v4 v5 v6,σ=[some (.ref t),some (.ref dF),some (.ref dB),some (.ref L),v4,v5,v6])∧Same H2 H6∧H6 G=some (.lst gv)∧ac H6 gv (hs.map hD)∧DtL H6 L (fu fs bs (hs.take i)))
   ⟨⟨_,_,_,rfl⟩,S24,eG,dG4,[],eL,by rw[zb3];exact .nil⟩ (fun i σ H6 _ ⟨_,_,e,_⟩=>SqL.of e) ?_ ?_
  ·rintro i x σ H6 hx ⟨⟨v4,v5,v6,rfl⟩,S6,eG6,dG6,us,eL6,dL6⟩
   obtain⟨q,h,rfl,hh,tq⟩:=jC dG6 hx
   have hi:i<hs.length:=(za3.mp hh).1
   have tk:hs.take (i+1)=hs.take i++[h]:=by rw[zb0,hh];rfl
   have hin:h∈ksF:=(hmem h).mp (zak hh)
   obtain⟨r,fv,vF,eF,dFv⟩:=(DF2.same S6).get hin
   rw[atH_byEv h hnf]at dFv
   have fvl:fv.length=(atLn fs h).length:=by rw[dFv.length,za0]
   have neF:r≠L:=fun e=>by
    obtain⟨r',fv',vF',eF',_⟩:=DF2.get hin
    rw[vF]at vF'
    cases vF'
    rw[e,nL]at eF'
    cases eF'
   refine⟨_,rfl,_,rfl,dF,q,hD h,kvF,.ref r,rfl,rfl,ao tq,by rw[iC];decide,DF2.dic.same S6,vF,?_⟩
   refine⟨_,rfl,⟨dB,kvB,rfl,DB2.dic.same S6⟩,_,rfl,szr rfl,fun M nM=>?_⟩
   have T7:=a7 (o:=HO.lst []) nM
   refine⟨dB,q,hD h,kvB,.ref M,rfl,rfl,ao (T7 _ _ tq),by rw[iC];decide,(DB2.dic.same S6).same T7,?_⟩
   have hb:∃ b bv,(valV kvB (hD h)).getD (.ref M)=.ref b∧b≠L∧(upd H6 M (.lst [])) b=some (.lst bv)∧ac (upd H6 M (.lst [])) bv ((atLn bs h).map lnD):=by
    by_cases hk:h∈ksB
    ·obtain⟨b,bv,vB,eB,dB'⟩:=((DB2.same S6).same T7).get hk
     rw[atH_byEv h hnb]at dB'
     refine⟨b,bv,by rw[vB];rfl,fun e=>?_,eB,dB'⟩
     obtain⟨r',fv',vF',eF',_⟩:=DB2.get hk
     rw[vB]at vF'
     cases vF'
     rw[e,nL]at eF'
     cases eF'
    ·rw[DB2.noKey hk]
     refine⟨M,[],rfl,(fun e=>by rw[e,eL6]at nM;cases nM),a6,?_⟩
     rw[atLn_no fun hx=>hk ((memB h).mpr (byEv_mem.mpr hx))]
     exact .nil
   obtain⟨b,bv,eb,neB,eB,dBv⟩:=hb
   have bvl:bv.length=(atLn bs h).length:=by rw[dBv.length,za0]
   rw[eb]
   have S67:=S6.trans T7
   have eF7:=T7 _ _ eF
   have dF7:=dFv.same T7
   have eG7:=T7 _ _ eG6
   have dG7:=dG6.same T7
   have eL7:=T7 _ _ eL6
   have dL7:=dL6.same T7
   have tq7:=T7 _ _ tq
   revert S67 eF7 dF7 eG7 dG7 eL7 dL7 tq7 eB dBv
   generalize (upd H6 M (.lst []))=H7
   intro eB dBv S67 eF7 dF7 eG7 dG7 eL7 dL7 tq7
   have tl:=tieAt_len fs bs h
   refine⟨r,b,fv,bv,rfl,SqL.of eF7,SqL.of eB,?_⟩
   refine for_zip (Sq:=SqL K) (n:=(gA fs bs h).length) (by omega) (by omega) (by omega) (fun j σ H8=>(∃ v5 v6,σ=[some (.ref t),some (.ref dF),some (.ref dB),some (.ref L),some (.ref q),v5,v6])∧Same H2 H8∧H8 G=some (.lst gv)∧ac H8 gv (hs.map hD)∧H8 r=some (.lst fv)∧ac H8 fv ((atLn fs h).map lnD)∧H8 b=some (.lst bv)∧ac H8 bv ((atLn bs h).map lnD)∧two H8 q h∧DtL H8 L (fu fs bs (hs.take i)++(gA fs bs h).take j))
    ⟨⟨_,_,rfl⟩,S67,eG7,dG7,eF7,dF7,eB,dBv,tq7,us,eL7,by rw[zb3,zau];exact dL7⟩ (fun j σ H8 _ ⟨_,_,_,_,e1,_,e2,_⟩=>⟨SqL.of e1,SqL.of e2⟩) ?_ ?_
   ·rintro j x y p σ H8 hj hx hy ⟨⟨v5,v6,rfl⟩,S8,eG8,dG8,eF8,dF8,eB8,dB8,tq8,ws,eL8,dL8⟩ np
    obtain⟨ra,xa,ya,a,rfl,ha,era,txa,tya⟩:=ln_at dF8 hx
    obtain⟨rb,xb,yb,b',rfl,hb',erb,txb,tyb⟩:=ln_at dB8 hy
    have Tp:=a7 (o:=HO.tup [V.ref ra,.ref rb]) np
    refine⟨p,_,rfl,SqT.of a6,rfl,_,_,rfl,_,_,rfl,rfl,?_⟩
    refine⟨_,rfl,.inl ⟨rfl,_,SqL.of (Tp _ _ eL8)⟩,_,rfl,_,rfl,_,rfl,szr rfl,fun u nu=>?_⟩
    have Tu:=a7 (o:=HO.tup [V.ref q,.ref ra,.ref rb]) nu
    have Tpu:=Tp.trans Tu
    have eL9:=Tpu _ _ eL8
    have wl:ws.length≤40000:=by
     rw[dL8.length,za1,zan]
     have h1:=tot i
     have h2:=atLn_le fs h
     omega
    have keep:∀ {c:Addr} {v:HO},H8 c=some v→c≠L→(upd (upd (upd H8 p (.tup [V.ref ra,.ref rb])) u (.tup [V.ref q,.ref ra,.ref rb])) L (.lst (ws++[.ref u]))) c=some v:=fun {c v} hc hne=>by
     rw[af hne]
     exact Tpu _ _ hc
    refine⟨L,ws,_,rfl,rfl,eL9,by rw[sizeLine_eq];omega,⟨_,_,rfl⟩,am (S8.trans Tpu) nL,keep eG8 nGL,(dG8.same Tpu).updL eL9,keep eF8 neF,(dF8.same Tpu).updL eL9,keep eB8 neB,(dB8.same Tpu).updL eL9,?_,_,a6,?_⟩
    ·refine keep tq8 fun e=>?_
     rw[e]at tq8
     have:=tq8.symm.trans eL8
     cases this
    ·rw[tieAt_take ha hb',← zai]
     refine((dL8.same Tpu).updL eL9).snoc (DtIs.updL eL9 ?_)
     exact .tup a6 (.cons (ao (Tpu _ _ tq8)) (.cons (ln_dt (Tpu _ _ era) (Tpu _ _ txa) (Tpu _ _ tya)) (.cons (ln_dt (Tpu _ _ erb) (Tpu _ _ txb) (Tpu _ _ tyb)) .nil)))
   ·rintro σ H8 ⟨⟨v5,v6,rfl⟩,S8,eG8,dG8,_,_,_,_,_,hL8⟩
    refine⟨⟨_,_,_,rfl⟩,S8,eG8,dG8,?_⟩
    rw[tk,tiesL_snoc]
    rw[zas (za4 _)]at hL8
    exact hL8
  ·rintro σ H6 ⟨⟨v4,v5,v6,rfl⟩,S6,eG6,dG6,hL6⟩
   rw[zas (by omega)]at hL6
   exact⟨_,rfl,z L hs H6 (S12.trans S6) nL0 srt hnd hmem2 hL6⟩
end
def tieT(fs bs:List Ln)(h:Ho):List Tie:=List.zipWith (fun a b=>(h,a,b)) (atLn fs h) (atLn bs h)
def gw(fs bs:List Ln)(hs:List Ho):List Tie:=(hs.map (tieT fs bs)).flatten
theorem tiesL_T(fs bs:List Ln)(hs:List Ho):fu fs bs hs=(gw fs bs hs).map tD:=by
 unfold fu gw
 rw[List.map_flatten,List.map_map]
 congr 1
 refine List.map_congr_left fun h _=>?_
 show gA fs bs h=(tieT fs bs h).map tD
 unfold gA tieT
 rw[List.map_zipWith]
 rfl
theorem nd_flat{β:Type}{g:Ho→List (Ho×β)}:∀ {hs:List Ho},hs.Nodup→(∀ h,(g h).Nodup)→(∀ h,∀ x∈g h,x.1=h)→((hs.map g).flatten).Nodup
 | [],_,_,_=>zci
 | h::hs,nd,n1,n2=>by
  rw[zbb]at nd
  rw[zay,List.flatten_cons,zbu]
  refine⟨n1 h,nd_flat nd.2 n1 n2,fun a ha b hb e=>?_⟩
  obtain⟨l,hl,hm⟩:=zbj.mp hb
  obtain⟨h',hh',rfl⟩:=za6.mp hl
  have e1:=n2 h a ha
  have e2:=n2 h' b hm
  rw[← e,e1]at e2
  exact nd.1 (e2▸hh')
theorem f6{α β γ:Type}{f:α→β→γ}:∀ {l:List α} {m:List β} {x:γ},x∈List.zipWith f l m→∃ a∈l,∃ b∈m,x=f a b
 | [],_,_,h=>by simp at h
 | _::_,[],_,h=>by simp at h
 | a::l,b::m,x,h=>by
  rw[List.zipWith_cons_cons]at h
  rcases zaa.mp h with rfl | h
  ·exact⟨a,zad ..,b,zad ..,rfl⟩
  ·obtain⟨a',ha,b',hb,e⟩:=f6 h
   exact⟨a',zac _ ha,b',zac _ hb,e⟩
theorem zip_nd1{α β:Type}{h:Ho}:∀ {l:List α} {m:List β},l.Nodup→((List.zipWith (fun a b=>(h,a,b)) l m).map fun x=>(x.1,x.2.1)).Nodup
 | [],_,_=>by simp
 | _::_,[],_=>by simp
 | a::l,b::m,nd=>by
  rw[zbb]at nd
  rw[List.zipWith_cons_cons,zay,zbb]
  refine⟨fun hm=>?_,zip_nd1 nd.2⟩
  obtain⟨x,hx,e⟩:=za6.mp hm
  obtain⟨a',ha',b',hb',rfl⟩:=f6 hx
  have e2:a'=a:=(Prod.mk.inj e).2
  exact nd.1 (e2▸ha')
theorem zip_nd2{α β:Type}{h:Ho}:∀ {l:List α} {m:List β},m.Nodup→((List.zipWith (fun a b=>(h,a,b)) l m).map fun x=>(x.1,x.2.2)).Nodup
 | [],_,_=>by simp
 | _::_,[],_=>by simp
 | a::l,b::m,nd=>by
  rw[zbb]at nd
  rw[List.zipWith_cons_cons,zay,zbb]
  refine⟨fun hm=>?_,zip_nd2 nd.2⟩
  obtain⟨x,hx,e⟩:=za6.mp hm
  obtain⟨a',ha',b',hb',rfl⟩:=f6 hx
  have e2:b'=b:=(Prod.mk.inj e).2
  exact nd.1 (e2▸hb')
theorem gN{ls:List Ln}{h:Ho}{a:Ln}(m:a∈atLn ls h):a∈ls∧cj a h:=by
 obtain⟨h1,h2⟩:=zbf.mp m
 refine⟨h1,?_⟩
 unfold cj
 simpa using h2
theorem tiesT_ok{fs bs:List Ln}{hs:List Ho}(nf:fs.Nodup)(nb:bs.Nodup)(nh:hs.Nodup):d7 fs bs (gw fs bs hs):=by
 refine⟨fun x hx=>?_,?_,?_⟩
 ·obtain⟨l,hl,hm⟩:=zbj.mp hx
  obtain⟨h,hh,rfl⟩:=za6.mp hl
  obtain⟨a,ha,b,hb,rfl⟩:=f6 hm
  exact⟨(gN ha).1,(gN hb).1,(gN ha).2,(gN hb).2⟩
 ·unfold gw
  rw[List.map_flatten,List.map_map]
  refine nd_flat nh (fun h=>zip_nd1 (nf.filter _)) fun h x hx=>?_
  obtain⟨y,hy,rfl⟩:=za6.mp hx
  obtain⟨a,ha,b,hb,rfl⟩:=f6 hy
  rfl
 ·unfold gw
  rw[List.map_flatten,List.map_map]
  refine nd_flat nh (fun h=>zip_nd2 (nb.filter _)) fun h x hx=>?_
  obtain⟨y,hy,rfl⟩:=za6.mp hx
  obtain⟨a,ha,b,hb,rfl⟩:=f6 hy
  rfl
theorem d7.len'{fs bs:List Ln}{T:List Tie}(k:d7 fs bs T):T.length≤2*fs.length:=by
 have e:(fs.map fun a=>[(a.1,a),(a.2,a)]).flatten.length=2*fs.length:=by
  induction fs with
  | nil=>rfl
  | cons a fs ih =>
   rw[zay,List.flatten_cons,za1,zah]
   have:(List.map (fun a=>[(a.1,a),(a.2,a)]) fs).flatten.length=2*fs.length:=by
    clear ih k
    induction fs with
    | nil=>rfl
    | cons a fs ih =>
     rw[zay,List.flatten_cons,za1,ih,zah]
     show 2+2*fs.length=2*(fs.length+1)
     omega
   rw[this]
   show 2+2*fs.length=2*(fs.length+1)
   omega
 have:(T.map fun x=>(x.1,x.2.1)).length≤(fs.map fun a=>[(a.1,a),(a.2,a)]).flatten.length:=List.Nodup.length_le_of_subset k.f1 fun y hy=>by
  obtain⟨x,hx,rfl⟩:=za6.mp hy
  obtain⟨h1,_,h2,_⟩:=k.mem x hx
  refine zbj.mpr ⟨_,za6.mpr ⟨x.2.1,h1,rfl⟩,?_⟩
  rcases h2 with e | e
  ·rw[← e];simp
  ·rw[← e];simp
 rw[za0,e]at this
 exact this
theorem fS_ne{a b:Bool}(h:a≠b):V.str (fS a)≠V.str (fS b):=fun e=>h (fS_inj (V.str.inj e))
theorem th_of{H:Hp}{v:V}{t:Thd}(h:DtIs H v (thD t)):∃ r hh vs,v=.ref r∧H r=some (.tup [.str (fS t.1),.ref hh])∧H hh=some (.tup vs)∧ac H vs (t.2.map hD):=by
 unfold thD at h
 cases h with
 | tup e h1 =>
  cases h1 with
  | cons q1 t1 =>
   cases q1
   cases t1 with
   | cons q2 t2 =>
    cases t2
    cases q2 with
    | tup e2 h2=>exact⟨_,_,_,rfl,e,e2,h2⟩
theorem th_mk{H:Hp}{r hh:Addr}{t:Thd}(e:H r=some (.tup [.str (fS t.1),.ref hh]))(h:ThT H hh t.2):DtIs H (.ref r) (thD t):=.tup e (.cons (.str _) (.cons h.dt .nil))
theorem hDs_dp{hs:List Ho}:∀ d∈hs.map hD,d.dp≤50:=fun d hd=>by
 obtain⟨h,_,rfl⟩:=za6.mp hd
 rw[iC];decide
theorem hZ{H:Hp}:∀ {vs:List V} {ds:List Dt},ac H vs ds→∀ n:Nat,ac H (vs.take n) (ds.take n)
 | _,_,.nil,_=>by rw[List.take_nil,List.take_nil];exact .nil
 | _,_,.cons _ _,0=>.nil
 | _,_,.cons q t,n+1=>.cons q (hZ t n)
theorem jy{H:Hp}:∀ {vs:List V} {ds:List Dt},ac H vs ds→∀ n:Nat,ac H (vs.drop n) (ds.drop n)
 | _,_,.nil,_=>by rw[List.drop_nil,List.drop_nil];exact .nil
 | _,_,.cons q t,0=>.cons q t
 | _,_,.cons _ t,n+1=>jy t n
theorem j6{H:Hp}:∀ {vs us:List V} {ds es:List Dt},ac H vs ds→ac H us es→ac H (vs++us) (ds++es)
 | _,_,_,_,.nil,h=>h
 | _,_,_,_,.cons q t,h=>.cons q (j6 t h)
theorem dts_rev{H:Hp}:∀ {vs:List V} {ds:List Dt},ac H vs ds→ac H vs.reverse ds.reverse
 | _,_,.nil=>.nil
 | _,_,.cons q t=>by rw[zc0,zc0];exact j6 (dts_rev t) (.cons q .nil)
theorem cut_in{vs:List V}{n:Nat}(h:n≤vs.length)(h1:1≤vs.length):cutV vs (some (n:Int)) (some (-1))=(vs.drop n).take (vs.length-1-n):=by
 unfold cutV
 rw[HT.f7,Nat.min_eq_left h]
 have:HT.sIx vs.length vs.length (some (-1))=vs.length-1:=by
  simp only[HT.sIx]
  rw[if_pos (by decide)]
  omega
 rw[this]
theorem cut_lo'{vs:List V}{n:Nat}(h:n≤vs.length):cutV vs (some (n:Int)) none=vs.drop n:=by
 unfold cutV
 rw[HT.f7,HT.sIx_none,Nat.min_eq_left h,zas]
 rw[zb9]
 exact za4 _
theorem cut_hi'{vs:List V}{n:Nat}(h:n≤vs.length):cutV vs none (some (n:Int))=vs.take n:=by
 unfold cutV
 rw[HT.f7,HT.sIx_none,Nat.min_eq_left h]
 simp
theorem sIx_m1{n:Nat}(h:1≤n)(d:Nat):HT.sIx n d (some (-1))=n-1:=by
 simp only[HT.sIx]
 rw[if_pos (by decide)]
 omega
theorem idx_some{h:Ho}{l:List Ho}(m:h∈l):(l.map hD)[l.idxOf h]?=some (hD h)∧∀ j,j<l.idxOf h→(l.map hD)[j]?≠some (hD h):=by
 obtain⟨A,B,e,hn,hi⟩:=split_at m
 rw[hi,e]
 refine⟨by simp,fun j hj=>?_⟩
 rw[zao,zal hj]
 intro z
 cases hz:A[j]? with
 | none=>rw[hz]at z;cases z
 | some x =>
  rw[hz]at z
  exact hn (bZ (Option.some.inj z)▸zak hz)
section
variable{P:Program}{w:World}{K:PySem.W.Frag}{mg:Str→Option Value}{base:Heap}
def spFace:Sp:=fun vs H Q _=>∃ b:Bool,vs=[.str (fS b)]∧Q (.str (fS (!b))) H
theorem scFace:aS ["face"] ["face"] (ab iq):=⟨rfl,rfl,rfl,by decide +kernel,rfl,by decide +kernel,by decide +kernel⟩
theorem ok_face{f:Addr}{fd:FuncData}(D:Df K mg "other_face" iq f fd):FnOk P w K mg base CX0 1 f fd ["face"] spFace:=by
 refine D.F.ok scFace (fun vs H Q E h=>?_) (fun cdv A outer s H vs Q E hr h=>?_)
 ·obtain⟨b,rfl,_⟩:=h
  rfl
 ·obtain⟨b,rfl,z⟩:=h
  refine⟨_,(ag (aD (iU (ar jJ (pv 0) c7 (b9 _)) c7 c7))),?_⟩
  cases b with
  | true=>exact⟨_,rfl,rfl,_,rfl,f9 rfl z⟩
  | false=>exact⟨_,rfl,rfl,_,rfl,dY (by decide +kernel) z⟩
def iK:Sp:=fun vs H Q _=>∃ (t hh:Addr) (f:Bool) (i:Nat),vs=[.ref t,.int (i:Int)]∧H t=some (.tup [.str (fS f),.ref hh])∧Q (.str (fS (ae f i))) H
theorem scFaceAt:aS ["thread","at"] ["thread","at"] (ab f8):=⟨rfl,rfl,rfl,by decide +kernel,rfl,by decide +kernel,by decide +kernel⟩
theorem ok_faceAt{f fF:Addr}{fd fdF:FuncData}(D:Df K mg "face_at" f8 f fd)(DF:Df K mg "other_face" iq fF fdF)(bF:bh K fdF ["face"] [])(GF:FnOk P w K mg base CX0 1 fF fdF ["face"] spFace):FnOk P w K mg base CX0 2 f fd ["thread","at"] iK:=by
 refine D.F.ok scFaceAt (fun vs H Q E h=>?_) (fun cdv A outer s H vs Q E hr h=>?_)
 ·obtain⟨t,hh,f,i,rfl,_⟩:=h
  rfl
 ·obtain⟨t,hh,f,i,rfl,et,z⟩:=h
  refine⟨_,(ag (aD (iU (ar jJ (ah bw (pv 1) a8) a8 (b9 _)) (b6 aw (pv 0) a8 (fun _ _=>rfl)) (pec GF hr rfl DF.m DF.F.kp bF .nil bf (pac (b6 aw (pv 0) a8 (fun _ _=>rfl)) a9))))),?_⟩
  refine⟨_,rfl,_,_,rfl,rfl,(by show(0:Int)<_;decide),rfl,_,rfl,ifC (fun e=>?_) (fun e=>?_)⟩
  ·refine⟨_,rfl,t,_,_,_,rfl,rfl,SqT.of et,rfl,?_⟩
   have:i % 2=0:=by have:=V.int.inj (of_decide_eq_true e);omega
   rw[gK this]at z
   exact z
  ·refine⟨_,rfl,t,_,_,_,rfl,rfl,SqT.of et,rfl,f,rfl,?_⟩
   have:¬ i % 2=0:=fun e'=>of_decide_eq_false e (congrArg V.int (by omega))
   have ef:ae f i=!f:=by unfold ae;rw[if_neg this]
   rw[ef]at z
   exact z
def spBegun:Sp:=fun vs H Q _=>∃ (rr q:Addr) (r:Thd) (h:Ho) (f:Bool),vs=[.ref rr,.ref q,.str (fS f)]∧DtIs H (.ref rr) (thD r)∧two H q h∧Rg r∧h∈r.2∧r.2.length≤400∧∀ b H',Same H H'→ThT H' b (begun r h f)→Q (.ref b) H'
theorem scBegun:aS ["ring","hole","face","at","holes"] ["ring","hole","face"] (ab ir):=⟨rfl,rfl,rfl,by decide +kernel,rfl,by decide +kernel,by decide +kernel⟩
theorem ok_begun{f fF:Addr}{fd fdF:FuncData}(D:Df K mg "begun_at" ir f fd)(DF:Df K mg "face_at" f8 fF fdF)(bF:bh K fdF ["thread","at"] [])(GF:FnOk P w K mg base CX0 2 fF fdF ["thread","at"] iK):FnOk P w K mg base CX0 3 f fd ["ring","hole","face"] spBegun:=by
 refine D.F.ok scBegun (fun vs H Q E h=>?_) (fun cdv A outer s H vs Q E hr h=>?_)
 ·obtain⟨rr,q,r,h,f,rfl,_⟩:=h
  rfl
 ·obtain⟨rr,q,r,h,f,rfl,dr,tq,kr,hm,hl,z⟩:=h
  refine⟨_,(aa (ai (i:=3) scBegun.nd rfl (Or.inl rfl) (pe_bmT PySem.F.slot_tuple_index PySem.F.type_tuple_index (mt_tIndex hr) (b6 aw (pv 0) a8 (fun _ _=>rfl)) (pac (pv 1) a9)))
   (aa (ai (i:=4) scBegun.nd rfl (Or.inl rfl) (ah op_catT (gF sl_tup (b6 aw (pv 0) a8 (fun _ _=>rfl)) (gj (pv 3)) (gj (pe_un un_neg a8))) (gF sl_tup (b6 aw (pv 0) a8 (fun _ _=>rfl)) po_none (gj (ah df (pv 3) a8)))))
   (ag (aD (iU (ar jJ (pec GF hr rfl DF.m DF.F.kp bF .nil bf (pac (pv 0) (pac (pv 3) a9))) (pv 2) (b9 _)) (pv 4) (pe_rev rv_tup (pv 4) (pe_un un_neg a8))))))),?_⟩
  obtain⟨r1,hh,vs,e0,er,eh,dh⟩:=th_of dr
  cases e0
  have vl:vs.length=r.2.length:=by rw[dh.length,za0]
  obtain⟨i1,i2⟩:=idx_some hm
  obtain⟨A1,B1,a1,ec,hnA,hi,_,_⟩:=kr.cut hm
  have hlt:r.2.idxOf h+2≤r.2.length:=by rw[hi,ec];simp<;>omega
  refine⟨_,rfl,rr,_,_,_,rfl,rfl,SqT.of er,rfl,⟨hh,vs,rfl,eh⟩,_,rfl,hh,vs,_,_,hD h,r.2.idxOf h,rfl,rfl,SqT.of eh,dh,ao tq,hDs_dp,i1,i2,?_⟩
  have ebg:∀ f,begun r h f=if ae r.1 (r.2.idxOf h)=f then (r.2.drop (r.2.idxOf h)).take (r.2.length-1-r.2.idxOf h)++r.2.take (r.2.idxOf h+1) else ((r.2.drop (r.2.idxOf h)).take (r.2.length-1-r.2.idxOf h)++r.2.take (r.2.idxOf h+1)).reverse:=fun f=>rfl
  revert hlt ebg
  generalize r.2.idxOf h=i
  intro hlt ebg
  refine⟨_,rfl,rr,_,_,_,rfl,rfl,SqT.of er,rfl,_,rfl,_,rfl,_,rfl,_,rfl,hh,vs,rfl,SqT.of eh,?_,fun p1 n1=>?_⟩
  ·rintro⟨_,c⟩
   have c:HT.sIx vs.length vs.length (some (-1))=vs.length:=c
   rw[sIx_m1 (by omega)]at c
   omega
  have c1:cutV vs (some (i:Int)) (some (-1))=(vs.drop i).take (vs.length-1-i):=cut_in (by omega) (by omega)
  have T1:=a7 (o:=HO.tup (cutV vs (some (i:Int)) (some (-1)))) n1
  refine⟨_,rfl,rr,_,_,_,rfl,rfl,SqT.of (T1 _ _ er),rfl,_,rfl,_,_,rfl,rfl,_,rfl,hh,vs,rfl,SqT.of (T1 _ _ eh),?_,fun p2 n2=>?_⟩
  ·rintro⟨_,c⟩
   have c:HT.sIx vs.length vs.length (some ((i:Int)+1))=vs.length:=c
   rw[show((i:Int)+1)=((i+1:Nat):Int) by omega,HT.f7]at c
   omega
  have c2:cutV vs none (some ((i:Int)+1))=vs.take (i+1):=by rw[show((i:Int)+1)=((i+1:Nat):Int) by omega];exact cut_hi' (by omega)
  have T2:=a7 (o:=HO.tup (cutV vs none (some ((i:Int)+1)))) n2
  have k1:1≤(cutV vs (some (i:Int)) (some (-1))).length:=by rw[c1,zan,zb9];omega
  have k2:(cutV vs none (some ((i:Int)+1))).length≠0:=by rw[c2,zan];omega
  refine⟨p1,p2,_,_,rfl,rfl,SqT.of (T2 _ _ a6),SqT.of a6,fun e=>?_,?_,fun e=>?_,fun _ p3 n3=>?_⟩
  ·rw[e]at k1;cases k1
  ·have:=fb vs (some (i:Int)) (some (-1))
   have:=fb vs none (some ((i:Int)+1))
   exact sz (by omega)
  ·exact absurd (by rw[e];rfl) k2
  have T3:=a7 (o:=HO.tup (cutV vs (some (i:Int)) (some (-1))++cutV vs none (some ((i:Int)+1)))) n3
  have S3:=(T1.trans T2).trans T3
  have dcat:ac H (cutV vs (some (i:Int)) (some (-1))++cutV vs none (some ((i:Int)+1))) (((r.2.drop i).take (r.2.length-1-i)++r.2.take (i+1)).map hD):=by
   rw[c1,c2,zar,List.map_take,List.map_drop,List.map_take,vl]
   exact j6 (hZ (jy dh _) _) (hZ dh _)
  have e3:(upd (upd (upd H p1 (.tup (cutV vs (some (i:Int)) (some (-1))))) p2 (.tup (cutV vs none (some ((i:Int)+1))))) p3 (.tup (cutV vs (some (i:Int)) (some (-1))++cutV vs none (some ((i:Int)+1))))) p3=some (.tup (cutV vs (some (i:Int)) (some (-1))++cutV vs none (some ((i:Int)+1)))):=a6
  revert S3 e3 dcat
  generalize (upd (upd (upd H p1 (.tup (cutV vs (some (i:Int)) (some (-1))))) p2 (.tup (cutV vs none (some ((i:Int)+1))))) p3 (.tup (cutV vs (some (i:Int)) (some (-1))++cutV vs none (some ((i:Int)+1)))))=H3
  generalize cutV vs (some (i:Int)) (some (-1))++cutV vs none (some ((i:Int)+1))=hv
  intro S3 dcat e3
  refine⟨_,rfl,_,rfl,rr,hh,r.1,i,rfl,S3 _ _ er,_,rfl,rfl,_,rfl,?_⟩
  by_cases hf:ae r.1 i=f
  ·refine f9 (by rw[hf]) ⟨_,rfl,z p3 H3 S3 ⟨hv,e3,?_⟩⟩
   rw[ebg,if_pos hf]
   exact dcat.same S3
  ·refine dY (fS_ne hf) ⟨_,rfl,_,rfl,rfl,_,_,rfl,SqT.of e3,fun p4 n4=>?_⟩
   refine z p4 _ (S3.trans (a7 n4)) ⟨hv.reverse,a6,?_⟩
   rw[ebg,if_neg hf,List.map_reverse]
   exact dts_rev (dcat.same (S3.trans (a7 n4)))
end
theorem for_enumT{K:PySem.W.Frag}{a:Addr}{xs:List V}{g:TG}{tb:TS}{D:Ends}{σ:L2.St}{H:Hp}(Pv:Nat→L2.St→Hp→Prop)(h0:Pv 0 σ H)(hl:∀ i σ H,i≤xs.length→Pv i σ H→SqT K H a xs)
  (hs:∀ i x p σ H,xs[i]?=some x→Pv i σ H→H p=none→g (.ref p) σ (upd H p (.tup [.int i,x])) fun σ2 H2=>tb { D with nx:=Pv (i+1),ct:=Pv (i+1),bk:=D.nx } σ2 H2) (hd:∀ σ H,Pv xs.length σ H→D.nx σ H) :
  ∃ W:Nat→Nat→L2.St→Hp→Prop,(∃ m,W 0 m σ H)∧∀ i m σ H,W i m σ H →
   ((Iet K a).stop i H∧D.nx σ H)∨((Iet K a).go i H∧∃ N:L2.St→Hp→Prop,(∀ σ' H',N σ' H'→∃ m',m'<m∧W (i+1) m' σ' H')∧∀ x H',(Iet K a).yld i H x H'→g x σ H' fun σ2 H2=>tb { D with nx:=N,ct:=N,bk:=D.nx } σ2 H2):=by
 refine⟨fun i m σ H=>m=xs.length-i∧i≤xs.length∧Pv i σ H,⟨xs.length,by simp,zba _,h0⟩,?_⟩
 rintro i m σ H ⟨rfl,hi,p⟩
 have q:=hl i σ H hi p
 by_cases hlt:i<xs.length
 ·refine .inr ⟨⟨xs,xs[i],q,by simp[hlt]⟩,Pv (i+1),fun σ' H' p'=>⟨xs.length-(i+1),by omega,rfl,hlt,p'⟩,fun v H' y=>?_⟩
  obtain⟨r,x,rfl,hr,rfl,e1⟩:=y
  exact hs i x r σ H (e1 xs q) p hr
 ·have e:i=xs.length:=by omega
  subst e
  exact .inl ⟨⟨xs,q,za4 _⟩,hd σ H p⟩
theorem withG_step{r:Thd}{f:Bool}{l:List Ho}{i:Nat}{h:Ho}(e:l[i]?=some h):ft r f (l.take i) (l.drop i)=if h∈r.2 then some (l.take i++begun r h (ae f i)++l.drop (i+1)) else ft r f (l.take (i+1)) (l.drop (i+1)):=by
 obtain⟨hi,e1⟩:=za3.mp e
 rw[List.drop_eq_getElem_cons hi,e1,ft,zan,Nat.min_eq_left (by omega)]
 have:l.take (i+1)=l.take i++[h]:=by rw[zb0,e];rfl
 rw[this]
theorem takG_step{r:Thd}{l:List Thd}{i:Nat}{t:Thd}(e:l[i]?=some t):takG r (l.take i) (l.drop i)=match cg t r with
  | some u=>some (l.set i u)
  | none=>takG r (l.take (i+1)) (l.drop (i+1)):=by
 obtain⟨hi,e1⟩:=za3.mp e
 have hs:∀ u,l.set i u=l.take i++u::l.drop (i+1):=fun u=>by
  rw[List.set_eq_take_append_cons_drop,if_pos hi]
 rw[List.drop_eq_getElem_cons hi,e1,takG]
 have:l.take (i+1)=l.take i++[t]:=by rw[zb0,e];rfl
 rw[this]
 cases cg t r with
 | none=>rfl
 | some u=>simp only[hs u]
theorem with_tail{K:PySem.W.Frag}{σ:L2.St}{H:Hp}{c th:Addr}{cv tv:List V}{cs hs:List Ho}{i:Nat}{Q:VK}(s2:σ[2]?=some (some (.ref th)))(s3:σ[3]?=some (some (.int (i:Int))))(eth:H th=some (.tup tv))(dth:ac H tv (hs.map hD))
  (ec:H c=some (.tup cv)) (dc:ac H cv (cs.map hD)) (hl:cv.length+tv.length≤900) (ne:cv≠[]) (hi:i<hs.length) (z:∀ d H',Same H H'→ThT H' d (cs++hs.drop (i+1))→Q (.ref d) H') :
  tSl (rSlT K) (tVar 2) (tPart (tOp (rI0 fun i j=>.int (i+j)) (tVar 3) (tC (.int 1)))) tNoPart σ H fun y H'=>rCatA K (.ref c) y H' Q:=by
 have tvl:tv.length=hs.length:=by rw[dth.length,za0]
 refine⟨_,s2,_,s3,⟨_,_,rfl,rfl,_,rfl,th,tv,rfl,SqT.of eth,?_,fun p n=>?_⟩⟩
 ·rintro⟨c',_⟩
  have c':HT.sIx tv.length 0 (some ((i:Int)+1))=0:=c'
  rw[show((i:Int)+1)=((i+1:Nat):Int) by omega,HT.f7]at c'
  omega
 ·have c1:cutV tv (some ((i:Int)+1)) none=tv.drop (i+1):=by rw[show((i:Int)+1)=((i+1:Nat):Int) by omega];exact cut_lo' (by omega)
  rw[c1]
  have T1:=a7 (o:=HO.tup (tv.drop (i+1))) n
  have d1:ac H (tv.drop (i+1)) ((hs.drop (i+1)).map hD):=by rw[List.map_drop];exact jy dth _
  refine⟨c,p,cv,_,rfl,rfl,SqT.of (T1 _ _ ec),SqT.of a6,sz (by rw[zb9];omega),fun e=>absurd e ne,fun _ e=>?_,fun _ _ d nd=>?_⟩
  ·refine z c _ T1 ⟨cv,T1 _ _ ec,?_⟩
   have:hs.drop (i+1)=[]:=by
    have:=congrArg List.length e
    rw[zb9,zbc]at this
    exact zbp (by omega)
   rw[this,zau]
   exact dc.same T1
  ·have T2:=T1.trans (a7 (o:=HO.tup (cv++tv.drop (i+1))) nd)
   refine z d _ T2 ⟨_,a6,?_⟩
   rw[zar]
   exact j6 (dc.same T2) (d1.same T2)
section
variable{P:Program}{w:World}{K:PySem.W.Frag}{mg:Str→Option Value}{base:Heap}
def spWithR:Sp:=fun vs H Q _=>∃ (tr rr:Addr) (t r:Thd),vs=[.ref tr,.ref rr]∧DtIs H (.ref tr) (thD t)∧DtIs H (.ref rr) (thD r)∧Rg r∧t.2.length+r.2.length≤400 ∧
 (∀ l u H',Same H H'→cg t r=some l→DtIs H' (.ref u) (thD l)→Q (.ref u) H')∧∀ H',Same H H'→cg t r=none→Q .non H'
theorem jQ:aS ["thread","ring","holes","at","hole"] ["thread","ring"] (ab im):=⟨rfl,rfl,rfl,by decide +kernel,rfl,by decide +kernel,by decide +kernel⟩
theorem ok_withR{f fA fB:Addr}{fd fdA fdB:FuncData}(D:Df K mg "with_ring" im f fd)(DA:Df K mg "face_at" f8 fA fdA)(bA:bh K fdA ["thread","at"] [])(GA:FnOk P w K mg base CX0 2 fA fdA ["thread","at"] iK)
  (DB:Df K mg "begun_at" ir fB fdB) (bB:bh K fdB ["ring","hole","face"] []) (GB:FnOk P w K mg base CX0 3 fB fdB ["ring","hole","face"] spBegun) (henum:mg "enumerate"=none):FnOk P w K mg base CX0 4 f fd ["thread","ring"] spWithR:=by
 refine D.F.ok jQ (fun vs H Q E h=>?_) (fun cdv A outer s H vs Q E hr h=>?_)
 ·obtain⟨tr,rr,t,r,rfl,_⟩:=h
  rfl
 ·obtain⟨tr,rr,t,r,rfl,dt,dr,kr,hl,z1,z2⟩:=h
  have hr2:Room 2 _:=hr.mono (by decide)
  refine⟨_,(aa (ai (i:=2) jQ.nd rfl (Or.inl rfl) (b6 aw (pv 0) a8 (fun _ _=>rfl)))
   (aa (cp PassesOwn.never rfl (pi_enumT rfl henum (pac (pv 2) a9)) (fk rfl (b0 (al (i:=3) jQ.nd rfl (Or.inl rfl)) (b0 (al (i:=4) jQ.nd rfl (Or.inl rfl)) dX))) (ag (dE (ar (op_inTp hr) (pv 4) (b6 aw (pv 1) a8 (fun _ _=>rfl)) rfl) (ag (aD (ap (pac (b6 aw (pv 0) a8 (fun _ _=>rfl)) (pac (ah op_catA (ah op_catA (gF sl_tup (pv 2) po_none (gj (pv 3))) (pec GB hr rfl DB.m DB.F.kp bB .nil bf (pac (pv 1) (pac (pv 4) (pac (pec GA hr2 rfl DA.m DA.F.kp bA .nil bf (pac (pv 0) (pac (pv 3) a9))) a9))))) (gF sl_tup (pv 2) (gj (ah df (pv 3) a8)) po_none)) a9))))) bm)))
   (ag (aD jt)))),?_⟩
  obtain⟨_,th,tv,e0,et,eth,dth⟩:=th_of dt
  cases e0
  obtain⟨_,rh,rv,e0,er,erh,drh⟩:=th_of dr
  cases e0
  have tvl:tv.length=t.2.length:=by rw[dth.length,za0]
  refine⟨_,rfl,tr,_,_,_,rfl,rfl,SqT.of et,rfl,?_⟩
  refine⟨_,rfl,th,tv,rfl,SqT.of eth,?_⟩
  refine for_enumT (K:=K) (a:=th) (xs:=tv) (fun i σ H2=>(∃ v3 v4,σ=[some (.ref tr),some (.ref rr),some (.ref th),v3,v4])∧Same H H2∧ft r t.1 [] t.2=ft r t.1 (t.2.take i) (t.2.drop i))
   ⟨⟨_,_,rfl⟩,Same.refl _,by rw[zb3,List.drop_zero]⟩ (fun i σ H2 _ ⟨_,s2,_⟩=>SqT.of (s2 _ _ eth)) ?_ ?_
  ·rintro i x p σ H2 hx ⟨⟨v3,v4,rfl⟩,S2,ew⟩ np
   obtain⟨q,h,rfl,hh,tq⟩:=jC dth hx
   have hi:i<t.2.length:=(za3.mp hh).1
   rw[withG_step hh]at ew
   have T3:=a7 (o:=HO.tup [V.int (i:Int),V.ref q]) np
   have S3:=S2.trans T3
   refine⟨p,_,rfl,SqT.of a6,rfl,_,_,rfl,_,_,rfl,rfl,?_⟩
   revert S3
   generalize (upd H2 p (.tup [V.int (i:Int),V.ref q]))=H3
   intro S3
   refine⟨_,rfl,_,rfl,rr,_,_,_,rfl,rfl,SqT.of (S3 _ _ er),rfl,rh,rv,_,hD h,rfl,ao (S3 _ _ tq),SqT.of (S3 _ _ erh),drh.same S3,hDs_dp,_,rfl,?_⟩
   have key:((r.2.map hD).any fun d'=>Dt.beq d' (hD h))=decide (h∈r.2):=by
    rw[Bool.eq_iff_iff,List.any_eq_true,decide_eq_true_eq]
    constructor
    ·rintro⟨d,hd,e⟩
     obtain⟨g,hg,rfl⟩:=za6.mp hd
     have:g=h:=by
      refine Classical.byContradiction fun ne=>?_
      rw[Dt.beq_false.mpr fun z=>ne (bZ z)]at e
      cases e
     exact this▸hg
    ·exact fun hm=>⟨hD h,za6.mpr ⟨h,hm,rfl⟩,Dt.beq_self _⟩
   rw[key]
   by_cases hm:h∈r.2
   ·refine f9 hm ?_
    rw[if_pos hm]at ew
    refine⟨_,rfl,tr,_,_,_,rfl,rfl,SqT.of (S3 _ _ et),rfl,?_⟩
    refine⟨_,rfl,_,rfl,_,rfl,th,tv,rfl,SqT.of (S3 _ _ eth),?_,fun p1 n1=>?_⟩
    ·rintro⟨_,c⟩
     have c:HT.sIx tv.length tv.length (some (i:Int))=tv.length:=c
     rw[HT.f7]at c
     omega
    have c1:cutV tv none (some (i:Int))=tv.take i:=cut_hi' (by omega)
    rw[c1]
    rw[c1]at *
    have T4:=a7 (o:=HO.tup (tv.take i)) n1
    have S4:=S3.trans T4
    have e1:(upd H3 p1 (.tup (tv.take i))) p1=some (.tup (tv.take i)):=a6
    revert S4 e1
    generalize (upd H3 p1 (.tup (tv.take i)))=H4
    intro S4 e1
    refine⟨_,rfl,_,rfl,_,rfl,_,rfl,tr,th,t.1,i,rfl,S4 _ _ et,?_⟩
    refine⟨rr,q,r,h,ae t.1 i,rfl,dr.same S4,S4 _ _ tq,kr,hm,by omega,fun b H5 S5 tb=>?_⟩
    obtain⟨bv,eb,db⟩:=tb
    have S45:=S4.trans S5
    obtain⟨M,_,bl,_⟩:=kr.begun hm (ae t.1 i)
    have bvl:bv.length=r.2.length:=by rw[db.length,za0,bl]
    have bne:bv≠[]:=fun e=>by
     have:=kr.len
     rw[e]at bvl
     rw[← bvl]at this
     cases this
    have d1:ac H5 (tv.take i) ((t.2.take i).map hD):=by rw[List.map_take];exact hZ (dth.same S45) _
    have fin:∀ (d:Addr) (H6:Hp),Same H H6→ThT H6 d (t.2.take i++begun r h (ae t.1 i)++t.2.drop (i+1))→[V.str (fS t.1),V.ref d].length≤sizeLine∧∀ p,H6 p=none→Q (.ref p) (upd H6 p (.tup [V.str (fS t.1),V.ref d])):=fun d H6 S6 td=>by
     refine⟨szr rfl,fun p np=>?_⟩
     have T7:=a7 (o:=HO.tup [V.str (fS t.1),V.ref d]) np
     refine z1 (t.1,t.2.take i++begun r h (ae t.1 i)++t.2.drop (i+1)) p _ (S6.trans T7) ?_ (th_mk a6 (td.same T7))
     unfold cg
     rw[ew]
     rfl
    refine⟨p1,b,_,_,rfl,rfl,SqT.of (S5 _ _ e1),SqT.of eb,sz (by rw[zan];omega),fun e=>?_,fun _ e=>absurd e bne,fun ne _ p2 n2=>?_⟩
    ·have hi0:i=0:=by
      have:=congrArg List.length e
      rw[zan,zbc]at this
      omega
     subst hi0
     refine with_tail (hs:=t.2) (cs:=begun r h (ae t.1 0)) rfl rfl (S45 _ _ eth) (dth.same S45) eb db (by omega) bne hi fun d H6 S6 td=>fin d H6 (S45.trans S6) ?_
     rw[zb3,zbr]
     exact td
    ·have T6:=a7 (o:=HO.tup (tv.take i++bv)) n2
     refine with_tail (hs:=t.2) (cs:=t.2.take i++begun r h (ae t.1 i)) rfl rfl ((S45.trans T6) _ _ eth) (dth.same (S45.trans T6)) a6 ?_ ?_ ?_ hi fun d H6 S6 td=>fin d H6 ((S45.trans T6).trans S6) td
     ·rw[zar]
      exact j6 (d1.same T6) (db.same T6)
     ·rw[za1,zan]
      omega
     ·intro e
      exact bne (List.append_eq_nil_iff.mp e).2
   ·refine dY hm ?_
    rw[if_neg hm]at ew
    exact⟨⟨_,_,rfl⟩,S3,ew⟩
  ·rintro σ H2 ⟨⟨v3,v4,rfl⟩,S2,ew⟩
   rw[List.drop_of_length_le (by omega),ft]at ew
   exact z2 H2 S2 (by unfold cg;rw[ew];rfl)
end
theorem same_both{H H':Hp}{d:Addr}{o:HO}(s:Same H H'):Same (upd H d o) (upd H' d o):=fun b v hb=>by
 by_cases e:b=d
 ·subst e
  rw[a6]at hb ⊢
  exact hb
 ·rw[af e]at hb ⊢
  exact s b v hb
theorem dts_set{H:Hp}{v:V}{d:Dt}(h:DtIs H v d):∀ {vs:List V} {ds:List Dt},ac H vs ds→∀ i:Nat,ac H (vs.set i v) (ds.set i d)
 | _,_,.nil,_=>.nil
 | _,_,.cons _ t,0=>.cons h t
 | _,_,.cons q t,i+1=>.cons q (dts_set h t i)
theorem dth_at{H:Hp}{vs:List V}{ts:List Thd}(h:ac H vs (ts.map thD)){i:Nat}{t:Thd}(e:ts[i]?=some t):∃ r,vs[i]?=some (.ref r)∧DtIs H (.ref r) (thD t):=by
 have hi:i<vs.length:=by
  rw[h.length,za0]
  exact(za3.mp e).1
 obtain⟨d,ed,dv⟩:=h.at i vs[i] (za2 hi)
 rw[zao,e]at ed
 cases ed
 obtain⟨r,_,_,e0,_⟩:=th_of dv
 rw[e0]at dv
 exact⟨r,by rw[za2 hi,e0],dv⟩
section
variable{P:Program}{w:World}{K:PySem.W.Frag}{mg:Str→Option Value}{base:Heap}
def spTaken:Sp:=fun vs H Q _=>∃ (L rr:Addr) (ts:List Thd) (r:Thd),vs=[.ref L,.ref rr]∧DtL H L (ts.map thD)∧DtIs H (.ref rr) (thD r)∧Rg r∧(∀ t∈ts,t.2.length+r.2.length≤400)∧ts.length≤300 ∧
 (∀ o ts' H',takR ts r=some ts'→Same (upd H L o) H'→DtL H' L (ts'.map thD)→Q (.bl true) H')∧∀ H',takR ts r=none→Same H H'→Q (.bl false) H'
theorem scTaken:aS ["threads","ring","at","longer"] ["threads","ring"] (ab io):=⟨rfl,rfl,rfl,by decide +kernel,rfl,by decide +kernel,by decide +kernel⟩
theorem ok_taken{f fW:Addr}{fd fdW:FuncData}(D:Df K mg "taken_in" io f fd)(DW:Df K mg "with_ring" im fW fdW)(bW:bh K fdW ["thread","ring"] [])(GW:FnOk P w K mg base CX0 4 fW fdW ["thread","ring"] spWithR)(hrange:mg "range"=none)(hlen:mg "len"=none) :
  FnOk P w K mg base CX0 5 f fd ["threads","ring"] spTaken:=by
 refine D.F.ok scTaken (fun vs H Q E h=>?_) (fun cdv A outer s H vs Q E hr h=>?_)
 ·obtain⟨L,rr,ts,r,rfl,_⟩:=h
  rfl
 ·obtain⟨L,rr,ts,r,rfl,⟨lv,el,dl⟩,dr,kr,hl,tl,z1,z2⟩:=h
  have lvl:lv.length=ts.length:=by rw[dl.length,za0]
  refine⟨_,(aa (cp PassesOwn.never rfl (pi_range1 rfl hrange (pac (b7 ca (by rfl) hlen PySem.boot_len (pac (pv 0) a9)) a9)) (al (i:=2) scTaken.nd rfl (Or.inl rfl)) (aa (ai (i:=3) scTaken.nd rfl (Or.inl rfl) (pec GW hr rfl DW.m DW.F.kp bW .nil bf (pac (b6 ix_list (pv 0) (pv 2) (fun _ _=>rfl)) (pac (pv 1) a9))))
   (ag (dE (ar op_notN (pv 3) jt (b9 _)) (aa (ps_putL (pv 0) (pv 2) (pv 3) rfl)
   (ag (aD g5))) bm))))
   (ag (aD g5))),?_⟩
  refine⟨_,rfl,L,_,rfl,.inl (SqL.of el),_,rfl,by show -2 ^ 62≤(lv.length:Int);omega,by show(lv.length:Int)<2 ^ 62;omega,?_⟩
  rw[Int.toNat_natCast]
  refine for_range (fun i σ H2=>(∃ v2 v3,σ=[some (.ref L),some (.ref rr),v2,v3])∧Same H H2∧takR ts r=takG r (ts.take i) (ts.drop i))
   ⟨⟨_,_,rfl⟩,Same.refl _,by rw[zb3,List.drop_zero];rfl⟩ ?_ ?_
  ·rintro i σ H2 hi ⟨⟨v2,v3,rfl⟩,S2,et⟩
   have hi2:i<ts.length:=by omega
   obtain⟨t,hti,hmem⟩:∃ t,ts[i]?=some t∧t∈ts:=⟨ts[i],za2 hi2,zc8 hi2⟩
   rw[takG_step hti]at et
   obtain⟨tr,ei,dt⟩:=dth_at dl hti
   have ii:atI lv (0+(i:Int))=some (.ref tr):=by rw[Int.zero_add];exact jc ei
   refine⟨_,rfl,_,rfl,L,_,_,_,rfl,rfl,SqL.of (S2 _ _ el),ii,_,rfl,tr,rr,t,r,rfl,dt.same S2,dr.same S2,kr,hl t hmem,fun l u H3 S3 ew du=>?_,fun H3 S3 ew=>?_⟩
   ·rw[ew]at et
    have S23:=S2.trans S3
    refine⟨_,rfl,rfl,_,rfl,iteT ?_⟩
    refine⟨_,rfl,_,rfl,_,rfl,L,lv,i,_,rfl,rfl,Int.zero_add _,S23 _ _ el,hi,?_⟩
    refine z1 (.lst (lv.set i (.ref u))) _ _ et (same_both S23) ⟨_,a6,?_⟩
    rw[List.map_set]
    exact ac.updL (S23 _ _ el) (dts_set du (dl.same S23) i)
   ·rw[ew]at et
    exact⟨_,rfl,rfl,_,rfl,iteF ⟨⟨_,_,rfl⟩,S2.trans S3,et⟩⟩
  ·rintro σ H2 ⟨⟨v2,v3,rfl⟩,S2,et⟩
   rw[List.drop_of_length_le (by omega),takG]at et
   exact z2 H2 et S2
end
def thR(r:Row):Thd:=(r.f,r.hs)
def selR(c:Bool)(rows:List Row):List Thd:=(rows.filter fun r=>r.c==c).map thR
def tot(ts:List Thd):Nat:=(ts.map fun t=>t.2.length).sum
theorem iJ(a b:List Thd):tot (a++b)=tot a+tot b:=by simp[tot]
theorem cS(a:Thd)(b:List Thd):tot (a::b)=a.2.length+tot b:=by simp[tot]
theorem iI{t:Thd}:∀ {ts:List Thd},t∈ts→t.2.length≤tot ts
 | [],h=>nomatch h
 | a::ts,h=>by
  rw[cS]
  rcases zaa.mp h with rfl | h
  ·omega
  ·have:=iI h
   omega
theorem tot_take(ts:List Thd)(i:Nat):tot (ts.take i)≤tot ts:=by
 have:tot (ts.take i++ts.drop i)=tot (ts.take i)+tot (ts.drop i):=iJ _ _
 rw[zaz]at this
 omega
theorem with_len{t r l:Thd}(kr:Rg r)(e:cg t r=some l):l.2.length+1=t.2.length+r.2.length:=by
 obtain⟨A,h,B,e1,e2,_,rfl⟩:=d9 e
 obtain⟨_,_,bl,_⟩:=kr.begun e2 (ae t.1 A.length)
 show(A++begun r h (ae t.1 A.length)++B).length+1=_
 rw[za1,za1,bl,e1,za1,zah]
 omega
theorem tak_tot{ts ts':List Thd}{r:Thd}(kr:Rg r)(e:takR ts r=some ts'):tot ts'+1=tot ts+r.2.length∧ts'.length=ts.length:=by
 obtain⟨A,t,B,t',e1,e2,_,e4⟩:=eO e
 have:=with_len kr e2
 rw[e1,e4,zbr,iJ,iJ,cS,cS,za1,za1,zah,zah]
 omega
theorem tak_rg{ts ts':List Thd}{r:Thd}(kr:Rg r)(k:∀ t∈ts,Rg t)(e:takR ts r=some ts'):∀ t∈ts',Rg t:=by
 obtain⟨A,t,B,t',e1,e2,_,e4⟩:=eO e
 rw[e4,zbr]
 rw[e1]at k
 intro u hu
 rcases za9.mp hu with hu | hu
 ·exact k u (zae _ hu)
 ·rcases zaa.mp hu with rfl | hu
  ·exact(k t (za5 _ (zad ..))).with kr e2
  ·exact k u (za5 _ (zac _ hu))
theorem good_rg{T:List Tie}{r:Row}(g:gb T r)(c:r.c=true):Rg (thR r):=by
 obtain⟨s0,h0,hs',h,ps',p,e1,e2,e3,W,alt⟩:=g
 rw[if_pos c]at alt
 have hl:=W.len
 rw[za1,za1,zam,zam]at hl
 have hb:=W.hb
 cases hs' with
 | nil=>simp at hl
 | cons a m =>
  have:a=h0:=by simpa using hb
  refine⟨a,m,?_⟩
  show r.hs=_
  rw[e2,alt.1,this];rfl
theorem good_len{T:List Tie}{r:Row}(g:gb T r):r.hs.length=r.ps.length+1∧1≤r.ps.length:=by
 obtain⟨s0,h0,hs',h,ps',p,e1,e2,e3,W,alt⟩:=g
 rw[e2,e3,W.len]
 exact⟨rfl,by simp⟩
theorem rows_tot{T:List Tie}:∀ {rows:List Row},(∀ r∈rows,gb T r)→tot (selR false rows)+tot (selR true rows)≤2*(aj rows).length∧(selR false rows).length+(selR true rows).length≤(aj rows).length
 | [],_=>⟨za4 _,za4 _⟩
 | r::rows,g=>by
  obtain⟨i1,i2⟩:=rows_tot (rows:=rows) fun q hq=>g q (zac _ hq)
  obtain⟨l1,l2⟩:=good_len (g r (zad ..))
  have ul:(aj (r::rows)).length=r.ps.length+(aj rows).length:=by simp[aj]
  rw[ul]
  unfold selR at *
  cases hc:r.c with
  | true =>
   rw[zbn (by rw[hc];decide),zbm (by rw[hc];decide),zay,cS,zah]
   have:(thR r).2.length=r.ps.length+1:=l1
   omega
  | false =>
   rw[zbm (by rw[hc];decide),zbn (by rw[hc];decide),zay,cS,zah]
   have:(thR r).2.length=r.ps.length+1:=l1
   omega
theorem i3{H:Hp}{L M:Addr}{ys:List V}{o:HO}{ds:List Dt}(h:DtL H M ds)(eL:H L=some (.lst ys))(ne:M≠L):DtL (upd H L o) M ds:=by
 obtain⟨vs,e,d⟩:=h
 exact⟨vs,by rw[af ne];exact e,d.updL eL⟩
theorem fewG_step{told rs:List Thd}{r:Thd}:fewG (rs++[r]).length told (rs++[r])=match takR told r with
  | some told'=>fewG rs.length told' rs
  | none=>match takR rs r with
   | some rings'=>fewG rs.length told rings'
   | none=>fewG rs.length (told++[r]) rs:=by
 rw[za1,zam,fewG,eD,List.dropLast_concat]
 try rfl
section
variable{P:Program}{w:World}{K:PySem.W.Frag}{mg:Str→Option Value}{base:Heap}
theorem comp_rows{R L:Addr}{rv:List V}{rows:List Row}{c:Bool}{tt:TT}{H:Hp}{σ:L2.St}{Q:VK}(htt:∀ (v0:Option V) (b:Bool) (H:Hp) (Q:Bool→Hp→Prop),Q (b==c) H→tt [v0,some (.bl b)] H Q)(eR:H R=some (.lst rv))(dR:fq H rv rows)(ll:rows.length≤400)(nL:H L=none)
  (hσ:pick [none,none] σ=[none,none]) (z:∀ H',Same H H'→DtL H' L ((selR c rows).map thD)→Q (.ref L) H') :
  CompW (Itl K R) [none,none] (gTup K 2 (gCons (gJ 0) (gCons (gJ 1) gNil))) tt (tVar 0) σ H L Q:=by
 have rvl:=dR.1
 refine comp_n (J:=Itl K R) (n:=rv.length) (fun i σ2 H2=>(∃ v0 v1,σ2=[v0,v1])∧Same H H2∧DtL H2 L ((selR c (rows.take i)).map thD)) ?_ ?_ ?_ ?_
 ·exact⟨⟨_,_,hσ⟩,a7 nL,[],a6,.nil⟩
 ·rintro i σ2 H2 hi ⟨⟨v0,v1,rfl⟩,S2,_⟩
  exact⟨rv,_,SqL.of (S2 _ _ eR),za2 hi⟩
 ·rintro σ2 H2 ⟨⟨v0,v1,rfl⟩,S2,hL⟩
  rw[zas (by omega)]at hL
  exact⟨⟨rv,SqL.of (S2 _ _ eR),za4 _⟩,z H2 S2 hL⟩
 ·rintro i σ2 H2 hi ⟨⟨v0,v1,rfl⟩,S2,ys,eL,dL⟩ x H3 ⟨rfl,hx⟩
  have hx:=hx rv (SqL.of (S2 _ _ eR))
  have hi2:i<rows.length:=by omega
  obtain⟨r,hr⟩:∃ r,rows[i]?=some r:=⟨_,za2 hi2⟩
  obtain⟨u,th,hh,rfl,eu,eth,dth⟩:=(dR.2 i x r hx hr).same S2
  have tk:rows.take (i+1)=rows.take i++[r]:=by rw[zb0,hr];rfl
  have yl:ys.length≤400:=by
   rw[dL.length,za0]
   unfold selR
   rw[za0]
   exact zb1 (zcc ..) (by rw[zan];omega)
  refine⟨u,_,rfl,SqT.of eu,rfl,_,_,rfl,_,_,rfl,rfl,htt _ _ _ _ ?_⟩
  cases hc:(r.c==c) with
  | true =>
   refine iteT ⟨_,rfl,ys,eL,be (by omega),⟨_,_,rfl⟩,am S2 nL,_,a6,?_⟩
   have:selR c (rows.take (i+1))=selR c (rows.take i)++[thR r]:=by
    unfold selR
    rw[tk,zc1,zbm (p:=fun q:Row=>q.c==c) hc,List.filter_nil,zar];rfl
   rw[this,zar]
   exact(dL.updL eL).snoc (DtIs.updL eL (th_mk eth dth))
  | false =>
   refine iteF ⟨⟨_,_,rfl⟩,S2,ys,eL,?_⟩
   have:selR c (rows.take (i+1))=selR c (rows.take i):=by
    unfold selR
    rw[tk,zc1,zbn (by rw[hc];decide),List.filter_nil,zau]
   rw[this]
   exact dL
def spFew:Sp:=fun vs H Q _=>∃ (t F B:Addr) (fs bs:List Ln),vs=[.ref t]∧H t=some (.tup [.ref F,.ref B])∧DtL H F (fs.map lnD)∧DtL H B (bs.map lnD)∧(∀ a∈fs,a.1≠a.2)∧(∀ a∈bs,a.1≠a.2)∧fs.Nodup∧bs.Nodup∧fs.length≤80∧bs.length≤80 ∧
 ∀ L rows hs H',Same H H'→H L=none→hs.Nodup→(∀ h,h∈hs↔∃ a∈fs,a.1=h∨a.2=h)→(∀ r∈rows,gb (gw fs bs hs) r)→(aj rows).Perm (askL fs bs)→DtL H' L ((fewG (selR true rows).length (selR false rows) (selR true rows)).map thD)→Q (.ref L) H'
theorem scFew:aS ["work","rows","told","rings","ring"] ["work"] (ab sFew):=⟨rfl,rfl,rfl,by decide +kernel,rfl,by decide +kernel,by decide +kernel⟩
theorem ok_few{f fT fB fK:Addr}{fd fdT fdB fdK:FuncData}(D:Df K mg "fewest" sFew f fd)(DT:Df K mg "plain_ties" sTies fT fdT)(bT:bh K fdT ["work"] [])(GT:FnOk P w K mg base CX0 2 fT fdT ["work"] spTies)
  (DB:Df K mg "threads_by" sBy fB fdB) (bB:bh K fdB ["work","ties"] []) (GB:FnOk P w K mg base CX0 3 fB fdB ["work","ties"] spBy) (DK:Df K mg "taken_in" io fK fdK) (bK:bh K fdK ["threads","ring"] []) (GK:FnOk P w K mg base CX0 5 fK fdK ["threads","ring"] spTaken) :
  FnOk P w K mg base CX0 6 f fd ["work"] spFew:=by
 refine D.F.ok scFew (fun vs H Q E h=>?_) (fun cdv A outer s H vs Q E hr h=>?_)
 ·obtain⟨t,F,B,fs,bs,rfl,_⟩:=h
  rfl
 ·obtain⟨t,F,B,fs,bs,rfl,et,hF,hB,nf,nb,ndf,ndb,lf,lb,z⟩:=h
  have hr2:Room 2 _:=hr.mono (by decide)
  have hr3:Room 3 _:=hr.mono (by decide)
  refine⟨_,(aa (ai (i:=1) scFew.nd rfl (Or.inl rfl) (pec GB hr3 rfl DB.m DB.F.kp bB .nil bf (pac (pv 0) (pac (pec GT hr2 rfl DT.m DT.F.kp bT .nil bf (pac (pv 0) a9)) a9))))
   (aa (iu (k:=2) (te:=tVar 0) (g:=gTup K 2 (gCons (gJ 0) (gCons (gJ 1) gNil))) (tt:=tNot (tB (tVar 1))) (N':=["thread","closed"]) (idx:=[none,none]) scFew.nd rfl (Or.inl rfl) (Or.inr rfl) rfl (eQ (by kernel_rfl)) (by kernel_rfl) rfl (c6 (pv 1))
     (fun _ _ _ _ _=>fk rfl (b0 (al (i:=0) (show(["thread","closed"]:List Str).Nodup by decide +kernel) rfl (Or.inl rfl) (Or.inr rfl)) (b0 (al (i:=1) (show(["thread","closed"]:List Str).Nodup by decide +kernel) rfl (Or.inl rfl) (Or.inr rfl)) dX))) (fun _ _ _ _ _=>pts_one (jq (fj (pv 1)))) (fun _ _ _ _ _=>pv 0))
   (aa (iu (k:=3) (te:=tVar 0) (g:=gTup K 2 (gCons (gJ 0) (gCons (gJ 1) gNil))) (tt:=tB (tVar 1)) (N':=["thread","closed"]) (idx:=[none,none]) scFew.nd rfl (Or.inl rfl) (Or.inr rfl) rfl (eQ (by kernel_rfl)) (by kernel_rfl) rfl (c6 (pv 1))
     (fun _ _ _ _ _=>fk rfl (b0 (al (i:=0) (show(["thread","closed"]:List Str).Nodup by decide +kernel) rfl (Or.inl rfl) (Or.inr rfl)) (b0 (al (i:=1) (show(["thread","closed"]:List Str).Nodup by decide +kernel) rfl (Or.inl rfl) (Or.inr rfl)) dX))) (fun _ _ _ _ _=>pts_one (fj (pv 1))) (fun _ _ _ _ _=>pv 0))
   (aa (ps_while PassesOwn.never (pt_truth (pv 3) (fun _=>rfl)) (aa (ai (i:=4) scFew.nd rfl (Or.inl rfl) (pe_bm0 PySem.F.plainAttrs_list PySem.F.slot_list_pop PySem.F.type_list_pop mt_pop (pv 3)))
   (ag (dE (PW.pt (pw_and (jq (fj (pec GK hr rfl DK.m DK.F.kp bK .nil bf (pac (pv 2) (pac (pv 4) a9))))) (jS (jq (fj (pec GK hr rfl DK.m DK.F.kp bK .nil bf (pac (pv 3) (pac (pv 4) a9)))))))) (ag (dq (iV PySem.F.plainAttrs_list PySem.F.slot_list_append PySem.F.type_list_append bD (pv 2) (pac (pv 4) a9)))) bm))))
   (ag (aD (pv 2))))))),?_⟩
  refine⟨_,rfl,_,rfl,t,F,B,fs,bs,rfl,et,hF,hB,by omega,by omega,nf,nb,fun l hs H1 S1 nl _ ndh mh hl=>?_⟩
  rw[tiesL_T]at hl
  have ok:=tiesT_ok (fs:=fs) (bs:=bs) ndf ndb ndh
  have tl:=d7.len' ok
  refine⟨t,F,B,l,fs,bs,gw fs bs hs,rfl,S1 _ _ et,hF.same S1,hB.same S1,hl,ok,nf,nb,ndf,ndb,by omega,by omega,by omega,fun R rv rows H2 S2 nR eR dR gd pm=>?_⟩
  have S12:=S1.trans S2
  obtain⟨tt,tn⟩:=rows_tot gd
  have ul:(aj rows).length=fs.length+bs.length:=by rw[pm.length_eq,jd]
  have rl:rows.length≤160:=by
   have:∀ {rows:List Row},(∀ r∈rows,gb (gw fs bs hs) r)→rows.length≤(aj rows).length:=fun {rows}=>by
    induction rows with
    | nil=>exact fun _=>za4 _
    | cons r rows ih =>
     intro g
     have:=ih fun q hq=>g q (zac _ hq)
     have l2:=(good_len (g r (zad ..))).2
     have ul:(aj (r::rows)).length=r.ps.length+(aj rows).length:=by simp[aj]
     rw[ul,zah]
     omega
   have:=this gd
   omega
  refine⟨_,rfl,R,rfl,⟨_,SqL.of eR⟩,fun L nL=>?_⟩
  refine comp_rows (c:=false) (fun v0 b H Q q=>⟨_,rfl,b,rfl,by cases b<;>exact q⟩) eR dR (by omega) nL rfl fun H3 S3 hL=>?_
  have nL0:H L=none:=cf S12 nL
  have eR3:=S3 _ _ eR
  have dR3:=dR.imp fun _ _ k=>k.same S3
  refine⟨_,rfl,R,rfl,⟨_,SqL.of eR3⟩,fun G nG=>?_⟩
  refine comp_rows (c:=true) (fun v0 b H Q q=>⟨_,rfl,b,rfl,by cases b<;>exact q⟩) eR3 dR3 (by omega) nG rfl fun H4 S4 hG=>?_
  have nG0:H G=none:=cf (S12.trans S3) nG
  have neGL:G≠L:=fun e=>by
   obtain⟨_,e',_⟩:=hL
   rw[e,e']at nG
   cases nG
  have S04:=(S12.trans S3).trans S4
  have hL4:=hL.same S4
  have z2:∀ H',Same H H'→DtL H' L ((fewG (selR true rows).length (selR false rows) (selR true rows)).map thD)→Q (.ref L) H':=fun H' s' d=>z L rows hs H' s' nL0 ndh mh gd pm d
  have rg:∀ r∈selR true rows,Rg r:=fun r hr=>by
   obtain⟨q,hq,rfl⟩:=za6.mp hr
   obtain⟨hq,hc⟩:=zbf.mp hq
   exact good_rg (gd q hq) (by simpa using hc)
  revert z2 hL4 hG tt tn rg
  generalize selR true rows=rings
  generalize selR false rows=told
  intro tt tn hG hL4 z2 rg
  obtain⟨fin,hf⟩:∃ fin,fewG rings.length told rings=fin:=⟨_,rfl⟩
  rw[hf]at z2
  refine⟨fun m σ H5=>∃ (told rings:List Thd) (v4:Option V),σ=[some (.ref t),some (.ref R),some (.ref L),some (.ref G),v4]∧Same H H5∧DtL H5 L (told.map thD)∧DtL H5 G (rings.map thD)∧(∀ r∈rings,Rg r)∧tot told+tot rings≤400∧told.length+rings.length≤300∧fewG rings.length told rings=fin∧m=rings.length,⟨_,told,rings,_,rfl,S04,hL4,hG,rg,by omega,by omega,hf,rfl⟩,?_⟩
  rintro m σ H5 ⟨told,rings,v4,rfl,S5,hL5,⟨gv,eG,dG⟩,rg,tt,tn,hf,rfl⟩
  have gvl:gv.length=rings.length:=by rw[dG.length,za0]
  refine⟨_,rfl,_,.inl ⟨gv,SqL.of eG,rfl⟩,?_⟩
  rcases zbh rings with rfl | ⟨rs,r,rfl⟩
  ·have:gv=[]:=zbx.mp gvl
   subst this
   refine hV rfl ⟨_,rfl,z2 H5 S5 ?_⟩
   have hf:told=fin:=hf
   rw[← hf]
   exact hL5
  ·rw[zbi]at *
   obtain⟨us,y,rfl⟩:∃ us y,gv=us++[y]:=by
    rcases zbh gv with rfl | ⟨us,y,rfl⟩
    ·rw[za1]at gvl
     exact absurd gvl (by show ¬ (0=rs.length+1);omega)
    ·exact⟨us,y,zbi ..⟩
   have usl:us.length=rs.length:=by
    rw[za1,za1]at gvl
    have h1:([y]:List V).length=1:=rfl
    have h2:([r]:List Thd).length=1:=rfl
    omega
   obtain⟨rr,ey,dr⟩:=dth_at dG (i:=us.length) (t:=r) (by rw[usl];simp)
   have ey:y=.ref rr:=by simpa using ey
   subst ey
   have dus:ac H5 us (rs.map thD):=by
    rw[zar]at dG
    exact dts_init dG (by rw[za0];exact usl)
   have kr:Rg r:=rg r (za5 _ (za7.mpr rfl))
   have rg':∀ q∈rs,Rg q:=fun q hq=>rg q (zae _ hq)
   rw[fewG_step]at hf
   rw[iJ,cS]at tt
   rw[za1,zam]at tn
   have t0:tot ([]:List Thd)=0:=rfl
   refine gZ (by simp) ?_
   refine⟨fun σ H6=>∃ m',m'<(rs++[r]).length∧∃ (told rings:List Thd) (v4:Option V),σ=[some (.ref t),some (.ref R),some (.ref L),some (.ref G),v4]∧Same H H6∧DtL H6 L (told.map thD)∧DtL H6 G (rings.map thD)∧(∀ r∈rings,Rg r)∧tot told+tot rings≤400∧told.length+rings.length≤300∧fewG rings.length told rings=fin∧m'=rings.length,fun _ _ n=>n,?_⟩
   have hm:rs.length<(rs++[r]).length:=by rw[za1,zam];omega
   refine⟨_,rfl,.inl ⟨rfl,_,SqL.of eG⟩,G,_,.ref rr,rfl,rfl,eG,by simp,?_⟩
   rw[List.dropLast_concat]
   have S6:=am (o:=HO.lst us) S5 nG0
   have hL6:=i3 (o:=HO.lst us) hL5 eG (Ne.symm neGL)
   have eG6:(upd H5 G (.lst us)) G=some (.lst us):=a6
   have dG6:=dus.updL (o:=.lst us) eG
   have dr6:=DtIs.updL (o:=.lst us) eG dr
   revert S6 hL6 eG6 dG6 dr6
   generalize (upd H5 G (.lst us))=H6
   intro S6 hL6 eG6 dG6 dr6
   refine⟨_,rfl,_,rfl,L,rr,told,r,rfl,hL6,dr6,kr,fun q hq=>?_,by omega,fun o told' H7 et7 S7 hL7=>?_,fun H7 et7 S7=>?_⟩
   ·have:=iI hq
    omega
   ·rw[et7]at hf
    obtain⟨k1,k2⟩:=tak_tot kr et7
    obtain⟨ov,eo,_⟩:=id hL6
    refine⟨_,rfl,iteF (iteF ⟨rs.length,hm,told',rs,_,rfl,(am S6 nL0).trans S7,hL7,(i3 ⟨us,eG6,dG6⟩ eo neGL).same S7,rg',by omega,by omega,hf,rfl⟩)⟩
   ·rw[et7]at hf
    refine⟨_,rfl,iteT ?_⟩
    have S67:=S6.trans S7
    refine⟨_,rfl,_,rfl,G,rr,rs,r,rfl,⟨us,S7 _ _ eG6,dG6.same S7⟩,dr6.same S7,kr,fun q hq=>?_,by omega,fun o rings' H8 et8 S8 hG8=>?_,fun H8 et8 S8=>?_⟩
    ·have:=iI hq
     omega
    ·rw[et8]at hf
     obtain⟨k1,k2⟩:=tak_tot kr et8
     refine⟨_,rfl,iteF ⟨rs.length,hm,told,rings',_,rfl,(am S67 nG0).trans S8,(i3 (hL6.same S7) (S7 _ _ eG6) (Ne.symm neGL)).same S8,hG8,tak_rg kr rg' et8,by omega,by omega,by rw[k2];exact hf,k2.symm⟩⟩
    ·rw[et8]at hf
     have S68:=S7.trans S8
     obtain⟨ov,eo,dO⟩:=hL6.same S68
     have ovl:ov.length=told.length:=by rw[dO.length,za0]
     refine⟨_,rfl,iteT ⟨_,rfl,.inl ⟨rfl,_,SqL.of eo⟩,_,rfl,L,ov,_,rfl,rfl,eo,be (by omega),?_⟩⟩
     refine⟨rs.length,hm,told++[r],rs,_,rfl,am (S6.trans S68) nL0,⟨_,a6,?_⟩,i3 ⟨us,S68 _ _ eG6,dG6.same S68⟩ eo neGL,rg',?_,?_,hf,rfl⟩
     ·rw[zar]
      exact(dO.updL eo).snoc (DtIs.updL eo (dr6.same S68))
     ·rw[iJ,cS]
      omega
     ·rw[za1,zam]
      omega
end
theorem allS_len:∀ ts:List Thd,(allS ts).length≤tot ts
 | []=>za4 _
 | t::ts=>by
  have ih:=allS_len ts
  have:(allS (t::ts)).length=(stsF t.1 t.2).length+(allS ts).length:=by simp[allS]
  rw[this,cS,fw]
  omega
section
variable{P:Program}{w:World}{K:PySem.W.Frag}{mg:Str→Option Value}{base:Heap}
def spStep:Sp:=fun vs H Q _=>∃ (x y:Addr) (p q:Ho),vs=[.ref x,.ref y]∧two H x p∧two H y q∧∀ r H',Same H H'→DtIs H' (.ref r) (lnD (ordP p q))→Q (.ref r) H'
theorem scStep:aS ["_law_one","_law_other"] ["_law_one","_law_other"] (ab sStep):=⟨rfl,rfl,rfl,by decide +kernel,rfl,by decide +kernel,by decide +kernel⟩
theorem ok_step{f:Addr}{fd:FuncData}(D:Df K mg "_law_step" sStep f fd):FnOk P w K mg base CX0 1 f fd ["_law_one","_law_other"] spStep:=by
 refine D.F.ok scStep (fun vs H Q E h=>?_) (fun cdv A outer s H vs Q E hr h=>?_)
 ·obtain⟨x,y,p,q,rfl,_⟩:=h
  rfl
 ·obtain⟨x,y,p,q,rfl,hx,hy,z⟩:=h
  refine⟨_,(aa (dE (ar (op_ltT hr.units0) (pv 0) (pv 1) (b9 _)) (ag (aD (ap (pac (pv 0) (pac (pv 1) a9))))) bm)
   (ag (aD (ap (pac (pv 1) (pac (pv 0) a9)))))),?_⟩
  refine⟨_,rfl,_,rfl,x,y,[p.1,p.2],[q.1,q.2],rfl,rfl,SqT.of hx,SqT.of hy,_,rfl,ifC (fun hl=>?_) (fun hl=>?_)⟩
  ·refine⟨_,rfl,_,rfl,szr rfl,fun r nr=>z r _ (a7 nr) ?_⟩
   have:ordP p q=(p,q):=by unfold ordP;rw[if_pos (show hLt p q=true from hl)]
   rw[this]
   exact .tup a6 (.cons (ao ((a7 nr) _ _ hx)) (.cons (ao ((a7 nr) _ _ hy)) .nil))
  ·refine⟨_,rfl,_,rfl,szr rfl,fun r nr=>z r _ (a7 nr) ?_⟩
   have:ordP p q=(q,p):=by unfold ordP;rw[if_neg (show ¬ hLt p q=true by rw[show hLt p q=false from hl];simp)]
   rw[this]
   exact .tup a6 (.cons (ao ((a7 nr) _ _ hy)) (.cons (ao ((a7 nr) _ _ hx)) .nil))
abbrev i8(F B:Addr):List (Key×V):=[(Sum.inr "front",V.ref F),(Sum.inr "back",V.ref B)]
structure Laid(H:Hp)(d F B:Addr)(ss:List Sti):Prop where
 dic:H d=some (.dK (i8 F B))
 front:DtL H F ((onF true ss).map lnD)
 back:DtL H B ((onF false ss).map lnD)
 ne:F≠B
theorem Laid.same{H H':Hp}{d F B:Addr}{ss:List Sti}(h:Laid H d F B ss)(s:Same H H'):Laid H' d F B ss:=⟨s _ _ h.dic,h.front.same s,h.back.same s,h.ne⟩
theorem Laid.ofFace{H:Hp}{d F B:Addr}{ss:List Sti}(h:Laid H d F B ss)(b:Bool):∃ L vs,(L=F∨L=B)∧valV (i8 F B) (Sum.inr (fS b))=some (.ref L)∧H L=some (.lst vs)∧ac H vs ((onF b ss).map lnD) ∧
  ∀ {o:HO} {v:V} {a:Ln},o=.lst (vs++[v])→DtIs H v (lnD a)→Laid (upd H L o) d F B (ss++[(b,a)]):=by
 obtain⟨fv,eF,dF⟩:=h.front
 obtain⟨bv,eB,dB⟩:=h.back
 have dF':d≠F:=fun e=>by
  have:=h.dic
  rw[e,eF]at this
  cases this
 have dB':d≠B:=fun e=>by
  have:=h.dic
  rw[e,eB]at this
  cases this
 cases b with
 | true =>
  refine⟨F,fv,.inl rfl,rfl,eF,dF,fun {o v a} eo dv=>?_⟩
  subst eo
  refine⟨by rw[af dF'];exact h.dic,⟨_,a6,?_⟩,i3 (ds:=(onF false (ss++[(true,a)])).map lnD) ?_ eF (Ne.symm h.ne),h.ne⟩
  ·rw[iX,if_pos rfl,zar]
   exact(dF.updL eF).snoc (DtIs.updL eF dv)
  ·rw[iX,if_neg (by decide),zau]
   exact⟨bv,eB,dB⟩
 | false =>
  refine⟨B,bv,.inr rfl,rfl,eB,dB,fun {o v a} eo dv=>?_⟩
  subst eo
  refine⟨by rw[af dB'];exact h.dic,i3 (ds:=(onF true (ss++[(false,a)])).map lnD) ?_ eB h.ne,⟨_,a6,?_⟩,h.ne⟩
  ·rw[iX,if_neg (by decide),zau]
   exact⟨fv,eF,dF⟩
  ·rw[iX,if_pos rfl,zar]
   exact(dB.updL eB).snoc (DtIs.updL eB dv)
def spLaid:Sp:=fun vs H Q _=>∃ (L:Addr) (ts:List Thd),vs=[.ref L]∧DtL H L (ts.map thD)∧(∀ t∈ts,2≤t.2.length)∧tot ts≤400∧ts.length≤300∧∀ d F B H',Same H H'→H d=none→H F=none→H B=none→Laid H' d F B (allS ts)→Q (.ref d) H'
theorem ij:aS ["_law_threads","_law_rows","_law_thread","_law_face","_law_holes","_law_k"] ["_law_threads"] (ab jF):=⟨rfl,rfl,rfl,by decide +kernel,rfl,by decide +kernel,by decide +kernel⟩
theorem ok_laid{f fS':Addr}{fd fdS:FuncData}(D:Df K mg "_law_laid" jF f fd)(DS:Df K mg "_law_step" sStep fS' fdS)(bS:bh K fdS ["_law_one","_law_other"] [])(GS:FnOk P w K mg base CX0 1 fS' fdS ["_law_one","_law_other"] spStep)
  (hisi:mg "isinstance"=none) (htuple:mg "tuple"=none) (hlen:mg "len"=none) (hrange:mg "range"=none):FnOk P w K mg base CX0 2 f fd ["_law_threads"] spLaid:=by
 refine D.F.ok ij (fun vs H Q E h=>?_) (fun cdv A outer s H vs Q E hr h=>?_)
 ·obtain⟨L,ts,rfl,_⟩:=h
  rfl
 ·obtain⟨L,ts,rfl,⟨lv,eL,dL⟩,h2,ht,htl,z⟩:=h
  have lvl:lv.length=ts.length:=by rw[dL.length,za0]
  have hu1:=hr.units
  have hu2:(A.deeper (envOfC "_law_laid" (ab jF) s.heap.objs.size f cdv)).units+1<cLine:=by omega
  refine⟨_,(aa (ai (i:=1) ij.nd rfl (Or.inl rfl) (pe_disp (iT c7 (eW a9) (iT c7 (eW a9) pps_nil)) rfl rfl (by simp) (by show 2≤15;decide)))
   (aa (cp PassesOwn.never rfl (c6 (pv 0)) (al (i:=2) ij.nd rfl (Or.inl rfl)) (aa (dE (PW.pt (jH (jq (fj (b7 call_isi (by rfl) hisi boot_isinstance (pac (pv 2) (pac (pe_bltn (v:=.ty "tuple") (by rfl) htuple boot_tuple rfl) a9)))))
      (jH (ar op_ne (b7 ca (by rfl) hlen PySem.boot_len (pac (pv 2) a9)) a8 (b9 _))
      (jp (ar (op_notInTp hr) (b6 aw (pv 2) a8 (fun _ _=>rfl)) (ap (pac (c7) (pac (c7) a9))) rfl))))) (ag (aD jt)) bm)
   (aa (ps_asg (pv 2) (fk rfl (b0 (al (i:=3) ij.nd rfl (Or.inl rfl)) (b0 (al (i:=4) ij.nd rfl (Or.inl rfl)) dX))))
   (aa (dE (PW.pt (jH (jq (fj (b7 call_isi (by rfl) hisi boot_isinstance (pac (pv 4) (pac (pe_bltn (v:=.ty "tuple") (by rfl) htuple boot_tuple rfl) a9)))))
      (jp (ar op_lt (b7 ca (by rfl) hlen PySem.boot_len (pac (pv 4) a9)) a8 (b9 _))))) (ag (aD jt)) bm)
   (ag (cp PassesOwn.never rfl (pi_range1 rfl hrange (pac (ah cB (b7 ca (by rfl) hlen PySem.boot_len (pac (pv 4) a9)) a8) a9)) (al (i:=5) ij.nd rfl (Or.inl rfl)) (aa (dq (iV PySem.F.plainAttrs_list PySem.F.slot_list_append PySem.F.type_list_append bD (jT hu2 (pv 1) (pv 3) (fun _ _=>rfl)) (pac (pec GS hr rfl DS.m DS.F.kp bS .nil bf (pac (b6 aw (pv 4) (pv 5) (fun _ _=>rfl)) (pac (b6 aw (pv 4) (ah df (pv 5) a8) (fun _ _=>rfl)) a9))) a9)))
   (ag (ai (i:=3) ij.nd rfl (Or.inl rfl) (jT hu2 (pe_disp (iT c7 c7 (iT c7 c7 pps_nil)) rfl rfl (by simp) (by show 2≤15;decide)) (pv 3) (fun _ _=>rfl)))))))))))
   (ag (aD (pv 1))))),?_⟩
  refine fun d nd=>⟨szr rfl,fun F nF=>⟨szr rfl,fun B nB=>⟨?_,i8 F B,rfl,by show 2≤15;decide,?_⟩⟩⟩
  ·have T1:=a7 (o:=HO.lst []) nF
   have T2:=a7 (o:=HO.lst []) nB
   exact T2 _ _ (T1 _ _ a6)
  have S0:Same H (upd (upd (upd (upd H d (.dK [])) F (.lst [])) B (.lst [])) d (.dK (i8 F B))):=am (((a7 nd).trans (a7 nF)).trans (a7 nB)) nd
  have nF0:H F=none:=cf (a7 nd) nF
  have nB0:H B=none:=cf ((a7 nd).trans (a7 nF)) nB
  have neFd:F≠d:=fun e=>by rw[e,a6]at nF;cases nF
  have neBd:B≠d:=fun e=>by
   have:=a7 (o:=HO.lst []) nF
   rw[e]at nB
   have e2:=this d _ a6
   rw[nB]at e2
   cases e2
  have neFB:F≠B:=fun e=>by rw[← e,a6]at nB;cases nB
  have L0:Laid (upd (upd (upd (upd H d (.dK [])) F (.lst [])) B (.lst [])) d (.dK (i8 F B))) d F B (allS (ts.take 0)):=by
   rw[zb3]
   refine⟨a6,⟨[],?_,.nil⟩,⟨[],?_,.nil⟩,neFB⟩
   ·rw[af neFd,af neFB,a6]
   ·rw[af neBd,a6]
  have em:fm [] (i8 F B)=i8 F B:=rfl
  rw[em]
  revert S0 L0
  generalize (upd (upd (upd (upd H d (.dK [])) F (.lst [])) B (.lst [])) d (.dK (i8 F B)))=H1
  intro S0 L0
  refine⟨_,rfl,L,rfl,⟨_,SqL.of (S0 _ _ eL)⟩,?_⟩
  refine d4 (K:=K) (a:=L) (xs:=lv) (fun i σ H2=>(∃ v2 v3 v4 v5,σ=[some (.ref L),some (.ref d),v2,v3,v4,v5])∧Same H H2∧Laid H2 d F B (allS (ts.take i)))
   ⟨⟨_,_,_,_,rfl⟩,S0,L0⟩ (fun i σ H2 _ ⟨_,s2,_⟩=>SqL.of (s2 _ _ eL)) ?_ ?_
  ·rintro i x σ H2 hx ⟨⟨v2,v3,v4,v5,rfl⟩,S2,L2⟩
   have hi:i<ts.length:=by
    have:=(za3.mp hx).1
    omega
   obtain⟨t,hti,hmem⟩:∃ t,ts[i]?=some t∧t∈ts:=⟨ts[i],za2 hi,zc8 hi⟩
   obtain⟨tr,ei,dt⟩:=dth_at dL hti
   rw[ei]at hx
   cases hx
   obtain⟨_,hh,hv,e0,et,eh,dh⟩:=th_of dt
   cases e0
   have hvl:hv.length=t.2.length:=by rw[dh.length,za0]
   have t2:=h2 t hmem
   have tl:=iI hmem
   have tk:allS (ts.take (i+1))=allS (ts.take i)++stsF t.1 t.2:=by
    rw[zb0,hti]
    simp[allS]
   refine⟨_,rfl,.ref tr,.tup,.tup,rfl,.tup (S2 _ _ et),_,rfl,iteF ?_⟩
   refine⟨_,rfl,tr,_,rfl,.inr (SqT.of (S2 _ _ et)),rfl,_,rfl,iteF ?_⟩
   refine⟨_,rfl,tr,_,_,_,rfl,rfl,SqT.of (S2 _ _ et),rfl,szr rfl,fun u nu=>?_⟩
   have Tu:=a7 (o:=HO.tup [V.str "front",.str "back"]) nu
   refine⟨u,_,[.str "front",.str "back"],.str (fS t.1),rfl,.str _,SqT.of a6,.cons (.str _) (.cons (.str _) .nil),fun d hd=>?_,_,rfl,?_⟩
   ·simp only[zaa,zb7,or_false]at hd
    rcases hd with rfl | rfl<;>simp[Dt.dp]
   have hin:([Dt.str "front",Dt.str "back"].any fun d'=>Dt.beq d' (.str (fS t.1)))=true:=by
    cases t.1<;>decide +kernel
   rw[hin]
   refine iteF ?_
   have S3:=S2.trans Tu
   have L3:=L2.same Tu
   revert S3 L3
   generalize (upd H2 u (.tup [V.str "front",.str "back"]))=H3
   intro S3 L3
   refine⟨_,rfl,tr,_,rfl,SqT.of (S3 _ _ et),rfl,_,_,rfl,_,_,rfl,rfl,?_⟩
   refine⟨_,rfl,.ref hh,.tup,.tup,rfl,.tup (S3 _ _ eh),_,rfl,iteF ?_⟩
   refine⟨_,rfl,hh,_,rfl,.inr (SqT.of (S3 _ _ eh)),_,_,rfl,rfl,_,rfl,dY (by omega) ?_⟩
   refine⟨_,rfl,hh,_,rfl,.inr (SqT.of (S3 _ _ eh)),_,_,rfl,rfl,_,rfl,by show -2 ^ 62≤(hv.length:Int)-1;omega,by show(hv.length:Int)-1<2 ^ 62;omega,?_⟩
   have en:((hv.length:Int)-1).toNat=t.2.length-1:=by omega
   rw[en]
   refine for_range (fun k σ H4=>(∃ v5,σ=[some (.ref L),some (.ref d),some (.ref tr),some (.str (fS (ae t.1 k))),some (.ref hh),v5])∧Same H H4∧Laid H4 d F B (allS (ts.take i)++(stsF t.1 t.2).take k))
    ⟨⟨_,rfl⟩,S3,by rw[zb3,zau];exact L3⟩ ?_ ?_
   ·rintro k σ H4 hk ⟨⟨v5,rfl⟩,S4,L4⟩
    obtain⟨xq,xp,hxv,hxp,tx⟩:=jC (dh.same S4) (i:=k) (za2 (by omega))
    obtain⟨yq,yp,hyv,hyp,ty⟩:=jC (dh.same S4) (i:=k+1) (za2 (by omega))
    have ix:atI hv (0+(k:Int))=some (.ref xq):=by
     rw[Int.zero_add]
     exact jc (by rw[za2 (by omega),hxv])
    have iy:atI hv (0+(k:Int)+1)=some (.ref yq):=by
     rw[Int.zero_add]
     exact jc (j:=k+1) (by rw[za2 (by omega),hyv])
    have sk:=stsF_at t.1 t.2 k xp yp hxp hyp
    have tkk:(stsF t.1 t.2).take (k+1)=(stsF t.1 t.2).take k++[(ae t.1 k,ordP xp yp)]:=by rw[zb0,sk];rfl
    obtain⟨M,mv,wh,ev,eM,dM,up⟩:=L4.ofFace (ae t.1 k)
    have nM:H M=none:=by rcases wh with rfl | rfl<;>assumption
    refine⟨_,rfl,_,rfl,d,.ref M,rfl,by rw[← ev];exact DGet.k (k:=Sum.inr (fS (ae t.1 k))) L4.dic,.inl ⟨rfl,_,SqL.of eM⟩,?_⟩
    refine⟨_,rfl,_,rfl,hh,_,_,_,rfl,rfl,SqT.of (S4 _ _ eh),ix,_,rfl,_,rfl,_,_,rfl,rfl,hh,_,_,_,rfl,rfl,SqT.of (S4 _ _ eh),iy,xq,yq,xp,yp,rfl,tx,ty,fun r H5 S5 dr=>?_⟩
    obtain⟨M',mv',_,ev',eM',dM',up'⟩:=(L4.same S5).ofFace (ae t.1 k)
    rw[ev]at ev'
    cases ev'
    have ml:mv'.length≤900:=by
     rw[dM'.length,za0]
     refine zb1 (onF_len _ _) ?_
     rw[za1,zan,fw]
     have:=allS_len (ts.take i)
     have:=tot_take ts i
     omega
    refine⟨M,mv',_,rfl,rfl,eM',be (by omega),?_⟩
    have L6:=up' rfl dr
    rw[zai,← tkk]at L6
    have S6:=am (o:=HO.lst (mv'++[V.ref r])) (S4.trans S5) nM
    revert S6 L6
    generalize (upd H5 M (.lst (mv'++[V.ref r])))=H6
    intro L6 S6
    refine fun p np=>⟨a6,[(Sum.inr "front",V.str "back"),(Sum.inr "back",V.str "front")],rfl,by show 2≤15;decide,?_⟩
    have ed:(upd (upd H6 p (.dK [])) p (.dK (fm [] [(Sum.inr "front",V.str "back"),(Sum.inr "back",V.str "front")]))) p=some (.dK (fm [] [(Sum.inr "front",V.str "back"),(Sum.inr "back",V.str "front")])):=a6
    have Sd:Same H6 (upd (upd H6 p (.dK [])) p (.dK (fm [] [(Sum.inr "front",V.str "back"),(Sum.inr "back",V.str "front")]))):=am (a7 np) np
    have gv:valV (fm [] [(Sum.inr "front",V.str "back"),(Sum.inr "back",V.str "front")]) (Sum.inr (fS (ae t.1 k)))=some (V.str (fS (!(ae t.1 k)))):=by cases ae t.1 k<;>decide +kernel
    refine⟨_,rfl,p,_,rfl,by rw[← gv];exact DGet.k (k:=Sum.inr (fS (ae t.1 k))) ed,?_⟩
    refine⟨⟨some (.int (0+(k:Int))),?_⟩,S6.trans Sd,L6.same Sd⟩
    rw[bt]
    rfl
   ·rintro σ H4 ⟨⟨v5,rfl⟩,S4,L4⟩
    rw[zas (l:=stsF t.1 t.2) (by rw[fw];exact za4 _),← tk]at L4
    exact⟨⟨_,_,_,_,rfl⟩,S4,L4⟩
  ·rintro σ H2 ⟨⟨v2,v3,v4,v5,rfl⟩,S2,L2⟩
   rw[zas (by omega)]at L2
   exact⟨_,rfl,z d F B H2 S2 nd nF0 nB0 L2⟩
end
theorem h60(p:Ho):(hD p).dp≤60:=by rw[iC];decide
theorem h8(p:Ho):(hD p).dp≤8:=by rw[iC];decide
structure LeOk(P:Program)(w:World)(H:Hp)(d:Addr)(kvs:List (Dt×V))(L:Ho→Option Ho):Prop where
 dic:DicV P w H d kvs
 nd:(kvs.map (·.1)).Nodup
 mem:∀ e,e∈kvs.map (·.1)↔∃ h,L h≠none∧hD h=e
 val:∀ h f,L h=some f→∃ q,valV kvs (hD h)=some (.ref q)∧two H q f
section
variable{P:Program}{w:World}{H:Hp}{d:Addr}{kvs:List (Dt×V)}{L:Ho→Option Ho}
theorem LeOk.start(h:DicV P w H d []):LeOk P w H d [] (fun _=>none):=⟨h,zci,fun e=>⟨fun z=>(nomatch z),fun⟨_,z,_⟩=>absurd rfl z⟩,fun _ _ z=>(nomatch z)⟩
theorem LeOk.same{H':Hp}(D:LeOk P w H d kvs L)(s:Same H H'):LeOk P w H' d kvs L:=⟨D.dic.same s,D.nd,D.mem,fun h f e=>let ⟨q,v,t⟩:=D.val h f e;⟨q,v,s _ _ t⟩⟩
theorem LeOk.isIn(D:LeOk P w H d kvs L)(h:Ho):hD h∈kvs.map (·.1)↔L h≠none:=by
 rw[D.mem]
 constructor
 ·rintro⟨g,n,e⟩
  rw[← bZ e]
  exact n
 ·exact fun n=>⟨h,n,rfl⟩
theorem LeOk.put{h f:Ho}{q:Addr}{o:HO}(D:LeOk P w H d kvs L)(t:two H q f)(d':DicV P w (upd H d o) d (putK kvs (hD h) (.ref q))):LeOk P w (upd H d o) d (putK kvs (hD h) (.ref q)) (setL L h f):=by
 obtain⟨φ,ext⟩:=D.dic.ext
 have keep:∀ {q:Addr} {f:Ho},two H q f→two (upd H d o) q f:=fun {q f} t=>by
  show upd H d o q=_
  rw[af (fun z=>by
   rw[z]at t
   have:=t.symm.trans ext
   cases this)]
  exact t
 refine⟨d',putK_nd _ _ _ D.nd,fun e=>?_,fun g f' hg=>?_⟩
 ·rw[putK_mem,D.mem]
  constructor
  ·rintro(rfl | ⟨g,n,rfl⟩)
   ·exact⟨h,by rw[jl];exact zbs _,rfl⟩
   ·refine⟨g,?_,rfl⟩
    by_cases z:g=h
    ·rw[z,jl];exact zbs _
    ·rw[setL_ne z];exact n
  ·rintro⟨g,n,rfl⟩
   by_cases z:g=h
   ·rw[z];exact .inl rfl
   ·rw[setL_ne z]at n
    exact .inr ⟨g,n,rfl⟩
 ·rw[cm]
  by_cases z:g=h
  ·subst z
   rw[jl]at hg
   rw[if_pos rfl,← Option.some.inj hg]
   exact⟨q,rfl,keep t⟩
  ·rw[setL_ne z]at hg
   rw[if_neg (fun e=>z (bZ e))]
   obtain⟨q',v,t'⟩:=D.val g f' hg
   exact⟨q',v,keep t'⟩
end
theorem valV_len{kvs:List (Dt×V)}{ks:List Ho}(nd:(kvs.map (·.1)).Nodup)(sub:∀ e∈kvs.map (·.1),∃ h∈ks,hD h=e):kvs.length≤ks.length:=by
 have:(kvs.map (·.1)).length≤(ks.map hD).length:=List.Nodup.length_le_of_subset nd fun e he=>by
  obtain⟨h,hh,z⟩:=sub e he
  exact za6.mpr ⟨h,hh,z⟩
 rw[za0,za0]at this
 exact this
section
variable{P:Program}{w:World}{K:PySem.W.Frag}{mg:Str→Option Value}{base:Heap}
end
def defL(G:Ho→Option Ho)(h:Ho):Ho→Option Ho:=fun k=>if k=h∧G h=none then some h else G k
def rlb(G:Ho→Option Ho)(o n:Ho):Ho→Option Ho:=fun k=>if G k=some o then some n else G k
def relS(G:Ho→Option Ho)(o n:Ho)(S:List Ho):Ho→Option Ho:=fun k=>if k∈S∧G k=some o then some n else G k
theorem dP{G:Ho→Option Ho}{h k:Ho}:defL G h k≠none↔k=h∨G k≠none:=by
 unfold defL
 by_cases c:k=h∧G h=none
 ·rw[if_pos c]
  exact⟨fun _=>.inl c.1,fun _=>zbs _⟩
 ·rw[if_neg c]
  constructor
  ·exact .inr
  ·rintro(rfl | z)
   ·exact fun e=>c ⟨rfl,e⟩
   ·exact z
theorem j8{G:Ho→Option Ho}{h k:Ho}(n:G k≠none):defL G h k=G k:=by
 unfold defL
 rw[if_neg (fun c:k=h∧G h=none=>n (by rw[c.1];exact c.2))]
theorem defL_val{G:Ho→Option Ho}{h k g:Ho}(e:defL G h k=some g):(k=h∧g=h)∨G k=some g:=by
 unfold defL at e
 by_cases c:k=h∧G h=none
 ·rw[if_pos c]at e
  exact .inl ⟨c.1,(Option.some.inj e).symm⟩
 ·rw[if_neg c]at e
  exact .inr e
structure GrOk(all ls:List Ln)(G:Ho→Option Ho):Prop where
 mem:∀ h,G h≠none↔∃ a∈ls,a.1=h∨a.2=h
 con:∀ h g,G h=some g→Cn all g h
 cl:∀ a∈ls,G a.1=G a.2
theorem GrOk.nil(all:List Ln):GrOk all [] (fun _=>none):=⟨fun h=>⟨fun z=>absurd rfl z,fun⟨_,z,_⟩=>(nomatch z)⟩,fun _ _ z=>(nomatch z),fun _ z=>(nomatch z)⟩
theorem GrOk.step{all ls:List Ln}{G:Ho→Option Ho}{a:Ln}{o n:Ho}(k:GrOk all ls G)(ha:a∈all)(e1:defL (defL G a.1) a.2 a.1=some o)(e2:defL (defL G a.1) a.2 a.2=some n):GrOk all (ls++[a]) (rlb (defL (defL G a.1) a.2) o n):=by
 have con2:∀ h g,defL (defL G a.1) a.2 h=some g→Cn all g h:=fun h g e=>by
  rcases defL_val e with ⟨e1,e2⟩ | e
  ·rw[e1,e2];exact .refl
  ·rcases defL_val e with ⟨e1,e2⟩ | e
   ·rw[e1,e2];exact .refl
   ·exact k.con h g e
 have nn:∀ h,rlb (defL (defL G a.1) a.2) o n h≠none↔defL (defL G a.1) a.2 h≠none:=fun h=>by
  unfold rlb
  split
  ·rename_i c
   rw[c]
   exact⟨fun _=>zbs _,fun _=>zbs _⟩
  ·exact Iff.rfl
 refine⟨fun h=>?_,fun h g e=>?_,fun b hb=>?_⟩
 ·rw[nn,dP,dP,k.mem]
  constructor
  ·rintro(rfl | rfl | ⟨b,hb,q⟩)
   ·exact⟨a,za5 _ (za7.mpr rfl),.inr rfl⟩
   ·exact⟨a,za5 _ (za7.mpr rfl),.inl rfl⟩
   ·exact⟨b,zae _ hb,q⟩
  ·rintro⟨b,hb,q⟩
   rcases za9.mp hb with hb | hb
   ·exact .inr (.inr ⟨b,hb,q⟩)
   ·rw[za7.mp hb]at q
    rcases q with q | q
    ·exact .inr (.inl q.symm)
    ·exact .inl q.symm
 ·unfold rlb at e
  split at e
  ·rename_i c
   cases e
   exact((con2 _ _ e2).trans (Cn.line ha).symm).trans ((con2 _ _ e1).symm.trans (con2 _ _ c))
  ·exact con2 _ _ e
 ·have key:defL (defL G a.1) a.2 b.1=defL (defL G a.1) a.2 b.2∨b=a:=by
   rcases za9.mp hb with hb | hb
   ·left
    have n1:G b.1≠none:=(k.mem _).mpr ⟨b,hb,.inl rfl⟩
    have n2:G b.2≠none:=(k.mem _).mpr ⟨b,hb,.inr rfl⟩
    rw[j8 (dP.mpr (.inr n1)),j8 n1,j8 (dP.mpr (.inr n2)),j8 n2]
    exact k.cl b hb
   ·exact .inr (za7.mp hb)
  rcases key with e | rfl
  ·unfold rlb
   rw[e]
  ·unfold rlb
   rw[if_pos e1,e2]
   split<;>rfl
section
variable{P:Program}{w:World}{K:PySem.W.Frag}{mg:Str→Option Value}{base:Heap}
theorem LeOk.setDef{H H':Hp}{d q:Addr}{kvs:List (Dt×V)}{G:Ho→Option Ho}{h:Ho}{u:V}(D:LeOk P w H d kvs G)(t:two H q h)(sd:SetD P w H d kvs (hD h) (.ref q) u H') :
  ∃ kvs',LeOk P w H' d kvs' (defL G h)∧kvs'.length≤kvs.length+1∧(∀ H0,Same H0 H→H0 d=none→Same H0 H')∧∀ a v,H a=some v→(∀ φ,v≠.ext φ)→H' a=some v:=by
 rcases sd with ⟨e,rfl⟩ | ⟨e,rfl,o,rfl,d'⟩
 ·have hn:G h≠none:=(D.isIn h).mp (dW e)
  have eq:defL G h=G:=funext fun k=>by
   unfold defL
   rw[if_neg (fun c=>hn c.2)]
  rw[eq]
  exact⟨kvs,D,by omega,fun _ s _=>s,fun _ _ e _=>e⟩
 ·have hn:G h=none:=by
   cases z:G h with
   | none=>rfl
   | some f =>
    obtain⟨q',v,_⟩:=D.val h f z
    rw[e]at v
    cases v
  have eq:defL G h=setL G h h:=funext fun k=>by
   unfold defL setL
   by_cases z:k=h
   ·rw[if_pos ⟨z,hn⟩,if_pos z]
   ·rw[if_neg (fun c=>z c.1),if_neg z]
  rw[eq]
  obtain⟨φ,ext⟩:=D.dic.ext
  exact⟨_,D.put t d',fD _ _ _,fun _ s n=>am s n,fun a v ea hv=>by rw[af (fun z=>by rw[z,ext]at ea;exact hv φ (Option.some.inj ea).symm)];exact ea⟩
def spGroups(P:Program)(w:World):Sp:=fun vs H Q _=>∃ (t F B:Addr) (fs bs:List Ln),vs=[.ref t]∧WkIs H t F B fs bs∧∀ d kvs G H',Same H H'→H d=none→LeOk P w H' d kvs G→kvs.length≤280→GrOk (fs++bs) (fs++bs) G→Q (.ref d) H'
theorem eU:aS ["_law_work_here","_law_group","_law_one","_law_other","_law_old","_law_new","_law_hole"] ["_law_work_here"] (ab gh):=⟨rfl,rfl,rfl,by decide +kernel,rfl,by decide +kernel,by decide +kernel⟩
theorem ok_groups{f:Addr}{fd:FuncData}(D:Df K mg "_law_groups" gh f fd)(hlist:mg "list"=none):FnOk P w K mg base CX0 1 f fd ["_law_work_here"] (spGroups P w):=by
 refine D.F.ok eU (fun vs H Q E h=>?_) (fun cdv A outer s H vs Q E hr h=>?_)
 ·obtain⟨t,F,B,fs,bs,rfl,_⟩:=h
  rfl
 ·obtain⟨t,F,B,fs,bs,rfl,wk,z⟩:=h
  refine⟨_,(aa (ai (i:=1) eU.nd rfl (Or.inl rfl) eX)
   (aa (cp PassesOwn.never rfl (c6 (ah op_cat (b6 aw (pv 0) a8 (fun _ _=>rfl)) (b6 aw (pv 0) a8 (fun _ _=>rfl)))) (fk rfl (b0 (al (i:=2) eU.nd rfl (Or.inl rfl)) (b0 (al (i:=3) eU.nd rfl (Or.inl rfl)) dX))) (aa (dq (ju PySem.F.slot_dict_setdefault PySem.F.type_dict_setdefault (iA hr) (pv 1) (pac (pv 2) (pac (pv 2) a9))))
   (aa (dq (ju PySem.F.slot_dict_setdefault PySem.F.type_dict_setdefault (iA hr) (pv 1) (pac (pv 3) (pac (pv 3) a9))))
   (aa (ai (i:=4) eU.nd rfl (Or.inl rfl) (gG hr (pv 1) (pv 2) (fun _ _=>rfl)))
   (aa (ai (i:=5) eU.nd rfl (Or.inl rfl) (gG hr (pv 1) (pv 3) (fun _ _=>rfl)))
   (ag (cp PassesOwn.never rfl (c6 (g4 (call_listD hr) (by rfl) hlist boot_list (pac (pv 1) a9))) (al (i:=6) eU.nd rfl (Or.inl rfl)) (ag (dE (ar (op_eqD hr) (gG hr (pv 1) (pv 6) (fun _ _=>rfl)) (pv 4) (b9 _)) (ag (eV hr (pv 1) (pv 6) (pv 5) rfl)) bm)))))))))
   (ag (aD (pv 1))))),?_⟩
  obtain⟨et,⟨fv,eF,dF⟩,⟨bv,eB,dB⟩,lf,lb⟩:=wk
  have fvl:fv.length=fs.length:=by rw[dF.length,za0]
  have bvl:bv.length=bs.length:=by rw[dB.length,za0]
  refine fun dA o0 ndA dic0=>?_
  have S0:=a7 (o:=o0) ndA
  refine⟨_,rfl,t,_,_,_,rfl,rfl,SqT.of (S0 _ _ et),rfl,_,rfl,t,_,_,_,rfl,rfl,SqT.of (S0 _ _ et),rfl,F,B,fv,bv,rfl,rfl,S0 _ _ eF,S0 _ _ eB,sz (by omega),fun C nC=>?_⟩
  have T3:=a7 (o:=HO.lst (fv++bv)) nC
  have dC:ac H (fv++bv) ((fs++bs).map lnD):=by rw[zar];exact dapp dF dB
  have S3:=S0.trans T3
  have dic3:=dic0.same T3
  have eC:(upd (upd H dA o0) C (.lst (fv++bv))) C=some (.lst (fv++bv)):=a6
  refine⟨C,rfl,⟨_,SqL.of a6⟩,?_⟩
  have hl:(fs++bs).length≤140:=by rw[za1];omega
  have xsl:(fv++bv).length=(fs++bs).length:=by rw[dC.length,za0]
  revert S3 dic3 eC
  generalize (upd (upd H dA o0) C (.lst (fv++bv)))=H3
  intro S3 dic3 eC
  revert z dC hl xsl
  generalize fs++bs=all
  generalize fv++bv=xs at *
  intro z dC hl xsl
  refine d4 (K:=K) (a:=C) (xs:=xs) (fun i σ H4=>(∃ v2 v3 v4 v5 v6,σ=[some (.ref t),some (.ref dA),v2,v3,v4,v5,v6])∧Same H H4∧H4 C=some (.lst xs)∧∃ kvs G,LeOk P w H4 dA kvs G∧GrOk all (all.take i) G∧kvs.length≤2*i)
   ⟨⟨_,_,_,_,_,rfl⟩,S3,eC,[],_,LeOk.start dic3,by rw[zb3];exact GrOk.nil _,za4 _⟩ (fun i σ H4 _ ⟨_,_,e,_⟩=>SqL.of e) ?_ ?_
  ·rintro i x σ H4 hx ⟨⟨v2,v3,v4,v5,v6,rfl⟩,S4,eC4,kvs,G,le4,gr,kl⟩
   obtain⟨r,x0,y0,a,rfl,ha,er,tx,ty⟩:=ln_at dC hx
   have hi:i<all.length:=(za3.mp ha).1
   have tk:all.take (i+1)=all.take i++[a]:=by rw[zb0,ha];rfl
   refine⟨r,_,rfl,SqT.of (S4 _ _ er),rfl,_,_,rfl,_,_,rfl,rfl,?_⟩
   refine⟨_,rfl,⟨dA,kvs,rfl,le4.dic⟩,_,rfl,_,rfl,dA,x0,hD a.1,kvs,.ref x0,rfl,rfl,ao (S4 _ _ tx),h8 _,le4.dic,by omega,fun u H5 sd=>?_⟩
   obtain⟨kvs1,le5,kl5,sm5,kp5⟩:=le4.setDef (S4 _ _ tx) sd
   have S5:=sm5 H S4 ndA
   have eC5:=kp5 _ _ eC4 (fun _ zz=>nomatch zz)
   refine⟨_,rfl,⟨dA,kvs1,rfl,le5.dic⟩,_,rfl,_,rfl,dA,y0,hD a.2,kvs1,.ref y0,rfl,rfl,ao (S5 _ _ ty),h8 _,le5.dic,by omega,fun u' H6 sd'=>?_⟩
   obtain⟨kvs2,le6,kl6,sm6,kp6⟩:=le5.setDef (S5 _ _ ty) sd'
   have S6:=sm6 H S5 ndA
   have eC6:=kp6 _ _ eC5 (fun _ zz=>nomatch zz)
   obtain⟨o,eo⟩:∃ o,defL (defL G a.1) a.2 a.1=some o:=Option.ne_none_iff_exists'.mp (dP.mpr (.inr (dP.mpr (.inl rfl))))
   obtain⟨n,en⟩:∃ n,defL (defL G a.1) a.2 a.2=some n:=Option.ne_none_iff_exists'.mp (dP.mpr (.inl rfl))
   have fin:=gr.step (zak ha) eo en
   rw[← tk]at fin
   obtain⟨qo,vo,to⟩:=le6.val a.1 o eo
   obtain⟨qn,vn,tn⟩:=le6.val a.2 n en
   refine⟨_,rfl,_,rfl,dA,x0,hD a.1,kvs2,.ref qo,rfl,rfl,ao (S6 _ _ tx),h8 _,le6.dic,vo,?_⟩
   refine⟨_,rfl,_,rfl,dA,y0,hD a.2,kvs2,.ref qn,rfl,rfl,ao (S6 _ _ ty),h8 _,le6.dic,vn,?_⟩
   refine⟨_,rfl,dA,kvs2,rfl,le6.dic,fun Z zs nZ dZ=>?_⟩
   have TZ:=a7 (o:=HO.lst zs) nZ
   obtain⟨hs,ehs⟩:=as_hD (es:=kvs2.map (·.1)) fun d hd=>by
    obtain⟨g,_,e⟩:=(le6.mem d).mp hd
    exact⟨g,e.symm⟩
   rw[ehs]at dZ
   have hsl:hs.length=kvs2.length:=by
    have:=congrArg List.length ehs
    rw[za0,za0]at this
    omega
   have hmem:∀ h,defL (defL G a.1) a.2 h≠none→h∈hs:=fun h n=>by
    have:=(le6.isIn h).mpr n
    rw[ehs]at this
    obtain⟨g,hg,e⟩:=za6.mp this
    exact bZ e▸hg
   have hin:∀ h∈hs,defL (defL G a.1) a.2 h≠none:=fun h hh=>(le6.isIn h).mp (by rw[ehs];exact List.mem_map_of_mem hh)
   revert fin le6 eo en hmem hin
   generalize defL (defL G a.1) a.2=G2
   intro le6 eo en fin hmem hin
   have S7:=S6.trans TZ
   have le7:=le6.same TZ
   have eC7:=TZ _ _ eC6
   have eZ:(upd H6 Z (.lst zs)) Z=some (.lst zs):=a6
   have dZ7:=dZ.same TZ
   have to7:=TZ _ _ to
   have tn7:=TZ _ _ tn
   refine⟨Z,rfl,⟨_,SqL.of a6⟩,?_⟩
   revert S7 le7 eC7 eZ dZ7 to7 tn7
   generalize (upd H6 Z (.lst zs))=H7
   intro S7 le7 eC7 eZ dZ7 to7 tn7
   have zsl:zs.length=hs.length:=by rw[dZ7.length,za0]
   refine d4 (K:=K) (a:=Z) (xs:=zs) (fun j σ H8=>(∃ v6,σ=[some (.ref t),some (.ref dA),some (.ref x0),some (.ref y0),some (.ref qo),some (.ref qn),v6])∧Same H H8∧H8 C=some (.lst xs)∧H8 Z=some (.lst zs)∧ac H8 zs (hs.map hD)∧two H8 qo o∧two H8 qn n∧∃ kvs,LeOk P w H8 dA kvs (relS G2 o n (hs.take j)))
    ⟨⟨_,rfl⟩,S7,eC7,eZ,dZ7,to7,tn7,kvs2,by
     have:relS G2 o n (hs.take 0)=G2:=funext fun k=>by
      unfold relS
      rw[zb3,if_neg (fun c=>nomatch c.1)]
     rw[this];exact le7⟩ (fun j σ H8 _ ⟨_,_,_,e,_⟩=>SqL.of e) ?_ ?_
   ·rintro j y σ H8 hy ⟨⟨v6,rfl⟩,S8,eC8,eZ8,dZ8,to8,tn8,kv8,le8⟩
    obtain⟨q,k,rfl,hk,tq⟩:=jC dZ8 hy
    have tkj:hs.take (j+1)=hs.take j++[k]:=by rw[zb0,hk];rfl
    have hkh:k∈hs:=zak hk
    have kl8:kv8.length≤hs.length:=valV_len le8.nd fun e he=>by
     obtain⟨g,hg,e'⟩:=(le8.mem e).mp he
     refine⟨g,hmem g fun zz=>hg ?_,e'⟩
     unfold relS
     rw[if_neg (fun c=>by rw[zz]at c;exact nomatch c.2)]
     exact zz
    obtain⟨gk,egk⟩:∃ gk,G2 k=some gk:=Option.ne_none_iff_exists'.mp (hin k hkh)
    obtain⟨vk,evk,nok⟩:∃ vk,relS G2 o n (hs.take j) k=some vk∧(vk=o→G2 k=some o∨vk=n):=by
     unfold relS
     by_cases c:k∈hs.take j∧G2 k=some o
     ·rw[if_pos c];exact⟨n,rfl,fun _=>.inr rfl⟩
     ·rw[if_neg c];exact⟨gk,egk,fun e=>.inl (by rw[egk,e])⟩
    obtain⟨qk,vvk,tvk⟩:=le8.val k vk evk
    refine⟨_,rfl,_,rfl,dA,q,hD k,kv8,.ref qk,rfl,rfl,ao tq,h8 _,le8.dic,vvk,_,rfl,hD vk,hD o,ao tvk,ao to8,h60 _,⟨_,rfl⟩,⟨_,rfl⟩,_,rfl,?_⟩
    rw[beq_hD]
    by_cases hc:vk=o
    ·refine f9 hc ?_
     refine⟨_,rfl,_,rfl,_,rfl,dA,q,hD k,kv8,rfl,rfl,ao tq,h8 _,le8.dic,by omega,fun o' dic'=>?_⟩
     have le9:=le8.put tn8 dic'
     have eq:setL (relS G2 o n (hs.take j)) k n=relS G2 o n (hs.take (j+1)):=funext fun m=>by
      unfold setL relS
      rw[tkj]
      by_cases zm:m=k
      ·subst zm
       rw[if_pos rfl]
       by_cases c:G2 m=some o
       ·rw[if_pos ⟨za5 _ (za7.mpr rfl),c⟩]
       ·rw[if_neg (fun c'=>c c'.2)]
        rcases nok hc with c' | c'
        ·exact absurd c' c
        ·-- told already,or new by itself
         have:relS G2 o n (hs.take j) m=G2 m:=by
          unfold relS
          rw[if_neg (fun c'=>c c'.2)]
         rw[this]at evk
         rw[evk,c']
      ·rw[if_neg zm]
       by_cases c:m∈hs.take j∧G2 m=some o
       ·rw[if_pos c,if_pos ⟨zae _ c.1,c.2⟩]
       ·rw[if_neg c,if_neg (fun c'=>by
         rcases za9.mp c'.1 with h | h
         ·exact c ⟨h,c'.2⟩
         ·exact zm (za7.mp h))]
     rw[eq]at le9
     obtain⟨φ,ext⟩:=le8.dic.ext
     have upX:∀ {c:Addr} {v:HO},H8 c=some v→(∀ ψ,v≠.ext ψ)→(upd H8 dA o') c=some v:=fun {c v} hc hv=>by
      rw[af (fun e=>by rw[e,ext]at hc;exact hv φ (Option.some.inj hc).symm)]
      exact hc
     exact⟨⟨_,rfl⟩,am S8 ndA,upX eC8 (fun _ zz=>nomatch zz),upX eZ8 (fun _ zz=>nomatch zz),dZ8.updX ext,upX to8 (fun _ zz=>nomatch zz),upX tn8 (fun _ zz=>nomatch zz),_,le9⟩
    ·refine dY hc ⟨⟨_,rfl⟩,S8,eC8,eZ8,dZ8,to8,tn8,kv8,?_⟩
     have eq:relS G2 o n (hs.take (j+1))=relS G2 o n (hs.take j):=funext fun m=>by
      unfold relS
      rw[tkj]
      by_cases c:m∈hs.take j∧G2 m=some o
      ·rw[if_pos c,if_pos ⟨zae _ c.1,c.2⟩]
      ·rw[if_neg c]
       by_cases zm:m=k∧G2 m=some o
       ·obtain⟨rfl,c2⟩:=zm
        have:relS G2 o n (hs.take j) m=G2 m:=by
         unfold relS
         rw[if_neg c]
        rw[this,c2]at evk
        exact absurd (Option.some.inj evk).symm hc
       ·rw[if_neg (fun c'=>by
         rcases za9.mp c'.1 with h | h
         ·exact c ⟨h,c'.2⟩
         ·exact zm ⟨za7.mp h,c'.2⟩)]
     rw[eq]
     exact le8
   ·rintro σ H8 ⟨⟨v6,rfl⟩,S8,eC8,eZ8,dZ8,to8,tn8,kv8,le8⟩
    rw[zas (by omega)]at le8
    have eq:relS G2 o n hs=rlb G2 o n:=funext fun m=>by
     unfold relS rlb
     by_cases c:G2 m=some o
     ·rw[if_pos c,if_pos ⟨hmem m (by rw[c];exact zbs _),c⟩]
     ·rw[if_neg c,if_neg (fun c'=>c c'.2)]
    have kl8:kv8.length≤hs.length:=valV_len le8.nd fun e he=>by
     obtain⟨g,hg,e'⟩:=(le8.mem e).mp he
     refine⟨g,hmem g fun zz=>hg ?_,e'⟩
     unfold relS
     rw[if_neg (fun c=>by rw[zz]at c;exact nomatch c.2)]
     exact zz
    rw[eq]at le8
    exact⟨⟨_,_,_,_,_,rfl⟩,S8,eC8,kv8,_,le8,fin,by omega⟩
  ·rintro σ H4 ⟨⟨v2,v3,v4,v5,v6,rfl⟩,S4,eC4,kvs,G,le4,gr,kl⟩
   rw[zas (by omega)]at gr
   exact⟨_,rfl,z dA kvs G H4 S4 ndA le4 (by omega) gr⟩
end
end K63
namespace K63
open BF
def Dj(s t:Thd):Prop:=∀ x∈s.2,x∉t.2
theorem Dj.symm{s t:Thd}(h:Dj s t):Dj t s:=fun x hx hs=>h x hs hx
def tip(t:Thd):Option Ho×Option Ho:=(t.2.head?,t.2.getLast?)
theorem with_tip{t r l:Thd}(k:Rg r)(e:cg t r=some l):tip l=tip t:=by
 obtain⟨A,h,B,e1,e2,_,rfl⟩:=d9 e
 obtain⟨M,eb,_,_⟩:=k.begun e2 (ae t.1 A.length)
 unfold tip
 show((A++begun r h (ae t.1 A.length)++B).head?,(A++begun r h (ae t.1 A.length)++B).getLast?)=_
 rw[eb,e1]
 refine Prod.ext ?_ ?_
 ·cases A<;>simp
 ·rcases zbh B with rfl | ⟨B',b,rfl⟩
  ·have:A++h::(M++[h])++[]=(A++h::M)++[h]:=by simp
   show(A++h::(M++[h])++[]).getLast?=(A++[h]).getLast?
   rw[this,eD,eD]
  ·rw[zbi]
   have e3:A++h::(M++[h])++(B'++[b])=(A++h::(M++[h])++B')++[b]:=by simp
   have e4:A++h::(B'++[b])=(A++h::B')++[b]:=by simp
   show(A++h::(M++[h])++(B'++[b])).getLast?=(A++h::(B'++[b])).getLast?
   rw[e3,e4,eD,eD]
theorem with_mem{t r l:Thd}(k:Rg r)(e:cg t r=some l)(x:Ho):x∈l.2↔x∈t.2∨x∈r.2:=by
 obtain⟨A,h,B,e1,e2,_,rfl⟩:=d9 e
 obtain⟨M,_,_,em⟩:=k.begun e2 (ae t.1 A.length)
 show x∈A++begun r h (ae t.1 A.length)++B↔_
 rw[e1,za9,za9,za9,zaa,em]
 constructor
 ·rintro((z | z) | z)
  ·exact .inl (.inl z)
  ·exact .inr z
  ·exact .inl (.inr (.inr z))
 ·rintro((z | rfl | z) | z)
  ·exact .inl (.inl z)
  ·exact .inl (.inr e2)
  ·exact .inr z
  ·exact .inl (.inr z)
theorem with_meets{t r l:Thd}(e:cg t r=some l):¬ Dj t r:=by
 obtain⟨A,h,B,e1,e2,_,rfl⟩:=d9 e
 exact fun d=>d h (by rw[e1];simp) e2
theorem with_dj{c t r l:Thd}(k:Rg r)(e:cg t r=some l)(d1:Dj c t)(d2:Dj c r):Dj c l:=fun x hx hl=>by
 rcases(with_mem k e x).mp hl with z | z
 ·exact d1 x hx z
 ·exact d2 x hx z
theorem je(a b:List Thd):allS (a++b)=allS a++allS b:=by simp[allS]
theorem dS(a:Thd)(b:List Thd):allS (a::b)=stsF a.1 a.2++allS b:=by simp[allS]
theorem tak_sts{ts ts':List Thd}{r:Thd}(kr:Rg r)(ev:r.2.length % 2=1)(e:takR ts r=some ts'):(allS ts').Perm (allS ts++stsF r.1 r.2):=by
 obtain⟨A,t,B,t',e1,e2,_,e4⟩:=eO e
 rw[e1,e4,zbr,je,je,dS,dS,zai]
 refine List.Perm.append_left _ ?_
 refine(List.Perm.append_right _ (with_sts kr ev e2)).trans ?_
 rw[zai,zai]
 exact List.Perm.append_left _ zb2
structure FwI(O:List Thd)(S:List Sti)(f1 f2 rings:List Thd):Prop where
 tips:f1.map tip=O.map tip
 ln:∀ t∈f1,2≤t.2.length
 rg2:∀ c∈f2,Rg c
 rg:∀ c∈rings,Rg c∧c.2.length % 2=1
 pw:f2.Pairwise Dj
 d1:∀ c∈f2,∀ t∈f1,Dj c t
 d2:∀ c∈f2,∀ t∈rings,Dj c t
 pm:(allS (f1++f2)++allS rings).Perm S
theorem split_app{A B C D:List Thd}{t:Thd}(e:A++B=C++t::D)(n:t∉B):∃ D',A=C++t::D'∧D=D'++B:=by
 rcases List.append_eq_append_iff.mp e with ⟨X,e1,e2⟩ | ⟨X,e1,e2⟩
 ·exact absurd (by rw[e2];simp) n
 ·cases X with
  | nil =>
   rw[zbr]at e2
   exact absurd (by rw[← e2];simp) n
  | cons x X =>
   rw[zc2]at e2
   injection e2 with e3 e4
   subst e3
   exact⟨X,e1,e4⟩
theorem jY{O:List Thd}{S:List Sti}:∀ (n:Nat) {f1 f2 rings:List Thd},rings.length=n→FwI O S f1 f2 rings→∃ g1 g2,fewG n (f1++f2) rings=g1++g2∧FwI O S g1 g2 []
 | 0,f1,f2,rings,hl,I=>by
  have:rings=[]:=zbx.mp hl
  subst this
  exact⟨f1,f2,rfl,I⟩
 | n+1,f1,f2,rings,hl,I=>by
  rcases zbh rings with rfl | ⟨rs,r,rfl⟩
  ·simp at hl
  rw[zbi]at *
  have hn:rs.length=n:=by simpa using hl
  have kr:=I.rg r (by simp)
  have krs:∀ c∈rs,Rg c∧c.2.length % 2=1:=fun c hc=>I.rg c (zae _ hc)
  have dr:∀ c∈f2,Dj c r:=fun c hc=>I.d2 c hc r (by simp)
  have drs:∀ c∈f2,∀ t∈rs,Dj c t:=fun c hc t ht=>I.d2 c hc t (zae _ ht)
  have pm:=I.pm
  rw[je rs,dS,show allS []=[] from rfl,zau]at pm
  rw[← hn,show rs.length+1=(rs++[r]).length by simp,fewG_step]
  cases h1:takR (f1++f2) r with
  | some told' =>
   obtain⟨A,t,B,t',e1,e2,_,e4⟩:=eO h1
   have nt:t∉f2:=fun z=>with_meets e2 (dr t z)
   obtain⟨B',e5,e6⟩:=split_app e1 nt
   have e7:told'=(A++t'::B')++f2:=by rw[e4,e6];simp
   show ∃ g1 g2,fewG rs.length told' rs=g1++g2∧_
   rw[e7]
   refine hn▸jY rs.length (f1:=A++t'::B') (f2:=f2) rfl ⟨?_,fun u hu=>?_,I.rg2,krs,I.pw,fun c hc u hu=>?_,drs,?_⟩
   ·rw[← I.tips,e5,zar,zar,zay,zay,with_tip kr.1 e2]
   ·have l1:=I.ln
    rw[e5]at l1
    rcases za9.mp hu with hu | hu
    ·exact l1 u (zae _ hu)
    ·rcases zaa.mp hu with rfl | hu
     ·have w1:=with_len kr.1 e2
      have w2:=l1 t (by simp)
      have w3:=kr.1.len
      omega
     ·exact l1 u (za5 _ (zac _ hu))
   ·have d1:=I.d1 c hc
    rw[e5]at d1
    rcases za9.mp hu with hu | hu
    ·exact d1 u (zae _ hu)
    ·rcases zaa.mp hu with rfl | hu
     ·exact with_dj kr.1 e2 (d1 t (by simp)) (dr c hc)
     ·exact d1 u (za5 _ (zac _ hu))
   ·rw[← e7]
    refine List.Perm.trans ?_ pm
    refine(List.Perm.append_right _ (tak_sts kr.1 kr.2 h1)).trans ?_
    rw[zai]
    exact List.Perm.append_left _ zb2
  | none =>
   cases h2:takR rs r with
   | some rings' =>
    obtain⟨A,t,B,t',e1,e2,_,e4⟩:=eO h2
    rw[zbr]at e4
    have ln:rings'.length=rs.length:=by rw[e1,e4];simp
    show ∃ g1 g2,fewG rs.length (f1++f2) rings'=g1++g2∧_
    refine hn▸jY rs.length (f1:=f1) (f2:=f2) ln ⟨I.tips,I.ln,I.rg2,fun c hc=>?_,I.pw,I.d1,fun c hc u hu=>?_,?_⟩
    ·rw[e4]at hc
     rw[e1]at krs
     rcases za9.mp hc with hc | hc
     ·exact krs c (zae _ hc)
     ·rcases zaa.mp hc with rfl | hc
      ·have kt:=krs t (by simp)
       exact⟨kt.1.with kr.1 e2,by rw[with_odd kr.1 kr.2 e2];exact kt.2⟩
      ·exact krs c (za5 _ (zac _ hc))
    ·have d1:=drs c hc
     rw[e4]at hu
     rw[e1]at d1
     rcases za9.mp hu with hu | hu
     ·exact d1 u (zae _ hu)
     ·rcases zaa.mp hu with rfl | hu
      ·exact with_dj kr.1 e2 (d1 t (by simp)) (dr c hc)
      ·exact d1 u (za5 _ (zac _ hu))
    ·exact(List.Perm.append_left _ (tak_sts kr.1 kr.2 h2)).trans pm
   | none =>
    show ∃ g1 g2,fewG rs.length (f1++f2++[r]) rs=g1++g2∧_
    have n1:=ji h1
    have n2:=ji h2
    rw[zai]
    refine hn▸jY rs.length (f1:=f1) (f2:=f2++[r]) rfl ⟨I.tips,I.ln,fun c hc=>?_,krs,?_,fun c hc u hu=>?_,fun c hc u hu=>?_,?_⟩
    ·rcases za9.mp hc with hc | hc
     ·exact I.rg2 c hc
     ·rw[za7.mp hc];exact kr.1
    ·rw[zav]
     refine⟨I.pw,List.pairwise_singleton ..,fun a ha b hb=>?_⟩
     rw[za7.mp hb]
     exact dr a ha
    ·rcases za9.mp hc with hc | hc
     ·exact I.d1 c hc u hu
     ·rw[za7.mp hc]
      exact Dj.symm (withR_none (n1 u (zae _ hu)))
    ·rcases za9.mp hc with hc | hc
     ·exact drs c hc u hu
     ·rw[za7.mp hc]
      exact Dj.symm (withR_none (n2 u hu))
    ·rw[← zai,je (f1++f2),dS,show allS []=[] from rfl,zau,zai]
     exact(List.Perm.append_left _ zb2).trans pm
theorem ties_at{fs bs:List Ln}{hs:List Ho}(mh:∀ h,h∈hs↔∃ a∈fs,a.1=h∨a.2=h){h:Ho}{a b:Ln}:(h,a,b)∈gw fs bs hs↔(h,a,b)∈tieT fs bs h:=by
 constructor
 ·intro m
  obtain⟨l,hl,hm⟩:=zbj.mp m
  obtain⟨g,hg,rfl⟩:=za6.mp hl
  obtain⟨a',_,b',_,e⟩:=f6 hm
  have:h=g:=(Prod.mk.inj e).1
  exact this▸hm
 ·intro m
  obtain⟨a',ha,b',_,e⟩:=f6 m
  have:=gN ha
  exact zbj.mpr ⟨_,za6.mpr ⟨h,(mh h).mpr ⟨a',this.1,this.2⟩,rfl⟩,m⟩
theorem sts_in:∀ {f:Bool} {l:List Ho} {s:Sti},s∈stsF f l→s.2.1∈l∧s.2.2∈l
 | f,[],s,h=>by rw[stsF]at h;exact nomatch h;exact fun _ _ _ z=>by cases z
 | f,[a],s,h=>by rw[gE]at h;exact nomatch h
 | f,a::b::l,s,h=>by
  rw[bz]at h
  rcases zaa.mp h with rfl | h
  ·show(ordP a b).1∈_∧(ordP a b).2∈_
   unfold ordP
   split<;>simp
  ·obtain⟨h1,h2⟩:=sts_in h
   exact⟨zac _ h1,zac _ h2⟩
theorem sts_grp{G:Ho→Option Ho}:∀ {f:Bool} {a:Ho} {l:List Ho},(∀ s∈stsF f (a::l),G s.2.1=G s.2.2)→∀ x∈a::l,G x=G a
 | f,a,[],_,x,hx=>by rw[za7.mp hx]
 | f,a,b::l,h,x,hx=>by
  rw[bz]at h
  have ih:=sts_grp (f:=!f) (a:=b) (l:=l) fun s hs=>h s (zac _ hs)
  have e:G b=G a:=by
   have:=h _ (zad ..)
   have this:G (ordP a b).1=G (ordP a b).2:=this
   unfold ordP at this
   split at this
   ·exact this.symm
   ·exact this
  rcases zaa.mp hx with rfl | hx
  ·rfl
  ·rw[ih x hx,e]
def grpT(G:Ho→Option Ho)(t:Thd):Option Ho:=(t.2.head?).bind G
theorem grp_of{fs bs:List Ln}{G:Ho→Option Ho}{fin:List Thd}(gr:GrOk (fs++bs) (fs++bs) G)(pm:(allS fin).Perm (askL fs bs)){t:Thd}(ht:t∈fin){x:Ho}(hx:x∈t.2):G x=grpT G t:=by
 unfold grpT
 cases e:t.2 with
 | nil=>rw[e]at hx;exact nomatch hx
 | cons a l =>
  rw[e]at hx
  refine sts_grp (f:=t.1) (l:=l) (fun s hs=>?_) x hx
  have m:s∈allS fin:=zbj.mpr ⟨_,za6.mpr ⟨t,ht,rfl⟩,by rw[e];exact hs⟩
  refine gr.cl s.2 ?_
  rcases c5.mp (pm.mem_iff.mp m) with ⟨_,z⟩ | ⟨_,z⟩
  ·exact zae _ z
  ·exact za5 _ z
theorem line_in{fs bs:List Ln}{fin:List Thd}(pm:(allS fin).Perm (askL fs bs)){a:Ln}(ha:a∈fs++bs):∃ t∈fin,a.1∈t.2∧a.2∈t.2:=by
 have:∃ b,(b,a)∈askL fs bs:=by
  rcases za9.mp ha with z | z
  ·exact⟨true,c5.mpr (.inl ⟨rfl,z⟩)⟩
  ·exact⟨false,c5.mpr (.inr ⟨rfl,z⟩)⟩
 obtain⟨b,hb⟩:=this
 obtain⟨l,hl,hm⟩:=zbj.mp (pm.mem_iff.mpr hb)
 obtain⟨t,ht,rfl⟩:=za6.mp hl
 exact⟨t,ht,sts_in hm⟩
theorem pw_eq{c t:Thd}:∀ {l:List Thd},l.Pairwise Dj→c∈l→t∈l→¬ Dj c t→c=t
 | [],_,h,_,_=>nomatch h
 | x::l,pw,hc,ht,n=>by
  rw[List.pairwise_cons]at pw
  rcases zaa.mp hc with rfl | hc'
  ·rcases zaa.mp ht with e | ht'
   ·exact e.symm
   ·exact absurd (pw.1 t ht') n
  ·rcases zaa.mp ht with rfl | ht'
   ·exact absurd (pw.1 c hc').symm n
   ·exact pw_eq pw.2 hc' ht' n
theorem ring_all{O:List Thd}{fs bs:List Ln}{G:Ho→Option Ho}{f1 f2:List Thd}(I:FwI O (askL fs bs) f1 f2 [])(gr:GrOk (fs++bs) (fs++bs) G){c:Thd}(hc:c∈f2){x h g:Ho}(hx:x∈c.2)(e1:G x=some g)(e2:G h=some g):h∈c.2:=by
 have pm:(allS (f1++f2)).Perm (askL fs bs):=by have:=I.pm;rwa [show allS []=[] from rfl,zau]at this
 have cn:Cn (fs++bs) x h:=(gr.con x g e1).symm.trans (gr.con h g e2)
 have one:∀ t∈f1++f2,(∃ y,y∈t.2∧y∈c.2)→t=c:=fun t ht ⟨y,y1,y2⟩=>by
  rcases za9.mp ht with ht | ht
  ·exact absurd y1 (I.d1 c hc t ht y y2)
  ·exact(pw_eq I.pw hc ht fun d=>d y y2 y1).symm
 refine Cn.stay (S:=fun y=>y∈c.2) (fun a ha=>?_) cn hx
 obtain⟨t,ht,t1,t2⟩:=line_in pm ha
 constructor
 ·intro z
  rw[← one t ht ⟨_,t1,z⟩];exact t2
 ·intro z
  rw[← one t ht ⟨_,t2,z⟩];exact t1
theorem wlk_face{fs bs:List Ln}{T:List Tie}{s0:Sti}{h0:Ho}{ps:List Sti}{hs:List Ho}(W:Wlk T s0 h0 ps hs):∀ (k:Nat) (s:Sti),ps[k]?=some s→s.1=ae s0.1 k
 | 0,s,h=>by rw[W.sb]at h;cases h;rfl
 | k+1,s,h=>by
  have hl:=(za3.mp h).1
  obtain⟨q,hq⟩:∃ q,ps[k]?=some q:=⟨_,za2 (by omega)⟩
  obtain⟨e,he⟩:=W.at (k:=k+1) (by omega)
  rw[(W.lnk k q s e hq h he).face,wlk_face (fs:=fs) (bs:=bs) W k q hq,bt]
theorem ordP_ends{a:Ln}{e x:Ho}(o:hLt a.1 a.2=true)(o2:hLt a.2 a.1=false)(ee:cj a e)(ex:x=oth a e):ordP e x=a:=by
 unfold oth at ex
 unfold ordP
 by_cases c:e=a.1
 ·rw[if_pos c]at ex
  rw[ex,c,if_pos o]
 ·rw[if_neg c]at ex
  have:e=a.2:=(ee.resolve_left fun z=>c z.symm).symm
  rw[ex,this,if_neg (by rw[o2];exact zaj)]
theorem row_sts{fs bs:List Ln}{T:List Tie}(o:∀ s,InW fs bs s→hLt s.2.1 s.2.2=true∧hLt s.2.2 s.2.1=false){r:Row}(g:gb T r)(iw:∀ s∈r.ps,InW fs bs s):stsF r.f r.hs=r.ps:=by
 obtain⟨s0,h0,hs',hl,ps',p,e1,e2,e3,W,alt⟩:=g
 rw[e3]at iw
 rw[e1,e2,e3]
 have wl:=W.len
 refine List.ext_getElem? fun k=>?_
 by_cases hk:k<(ps'++[p]).length
 ·obtain⟨s,hs⟩:∃ s,(ps'++[p])[k]?=some s:=⟨_,za2 hk⟩
  obtain⟨e,he⟩:=W.at (k:=k) (by omega)
  obtain⟨x,hx⟩:=W.at (k:=k+1) (by omega)
  obtain⟨ee,ex⟩:=W.ends k s e x hs he hx
  have is:=o s (iw s (zak hs))
  rw[stsF_at s0.1 (hs'++[hl]) k e x he hx,hs,ordP_ends is.1 is.2 ee ex,← wlk_face (fs:=fs) (bs:=bs) W k s hs]
 ·rw[zbg (by rw[fw];omega),zbg (by omega)]
theorem good_odd{fs bs:List Ln}{T:List Tie}{r:Row}(g:gb T r)(c:r.c=true):(thR r).2.length % 2=1:=by
 obtain⟨s0,h0,hs',hl,ps',p,e1,e2,e3,W,alt⟩:=g
 rw[if_pos c]at alt
 have wl:=W.len
 have f:=wlk_face (fs:=fs) (bs:=bs) W ps'.length p (by simp)
 have f2:=alt.2.face
 rw[f]at f2
 have l1:(ps'++[p]).length=ps'.length+1:=by simp
 show r.hs.length % 2=1
 rw[e2,wl,l1]
 unfold ae at f2
 by_cases z:ps'.length % 2=0
 ·rw[if_pos z]at f2
  cases h:s0.1<;>rw[h]at f2<;>cases f2
 ·omega
theorem rows_sts{fs bs:List Ln}{T:List Tie}(o:∀ s,InW fs bs s→hLt s.2.1 s.2.2=true∧hLt s.2.2 s.2.1=false):∀ {rows:List Row},(∀ r∈rows,gb T r)→(∀ s∈aj rows,InW fs bs s)→(allS (selR false rows)++allS (selR true rows)).Perm (aj rows)
 | [],_,_=>List.Perm.refl _
 | r::rows,g,iw=>by
  have ue:aj (r::rows)=r.ps++aj rows:=by simp[aj]
  rw[ue]at iw ⊢
  have ih:=rows_sts o (rows:=rows) (fun q hq=>g q (zac _ hq)) fun s hs=>iw s (za5 _ hs)
  have es:stsF (thR r).1 (thR r).2=r.ps:=row_sts o (g r (zad ..)) fun s hs=>iw s (zae _ hs)
  unfold selR at *
  cases hc:r.c with
  | true =>
   rw[zbn (by rw[hc];decide),zbm (by rw[hc];decide),zay,dS,es,← zai]
   refine(List.Perm.append_right _ zb2).trans ?_
   rw[zai]
   exact List.Perm.append_left _ ih
  | false =>
   rw[zbm (by rw[hc];decide),zbn (by rw[hc];decide),zay,dS,es,zai]
   exact List.Perm.append_left _ ih
theorem few_all{fs bs:List Ln}{T:List Tie}{rows:List Row}(o:∀ s,InW fs bs s→hLt s.2.1 s.2.2=true∧hLt s.2.2 s.2.1=false)(g:∀ r∈rows,gb T r)(pm:(aj rows).Perm (askL fs bs)) :
  ∃ f1 f2,fewG (selR true rows).length (selR false rows) (selR true rows)=f1++f2∧FwI (selR false rows) (askL fs bs) f1 f2 []:=by
 have iw:∀ s∈aj rows,InW fs bs s:=fun s hs=>c5.mp (pm.mem_iff.mp hs)
 have I:FwI (selR false rows) (askL fs bs) (selR false rows) [] (selR true rows):=by
  refine⟨rfl,fun t ht=>?_,fun _ z=>(nomatch z),fun c hc=>?_,List.Pairwise.nil,fun _ z=>(nomatch z),fun _ z=>(nomatch z),?_⟩
  ·obtain⟨r,hr,rfl⟩:=za6.mp ht
   have:=good_len (g r (zbf.mp hr).1)
   show 2≤r.hs.length
   omega
  ·obtain⟨r,hr,rfl⟩:=za6.mp hc
   obtain⟨h1,h2⟩:=zbf.mp hr
   have h2:r.c=true:=by simpa using h2
   exact⟨good_rg (g r h1) h2,good_odd (fs:=fs) (bs:=bs) (g r h1) h2⟩
  ·rw[zau]
   exact(rows_sts o g iw).trans pm
 have:=jY (selR true rows).length rfl I
 rw[zau]at this
 exact this
end K63
namespace K63
open PySem PySem.Spec PyProof.Rows L2 BF
theorem zip_same{h:Ho}:∀ {l:List Ln} {a:Ln},a∈l→(h,a,a)∈List.zipWith (fun a b=>(h,a,b)) l l
 | [],_,m=>nomatch m
 | b::l,a,m=>by
  rw[List.zipWith_cons_cons]
  rcases zaa.mp m with rfl | m
  ·exact zad
  ·exact zac _ (zip_same m)
theorem same_tie{ls:List Ln}{hs:List Ho}(mh:∀ h,h∈hs↔∃ a∈ls,a.1=h∨a.2=h){a:Ln}{h:Ho}(ha:a∈ls)(e:cj a h):(h,a,a)∈gw ls ls hs:=by
 rw[ties_at mh]
 refine zip_same (zbf.mpr ⟨ha,?_⟩)
 rcases e with e | e
 ·rw[decide_eq_true e,Bool.true_or]
 ·rw[decide_eq_true e,Bool.or_true]
theorem all_round{ls:List Ln}{hs:List Ho}(mh:∀ h,h∈hs↔∃ a∈ls,a.1=h∨a.2=h){rows:List Row}(g:∀ r∈rows,gb (gw ls ls hs) r)(pm:(aj rows).Perm (askL ls ls)):selR false rows=[]:=by
 unfold selR
 rw[List.map_eq_nil_iff]
 refine List.filter_eq_nil_iff.mpr fun r hr hc=>?_
 obtain⟨s0,h0,hs',h,ps',p,e1,e2,e3,W,fin⟩:=g r hr
 have hc:r.c=false:=by simpa using hc
 rw[if_neg (by rw[hc];exact zaj)]at fin
 have wl:=W.len
 rw[za1,za1,zam,zam]at wl
 have hl:hs'.length=ps'.length+1:=by omega
 have gl:(hs'++[h])[ps'.length+1]?=some h:=by rw[← hl];simp
 have gp:(ps'++[p])[ps'.length]?=some p:=by simp
 obtain⟨e',he'⟩:=W.at (k:=ps'.length) (by simp)
 obtain⟨_,ex⟩:=W.ends ps'.length p e' h gp he' gl
 have pin:p∈aj rows:=by
  unfold aj
  exact zbj.mpr ⟨_,za6.mpr ⟨r,hr,rfl⟩,by rw[e3];exact za5 _ (za7.mpr rfl)⟩
 have pl:p.2∈ls:=by
  rcases c5.mp (pm.mem_iff.mp pin) with ⟨_,z⟩ | ⟨_,z⟩
  ·exact z
  ·exact z
 have t:=same_tie mh pl (show cj p.2 h by rw[ex];exact oth_end _ _)
 refine fin.1 (!p.1,p.2) ⟨rfl,?_⟩
 show(h,(if p.1=true then p.2 else p.2),(if p.1=true then p.2 else p.2))∈_
 rw[ite_self]
 exact t
theorem few_rings{ls:List Ln}{hs:List Ho}(mh:∀ h,h∈hs↔∃ a∈ls,a.1=h∨a.2=h){rows:List Row}(o:∀ s,InW ls ls s→hLt s.2.1 s.2.2=true∧hLt s.2.2 s.2.1=false)(g:∀ r∈rows,gb (gw ls ls hs) r)(pm:(aj rows).Perm (askL ls ls)) :
  ∃ f2,fewG (selR true rows).length (selR false rows) (selR true rows)=f2∧FwI [] (askL ls ls) [] f2 []:=by
 obtain⟨f1,f2,e,I⟩:=few_all o g pm
 have e0:=all_round mh g pm
 rw[e0]at I
 have t:=I.tips
 rw[List.map_nil,List.map_eq_nil_iff]at t
 subst t
 exact⟨f2,e,I⟩
section
variable{ls:List Ln}{f2:List Thd}{G:Ho→Option Ho}
theorem fw_pm(I:FwI [] (askL ls ls) [] f2 []):(allS f2).Perm (askL ls ls):=by have:=I.pm;rwa [show allS []=[] from rfl,zau,zbr]at this
theorem gr_two(gr:GrOk (ls++[]) (ls++[]) G):GrOk (ls++ls) (ls++ls) G:=by
 rw[zau]at gr
 refine⟨fun h=>?_,fun h g e=>(gr.con h g e).mono fun a ha=>zae _ ha,fun a ha=>gr.cl a ((za9.mp ha).elim id id)⟩
 rw[gr.mem]
 constructor
 ·rintro⟨a,ha,e⟩
  exact⟨a,zae _ ha,e⟩
 ·rintro⟨a,ha,e⟩
  exact⟨a,(za9.mp ha).elim id id,e⟩
theorem onF_in{b:Bool}{ss:List Sti}{a:Ln}:a∈onF b ss↔(b,a)∈ss:=by
 unfold onF
 rw[za6]
 constructor
 ·rintro⟨s,hs,rfl⟩
  obtain⟨h1,h2⟩:=zbf.mp hs
  have:s.1=b:=by simpa using h2
  rw[← this]
  exact h1
 ·intro h
  exact⟨(b,a),zbf.mpr ⟨h,by simp⟩,rfl⟩
theorem onF_nd{b:Bool}{ss:List Sti}(nd:ss.Nodup):(onF b ss).Nodup:=by
 unfold onF List.Nodup
 rw[zbl]
 refine List.Pairwise.imp_of_mem (fun {s t} hs ht ne e=>ne ?_) (nd.filter _)
 have h1:=(zbf.mp hs).2
 have h2:=(zbf.mp ht).2
 simp at h1 h2
 exact Prod.ext (h1.trans h2.symm) e
theorem sts_nd{t:Thd}(nd:(allS f2).Nodup)(ht:t∈f2):(stsF t.1 t.2).Nodup:=by
 unfold allS List.Nodup at nd
 exact(List.pairwise_flatten.mp nd).1 _ (za6.mpr ⟨t,ht,rfl⟩)
theorem dH(I:FwI [] (askL ls ls) [] f2 [])(gr:GrOk (ls++ls) (ls++ls) G){t:Thd}(ht:t∈f2):∃ h g,h∈t.2∧t.2.head?=some h∧t.2.getLast?=some h∧G h=some g∧grpT G t=some g:=by
 obtain⟨h,m,e⟩:=I.rg2 t ht
 have hh:t.2.head?=some h:=by rw[e];rfl
 have st:∃ y s,s∈stsF t.1 t.2∧s.2=ordP h y:=by
  rw[e]
  cases m with
  | nil=>exact⟨h,_,by rw[zbr,bz];exact zad,rfl⟩
  | cons y m=>exact⟨y,_,by rw[zc2,bz];exact zad,rfl⟩
 obtain⟨y,s,hs,es⟩:=st
 have ms:s∈allS f2:=zbj.mpr ⟨_,za6.mpr ⟨t,ht,rfl⟩,hs⟩
 have sl:s.2∈ls++ls:=by
  rcases c5.mp ((fw_pm I).mem_iff.mp ms) with ⟨_,z⟩ | ⟨_,z⟩
  ·exact zae _ z
  ·exact zae _ z
 have ne:G h≠none:=(gr.mem h).mpr ⟨s.2,sl,by
  rw[es]
  unfold ordP
  split
  ·exact .inl rfl
  ·exact .inr rfl⟩
 obtain⟨g,hg⟩:=Option.ne_none_iff_exists'.mp ne
 refine⟨h,g,by rw[e];exact zad,hh,by rw[e,← zc2];exact eD _ _,hg,?_⟩
 unfold grpT
 rw[hh]
 exact hg
theorem ring_one(I:FwI [] (askL ls ls) [] f2 [])(gr:GrOk (ls++ls) (ls++ls) G){t u:Thd}(ht:t∈f2)(hu:u∈f2)(e:grpT G t=grpT G u):t=u:=by
 obtain⟨h,g,h1,_,_,h2,h3⟩:=dH I gr ht
 obtain⟨k,g',k1,_,_,k2,k3⟩:=dH I gr hu
 rw[h3,k3]at e
 cases e
 have:=ring_all I gr ht h1 h2 k2
 exact pw_eq I.pw ht hu fun d=>d k this k1
theorem ring_lines(I:FwI [] (askL ls ls) [] f2 [])(gr:GrOk (ls++ls) (ls++ls) G)(nd:ls.Nodup){t:Thd}(ht:t∈f2)(b:Bool):(onF b (stsF t.1 t.2)).Perm (ls.filter fun a=>decide (G a.1=grpT G t)):=by
 have pm:=fw_pm I
 have snd:(allS f2).Nodup:=pm.nodup_iff.mpr (askL_nd nd nd)
 refine(zc6 (onF_nd (sts_nd snd ht)) (nd.filter _)).mpr fun a=>?_
 rw[onF_in,zbf,decide_eq_true_eq]
 constructor
 ·intro hs
  have ms:(b,a)∈allS f2:=zbj.mpr ⟨_,za6.mpr ⟨t,ht,rfl⟩,hs⟩
  refine⟨?_,grp_of (fin:=f2) gr pm ht (sts_in hs).1⟩
  rcases c5.mp (pm.mem_iff.mp ms) with ⟨_,z⟩ | ⟨_,z⟩
  ·exact z
  ·exact z
 ·rintro⟨ha,eg⟩
  have ms:(b,a)∈allS f2:=pm.mem_iff.mpr (c5.mpr (by
   cases b
   ·exact .inr ⟨rfl,ha⟩
   ·exact .inl ⟨rfl,ha⟩))
  obtain⟨l,hl,hs⟩:=zbj.mp ms
  obtain⟨u,hu,rfl⟩:=za6.mp hl
  have eu:=grp_of (fin:=f2) gr pm hu (sts_in hs).1
  rw[ring_one I gr ht hu (eg.symm.trans eu)]
  exact hs
def gH(G:Ho→Option Ho)(t:Thd):Ho:=(grpT G t).getD (0,0)
theorem names_nd(I:FwI [] (askL ls ls) [] f2 [])(gr:GrOk (ls++ls) (ls++ls) G):(f2.map (gH G)).Nodup:=by
 have nd:f2.Nodup:=I.pw.imp_of_mem fun {t u} ht hu d e=>by
  subst e
  obtain⟨h,_,h1,_⟩:=dH I gr ht
  exact d h h1 h1
 unfold List.Nodup
 rw[zbl]
 refine List.Pairwise.imp_of_mem (fun {t u} ht hu ne e=>ne ?_) nd
 obtain⟨h,g,h1,_,_,h2,h3⟩:=dH I gr ht
 obtain⟨k,g',k1,_,_,k2,k3⟩:=dH I gr hu
 unfold gH at e
 rw[h3,k3]at e
 refine ring_one I gr ht hu ?_
 rw[h3,k3]
 exact congrArg some e
theorem names_all(I:FwI [] (askL ls ls) [] f2 [])(gr:GrOk (ls++ls) (ls++ls) G){dl:List Dt}(nd:dl.Nodup)(mem:∀ d,d∈dl↔∃ h g,G h=some g∧hD g=d):dl.length=f2.length:=by
 have hn:((f2.map (gH G)).map hD).Nodup:=by
  have:=names_nd I gr
  unfold List.Nodup at this ⊢
  rw[zbl]
  exact this.imp fun ne e=>ne (bZ e)
 have:=((zc6 nd hn).mpr fun d=>by
  rw[mem,za6]
  constructor
  ·rintro⟨h,g,e,rfl⟩
   obtain⟨a,ha,ea⟩:=(gr.mem h).mp (by rw[e];exact zbs _)
   obtain⟨t,ht,t1,t2⟩:=line_in (fin:=f2) (fw_pm I) ha
   have hx:h∈t.2:=by
    rcases ea with ea | ea
    ·rw[← ea];exact t1
    ·rw[← ea];exact t2
   have:=grp_of (fin:=f2) gr (fw_pm I) ht hx
   rw[e]at this
   exact⟨g,za6.mpr ⟨t,ht,by unfold gH;rw[← this];rfl⟩,rfl⟩
  ·rintro⟨n,hn,rfl⟩
   obtain⟨t,ht,rfl⟩:=za6.mp hn
   obtain⟨h,g,_,_,_,h2,h3⟩:=dH I gr ht
   exact⟨h,g,h2,by unfold gH;rw[h3];rfl⟩).length_eq
 rw[this,za0,za0]
end
seal L2.PE L2.PA L2.PS L2.PSs L2.PT L2.PW L2.PG L2.PGs L2.PI BF.PTs L2.PPs L2.PO
structure Blt(mg:Str→Option Value):Prop where
 isi:mg "isinstance"=none
 list:mg "list"=none
 tuple:mg "tuple"=none
 int:mg "int"=none
 len:mg "len"=none
 range:mg "range"=none
 sorted:mg "sorted"=none
 set:mg "set"=none
 min:mg "min"=none
 max:mg "max"=none
 zip:mg "zip"=none
 enum:mg "enumerate"=none
theorem rowsK_f(F B:Addr):valV (i8 F B) (Sum.inr "front")=some (.ref F):=rfl
theorem rowsK_b(F B:Addr):valV (i8 F B) (Sum.inr "back")=some (.ref B):=rfl
theorem tot_sts:∀ {ts:List Thd},(∀ t∈ts,2≤t.2.length)→tot ts=(allS ts).length+ts.length∧ts.length≤(allS ts).length
 | [],_=>⟨rfl,za4 _⟩
 | t::ts,k=>by
  obtain⟨i1,i2⟩:=tot_sts (ts:=ts) fun u hu=>k u (zac _ hu)
  have:=k t (zad ..)
  rw[cS,dS,za1,fw,zah]
  omega
theorem beq_ho(a b:Ho):Dt.beq (hD a) (hD b)=decide (a=b):=by
 by_cases h:a=b
 ·rw[h,Dt.beq_self,decide_eq_true rfl]
 ·rw[decide_eq_false h]
  exact Dt.beq_false.mpr fun z=>h (bZ z)
theorem as_ls{es:List Dt}{fs bs:List Ln}(h:∀ d,d∈es↔d∈fs.map lnD∨d∈bs.map lnD):∃ ls:List Ln,es=ls.map lnD∧∀ a∈ls,a∈fs∨a∈bs:=by
 have:∀ l:List Dt,(∀ d∈l,d∈es)→∃ ls:List Ln,l=ls.map lnD∧∀ a∈ls,a∈fs∨a∈bs:=fun l=>by
  induction l with
  | nil=>exact fun _=>⟨[],rfl,fun _ h=>nomatch h⟩
  | cons d l ih =>
   intro hd
   obtain⟨ls,e,k⟩:=ih fun x hx=>hd x (zac _ hx)
   have:∃ a,lnD a=d∧(a∈fs∨a∈bs):=by
    rcases(h d).mp (hd d zad) with z | z
    ·obtain⟨a,ha,e⟩:=za6.mp z
     exact⟨a,e,.inl ha⟩
    ·obtain⟨a,ha,e⟩:=za6.mp z
     exact⟨a,e,.inr ha⟩
   obtain⟨a,ea,ha⟩:=this
   refine⟨a::ls,by rw[zay,ea,e],fun x hx=>?_⟩
   rcases zaa.mp hx with rfl | hx
   ·exact ha
   ·exact k x hx
 exact this es fun _ h=>h
theorem putK_keys{kvs:List (Dt×V)}{L:List Dt}(k:kvs.map (·.1)=L){d:Dt}(n:d∉L)(v:V):(putK kvs d v).map (·.1)=L++[d]:=by
 unfold putK
 cases hv:valV kvs d with
 | some u=>exact absurd (k▸dW hv) n
 | none =>
  rw[if_neg (by rw[cD,hv];exact zaj),zar,k]
  rfl
mutual
theorem DtIs.updF{H:Hp}{a:Addr}{u:Obj}{f o:HO}(ha:H a=some (.frz u f)):∀ {d:Dt} {v:V},DtIs H v d→DtIs (upd H a o) v d
 | .int i,_,.int _=>.int i
 | .str x,_,.str _=>.str x
 | .tup ds,_,.tup (a:=b) e q=>.tup (by
   have:b≠a:=fun z=>by rw[z,ha]at e;cases e
   rw[af this];exact e) (ac.updF ha q)
theorem ac.updF{H:Hp}{a:Addr}{u:Obj}{f o:HO}(ha:H a=some (.frz u f)):∀ {ds:List Dt} {vs:List V},ac H vs ds→ac (upd H a o) vs ds
 | []=>by intro g;cases g;exact .nil
 | d::ds=>by
  intro g
  cases g with
  | cons q t=>exact .cons (DtIs.updF ha q) (ac.updF ha t)
end
def ttDue(P:Program)(w:World)(K:PySem.W.Frag):TT:=tTest (tOp (fun x y H Q=>∃ d d',DtIs H x d∧DtIs H y d'∧d.dp≤60∧(∃ l,d=.tup l)∧(∃ l,d'=.tup l)∧Q (.bl (Dt.beq d d')) H) (tDGetD P w (tVar 1) (tOp (rIxT K) (tVar 0) (tC (.int 0)))) (tVar 2))
section
variable{P:Program}{w:World}{K:PySem.W.Frag}{mg:Str→Option Value}{base:Heap}
theorem comp_due{F L dG qn:Addr}{fv:List V}{ls:List Ln}{kvG:List (Dt×V)}{G:Ho→Option Ho}{g:Ho}{H:Hp}{σ:L2.St}{Q:VK}{idx:List (Option Nat)}(eF:H F=some (.lst fv))(dF:ac H fv (ls.map lnD))(ll:ls.length≤130)(le:LeOk P w H dG kvG G)(all:∀ a∈ls,G a.1≠none)(tn:two H qn g)(nL:H L=none)
  (hσ:pick idx σ=[none,some (.ref dG),some (.ref qn)]) (z:∀ H',Same H H'→DtL H' L ((ls.filter fun a=>decide (G a.1=some g)).map lnD)→Q (.ref L) H'):CompW (Itl K F) idx (gJ 0) (ttDue P w K) (tVar 0) σ H L Q:=by
 have fvl:fv.length=ls.length:=by rw[dF.length,za0]
 refine comp_n (J:=Itl K F) (n:=fv.length) (fun i σ2 H2=>(∃ v0,σ2=[v0,some (.ref dG),some (.ref qn)])∧Same H H2∧DtL H2 L (((ls.take i).filter fun a=>decide (G a.1=some g)).map lnD)) ?_ ?_ ?_ ?_
 ·exact⟨⟨_,hσ⟩,a7 nL,[],a6,.nil⟩
 ·rintro i σ2 H2 hi ⟨⟨v0,rfl⟩,S2,_⟩
  exact⟨fv,_,SqL.of (S2 _ _ eF),za2 hi⟩
 ·rintro σ2 H2 ⟨⟨v0,rfl⟩,S2,hL⟩
  rw[zas (by omega)]at hL
  exact⟨⟨fv,SqL.of (S2 _ _ eF),za4 _⟩,z H2 S2 hL⟩
 ·rintro i σ2 H2 hi ⟨⟨v0,rfl⟩,S2,ys,eL,dL⟩ x H3 ⟨rfl,hx⟩
  have hx:=hx fv (SqL.of (S2 _ _ eF))
  obtain⟨r,x1,y1,a,rfl,ha,er,tx,ty⟩:=ln_at (dF.same S2) hx
  have tk:ls.take (i+1)=ls.take i++[a]:=by rw[zb0,ha];rfl
  obtain⟨ga,hga⟩:=Option.ne_none_iff_exists'.mp (all a (zak ha))
  obtain⟨qa,va,ta⟩:=(le.same S2).val a.1 ga hga
  have yl:ys.length≤130:=by
   rw[dL.length,za0]
   exact zb1 (zcc _ _) (by rw[zan];omega)
  refine⟨_,rfl,_,rfl,r,_,_,_,rfl,rfl,SqT.of er,rfl,dG,x1,hD a.1,kvG,.ref qa,rfl,rfl,ao tx,h8 _,(le.same S2).dic,va,_,rfl,hD ga,hD g,ao ta,ao (S2 _ _ tn),h60 _,⟨_,rfl⟩,⟨_,rfl⟩,_,rfl,?_⟩
  rw[beq_ho]
  have fe:decide (G a.1=some g)=decide (ga=g):=by rw[hga];simp
  by_cases e:ga=g
  ·refine f9 e ⟨_,rfl,ys,eL,be (by omega),⟨_,rfl⟩,am S2 nL,_,a6,?_⟩
   rw[tk,zc1,zbm (by rw[fe];exact decide_eq_true e),List.filter_nil,zar]
   exact(dL.updL eL).snoc (DtIs.updL eL (ln_dt er tx ty))
  ·refine dY e ⟨⟨_,rfl⟩,S2,ys,eL,?_⟩
   rw[tk,zc1,zbn (by rw[fe,decide_eq_false e];exact zaj),List.filter_nil,zau]
   exact dL
def spLaw(K:PySem.W.Frag):Sp:=fun vs H Q _=>∃ (a:Addr) (ns:List Int),vs=[.ref a]∧SqL K H a (ns.map V.int)∧ns.length≤63∧∀ H',Q (.bl true) H'
theorem iQ:aS ["_law_script","_law_lines","_law_found","_law_group","_law_known","_law_thread","_law_rows","_law_name","_law_due"] ["_law_script"] (ab sLaw):=⟨rfl,rfl,rfl,by decide +kernel,rfl,by decide +kernel,by decide +kernel⟩
theorem ok_law{f fW fF fL fG:Addr}{fd fdW fdF fdL fdG:FuncData}(D:Df K mg "law" sLaw f fd)
  (DW:Df K mg "_law_work" sWork fW fdW) (bW:bh K fdW ["_law_script","_law_most"] []) (GW:FnOk P w K mg base CX0 3 fW fdW ["_law_script","_law_most"] (spWork K))
  (DF:Df K mg "fewest" sFew fF fdF) (bF:bh K fdF ["work"] []) (GF:FnOk P w K mg base CX0 6 fF fdF ["work"] spFew)
  (DL:Df K mg "_law_laid" jF fL fdL) (bL:bh K fdL ["_law_threads"] []) (GL:FnOk P w K mg base CX0 2 fL fdL ["_law_threads"] spLaid)
  (DG:Df K mg "_law_groups" gh fG fdG) (bG:bh K fdG ["_law_work_here"] []) (GG:FnOk P w K mg base CX0 1 fG fdG ["_law_work_here"] (spGroups P w)) (B:Blt mg) :
  FnOk P w K mg base CX0 7 f fd ["_law_script"] (spLaw K):=by
 refine D.F.ok iQ (fun vs H Q E h=>?_) (fun cdv A outer s H vs Q E hr h=>?_)
 ·obtain⟨a,ns,rfl,_⟩:=h
  rfl
 ·obtain⟨a,ns,rfl,hS,hlen,k⟩:=h
  have hr1:Room 1 _:=hr.mono (by decide)
  have hr2:Room 2 _:=hr.mono (by decide)
  have hr3:Room 3 _:=hr.mono (by decide)
  have hun:=hr.units
  have hu2:(A.deeper (envOfC "law" (ab sLaw) s.heap.objs.size f cdv)).units+1<cLine:=by omega
  refine⟨_,(aa (ai (i:=1) iQ.nd rfl (Or.inl rfl) (pe_sortOr hr1 rfl B.sorted rfl B.set (pac (b6 aw (pec GW hr3 rfl DW.m DW.F.kp bW .nil bf (pac (pv 0) (pac (a8) a9))) a8 (fun _ _=>rfl)) a9) (pac (b6 aw (pec GW hr3 rfl DW.m DW.F.kp bW .nil bf (pac (pv 0) (pac (a8) a9))) a8 (fun _ _=>rfl)) a9)))
   (aa (ai (i:=2) iQ.nd rfl (Or.inl rfl) (pec GF hr rfl DF.m DF.F.kp bF .nil bf (pac (ap (pac (g4 jb (by rfl) B.list boot_list (pac (pv 1) a9)) (pac (g4 jb (by rfl) B.list boot_list (pac (pv 1) a9)) a9))) a9)))
   (aa (ai (i:=3) iQ.nd rfl (Or.inr rfl) (pec GG hr1 rfl DG.m DG.F.kp bG .nil bf (pac (ap (pac (pv 1) (pac (eW a9) a9))) a9)))
   (aa (dE (jq (fj (b7 call_isi (by rfl) B.isi boot_isinstance (pac (pv 2) (pac (pe_bltn (v:=.ty "list") (by rfl) B.list PyProof.Rows.boot_list rfl) a9))))) (ag (aD g5)) bm)
   (aa (ai (i:=4) iQ.nd rfl (Or.inl rfl) eX)
   (aa (cp PassesOwn.never rfl (c6 (pv 2)) (al (i:=5) iQ.nd rfl (Or.inl rfl)) (aa (ai (i:=6) iQ.nd rfl (Or.inl rfl) (pec GL hr2 rfl DL.m DL.F.kp bL .nil bf (pac (eW (pac (pv 5) a9)) a9)))
   (aa (dE (PW.pt (jH (ar op_isN (pv 6) jt (b9 _)) (jp (ar (op_neD hr1) (b6 aw (b6 aw (pv 5) a8 (fun _ _=>rfl)) a8 (fun _ _=>rfl)) (b6 aw (b6 aw (pv 5) a8 (fun _ _=>rfl)) (pe_un un_neg a8) (fun _ _=>rfl)) (b9 _))))) (ag (aD g5)) bm)
   (aa (ai (i:=7) iQ.nd rfl (Or.inr rfl) (ju PySem.F.slot_dict_get PySem.F.type_dict_get (mt_get1 hr1) (pv 3) (pac (b6 aw (b6 aw (pv 5) a8 (fun _ _=>rfl)) a8 (fun _ _=>rfl)) a9)))
   (aa (iu (k:=8) (tt:=ttDue P w K) (te:=tVar 0) (N':=["_law_edge","_law_group","_law_name"]) (idx:=[none,some 3,some 7]) iQ.nd rfl (Or.inl rfl) (Or.inr rfl) rfl (eQ (by kernel_rfl)) (by kernel_rfl) rfl (c6 (pv 1))
       (fun _ _ _ _ _=>al (i:=0) (show(["_law_edge","_law_group","_law_name"]:List Str).Nodup by decide +kernel) rfl (Or.inl rfl))
       (fun _ _ _ _ _=>pts_one (ar (op_eqD hr1) (gG hr1 (pv 1) (b6 aw (pv 0) a8 (fun _ _=>rfl)) (fun _ _=>rfl)) (pv 2) (b9 _))) (fun _ _ _ _ _=>pv 0))
   (aa (dE (PW.pt (jH (ar (op_inD hr1) (pv 7) (pv 4) rfl) (jH (ar (op_neL hr1) (b7 ja (by rfl) B.sorted boot_sorted (pac (jT hu2 (pv 6) c7 (fun _ _=>rfl)) a9)) (pv 8) (b9 _))
       (jp (ar (op_neL hr1) (b7 ja (by rfl) B.sorted boot_sorted (pac (jT hu2 (pv 6) c7 (fun _ _=>rfl)) a9)) (pv 8) (b9 _)))))) (ag (aD g5)) bm)
   (ag (eV hr1 (pv 4) (pv 7) g5 rfl))))))))
   (ag (aD (pe_cmpR jJ (b7 call_lenV (by rfl) B.len PySem.boot_len (pac (pv 4) a9)) (pe_lenSet hr1 rfl B.len rfl B.set (pac (pe_thaw (pe_comp (tt:=tYes) (te:=tDGetF P w (tVar 1) (tVar 0)) (N':=["_law_hole","_law_group"]) (idx:=[none,some 3]) (eQ (by kernel_rfl)) (by kernel_rfl) rfl (pi_keys (pv 3))
     (fun _ _ _ _ _=>al (i:=0) (show(["_law_hole","_law_group"]:List Str).Nodup by decide +kernel) rfl (Or.inl rfl)) (fun _ _ _ _ _=>pts_nil) (fun _ _ _ _ _=>pe_dgetF hr1 (pv 1) (pv 0) (fun _ _=>rfl)))) a9)) (b9 _)))))))))),?_⟩
  refine⟨_,rfl,a,ns,40,rfl,hS,hlen,by decide,fun R F Bk fs bs H1 S1 eR hF hB of ob=>?_⟩
  obtain⟨fv,eF,dF⟩:=id hF
  refine⟨R,_,_,_,rfl,rfl,SqT.of eR,rfl,F,fv,fs.map lnD,rfl,SqL.of eF,dF,by rw[dF.length,za0];exact zb1 of.1 (by decide),fun d hd=>?_,?_⟩
  ·obtain⟨x,_,rfl⟩:=za6.mp hd
   exact⟨_,rfl,by rw[lnD_dp];decide⟩
  refine⟨_,rfl,a,ns,40,rfl,S1.seq hS,hlen,by decide,fun R' F' Bk' fs' bs' H2 S2 eR' hF' hB' of' ob'=>?_⟩
  obtain⟨bv,eB,dB⟩:=id hB'
  have ldp:∀ d∈fs.map lnD++bs'.map lnD,∃ x,d=lnD x:=fun d hd=>by
   rcases za9.mp hd with hd | hd
   ·obtain⟨x,_,rfl⟩:=za6.mp hd
    exact⟨x,rfl⟩
   ·obtain⟨x,_,rfl⟩:=za6.mp hd
    exact⟨x,rfl⟩
  have lbv:bv.length=bs'.length:=by rw[dB.length,za0]
  have lfv:fv.length=fs.length:=by rw[dF.length,za0]
  have l1:=of.1
  have l2:=ob'.1
  refine⟨R',_,_,_,rfl,rfl,SqT.of eR',rfl,Bk',bv,bs'.map lnD,"tuple",rfl,SqL.of eB,dB,dF.same S2,by omega,fun d hd=>?_,fun d hd d' hd'=>?_,fun d hd=>?_,fun l zs es nl dz nd mem srt zl=>?_⟩
  ·obtain⟨x,rfl⟩:=ldp d hd
   exact⟨_,_,rfl,rfl⟩
  ·obtain⟨x,rfl⟩:=ldp d hd
   obtain⟨x',rfl⟩:=ldp d' hd'
   exact lnD_like x x'
  ·obtain⟨x,rfl⟩:=ldp d hd
   rw[lnD_dp]
   decide
  obtain⟨ls,els,lin⟩:=as_ls mem
  subst els
  have zsl:zs.length=ls.length:=by rw[dz.length,za0]
  have ll:ls.length≤80:=by omega
  have ndl:ls.Nodup:=by
   unfold List.Nodup at nd ⊢
   rw[zbl]at nd
   exact nd.imp fun ne e=>ne (by rw[e])
  have lt:∀ a∈ls,hLt a.1 a.2=true:=fun a ha=>by
   rcases lin a ha with z | z
   ·exact of.2.2.2 a z
   ·exact ob'.2.2.2 a z
  have nel:∀ a∈ls,a.1≠a.2:=fun a ha e=>by
   have:=lt a ha
   rw[e]at this
   have h2:=jU this
   rw[show HT.dw [a.2.1,a.2.2] [a.2.1,a.2.2]=true from this]at h2
   cases h2
  have oo:∀ s,InW ls ls s→hLt s.2.1 s.2.2=true∧hLt s.2.2 s.2.1=false:=fun s hs=>by
   rcases hs with ⟨_,z⟩ | ⟨_,z⟩
   ·exact⟨lt _ z,jU (lt _ z)⟩
   ·exact⟨lt _ z,jU (lt _ z)⟩
  have el:(upd H2 l (.lst zs)) l=some (.lst zs):=a6
  have dl:ac (upd H2 l (.lst zs)) zs (ls.map lnD):=dz.same (a7 nl)
  revert el dl
  generalize (upd H2 l (.lst zs))=H3
  intro el dl
  refine⟨_,rfl,l,zs,rfl,.inl (SqL.of el),fun A1 n1=>?_⟩
  have T1:=a7 (o:=HO.lst zs) n1
  refine⟨_,rfl,l,zs,rfl,.inl (SqL.of (T1 _ _ el)),fun A2 n2=>?_⟩
  have T2:=a7 (o:=HO.lst zs) n2
  refine⟨szr rfl,fun t nt=>?_⟩
  have T3:=a7 (o:=HO.tup [V.ref A1,.ref A2]) nt
  have T:=(T1.trans T2).trans T3
  refine⟨t,A1,A2,ls,ls,rfl,a6,⟨zs,T3 _ _ (T2 _ _ a6),dl.same T⟩,⟨zs,T3 _ _ a6,dl.same T⟩,nel,nel,ndl,ndl,ll,ll,fun L rows hs H4 S4 nL ndh mh gd pm hL=>?_⟩
  obtain⟨f2,efin,I⟩:=few_rings mh oo gd pm
  rw[efin]at hL
  obtain⟨lv,eL,dL⟩:=hL
  have S34:=T.trans S4
  have el4:=S34 _ _ el
  have dl4:=dl.same S34
  clear efin gd
  revert el4 dl4 eL dL
  generalize H4=H5
  intro eL dL el4 dl4
  refine⟨_,rfl,szr rfl,fun E1 nE=>?_⟩
  have T4:=a7 (o:=HO.lst []) nE
  refine⟨szr rfl,fun u nu=>?_⟩
  have T5:=a7 (o:=HO.tup [V.ref l,.ref E1]) nu
  have T45:=T4.trans T5
  refine⟨u,l,E1,ls,[],rfl,⟨a6,⟨zs,T45 _ _ el4,dl4.same T45⟩,⟨[],T5 _ _ a6,.nil⟩,by omega,by decide⟩,fun dG kvG G H6 S6 nG leG kgl gr0=>?_⟩
  have gr:=gr_two gr0
  have S56:=T45.trans S6
  have eL6:=S56 _ _ eL
  have dL6:=dL.same S56
  have el6:=S56 _ _ el4
  have dl6:=dl4.same S56
  have lvl:lv.length=f2.length:=by rw[dL.length,za0]
  refine⟨_,rfl,_,.lst,.lst,rfl,.lst eL6,_,rfl,iteF ?_⟩
  refine fun dK o0 nK dic0=>?_
  have T7:=a7 (o:=o0) nK
  have ln2:∀ t∈f2,2≤t.2.length:=fun t ht=>(I.rg2 t ht).len
  obtain⟨tt,tn⟩:=tot_sts ln2
  have sl:(allS f2).length=ls.length+ls.length:=by rw[(fw_pm I).length_eq,jd]
  have all:∀ a∈ls,G a.1≠none:=fun a ha=>(gr.mem a.1).mpr ⟨a,zae _ ha,.inl rfl⟩
  have nnd:=names_nd I gr
  have srtOk:∀ ls:List Ln,(∀ d∈ls.map lnD,∃ e r,d=Dt.tup (e::r)∧e.tag="tuple")∧(∀ d∈ls.map lnD,∀ d'∈ls.map lnD,Dt.like d d'=true):=fun ls=>⟨fun d hd=>by
   obtain⟨a,_,rfl⟩:=za6.mp hd
   exact⟨_,_,rfl,rfl⟩,fun d hd d' hd'=>by
   obtain⟨a,_,rfl⟩:=za6.mp hd
   obtain⟨a',_,rfl⟩:=za6.mp hd'
   exact lnD_like a a'⟩
  have un:∀ ls:List Ln,∀ d∈ls.map lnD,(A.deeper (envOfC "law" (ab sLaw) s.heap.objs.size f cdv)).units+4+d.dp<cLine:=fun ls d hd=>by
   obtain⟨a,_,rfl⟩:=za6.mp hd
   rw[lnD_dp]
   omega
  have lns:∀ ls:List Ln,∀ d∈ls.map lnD,d.dp≤50:=fun ls d hd=>by
   obtain⟨a,_,rfl⟩:=za6.mp hd
   rw[lnD_dp]
   decide
  refine⟨_,rfl,L,rfl,⟨_,SqL.of (T7 _ _ eL6)⟩,?_⟩
  refine d4 (K:=K) (a:=L) (xs:=lv) (fun i σ H8=>∃ (kvs:List (Dt×V)) (v5 v6 v7 v8:Option V),σ=[some (.ref a),some (.ref l),some (.ref L),some (.ref dG),some (.ref dK),v5,v6,v7,v8]∧Same H6 H8∧DicV P w H8 dK kvs∧kvs.map (·.1)=((f2.take i).map (gH G)).map hD)
   ⟨[],_,_,_,_,rfl,T7,dic0,rfl⟩ (fun i σ H8 _ ⟨_,_,_,_,_,_,S8,_⟩=>SqL.of (S8 _ _ eL6)) ?_ ?_
  ·rintro i x σ H8 hx ⟨kvs,v5,v6,v7,v8,rfl,S8,dic8,keys⟩
   have hi:=(za3.mp hx).1
   obtain⟨t,ht⟩:∃ t,f2[i]?=some t:=⟨_,za2 (by omega)⟩
   have htm:t∈f2:=zak ht
   obtain⟨rt,hrt,dt⟩:=dth_at (dL6.same S8) ht
   rw[hx]at hrt
   cases hrt
   obtain⟨r',hh,hv,er',eth,ehh,dhv⟩:=th_of dt
   cases er'
   obtain⟨h,g,hin,hhd,hla,hG,hgT⟩:=dH I gr htm
   have tl:=ln2 t htm
   have tm:=iI htm
   have hvl:hv.length=t.2.length:=by rw[dhv.length,za0]
   have tk:f2.take (i+1)=f2.take i++[t]:=by rw[zb0,ht];rfl
   have nmt:gH G t=g:=by unfold gH;rw[hgT];rfl
   have nd1:((f2.take i).map (gH G)++[g]).Nodup:=by
    have:=nnd.sublist ((zbz (i+1) f2).map (gH G))
    rw[tk,zar,List.map_singleton,nmt]at this
    exact this
   have nin:hD g∉((f2.take i).map (gH G)).map hD:=fun hm=>by
    obtain⟨n,hn,e⟩:=za6.mp hm
    exact(zbu.mp nd1).2.2 n hn g (za7.mpr rfl) (bZ e)
   have kl:kvs.length≤i:=by
    have:=congrArg List.length keys
    rw[za0,za0,za0,zan]at this
    omega
   refine⟨_,rfl,szr rfl,fun u nu=>?_⟩
   have Tu:=a7 (o:=HO.lst [V.ref rt]) nu
   refine⟨u,[t],rfl,⟨[.ref rt],a6,.cons (dt.same Tu) .nil⟩,fun t' ht'=>?_,by rw[cS];show t.2.length+0≤400;omega,by show 1≤300;decide,fun d F3 B3 H9 S9 _ _ _ laid=>?_⟩
   ·rw[za7.mp ht']
    exact tl
   have ea:allS [t]=stsF t.1 t.2:=by simp[allS]
   rw[ea]at laid
   have S89:=Tu.trans S9
   have S69:=S8.trans S89
   have eth9:=S89 _ _ eth
   have ehh9:=S89 _ _ ehh
   have dhv9:=dhv.same S89
   have leG9:=leG.same S69
   have dic9:=dic8.same S89
   have el9:=S69 _ _ el6
   have dl9:=dl6.same S69
   have nK9:H6 dK=none:=nK
   refine⟨_,rfl,rfl,_,rfl,iteF ?_⟩
   obtain⟨q0,p0,e0,hp0,tq0⟩:=jC dhv9 (i:=0) (za2 (by omega))
   have ep0:p0=h:=by
    rw[← List.head?_eq_getElem?,hhd]at hp0
    exact(Option.some.inj hp0).symm
   subst ep0
   have a0:atI hv 0=some (.ref q0):=jc (j:=0) (by rw[za2 (by omega),e0])
   obtain⟨us,y,rfl⟩:∃ us y,hv=us++[y]:=by
    rcases zbh hv with e | ⟨us,y,e⟩
    ·rw[e]at hvl
     simp at hvl
     omega
    ·exact⟨us,y,by rw[e,zbi]⟩
   have usl:us.length=t.2.length-1:=by
    rw[za1,zam]at hvl
    omega
   obtain⟨qz,pz,ez,hpz,tqz⟩:=jC dhv9 (i:=us.length) (v:=y) (by simp)
   subst ez
   have epz:pz=p0:=by
    rw[usl,← List.getLast?_eq_getElem?,hla]at hpz
    exact(Option.some.inj hpz).symm
   subst epz
   have az:=atI_last us (V.ref qz)
   refine⟨_,rfl,rt,_,_,_,rfl,rfl,SqT.of eth9,rfl,hh,_,_,_,rfl,rfl,SqT.of ehh9,a0,_,rfl,rt,_,_,_,rfl,rfl,SqT.of eth9,rfl,_,rfl,hh,_,_,_,rfl,rfl,SqT.of ehh9,az,hD pz,hD pz,ao tq0,ao tqz,h60 _,⟨_,rfl⟩,⟨_,rfl⟩,_,rfl,?_⟩
   rw[Dt.beq_self]
   refine iteF ?_
   obtain⟨qn,vn,tn'⟩:=leG9.val pz g hG
   refine⟨_,rfl,⟨dG,kvG,rfl,leG9.dic⟩,_,rfl,rt,_,_,_,rfl,rfl,SqT.of eth9,rfl,hh,_,_,_,rfl,rfl,SqT.of ehh9,a0,dG,q0,hD pz,kvG,rfl,rfl,ao tq0,h8 _,leG9.dic,?_⟩
   rw[vn]
   refine⟨_,rfl,l,rfl,⟨_,SqL.of el9⟩,fun M nM=>?_⟩
   refine comp_due (g:=g) el9 dl9 (by omega) leG9 all tn' nM rfl fun H10 S10 hM=>?_
   have S6a:=S69.trans S10
   obtain⟨xsK,dicH,kd⟩:=dic9.same S10
   refine⟨_,rfl,_,rfl,qn,dK,hD g,xsK,rfl,rfl,ao (S10 _ _ tn'),h8 _,dicH,_,rfl,?_⟩
   rw[← kd.keys,keys]
   refine dY nin ?_
   have laid':=laid.same S10
   obtain⟨mv,eM,dM⟩:=hM
   have rl:=ring_lines I gr ndl htm
   have srtD:((ls.filter fun a=>decide (G a.1=some g)).map lnD).Pairwise (fun d d'=>Dt.blt d' d=false):=srt.sublist (List.filter_sublist.map lnD)
   rw[hgT]at rl
   obtain⟨gv,eg,dg⟩:=laid'.front
   refine⟨_,rfl,d,.ref F3,rfl,by rw[← rowsK_f F3 B3];exact DGet.k (k:=Sum.inr "front") laid'.dic,F3,gv,_,"tuple",rfl,SqL.of eg,dg,(srtOk _).1,(srtOk _).2,un _,fun N zs1 es1 nN _ dz1 pe1 se1=>?_⟩
   have ee1:=rise_eq (pe1.trans ((rl true).map lnD)) se1 srtD
   subst ee1
   have TN:=a7 (o:=HO.lst zs1) nN
   refine⟨_,rfl,N,M,_,_,_,_,rfl,rfl,SqL.of a6,SqL.of (TN _ _ eM),dz1.same TN,dM.same TN,lns _,_,rfl,?_⟩
   rw[Dt.beqs_self]
   refine iteF ?_
   have S10N:=S10.trans TN
   have laid2:=laid'.same TN
   have eM2:=TN _ _ eM
   have dM2:=dM.same TN
   revert S10N laid2 eM2 dM2
   generalize (upd H10 N (.lst zs1))=H11
   intro S10N laid2 eM2 dM2
   obtain⟨gv2,eg2,dg2⟩:=laid2.back
   refine⟨_,rfl,d,.ref B3,rfl,by rw[← rowsK_b F3 B3];exact DGet.k (k:=Sum.inr "back") laid2.dic,B3,gv2,_,"tuple",rfl,SqL.of eg2,dg2,(srtOk _).1,(srtOk _).2,un _,fun N2 zs2 es2 nN2 _ dz2 pe2 se2=>?_⟩
   have ee2:=rise_eq (pe2.trans ((rl false).map lnD)) se2 srtD
   subst ee2
   have TN2:=a7 (o:=HO.lst zs2) nN2
   refine⟨_,rfl,N2,M,_,_,_,_,rfl,rfl,SqL.of a6,SqL.of (TN2 _ _ eM2),dz2.same TN2,dM2.same TN2,lns _,_,rfl,?_⟩
   rw[Dt.beqs_self]
   refine iteF ?_
   have S912:=S10N.trans TN2
   refine⟨_,rfl,_,rfl,dK,qn,hD g,kvs,rfl,rfl,ao (S912 _ _ tn'),h8 _,dic9.same S912,by omega,fun o' dic'=>?_⟩
   refine⟨_,_,_,_,_,rfl,am (S69.trans S912) nK,dic',?_⟩
   rw[putK_keys keys nin,tk,zar,zar,List.map_singleton,List.map_singleton,nmt]
  ·rintro σ H8 ⟨kvs,v5,v6,v7,v8,rfl,S8,dic8,keys⟩
   rw[zas (by omega)]at keys
   have leG8:=leG.same S8
   have kl:kvs.length=f2.length:=by
    have:=congrArg List.length keys
    rw[za0,za0,za0]at this
    exact this
   obtain⟨ψ,eG8⟩:=leG8.dic.ext
   obtain⟨hs',ehs⟩:=as_hD (es:=kvG.map (·.1)) fun d hd=>by
    obtain⟨g,_,e⟩:=(leG.mem d).mp hd
    exact⟨g,e.symm⟩
   have hmem:∀ h,h∈hs'↔G h≠none:=fun h=>by
    rw[← leG.isIn h,ehs]
    constructor
    ·exact fun hh=>za6.mpr ⟨h,hh,rfl⟩
    ·intro hh
     obtain⟨g,hg,e⟩:=za6.mp hh
     exact bZ e▸hg
   have hsl:hs'.length≤280:=by
    have:=congrArg List.length ehs
    rw[za0,za0]at this
    omega
   refine⟨_,rfl,dK,kvs,rfl,dic8,_,rfl,dG,kvG,rfl,leG8.dic,fun ys ob φ dy eG=>fun M nM=>?_⟩
   rw[ehs]at dy
   have ysl:ys.length=hs'.length:=by rw[dy.length,za0]
   have neM:M≠dG:=fun e=>by
    rw[e,a6]at nM
    cases nM
   have fz:=FrzV.of leG8.dic eG ob
   have dyf:=dy.updX (o:=.frz ob (.ext φ)) eG
   have eGf:(upd H8 dG (.frz ob (.ext φ))) dG=some (.frz ob (.ext φ)):=a6
   have lev:∀ h g,G h=some g→∃ q,valV kvG (hD h)=some (.ref q)∧DtIs (upd H8 dG (.frz ob (.ext φ))) (.ref q) (hD g):=fun h g e=>by
    obtain⟨q,v,t⟩:=leG8.val h g e
    exact⟨q,v,(ao t).updX eG⟩
   revert fz dyf eGf lev nM
   generalize (upd H8 dG (.frz ob (.ext φ)))=Hf
   intro nM fz dyf eGf lev
   refine comp_n (J:=Itk dG ob φ ys) (n:=ys.length) (fun j σ2 H7=>(∃ v0,σ2=[v0,some (.ref dG)])∧Same Hf H7∧DtL H7 M ((hs'.take j).map fun h=>hD ((G h).getD h))) ?_ ?_ ?_ ?_
   ·exact⟨⟨_,rfl⟩,a7 nM,[],a6,.nil⟩
   ·rintro j σ2 H7 hj ⟨⟨v0,rfl⟩,S9,_⟩
    exact⟨hj,S9 _ _ eGf⟩
   ·rintro σ2 H7 ⟨⟨v0,rfl⟩,S9,mv,eM,dM⟩
    rw[zas (by omega)]at dM
    have eG7:=S9 _ _ eGf
    have mvl:mv.length=hs'.length:=by rw[dM.length,za0]
    refine⟨⟨za4 _,eG7⟩,dG,ob,φ,ψ,eG8,eG7,M,mv,_,rfl,SqL.of (by rw[af neM];exact eM),ac.updF eG7 dM,by omega,fun d hd=>?_,fun dd ndd mdd=>⟨rfl,?_⟩⟩
    ·obtain⟨h,_,rfl⟩:=za6.mp hd
     exact⟨_,rfl,h8 _⟩
    ·have:=names_all I gr ndd fun d=>by
      rw[mdd,za6]
      constructor
      ·rintro⟨h,hh,rfl⟩
       obtain⟨g,hg⟩:=Option.ne_none_iff_exists'.mp ((hmem h).mp hh)
       exact⟨h,g,hg,by rw[hg];rfl⟩
      ·rintro⟨h,g,hg,rfl⟩
       exact⟨h,(hmem h).mpr (by rw[hg];exact zbs _),by rw[hg];rfl⟩
     rw[kl,this,decide_eq_true rfl]
     exact k _
   ·rintro j σ2 H7 hj ⟨⟨v0,rfl⟩,S9,mv,eM,dM⟩ x H9 ⟨rfl,hx⟩
    obtain⟨q,h,rfl,hh,tq⟩:=jC (dyf.same S9) hx
    have tk:hs'.take (j+1)=hs'.take j++[h]:=by rw[zb0,hh];rfl
    obtain⟨g,hg⟩:=Option.ne_none_iff_exists'.mp ((hmem h).mp (zak hh))
    obtain⟨qg,vg,dg⟩:=lev h g hg
    refine⟨_,rfl,_,rfl,dG,q,hD h,kvG,.ref qg,rfl,rfl,ao tq,h8 _,fz.same S9,vg,mv,eM,?_,⟨_,rfl⟩,am S9 nM,_,a6,?_⟩
    ·rw[dM.length,za0,zan]
     exact be (by omega)
    ·rw[tk,zar,List.map_singleton,hg]
     exact(dM.updL eM).snoc ((dg.same S9).updL eM)
end
end K63
def PySem.W.Fast.tw18283205628928706078:=0
def PySem.W.Fast.tw12104674146403314771:=0
def PySem.W.Fast.tw14278365999087692123:=0
def PySem.W.Fast.tw7049174856662411213:=0
def PySem.W.Fast.tw4251646328350116605:=0
def PySem.W.Fast.tw14793793165488944759:=0
def PySem.W.Fast.tw6726973048065748024:=0
def PySem.W.Fast.tw15639064099671295793:=0
def PySem.W.Fast.tw1189585547869375755:=0
def PySem.W.Fast.tw4926963582360067649:=0
def PySem.W.Fast.tw7670456896403130723:=0
def PySem.W.Fast.tw2754812836689838568:=0
def PySem.W.Fast.tw2996964062401979013:=0
def PySem.W.Fast.tw10621021395904571070:=0
def PySem.W.Fast.tw12918646966091943357:=0
def PySem.W.Fast.tw3434622114253643432:=0
def PySem.W.Fast.tw11391936655205129475:=0
def PySem.W.Fast.tw8033088651845772057:=0
def PySem.W.Fast.tw4715569538745830288:=0
def PySem.W.Fast.tw9483564700504902799:=0
def PySem.W.Fast.tw8912074794345465628:=0
def PySem.W.Fast.tw4693488952467029556:=0
def PySem.W.Fast.tw9863992570468107170:=0
def PySem.W.Fast.tw11980357880332565352:=0
def PySem.W.Fast.tw9685729213720482509:=0
def PySem.W.Fast.tw10889260309079348637:=0
def PySem.W.Fast.tw12371601087612846518:=0
def PySem.W.Fast.tw2700657899630650161:=0
def PySem.W.Fast.tw16888684516064478857:=0
def PySem.W.Fast.tw8541601932981807760:=0
def PySem.W.Fast.tw15591122733636598232:=0
def PySem.W.Fast.tw12088472009689031449:=0
def PySem.W.Fast.tw3855615409520067946:=0
def PySem.W.Fast.tw17909716013106441346:=0
def PySem.W.Fast.tw16280864754129402323:=0
def PySem.W.Fast.tw6196162822137503232:=0
def PySem.W.Fast.tw8808068407284514011:=0
def PySem.W.Fast.tw5367579245344656407:=0
def PySem.W.Fast.tw13534320809723320429:=0
def PySem.W.Fast.tw14911995531344777223:=0
def PySem.W.Fast.tw5096372387405423071:=0
def PySem.W.Fast.tw3154304679460435511:=0
def PySem.W.Fast.tw10774699613636895994:=0
def PySem.W.Fast.tw14045497260599938560:=0
def PySem.W.Fast.tw7990853439296757311:=0
def PySem.W.Fast.tw14654450804713342537:=0
def PySem.W.Fast.tw1280146999815502160:=0
def PySem.W.Fast.tw2235565641457829969:=0
def PySem.W.Fast.tw12646788808038141336:=0
def PySem.W.Fast.tw7448793993066497396:=0
def PySem.W.Fast.tw6154774305429124165:=0
def PySem.W.Fast.tw15733721443166161072:=0
def PySem.W.Fast.tw914114846932808326:=0
def PySem.W.Fast.tw4810071869198271330:=0
def PySem.W.Fast.tw9376402634812617435:=0
def PySem.W.Fast.tw15274889389014820864:=0
def PySem.W.Fast.tw5225604131319164136:=0
def PySem.W.Fast.tw5977491156903207083:=0
def PySem.W.Fast.tw12324162408592212489:=0
def PySem.W.Fast.tw9472478989696606846:=0
def PySem.W.Fast.tw8487952970764350419:=0
def PySem.W.Fast.tw12174748654309130798:=0
def PySem.W.Fast.tw15496694688689665918:=0
def PySem.W.Fast.tw8917097367739454207:=0
def PySem.W.Fast.tw9714142153086930654:=0
def PySem.W.Fast.tw9921675626515135784:=0
def PySem.W.Fast.tw17958825131548953732:=0
def PySem.W.Fast.tw6495584953989990934:=0
def PySem.W.Fast.tw266708655722787188:=0
def PySem.W.Fast.tw6801358192252357271:=0
def PySem.W.Fast.tw2089143665154054076:=0
def PySem.W.Fast.tw5968703309693233931:=0
def PySem.W.Fast.tw439301915110749365:=0
def PySem.W.Fast.tw351856288302482912:=0
def PySem.W.Fast.tw8854553787176794566:=0
def PySem.W.Fast.tw2520711335111183353:=0
def PySem.W.Fast.tw13741723703889602704:=0
def PySem.W.Fast.tw713407117366163542:=0
def PySem.W.Fast.tw7945033165164583970:=0
def PySem.W.Fast.tw4991875416206637628:=0
def PySem.W.Fast.tw1316655630773360565:=0
def PySem.W.Fast.tw12435751658617284244:=0
def PySem.W.Fast.tw3352976349301258082:=0
def PySem.W.Fast.tw4693688631190296750:=0
def PySem.W.Fast.tw9265266294152671208:=0
def PySem.W.Fast.tw443192224194891986:=0
def PySem.W.Fast.tw7134655750883934302:=0
def PySem.W.Fast.tw7807970827459185839:=0
def PySem.W.Fast.tw6532803641367066498:=0
def PySem.W.Fast.tw16475143533970998716:=0
def PySem.W.Fast.tw16518473000701672609:=0
def PySem.W.Fast.tw16764492399439362690:=0
def PySem.W.Fast.tw6416332207784265189:=0
def PySem.W.Fast.tw2385413977230050491:=0
def PySem.W.Fast.tw4403658443952617617:=0
def PySem.W.Fast.tw18266907588785975254:=0
def PySem.W.Fast.tw8305020712123721509:=0
def PySem.W.Fast.tw72790872041126577:=0
def PySem.W.Fast.tw5874628281684135655:=0
def PySem.W.Fast.tw2673466516986176393:=0
def PySem.W.Fast.tw8295781350469050050:=0
def PySem.W.Fast.tw5941243873975278470:=0
def PySem.W.Fast.tw7569832298791070326:=0
def PySem.W.Fast.tw9292118805669573935:=0
def PySem.W.Fast.tw18195852403959758499:=0
def PySem.W.Fast.tw16997843313527696270:=0
def PySem.W.Fast.tw11407418886794439125:=0
def PySem.W.Fast.tw5619967329255901601:=0
def PySem.W.Fast.tw10681081233595212212:=0
def PySem.W.Fast.tw4281927177743340998:=0
def PySem.W.Fast.tw8668912348740172775:=0
def PySem.W.Fast.tw6303863630948641965:=0
def PySem.W.Fast.tw1561585160893846334:=0
def PySem.W.Fast.tw17888673491248338739:=0
def PySem.W.Fast.tw624369072753935277:=0
def PySem.W.Fast.tw14719709329144631459:=0
def PySem.W.Fast.tw11248787614630651732:=0
def PySem.W.Fast.tw10253359607137793411:=0
def PySem.W.Fast.tw7148848606689208024:=0
namespace K63
open PySem PySem.Spec PyProof.Rows L2 BF
theorem ln1{us:List Value}(h:us.length=1):∃ a0,us=[a0]:=List.length_eq_one_iff.mp h
theorem ln2{us:List Value}(h:us.length=2):∃ a0 a1,us=[a0,a1]:=by
 cases us with
 | nil=>cases h
 | cons x us =>
  obtain⟨a1,rfl⟩:=ln1 (Nat.succ.inj h)
  exact⟨x,a1,rfl⟩
theorem ln3{us:List Value}(h:us.length=3):∃ a0 a1 a2,us=[a0,a1,a2]:=by
 cases us with
 | nil=>cases h
 | cons x us =>
  obtain⟨a1,a2,rfl⟩:=ln2 (Nat.succ.inj h)
  exact⟨x,a1,a2,rfl⟩
theorem ln4{us:List Value}(h:us.length=4):∃ a0 a1 a2 a3,us=[a0,a1,a2,a3]:=by
 cases us with
 | nil=>cases h
 | cons x us =>
  obtain⟨a1,a2,a3,rfl⟩:=ln3 (Nat.succ.inj h)
  exact⟨x,a1,a2,a3,rfl⟩
theorem all_mk{l:PySem.W.OpenLaw}{w:World}{K:PySem.W.Frag}{h:Heap}{mg:Str→Option Value}{fa fA fO fF fY fJ fQ fH fT fR fX fK fE fC fI fV fM fU fN fW fP fL fG fZ:Addr}(X:K.In h)(G:h.Ns mainGlobals mg)(hfa:mg "law"=some (.ref fa))
  {odA anA odO anO odF anF odY anY odJ anJ odQ anQ odH anH odT anT odR anR odX anX odK anK odE anE odC anC odI anI odV anV odM anM odU anU odN anN odW anW odP anP odL anL odG anG odZ anZ:Option Addr} {slA slO slF slY slJ slQ slH slT slR slX slK slE slC slI slV slM slU slN slW slP slL slG slZ:Array (Option Value)} {ocA kVA dcA pmA cdA ctA ocO kVO dcO pmO cdO ctO ocF kVF dcF pmF cdF ctF ocY kVY dcY pmY cdY ctY ocJ kVJ dcJ pmJ cdJ ctJ ocQ kVQ dcQ pmQ cdQ ctQ ocH kVH dcH pmH cdH ctH ocT kVT dcT pmT cdT ctT ocR kVR dcR pmR cdR ctR ocX kVX dcX pmX cdX ctX ocK kVK dcK pmK cdK ctK ocE kVE dcE pmE cdE ctE ocC kVC dcC pmC cdC ctC ocI kVI dcI pmI cdI ctI ocV kVV dcV pmV cdV ctV ocM kVM dcM pmM cdM ctM ocU kVU dcU pmU cdU ctU ocN kVN dcN pmN cdN ctN ocW kVW dcW pmW cdW ctW ocP kVP dcP pmP cdP ctP ocL kVL dcL pmL cdL ctL ocG kVG dcG pmG cdG ctG ocZ kVZ dcZ pmZ cdZ ctZ:Value}
  (aA:PySem.W.nsIn K mainGlobals "tied_by_end"=some (some (.ref fA))) (lA:K.lookup fA=some ⟨ocA,odA,.func (PySem.W.fnOf "tied_by_end" "tied_by_end" (au sTied) (aq sTied) (ab sTied) .none kVA dcA pmA anA cdA ctA),slA⟩) (cA:PySem.W.codeIn K cdA "tied_by_end"=true) (kA:PySem.W.keepIn K (.ref fA)=true)
  (aO:PySem.W.nsIn K mainGlobals "other_end"=some (some (.ref fO))) (lO:K.lookup fO=some ⟨ocO,odO,.func (PySem.W.fnOf "other_end" "other_end" (au sOthE) (aq sOthE) (ab sOthE) .none kVO dcO pmO anO cdO ctO),slO⟩) (cO:PySem.W.codeIn K cdO "other_end"=true) (kO:PySem.W.keepIn K (.ref fO)=true)
  (aF:PySem.W.nsIn K mainGlobals "thread_from"=some (some (.ref fF))) (lF:K.lookup fF=some ⟨ocF,odF,.func (PySem.W.fnOf "thread_from" "thread_from" (au sFrom) (aq sFrom) (ab sFrom) .none kVF dcF pmF anF cdF ctF),slF⟩) (cF:PySem.W.codeIn K cdF "thread_from"=true) (kF:PySem.W.keepIn K (.ref fF)=true)
  (aY:PySem.W.nsIn K mainGlobals "threads_by"=some (some (.ref fY))) (lY:K.lookup fY=some ⟨ocY,odY,.func (PySem.W.fnOf "threads_by" "threads_by" (au sBy) (aq sBy) (ab sBy) .none kVY dcY pmY anY cdY ctY),slY⟩) (cY:PySem.W.codeIn K cdY "threads_by"=true) (kY:PySem.W.keepIn K (.ref fY)=true)
  (aJ:PySem.W.nsIn K mainGlobals "other_face"=some (some (.ref fJ))) (lJ:K.lookup fJ=some ⟨ocJ,odJ,.func (PySem.W.fnOf "other_face" "other_face" (au iq) (aq iq) (ab iq) .none kVJ dcJ pmJ anJ cdJ ctJ),slJ⟩) (cJ:PySem.W.codeIn K cdJ "other_face"=true) (kJ:PySem.W.keepIn K (.ref fJ)=true)
  (aQ:PySem.W.nsIn K mainGlobals "face_at"=some (some (.ref fQ))) (lQ:K.lookup fQ=some ⟨ocQ,odQ,.func (PySem.W.fnOf "face_at" "face_at" (au f8) (aq f8) (ab f8) .none kVQ dcQ pmQ anQ cdQ ctQ),slQ⟩) (cQ:PySem.W.codeIn K cdQ "face_at"=true) (kQ:PySem.W.keepIn K (.ref fQ)=true)
  (aH:PySem.W.nsIn K mainGlobals "lines_by_hole"=some (some (.ref fH))) (lH:K.lookup fH=some ⟨ocH,odH,.func (PySem.W.fnOf "lines_by_hole" "lines_by_hole" (au gi) (aq gi) (ab gi) .none kVH dcH pmH anH cdH ctH),slH⟩) (cH:PySem.W.codeIn K cdH "lines_by_hole"=true) (kH:PySem.W.keepIn K (.ref fH)=true)
  (aT:PySem.W.nsIn K mainGlobals "plain_ties"=some (some (.ref fT))) (lT:K.lookup fT=some ⟨ocT,odT,.func (PySem.W.fnOf "plain_ties" "plain_ties" (au sTies) (aq sTies) (ab sTies) .none kVT dcT pmT anT cdT ctT),slT⟩) (cT:PySem.W.codeIn K cdT "plain_ties"=true) (kT:PySem.W.keepIn K (.ref fT)=true)
  (aR:PySem.W.nsIn K mainGlobals "begun_at"=some (some (.ref fR))) (lR:K.lookup fR=some ⟨ocR,odR,.func (PySem.W.fnOf "begun_at" "begun_at" (au ir) (aq ir) (ab ir) .none kVR dcR pmR anR cdR ctR),slR⟩) (cR:PySem.W.codeIn K cdR "begun_at"=true) (kR:PySem.W.keepIn K (.ref fR)=true)
  (aX:PySem.W.nsIn K mainGlobals "with_ring"=some (some (.ref fX))) (lX:K.lookup fX=some ⟨ocX,odX,.func (PySem.W.fnOf "with_ring" "with_ring" (au im) (aq im) (ab im) .none kVX dcX pmX anX cdX ctX),slX⟩) (cX:PySem.W.codeIn K cdX "with_ring"=true) (kX:PySem.W.keepIn K (.ref fX)=true)
  (aK:PySem.W.nsIn K mainGlobals "taken_in"=some (some (.ref fK))) (lK:K.lookup fK=some ⟨ocK,odK,.func (PySem.W.fnOf "taken_in" "taken_in" (au io) (aq io) (ab io) .none kVK dcK pmK anK cdK ctK),slK⟩) (cK:PySem.W.codeIn K cdK "taken_in"=true) (kK:PySem.W.keepIn K (.ref fK)=true)
  (aE:PySem.W.nsIn K mainGlobals "fewest"=some (some (.ref fE))) (lE:K.lookup fE=some ⟨ocE,odE,.func (PySem.W.fnOf "fewest" "fewest" (au sFew) (aq sFew) (ab sFew) .none kVE dcE pmE anE cdE ctE),slE⟩) (cE:PySem.W.codeIn K cdE "fewest"=true) (kE:PySem.W.keepIn K (.ref fE)=true)
  (aC:PySem.W.nsIn K mainGlobals "_law_cell_at"=some (some (.ref fC))) (lC:K.lookup fC=some ⟨ocC,odC,.func (PySem.W.fnOf "_law_cell_at" "_law_cell_at" (au iS) (aq iS) (ab iS) .none kVC dcC pmC anC cdC ctC),slC⟩) (cC:PySem.W.codeIn K cdC "_law_cell_at"=true) (kC:PySem.W.keepIn K (.ref fC)=true)
  (aI:PySem.W.nsIn K mainGlobals "_law_line"=some (some (.ref fI))) (lI:K.lookup fI=some ⟨ocI,odI,.func (PySem.W.fnOf "_law_line" "_law_line" (au sLine) (aq sLine) (ab sLine) .none kVI dcI pmI anI cdI ctI),slI⟩) (cI:PySem.W.codeIn K cdI "_law_line"=true) (kI:PySem.W.keepIn K (.ref fI)=true)
  (aV:PySem.W.nsIn K mainGlobals "_law_far"=some (some (.ref fV))) (lV:K.lookup fV=some ⟨ocV,odV,.func (PySem.W.fnOf "_law_far" "_law_far" (au sFar) (aq sFar) (ab sFar) .none kVV dcV pmV anV cdV ctV),slV⟩) (cV:PySem.W.codeIn K cdV "_law_far"=true) (kV:PySem.W.keepIn K (.ref fV)=true)
  (aM:PySem.W.nsIn K mainGlobals "_law_mixed"=some (some (.ref fM))) (lM:K.lookup fM=some ⟨ocM,odM,.func (PySem.W.fnOf "_law_mixed" "_law_mixed" (au sMix) (aq sMix) (ab sMix) .none kVM dcM pmM anM cdM ctM),slM⟩) (cM:PySem.W.codeIn K cdM "_law_mixed"=true) (kM:PySem.W.keepIn K (.ref fM)=true)
  (aU:PySem.W.nsIn K mainGlobals "_law_numbers"=some (some (.ref fU))) (lU:K.lookup fU=some ⟨ocU,odU,.func (PySem.W.fnOf "_law_numbers" "_law_numbers" (au sNums) (aq sNums) (ab sNums) .none kVU dcU pmU anU cdU ctU),slU⟩) (cU:PySem.W.codeIn K cdU "_law_numbers"=true) (kU:PySem.W.keepIn K (.ref fU)=true)
  (aN:PySem.W.nsIn K mainGlobals "_law_anywhere"=some (some (.ref fN))) (lN:K.lookup fN=some ⟨ocN,odN,.func (PySem.W.fnOf "_law_anywhere" "_law_anywhere" (au sAny) (aq sAny) (ab sAny) .none kVN dcN pmN anN cdN ctN),slN⟩) (cN:PySem.W.codeIn K cdN "_law_anywhere"=true) (kN:PySem.W.keepIn K (.ref fN)=true)
  (aW:PySem.W.nsIn K mainGlobals "_law_work"=some (some (.ref fW))) (lW:K.lookup fW=some ⟨ocW,odW,.func (PySem.W.fnOf "_law_work" "_law_work" (au sWork) (aq sWork) (ab sWork) .none kVW dcW pmW anW cdW ctW),slW⟩) (cW:PySem.W.codeIn K cdW "_law_work"=true) (kW:PySem.W.keepIn K (.ref fW)=true)
  (aP:PySem.W.nsIn K mainGlobals "_law_step"=some (some (.ref fP))) (lP:K.lookup fP=some ⟨ocP,odP,.func (PySem.W.fnOf "_law_step" "_law_step" (au sStep) (aq sStep) (ab sStep) .none kVP dcP pmP anP cdP ctP),slP⟩) (cP:PySem.W.codeIn K cdP "_law_step"=true) (kP:PySem.W.keepIn K (.ref fP)=true)
  (aL:PySem.W.nsIn K mainGlobals "_law_laid"=some (some (.ref fL))) (lL:K.lookup fL=some ⟨ocL,odL,.func (PySem.W.fnOf "_law_laid" "_law_laid" (au jF) (aq jF) (ab jF) .none kVL dcL pmL anL cdL ctL),slL⟩) (cL:PySem.W.codeIn K cdL "_law_laid"=true) (kL:PySem.W.keepIn K (.ref fL)=true)
  (aG:PySem.W.nsIn K mainGlobals "_law_groups"=some (some (.ref fG))) (lG:K.lookup fG=some ⟨ocG,odG,.func (PySem.W.fnOf "_law_groups" "_law_groups" (au gh) (aq gh) (ab gh) .none kVG dcG pmG anG cdG ctG),slG⟩) (cG:PySem.W.codeIn K cdG "_law_groups"=true) (kG:PySem.W.keepIn K (.ref fG)=true)
  (aZ:PySem.W.nsIn K mainGlobals "law"=some (some (.ref fZ))) (lZ:K.lookup fZ=some ⟨ocZ,odZ,.func (PySem.W.fnOf "law" "law" (au sLaw) (aq sLaw) (ab sLaw) .none kVZ dcZ pmZ anZ cdZ ctZ),slZ⟩) (cZ:PySem.W.codeIn K cdZ "law"=true) (kZ:PySem.W.keepIn K (.ref fZ)=true)
  (z_isi:PySem.W.nsIn K mainGlobals "isinstance"=some none)
  (z_list:PySem.W.nsIn K mainGlobals "list"=some none)
  (z_tuple:PySem.W.nsIn K mainGlobals "tuple"=some none)
  (z_int:PySem.W.nsIn K mainGlobals "int"=some none)
  (z_len:PySem.W.nsIn K mainGlobals "len"=some none)
  (z_range:PySem.W.nsIn K mainGlobals "range"=some none)
  (z_sorted:PySem.W.nsIn K mainGlobals "sorted"=some none)
  (z_set:PySem.W.nsIn K mainGlobals "set"=some none)
  (z_min:PySem.W.nsIn K mainGlobals "min"=some none)
  (z_max:PySem.W.nsIn K mainGlobals "max"=some none)
  (z_zip:PySem.W.nsIn K mainGlobals "zip"=some none)
  (z_enum:PySem.W.nsIn K mainGlobals "enumerate"=some none) :
  ∃ fd:FuncData,(∀ (s:Shared) (v:Value),BindsTo s fd ⟨[v],[]⟩ [("_law_script",v)])∧∀ base:Heap,K.In base→base.Ns mainGlobals mg→FnOk l.prog w K mg base CX0 7 fa fd ["_law_script"] (spLaw K):=by
 have e:=hfa.symm.trans (PySem.W.mg_of X G aZ)
 cases e
 have DA:=cq (st:=sTied) X G aA lA cA kA
 have DO:=cq (st:=sOthE) X G aO lO cO kO
 have DF:=cq (st:=sFrom) X G aF lF cF kF
 have DY:=cq (st:=sBy) X G aY lY cY kY
 have DJ:=cq (st:=iq) X G aJ lJ cJ kJ
 have DQ:=cq (st:=f8) X G aQ lQ cQ kQ
 have DH:=cq (st:=gi) X G aH lH cH kH
 have DT:=cq (st:=sTies) X G aT lT cT kT
 have DR:=cq (st:=ir) X G aR lR cR kR
 have DX:=cq (st:=im) X G aX lX cX kX
 have DK:=cq (st:=io) X G aK lK cK kK
 have DE:=cq (st:=sFew) X G aE lE cE kE
 have DC:=cq (st:=iS) X G aC lC cC kC
 have DI:=cq (st:=sLine) X G aI lI cI kI
 have DV:=cq (st:=sFar) X G aV lV cV kV
 have DM:=cq (st:=sMix) X G aM lM cM kM
 have DU:=cq (st:=sNums) X G aU lU cU kU
 have DN:=cq (st:=sAny) X G aN lN cN kN
 have DW:=cq (st:=sWork) X G aW lW cW kW
 have DP:=cq (st:=sStep) X G aP lP cP kP
 have DL:=cq (st:=jF) X G aL lL cL kL
 have DG:=cq (st:=gh) X G aG lG cG kG
 have DZ:=cq (st:=sLaw) X G aZ lZ cZ kZ
 have B:Blt mg:=⟨PySem.W.mg_none_of X G z_isi,PySem.W.mg_none_of X G z_list,PySem.W.mg_none_of X G z_tuple,PySem.W.mg_none_of X G z_int,PySem.W.mg_none_of X G z_len,PySem.W.mg_none_of X G z_range,PySem.W.mg_none_of X G z_sorted,PySem.W.mg_none_of X G z_set,PySem.W.mg_none_of X G z_min,PySem.W.mg_none_of X G z_max,PySem.W.mg_none_of X G z_zip,PySem.W.mg_none_of X G z_enum⟩
 have bA:=DA.F.binds (ps:=["ties"]) fun _ _ _ _ _ _ us hl=>by obtain⟨_,rfl⟩:=ln1 hl;rfl
 have bO:=DO.F.binds (ps:=["line","hole"]) fun _ _ _ _ _ _ us hl=>by obtain⟨_,_,rfl⟩:=ln2 hl;rfl
 have bF:=DF.F.binds (ps:=["tied","stitch","hole","used"]) fun _ _ _ _ _ _ us hl=>by obtain⟨_,_,_,_,rfl⟩:=ln4 hl;rfl
 have bY:=DY.F.binds (ps:=["work","ties"]) fun _ _ _ _ _ _ us hl=>by obtain⟨_,_,rfl⟩:=ln2 hl;rfl
 have bJ:=DJ.F.binds (ps:=["face"]) fun _ _ _ _ _ _ us hl=>by obtain⟨_,rfl⟩:=ln1 hl;rfl
 have bQ:=DQ.F.binds (ps:=["thread","at"]) fun _ _ _ _ _ _ us hl=>by obtain⟨_,_,rfl⟩:=ln2 hl;rfl
 have bH:=DH.F.binds (ps:=["lines"]) fun _ _ _ _ _ _ us hl=>by obtain⟨_,rfl⟩:=ln1 hl;rfl
 have bT:=DT.F.binds (ps:=["work"]) fun _ _ _ _ _ _ us hl=>by obtain⟨_,rfl⟩:=ln1 hl;rfl
 have bR:=DR.F.binds (ps:=["ring","hole","face"]) fun _ _ _ _ _ _ us hl=>by obtain⟨_,_,_,rfl⟩:=ln3 hl;rfl
 have bX:=DX.F.binds (ps:=["thread","ring"]) fun _ _ _ _ _ _ us hl=>by obtain⟨_,_,rfl⟩:=ln2 hl;rfl
 have bK:=DK.F.binds (ps:=["threads","ring"]) fun _ _ _ _ _ _ us hl=>by obtain⟨_,_,rfl⟩:=ln2 hl;rfl
 have bE:=DE.F.binds (ps:=["work"]) fun _ _ _ _ _ _ us hl=>by obtain⟨_,rfl⟩:=ln1 hl;rfl
 have bC:=DC.F.binds (ps:=["_law_script","_law_k"]) fun _ _ _ _ _ _ us hl=>by obtain⟨_,_,rfl⟩:=ln2 hl;rfl
 have bI:=DI.F.binds (ps:=["_law_number","_law_far_here"]) fun _ _ _ _ _ _ us hl=>by obtain⟨_,_,rfl⟩:=ln2 hl;rfl
 have bV:=DV.F.binds (ps:=["_law_script"]) fun _ _ _ _ _ _ us hl=>by obtain⟨_,rfl⟩:=ln1 hl;rfl
 have bM:=DM.F.binds (ps:=["_law_cell","_law_k"]) fun _ _ _ _ _ _ us hl=>by obtain⟨_,_,rfl⟩:=ln2 hl;rfl
 have bU:=DU.F.binds (ps:=["_law_script","_law_most"]) fun _ _ _ _ _ _ us hl=>by obtain⟨_,_,rfl⟩:=ln2 hl;rfl
 have bN:=DN.F.binds (ps:=["_law_number"]) fun _ _ _ _ _ _ us hl=>by obtain⟨_,rfl⟩:=ln1 hl;rfl
 have bW:=DW.F.binds (ps:=["_law_script","_law_most"]) fun _ _ _ _ _ _ us hl=>by obtain⟨_,_,rfl⟩:=ln2 hl;rfl
 have bP:=DP.F.binds (ps:=["_law_one","_law_other"]) fun _ _ _ _ _ _ us hl=>by obtain⟨_,_,rfl⟩:=ln2 hl;rfl
 have bL:=DL.F.binds (ps:=["_law_threads"]) fun _ _ _ _ _ _ us hl=>by obtain⟨_,rfl⟩:=ln1 hl;rfl
 have bG:=DG.F.binds (ps:=["_law_work_here"]) fun _ _ _ _ _ _ us hl=>by obtain⟨_,rfl⟩:=ln1 hl;rfl
 refine⟨PySem.W.fnOf "law" "law" (au sLaw) (aq sLaw) (ab sLaw) .none kVZ dcZ pmZ anZ cdZ ctZ,fun s v=>.of_eq rfl,fun base _ _=>?_⟩
 have GA:FnOk l.prog w K mg base CX0 1 fA _ ["ties"] (spTied l.prog w):=ok_tied DA
 have GF:FnOk l.prog w K mg base CX0 2 fF _ ["tied","stitch","hole","used"] (spFrom l.prog w):=ok_from DF DO bO (ok_othE DO) B.tuple
 have GY:FnOk l.prog w K mg base CX0 3 fY _ ["work","ties"] spBy:=ok_by DY DA bA GA DF bF GF
 have GQ:FnOk l.prog w K mg base CX0 2 fQ _ ["thread","at"] iK:=ok_faceAt DQ DJ bJ (ok_face DJ)
 have GT:FnOk l.prog w K mg base CX0 2 fT _ ["work"] spTies:=ok_ties DT DH bH (ok_byHole DH) B.sorted B.zip
 have GR:FnOk l.prog w K mg base CX0 3 fR _ ["ring","hole","face"] spBegun:=ok_begun DR DQ bQ GQ
 have GX:FnOk l.prog w K mg base CX0 4 fX _ ["thread","ring"] spWithR:=ok_withR DX DQ bQ GQ DR bR GR B.enum
 have GK:FnOk l.prog w K mg base CX0 5 fK _ ["threads","ring"] spTaken:=ok_taken DK DX bX GX B.range B.len
 have GE:FnOk l.prog w K mg base CX0 6 fE _ ["work"] spFew:=ok_few DE DT bT GT DY bY GY DK bK GK
 have GC:FnOk l.prog w K mg base CX0 1 fC _ ["_law_script","_law_k"] (spCell K):=ok_cell DC B.len
 have GV:FnOk l.prog w K mg base CX0 2 fV _ ["_law_script"] (spFar K):=ok_far DV DC bC GC
 have GU:FnOk l.prog w K mg base CX0 2 fU _ ["_law_script","_law_most"] (spNums K):=ok_nums DU DC bC GC DM bM (ok_mix DM) B.len B.int B.enum
 have GW:FnOk l.prog w K mg base CX0 3 fW _ ["_law_script","_law_most"] (spWork K):=ok_work DW DC bC GC DV bV GV DU bU GU DI bI (ok_line DI) DN bN (ok_any DN B.min B.max) B.sorted
 have GL:FnOk l.prog w K mg base CX0 2 fL _ ["_law_threads"] spLaid:=ok_laid DL DP bP (ok_step DP) B.isi B.tuple B.len B.range
 have GG:FnOk l.prog w K mg base CX0 1 fG _ ["_law_work_here"] (spGroups l.prog w):=ok_groups DG B.list
 exact ok_law DZ DW bW GW DE bE GE DL bL GL DG bG GG B
theorem walk{l:PySem.W.OpenLaw}{q:Program}{loose:List Str}{XP:(Str→Option Value)→Heap→Prop}{YP:World→Heap→Prop}{d:DefRec}{K:Params→PySem.W.Frag}(hn:l.most=some 63)(hdf:d.params.defaults=[])
  (hY:∀ (w:World) (h:Heap),YP w h→(K w.params).In h)
  (F:∀ (w:World) (mg:Str→Option Value) (fa:Addr) (h:Heap),(K w.params).In h→h.Ns mainGlobals mg→mg d.name=some (.ref fa) →
   ∃ fd:FuncData,(∀ (s:Shared) (u:Value),BindsTo s fd ⟨[u],[]⟩ [("_law_script",u)])∧∀ base:Heap,(K w.params).In base→base.Ns mainGlobals mg→FnOk l.prog w (K w.params) mg base CX0 7 fa fd ["_law_script"] (spLaw (K w.params))) :
  PySem.W.WalkO q loose XP YP l.row.toRowW d [] (fun f vs=>PySem.call f vs) :=
 L2.walk_of (n:=63) (k:=7) (x:="_law_script") (CX:=fun _=>CX0) (sp:=fun w=>spLaw (K w.params)) hn (by decide) hdf ⟨rfl,by decide,by decide⟩ hY F (fun _ _ a ns hl _ hS=>⟨a,ns,rfl,hS,hl,fun _=>rfl⟩) fun _ _ _ _ _ z=>z
end K63
open PySem PySem.W PyProof.Rows
set_option maxRecDepth 100000 in
set_option maxHeartbeats 0 in
theorem PySem.Challenge.cw_bothfaces_k63_whole_alike_faces_holds : PySem.Challenge.rw_bothfaces_k63_whole_alike_faces.Holds := by
 w_on;o_law;k_head;(case hw=>w_witness2)
 k_fill
 refine K63.walk (l:=PySem.Challenge.rw_bothfaces_k63_whole_alike_faces) rfl rfl (fun w h Y=>PySem.W.kIn_of Y) ?F
 case F =>
  intro w mg fa h KX G hmg
  refine' K63.all_mk KX G hmg ?aA ?lA ?cA ?kA ?aO ?lO ?cO ?kO ?aF ?lF ?cF ?kF ?aY ?lY ?cY ?kY ?aJ ?lJ ?cJ ?kJ ?aQ ?lQ ?cQ ?kQ ?aH ?lH ?cH ?kH ?aT ?lT ?cT ?kT ?aR ?lR ?cR ?kR ?aX ?lX ?cX ?kX ?aK ?lK ?cK ?kK ?aE ?lE ?cE ?kE ?aC ?lC ?cC ?kC ?aI ?lI ?cI ?kI ?aV ?lV ?cV ?kV ?aM ?lM ?cM ?kM ?aU ?lU ?cU ?kU ?aN ?lN ?cN ?kN ?aW ?lW ?cW ?kW ?aP ?lP ?cP ?kP ?aL ?lL ?cL ?kL ?aG ?lG ?cG ?kG ?aZ ?lZ ?cZ ?kZ ?z_isi ?z_list ?z_tuple ?z_int ?z_len ?z_range ?z_sorted ?z_set ?z_min ?z_max ?z_zip ?z_enum
  (case aA=>k_is)
  (case lA=>k_is)
  (case cA=>k_is)
  (case kA=>k_is)
  (case aO=>k_is)
  (case lO=>k_is)
  (case cO=>k_is)
  (case kO=>k_is)
  (case aF=>k_is)
  (case lF=>k_is)
  (case cF=>k_is)
  (case kF=>k_is)
  (case aY=>k_is)
  (case lY=>k_is)
  (case cY=>k_is)
  (case kY=>k_is)
  (case aJ=>k_is)
  (case lJ=>k_is)
  (case cJ=>k_is)
  (case kJ=>k_is)
  (case aQ=>k_is)
  (case lQ=>k_is)
  (case cQ=>k_is)
  (case kQ=>k_is)
  (case aH=>k_is)
  (case lH=>k_is)
  (case cH=>k_is)
  (case kH=>k_is)
  (case aT=>k_is)
  (case lT=>k_is)
  (case cT=>k_is)
  (case kT=>k_is)
  (case aR=>k_is)
  (case lR=>k_is)
  (case cR=>k_is)
  (case kR=>k_is)
  (case aX=>k_is)
  (case lX=>k_is)
  (case cX=>k_is)
  (case kX=>k_is)
  (case aK=>k_is)
  (case lK=>k_is)
  (case cK=>k_is)
  (case kK=>k_is)
  (case aE=>k_is)
  (case lE=>k_is)
  (case cE=>k_is)
  (case kE=>k_is)
  (case aC=>k_is)
  (case lC=>k_is)
  (case cC=>k_is)
  (case kC=>k_is)
  (case aI=>k_is)
  (case lI=>k_is)
  (case cI=>k_is)
  (case kI=>k_is)
  (case aV=>k_is)
  (case lV=>k_is)
  (case cV=>k_is)
  (case kV=>k_is)
  (case aM=>k_is)
  (case lM=>k_is)
  (case cM=>k_is)
  (case kM=>k_is)
  (case aU=>k_is)
  (case lU=>k_is)
  (case cU=>k_is)
  (case kU=>k_is)
  (case aN=>k_is)
  (case lN=>k_is)
  (case cN=>k_is)
  (case kN=>k_is)
  (case aW=>k_is)
  (case lW=>k_is)
  (case cW=>k_is)
  (case kW=>k_is)
  (case aP=>k_is)
  (case lP=>k_is)
  (case cP=>k_is)
  (case kP=>k_is)
  (case aL=>k_is)
  (case lL=>k_is)
  (case cL=>k_is)
  (case kL=>k_is)
  (case aG=>k_is)
  (case lG=>k_is)
  (case cG=>k_is)
  (case kG=>k_is)
  (case aZ=>k_is)
  (case lZ=>k_is)
  (case cZ=>k_is)
  (case kZ=>k_is)
  (case z_isi=>k_is)
  (case z_list=>k_is)
  (case z_tuple=>k_is)
  (case z_int=>k_is)
  (case z_len=>k_is)
  (case z_range=>k_is)
  (case z_sorted=>k_is)
  (case z_set=>k_is)
  (case z_min=>k_is)
  (case z_max=>k_is)
  (case z_zip=>k_is)
  (case z_enum=>k_is)
