import PyProof.Rows.All
import Wide.All
import OpenK.AllK
import Wide.FinOn
import Lean
import PyProof.EqAt
import PyProof.EqKinds
import PyProof.TupleCall
import PyProof.DictCompW
import PyProof.AutoListH
import PyProof.EnumMake
import PyProof.ZipIter
import PyProof.AttrMissSeq
import KE.KDictOf
import PyProof.ReprLen
import PyProof.StrLawsRepr
import KE.KUnpackStar
import PyProof.DictWalks
import PyProof.Rows.DictUnroll
import PyProof.Rows.Range3
import PyProof.Rows.ChunkEnd
import PyProof.Rows.ChunkLeaf
import PyProof.StrCalls2
import PyProof.StrLawsTight
import PyProof.StrLawsChain
import PyProof.Rows.StrSplitJoin
import PyProof.Conv_int_bool
import PyProof.Rows.TupMore
import PyProof.StrLawsIn
import PyProof.Rows.StrCut
import PyProof.StrCalls
import PyProof.CallFns
import PyProof.FString5
import PyProof.NsCount
import KE.KItemsList
import PyProof.NeKinds
import PyProof.DictItems
import KE.KPairComp
import PyProof.DictValues
import PyProof.SumWalk
import PyProof.ConsumeWalk
import PyProof.SumAny
import KE.KRevIter
import PyProof.FactsAll.range_2
import PyProof.WalksMore
import PyProof.MinMaxWalk
import PyProof.SeqI3
import KE.KDictList
import KE.KStrOpen
import PyProof.NeData
import KE.KDictLaws
import KE.KSortTup
import KE.KDictSum
import KE.KMinKey
import PyProof.Rows.SetFrom
import PyProof.SetRoads
import PyProof.CollectIter
import PyProof.TupleOfGen
import PySem.Challenge.RW_coilkind_k75_what_is_a_maker
set_option Elab.async false
set_option linter.all false
set_option maxRecDepth 100000
namespace L2
open PySem PySem.Spec PyProof.Rows
abbrev Key:=Sum Int Str
def keyIs:Key→Value→Bool
 | .inl k,v=>Value.isInt k v
 | .inr x,v=>Value.isStrOf x v
def keyH (w:World):Key→Int
 | .inl k=>hashInt k
 | .inr x=>hashStr w x
theorem bW:∀ {k:Key} {v:Value},keyIs k v=true→(∃ i t,k=Sum.inl i∧v=Value.int i t)∨(∃ x t,k=Sum.inr x∧v=Value.str x t)
 | .inl i,v,h=>by
  obtain ⟨t,e⟩:=Value.isInt_shape (k:=i) (v:=v) h
  exact .inl ⟨i,t,rfl,e⟩
 | .inr x,v,h=>by
  obtain ⟨t,e⟩:=Value.isStrOf_shape (x:=x) (v:=v) h
  exact .inr ⟨x,t,rfl,e⟩
theorem xM (i:Int) (t:Tok):keyIs (.inl i) (.int i t)=true:=by simp [keyIs,Value.isInt]
theorem xI (x:Str) (t:Tok):keyIs (.inr x) (.str x t)=true:=by simp [keyIs,Value.isStrOf]
theorem a1P (a b:Int):decide ((Sum.inl a:Key)=Sum.inl b)=(a==b):=by
 by_cases e:a=b
 ·subst e;simp
 ·have h:¬(Sum.inl a:Key)=Sum.inl b:=fun q=>e (Sum.inl.inj q)
  rw [decide_eq_false h]
  exact (beq_eq_false_iff_ne.mpr e).symm
theorem a1o (a b:Str):decide ((Sum.inr a:Key)=Sum.inr b)=decide (a=b):=by
 by_cases e:a=b
 ·subst e;simp
 ·have h:¬(Sum.inr a:Key)=Sum.inr b:=fun q=>e (Sum.inr.inj q)
  rw [decide_eq_false h,decide_eq_false e]
theorem a1x (a:Int) (b:Str):decide ((Sum.inl a:Key)=Sum.inr b)=false:=decide_eq_false (fun q=>nomatch q)
theorem a1u (a:Str) (b:Int):decide ((Sum.inr a:Key)=Sum.inl b)=false:=decide_eq_false (fun q=>nomatch q)
def mixKind (prog:Program) (w:World):PySem.KeyKind prog w Key where
 is:=keyIs
 hash:=keyH w
 inj:=fun v a b ha hb=>by
  rcases bW ha with ⟨i,t,rfl,rfl⟩ | ⟨x,t,rfl,rfl⟩
  ·rcases bW hb with ⟨j,u,rfl,e⟩ | ⟨y,u,rfl,e⟩
   ·injection e with e1 _;rw [e1]
   ·exact nomatch e
  ·rcases bW hb with ⟨j,u,rfl,e⟩ | ⟨y,u,rfl,e⟩
   ·exact nomatch e
   ·injection e with e1 _;rw [e1]
 byValue:=fun k v h=>by
  rcases bW h with ⟨i,t,rfl,rfl⟩ | ⟨x,t,rfl,rfl⟩<;>rfl
 pyHash:=fun hv h=>by
  rcases bW hv with ⟨i,t,rfl,rfl⟩ | ⟨x,t,rfl,rfl⟩
  ·exact wpAny_pyHash_int h
  ·exact wpAny_pyHash_str h
 eqBool:=fun hu hv h=>by
  rcases bW hu with ⟨i,t,rfl,rfl⟩ | ⟨x,t,rfl,rfl⟩
  ·rcases bW hv with ⟨j,u,rfl,rfl⟩ | ⟨y,u,rfl,rfl⟩
   ·rw [a1P] at h;exact wpAny_eqBool_int h
   ·rw [a1x] at h;exact SeqAt.EqAt.int_str i t y u _ _ _ _ h
  ·rcases bW hv with ⟨j,u,rfl,rfl⟩ | ⟨y,u,rfl,rfl⟩
   ·rw [a1u] at h;exact SeqAt.EqAt.str_int x t j u _ _ _ _ h
   ·rw [a1o] at h;exact wpAny_eqBool_str h
 «strs»:=fun k x t v h=>by
  rcases bW h with ⟨i,u,rfl,e⟩ | ⟨y,u,rfl,e⟩
  ·exact nomatch e
  ·injection e with e1 _
   subst e1
   cases v<;>rfl
theorem t8 (prog:Program) (w:World) (i:Int) (t:Tok):(mixKind prog w).is (.inl i) (.int i t)=true:=xM i t
theorem jH (prog:Program) (w:World) (x:Str) (t:Tok):(mixKind prog w).is (.inr x) (.str x t)=true:=xI x t
end L2
namespace L2
open PySem PySem.Spec PyProof.Rows
inductive V where
 | non | bl (b:Bool) | int (i:Int) | str (x:Str) | byt (b:Array UInt8) | flt (b:UInt64) | ref (a:Addr) | ty (n:String)
 deriving DecidableEq
def RelV:V→Value→Prop
 | .non,u=>u=Value.none
 | .bl b,u=>u=Value.bool b
 | .int i,u=>∃ t,u=Value.int i t
 | .str x,u=>∃ t,u=Value.str x t
 | .byt b,u=>∃ t,u=Value.bytes b t
 | .flt b,u=>∃ t,u=Value.float b t
 | .ref a,u=>u=Value.ref a
 | .ty n,u=>u=Value.type n
abbrev Vals:List V→List Value→Prop:=Paired RelV
theorem Vals.length {xs:List V} {us:List Value} (r:Vals xs us):xs.length=us.length:=Paired.length r
theorem Vals.get:∀ {xs:List V} {us:List Value} {i:Nat} {x:V},Vals xs us→xs[i]? =some x→∃ u,us[i]? =some u∧RelV x u
 | _,_,_,_,.nil,e=>by simp at e
 | _,_,0,_,.cons r _,e=>by simp at e;subst e;exact ⟨_,rfl,r⟩
 | _,_,i+1,x,.cons _ t,e=>by
  obtain ⟨u,h1,h2⟩:=Vals.get (i:=i) (x:=x) t (by simpa using e)
  exact ⟨u,by simpa using h1,h2⟩
theorem Vals.set {x:V} {u:Value} (r:RelV x u):∀ {xs:List V} {us:List Value} (i:Nat),Vals xs us→Vals (xs.set i x) (us.set i u)
 | _,_,_,.nil=>.nil
 | _,_,0,.cons _ t=>.cons r t
 | _,_,i+1,.cons q t=>.cons q (Vals.set r i t)
theorem Vals.append:∀ {xs ys:List V} {us ws:List Value},Vals xs us→Vals ys ws→Vals (xs++ys) (us++ws)
 | _,_,_,_,.nil,s=>s
 | _,_,_,_,.cons r t,s=>.cons r (Vals.append t s)
theorem Vals.take:∀ {xs:List V} {us:List Value} (n:Nat),Vals xs us→Vals (xs.take n) (us.take n)
 | _,_,0,_=>.nil
 | _,_,_+1,.nil=>.nil
 | _,_,n+1,.cons r t=>.cons r (Vals.take n t)
theorem Vals.drop:∀ {xs:List V} {us:List Value} (n:Nat),Vals xs us→Vals (xs.drop n) (us.drop n)
 | _,_,0,r=>r
 | _,_,_+1,.nil=>.nil
 | _,_,n+1,.cons _ t=>Vals.drop n t
def RelO:Option V→Option Value→Prop
 | some v,some u=>RelV v u
 | none,none=>True
 | _,_=>False
def KV {κ:Type}:List (κ×V)→List (κ×Value)→Prop:=Paired fun (p:κ×V) (q:κ×Value)=>p.1=q.1∧RelV p.2 q.2
def kV:Key→V
 | .inl i=>.int i
 | .inr x=>.str x
inductive HO where
  | lst (xs:List V)
  | tup (xs:List V)
  | dK (kvs:List (Key×V)) | dT (kvs:List (List Key×V))
  | set (S:Int→Bool) (n:Nat)
  | ins (C dx:Addr) (fs:List (Str×V))
  | own (x:Addr)
  | xd (fs:List (Str×V))
  | met (f x:Addr)
  | rng (lo hi:Int)
  | frz (o:Obj) (u:HO)
  | tbl (ps:Array Value)
  | ext (φ:Heap→Prop)
abbrev Hp:=Addr→Option HO
def upd (H:Hp) (a:Addr) (o:HO):Hp:=fun b=>if b=a then some o else H b
theorem aA {H:Hp} {a:Addr} {o:HO}:upd H a o a=some o:=by unfold upd;rw [if_pos rfl]
theorem aN {H:Hp} {a b:Addr} {o:HO} (h:b≠a):upd H a o b=H b:=by unfold upd;rw [if_neg h]
theorem jR {H:Hp} {a:Addr} {o u:HO}:upd (upd H a o) a u=upd H a u:=by
 funext b;unfold upd;split<;>rfl
theorem aU {H:Hp} {a b:Addr} {o:HO} (h:H a=some o) (h':H b=none):a≠b:=by
 intro e;subst e;rw [h] at h';cases h'
def NoDct (h:Heap) (a:Addr):Prop:=∀ o,h.get? a=some o→o.dict=none
theorem NoDct.new {h:Heap} {ob:Obj} (h0:ob.isFreed=false) (hd:ob.dict=none):NoDct (h.push ob) h.objs.size:=fun o q=>by rw [Heap.get?_push_size _ h0] at q;cases q;exact hd
def RdT (H:Hp) (b:Addr) (ys:List V):Prop:=H b=some (.tup ys)∨∃ o,H b=some (.frz o (.tup ys))
theorem RdT.upd {H:Hp} {b a:Addr} {ys:List V} {o:HO} (r:RdT H b ys) (ne:∀ u,H b=some u→b≠a):RdT (L2.upd H a o) b ys:=by
 rcases r with r | ⟨ob,r⟩
 ·exact .inl (by rw [aN (ne _ r)];exact r)
 ·exact .inr ⟨ob,by rw [aN (ne _ r)];exact r⟩
section
variable (P:Program) (w:World)
def ObjOk (H:Hp) (h:Heap) (a:Addr):HO→Prop
 | .lst xs=>xs.length≤sizeLine∧∃ (its:List Value) (n:Nat),Vals xs its∧h.get? a=some {cls:=.type "list",data:=.seq its.toArray n}
 | .tup xs=>(xs.length≤sizeLine∧NoDct h a)∧∃ its:List Value,Vals xs its∧IsTup h a its.toArray
 | .dK kvs=>kvs.length≤sizeLine∧(a==sysModules)=false∧∃ vs,KV kvs vs∧h.DictOf (mixKind P w) a vs
 | .dT kvs=>kvs.length≤sizeLine∧(a==sysModules)=false∧∃ xs:List (List Key×Addr×Value),
   Paired (fun (p:List Key×V) (q:List Key×Addr×Value)=>p.1=q.1∧RdT H q.2.1 (p.1.map kV)∧RelV p.2 q.2.2) kvs xs∧
   ∃ o es ep,h.get? a=some o∧o.ExactDict∧o.data=.dict es ep∧es.toList=xs.map (entryOfKey (tupleKind (mixKind P w)))∧(xs.map (·.1)).Nodup
 | .set S n=>h.SetOf (intKind P w) a S n
 | .ins C dx fs=>H dx=some (.own a)∧fs.length≤1000∧dx≠a∧h.get? a=some (PySem.W.instObj C dx)∧
   ∃ mA,h.Ns1 dx mA∧(∀ f,RelO (fs.lookup f) (mA f))∧PySem.Within mA (fs.map (·.1))
 | .own _=>∃ o,h.get? a=some o
 | .xd fs=>∃ mA,h.Ns1 a mA∧∀ f,RelO (fs.lookup f) (mA f)
 | .rng lo hi=>∃ t u v,h.get? a=some {cls:=.type "range",data:=.fields #[.int lo t,.int hi u,.int 1 v]}
 | .frz o u=>h.get? a=some o∧ObjOk H h a u
 | .tbl ps=>h.get? a=some {cls:=.none,data:=.fields ps}
 | .met f x=>h.get? a=some (PySem.W.methodObj (.ref f) (.ref x))
 | .ext φ=>φ h∧(∃ o,h.get? a=some o)∧∀ h1 h2:Heap,φ h1→(∀ o,h1.get? a=some o→h2.get? a=some o)→φ h2
def HOk (H:Hp) (h:Heap):Prop:=∀ a o,H a=some o→ObjOk P w H h a o
end
section
variable {P:Program} {w:World} {H H':Hp} {h h':Heap} {a:Addr} {o:HO}
theorem ObjOk.lt (x:ObjOk P w H h a o):a < h.objs.size:=by
 cases o with
 | lst xs=>obtain ⟨_,_,_,_,e⟩:=x;exact Heap.lt_size e
 | tup xs=>obtain ⟨_,_,_,p⟩:=x;exact p.lt
 | dK kvs=>obtain ⟨_,_,_,_,o,_,_,e,_⟩:=x;exact Heap.lt_size e
 | dT kvs=>obtain ⟨_,_,_,_,o,_,_,e,_⟩:=x;exact Heap.lt_size e
 | set S n=>obtain ⟨o,_,_,_,e,_⟩:=x;exact Heap.lt_size e
 | ins C dx fs=>obtain ⟨_,_,_,e,_⟩:=x;exact Heap.lt_size e
 | own y=>obtain ⟨_,e⟩:=x;exact Heap.lt_size e
 | xd fs=>obtain ⟨_,⟨_,_,_,e,_⟩,_⟩:=x;exact Heap.lt_size e
 | rng lo hi=>obtain ⟨_,_,_,e⟩:=x;exact Heap.lt_size e
 | frz ob u=>obtain ⟨e,_⟩:=x;exact Heap.lt_size e
 | tbl ps=>exact Heap.lt_size (show h.get? a=some _ from x)
 | met f y=>exact Heap.lt_size (show h.get? a=some _ from x)
 | ext φ=>obtain ⟨_,⟨_,e⟩,_⟩:=x;exact Heap.lt_size e
theorem Paired.mapP {α β:Type} {F G:α→β→Prop}:∀ {l₁:List α} {l₂:List β},Paired F l₁ l₂→(∀ a b,F a b→G a b)→Paired G l₁ l₂
 | _,_,.nil,_=>.nil
 | _,_,.cons r t,f=>.cons (f _ _ r) (Paired.mapP t f)
theorem ObjOk.stay (x:ObjOk P w H h a o) (k:∀ b u,(b=a∨H b=some (.own a))→h.get? b=some u→h'.get? b=some u)
  (ho:∀ b,H b=some (.own a)→H' b=some (.own a)) (ht:∀ b xs,RdT H b xs→RdT H' b xs):ObjOk P w H' h' a o:=by
 induction o with
 | lst xs=>obtain ⟨z,its,n,r,e⟩:=x;exact ⟨z,its,n,r,k _ _ (.inl rfl) e⟩
 | tup xs=>obtain ⟨⟨z,nd⟩,its,r,ob,e,c⟩:=x;exact ⟨⟨z,fun o q=>by rw [k _ _ (.inl rfl) e] at q;cases q;exact nd _ e⟩,its,r,ob,k _ _ (.inl rfl) e,c⟩
 | dK kvs=>obtain ⟨z,y,vs,r,ob,es,ep,e,c⟩:=x;exact ⟨z,y,vs,r,ob,es,ep,k _ _ (.inl rfl) e,c⟩
 | dT kvs=>
  obtain ⟨z,y,xs,r,ob,es,ep,e,c⟩:=x
  exact ⟨z,y,xs,Paired.mapP r fun p q z=>⟨z.1,ht _ _ z.2.1,z.2.2⟩,ob,es,ep,k _ _ (.inl rfl) e,c⟩
 | set S n=>obtain ⟨ob,es,ep,t,e,c⟩:=x;exact ⟨ob,es,ep,t,k _ _ (.inl rfl) e,c⟩
 | ins C dx fs=>
  obtain ⟨d,z,ne,e,mA,⟨od,es,ep,e2,c⟩,r⟩:=x
  exact ⟨ho _ d,z,ne,k _ _ (.inl rfl) e,mA,⟨od,es,ep,k _ _ (.inr d) e2,c⟩,r⟩
 | own y=>obtain ⟨ob,e⟩:=x;exact ⟨ob,k _ _ (.inl rfl) e⟩
 | xd fs=>obtain ⟨mA,⟨od,es,ep,e,c⟩,r⟩:=x;exact ⟨mA,⟨od,es,ep,k _ _ (.inl rfl) e,c⟩,r⟩
 | rng lo hi=>obtain ⟨t,u,v,e⟩:=x;exact ⟨t,u,v,k _ _ (.inl rfl) e⟩
 | frz ob u ih=>obtain ⟨e,q⟩:=x;exact ⟨k _ _ (.inl rfl) e,ih q⟩
 | tbl ps=>
  have e:h.get? a=some {cls:=.none,data:=.fields ps}:=x
  show h'.get? a=some {cls:=.none,data:=.fields ps}
  exact k a _ (.inl rfl) e
 | met f y=>
  have e:h.get? a=some (PySem.W.methodObj (.ref f) (.ref y)):=x
  show h'.get? a=some (PySem.W.methodObj (.ref f) (.ref y))
  exact k a _ (.inl rfl) e
 | ext φ=>obtain ⟨p,⟨o,e⟩,st⟩:=x;exact ⟨st _ _ p fun o q=>k _ _ (.inl rfl) q,⟨o,k _ _ (.inl rfl) e⟩,st⟩
theorem HOk.lt (x:HOk P w H h) (e:H a=some o):a < h.objs.size:=(x a o e).lt
theorem HOk.fresh (x:HOk P w H h) (e:h.objs.size≤a):H a=none:=by
 cases q:H a with
 | none=>rfl
 | some u=>exact absurd (Nat.lt_of_lt_of_le (x.lt q) e) (Nat.lt_irrefl _)
theorem HOk.kept (x:HOk P w H h) (k:∀ b u,h.get? b=some u→h'.get? b=some u):HOk P w H h':=fun a o e=>
 (x a o e).stay (fun b u _ q=>k b u q) (fun _ q=>q) fun _ _ q=>q
theorem HOk.laid (x:HOk P w H h) (k:∀ b u,h.get? b=some u→h'.get? b=some u) (hp:h.objs.size≤a) (new:ObjOk P w (upd H a o) h' a o):HOk P w (upd H a o) h':=fun b u e=>by
 have hn:=x.fresh hp
 by_cases hb:b=a
 ·subst hb;rw [aA] at e;cases e;exact new
 ·rw [aN hb] at e
  exact (x b u e).stay (fun c v _ q=>k c v q) (fun c q=>by rw [aN (aU q hn)];exact q) fun c xs q=>q.upd fun u hu=>aU hu hn
end
def Rd (H:Hp) (a:Addr) (u:HO):Prop:=H a=some u∨∃ o,H a=some (.frz o u)
theorem Rd.ok {P:Program} {w:World} {H:Hp} {h:Heap} {a:Addr} {u:HO} (r:Rd H a u) (x:HOk P w H h):ObjOk P w H h a u:=by
 rcases r with r | ⟨o,r⟩
 ·exact x a u r
 ·obtain ⟨_,q⟩:=x a _ r
  exact q
def Mut:Option HO→Prop
 | some (.lst _)=>True
 | some (.dK _)=>True
 | some (.dT _)=>True
 | some (.set _ _)=>True
 | some (.ins _ _ _)=>True
 | some (.ext _)=>True
 | _=>False
section
variable {P:Program} {w:World} {H:Hp} {h h':Heap} {x e:Addr} {o':HO}
theorem HOk.write (ok:HOk P w H h) (mu:Mut (H x)) (he:e=x∨H e=some (.own x)) (k:∀ b u,b≠e→h.get? b=some u→h'.get? b=some u) (heo:∃ u,h'.get? e=some u)
  (new:ObjOk P w (upd H x o') h' x o'):HOk P w (upd H x o') h':=fun b u q=>by
 have nown:∀ c y,H c=some (.own y)→c≠x:=fun c y r z=>by subst z;rw [r] at mu;exact mu
 have ntup:∀ c xs,H c=some (.tup xs)→c≠x:=fun c xs r z=>by subst z;rw [r] at mu;exact mu
 by_cases hb:b=x
 ·subst hb;rw [aA] at q;cases q;exact new
 ·rw [aN hb] at q
  by_cases hbe:b=e
  ·have q':H b=some (.own x):=by
    rcases he with z | z
    ·exact absurd (hbe.trans z) hb
    ·rw [hbe];exact z
   rw [q] at q';cases q'
   obtain ⟨v,hv⟩:=heo
   exact ⟨v,by rw [hbe];exact hv⟩
  ·refine (ok b u q).stay (fun c v hc r=>k c v ?_ r) (fun c r=>by rw [aN (nown c b r)];exact r) fun c xs r=>r.upd fun _ _ z=>by
    subst z
    rcases r with r | ⟨_,r⟩<;>(rw [r] at mu;exact mu)
   rcases hc with rfl | hc
   ·exact hbe
   ·rintro rfl
    rcases he with z | z
    ·exact nown c b hc z
    ·rw [hc] at z;cases z;exact hb rfl
end
structure Un (fs ex:List Addr) (H H':Hp) (h h':Heap):Prop where
 keep:∀ b o,h.get? b=some o→H b=none→b ∉ fs→b ∉ ex→h'.get? b=some o
 slot:∀ b o,h.get? b=some o→H b=none→b∈fs→b ∉ ex→∃ sl,h'.get? b=some {o with slots:=sl}
 free:∀ b o,h.get? b=some o→H b=none→b ∉ ex→H' b=none
 there:∀ b o,h.get? b=some o→b ∉ ex→∃ o',h'.get? b=some o'
 tups:∀ b xs,H b=some (.tup xs)→H' b=some (.tup xs)
 frzs:∀ b o u,H b=some (.frz o u)→H' b=some (.frz o u)
 tbls:∀ b ps,H b=some (.tbl ps)→∃ more,H' b=some (.tbl (ps++more))
section
variable {fs fs' ex ex':List Addr} {H H1 H2:Hp} {h h1 h2 h':Heap} {a x e:Addr} {o:HO}
theorem Un.any (u:Un fs ex H H1 h h1) {b:Addr} {ob:Obj} (q:h.get? b=some ob) (n:H b=none) (hx:b ∉ ex):∃ sl,h1.get? b=some {ob with slots:=sl}:=by
 by_cases hb:b∈fs
 ·exact u.slot b ob q n hb hx
 ·exact ⟨ob.slots,u.keep b ob q n hb hx⟩
theorem Un.trans (a:Un fs ex H H1 h h1) (b:Un fs ex H1 H2 h1 h2):Un fs ex H H2 h h2 where
 keep:=fun c ob q n hc hx=>b.keep c ob (a.keep c ob q n hc hx) (a.free c ob q n hx) hc hx
 slot:=fun c ob q n hc hx=>by
  obtain ⟨sl,e1⟩:=a.slot c ob q n hc hx
  obtain ⟨sl',e2⟩:=b.slot c _ e1 (a.free c ob q n hx) hc hx
  exact ⟨sl',e2⟩
 free:=fun c ob q n hx=>by
  obtain ⟨o',e1⟩:=a.there c ob q hx
  exact b.free c o' e1 (a.free c ob q n hx) hx
 there:=fun c ob q hx=>by
  obtain ⟨o',e1⟩:=a.there c ob q hx
  exact b.there c o' e1 hx
 tups:=fun c xs q=>b.tups c xs (a.tups c xs q)
 frzs:=fun c ob xs q=>b.frzs c ob xs (a.frzs c ob xs q)
 tbls:=fun c ps q=>by
  obtain ⟨m1,e1⟩:=a.tbls c ps q
  obtain ⟨m2,e2⟩:=b.tbls c _ e1
  exact ⟨m1++m2,by rw [e2,Array.append_assoc]⟩
theorem Un.kept (k:∀ b u,h.get? b=some u→h'.get? b=some u):Un fs ex H H h h':=
 ⟨fun b ob q _ _ _=>k b ob q,fun b ob q _ _ _=>⟨ob.slots,k b ob q⟩,fun _ _ _ n _=>n,fun b ob q _=>⟨ob,k b ob q⟩,fun _ _ q=>q,fun _ _ _ q=>q,fun _ ps q=>⟨#[],by rw [q];simp⟩⟩
theorem Un.refl:Un fs ex H H h h:=Un.kept fun _ _ q=>q
theorem Un.laid (k:∀ b u,h.get? b=some u→h'.get? b=some u) (hp:h.objs.size≤a) (hn:H a=none):Un fs ex H (upd H a o) h h' where
 keep:=fun b u q _ _ _=>k b u q
 slot:=fun b u q _ _ _=>⟨u.slots,k b u q⟩
 free:=fun b u q n _=>by rw [aN (Nat.ne_of_lt (Nat.lt_of_lt_of_le (Heap.lt_size q) hp))];exact n
 there:=fun b u q _=>⟨u,k b u q⟩
 tups:=fun b xs q=>by rw [aN (aU q hn)];exact q
 frzs:=fun b u xs q=>by rw [aN (aU q hn)];exact q
 tbls:=fun b ps q=>⟨#[],by rw [aN (aU q hn),q];simp⟩
theorem Un.write (mu:Mut (H x)) (he:e=x∨H e=some (.own x)) (k:∀ b u,b≠e→h.get? b=some u→h'.get? b=some u) (heo:∃ u,h'.get? e=some u):Un fs ex H (upd H x o) h h':=by
 have hx:∀ b,H b=none→b≠x:=fun b n z=>by subst z;rw [n] at mu;exact mu
 have hb:∀ b,H b=none→b≠e:=fun b n z=>by
  subst z
  rcases he with r | r
  ·exact hx b n r
  ·rw [n] at r;cases r
 have hm:∀ b u,H b=some u→¬Mut (some u)→b≠x:=fun b u q nm z=>by subst z;rw [q] at mu;exact nm mu
 refine ⟨fun b u q n _ _=>k b u (hb b n) q,fun b u q n _ _=>⟨u.slots,k b u (hb b n) q⟩,fun b u q n _=>by rw [aN (hx b n)];exact n,fun b u q _=>?_,
  fun b xs q=>by rw [aN (hm b _ q fun z=>z)];exact q,fun b u xs q=>by rw [aN (hm b _ q fun z=>z)];exact q,fun b ps q=>⟨#[],by rw [aN (hm b _ q fun z=>z),q];simp⟩⟩
 by_cases hbe:b=e
 ·subst hbe;exact heo
 ·exact ⟨u,k b u hbe q⟩
end
def trk (h:Heap) (H:Hp):List Addr:=(List.range h.objs.size).filter fun a=>(H a).isSome
def hidT (h:Heap) (H:Hp):Heap:=PySem.W.hideAll h (trk h H)
theorem xT (h:Heap) (H:Hp):(hidT h H).objs.size=h.objs.size:=PySem.W.hideAll_size _ _
theorem zJ {h:Heap} {H:Hp} {b:Addr} {o:Obj} (e:h.get? b=some o) (n:H b=none):(hidT h H).get? b=some o:=
 PySem.W.hideAll_get _ e fun hm=>by
  have q:(H b).isSome=true:=(List.mem_filter.mp hm).2
  rw [n] at q;simp at q
theorem a0H {h:Heap} {H:Hp} {b:Addr} {o:Obj} (e:(hidT h H).get? b=some o):h.get? b=some o∧H b=none:=by
 have e':h.get? b=some o:=PySem.W.of_hideAll (trk h H) e
 refine ⟨e',?_⟩
 cases q:H b with
 | none=>rfl
 | some x=>
  have hm:b∈trk h H:=List.mem_filter.mpr ⟨List.mem_range.mpr (Heap.lt_size e'),by simp [q]⟩
  have z:(hidT h H).get? b=none:=PySem.W.hideAll_none (trk h H) hm
  rw [z] at e;cases e
end L2
namespace L2
open PySem PySem.Spec PyProof.Rows
structure Mod (K:PySem.W.Frag) (mg:Str→Option Value) (base:Heap):Prop where
 kin:K.In base
 glob:base.Ns mainGlobals mg
 blt:∃ mb,base.Ns builtinsNs mb∧∀ x:Str,x≠"__name__"→mb x=bootBuiltins x
 nolimit:base.NoLimit
structure Cx where
 prog:Program
 w:World
 K:PySem.W.Frag
 mg:Str→Option Value
 base:Heap
 A:Around
 N:List Str
 s₀:Shared
 H₀:Hp
 env:Env
 outer:List Env
 stack:List Env
 ex:List Addr
 fn:Str→Bool
 calm:Bool
 pn:List (Addr×Obj)
 xe:Value→Shared→Prop
def frs (l:List Env):List Addr:=l.filterMap (·.frame)
abbrev Cx.fs (X:Cx):List Addr:=frs X.outer
def Vis (sc:Scope) (x:Str):Prop:=sc.names.lookup x=some .local∨sc.names.lookup x=some .cell∨sc.names.lookup x=some .free
def Loc (sc:Scope) (x:Str):Prop:=sc.names.lookup x=some .local∨sc.names.lookup x=some .cell
def Look (env:Env) (h:Heap) (m:Str→Option Value) (x:Str) (u:Value):Prop:=
 (env.kindOf x=some .local∧m x=some u)∨((env.kindOf x=some .cell∨env.kindOf x=some .free)∧∃ c,env.cells.lookup x=some c∧h.IsCell c (some u))
structure Cx.Ok (X:Cx):Prop where
 mod:Mod X.K X.mg X.base
 kind:X.env.scope.kind=.function
 glob:X.env.globals=mainGlobals
 blt:X.env.builtins=builtinsNs
 above:X.s₀.heap.objs.size≤X.env.locals
 inj:∀ x y c,X.env.cells.lookup x=some c→X.env.cells.lookup y=some c→x=y
 has:∀ x,(X.env.kindOf x=some .cell∨X.env.kindOf x=some .free)→∃ c,X.env.cells.lookup x=some c
 cab:∀ x c,X.fn x=true→X.env.cells.lookup x=some c→X.s₀.heap.objs.size≤c
 hd:X.calm=true→X.A.handled=none
 frames:X.A.frames=some X.stack
 stk:X.stack=X.outer∨(X.stack=X.env::X.outer∧X.env.frame=some X.env.locals)
 exf:∀ b∈X.ex,b≠X.env.locals∧∀ x c,X.env.cells.lookup x=some c→c≠b
 bs:∀ b o,X.base.get? b=some o→X.s₀.heap.get? b=some o∧X.H₀ b=none
 bsz:X.base.objs.size≤X.s₀.heap.objs.size
 noex:∀ b o,X.base.get? b=some o→b ∉ X.ex
 exfs:∀ b∈X.ex,b ∉ X.fs
 funs:X.s₀.heap.FunFrames X.base X.outer
 frf:∀ b∈X.fs,X.H₀ b=none
structure Inv (X:Cx) (pins:List (Addr×Obj)) (σ:List (Option V)) (H:Hp) (s:Shared):Prop where
 ok:X.Ok
 os:s.os=X.s₀.os
 bare:AllBare s.gens
 base:Un X.fs X.ex X.H₀ H X.s₀.heap s.heap
 loc:∃ m,s.heap.Ns X.env.locals m∧∀ (i:Nat) (x:Str) (v:V),X.N[i]? =some x→σ[i]? =some (some v)→Vis X.env.scope x→∃ u,RelV v u∧Look X.env s.heap m x u
 cell:∀ x c,X.env.cells.lookup x=some c→∃ v,s.heap.IsCell c v
 free:H X.env.locals=none
 freeC:∀ x c,X.env.cells.lookup x=some c→H c=none
 pin:∀ p∈X.pn++pins,s.heap.get? p.1=some p.2∧H p.1=none∧p.1≠X.env.locals∧p.1 ∉ X.fs∧∀ v,p.2.data≠.cell v
 hok:HOk X.prog X.w H s.heap
 len:σ.length=X.N.length
section
variable {X:Cx} {pins:List (Addr×Obj)} {σ:List (Option V)} {H H':Hp} {s:Shared} {h':Heap}
theorem Cx.Ok.nofr (ok:X.Ok) {b:Addr} {o:Obj} (e:X.base.get? b=some o):b ∉ X.fs:=fun hb=>by
 have:=(ok.funs.mem hb).1
 rw [e] at this;cases this
theorem Inv.bs (I:Inv X pins σ H s):∀ b o,X.base.get? b=some o→s.heap.get? b=some o∧H b=none:=fun b o e=>
 ⟨I.base.keep b o (I.ok.bs b o e).1 (I.ok.bs b o e).2 (I.ok.nofr e) (I.ok.noex b o e),I.base.free b o (I.ok.bs b o e).1 (I.ok.bs b o e).2 (I.ok.noex b o e)⟩
theorem Inv.bk (I:Inv X pins σ H s):∀ b o,X.base.get? b=some o→s.heap.get? b=some o:=fun b o e=>(I.bs b o e).1
theorem Inv.mod (I:Inv X pins σ H s):Mod X.K X.mg X.base:=I.ok.mod
theorem Inv.kIn (I:Inv X pins σ H s):X.K.In s.heap:=I.ok.mod.kin.keeps I.bk
theorem Inv.lt (I:Inv X pins σ H s):X.env.locals < s.heap.objs.size:=let ⟨_,hn,_⟩:=I.loc;hn.lt
theorem Inv.sz (I:Inv X pins σ H s):X.s₀.heap.objs.size≤s.heap.objs.size:=Nat.le_trans I.ok.above (Nat.le_of_lt I.lt)
theorem Inv.nofs (I:Inv X pins σ H s) {a:Addr} (h:s.heap.objs.size≤a):a ∉ X.fs:=fun hb=>by
 obtain ⟨_,o,ho,_⟩:=I.ok.funs.mem hb
 exact absurd (Nat.lt_of_lt_of_le (Heap.lt_size ho) (Nat.le_trans I.sz h)) (Nat.lt_irrefl _)
theorem Inv.cne (I:Inv X pins σ H s):∀ x c,X.env.cells.lookup x=some c→c≠X.env.locals:=fun x c e z=>by
 obtain ⟨v,o,ho,hd⟩:=I.cell x c e
 obtain ⟨m,⟨o',es,ep,ho',hd',_⟩,_⟩:=I.loc
 rw [z,ho'] at ho;cases ho;rw [hd'] at hd;cases hd
theorem Inv.funs (I:Inv X pins σ H s):s.heap.FunFrames X.base X.outer:=by
 have all:∀ (l:List Env),(∀ b∈frs l,b∈X.fs)→X.s₀.heap.FunFrames X.base l→s.heap.FunFrames X.base l:=by
  intro l
  induction l with
  | nil=>intro _ _;trivial
  | cons env r ih=>
   intro hs hl
   obtain ⟨hk,⟨L,o,hf,hn,ho,hd⟩,hr⟩:=hl
   have hL:L∈X.fs:=hs L (by unfold frs;rw [List.filterMap_cons,hf];exact List.mem_cons_self)
   obtain ⟨sl,e⟩:=I.base.slot L o ho (I.ok.frf L hL) hL fun z=>I.ok.exfs L z hL
   exact ⟨hk,⟨L,_,hf,hn,e,hd⟩,ih (fun b hb=>hs b (by unfold frs;rw [List.filterMap_cons,hf];exact List.mem_cons_of_mem _ hb)) hr⟩
 exact all X.outer (fun _ hb=>hb) I.ok.funs
theorem Inv.stack (I:Inv X pins σ H s):s.heap.FunFrames X.base X.stack:=by
 rcases I.ok.stk with e | ⟨e,hf⟩
 ·rw [e];exact I.funs
 ·rw [e]
  obtain ⟨m,hn,_⟩:=I.loc
  refine .cons (by rw [I.ok.kind];decide) hf hn ?_ I.funs
  exact Heap.get?_none_of_le (Nat.le_trans I.ok.bsz I.ok.above)
theorem Inv.stkSub (I:Inv X pins σ H s):∀ b∈frs X.stack,b∈X.env.locals::X.fs:=fun b hb=>by
 rcases I.ok.stk with e | ⟨e,hf⟩
 ·rw [e] at hb;exact List.mem_cons_of_mem _ hb
 ·rw [e] at hb
  unfold frs at hb
  rw [List.filterMap_cons,hf] at hb
  exact hb
theorem Inv.stkFree (I:Inv X pins σ H s):∀ b∈frs X.stack,H b=none:=fun b hb=>by
 rcases List.mem_cons.mp (I.stkSub b hb) with e | hb
 ·rw [e];exact I.free
 ·obtain ⟨_,o,ho,_⟩:=I.ok.funs.mem hb
  exact I.base.free b o ho (I.ok.frf b hb) fun z=>I.ok.exfs b z hb
theorem Inv.step {g':Array GenState} {t':Nat} {d':Drawn} {ch:List Addr} (I:Inv X pins σ H s)
  (hch:∀ b∈ch,(b∈X.ex∨X.s₀.heap.objs.size≤b)∧b≠X.env.locals∧(∀ x c,X.env.cells.lookup x=some c→c≠b)∧∀ p∈X.pn++pins,p.1≠b)
  (keep:∀ b o,b≠X.env.locals→b ∉ X.fs→b ∉ ch→s.heap.get? b=some o→H b=none→h'.get? b=some o)
  (slot:∀ b o,b≠X.env.locals→b∈X.fs→b ∉ ch→s.heap.get? b=some o→H b=none→∃ sl,h'.get? b=some {o with slots:=sl}) (free:∀ b o,b ∉ ch→s.heap.get? b=some o→H b=none→H' b=none)
  (there:∀ b o,b ∉ ch→s.heap.get? b=some o→∃ o',h'.get? b=some o')
  (tups:∀ b xs,H b=some (.tup xs)→H' b=some (.tup xs)) (frzs:∀ b o u,H b=some (.frz o u)→H' b=some (.frz o u)) (tbls:∀ b ps,H b=some (.tbl ps)→∃ more,H' b=some (.tbl (ps++more)))
  (ns:∀ m,s.heap.Ns X.env.locals m→h'.Ns X.env.locals m) (hok:HOk X.prog X.w H' h') (hg:AllBare g'):
  Inv X pins σ H' {s with heap:=h',gens:=g',drawn:=d',toks:=t'}:=by
 have neL:∀ b o,X.s₀.heap.get? b=some o→b≠X.env.locals:=fun b o e=>Nat.ne_of_lt (Nat.lt_of_lt_of_le (Heap.lt_size e) I.ok.above)
 have neC:∀ b o,X.s₀.heap.get? b=some o→b ∉ X.ex→b ∉ ch:=fun b o e hx hb=>by
  rcases (hch b hb).1 with z | z
  ·exact hx z
  ·exact absurd (Nat.lt_of_lt_of_le (Heap.lt_size e) z) (Nat.lt_irrefl _)
 have cellK:∀ x c,X.env.cells.lookup x=some c→∀ v,s.heap.IsCell c v→h'.IsCell c v:=fun x c e v ⟨o,ho,hd⟩=>by
  have nch:c ∉ ch:=fun z=>(hch c z).2.2.1 x c e rfl
  by_cases hc:c∈X.fs
  ·obtain ⟨sl,q⟩:=slot c o (I.cne x c e) hc nch ho (I.freeC x c e)
   exact ⟨_,q,hd⟩
  ·exact ⟨o,keep c o (I.cne x c e) hc nch ho (I.freeC x c e),hd⟩
 refine ⟨I.ok,I.os,hg,⟨fun b o e n hb hx=>?_,fun b o e n hb hx=>?_,fun b o e n hx=>?_,fun b o e hx=>?_,fun b xs e=>tups b xs (I.base.tups b xs e),fun b o xs e=>frzs b o xs (I.base.frzs b o xs e),fun b ps e=>?_⟩,?_,fun x c e=>?_,?_,fun x c e=>?_,fun p hp=>?_,hok,I.len⟩
 ·exact keep b o (neL b o e) hb (neC b o e hx) (I.base.keep b o e n hb hx) (I.base.free b o e n hx)
 ·obtain ⟨sl,e1⟩:=I.base.slot b o e n hb hx
  obtain ⟨sl',e2⟩:=slot b _ (neL b o e) hb (neC b o e hx) e1 (I.base.free b o e n hx)
  exact ⟨sl',e2⟩
 ·obtain ⟨o',e1⟩:=I.base.there b o e hx
  exact free b o' (neC b o e hx) e1 (I.base.free b o e n hx)
 ·obtain ⟨o',e1⟩:=I.base.there b o e hx
  exact there b o' (neC b o e hx) e1
 ·obtain ⟨m1,e1⟩:=I.base.tbls b ps e
  obtain ⟨m2,e2⟩:=tbls b _ e1
  exact ⟨m1++m2,by rw [e2,Array.append_assoc]⟩
 ·obtain ⟨m,hn,hl⟩:=I.loc
  refine ⟨m,ns m hn,fun i x v e1 e2 e3=>?_⟩
  obtain ⟨u,r,l⟩:=hl i x v e1 e2 e3
  refine ⟨u,r,?_⟩
  rcases l with l | ⟨k,c,e,z⟩
  ·exact .inl l
  ·exact .inr ⟨k,c,e,cellK x c e _ z⟩
 ·obtain ⟨v,z⟩:=I.cell x c e
  exact ⟨v,cellK x c e v z⟩
 ·obtain ⟨m,⟨o,_,_,ho,_⟩,_⟩:=I.loc
  exact free _ o (fun z=>(hch _ z).2.1 rfl) ho I.free
 ·obtain ⟨v,o,ho,hd⟩:=I.cell x c e
  exact free c o (fun z=>(hch c z).2.2.1 x c e rfl) ho (I.freeC x c e)
 ·obtain ⟨e,n,ne,nf,d⟩:=I.pin p hp
  have nch:p.1 ∉ ch:=fun z=>(hch p.1 z).2.2.2 p hp rfl
  exact ⟨keep p.1 p.2 ne nf nch e n,free p.1 p.2 nch e n,ne,nf,d⟩
theorem Inv.un {t':Nat} (I:Inv X pins σ H s) (u:Un X.fs [] H H' s.heap h') (hok:HOk X.prog X.w H' h'):Inv X pins σ H' {s with heap:=h',toks:=t'}:=by
 obtain ⟨m,⟨o,es,ep,ho,r⟩,_⟩:=id I.loc
 obtain ⟨sl,hL⟩:=u.any ho I.free (by simp)
 exact I.step (g':=s.gens) (d':=s.drawn) (ch:=[]) (fun _ z=>nomatch z) (fun b o _ hb _ e n=>u.keep b o e n hb (by simp)) (fun b o _ hb _ e n=>u.slot b o e n hb (by simp)) (fun b o _ e n=>u.free b o e n (by simp)) (fun b o _ e=>u.there b o e (by simp)) u.tups u.frzs u.tbls (fun m' hm=>by
  obtain ⟨o',es',ep',ho',r'⟩:=hm
  rw [ho] at ho';cases ho'
  exact ⟨_,es',ep',hL,r'⟩) hok I.bare
theorem Inv.call {g':Array GenState} {t':Nat} {d':Drawn} {ch:List Addr} (I:Inv X pins σ H s) (u:Un (frs X.stack) ch H H' s.heap h') (hok:HOk X.prog X.w H' h') (hg:AllBare g')
  (hch:∀ b∈ch,(b∈X.ex∨X.s₀.heap.objs.size≤b)∧b≠X.env.locals∧(∀ x c,X.env.cells.lookup x=some c→c≠b)∧∀ p∈X.pn++pins,p.1≠b):
  Inv X pins σ H' {s with heap:=h',gens:=g',drawn:=d',toks:=t'}:=by
 obtain ⟨m,⟨o,es,ep,ho,r⟩,_⟩:=id I.loc
 obtain ⟨sl,hL⟩:=u.any ho I.free fun z=>(hch _ z).2.1 rfl
 exact I.step (ch:=ch) hch (fun b o hL hb hc e n=>u.keep b o e n (fun z=>(List.mem_cons.mp (I.stkSub b z)).elim hL hb) hc) (fun b o _ _ hc e n=>u.any e n hc) (fun b o hc e n=>u.free b o e n hc) (fun b o hc e=>u.there b o e hc) u.tups u.frzs u.tbls (fun m' hm=>by
  obtain ⟨o',es',ep',ho',r'⟩:=hm
  rw [ho] at ho';cases ho'
  exact ⟨_,es',ep',hL,r'⟩) hok hg
theorem Inv.turned {t':Nat} {it:Addr} (I:Inv X pins σ H s) (k:∀ b o,b≠it→s.heap.get? b=some o→h'.get? b=some o) (hn:H it=none) (hL:it≠X.env.locals)
  (h1:it∈X.ex∨X.s₀.heap.objs.size≤it) (h2:∀ x c,X.env.cells.lookup x=some c→c≠it) (h3:∀ p∈X.pn++pins,p.1≠it):Inv X pins σ H {s with heap:=h',toks:=t'}:=by
 have nit:∀ b u,H b=some u→b≠it:=fun b u e z=>by rw [z,hn] at e;cases e
 refine I.step (g':=s.gens) (d':=s.drawn) (ch:=[it]) (fun b hb=>?_) (fun b o _ _ hc e _=>k b o (fun z=>hc (by simp [z])) e) (fun b o _ _ hc e _=>⟨o.slots,k b o (fun z=>hc (by simp [z])) e⟩) (fun _ _ _ _ n=>n)
  (fun b o hc e=>⟨o,k b o (fun z=>hc (by simp [z])) e⟩) (fun _ _ e=>e) (fun _ _ _ e=>e) (fun b ps e=>⟨#[],by rw [e];simp⟩) (fun m hm=>?_) (fun b u e=>?_) I.bare
 ·have e:b=it:=by simpa using hb
  subst e
  exact ⟨h1,hL,h2,h3⟩
 ·obtain ⟨o,es,ep,ho,r⟩:=hm
  exact ⟨o,es,ep,k _ o (Ne.symm hL) ho,r⟩
 ·refine (I.hok b u e).stay (fun c v hc q=>k c v ?_ q) (fun _ q=>q) fun _ _ q=>q
  rcases hc with z | z
  ·rw [z];exact nit b u e
  ·exact nit c _ z
theorem Inv.tok (I:Inv X pins σ H s) (t:Nat):Inv X pins σ H {s with toks:=t}:=I.un (h':=s.heap) (t':=t) Un.refl I.hok
theorem Inv.kept {t':Nat} (I:Inv X pins σ H s) (k:∀ b u,s.heap.get? b=some u→h'.get? b=some u):Inv X pins σ H {s with heap:=h',toks:=t'}:=I.un (Un.kept k) (I.hok.kept k)
theorem Inv.laid {a:Addr} {o:HO} {t':Nat} (I:Inv X pins σ H s) (k:∀ b u,s.heap.get? b=some u→h'.get? b=some u) (hp:s.heap.objs.size≤a) (new:ObjOk X.prog X.w (upd H a o) h' a o):
  Inv X pins σ (upd H a o) {s with heap:=h',toks:=t'}:=I.un (Un.laid k hp (I.hok.fresh hp)) (I.hok.laid k hp new)
theorem Inv.write {x e:Addr} {o:HO} {t':Nat} (I:Inv X pins σ H s) (mu:Mut (H x)) (he:e=x∨H e=some (.own x)) (k:∀ b u,b≠e→s.heap.get? b=some u→h'.get? b=some u) (heo:∃ u,h'.get? e=some u)
  (new:ObjOk X.prog X.w (upd H x o) h' x o):Inv X pins σ (upd H x o) {s with heap:=h',toks:=t'}:=I.un (Un.write mu he k heo) (I.hok.write mu he k heo new)
theorem Inv.pins_of {pins':List (Addr×Obj)} (I:Inv X pins σ H s) (h:∀ p∈pins',s.heap.get? p.1=some p.2∧H p.1=none∧p.1≠X.env.locals∧p.1 ∉ X.fs∧∀ v,p.2.data≠.cell v):Inv X pins' σ H s:=
 ⟨I.ok,I.os,I.bare,I.base,I.loc,I.cell,I.free,I.freeC,fun p hp=>(List.mem_append.mp hp).elim (fun z=>I.pin p (List.mem_append_left _ z)) (h p),I.hok,I.len⟩
theorem tJ {N:List Str} (hN:N.Nodup) {i j:Nat} {x:Str} (a:N[i]? =some x) (b:N[j]? =some x):i=j:=by
 obtain ⟨h1,e1⟩:=List.getElem?_eq_some_iff.mp a
 obtain ⟨h2,e2⟩:=List.getElem?_eq_some_iff.mp b
 exact (List.getElem_inj hN).mp (e1.trans e2.symm)
theorem pZ {M:Model} {A:Around} {E:Value→Shared→Prop} {i:Nat} {x:Str} {v:V} {u:Value} {Q:Unit→Shared→Prop} (I:Inv X pins σ H s) (hN:X.N.Nodup) (hi:X.N[i]? =some x) (hx:Loc X.env.scope x) (r:RelV v u)
  (h:∀ s',Inv X pins (σ.set i (some v)) H s'→(∃ a,Heap.SameBut a s.heap s'.heap∧(a=X.env.locals∨X.env.cells.lookup x=some a))→Q () s') (hf:X.fn x=true∨X.env.scope.names.lookup x=some .local:=by first | exact .inl rfl | exact .inr rfl | assumption):wpAny M A (storeName X.env x u) Q E s:=by
 obtain ⟨m,hn,hl⟩:=id I.loc
 have hcls:(X.env.scope.kind==.class||(X.env.scope.kind==.module&&X.env.locals !=X.env.globals))=false:=by rw [I.ok.kind];rfl
 have hiσ:i < σ.length:=by rw [I.len];exact (List.getElem?_eq_some_iff.mp hi).1
 have cne:=I.cne
 have tracked:∀ {a:Addr} {h':Heap},(∃ o,s.heap.get? a=some o∧H a=none)→Heap.SameBut a s.heap h'→HOk X.prog X.w H h':=fun {a h'} ha hs b ob e=>by
  obtain ⟨_,_,hfree⟩:=ha
  refine (I.hok b ob e).stay (fun c w' hc q=>(hs.2 c ?_).trans q) (fun _ q=>q) fun _ _ q=>q
  rintro rfl
  rcases hc with rfl | hc
  ·rw [hfree] at e;cases e
  ·rw [hfree] at hc;cases hc
 rcases hx with hk | hk
 ·refine wpAny_storeName_local hk hn (fun h' hn' hs=>?_) hcls
  obtain ⟨oL,_,_,hoL,_⟩:=id hn
  refine h _ ⟨I.ok,I.os,I.bare,⟨fun b o e n hb hx=>?_,fun b o e n hb hx=>?_,I.base.free,fun b o e hx=>?_,I.base.tups,I.base.frzs,I.base.tbls⟩,⟨_,hn',fun j y v' e1 e2 e3=>?_⟩,fun y c e=>?_,I.free,I.freeC,fun p hp=>?_,tracked ⟨oL,hoL,I.free⟩ hs,by simpa using I.len⟩ ⟨_,hs,.inl rfl⟩
  ·exact (hs.2 b (Nat.ne_of_lt (Nat.lt_of_lt_of_le (Heap.lt_size e) I.ok.above))).trans (I.base.keep b o e n hb hx)
  ·obtain ⟨sl,e1⟩:=I.base.slot b o e n hb hx
   exact ⟨sl,(hs.2 b (Nat.ne_of_lt (Nat.lt_of_lt_of_le (Heap.lt_size e) I.ok.above))).trans e1⟩
  ·obtain ⟨o',e1⟩:=I.base.there b o e hx
   exact ⟨o',(hs.2 b (Nat.ne_of_lt (Nat.lt_of_lt_of_le (Heap.lt_size e) I.ok.above))).trans e1⟩
  ·by_cases hj:j=i
   ·subst hj
    rw [hi] at e1;cases e1
    rw [List.getElem?_set_self hiσ] at e2
    cases e2
    exact ⟨u,r,.inl ⟨hk,by simp⟩⟩
   ·rw [List.getElem?_set_ne (Ne.symm hj)] at e2
    obtain ⟨u',r',q⟩:=hl j y v' e1 e2 e3
    refine ⟨u',r',?_⟩
    rcases q with ⟨k,e⟩ | ⟨k,c,e,z⟩
    ·refine .inl ⟨k,?_⟩
     have:y≠x:=fun e=>hj (tJ hN e1 (e▸hi))
     simp [this,e]
    ·exact .inr ⟨k,c,e,z.sameBut hs (cne y c e)⟩
  ·obtain ⟨w',z⟩:=I.cell y c e
   exact ⟨w',z.sameBut hs (cne y c e)⟩
  ·obtain ⟨e,n,ne,nf,d⟩:=I.pin p hp
   exact ⟨(hs.2 p.1 ne).trans e,n,ne,nf,d⟩
 ·have hfn:X.fn x=true:=by
   rcases hf with z | z
   ·exact z
   ·rw [z] at hk;cases hk
  obtain ⟨c,hc⟩:=I.ok.has x (.inl hk)
  obtain ⟨w',z⟩:=I.cell x c hc
  refine wpAny_storeName_cell I.ok.kind hk hc z (fun h' hc' hs=>?_)
  obtain ⟨oc,hoc,hocd⟩:=id z
  refine h {s with heap:=h'} ⟨I.ok,I.os,I.bare,⟨fun b o e n hb hx=>?_,fun b o e n hb hx=>?_,I.base.free,fun b o e hx=>?_,I.base.tups,I.base.frzs,I.base.tbls⟩,⟨m,hn.sameBut hs (Ne.symm (cne x c hc)),fun j y v' e1 e2 e3=>?_⟩,fun y c' e=>?_,I.free,I.freeC,fun p hp=>?_,tracked ⟨oc,hoc,I.freeC x c hc⟩ hs,by simpa using I.len⟩ ⟨c,hs,.inr hc⟩
  ·exact (hs.2 b (Nat.ne_of_lt (Nat.lt_of_lt_of_le (Heap.lt_size e) (I.ok.cab x c hfn hc)))).trans (I.base.keep b o e n hb hx)
  ·obtain ⟨sl,e1⟩:=I.base.slot b o e n hb hx
   exact ⟨sl,(hs.2 b (Nat.ne_of_lt (Nat.lt_of_lt_of_le (Heap.lt_size e) (I.ok.cab x c hfn hc)))).trans e1⟩
  ·obtain ⟨o',e1⟩:=I.base.there b o e hx
   exact ⟨o',(hs.2 b (Nat.ne_of_lt (Nat.lt_of_lt_of_le (Heap.lt_size e) (I.ok.cab x c hfn hc)))).trans e1⟩
  ·by_cases hj:j=i
   ·subst hj
    rw [hi] at e1;cases e1
    rw [List.getElem?_set_self hiσ] at e2
    cases e2
    exact ⟨u,r,.inr ⟨.inl hk,c,hc,hc'⟩⟩
   ·rw [List.getElem?_set_ne (Ne.symm hj)] at e2
    obtain ⟨u',r',q⟩:=hl j y v' e1 e2 e3
    refine ⟨u',r',?_⟩
    rcases q with q | ⟨k,c',e,z'⟩
    ·exact .inl q
    ·refine .inr ⟨k,c',e,z'.sameBut hs ?_⟩
     rintro rfl
     exact hj (tJ hN e1 (I.ok.inj _ _ _ e hc▸hi))
  ·by_cases hcc:c'=c
   ·subst hcc;exact ⟨_,hc'⟩
   ·obtain ⟨w2,z2⟩:=I.cell y c' e
    exact ⟨w2,z2.sameBut hs hcc⟩
  ·obtain ⟨e,n,ne,nf,d⟩:=I.pin p hp
   refine ⟨(hs.2 p.1 ?_).trans e,n,ne,nf,d⟩
   intro q
   rw [q,hoc] at e
   have q':oc=p.2:=Option.some.inj e
   exact d w' (by rw [← q'];exact hocd)
theorem oH {M:Model} {A:Around} {E:Value→Shared→Prop} {i:Nat} {x:Str} {v:V} {u:Value} {Q:Unit→Shared→Prop} (I:Inv X pins σ H s) (hN:X.N.Nodup) (hi:X.N[i]? =some x) (hx:Loc X.env.scope x) (r:RelV v u)
  (h:∀ s',Inv X pins (σ.set i (some v)) H s'→Q () s') (hf:X.fn x=true∨X.env.scope.names.lookup x=some .local:=by first | exact .inl rfl | exact .inr rfl | assumption):wpAny M A (storeName X.env x u) Q E s:=
 pZ I hN hi hx r (fun s' I' _=>h s' I') hf
theorem Inv.call' {s':Shared} {ch:List Addr} (I:Inv X pins σ H s) (ho:s'.os=s.os) (u:Un (frs X.stack) ch H H' s.heap s'.heap) (hok:HOk X.prog X.w H' s'.heap) (hg:AllBare s'.gens)
  (hch:∀ b∈ch,(b∈X.ex∨X.s₀.heap.objs.size≤b)∧b≠X.env.locals∧(∀ x c,X.env.cells.lookup x=some c→c≠b)∧∀ p∈X.pn++pins,p.1≠b):Inv X pins σ H' s':=by
 obtain ⟨h',g',d',t',o'⟩:=s'
 have e:o'=s.os:=ho
 subst e
 exact I.call (g':=g') (t':=t') (d':=d') u hok hg hch
end
abbrev XK:=Value→Option Addr→Hp→Prop
abbrev St:=List (Option V)
abbrev VK:=V→Hp→Prop
abbrev TE:=St→Hp→VK→Prop
abbrev TT:=St→Hp→(Bool→Hp→Prop)→Prop
abbrev TA:=St→Hp→(List V→Hp→Prop)→Prop
structure Ends where
 nx:St→Hp→Prop
 rt:VK
 bk:St→Hp→Prop:=fun _ _=>False
 ct:St→Hp→Prop:=fun _ _=>False
abbrev TS:=Ends→St→Hp→Prop
def EP (X:Cx) (pins:List (Addr×Obj)) (σ:St) (Q:VK) (u:Value) (s':Shared):Prop:=∃ v H',Inv X pins σ H' s'∧RelV v u∧Q v H'
def TP (X:Cx) (pins:List (Addr×Obj)) (σ:St) (Q:Bool→Hp→Prop) (b:Bool) (s':Shared):Prop:=∃ H',Inv X pins σ H' s'∧Q b H'
def AP (X:Cx) (pins:List (Addr×Obj)) (σ:St) (Q:List V→Hp→Prop) (us:List Value) (s':Shared):Prop:=∃ vs H',Inv X pins σ H' s'∧Vals vs us∧Q vs H'
def SP (X:Cx) (pins:List (Addr×Obj)) (D:Ends) (f:Flow) (s':Shared):Prop:=
 match f with
 | .next=>∃ σ' H',Inv X pins σ' H' s'∧D.nx σ' H'
 | .brk=>∃ σ' H',Inv X pins σ' H' s'∧D.bk σ' H'
 | .cont=>∃ σ' H',Inv X pins σ' H' s'∧D.ct σ' H'
 | .ret u=>∃ v σ' H',Inv X pins σ' H' s'∧RelV v u∧D.rt v H'
def PE (X:Cx) (e:Expr) (t:TE):Prop:=
 ∀ (pins:List (Addr×Obj)) (s:Shared) (σ:St) (H:Hp) (Q:VK),Inv X pins σ H s→t σ H Q→wpAny (model X.prog X.w) X.A (eval e X.env) (EP X pins σ Q) X.xe s
def PT (X:Cx) (e:Expr) (t:TT):Prop:=
 ∀ (pins:List (Addr×Obj)) (s:Shared) (σ:St) (H:Hp) (Q:Bool→Hp→Prop),Inv X pins σ H s→t σ H Q→wpAny (model X.prog X.w) X.A (isTrue e X.env (eval e X.env)) (TP X pins σ Q) X.xe s
def PW (X:Cx) (e:Expr) (t:TT):Prop:=
 ∀ (whole:Sem Value) (pins:List (Addr×Obj)) (s:Shared) (σ:St) (H:Hp) (Q:Bool→Hp→Prop),Inv X pins σ H s→t σ H Q→wpAny (model X.prog X.w) X.A (isTrue e X.env whole) (TP X pins σ Q) X.xe s
theorem PW.pt {X:Cx} {e:Expr} {t:TT} (h:PW X e t):PT X e t:=h _
def PA (X:Cx) (es:List Expr) (t:TA):Prop:=
 ∀ (pos:Pos) (pins:List (Addr×Obj)) (s:Shared) (σ:St) (H:Hp) (Q:List V→Hp→Prop),Inv X pins σ H s→t σ H Q→wpAny (model X.prog X.w) X.A (spliced (backTo pos (starEach es X.env))) (AP X pins σ Q) X.xe s
def PS (X:Cx) (st:Stmt) (t:TS):Prop:=
 ∀ (pins:List (Addr×Obj)) (s:Shared) (σ:St) (H:Hp) (D:Ends),Inv X pins σ H s→t D σ H→wpAny (model X.prog X.w) X.A (exec st X.env) (SP X pins D) X.xe s
def PSs (X:Cx) (st:List Stmt) (t:TS):Prop:=
 ∀ (pins:List (Addr×Obj)) (s:Shared) (σ:St) (H:Hp) (D:Ends),Inv X pins σ H s→t D σ H→wpAny (model X.prog X.w) X.A (execs st X.env) (SP X pins D) X.xe s
theorem thn {α:Type} {t:Sem α} {Q Q':α→Shared→Prop} {M:Model} {A:Around} {E:Value→Shared→Prop} {s:Shared} (h:wpAny M A t Q E s) (hQ:∀ a s,Q a s→Q' a s):wpAny M A t Q' E s:=wpAny_mono h hQ fun _ _ x=>x
end L2
namespace L2
open PySem PySem.Spec PyProof.Rows
section
variable {X:Cx}
def tVar (i:Nat):TE:=fun σ H Q=>∃ v,σ[i]? =some (some v)∧Q v H
def tC (v:V):TE:=fun _ H Q=>Q v H
theorem a1J {i:Nat} {x:Str} {pos:Pos} (hN:X.N[i]? =some x) (hv:Vis X.env.scope x) (hd:(x==("__debug__":Str))=false:=by decide) (hcd:(x==("__classdict__":Str))=false:=by decide):PE X (.Name x pos) (tVar i):=by
 intro pins s σ H Q I h
 obtain ⟨v,e,h⟩:=h
 obtain ⟨m,hn,hl⟩:=I.loc
 obtain ⟨u,r,l⟩:=hl i x v hN e hv
 have fin:EP X pins σ Q u s:=⟨v,H,I,r,h⟩
 rcases l with ⟨hk,hm⟩ | ⟨hk,c,hc,hcell⟩
 ·exact wpAny_Name (wpAny_loadName_local I.ok.kind hk hn hm fin) hd
 ·rcases hk with hk | hk
  ·exact wpAny_Name (wpAny_loadName_cell I.ok.kind hk hc hcell fin) hd
  ·exact wpAny_Name (wpAny_loadName_free I.ok.kind hk hc hcell fin hcd) hd
theorem a2W {i j pos}:PE X (.Constant (.int i) j pos) (tC (.int i)):=fun _ _ _ H _ I h=>wpAny_Constant_int ⟨.int i,H,I.tok _,⟨_,rfl⟩,h⟩
theorem a2p {b j pos}:PE X (.Constant (.bool b) j pos) (tC (.bl b)):=fun _ _ _ H _ I h=>Constant_bool ⟨.bl b,H,I,rfl,h⟩
theorem a1V {j pos}:PE X (.Constant .none j pos) (tC .non):=fun _ _ _ H _ I h=>Constant_none ⟨.non,H,I,rfl,h⟩
theorem a2I {x j pos}:PE X (.Constant (.str x) j pos) (tC (.str x)):=fun _ _ _ H _ I h=>Calls.Constant_str ⟨.str x,H,I.tok _,⟨_,rfl⟩,h⟩
def Gl (X:Cx) (x:Str):Prop:=X.env.kindOf x=some .globalImplicit
theorem rK {E:Value→Shared→Prop} {pins:List (Addr×Obj)} {s:Shared} {σ:St} {H:Hp} {x:Str} {u:Value} {pos:Pos} {Q:Value→Shared→Prop} (I:Inv X pins σ H s) (hg:Gl X x) (hm:X.mg x=some u) (h:Q u s)
  (hd:(x==("__debug__":Str))=false:=by decide):wpAny (model X.prog X.w) X.A (eval (.Name x pos) X.env) Q E s:=
 Calls.Name_function_global I.ok.kind hg (Calls.loadGlobal_global (by rw [I.ok.glob];exact I.mod.glob.keeps I.bk) hm h) hd
theorem jC {E:Value→Shared→Prop} {pins:List (Addr×Obj)} {s:Shared} {σ:St} {H:Hp} {x:Str} {u:Value} {pos:Pos} {Q:Value→Shared→Prop} (I:Inv X pins σ H s) (hg:Gl X x) (hm:X.mg x=none) (hv:bootBuiltins x=some u) (h:Q u s)
  (hn:x≠"__name__":=by decide) (hd:(x==("__debug__":Str))=false:=by decide):wpAny (model X.prog X.w) X.A (eval (.Name x pos) X.env) Q E s:=by
 obtain ⟨mb,h1,h2⟩:=I.mod.blt
 exact Calls.Name_function_global I.ok.kind hg (Calls.loadGlobal_builtin (by rw [I.ok.glob];exact I.mod.glob.keeps I.bk) hm (by rw [I.ok.blt];exact h1.keeps I.bk) ((h2 x hn).trans hv) h) hd
theorem mZ {x:Str} {v:V} {u:Value} {pos:Pos} (hg:Gl X x) (hm:X.mg x=some u) (r:RelV v u) (hd:(x==("__debug__":Str))=false:=by decide):PE X (.Name x pos) (tC v):=
 fun _ _ _ H _ I h=>rK I hg hm ⟨v,H,I,r,h⟩ hd
theorem a11 {x:Str} {v:V} {u:Value} {pos:Pos} (hg:Gl X x) (hm:X.mg x=none) (hv:bootBuiltins x=some u) (r:RelV v u) (hn:x≠"__name__":=by decide) (hd:(x==("__debug__":Str))=false:=by decide):PE X (.Name x pos) (tC v):=
 fun _ _ _ H _ I h=>jC I hg hm hv ⟨v,H,I,r,h⟩ hn hd
variable {a b:Expr} {ta tb:TE} {pos:Pos}
def PC (X:Cx) (op:CmpOp) (a b:Expr) (t:TE):Prop:=
 ∀ (pins:List (Addr×Obj)) (s:Shared) (σ:St) (H:Hp) (Q:VK),Inv X pins σ H s→t σ H Q→
  wpAny (model X.prog X.w) X.A (eval a X.env) (fun v s₁=>wpAny (model X.prog X.w) X.A (eval b X.env) (fun u s₂=>wpAny (model X.prog X.w) X.A (compareOp op v u) (EP X pins σ Q) X.xe s₂) X.xe s₁) X.xe s
def tB (t:TE):TT:=fun σ H Q=>t σ H fun x H1=>∃ c,x=.bl c∧Q c H1
theorem a1K {op:CmpOp} {t:TE} (h:PC X op a b t) (h1:behindInMarks op b=false:=by first | exact nobehind _ (by decide) (by decide) | rfl):PT X (.Compare a [op] [b] pos) (tB t):=by
 intro pins s σ H Q I hw
 refine wpAny_isTrue_Compare1 (thn (h pins s σ H _ I hw) fun v s1 h1=>thn h1 fun u s2 h2=>thn h2 fun c s3 ⟨x,H1,I1,r1,q1⟩=>?_) h1
 obtain ⟨d,rfl,q⟩:=q1
 cases r1
 exact wpAny_truthy_bool ⟨H1,I1,q⟩
theorem a1N {e:Expr} {t:TE} (h:PE X e t) (he:∀ whole,isTrue e X.env whole=(do let v ← whole;standAt e.pos;holding [v] (truthy v)):=by intro _;rfl):PT X e (tB t):=by
 intro pins s σ H Q I hw
 refine isTrue_plain (thn (h pins s σ H _ I hw) fun v s1 ⟨x,H1,I1,r1,q1⟩=>?_) (he _)
 obtain ⟨d,rfl,q⟩:=q1
 cases r1
 exact wpAny_truthy_bool ⟨H1,I1,q⟩
variable {tA tB':TT} {rest:List Expr}
def tAnd (t u:TT):TT:=fun σ H Q=>t σ H fun c H1=>if c=true then u σ H1 Q else Q false H1
def tOr (t u:TT):TT:=fun σ H Q=>t σ H fun c H1=>if c=true then Q true H1 else u σ H1 Q
def tNot (t:TT):TT:=fun σ H Q=>t σ H fun c H1=>Q (!c) H1
theorem a0W (ha:PT X a tA):PW X (.BoolOp .And [a] pos) tA:=by
 intro wh pins s σ H Q I h
 refine isTrue_and (thn (ha pins s σ H Q I h) fun c s1 e=>?_)
 cases c with
 | true=>exact isTrue_and_nil e
 | false=>exact e
theorem a1R (ha:PT X a tA):PW X (.BoolOp .Or [a] pos) tA:=by
 intro wh pins s σ H Q I h
 refine isTrue_or (thn (ha pins s σ H Q I h) fun c s1 e=>?_)
 cases c with
 | false=>exact isTrue_or_nil e
 | true=>exact e
theorem a1g (ha:PT X a tA) (hb:PW X (.BoolOp .And (b::rest) pos) tB'):PW X (.BoolOp .And (a::b::rest) pos) (tAnd tA tB'):=by
 intro wh pins s σ H Q I h
 refine isTrue_and (thn (ha pins s σ H _ I h) ?_)
 rintro c s1 ⟨H1,I1,q1⟩
 cases c with
 | true=>exact hb wh pins s1 σ H1 Q I1 q1
 | false=>exact ⟨H1,I1,q1⟩
theorem a2h (ha:PT X a tA) (hb:PW X (.BoolOp .Or (b::rest) pos) tB'):PW X (.BoolOp .Or (a::b::rest) pos) (tOr tA tB'):=by
 intro wh pins s σ H Q I h
 refine isTrue_or (thn (ha pins s σ H _ I h) ?_)
 rintro c s1 ⟨H1,I1,q1⟩
 cases c with
 | true=>exact ⟨H1,I1,q1⟩
 | false=>exact hb wh pins s1 σ H1 Q I1 q1
theorem a2Y (ha:PT X a tA):PT X (.UnaryOp .Not a pos) (tNot tA):=by
 intro pins s σ H Q I h
 exact isTrue_not (ha pins s σ H (fun c H1=>Q (!c) H1) I h)
def tAndV (ta tb:TE):TE:=fun σ H Q=>ta σ H fun x H1=>∃ c,x=.bl c∧if c=true then tb σ H1 Q else Q (.bl false) H1
theorem a1X {op} {t:TE} (h:PE X a t):PE X (.BoolOp op [a] pos) t:=fun pins s σ H Q I hw=>BoolOp_one (h pins s σ H Q I hw)
theorem a2A (ha:PE X a ta) (hb:PE X (.BoolOp .And (b::rest) pos) tb):PE X (.BoolOp .And (a::b::rest) pos) (tAndV ta tb):=by
 intro pins s σ H Q I h
 refine BoolOp_and (thn (ha pins s σ H _ I h) ?_)
 rintro v s1 ⟨x,H1,I1,r1,q1⟩
 obtain ⟨c,rfl,q1⟩:=q1
 cases r1
 refine wpAny_truthy_bool ?_
 cases c with
 | true=>exact hb pins s1 σ H1 Q I1 q1
 | false=>exact ⟨.bl false,H1,I1,rfl,q1⟩
end
end L2
namespace L2
open PySem PySem.Spec PyProof.Rows
def SqL (K:PySem.W.Frag) (H:Hp) (a:Addr) (xs:List V):Prop:=
 Rd H a (.lst xs)∨
  ∃ (o:Obj) (its:Array Value) (n:Nat),K.lookup a=some o∧o.cls=.type "list"∧o.dict=none∧o.data=.seq its n∧its.size≤sizeLine∧Vals xs its.toList
def SqT (K:PySem.W.Frag) (H:Hp) (a:Addr) (xs:List V):Prop:=
 Rd H a (.tup xs)∨
  ∃ (o:Obj) (its:Array Value) (n:Nat),K.lookup a=some o∧o.cls=.type "tuple"∧o.data=.seq its n∧its.size≤sizeLine∧Vals xs its.toList
def absV:Value→Option V
 | .none=>some .non
 | .bool b=>some (.bl b)
 | .int i _=>some (.int i)
 | .str x _=>some (.str x)
 | .bytes b _=>some (.byt b)
 | .float b _=>some (.flt b)
 | .ref a=>some (.ref a)
 | .type n=>some (.ty n)
 | _=>none
theorem RelV.abs {x:V} {u:Value} (r:RelV x u):absV u=some x:=by
 cases x with
 | non=>cases r;rfl
 | bl _=>cases r;rfl
 | int _=>obtain ⟨t,rfl⟩:=r;rfl
 | str _=>obtain ⟨t,rfl⟩:=r;rfl
 | byt _=>obtain ⟨t,rfl⟩:=r;rfl
 | flt _=>obtain ⟨t,rfl⟩:=r;rfl
 | ref _=>cases r;rfl
 | ty _=>cases r;rfl
theorem RelV.inj {x y:V} {u:Value} (r:RelV x u) (q:RelV y u):x=y:=Option.some.inj (r.abs.symm.trans q.abs)
theorem Vals.inj:∀ {xs ys:List V} {us:List Value},Vals xs us→Vals ys us→xs=ys
 | _,_,_,.nil,.nil=>rfl
 | _,_,_,.cons r t,.cons r' t'=>by rw [r.inj r',Vals.inj t t']
section
variable {X:Cx} {pins:List (Addr×Obj)} {σ:St} {H:Hp} {s:Shared} {a:Addr} {xs ys:List V}
theorem SqL.of {K:PySem.W.Frag} (h:H a=some (.lst xs)):SqL K H a xs:=.inl (.inl h)
theorem SqT.of {K:PySem.W.Frag} (h:H a=some (.tup xs)):SqT K H a xs:=.inl (.inl h)
theorem Inv.list (I:Inv X pins σ H s) (h:SqL X.K H a xs):∃ its:List Value,Vals xs its∧PlainL s.heap a its.toArray∧xs.length≤sizeLine:=by
 rcases h with h | ⟨o,its,n,hk,hc,hd,hs,hz,r⟩
 ·obtain ⟨z,its,n,r,e⟩:=h.ok I.hok
  exact ⟨its,r,⟨_,n,e,rfl,rfl,rfl⟩,z⟩
 ·refine ⟨its.toList,r,⟨o,n,I.kIn a o hk,hc,hd,by simpa using hs⟩,?_⟩
  have e:=r.length
  simp only [Array.length_toList] at e
  omega
theorem Inv.tuple (I:Inv X pins σ H s) (h:SqT X.K H a xs):∃ its:List Value,Vals xs its∧IsTup s.heap a its.toArray∧xs.length≤sizeLine:=by
 rcases h with h | ⟨o,its,n,hk,hc,hs,hz,r⟩
 ·obtain ⟨⟨z,_⟩,its,r,p⟩:=h.ok I.hok
  exact ⟨its,r,p,z⟩
 ·refine ⟨its.toList,r,⟨o,I.kIn a o hk,hc,n,by simpa using hs⟩,?_⟩
  have e:=r.length
  simp only [Array.length_toList] at e
  omega
theorem Inv.list_inj (I:Inv X pins σ H s) (h:SqL X.K H a xs) (h':SqL X.K H a ys):xs=ys:=by
 obtain ⟨its,r,⟨o,n,e,_,_,d⟩,_⟩:=I.list h
 obtain ⟨its',r',⟨o',n',e',_,_,d'⟩,_⟩:=I.list h'
 rw [e] at e';cases e'
 rw [d] at d'
 injection d' with d1 _
 have:its=its':=by simpa using congrArg Array.toList d1
 subst this
 exact r.inj r'
theorem Inv.tuple_inj (I:Inv X pins σ H s) (h:SqT X.K H a xs) (h':SqT X.K H a ys):xs=ys:=by
 obtain ⟨its,r,⟨o,e,_,n,d⟩,_⟩:=I.tuple h
 obtain ⟨its',r',⟨o',e',_,n',d'⟩,_⟩:=I.tuple h'
 rw [e] at e';cases e'
 rw [d] at d'
 injection d' with d1 _
 have:its=its':=by simpa using congrArg Array.toList d1
 subst this
 exact r.inj r'
end
abbrev Cx.wish (X:Cx) (E:Value→Shared→Prop):Cx:={X with xe:=E}
abbrev Cx.nox (X:Cx):Cx:=X.wish fun _ _=>False
theorem Cx.Ok.wish {X:Cx} (ok:X.Ok) (E:Value→Shared→Prop):(X.wish E).Ok:=
 ⟨ok.mod,ok.kind,ok.glob,ok.blt,ok.above,ok.inj,ok.has,ok.cab,ok.hd,ok.frames,ok.stk,ok.exf,ok.bs,ok.bsz,ok.noex,ok.exfs,ok.funs,ok.frf⟩
theorem Cx.Ok.unwish {X:Cx} {E:Value→Shared→Prop} (ok:(X.wish E).Ok):X.Ok:=
 ⟨ok.mod,ok.kind,ok.glob,ok.blt,ok.above,ok.inj,ok.has,ok.cab,ok.hd,ok.frames,ok.stk,ok.exf,ok.bs,ok.bsz,ok.noex,ok.exfs,ok.funs,ok.frf⟩
section
variable {X:Cx} {pins:List (Addr×Obj)} {σ:St} {H:Hp} {s:Shared} {E:Value→Shared→Prop}
theorem Inv.wish (I:Inv X pins σ H s) (E:Value→Shared→Prop):Inv (X.wish E) pins σ H s:=⟨I.ok.wish E,I.os,I.bare,I.base,I.loc,I.cell,I.free,I.freeC,I.pin,I.hok,I.len⟩
theorem Inv.unwish (I:Inv (X.wish E) pins σ H s):Inv X pins σ H s:=⟨I.ok.unwish,I.os,I.bare,I.base,I.loc,I.cell,I.free,I.freeC,I.pin,I.hok,I.len⟩
theorem SP.unwish {D:Ends} {f:Flow} {s':Shared} (h:SP (X.wish E) pins D f s'):SP X pins D f s':=by
 cases f with
 | next=>obtain ⟨σ',H',I,q⟩:=h;exact ⟨σ',H',I.unwish,q⟩
 | brk=>obtain ⟨σ',H',I,q⟩:=h;exact ⟨σ',H',I.unwish,q⟩
 | cont=>obtain ⟨σ',H',I,q⟩:=h;exact ⟨σ',H',I.unwish,q⟩
 | ret u=>obtain ⟨v,σ',H',I,r,q⟩:=h;exact ⟨v,σ',H',I.unwish,r,q⟩
theorem PSs.nox {st:List Stmt} {t:TS} (h:PSs X.nox st t):PSs X st t:=fun pins s σ H D I hw=>
 wpAny_mono (h pins s σ H D (I.wish _) hw) (fun _ _ q=>q.unwish) fun _ _ z=>False.elim z
end
section
variable {X:Cx} {st:Stmt} {rest:List Stmt} {t u:TS} {e:Expr} {te:TE} {pos:Pos}
def tNext:TS:=fun D σ H=>D.nx σ H
def tSeq (t u:TS):TS:=fun D σ H=>t {D with nx:=u D} σ H
theorem a10:PSs X [] tNext:=fun _ _ σ H _ I h=>wpAny_execs_nil ⟨σ,H,I,h⟩
theorem yW (h1:PS X st t) (h2:PSs X rest u):PSs X (st::rest) (tSeq t u):=by
 intro pins s σ H D I h
 refine wpAny_execs_cons (thn (h1 pins s σ H {D with nx:=u D} I h) fun f s1 q=>?_)
 cases f with
 | next=>
  obtain ⟨σ',H',I',q⟩:=q
  exact h2 pins s1 σ' H' D I' q
 | ret v=>exact q
 | brk=>exact q
 | cont=>exact q
theorem a0G (h1:PS X st t):PSs X [st] t:=by
 intro pins s σ H D I h
 refine wpAny_execs_cons (thn (h1 pins s σ H D I h) fun f s1 q=>?_)
 cases f with
 | next=>exact wpAny_execs_nil q
 | ret v=>exact q
 | brk=>exact q
 | cont=>exact q
theorem Inv.quiet {pins:List (Addr×Obj)} {σ:St} {H:Hp} {s:Shared} (I:Inv X pins σ H s):interactive X.env=false:=by simp [interactive,I.ok.kind]
def tDrop (te:TE):TS:=fun D σ H=>te σ H fun _ H1=>D.nx σ H1
theorem a0b (he:PE X e te) (hs:swapsWith e none pos.line X.env=pure false:=by rfl):PS X (.Expr e pos) (tDrop te):=by
 intro pins s σ H D I h
 exact wpAny_Expr_any (thn (he pins s σ H _ I h) fun v s1 ⟨x,H1,I1,r1,q1⟩=>⟨σ,H1,I1,q1⟩) I.quiet hs
def tRet (te:TE):TS:=fun D σ H=>te σ H D.rt
theorem a28 (he:PE X e te):PS X (.Return (some e) pos) (tRet te):=by
 intro pins s σ H D I h
 exact wpAny_Return_some (thn (he pins s σ H _ I h) fun v s1 ⟨x,H1,I1,r1,q1⟩=>⟨x,σ,H1,I1,r1,q1⟩)
def tIfS (c:TT) (t u:TS):TS:=fun D σ H=>c σ H fun b H1=>if b=true then t D σ H1 else u D σ H1
theorem a2r {c:Expr} {a b:List Stmt} {tc:TT} (hc:PT X c tc) (ha:PSs X a t) (hb:PSs X b u):PS X (.If c a b pos) (tIfS tc t u):=by
 intro pins s σ H D I h
 refine wpAny_If (thn (hc pins s σ H _ I h) ?_)
 rintro d s1 ⟨H1,I1,q1⟩
 cases d with
 | true=>exact ha pins s1 σ H1 D I1 q1
 | false=>exact hb pins s1 σ H1 D I1 q1
end
abbrev TG:=V→St→Hp→(St→Hp→Prop)→Prop
abbrev TGs:=List V→St→Hp→(St→Hp→Prop)→Prop
def PG (X:Cx) (target:Expr) (t:TG):Prop:=
 ∀ (pins:List (Addr×Obj)) (s:Shared) (σ:St) (H:Hp) (v:V) (u:Value) (Q:St→Hp→Prop),Inv X pins σ H s→RelV v u→t v σ H Q→
  wpAny (model X.prog X.w) X.A (assign target X.env u) (fun _ s'=>∃ σ' H',Inv X pins σ' H' s'∧Q σ' H') X.xe s
def PGs (X:Cx) (ts:List Expr) (t:TGs):Prop:=
 ∀ (pins:List (Addr×Obj)) (s:Shared) (σ:St) (H:Hp) (vs:List V) (us:List Value) (Q:St→Hp→Prop),Inv X pins σ H s→Vals vs us→t vs σ H Q→
  wpAny (model X.prog X.w) X.A (assignInOrder ((assignEach ts X.env).map (·.2)) us) (fun _ s'=>∃ σ' H',Inv X pins σ' H' s'∧Q σ' H') X.xe s
abbrev TSet:=V→V→V→Hp→(Hp→Prop)→Prop
def PSet (X:Cx) (t:TSet):Prop:=
 ∀ (pins:List (Addr×Obj)) (s:Shared) (σ:St) (H:Hp) (o i v:V) (ov iv u:Value) (Q:Hp→Prop),Inv X pins σ H s→RelV o ov→RelV i iv→RelV v u→t o i v H Q→
  wpAny (model X.prog X.w) X.A (setItem ov iv u) (fun _ s'=>∃ H',Inv X pins σ H' s'∧Q H') X.xe s
abbrev TIp:=V→V→Hp→VK→Prop
def PIp (X:Cx) (op:Operator) (t:TIp):Prop:=
 ∀ (pins:List (Addr×Obj)) (s:Shared) (σ:St) (H:Hp) (x y:V) (v u:Value) (Q:VK),Inv X pins σ H s→RelV x v→RelV y u→t x y H Q→
  wpAny (model X.prog X.w) X.A (inplaceOp op v u) (EP X pins σ Q) X.xe s
section
variable {X:Cx} {pos:Pos}
def gName (i:Nat):TG:=fun v σ H Q=>Q (σ.set i (some v)) H
theorem a12 {i:Nat} {x:Str} (hN:X.N.Nodup) (hi:X.N[i]? =some x) (hx:Loc X.env.scope x) (hf:X.fn x=true∨X.env.scope.names.lookup x=some .local:=by first | exact .inl rfl | exact .inr rfl | assumption):PG X (.Name x pos) (gName i):=by
 intro pins s σ H v u Q I r h
 exact wpAny_assign_Name (oH I hN hi hx r (fun s' I'=>⟨_,H,I',h⟩) hf)
def gNil:TGs:=fun vs σ H Q=>vs=[]∧Q σ H
def gCons (t:TG) (u:TGs):TGs:=fun vs σ H Q=>∃ v r,vs=v::r∧t v σ H fun σ' H'=>u r σ' H' Q
theorem a0E:PGs X [] gNil:=by
 intro pins s σ H vs us Q I r h
 obtain ⟨e,h⟩:=h
 subst e
 cases r
 exact assignInOrder_nil ⟨σ,H,I,h⟩
theorem yH {e:Expr} {es:List Expr} {t:TG} {u:TGs} (h1:PG X e t) (h2:PGs X es u)
  (hs:(assignEach (e::es) X.env).map (·.2)=assign e X.env::(assignEach es X.env).map (·.2):=by rfl):PGs X (e::es) (gCons t u):=by
 intro pins s σ H vs us Q I r h
 obtain ⟨v,vr,e1,h⟩:=h
 subst e1
 cases r with
 | cons r rr=>
  rw [hs]
  refine assignInOrder_cons (thn (h1 pins s σ H _ _ _ I r h) ?_)
  rintro _ s1 ⟨σ1,H1,I1,q1⟩
  exact h2 pins s1 σ1 H1 _ _ Q I1 rr q1
def gTup (K:PySem.W.Frag) (n:Nat) (t:TGs):TG:=fun v σ H Q=>∃ a xs,v=.ref a∧SqT K H a xs∧xs.length=n∧t xs σ H Q
theorem a1c {es:List Expr} {k:Nat} {t:TGs} {n:Nat} (hc:X.calm=true) (h:PGs X es t)
  (hn:(assignEach es X.env).length=n:=by rfl) (hst:(assignEach es X.env).findIdx? (·.1)=none:=by rfl):PG X (.Tuple es k pos) (gTup X.K n t):=by
 intro pins s σ H v u Q I r hw
 obtain ⟨a,xs,e1,hq,hl,hw⟩:=hw
 subst e1
 cases r
 obtain ⟨its,rv,ht,hz⟩:=I.tuple hq
 refine assign_Tuple_tuple (I.ok.hd hc) ht (by simp [hn,← hl,rv.length]) hst fun h' hx=>?_
 have I1:Inv X pins σ H {s with heap:=h'}:=I.kept (t':=s.toks) fun b o e=>hx b o (Nat.ne_of_lt (Heap.lt_size e)) e
 exact h pins _ σ H xs _ Q I1 (by simpa using rv) hw
def gSub (to ti:TE) (t:TSet):TG:=fun v σ H Q=>to σ H fun o H1=>ti σ H1 fun i H2=>t o i v H2 fun H3=>Q σ H3
theorem a2X {o i:Expr} {to ti:TE} {t:TSet} (ho:PE X o to) (hi:PE X i ti) (hs:PSet X t)
  (ha:∀ v,assign (.Subscript o i pos) X.env v=(do
   let ov ← holding [v] (eval o X.env)
   let iv ← holding [v,ov] (eval i X.env)
   standAt pos
   holding [v,ov,iv] (setItem ov iv v)
   release [v,ov,iv] []):=by intro _;rfl):PG X (.Subscript o i pos) (gSub to ti t):=by
 intro pins s σ H v u Q I r h
 rw [ha]
 refine wpAny_bind (wpAny_holding (thn (ho pins s σ H _ I h) ?_))
 rintro ov s1 ⟨x,H1,I1,r1,q1⟩
 refine wpAny_bind (wpAny_holding (thn (hi pins s1 σ H1 _ I1 q1) ?_))
 rintro iv s2 ⟨y,H2,I2,r2,q2⟩
 refine wpAny_bind (wpAny_standAt (wpAny_bind (wpAny_holding (thn (hs pins s2 σ H2 x y v ov iv u _ I2 r1 r2 r q2) ?_))))
 rintro _ s3 ⟨H3,I3,q3⟩
 exact wpAny_release ⟨σ,H3,I3,q3⟩
def tAsg (te:TE) (g:TG):TS:=fun D σ H=>te σ H fun x H1=>g x σ H1 D.nx
theorem a1z {tg e:Expr} {te:TE} {g:TG} (he:PE X e te) (hg:PG X tg g) (hs:swapsWithSole [tg] e pos.line X.env=pure false:=by rfl) (hw:swappedStores [tg] e X.env=pure none:=by rfl)
  (h1:(assignEach [tg] X.env).map (·.2)=[assign tg X.env]:=by rfl):PS X (.Assign [tg] e pos) (tAsg te g):=by
 intro pins s σ H D I h
 refine wpAny_Assign_stores (thn (he pins s σ H _ I h) fun v s1 ⟨x,H1,I1,r1,q1⟩=>?_) hs hw
 rw [h1]
 exact thn (hg pins s1 σ H1 x v _ I1 r1 q1) fun _ s2 q=>q
theorem a1m {i:Nat} {x:Str} {e:Expr} {te:TE} {pos':Pos} (hN:X.N.Nodup) (hi:X.N[i]? =some x) (hx:Loc X.env.scope x) (he:PE X e te) (hs:swapsWith e (some (.Name x pos')) pos.line X.env=pure false:=by rfl) (hf:X.fn x=true∨X.env.scope.names.lookup x=some .local:=by first | exact .inl rfl | exact .inr rfl | assumption):
  PS X (.Assign [.Name x pos'] e pos) (tAsg te (gName i)):=by
 intro pins s σ H D I h
 refine wpAny_Assign_Name (thn (he pins s σ H _ I h) fun v s1 ⟨y,H1,I1,r1,q1⟩=>?_) hs
 exact oH I1 hN hi hx r1 (fun s2 I2=>⟨_,H1,I2,q1⟩) hf
def tAug (i:Nat) (te:TE) (ti:TIp):TS:=fun D σ H=>∃ x,σ[i]? =some (some x)∧te σ H fun y H1=>ti x y H1 fun z H2=>D.nx (σ.set i (some z)) H2
theorem a24 {i:Nat} {x:Str} {e:Expr} {te:TE} {op:Operator} {ti:TIp} {pos':Pos} (hN:X.N.Nodup) (hi:X.N[i]? =some x) (hx:Loc X.env.scope x) (he:PE X e te) (ho:PIp X op ti) (hf:X.fn x=true∨X.env.scope.names.lookup x=some .local:=by first | exact .inl rfl | exact .inr rfl | assumption):
  PS X (.AugAssign (.Name x pos') op e pos) (tAug i te ti):=by
 intro pins s σ H D I h
 obtain ⟨v,e1,h⟩:=h
 obtain ⟨m,hn,hl⟩:=I.loc
 have vis:Vis X.env.scope x:=by rcases hx with k | k;exact .inl k;exact .inr (.inl k)
 obtain ⟨u,r,l⟩:=hl i x v hi e1 vis
 refine wpAny_AugAssign_Name ?_
 have go:wpAny (model X.prog X.w) X.A (eval e X.env) (fun w s₂=>wpAny (model X.prog X.w) X.A (inplaceOp op u w) (fun r s₃=>wpAny (model X.prog X.w) X.A (storeName X.env x r) (fun _=>SP X pins D .next) X.xe s₃) X.xe s₂) X.xe s:=by
  refine thn (he pins s σ H _ I h) ?_
  rintro w s1 ⟨y,H1,I1,r1,q1⟩
  refine thn (ho pins s1 σ H1 v y u w _ I1 r r1 q1) ?_
  rintro z s2 ⟨zv,H2,I2,r2,q2⟩
  exact oH I2 hN hi hx r2 (fun s3 I3=>⟨_,H2,I3,q2⟩) hf
 rcases l with ⟨hk,hm⟩ | ⟨hk,c,hc,hcell⟩
 ·exact wpAny_loadName_local I.ok.kind hk hn hm go
 ·rcases hk with hk | hk
  ·exact wpAny_loadName_cell I.ok.kind hk hc hcell go
  ·rcases hx with k | k
   ·have:X.env.scope.names.lookup x=some .free:=hk
    rw [k] at this;cases this
   ·have:X.env.scope.names.lookup x=some .free:=hk
    rw [k] at this;cases this
def ipI (f:Int→Int→Int):TIp:=fun x y H Q=>∃ i j,x=.int i∧y=.int j∧Q (.int (f i j)) H
theorem a1b:PIp X .Add (ipI fun i j=>i+j):=by
 intro pins s σ H x y v u Q I r1 r2 h
 obtain ⟨i,j,e1,e2,q⟩:=h
 subst e1;subst e2
 obtain ⟨t,rfl⟩:=r1
 obtain ⟨t',rfl⟩:=r2
 exact iadd_int ⟨.int _,H,I.tok _,⟨_,rfl⟩,q⟩
end
section
variable {X:Cx} {pos:Pos}
def tWhile (c:TT) (tb:TS):TS:=fun D σ H=>∃ W:Nat→St→Hp→Prop,(∃ m,W m σ H)∧∀ m σ H,W m σ H→
 c σ H fun b H1=>if b=true then ∃ N:St→Hp→Prop,(∀ σ' H',N σ' H'→∃ m',m' < m∧W m' σ' H')∧tb {D with nx:=N,ct:=N,bk:=D.nx} σ H1 else D.nx σ H1
theorem zU {c:Expr} {body:List Stmt} {tc:TT} {tb:TS} (hp:PassesOwn (model X.prog X.w) X.A X.env X.xe) (hc:PT X c tc) (hb:PSs X body tb):PS X (.While c body [] pos) (tWhile tc tb):=by
 intro pins s σ H D I h
 obtain ⟨W,⟨m0,w0⟩,turn⟩:=h
 refine wpAny_While (codeAny_whileLoop (fun n s'=>∃ σ' H',Inv X pins σ' H' s'∧W n σ' H') ?_ m0 ⟨σ,H,I,w0⟩)
 rintro n s1 ⟨σ1,H1,I1,w1⟩
 refine wpAny_passesOwn hp (thn (hc pins s1 σ1 H1 _ I1 (turn n σ1 H1 w1)) ?_)
 rintro b s2 ⟨H2,I2,q2⟩
 cases b with
 | true=>
  obtain ⟨N,hN,q2⟩:=q2
  rw [if_pos rfl]
  refine wpAny_passesOwn hp (thn (hb pins s2 σ1 H2 _ I2 q2) fun f s3 q3=>?_)
  cases f with
  | next=>
   obtain ⟨σ3,H3,I3,n3⟩:=q3
   obtain ⟨m',hm,w3⟩:=hN σ3 H3 n3
   exact ⟨m',hm,σ3,H3,I3,w3⟩
  | cont=>
   obtain ⟨σ3,H3,I3,n3⟩:=q3
   obtain ⟨m',hm,w3⟩:=hN σ3 H3 n3
   exact ⟨m',hm,σ3,H3,I3,w3⟩
  | brk=>exact q3
  | ret v=>exact q3
 | false=>
  rw [if_neg Bool.false_ne_true]
  exact wpAny_execs_nil ⟨σ1,H2,I2,q2⟩
end
structure It where
 go:Nat→Hp→Prop
 yld:Nat→Hp→V→Hp→Prop
 stop:Nat→Hp→Prop
def FpOk (X:Cx) (pins:List (Addr×Obj)) (H:Hp) (b:Addr):Prop:=
 H b=none∧b≠X.env.locals∧b ∉ X.fs∧(b∈X.ex∨X.s₀.heap.objs.size≤b)∧(∀ x c,X.env.cells.lookup x=some c→c≠b)∧∀ p∈X.pn++pins,p.1≠b
theorem Inv.fpOk {X:Cx} {pins:List (Addr×Obj)} {σ:St} {H H':Hp} {s:Shared} {b:Addr} (I:Inv X pins σ H s) (hb:s.heap.objs.size≤b) (hn:H' b=none):FpOk X pins H' b:=by
 refine ⟨hn,Nat.ne_of_gt (Nat.lt_of_lt_of_le I.lt hb),I.nofs hb,.inr (Nat.le_trans I.sz hb),fun x c e z=>?_,fun p hp z=>?_⟩
 ·obtain ⟨v,q⟩:=I.cell x c e
  exact absurd (Nat.lt_of_lt_of_le q.lt (by rw [z];exact hb)) (Nat.lt_irrefl _)
 ·exact absurd (Nat.lt_of_lt_of_le (Heap.lt_size (I.pin p hp).1) (by rw [z];exact hb)) (Nat.lt_irrefl _)
structure Turn (P:Program) (w:World) (K:PySem.W.Frag) (tg:Expr) (J:It) (fp:List Addr) (it:Addr) (tn:Nat→Heap→Prop):Prop where
 mem:it∈fp
 obj:∀ i h,tn i h→∀ b∈fp,∃ o,h.get? b=some o∧∀ v,o.data≠.cell v
 keep:∀ i h h',tn i h→(∀ b∈fp,∀ o,h.get? b=some o→h'.get? b=some o)→tn i h'
 item:∀ (X:Cx),X.prog=P→X.w=w→X.K=K→X.calm=true→∀ (i:Nat) (pins:List (Addr×Obj)) (s:Shared) (σ:St) (H:Hp) (E:Value→Shared→Prop),Inv X pins σ H s→(∀ b∈fp,FpOk X pins H b)→tn i s.heap→J.go i H→
  wpAny (model P w) X.A (pyNext (.ref it)) (fun r s1=>∃ u,r=some u∧
   wpAny (model P w) X.A (letOwnedTupleGo tg (.ref it) u) (fun _ s2=>∃ x H',Inv X pins σ H' s2∧RelV x u∧J.yld i H x H'∧tn (i+1) s2.heap∧∀ b∈fp,H' b=none) E s1) E s
 done:∀ (X:Cx),X.prog=P→X.w=w→X.K=K→X.calm=true→∀ (i:Nat) (pins:List (Addr×Obj)) (s:Shared) (σ:St) (H:Hp) (E:Value→Shared→Prop),Inv X pins σ H s→(∀ b∈fp,FpOk X pins H b)→tn i s.heap→J.stop i H→
  wpAny (model P w) X.A (pyNext (.ref it)) (fun r s1=>r=none∧Inv X pins σ H s1) E s
 self:∀ (A:Around) (i:Nat) (s:Shared) (Q:Value→Shared→Prop) (E:Value→Shared→Prop),tn i s.heap→Q (.ref it) s→wpAny (model P w) A (pyIter (.ref it)) Q E s
abbrev TI:=St→Hp→(It→Hp→Prop)→Prop
def PIE (X:Cx) (pins:List (Addr×Obj)) (σ:St) (tg:Expr) (R:It→Hp→Prop) (itv:Value) (s2:Shared):Prop:=
 ∃ (it:Addr) (fp:List Addr) (tn:Nat→Heap→Prop) (J:It) (H':Hp),itv=.ref it∧Inv X pins σ H' s2∧Turn X.prog X.w X.K tg J fp it tn∧tn 0 s2.heap∧(∀ b∈fp,FpOk X pins H' b)∧R J H'
def PI (X:Cx) (tg iter:Expr) (wi:TI):Prop:=
 ∀ (pins:List (Addr×Obj)) (s:Shared) (σ:St) (H:Hp) (R:It→Hp→Prop),Inv X pins σ H s→wi σ H R→
  wpAny (model X.prog X.w) X.A (eval iter X.env) (fun v s1=>wpAny (model X.prog X.w) X.A (pyIter v) (PIE X pins σ tg R) X.xe s1) X.xe s
theorem wG {M : Model} {A : Around} {E : Value → Shared → Prop} {s : Shared} {tg : Expr} {it : Addr} {u : Value} {o : Obj} {n : String} {vs : Array Value} {Q : Unit → Shared → Prop} (ho : s.heap.get? it = some o) (hc : o.cls = .type n) (hd : o.data = .fields vs)
    (hn : ["enumerate", "zip", "dict_itemiterator", "dict_reverseitemiterator", "odict_iterator", "itertools.zip_longest", "itertools.pairwise"].contains n = false) (hQ : Q () s) : wpAny M A (letOwnedTupleGo tg (.ref it) u) Q E s := by
  unfold letOwnedTupleGo
  cases tg <;> first
    | exact wpAny_pure hQ
    | (cases u <;> first
        | exact wpAny_pure hQ
        | (refine wpAny_bind (wpAny_load ho ?_)
           rw [hc, hd]
           show wpAny M A (if (["enumerate", "zip", "dict_itemiterator", "dict_reverseitemiterator", "odict_iterator", "itertools.zip_longest", "itertools.pairwise"].contains n && vs[0]? == some (rawInt _)) = true then _ else _) Q E s
           rw [if_neg (by intro h; rw [hn, Bool.false_and] at h; cases h)]
           exact wpAny_pure hQ))
def Itl (K:PySem.W.Frag) (a:Addr):It:=
 ⟨fun i H=>∃ xs x,SqL K H a xs∧xs[i]? =some x,fun i H x H'=>H'=H∧∀ xs,SqL K H a xs→xs[i]? =some x,fun i H=>∃ xs,SqL K H a xs∧xs.length≤i⟩
def Itt (K:PySem.W.Frag) (a:Addr):It:=
 ⟨fun i H=>∃ xs x,SqT K H a xs∧xs[i]? =some x,fun i H x H'=>H'=H∧∀ xs,SqT K H a xs→xs[i]? =some x,fun i H=>∃ xs,SqT K H a xs∧xs.length≤i⟩
def Itr (lo:Int) (n:Nat):It:=⟨fun i _=>i < n,fun i H x H'=>H'=H∧x=.int (lo+i),fun i _=>n≤i⟩
theorem xV {P:Program} {w:World} {K:PySem.W.Frag} {tg:Expr} (a it:Addr):Turn P w K tg (Itl K a) [it] it (fun i h=>h.IsListIter it a i) where
 mem:=by simp
 obj:=fun i h st b hb=>by
  have e:b=it:=by simpa using hb
  subst e
  obtain ⟨o,e,c,d⟩:=st
  exact ⟨o,e,fun v z=>by rw [d] at z;cases z⟩
 keep:=fun i h h' st k=>st.at fun o e=>k it (by simp) o e
 item:=by
  intro X hP hw hK hc i pins s σ H E I hf st hg
  subst hP hw hK
  obtain ⟨xs,x,hq,hx⟩:=hg
  obtain ⟨its,rv,p,hz⟩:=I.list hq
  obtain ⟨u,hu,ru⟩:=rv.get hx
  obtain ⟨f0,f1,f2,f3,f4,f5⟩:=hf it (by simp)
  refine wpAny_pyNext_list_item st p.isList (x:=u) (by simpa using hu) fun h' st' sb=>?_
  have I1:Inv X pins σ H {s with heap:=h'}:=I.turned (t':=s.toks) (fun b o hb e=>(sb.2 b hb).trans e) f0 f1 f3 f4 f5
  obtain ⟨o,e,c,d⟩:=id st'
  exact ⟨u,rfl,wG (s:={s with heap:=h'}) e c d (by decide) ⟨x,H,I1,ru,⟨rfl,fun ys hy=>by rw [I.list_inj hy hq];exact hx⟩,st',fun b hb=>(hf b hb).1⟩⟩
 done:=by
  intro X hP hw hK hc i pins s σ H E I hf st hg
  subst hP hw hK
  obtain ⟨xs,hq,hx⟩:=hg
  obtain ⟨its,rv,p,hz⟩:=I.list hq
  obtain ⟨f0,f1,f2,f3,f4,f5⟩:=hf it (by simp)
  have hl:=rv.length
  exact wpAny_pyNext_list_end (I.ok.hd hc) st p.isList (by simp;omega) fun h' eb=>⟨rfl,I.turned (t':=s.toks) (fun b o hb e=>eb b o hb e) f0 f1 f3 f4 f5⟩
 self:=fun _ _ _ _ _ st h=>wpAny_pyIter_listiter st h
theorem uS {P:Program} {w:World} {K:PySem.W.Frag} {tg:Expr} (a it:Addr):Turn P w K tg (Itt K a) [it] it (fun i h=>h.IsTupleIter it a i) where
 mem:=by simp
 obj:=fun i h st b hb=>by
  have e:b=it:=by simpa using hb
  subst e
  obtain ⟨o,e,c,d⟩:=st
  exact ⟨o,e,fun v z=>by rw [d] at z;cases z⟩
 keep:=fun i h h' st k=>st.at fun o e=>k it (by simp) o e
 item:=by
  intro X hP hw hK hc i pins s σ H E I hf st hg
  subst hP hw hK
  obtain ⟨xs,x,hq,hx⟩:=hg
  obtain ⟨its,rv,p,hz⟩:=I.tuple hq
  obtain ⟨u,hu,ru⟩:=rv.get hx
  obtain ⟨f0,f1,f2,f3,f4,f5⟩:=hf it (by simp)
  refine wpAny_pyNext_tuple_item st (show s.heap.IsTuple a its.toArray from p) (x:=u) (by simpa using hu) fun h' st' sb=>?_
  have I1:Inv X pins σ H {s with heap:=h'}:=I.turned (t':=s.toks) (fun b o hb e=>(sb.2 b hb).trans e) f0 f1 f3 f4 f5
  obtain ⟨o,e,c,d⟩:=id st'
  exact ⟨u,rfl,wG (s:={s with heap:=h'}) e c d (by decide) ⟨x,H,I1,ru,⟨rfl,fun ys hy=>by rw [I.tuple_inj hy hq];exact hx⟩,st',fun b hb=>(hf b hb).1⟩⟩
 done:=by
  intro X hP hw hK hc i pins s σ H E I hf st hg
  subst hP hw hK
  obtain ⟨xs,hq,hx⟩:=hg
  obtain ⟨its,rv,p,hz⟩:=I.tuple hq
  obtain ⟨f0,f1,f2,f3,f4,f5⟩:=hf it (by simp)
  have hl:=rv.length
  exact wpAny_pyNext_tuple_end (I.ok.hd hc) st (show s.heap.IsTuple a its.toArray from p) (by simp;omega) fun h' eb=>⟨rfl,I.turned (t':=s.toks) (fun b o hb e=>eb b o hb e) f0 f1 f3 f4 f5⟩
 self:=fun _ _ _ _ _ st h=>wpAny_pyIter_tupleiter st h
theorem vI {P:Program} {w:World} {K:PySem.W.Frag} {tg:Expr} (it:Addr) (lo:Int) (n:Nat):Turn P w K tg (Itr lo n) [it] it (fun i h=>IsRangeIter h it (lo+(i:Nat)*1) ((n:Int) - (i:Nat)) 1) where
 mem:=by simp
 obj:=fun i h st b hb=>by
  have e:b=it:=by simpa using hb
  subst e
  exact ⟨_,st,fun v z=>by
   have z':Data.fields _=Data.cell v:=z
   cases z'⟩
 keep:=fun i h h' st k=>k it (by simp) _ st
 item:=by
  intro X hP hw hK hc i pins s σ H E I hf st hg
  subst hP hw hK
  obtain ⟨f0,f1,f2,f3,f4,f5⟩:=hf it (by simp)
  have W:=Walks.range (prog:=X.prog) (w:=X.w) (I.ok.hd hc) it lo 1 n
  refine W.item i s _ _ hg st fun v h' tk hv st' kk=>?_
  obtain ⟨t,rfl⟩:=hv
  have I1:Inv X pins σ H {s with heap:=h',toks:=tk}:=I.turned (fun b o hb e=>kk b o (by simpa using hb) e) f0 f1 f3 f4 f5
  refine ⟨_,rfl,wG (s:={s with heap:=h',toks:=tk}) (n:="range_iterator") st' rfl rfl (by decide) ⟨.int (lo+i),H,I1,⟨t,?_⟩,⟨rfl,rfl⟩,st',fun b hb=>(hf b hb).1⟩⟩
  rw [Int.mul_one]
 done:=by
  intro X hP hw hK hc i pins s σ H E I hf st hg
  subst hP hw hK
  obtain ⟨f0,f1,f2,f3,f4,f5⟩:=hf it (by simp)
  exact wpAny_pyNext_range_end (I.ok.hd hc) st (by have:n≤i:=hg;omega) fun h' eb=>⟨rfl,I.turned (t':=s.toks) (fun b o hb e=>eb b o hb e) f0 f1 f3 f4 f5⟩
 self:=fun _ _ _ _ _ st h=>wpAny_pyIter_rangeiter st h
end L2
namespace L2
open PySem PySem.Spec PyProof.Rows
section
variable {X:Cx} {tg:Expr}
theorem u5 {pins:List (Addr×Obj)} {σ:St} {H:Hp} {s:Shared} {R:It→Hp→Prop} {E:Value→Shared→Prop} {lo hi:Int} {t u v:Tok} {tk:Nat} (I:Inv X pins σ H s) (h1: -(2^62)≤lo) (h2:lo < 2^62) (h3: -(2^62)≤hi) (h4:hi < 2^62)
  (q:R (Itr lo (hi - lo).toNat) H):wpAny (model X.prog X.w) X.A (pyIter (.ref s.heap.objs.size)) (PIE X pins σ tg R) E {s with heap:=s.heap.push {cls:=.type "range",data:=.fields #[.int lo t,.int hi u,.int 1 v]},toks:=tk}:=by
 refine wpAny_pyIter_range (IsRange.new ..) (small_one h1 h2 h3 h4) ?_
 have I1:Inv X pins σ H {s with heap:=s.heap.push {cls:=.type "range",data:=.fields #[.int lo t,.int hi u,.int 1 v]},toks:=tk}:=I.kept fun b o e=>Heap.get?_push_of_some _ e
 refine ⟨(s.heap.push {cls:=.type "range",data:=.fields #[.int lo t,.int hi u,.int 1 v]}).objs.size,[(s.heap.push {cls:=.type "range",data:=.fields #[.int lo t,.int hi u,.int 1 v]}).objs.size],_,_,H,rfl,
  I1.kept (t':=tk) fun b o e=>Heap.get?_push_of_some _ e,vI _ lo (hi - lo).toNat,?_,fun b hb=>?_,q⟩
 ·have e1:lo+((0:Nat):Int)*1=lo:=by simp
  have e2:(((hi - lo).toNat:Nat):Int) - ((0:Nat):Int)=Builtin.Range.rangeSize lo hi 1:=by rw [rangeSize_one];split<;>omega
  show IsRangeIter _ _ (lo+((0:Nat):Int)*1) ((((hi - lo).toNat:Nat):Int) - ((0:Nat):Int)) 1
  rw [e1,e2]
  exact Heap.get?_push_size _ rfl
 ·have e:b=(s.heap.push {cls:=.type "range",data:=.fields #[.int lo t,.int hi u,.int 1 v]}).objs.size:=by simpa using hb
  subst e
  exact I1.fpOk (Nat.le_refl _) (I1.hok.fresh (Nat.le_refl _))
def iRng1 (ta:TA):TI:=fun σ H R=>ta σ H fun vs H1=>∃ j:Int,vs=[.int j]∧ -(2^62)≤j∧j < 2^62∧R (Itr 0 j.toNat) H1
def iRng2 (ta:TA):TI:=fun σ H R=>ta σ H fun vs H1=>∃ i j:Int,vs=[.int i,.int j]∧(-(2^62)≤i∧i < 2^62∧ -(2^62)≤j∧j < 2^62)∧R (Itr i (j - i).toNat) H1
theorem y0 {a:Expr} {ta:TA} {p pos:Pos} (hg:Gl X "range") (hm:X.mg "range"=none) (ha:PA X [a] ta) (hs:starEach [a] X.env=[(false,eval a X.env)]:=by rfl):PI X tg (.Call (.Name "range" p) [a] [] pos) (iRng1 ta):=by
 intro pins s σ H R I h
 refine Call_ (jC I hg hm boot_range (PyProof.Rows.callWith_type1 (thn (ha pos pins s σ H _ I h) fun us s1 ⟨vs,H1,I1,r1,q1⟩=>?_) hs rfl))
 obtain ⟨j,e,q1,q2,q⟩:=q1
 subst e
 cases r1 with
 | cons r rr=>
  cases rr
  obtain ⟨t,rfl⟩:=r
  exact call_range_1 (u5 I1 (by omega) (by omega) q1 q2 (by simpa using q))
theorem xS {a b:Expr} {ta:TA} {p pos:Pos} (hg:Gl X "range") (hm:X.mg "range"=none) (ha:PA X [a,b] ta) (hs:starEach [a,b] X.env=[(false,eval a X.env),(false,eval b X.env)]:=by rfl) (hs2:starEach [b] X.env=[(false,eval b X.env)]:=by rfl):
  PI X tg (.Call (.Name "range" p) [a,b] [] pos) (iRng2 ta):=by
 intro pins s σ H R I h
 refine Call_ (jC I hg hm boot_range (PyProof.Rows.callWith_type1 (thn (ha pos pins s σ H _ I h) fun us s1 ⟨vs,H1,I1,r1,q1⟩=>?_) (by rw [hs,hs2]) (by rw [hs2];rfl)))
 obtain ⟨i,j,e,⟨q1,q2,q3,q4⟩,q⟩:=q1
 subst e
 cases r1 with
 | cons r rr=>
  cases rr with
  | cons r' rr=>
   cases rr
   obtain ⟨t,rfl⟩:=r
   obtain ⟨t',rfl⟩:=r'
   exact call_range_2 (u5 I1 q1 q2 q3 q4 q)
def tFor (wi:TI) (g:TG) (tb:TS):TS:=fun D σ H=>wi σ H fun J H1=>∃ W:Nat→Nat→St→Hp→Prop,(∃ m,W 0 m σ H1)∧∀ i m σ H,W i m σ H→
 (J.stop i H∧D.nx σ H)∨(J.go i H∧∃ N:St→Hp→Prop,(∀ σ' H',N σ' H'→∃ m',m' < m∧W (i+1) m' σ' H')∧∀ x H',J.yld i H x H'→g x σ H' fun σ2 H2=>tb {D with nx:=N,ct:=N,bk:=D.nx} σ2 H2)
def pinsAt (fp:List Addr) (h:Heap):List (Addr×Obj):=fp.filterMap fun b=>(h.get? b).map fun o=>(b,o)
theorem eQ {fp:List Addr} {h:Heap} {b:Addr} {o:Obj} (hb:b∈fp) (e:h.get? b=some o):(b,o)∈pinsAt fp h:=List.mem_filterMap.mpr ⟨b,hb,by rw [e];rfl⟩
theorem xE {fp:List Addr} {h:Heap} {p:Addr×Obj} (hp:p∈pinsAt fp h):p.1∈fp∧h.get? p.1=some p.2:=by
 obtain ⟨b,hb,e⟩:=List.mem_filterMap.mp hp
 cases q:h.get? b with
 | none=>rw [q] at e;cases e
 | some o=>
  rw [q] at e
  have e':(b,o)=p:=Option.some.inj e
  subst e'
  exact ⟨hb,q⟩
theorem Inv.pinned {pins:List (Addr×Obj)} {σ:St} {H:Hp} {s:Shared} {fp:List Addr} (I:Inv X pins σ H s) (hf:∀ b∈fp,FpOk X pins H b) (ho:∀ b∈fp,∃ o,s.heap.get? b=some o∧∀ v,o.data≠.cell v):Inv X (pins++pinsAt fp s.heap) σ H s:=
 I.pins_of fun p hp=>(List.mem_append.mp hp).elim (fun z=>I.pin p (List.mem_append_right _ z)) fun z=>by
  obtain ⟨hb,e⟩:=xE z
  obtain ⟨f0,f1,f2,_⟩:=hf p.1 hb
  obtain ⟨o,e',d⟩:=ho p.1 hb
  rw [e] at e';cases e'
  exact ⟨e,f0,f1,f2,d⟩
theorem Inv.unpinned {pins pl:List (Addr×Obj)} {σ:St} {H:Hp} {s:Shared} (I:Inv X (pins++pl) σ H s):Inv X pins σ H s:=I.pins_of fun p hp=>I.pin p (List.mem_append_right _ (List.mem_append_left _ hp))
theorem a21 {iter:Expr} {body:List Stmt} {wi:TI} {g:TG} {tb:TS} {pos:Pos} (hp:PassesOwn (model X.prog X.w) X.A X.env X.xe) (hc:X.calm=true) (hi:PI X tg iter wi) (hg:PG X tg g) (hb:PSs X body tb)
  (hs:∀ x,foldedSetIterable iter X.env x=pure x:=by intro _;rfl):PS X (.For tg iter body [] pos) (tFor wi g tb):=by
 intro pins s σ H D I h
 refine wpAny_For (thn (hi pins s σ H _ I h) fun v s1 h1=>thn h1 fun itv s2 h2=>?_) hs
 obtain ⟨it,fp,tn,J,H2,e,I2,T,st2,f2,W,⟨m0,w0⟩,turn⟩:=h2
 subst e
 -- what stays true of the iterator's objects through the loop
 have stat:∀ {H':Hp},(∀ b∈fp,H' b=none)→∀ b∈fp,FpOk X pins H' b:=fun hn b hb=>⟨hn b hb,(f2 b hb).2⟩
 refine codeAny_forLoop_any (fun n s'=>∃ i σ' H',Inv X pins σ' H' s'∧tn i s'.heap∧(∀ b∈fp,H' b=none)∧W i n σ' H') ?_ m0 ⟨0,σ,H2,I2,st2,fun b hb=>(f2 b hb).1,w0⟩
 rintro n s3 ⟨i,σ3,H3,I3,st3,fr3,w3⟩
 rcases turn i n σ3 H3 w3 with ⟨stop,qn⟩ | ⟨go,N,hN,step⟩
 ·refine wpAny_passesOwn hp (thn (T.done X rfl rfl rfl hc i pins s3 σ3 H3 X.xe I3 (stat fr3) st3 stop) ?_)
  rintro r s4 ⟨hr,I4⟩
  subst hr
  exact wpAny_execs_nil ⟨σ3,H3,I4,qn⟩
 ·refine wpAny_passesOwn hp (thn (T.item X rfl rfl rfl hc i pins s3 σ3 H3 X.xe I3 (stat fr3) st3 go) ?_)
  rintro r s4 ⟨u,hr,h4⟩
  subst hr
  refine wpAny_passesOwn hp (thn h4 ?_)
  rintro _ s5 ⟨x,H5,I5,r5,y5,st5,fr5⟩
  have I5':=I5.pinned (stat fr5) (T.obj _ _ st5)
  refine wpAny_passesOwn hp (thn (hg _ s5 σ3 H5 x u _ I5' r5 (step x H5 y5)) ?_)
  rintro _ s6 ⟨σ6,H6,I6,q6⟩
  refine wpAny_passesOwn hp (thn (hb _ s6 σ6 H6 _ I6 q6) fun f s7 q7=>?_)
  have again:∀ {σ7:St} {H7:Hp},Inv X (pins++pinsAt fp s5.heap) σ7 H7 s7→N σ7 H7→∃ m,m < n∧∃ i σ' H',Inv X pins σ' H' s7∧tn i s7.heap∧(∀ b∈fp,H' b=none)∧W i m σ' H':=fun {σ7 H7} I7 n7=>by
   obtain ⟨m',hm,w7⟩:=hN σ7 H7 n7
   refine ⟨m',hm,i+1,σ7,H7,I7.unpinned,T.keep _ _ _ st5 fun b hb o e=>(I7.pin (b,o) (List.mem_append_right _ (List.mem_append_right _ (eQ hb e)))).1,fun b hb=>?_,w7⟩
   obtain ⟨o,e,d⟩:=T.obj _ _ st5 b hb
   exact (I7.pin (b,o) (List.mem_append_right _ (List.mem_append_right _ (eQ hb e)))).2.1
  cases f with
  | next=>obtain ⟨σ7,H7,I7,n7⟩:=q7;exact again I7 n7
  | cont=>obtain ⟨σ7,H7,I7,n7⟩:=q7;exact again I7 n7
  | brk=>obtain ⟨σ7,H7,I7,q7⟩:=q7;exact ⟨σ7,H7,I7.unpinned,q7⟩
  | ret v=>obtain ⟨x7,σ7,H7,I7,r7,q7⟩:=q7;exact ⟨x7,σ7,H7,I7.unpinned,r7,q7⟩
end
end L2
namespace L2
open PySem PySem.Spec PyProof.Rows
abbrev R2:=V→V→Hp→VK→Prop
def OpR (X:Cx) (f:Value→Value→Sem Value) (r:R2):Prop:=
 ∀ (pins:List (Addr×Obj)) (s:Shared) (σ:St) (H:Hp) (x y:V) (v u:Value) (Q:VK),Inv X pins σ H s→RelV x v→RelV y u→r x y H Q→
  wpAny (model X.prog X.w) X.A (f v u) (EP X pins σ Q) X.xe s
def UnR (X:Cx) (f:Value→Sem Value) (r:V→Hp→VK→Prop):Prop:=
 ∀ (pins:List (Addr×Obj)) (s:Shared) (σ:St) (H:Hp) (x:V) (v:Value) (Q:VK),Inv X pins σ H s→RelV x v→r x H Q→
  wpAny (model X.prog X.w) X.A (f v) (EP X pins σ Q) X.xe s
def CallR (X:Cx) (f:Value) (r:List V→Hp→VK→Prop):Prop:=
 ∀ (pins:List (Addr×Obj)) (s:Shared) (σ:St) (H:Hp) (xs:List V) (us:List Value) (Q:VK),Inv X pins σ H s→Vals xs us→r xs H Q→
  wpAny (model X.prog X.w) X.A (call f us) (EP X pins σ Q) X.xe s
def TruR (X:Cx) (r:V→Hp→(Bool→Hp→Prop)→Prop):Prop:=
 ∀ (pins:List (Addr×Obj)) (s:Shared) (σ:St) (H:Hp) (x:V) (v:Value) (Q:Bool→Hp→Prop),Inv X pins σ H s→RelV x v→r x H Q→
  wpAny (model X.prog X.w) X.A (truthy v) (TP X pins σ Q) X.xe s
def tOp (r:R2) (ta tb:TE):TE:=fun σ H Q=>ta σ H fun x H1=>tb σ H1 fun y H2=>r x y H2 Q
def tUn (r:V→Hp→VK→Prop) (ta:TE):TE:=fun σ H Q=>ta σ H fun x H1=>r x H1 Q
def rI (C:Int→Int→Prop) (g:Int→Int→V):R2:=fun x y H Q=>∃ i j,x=.int i∧y=.int j∧C i j∧Q (g i j) H
def rI0 (g:Int→Int→V):R2:=fun x y H Q=>∃ i j,x=.int i∧y=.int j∧Q (g i j) H
def rU (g:Int→V):V→Hp→VK→Prop:=fun x H Q=>∃ i,x=.int i∧Q (g i) H
section
variable {X:Cx} {a b c:Expr} {ta tb tc:TE} {pos:Pos}
theorem binT (ha:PE X a ta) (hb:PE X b tb) {pins:List (Addr×Obj)} {s:Shared} {σ:St} {H:Hp} {R:V→V→Hp→Prop} (I:Inv X pins σ H s)
  (h:ta σ H fun x H1=>tb σ H1 fun y H2=>R x y H2) {Q:Value→Shared→Prop} {f:Value→Value→Sem Value}
  (hf:∀ v u s2 x y H2,Inv X pins σ H2 s2→RelV x v→RelV y u→R x y H2→wpAny (model X.prog X.w) X.A (f v u) Q X.xe s2):
  wpAny (model X.prog X.w) X.A (eval a X.env) (fun v s₁=>wpAny (model X.prog X.w) X.A (eval b X.env) (fun u s₂=>wpAny (model X.prog X.w) X.A (f v u) Q X.xe s₂) X.xe s₁) X.xe s:=by
 refine thn (ha pins s σ H _ I h) ?_
 rintro v s1 ⟨x,H1,I1,r1,q1⟩
 refine thn (hb pins s1 σ H1 _ I1 q1) ?_
 rintro u s2 ⟨y,H2,I2,r2,q2⟩
 exact hf v u s2 x y H2 I2 r1 r2 q2
theorem a2z {op:Operator} {r:R2} (ho:OpR X (binaryOp op) r) (ha:PE X a ta) (hb:PE X b tb):PE X (.BinOp a op b pos) (tOp r ta tb):=by
 intro pins s σ H Q I h
 exact wpAny_BinOp (binT ha hb I h fun v u s2 x y H2 I2 rx ry q=>ho pins s2 σ H2 x y v u Q I2 rx ry q)
theorem a2w {op:UnaryOp} {r:V→Hp→VK→Prop} (ho:UnR X (unaryOp op) r) (ha:PE X a ta):PE X (.UnaryOp op a pos) (tUn r ta):=by
 intro pins s σ H Q I h
 exact UnaryOp_ (thn (ha pins s σ H _ I h) fun v s1 ⟨x,H1,I1,r1,q1⟩=>ho pins s1 σ H1 x v Q I1 r1 q1)
theorem opI {f:Value→Value→Sem Value} {C:Int→Int→Prop} {g:Int→Int→Int}
  (rule:∀ (i j:Int) (t u:Tok) (s:Shared) (Q:Value→Shared→Prop) (E:Value→Shared→Prop),C i j→Q (.int (g i j) s.toks) {s with toks:=s.toks+1}→wpAny (model X.prog X.w) X.A (f (.int i t) (.int j u)) Q E s):
  OpR X f (rI C fun i j=>.int (g i j)):=by
 intro pins s σ H x y v u Q I rx ry h
 obtain ⟨i,j,rfl,rfl,hc,q⟩:=h
 obtain ⟨t,rfl⟩:=rx
 obtain ⟨t',rfl⟩:=ry
 exact rule i j t t' s _ _ hc ⟨.int (g i j),H,I.tok _,⟨_,rfl⟩,q⟩
theorem opI0 {f:Value→Value→Sem Value} {g:Int→Int→Int}
  (rule:∀ (i j:Int) (t u:Tok) (s:Shared) (Q:Value→Shared→Prop) (E:Value→Shared→Prop),Q (.int (g i j) s.toks) {s with toks:=s.toks+1}→wpAny (model X.prog X.w) X.A (f (.int i t) (.int j u)) Q E s):
  OpR X f (rI0 fun i j=>.int (g i j)):=by
 intro pins s σ H x y v u Q I rx ry h
 obtain ⟨i,j,rfl,rfl,q⟩:=h
 obtain ⟨t,rfl⟩:=rx
 obtain ⟨t',rfl⟩:=ry
 exact rule i j t t' s _ _ ⟨.int (g i j),H,I.tok _,⟨_,rfl⟩,q⟩
theorem opB0 {f:Value→Value→Sem Value} {g:Int→Int→Bool}
  (rule:∀ (i j:Int) (t u:Tok) (s:Shared) (Q:Value→Shared→Prop) (E:Value→Shared→Prop),Q (.bool (g i j)) s→wpAny (model X.prog X.w) X.A (f (.int i t) (.int j u)) Q E s):
  OpR X f (rI0 fun i j=>.bl (g i j)):=by
 intro pins s σ H x y v u Q I rx ry h
 obtain ⟨i,j,rfl,rfl,q⟩:=h
 obtain ⟨t,rfl⟩:=rx
 obtain ⟨t',rfl⟩:=ry
 exact rule i j t t' s _ _ ⟨.bl (g i j),H,I,rfl,q⟩
def CDiv (i j:Int):Prop:=0 < j∧j < 1073741824
def CPow (i j:Int):Prop:=0≤j∧j≤1000000∧i.natAbs < 2^64
def CMul (i j:Int):Prop:=(-(2^64) < i∧i < 2^64)∨(-(2^64) < j∧j < 2^64)
theorem CMul.ok {i j:Int} (h:CMul i j):IntMulOk i j:=by
 rcases h with ⟨h1,h2⟩ | ⟨h1,h2⟩
 ·exact .of_left (intBits_le_64 h1 h2)
 ·exact .of_right (intBits_le_64 h1 h2)
theorem a2C:OpR X (binaryOp .Add) (rI0 fun i j=>.int (i+j)):=opI0 fun _ _ _ _ _ _ _ q=>add_int q
theorem a1s:OpR X (binaryOp .Sub) (rI0 fun i j=>.int (i - j)):=opI0 fun _ _ _ _ _ _ _ q=>sub_int q
theorem a1d:OpR X (binaryOp .Mult) (rI CMul fun i j=>.int (i*j)):=opI fun _ _ _ _ _ _ _ hc q=>mul_int q hc.ok
theorem a0j:OpR X (binaryOp .FloorDiv) (rI CDiv fun i j=>.int (i / j)):=opI fun i j _ _ _ _ _ hc q=>by
 have h1:(0:Int) < j:=hc.1
 have h2:j < 1073741824:=hc.2
 exact floordiv_int (by omega) (by rw [Int.fdiv_eq_ediv_of_nonneg i (by omega)];exact q) (.inl (PyProof.noPylong_small (by omega)))
theorem a27:OpR X (binaryOp .Mod) (rI (fun _ j=>0 < j) fun i j=>.int (i % j)):=opI fun i j _ _ _ _ _ hc q=>by
 have h1:(0:Int) < j:=hc
 exact mod_int' (by omega) (by rw [Int.fmod_eq_emod_of_nonneg i (by omega)];exact q)
theorem a1a:OpR X (binaryOp .Pow) (rI CPow fun i j=>.int (i^j.toNat)):=opI fun _ _ _ _ _ _ _ hc q=>pow_int_small hc.1 hc.2.1 hc.2.2 q
theorem unI {f:Value→Sem Value} {g:Int→Int}
  (rule:∀ (i:Int) (t:Tok) (s:Shared) (Q:Value→Shared→Prop) (E:Value→Shared→Prop),Q (.int (g i) s.toks) {s with toks:=s.toks+1}→wpAny (model X.prog X.w) X.A (f (.int i t)) Q E s):
  UnR X f (rU fun i=>.int (g i)):=by
 intro pins s σ H x v Q I rx h
 obtain ⟨i,rfl,q⟩:=h
 obtain ⟨t,rfl⟩:=rx
 exact rule i t s _ _ ⟨.int (g i),H,I.tok _,⟨_,rfl⟩,q⟩
theorem rO:UnR X (unaryOp .USub) (rU fun i=>.int (-i)):=unI fun _ _ _ _ _ q=>neg_int q
end
def scal:V→V→Bool
 | .non,.non=>true | .non,.int _=>true | .int _,.non=>true | .non,.bl _=>true | .bl _,.non=>true | .non,.str _=>true | .str _,.non=>true
 | .int _,.int _=>true | .bl _,.bl _=>true | .str _,.str _=>true | .byt _,.byt _=>true
 | .int _,.str _=>true | .str _,.int _=>true | .bl _,.str _=>true | .str _,.bl _=>true
 | _,_=>false
def rEq:R2:=fun x y H Q=>scal x y=true∧Q (.bl (decide (x=y))) H
def rNe:R2:=fun x y H Q=>scal x y=true∧Q (.bl (!decide (x=y))) H
theorem wE {i j:Int}:decide (V.int i=V.int j)=(i==j):=by
 rw [Bool.eq_iff_iff]
 simp
theorem yL {i j:Bool}:decide (V.bl i=V.bl j)=(i==j):=by
 rw [Bool.eq_iff_iff]
 simp
theorem wJ {i j:Str}:decide (V.str i=V.str j)=(i==j):=by
 rw [Bool.eq_iff_iff]
 simp
theorem wD {i j:Array UInt8}:decide (V.byt i=V.byt j)=(i.toList==j.toList):=by
 rw [Bool.eq_iff_iff]
 cases i
 cases j
 simp
section
variable {X:Cx} {a b c:Expr} {ta tb tc:TE} {pos:Pos}
theorem bE {pins:List (Addr×Obj)} {σ:St} {H:Hp} {s:Shared} {Q:VK} {k k':Bool} (I:Inv X pins σ H s) (q:Q (.bl k) H) (e:k=k'):EP X pins σ Q (.bool k') s:=by
 subst e
 exact ⟨.bl k,H,I,rfl,q⟩
theorem a2a:OpR X (compareOp .Eq) rEq:=by
 intro pins s σ H x y v u Q I rx ry h
 obtain ⟨hs,q⟩:=h
 cases x with
 | non=>
  cases rx
  cases y with
  | non=>cases ry;exact PySem.EqNone.eq_none_none (bE I q (by simp))
  | bl j=>cases ry;exact PySem.EqNone.eq_none_bool (bE I q (by simp))
  | int j=>obtain ⟨t',rfl⟩:=ry;exact PySem.EqNone.eq_none_int (bE I q (by simp))
  | str j=>obtain ⟨t',rfl⟩:=ry;exact PySem.EqNone.eq_none_str (bE I q (by simp))
  | _=>exact absurd (show false=true from hs) Bool.false_ne_true
 | bl i=>
  cases rx
  cases y with
  | non=>cases ry;exact PySem.EqNone.eq_bool_none (bE I q (by simp))
  | bl j=>cases ry;exact eq_bool (bE I q yL)
  | str j=>obtain ⟨t',rfl⟩:=ry;exact PySem.EqMixed.eq_bool_str (bE I q (by simp))
  | _=>exact absurd (show false=true from hs) Bool.false_ne_true
 | int i=>
  obtain ⟨t,rfl⟩:=rx
  cases y with
  | non=>cases ry;exact PySem.EqNone.eq_int_none (bE I q (by simp))
  | int j=>obtain ⟨t',rfl⟩:=ry;exact eq_int (bE I q wE)
  | str j=>obtain ⟨t',rfl⟩:=ry;exact PySem.EqMixed.eq_int_str (bE I q (by simp))
  | _=>exact absurd (show false=true from hs) Bool.false_ne_true
 | str i=>
  obtain ⟨t,rfl⟩:=rx
  cases y with
  | non=>cases ry;exact PySem.EqNone.eq_str_none (bE I q (by simp))
  | bl j=>cases ry;exact PySem.EqMixed.eq_str_bool (bE I q (by simp))
  | int j=>obtain ⟨t',rfl⟩:=ry;exact PySem.EqMixed.eq_str_int (bE I q (by simp))
  | str j=>obtain ⟨t',rfl⟩:=ry;exact eq_str (bE I q wJ)
  | _=>exact absurd (show false=true from hs) Bool.false_ne_true
 | byt i=>
  obtain ⟨t,rfl⟩:=rx
  cases y with
  | byt j=>obtain ⟨t',rfl⟩:=ry;exact PySem.W.eq_bytes (bE I q wD)
  | _=>exact absurd (show false=true from hs) Bool.false_ne_true
 | _=>cases y<;>exact absurd (show false=true from hs) Bool.false_ne_true
theorem a2q:OpR X (compareOp .NotEq) rNe:=by
 intro pins s σ H x y v u Q I rx ry h
 obtain ⟨hs,q⟩:=h
 cases x with
 | non=>
  cases rx
  cases y with
  | non=>cases ry;exact PySem.EqNone.ne_none_none (bE I q (by simp))
  | bl j=>cases ry;exact PySem.EqNone.ne_none_bool (bE I q (by simp))
  | int j=>obtain ⟨t',rfl⟩:=ry;exact PySem.EqNone.ne_none_int (bE I q (by simp))
  | str j=>obtain ⟨t',rfl⟩:=ry;exact PySem.EqNone.ne_none_str (bE I q (by simp))
  | _=>exact absurd (show false=true from hs) Bool.false_ne_true
 | bl i=>
  cases rx
  cases y with
  | non=>cases ry;exact PySem.EqNone.ne_bool_none (bE I q (by simp))
  | bl j=>cases ry;exact ne_bool (bE I q (congrArg not yL))
  | str j=>obtain ⟨t',rfl⟩:=ry;exact PySem.EqMixed.ne_bool_str (bE I q (by simp))
  | _=>exact absurd (show false=true from hs) Bool.false_ne_true
 | int i=>
  obtain ⟨t,rfl⟩:=rx
  cases y with
  | non=>cases ry;exact PySem.EqNone.ne_int_none (bE I q (by simp))
  | int j=>obtain ⟨t',rfl⟩:=ry;exact ne_int (bE I q (congrArg not wE))
  | str j=>obtain ⟨t',rfl⟩:=ry;exact PySem.EqMixed.ne_int_str (bE I q (by simp))
  | _=>exact absurd (show false=true from hs) Bool.false_ne_true
 | str i=>
  obtain ⟨t,rfl⟩:=rx
  cases y with
  | non=>cases ry;exact PySem.EqNone.ne_str_none (bE I q (by simp))
  | bl j=>cases ry;exact PySem.EqMixed.ne_str_bool (bE I q (by simp))
  | int j=>obtain ⟨t',rfl⟩:=ry;exact PySem.EqMixed.ne_str_int (bE I q (by simp))
  | str j=>obtain ⟨t',rfl⟩:=ry;exact ne_str (bE I q (congrArg not wJ))
  | _=>exact absurd (show false=true from hs) Bool.false_ne_true
 | byt i=>
  obtain ⟨t,rfl⟩:=rx
  cases y with
  | byt j=>obtain ⟨t',rfl⟩:=ry;exact PySem.W.ne_bytes (bE I q (congrArg not wD))
  | _=>exact absurd (show false=true from hs) Bool.false_ne_true
 | _=>cases y<;>exact absurd (show false=true from hs) Bool.false_ne_true
theorem a2v:OpR X (compareOp .Lt) (rI0 fun i j=>.bl (decide (i < j))):=opB0 fun _ _ _ _ _ _ _ q=>lt_int q
theorem a2t:OpR X (compareOp .LtE) (rI0 fun i j=>.bl (decide (i≤j))):=opB0 fun _ _ _ _ _ _ _ q=>le_int q
theorem a2l:OpR X (compareOp .Gt) (rI0 fun i j=>.bl (decide (j < i))):=opB0 fun _ _ _ _ _ _ _ q=>gt_int q
theorem a2f:OpR X (compareOp .GtE) (rI0 fun i j=>.bl (decide (j≤i))):=opB0 fun _ _ _ _ _ _ _ q=>ge_int q
theorem xK:OpR X (compareOp .Lt) (fun x y H Q=>∃ i j,x=.str i∧y=.str j∧Q (.bl (decide (i.cps.toList < j.cps.toList))) H):=by
 intro pins s σ H x y v u Q I rx ry h
 obtain ⟨i,j,rfl,rfl,q⟩:=h
 obtain ⟨t,rfl⟩:=rx
 obtain ⟨t',rfl⟩:=ry
 exact lt_str (bE I q rfl)
theorem wT:OpR X (compareOp .In) (fun x y H Q=>∃ i j,x=.str i∧y=.str j∧Q (.bl (!(Builtin.Str.occurrences j i 0 j.length 1).isEmpty)) H):=by
 intro pins s σ H x y v u Q I rx ry h
 obtain ⟨i,j,rfl,rfl,q⟩:=h
 obtain ⟨t,rfl⟩:=rx
 obtain ⟨t',rfl⟩:=ry
 exact in_str (bE I q rfl)
theorem a2V:OpR X (compareOp .Is) (fun x y H Q=>y=.non∧Q (.bl (decide (x=.non))) H):=by
 intro pins s σ H x y v u Q I rx ry h
 obtain ⟨rfl,q⟩:=h
 cases ry
 refine is_none_gen (bE I q ?_)
 cases x<;>first
  | (cases rx;rfl)
  | (obtain ⟨t,rfl⟩:=rx;rfl)
theorem a0N:OpR X (compareOp .IsNot) (fun x y H Q=>y=.non∧Q (.bl (!decide (x=.non))) H):=by
 intro pins s σ H x y v u Q I rx ry h
 obtain ⟨rfl,q⟩:=h
 cases ry
 refine isnot_none_gen (bE I q ?_)
 cases x<;>first
  | (cases rx;rfl)
  | (obtain ⟨t,rfl⟩:=rx;rfl)
theorem qK:OpR X (compareOp .NotIn) (fun x y H Q=>∃ i j,x=.str i∧y=.str j∧Q (.bl (!(!(Builtin.Str.occurrences j i 0 j.length 1).isEmpty))) H):=by
 intro pins s σ H x y v u Q I rx ry h
 obtain ⟨i,j,rfl,rfl,q⟩:=h
 obtain ⟨t,rfl⟩:=rx
 obtain ⟨t',rfl⟩:=ry
 exact notIn_str (bE I q rfl)
theorem nomark (b:Expr) {op:CmpOp} (h:op≠.In:=by decide) (h2:op≠.NotIn:=by decide):behindInMarks op b=false:=by
 have e1:(op==CmpOp.In)=false:=by cases op<;>first | rfl | exact absurd rfl h
 have e2:(op==CmpOp.NotIn)=false:=by cases op<;>first | rfl | exact absurd rfl h2
 cases b<;>simp [behindInMarks,e1,e2]
theorem a0F {op:CmpOp} {r:R2} (ho:OpR X (compareOp op) r) (ha:PE X a ta) (hb:PE X b tb) (hm:behindInMarks op b=false):PE X (.Compare a [op] [b] pos) (tOp r ta tb):=by
 intro pins s σ H Q I h
 exact wpAny_Compare1 (binT ha hb I h fun v u s2 x y H2 I2 rx ry q=>ho pins s2 σ H2 x y v u Q I2 rx ry q) hm
def tTest (t:TE):TT:=fun σ H Q=>t σ H fun x H'=>∃ k,x=.bl k∧Q k H'
theorem a0y {op:CmpOp} {r:R2} (ho:OpR X (compareOp op) r) (ha:PE X a ta) (hb:PE X b tb) (hm:behindInMarks op b=false):PT X (.Compare a [op] [b] pos) (tTest (tOp r ta tb)):=by
 intro pins s σ H Q I h
 refine wpAny_isTrue_Compare1 (thn (ha pins s σ H _ I h) fun v s1 ⟨x,H1,I1,r1,q1⟩=>thn (hb pins s1 σ H1 _ I1 q1) fun u s2 ⟨y,H2,I2,r2,q2⟩=>
  thn (ho pins s2 σ H2 x y v u _ I2 r1 r2 q2) fun c s3 ⟨z,H3,I3,r3,k,e,q3⟩=>?_) hm
 subst e
 cases r3
 exact wpAny_truthy_bool ⟨H3,I3,q3⟩
def tChain (r r':R2) (ta tb tc:TE):TE:=fun σ H Q=>ta σ H fun x H1=>tb σ H1 fun y H2=>r x y H2 fun z H3=>∃ k,z=.bl k∧
 (if k=true then tc σ H3 fun w' H4=>r' y w' H4 Q else Q (.bl false) H3)
theorem a00 {op op':CmpOp} {r r':R2} (ho:OpR X (compareOp op) r) (ho':OpR X (compareOp op') r') (ha:PE X a ta) (hb:PE X b tb) (hc:PE X c tc)
  (hm:lastMarks [op,op'] [b,c]=false:=by with_unfolding_all rfl):PT X (.Compare a [op,op'] [b,c] pos) (tTest (tChain r r' ta tb tc)):=by
 intro pins s σ H Q I h
 refine isTrue_chain (thn (ha pins s σ H _ I h) fun v s1 ⟨x,H1,I1,r1,q1⟩=>test_link (thn (hb pins s1 σ H1 _ I1 q1) fun u s2 ⟨y,H2,I2,r2,q2⟩=>
  thn (ho pins s2 σ H2 x y v u _ I2 r1 r2 q2) fun d s3 ⟨z,H3,I3,r3,k,e,q3⟩=>?_)) hm
 subst e
 cases r3
 refine wpAny_truthy_bool ?_
 cases k with
 | false=>
  obtain ⟨k',e',q'⟩:=q3
  cases e'
  exact ite_ff ⟨H3,I3,q'⟩
 | true=>
  refine ite_tt (test_last (thn (hc pins s3 σ H3 _ I3 q3) fun w' s4 ⟨z',H4,I4,r4,q4⟩=>thn (ho' pins s4 σ H4 y z' u w' _ I4 r2 r4 q4) fun d' s5 ⟨z2,H5,I5,r5,k2,e2,q5⟩=>?_))
  subst e2
  cases r5
  exact wpAny_truthy_bool ⟨H5,I5,q5⟩
def TruV (K:PySem.W.Frag) (x:V) (H:Hp) (k:Bool):Prop:=
 match x with
 | .non=>k=false
 | .bl b=>k=b
 | .int i=>k=(i !=0)
 | .str y=>y.length≤sizeLine∧k=((y.length:Int) !=0)
 | .byt y=>y.size≤sizeLine∧k=((y.size:Int) !=0)
 | .ref p=>(∃ xs,SqL K H p xs∧k= !xs.isEmpty)∨(∃ xs,SqT K H p xs∧k= !xs.isEmpty)∨∃ kvs,H p=some (.dK kvs)∧k= !kvs.isEmpty
 | _=>False
theorem vC {κ:Type} {kvs:List (κ×V)} {vs:List (κ×Value)} (r:KV kvs vs):(!vs.isEmpty)= !kvs.isEmpty:=by
 cases r<;>rfl
theorem oR {xs:List V} {its:List Value} (r:Vals xs its):(!its.toArray.isEmpty)= !xs.isEmpty:=by
 cases r<;>simp
theorem line63:(sizeLine:Nat) < 2^63:=by rw [sizeLine_eq];decide
theorem a2B:TruR X (fun x H Q=>∃ k,TruV X.K x H k∧Q k H):=by
 intro pins s σ H x v Q I rx h
 obtain ⟨k,e,q⟩:=h
 have hl:=line63
 have hs:sizeLine=16777216:=sizeLine_eq
 cases x with
 | non=>
  cases rx
  have e':k=false:=e
  subst e'
  exact truthy_none ⟨H,I,q⟩
 | bl b=>
  cases rx
  have e':k=b:=e
  subst e'
  exact wpAny_truthy_bool ⟨H,I,q⟩
 | int i=>
  obtain ⟨t,rfl⟩:=rx
  have e':k=(i !=0):=e
  subst e'
  exact PySem.P.truthy_int ⟨H,I,q⟩
 | str y=>
  obtain ⟨t,rfl⟩:=rx
  obtain ⟨hy,e'⟩:y.length≤sizeLine∧k=((y.length:Int) !=0):=e
  subst e'
  exact PySem.P.truthy_str (by omega) ⟨H,I.tok _,q⟩
 | byt y=>
  obtain ⟨t,rfl⟩:=rx
  obtain ⟨hy,e'⟩:y.size≤sizeLine∧k=((y.size:Int) !=0):=e
  subst e'
  exact PySem.W.truthy_bytes (by omega) ⟨H,I.tok _,q⟩
 | ref p=>
  cases rx
  have e':(∃ xs,SqL X.K H p xs∧k= !xs.isEmpty)∨(∃ xs,SqT X.K H p xs∧k= !xs.isEmpty)∨∃ kvs,H p=some (.dK kvs)∧k= !kvs.isEmpty:=e
  rcases e' with ⟨xs,hx,e'⟩ | ⟨xs,hx,e'⟩ | ⟨kvs,hx,e'⟩
  ·subst e'
   obtain ⟨its,r,pl,hz⟩:=I.list hx
   have hlen:=r.length
   exact wpAny_truthy_list pl.isList (by simp only [List.size_toArray];omega) ⟨H,I.tok _,by rw [oR r];exact q⟩
  ·subst e'
   obtain ⟨its,r,pl,hz⟩:=I.tuple hx
   have hlen:=r.length
   exact truthy_tuple pl (by simp only [List.size_toArray];omega) ⟨H,I.tok _,by rw [oR r];exact q⟩
  ·subst e'
   obtain ⟨hz,hS,vs,r,m⟩:kvs.length≤sizeLine∧(p==sysModules)=false∧∃ vs,KV kvs vs∧s.heap.DictOf (mixKind X.prog X.w) p vs:=I.hok p _ hx
   have hlen:kvs.length=vs.length:=Paired.length r
   exact wpAny_truthy_dict hS m (by omega) ⟨H,I.tok _,by rw [vC r];exact q⟩
 | _=>exact (show False from e).elim
theorem yR (ha:PE X a ta) (he:∀ whole,isTrue a X.env whole=(do let v ← whole;standAt a.pos;holding [v] (truthy v))):
  PT X a (fun σ H Q=>ta σ H fun x H'=>∃ k,TruV X.K x H' k∧Q k H'):=by
 intro pins s σ H Q I h
 exact isTrue_plain (thn (ha pins s σ H _ I h) fun v s1 ⟨x,H1,I1,r1,q1⟩=>a2B pins s1 σ H1 x v Q I1 r1 q1) (he _)
theorem vF:OpR X (binaryOp .Add) (fun x y H Q=>∃ i j,x=.str i∧y=.str j∧i.length+j.length≤sizeLine∧Q (.str (i++j)) H):=by
 intro pins s σ H x y v u Q I rx ry h
 obtain ⟨i,j,rfl,rfl,hz,q⟩:=h
 obtain ⟨t,rfl⟩:=rx
 obtain ⟨t',rfl⟩:=ry
 exact add_str (fun t' tk=>⟨.str (i++j),H,I.tok _,⟨_,rfl⟩,q⟩) hz
theorem vals1 {x:V} {us:List Value} (r:Vals [x] us):∃ u,us=[u]∧RelV x u:=by
 cases r with
 | cons r1 r2=>cases r2;exact ⟨_,rfl,r1⟩
def LenV (K:PySem.W.Frag) (x:V) (H:Hp) (n:Nat):Prop:=
 match x with
 | .str y=>y.length≤sizeLine∧n=y.length
 | .byt y=>y.size≤sizeLine∧n=y.size
 | .ref p=>(∃ xs,SqL K H p xs∧n=xs.length)∨∃ xs,SqT K H p xs∧n=xs.length
 | _=>False
theorem oS:CallR X (.builtin "len") (fun xs H Q=>∃ x n,xs=[x]∧LenV X.K x H n∧Q (.int n) H):=by
 intro pins s σ H xs us Q I r h
 obtain ⟨x,n,rfl,e,q⟩:=h
 obtain ⟨u,rfl,rx⟩:=vals1 r
 have hl:=line63
 have hs:sizeLine=16777216:=sizeLine_eq
 cases x with
 | str y=>
  obtain ⟨t,rfl⟩:=rx
  obtain ⟨hy,e'⟩:y.length≤sizeLine∧n=y.length:=e
  subst e'
  exact len_str (by omega) ⟨.int _,H,I.tok _,⟨_,rfl⟩,q⟩
 | byt y=>
  obtain ⟨t,rfl⟩:=rx
  obtain ⟨hy,e'⟩:y.size≤sizeLine∧n=y.size:=e
  subst e'
  exact PySem.W.len_bytes (by omega) ⟨.int _,H,I.tok _,⟨_,rfl⟩,q⟩
 | ref p=>
  cases rx
  have e':(∃ xs,SqL X.K H p xs∧n=xs.length)∨∃ xs,SqT X.K H p xs∧n=xs.length:=e
  rcases e' with ⟨xs,hx,e'⟩ | ⟨xs,hx,e'⟩
  ·subst e'
   obtain ⟨its,r',pl,hz⟩:=I.list hx
   have hlen:=r'.length
   exact Calls.call_len_list pl.isList (by simp only [List.size_toArray];omega) ⟨.int xs.length,H,I.tok _,⟨_,by simp only [List.size_toArray];rw [hlen]⟩,q⟩
  ·subst e'
   obtain ⟨its,r',pl,hz⟩:=I.tuple hx
   have hlen:=r'.length
   exact len_tuple pl (by simp only [List.size_toArray];omega) ⟨.int xs.length,H,I.tok _,⟨_,by simp only [List.size_toArray];rw [hlen]⟩,q⟩
 | _=>exact (show False from e).elim
end
end L2
namespace L2
open PySem PySem.Spec PyProof.Rows
structure ObjM (h:Heap) (x dx C:Addr) (mA:Str→Option Value):Prop where
 obj:h.get? x=some (PySem.W.instObj C dx)
 ns:h.Ns1 dx mA
 ne:dx≠x
theorem x6 {h:Heap} {dx:Addr} {mA:Str→Option Value} (n:h.Ns1 dx mA):∃ od,h.get? dx=some od∧∀ name,PySem.W.lookIn name od=some (mA name):=by
 obtain ⟨o,es,ep,ho,hd,hk,_,hm⟩:=n
 refine ⟨o,ho,fun name=>?_⟩
 have e:=hm name
 unfold nsFind findBy at e
 rw [← Array.find?_toList] at e
 unfold PySem.W.lookIn
 rw [hd]
 dsimp only
 split
 ·rename_i y q
  rw [q] at e
  exact congrArg some e
 ·rename_i q
  rw [q] at e
  have a:es.toList.any (·.refKey)=false:=by
   rw [List.any_eq_false]
   intro y hy
   obtain ⟨z,t,hkey⟩:=hk y (Array.mem_toList_iff.mp hy)
   simp [DictEntry.refKey,hkey]
  have a':¬es.toList.any (·.refKey)=true:=by rw [a];exact Bool.false_ne_true
  rw [if_neg a']
  exact congrArg some e
theorem ObjM.look {h:Heap} {x dx C:Addr} {mA:Str→Option Value} (I:ObjM h x dx C mA):∃ od,PySem.W.InstAt h x (PySem.W.instObj C dx) C (some od)∧∀ name,PySem.W.lookIn name od=some (mA name):=
 let ⟨od,ho,hl⟩:=x6 I.ns
 ⟨od,⟨I.obj,rfl,rfl,ho⟩,hl⟩
section
variable {prog:Program} {w:World} {A:Around} {E:Value→Shared→Prop} {s:Shared} {K:PySem.W.Frag} {x dx C f:Addr} {mA:Str→Option Value} {name:Str} {v:Value}
end
theorem RelO.some_of {v:V} {o:Option Value} (r:RelO (some v) o):∃ u,o=some u∧RelV v u:=by
 cases o with
 | none=>exact (show False from r).elim
 | some u=>exact ⟨u,rfl,r⟩
section
variable {P:Program} {w:World} {H H':Hp} {h h':Heap} {a C dx:Addr} {fs fs':List (Str×V)}
theorem a0e (hok:HOk P w H h) (e:H a=some (.ins C dx fs)):∃ mA,ObjM h a dx C mA∧(∀ f,RelO (fs.lookup f) (mA f))∧PySem.Within mA (fs.map (·.1))∧fs.length≤1000∧H dx=some (.own a):=by
 obtain ⟨d,z,ne,ob,mA,n,r,q⟩:=(show ObjOk P w H h a (.ins C dx fs) from hok a _ e)
 exact ⟨mA,⟨ob,n,ne⟩,r,q,z,d⟩
end
structure Cls (K:PySem.W.Frag) (C:Addr):Prop where
 pg:PySem.W.plainGet K C Str.empty=true
 hd:PySem.W.hasDictIn K C=true
 po:PySem.W.plainOver K C=true
 sa:PySem.W.findIn K (.ref C) "__setattr__"=some (some (.builtin "object.__setattr__"))
theorem Cls.get {K:PySem.W.Frag} {C:Addr} (c:Cls K C) (f:Str):PySem.W.plainGet K C f=true:=c.pg
section
variable {X:Cx} {pins:List (Addr×Obj)} {σ:St} {H:Hp} {s:Shared} {a C dx:Addr} {fs:List (Str×V)} {f:Str} {v:V} {A:Around} {E:Value→Shared→Prop}
end
section
variable {X:Cx} {o e value:Expr} {f:Str} {pos pos' tpos:Pos} {ta tv:TE}
end
section
variable {X:Cx} {pins:List (Addr×Obj)} {σ:St} {H:Hp} {s:Shared} {A:Around} {E:Value→Shared→Prop} {Q:Value→Shared→Prop} {c:Value} {b:Bool}
inductive TyOf (K:PySem.W.Frag) (H:Hp):V→Value→Prop where
 | non:TyOf K H .non (.type "NoneType")
 | bl (x:Bool):TyOf K H (.bl x) (.type "bool")
 | int (i:Int):TyOf K H (.int i) (.type "int")
 | str (x:Str):TyOf K H (.str x) (.type "str")
 | flt (x:UInt64):TyOf K H (.flt x) (.type "float")
 | lst {a:Addr} {xs:List V} (e:H a=some (.lst xs)):TyOf K H (.ref a) (.type "list")
 | frz {a:Addr} {o:Obj} {xs:List V} (e:H a=some (.frz o (.lst xs))):TyOf K H (.ref a) (.type "list")
 | tup {a:Addr} {xs:List V} (e:H a=some (.tup xs)):TyOf K H (.ref a) (.type "tuple")
 | dK {a:Addr} {kvs:List (Key×V)} (e:H a=some (.dK kvs)):TyOf K H (.ref a) (.type "dict")
 | dT {a:Addr} {kvs:List (List Key×V)} (e:H a=some (.dT kvs)):TyOf K H (.ref a) (.type "dict")
 | ins {a C dx:Addr} {fs:List (Str×V)} (e:H a=some (.ins C dx fs)) (cl:Cls K C) (ha:PySem.W.findIn K (.ref C) "__class__"=some (some (.builtin "object.__class__")))
   (hn:PySem.W.specialIn K (.builtin "object.__class__") "__get__"=some (some (.builtin "getset_descriptor.__get__"))) (htk:PySem.W.takesIn K (.builtin "object.__class__")=some true)
   (hm:PySem.W.mroIn K C (.type "object")=some true):TyOf K H (.ref a) (.ref C)
theorem xD {x:V} {u t:Value} (I:Inv X pins σ H s) (rx:RelV x u) (ty:TyOf X.K H x t) (e:PySem.W.kitOne X.K t c=some b) (h:∀ tk,Q (.bool b) {s with toks:=tk}):
  wpAny (model X.prog X.w) A (call (.builtin "isinstance") [u,c]) Q E s:=by
 cases ty with
 | non=>cases (show u=Value.none from rx);exact PySem.W.kia_one PySem.W.kitx_none I.kIn True.intro e (fun z=>nomatch z) h
 | bl y=>cases (show u=Value.bool y from rx);exact PySem.W.kia_one PySem.W.kitx_bool I.kIn True.intro e (fun z=>nomatch z) h
 | int i=>obtain ⟨t,q⟩:=(show ∃ t,u=Value.int i t from rx);cases q;exact PySem.W.kia_one PySem.W.kitx_int I.kIn True.intro e (fun z=>nomatch z) h
 | str y=>obtain ⟨t,q⟩:=(show ∃ t,u=Value.str y t from rx);cases q;exact PySem.W.kia_one PySem.W.kitx_str I.kIn True.intro e (fun z=>nomatch z) h
 | flt y=>obtain ⟨t,q⟩:=(show ∃ t,u=Value.float y t from rx);cases q;exact PySem.W.kia_one PySem.W.kitx_float I.kIn True.intro e (fun z=>nomatch z) h
 | @lst a xs ea=>
  cases (show u=Value.ref a from rx)
  obtain ⟨_,_,n,_,h1⟩:=(show ObjOk X.prog X.w H s.heap a (.lst xs) from I.hok a _ ea)
  exact PySem.W.kia_one PySem.W.kitx_list I.kIn ⟨_,h1,rfl⟩ e (fun z=>nomatch z) h
 | @frz a ob xs ea=>
  cases (show u=Value.ref a from rx)
  obtain ⟨_,_,_,n,_,h1⟩:=(show ObjOk X.prog X.w H s.heap a (.frz ob (.lst xs)) from I.hok a _ ea)
  exact PySem.W.kia_one PySem.W.kitx_list I.kIn ⟨_,h1,rfl⟩ e (fun z=>nomatch z) h
 | @tup a xs ea=>
  cases (show u=Value.ref a from rx)
  obtain ⟨_,_,_,p⟩:=(show ObjOk X.prog X.w H s.heap a (.tup xs) from I.hok a _ ea)
  obtain ⟨o,h1,h2,_⟩:=p
  exact PySem.W.kia_one PySem.W.kitx_tuple I.kIn ⟨o,h1,h2⟩ e (fun z=>nomatch z) h
 | @dK a kvs ea=>
  cases (show u=Value.ref a from rx)
  obtain ⟨_,_,vs,_,p⟩:=(show ObjOk X.prog X.w H s.heap a (.dK kvs) from I.hok a _ ea)
  obtain ⟨o,es,ep,h1,h2,_⟩:=p
  exact PySem.W.kia_one PySem.W.kitx_dict I.kIn ⟨o,h1,h2.1⟩ e (fun z=>nomatch z) h
 | @dT a kvs ea=>
  cases (show u=Value.ref a from rx)
  obtain ⟨_,_,xs,_,o,es,ep,h1,h2,_⟩:=(show ObjOk X.prog X.w H s.heap a (.dT kvs) from I.hok a _ ea)
  exact PySem.W.kia_one PySem.W.kitx_dict I.kIn ⟨o,h1,h2.1⟩ e (fun z=>nomatch z) h
 | @ins a C dx fs ea cl ha hn htk hm=>
  cases (show u=Value.ref a from rx)
  obtain ⟨mA,O,_⟩:=a0e I.hok ea
  obtain ⟨od,J,_⟩:=O.look
  exact PySem.W.kia_one (PySem.W.kitx_own (cl.get _) cl.hd ha hn htk hm) I.kIn J e (fun z=>nomatch z) h
end
end L2
namespace L2
open PySem PySem.Spec PyProof.Rows
structure Room (k:Nat) (A:Around):Prop where
 hd:A.handled=none
 dp:A.depth+3*k+5 < recursionLimit
 un:A.units+16*k+200 < cLine
 gd:A.guards=some []
theorem Room.mono {j k:Nat} {A:Around} (r:Room k A) (h:j≤k):Room j A:=⟨r.hd,by have:=r.dp;omega,by have:=r.un;omega,r.gd⟩
theorem Room.deeper {k:Nat} {A:Around} (r:Room (k+1) A) (env:Env):Room k (A.deeper env):=
 ⟨r.hd,by have:=r.dp;show A.depth+1+3*k+5 < _;omega,by have:=r.un;show A.units+3+16*k+200 < _;omega,r.gd⟩
theorem Room.depth {k:Nat} {A:Around} (r:Room k A):A.depth < recursionLimit:=by have:=r.dp;omega
theorem Room.units {k:Nat} {A:Around} (r:Room k A):A.units+64 < cLine:=by have:=r.un;omega
def tNil:TA:=fun _ H Q=>Q [] H
def tCons (ta:TE) (tr:TA):TA:=fun σ H Q=>ta σ H fun x H1=>tr σ H1 fun xs H2=>Q (x::xs) H2
section
variable {X:Cx} {e:Expr} {es:List Expr} {te:TE} {t:TA} {pos:Pos}
theorem a26:PA X [] tNil:=fun _ _ _ _ H Q I h=>Calls.spliced_nil ⟨[],H,I,.nil,h⟩
theorem fQ (ha:PE X e te) (hr:PA X es t) (hs:starEach (e::es) X.env=(false,eval e X.env)::starEach es X.env:=by rfl):PA X (e::es) (tCons te t):=by
 intro pos pins s σ H Q I h
 rw [hs]
 show wpAny _ _ (spliced ((false,eval e X.env)::backTo pos (starEach es X.env))) _ _ s
 refine Calls.spliced_cons (thn (ha pins s σ H _ I h) ?_)
 rintro u s1 ⟨x,H1,I1,r1,q1⟩
 exact thn (hr pos pins s1 σ H1 _ I1 q1) fun us s2 ⟨xs,H2,I2,r2,q2⟩=>⟨x::xs,H2,I2,.cons r1 r2,q2⟩
def tTup (t:TA):TE:=fun σ H Q=>t σ H fun xs H1=>xs.length≤sizeLine∧∀ p,H1 p=none→Q (.ref p) (upd H1 p (.tup xs))
def tLst (t:TA):TE:=fun σ H Q=>t σ H fun xs H1=>xs.length≤sizeLine∧∀ p,H1 p=none→Q (.ref p) (upd H1 p (.lst xs))
theorem a1Y {x1} (h:PA X es t):PE X (.Tuple es x1 pos) (tTup t):=by
 intro pins s σ H Q I hq
 refine wpAny_Tuple_spliced (thn (h pos pins s σ H _ I hq) fun us s1 ⟨xs,H1,I1,r,z,q⟩=>⟨by rw [← r.length];exact z,?_⟩)
 have hf:H1 s1.heap.objs.size=none:=I1.hok.fresh (Nat.le_refl _)
 refine ⟨.ref s1.heap.objs.size,upd H1 s1.heap.objs.size (.tup xs),I1.laid (t':=s1.toks) (fun b u e=>Heap.get?_push_of_some _ e) (Nat.le_refl _) ?_,rfl,q _ hf⟩
 exact ⟨⟨z,NoDct.new rfl rfl⟩,us,r,⟨_,Heap.get?_push_size _ rfl,rfl,_,rfl⟩⟩
theorem a2S (h:PA X es t):PE X (.List es pos) (tLst t):=by
 intro pins s σ H Q I hq
 refine wpAny_List_spliced (thn (h pos pins s σ H _ I hq) fun us s1 ⟨xs,H1,I1,r,z,q⟩=>⟨by rw [← r.length];exact z,?_⟩)
 have hf:H1 s1.heap.objs.size=none:=I1.hok.fresh (Nat.le_refl _)
 refine ⟨.ref s1.heap.objs.size,upd H1 s1.heap.objs.size (.lst xs),I1.laid (t':=s1.toks) (fun b u e=>Heap.get?_push_of_some _ e) (Nat.le_refl _) ?_,rfl,q _ hf⟩
 exact ⟨z,us,0,r,Heap.get?_push_size _ rfl⟩
end
abbrev Sp:=List V→Hp→VK→XK→Prop
abbrev CXT:=List Env→Hp→Shared→XK→Value→Shared→Prop
structure Env0 (P:Program) (w:World) (K:PySem.W.Frag) (mg:Str→Option Value) (base:Heap) (A:Around) (outer:List Env) (s:Shared) (H:Hp):Prop where
 frames:A.frames=some outer
 mod:Mod K mg base
 bs:∀ b o,base.get? b=some o→s.heap.get? b=some o∧H b=none
 bsz:base.objs.size≤s.heap.objs.size
 funs:s.heap.FunFrames base outer
 frf:∀ b∈frs outer,H b=none
 hok:HOk P w H s.heap
 bare:AllBare s.gens
def CE (outer:List Env) (P:Program) (w:World) (H:Hp) (s:Shared) (Q:VK) (u:Value) (s':Shared):Prop:=
 ∃ v H',s'.os=s.os∧AllBare s'.gens∧Un (frs outer) [] H H' s.heap s'.heap∧HOk P w H' s'.heap∧RelV v u∧Q v H'
def CR (CX:CXT) (outer:List Env) (P:Program) (w:World) (H:Hp) (s:Shared) (Q:VK) (E:XK) (r:Result) (s':Shared):Prop:=
 match r with
 | .ok (.ret u)=>CE outer P w H s Q u s'
 | .ok _=>False
 | .error e=>CX outer H s E e s'
structure FnOk (P:Program) (w:World) (K:PySem.W.Frag) (mg:Str→Option Value) (base:Heap) (CX:CXT) (k:Nat) (f:Addr) (fd:FuncData) (ps:List Str) (sp:Sp):Prop where
 len:∀ vs H Q E,sp vs H Q E→vs.length=ps.length
 run:∀ (A:Around) (outer:List Env) (s:Shared) (H:Hp) (args:Args) (us:List Value) (vs:List V) (Q:VK) (E:XK),Room k A→Env0 P w K mg base A outer s H→BindsTo s fd args (ps.zip us)→Vals vs us→sp vs H Q E→
  codeAny (model P w) A (.call (.ref f) args) (CR CX outer P w H s Q E) s
theorem FnOk.mono {P:Program} {w:World} {K:PySem.W.Frag} {mg:Str→Option Value} {base:Heap} {CX:CXT} {j k:Nat} {f:Addr} {fd:FuncData} {ps:List Str} {sp:Sp} (F:FnOk P w K mg base CX j f fd ps sp) (h:j≤k):
  FnOk P w K mg base CX k f fd ps sp:=⟨F.len,fun A outer s H args us vs Q E hr=>F.run A outer s H args us vs Q E (hr.mono h)⟩
theorem FnOk.imp {P:Program} {w:World} {K:PySem.W.Frag} {mg:Str→Option Value} {base:Heap} {CX:CXT} {k:Nat} {f:Addr} {fd:FuncData} {ps:List Str} {sp sp':Sp} (F:FnOk P w K mg base CX k f fd ps sp)
  (h:∀ vs H Q E,sp' vs H Q E→sp vs H Q E):FnOk P w K mg base CX k f fd ps sp':=
 ⟨fun vs H Q E q=>F.len vs H Q E (h _ _ _ _ q),fun A outer s H args us vs Q E hr he hb hv hs=>F.run A outer s H args us vs Q E hr he hb hv (h _ _ _ _ hs)⟩
section
variable {X:Cx} {pins:List (Addr×Obj)} {σ:St} {H:Hp} {s s':Shared}
theorem Inv.env0 (I:Inv X pins σ H s):Env0 X.prog X.w X.K X.mg X.base X.A X.stack s H:=
 ⟨I.ok.frames,I.ok.mod,I.bs,Nat.le_trans I.ok.bsz I.sz,I.stack,I.stkFree,I.hok,I.bare⟩
theorem Inv.after {Q:VK} {u:Value} (I:Inv X pins σ H s) (h:CE X.stack X.prog X.w H s Q u s'):EP X pins σ Q u s':=by
 obtain ⟨v,H',os,bare,un,hok,r,q⟩:=h
 obtain ⟨hh,g,d,t,os'⟩:=s'
 obtain rfl:os'=s.os:=os
 exact ⟨v,H',I.call (h':=hh) (g':=g) (d':=d) (t':=t) (ch:=[]) un hok bare (fun b z=>absurd z (by simp)),r,q⟩
end
def tCall (sp:Sp) (dvs:List V) (E:XK) (t:TA):TE:=fun σ H Q=>t σ H fun vs H1=>sp (vs++dvs) H1 Q E
def Binds (K:PySem.W.Frag) (fd:FuncData) (ps:List Str) (ds:List Value):Prop:=
 ∀ (s:Shared) (us:List Value),K.In s.heap→(us++ds).length=ps.length→BindsTo s fd ⟨us,[]⟩ (ps.zip (us++ds))
theorem Binds.all {K:PySem.W.Frag} {fd:FuncData} {ps:List Str} (h:∀ us:List Value,us.length=ps.length→bindArgs fd ⟨us,[]⟩=pure (ps.zip us)):Binds K fd ps []:=fun s us _ hl=>by
 rw [List.append_nil] at hl ⊢
 exact .of_eq (h us hl)
def Passes (CX:CXT) (X:Cx) (E:XK):Prop:=∀ (pins:List (Addr×Obj)) (σ:St) (H:Hp) (s:Shared) (e:Value) (s':Shared),Inv X pins σ H s→CX X.stack H s E e s'→X.xe e s'
section
variable {X:Cx} {CX:CXT} {k:Nat} {f C:Addr} {fd:FuncData} {ps:List Str} {sp:Sp} {dvs:List V} {ds:List Value} {E:XK} {x m:Str} {p pos apos:Pos} {e o:Expr} {es:List Expr} {ta:TE} {t:TA}
theorem y7 {pins:List (Addr×Obj)} {σ:St} {H:Hp} {s:Shared} {Q:VK} {us:List Value} {vs:List V} (F:FnOk X.prog X.w X.K X.mg X.base CX k f fd ps sp) (hr:Room k X.A) (hb:Binds X.K fd ps ds) (hd:Vals dvs ds) (hx:Passes CX X E)
  (I:Inv X pins σ H s) (r:Vals vs us) (h:sp (vs++dvs) H Q E):wpAny (model X.prog X.w) X.A (call (.ref f) us) (EP X pins σ Q) X.xe s:=by
 have r2:Vals (vs++dvs) (us++ds):=r.append hd
 have hl:(us++ds).length=ps.length:=by rw [← r2.length];exact F.len _ _ _ _ h
 refine wpAny_call (codeAny_mono (F.run X.A X.stack s H ⟨us,[]⟩ (us++ds) (vs++dvs) Q E hr I.env0 (hb s us I.kIn hl) r2 h) fun r s' hq=>?_)
 cases r with
 | error e=>exact hx pins σ H s e s' I hq
 | ok fl=>
  cases fl with
  | ret u=>exact I.after hq
  | next=>exact False.elim hq
  | brk=>exact False.elim hq
  | cont=>exact False.elim hq
theorem a0k (F:FnOk X.prog X.w X.K X.mg X.base CX k f fd ps sp) (hr:Room k X.A) (hg:Gl X x) (hm:X.mg x=some (.ref f)) (hk:PySem.W.keepIn X.K (.ref f)=true) (hb:Binds X.K fd ps ds) (hd:Vals dvs ds) (hx:Passes CX X E)
  (ha:PA X (e::es) t) (hdb:(x==("__debug__":Str))=false:=by decide) (he:starEach (e::es) X.env=(false,eval e X.env)::starEach es X.env:=by rfl) (hpl:(backTo pos (starEach es X.env)).any (·.1)=false:=by rfl):
  PE X (.Call (.Name x p) (e::es) [] pos) (tCall sp dvs E t):=by
 intro pins s σ H Q I h
 refine wpAny_Call_Name_kw (rK I hg hm ?_ hdb)
 refine PySem.W.callWith_K (h₀:=X.base) I.ok.mod.kin hk (thn (ha pos pins s σ H _ I h) fun us s1 ⟨vs,H1,I1,r,q⟩=>⟨I1.kIn,?_⟩) he hpl
 exact y7 F hr hb hd hx I1 r q
theorem zG (F:FnOk X.prog X.w X.K X.mg X.base CX k f fd ps sp) (hr:Room k X.A) (hg:Gl X x) (hm:X.mg x=some (.ref f)) (hk:PySem.W.keepIn X.K (.ref f)=true) (hb:Binds X.K fd ps ds) (hd:Vals dvs ds) (hx:Passes CX X E)
  (hdb:(x==("__debug__":Str))=false:=by decide):PE X (.Call (.Name x p) [] [] pos) (tCall sp dvs E tNil):=by
 intro pins s σ H Q I h
 refine wpAny_Call_Name_kw (rK I hg hm ?_ hdb)
 exact PySem.W.callWith_K0 I.kIn hk (y7 (us:=[]) F hr hb hd hx I .nil h)
end
section
variable {X:Cx} {CX:CXT} {k:Nat} {f C:Addr} {fd:FuncData} {ps ks:List Str} {sp:Sp} {E:XK} {x m:Str} {p pos apos kpos:Pos} {e o:Expr} {es:List Expr} {kws:List Keyword} {te ta:TE} {t tk:TA} {nm:Option Str}
variable {g:List Value→List Value→List Value} {gV:List V→List V→List V}
end
structure FnScope (N P:List Str) (sc:Scope):Prop where
 kind:sc.kind=.function
 co:sc.isCoroutine=false
 gen:sc.isGenerator=false
 nd:N.Nodup
 pre:N.take P.length=P
 par:∀ x∈P,sc.names.lookup x=some .local∨sc.names.lookup x=some .cell
 nofree:∀ y∈sc.names,y.2≠.free
theorem pO {kindOf:Str→Option NameKind} {x:Str}:∀ {binds:List (Str×Value)} {m:Str→Option Value},(∀ v,(x,v) ∉ binds)→bindL kindOf binds m x=m x
 | [],_,_=>rfl
 | (n,v)::r,m,h=>by
  unfold bindL
  rw [pO fun w hw=>h w (List.mem_cons_of_mem _ hw)]
  split
  ·have:x≠n:=by rintro rfl;exact h v List.mem_cons_self
   simp [this]
  ·rfl
theorem pS {kindOf:Str→Option NameKind} {x:Str}:∀ {binds:List (Str×Value)} {m:Str→Option Value},(∀ v,(x,v) ∉ binds)→bindC kindOf binds m x=m x
 | [],_,_=>rfl
 | (n,v)::r,m,h=>by
  unfold bindC
  rw [pS fun w hw=>h w (List.mem_cons_of_mem _ hw)]
  split
  ·rfl
  ·have:x≠n:=by rintro rfl;exact h v List.mem_cons_self
   simp [this]
theorem pX {kindOf:Str→Option NameKind} {x:Str} {v:Value}:∀ {P:List Str} {vs:List Value} {i:Nat} {m:Str→Option Value},P.Nodup→P[i]? =some x→vs[i]? =some v→kindOf x=some .local→
  bindL kindOf (P.zip vs) m x=some v
 | [],_,_,_,_,h,_,_=>by simp at h
 | _::_,[],_,_,_,_,h,_=>by simp at h
 | p::P,w::vs,0,m,nd,h1,h2,hk=>by
  simp at h1 h2;subst h1;subst h2
  show bindL kindOf ((p,w)::P.zip vs) m p=_
  unfold bindL
  rw [pO fun v hv=>(List.nodup_cons.mp nd).1 (List.of_mem_zip hv).1,if_pos hk]
  simp
 | p::P,w::vs,i+1,m,nd,h1,h2,hk=>by
  show bindL kindOf ((p,w)::P.zip vs) m x=_
  unfold bindL
  exact pX (i:=i) (List.nodup_cons.mp nd).2 (by simpa using h1) (by simpa using h2) hk
theorem qD {kindOf:Str→Option NameKind} {x:Str} {v:Value}:∀ {P:List Str} {vs:List Value} {i:Nat} {m:Str→Option Value},P.Nodup→P[i]? =some x→vs[i]? =some v→kindOf x≠some .local→
  bindC kindOf (P.zip vs) m x=some v
 | [],_,_,_,_,h,_,_=>by simp at h
 | _::_,[],_,_,_,_,h,_=>by simp at h
 | p::P,w::vs,0,m,nd,h1,h2,hk=>by
  simp at h1 h2;subst h1;subst h2
  show bindC kindOf ((p,w)::P.zip vs) m p=_
  unfold bindC
  rw [pS fun v hv=>(List.nodup_cons.mp nd).1 (List.of_mem_zip hv).1,if_neg hk]
  simp
 | p::P,w::vs,i+1,m,nd,h1,h2,hk=>by
  show bindC kindOf ((p,w)::P.zip vs) m x=_
  unfold bindC
  exact qD (i:=i) (List.nodup_cons.mp nd).2 (by simpa using h1) (by simpa using h2) hk
def start (N:List Str) (vs:List V):St:=vs.map some++List.replicate (N.length - vs.length) none
def cxOf (CX:CXT) (P:Program) (w:World) (K:PySem.W.Frag) (mg:Str→Option Value) (base:Heap) (N:List Str) (qual:Str) (scope:Scope) (f:Addr) (cd:Value) (A:Around) (outer:List Env) (s:Shared) (H:Hp) (E:XK):Cx where
 prog:=P
 w:=w
 K:=K
 mg:=mg
 base:=base
 A:=A.deeper (envOfC qual scope s.heap.objs.size f cd)
 N:=N
 s₀:=s
 H₀:=H
 env:=envOfC qual scope s.heap.objs.size f cd
 outer:=outer
 stack:=envOfC qual scope s.heap.objs.size f cd::outer
 ex:=[]
 calm:=true
 fn:=fun _=>true
 pn:=[]
 xe:=fun e s'=>wpAny (model P w) (A.deeper (envOfC qual scope s.heap.objs.size f cd)) (leaving (envOfC qual scope s.heap.objs.size f cd) e) (fun _ s''=>CX outer H s E e s'') (fun e' s''=>CX outer H s E e' s'') s'
theorem sV {sc:Scope} {n:Nat} {x:Str} (h:sc.names.lookup x=some .cell):∃ c,(cellsFrom n sc.names []).lookup x=some c:=by
 have q:=PySem.W.cellsFrom_some sc.names n [] (.inl h)
 exact Option.isSome_iff_exists.mp q
theorem wN {CX:CXT} {P:Program} {w:World} {K:PySem.W.Frag} {mg:Str→Option Value} {base:Heap} {N ps:List Str} {qual:Str} {scope:Scope} {f:Addr} {cd:Value} {A:Around} {outer:List Env} {s s1:Shared} {H:Hp} {E:XK} {us:List Value} {vs:List V}
  (S:FnScope N ps scope) (hd:A.handled=none) (e0:Env0 P w K mg base A outer s H) (hl:vs.length=ps.length) (r:Vals vs us)
  (x:InCallC s s.heap.objs.size (bindL (envOfC qual scope s.heap.objs.size f cd).kindOf (ps.zip us) fun _=>none) (cellsFrom (s.heap.objs.size+1) scope.names []) (bindC (envOfC qual scope s.heap.objs.size f cd).kindOf (ps.zip us) fun _=>none) s1):
  Inv (cxOf CX P w K mg base N qual scope f cd A outer s H E) [] (start N vs) H s1:=by
 have hpl:ps.length≤N.length:=by have:=congrArg List.length S.pre;rw [List.length_take] at this;omega
 obtain ⟨h1,tk,rfl,hk⟩:=x.done
 have noA:∀ b:Addr,b ∉ (cxOf CX P w K mg base N qual scope f cd A outer s H E).ex:=fun b z=>absurd (show b∈([]:List Addr) from z) (by simp)
 refine ⟨⟨e0.mod,S.kind,rfl,rfl,Nat.le_refl _,fun y z c h1 h2=>?_,fun y hy=>?_,fun y c _ h=>?_,fun _=>hd,Around.frames_deeper e0.frames,.inr ⟨rfl,rfl⟩,fun b z=>absurd z (noA b),e0.bs,e0.bsz,fun b _ _=>noA b,fun b z=>absurd z (noA b),e0.funs,e0.frf⟩,
  rfl,e0.bare,Un.kept hk,⟨_,x.toInCall.ns,fun i y v h1 h2 h3=>?_⟩,fun y c h=>⟨_,x.cell y c h⟩,e0.hok.fresh (Nat.le_refl _),fun y c h=>?_,fun p hp=>absurd (show p∈([]:List (Addr×Obj)) from hp) (by simp),e0.hok.kept hk,?_⟩
 ·exact name_of_addr x.apart (PySem.mem_of_lookup h1) (PySem.mem_of_lookup h2)
 ·have hy:scope.names.lookup y=some .cell∨scope.names.lookup y=some .free:=hy
  rcases hy with hy | hy
  ·exact sV hy
  ·exact absurd rfl (S.nofree _ (PySem.mem_of_lookup hy))
 ·exact Nat.le_of_lt (x.above y c (PySem.mem_of_lookup h))
 ·have hi:i < vs.length:=by
   unfold start at h2
   by_cases hi:i < vs.length
   ·exact hi
   ·rw [List.getElem?_append_right (by simpa using hi)] at h2
    rw [List.getElem?_replicate] at h2
    split at h2<;>cases h2
  have ha:vs[i]? =some v:=by
   unfold start at h2
   rw [List.getElem?_append_left (by simpa using hi),List.getElem?_map] at h2
   cases e:vs[i]? with
   | none=>rw [e] at h2;cases h2
   | some a=>rw [e] at h2;cases h2;rfl
  obtain ⟨u,hu,rv⟩:=r.get ha
  have hp:ps[i]? =some y:=by
   rw [← S.pre,List.getElem?_take_of_lt (by omega)];exact h1
  have ndP:ps.Nodup:=by rw [← S.pre];exact S.nd.sublist (List.take_sublist _ _)
  refine ⟨u,rv,?_⟩
  rcases S.par y (List.mem_of_getElem? hp) with k | k
  ·exact .inl ⟨k,pX ndP hp hu k⟩
  ·obtain ⟨c,e⟩:=sV (n:=s.heap.objs.size+1) k
   refine .inr ⟨.inl k,c,e,?_⟩
   have q:=x.cell y c e
   rw [qD ndP hp hu (by show scope.names.lookup y≠_;rw [k];decide)] at q
   exact q
 ·exact e0.hok.fresh (Nat.le_of_lt (x.above y c (PySem.mem_of_lookup h)))
 ·unfold start
  show _=N.length
  rw [List.length_append,List.length_map,List.length_replicate]
  omega
theorem a2x {CX:CXT} {P:Program} {w:World} {K:PySem.W.Frag} {mg:Str→Option Value} {base:Heap} {k:Nat} {f:Addr} {name qual:Str} {params:Arguments} {body:List Stmt} {scope:Scope} {dV kV doc pm cdv ct oc:Value} {an od:Option Addr}
  {osl:Array (Option Value)} {N ps:List Str} {sp:Sp} (lk:K.lookup f=some ⟨oc,od,.func (PySem.W.fnOf name qual params body scope dV kV doc pm an cdv ct),osl⟩) (hcd:PySem.W.codeIn K cdv qual=true) (S:FnScope N ps scope)
  (len:∀ vs H Q E,sp vs H Q E→vs.length=ps.length)
  (hbody:∀ (A:Around) (outer:List Env) (s:Shared) (H:Hp) (vs:List V) (Q:VK) (E:XK),Room k (A.deeper (envOfC qual scope s.heap.objs.size f cdv))→sp vs H Q E→
   ∃ t,PSs (cxOf CX P w K mg base N qual scope f cdv A outer s H E) body t∧t {nx:=fun _ H'=>Q .non H',rt:=Q} (start N vs) H):
  FnOk P w K mg base CX (k+1) f (PySem.W.fnOf name qual params body scope dV kV doc pm an cdv ct) ps sp:=by
 refine ⟨len,fun A outer s H args us vs Q E hr e0 hb r hsp=>?_⟩
 have hl:=len _ _ _ _ hsp
 have KX:K.In s.heap:=e0.mod.kin.keeps fun b o e=>(e0.bs b o e).1
 have lim:s.heap.NoLimit:=e0.mod.nolimit.keeps fun b o e=>(e0.bs b o e).1
 have hkind:∀ y∈ps.zip us,scope.names.lookup y.1=some .local∨(scope.names.lookup y.1=some .cell∧((cellsFrom (s.heap.objs.size+1) scope.names []).lookup y.1).isSome=true):=fun ⟨n,v⟩ hy=>by
  rcases S.par n (List.of_mem_zip hy).1 with q | q
  ·exact .inl q
  ·exact .inr ⟨q,PySem.W.cellsFrom_some _ _ _ (.inl q)⟩
 refine codeAny_call_function hr.depth (KX _ _ lk) rfl S.co S.gen rfl (PySem.W.codeRec_of KX hcd) (hb _ _ _ _ ?_)
 refine wpAny_newFunctionEnv_cells S.kind hkind fun env he s1 x=>?_
 subst he
 refine ⟨lim.keeps x.toInCall.keep,codeAny_func ?_⟩
 obtain ⟨t,ht,hq⟩:=hbody A outer s H vs Q E (hr.deeper _) hsp
 have I:Inv (cxOf CX P w K mg base N qual scope f cdv A outer s H E) [] (start N vs) H s1:=wN S hr.hd e0 hl r x
 refine wpAny_mono (ht [] s1 (start N vs) H _ I hq) (fun fl s' hs=>?_) fun e s' hs=>hs
 have fin:∀ {σ':St} {H':Hp} {v:V} {u:Value},Inv (cxOf CX P w K mg base N qual scope f cdv A outer s H E) [] σ' H' s'→RelV v u→Q v H'→CE outer P w H s Q u s':=
  fun {σ' H' v u} J rv q=>⟨v,H',J.os,J.bare,J.base,J.hok,rv,q⟩
 cases fl with
 | ret u=>
  obtain ⟨v,σ',H',J,rv,q⟩:=hs
  exact fin J rv q
 | next=>
  obtain ⟨σ',H',J,q⟩:=hs
  exact fin (v:=V.non) (u:=Value.none) J rfl q
 | brk=>
  obtain ⟨_,_,_,q⟩:=hs
  exact False.elim q
 | cont=>
  obtain ⟨_,_,_,q⟩:=hs
  exact False.elim q
end L2
namespace L2
open PySem PySem.Spec PyProof.Rows
section
variable {X:Cx} {x:Str} {p pos:Pos} {e:Expr} {es:List Expr} {t:TA} {id T:String} {r:List V→Hp→VK→Prop}
def tCB (r:List V→Hp→VK→Prop) (t:TA):TE:=fun σ H Q=>t σ H fun vs H1=>r vs H1 Q
theorem zW (hc:CallR X (.builtin id) r) (hg:Gl X x) (hm:X.mg x=none) (hv:bootBuiltins x=some (.builtin id)) (ha:PA X (e::es) t) (hn:x≠"__name__":=by decide) (hdb:(x==("__debug__":Str))=false:=by decide)
  (he:starEach (e::es) X.env=(false,eval e X.env)::starEach es X.env:=by rfl) (hpl:(backTo pos (starEach es X.env)).any (·.1)=false:=by rfl):PE X (.Call (.Name x p) (e::es) [] pos) (tCB r t):=by
 intro pins s σ H Q I h
 refine wpAny_Call_Name_kw (jC I hg hm hv ?_ hn hdb)
 exact PyProof.Rows.callWith_builtin1 (thn (ha pos pins s σ H _ I h) fun us s1 ⟨vs,H1,I1,r1,q1⟩=>hc pins s1 σ H1 vs us Q I1 r1 q1) he hpl
theorem y1 (hc:CallR X (.type T) r) (hg:Gl X x) (hm:X.mg x=none) (hv:bootBuiltins x=some (.type T)) (ha:PA X (e::es) t) (hn:x≠"__name__":=by decide) (hdb:(x==("__debug__":Str))=false:=by decide)
  (he:starEach (e::es) X.env=(false,eval e X.env)::starEach es X.env:=by rfl) (hpl:(backTo pos (starEach es X.env)).any (·.1)=false:=by rfl):PE X (.Call (.Name x p) (e::es) [] pos) (tCB r t):=by
 intro pins s σ H Q I h
 refine wpAny_Call_Name_kw (jC I hg hm hv ?_ hn hdb)
 exact PyProof.Rows.callWith_type1 (thn (ha pos pins s σ H _ I h) fun us s1 ⟨vs,H1,I1,r1,q1⟩=>hc pins s1 σ H1 vs us Q I1 r1 q1) he hpl
end
end L2
namespace HT
open PySem PyProof.Rows
section
open PySem.SeqAt
open PySem.AutoSeq1 (wpAny_loadPart')
open PySem.MeetsSeq PySem.MeetsSeq2 PySem.MeetsSeq3
end
section
variable {prog:Program} {w:World} {A:Around} {E:Value→Shared→Prop} {s:Shared}
theorem a18 {t b:Addr} {vs ws:List Value} {Q:Value→Shared→Prop} (ht:IsTup s.heap t vs.toArray) (hb:IsTup s.heap b ws.toArray) (hv:vs≠[])
  (h1:ws=[]→Q (.ref t) s) (h2:ws≠[]→Q (.ref s.heap.objs.size) {s with heap:=s.heap.push {cls:=.type "tuple",data:=.seq (vs++ws).toArray}})
  (hsz:vs.length+ws.length≤sizeLine):wpAny (model prog w) A (binaryOp .Add (.ref t) (.ref b)) Q E s:=by
 obtain ⟨⟨cls,dd,data,sl⟩,ho,hc,n,hd⟩:=id ht
 obtain ⟨⟨cls2,dd2,data2,sl2⟩,ho2,hc2,n2,hd2⟩:=id hb
 simp only at hc hd hc2 hd2
 subst hc hd hc2 hd2
 have e:vs.toArray++ws.toArray=(vs++ws).toArray:=by simp
 by_cases hw:ws=[]
 ·exact concat_meets ⟨_,ho,rfl⟩ ⟨_,ho2,rfl⟩ noFill_tuple_add seq_tuple_add PySem.F.slot_tuple_add PySem.F.entry_tuple_add (PySem.F.args_tuple_add_2 _ _)
   (tuple_addW1 t b vs.toArray ws.toArray n n2 dd dd2 sl sl2 (by simpa using hv) (by simp [hw])) ⟨ho,ho2,h1 hw⟩
 ·refine concat_meets ⟨_,ho,rfl⟩ ⟨_,ho2,rfl⟩ noFill_tuple_add seq_tuple_add PySem.F.slot_tuple_add PySem.F.entry_tuple_add (PySem.F.args_tuple_add_2 _ _)
   (tuple_addW2 t b vs.toArray ws.toArray n n2 dd dd2 sl sl2 (by simpa using hv) (by simpa using hw) (by rw [List.size_toArray,List.size_toArray];exact hsz)) ⟨ho,ho2,?_⟩
  rw [e]
  exact h2 hw
def sIx (n d:Nat):Option Int→Nat
 | none=>d
 | some v=>if v < 0 then (v+(n:Int)).toNat else min v.toNat n
theorem jB (n d:Nat):sIx n d none=d:=rfl
theorem fV (n d k:Nat):sIx n d (some (k:Int))=min k n:=by
 show (if (k:Int) < 0 then ((k:Int)+(n:Int)).toNat else min (k:Int).toNat n)=min k n
 rw [if_neg (by omega),Int.toNat_natCast]
theorem a2D (n d:Nat) (hd:d≤n) (o:Option Int):sIx n d o≤n:=by
 cases o with
 | none=>exact hd
 | some v=>
  show (if v < 0 then (v+(n:Int)).toNat else min v.toNat n)≤n
  by_cases hv:v < 0
  ·rw [if_pos hv];omega
  ·rw [if_neg hv];exact Nat.min_le_right _ _
theorem vZ (v:Int) (n d:Nat):(if v < 0 then max (v+(n:Int)) 0 else min v (n:Int))=((sIx n d (some v):Nat):Int):=by
 show (if v < 0 then max (v+(n:Int)) 0 else min v (n:Int))=(((if v < 0 then (v+(n:Int)).toNat else min v.toNat n):Nat):Int)
 by_cases hv:v < 0
 ·simp only [if_pos hv];omega
 ·simp only [if_neg hv];omega
theorem vN (lo hi:Option Int) (n:Nat):Builtin.Slice.sliceAdjust lo hi 1 (n:Int)=(((sIx n 0 lo:Nat):Int),((sIx n n hi:Nat):Int)):=by
 have h1:¬((1:Int) < 0):=by omega
 unfold Builtin.Slice.sliceAdjust
 simp only [h1,if_false]
 refine Prod.ext ?_ ?_
 ·cases lo with
  | none=>rfl
  | some v=>exact vZ v n 0
 ·cases hi with
  | none=>rfl
  | some v=>exact vZ v n n
theorem vA (i j:Nat):Builtin.Slice.slicePlaces (i:Int) (j:Int) 1=j - i:=by
 unfold Builtin.Slice.slicePlaces
 have h1:(1:Int) > 0:=by omega
 simp only [h1,if_true,Int.ediv_one]
 split<;>omega
theorem oA {v:Value} {o:Option Int} {Q:Option Int→Shared→Prop} (p:IsPart v o) (h:Q o s):wpAny (model prog w) A (Builtin.Slice.slicePartIndex v) Q E s:=by
 cases p with
 | none=>exact slicePart_none h
 | int i t=>exact slicePart_int h
theorem m7 {sl:Addr} {vl vu:Value} {lo hi:Option Int} {n:Nat} {Q:Int×Int×Nat→Shared→Prop} (hs:s.heap.IsSliceOf sl vl vu .none) (pl:IsPart vl lo) (pu:IsPart vu hi)
  (h:Q (((sIx n 0 lo:Nat):Int),1,sIx n n hi - sIx n 0 lo) s):wpAny (model prog w) A (Builtin.Slice.sliceApplied (.ref sl) (pure (n:Int))) Q E s:=by
 obtain ⟨os,hos,hcs,hds⟩:=id hs
 unfold Builtin.Slice.sliceApplied Builtin.Slice.sliceFields
 refine wpAny_bind (wpAny_bind (wpAny_field hos hds (x:=vl) rfl (wpAny_bind (wpAny_field hos hds (x:=vu) rfl (wpAny_bind (wpAny_field hos hds (x:=.none) rfl (wpAny_pure ?_)))))))
 refine wpAny_bind (slicePart_none ?_)
 show wpAny _ _ (if ((1:Int)==0)=true then _ else _) _ _ s
 rw [if_neg (by decide)]
 refine wpAny_bind (oA pl (wpAny_bind (oA pu (wpAny_bind (wpAny_pure ?_)))))
 show wpAny _ _ (match Builtin.Slice.sliceAdjust lo hi 1 (n:Int) with | (lo,hi)=>pure (lo,(1:Int),Builtin.Slice.slicePlaces lo hi 1)) _ _ s
 rw [vN lo hi n]
 show wpAny _ _ (pure (((sIx n 0 lo:Nat):Int),(1:Int),Builtin.Slice.slicePlaces ((sIx n 0 lo:Nat):Int) ((sIx n n hi:Nat):Int) 1)) _ _ s
 rw [vA]
 exact wpAny_pure h
theorem a09 (xs:Array Value) (i k:Nat):((List.range k).filterMap fun (m:Nat)=>xs[((i:Int)+(m:Int)*1).toNat]?).toArray=((xs.toList.drop i).take k).toArray:=by
 have e:(fun (m:Nat)=>xs[((i:Int)+(m:Int)*1).toNat]?)=fun m=>xs[i+m]?:=by
  funext m
  have:((i:Int)+(m:Int)*1).toNat=i+m:=by omega
  rw [this]
 rw [e]
 have:=pick_run xs i k
 rw [List.filterMap_map] at this
 have e2:((fun x=>xs[x]?)∘fun x=>i+x)=fun m=>xs[i+m]?:=rfl
 rw [e2] at this
 rw [this]
theorem lG {t sl:Addr} {items:Array Value} {vl vu:Value} {lo hi:Option Int} {Q:Value→Shared→Prop} (ht:IsTup s.heap t items) (hs:s.heap.IsSliceOf sl vl vu .none) (pl:IsPart vl lo) (pu:IsPart vu hi)
  (hw:¬(sIx items.size 0 lo=0∧sIx items.size items.size hi=items.size))
  (h:Q (.ref s.heap.objs.size) {s with heap:=s.heap.push {cls:=.type "tuple",data:=.seq ((items.toList.drop (sIx items.size 0 lo)).take (sIx items.size items.size hi - sIx items.size 0 lo)).toArray}})
  (hsz:items.size≤sizeLine):wpAny (model prog w) A (getItem (.ref t) (.ref sl)) Q E s:=by
 have htake:sizeOk (.seq ((items.toList.drop (sIx items.size 0 lo)).take (sIx items.size items.size hi - sIx items.size 0 lo)).toArray):=by
  show ((items.toList.drop (sIx items.size 0 lo)).take (sIx items.size items.size hi - sIx items.size 0 lo)).toArray.size≤sizeLine
  rw [List.size_toArray,List.length_take,List.length_drop,Array.length_toList]
  omega
 have hj:sIx items.size items.size hi≤items.size:=a2D _ _ (Nat.le_refl _) hi
 obtain ⟨os,hos,hcs,hds⟩:=id hs
 have hTs:s.TypeIs (.ref sl) "slice":=⟨os,hos,hcs⟩
 unfold getItem
 try with_reducible refine wpAny_holding ?_
 first | refine wpAny_bind (wpAny_pure ?_) | skip
 refine wpAny_bind (wpAny_sequenceKey ht.typeIs (by decide) ?_)
 refine wpAny_bind (wpAny_callSpecial?_slot (name:=Str.ofString "__getitem__") ht.typeIs PyProof.Rows.slot_tuple_getitem
  (wpAny_call_entry PyProof.Rows.slot_tuple_getitem ht.typeIs entry_tuple_getitem ?_ (args_tuple_getitem _ _)))
 show wpAny _ _ (Builtin.Tuple.tupleItemsOf (.ref t) >>=_) _ _ s
 refine wpAny_bind (tupleItemsOf_ ht ?_)
 refine wpAny_bind (wpAny_typeOf hTs ?_)
 rw [if_pos (by decide)]
 refine wpAny_bind (m7 hs pl pu ?_)
 have hno:¬((((sIx items.size 0 lo:Nat):Int)==0&&(1:Int)==1&&(sIx items.size items.size hi - sIx items.size 0 lo)==items.size)=true):=by
  intro q
  rw [Bool.and_eq_true,Bool.and_eq_true] at q
  have q1:((sIx items.size 0 lo:Nat):Int)=0:=eq_of_beq q.1.1
  have q2:sIx items.size items.size hi - sIx items.size 0 lo=items.size:=eq_of_beq q.2
  exact hw ⟨by omega,by omega⟩
 show wpAny _ _ (if (((sIx items.size 0 lo:Nat):Int)==0&&(1:Int)==1&&(sIx items.size items.size hi - sIx items.size 0 lo)==items.size)=true then _ else _) _ _ s
 rw [if_neg hno,a09]
 first
  | exact wpAny_bind (m:=Builtin.Tuple.tupleExact _) (wpAny_newObj_type (wpAny_pure ⟨_,rfl,wpAny_pure h⟩) htake)
  | exact wpAny_bind (m:=Builtin.Tuple.tupleExact _) (wpAny_newObj_type (wpAny_bind (wpAny_pure (wpAny_pure ⟨_,rfl,wpAny_pure h⟩))) htake)
  | exact wpAny_bind (wpAny_bind (m:=Builtin.Tuple.tupleExact _) (wpAny_newObj_type (wpAny_pure (wpAny_pure ⟨_,rfl,wpAny_pure h⟩)) htake))
  | exact wpAny_bind (wpAny_bind (m:=Builtin.Tuple.tupleExact _) (wpAny_newObj_type (wpAny_pure ⟨_,rfl,wpAny_pure h⟩) htake))
end
end HT
namespace L2
open PySem PySem.Spec PyProof.Rows
abbrev TO:=St→Hp→(Option Int→Hp→Prop)→Prop
def PO (X:Cx) (e:Option Expr) (t:TO):Prop:=
 ∀ (pins:List (Addr×Obj)) (s:Shared) (σ:St) (H:Hp) (Q:Option Int→Hp→Prop),Inv X pins σ H s→t σ H Q→
  wpAny (model X.prog X.w) X.A (evalPart e X.env) (fun u s'=>∃ o H',Inv X pins σ H' s'∧IsPart u o∧Q o H') X.xe s
def tNoPart:TO:=fun _ H Q=>Q none H
def tPart (t:TE):TO:=fun σ H Q=>t σ H fun x H1=>∃ i,x=.int i∧Q (some i) H1
section
variable {X:Cx} {e:Expr} {te:TE} {lo hi:Option Expr} {tl th:TO} {pos p2:Pos}
theorem a0Q:PO X none tNoPart:=by
 intro pins s σ H Q I h
 rw [evalPart_none]
 exact wpAny_pure ⟨none,H,I,.none,h⟩
theorem a0Y (h:PE X e te):PO X (some e) (tPart te):=by
 intro pins s σ H Q I hw
 rw [evalPart_some]
 refine thn (h pins s σ H _ I hw) ?_
 rintro u s1 ⟨x,H1,I1,r1,q1⟩
 obtain ⟨i,rfl,q⟩:=q1
 obtain ⟨t,rfl⟩:=r1
 exact ⟨some i,H1,I1,.int i t,q⟩
def SlR (X:Cx) (r:V→Option Int→Option Int→Hp→VK→Prop):Prop:=
 ∀ (pins:List (Addr×Obj)) (s:Shared) (σ:St) (H:Hp) (x:V) (v vl vu:Value) (lo hi:Option Int) (sl:Addr) (Q:VK),Inv X pins σ H s→RelV x v→s.heap.IsSliceOf sl vl vu .none→IsPart vl lo→IsPart vu hi→r x lo hi H Q→
  ∃ T id,typeLookup (.type T) "__getitem__"=pure (some (.builtin id))∧s.TypeIs v T∧wpAny (model X.prog X.w) X.A (getItem v (.ref sl)) (EP X pins σ Q) X.xe s
theorem SlR.or {r r':V→Option Int→Option Int→Hp→VK→Prop} (h:SlR X r) (h':SlR X r'):SlR X (fun x lo hi H Q=>r x lo hi H Q∨r' x lo hi H Q):=by
 intro pins s σ H x v vl vu lo hi sl Q I rx hs pl pu q
 rcases q with q | q
 ·exact h pins s σ H x v vl vu lo hi sl Q I rx hs pl pu q
 ·exact h' pins s σ H x v vl vu lo hi sl Q I rx hs pl pu q
def tSl (r:V→Option Int→Option Int→Hp→VK→Prop) (te:TE) (tl th:TO):TE:=fun σ H Q=>te σ H fun x H1=>tl σ H1 fun l H2=>th σ H2 fun u H3=>r x l u H3 Q
theorem yD {r:V→Option Int→Option Int→Hp→VK→Prop} (hr:SlR X r) (he:PE X e te) (hl:PO X lo tl) (hu:PO X hi th):PE X (.Subscript e (.Slice lo hi none p2) pos) (tSl r te tl th):=by
 intro pins s σ H Q I h
 refine Subscript_ (thn (he pins s σ H _ I h) ?_)
 rintro v s1 ⟨x,H1,I1,r1,q1⟩
 refine wpAny_Slice (thn (hl pins s1 σ H1 _ I1 q1) fun vl s2 ⟨l,H2,I2,pl,q2⟩=>thn (hu pins s2 σ H2 _ I2 q2) fun vu s3 ⟨u,H3,I3,pu,q3⟩=>?_)
 rw [evalPart_none]
 refine wpAny_pure ?_
 have I4:Inv X pins σ H3 {s3 with heap:=s3.heap.push {cls:=.type "slice",data:=.fields #[vl,vu,.none]}}:=I3.kept (t':=s3.toks) fun b ob q=>Heap.get?_push_of_some _ q
 obtain ⟨T,id,hT,ht,hg⟩:=hr pins {s3 with heap:=s3.heap.push {cls:=.type "slice",data:=.fields #[vl,vu,.none]}} σ H3 x v vl vu l u s3.heap.objs.size Q I4 r1 (Heap.IsSliceOf.new ..) pl pu q3
 show wpAny (model X.prog X.w) X.A (subscriptTail e (.Slice lo hi none p2) v (.ref s3.heap.objs.size)) (EP X pins σ Q) X.xe {s3 with heap:=s3.heap.push {cls:=.type "slice",data:=.fields #[vl,vu,.none]}}
 exact tail_any (ops:=[.ref s3.heap.objs.size,v]) ht hT hg (by with_unfolding_all rfl)
def cutV (xs:List V) (lo hi:Option Int):List V:=(xs.drop (HT.sIx xs.length 0 lo)).take (HT.sIx xs.length xs.length hi - HT.sIx xs.length 0 lo)
theorem gQ (xs:List V) (lo hi:Option Int):(cutV xs lo hi).length≤xs.length:=by
 unfold cutV
 rw [List.length_take,List.length_drop]
 omega
def rSlT (K:PySem.W.Frag):V→Option Int→Option Int→Hp→VK→Prop:=fun x lo hi H Q=>∃ a xs,x=.ref a∧SqT K H a xs∧
 ¬(HT.sIx xs.length 0 lo=0∧HT.sIx xs.length xs.length hi=xs.length)∧∀ p,H p=none→Q (.ref p) (upd H p (.tup (cutV xs lo hi)))
theorem a22:SlR X (rSlT X.K):=by
 intro pins s σ H x v vl vu lo hi sl Q I rx hs pl pu h
 obtain ⟨a,xs,rfl,hx,hw,q⟩:=h
 cases rx
 obtain ⟨its,r,ht,hz⟩:=I.tuple hx
 have hlen:its.toArray.size=xs.length:=by rw [List.size_toArray];exact r.length.symm
 refine ⟨"tuple",_,PyProof.Rows.slot_tuple_getitem.lookup,ht.typeIs,?_⟩
 refine HT.lG ht hs pl pu (by rw [hlen];exact hw) ?_ (by rw [hlen];exact hz)
 rw [hlen]
 refine ⟨.ref s.heap.objs.size,_,I.laid (t':=s.toks) (o:=.tup (cutV xs lo hi)) (fun b ob q=>Heap.get?_push_of_some _ q) (Nat.le_refl _) ?_,rfl,q _ (I.hok.fresh (Nat.le_refl _))⟩
 exact ⟨⟨Nat.le_trans (gQ xs lo hi) hz,NoDct.new rfl rfl⟩,_,(r.drop (HT.sIx xs.length 0 lo)).take (HT.sIx xs.length xs.length hi - HT.sIx xs.length 0 lo),IsTup.new _ _⟩
def rCatT (K:PySem.W.Frag):R2:=fun x y H Q=>∃ a b xs ys,x=.ref a∧y=.ref b∧SqT K H a xs∧SqT K H b ys∧xs≠[]∧xs.length+ys.length≤sizeLine∧
 (ys=[]→Q (.ref a) H)∧(ys≠[]→∀ p,H p=none→Q (.ref p) (upd H p (.tup (xs++ys))))
theorem Vals.nil_iff {xs:List V} {us:List Value} (r:Vals xs us):us=[]↔xs=[]:=by
 cases r with
 | nil=>simp
 | cons _ _=>simp
theorem a0w:OpR X (binaryOp .Add) (rCatT X.K):=by
 intro pins s σ H x y v u Q I rx ry h
 obtain ⟨a,b,xs,ys,rfl,rfl,ha,hb,hx,hz,q1,q2⟩:=h
 cases rx
 cases ry
 obtain ⟨its,r1,p1,_⟩:=I.tuple ha
 obtain ⟨its2,r2,p2,_⟩:=I.tuple hb
 refine HT.a18 p1 p2 (fun z=>hx (r1.nil_iff.mp z)) (fun z=>⟨.ref a,H,I,rfl,q1 (r2.nil_iff.mp z)⟩) (fun z=>?_) (by rw [← r1.length,← r2.length];exact hz)
 refine ⟨.ref s.heap.objs.size,_,I.laid (t':=s.toks) (o:=.tup (xs++ys)) (fun b ob q=>Heap.get?_push_of_some _ q) (Nat.le_refl _) ?_,rfl,q2 (fun w=>z (r2.nil_iff.mpr w)) _ (I.hok.fresh (Nat.le_refl _))⟩
 exact ⟨⟨by rw [List.length_append];exact hz,NoDct.new rfl rfl⟩,_,r1.append r2,IsTup.new _ _⟩
end
end L2
namespace L2
open PySem PySem.Spec PyProof.Rows
def ixN (n:Nat) (i:Int):Option Nat:=if 0≤i then (if i < n then some i.toNat else none) else if -(n:Int)≤i then some (i+n).toNat else none
def atI {α:Type} (xs:List α) (i:Int):Option α:=(ixN xs.length i).bind fun j=>xs[j]?
theorem rS {n:Nat} {i:Int} {j:Nat} (h:ixN n i=some j):seqIndex? i n=some j∧j < n∧ -(n:Int)≤i∧i < n:=by
 unfold ixN at h
 by_cases h0:0≤i
 ·rw [if_pos h0] at h
  by_cases h1:i < n
  ·rw [if_pos h1] at h
   have e:i.toNat=j:=Option.some.inj h
   exact ⟨by rw [seqIndex_of h0 h1,e],by omega,by omega,h1⟩
  ·rw [if_neg h1] at h;cases h
 ·rw [if_neg h0] at h
  by_cases h1: -(n:Int)≤i
  ·rw [if_pos h1] at h
   have e:(i+n).toNat=j:=Option.some.inj h
   exact ⟨by rw [seqIndex_neg (by omega) h1,e],by omega,h1,by omega⟩
  ·rw [if_neg h1] at h;cases h
theorem qJ {α:Type} {xs:List α} {i:Int} {v:α} (h:atI xs i=some v):∃ j,seqIndex? i xs.length=some j∧xs[j]? =some v∧j < xs.length∧ -(xs.length:Int)≤i∧i < xs.length:=by
 unfold atI at h
 cases e:ixN xs.length i with
 | none=>rw [e] at h;cases h
 | some j=>
  rw [e] at h
  obtain ⟨h1,h2,h3,h4⟩:=rS e
  exact ⟨j,h1,h,h2,h3,h4⟩
theorem bN {α:Type} {xs:List α} {j:Nat} {v:α} (h:xs[j]? =some v):atI xs (j:Int)=some v:=by
 have hj:j < xs.length:=(List.getElem?_eq_some_iff.mp h).1
 have e:ixN xs.length (j:Int)=some j:=by
  unfold ixN
  rw [if_pos (by omega),if_pos (by omega)];simp
 unfold atI;rw [e];exact h
def PlainIx (b:Expr):Prop:=∀ o i,subscripted b false o i=operate [o,i] (getItem o i)
def IxR (X:Cx) (r:R2):Prop:=
 ∀ (value slice:Expr) (pins:List (Addr×Obj)) (s:Shared) (σ:St) (H:Hp) (x y:V) (v u:Value) (Q:VK),Inv X pins σ H s→RelV x v→RelV y u→r x y H Q→
  subscripted slice false v u=operate [v,u] (getItem v u)→wpAny (model X.prog X.w) X.A (subscriptTail value slice v u) (EP X pins σ Q) X.xe s
def MtR (X:Cx) (id:String) (r:V→List V→Hp→VK→Prop):Prop:=
 ∀ (pins:List (Addr×Obj)) (s:Shared) (σ:St) (H:Hp) (x:V) (xs:List V) (v:Value) (us:List Value) (Q:VK),Inv X pins σ H s→RelV x v→Vals xs us→r x xs H Q→
  wpAny (model X.prog X.w) X.A (call (.builtin id) (v::us)) (EP X pins σ Q) X.xe s
section
variable {X:Cx} {a b:Expr} {ta tb:TE} {pos:Pos}
theorem a2o {r:R2} (hr:IxR X r) (ha:PE X a ta) (hb:PE X b tb) (hs:PlainIx b):PE X (.Subscript a b pos) (tOp r ta tb):=by
 intro pins s σ H Q I h
 exact Subscript_ (binT ha hb I h fun v u s2 x y H2 I2 rx ry q=>hr a b pins s2 σ H2 x y v u Q I2 rx ry q (hs _ _))
def rIxL (K:PySem.W.Frag):R2:=fun x y H Q=>∃ p xs i v,x=.ref p∧y=.int i∧SqL K H p xs∧atI xs i=some v∧Q v H
def rIxT (K:PySem.W.Frag):R2:=fun x y H Q=>∃ p xs i v,x=.ref p∧y=.int i∧SqT K H p xs∧atI xs i=some v∧Q v H
def rIxS:R2:=fun x y H Q=>∃ z i c,x=.str z∧y=.int i∧z.length≤sizeLine∧atI z.cps.toList i=some c∧Q (.str ⟨#[c]⟩) H
theorem a0g:IxR X (rIxL X.K):=by
 intro value slice pins s σ H x y v u Q I rx ry h hs
 obtain ⟨p,xs,i,z,rfl,rfl,hq,he,q⟩:=h
 cases rx
 obtain ⟨t,rfl⟩:=ry
 obtain ⟨its,r,pl,hz⟩:=I.list hq
 obtain ⟨j,h1,h2,h3,h4,h5⟩:=qJ he
 obtain ⟨w,ew,rw'⟩:=r.get h2
 have hl:=r.length
 have hn:=line63
 have fin:EP X pins σ Q w s:=⟨z,H,I,rw',q⟩
 by_cases h0:0≤i
 ·have hj:i.toNat=j:=by
   rw [seqIndex_of h0 h5] at h1
   exact Option.some.inj h1
  exact item_listR pl.isList h0 (by omega) (by rw [hj];simpa using ew) fin hs
 ·have hj:(i+(its.toArray.size:Int)).toNat=j:=by
   rw [seqIndex_neg (by omega) h4] at h1
   rw [List.size_toArray,← hl]
   exact Option.some.inj h1
  exact subscriptTail_builtinR (x:=w) pl.isList.typeIs slot_list_getitem.lookup
   (wpAny_getItem_list_neg (Q:=fun r s'=>r=w∧EP X pins σ Q r s') pl.isList (by omega) (by rw [List.size_toArray]<;>omega) (by omega) (by rw [hj];simpa using ew) ⟨rfl,fin⟩) hs
theorem a1W:IxR X (rIxT X.K):=by
 intro value slice pins s σ H x y v u Q I rx ry h hs
 obtain ⟨p,xs,i,z,rfl,rfl,hq,he,q⟩:=h
 cases rx
 obtain ⟨t,rfl⟩:=ry
 obtain ⟨its,r,pl,hz⟩:=I.tuple hq
 obtain ⟨j,h1,h2,h3,h4,h5⟩:=qJ he
 obtain ⟨w,ew,rw'⟩:=r.get h2
 have hl:=r.length
 have hn:=line63
 have fin:EP X pins σ Q w s:=⟨z,H,I,rw',q⟩
 exact subscriptTail_builtinR (x:=w) pl.typeIs slot_tuple_getitem.lookup
  (getItem_tuple (j:=j) (Q:=fun r s'=>r=w∧EP X pins σ Q r s') pl (by omega) (by omega) (by rw [List.size_toArray,← hl];exact h1) (by simpa using ew) ⟨rfl,fin⟩) hs
theorem a1S:IxR X rIxS:=by
 intro value slice pins s σ H x y v u Q I rx ry h hs
 obtain ⟨z,i,c,rfl,rfl,hz,he,q⟩:=h
 obtain ⟨t,rfl⟩:=rx
 obtain ⟨t',rfl⟩:=ry
 obtain ⟨j,h1,h2,h3,h4,h5⟩:=qJ he
 have hl:z.cps.toList.length=z.length:=by simp [Str.length]
 rw [hl] at h1 h4 h5
 have hn:=line63
 exact tail_any (typeIs_str s z t) slot_str_getitem.lookup (getItem_str (c:=c) (by
  have e1:decide (i < -(2^63:Int))=false:=decide_eq_false (by omega)
  have e2:decide (i≥2^63)=false:=decide_eq_false (by omega)
  rw [e1,e2,Bool.or_false]) (by rw [h1];simpa using h2) ⟨.str ⟨#[c]⟩,H,I.tok _,⟨_,rfl⟩,q⟩) hs
theorem uM (its:List Value) (n j:Nat) (u:Value):Obj.mapSeq (·.setIfInBounds j u) {cls:=.type "list",data:=.seq its.toArray n}={cls:=.type "list",data:=.seq (its.set j u).toArray n}:=by
 simp [Obj.mapSeq]
theorem Inv.lst {pins:List (Addr×Obj)} {σ:St} {H:Hp} {s:Shared} {p:Addr} {xs:List V} (I:Inv X pins σ H s) (h:H p=some (.lst xs)):
  ∃ (its:List Value) (n:Nat),Vals xs its∧s.heap.get? p=some {cls:=.type "list",data:=.seq its.toArray n}∧xs.length≤sizeLine:=by
 obtain ⟨z,its,n,r,e⟩:=I.hok p _ h
 exact ⟨its,n,r,e,z⟩
theorem Inv.lstUpd {pins:List (Addr×Obj)} {σ:St} {H:Hp} {s:Shared} {p:Addr} {xs ys:List V} {its its':List Value} {n n':Nat} {f:Obj→Obj} (I:Inv X pins σ H s) (h:H p=some (.lst xs))
  (ho:s.heap.get? p=some {cls:=.type "list",data:=.seq its.toArray n}) (hf:f {cls:=.type "list",data:=.seq its.toArray n}={cls:=.type "list",data:=.seq its'.toArray n'}) (r:Vals ys its') (hz:ys.length≤sizeLine) (t:Nat):
  Inv X pins σ (upd H p (.lst ys)) {s with heap:=s.heap.update p f,toks:=t}:=by
 have e:(s.heap.update p f).get? p=some {cls:=.type "list",data:=.seq its'.toArray n'}:=by
  rw [Heap.get?_update_self f ho (by rw [hf]<;>rfl),hf]
 refine I.write (x:=p) (e:=p) (by rw [h];trivial) (.inl rfl) (fun b u hb q=>(Heap.get?_update_other _ _ (Ne.symm hb)).trans q) ⟨_,e⟩ ?_
 exact ⟨hz,its',n',r,e⟩
def rSetL:V→V→V→Hp→(Hp→Prop)→Prop:=fun o i v H Q=>∃ p xs k j,o=.ref p∧i=.int k∧H p=some (.lst xs)∧ixN xs.length k=some j∧Q (upd H p (.lst (xs.set j v)))
theorem i9:PSet X rSetL:=by
 intro pins s σ H o i v ov iv u Q I ro ri rv h
 obtain ⟨p,xs,k,j,rfl,rfl,hp,hj,q⟩:=h
 cases ro
 obtain ⟨t,rfl⟩:=ri
 obtain ⟨its,n,r,ho,hz⟩:=I.lst hp
 obtain ⟨h1,h2,h3,h4⟩:=rS hj
 have hl:=r.length
 have hn:=line63
 have I':Inv X pins σ (upd H p (.lst (xs.set j v))) {s with heap:=s.heap.update p (Obj.mapSeq (·.setIfInBounds j u))}:=
  I.lstUpd hp ho (uM its n j u) (r.set rv j) (by rw [List.length_set];exact hz) s.toks
 by_cases h0:0≤k
 ·have hk:k.toNat=j:=by
   rw [seqIndex_of h0 h4] at h1
   exact Option.some.inj h1
  exact PySem.W.ki_setAt ho h0 (by omega) (by rw [List.size_toArray,← hl];exact h4) (by rw [hk];exact ⟨_,I',q⟩)
 ·have hk:(k+(its.toArray.size:Int)).toNat=j:=by
   rw [seqIndex_neg (by omega) h3] at h1
   rw [List.size_toArray,← hl]
   exact Option.some.inj h1
  exact PySem.W.ki_setBack ho (by omega) (by rw [List.size_toArray,← hl];exact h3) (by omega) (by rw [hk];exact ⟨_,I',q⟩)
theorem qO (lo hi:Option Int) (n:Nat):(sliceBounds lo hi none n).1=((HT.sIx n 0 lo:Nat):Int)∧(sliceBounds lo hi none n).2.1=((HT.sIx n n hi:Nat):Int)∧(sliceBounds lo hi none n).2.2=1:=by
 refine ⟨?_,?_,rfl⟩
 ·cases lo with
  | none=>simp [sliceBounds,HT.sIx]
  | some i=>
   simp only [sliceBounds,HT.sIx,Option.getD_none,show (1:Int) > 0 by decide,if_true]
   by_cases h:i < 0
   ·simp only [h,if_true]<;>omega
   ·simp only [h,if_false]<;>omega
 ·cases hi with
  | none=>simp [sliceBounds,HT.sIx]
  | some i=>
   simp only [sliceBounds,HT.sIx,Option.getD_none,show (1:Int) > 0 by decide,if_true]
   by_cases h:i < 0
   ·simp only [h,if_true]<;>omega
   ·simp only [h,if_false]<;>omega
theorem pC (its:List Value) (lo hi:Option Int):slicePick its.toArray lo hi none=((its.drop (HT.sIx its.length 0 lo)).take (HT.sIx its.length its.length hi - HT.sIx its.length 0 lo)).toArray:=by
 obtain ⟨h1,h2,h3⟩:=qO lo hi its.toArray.size
 unfold slicePick
 rw [h1,h2,h3]
 simp only [sliceRange_one,pick_run,List.size_toArray]<;>rfl
def rSlL (K:PySem.W.Frag):V→Option Int→Option Int→Hp→VK→Prop:=fun x lo hi H Q=>∃ a xs,x=.ref a∧SqL K H a xs∧∀ p,H p=none→Q (.ref p) (upd H p (.lst (cutV xs lo hi)))
theorem a0V:SlR X (rSlL X.K):=by
 intro pins s σ H x v vl vu lo hi sl Q I rx hs pl pu h
 obtain ⟨a,xs,rfl,hx,q⟩:=h
 cases rx
 obtain ⟨its,r,ht,hz⟩:=I.list hx
 have hlen:=r.length
 refine ⟨"list",_,slot_list_getitem.lookup,ht.isList.typeIs,?_⟩
 refine wpAny_getItem_list_slice ht.isList hs pl pu .none (by simp) ?_ (by rw [List.size_toArray]<;>omega)
 rw [pC,← hlen]
 refine ⟨.ref s.heap.objs.size,_,I.laid (t':=s.toks) (o:=.lst (cutV xs lo hi)) (fun b ob q=>Heap.get?_push_of_some _ q) (Nat.le_refl _) ?_,rfl,q _ (I.hok.fresh (Nat.le_refl _))⟩
 exact ⟨Nat.le_trans (gQ xs lo hi) hz,_,0,(r.drop (HT.sIx xs.length 0 lo)).take (HT.sIx xs.length xs.length hi - HT.sIx xs.length 0 lo),Heap.get?_push_size _ rfl⟩
def flatV:V→Bool
 | .non=>true
 | .bl _=>true
 | .int _=>true
 | .str _=>true
 | _=>false
def eqV:V→V→Bool
 | .non,.non=>true
 | .bl a,.bl b=>a==b
 | .bl a,.int b=>(if a then 1 else 0)==b
 | .int a,.bl b=>a==(if b then 1 else 0)
 | .int a,.int b=>a==b
 | .str a,.str b=>a==b
 | _,_=>false
theorem a2M {A:Around} {s:Shared} {y x:V} {u v:Value} (ry:RelV y u) (rx:RelV x v) (fy:flatV y=true) (fx:flatV x=true):SeqAt.EqAt A s u v (eqV y x):=by
 cases y with
 | non=>
  cases ry
  cases x with
  | non=>cases rx;exact SeqAt.EqAt.same _
  | bl b=>cases rx;exact SeqAt.EqAt.none_bool b
  | int b=>obtain ⟨t,rfl⟩:=rx;exact SeqAt.EqAt.none_int b t
  | str b=>obtain ⟨t,rfl⟩:=rx;exact SeqAt.EqAt.none_str b t
  | _=>exact absurd (show false=true from fx) Bool.false_ne_true
 | bl a=>
  cases ry
  cases x with
  | non=>cases rx;exact SeqAt.EqAt.bool_none a
  | bl b=>cases rx;exact SeqAt.EqAt.bool_bool a b
  | int b=>obtain ⟨t,rfl⟩:=rx;exact SeqAt.EqAt.bool_int a b t
  | str b=>obtain ⟨t,rfl⟩:=rx;exact SeqAt.EqAt.bool_str a b t
  | _=>exact absurd (show false=true from fx) Bool.false_ne_true
 | int a=>
  obtain ⟨t',rfl⟩:=ry
  cases x with
  | non=>cases rx;exact SeqAt.EqAt.int_none a t'
  | bl b=>cases rx;exact SeqAt.EqAt.int_bool a t' b
  | int b=>obtain ⟨t,rfl⟩:=rx;exact SeqAt.EqAt.int_int a t' b t
  | str b=>obtain ⟨t,rfl⟩:=rx;exact SeqAt.EqAt.int_str a t' b t
  | _=>exact absurd (show false=true from fx) Bool.false_ne_true
 | str a=>
  obtain ⟨t',rfl⟩:=ry
  cases x with
  | non=>cases rx;exact SeqAt.EqAt.str_none a t'
  | bl b=>cases rx;exact SeqAt.EqAt.str_bool a t' b
  | int b=>obtain ⟨t,rfl⟩:=rx;exact SeqAt.EqAt.str_int a t' b t
  | str b=>obtain ⟨t,rfl⟩:=rx;exact SeqAt.EqAt.str_str a t' b t
  | _=>exact absurd (show false=true from fx) Bool.false_ne_true
 | _=>exact absurd (show false=true from fy) Bool.false_ne_true
def eqU (x:V) (u:Value):Bool:=match u with
 | .none=>eqV .non x
 | .bool b=>eqV (.bl b) x
 | .int i _=>eqV (.int i) x
 | .str z _=>eqV (.str z) x
 | _=>false
theorem z3 {x y:V} {u:Value} (r:RelV y u) (f:flatV y=true):eqU x u=eqV y x:=by
 cases y with
 | non=>cases r;rfl
 | bl b=>cases r;rfl
 | int i=>obtain ⟨t,rfl⟩:=r;rfl
 | str z=>obtain ⟨t,rfl⟩:=r;rfl
 | _=>exact absurd (show false=true from f) Bool.false_ne_true
theorem kZ {x:V}:∀ {xs:List V} {us:List Value},Vals xs us→xs.all flatV=true→us.any (eqU x)=xs.any fun y=>eqV y x
 | _,_,.nil,_=>rfl
 | y::xs,u::us,.cons r t,f=>by
  rw [List.all_cons,Bool.and_eq_true] at f
  rw [List.any_cons,List.any_cons,z3 r f.1,kZ t f.2]
theorem jE {A:Around} {s:Shared} {x:V} {v:Value} (rx:RelV x v) (fx:flatV x=true):∀ {xs:List V} {us:List Value},Vals xs us→xs.all flatV=true→∀ u∈us,SeqAt.EqAt A s u v (eqU x u)
 | _,_,.nil,_=>fun u hu=>by cases hu
 | y::xs,u::us,.cons r t,f=>fun u' hu=>by
  rw [List.all_cons,Bool.and_eq_true] at f
  rcases List.mem_cons.mp hu with rfl | hu
  ·rw [z3 r f.1];exact a2M r rx f.1 fx
  ·exact jE rx fx t f.2 u' hu
def inV (x:V) (xs:List V):Bool:=xs.any fun y=>eqV y x
def rIn (K:PySem.W.Frag) (neg:Bool):R2:=fun x y H Q=>∃ p xs,y=.ref p∧(SqL K H p xs∨SqT K H p xs)∧flatV x=true∧xs.all flatV=true∧Q (.bl (if neg then !inV x xs else inV x xs)) H
theorem wR:OpR X (compareOp .In) (rIn X.K false):=by
 intro pins s σ H x y v u Q I rx ry h
 obtain ⟨p,xs,rfl,hq,fx,fs,q⟩:=h
 cases ry
 rcases hq with hq | hq
 ·obtain ⟨its,r,pl,hz⟩:=I.list hq
  refine SeqAt.in_listAt (eqU x) pl.isList (fun w hw=>jE rx fx r fs w (by simpa using hw)) ⟨.bl _,H,I,rfl,?_⟩
  rw [show its.toArray.any (eqU x)=its.any (eqU x) by simp,kZ r fs]
  exact q
 ·obtain ⟨its,r,pl,hz⟩:=I.tuple hq
  refine SeqAt.in_tupleAt (eqU x) pl (fun w hw=>jE rx fx r fs w (by simpa using hw)) ⟨.bl _,H,I,rfl,?_⟩
  rw [show its.toArray.any (eqU x)=its.any (eqU x) by simp,kZ r fs]
  exact q
theorem rA:OpR X (compareOp .NotIn) (rIn X.K true):=by
 intro pins s σ H x y v u Q I rx ry h
 obtain ⟨p,xs,rfl,hq,fx,fs,q⟩:=h
 cases ry
 rcases hq with hq | hq
 ·obtain ⟨its,r,pl,hz⟩:=I.list hq
  refine SeqAt.notIn_listAt (eqU x) pl.isList (fun w hw=>jE rx fx r fs w (by simpa using hw)) ⟨.bl _,H,I,rfl,?_⟩
  rw [show its.toArray.any (eqU x)=its.any (eqU x) by simp,kZ r fs]
  exact q
 ·obtain ⟨its,r,pl,hz⟩:=I.tuple hq
  refine SeqAt.notIn_tupleAt (eqU x) pl (fun w hw=>jE rx fx r fs w (by simpa using hw)) ⟨.bl _,H,I,rfl,?_⟩
  rw [show its.toArray.any (eqU x)=its.any (eqU x) by simp,kZ r fs]
  exact q
theorem qU:CallR X (.type "list") (fun xs H Q=>∃ p ys,xs=[.ref p]∧(SqL X.K H p ys∨SqT X.K H p ys)∧∀ l,H l=none→Q (.ref l) (upd H l (.lst ys))):=by
 intro pins s σ H xs us Q I r h
 obtain ⟨p,ys,rfl,hq,q⟩:=h
 obtain ⟨u,rfl,rx⟩:=vals1 r
 cases rx
 have fin:∀ (its:List Value),Vals ys its→ys.length≤sizeLine→∀ (h':Heap) (c':Nat),(∀ b o',s.heap.get? b=some o'→h'.get? b=some o')→
   h'.get? s.heap.objs.size=some {cls:=.type "list",dict:=none,data:=.seq its.toArray c',slots:=#[]}→EP X pins σ Q (.ref s.heap.objs.size) {s with heap:=h'}:=fun its r' hz h' c' kp e=>
  ⟨.ref s.heap.objs.size,_,I.laid (t':=s.toks) kp (Nat.le_refl _) (show ObjOk X.prog X.w _ h' _ (.lst ys) from ⟨hz,its,c',r',e⟩),rfl,q _ (I.hok.fresh (Nat.le_refl _))⟩
 rcases hq with hq | hq
 ·obtain ⟨its,r',pl,hz⟩:=I.list hq
  have hlen:=r'.length
  obtain ⟨o,ho,hc,n,hd⟩:=pl.isList
  exact call_list_seq p (.inl rfl) ho hc hd (fun h' c' kp e=>fin its r' hz h' c' kp e) (by simp only [List.size_toArray]<;>omega)
 ·obtain ⟨its,r',pl,hz⟩:=I.tuple hq
  have hlen:=r'.length
  obtain ⟨o,ho,hc,n,hd⟩:=pl
  exact call_list_seq p (.inr rfl) ho hc hd (fun h' c' kp e=>fin its r' hz h' c' kp e) (by simp only [List.size_toArray]<;>omega)
theorem oW:CallR X (.type "tuple") (fun xs H Q=>∃ p ys,xs=[.ref p]∧((SqL X.K H p ys∧∀ l,H l=none→Q (.ref l) (upd H l (.tup ys)))∨(SqT X.K H p ys∧Q (.ref p) H))):=by
 intro pins s σ H xs us Q I r h
 obtain ⟨p,ys,rfl,h⟩:=h
 obtain ⟨u,rfl,rx⟩:=vals1 r
 cases rx
 rcases h with ⟨hq,q⟩ | ⟨hq,q⟩
 ·obtain ⟨its,r',pl,hz⟩:=I.list hq
  have hlen:=r'.length
  refine call_tuple_list pl.isList (fun h' kp=>?_) (by simp only [List.size_toArray]<;>omega)
  have I1:Inv X pins σ H {s with heap:=h'}:=I.kept (t':=s.toks) kp
  have I2:Inv X pins σ (upd H h'.objs.size (.tup ys)) {s with heap:=h'.push {cls:=.type "tuple",data:=.seq its.toArray}}:=
   I1.laid (t':=s.toks) (fun b o e=>Heap.get?_push_of_some _ e) (Nat.le_refl _) (show ObjOk X.prog X.w _ _ _ (.tup ys) from ⟨⟨hz,NoDct.new rfl rfl⟩,its,r',IsTup.new _ _⟩)
  exact ⟨.ref h'.objs.size,_,I2,rfl,q _ (I1.hok.fresh (Nat.le_refl _))⟩
 ·obtain ⟨its,r',pl,hz⟩:=I.tuple hq
  exact call_tuple_same pl ⟨.ref p,H,I,rfl,q⟩
def tyV (K:PySem.W.Frag) (T:String) (x:V) (H:Hp):Prop:=match x with
 | .str _=>T="str"
 | .int _=>T="int"
 | .ref p=>(T="list"∧∃ xs,SqL K H p xs)∨(T="tuple"∧∃ o,K.lookup p=some o∧o.cls=.type "tuple"∧o.dict=none)∨
   (T="dict"∧((∃ kvs,H p=some (.dK kvs))∨∃ kvs,H p=some (.dT kvs)))∨(T="set"∧∃ S n,H p=some (.set S n))
 | _=>False
theorem a0B {pins:List (Addr×Obj)} {σ:St} {H:Hp} {s:Shared} {T:String} {x:V} {v:Value} (I:Inv X pins σ H s) (r:RelV x v) (ty:tyV X.K T x H):
  s.TypeIs v T∧∀ a,v=.ref a→∃ ob,s.heap.get? a=some ob∧ob.dict=none:=by
 cases x with
 | str z=>
  obtain ⟨t,rfl⟩:=r
  cases (show T="str" from ty)
  exact ⟨typeIs_str s z t,fun _ e=>nomatch e⟩
 | int i=>
  obtain ⟨t,rfl⟩:=r
  cases (show T="int" from ty)
  exact ⟨typeIs_int s i t,fun _ e=>nomatch e⟩
 | ref p=>
  cases r
  rcases ty with ⟨rfl,xs,hq⟩ | ⟨rfl,o,hk,hc,hd⟩ | ⟨rfl,hk⟩ | ⟨rfl,S,n,hk⟩
  ·obtain ⟨its,_,pl,_⟩:=I.list hq
   refine ⟨pl.isList.typeIs,fun a e=>?_⟩
   cases e
   obtain ⟨o,n,e,c,hd,_⟩:=pl
   exact ⟨o,e,hd⟩
  ·refine ⟨⟨o,I.kIn p o hk,hc⟩,fun a e=>?_⟩
   cases e
   exact ⟨o,I.kIn _ o hk,hd⟩
  ·have z:∃ o,s.heap.get? p=some o∧o.ExactDict:=by
    rcases hk with ⟨kvs,hk⟩ | ⟨kvs,hk⟩
    ·obtain ⟨_,_,_,_,o,_,_,e,ex,_⟩:=I.hok p _ hk
     exact ⟨o,e,ex⟩
    ·obtain ⟨_,_,_,_,o,_,_,e,ex,_⟩:=I.hok p _ hk
     exact ⟨o,e,ex⟩
   obtain ⟨o,e,ex⟩:=z
   refine ⟨⟨o,e,ex.1⟩,fun a e2=>?_⟩
   cases e2
   exact ⟨o,e,ex.2.1⟩
  ·obtain ⟨o,_,_,_,e,ex,_⟩:=I.hok p _ hk
   refine ⟨⟨o,e,ex.1⟩,fun a e2=>?_⟩
   cases e2
   exact ⟨o,e,ex.2.1⟩
 | _=>exact False.elim ty
def tBM0 (K:PySem.W.Frag) (T:String) (r:V→List V→Hp→VK→Prop) (to:TE):TE:=fun σ H Q=>to σ H fun x H1=>tyV K T x H1∧r x [] H1 Q
def tBM (K:PySem.W.Frag) (T:String) (r:V→List V→Hp→VK→Prop) (to:TE) (t:TA):TE:=fun σ H Q=>to σ H fun x H1=>tyV K T x H1∧t σ H1 fun xs H2=>r x xs H2 Q
variable {o e:Expr} {es:List Expr} {to:TE} {t:TA} {name:Str} {apos cpos:Pos} {T id:String} {r:V→List V→Hp→VK→Prop}
theorem a20 (pa:PlainAttrs T) (slot:Slot T name id) (hty:typeOf (.builtin id)=pure (.type "method_descriptor")) (hm:MtR X id r) (ho:PE X o to)
  (hbase:attributeBase o name X.env (eval o X.env)=eval o X.env:=by rfl) (hline:(apos.endLine==cpos.line)=true:=by rfl):PE X (.Call (.Attribute o name apos) [] [] cpos) (tBM0 X.K T r to):=by
 intro pins s σ H Q I h
 refine wpAny_Call_method0_late hbase hline (thn (ho pins s σ H _ I h) ?_)
 rintro v s1 ⟨x,H1,I1,r1,ty,q1⟩
 obtain ⟨h1,h2⟩:=a0B I1 r1 ty
 exact ⟨T,id,pa,slot,hty,h1,h2,Calls.callWith_builtin rfl (PySem.evalArgs_none (hm pins s1 σ H1 x [] v [] Q I1 r1 .nil q1))⟩
theorem a2c (pa:PlainAttrs T) (slot:Slot T name id) (hty:typeOf (.builtin id)=pure (.type "method_descriptor")) (hm:MtR X id r) (ho:PE X o to) (ha:PA X (e::es) t)
  (hbase:attributeBase o name X.env (eval o X.env)=eval o X.env:=by rfl)
  (hfew:((backTo cpos (starEach (e::es) X.env)).all (fun x=> !x.1)&&(backToKw cpos (keywordEach [] X.env)).all (fun x=>x.1.isSome)
   &&decide ((e::es).length+([]:List Keyword).length+(if ([]:List Keyword).isEmpty then 0 else 1) < 30))=true:=by rfl)
  (hline:(apos.endLine==cpos.line)=true:=by rfl) (hs:starEach (e::es) X.env=(false,eval e X.env)::starEach es X.env:=by rfl) (hplain:(backTo cpos (starEach es X.env)).any (·.1)=false:=by rfl):
  PE X (.Call (.Attribute o name apos) (e::es) [] cpos) (tBM X.K T r to t):=by
 intro pins s σ H Q I h
 refine wpAny_Call_method_late hbase hfew hline rfl (thn (ho pins s σ H _ I h) ?_)
 rintro v s1 ⟨x,H1,I1,r1,ty,q1⟩
 obtain ⟨h1,h2⟩:=a0B I1 r1 ty
 refine ⟨T,id,pa,slot,hty,h1,h2,?_⟩
 have hA:=ha cpos pins s1 σ H1 _ I1 q1
 rw [hs] at hA ⊢
 refine Calls.callWith_builtin (by show (false||(backTo cpos (starEach es X.env)).any (·.1))=false;rw [hplain]<;>rfl) (Calls.evalArgs_plain ?_)
 exact thn hA fun us s2 ⟨vs,H2,I2,r2,q2⟩=>hm pins s2 σ H2 x vs v us Q I2 r1 r2 q2
/- xs.append(e),list.index on a module's tuple .. are MtR facts of 06m -/
end
end L2
namespace L2
open PySem PySem.Spec PyProof.Rows
def MtM (X:Cx) (id:String) (r:V→List V→Hp→VK→Prop):Prop:=
 ∀ (pins:List (Addr×Obj)) (s:Shared) (σ:St) (H:Hp) (x:V) (xs:List V) (v:Value) (us:List Value) (Q:VK),Inv X pins σ H s→RelV x v→Vals xs us→r x xs H Q→
  wpAny (model X.prog X.w) X.A (call (.builtin id) (v::us)) (EP X pins σ Q) X.xe s
theorem Vals.one:∀ {x:V} {us:List Value},Vals [x] us→∃ u,us=[u]∧RelV x u
 | _,_,.cons r .nil=>⟨_,rfl,r⟩
theorem Vals.two:∀ {x y:V} {us:List Value},Vals [x,y] us→∃ u v,us=[u,v]∧RelV x u∧RelV y v
 | _,_,_,.cons r (.cons q .nil)=>⟨_,_,rfl,r,q⟩
theorem Vals.zero:∀ {us:List Value},Vals [] us→us=[]
 | _,.nil=>rfl
theorem Vals.dropLast {xs:List V} {us:List Value} (h:Vals xs us):Vals xs.dropLast us.dropLast:=by
 induction h with
 | nil=>exact .nil
 | cons r t ih=>
  cases t with
  | nil=>exact .nil
  | cons q t'=>exact .cons r ih
theorem Vals.eraseIdx:∀ {xs:List V} {us:List Value} (i:Nat),Vals xs us→Vals (xs.eraseIdx i) (us.eraseIdx i)
 | _,_,_,.nil=>.nil
 | _,_,0,.cons _ t=>t
 | _,_,i+1,.cons r t=>.cons r (Vals.eraseIdx i t)
theorem uJ {α:Type} (l:List α):l.eraseIdx (l.length - 1)=l.dropLast:=by
 induction l with
 | nil=>rfl
 | cons a r ih=>
  cases r with
  | nil=>rfl
  | cons b r=>
   have e:(a::b::r).length - 1=((b::r).length - 1)+1:=by
    have h1:(a::b::r).length=r.length+2:=rfl
    have h2:(b::r).length=r.length+1:=rfl
    omega
   rw [e,List.eraseIdx_cons_succ,ih]
   all_goals rfl
theorem qE {α:Type}:∀ (l:List α) (i:Nat),(l.eraseIdx i).length≤l.length
 | [],_=>Nat.le_refl _
 | _::_,0=>Nat.le_succ _
 | _::r,i+1=>Nat.succ_le_succ (qE r i)
section
variable {X:Cx} {pins:List (Addr×Obj)} {σ:St} {H:Hp} {s:Shared} {l b:Addr} {xs ys zs:List V}
theorem Inv.lset {its its':List Value} {n:Nat} {f:Array Value→Array Value} {t':Nat} (I:Inv X pins σ H s) (hH:H l=some (.lst xs))
  (e:s.heap.get? l=some {cls:=.type "list",data:=.seq its.toArray n}) (hf:f its.toArray=its'.toArray) (hv:Vals ys its') (hz:ys.length≤sizeLine):
  Inv X pins σ (upd H l (.lst ys)) {s with heap:=s.heap.update l (Obj.mapSeq f),toks:=t'}:=by
 have q:=PySem.IsL.update e f
 rw [hf] at q
 refine I.write (x:=l) (e:=l) (by rw [hH];exact trivial) (.inl rfl) (fun b' u hb hu=>(Heap.get?_update_other s.heap (Obj.mapSeq f) (Ne.symm hb)).trans hu) ⟨_,q⟩ ?_
 exact ⟨hz,its',_,hv,q⟩
theorem Inv.lnew {its:List Value} {t':Nat} (I:Inv X pins σ H s) (hv:Vals ys its) (hz:ys.length≤sizeLine):
  Inv X pins σ (upd H s.heap.objs.size (.lst ys)) {s with heap:=s.heap.push {cls:=.type "list",data:=.seq its.toArray},toks:=t'}:=
 I.laid (fun _ _ q=>Heap.get?_push_of_some _ q) (Nat.le_refl _) ⟨hz,its,0,hv,Heap.get?_push_size _ rfl⟩
theorem Inv.fresh (I:Inv X pins σ H s):H s.heap.objs.size=none:=I.hok.fresh (Nat.le_refl _)
theorem Inv.lstM (I:Inv X pins σ H s) (hH:H l=some (.lst xs)):xs.length≤sizeLine∧∃ (its:List Value) (n:Nat),Vals xs its∧xs.length=its.length∧s.heap.get? l=some {cls:=.type "list",data:=.seq its.toArray n}:=by
 obtain ⟨z,its,n,r,e⟩:=I.hok l _ hH
 exact ⟨z,its,n,r,r.length,e⟩
theorem notLongL {n:Nat} (h:n≤sizeLine):Builtin.List.listTooLong n=false:=by
 unfold Builtin.List.listTooLong
 exact decide_eq_false (by omega)
end
section
variable {X:Cx}
def rAppend:V→List V→Hp→VK→Prop:=fun x vs H Q=>∃ l xs y,x=.ref l∧vs=[y]∧H l=some (.lst xs)∧xs.length < sizeLine∧Q .non (upd H l (.lst (xs++[y])))
theorem bQ:MtM X "list.append" rAppend:=by
 intro pins s σ H x vs v us Q I rx rv h
 obtain ⟨l,xs,y,rfl,rfl,hH,hz,q⟩:=h
 cases rx
 obtain ⟨u,rfl,ru⟩:=rv.one
 obtain ⟨z,its,n,r,hl,e⟩:=I.lstM hH
 refine call_meets F.slot_list_append ⟨_,e,rfl⟩ F.entry_list_append (F.args_list_append_2 _ _) (PySem.list_append l its.toArray n u (by rw [List.size_toArray];omega)) ⟨e,?_⟩
 refine ⟨.non,_,I.lset (its':=its++[u]) hH e (by simp) (r.append (.cons ru .nil)) ?_,rfl,q⟩
 rw [List.length_append,List.length_singleton]
 omega
def rExtend:V→List V→Hp→VK→Prop:=fun x vs H Q=>∃ l b xs zs,x=.ref l∧vs=[.ref b]∧H l=some (.lst xs)∧H b=some (.lst zs)∧xs.length+zs.length≤sizeLine∧Q .non (upd H l (.lst (xs++zs)))
theorem qB:MtM X "list.extend" rExtend:=by
 intro pins s σ H x vs v us Q I rx rv h
 obtain ⟨l,b,xs,zs,rfl,rfl,hH,hB,hz,q⟩:=h
 cases rx
 obtain ⟨u,rfl,ru⟩:=rv.one
 cases ru
 obtain ⟨z,its,n,r,hl,e⟩:=I.lstM hH
 obtain ⟨z2,its2,n2,r2,hl2,e2⟩:=I.lstM hB
 have hsz:its.toArray.size+its2.toArray.size≤sizeLine:=by rw [List.size_toArray,List.size_toArray];omega
 have hlong:¬(!its.toArray.isEmpty&&Builtin.List.listTooLong (its.toArray.size+its2.toArray.size))=true:=by
  rw [notLongL hsz,Bool.and_false]
  exact Bool.false_ne_true
 refine call_meets F.slot_list_extend ⟨_,e,rfl⟩ F.entry_list_extend (F.args_list_extend_2 _ _)
  (AutoSeq1.list_extend_list_list_0 l its.toArray n b its2.toArray n2 hlong (by rw [List.size_toArray];omega) (by omega)) ⟨e,e2,?_⟩
 refine ⟨.non,_,I.lset (its':=its++its2) hH e (by simp) (r.append r2) ?_,rfl,q⟩
 rw [List.length_append]
 omega
def rPop:V→List V→Hp→VK→Prop:=fun x vs H Q=>∃ l xs y,x=.ref l∧vs=[]∧H l=some (.lst xs)∧xs[xs.length - 1]? =some y∧Q y (upd H l (.lst xs.dropLast))
theorem a1Z:MtM X "list.pop" rPop:=by
 intro pins s σ H x vs v us Q I rx rv h
 obtain ⟨l,xs,y,rfl,rfl,hH,hy,q⟩:=h
 cases rx
 have hus:=rv.zero
 subst hus
 obtain ⟨z,its,n,r,hl,e⟩:=I.lstM hH
 obtain ⟨u,hu,ru⟩:=r.get hy
 have hy':its.toArray[its.toArray.size - 1]? =some u:=by
  show its.toArray[its.length - 1]? =some u
  rw [← Array.getElem?_toList,← hl]
  exact hu
 refine call_meets F.slot_list_pop ⟨_,e,rfl⟩ F.entry_list_pop (F.args_list_pop_1 _) (MeetsSeq.list_pop_last l its.toArray n u hy' (by rw [List.size_toArray];omega)) ⟨e,?_⟩
 refine ⟨y,_,I.lset (its':=its.dropLast) hH e ?_ r.dropLast ?_,ru,q⟩
 ·show its.toArray.eraseIdxIfInBounds (its.toArray.size - 1)=its.dropLast.toArray
  rw [List.size_toArray,List.eraseIdxIfInBounds_toArray,uJ]
 ·rw [List.length_dropLast]
  omega
def rPopAt:V→List V→Hp→VK→Prop:=fun x vs H Q=>∃ l xs i k y,x=.ref l∧vs=[.int i]∧H l=some (.lst xs)∧ -(2^63)≤i∧i < 2^63∧seqIndex? i xs.length=some k∧xs[k]? =some y∧Q y (upd H l (.lst (xs.eraseIdx k)))
theorem yO:MtM X "list.pop" rPopAt:=by
 intro pins s σ H x vs v us Q I rx rv h
 obtain ⟨l,xs,i,k,y,rfl,rfl,hH,h1,h2,hk,hy,q⟩:=h
 cases rx
 obtain ⟨u,rfl,ru⟩:=rv.one
 obtain ⟨t,rfl⟩:=ru
 obtain ⟨z,its,n,r,hl,e⟩:=I.lstM hH
 obtain ⟨w,hw,rw'⟩:=r.get hy
 refine call_meets F.slot_list_pop ⟨_,e,rfl⟩ F.entry_list_pop (F.args_list_pop_2 _ _)
  (MeetsSeq.list_pop_at l its.toArray n i t k w (fitsIndex_both h1 h2) (by rw [List.size_toArray,← hl];exact hk) (by rw [← Array.getElem?_toList];exact hw) (by rw [List.size_toArray];omega)) ⟨e,?_⟩
 refine ⟨y,_,I.lset (its':=its.eraseIdx k) hH e ?_ (r.eraseIdx k) ?_,rw',q⟩
 ·show its.toArray.eraseIdxIfInBounds k=(its.eraseIdx k).toArray
  rw [List.eraseIdxIfInBounds_toArray]
 ·have:=qE xs k
  omega
def rCat:R2:=fun x y H Q=>∃ l b xs zs,x=.ref l∧y=.ref b∧H l=some (.lst xs)∧H b=some (.lst zs)∧xs.length+zs.length≤sizeLine∧∀ p,H p=none→Q (.ref p) (upd H p (.lst (xs++zs)))
theorem a2E:OpR X (binaryOp .Add) rCat:=by
 intro pins s σ H x y v u Q I rx ry h
 obtain ⟨l,b,xs,zs,rfl,rfl,hH,hB,hz,q⟩:=h
 cases rx
 cases ry
 obtain ⟨z,its,n,r,hl,e⟩:=I.lstM hH
 obtain ⟨z2,its2,n2,r2,hl2,e2⟩:=I.lstM hB
 refine PySem.P.add_list e e2 ?_ (by rw [List.size_toArray,List.size_toArray];omega)
 have ea:its.toArray++its2.toArray=(its++its2).toArray:=by simp
 rw [ea]
 exact ⟨.ref _,_,I.lnew (t':=s.toks) (r.append r2) (by rw [List.length_append];omega),rfl,q _ I.fresh⟩
end
section
variable {prog:Program} {w:World} {A:Around} {E:Value→Shared→Prop} {s:Shared}
end
section
variable {X:Cx}
end
end L2
namespace L2
open PySem PySem.Spec PyProof.Rows
section
variable {κ:Type} [DecidableEq κ]
def valV (kvs:List (κ×V)) (k:κ):Option V:=(kvs.find? fun kv=>decide (kv.1=k)).map (·.2)
def putK (kvs:List (κ×V)) (k:κ) (v:V):List (κ×V):=
 if (kvs.any fun kv=>decide (kv.1=k))=true then kvs.map (fun kv=>if kv.1=k then (kv.1,v) else kv) else kvs++[(k,v)]
theorem cK {p:κ×V} {r:List (κ×V)} {k:κ} (e:p.1=k):valV (p::r) k=some p.2:=by simp [valV,List.find?_cons,e]
theorem bK {p:κ×V} {r:List (κ×V)} {k:κ} (e:¬p.1=k):valV (p::r) k=valV r k:=by simp [valV,List.find?_cons,e]
theorem iU (k:κ):∀ kvs:List (κ×V),(kvs.any fun kv=>decide (kv.1=k))=(valV kvs k).isSome
 | []=>rfl
 | p::r=>by
  rw [List.any_cons]
  by_cases e:p.1=k
  ·simp only [cK e,decide_eq_true e,Bool.true_or,Option.isSome_some]
  ·rw [bK e,decide_eq_false e,Bool.false_or];exact iU k r
theorem sJ (k j:κ) (y:V):∀ kvs:List (κ×V),valV (kvs.map fun kv=>if kv.1=k then (kv.1,y) else kv) j=(valV kvs j).map fun x=>if j=k then y else x
 | []=>rfl
 | p::r=>by
  have ih:=sJ k j y r
  rw [List.map_cons]
  by_cases h:p.1=k
  ·rw [if_pos h]
   by_cases e:p.1=j
   ·rw [cK (p:=(p.1,y)) e,cK e,Option.map_some,if_pos (e.symm.trans h)]
   ·rw [bK (p:=(p.1,y)) e,bK e,ih]
  ·rw [if_neg h]
   by_cases e:p.1=j
   ·rw [cK (p:=p) e,cK e,Option.map_some,if_neg (fun z=>h (e.trans z))]
   ·rw [bK (p:=p) e,bK e,ih]
theorem lZ (k j:κ) (y:V):∀ kvs:List (κ×V),valV kvs k=none→valV (kvs++[(k,y)]) j=if j=k then some y else valV kvs j
 | [],_=>by
  by_cases e:k=j
  ·rw [if_pos e.symm];exact cK (p:=(k,y)) e
  ·rw [if_neg (fun z=>e z.symm)];exact bK (p:=(k,y)) e
 | p::r,hn=>by
  rw [List.cons_append]
  have hk:¬p.1=k:=fun z=>by rw [cK z] at hn;cases hn
  rw [bK hk] at hn
  have ih:=lZ k j y r hn
  by_cases e:p.1=j
  ·rw [cK e,cK e,if_neg (fun z=>hk (e.trans z))]
  ·rw [bK e,bK e,ih]
theorem yJ (kvs:List (κ×V)) (k j:κ) (y:V):valV (putK kvs k y) j=if j=k then some y else valV kvs j:=by
 unfold putK
 by_cases a:(kvs.any fun kv=>decide (kv.1=k))=true
 ·rw [if_pos a,sJ]
  rw [iU] at a
  by_cases e:j=k
  ·obtain ⟨x,hx⟩:=Option.isSome_iff_exists.mp a
   rw [if_pos e,e,hx,Option.map_some,if_pos rfl]
  ·rw [if_neg e]
   cases valV kvs j with
   | none=>rfl
   | some x=>rw [Option.map_some,if_neg e]
 ·rw [if_neg a]
  refine lZ k j y kvs ?_
  rw [iU] at a
  cases q:valV kvs k with
  | none=>rfl
  | some x=>rw [q] at a;exact (a rfl).elim
theorem dQ (kvs:List (κ×V)) (k:κ) (v:V):(putK kvs k v).length≤kvs.length+1:=by
 unfold putK
 split
 ·rw [List.length_map];omega
 ·rw [List.length_append,List.length_cons,List.length_nil];omega
theorem zZ {kvs:List (κ×V)} {k:κ} (v:V) (h:valV kvs k=none):putK kvs k v=kvs++[(k,v)]:=by
 unfold putK
 rw [iU,h]
 exact if_neg (by decide)
theorem RelO.isSome_eq {o:Option V} {u:Option Value} (r:RelO o u):o.isSome=u.isSome:=by
 cases o with
 | none=>cases u with
  | none=>rfl
  | some _=>exact (show False from r).elim
 | some _=>cases u with
  | none=>exact (show False from r).elim
  | some _=>rfl
theorem RelO.getD {o:Option V} {u:Option Value} {d:V} {d':Value} (r:RelO o u) (rd:RelV d d'):RelV (o.getD d) (u.getD d'):=by
 cases o with
 | none=>cases u with
  | none=>exact rd
  | some _=>exact (show False from r).elim
 | some _=>cases u with
  | none=>exact (show False from r).elim
  | some _=>exact r
theorem KV.val {kvs:List (κ×V)} {vs:List (κ×Value)} (r:KV kvs vs) (k:κ):RelO (valV kvs k) (valueAt vs k):=by
 unfold KV at r
 induction r with
 | nil=>exact True.intro
 | @cons p q ps qs h t ih=>
  obtain ⟨h1,h2⟩:=h
  by_cases e:p.1=k
  ·have e':q.1=k:=h1.symm.trans e
   have b:valueAt (q::qs) k=some q.2:=by simp [valueAt,List.find?_cons,e']
   rw [cK e,b];exact h2
  ·have e':¬q.1=k:=fun z=>e (h1.trans z)
   have b:valueAt (q::qs) k=valueAt qs k:=by simp [valueAt,List.find?_cons,e']
   rw [bK e,b];exact ih
theorem KV.any {kvs:List (κ×V)} {vs:List (κ×Value)} (r:KV kvs vs) (k:κ):(kvs.any fun kv=>decide (kv.1=k))=vs.any fun kv=>decide (kv.1=k):=by
 unfold KV at r
 induction r with
 | nil=>rfl
 | cons h t ih=>rw [List.any_cons,List.any_cons,ih,h.1]
theorem KV.repl {kvs:List (κ×V)} {vs:List (κ×Value)} (r:KV kvs vs) (k:κ) {y:V} {u:Value} (ry:RelV y u):
  KV (kvs.map fun kv=>if kv.1=k then (kv.1,y) else kv) (vs.map fun kv=>if kv.1=k then (kv.1,u) else kv):=by
 unfold KV at r ⊢
 induction r with
 | nil=>exact .nil
 | @cons p q ps qs h t ih=>
  rw [List.map_cons,List.map_cons]
  refine .cons ?_ ih
  obtain ⟨h1,h2⟩:=h
  by_cases e:p.1=k
  ·rw [if_pos e,if_pos (h1.symm.trans e)];exact ⟨h1,ry⟩
  ·rw [if_neg e,if_neg (fun z=>e (h1.trans z))];exact ⟨h1,h2⟩
theorem KV.put {kvs:List (κ×V)} {vs:List (κ×Value)} (r:KV kvs vs) (k:κ) {y:V} {u:Value} (ry:RelV y u):KV (putK kvs k y) (stored vs k u):=by
 unfold putK stored
 rw [r.any k]
 by_cases e:(vs.any fun kv=>decide (kv.1=k))=true
 ·rw [if_pos e,if_pos e];exact r.repl k ry
 ·rw [if_neg e,if_neg e];exact Paired.snoc r ⟨rfl,ry⟩
theorem KV.length {kvs:List (κ×V)} {vs:List (κ×Value)} (r:KV kvs vs):kvs.length=vs.length:=Paired.length r
end
theorem kA {P:Program} {w:World} {k:Key} {u:Value} (r:RelV (kV k) u):(mixKind P w).is k u=true:=by
 cases k with
 | inl i=>obtain ⟨t,e⟩:=(show ∃ t,u=Value.int i t from r);subst e;exact t8 P w i t
 | inr x=>obtain ⟨t,e⟩:=(show ∃ t,u=Value.str x t from r);subst e;exact jH P w x t
theorem pV {P:Program} {w:World}:∀ {ks:List Key} {us:List Value},Vals (ks.map kV) us→ItemsAre (mixKind P w) ks us
 | [],_,r=>by rw [List.map_nil] at r;cases r;exact .nil
 | k::ks,_,r=>by
  rw [List.map_cons] at r
  cases r with
  | cons h t=>exact .cons (kA h) (pV t)
abbrev KT (H:Hp):List (List Key×V)→List (List Key×Addr×Value)→Prop:=Paired fun p q=>p.1=q.1∧RdT H q.2.1 (p.1.map kV)∧RelV p.2 q.2.2
theorem KT.val {H:Hp} {kvs:List (List Key×V)} {xs:List (List Key×Addr×Value)} (r:KT H kvs xs) (k:List Key):RelO (valV kvs k) ((atKey xs k).map (·.2)):=by
 induction r with
 | nil=>exact True.intro
 | @cons p q ps qs h t ih=>
  obtain ⟨h1,_,h2⟩:=h
  by_cases e:p.1=k
  ·have e':q.1=k:=h1.symm.trans e
   have b:atKey (q::qs) k=some q.2:=by simp [atKey,List.find?_cons,e']
   rw [cK e,b];exact h2
  ·have e':¬q.1=k:=fun z=>e (h1.trans z)
   have b:atKey (q::qs) k=atKey qs k:=by simp [atKey,List.find?_cons,e']
   rw [bK e,b];exact ih
theorem KT.repl {H:Hp} {kvs:List (List Key×V)} {xs:List (List Key×Addr×Value)} (r:KT H kvs xs) (k:List Key) {y:V} {u:Value} (ry:RelV y u):
  KT H (kvs.map fun kv=>if kv.1=k then (kv.1,y) else kv) (xs.map (putAt k u)):=by
 induction r with
 | nil=>exact .nil
 | @cons p q ps qs h t ih=>
  rw [List.map_cons,List.map_cons]
  refine .cons ?_ ih
  obtain ⟨h1,h2,h3⟩:=h
  unfold putAt
  by_cases e:p.1=k
  ·rw [if_pos e,if_pos (h1.symm.trans e)];exact ⟨h1,h2,ry⟩
  ·rw [if_neg e,if_neg (fun z=>e (h1.trans z))];exact ⟨h1,h2,h3⟩
theorem KT.put {H:Hp} {kvs:List (List Key×V)} {xs:List (List Key×Addr×Value)} (r:KT H kvs xs) (k:List Key) {b:Addr} {y:V} {u:Value} (hb:RdT H b (k.map kV)) (ry:RelV y u):
  KT H (putK kvs k y) (storedH xs k b u):=by
 have e:(kvs.any fun kv=>decide (kv.1=k))=(atKey xs k).isSome:=by
  rw [iU,(r.val k).isSome_eq,Option.isSome_map]
 unfold putK storedH
 rw [e]
 by_cases q:(atKey xs k).isSome=true
 ·rw [if_pos q,if_pos q];exact r.repl k ry
 ·rw [if_neg q,if_neg q];exact Paired.snoc r ⟨rfl,hb,ry⟩
theorem KT.keeps {H H':Hp} {kvs:List (List Key×V)} {xs:List (List Key×Addr×Value)} (r:KT H kvs xs) (ht:∀ b ys,RdT H b ys→RdT H' b ys):KT H' kvs xs:=
 Paired.mapP r fun _ _ z=>⟨z.1,ht _ _ z.2.1,z.2.2⟩
section
variable {P:Program} {w:World} {H:Hp} {h:Heap} {a:Addr}
theorem a1E {u:HO} (ok:HOk P w H h) (e:Rd H a u):ObjOk P w H h a u:=e.ok ok
theorem kX {kvs:List (Key×V)} (ok:HOk P w H h) (e:Rd H a (.dK kvs)):kvs.length≤sizeLine∧(a==sysModules)=false∧∃ vs,KV kvs vs∧h.DictOf (mixKind P w) a vs:=
 show ObjOk P w H h a (.dK kvs) from a1E ok e
theorem pM {kvs:List (Key×V)} (ok:HOk P w H h) (e:H a=some (.dK kvs)):kvs.length≤sizeLine∧(a==sysModules)=false∧∃ vs,KV kvs vs∧h.DictOf (mixKind P w) a vs:=kX ok (.inl e)
theorem oF {ks:List Key} (ok:HOk P w H h) (e:RdT H a (ks.map kV)):(tupleKind (mixKind P w)).is h ks a:=by
 have qq:ObjOk P w H h a (.tup (ks.map kV)):=by
  rcases e with e | ⟨_,e⟩
  ·exact ok a _ e
  ·exact (ok a _ e).2
 obtain ⟨_,its,r,o,h1,h2,n,h3⟩:=qq
 exact ⟨o,its.toArray,n,h1,h2,h3,by simpa using pV r⟩
theorem pW {kvs:List (List Key×V)} (ok:HOk P w H h) (e:Rd H a (.dT kvs)):kvs.length≤sizeLine∧(a==sysModules)=false∧
  ∃ xs,KT H kvs xs∧h.DictOfH (tupleKind (mixKind P w)) a xs:=by
 obtain ⟨z,y,xs,r,o,es,ep,h1,h2,h3,h4,h5⟩:=(show ObjOk P w H h a (.dT kvs) from a1E ok e)
 refine ⟨z,y,xs,r,o,es,ep,h1,h2,h3,h4,fun x hx=>?_,h5⟩
 have all:∀ {l:List (List Key×V)} {m:List (List Key×Addr×Value)},KT H l m→∀ x∈m,(tupleKind (mixKind P w)).is h x.1 x.2.1:=by
  intro l m q
  induction q with
  | nil=>intro x hx;exact nomatch hx
  | @cons p q ps qs hq t ih=>
   intro x hx
   rcases List.mem_cons.mp hx with e | hx
   ·subst e
    exact oF ok (by rw [← hq.1];exact hq.2.1)
   ·exact ih x hx
 exact all r x hx
theorem a2m {kvs:List (List Key×V)} (ok:HOk P w H h) (e:H a=some (.dT kvs)):kvs.length≤sizeLine∧(a==sysModules)=false∧
  ∃ xs,KT H kvs xs∧h.DictOfH (tupleKind (mixKind P w)) a xs:=pW ok (.inl e)
end
def DGet (H:Hp) (a:Addr) (y:V) (r:Option V):Prop:=
 (∃ kvs k,Rd H a (.dK kvs)∧y=kV k∧r=valV kvs k)∨∃ kvs k b,Rd H a (.dT kvs)∧y=.ref b∧RdT H b (k.map kV)∧r=valV kvs k
def DPut (H:Hp) (a:Addr) (y v:V) (H':Hp):Prop:=
 (∃ kvs k,H a=some (.dK kvs)∧y=kV k∧kvs.length < sizeLine∧H'=upd H a (.dK (putK kvs k v)))∨
 ∃ kvs k b,H a=some (.dT kvs)∧y=.ref b∧RdT H b (k.map kV)∧kvs.length < sizeLine∧H'=upd H a (.dT (putK kvs k v))
theorem DGet.k {H:Hp} {a:Addr} {kvs:List (Key×V)} {k:Key} (e:H a=some (.dK kvs)):DGet H a (kV k) (valV kvs k):=.inl ⟨kvs,k,.inl e,rfl,rfl⟩
theorem DGet.t {H:Hp} {a b:Addr} {kvs:List (List Key×V)} {k:List Key} (e:H a=some (.dT kvs)) (eb:H b=some (.tup (k.map kV))):DGet H a (.ref b) (valV kvs k):=.inr ⟨kvs,k,b,.inl e,rfl,.inl eb,rfl⟩
theorem DPut.k {H:Hp} {a:Addr} {kvs:List (Key×V)} {k:Key} {v:V} (e:H a=some (.dK kvs)) (hl:kvs.length < sizeLine):DPut H a (kV k) v (upd H a (.dK (putK kvs k v))):=.inl ⟨kvs,k,e,rfl,hl,rfl⟩
theorem DPut.t {H:Hp} {a b:Addr} {kvs:List (List Key×V)} {k:List Key} {v:V} (e:H a=some (.dT kvs)) (eb:H b=some (.tup (k.map kV))) (hl:kvs.length < sizeLine):
  DPut H a (.ref b) v (upd H a (.dT (putK kvs k v))):=.inr ⟨kvs,k,b,e,rfl,.inl eb,hl,rfl⟩
section
variable {X:Cx} {pins:List (Addr×Obj)} {σ:St} {H:Hp} {s:Shared} {a:Addr} {y v:V} {u r:Value} {o:Option V} {A:Around} {E:Value→Shared→Prop}
theorem Inv.big (I:Inv X pins σ H s):sysModules < s.heap.objs.size:=by
 have h:mainGlobals < s.heap.objs.size:=(I.mod.glob.keeps I.bk).lt
 exact Nat.lt_trans (by decide) h
theorem wZ {Q:Value→Shared→Prop} (hu:A.units+1 < cLine) (I:Inv X pins σ H s) (g:DGet H a y (some v)) (ry:RelV y u) (h:∀ w' s',Inv X pins σ H s'→RelV v w'→Q w' s'):
  wpAny (model X.prog X.w) A (getItem (.ref a) u) Q E s:=by
 rcases g with ⟨kvs,k,e,ey,l⟩ | ⟨kvs,k,b,e,ey,eb,l⟩
 ·subst ey
  obtain ⟨z,hd,vs,rel,dd⟩:=kX I.hok e
  obtain ⟨w',hw,rw'⟩:=RelO.some_of (v:=v) (o:=valueAt vs k) (by rw [l];exact rel.val k)
  exact wpAny_getItem_of (kA ry) dd.mapOf hw (h w' _ (I.tok _) rw')
 ·subst ey
  cases (show u=Value.ref b from ry)
  obtain ⟨z,hd,xs,rel,dd⟩:=pW I.hok e
  obtain ⟨w',hw,rw'⟩:=RelO.some_of (v:=v) (o:=(atKey xs k).map (·.2)) (by rw [l];exact rel.val k)
  obtain ⟨p,hp,hp2⟩:=Option.map_eq_some_iff.mp hw
  refine wpAny_getItem_heap (tupleKind_room_in1 hu) (oF I.hok eb) dd hp ?_
  rw [hp2]
  exact h w' _ (I.tok _) rw'
theorem a34 {Q:Value→Shared→Prop} (hu:A.units+1 < cLine) (I:Inv X pins σ H s) (g:DGet H a y o) (ry:RelV y u) (h:∀ s',Inv X pins σ H s'→Q (.bool o.isSome) s'):
  wpAny (model X.prog X.w) A (compareOp .In u (.ref a)) Q E s:=by
 rcases g with ⟨kvs,k,e,ey,l⟩ | ⟨kvs,k,b,e,ey,eb,l⟩
 ·subst ey
  obtain ⟨z,hd,vs,rel,dd⟩:=kX I.hok e
  refine wpAny_in_of (kA ry) hd dd.mapOf ?_
  rw [← (rel.val k).isSome_eq,← l]
  exact h _ (I.tok _)
 ·subst ey
  cases (show u=Value.ref b from ry)
  obtain ⟨z,hd,xs,rel,dd⟩:=pW I.hok e
  refine wpAny_in_heap (tupleKind_room_in1 hu) (oF I.hok eb) hd dd ?_
  have q:=(rel.val k).isSome_eq
  rw [Option.isSome_map] at q
  rw [← q,← l]
  exact h _ (I.tok _)
theorem kY {h':Heap} {t':Nat} {ob:HO} (I:Inv X pins σ H s) (mu:Mut (H a)) (hs:Heap.SameBut a s.heap h') (he:∃ q,h'.get? a=some q) (new:ObjOk X.prog X.w (upd H a ob) h' a ob):
  Inv X pins σ (upd H a ob) {s with heap:=h',toks:=t'}:=
 I.write (x:=a) (e:=a) mu (.inl rfl) (fun b q hb z=>(hs.2 b hb).trans z) he new
theorem qS {P:Program} {w:World} {H':Hp} {h':Heap} {kvs:List (Key×V)} {vs:List (Key×Value)} (z:kvs.length≤sizeLine) (hd:(a==sysModules)=false) (rel:KV kvs vs) (dd:h'.DictOf (mixKind P w) a vs):
  ObjOk P w H' h' a (.dK kvs):=⟨z,hd,vs,rel,dd⟩
theorem xL {H':Hp} {Q:Unit→Shared→Prop} (hu:A.units+1 < cLine) (I:Inv X pins σ H s) (g:DPut H a y v H') (ry:RelV y u) (rv:RelV v r) (h:∀ s',Inv X pins σ H' s'→Q () s'):
  wpAny (model X.prog X.w) A (setItem (.ref a) u r) Q E s:=by
 rcases g with ⟨kvs,k,e,ey,l,eH⟩ | ⟨kvs,k,b,e,ey,eb,l,eH⟩
 ·subst ey eH
  obtain ⟨z,hd,vs,rel,dd⟩:=pM I.hok e
  have hz:vs.length≤sizeLine:=by rw [← rel.length];exact z
  have hl:(putK kvs k v).length≤sizeLine:=by have:=dQ kvs k v;omega
  refine wpAny_setItem_pairs (hsz:=hz) (kA ry) dd fun h' dd' hs=>h _ ?_
  have he:∃ q,h'.get? a=some q:=let ⟨q,_,_,hq,_⟩:=dd';⟨q,hq⟩
  exact kY I (by rw [e];exact True.intro) hs he (qS hl hd (rel.put k rv) dd')
 ·subst ey eH
  cases (show u=Value.ref b from ry)
  obtain ⟨z,hd,xs,rel,dd⟩:=a2m I.hok e
  have hz:xs.length≤sizeLine:=by rw [← Paired.length rel];exact z
  have hl:(putK kvs k v).length≤sizeLine:=by have:=dQ kvs k v;omega
  refine wpAny_setItem_heap (hsz:=hz) (tupleKind_room_in1 hu) (oF I.hok eb) dd fun h' dd' hs=>h _ ?_
  obtain ⟨q,es,ep,hq,h2,h3,h4,_,h5⟩:=dd'
  refine kY I (by rw [e];exact True.intro) hs ⟨q,hq⟩ ⟨hl,hd,_,(rel.put k eb rv).keeps fun c ys ec=>?_,q,es,ep,hq,h2,h3,h4,h5⟩
  refine ec.upd fun u hu z=>?_
  subst z
  rcases ec with ec | ⟨_,ec⟩<;>(rw [e] at ec;cases ec)
end
section
variable {X:Cx} {pins:List (Addr×Obj)} {σ:St} {H:Hp} {s:Shared} {a:Addr} {kvs:List (Key×V)} {k:Key} {u:Value} {A:Around} {E:Value→Shared→Prop}
theorem a2j {Q:Value→Shared→Prop} (I:Inv X pins σ H s) (e:Rd H a (.dK kvs)) (h:∀ t s',Inv X pins σ H s'→Q (.int kvs.length t) s'):wpAny (model X.prog X.w) A (call (.builtin "len") [.ref a]) Q E s:=by
 obtain ⟨z,hd,vs,rel,dd⟩:=kX I.hok e
 refine call_len_dict hd dd (by rw [← rel.length];rw [sizeLine_eq] at z;omega) ?_
 rw [← rel.length]
 exact h _ _ (I.tok _)
end
def NoSl (i:Expr):Prop:=∀ ov iv,subscripted i false ov iv=operate [ov,iv] (getItem ov iv)
theorem w9 {prog:Program} {w:World} {A:Around} {E:Value→Shared→Prop} {s:Shared} {env:Env} {value slice:Expr} {pos:Pos} {T id:String} {Q:Value→Shared→Prop}
  (hl:typeLookup (.type T) "__getitem__"=pure (some (.builtin id))) (hs:NoSl slice)
  (h:wpAny (model prog w) A (eval value env) (fun o s₁=>wpAny (model prog w) A (eval slice env) (fun i s₂=>s₂.TypeIs o T∧wpAny (model prog w) A (getItem o i) Q E s₂) E s₁) E s):
  wpAny (model prog w) A (eval (.Subscript value slice pos) env) Q E s:=by
 refine Subscript_ (wpAny_mono h (fun o s₁ h₁=>wpAny_mono h₁ (fun i s₂ h₂=>?_) fun _ _ x=>x) fun _ _ x=>x)
 obtain ⟨hT,h₂⟩:=h₂
 unfold subscriptTail
 refine wpAny_bind ?_
 rw [getitemInPython_of_ne hT.not_modules]
 refine wpAny_bind (wpAny_specialOf hT hl ?_)
 have fin:wpAny (model prog w) A (subscripted slice false o i) (fun r s₃=>wpAny (model prog w) A (letTemporaryGo value o r >>=fun _=>pure r) Q E s₃) E s₂:=by
  rw [hs o i]
  exact wpAny_operating (wpAny_mono h₂ (fun r s₃ h₃=>wpAny_bind (wpAny_letTemporaryGo (wpAny_pure h₃))) fun _ _ x=>x)
 first
  | exact wpAny_pure (wpAny_bind fin)
  | exact wpAny_bind (wpAny_pure (wpAny_bind fin))
  | exact wpAny_bind fin
theorem tE {X:Cx} {pins:List (Addr×Obj)} {σ:St} {H:Hp} {s:Shared} {a:Addr} {y:V} {o:Option V} (I:Inv X pins σ H s) (g:DGet H a y o):s.TypeIs (.ref a) "dict":=by
 rcases g with ⟨kvs,k,e,_,_⟩ | ⟨kvs,k,b,e,_,_,_⟩
 ·obtain ⟨_,_,vs,_,dd⟩:=kX I.hok e
  exact dd.typeIs
 ·obtain ⟨_,_,xs,_,dd⟩:=pW I.hok e
  exact dd.typeIs
def tDGet (td ty:TE):TE:=fun σ H Q=>td σ H fun x H1=>ty σ H1 fun y H2=>∃ a v,x=.ref a∧DGet H2 a y (some v)∧Q v H2
def sDPut (td ty tv:TE):TS:=fun D σ H=>tv σ H fun v H1=>td σ H1 fun x H2=>ty σ H2 fun y H3=>∃ a H4,x=.ref a∧DPut H3 a y v H4∧D.nx σ H4
section
variable {X:Cx} {o i e value:Expr} {pos pos' tpos:Pos} {td ty tv:TE}
theorem a0d (hu:X.A.units+1 < cLine) (ho:PE X o td) (hi:PE X i ty) (hs:NoSl i):PE X (.Subscript o i pos) (tDGet td ty):=by
 intro pins s σ H Q I h
 refine w9 PySem.F.slot_dict_getitem.lookup hs (thn (ho pins s σ H _ I h) fun u s1 ⟨x,H1,I1,rx,q1⟩=>thn (hi pins s1 σ H1 _ I1 q1) fun iv s2 ⟨y,H2,I2,ry,a,v,ex,g,q2⟩=>?_)
 subst ex
 obtain rfl:u=Value.ref a:=rx
 exact ⟨tE I2 g,wZ hu I2 g ry fun w' s3 I3 rw'=>⟨v,H2,I3,rw',q2⟩⟩
theorem a0J (hu:X.A.units+1 < cLine) (ho:PE X o td) (hi:PE X i ty) (hv:PE X value tv) (hs:swapsWith value (some (.Subscript o i pos')) pos.line X.env=pure false):
  PS X (.Assign [.Subscript o i pos'] value pos) (sDPut td ty tv):=by
 intro pins s σ H D I h
 refine wpAny_Assign_Subscript (thn (hv pins s σ H _ I h) fun r s1 ⟨v,H1,I1,rv,q1⟩=>thn (ho pins s1 σ H1 _ I1 q1) fun u s2 ⟨x,H2,I2,rx,q2⟩=>thn (hi pins s2 σ H2 _ I2 q2) fun iv s3 ⟨y,H3,I3,ry,a,H4,ex,g,q3⟩=>?_) hs
 subst ex
 obtain rfl:u=Value.ref a:=rx
 exact xL hu I3 g ry rv fun s4 I4=>⟨σ,H4,I4,q3⟩
end
theorem sS {P:Program} {w:World} {H:Hp} (h:Heap) (hb:sysModules < h.objs.size):ObjOk P w H (h.push {cls:=.type "dict",data:=.dict #[]}) h.objs.size (.dK []):=
 ⟨Nat.zero_le _,beq_eq_false_iff_ne.mpr (Ne.symm (Nat.ne_of_lt hb)),[],.nil,Heap.DictOf.new h⟩
def tDNewK:TE:=fun _ H Q=>∀ p,H p=none→Q (.ref p) (upd H p (.dK []))
section
variable {X:Cx} {pos:Pos}
theorem a03:PE X (.Dict [] [] pos) tDNewK:=fun pins s σ H Q I h=>
 wpAny_Dict_empty ⟨.ref s.heap.objs.size,_,I.laid (a:=s.heap.objs.size) (o:=.dK []) (t':=s.toks) (fun _ _ q=>Heap.get?_push_of_some _ q) (Nat.le_refl _) (sS s.heap I.big),rfl,h _ (I.hok.fresh (Nat.le_refl _))⟩
end
def tPairs:List (TE×TE)→St→Hp→(List (V×V)→Hp→Prop)→Prop
 | [],_,H,Q=>Q [] H
 | (tk,tv)::r,σ,H,Q=>tk σ H fun x H1=>tv σ H1 fun y H2=>tPairs r σ H2 fun ps H3=>Q ((x,y)::ps) H3
abbrev VV:List (V×V)→List (Value×Value)→Prop:=Paired fun p q=>RelV p.1 q.1∧RelV p.2 q.2
def PPs (X:Cx) (pos:Pos) (keys:List (Option Expr)) (values:List Expr) (trs:List (TE×TE)):Prop:=
 ∀ (pins:List (Addr×Obj)) (s:Shared) (σ:St) (H:Hp) (Q:List (V×V)→Hp→Prop),Inv X pins σ H s→tPairs trs σ H Q→
  wpAny (model X.prog X.w) X.A (evalPairs (pairTrees keys values X.env pos)) (fun vs s'=>∃ ps H',Inv X pins σ H' s'∧VV ps vs∧Q ps H') X.xe s
theorem a0S {X:Cx} {pos:Pos}:PPs X pos [] [] []:=fun pins s σ H Q I h=>pairTrees_nil_walk ⟨[],H,I,.nil,h⟩
theorem a05 {X:Cx} {pos:Pos} {k v:Expr} {ks:List (Option Expr)} {vs:List Expr} {tk tv:TE} {trs:List (TE×TE)} (hk:PE X k tk) (hv:PE X v tv) (hr:PPs X pos ks vs trs):
  PPs X pos (some k::ks) (v::vs) ((tk,tv)::trs):=fun pins s σ H Q I h=>
 pairTrees_cons_walk (thn (hk pins s σ H _ I h) fun u s1 ⟨x,H1,I1,rx,q1⟩=>thn (hv pins s1 σ H1 _ I1 q1) fun w2 s2 ⟨y,H2,I2,ry,q2⟩=>
  thn (hr pins s2 σ H2 _ I2 q2) fun ws s3 ⟨ps,H3,I3,rel,q3⟩=>⟨(x,y)::ps,H3,I3,.cons ⟨rx,ry⟩ rel,q3⟩)
def mergeK (kvs more:List (Key×V)):List (Key×V):=more.foldl (fun acc kv=>putK acc kv.1 kv.2) kvs
theorem KV.merge:∀ {more:List (Key×V)} {rs:List (Key×Value)} {kvs:List (Key×V)} {vs:List (Key×Value)},KV more rs→KV kvs vs→KV (mergeK kvs more) (merged vs rs):=by
 intro more rs kvs vs r
 unfold KV at r
 induction r generalizing kvs vs with
 | nil=>intro q;exact q
 | @cons p q ps qs h t ih=>
  intro r0
  have e:KV (putK kvs p.1 p.2) (stored vs q.1 q.2):=by
   have:=r0.put p.1 h.2
   rw [← h.1];exact this
  exact ih e
theorem kB:∀ (more kvs:List (Key×V)),(mergeK kvs more).length≤kvs.length+more.length
 | [],kvs=>by show kvs.length≤kvs.length+0;omega
 | p::r,kvs=>by
  have h1:=kB r (putK kvs p.1 p.2)
  have h2:=dQ kvs p.1 p.2
  show (mergeK (putK kvs p.1 p.2) r).length≤_
  rw [List.length_cons];omega
theorem nQ {P:Program} {w:World}:∀ {kvs:List (Key×V)} {ws:List (Value×Value)},VV (kvs.map fun kv=>(kV kv.1,kv.2)) ws→∃ rs,Carries (mixKind P w) ws rs∧KV kvs rs
 | [],_,r=>by rw [List.map_nil] at r;cases r;exact ⟨[],True.intro,.nil⟩
 | p::kvs,_,r=>by
  rw [List.map_cons] at r
  cases r with
  | @cons a b as bs h t=>
   obtain ⟨rs,c,q⟩:=nQ (P:=P) (w:=w) t
   obtain ⟨b1,b2⟩:=b
   exact ⟨(p.1,b2)::rs,⟨kA h.1,rfl,c⟩,.cons ⟨rfl,h.2⟩ q⟩
def tDisp (trs:List (TE×TE)):TE:=fun σ H Q=>∀ p,H p=none→tPairs trs σ (upd H p (.dK [])) fun ps H2=>H2 p=some (.dK [])∧∃ kvs:List (Key×V),ps=kvs.map (fun kv=>(kV kv.1,kv.2))∧kvs.length≤15∧Q (.ref p) (upd H2 p (.dK (mergeK [] kvs)))
theorem a13 {X:Cx} {pos:Pos} {keys:List (Option Expr)} {values:List Expr} {trs:List (TE×TE)} (h:PPs X pos keys values trs) (hall:keys.all (·.isSome)=true) (hl:keys.length=values.length) (h0:keys≠[])
  (h15:keys.length≤15):PE X (.Dict keys values pos) (tDisp trs):=by
 intro pins s σ H Q I q
 have hn:=I.hok.fresh (Nat.le_refl s.heap.objs.size)
 have I1:=I.laid (a:=s.heap.objs.size) (o:=.dK []) (h':=s.heap.push {cls:=.type "dict",data:=.dict #[]}) (t':=s.toks) (fun _ _ q=>Heap.get?_push_of_some _ q) (Nat.le_refl _) (sS s.heap I.big)
 refine wpAny_Dict_walk (knd:=mixKind X.prog X.w) hall hl h0 h15 (thn (h pins _ σ _ _ I1 (q _ hn)) ?_)
 rintro ws s2 ⟨ps,H2,I2,rel,e,kvs,ep,lk,q2⟩
 subst ep
 obtain ⟨rs,c,rk⟩:=nQ (P:=X.prog) (w:=X.w) rel
 obtain ⟨z,hd,vs0,r0,dd⟩:=pM I2.hok e
 cases r0
 refine ⟨rs,c,dd,fun h' dd' hs=>⟨.ref s.heap.objs.size,_,?_,rfl,q2⟩⟩
 have hz:(mergeK [] kvs).length≤sizeLine:=by
  have h1:=kB kvs []
  rw [List.length_nil] at h1
  rw [sizeLine_eq];omega
 have he:∃ q,h'.get? s.heap.objs.size=some q:=let ⟨q,_,_,hq,_⟩:=dd';⟨q,hq⟩
 exact kY I2 (by rw [e];exact True.intro) hs he (qS hz hd (rk.merge .nil) dd')
structure M2 (X:Cx) (o:Expr) (m:Str) (apos:Pos) (e f:Expr) (cpos:Pos):Prop where
 base:attributeBase o m X.env (eval o X.env)=eval o X.env
 few:((backTo cpos (starEach [e,f] X.env)).all (fun x=> !x.1)&&(backToKw cpos (keywordEach [] X.env)).all (fun x=>x.1.isSome)
  &&decide (([e,f]:List Expr).length+([]:List Keyword).length+(if ([]:List Keyword).isEmpty then 0 else 1) < 30))=true
 line:(apos.endLine==cpos.line)=true
 trees:backTo cpos (starEach [e,f] X.env)=[(false,eval e X.env),(false,eval f X.env)]
def IsD (H:Hp) (a:Addr):Prop:=(∃ kvs,Rd H a (.dK kvs))∨∃ kvs,Rd H a (.dT kvs)
theorem a1e {X:Cx} {pins:List (Addr×Obj)} {σ:St} {H:Hp} {s:Shared} {a:Addr} (I:Inv X pins σ H s) (d:IsD H a):
  s.TypeIs (.ref a) "dict"∧(∀ b,Value.ref a=.ref b→∃ ob,s.heap.get? b=some ob∧ob.dict=none)∧(a==sysModules)=false:=by
 rcases d with ⟨kvs,e⟩ | ⟨kvs,e⟩
 ·obtain ⟨_,hd,vs,_,dd⟩:=kX I.hok e
  refine ⟨dd.typeIs,fun b q=>?_,hd⟩
  cases q
  obtain ⟨ob,_,_,h1,h2,_⟩:=dd
  exact ⟨ob,h1,h2.2.1⟩
 ·obtain ⟨_,hd,xs,_,dd⟩:=pW I.hok e
  refine ⟨dd.typeIs,fun b q=>?_,hd⟩
  cases q
  obtain ⟨ob,_,_,h1,h2,_⟩:=dd
  exact ⟨ob,h1,h2.2.1⟩
section
variable {X:Cx} {pins:List (Addr×Obj)} {σ:St} {H:Hp} {s:Shared} {a:Addr} {y d:V} {u r:Value} {o:Option V} {A:Around} {E:Value→Shared→Prop}
theorem a1l {Q:Value→Shared→Prop} (hu:A.units+1 < cLine) (I:Inv X pins σ H s) (g:DGet H a y o) (ry:RelV y u) (rd:RelV d r) (h:∀ w' s',Inv X pins σ H s'→RelV (o.getD d) w'→Q w' s'):
  wpAny (model X.prog X.w) A (call (.builtin "dict.get") [.ref a,u,r]) Q E s:=by
 rcases g with ⟨kvs,k,e,ey,l⟩ | ⟨kvs,k,b,e,ey,eb,l⟩
 ·subst ey
  obtain ⟨z,hd,vs,rel,dd⟩:=kX I.hok e
  refine call_meetsIn PySem.F.slot_dict_get dd.typeIs PySem.F.entry_dict_get (PySem.F.args_dict_get_3 _ _ _) (meets_dict_get_default (mixKind X.prog X.w) a (kA ry) hd r) ⟨_,dd.mapOf,h _ _ (I.tok _) ?_⟩
  rw [l]
  exact (rel.val k).getD rd
 ·subst ey
  cases (show u=Value.ref b from ry)
  obtain ⟨z,hd,xs,rel,dd⟩:=pW I.hok e
  refine call_meetsIn PySem.F.slot_dict_get dd.typeIs PySem.F.entry_dict_get (PySem.F.args_dict_get_3 _ _ _) (meetsH_dict_get_default (tupleKind (mixKind X.prog X.w)) a b hd r) ⟨tupleKind_room_in1 hu,k,xs,oF I.hok eb,dd,h _ _ (I.tok _) ?_⟩
  rw [l]
  exact (rel.val k).getD rd
end
def tDGet2 (td ty tx:TE):TE:=fun σ H Q=>td σ H fun x H1=>∃ a,x=.ref a∧IsD H1 a∧ty σ H1 fun y H2=>tx σ H2 fun z H3=>∃ o,DGet H3 a y o∧Q (o.getD z) H3
section
variable {X:Cx} {o e f:Expr} {apos cpos:Pos} {td ty tx:TE}
theorem a06 (hu:X.A.units+1 < cLine) (ho:PE X o td) (he:PE X e ty) (hf:PE X f tx) (m:M2 X o "get" apos e f cpos):PE X (.Call (.Attribute o "get" apos) [e,f] [] cpos) (tDGet2 td ty tx):=by
 intro pins s σ H Q I h
 refine wpAny_Call_method m.base m.few m.line PySem.F.plainAttrs_dict PySem.F.slot_dict_get PySem.F.type_dict_get (thn (ho pins s σ H _ I h) ?_)
 rintro u s1 ⟨x,H1,I1,rx,a,ex,d,q1⟩
 subst ex
 obtain rfl:u=Value.ref a:=rx
 obtain ⟨t1,t2,_⟩:=a1e I1 d
 refine ⟨t1,t2,?_⟩
 rw [m.trees]
 refine Calls.callWith_builtin rfl (Calls.evalArgs_plain (Calls.spliced_cons (thn (he pins s1 σ H1 _ I1 q1) fun iv s2 ⟨y,H2,I2,ry,q2⟩=>
  Calls.spliced_cons (thn (hf pins s2 σ H2 _ I2 q2) fun fv s3 ⟨z,H3,I3,rz,ov,g,q3⟩=>Calls.spliced_nil ?_))))
 exact a1l hu I3 g ry rz fun w' s4 I4 rw'=>⟨_,H3,I4,rw',q3⟩
end
section
variable {X:Cx} {pins:List (Addr×Obj)} {σ:St} {H:Hp} {s:Shared} {a:Addr} {kvs:List (Key×V)} {A:Around} {E:Value→Shared→Prop}
end
section
variable {X:Cx} {pins:List (Addr×Obj)} {σ:St} {H:Hp} {s:Shared} {a:Addr} {y:V} {u:Value} {A:Around} {E:Value→Shared→Prop}
end
end L2
namespace Att
open PySem PySem.W PySem.Calls PyProof.Rows
theorem mU {P:Params} {h:Heap}:∀ (ns:List Int) (vs:List Value),WellAll P h vs (ns.map WData.int)→IntsAre vs ns:=by
 intro ns
 induction ns with
 | nil=>
  intro vs w
  rw [List.map_nil] at w
  cases w
  exact .nil
 | cons n ns ih=>
  intro vs w
  rw [List.map_cons] at w
  cases w with
  | cons a b=>
   cases a
   exact .cons _ _ (ih _ b)
theorem xA {l:OpenLaw} {n:Nat} (hn:l.most=some n) {P:Params} {h:Heap} {args:List WData} {vals:List Value}
  (hpre:l.row.toRowW.claim.pre args=true) (hwl:WellAll P h vals args):
  ∃ a vs ns,vals=[Value.ref a]∧args=[WData.list (ns.map WData.int)]∧h.get? a=some {cls:=.type "list",data:=.seq vs.toArray}∧IntsAre vs ns∧ns.length≤n:=by
 have hsh:WShape.hasAll [] args [.list .int]=true:=(pre_splitW hpre).1
 have hc:l.pre.holds [] {args:=args}=true:=(pre_splitW hpre).2
 obtain ⟨d,r,rfl,h1,h2⟩:=hasAllW_cons hsh
 obtain rfl:=hasAllW_nil h2
 obtain ⟨xs,rfl,h3⟩:=hasW_list h1
 obtain ⟨ns,rfl⟩:=items_int h3
 have hlen:ns.length≤n:=by
  unfold OpenLaw.pre at hc
  have h4:(WTm.not (.lt (.lit (.int (n:Int))) (.len (.arg 0)))).holds [] {args:=[.list (ns.map .int)]}=true:=by
   have h4:=(holds_andW hc).1
   rw [hn] at h4
   exact h4
  have h5:=condW_of h4 (w_not (w_lt w_lit (w_len_list (w_arg rfl))))
  rw [List.length_map] at h5
  refine Nat.le_of_not_lt fun q=>?_
  have q':(n:Int) < ((ns.length:Nat):Int):=by omega
  first
   | (rw [decide_eq_true q'] at h5;exact absurd h5 (by decide))
   | (simp at h5;omega)
 cases hwl with
 | cons w1 w2=>
  cases w2
  cases w1 with
  | list ho hall=>exact ⟨_,_,ns,rfl,rfl,ho,mU ns _ hall,hlen⟩
theorem wM (l:OpenLaw) (args:List WData):l.row.toRowW.claim.post args (.bool true) args=true:=
 postW_of (r:=l.row.toRowW) (X:=(true==true))
  (show WShape.has [] (.bool true) .bool=true by first | rfl | decide | simp [WShape.has,WShape.arms,WShape.armsAll])
  (show (WTm.eq .res (.lit (.bool true))).value [] {args:=args,res:=some (.bool true),after:=args}=some (.bool (true==true)) from w_eq_bool (w_res rfl) w_lit) rfl
theorem tM {l:OpenLaw} {n:Nat} {q:Program} {loose:List Str} {XP:(Str→Option Value)→Heap→Prop} {YP:World→Heap→Prop} {d:DefRec}
  (hn:l.most=some n) (hdf:d.params.defaults=[])
  (call:∀ (w:World) (s₀ s₁:Shared) (mg mb:Str→Option Value) (fa:Addr) (o:Obj) (pm cd doc:Value) (a:Addr) (vs:List Value) (ns:List Int),
   Ground q loose [] XP w s₀ mg mb s₁.heap→YP w s₁.heap→
   s₁.heap.get? fa=some o→o.data=.func (docDef d.name d.params d.body d.scope pm cd doc)→s₁.heap.CodeRec cd d.name→mg d.name=some (.ref fa)→
   s₁.heap.get? a=some {cls:=.type "list",data:=.seq vs.toArray}→IntsAre vs ns→ns.length≤n→s₁.gens=#[]→
   codeAny (model l.prog w) callerA (.call (.ref fa) ⟨[.ref a],[]⟩) (fun r s'=>r=.ok (.ret (.bool true))∧OldK s₁.heap s'.heap∧s'.os=s₁.os∧AllBare s'.gens) s₁):
  WalkO q loose XP YP l.row.toRowW d [] (fun f vs=>PySem.call f vs):=by
 intro w s₀ s₁ mg mb G Y fa o pm cd doc dV kV ho hd hcd hD hmg hg args vals as hpre hlay hrd hwl hlo
 obtain rfl:dV=.none:=Dflts.none hD hdf
 obtain rfl:kV=.none:=Dflts.noKw hD
 obtain ⟨a,vs,ns,rfl,rfl,hobj,hints,hlen⟩:=xA hn hpre hwl
 refine enter_call (codeAny_mono (call w s₀ s₁ mg mb fa o pm cd doc a vs ns G Y ho (fd_plain hd) hcd hmg hobj hints hlen hg) fun r s' hq=>?_)
 obtain ⟨rfl,h2,h3,h4⟩:=hq
 exact ⟨.inl ⟨.bool true,.bool true,[],rfl,fun _=>rfl,.bool true,wM l _,fun _=>⟨List.Pairwise.nil,fun _ hm=>(nomatch hm)⟩⟩,h2,h3,h4⟩
section
variable {prog:Program} {w:World} {A:Around} {E:Value→Shared→Prop} {s:Shared} {K:Frag}
end
end Att
namespace L2
open PySem PySem.Spec PyProof.Rows
theorem pP:∀ {vs:List Value} {ns:List Int},IntsAre vs ns→Vals (ns.map V.int) vs
 | _,_,.nil=>.nil
 | _,_,.cons n t h=>.cons ⟨t,rfl⟩ (pP h)
end L2
namespace L2
open PySem PySem.Spec PyProof.Rows
end L2
namespace L2
open PySem PySem.Spec PyProof.Rows
def defArgs (s:Stmt):Arguments:=match s with
 | .FunctionDef _ a _ _ _ _ _ _ _ _=>a
 | _=>{posonlyargs:=[],args:=[],vararg:=none,kwonlyargs:=[],kw_defaults:=[],kwarg:=none,defaults:=[]}
def defBody (s:Stmt):List Stmt:=match s with
 | .FunctionDef _ _ b _ _ _ _ _ _ _=>b
 | _=>[]
def defScope (s:Stmt):Scope:=match s with
 | .FunctionDef _ _ _ _ _ _ sc _ _ _=>sc
 | _=>{kind:=.function,names:=[],isGenerator:=false,isCoroutine:=false}
abbrev CX0:CXT:=fun _ _ _ _ _ _=>False
abbrev E0:XK:=fun _ _ _=>False
theorem pass0 {X:Cx}:Passes CX0 X E0:=fun _ _ _ _ _ _ _ h=>h.elim
structure Fun (K:PySem.W.Frag) (x qual:Str) (st:Stmt) (f:Addr) (fd:FuncData):Prop where
 ex:∃ (oc:Value) (od:Option Addr) (kV doc pm:Value) (an:Option Addr) (cdv ct:Value) (osl:Array (Option Value)),
  fd=PySem.W.fnOf x qual (defArgs st) (defBody st) (defScope st) .none kV doc pm an cdv ct∧K.lookup f=some ⟨oc,od,.func fd,osl⟩∧PySem.W.codeIn K cdv qual=true
 kp:PySem.W.keepIn K (.ref f)=true
section
variable {P:Program} {w:World} {K:PySem.W.Frag} {mg:Str→Option Value} {base:Heap}
theorem Fun.ok {x qual:Str} {st:Stmt} {f:Addr} {fd:FuncData} {N ps:List Str} {k:Nat} {sp:Sp} (F:Fun K x qual st f fd) (S:FnScope N ps (defScope st)) (len:∀ vs H Q E,sp vs H Q E→vs.length=ps.length)
  (hbody:∀ (cdv:Value) (A:Around) (outer:List Env) (s:Shared) (H:Hp) (vs:List V) (Q:VK) (E:XK),Room k (A.deeper (envOfC qual (defScope st) s.heap.objs.size f cdv))→sp vs H Q E→
   ∃ t,PSs (cxOf CX0 P w K mg base N qual (defScope st) f cdv A outer s H E).nox (defBody st) t∧t {nx:=fun _ H'=>Q .non H',rt:=Q} (start N vs) H):FnOk P w K mg base CX0 (k+1) f fd ps sp:=by
 obtain ⟨oc,od,kV,doc,pm,an,cdv,ct,osl,rfl,lk,hcd⟩:=F.ex
 refine a2x lk hcd S len fun A outer s H vs Q E hr hsp=>?_
 obtain ⟨t,h,q⟩:=hbody cdv A outer s H vs Q E hr hsp
 exact ⟨t,h.nox,q⟩
theorem Fun.binds {x qual:Str} {st:Stmt} {f:Addr} {fd:FuncData} {ps:List Str} (F:Fun K x qual st f fd)
  (h:∀ (kV doc pm:Value) (an:Option Addr) (cdv ct:Value) (us:List Value),us.length=ps.length→bindArgs (PySem.W.fnOf x qual (defArgs st) (defBody st) (defScope st) .none kV doc pm an cdv ct) ⟨us,[]⟩=pure (ps.zip us)):Binds K fd ps []:=by
 obtain ⟨oc,od,kV,doc,pm,an,cdv,ct,osl,rfl,lk,hcd⟩:=F.ex
 exact .all (h kV doc pm an cdv ct)
theorem a1I {x qual:Str} {st:Stmt} {f:Addr} {oc:Value} {od an:Option Addr} {osl:Array (Option Value)} {kV doc pm cdv ct:Value} (l:K.lookup f=some ⟨oc,od,.func (PySem.W.fnOf x qual (defArgs st) (defBody st) (defScope st) .none kV doc pm an cdv ct),osl⟩)
  (c:PySem.W.codeIn K cdv qual=true) (k:PySem.W.keepIn K (.ref f)=true):Fun K x qual st f (PySem.W.fnOf x qual (defArgs st) (defBody st) (defScope st) .none kV doc pm an cdv ct):=⟨⟨oc,od,kV,doc,pm,an,cdv,ct,osl,rfl,l,c⟩,k⟩
end
theorem bD {A:Around} {k:Nat} (hr:Room k A):A.units+1 < cLine:=Nat.lt_of_le_of_lt (Nat.add_le_add_left (by decide:1≤64) _) hr.units
theorem small1000 {n:Nat} (h:n≤1000):n < sizeLine:=Nat.lt_of_le_of_lt h (by decide)
section
variable {X:Cx}
end
theorem iteF {A B:Prop} (h:B):if false=true then A else B:=by
 rw [if_neg Bool.false_ne_true]
 exact h
theorem iteT {A B:Prop} (h:A):if true=true then A else B:=by
 rw [if_pos rfl]
 exact h
theorem ite2 {c A B:Prop} [Decidable c] (h1:c→A) (h2:¬c→B):if c then A else B:=by
 by_cases h:c
 ·rw [if_pos h]
  exact h1 h
 ·rw [if_neg h]
  exact h2 h
def Same (H H':Hp):Prop:=∀ b o,H b=some o→H' b=some o
theorem Same.refl (H:Hp):Same H H:=fun _ _ h=>h
theorem Same.trans {H H1 H2:Hp} (a:Same H H1) (b:Same H1 H2):Same H H2:=fun c o h=>b c o (a c o h)
theorem Same.free {H H':Hp} (e:Same H H') {l:Addr} (h:H' l=Option.none):H l=Option.none:=by
 cases q:H l with
 | none=>rfl
 | some o=>
  rw [e l o q] at h
  cases h
section
variable {κ:Type} [DecidableEq κ]
end
end L2
set_option maxRecDepth 100000
namespace L2
open PySem PySem.Spec PyProof.Rows
theorem kK {env:Env}:∀ (names:List (Str×NameKind)) (acc:List (Str×Addr)),
  (∀ y∈names,y.2=.free→∃ c,env.cells.lookup y.1=some c)→(∀ x c,acc.lookup x=some c→env.cells.lookup x=some c)→
  ∃ cl,(forIn names acc fun (x:Str×NameKind) cs=>(if (x.2==NameKind.free)=true then (do let c ← cellOf env x.1;pure (ForInStep.yield ((x.1,c)::cs))) else pure (ForInStep.yield cs):Sem (ForInStep (List (Str×Addr)))))=pure cl∧
   (∀ x c,cl.lookup x=some c→env.cells.lookup x=some c)∧(∀ y∈names,y.2=.free→∃ c,cl.lookup y.1=some c)∧(∀ x c,acc.lookup x=some c→∃ c,cl.lookup x=some c)
 | [],acc,_,ha=>⟨acc,rfl,ha,(fun _ h=>nomatch h),fun x c h=>⟨c,h⟩⟩
 | (n,k)::r,acc,h,ha=>by
  rw [List.forIn_cons]
  by_cases hk:k=.free
  ·obtain ⟨c,hc⟩:=h (n,k) List.mem_cons_self hk
   have hc':cellOf env n=pure c:=by unfold cellOf;rw [show env.cells.lookup n=some c from hc]
   have ha2:∀ x d,((n,c)::acc).lookup x=some d→env.cells.lookup x=some d:=fun x d hx=>by
    rw [List.lookup_cons] at hx
    cases e:x==n with
    | true=>rw [e] at hx;cases hx;rw [eq_of_beq e];exact hc
    | false=>rw [e] at hx;exact ha x d hx
   obtain ⟨cl,e,h1,h2,h3⟩:=kK r ((n,c)::acc) (fun y hy=>h y (List.mem_cons_of_mem _ hy)) ha2
   refine ⟨cl,?_,h1,fun y hy hf=>?_,fun x d hx=>?_⟩
   ·have hk':(k==NameKind.free)=true:=by rw [hk];rfl
    simp only [hk',if_true,hc',pure_bind]
    exact e
   ·rcases List.mem_cons.mp hy with z | hy
    ·rw [z];exact h3 n c (by simp [List.lookup_cons])
    ·exact h2 y hy hf
   ·cases e2:x==n with
    | true=>exact h3 x c (by simp [List.lookup_cons,e2])
    | false=>exact h3 x d (by simp [List.lookup_cons,e2,hx])
  ·have hk':(k==NameKind.free)=false:=by simpa using hk
   obtain ⟨cl,e,h1,h2,h3⟩:=kK r acc (fun y hy=>h y (List.mem_cons_of_mem _ hy)) ha
   refine ⟨cl,?_,h1,fun y hy hf=>?_,h3⟩
   ·simp only [hk',Bool.false_eq_true,if_false,pure_bind]
    exact e
   ·rcases List.mem_cons.mp hy with z | hy
    ·rw [z] at hf;exact absurd hf hk
    ·exact h2 y hy hf
theorem uF {sc:Scope} {env:Env} (h:∀ y∈sc.names,y.2=.free→∃ c,env.cells.lookup y.1=some c):
  ∃ cl,closureFor sc env=pure cl∧(∀ x c,cl.lookup x=some c→env.cells.lookup x=some c)∧(∀ y∈sc.names,y.2=.free→∃ c,cl.lookup y.1=some c):=by
 obtain ⟨cl,e,h1,h2,_⟩:=kK (env:=env) sc.names [] h (fun _ _ h=>nomatch h)
 refine ⟨cl,?_,h1,h2⟩
 unfold closureFor
 have e':(forIn sc.names ([]:List (Str×Addr)) fun (x:Str×NameKind) cs=>(if (x.2==NameKind.free)=true then (do let c ← cellOf env x.1;pure (ForInStep.yield ((x.1,c)::cs))) else pure (ForInStep.yield cs):Sem (ForInStep (List (Str×Addr))))) >>=(fun cs=>(pure cs:Sem _))=pure cl:=by rw [e];rfl
 exact e'
theorem fP {env:Env}:∀ {names:List (Str×NameKind)} {x:Str},names.lookup x=some .free→
  (names.map fun (n,k)=>if (k==NameKind.free&&env.scope.kind==.function&&env.kindOf n==some .cell) then (n,NameKind.cell) else (n,k)).lookup x=some .cell∨
  (names.map fun (n,k)=>if (k==NameKind.free&&env.scope.kind==.function&&env.kindOf n==some .cell) then (n,NameKind.cell) else (n,k)).lookup x=some .free
 | [],_,h=>by simp at h
 | (n,k)::r,x,h=>by
  have ih:=@fP env r x
  show List.lookup x ((if (k==NameKind.free&&env.scope.kind==.function&&env.kindOf n==some .cell)=true then (n,NameKind.cell) else (n,k))::_)=_∨List.lookup x ((if (k==NameKind.free&&env.scope.kind==.function&&env.kindOf n==some .cell)=true then (n,NameKind.cell) else (n,k))::_)=_
  cases hx:x==n with
  | true=>
   simp only [List.lookup_cons,hx] at h
   cases h
   by_cases hc:(NameKind.free==NameKind.free&&env.scope.kind==.function&&env.kindOf n==some .cell)=true
   ·rw [if_pos hc];simp [List.lookup_cons,hx]
   ·rw [if_neg hc];simp [List.lookup_cons,hx]
  | false=>
   simp only [List.lookup_cons,hx] at h
   by_cases hc:(k==NameKind.free&&env.scope.kind==.function&&env.kindOf n==some .cell)=true
   ·rw [if_pos hc];simp only [List.lookup_cons,hx];exact ih h
   ·rw [if_neg hc];simp only [List.lookup_cons,hx];exact ih h
theorem mL {env:Env} {names:List (Str×NameKind)} {x:Str} {k:NameKind}
  (h:(names.map fun (n,k)=>if (k==NameKind.free&&env.scope.kind==.function&&env.kindOf n==some .cell) then (n,NameKind.cell) else (n,k)).lookup x=some k) (hk:k=.cell∨k=.free) (hc:∀ y∈names,y.2≠.cell):(x,NameKind.free)∈names:=by
 have hm:=PySem.mem_of_lookup h
 obtain ⟨⟨n,k'⟩,h1,h2⟩:=List.mem_map.mp hm
 dsimp only at h2
 split at h2
 ·next hh=>
  cases h2
  have:k'=.free:=by
   simp only [Bool.and_eq_true,beq_iff_eq] at hh
   exact hh.1.1
  rw [← this];exact h1
 ·cases h2
  rcases hk with z | z
  ·exact absurd z (hc _ h1)
  ·rw [← z];exact h1
abbrev cxComp (X:Cx) (N':List Str) (sc:Scope) (cl:List (Str×Addr)) (C:Addr) (s3:Shared) (H0:Hp) (fp:List Addr) (pn:List (Addr×Obj)):Cx where
 prog:=X.prog
 w:=X.w
 K:=X.K
 mg:=X.mg
 base:=X.base
 A:=X.A
 N:=N'
 s₀:=s3
 H₀:=H0
 env:=compEnvC sc cl C X.env
 outer:=X.stack
 stack:=X.stack
 ex:=fp
 fn:=fun _=>false
 calm:=X.calm
 pn:=pn
 xe:=fun _ _=>False
structure CScope (osc:Scope) (oN:List Str) (sc:Scope) (own:List Str) (idx:List Nat) (N':List Str):Prop where
 kind:sc.kind=.function
 cell:∀ y∈sc.names,y.2≠.cell
 names:∀ y∈sc.names,y.2=.local→sc.names.lookup y.1=some .local
 free:∀ y∈sc.names,y.2=.free→(osc.names.lookup y.1=some .cell∨osc.names.lookup y.1=some .free)
 seen:∀ j∈idx,sc.names.lookup (oN.getD j "")=some .free∧j < oN.length
 nn:N'=own++idx.map (fun j=>oN.getD j "")
def stIn (own:List Str) (idx:List Nat) (σ:St):St:=List.replicate own.length none++idx.map fun j=>(σ[j]?).join
section
variable {X:Cx} {pins:List (Addr×Obj)} {σ:St} {H2:Hp} {s2:Shared}
theorem sZ {sc:Scope} {own:List Str} {idx:List Nat} {N':List Str} {cl:List (Str×Addr)} {fp:List Addr} {h4:Heap} {ob:Obj} {ho:HO} {t4:Nat} (S:CScope X.env.scope X.N sc own idx N') (I:Inv X pins σ H2 s2) (hf:∀ b∈fp,FpOk X pins H2 b) (hfo:∀ b∈fp,∃ o,s2.heap.get? b=some o)
  (c1:∀ x c,cl.lookup x=some c→X.env.cells.lookup x=some c) (c2:∀ y∈sc.names,y.2=.free→∃ c,cl.lookup y.1=some c) (hob:ob.isFreed=false)
  (hD:∀ (H:Hp) (h:Heap),h.get? s2.heap.objs.size=some ob→ObjOk X.prog X.w H h s2.heap.objs.size ho)
  (ns:h4.Ns (s2.heap.push ob).objs.size (fun x=>([]:List (Str×Value)).reverse.lookup x)) (sb:∀ b o,(s2.heap.push ob).get? b=some o→h4.get? b=some o):
  Inv (cxComp X N' sc cl (s2.heap.push ob).objs.size {s2 with heap:=s2.heap.push ob} (upd H2 s2.heap.objs.size ho) fp (X.pn++pins)) [] (stIn own idx σ) (upd H2 s2.heap.objs.size ho) {s2 with heap:=h4,toks:=t4}:=by
 have hsz:(s2.heap.push ob).objs.size=s2.heap.objs.size+1:=Heap.size_push _ _
 have fr2:H2 s2.heap.objs.size=none:=I.hok.fresh (Nat.le_refl _)
 have up:∀ b o,s2.heap.get? b=some o→(s2.heap.push ob).get? b=some o:=fun b o e=>Heap.get?_push_of_some _ e
 have up4:∀ b o,s2.heap.get? b=some o→h4.get? b=some o:=fun b o e=>sb b o (up b o e)
 have ltD:∀ b o,s2.heap.get? b=some o→b≠s2.heap.objs.size:=fun b o e=>Nat.ne_of_lt (Heap.lt_size e)
 have nh:∀ b o,s2.heap.get? b=some o→H2 b=none→upd H2 s2.heap.objs.size ho b=none:=fun b o e n=>by rw [aN (ltD b o e)];exact n
 have stkO:∀ b∈frs X.stack,∃ o,s2.heap.get? b=some o:=fun b hb=>by
  obtain ⟨_,o,ho,_⟩:=I.stack.mem hb
  exact ⟨o,ho⟩
 have cellO:∀ x c,cl.lookup x=some c→∃ o,s2.heap.get? c=some o:=fun x c e=>by
  obtain ⟨v,o,ho,_⟩:=I.cell x c (c1 x c e)
  exact ⟨o,ho⟩
 have eD:(s2.heap.push ob).get? s2.heap.objs.size=some ob:=Heap.get?_push_size s2.heap hob
 have hok3:HOk X.prog X.w (upd H2 s2.heap.objs.size ho) h4:=I.hok.laid up4 (Nat.le_refl _) (hD _ _ (sb _ _ eD))
 refine ⟨⟨I.ok.mod,S.kind,I.ok.glob,I.ok.blt,Nat.le_refl _,fun x y c h1 h2=>I.ok.inj x y c (c1 x c h1) (c1 y c h2),fun x hx=>?_,(fun x c hx _=>nomatch hx),I.ok.hd,I.ok.frames,.inl rfl,fun b hb=>⟨?_,fun x c e=>?_⟩,fun b o e=>⟨?_,?_⟩,?_,fun b o e hb=>?_,fun b hb=>?_,?_,fun b hb=>?_⟩,
  rfl,I.bare,Un.kept sb,⟨_,ns,fun i x v h1 h2 h3=>?_⟩,fun x c e=>?_,?_,fun x c e=>?_,fun p hp=>?_,hok3,?_⟩
 ·rcases hx with hx | hx
  ·exact c2 (x,.free) (mL hx (.inl rfl) S.cell) rfl
  ·exact c2 (x,.free) (mL hx (.inr rfl) S.cell) rfl
 ·obtain ⟨o,e⟩:=hfo b hb
  have:=Heap.lt_size e
  show b≠(s2.heap.push ob).objs.size
  rw [hsz];exact Nat.ne_of_lt (Nat.lt_succ_of_lt this)
 ·exact (hf b hb).2.2.2.2.1 x c (c1 x c e)
 ·exact up b o (I.bk b o e)
 ·exact nh b o (I.bk b o e) (I.bs b o e).2
 ·show X.base.objs.size≤(s2.heap.push ob).objs.size
  have:=Nat.le_trans I.ok.bsz I.sz
  rw [hsz];omega
 ·obtain ⟨f0,f1,f2,f3,f4,f5⟩:=hf b hb
  rcases f3 with z | z
  ·exact I.ok.noex b o e z
  ·exact absurd (Heap.lt_size e) (Nat.not_lt.mpr (Nat.le_trans I.ok.bsz z))
 ·obtain ⟨f0,f1,f2,f3,f4,f5⟩:=hf b hb
  intro z
  rcases List.mem_cons.mp (I.stkSub b z) with z | z
  ·exact f1 z
  ·exact f2 z
 ·exact Heap.FunFrames.of_keeps (fun b o e _=>⟨o,up b o e,rfl⟩) I.stack
 ·obtain ⟨o,e⟩:=stkO b hb
  exact nh b o e (I.stkFree b hb)
 ·unfold stIn at h2
  by_cases hi:i < own.length
  ·rw [List.getElem?_append_left (by simpa using hi),List.getElem?_replicate,if_pos hi] at h2
   cases h2
  ·rw [List.getElem?_append_right (by simpa using hi),List.length_replicate,List.getElem?_map] at h2
   have h1':N'[i]? =some x:=h1
   rw [S.nn,List.getElem?_append_right (by simpa using hi),List.getElem?_map] at h1'
   cases ej:idx[i - own.length]? with
   | none=>rw [ej] at h1';cases h1'
   | some j=>
    rw [ej] at h1' h2
    obtain ⟨hs1,hs2⟩:=S.seen j (List.mem_of_getElem? ej)
    have hx:X.N[j]? =some x:=by
     have:X.N.getD j ""=x:=Option.some.inj h1'
     rw [← this,List.getD_eq_getElem?_getD,List.getElem?_eq_getElem hs2];rfl
    have hv:σ[j]? =some (some v):=by
     have h2':(σ[j]?).join=some v:=Option.some.inj h2
     cases q:σ[j]? with
     | none=>rw [q] at h2';cases h2'
     | some w=>rw [q] at h2';exact congrArg some h2'
    have hsx:sc.names.lookup x=some .free:=by
     have:X.N.getD j ""=x:=Option.some.inj h1'
     rw [← this];exact hs1
    have hmem:(x,NameKind.free)∈sc.names:=PySem.mem_of_lookup hsx
    obtain ⟨m,hn,hl⟩:=I.loc
    have hvis:Vis X.env.scope x:=by
     rcases S.free _ hmem rfl with z | z
     ·exact .inr (.inl z)
     ·exact .inr (.inr z)
    obtain ⟨u,r,lk⟩:=hl j x v hx hv hvis
    refine ⟨u,r,?_⟩
    rcases lk with ⟨k,_⟩ | ⟨k,c,e,z⟩
    ·rcases S.free _ hmem rfl with q | q
     ·have q':X.env.kindOf x=some .cell:=q
      rw [q'] at k;cases k
     ·have q':X.env.kindOf x=some .free:=q
      rw [q'] at k;cases k
    ·obtain ⟨c',hc'⟩:=c2 (x,.free) hmem rfl
     have e':=c1 x c' hc'
     rw [e] at e'
     cases e'
     refine .inr ⟨?_,c,hc',?_⟩
     ·rcases fP (env:=X.env) hsx with q | q
      ·exact .inl q
      ·exact .inr q
     ·obtain ⟨o,ho',hd⟩:=z
      exact ⟨o,up4 c o ho',hd⟩
 ·obtain ⟨v,o,ho',hd⟩:=I.cell x c (c1 x c e)
  exact ⟨v,o,up4 c o ho',hd⟩
 ·show upd H2 s2.heap.objs.size ho (s2.heap.push ob).objs.size=none
  rw [aN (by rw [hsz];exact Nat.ne_of_gt (Nat.lt_succ_self _))]
  exact I.hok.fresh (by rw [hsz];omega)
 ·obtain ⟨o,e1⟩:=cellO x c e
  exact nh c o e1 (I.freeC x c (c1 x c e))
 ·have hp':p∈X.pn++pins:=by simpa using hp
  obtain ⟨e,n,ne,nf,d⟩:=I.pin p hp'
  refine ⟨up4 _ _ e,nh _ _ e n,?_,fun z=>?_,d⟩
  ·have:=Heap.lt_size e
   show p.1≠(s2.heap.push ob).objs.size
   rw [hsz];exact Nat.ne_of_lt (Nat.lt_succ_of_lt this)
  ·rcases List.mem_cons.mp (I.stkSub p.1 z) with z | z
   ·exact ne z
   ·exact nf z
 ·show (stIn own idx σ).length=N'.length
  rw [S.nn];unfold stIn
  simp
theorem pU {sc:Scope} {N':List Str} {cl:List (Str×Addr)} {fp:List Addr} {ob:Obj} {ho:HO} {τ:St} {H':Hp} {s':Shared} (I:Inv X pins σ H2 s2) (hf:∀ b∈fp,FpOk X pins H2 b) (hob:ob.isFreed=false)
  (J:Inv (cxComp X N' sc cl (s2.heap.push ob).objs.size {s2 with heap:=s2.heap.push ob} (upd H2 s2.heap.objs.size ho) fp (X.pn++pins)) [] τ H' s'):
  Inv X pins σ H' s'∧H' (s2.heap.push ob).objs.size=none∧(s2.heap.push ob).objs.size≠X.env.locals∧X.s₀.heap.objs.size≤(s2.heap.push ob).objs.size∧
   (∀ x c,X.env.cells.lookup x=some c→c≠(s2.heap.push ob).objs.size)∧(∀ p∈X.pn++pins,p.1≠(s2.heap.push ob).objs.size)∧∃ m,s'.heap.Ns (s2.heap.push ob).objs.size m:=by
 have hsz:(s2.heap.push ob).objs.size=s2.heap.objs.size+1:=Heap.size_push _ _
 have u1:Un (frs X.stack) fp H2 (upd H2 s2.heap.objs.size ho) s2.heap (s2.heap.push ob):=Un.laid (fun b o e=>Heap.get?_push_of_some _ e) (Nat.le_refl _) (I.hok.fresh (Nat.le_refl _))
 have u2:Un (frs X.stack) fp (upd H2 s2.heap.objs.size ho) H' (s2.heap.push ob) s'.heap:=J.base
 have hos:s'.os=s2.os:=J.os
 refine ⟨I.call' hos (u1.trans u2) J.hok J.bare fun b hb=>?_,J.free,?_,?_,fun x c e z=>?_,fun p hp z=>?_,let ⟨m,hn,_⟩:=J.loc;⟨m,hn⟩⟩
 ·obtain ⟨f0,f1,f2,f3,f4,f5⟩:=hf b hb
  exact ⟨f3,f1,f4,f5⟩
 ·rw [hsz];exact Nat.ne_of_gt (Nat.lt_succ_of_lt I.lt)
 ·have:=I.sz;rw [hsz];omega
 ·obtain ⟨v,q⟩:=I.cell x c e
  have:=q.lt
  rw [z,hsz] at this;exact absurd this (Nat.not_lt.mpr (Nat.le_succ _))
 ·have:=Heap.lt_size (I.pin p hp).1
  rw [z,hsz] at this;exact absurd this (Nat.not_lt.mpr (Nat.le_succ _))
end
section
variable {prog:Program} {w:World} {A:Around} {R:Result→Shared→Prop} {s:Shared}
abbrev NoE:Value→Shared→Prop:=fun _ _=>False
theorem compLoopG {elt target iter:Expr} {ifs:List Expr} {scope:Scope} {pos:Pos} {it acc:Value} {env:Env} (I:Nat→Shared→Prop)
  (turn:∀ n s,I n s→wpAny (model prog w) A (pyNext it) (fun r s₁=>match r with
   | none=>R (.ok .next) s₁
   | some v=>wpAny (model prog w) A (letOwnedTupleGo target it v) (fun _ s₁'=>wpAny (model prog w) A (assign target env v) (fun _ s₂=>
     wpAny (model prog w) A (forIn ifs true fun c r=>if r=true then do let ok ← isTrue c env (eval c env);pure (ForInStep.yield ok) else pure (ForInStep.yield r)) (fun ok s₃=>
      if ok=true then wpAny (model prog w) A (eval elt env) (fun x s₄=>
       wpAny (model prog w) A (call (.builtin "list.append") [acc,x]) (fun _ s₅=>∃ m,m < n∧I m s₅) NoE s₄) NoE s₃
      else ∃ m,m < n∧I m s₃) NoE s₂) NoE s₁') NoE s₁) NoE s)
  (n:Nat) (h:I n s):
  codeAny (model prog w) A (.compLoop (.ListComp elt [⟨target,iter,ifs,0⟩] scope pos) 0 it acc env) R s:=by
 refine codeAny_loop rfl I (fun n s hI=>?_) n h
 show wpAny _ A ((compTurn (.ListComp elt [⟨target,iter,ifs,0⟩] scope pos) 0 it acc env).onRaise (fun x=>do noteFrame x env;theTreesLotGoes x)) _ _ s
 refine wpAny_noted ?_
 rw [compTurn_list]
 refine wpAny_bind (wpAny_standAt (wpAny_bind (wpAny_mono (turn n s hI) (fun r s₁ h₁=>?_) fun _ _ h'=>h'.elim)))
 cases r with
 | none=>exact wpAny_pure h₁
 | some v=>
  refine wpAny_bind (wpAny_mono h₁ (fun _ s₁' h₁'=>?_) fun _ _ h'=>h'.elim)
  refine wpAny_bind (wpAny_mono h₁' (fun _ s₂ h₂=>wpAny_bind (wpAny_mono h₂ (fun ok s₃ h₃=>?_) fun _ _ h'=>h'.elim)) fun _ _ h'=>h'.elim)
  cases ok with
  | false=>exact wpAny_pure ⟨rfl,h₃⟩
  | true=>
   exact wpAny_bind (wpAny_bind (wpAny_mono h₃ (fun x s₄ h₄=>wpAny_bind (wpAny_mono h₄ (fun _ s₅ h₅=>wpAny_pure (wpAny_pure ⟨rfl,h₅⟩)) fun _ _ h'=>h'.elim)) fun _ _ h'=>h'.elim))
end
abbrev TC:=St→Hp→(Bool→Hp→Prop)→Prop
def PC' (X:Cx) (ifs:List Expr) (t:TC):Prop:=
 ∀ (pins:List (Addr×Obj)) (s:Shared) (σ:St) (H:Hp) (Q:Bool→Hp→Prop),Inv X pins σ H s→t σ H Q→
  wpAny (model X.prog X.w) X.A (forIn ifs true fun c r=>if r=true then do let ok ← isTrue c X.env (eval c X.env);pure (ForInStep.yield ok) else pure (ForInStep.yield r)) (TP X pins σ Q) X.xe s
def tcNil:TC:=fun _ H Q=>Q true H
theorem a0o {X:Cx}:PC' X [] tcNil:=fun pins s σ H Q I h=>wpAny_pure ⟨H,I,h⟩
theorem a0r {X:Cx} {c:Expr} {t:TT} (h:PT X c t):PC' X [c] t:=fun pins s σ H Q I hq=>wpAny_tests_one (h pins s σ H Q I hq)
def tLC (own:List Str) (idx:List Nat) (wi:TI) (g:TG) (tc:TC) (te:TE):TE:=fun σ H Q=>wi σ H fun J H1=>∀ D,H1 D=none→∃ W:Nat→Nat→St→Hp→Prop,(∃ m,W 0 m (stIn own idx σ) (upd H1 D (.lst [])))∧∀ i m τ H,W i m τ H→
 (J.stop i H∧Q (.ref D) H)∨(J.go i H∧∃ N:St→Hp→Prop,(∀ τ' H',N τ' H'→∃ m',m' < m∧W (i+1) m' τ' H')∧∀ x H',J.yld i H x H'→g x τ H' fun τ2 H2=>tc τ2 H2 fun b H3=>
  if b=true then te τ2 H3 fun y H4=>∃ xs,H4 D=some (.lst xs)∧xs.length < sizeLine∧N τ2 (upd H4 D (.lst (xs++[y]))) else N τ2 H3)
section
variable {X:Cx} {tg iter elt:Expr} {ifs:List Expr} {sc:Scope} {pos:Pos} {own:List Str} {idx:List Nat} {N':List Str} {wi:TI} {g:TG} {tc:TC} {te:TE}
abbrev lob:Obj:={cls:=.type "list",dict:=none,data:=.seq ([]:List Value).toArray}
theorem nX (S:CScope X.env.scope X.N sc own idx N') {cl:List (Str×Addr)} (c1:∀ x c,cl.lookup x=some c→X.env.cells.lookup x=some c) (c2:∀ y∈sc.names,y.2=.free→∃ c,cl.lookup y.1=some c) (hc:X.calm=true)
  (hg:∀ cl C s3 H0 fp pn,PG (cxComp X N' sc cl C s3 H0 fp pn) tg g) (ht:∀ cl C s3 H0 fp pn,PC' (cxComp X N' sc cl C s3 H0 fp pn) ifs tc) (he:∀ cl C s3 H0 fp pn,PE (cxComp X N' sc cl C s3 H0 fp pn) elt te)
  {pins:List (Addr×Obj)} {σ:St} {Q:VK} {itv:Value} {s2:Shared} {RR:Value→Addr→Result→Shared→Prop} {E:Value→Shared→Prop}
  (hI:PIE X pins σ tg (fun J H1=>∀ D,H1 D=none→∃ W:Nat→Nat→St→Hp→Prop,(∃ m,W 0 m (stIn own idx σ) (upd H1 D (.lst [])))∧∀ i m τ H,W i m τ H→
   (J.stop i H∧Q (.ref D) H)∨(J.go i H∧∃ N:St→Hp→Prop,(∀ τ' H',N τ' H'→∃ m',m' < m∧W (i+1) m' τ' H')∧∀ x H',J.yld i H x H'→g x τ H' fun τ2 H2=>tc τ2 H2 fun b H3=>
    if b=true then te τ2 H3 fun y H4=>∃ xs,H4 D=some (.lst xs)∧xs.length < sizeLine∧N τ2 (upd H4 D (.lst (xs++[y]))) else N τ2 H3)) itv s2)
  (hRR:∀ D C H' s',Inv X pins σ H' s'→Q (.ref D) H'→(H' C=none∧C≠X.env.locals∧X.s₀.heap.objs.size≤C∧(∀ x c,X.env.cells.lookup x=some c→c≠C)∧(∀ p∈X.pn++pins,p.1≠C)∧∃ m,s'.heap.Ns C m)→RR (.ref D) C (.ok .next) s'):
  wpAny (model X.prog X.w) X.A (newList []) (fun acc s₃=>wpAny (model X.prog X.w) X.A (newFunctionEnv sc X.env.globals cl [] X.env.qual none .none (some X.env)) (fun cenv s₄=>
   codeAny (model X.prog X.w) X.A (.compStart (.ListComp elt [⟨tg,iter,ifs,0⟩] sc pos) 0 itv acc {cenv with scope:=relabel sc X.env}) (RR acc cenv.locals) s₄) E s₃) E s2:=by
 obtain ⟨it,fp,tn,J,H2,rfl,I,T,st2,f2,body⟩:=hI
 refine wpAny_newObj_type (wpAny_newFunctionEnv S.cell (by intro y hy;simp at hy) (fun h4 ns sb=>?_) S.kind)
 dsimp only at ns sb ⊢
 have hob:lob.isFreed=false:=rfl
 have fr:H2 s2.heap.objs.size=none:=I.hok.fresh (Nat.le_refl _)
 obtain ⟨W,⟨m0,w0⟩,turn⟩:=body _ fr
 have hfo:∀ b∈fp,∃ o,s2.heap.get? b=some o:=fun b hb=>let ⟨o,e,_⟩:=T.obj _ _ st2 b hb;⟨o,e⟩
 have sb':∀ b o,(s2.heap.push lob).get? b=some o→h4.get? b=some o:=fun b o e=>(sb.2 b (Nat.ne_of_lt (Heap.lt_size e))).trans (Heap.get?_push_of_some _ e)
 have hDo:∀ (H:Hp) (h:Heap),h.get? s2.heap.objs.size=some lob→ObjOk X.prog X.w H h s2.heap.objs.size (.lst []):=fun H h e=>⟨Nat.zero_le _,[],_,.nil,e⟩
 have I4:Inv (cxComp X N' sc cl (s2.heap.push lob).objs.size {s2 with heap:=s2.heap.push lob} (upd H2 s2.heap.objs.size (.lst [])) fp (X.pn++pins)) [] (stIn own idx σ) (upd H2 s2.heap.objs.size (.lst [])) {s2 with heap:=h4,toks:=s2.toks+([]:List (Str×Value)).length}:=
  sZ S I f2 hfo c1 c2 hob hDo ns sb'
 -- the block's own context
 generalize hY:cxComp X N' sc cl (s2.heap.push lob).objs.size {s2 with heap:=s2.heap.push lob} (upd H2 s2.heap.objs.size (.lst [])) fp (X.pn++pins)=Y at I4
 have hgY:PG Y tg g:=by rw [← hY];exact hg _ _ _ _ _ _
 have htY:PC' Y ifs tc:=by rw [← hY];exact ht _ _ _ _ _ _
 have heY:PE Y elt te:=by rw [← hY];exact he _ _ _ _ _ _
 have pY:Y.prog=X.prog:=by rw [← hY]
 have wY:Y.w=X.w:=by rw [← hY]
 have KY:Y.K=X.K:=by rw [← hY]
 have AY:Y.A=X.A:=by rw [← hY]
 have cY:Y.calm=true:=by rw [← hY];exact hc
 have xY:Y.xe=fun _ _=>False:=by rw [← hY]
 have eY:Y.env=compEnvC sc cl (s2.heap.push lob).objs.size X.env:=by rw [← hY]
 have exY:Y.ex=fp:=by rw [← hY]
 have fsY:Y.fs=frs X.stack:=by rw [← hY]
 have pnY:Y.pn=X.pn++pins:=by rw [← hY]
 have stat:∀ {H':Hp},(∀ b∈fp,H' b=none)→∀ b∈fp,FpOk Y [] H' b:=fun hn b hb=>by
  obtain ⟨f0,f1,f3,f4,f5,f6⟩:=f2 b hb
  refine ⟨hn b hb,?_,?_,.inl (by rw [exY];exact hb),fun x c e=>?_,fun p hp=>?_⟩
  ·obtain ⟨o,e⟩:=hfo b hb
   have:=Heap.lt_size e
   rw [eY]
   show b≠(s2.heap.push lob).objs.size
   rw [Heap.size_push];exact Nat.ne_of_lt (Nat.lt_succ_of_lt this)
  ·rw [fsY]
   intro z
   rcases List.mem_cons.mp (I.stkSub b z) with z | z
   ·exact f1 z
   ·exact f3 z
  ·rw [eY] at e
   exact f5 x c (c1 x c e)
  ·rw [pnY,List.append_nil] at hp
   exact f6 p hp
 have st4:tn 0 h4:=T.keep _ _ _ st2 fun b hb o e=>sb' b o (Heap.get?_push_of_some _ e)
 have fr4:∀ b∈fp,upd H2 s2.heap.objs.size (.lst []) b=none:=fun b hb=>by
  obtain ⟨o,e⟩:=hfo b hb
  rw [aN (Nat.ne_of_lt (Heap.lt_size e))]
  exact (f2 b hb).1
 have loop:codeAny (model X.prog X.w) X.A (.compLoop (.ListComp elt [⟨tg,iter,ifs,0⟩] sc pos) 0 (.ref it) (.ref s2.heap.objs.size) (compEnvC sc cl (s2.heap.push lob).objs.size X.env))
   (RR (.ref s2.heap.objs.size) (s2.heap.push lob).objs.size) {s2 with heap:=h4,toks:=s2.toks+([]:List (Str×Value)).length}:=by
  refine compLoopG (fun n s'=>∃ i τ H',Inv Y [] τ H' s'∧tn i s'.heap∧(∀ b∈fp,H' b=none)∧W i n τ H') ?_ m0 ⟨0,_,_,I4,st4,fr4,w0⟩
  rintro n s3 ⟨i,τ3,H3,I3,st3,fr3,w3⟩
  rcases turn i n τ3 H3 w3 with ⟨stop,qn⟩ | ⟨go,N,hN,step⟩
  ·have h:=T.done Y pY wY KY cY i [] s3 τ3 H3 NoE I3 (stat fr3) st3 stop
   rw [AY] at h
   refine thn h ?_
   rintro r s4 ⟨hr,I4'⟩
   subst hr
   have J4:=I4'
   rw [← hY] at J4
   obtain ⟨b1,b2⟩:=pU I f2 hob J4
   exact hRR _ _ _ _ b1 qn b2
  ·have h:=T.item Y pY wY KY cY i [] s3 τ3 H3 NoE I3 (stat fr3) st3 go
   rw [AY] at h
   refine thn h ?_
   rintro r s4 ⟨u,hr,h4'⟩
   subst hr
   refine thn h4' ?_
   rintro _ s5 ⟨x,H5,I5,r5,y5,st5,fr5⟩
   have I5':=I5.pinned (stat fr5) (T.obj _ _ st5)
   have g5:=hgY _ s5 τ3 H5 x u _ I5' r5 (step x H5 y5)
   rw [pY,wY,AY,xY,eY] at g5
   refine thn g5 ?_
   rintro _ s6 ⟨τ6,H6,I6,q6⟩
   have t6:=htY _ s6 τ6 H6 _ I6 q6
   rw [pY,wY,AY,xY,eY] at t6
   refine thn t6 ?_
   rintro ok s7 ⟨H7,I7,q7⟩
   have again:∀ {τ8:St} {H8:Hp} {s8:Shared},Inv Y ([]++pinsAt fp s5.heap) τ8 H8 s8→N τ8 H8→∃ m,m < n∧∃ i τ' H',Inv Y [] τ' H' s8∧tn i s8.heap∧(∀ b∈fp,H' b=none)∧W i m τ' H':=fun {τ8 H8 s8} I8 n8=>by
    obtain ⟨m',hm,w8⟩:=hN τ8 H8 n8
    refine ⟨m',hm,i+1,τ8,H8,I8.unpinned,T.keep _ _ _ st5 fun b hb o e=>(I8.pin (b,o) (List.mem_append_right _ (List.mem_append_right _ (eQ hb e)))).1,fun b hb=>?_,w8⟩
    obtain ⟨o,e,d⟩:=T.obj _ _ st5 b hb
    exact (I8.pin (b,o) (List.mem_append_right _ (List.mem_append_right _ (eQ hb e)))).2.1
   cases ok with
   | false=>
    rw [if_neg (by decide)] at q7 ⊢
    exact again I7 q7
   | true=>
    rw [if_pos rfl] at q7 ⊢
    have e7:=heY _ s7 τ6 H7 _ I7 q7
    rw [pY,wY,AY,xY,eY] at e7
    refine thn e7 ?_
    rintro yv s8 ⟨y,H8,I8,r8,xs,hD8,hz,n8⟩
    have a8:=bQ (X:=Y) _ s8 τ6 H8 (.ref s2.heap.objs.size) [y] (.ref s2.heap.objs.size) [yv] (fun v H'=>N τ6 H') I8 rfl (.cons r8 .nil) ⟨_,xs,y,rfl,rfl,hD8,hz,n8⟩
    rw [pY,wY,AY,xY] at a8
    refine thn a8 ?_
    rintro _ s9 ⟨_,H9,I9,_,n9⟩
    exact again I9 n9
 exact codeAny_compStart_list loop (T.self _ 0 _ _ _ st4 loop)
theorem CScope.closure (S:CScope X.env.scope X.N sc own idx N') (ok:X.Ok):∃ cl,closureFor sc X.env=pure cl∧(∀ x c,cl.lookup x=some c→X.env.cells.lookup x=some c)∧(∀ y∈sc.names,y.2=.free→∃ c,cl.lookup y.1=some c):=
 uF fun y hy hf=>ok.has _ (S.free y hy hf)
theorem a2i (S:CScope X.env.scope X.N sc own idx N') (hc:X.calm=true) (hi:PI X tg iter wi)
  (hg:∀ cl C s3 H0 fp pn,PG (cxComp X N' sc cl C s3 H0 fp pn) tg g) (ht:∀ cl C s3 H0 fp pn,PC' (cxComp X N' sc cl C s3 H0 fp pn) ifs tc) (he:∀ cl C s3 H0 fp pn,PE (cxComp X N' sc cl C s3 H0 fp pn) elt te)
  (hs:∀ x,foldedSetIterable iter X.env x=pure x:=by intro _;rfl):PE X (.ListComp elt [⟨tg,iter,ifs,0⟩] sc pos) (tLC own idx wi g tc te):=by
 intro pins s σ H Q I h
 obtain ⟨cl,hcl,c1,c2⟩:=S.closure I.ok
 rw [eval_ListComp]
 refine wpAny_comprehension_free (use:=none) rfl hs hcl S.kind S.names (thn (hi pins s σ H _ I h) fun v s1 h1=>thn h1 fun itv s2 h2=>?_)
 refine nX (Q:=Q) (pins:=pins) (σ:=σ) (RR:=fun acc C=>compPost (model X.prog X.w) X.A X.xe none (EP X pins σ Q) acc C) S c1 c2 hc hg ht he h2 ?_
 intro D C H' s' I' q ⟨a1,a2,a3,a4,a5,m,a6⟩
 exact ⟨m,a6,fun h' sb=>⟨.ref D,H',I'.turned (t':=s'.toks) (fun b o hb e=>(sb.2 b hb).trans e) a1 (Ne.symm (Ne.symm a2)) (.inr a3) a4 a5,rfl,q⟩⟩
theorem a2y {i:Nat} {y:Str} {py spos:Pos} (S:CScope X.env.scope X.N sc own idx N') (hc:X.calm=true) (hi:PI X tg iter wi)
  (hg:∀ cl C s3 H0 fp pn,PG (cxComp X N' sc cl C s3 H0 fp pn) tg g) (ht:∀ cl C s3 H0 fp pn,PC' (cxComp X N' sc cl C s3 H0 fp pn) ifs tc) (he:∀ cl C s3 H0 fp pn,PE (cxComp X N' sc cl C s3 H0 fp pn) elt te)
  (hN:X.N.Nodup) (hiy:X.N[i]? =some y) (hy:X.env.scope.names.lookup y=some .local)
  (hsw:swapsWith (.ListComp elt [⟨tg,iter,ifs,0⟩] sc pos) (some (.Name y py)) spos.line X.env=pure true:=by rfl)
  (hs:∀ x,foldedSetIterable iter X.env x=pure x:=by intro _;rfl):PS X (.Assign [.Name y py] (.ListComp elt [⟨tg,iter,ifs,0⟩] sc pos) spos) (tAsg (tLC own idx wi g tc te) (gName i)):=by
 intro pins s σ H D I h
 obtain ⟨cl,hcl,c1,c2⟩:=S.closure I.ok
 rw [exec_Assign_Name_used _ _ _ _ hsw]
 refine wpAny_bind (wpAny_standAt (wpAny_bind ?_))
 show wpAny _ X.A (do let _ ← comprehension (.ListComp elt [⟨tg,iter,ifs,0⟩] sc pos) sc X.env _ (newList []) false (eval iter X.env) (some (assign (.Name y py) X.env))) _ _ s
 refine wpAny_bind (wpAny_mono (wpAny_comprehension_free (use:=some (assign (.Name y py) X.env)) (Q:=fun _ s'=>SP X pins D .next s') rfl hs hcl S.kind S.names
  (thn (hi pins s σ H _ I h) fun v s1 h1=>thn h1 fun itv s2 h2=>?_)) (fun _ s' hq=>wpAny_pure (wpAny_pure hq)) fun _ _ e=>e)
 refine nX (Q:=fun x H1=>gName i x σ H1 D.nx) (pins:=pins) (σ:=σ) (RR:=fun acc C=>compPost (model X.prog X.w) X.A X.xe (some (assign (.Name y py) X.env)) (fun _ s'=>SP X pins D .next s') acc C) S c1 c2 hc hg ht he h2 ?_
 intro D' C H' s' I' q ⟨a1,a2,a3,a4,a5,m,a6⟩
 show wpAny _ X.A (assign (.Name y py) X.env (.ref D')) _ _ _
 refine wpAny_assign_Name (pZ (v:=.ref D') I' hN hiy (.inl hy) rfl (fun s'' I'' ⟨a,sb,ha⟩=>?_) (.inr hy))
 have nCa:C≠a:=by
  rcases ha with z | z
  ·rw [z];exact a2
  ·exact Ne.symm (a4 _ _ z)
 refine ⟨m,a6.sameBut sb nCa,fun h' sb'=>⟨_,H',I''.turned (t':=s''.toks) (fun b o hb e=>(sb'.2 b hb).trans e) a1 a2 (.inr a3) a4 a5,q⟩⟩
end
def tV (i:Nat):TE:=fun σ H Q=>match σ[i]? with | some (some v)=>Q v H | _=>False
section
variable {X:Cx}
theorem pvv (i:Nat) {x:Str} {pos:Pos} (hN:X.N[i]? =some x:=by rfl) (hv:Vis X.env.scope x:=by first | exact Or.inl rfl | exact Or.inr (Or.inl rfl) | exact Or.inr (Or.inr rfl)) (hd:(x==("__debug__":Str))=false:=by decide) (hcd:(x==("__classdict__":Str))=false:=by decide):PE X (.Name x pos) (tV i):=by
 intro pins s σ H Q I h
 refine a1J hN hv hd hcd pins s σ H Q I ?_
 unfold tV at h
 split at h
 ·next v e=>exact ⟨v,e,h⟩
 ·exact h.elim
def rAddD:R2:=fun x y H Q=>match x,y with
 | .int i,.int j=>Q (.int (i+j)) H
 | .str i,.str j=>i.length+j.length≤sizeLine∧Q (.str (i++j)) H
 | .ref l,.ref b=>(∃ xs zs,H l=some (.lst xs)∧H b=some (.lst zs)∧xs.length+zs.length≤sizeLine∧∀ p,H p=none→Q (.ref p) (upd H p (.lst (xs++zs))))
 | _,_=>False
theorem aS:OpR X (binaryOp .Add) rAddD:=by
 intro pins s σ H x y v u Q I rx ry h
 cases x<;>cases y<;>first
  | exact (show False from h).elim
  | exact a2C pins s σ H _ _ v u Q I rx ry ⟨_,_,rfl,rfl,h⟩
  | exact vF pins s σ H _ _ v u Q I rx ry ⟨_,_,rfl,rfl,h.1,h.2⟩
  | (obtain ⟨xs,zs,h1,h2,h3,h4⟩:=h;exact a2E pins s σ H _ _ v u Q I rx ry ⟨_,_,xs,zs,rfl,rfl,h1,h2,h3,h4⟩)
def rSubD:R2:=fun x y H Q=>match x,y with | .int i,.int j=>Q (.int (i - j)) H | _,_=>False
theorem cQ:OpR X (binaryOp .Sub) rSubD:=by
 intro pins s σ H x y v u Q I rx ry h
 cases x<;>cases y<;>first
  | exact (show False from h).elim
  | exact a1s pins s σ H _ _ v u Q I rx ry ⟨_,_,rfl,rfl,h⟩
def rMulD:R2:=fun x y H Q=>match x,y with | .int i,.int j=>CMul i j∧Q (.int (i*j)) H | _,_=>False
theorem fA:OpR X (binaryOp .Mult) rMulD:=by
 intro pins s σ H x y v u Q I rx ry h
 cases x<;>cases y<;>first
  | exact (show False from h).elim
  | exact a1d pins s σ H _ _ v u Q I rx ry ⟨_,_,rfl,rfl,h.1,h.2⟩
def rModD:R2:=fun x y H Q=>match x,y with | .int i,.int j=>0 < j∧Q (.int (i % j)) H | _,_=>False
theorem gU:OpR X (binaryOp .Mod) rModD:=by
 intro pins s σ H x y v u Q I rx ry h
 cases x<;>cases y<;>first
  | exact (show False from h).elim
  | exact a27 pins s σ H _ _ v u Q I rx ry ⟨_,_,rfl,rfl,h.1,h.2⟩
def rDivD:R2:=fun x y H Q=>match x,y with | .int i,.int j=>(0 < j∧j < 1073741824)∧Q (.int (i / j)) H | _,_=>False
theorem a0a:OpR X (binaryOp .FloorDiv) rDivD:=by
 intro pins s σ H x y v u Q I rx ry h
 cases x<;>cases y<;>first
  | exact (show False from h).elim
  | exact a0j pins s σ H _ _ v u Q I rx ry ⟨_,_,rfl,rfl,h.1,h.2⟩
def rPowD:R2:=fun x y H Q=>match x,y with | .int i,.int j=>CPow i j∧Q (.int (i^j.toNat)) H | _,_=>False
theorem a0D:OpR X (binaryOp .Pow) rPowD:=by
 intro pins s σ H x y v u Q I rx ry h
 cases x<;>cases y<;>first
  | exact (show False from h).elim
  | exact a1a pins s σ H _ _ v u Q I rx ry ⟨_,_,rfl,rfl,h.1,h.2⟩
def rIC (p:Int→Int→Bool):R2:=fun x y H Q=>match x,y with | .int i,.int j=>Q (.bl (p i j)) H | _,_=>False
theorem hV:OpR X (compareOp .Gt) (rIC fun i j=>decide (j < i)):=by
 intro pins s σ H x y v u Q I rx ry h
 cases x<;>cases y<;>first
  | exact (show False from h).elim
  | exact a2l pins s σ H _ _ v u Q I rx ry ⟨_,_,rfl,rfl,h⟩
theorem a1U:OpR X (compareOp .GtE) (rIC fun i j=>decide (j≤i)):=by
 intro pins s σ H x y v u Q I rx ry h
 cases x<;>cases y<;>first
  | exact (show False from h).elim
  | exact a2f pins s σ H _ _ v u Q I rx ry ⟨_,_,rfl,rfl,h⟩
theorem kP:OpR X (compareOp .LtE) (rIC fun i j=>decide (i≤j)):=by
 intro pins s σ H x y v u Q I rx ry h
 cases x<;>cases y<;>first
  | exact (show False from h).elim
  | exact a2t pins s σ H _ _ v u Q I rx ry ⟨_,_,rfl,rfl,h⟩
def rLtD:R2:=fun x y H Q=>match x,y with
 | .int i,.int j=>Q (.bl (decide (i < j))) H
 | .str i,.str j=>Q (.bl (decide (i.cps.toList < j.cps.toList))) H
 | _,_=>False
theorem m9:OpR X (compareOp .Lt) rLtD:=by
 intro pins s σ H x y v u Q I rx ry h
 cases x<;>cases y<;>first
  | exact (show False from h).elim
  | exact a2v pins s σ H _ _ v u Q I rx ry ⟨_,_,rfl,rfl,h⟩
  | exact xK pins s σ H _ _ v u Q I rx ry ⟨_,_,rfl,rfl,h⟩
def rEqD (n:Bool):R2:=fun x y H Q=>match x,y with
 | .ref a,.ref b=>a≠b∧∃ xs,H a=some (.lst xs)∧H b=some (.lst [])∧Q (.bl (n^^xs.isEmpty)) H
 | x,y=>scal x y=true∧Q (.bl (n^^decide (x=y))) H
theorem zQ {pins:List (Addr×Obj)} {σ:St} {H:Hp} {s:Shared} {Q:Value→Shared→Prop} {E:Value→Shared→Prop} {A:Around} {a b:Addr} {xs:List V} (hu:A.units < cLine) (I:Inv X pins σ H s) (ha:H a=some (.lst xs)) (hb:H b=some (.lst [])) (hab:a≠b)
  (q:∀ tk,Q (.bool xs.isEmpty) {s with toks:=tk}) (q0:Q (.bool xs.isEmpty) s):wpAny (model X.prog X.w) A (compareOp .Eq (.ref a) (.ref b)) Q E s:=by
 obtain ⟨_,its,n,r1,e1⟩:=(show ObjOk X.prog X.w H s.heap a (.lst xs) from I.hok a _ ha)
 obtain ⟨_,its2,n2,r2,e2⟩:=(show ObjOk X.prog X.w H s.heap b (.lst []) from I.hok b _ hb)
 cases r2
 have l1:s.heap.IsList a its.toArray:=⟨_,e1,rfl,_,rfl⟩
 have l2:s.heap.IsList b (#[]:Array Value):=⟨_,e2,rfl,_,rfl⟩
 cases r1 with
 | nil=>
  exact SeqAt.eq_listAt (e:=fun _=>true) l1 l2 rfl hu (fun i hi=>absurd hi (by simp)) (by simpa using q0)
 | cons z t=>
  exact SeqAt.eq_list_lengthsAt l1 l2 (by simp) hu (by simpa using q0)
theorem bF (hu:X.A.units < cLine):OpR X (compareOp .Eq) (rEqD false):=by
 intro pins s σ H x y v u Q I rx ry h
 have hs:(∀ a b,x=.ref a→y=.ref b→False)→scal x y=true∧Q (.bl (false^^decide (x=y))) H:=fun hn=>by
  cases x<;>cases y<;>first
   | exact (hn _ _ rfl rfl).elim
   | exact h
 by_cases hr:∃ a b,x=.ref a∧y=.ref b
 ·obtain ⟨a,b,rfl,rfl⟩:=hr
  obtain ⟨hab,xs,h1,h2,q⟩:=h
  cases rx;cases ry
  exact zQ hu I h1 h2 hab (fun tk=>⟨.bl xs.isEmpty,H,I.tok tk,rfl,by simpa using q⟩) ⟨.bl xs.isEmpty,H,I,rfl,by simpa using q⟩
 ·obtain ⟨h1,h2⟩:=hs fun a b e1 e2=>hr ⟨a,b,e1,e2⟩
  exact a2a pins s σ H x y v u Q I rx ry ⟨h1,by simpa using h2⟩
theorem a08 {pins:List (Addr×Obj)} {σ:St} {H:Hp} {s:Shared} {Q:Value→Shared→Prop} {E:Value→Shared→Prop} {A:Around} {a b:Addr} {xs:List V} (hu:A.units < cLine) (I:Inv X pins σ H s) (ha:H a=some (.lst xs)) (hb:H b=some (.lst []))
  (q0:Q (.bool (!xs.isEmpty)) s):wpAny (model X.prog X.w) A (compareOp .NotEq (.ref a) (.ref b)) Q E s:=by
 obtain ⟨_,its,n,r1,e1⟩:=(show ObjOk X.prog X.w H s.heap a (.lst xs) from I.hok a _ ha)
 obtain ⟨_,its2,n2,r2,e2⟩:=(show ObjOk X.prog X.w H s.heap b (.lst []) from I.hok b _ hb)
 cases r2
 have l1:s.heap.IsList a its.toArray:=⟨_,e1,rfl,_,rfl⟩
 have l2:s.heap.IsList b (#[]:Array Value):=⟨_,e2,rfl,_,rfl⟩
 cases r1 with
 | nil=>
  exact SeqAt.RcNeAt.lists (e:=fun _=>true) l1 l2 rfl hu (fun i hi=>absurd hi (by simp)) _ _ _ _ (by simpa using q0)
 | cons z t=>
  exact SeqAt.RcNeAt.lists_lengths l1 l2 (by simp) hu _ _ _ _ (by simpa using q0)
theorem j5 (hu:X.A.units < cLine):OpR X (compareOp .NotEq) (rEqD true):=by
 intro pins s σ H x y v u Q I rx ry h
 have hs:(∀ a b,x=.ref a→y=.ref b→False)→scal x y=true∧Q (.bl (true^^decide (x=y))) H:=fun hn=>by
  cases x<;>cases y<;>first
   | exact (hn _ _ rfl rfl).elim
   | exact h
 by_cases hr:∃ a b,x=.ref a∧y=.ref b
 ·obtain ⟨a,b,rfl,rfl⟩:=hr
  obtain ⟨hab,xs,h1,h2,q⟩:=h
  cases rx;cases ry
  exact a08 hu I h1 h2 ⟨.bl (!xs.isEmpty),H,I,rfl,by simpa using q⟩
 ·obtain ⟨h1,h2⟩:=hs fun a b e1 e2=>hr ⟨a,b,e1,e2⟩
  exact a2q pins s σ H x y v u Q I rx ry ⟨h1,by simpa using h2⟩
def rIxD (K:PySem.W.Frag):R2:=fun x y H Q=>match x,y with
 | .ref p,.int i=>∃ xs v,(SqL K H p xs∨SqT K H p xs)∧atI xs i=some v∧Q v H
 | .str z,.int i=>z.length≤sizeLine∧∃ c,atI z.cps.toList i=some c∧Q (.str ⟨#[c]⟩) H
 | _,_=>False
theorem a38 : IxR X (rIxD X.K) := by
  intro e1 e2 pins s σ H x y v u Q I rx ry h hs
  cases x <;> cases y <;> first
    | exact (show False from h).elim
    | (obtain ⟨xs, w, h1 | h1, h2, h3⟩ := h
       · exact a0g e1 e2 pins s σ H _ _ v u Q I rx ry ⟨_, xs, _, w, rfl, rfl, h1, h2, h3⟩ hs
       · exact a1W e1 e2 pins s σ H _ _ v u Q I rx ry ⟨_, xs, _, w, rfl, rfl, h1, h2, h3⟩ hs)
    | (obtain ⟨h1, c, h2, h3⟩ := h; exact a1S e1 e2 pins s σ H _ _ v u Q I rx ry ⟨_, _, c, rfl, rfl, h1, h2, h3⟩ hs)
def rInD (K:PySem.W.Frag) (n:Bool):R2:=fun x y H Q=>match y with
 | .str j=>∃ i,x=.str i∧Q (.bl (n^^(!(Builtin.Str.occurrences j i 0 j.length 1).isEmpty))) H
 | .ref p=>∃ xs,(SqL K H p xs∨SqT K H p xs)∧flatV x=true∧xs.all flatV=true∧Q (.bl (n^^inV x xs)) H
 | _=>False
theorem a1y:OpR X (compareOp .In) (rInD X.K false):=by
 intro pins s σ H x y v u Q I rx ry h
 cases y<;>first
  | exact (show False from h).elim
  | (obtain ⟨i,rfl,h2⟩:=h;exact wT pins s σ H _ _ v u Q I rx ry ⟨i,_,rfl,rfl,by simpa using h2⟩)
  | (obtain ⟨xs,h1,h2,h3,h4⟩:=h;exact wR pins s σ H _ _ v u Q I rx ry ⟨_,xs,rfl,h1,h2,h3,by simpa using h4⟩)
theorem xF:OpR X (compareOp .NotIn) (rInD X.K true):=by
 intro pins s σ H x y v u Q I rx ry h
 cases y<;>first
  | exact (show False from h).elim
  | (obtain ⟨i,rfl,h2⟩:=h;exact qK pins s σ H _ _ v u Q I rx ry ⟨i,_,rfl,rfl,by simpa using h2⟩)
  | (obtain ⟨xs,h1,h2,h3,h4⟩:=h;exact rA pins s σ H _ _ v u Q I rx ry ⟨_,xs,rfl,h1,h2,h3,by simpa using h4⟩)
def rLenD (K:PySem.W.Frag):List V→Hp→VK→Prop:=fun xs H Q=>match xs with
 | [.str y]=>y.length≤sizeLine∧Q (.int y.length) H
 | [.ref p]=>(∃ ys,(SqL K H p ys∨SqT K H p ys)∧Q (.int ys.length) H)∨(∃ kvs,Rd H p (.dK kvs)∧Q (.int kvs.length) H)
 | _=>False
theorem xU:CallR X (.builtin "len") (rLenD X.K):=by
 intro pins s σ H xs us Q I r h
 unfold rLenD at h
 split at h
 ·exact oS pins s σ H _ us Q I r ⟨_,_,rfl,⟨h.1,rfl⟩,h.2⟩
 ·rcases h with ⟨ys,h1 | h1,q⟩ | ⟨kvs,h1,q⟩
  ·exact oS pins s σ H _ us Q I r ⟨_,_,rfl,.inl ⟨ys,h1,rfl⟩,q⟩
  ·exact oS pins s σ H _ us Q I r ⟨_,_,rfl,.inr ⟨ys,h1,rfl⟩,q⟩
  ·obtain ⟨u,rfl,ru⟩:=vals1 r
   cases ru
   exact a2j I h1 fun t s' I'=>⟨.int kvs.length,H,I',⟨t,rfl⟩,q⟩
 ·exact h.elim
def tyName (H:Hp):V→Option String
 | .non=>some "NoneType"
 | .bl _=>some "bool"
 | .int _=>some "int"
 | .str _=>some "str"
 | .ref a=>match H a with
  | some (.lst _)=>some "list"
  | some (.tup _)=>some "tuple"
  | some (.dK _)=>some "dict"
  | _=>none
 | _=>none
def isiT (t T:String):Bool:=t==T||(t=="bool"&&T=="int")
theorem a0U:∀ (K:PySem.W.Frag) (t T:String),t∈["NoneType","bool","int","str","list","tuple","dict"]→T∈["bool","int","str","list","tuple","dict"]→PySem.W.kitOne K (.type t) (.type T)=some (isiT t T):=by
 intro K t T h1 h2
 simp only [List.mem_cons,List.mem_nil_iff,or_false] at h1 h2
 rcases h1 with rfl | rfl | rfl | rfl | rfl | rfl | rfl<;>rcases h2 with rfl | rfl | rfl | rfl | rfl | rfl<;>rfl
def rIsi:List V→Hp→VK→Prop:=fun xs H Q=>match xs with
 | [x,.ty T]=>T∈["bool","int","str","list","tuple","dict"]∧∃ t,tyName H x=some t∧Q (.bl (isiT t T)) H
 | _=>False
theorem bZ:CallR X (.builtin "isinstance") rIsi:=by
 intro pins s σ H xs us Q I r h
 unfold rIsi at h
 split at h
 ·next x T=>
  obtain ⟨hT,t,ht,q⟩:=h
  obtain ⟨u,c,rfl,ru,rc⟩:=r.two
  cases rc
  have fin:∀ tk,EP X pins σ Q (.bool (isiT t T)) {s with toks:=tk}:=fun tk=>⟨.bl (isiT t T),H,I.tok tk,rfl,q⟩
  have tm:t∈["NoneType","bool","int","str","list","tuple","dict"]∧TyOf X.K H x (.type t):=by
   cases x with
   | non=>cases ht;exact ⟨by simp,.non⟩
   | bl b=>cases ht;exact ⟨by simp,.bl b⟩
   | int b=>cases ht;exact ⟨by simp,.int b⟩
   | str b=>cases ht;exact ⟨by simp,.str b⟩
   | ref a=>
    unfold tyName at ht
    dsimp only at ht
    split at ht
    ·next e=>cases ht;exact ⟨by simp,.lst e⟩
    ·next e=>cases ht;exact ⟨by simp,.tup e⟩
    ·next e=>cases ht;exact ⟨by simp,.dK e⟩
    ·cases ht
   | _=>cases ht
  exact xD I ru tm.2 (a0U _ t T tm.1 hT) fin
 ·exact h.elim
def rAll (K:PySem.W.Frag):List V→Hp→VK→Prop:=fun xs H Q=>match xs with
 | [.ref p]=>∃ bs:List Bool,SqL K H p (bs.map V.bl)∧Q (.bl (bs.all id)) H
 | _=>False
theorem tU:∀ {bs:List Bool} {us:List Value},Vals (bs.map V.bl) us→us=bs.map Value.bool
 | [],_,.nil=>rfl
 | b::bs,_,.cons r t=>by
  cases (show _=Value.bool b from r)
  rw [tU t];rfl
theorem xW (hc:X.calm=true):CallR X (.builtin "all") (rAll X.K):=by
 intro pins s σ H xs us Q I r h
 unfold rAll at h
 split at h
 ·next p=>
  obtain ⟨bs,hq,q⟩:=h
  obtain ⟨u,rfl,ru⟩:=r.one
  cases ru
  obtain ⟨its,rv,pl,hz⟩:=I.list hq
  have e:=tU rv
  subst e
  have hlt:p < s.heap.objs.size:=by obtain ⟨_,e,_⟩:=pl.isList;exact Heap.lt_size e
  refine call_all_walk (wpAny_pyIter_list pl.isList ?_)
  refine ⟨s.heap.objs.size,[s.heap.objs.size,p],[s.heap.objs.size],(bs.map Value.bool).toArray.size,_,_,fun i=>(bs[i]?).getD true,rfl,Walks.list (A:=X.A.in1) (I.ok.hd hc) _ p (Nat.ne_of_lt hlt) _,
   ⟨⟨_,Heap.get?_push_size _ rfl,rfl,rfl⟩,pl.isList.push _⟩,fun i v s' Q' E' hP hQ=>?_,fun h' tk hk=>?_⟩
  ·have hP':(bs.map Value.bool)[i]? =some v:=by simpa using hP
   rw [List.getElem?_map] at hP'
   cases eb:bs[i]? with
   | none=>rw [eb] at hP';cases hP'
   | some b=>
    rw [eb] at hP'
    cases hP'
    simp only [eb,Option.getD_some] at hQ
    exact wpAny_truthy_bool hQ
  ·have e:((List.range (bs.map Value.bool).toArray.size).all fun i=>(bs[i]?).getD true)=bs.all id:=by
    rw [List.size_toArray,List.length_map]
    rw [Bool.eq_iff_iff,List.all_eq_true,List.all_eq_true]
    constructor
    ·intro h b hb
     obtain ⟨i,hi,rfl⟩:=List.getElem_of_mem hb
     have:=h i (List.mem_range.mpr hi)
     simpa [List.getElem?_eq_getElem hi] using this
    ·intro h i hi
     have hi':=List.mem_range.mp hi
     have:=h _ (List.getElem_mem hi')
     simpa [List.getElem?_eq_getElem hi'] using this
   rw [e]
   refine ⟨.bl (bs.all id),H,I.kept (t':=tk) fun b o e=>hk b o (fun hm=>?_) (Heap.get?_push_of_some _ e),rfl,q⟩
   rw [List.mem_singleton.mp hm] at e
   exact Nat.lt_irrefl _ (Heap.lt_size e)
 ·exact h.elim
def rSlS:V→Option Int→Option Int→Hp→VK→Prop:=fun x lo hi H Q=>∃ z,x=.str z∧z.length≤sizeLine∧Q (.str (Txt.slice z lo hi)) H
theorem a1T:SlR X rSlS:=by
 intro pins s σ H x v vl vu lo hi sl Q I rx hs pl pu h
 obtain ⟨z,rfl,hz,q⟩:=h
 obtain ⟨t,rfl⟩:=(show ∃ t,v=Value.str z t from rx)
 refine ⟨"str",_,F.slot_str_getitem.lookup,typeIs_str _ _ _,?_⟩
 have hpart:∀ {w:Value} {o:Option Int},IsPart w o→∃ l:Option (Int×Tok),w=partValue l∧l.map (·.1)=o:=fun {w o} p=>by
  cases p with
  | none=>exact ⟨none,rfl,rfl⟩
  | int k t=>exact ⟨some (k,t),rfl,rfl⟩
 obtain ⟨l,e1,e2⟩:=hpart pl
 obtain ⟨u,e3,e4⟩:=hpart pu
 subst e1 e3
 obtain ⟨o,ho,hc,hd⟩:=hs
 refine wpAny_getItem_str_slice (l:=l) (u:=u) (st:=none) ⟨o,ho,hc,hd⟩ rfl ?_
 refine post_val_or_str ⟨Nat.le_trans (Txt.slice_le z _ _) hz,fun t' k=>?_⟩
 show EP X pins σ Q (.str (Txt.slice z (l.map (·.1)) (u.map (·.1))) t') _
 rw [e2,e4]
 exact ⟨.str (Txt.slice z lo hi),H,I.tok k,⟨t',rfl⟩,q⟩
def Its (z:Str):It:=⟨fun i _=>i < z.cps.size,fun i H x H'=>H'=H∧∃ c,z.cps[i]? =some c∧x=.str ⟨#[c]⟩,fun i _=>z.cps.size=i⟩
theorem vO {P:Program} {w:World} {K:PySem.W.Frag} {tg:Expr} {it:Addr} {z:Str} {St:Nat→Heap→Prop} (W:∀ A':Around,A'.handled=none→Walks P w A' it [it] [it] z.cps.size (SignAt z) St)
  (hself:∀ (A:Around) (i:Nat) (s:Shared) (Q:Value→Shared→Prop) (E:Value→Shared→Prop),St i s.heap→Q (.ref it) s→wpAny (model P w) A (pyIter (.ref it)) Q E s)
  (hg:∀ i h,St i h→∃ o n vs,h.get? it=some o∧o.cls=.type n∧o.data=.fields vs∧["enumerate","zip","dict_itemiterator","dict_reverseitemiterator","odict_iterator","itertools.zip_longest","itertools.pairwise"].contains n=false):Turn P w K tg (Its z) [it] it St where
 mem:=by simp
 obj:=fun i h st b hb=>by
  have e:b=it:=by simpa using hb
  subst e
  obtain ⟨o,n,vs,e,c,d,_⟩:=hg i h st
  exact ⟨o,e,fun v z=>by rw [d] at z;cases z⟩
 keep:=fun i h h' st k=>(W {} rfl).frame _ _ _ st k
 item:=by
  intro X hP hw hK hc i pins s σ H E I hf st hgo
  subst hP hw hK
  obtain ⟨f0,f1,f2,f3,f4,f5⟩:=hf it (by simp)
  refine (W X.A (I.ok.hd hc)).item i s _ _ hgo st fun v h' tk hv st' kk=>?_
  obtain ⟨c,t,hc1,rfl⟩:=hv
  have I1:Inv X pins σ H {s with heap:=h',toks:=tk}:=I.turned (fun b o hb e=>kk b o (by simpa using hb) e) f0 f1 f3 f4 f5
  obtain ⟨o,n,vs,e,c',d,nn⟩:=hg _ _ st'
  exact ⟨_,rfl,wG (s:={s with heap:=h',toks:=tk}) e c' d nn ⟨.str ⟨#[c]⟩,H,I1,⟨t,rfl⟩,⟨rfl,c,hc1,rfl⟩,st',fun b hb=>(hf b hb).1⟩⟩
 done:=by
  intro X hP hw hK hc i pins s σ H E I hf st hgo
  subst hP hw hK
  obtain ⟨f0,f1,f2,f3,f4,f5⟩:=hf it (by simp)
  have e:z.cps.size=i:=hgo
  subst e
  exact (W X.A (I.ok.hd hc)).done s _ _ st fun h' tk kk=>⟨rfl,I.turned (fun b o hb e=>kk b o (by simpa using hb) e) f0 f1 f3 f4 f5⟩
 self:=hself
end
def FnK (P:Program) (w:World) (K:PySem.W.Frag) (mg:Str→Option Value) (base:Heap) (k:Nat) (x:Str) (ps:List Str) (sp:Sp):Prop:=
 ∃ (f:Addr) (fd:FuncData),FnOk P w K mg base CX0 k f fd ps sp∧mg x=some (.ref f)∧PySem.W.keepIn K (.ref f)=true∧Binds K fd ps []∧∃ (oc:Value) (od:Option Addr) (osl:Array (Option Value)),K.lookup f=some ⟨oc,od,.func fd,osl⟩
section
variable {X:Cx} {k:Nat} {ps:List Str} {sp:Sp} {x:Str} {p pos:Pos} {e:Expr} {es:List Expr} {t:TA}
theorem a2b (F:FnK X.prog X.w X.K X.mg X.base k x ps sp) (hr:Room k X.A) (ha:PA X (e::es) t) (hg:Gl X x:=by rfl) (hdb:(x==("__debug__":Str))=false:=by decide)
  (he:starEach (e::es) X.env=(false,eval e X.env)::starEach es X.env:=by rfl) (hpl:(backTo pos (starEach es X.env)).any (·.1)=false:=by rfl):
  PE X (.Call (.Name x p) (e::es) [] pos) (tCall sp [] E0 t):=by
 obtain ⟨f,fd,G,mgf,kp,b,_⟩:=F
 exact a0k G hr hg mgf kp b .nil pass0 ha hdb he hpl
theorem FnK.mono {P:Program} {w:World} {K:PySem.W.Frag} {mg:Str→Option Value} {base:Heap} {j:Nat} (F:FnK P w K mg base j x ps sp) (h:j≤k):FnK P w K mg base k x ps sp:=by
 obtain ⟨f,fd,G,r⟩:=F
 exact ⟨f,fd,G.mono h,r⟩
end
def iD (K:PySem.W.Frag) (tl:TE):TI:=fun σ H R=>tl σ H fun x H1=>match x with
 | .ref a=>((∃ xs,SqL K H1 a xs)∧R (Itl K a) H1)∨((∃ xs,SqT K H1 a xs)∧R (Itt K a) H1)
 | .str z=>R (Its z) H1
 | _=>False
theorem a36 {X:Cx} {tg l:Expr} {tl:TE} (hl:PE X l tl):PI X tg l (iD X.K tl):=by
 intro pins s σ H R I h
 refine thn (hl pins s σ H _ I h) ?_
 rintro v s1 ⟨x,H1,I1,r1,q1⟩
 cases x with
 | ref a=>
  cases r1
  rcases q1 with ⟨⟨xs,hq⟩,q⟩ | ⟨⟨xs,hq⟩,q⟩
  ·obtain ⟨its,rv,p,hz⟩:=I1.list hq
   refine wpAny_pyIter_list p.isList ?_
   refine ⟨s1.heap.objs.size,[s1.heap.objs.size],_,_,H1,rfl,I1.kept (t':=s1.toks) fun b o e=>Heap.get?_push_of_some _ e,xV a _,⟨_,Heap.get?_push_size _ rfl,rfl,rfl⟩,fun b hb=>?_,q⟩
   have e:b=s1.heap.objs.size:=by simpa using hb
   subst e
   exact I1.fpOk (Nat.le_refl _) (I1.hok.fresh (Nat.le_refl _))
  ·obtain ⟨its,rv,p,hz⟩:=I1.tuple hq
   refine wpAny_pyIter_tuple (show s1.heap.IsTuple a its.toArray from p) ?_
   refine ⟨s1.heap.objs.size,[s1.heap.objs.size],_,_,H1,rfl,I1.kept (t':=s1.toks) fun b o e=>Heap.get?_push_of_some _ e,uS a _,⟨_,Heap.get?_push_size _ rfl,rfl,rfl⟩,fun b hb=>?_,q⟩
   have e:b=s1.heap.objs.size:=by simpa using hb
   subst e
   exact I1.fpOk (Nat.le_refl _) (I1.hok.fresh (Nat.le_refl _))
 | str z=>
  obtain ⟨t,rfl⟩:=(show ∃ t,v=Value.str z t from r1)
  have q:R (Its z) H1:=q1
  have fin:∀ (o:Obj) (n:String) (W:∀ A':Around,A'.handled=none→Walks X.prog X.w A' s1.heap.objs.size [s1.heap.objs.size] [s1.heap.objs.size] z.cps.size (SignAt z) (fun i h=>h.IsStrIter s1.heap.objs.size n z t i)),
    (∀ (A:Around) (i:Nat) (s:Shared) (Q:Value→Shared→Prop) (E:Value→Shared→Prop),s.heap.IsStrIter s1.heap.objs.size n z t i→Q (.ref s1.heap.objs.size) s→wpAny (model X.prog X.w) A (pyIter (.ref s1.heap.objs.size)) Q E s)→
    ["enumerate","zip","dict_itemiterator","dict_reverseitemiterator","odict_iterator","itertools.zip_longest","itertools.pairwise"].contains n=false→
    (s1.heap.push o).IsStrIter s1.heap.objs.size n z t 0→PIE X pins σ tg R (.ref s1.heap.objs.size) {s1 with heap:=s1.heap.push o}:=by
   intro o n W hself hn st
   refine ⟨s1.heap.objs.size,[s1.heap.objs.size],_,_,H1,rfl,I1.kept (t':=s1.toks) fun b o e=>Heap.get?_push_of_some _ e,vO W hself (fun i h st=>?_),st,fun b hb=>?_,q⟩
   ·obtain ⟨o,e,c,d⟩:=st
    exact ⟨o,n,_,e,c,d,hn⟩
   ·have e:b=s1.heap.objs.size:=by simpa using hb
    subst e
    exact I1.fpOk (Nat.le_refl _) (I1.hok.fresh (Nat.le_refl _))
  cases ha:z.cps.all (· < 128)
  ·exact wpAny_pyIter_wide ha (fin _ _ (fun A' hA=>Walks.strWide hA _ z t) (fun A i s Q E st h=>wpAny_pyIter_striter_wide st h) (by decide) ⟨_,Heap.get?_push_size _ rfl,rfl,rfl⟩)
  ·exact wpAny_pyIter_ascii ha (fin _ _ (fun A' hA=>Walks.strAscii hA _ z t) (fun A i s Q E st h=>wpAny_pyIter_striter_ascii st h) (by decide) ⟨_,Heap.get?_push_size _ rfl,rfl,rfl⟩)
 | _=>exact (show False from q1).elim
def ItN (J:It) (ok:Hp→Prop) (n:Nat) (item:Nat→V):Prop:=
 ∀ H,ok H→(∀ i,i < n→J.go i H∧∀ x H',J.yld i H x H'→H'=H∧x=item i)∧J.stop n H
theorem cL {K:PySem.W.Frag} {a:Addr} (xs:List V):ItN (Itl K a) (fun H=>SqL K H a xs) xs.length (fun i=>xs.getD i .non):=fun H ok=>
 ⟨fun i hi=>⟨⟨xs,xs[i],ok,by simp [hi]⟩,fun x H' ⟨e,y⟩=>⟨e,by
  have:=y xs ok
  show x=xs.getD i V.non
  rw [List.getD_eq_getElem?_getD,this];rfl⟩⟩,⟨xs,ok,Nat.le_refl _⟩⟩
theorem cS {K:PySem.W.Frag} {a:Addr} (xs:List V):ItN (Itt K a) (fun H=>SqT K H a xs) xs.length (fun i=>xs.getD i .non):=fun H ok=>
 ⟨fun i hi=>⟨⟨xs,xs[i],ok,by simp [hi]⟩,fun x H' ⟨e,y⟩=>⟨e,by
  have:=y xs ok
  show x=xs.getD i V.non
  rw [List.getD_eq_getElem?_getD,this];rfl⟩⟩,⟨xs,ok,Nat.le_refl _⟩⟩
theorem cG (lo:Int) (n:Nat):ItN (Itr lo n) (fun _=>True) n (fun i=>.int (lo+i)):=fun H _=>
 ⟨fun i hi=>⟨hi,fun x H' ⟨e,y⟩=>⟨e,y⟩⟩,Nat.le_refl _⟩
theorem lJ (z:Str):ItN (Its z) (fun _=>True) z.cps.size (fun i=>.str ⟨#[z.cps.getD i 0]⟩):=fun H _=>
 ⟨fun i hi=>⟨hi,fun x H' ⟨e,c,h1,h2⟩=>⟨e,by show x=V.str ⟨#[z.cps.getD i 0]⟩;rw [h2,Array.getD_eq_getD_getElem?,h1];rfl⟩⟩,rfl⟩
theorem d7 {J:It} {ok:Hp→Prop} {n:Nat} {item:Nat→V} {g:TG} {tc:TC} {te:TE} {τ0:St} {H0:Hp} {D:Addr} {Q:Hp→Prop} (hJ:ItN J ok n item) (Pv:Nat→St→Hp→Prop) (h0:Pv 0 τ0 H0)
  (hok:∀ i τ H,i≤n→Pv i τ H→ok H)
  (hs:∀ i τ H,i < n→Pv i τ H→g (item i) τ H fun τ2 H2=>tc τ2 H2 fun b H3=>if b=true then te τ2 H3 fun y H4=>∃ xs,H4 D=some (.lst xs)∧xs.length < sizeLine∧Pv (i+1) τ2 (upd H4 D (.lst (xs++[y]))) else Pv (i+1) τ2 H3)
  (hd:∀ τ H,Pv n τ H→Q H):∃ W:Nat→Nat→St→Hp→Prop,(∃ m,W 0 m τ0 H0)∧∀ i m τ H,W i m τ H→
   (J.stop i H∧Q H)∨(J.go i H∧∃ N:St→Hp→Prop,(∀ τ' H',N τ' H'→∃ m',m' < m∧W (i+1) m' τ' H')∧∀ x H',J.yld i H x H'→g x τ H' fun τ2 H2=>tc τ2 H2 fun b H3=>
    if b=true then te τ2 H3 fun y H4=>∃ xs,H4 D=some (.lst xs)∧xs.length < sizeLine∧N τ2 (upd H4 D (.lst (xs++[y]))) else N τ2 H3):=by
 refine ⟨fun i m τ H=>m=n - i∧i≤n∧Pv i τ H,⟨n,by simp,Nat.zero_le _,h0⟩,?_⟩
 rintro i m τ H ⟨rfl,hi,p⟩
 obtain ⟨k1,k2⟩:=hJ H (hok i τ H hi p)
 by_cases hlt:i < n
 ·refine .inr ⟨(k1 i hlt).1,Pv (i+1),fun σ' H' p'=>⟨n - (i+1),by omega,rfl,hlt,p'⟩,fun x H' y=>?_⟩
  obtain ⟨e,e2⟩:=(k1 i hlt).2 x H' y
  subst e e2
  exact hs i τ _ hlt p
 ·have e:i=n:=by omega
  subst e
  exact .inl ⟨k2,hd τ H p⟩
theorem eU {J:It} {ok:Hp→Prop} {n:Nat} {item:Nat→V} {g:TG} {tb:TS} {D:Ends} {σ:St} {H:Hp} (hJ:ItN J ok n item) (Pv:Nat→St→Hp→Prop) (h0:Pv 0 σ H) (hok:∀ i τ H,i≤n→Pv i τ H→ok H)
  (hs:∀ i σ H,i < n→Pv i σ H→g (item i) σ H fun σ2 H2=>tb {D with nx:=Pv (i+1),ct:=Pv (i+1),bk:=D.nx} σ2 H2) (hd:∀ σ H,Pv n σ H→D.nx σ H):
  ∃ W:Nat→Nat→St→Hp→Prop,(∃ m,W 0 m σ H)∧∀ i m σ H,W i m σ H→
   (J.stop i H∧D.nx σ H)∨(J.go i H∧∃ N:St→Hp→Prop,(∀ σ' H',N σ' H'→∃ m',m' < m∧W (i+1) m' σ' H')∧∀ x H',J.yld i H x H'→g x σ H' fun σ2 H2=>tb {D with nx:=N,ct:=N,bk:=D.nx} σ2 H2):=by
 refine ⟨fun i m σ H=>m=n - i∧i≤n∧Pv i σ H,⟨n,by simp,Nat.zero_le _,h0⟩,?_⟩
 rintro i m σ H ⟨rfl,hi,p⟩
 obtain ⟨k1,k2⟩:=hJ H (hok i σ H hi p)
 by_cases hlt:i < n
 ·refine .inr ⟨(k1 i hlt).1,Pv (i+1),fun σ' H' p'=>⟨n - (i+1),by omega,rfl,hlt,p'⟩,fun x H' y=>?_⟩
  obtain ⟨e,e2⟩:=(k1 i hlt).2 x H' y
  subst e e2
  exact hs i σ _ hlt p
 ·have e:i=n:=by omega
  subst e
  exact .inl ⟨k2,hd σ H p⟩
def FnT (K:PySem.W.Frag) (mg:Str→Option Value) (x:Str) (st:Stmt) (ps:List Str):Prop:=∃ (f:Addr) (fd:FuncData),Fun K x x st f fd∧mg x=some (.ref f)∧Binds K fd ps []
theorem FnT.ok {P:Program} {w:World} {K:PySem.W.Frag} {mg:Str→Option Value} {base:Heap} {x:Str} {st:Stmt} {N ps:List Str} {k:Nat} {sp:Sp} (F:FnT K mg x st ps) (S:FnScope N ps (defScope st)) (len:∀ vs H Q E,sp vs H Q E→vs.length=ps.length)
  (hbody:∀ (f:Addr) (cdv:Value) (A:Around) (outer:List Env) (s:Shared) (H:Hp) (vs:List V) (Q:VK) (E:XK),Room k (A.deeper (envOfC x (defScope st) s.heap.objs.size f cdv))→sp vs H Q E→
   ∃ t,PSs (cxOf CX0 P w K mg base N x (defScope st) f cdv A outer s H E).nox (defBody st) t∧t {nx:=fun _ H'=>Q .non H',rt:=Q} (start N vs) H):FnK P w K mg base (k+1) x ps sp:=by
 obtain ⟨f,fd,Fu,m,b⟩:=F
 exact ⟨f,fd,Fu.ok S len (hbody f),m,Fu.kp,b,let ⟨oc,od,_,_,_,_,_,_,osl,_,lk,_⟩:=Fu.ex;⟨oc,od,osl,lk⟩⟩
section
variable {X:Cx} {x:Str} {pos:Pos}
theorem a31 {v:V} (h:∃ u,X.mg x=some u∧RelV v u) (hg:Gl X x:=by rfl) (hd:(x==("__debug__":Str))=false:=by decide):PE X (.Name x pos) (tC v):=by
 obtain ⟨u,h1,h2⟩:=h
 exact mZ hg h1 h2 hd
def tGlT (K:PySem.W.Frag) (xs:List V):TE:=fun _ H Q=>∀ a,SqT K H a xs→Q (.ref a) H
theorem a2P {xs:List V} (h:∃ a,X.mg x=some (.ref a)∧∀ H,SqT X.K H a xs) (hg:Gl X x:=by rfl) (hd:(x==("__debug__":Str))=false:=by decide):PE X (.Name x pos) (tGlT X.K xs):=by
 obtain ⟨a,h1,h2⟩:=h
 intro pins s σ H Q I q
 exact mZ (v:=.ref a) hg h1 rfl hd pins s σ H Q I (q a (h2 H))
theorem a32:SlR X (fun x lo hi H Q=>rSlS x lo hi H Q∨(rSlL X.K x lo hi H Q∨rSlT X.K x lo hi H Q)):=a1T.or (a0V.or a22)
end
section
variable {X:Cx} (K:PySem.W.Frag)
theorem b6 (h:X.K=K:=by rfl):IxR X (rIxD K):=by rw [← h];exact a38
theorem iN (h:X.K=K:=by rfl):OpR X (compareOp .In) (rInD K false):=by rw [← h];exact a1y
theorem mE (h:X.K=K:=by rfl):OpR X (compareOp .NotIn) (rInD K true):=by rw [← h];exact xF
theorem aZ (h:X.K=K:=by rfl):CallR X (.builtin "len") (rLenD K):=by rw [← h];exact xU
theorem cM (hc:X.calm=true) (h:X.K=K:=by rfl):CallR X (.builtin "all") (rAll K):=by rw [← h];exact xW hc
theorem mV (h:X.K=K:=by rfl):SlR X (fun x lo hi H Q=>rSlS x lo hi H Q∨(rSlL K x lo hi H Q∨rSlT K x lo hi H Q)):=by rw [← h];exact a32
theorem a35 {tg l:Expr} {tl:TE} (hl:PE X l tl) (h:X.K=K:=by rfl):PI X tg l (iD K tl):=by rw [← h];exact a36 hl
theorem a23 {x:Str} {pos:Pos} {xs:List V} (hx:∃ a,X.mg x=some (.ref a)∧∀ H,SqT K H a xs) (h:X.K=K:=by rfl) (hg:Gl X x:=by rfl) (hd:(x==("__debug__":Str))=false:=by decide):PE X (.Name x pos) (tGlT K xs):=by
 subst h;exact a2P hx hg hd
theorem a0K {es:List Expr} {k:Nat} {t:TGs} {n:Nat} {pos:Pos} (hc:X.calm=true) (hh:PGs X es t) (h:X.K=K:=by rfl)
  (hn:(assignEach es X.env).length=n:=by rfl) (hst:(assignEach es X.env).findIdx? (·.1)=none:=by rfl):PG X (.Tuple es k pos) (gTup K n t):=by
 subst h;exact a1c hc hh hn hst
theorem a2O {T:String} {name:Str} {id:String} {r:V→List V→Hp→VK→Prop} {o e:Expr} {es:List Expr} {to:TE} {t:TA} {apos cpos:Pos} (pa:PlainAttrs T) (slot:Slot T name id) (hty:typeOf (.builtin id)=pure (.type "method_descriptor")) (hm:MtM X id r) (ho:PE X o to) (ha:PA X (e::es) t) (h:X.K=K:=by rfl)
  (hbase:attributeBase o name X.env (eval o X.env)=eval o X.env:=by rfl)
  (hfew:((backTo cpos (starEach (e::es) X.env)).all (fun x=> !x.1)&&(backToKw cpos (keywordEach [] X.env)).all (fun x=>x.1.isSome)
   &&decide ((e::es).length+([]:List Keyword).length+(if ([]:List Keyword).isEmpty then 0 else 1) < 30))=true:=by rfl)
  (hline:(apos.endLine==cpos.line)=true:=by rfl) (hs:starEach (e::es) X.env=(false,eval e X.env)::starEach es X.env:=by rfl) (hplain:(backTo cpos (starEach es X.env)).any (·.1)=false:=by rfl):
  PE X (.Call (.Attribute o name apos) (e::es) [] cpos) (tBM K T r to t):=by
 subst h;exact a2c pa slot hty hm ho ha hbase hfew hline hs hplain
end
structure SE (X:Cx) (e:Expr) (t:TE):Prop where
 h:PE X e t
structure ST (X:Cx) (e:Expr) (t:TT):Prop where
 h:PT X e t
structure SW (X:Cx) (e:Expr) (t:TT):Prop where
 h:PW X e t
structure SA (X:Cx) (es:List Expr) (t:TA):Prop where
 h:PA X es t
structure SS (X:Cx) (s:Stmt) (t:TS):Prop where
 h:PS X s t
structure SB (X:Cx) (s:List Stmt) (t:TS):Prop where
 h:PSs X s t
structure SG (X:Cx) (e:Expr) (t:TG):Prop where
 h:PG X e t
structure SGs (X:Cx) (e:List Expr) (t:TGs):Prop where
 h:PGs X e t
structure SI (X:Cx) (tg e:Expr) (t:TI):Prop where
 h:PI X tg e t
structure SC (X:Cx) (e:List Expr) (t:TC):Prop where
 h:PC' X e t
structure SO (X:Cx) (e:Option Expr) (t:TO):Prop where
 h:PO X e t
structure SP2 (X:Cx) (pos:Pos) (keys:List (Option Expr)) (values:List Expr) (trs:List (TE×TE)):Prop where
 h:PPs X pos keys values trs
section
variable {X:Cx} {es:List Expr} {te:TE} {t:TA} {c:Const} {j:Nat} {pos0:Pos} {n:Str} {xs0:List Expr} {f0 a0 b0 c0:Expr} {kw0:List Keyword} {o0:Operator} {ks0:List (Option Expr)} {gs0:List Comprehension} {sc0:Scope} {u0:UnaryOp} {bo0:BoolOp} {ops0:List CmpOp}theorem sa_nil:SA X [] tNil:=⟨a26⟩
theorem a7 (ha:SE X (.Constant c j pos0) te) (hr:SA X es t):SA X (.Constant c j pos0::es) (tCons te t):=⟨fQ ha.h hr.h⟩
theorem a9 (ha:SE X (.Name n pos0) te) (hr:SA X es t):SA X (.Name n pos0::es) (tCons te t):=⟨fQ ha.h hr.h⟩
theorem f9 (ha:SE X (.List xs0 pos0) te) (hr:SA X es t):SA X (.List xs0 pos0::es) (tCons te t):=⟨fQ ha.h hr.h⟩
theorem aB (ha:SE X (.Tuple xs0 j pos0) te) (hr:SA X es t):SA X (.Tuple xs0 j pos0::es) (tCons te t):=⟨fQ ha.h hr.h⟩
theorem b5 (ha:SE X (.Call f0 xs0 kw0 pos0) te) (hr:SA X es t):SA X (.Call f0 xs0 kw0 pos0::es) (tCons te t):=⟨fQ ha.h hr.h⟩
theorem cE (ha:SE X (.BinOp a0 o0 b0 pos0) te) (hr:SA X es t):SA X (.BinOp a0 o0 b0 pos0::es) (tCons te t):=⟨fQ ha.h hr.h⟩
theorem aH (ha:SE X (.Subscript a0 b0 pos0) te) (hr:SA X es t):SA X (.Subscript a0 b0 pos0::es) (tCons te t):=⟨fQ ha.h hr.h⟩
theorem n5 (ha:SE X (.Dict ks0 xs0 pos0) te) (hr:SA X es t):SA X (.Dict ks0 xs0 pos0::es) (tCons te t):=⟨fQ ha.h hr.h⟩
theorem b9 (ha:SE X (.ListComp a0 gs0 sc0 pos0) te) (hr:SA X es t):SA X (.ListComp a0 gs0 sc0 pos0::es) (tCons te t):=⟨fQ ha.h hr.h⟩
end
section
variable {X:Cx} {a b c e o i value lo hi tg iter elt:Expr} {ta tb tc te td ty tv:TE} {t:TA} {pos p p2 pos' pos0:Pos} {x:Str} {es:List Expr}
theorem zv (i:Nat) {x:Str} {pos:Pos} (hN:X.N[i]? =some x:=by rfl) (hv:Vis X.env.scope x:=by first | exact Or.inl rfl | exact Or.inr (Or.inl rfl) | exact Or.inr (Or.inr rfl)) (hd:(x==("__debug__":Str))=false:=by decide) (hcd:(x==("__classdict__":Str))=false:=by decide):SE X (.Name x pos) (tV i):=⟨pvv i hN hv hd hcd⟩
theorem yB {v:V} (h:∃ u,X.mg x=some u∧RelV v u) (hg:Gl X x:=by rfl) (hd:(x==("__debug__":Str))=false:=by decide):SE X (.Name x pos) (tC v):=⟨a31 h hg hd⟩
theorem a2g (K:PySem.W.Frag) {xs:List V} (hx:∃ a,X.mg x=some (.ref a)∧∀ H,SqT K H a xs) (h:X.K=K:=by rfl) (hg:Gl X x:=by rfl) (hd:(x==("__debug__":Str))=false:=by decide):SE X (.Name x pos) (tGlT K xs):=⟨a23 K hx h hg hd⟩
theorem fI {v:V} {u:Value} (hg:Gl X x) (hm:X.mg x=none) (hv:bootBuiltins x=some u) (r:RelV v u) (hn:x≠"__name__":=by decide) (hd:(x==("__debug__":Str))=false:=by decide):SE X (.Name x pos) (tC v):=⟨a11 hg hm hv r hn hd⟩
theorem qC {j}:SE X (.Constant .none j pos) (tC .non):=⟨a1V⟩
theorem dR {b:Bool} {j}:SE X (.Constant (.bool b) j pos) (tC (.bl b)):=⟨a2p⟩
theorem aF {i:Int} {j}:SE X (.Constant (.int i) j pos) (tC (.int i)):=⟨a2W⟩
theorem aC {x:Str} {j}:SE X (.Constant (.str x) j pos) (tC (.str x)):=⟨a2I⟩
theorem b8 {op:Operator} {r:R2} (ho:OpR X (binaryOp op) r) (ha:SE X a ta) (hb:SE X b tb):SE X (.BinOp a op b pos) (tOp r ta tb):=⟨a2z ho ha.h hb.h⟩
theorem a14 {op:UnaryOp} {r:V→Hp→VK→Prop} (ho:UnR X (unaryOp op) r) (ha:SE X a ta):SE X (.UnaryOp op a pos) (tUn r ta):=⟨a2w ho ha.h⟩
theorem kS {op} (h:SE X a ta):SE X (.BoolOp op [a] pos) ta:=⟨a1X h.h⟩
theorem lR {rest:List Expr} (ha:SE X a ta) (hb:SE X (.BoolOp .And (b::rest) pos) tb):SE X (.BoolOp .And (a::b::rest) pos) (tAndV ta tb):=⟨a2A ha.h hb.h⟩
theorem fJ {op:CmpOp} {r:R2} (ho:OpR X (compareOp op) r) (ha:SE X a ta) (hb:SE X b tb) (hm:behindInMarks op b=false):SE X (.Compare a [op] [b] pos) (tOp r ta tb):=⟨a0F ho ha.h hb.h hm⟩
theorem aM {op:CmpOp} {r:R2} (ho:OpR X (compareOp op) r) (ha:SE X a ta) (hb:SE X b tb) (hm:behindInMarks op b=false):ST X (.Compare a [op] [b] pos) (tTest (tOp r ta tb)):=⟨a0y ho ha.h hb.h hm⟩
theorem wI {op op':CmpOp} {r r':R2} (ho:OpR X (compareOp op) r) (ho':OpR X (compareOp op') r') (ha:SE X a ta) (hb:SE X b tb) (hc:SE X c tc) (hm:lastMarks [op,op'] [b,c]=false:=by with_unfolding_all rfl):ST X (.Compare a [op,op'] [b,c] pos) (tTest (tChain r r' ta tb tc)):=⟨a00 ho ho' ha.h hb.h hc.h hm⟩
theorem eI (h:SE X e te) (he:∀ whole,isTrue e X.env whole=(do let v ← whole;standAt e.pos;holding [v] (truthy v)):=by intro _;rfl):ST X e (tB te):=⟨a1N h.h he⟩
theorem dS {tA:TT} (ha:ST X a tA):ST X (.UnaryOp .Not a pos) (tNot tA):=⟨a2Y ha.h⟩
theorem hU {tA:TT} (ha:ST X a tA):SW X (.BoolOp .And [a] pos) tA:=⟨a0W ha.h⟩
theorem fO {tA:TT} (ha:ST X a tA):SW X (.BoolOp .Or [a] pos) tA:=⟨a1R ha.h⟩
theorem jZ {tA tB':TT} {rest:List Expr} (ha:ST X a tA) (hb:SW X (.BoolOp .And (b::rest) pos) tB'):SW X (.BoolOp .And (a::b::rest) pos) (tAnd tA tB'):=⟨a1g ha.h hb.h⟩
theorem i7 {tA tB':TT} {rest:List Expr} (ha:ST X a tA) (hb:SW X (.BoolOp .Or (b::rest) pos) tB'):SW X (.BoolOp .Or (a::b::rest) pos) (tOr tA tB'):=⟨a2h ha.h hb.h⟩
theorem SW.pt {tA:TT} (h:SW X e tA):ST X e tA:=⟨h.h.pt⟩
theorem b4 (h:SA X es t):SE X (.List es pos) (tLst t):=⟨a2S h.h⟩
theorem aE {x1} (h:SA X es t):SE X (.Tuple es x1 pos) (tTup t):=⟨a1Y h.h⟩
theorem qM:SE X (.Dict [] [] pos) tDNewK:=⟨a03⟩
theorem a2H:SP2 X pos [] [] []:=⟨a0S⟩
theorem rN {ks:List (Option Expr)} {vs:List Expr} {tk tw:TE} {trs:List (TE×TE)} (hk:SE X a tk) (hv:SE X b tw) (hr:SP2 X pos ks vs trs):SP2 X pos (some a::ks) (b::vs) ((tk,tw)::trs):=⟨a05 hk.h hv.h hr.h⟩
theorem a1n {keys:List (Option Expr)} {values:List Expr} {trs:List (TE×TE)} (h:SP2 X pos keys values trs) (hall:keys.all (·.isSome)=true) (hl:keys.length=values.length) (h0:keys≠[]) (h15:keys.length≤15):SE X (.Dict keys values pos) (tDisp trs):=⟨a13 h.h hall hl h0 h15⟩
theorem dJ:SO X none tNoPart:=⟨a0Q⟩
theorem dM (h:SE X e te):SO X (some e) (tPart te):=⟨a0Y h.h⟩
theorem dI {r:V→Option Int→Option Int→Hp→VK→Prop} {l u:Option Expr} {tl th:TO} (hr:SlR X r) (he:SE X e te) (hl:SO X l tl) (hu:SO X u th):SE X (.Subscript e (.Slice l u none p2) pos) (tSl r te tl th):=⟨yD hr he.h hl.h hu.h⟩
theorem oC (hu:X.A.units+1 < cLine) (ho:SE X o td) (hi:SE X i ty) (hs:NoSl i):SE X (.Subscript o i pos) (tDGet td ty):=⟨a0d hu ho.h hi.h hs⟩
theorem b7 {r:R2} (hr:IxR X r) (ha:SE X a ta) (hb:SE X b tb) (hs:PlainIx b):SE X (.Subscript a b pos) (tOp r ta tb):=⟨a2o hr ha.h hb.h hs⟩
theorem aT {k:Nat} {ps:List Str} {sp:Sp} (F:FnK X.prog X.w X.K X.mg X.base k x ps sp) (hr:Room k X.A) (ha:SA X (e::es) t) (hg:Gl X x:=by rfl) (hdb:(x==("__debug__":Str))=false:=by decide)
  (he:starEach (e::es) X.env=(false,eval e X.env)::starEach es X.env:=by rfl) (hpl:(backTo pos (starEach es X.env)).any (·.1)=false:=by rfl):
  SE X (.Call (.Name x p) (e::es) [] pos) (tCall sp [] E0 t):=⟨a2b F hr ha.h hg hdb he hpl⟩
theorem aQ {id:String} {r:List V→Hp→VK→Prop} (hc:CallR X (.builtin id) r) (hg:Gl X x) (hm:X.mg x=none) (hv:bootBuiltins x=some (.builtin id)) (ha:SA X (e::es) t) (hn:x≠"__name__":=by decide) (hdb:(x==("__debug__":Str))=false:=by decide)
  (he:starEach (e::es) X.env=(false,eval e X.env)::starEach es X.env:=by rfl) (hpl:(backTo pos (starEach es X.env)).any (·.1)=false:=by rfl):SE X (.Call (.Name x p) (e::es) [] pos) (tCB r t):=⟨zW hc hg hm hv ha.h hn hdb he hpl⟩
theorem iT (K:PySem.W.Frag) {T:String} {name:Str} {id:String} {r:V→List V→Hp→VK→Prop} {to:TE} {apos cpos:Pos} (pa:PlainAttrs T) (slot:Slot T name id) (hty:typeOf (.builtin id)=pure (.type "method_descriptor")) (hm:MtM X id r) (ho:SE X o to) (ha:SA X (e::es) t) (h:X.K=K:=by rfl)
  (hbase:attributeBase o name X.env (eval o X.env)=eval o X.env:=by rfl)
  (hfew:((backTo cpos (starEach (e::es) X.env)).all (fun x=> !x.1)&&(backToKw cpos (keywordEach [] X.env)).all (fun x=>x.1.isSome)
   &&decide ((e::es).length+([]:List Keyword).length+(if ([]:List Keyword).isEmpty then 0 else 1) < 30))=true:=by rfl)
  (hline:(apos.endLine==cpos.line)=true:=by rfl) (hs:starEach (e::es) X.env=(false,eval e X.env)::starEach es X.env:=by rfl) (hplain:(backTo cpos (starEach es X.env)).any (·.1)=false:=by rfl):
  SE X (.Call (.Attribute o name apos) (e::es) [] cpos) (tBM K T r to t):=⟨a2O K pa slot hty hm ho.h ha.h h hbase hfew hline hs hplain⟩
theorem aV:SB X [] tNext:=⟨a10⟩
theorem aG {st:Stmt} {u:TS} (h1:SS X st u):SB X [st] u:=⟨a0G h1.h⟩
theorem aD {st:Stmt} {rest:List Stmt} {u v:TS} (h1:SS X st u) (h2:SB X rest v):SB X (st::rest) (tSeq u v):=⟨yW h1.h h2.h⟩
theorem aO (he:SE X e te):SS X (.Return (some e) pos) (tRet te):=⟨a28 he.h⟩
theorem cT (he:SE X e te) (hs:swapsWith e none pos.line X.env=pure false:=by rfl):SS X (.Expr e pos) (tDrop te):=⟨a0b he.h hs⟩
theorem bO {a b:List Stmt} {tA:TT} {u v:TS} (hc:ST X c tA) (ha:SB X a u) (hb:SB X b v):SS X (.If c a b pos) (tIfS tA u v):=⟨a2r hc.h ha.h hb.h⟩
theorem gX {body:List Stmt} {wi:TI} {g:TG} {u:TS} (hp:PassesOwn (model X.prog X.w) X.A X.env X.xe) (hc:X.calm=true) (hi:SI X tg iter wi) (hg:SG X tg g) (hb:SB X body u) (hs:∀ x,foldedSetIterable iter X.env x=pure x:=by intro _;rfl):SS X (.For tg iter body [] pos) (tFor wi g u):=⟨a21 hp hc hi.h hg.h hb.h hs⟩
theorem rG {body:List Stmt} {tA:TT} {u:TS} (hp:PassesOwn (model X.prog X.w) X.A X.env X.xe) (hc:ST X c tA) (hb:SB X body u):SS X (.While c body [] pos) (tWhile tA u):=⟨zU hp hc.h hb.h⟩
theorem aL {i:Nat} (hN:X.N.Nodup) (hi:X.N[i]? =some x) (hx:Loc X.env.scope x) (he:SE X e te) (hs:swapsWith e (some (.Name x pos')) pos.line X.env=pure false:=by rfl) (hf:X.fn x=true∨X.env.scope.names.lookup x=some .local:=by first | exact .inl rfl | exact .inr rfl | assumption):
  SS X (.Assign [.Name x pos'] e pos) (tAsg te (gName i)):=⟨a1m hN hi hx he.h hs hf⟩
theorem uW (hu:X.A.units+1 < cLine) (ho:SE X o td) (hi:SE X i ty) (hv:SE X value tv) (hs:swapsWith value (some (.Subscript o i pos')) pos.line X.env=pure false):SS X (.Assign [.Subscript o i pos'] value pos) (sDPut td ty tv):=⟨a0J hu ho.h hi.h hv.h hs⟩
theorem lN {g:TG} (he:SE X e te) (hg:SG X tg g) (hs:swapsWithSole [tg] e pos.line X.env=pure false:=by rfl) (hw:swappedStores [tg] e X.env=pure none:=by rfl)
  (h1:(assignEach [tg] X.env).map (·.2)=[assign tg X.env]:=by rfl):SS X (.Assign [tg] e pos) (tAsg te g):=⟨a1z he.h hg.h hs hw h1⟩
theorem aR {i:Nat} (hN:X.N.Nodup) (hi:X.N[i]? =some x) (hx:Loc X.env.scope x) (hf:X.fn x=true∨X.env.scope.names.lookup x=some .local:=by first | exact .inl rfl | exact .inr rfl | assumption):SG X (.Name x pos) (gName i):=⟨a12 hN hi hx hf⟩
theorem gG:SGs X [] gNil:=⟨a0E⟩
theorem bR {g:TG} {u:TGs} (h1:SG X e g) (h2:SGs X es u) (hs:(assignEach (e::es) X.env).map (·.2)=assign e X.env::(assignEach es X.env).map (·.2):=by rfl):SGs X (e::es) (gCons g u):=⟨yH h1.h h2.h hs⟩
theorem jG (K:PySem.W.Frag) {k:Nat} {u:TGs} {n:Nat} (hc:X.calm=true) (hh:SGs X es u) (h:X.K=K:=by rfl)
  (hn:(assignEach es X.env).length=n:=by rfl) (hst:(assignEach es X.env).findIdx? (·.1)=none:=by rfl):SG X (.Tuple es k pos) (gTup K n u):=⟨a0K K hc hh.h h hn hst⟩
theorem pR {u:TSet} (ho:SE X o td) (hi:SE X i ty) (hs:PSet X u)
  (ha:∀ v,assign (.Subscript o i pos) X.env v=(do
   let ov ← holding [v] (eval o X.env)
   let iv ← holding [v,ov] (eval i X.env)
   standAt pos
   holding [v,ov,iv] (setItem ov iv v)
   release [v,ov,iv] []):=by intro _;rfl):SG X (.Subscript o i pos) (gSub td ty u):=⟨a2X ho.h hi.h hs ha⟩
theorem dD (hg:Gl X "range") (hm:X.mg "range"=none) (ha:SA X [a] t) (hs:starEach [a] X.env=[(false,eval a X.env)]:=by rfl):SI X tg (.Call (.Name "range" p) [a] [] pos) (iRng1 t):=⟨y0 hg hm ha.h hs⟩
theorem y8 (hg:Gl X "range") (hm:X.mg "range"=none) (ha:SA X [a,b] t) (hs:starEach [a,b] X.env=[(false,eval a X.env),(false,eval b X.env)]:=by rfl) (hs2:starEach [b] X.env=[(false,eval b X.env)]:=by rfl):SI X tg (.Call (.Name "range" p) [a,b] [] pos) (iRng2 t):=⟨xS hg hm ha.h hs hs2⟩
theorem kL (K:PySem.W.Frag) (hl:SE X e te) (h:X.K=K:=by rfl):SI X tg e (iD K te):=⟨a35 K hl.h h⟩
theorem cA:SC X [] tcNil:=⟨a0o⟩
theorem yA {tA:TT} (h:ST X c tA):SC X [c] tA:=⟨a0r h.h⟩
theorem fU {ifs:List Expr} {sc:Scope} {own:List Str} {idx:List Nat} {N':List Str} {wi:TI} {g:TG} {tt:TC} (S:CScope X.env.scope X.N sc own idx N') (hc:X.calm=true) (hi:SI X tg iter wi)
  (hg:∀ cl C s3 H0 fp pn,SG (cxComp X N' sc cl C s3 H0 fp pn) tg g) (ht:∀ cl C s3 H0 fp pn,SC (cxComp X N' sc cl C s3 H0 fp pn) ifs tt) (he:∀ cl C s3 H0 fp pn,SE (cxComp X N' sc cl C s3 H0 fp pn) elt te)
  (hs:∀ x,foldedSetIterable iter X.env x=pure x:=by intro _;rfl):SE X (.ListComp elt [⟨tg,iter,ifs,0⟩] sc pos) (tLC own idx wi g tt te):=
 ⟨a2i S hc hi.h (fun q r s t u v=>(hg q r s t u v).h) (fun q r s t u v=>(ht q r s t u v).h) (fun q r s t u v=>(he q r s t u v).h) hs⟩
theorem xX {ifs:List Expr} {sc:Scope} {own:List Str} {idx:List Nat} {N':List Str} {wi:TI} {g:TG} {tt:TC} {i:Nat} {y:Str} {py spos:Pos} (S:CScope X.env.scope X.N sc own idx N') (hc:X.calm=true) (hi:SI X tg iter wi)
  (hg:∀ cl C s3 H0 fp pn,SG (cxComp X N' sc cl C s3 H0 fp pn) tg g) (ht:∀ cl C s3 H0 fp pn,SC (cxComp X N' sc cl C s3 H0 fp pn) ifs tt) (he:∀ cl C s3 H0 fp pn,SE (cxComp X N' sc cl C s3 H0 fp pn) elt te)
  (hN:X.N.Nodup) (hiy:X.N[i]? =some y) (hy:X.env.scope.names.lookup y=some .local)
  (hsw:swapsWith (.ListComp elt [⟨tg,iter,ifs,0⟩] sc pos) (some (.Name y py)) spos.line X.env=pure true:=by rfl)
  (hs:∀ x,foldedSetIterable iter X.env x=pure x:=by intro _;rfl):SS X (.Assign [.Name y py] (.ListComp elt [⟨tg,iter,ifs,0⟩] sc pos) spos) (tAsg (tLC own idx wi g tt te) (gName i)):=
 ⟨a2y S hc hi.h (fun q r s t u v=>(hg q r s t u v).h) (fun q r s t u v=>(ht q r s t u v).h) (fun q r s t u v=>(he q r s t u v).h) hN hiy hy hsw hs⟩
end
theorem FnT.okS {P:Program} {w:World} {K:PySem.W.Frag} {mg:Str→Option Value} {base:Heap} {x:Str} {st:Stmt} {N ps:List Str} {k:Nat} {sp:Sp} (F:FnT K mg x st ps) (S:FnScope N ps (defScope st)) (len:∀ vs H Q E,sp vs H Q E→vs.length=ps.length)
  (hbody:∀ (f:Addr) (cdv:Value) (A:Around) (outer:List Env) (s:Shared) (H:Hp) (vs:List V) (Q:VK) (E:XK),Room k (A.deeper (envOfC x (defScope st) s.heap.objs.size f cdv))→sp vs H Q E→
   ∃ t,SB (cxOf CX0 P w K mg base N x (defScope st) f cdv A outer s H E).nox (defBody st) t∧t {nx:=fun _ H'=>Q .non H',rt:=Q} (start N vs) H):FnK P w K mg base (k+1) x ps sp:=
 F.ok S len fun f cdv A outer s H vs Q E hr h=>let ⟨t,h1,h2⟩:=hbody f cdv A outer s H vs Q E hr h;⟨t,h1.h,h2⟩
section
variable {prog:Program} {w:World} {A:Around} {R:Result→Shared→Prop} {s:Shared}
theorem compLoopD {kx vx target iter:Expr} {ifs:List Expr} {scope:Scope} {pos:Pos} {it:Value} {D:Addr} {env:Env} (I:Nat→Shared→Prop)
  (turn:∀ n s,I n s→wpAny (model prog w) A (pyNext it) (fun r s₁=>match r with
   | none=>R (.ok .next) s₁
   | some v=>wpAny (model prog w) A (letOwnedTupleGo target it v) (fun _ s₁'=>wpAny (model prog w) A (assign target env v) (fun _ s₂=>
     wpAny (model prog w) A (forIn ifs true fun c r=>if r=true then do let ok ← isTrue c env (eval c env);pure (ForInStep.yield ok) else pure (ForInStep.yield r)) (fun ok s₃=>
      if ok=true then wpAny (model prog w) A (eval kx env) (fun kv s₄=>wpAny (model prog w) A (eval vx env) (fun vv s₅=>
       wpAny (model prog w) A (dictSet D kv vv) (fun _ s₆=>∃ m,m < n∧I m s₆) NoE s₅) NoE s₄) NoE s₃
      else ∃ m,m < n∧I m s₃) NoE s₂) NoE s₁') NoE s₁) NoE s)
  (n:Nat) (h:I n s):
  codeAny (model prog w) A (.compLoop (.DictComp kx vx [⟨target,iter,ifs,0⟩] scope pos) 0 it (.ref D) env) R s:=by
 refine codeAny_loop rfl I (fun n s hI=>?_) n h
 show wpAny _ A ((compTurn (.DictComp kx vx [⟨target,iter,ifs,0⟩] scope pos) 0 it (.ref D) env).onRaise (fun x=>do noteFrame x env;theTreesLotGoes x)) _ _ s
 refine wpAny_noted ?_
 rw [compTurn_dict]
 refine wpAny_bind (wpAny_standAt (wpAny_bind (wpAny_mono (turn n s hI) (fun r s₁ h₁=>?_) fun _ _ h'=>h'.elim)))
 cases r with
 | none=>exact wpAny_pure h₁
 | some v=>
  refine wpAny_bind (wpAny_mono h₁ (fun _ s₁' h₁'=>?_) fun _ _ h'=>h'.elim)
  refine wpAny_bind (wpAny_mono h₁' (fun _ s₂ h₂=>wpAny_bind (wpAny_mono h₂ (fun ok s₃ h₃=>?_) fun _ _ h'=>h'.elim)) fun _ _ h'=>h'.elim)
  cases ok with
  | false=>exact wpAny_pure ⟨rfl,h₃⟩
  | true=>
   exact wpAny_bind (wpAny_bind (wpAny_mono h₃ (fun kv s₄ h₄=>wpAny_bind (wpAny_holding (wpAny_mono h₄ (fun vv s₅ h₅=>wpAny_bind (wpAny_standAt (wpAny_holding (wpAny_mono h₅ (fun _ s₆ h₆=>wpAny_pure ⟨rfl,h₆⟩) fun _ _ h'=>h'.elim)))) fun _ _ h'=>h'.elim))) fun _ _ h'=>h'.elim))
end
section
variable {X:Cx} {tg iter kx vx:Expr} {ifs:List Expr} {sc:Scope} {pos:Pos} {own:List Str} {idx:List Nat} {N':List Str} {wi:TI} {g:TG} {tc:TC} {tk tw:TE}
abbrev dob:Obj:={cls:=.type "dict",data:=.dict #[]}
def tDC (own:List Str) (idx:List Nat) (wi:TI) (g:TG) (tc:TC) (tk tw:TE):TE:=fun σ H Q=>wi σ H fun J H1=>∀ D,H1 D=none→∃ W:Nat→Nat→St→Hp→Prop,(∃ m,W 0 m (stIn own idx σ) (upd H1 D (.dK [])))∧∀ i m τ H,W i m τ H→
 (J.stop i H∧Q (.ref D) H)∨(J.go i H∧∃ N:St→Hp→Prop,(∀ τ' H',N τ' H'→∃ m',m' < m∧W (i+1) m' τ' H')∧∀ x H',J.yld i H x H'→g x τ H' fun τ2 H2=>tc τ2 H2 fun b H3=>
  if b=true then tk τ2 H3 fun x H4=>tw τ2 H4 fun y H5=>∃ kvs key,x=kV key∧H5 D=some (.dK kvs)∧kvs.length < sizeLine∧N τ2 (upd H5 D (.dK (putK kvs key y))) else N τ2 H3)
theorem tQ (S:CScope X.env.scope X.N sc own idx N') {cl:List (Str×Addr)} (c1:∀ x c,cl.lookup x=some c→X.env.cells.lookup x=some c) (c2:∀ y∈sc.names,y.2=.free→∃ c,cl.lookup y.1=some c) (hc:X.calm=true)
  (hg:∀ cl C s3 H0 fp pn,PG (cxComp X N' sc cl C s3 H0 fp pn) tg g) (ht:∀ cl C s3 H0 fp pn,PC' (cxComp X N' sc cl C s3 H0 fp pn) ifs tc) (he:∀ cl C s3 H0 fp pn,PE (cxComp X N' sc cl C s3 H0 fp pn) kx tk) (hv:∀ cl C s3 H0 fp pn,PE (cxComp X N' sc cl C s3 H0 fp pn) vx tw)
  {pins:List (Addr×Obj)} {σ:St} {Q:VK} {itv:Value} {s2:Shared} {RR:Value→Addr→Result→Shared→Prop} {E:Value→Shared→Prop}
  (hI:PIE X pins σ tg (fun J H1=>∀ D,H1 D=none→∃ W:Nat→Nat→St→Hp→Prop,(∃ m,W 0 m (stIn own idx σ) (upd H1 D (.dK [])))∧∀ i m τ H,W i m τ H→
   (J.stop i H∧Q (.ref D) H)∨(J.go i H∧∃ N:St→Hp→Prop,(∀ τ' H',N τ' H'→∃ m',m' < m∧W (i+1) m' τ' H')∧∀ x H',J.yld i H x H'→g x τ H' fun τ2 H2=>tc τ2 H2 fun b H3=>
    if b=true then tk τ2 H3 fun x H4=>tw τ2 H4 fun y H5=>∃ kvs key,x=kV key∧H5 D=some (.dK kvs)∧kvs.length < sizeLine∧N τ2 (upd H5 D (.dK (putK kvs key y))) else N τ2 H3)) itv s2)
  (hRR:∀ D C H' s',Inv X pins σ H' s'→Q (.ref D) H'→(H' C=none∧C≠X.env.locals∧X.s₀.heap.objs.size≤C∧(∀ x c,X.env.cells.lookup x=some c→c≠C)∧(∀ p∈X.pn++pins,p.1≠C)∧∃ m,s'.heap.Ns C m)→RR (.ref D) C (.ok .next) s'):
  wpAny (model X.prog X.w) X.A newDict (fun acc s₃=>wpAny (model X.prog X.w) X.A (newFunctionEnv sc X.env.globals cl [] X.env.qual none .none (some X.env)) (fun cenv s₄=>
   codeAny (model X.prog X.w) X.A (.compStart (.DictComp kx vx [⟨tg,iter,ifs,0⟩] sc pos) 0 itv acc {cenv with scope:=relabel sc X.env}) (RR acc cenv.locals) s₄) E s₃) E s2:=by
 obtain ⟨it,fp,tn,J,H2,rfl,I,T,st2,f2,body⟩:=hI
 refine wpAny_newObj_type (wpAny_newFunctionEnv S.cell (by intro y hy;simp at hy) (fun h4 ns sb=>?_) S.kind)
 dsimp only at ns sb ⊢
 have hob:dob.isFreed=false:=rfl
 have fr:H2 s2.heap.objs.size=none:=I.hok.fresh (Nat.le_refl _)
 obtain ⟨W,⟨m0,w0⟩,turn⟩:=body _ fr
 have hfo:∀ b∈fp,∃ o,s2.heap.get? b=some o:=fun b hb=>let ⟨o,e,_⟩:=T.obj _ _ st2 b hb;⟨o,e⟩
 have sb':∀ b o,(s2.heap.push dob).get? b=some o→h4.get? b=some o:=fun b o e=>(sb.2 b (Nat.ne_of_lt (Heap.lt_size e))).trans (Heap.get?_push_of_some _ e)
 have hDo:∀ (H:Hp) (h:Heap),h.get? s2.heap.objs.size=some dob→ObjOk X.prog X.w H h s2.heap.objs.size (.dK []):=fun H h e=>⟨Nat.zero_le _,beq_eq_false_iff_ne.mpr (Ne.symm (Nat.ne_of_lt I.big)),[],.nil,(Heap.DictOf.new s2.heap).at fun o eo=>by rw [Heap.get?_push_size _ rfl] at eo;cases eo;exact e⟩
 have I4:Inv (cxComp X N' sc cl (s2.heap.push dob).objs.size {s2 with heap:=s2.heap.push dob} (upd H2 s2.heap.objs.size (.dK [])) fp (X.pn++pins)) [] (stIn own idx σ) (upd H2 s2.heap.objs.size (.dK [])) {s2 with heap:=h4,toks:=s2.toks+([]:List (Str×Value)).length}:=
  sZ S I f2 hfo c1 c2 hob hDo ns sb'
 -- the block's own context
 generalize hY:cxComp X N' sc cl (s2.heap.push dob).objs.size {s2 with heap:=s2.heap.push dob} (upd H2 s2.heap.objs.size (.dK [])) fp (X.pn++pins)=Y at I4
 have hgY:PG Y tg g:=by rw [← hY];exact hg _ _ _ _ _ _
 have htY:PC' Y ifs tc:=by rw [← hY];exact ht _ _ _ _ _ _
 have heY:PE Y kx tk:=by rw [← hY];exact he _ _ _ _ _ _
 have hvY:PE Y vx tw:=by rw [← hY];exact hv _ _ _ _ _ _
 have pY:Y.prog=X.prog:=by rw [← hY]
 have wY:Y.w=X.w:=by rw [← hY]
 have KY:Y.K=X.K:=by rw [← hY]
 have AY:Y.A=X.A:=by rw [← hY]
 have cY:Y.calm=true:=by rw [← hY];exact hc
 have xY:Y.xe=fun _ _=>False:=by rw [← hY]
 have eY:Y.env=compEnvC sc cl (s2.heap.push dob).objs.size X.env:=by rw [← hY]
 have exY:Y.ex=fp:=by rw [← hY]
 have fsY:Y.fs=frs X.stack:=by rw [← hY]
 have pnY:Y.pn=X.pn++pins:=by rw [← hY]
 have stat:∀ {H':Hp},(∀ b∈fp,H' b=none)→∀ b∈fp,FpOk Y [] H' b:=fun hn b hb=>by
  obtain ⟨f0,f1,f3,f4,f5,f6⟩:=f2 b hb
  refine ⟨hn b hb,?_,?_,.inl (by rw [exY];exact hb),fun x c e=>?_,fun p hp=>?_⟩
  ·obtain ⟨o,e⟩:=hfo b hb
   have:=Heap.lt_size e
   rw [eY]
   show b≠(s2.heap.push dob).objs.size
   rw [Heap.size_push];exact Nat.ne_of_lt (Nat.lt_succ_of_lt this)
  ·rw [fsY]
   intro z
   rcases List.mem_cons.mp (I.stkSub b z) with z | z
   ·exact f1 z
   ·exact f3 z
  ·rw [eY] at e
   exact f5 x c (c1 x c e)
  ·rw [pnY,List.append_nil] at hp
   exact f6 p hp
 have st4:tn 0 h4:=T.keep _ _ _ st2 fun b hb o e=>sb' b o (Heap.get?_push_of_some _ e)
 have fr4:∀ b∈fp,upd H2 s2.heap.objs.size (.dK []) b=none:=fun b hb=>by
  obtain ⟨o,e⟩:=hfo b hb
  rw [aN (Nat.ne_of_lt (Heap.lt_size e))]
  exact (f2 b hb).1
 have loop:codeAny (model X.prog X.w) X.A (.compLoop (.DictComp kx vx [⟨tg,iter,ifs,0⟩] sc pos) 0 (.ref it) (.ref s2.heap.objs.size) (compEnvC sc cl (s2.heap.push dob).objs.size X.env))
   (RR (.ref s2.heap.objs.size) (s2.heap.push dob).objs.size) {s2 with heap:=h4,toks:=s2.toks+([]:List (Str×Value)).length}:=by
  refine compLoopD (fun n s'=>∃ i τ H',Inv Y [] τ H' s'∧tn i s'.heap∧(∀ b∈fp,H' b=none)∧W i n τ H') ?_ m0 ⟨0,_,_,I4,st4,fr4,w0⟩
  rintro n s3 ⟨i,τ3,H3,I3,st3,fr3,w3⟩
  rcases turn i n τ3 H3 w3 with ⟨stop,qn⟩ | ⟨go,N,hN,step⟩
  ·have h:=T.done Y pY wY KY cY i [] s3 τ3 H3 NoE I3 (stat fr3) st3 stop
   rw [AY] at h
   refine thn h ?_
   rintro r s4 ⟨hr,I4'⟩
   subst hr
   have J4:=I4'
   rw [← hY] at J4
   obtain ⟨b1,b2⟩:=pU I f2 hob J4
   exact hRR _ _ _ _ b1 qn b2
  ·have h:=T.item Y pY wY KY cY i [] s3 τ3 H3 NoE I3 (stat fr3) st3 go
   rw [AY] at h
   refine thn h ?_
   rintro r s4 ⟨u,hr,h4'⟩
   subst hr
   refine thn h4' ?_
   rintro _ s5 ⟨x,H5,I5,r5,y5,st5,fr5⟩
   have I5':=I5.pinned (stat fr5) (T.obj _ _ st5)
   have g5:=hgY _ s5 τ3 H5 x u _ I5' r5 (step x H5 y5)
   rw [pY,wY,AY,xY,eY] at g5
   refine thn g5 ?_
   rintro _ s6 ⟨τ6,H6,I6,q6⟩
   have t6:=htY _ s6 τ6 H6 _ I6 q6
   rw [pY,wY,AY,xY,eY] at t6
   refine thn t6 ?_
   rintro ok s7 ⟨H7,I7,q7⟩
   have again:∀ {τ8:St} {H8:Hp} {s8:Shared},Inv Y ([]++pinsAt fp s5.heap) τ8 H8 s8→N τ8 H8→∃ m,m < n∧∃ i τ' H',Inv Y [] τ' H' s8∧tn i s8.heap∧(∀ b∈fp,H' b=none)∧W i m τ' H':=fun {τ8 H8 s8} I8 n8=>by
    obtain ⟨m',hm,w8⟩:=hN τ8 H8 n8
    refine ⟨m',hm,i+1,τ8,H8,I8.unpinned,T.keep _ _ _ st5 fun b hb o e=>(I8.pin (b,o) (List.mem_append_right _ (List.mem_append_right _ (eQ hb e)))).1,fun b hb=>?_,w8⟩
    obtain ⟨o,e,d⟩:=T.obj _ _ st5 b hb
    exact (I8.pin (b,o) (List.mem_append_right _ (List.mem_append_right _ (eQ hb e)))).2.1
   cases ok with
   | false=>
    rw [if_neg (by decide)] at q7 ⊢
    exact again I7 q7
   | true=>
    rw [if_pos rfl] at q7 ⊢
    have e7:=heY _ s7 τ6 H7 _ I7 q7
    rw [pY,wY,AY,xY,eY] at e7
    refine thn e7 ?_
    rintro kv s8 ⟨x8,H8,I8,r8,q8⟩
    have v8:=hvY _ s8 τ6 H8 _ I8 q8
    rw [pY,wY,AY,xY,eY] at v8
    refine thn v8 ?_
    rintro yv s9 ⟨y9,H9,I9,r9,kvs,key,ek,hD9,hz,n9⟩
    subst ek
    obtain ⟨z,hd,vs,rel,dd⟩:=pM I9.hok hD9
    have hzz:vs.length≤sizeLine:=by rw [← rel.length];exact z
    have hlen:(putK kvs key y9).length≤sizeLine:=by have:=dQ kvs key y9;omega
    rw [pY,wY] at dd
    refine wpAny_dictSet_pairs (hsz:=hzz) (kA r8) dd fun h' dd' hs=>?_
    have he9:∃ q,h'.get? s2.heap.objs.size=some q:=let ⟨q,_,_,hq,_⟩:=dd';⟨q,hq⟩
    rw [← pY,← wY] at dd'
    have I10:=kY (t':=s9.toks+1) (ob:=.dK (putK kvs key y9)) I9 (by rw [hD9];exact True.intro) hs he9 (qS hlen hd (rel.put key r9) dd')
    exact again I10 n9
 exact codeAny_compStart_dict loop (T.self _ 0 _ _ _ st4 loop)
theorem a2Z (S:CScope X.env.scope X.N sc own idx N') (hc:X.calm=true) (hi:PI X tg iter wi)
  (hg:∀ cl C s3 H0 fp pn,PG (cxComp X N' sc cl C s3 H0 fp pn) tg g) (ht:∀ cl C s3 H0 fp pn,PC' (cxComp X N' sc cl C s3 H0 fp pn) ifs tc) (he:∀ cl C s3 H0 fp pn,PE (cxComp X N' sc cl C s3 H0 fp pn) kx tk) (hv:∀ cl C s3 H0 fp pn,PE (cxComp X N' sc cl C s3 H0 fp pn) vx tw)
  (hs:∀ x,foldedSetIterable iter X.env x=pure x:=by intro _;rfl):PE X (.DictComp kx vx [⟨tg,iter,ifs,0⟩] sc pos) (tDC own idx wi g tc tk tw):=by
 intro pins s σ H Q I h
 obtain ⟨cl,hcl,c1,c2⟩:=S.closure I.ok
 show wpAny _ X.A (comprehension (.DictComp kx vx [⟨tg,iter,ifs,0⟩] sc pos) sc X.env _ newDict false (eval iter X.env)) _ _ s
 refine wpAny_comprehension_free (use:=none) rfl hs hcl S.kind S.names (thn (hi pins s σ H _ I h) fun v s1 h1=>thn h1 fun itv s2 h2=>?_)
 refine tQ (Q:=Q) (pins:=pins) (σ:=σ) (RR:=fun acc C=>compPost (model X.prog X.w) X.A X.xe none (EP X pins σ Q) acc C) S c1 c2 hc hg ht he hv h2 ?_
 intro D C H' s' I' q ⟨a1,a2,a3,a4,a5,m,a6⟩
 exact ⟨m,a6,fun h' sb=>⟨.ref D,H',I'.turned (t':=s'.toks) (fun b o hb e=>(sb.2 b hb).trans e) a1 (Ne.symm (Ne.symm a2)) (.inr a3) a4 a5,rfl,q⟩⟩
theorem a33 (S:CScope X.env.scope X.N sc own idx N') (hc:X.calm=true) (hi:SI X tg iter wi)
  (hg:∀ cl C s3 H0 fp pn,SG (cxComp X N' sc cl C s3 H0 fp pn) tg g) (ht:∀ cl C s3 H0 fp pn,SC (cxComp X N' sc cl C s3 H0 fp pn) ifs tc) (he:∀ cl C s3 H0 fp pn,SE (cxComp X N' sc cl C s3 H0 fp pn) kx tk) (hv:∀ cl C s3 H0 fp pn,SE (cxComp X N' sc cl C s3 H0 fp pn) vx tw)
  (hs:∀ x,foldedSetIterable iter X.env x=pure x:=by intro _;rfl):SE X (.DictComp kx vx [⟨tg,iter,ifs,0⟩] sc pos) (tDC own idx wi g tc tk tw):=
 ⟨a2Z S hc hi.h (fun q r s t u v=>(hg q r s t u v).h) (fun q r s t u v=>(ht q r s t u v).h) (fun q r s t u v=>(he q r s t u v).h) (fun q r s t u v=>(hv q r s t u v).h) hs⟩
end
theorem Same.upd {H:Hp} {a:Addr} (h:H a=none) (o:HO):Same H (upd H a o):=fun b u q=>by rw [aN (aU q h)];exact q
theorem w4 {J:It} {ok:Hp→Prop} {n:Nat} {item:Nat→V} {tc:TC} {te:TE} {τ0:St} {H1:Hp} {D:Addr} {Q:Hp→Prop} (hJ:ItN J ok n item) (p:Nat→Bool) (f:Nat→V) (hn:n < sizeLine)
  (hok:∀ ys,ok (upd H1 D (.lst ys)))
  (ht:∀ i,i < n→∀ ys k,k (p i) (upd H1 D (.lst ys))→tc (τ0.set 0 (some (item i))) (upd H1 D (.lst ys)) k)
  (he:∀ i,i < n→p i=true→∀ ys k,k (f i) (upd H1 D (.lst ys))→te (τ0.set 0 (some (item i))) (upd H1 D (.lst ys)) k)
  (hQ:Q (upd H1 D (.lst (((List.range n).filter p).map f)))):∃ W:Nat→Nat→St→Hp→Prop,(∃ m,W 0 m τ0 (upd H1 D (.lst [])))∧∀ i m τ H,W i m τ H→
   (J.stop i H∧Q H)∨(J.go i H∧∃ N:St→Hp→Prop,(∀ τ' H',N τ' H'→∃ m',m' < m∧W (i+1) m' τ' H')∧∀ x H',J.yld i H x H'→gName 0 x τ H' fun τ2 H2=>tc τ2 H2 fun b H3=>
    if b=true then te τ2 H3 fun y H4=>∃ xs,H4 D=some (.lst xs)∧xs.length < sizeLine∧N τ2 (upd H4 D (.lst (xs++[y]))) else N τ2 H3):=by
 refine d7 hJ (fun i τ H=>H=upd H1 D (.lst (((List.range i).filter p).map f))∧∃ v,τ=τ0.set 0 v∨τ=τ0) ⟨rfl,none,.inr rfl⟩ (fun i τ H hi h=>by rw [h.1];exact hok _) ?_ ?_
 ·rintro i τ H hi ⟨rfl,v,hv⟩
  show tc (τ.set 0 (some (item i))) _ _
  have e:τ.set 0 (some (item i))=τ0.set 0 (some (item i)):=by
   rcases hv with rfl | rfl
   ·rw [List.set_set]
   ·rfl
  rw [e]
  refine ht i hi _ _ ?_
  have hr:List.range (i+1)=List.range i++[i]:=List.range_succ
  cases hp:p i with
  | true=>
   rw [if_pos rfl]
   refine he i hi hp _ _ ⟨_,aA,?_,?_,some (item i),.inl rfl⟩
   ·rw [List.length_map]
    have:=List.length_filter_le p (List.range i)
    rw [List.length_range] at this
    omega
   ·rw [jR,hr,List.filter_append,List.map_append]
    simp [hp]
  | false=>
   rw [if_neg (by decide)]
   refine ⟨?_,some (item i),.inl rfl⟩
   rw [hr,List.filter_append,List.map_append]
   simp [hp]
 ·rintro τ H ⟨rfl,_⟩
  exact hQ
theorem iteNB {c:Bool} {A B:Prop} (h1:c=true→B) (h2:c=false→A):if (!c)=true then A else B:=by
 cases c with
 | true=>exact iteF (h1 rfl)
 | false=>exact iteT (h2 rfl)
theorem iteB {c:Bool} {A B:Prop} (h1:c=true→A) (h2:c=false→B):if c=true then A else B:=by
 cases c with
 | true=>exact iteT (h1 rfl)
 | false=>exact iteF (h2 rfl)
theorem aJ {t u:TS} {D:Ends} {σ:St} {H:Hp} (mid:St→Hp→Prop) (h1:∀ nx:St→Hp→Prop,(∀ σ' H',mid σ' H'→nx σ' H')→t {D with nx:=nx} σ H) (h2:∀ σ' H',mid σ' H'→u D σ' H'):tSeq t u D σ H:=h1 (u D) h2
theorem aW {α:Type} (x:α) (xs:List α):atI (x::xs) 0=some x:=bN (j:=0) rfl
theorem kT {α:Type} (xs:List α) (i:Int) (h0:0≤i) (h1:i < xs.length):∃ c,xs[i.toNat]? =some c∧atI xs i=some c:=by
 have hl:i.toNat < xs.length:=by omega
 refine ⟨xs[i.toNat],by simp [hl],?_⟩
 have:=bN (xs:=xs) (j:=i.toNat) (v:=xs[i.toNat]) (by simp [hl])
 rw [← this]
 congr 1
 omega
theorem gY (ns:List Str) (i:Nat) (h:i < ns.length):(ns.map V.str).getD i .non=.str (ns.getD i ""):=by
 simp [List.getD_eq_getElem?_getD,h]
abbrev penD (w:Addr) (m t:Int):List (Key×V):=[(.inr "mixed",.int m),(.inr "turn",.int t),(.inr "wide",.ref w)]
structure PenAt (H:Hp) (p w:Addr) (t:Nat):Prop where
 ex:∃ (m c:Int) (ws:List Int),H p=some (.dK (penD w m c))∧H w=some (.lst (ws.map V.int))∧(0≤m∧m < 2147483629)∧0≤c∧c≤(t:Int)
def Sm (p w:Addr) (H H':Hp):Prop:=∀ b o,H b=some o→b≠p→b≠w→H' b=some o
theorem Sm.refl {p w:Addr} {H:Hp}:Sm p w H H:=fun _ _ h _ _=>h
theorem Sm.trans {p w:Addr} {H H1 H2:Hp} (a:Sm p w H H1) (b:Sm p w H1 H2):Sm p w H H2:=fun c o h h1 h2=>b c o (a c o h h1 h2) h1 h2
theorem Same.sm {p w:Addr} {H H1:Hp} (a:Same H H1):Sm p w H H1:=fun c o h _ _=>a c o h
theorem PenAt.same {H H':Hp} {p w:Addr} {t:Nat} (h:PenAt H p w t) (s:Same H H'):PenAt H' p w t:=by
 obtain ⟨m,c,ws,h1,h2,r⟩:=h.ex
 exact ⟨m,c,ws,s _ _ h1,s _ _ h2,r⟩
theorem Sm.free {p w:Addr} {H H':Hp} (s:Sm p w H H') {l:Addr} (h:H' l=none) (hp:l≠p) (hw:l≠w):H l=none:=by
 cases q:H l with
 | none=>rfl
 | some o=>rw [s l o q hp hw] at h;cases h
theorem PenAt.upd {H:Hp} {p w D:Addr} {t:Nat} {o:HO} (h:PenAt H p w t) (h1:D≠p) (h2:D≠w):PenAt (upd H D o) p w t:=by
 obtain ⟨m,c,ws,e1,e2,r⟩:=h.ex
 exact ⟨m,c,ws,by rw [aN h1.symm];exact e1,by rw [aN h2.symm];exact e2,r⟩
theorem Sm.upd {p w D:Addr} {H H':Hp} {o:HO} (s:Sm p w H H') (h:H D=none):Sm p w H (upd H' D o):=fun b u hb h1 h2=>by rw [aN (aU hb h)];exact s b u hb h1 h2
def spLaw (K:PySem.W.Frag):Sp:=fun vs H Q _=>∃ (a:Addr) (ns:List Int),vs=[.ref a]∧SqL K H a (ns.map V.int)∧ns.length≤63∧∀ H',Q (.bl true) H'
def GoodV (p w:Addr) (H:Hp):V→Prop
 | .non=>True
 | .bl _=>True
 | .int _=>True
 | .str z=>z.length≤100000
 | .ref a=>a≠p∧a≠w∧((∃ xs,H a=some (.lst xs))∨(∃ xs,H a=some (.tup xs))∨∃ kvs,H a=some (.dK kvs))
 | _=>False
theorem GoodV.sm {p w:Addr} {H H':Hp} {x:V} (h:GoodV p w H x) (s:Sm p w H H'):GoodV p w H' x:=by
 cases x with
 | ref a=>
  obtain ⟨h1,h2,h3⟩:=h
  refine ⟨h1,h2,?_⟩
  rcases h3 with ⟨xs,e⟩ | ⟨xs,e⟩ | ⟨xs,e⟩
  ·exact .inl ⟨xs,s _ _ e h1 h2⟩
  ·exact .inr (.inl ⟨xs,s _ _ e h1 h2⟩)
  ·exact .inr (.inr ⟨xs,s _ _ e h1 h2⟩)
 | _=>exact h
structure GLs (p w:Addr) (t:Nat) (H:Hp) (xs:List V):Prop where
 pen:PenAt H p w t
 all:∀ x∈xs,GoodV p w H x
section
variable {p w:Addr} {t u:Nat} {H H':Hp} {xs ys:List V}
theorem GLs.sm (g:GLs p w t H xs) (hp:PenAt H' p w u) (s:Sm p w H H'):GLs p w u H' xs:=⟨hp,fun x hx=>(g.all x hx).sm s⟩
theorem GLs.upd {q:Addr} {o:HO} (g:GLs p w t H xs) (h:H q=none):GLs p w t (upd H q o) xs:=g.sm (g.pen.same (Same.upd h o)) (Same.upd h o).sm
end
section
variable {X:Cx} {x:Str} {p pos:Pos} {e:Expr} {es:List Expr} {t:TA}
theorem bL {T:String} {r:List V→Hp→VK→Prop} (hc:CallR X (.type T) r) (hg:Gl X x) (hm:X.mg x=none) (hv:bootBuiltins x=some (.type T)) (ha:SA X (e::es) t) (hn:x≠"__name__":=by decide) (hdb:(x==("__debug__":Str))=false:=by decide)
  (he:starEach (e::es) X.env=(false,eval e X.env)::starEach es X.env:=by rfl) (hpl:(backTo pos (starEach es X.env)).any (·.1)=false:=by rfl):SE X (.Call (.Name x p) (e::es) [] pos) (tCB r t):=⟨y1 hc hg hm hv ha.h hn hdb he hpl⟩
def rTupOf (K:PySem.W.Frag):List V→Hp→VK→Prop:=fun xs H Q=>∃ p ys,xs=[.ref p]∧((SqL K H p ys∧∀ l,H l=none→Q (.ref l) (upd H l (.tup ys)))∨(SqT K H p ys∧Q (.ref p) H))
def rLstOf (K:PySem.W.Frag):List V→Hp→VK→Prop:=fun xs H Q=>∃ p ys,xs=[.ref p]∧(SqL K H p ys∨SqT K H p ys)∧∀ l,H l=none→Q (.ref l) (upd H l (.lst ys))
theorem cO (K:PySem.W.Frag) (h:X.K=K:=by rfl):CallR X (.type "tuple") (rTupOf K):=by subst h;exact oW
theorem mF (K:PySem.W.Frag) (h:X.K=K:=by rfl):CallR X (.type "list") (rLstOf K):=by subst h;exact qU
theorem pL:∀ {xs:List Str} {us:List Value},StrsAre us xs→Vals (xs.map V.str) us
 | _,_,.nil=>.nil
 | _,_,.cons x k r=>.cons ⟨k,rfl⟩ (pL r)
end
mutual
inductive Den (H:Hp):V→PyData→Prop
 | non:Den H .non .none
 | bl (b:Bool):Den H (.bl b) (.bool b)
 | int (i:Int):Den H (.int i) (.int i)
 | str (z:Str):Den H (.str z) (.str z)
 | tup {a:Addr} {xs:List V} {ds:List PyData}:H a=some (.tup xs)→DenL H xs ds→Den H (.ref a) (.tuple ds)
 | lst {a:Addr} {xs:List V} {ds:List PyData}:H a=some (.lst xs)→DenL H xs ds→Den H (.ref a) (.list ds)
inductive DenL (H:Hp):List V→List PyData→Prop
 | nil:DenL H [] []
 | cons {x:V} {d:PyData} {xs:List V} {ds:List PyData}:Den H x d→DenL H xs ds→DenL H (x::xs) (d::ds)
end
mutual
theorem Den.same {H H':Hp} (s:Same H H'):∀ {x:V} {d:PyData},Den H x d→Den H' x d
 | _,_,.non=>.non
 | _,_,.bl b=>.bl b
 | _,_,.int i=>.int i
 | _,_,.str z=>.str z
 | _,_,.tup e r=>.tup (s _ _ e) (DenL.same s r)
 | _,_,.lst e r=>.lst (s _ _ e) (DenL.same s r)
theorem DenL.same {H H':Hp} (s:Same H H'):∀ {xs:List V} {ds:List PyData},DenL H xs ds→DenL H' xs ds
 | _,_,.nil=>.nil
 | _,_,.cons a r=>.cons (Den.same s a) (DenL.same s r)
end
mutual
theorem zI {P:Program} {w:World} {H:Hp} {h:Heap} (ok:HOk P w H h):∀ {x:V} {d:PyData} {u:Value},Den H x d→RelV x u→∃ as,Reads h u d as
 | _,_,_,.non,r=>by cases (show _=Value.none from r);exact ⟨[],.none⟩
 | _,_,_,.bl b,r=>by cases (show _=Value.bool b from r);exact ⟨[],.bool b⟩
 | _,_,_,.int i,r=>by obtain ⟨t,rfl⟩:=(show ∃ t,_=Value.int i t from r);exact ⟨[],.int i t⟩
 | _,_,_,.str z,r=>by obtain ⟨t,rfl⟩:=(show ∃ t,_=Value.str z t from r);exact ⟨[],.str z t⟩
 | _,_,_,.tup (a:=a) (xs:=xs) e l,r=>by
  cases (show _=Value.ref a from r)
  obtain ⟨_,its,rv,o,ho,hc,n,hd⟩:=(show ObjOk P w H h a (.tup xs) from ok a _ e)
  obtain ⟨as,ra⟩:=jL ok l rv
  exact ⟨as,.tuple ho hc hd (by simpa using ra)⟩
 | _,_,_,.lst (a:=a) (xs:=xs) e l,r=>by
  cases (show _=Value.ref a from r)
  obtain ⟨_,its,n,rv,ho⟩:=(show ObjOk P w H h a (.lst xs) from ok a _ e)
  obtain ⟨as,ra⟩:=jL ok l rv
  exact ⟨a::as,.list ho rfl rfl (by simpa using ra)⟩
theorem jL {P:Program} {w:World} {H:Hp} {h:Heap} (ok:HOk P w H h):∀ {xs:List V} {ds:List PyData} {us:List Value},DenL H xs ds→Vals xs us→∃ as,ReadsAll h us ds as
 | _,_,_,.nil,.nil=>⟨[],.nil⟩
 | _,_,_,.cons a l,.cons r rs=>by
  obtain ⟨as,ra⟩:=zI ok a r
  obtain ⟨bs,rb⟩:=jL ok l rs
  exact ⟨as++bs,.cons ra rb⟩
end
end L2
set_option maxRecDepth 100000
namespace L2
open PySem PySem.Spec PyProof.Rows
section
variable {X:Cx}
def rIsB (n:Bool):R2:=fun x y H Q=>match x,y with
 | .bl a,.bl b=>Q (.bl (n^^(a==b))) H
 | x,.non=>Q (.bl (n^^decide (x=.non))) H
 | _,_=>False
theorem vP:OpR X (compareOp .Is) (rIsB false):=by
 intro pins s σ H x y v u Q I rx ry h
 cases y with
 | non=>exact a2V pins s σ H _ _ v u Q I rx ry ⟨rfl,by cases x<;>simpa [rIsB] using h⟩
 | bl b=>
  cases x with
  | bl a=>
   cases rx;cases ry
   exact is_bool (bE I h (by cases a<;>cases b<;>rfl))
  | _=>exact (show False from h).elim
 | _=>cases x<;>exact (show False from h).elim
theorem qT:OpR X (compareOp .IsNot) (rIsB true):=by
 intro pins s σ H x y v u Q I rx ry h
 cases y with
 | non=>exact a0N pins s σ H _ _ v u Q I rx ry ⟨rfl,by cases x<;>simpa [rIsB] using h⟩
 | bl b=>
  cases x with
  | bl a=>
   cases rx;cases ry
   exact isnot_bool (bE I h (by cases a<;>cases b<;>rfl))
  | _=>exact (show False from h).elim
 | _=>cases x<;>exact (show False from h).elim
end
theorem goodTy {p w:Addr} {H:Hp} {x:V} (h:GoodV p w H x):∃ t,tyName H x=some t∧(isiT t "str"=true↔∃ z,x=.str z):=by
 cases x with
 | non=>exact ⟨_,rfl,(fun h=>absurd h (by decide)),fun ⟨z,e⟩=>nomatch e⟩
 | bl b=>exact ⟨_,rfl,(fun h=>absurd h (by decide)),fun ⟨z,e⟩=>nomatch e⟩
 | int b=>exact ⟨_,rfl,(fun h=>absurd h (by decide)),fun ⟨z,e⟩=>nomatch e⟩
 | str z=>exact ⟨_,rfl,fun _=>⟨z,rfl⟩,fun _=>by decide⟩
 | ref a=>
  obtain ⟨h1,h2,h3⟩:=h
  rcases h3 with ⟨xs,e⟩ | ⟨xs,e⟩ | ⟨xs,e⟩
  ·exact ⟨"list",by simp [tyName,e],(fun h=>absurd h (by decide)),fun ⟨z,e⟩=>nomatch e⟩
  ·exact ⟨"tuple",by simp [tyName,e],(fun h=>absurd h (by decide)),fun ⟨z,e⟩=>nomatch e⟩
  ·exact ⟨"dict",by simp [tyName,e],(fun h=>absurd h (by decide)),fun ⟨z,e⟩=>nomatch e⟩
 | _=>exact (show False from h).elim
abbrev ABC:Str:="abcdefghijklmnopqrstuvwxyz"
abbrev NON:List Str:=["all","none","way","box","pick"]
def inAbc (c:Nat):Bool:= !(Builtin.Str.occurrences ABC ⟨#[c]⟩ 0 ABC.length 1).isEmpty
def isName (z:Str):Bool:=decide (1≤z.length)&&decide (z.length≤8)&& !(NON.any fun y=>y==z)&&z.cps.toList.all inAbc
def isNameV:V→Bool
 | .str z=>isName z
 | _=>false
def spName:Sp:=fun vs H Q _=>∃ (p w:Addr) (x:V),vs=[x]∧GoodV p w H x∧∀ H',Same H H'→Q (.bl (isNameV x)) H'
theorem notStr {x:V} (h:¬∃ z,x=.str z):isNameV x=false:=by
 cases x with
 | str z=>exact (h ⟨z,rfl⟩).elim
 | _=>rfl
theorem k7 (z:Str) (f:Nat→Bool):((List.range z.cps.size).map fun i=>f (z.cps.getD i 0)).all id=z.cps.toList.all f:=by
 rw [List.all_map]
 rw [Bool.eq_iff_iff,List.all_eq_true,List.all_eq_true]
 constructor
 ·intro h c hc
  obtain ⟨i,hi,rfl⟩:=List.getElem_of_mem hc
  have hi':i < z.cps.size:=by simpa using hi
  have:=h i (List.mem_range.mpr hi')
  simpa [Array.getD,hi'] using this
 ·intro h i hi
  have hi':i < z.cps.size:=List.mem_range.mp hi
  have:=h (z.cps[i]) (by simp)
  simpa [Array.getD,hi'] using this
theorem eE {i j:Int}:(decide (V.int i=V.int j))=decide (i=j):=by
 by_cases h:i=j
 ·subst h;simp
 ·rw [decide_eq_false h,decide_eq_false (fun e=>h (V.int.inj e))]
theorem uC {i j:Str}:(decide (V.str i=V.str j))=(i==j):=by
 by_cases h:i=j
 ·subst h;simp
 ·rw [decide_eq_false (fun e=>h (V.str.inj e))]
  exact (beq_eq_false_iff_ne.mpr h).symm
theorem Same.put {H0 H':Hp} {p:Addr} {o:HO} (s:Same H0 H') (h:H0 p=none):Same H0 (L2.upd H' p o):=fun b u q=>by rw [aN (aU q h)];exact s b u q
theorem aI {te:TE} {i:Nat} {u:TS} {D:Ends} {σ:St} {H:Hp} (h:te σ H fun x H1=>u D (σ.set i (some x)) H1):tSeq (tAsg te (gName i)) u D σ H:=h
theorem xP {v:V} {i:Nat} {u:TS} {D:Ends} {σ:St} {H:Hp} (h:u D (σ.set i (some v)) H):tSeq (tAsg (tC v) (gName i)) u D σ H:=h
theorem bP {t u:TS} {D:Ends} {σ:St} {H:Hp} {rt:VK} {bk ct:St→Hp→Prop} (h:tSeq t u D σ H):tNext {nx:=tSeq t u D,rt:=rt,bk:=bk,ct:=ct} σ H:=h
section
variable {X:Cx} {pins:List (Addr×Obj)} {σ:St} {H:Hp} {s:Shared} {h':Heap}
theorem Inv.turnedT {t':Nat} {ch:List Addr} {T:Addr} {o:HO} (I:Inv X pins σ H s) (hf:∀ b∈ch,FpOk X pins H b) (k:∀ b o,b ∉ ch→s.heap.get? b=some o→h'.get? b=some o)
  (hT:s.heap.objs.size≤T) (new:ObjOk X.prog X.w (upd H T o) h' T o):Inv X pins σ (upd H T o) {s with heap:=h',toks:=t'}:=by
 have hfr:H T=none:=I.hok.fresh hT
 have nT:∀ b ob,s.heap.get? b=some ob→b≠T:=fun b ob e=>Nat.ne_of_lt (Nat.lt_of_lt_of_le (Heap.lt_size e) hT)
 have nch:∀ b u,H b=some u→b ∉ ch:=fun b u e hb=>by rw [(hf b hb).1] at e;cases e
 refine I.step (g':=s.gens) (d':=s.drawn) (ch:=ch) (fun b hb=>?_) (fun b o _ _ hc e _=>k b o hc e) (fun b o _ _ hc e _=>⟨o.slots,k b o hc e⟩) (fun b o hc e n=>by rw [aN (nT b o e)];exact n)
  (fun b o hc e=>⟨o,k b o hc e⟩) (fun b xs e=>by rw [aN (aU e hfr)];exact e) (fun b o u e=>by rw [aN (aU e hfr)];exact e) (fun b ps e=>⟨#[],by rw [aN (aU e hfr),e];simp⟩) (fun m hm=>?_) (fun b u e=>?_) I.bare
 ·obtain ⟨f0,f1,f2,f3,f4,f5⟩:=hf b hb
  exact ⟨f3,f1,f4,f5⟩
 ·obtain ⟨o,es,ep,ho,r⟩:=hm
  exact ⟨o,es,ep,k _ o (fun z=>(hf _ z).2.1 rfl) ho,r⟩
 ·by_cases hb:b=T
  ·subst hb
   rw [aA] at e;cases e
   exact new
  ·rw [aN hb] at e
   refine (I.hok b u e).stay (fun c v hc q=>k c v ?_ q) (fun c q=>by rw [aN (aU q hfr)];exact q) fun c xs q=>q.upd fun u' hu=>aU hu hfr
   rcases hc with z | z
   ·rw [z];exact nch b u e
   ·exact nch c _ z
theorem Inv.turnedL {t':Nat} {ch:List Addr} (I:Inv X pins σ H s) (hf:∀ b∈ch,FpOk X pins H b) (k:∀ b o,b ∉ ch→s.heap.get? b=some o→h'.get? b=some o):Inv X pins σ H {s with heap:=h',toks:=t'}:=by
 have nch:∀ b u,H b=some u→b ∉ ch:=fun b u e hb=>by rw [(hf b hb).1] at e;cases e
 refine I.step (g':=s.gens) (d':=s.drawn) (ch:=ch) (fun b hb=>?_) (fun b o _ _ hc e _=>k b o hc e) (fun b o _ _ hc e _=>⟨o.slots,k b o hc e⟩) (fun b o hc e n=>n)
  (fun b o hc e=>⟨o,k b o hc e⟩) (fun b xs e=>e) (fun b o u e=>e) (fun b ps e=>⟨#[],by rw [e];simp⟩) (fun m hm=>?_) (fun b u e=>?_) I.bare
 ·obtain ⟨f0,f1,f2,f3,f4,f5⟩:=hf b hb
  exact ⟨f3,f1,f4,f5⟩
 ·obtain ⟨o,es,ep,ho,r⟩:=hm
  exact ⟨o,es,ep,k _ o (fun z=>(hf _ z).2.1 rfl) ho,r⟩
 ·refine (I.hok b u e).stay (fun c v hc q=>k c v ?_ q) (fun c q=>q) fun c xs q=>q
  rcases hc with z | z
  ·rw [z];exact nch b u e
  ·exact nch c _ z
end
abbrev pairY (v1 v2:V):Hp→V→Hp→Prop:=fun H x H'=>∃ T,x=.ref T∧H T=none∧H'=upd H T (.tup [v1,v2])
theorem vX {P:Program} {w:World} {H:Hp} {h:Heap} {T:Addr} {v1 v2:V} {u1 u2:Value} (r1:RelV v1 u1) (r2:RelV v2 u2) (e:h.get? T=some {cls:=.type "tuple",data:=.seq #[u1,u2]}):ObjOk P w H h T (.tup [v1,v2]):=
 ⟨⟨show 2≤sizeLine by decide,fun o q=>by rw [e] at q;cases q;rfl⟩,[u1,u2],.cons r1 (.cons r2 .nil),_,e,rfl,_,rfl⟩
theorem mM {n l m:Nat} (h1:l < n) (h2:m < n):ZipApart (n+4) (n+2) (n+3) n (n+1) l m:=by
 constructor<;>(show (_:Nat)≠_)<;>omega
def Itz (K : PySem.W.Frag) (a b : Addr) : It :=
  ⟨fun i H => ∃ xs ys x y, SqL K H a xs ∧ SqL K H b ys ∧ xs[i]? = some x ∧ ys[i]? = some y, fun i H x H' => ∃ v1 v2, (∀ xs, SqL K H a xs → xs[i]? = some v1) ∧ (∀ ys, SqL K H b ys → ys[i]? = some v2) ∧ pairY v1 v2 H x H',
   fun i H => ∃ xs ys, SqL K H a xs ∧ SqL K H b ys ∧ (xs.length ≤ i ∨ ys.length ≤ i)⟩
abbrev zipSt (z TI TO i1 i2 a b:Addr) (i:Nat) (h:Heap):Prop:=IsZip h z TI TO .none∧IsPair h TI (.ref i1) (.ref i2)∧(∃ u v,IsPair h TO u v)∧h.IsListIter i1 a i∧h.IsListIter i2 b i
theorem zL {P:Program} {w:World} {K:PySem.W.Frag} {elts:List Expr} {k:Nat} {pos:Pos} (z TI TO i1 i2 a b:Addr) (D:ZipApart z TI TO i1 i2 a b):Turn P w K (.Tuple elts k pos) (Itz K a b) [z,TI,TO,i1,i2] z (zipSt z TI TO i1 i2 a b) where
 mem:=by simp
 obj:=fun i h st c hc=>by
  obtain ⟨hz,hTI,⟨u,v,hTO⟩,⟨o1,e1,c1,d1⟩,o2,e2,c2,d2⟩:=st
  simp only [List.mem_cons,List.mem_nil_iff,or_false] at hc
  rcases hc with rfl | rfl | rfl | rfl | rfl
  ·exact ⟨_,hz,fun v z=>by have z':Data.fields _=Data.cell v:=z;cases z'⟩
  ·exact ⟨_,hTI,fun v z=>by have z':Data.seq _ _=Data.cell v:=z;cases z'⟩
  ·exact ⟨_,hTO,fun v z=>by have z':Data.seq _ _=Data.cell v:=z;cases z'⟩
  ·exact ⟨_,e1,fun v z=>by rw [d1] at z;cases z⟩
  ·exact ⟨_,e2,fun v z=>by rw [d2] at z;cases z⟩
 keep:=fun i h h' st k=>by
  obtain ⟨hz,hTI,⟨u,v,hTO⟩,h1,h2⟩:=st
  exact ⟨k z (by simp) _ hz,k TI (by simp) _ hTI,⟨u,v,k TO (by simp) _ hTO⟩,h1.at fun o x=>k i1 (by simp) o x,h2.at fun o x=>k i2 (by simp) o x⟩
 item:=by
  intro X hP hw hK hc i pins s σ H E I hf st hg
  subst hP hw hK
  obtain ⟨hz,hTI,⟨u0,v0,hTO⟩,h1,h2⟩:=st
  obtain ⟨xs,ys,x,y,hq1,hq2,hx,hy⟩:=hg
  obtain ⟨its,rv,p,hzz⟩:=I.list hq1
  obtain ⟨its2,rv2,p2,hz2⟩:=I.list hq2
  obtain ⟨u,hu,ru⟩:=rv.get hx
  obtain ⟨u2,hu2,ru2⟩:=rv2.get hy
  refine wpAny_pyNext_zip_item D hz hTI hTO h1 h2 p.isList p2.isList (x:=u) (y:=u2) (by simpa using hu) (by simpa using hu2) fun h' a1 a2 a3 a4 a5 a6 hk=>?_
  have I1:Inv X pins σ (upd H s.heap.objs.size (.tup [x,y])) {s with heap:=h',toks:=s.toks}:=I.turnedT (t':=s.toks) hf (fun b o hb e=>hk b o (fun z=>hb (by simp [z])) (fun z=>hb (by simp [z])) (fun z=>hb (by simp [z])) (fun z=>hb (by simp [z])) e) (Nat.le_refl _) (vX ru ru2 a5)
  refine ⟨_,rfl,wpAny_letOwnedTupleGo_zip (s:={s with heap:=h'}) a1 fun h'' hz'' sb=>?_⟩
  have hlt:∀ b∈[z,TI,TO,i1,i2],b≠s.heap.objs.size:=fun c hc z'=>by
   simp only [List.mem_cons,List.mem_nil_iff,or_false] at hc
   obtain ⟨o1,e1,_⟩:=h1
   obtain ⟨o2,e2,_⟩:=h2
   rcases hc with rfl | rfl | rfl | rfl | rfl
   ·exact Nat.ne_of_lt (Heap.lt_size hz) z'
   ·exact Nat.ne_of_lt (Heap.lt_size hTI) z'
   ·exact Nat.ne_of_lt (Heap.lt_size hTO) z'
   ·exact Nat.ne_of_lt (Heap.lt_size e1) z'
   ·exact Nat.ne_of_lt (Heap.lt_size e2) z'
  have hf1:∀ b∈[z,TI,TO,i1,i2],FpOk X pins (upd H s.heap.objs.size (.tup [x,y])) b:=fun b hb=>by
   obtain ⟨f0,f⟩:=hf b hb
   exact ⟨by rw [aN (hlt b hb)];exact f0,f⟩
  obtain ⟨f0,f1,f2,f3,f4,f5⟩:=hf1 z (by simp)
  refine ⟨.ref s.heap.objs.size,_,I1.turned (t':=s.toks) (fun b o hb q=>(sb.2 b hb).trans q) f0 f1 f3 f4 f5,rfl,⟨x,y,fun ys hy=>by rw [I.list_inj hy hq1];exact hx,fun ys hy'=>by rw [I.list_inj hy' hq2];exact hy,_,rfl,I.hok.fresh (Nat.le_refl _),rfl⟩,?_,fun b hb=>(hf1 b hb).1⟩
  refine ⟨hz'',(sb.2 _ D.TIz).trans (hk _ _ D.TIz D.TITO D.TIi1 D.TIi2 hTI),⟨_,_,(sb.2 _ D.TOz).trans a2⟩,a3.at fun o q=>(sb.2 _ D.i1z).trans q,a4.at fun o q=>(sb.2 _ D.i2z).trans q⟩
 done:=by
  intro X hP hw hK hc i pins s σ H E I hf st hg
  subst hP hw hK
  obtain ⟨hz,hTI,⟨u0,v0,hTO⟩,h1,h2⟩:=st
  obtain ⟨xs,ys,hq1,hq2,hx⟩:=hg
  obtain ⟨its,rv,p,hzz⟩:=I.list hq1
  obtain ⟨its2,rv2,p2,hz2⟩:=I.list hq2
  have hl:=rv.length
  have hl2:=rv2.length
  refine wpAny_pyNext_zip_end (I.ok.hd hc) D hz hTI hTO h1 h2 p.isList p2.isList ?_ fun h' hk=>⟨rfl,I.turnedL (t':=s.toks) hf fun b o hb q=>hk b o (fun z=>hb (by simp [z])) (fun z=>hb (by simp [z])) (fun z=>hb (by simp [z])) (fun z=>hb (by simp [z])) q⟩
  rcases hx with hx | hx
  ·exact .inl (by simp;omega)
  ·exact .inr (by simp;omega)
 self:=fun _ _ _ _ _ st h=>wpAny_pyIter_zip st.1 h
section
variable {X:Cx} {elts:List Expr} {k:Nat} {tpos p pos:Pos} {a b:Expr} {ta:TA}
def iZip (K:PySem.W.Frag) (ta:TA):TI:=fun σ H R=>ta σ H fun vs H1=>∃ l m xs ys,vs=[.ref l,.ref m]∧SqL K H1 l xs∧SqL K H1 m ys∧R (Itz K l m) H1
theorem a1L (hg:Gl X "zip") (hm:X.mg "zip"=none) (ha:PA X [a,b] ta) (hs:starEach [a,b] X.env=[(false,eval a X.env),(false,eval b X.env)]:=by rfl) (hs2:starEach [b] X.env=[(false,eval b X.env)]:=by rfl):
  PI X (.Tuple elts k tpos) (.Call (.Name "zip" p) [a,b] [] pos) (iZip X.K ta):=by
 intro pins s σ H R I h
 refine Call_ (jC I hg hm boot_zip (PyProof.Rows.callWith_type1 (thn (ha pos pins s σ H _ I h) fun us s1 ⟨vs,H1,I1,r1,q1⟩=>?_) (by rw [hs,hs2]) (by rw [hs2];rfl)))
 obtain ⟨l,m,xs,ys,e,hq1,hq2,q⟩:=q1
 subst e
 obtain ⟨u1,u2,rfl,r1',r2'⟩:=r1.two
 cases r1'
 cases r2'
 obtain ⟨its,rv,pl,hz⟩:=I1.list hq1
 obtain ⟨its2,rv2,pl2,hz2⟩:=I1.list hq2
 have l1:l < s1.heap.objs.size:=by obtain ⟨_,e,_⟩:=pl.isList;exact Heap.lt_size e
 have l2:m < s1.heap.objs.size:=by obtain ⟨_,e,_⟩:=pl2.isList;exact Heap.lt_size e
 refine call_zip_2 pl.isList pl2.isList fun h' hz hTI hTO h1 h2 hsz hk=>wpAny_pyIter_zip hz ?_
 have I2:Inv X pins σ H1 {s1 with heap:=h'}:=I1.kept (t':=s1.toks) hk
 have ne:∀ {x y:Nat},x < y→x≠y:=fun h=>Nat.ne_of_lt h
 have ne':∀ {x y:Nat},y < x→x≠y:=fun h=>Nat.ne_of_gt h
 refine ⟨s1.heap.objs.size+4,[s1.heap.objs.size+4,s1.heap.objs.size+2,s1.heap.objs.size+3,s1.heap.objs.size,s1.heap.objs.size+1],_,_,H1,rfl,I2,zL _ _ _ _ _ l m ?_,⟨hz,hTI,⟨_,_,hTO⟩,h1,h2⟩,fun b hb=>?_,q⟩
 ·exact mM l1 l2
 ·simp only [List.mem_cons,List.mem_nil_iff,or_false] at hb
  rcases hb with rfl | rfl | rfl | rfl | rfl<;>exact I1.fpOk (by simp) (I1.hok.fresh (by simp))
theorem a19 (K:PySem.W.Frag) (hg:Gl X "zip") (hm:X.mg "zip"=none) (ha:SA X [a,b] ta) (h:X.K=K:=by rfl) (hs:starEach [a,b] X.env=[(false,eval a X.env),(false,eval b X.env)]:=by rfl) (hs2:starEach [b] X.env=[(false,eval b X.env)]:=by rfl):
  SI X (.Tuple elts k tpos) (.Call (.Name "zip" p) [a,b] [] pos) (iZip K ta):=by subst h;exact ⟨a1L hg hm ha.h hs hs2⟩
end
def ItP (J:It) (ok:Hp→Prop) (n:Nat) (f1 f2:Nat→V):Prop:=
 ∀ H,ok H→(∀ i,i < n→J.go i H∧∀ x H',J.yld i H x H'→pairY (f1 i) (f2 i) H x H')∧J.stop n H
theorem a0t {K:PySem.W.Frag} {a b:Addr} (xs ys:List V):ItP (Itz K a b) (fun H=>SqL K H a xs∧SqL K H b ys) (min xs.length ys.length) (fun i=>xs.getD i .non) (fun i=>ys.getD i .non):=fun H ok=>
 ⟨fun i hi=>⟨⟨xs,ys,xs[i]'(by omega),ys[i]'(by omega),ok.1,ok.2,by simp,by simp⟩,fun x H' ⟨v1,v2,hv1,hv2,y⟩=>by
  have e1:xs.getD i V.non=v1:=by rw [List.getD_eq_getElem?_getD,hv1 xs ok.1];rfl
  have e2:ys.getD i V.non=v2:=by rw [List.getD_eq_getElem?_getD,hv2 ys ok.2];rfl
  show pairY (xs.getD i .non) (ys.getD i .non) H x H'
  rw [e1,e2];exact y⟩,⟨xs,ys,ok.1,ok.2,by omega⟩⟩
abbrev g2 (K:PySem.W.Frag) (a b:Nat):TG:=gTup K 2 (gCons (gName a) (gCons (gName b) gNil))
theorem kW {K:PySem.W.Frag} {a b:Nat} {T:Addr} {v1 v2:V} {σ:St} {H:Hp} {Q:St→Hp→Prop} (h:H T=some (.tup [v1,v2])) (q:Q ((σ.set a (some v1)).set b (some v2)) H):g2 K a b (.ref T) σ H Q:=
 ⟨T,_,rfl,SqT.of h,rfl,_,_,rfl,_,_,rfl,rfl,q⟩
theorem zN {K:PySem.W.Frag} {J:It} {ok:Hp→Prop} {n:Nat} {f1 f2:Nat→V} {a b:Nat} {tb:TS} {D:Ends} {σ:St} {H:Hp} (hJ:ItP J ok n f1 f2) (Pv:Nat→St→Hp→Prop) (h0:Pv 0 σ H) (hok:∀ i τ H,i≤n→Pv i τ H→ok H)
  (hs:∀ i σ H T,i < n→Pv i σ H→H T=none→tb {D with nx:=Pv (i+1),ct:=Pv (i+1),bk:=D.nx} ((σ.set a (some (f1 i))).set b (some (f2 i))) (upd H T (.tup [f1 i,f2 i]))) (hd:∀ σ H,Pv n σ H→D.nx σ H):
  ∃ W:Nat→Nat→St→Hp→Prop,(∃ m,W 0 m σ H)∧∀ i m σ H,W i m σ H→
   (J.stop i H∧D.nx σ H)∨(J.go i H∧∃ N:St→Hp→Prop,(∀ σ' H',N σ' H'→∃ m',m' < m∧W (i+1) m' σ' H')∧∀ x H',J.yld i H x H'→g2 K a b x σ H' fun σ2 H2=>tb {D with nx:=N,ct:=N,bk:=D.nx} σ2 H2):=by
 refine ⟨fun i m σ H=>m=n - i∧i≤n∧Pv i σ H,⟨n,by simp,Nat.zero_le _,h0⟩,?_⟩
 rintro i m σ H ⟨rfl,hi,p⟩
 obtain ⟨k1,k2⟩:=hJ H (hok i σ H hi p)
 by_cases hlt:i < n
 ·refine .inr ⟨(k1 i hlt).1,Pv (i+1),fun σ' H' p'=>⟨n - (i+1),by omega,rfl,hlt,p'⟩,fun x H' y=>?_⟩
  obtain ⟨T,rfl,hT,rfl⟩:=(k1 i hlt).2 x H' y
  exact kW aA (hs i σ _ T hlt p hT)
 ·have e:i=n:=by omega
  subst e
  exact .inl ⟨k2,hd σ H p⟩
theorem wK {K:PySem.W.Frag} {J:It} {ok:Hp→Prop} {n:Nat} {f1 f2:Nat→V} {a b:Nat} {tc:TC} {te:TE} {τ0:St} {H0:Hp} {D:Addr} {Q:Hp→Prop} (hJ:ItP J ok n f1 f2) (Pv:Nat→St→Hp→Prop) (h0:Pv 0 τ0 H0)
  (hok:∀ i τ H,i≤n→Pv i τ H→ok H)
  (hs:∀ i τ H T,i < n→Pv i τ H→H T=none→tc ((τ.set a (some (f1 i))).set b (some (f2 i))) (upd H T (.tup [f1 i,f2 i])) fun c H3=>if c=true then te ((τ.set a (some (f1 i))).set b (some (f2 i))) H3 fun y H4=>∃ xs,H4 D=some (.lst xs)∧xs.length < sizeLine∧Pv (i+1) ((τ.set a (some (f1 i))).set b (some (f2 i))) (upd H4 D (.lst (xs++[y]))) else Pv (i+1) ((τ.set a (some (f1 i))).set b (some (f2 i))) H3)
  (hd:∀ τ H,Pv n τ H→Q H):∃ W:Nat→Nat→St→Hp→Prop,(∃ m,W 0 m τ0 H0)∧∀ i m τ H,W i m τ H→
   (J.stop i H∧Q H)∨(J.go i H∧∃ N:St→Hp→Prop,(∀ τ' H',N τ' H'→∃ m',m' < m∧W (i+1) m' τ' H')∧∀ x H',J.yld i H x H'→g2 K a b x τ H' fun τ2 H2=>tc τ2 H2 fun b H3=>
    if b=true then te τ2 H3 fun y H4=>∃ xs,H4 D=some (.lst xs)∧xs.length < sizeLine∧N τ2 (upd H4 D (.lst (xs++[y]))) else N τ2 H3):=by
 refine ⟨fun i m τ H=>m=n - i∧i≤n∧Pv i τ H,⟨n,by simp,Nat.zero_le _,h0⟩,?_⟩
 rintro i m τ H ⟨rfl,hi,p⟩
 obtain ⟨k1,k2⟩:=hJ H (hok i τ H hi p)
 by_cases hlt:i < n
 ·refine .inr ⟨(k1 i hlt).1,Pv (i+1),fun σ' H' p'=>⟨n - (i+1),by omega,rfl,hlt,p'⟩,fun x H' y=>?_⟩
  obtain ⟨T,rfl,hT,rfl⟩:=(k1 i hlt).2 x H' y
  exact kW aA (hs i τ _ T hlt p hT)
 ·have e:i=n:=by omega
  subst e
  exact .inl ⟨k2,hd τ H p⟩
end L2
set_option maxRecDepth 100000
namespace PySem
theorem oI {prog:Program} {w:World} {A:Around} {E:Value→Shared→Prop} {s:Shared} {a:Addr} {o:Obj} {xs:Array Value} {k:Nat} {Q:Option Value→Shared→Prop}
  (hx:s.heap.get? a=some o) (hc:o.cls=.type "tuple") (hdat:o.data=.seq xs k) (hd:o.dict=none) (hA:A.handled=none)
  (h:∀ h' tk,(∀ b ob,s.heap.get? b=some ob→h'.get? b=some ob)→Q none {s with heap:=h',toks:=tk}):
  wpAny (model prog w) A (getAttr? (.ref a) "keys") Q E s:=by
 obtain ⟨c,dct,dat,sl⟩:=o
 simp only at hc hdat hd
 subst hc hdat hd
 obtain ⟨hp,g,d,tk,os⟩:=s
 have hT:∀ tk',(⟨hp,g,d,tk',os⟩:Shared).TypeIs (.ref a) "tuple":=fun _=>⟨_,hx,rfl⟩
 have hmiss:typeLookup (.type "tuple") "keys"=pure none:=am_miss_of_fast (by kernel_rfl)
 have f1:=sub_AttributeError
 have f3:=F.slot_tuple_getattribute.lookup
 have f4:=F.slot_tuple_getattribute.bind (.ref a)
 have f5:=am_tuple_getattr_none
 unfold getAttr? getAttrBy? getAttrBy
 repeat (any_goals (first | assumption | exact hT _ | ((with_reducible show wpAny _ _ (call (Value.builtin "tuple.__getattribute__") _ _) _ _ _);refine call_meets F.slot_tuple_getattribute (hT _) am_entry_tuple_getattribute (F.args_tuple_getattribute_2 _ _) (meets_getattribute_miss_tuple a xs k sl _ _ hmiss (by decide) (by decide)) ⟨hx,hA,fun h' tk' e hx'=>?_⟩) | wp_step))
 obtain ⟨t',u',he⟩:=hx'.there
 show wpAny _ _ (getattributeRaised _ _ _ _ _ _ _) _ _ _
 unfold getattributeRaised
 repeat (any_goals (first | assumption | wp_step))
 exact h _ _ hx'.keeps
end PySem
namespace PySem.F
theorem entry_dict_update_loop:entryFor table "dict.update.loop"=some Builtin.«dict.update.loop»:=entryFor_of_tree (by kernel_rfl)
theorem plain_dict_update_loop:plainId "dict.update.loop"=true:=by decide+kernel
end PySem.F
namespace L2
open PySem PySem.Spec PyProof.Rows
def PairsAt (H:Hp) (ys:List V) (rs:List (Key×V)):Prop:=ys.length=rs.length∧∀ i (h:i < rs.length),∃ b,ys[i]? =some (.ref b)∧H b=some (.tup [kV rs[i].1,rs[i].2])
def dictOf (rs:List (Key×V)):List (Key×V):=rs.foldl (fun kvs r=>putK kvs r.1 r.2) []
theorem tD (rs:List (Key×V)):∀ kvs:List (Key×V),(rs.foldl (fun kvs r=>putK kvs r.1 r.2) kvs).length≤kvs.length+rs.length:=by
 induction rs with
 | nil=>intro kvs;exact Nat.le_refl _
 | cons r rs ih=>
  intro kvs
  have h1:=ih (putK kvs r.1 r.2)
  have h2:=dQ kvs r.1 r.2
  rw [List.foldl_cons,List.length_cons]
  omega
theorem oQ (rs:List (Key×V)):(dictOf rs).length≤rs.length:=by have:=tD rs [];simpa [dictOf] using this
theorem mK (rs:List (Key×V)) (i:Nat) (h:i < rs.length):dictOf (rs.take (i+1))=putK (dictOf (rs.take i)) rs[i].1 rs[i].2:=by
 unfold dictOf
 rw [List.take_add_one,List.getElem?_eq_getElem h,Option.toList_some,List.foldl_append];rfl
section
variable {X:Cx}
theorem vH {pins:List (Addr×Obj)} {σ:St} {A:Around} {R:Result→Shared→Prop} {d it a:Addr} {ys:List V} {rs:List (Key×V)} (hA:A.handled=none) {H:Hp} (hH:H d=none) (hlen:rs.length≤sizeLine) (hp:PairsAt H ys rs) (ha:H a=some (.tup ys)) (hit:it≠d)
  (hR:∀ s,Inv X pins σ (upd H d (.dK (dictOf rs))) s→R (.ok (.ret .none)) s):
  ∀ (k i:Nat) (s:Shared),rs.length - i=k→i≤rs.length→Inv X pins σ (upd H d (.dK (dictOf (rs.take i)))) s→s.heap.IsTupleIter it a i→FpOk X pins (upd H d (.dK (dictOf (rs.take i)))) it→
   codeAny (model X.prog X.w) A (.builtin "dict.update.loop" ⟨[.ref d,.ref it,rawInt i,.none],[]⟩) R s:=by
 have had:a≠d:=aU ha hH
 intro k
 induction k with
 | zero=>
  intro i s hk hi I st f
  have hin:i=rs.length:=by omega
  subst hin
  refine codeAny_builtin F.entry_dict_update_loop ?_
  rw [Around.under_plainId F.plain_dict_update_loop _]
  show wpAny _ A.in1 (pyNext (.ref it) >>=_) _ _ s
  obtain ⟨its,rv,p,hz⟩:=I.tuple (SqT.of (by rw [aN had];exact ha))
  have hl:=rv.length
  have hl2:=hp.1
  obtain ⟨f0,f1,f2,f3,f4,f5⟩:=f
  refine wpAny_bind (wpAny_pyNext_tuple_end (by simp [hA]) st (show s.heap.IsTuple a its.toArray from p) (by simp;omega) fun h' eb=>?_)
  have I1:=I.turned (t':=s.toks) (h':=h') (fun b o hb e=>eb b o hb e) f0 f1 f3 f4 f5
  rw [List.take_length] at I1
  show wpAny _ _ (Builtin.Dict.addKeywords d [] >>=fun _=>ret .none) _ _ _
  exact wpAny_bind (wpAny_pure (wpAny_pure (hR _ I1)))
 | succ k ih=>
  intro i s hk hi I st f
  have hlt:i < rs.length:=by omega
  refine codeAny_builtin F.entry_dict_update_loop ?_
  rw [Around.under_plainId F.plain_dict_update_loop _]
  show wpAny _ A.in1 (pyNext (.ref it) >>=_) _ _ s
  obtain ⟨its,rv,p,hz⟩:=I.tuple (SqT.of (by rw [aN had];exact ha))
  obtain ⟨b,hb1,hb2⟩:=hp.2 i hlt
  obtain ⟨u,hu,ru⟩:=rv.get hb1
  cases ru
  obtain ⟨f0,f1,f2,f3,f4,f5⟩:=id f
  refine wpAny_bind (wpAny_pyNext_tuple_item st (show s.heap.IsTuple a its.toArray from p) (x:=.ref b) (by simpa using hu) fun h' st' sb=>?_)
  have I1:Inv X pins σ (upd H d (.dK (dictOf (rs.take i)))) {s with heap:=h'}:=I.turned (t':=s.toks) (fun b o hb e=>(sb.2 b hb).trans e) f0 f1 f3 f4 f5
  have hbd:b≠d:=aU hb2 hH
  obtain ⟨its2,rv2,⟨ob,ho,hc,n,hd2⟩,hz2⟩:=I1.tuple (SqT.of (a:=b) (by rw [aN hbd];exact hb2))
  obtain ⟨u1,u2,rfl,r1,r2⟩:=rv2.two
  show wpAny _ A.in1 (holding [Value.ref b] _ >>=_) _ _ _
  refine wpAny_bind (wpAny_holding (wpAny_bind (wpAny_tryCatch ?_)))
  unfold Builtin.Dict.pairItems
  refine wpAny_bind (wpAny_typeOf (T:="tuple") ⟨ob,ho,hc⟩ ?_)
  rw [if_pos (by decide)]
  refine wpAny_bind (wpAny_seqItems ho hd2 (wpAny_pure ?_))
  show wpAny _ A.in1 (holding [u1,u2] (dictSet d u1 u2)) _ _ _
  refine wpAny_holding ?_
  obtain ⟨z,hd,vs,rel,dd⟩:=pM I1.hok (aA:upd H d (.dK (dictOf (rs.take i))) d=_)
  have hl0:=oQ (rs.take i)
  rw [List.length_take] at hl0
  have hl1:(dictOf (rs.take i)).length < sizeLine:=by omega
  have hzz:vs.length≤sizeLine:=by rw [← rel.length];exact z
  have hlen':(putK (dictOf (rs.take i)) rs[i].1 rs[i].2).length≤sizeLine:=by have:=dQ (dictOf (rs.take i)) rs[i].1 rs[i].2;omega
  refine wpAny_dictSet_pairs (hsz:=hzz) (kA r1) dd fun h2 dd' hs=>?_
  have he9:∃ q,h2.get? d=some q:=let ⟨q,_,_,hq,_⟩:=dd';⟨q,hq⟩
  have I10:=kY (t':=s.toks+1) (ob:=.dK (putK (dictOf (rs.take i)) rs[i].1 rs[i].2)) I1 (by rw [aA];exact True.intro) hs he9 (qS hlen' hd (rel.put _ r2) dd')
  rw [jR,← mK rs i hlt] at I10
  refine wpAny_pure ⟨plainId_quiet F.plain_dict_update_loop _,?_⟩
  exact ih (i+1) _ (by omega) hlt I10 (st'.at fun o q=>(hs.2 it hit).trans q) ⟨by rw [aN hit] at f0 ⊢;exact f0,f1,f2,f3,f4,f5⟩
end
end L2
set_option maxRecDepth 100000
namespace L2
open PySem PySem.Spec PyProof.Rows
section
variable {X:Cx}
def rDictOf:List V→Hp→VK→Prop:=fun xs H Q=>∃ a ys rs,xs=[.ref a]∧H a=some (.tup ys)∧PairsAt H ys rs∧rs.length≤sizeLine∧∀ d,H d=none→Q (.ref d) (upd H d (.dK (dictOf rs)))
theorem iM (hc:X.calm=true):CallR X (.type "dict") rDictOf:=by
 intro pins s σ H xs us Q I r h
 obtain ⟨a,ys,rs,rfl,ha,hp,hl,q⟩:=h
 obtain ⟨u,rfl,ru⟩:=r.one
 cases ru
 refine callType_codes (Q₁:=fun obj s₁=>obj=.ref s.heap.objs.size∧s₁={s with heap:=s.heap.push {cls:=.type "dict",data:=.dict #[]}}) F.kt_called_dict (F.kt_typeCall_dict_1 _) F.entry_dict_init (kt_code_dict_new _ ⟨rfl,rfl⟩) ?_
 rintro obj s₁ ⟨rfl,rfl⟩
 have fr:H s.heap.objs.size=none:=I.hok.fresh (Nat.le_refl _)
 have hnew:(s.heap.push {cls:=.type "dict",data:=.dict #[]}).DictOf (mixKind X.prog X.w) s.heap.objs.size []:=Heap.DictOf.new s.heap
 have I1:Inv X pins σ (upd H s.heap.objs.size (.dK [])) {s with heap:=s.heap.push {cls:=.type "dict",data:=.dict #[]}}:=I.laid (t':=s.toks) (fun b u e=>Heap.get?_push_of_some _ e) (Nat.le_refl _)
  ⟨Nat.zero_le _,beq_eq_false_iff_ne.mpr (Ne.symm (Nat.ne_of_lt I.big)),[],.nil,hnew⟩
 have had:a≠s.heap.objs.size:=aU ha fr
 obtain ⟨⟨z,nd⟩,its,rv,o,ho,hcl,n,hd⟩:=(show ObjOk X.prog X.w _ _ a (.tup ys) from I1.hok a _ (by rw [aN had];exact ha))
 refine ⟨hnew.typeIs,F.args_dict_init_2 _ _,?_⟩
 unfold Builtin.«dict.__init__»
 refine wpAny_bind ?_
 unfold Builtin.Dict.selfAndRest
 refine wpAny_bind (wpAny_notOrdered_dict hnew.typeIs ?_)
 show wpAny _ _ (pure (s.heap.objs.size,[Value.ref a])) _ _ _
 refine wpAny_pure ?_
 show wpAny _ _ (Builtin.Dict.updateFrom "dict.__init__" s.heap.objs.size (.ref a) [] .none) _ _ _
 unfold Builtin.Dict.updateFrom
 refine wpAny_bind (wpAny_typeOf (T:="tuple") ⟨o,ho,hcl⟩ ?_)
 rw [if_pos (by decide)]
 have hh:X.A.handled=none:=I.ok.hd hc
 refine wpAny_bind (oI ho hcl hd (nd _ ho) (by simp [hh]) fun h' tk hk=>?_)
 rw [if_pos (by rfl)]
 refine wpAny_bind (wpAny_rule ?_)
 have I2:Inv X pins σ (upd H s.heap.objs.size (.dK [])) {s with heap:=h',toks:=tk}:=I1.kept (t':=tk) hk
 obtain ⟨its2,rv2,p2,hz2⟩:=I2.tuple (SqT.of (a:=a) (xs:=ys) (by rw [aN had];exact ha))
 refine wpAny_bind (wpAny_pyIter_tuple (show Heap.IsTuple h' a its2.toArray from p2) ?_)
 have hsz:s.heap.objs.size < h'.objs.size:=by
  obtain ⟨_,_,_,e,_⟩:=hnew
  exact Heap.lt_size (hk _ _ e)
 refine wpAny_pure ⟨plainId_quiet F.plain_dict_update_loop _,?_⟩
 refine vH (X:=X) (pins:=pins) (σ:=σ) (by simp [hh]) fr hl hp ha (Nat.ne_of_gt hsz) (fun s' I'=>⟨rfl,.ref s.heap.objs.size,_,I',rfl,q _ fr⟩) rs.length 0 _ rfl (Nat.zero_le _) (I2.kept (t':=tk) fun b o e=>Heap.get?_push_of_some _ e) ⟨_,Heap.get?_push_size _ rfl,rfl,rfl⟩ (I2.fpOk (Nat.le_refl _) (I2.hok.fresh (Nat.le_refl _)))
end
def Tk (H H':Hp):Prop:=∀ b xs,H b=some (.tup xs)→H' b=some (.tup xs)
theorem Tk.refl {H:Hp}:Tk H H:=fun _ _ h=>h
theorem Tk.trans {H H1 H2:Hp} (a:Tk H H1) (b:Tk H1 H2):Tk H H2:=fun c xs h=>b c xs (a c xs h)
theorem Same.ts {H H':Hp} (s:Same H H'):Tk H H':=fun b xs h=>s b _ h
theorem Tk.upd {H H':Hp} {a:Addr} {o:HO} (s:Tk H H') (h:H' a=none):Tk H (L2.upd H' a o):=fun b xs e=>by rw [aN (aU (s b xs e) h)];exact s b xs e
theorem Tk.set {H H':Hp} {a:Addr} {o o':HO} (s:Tk H H') (h:H' a=some o) (hn:∀ xs,o≠.tup xs):Tk H (L2.upd H' a o'):=fun b xs e=>by
 rw [aN (fun z=>by rw [z] at e;have:=s a xs e;rw [h] at this;cases this;exact hn _ rfl)];exact s b xs e
inductive TDen (H:Hp):V→PyData→Prop
 | str (z:Str):TDen H (.str z) (.str z)
 | tup {a:Addr} {xs:List V} {ds:List PyData}:H a=some (.tup xs)→xs.length=ds.length→(∀ i (h:i < xs.length) (h':i < ds.length),TDen H xs[i] ds[i])→TDen H (.ref a) (.tuple ds)
theorem TDen.ts {H H':Hp} (s:Tk H H') {v:V} {d:PyData} (h:TDen H v d):TDen H' v d:=by
 induction h with
 | str z=>exact .str z
 | tup e hl _ ih=>exact .tup (s _ _ e) hl ih
theorem iX:∀ {ds:List PyData},(∀ d∈ds,d.showable=true)→PyData.showableAll ds=true
 | [],_=>by simp [PyData.showableAll]
 | d::ds,h=>by simp [PyData.showableAll,h d List.mem_cons_self,iX fun x hx=>h x (List.mem_cons_of_mem _ hx)]
theorem k8:∀ {ds:List PyData},(∀ d∈ds,d.hasDict=false)→PyData.hasDictAll ds=false
 | [],_=>by simp [PyData.hasDictAll]
 | d::ds,h=>by simp [PyData.hasDictAll,h d List.mem_cons_self,k8 fun x hx=>h x (List.mem_cons_of_mem _ hx)]
theorem mN {k:Nat}:∀ {ds:List PyData},(∀ d∈ds,d.depth≤k)→PyData.depthAll ds≤k
 | [],_=>by simp [PyData.depthAll]
 | d::ds,h=>by
  have h1:=h d List.mem_cons_self
  have h2:=mN (ds:=ds) fun x hx=>h x (List.mem_cons_of_mem _ hx)
  simp [PyData.depthAll];omega
theorem a07 {n:Nat}:∀ {ts:List Str},(∀ t∈ts,t.length≤n)→(ts.map (·.length)).sum≤ts.length*n
 | [],_=>by simp
 | t::ts,h=>by
  have h1:=h t List.mem_cons_self
  have h2:=a07 (ts:=ts) fun x hx=>h x (List.mem_cons_of_mem _ hx)
  rw [List.map_cons,List.sum_cons,List.length_cons,Nat.add_mul];omega
def TB (H:Hp) (v:V) (k n:Nat):Prop:=∃ d,TDen H v d∧d.depth≤k∧d.shown.length≤n∧d.showable=true∧d.hasDict=false
def Wd (z:Str):Prop:=z.length≤20∧∀ c∈z.cps.toList,c < 128
theorem TB.mono {H:Hp} {v:V} {k n k' n':Nat} (h:TB H v k n) (hk:k≤k') (hn:n≤n'):TB H v k' n':=by
 obtain ⟨d,h1,h2,h3,h4,h5⟩:=h
 exact ⟨d,h1,by omega,by omega,h4,h5⟩
theorem TB.ts {H H':Hp} (s:Tk H H') {v:V} {k n:Nat} (h:TB H v k n):TB H' v k n:=by
 obtain ⟨d,h1,h2⟩:=h
 exact ⟨d,h1.ts s,h2⟩
theorem TB.str {H:Hp} {z:Str} (h:Wd z):TB H (.str z) 0 202:=by
 refine ⟨.str z,.str z,by simp [PyData.depth],?_,by simp [PyData.showable],by simp [PyData.hasDict]⟩
 show (PyData.str z).shown.length≤202
 simp only [PyData.shown]
 have:=StrLaws.reprText_len z (fun c hc=>Nat.lt_of_lt_of_le (h.2 c hc) (by decide))
 have:=h.1
 omega
theorem TB.tup {H:Hp} {a:Addr} {xs:List V} {k n:Nat} (e:H a=some (.tup xs)) (h:∀ x∈xs,TB H x k n):TB H (.ref a) (k+1) (xs.length*(n+2)+3):=by
 have hc:∀ i:Fin xs.length,∃ d,TDen H xs[i.val] d∧d.depth≤k∧d.shown.length≤n∧d.showable=true∧d.hasDict=false:=fun i=>h _ (List.getElem_mem i.isLt)
 obtain ⟨f,hf⟩:=Classical.axiomOfChoice hc
 have hm:∀ d∈List.ofFn f,d.depth≤k∧d.shown.length≤n∧d.showable=true∧d.hasDict=false:=fun d hd=>by
  obtain ⟨i,rfl⟩:=List.mem_ofFn.mp hd
  exact (hf i).2
 refine ⟨.tuple (List.ofFn f),.tup e (by simp) fun i h1 h2=>?_,?_,?_,?_,?_⟩
 ·have:=(hf ⟨i,h1⟩).1
  simpa using this
 ·simp only [PyData.depth]
  have:=mN (fun d hd=>(hm d hd).1)
  omega
 ·simp only [PyData.shown]
  have h1:=tupleText_len_le (PyData.shownAll (List.ofFn f))
  have e2:PyData.shownAll (List.ofFn f)=(List.ofFn f).map PyData.shown:=shownAll_eq_map _
  have h2:((PyData.shownAll (List.ofFn f)).map (·.length)).sum≤(PyData.shownAll (List.ofFn f)).length*n:=a07 fun t ht=>by
   rw [e2] at ht
   obtain ⟨d,hd,rfl⟩:=List.mem_map.mp ht
   exact (hm d hd).2.1
  have h3:(PyData.shownAll (List.ofFn f)).length=xs.length:=by rw [e2];simp
  rw [h3] at h1 h2
  rw [Nat.mul_add];omega
 ·simp only [PyData.showable]
  exact iX fun d hd=>(hm d hd).2.2.1
 ·simp only [PyData.hasDict]
  exact k8 fun d hd=>(hm d hd).2.2.2
theorem mP (rs:List (Key×V)):(rs.map (·.1)).Nodup→∀ i (h:i < rs.length),valV (dictOf rs) rs[i].1=some rs[i].2:=by
 have gen:∀ (rs:List (Key×V)) (kvs:List (Key×V)),(rs.map (·.1)).Nodup→∀ k,valV (rs.foldl (fun kvs r=>putK kvs r.1 r.2) kvs) k=((rs.find? fun r=>decide (r.1=k)).map (·.2)).or (valV kvs k):=by
  intro rs
  induction rs with
  | nil=>intro kvs _ k;simp
  | cons r rs ih=>
   intro kvs hn k
   rw [List.map_cons,List.nodup_cons] at hn
   rw [List.foldl_cons,ih _ hn.2,yJ]
   by_cases e:r.1=k
   ·have:rs.find? (fun r=>decide (r.1=k))=none:=by
     rw [List.find?_eq_none]
     intro x hx z
     have z':=of_decide_eq_true z
     exact hn.1 (List.mem_map.mpr ⟨x,hx,by rw [z',e]⟩)
    rw [this,List.find?_cons,if_pos e.symm]
    simp [e]
   ·rw [if_neg (fun z=>e z.symm),List.find?_cons]
    simp [e]
 intro hn i h
 unfold dictOf
 rw [gen rs [] hn]
 have:rs.find? (fun r=>decide (r.1=rs[i].1))=some rs[i]:=by
  rw [List.find?_eq_some_iff_getElem]
  refine ⟨by simp,i,h,rfl,fun j hj=>?_⟩
  have hne:(rs.map (·.1))[j]'(by simp;omega)≠(rs.map (·.1))[i]'(by simpa using h):=fun z=>by
   exact (List.pairwise_iff_getElem.mp hn j i (by simp;omega) (by simpa using h) hj) z
  simpa using hne
 rw [this];rfl
abbrev rowsK (rs:List (Str×V)):List (Key×V):=rs.map fun r=>(Sum.inr r.1,r.2)
def AsV (H:Hp) (v:V) (o:Option Str):Prop:=∃ b,v=.ref b∧((∃ s ys,H b=some (.tup (.str s::ys))∧s≠"as"∧o=none)∨∃ x,H b=some (.tup [.str "as",.str x])∧o=some x)
theorem AsV.ts {H H':Hp} (s:Tk H H') {v:V} {o:Option Str} (h:AsV H v o):AsV H' v o:=by
 obtain ⟨b,e,h⟩:=h
 refine ⟨b,e,?_⟩
 rcases h with ⟨z,ys,h1,h2⟩ | ⟨x,h1,h2⟩
 ·exact .inl ⟨z,ys,s _ _ h1,h2⟩
 ·exact .inr ⟨x,s _ _ h1,h2⟩
structure GoodT (H:Hp) (a:Addr) (xs:List V) (rs:List (Str×V)) (nx:Str→Option Str) (ρ:Str→Nat):Prop where
 at_:H a=some (.tup xs)
 ps:PairsAt H xs (rowsK rs)
 nd:(rs.map (·.1)).Nodup
 len:rs.length≤300
 pos:0 < rs.length
 as:∀ r∈rs,AsV H r.2 (nx r.1)
 inn:∀ r∈rs,∀ y,nx r.1=some y→y∈rs.map (·.1)∧ρ y < ρ r.1
 rk:∀ r∈rs,ρ r.1≤rs.length
 tb:∀ r∈rs,Wd r.1∧TB H r.2 3 8273
theorem PairsAt.ts {H H':Hp} {ys:List V} {rs:List (Key×V)} (p:PairsAt H ys rs) (s:Tk H H'):PairsAt H' ys rs:=⟨p.1,fun i h=>let ⟨b,e1,e2⟩:=p.2 i h;⟨b,e1,s _ _ e2⟩⟩
section
variable {H H':Hp} {a:Addr} {xs:List V} {rs:List (Str×V)} {nx:Str→Option Str} {ρ:Str→Nat}
theorem GoodT.ts (g:GoodT H a xs rs nx ρ) (s:Tk H H'):GoodT H' a xs rs nx ρ:=
 ⟨s _ _ g.at_,g.ps.ts s,g.nd,g.len,g.pos,fun r hr=>(g.as r hr).ts s,g.inn,g.rk,fun r hr=>⟨(g.tb r hr).1,(g.tb r hr).2.ts s⟩⟩
theorem nN (h:(rs.map (·.1)).Nodup):((rowsK rs).map (·.1)).Nodup:=by
 have e:(rowsK rs).map (·.1)=(rs.map (·.1)).map (Sum.inr:Str→Key):=by simp [rowsK,List.map_map,Function.comp_def]
 rw [e]
 exact List.Pairwise.map _ (fun a b hab z=>hab (Sum.inr.inj z)) h
theorem GoodT.get (g:GoodT H a xs rs nx ρ) {x:Str} (hx:x∈rs.map (·.1)):∃ v,(x,v)∈rs∧valV (dictOf (rowsK rs)) (.inr x)=some v:=by
 obtain ⟨r,hr,rfl⟩:=List.mem_map.mp hx
 obtain ⟨i,hi,rfl⟩:=List.getElem_of_mem hr
 refine ⟨rs[i].2,hr,?_⟩
 have:=mP (rowsK rs) (nN g.nd) i (by simpa using hi)
 simpa using this
def stp (nx:Str→Option Str) (x:Str):Str:=(nx x).getD x
def stps (nx:Str→Option Str):Nat→Str→Str
 | 0,x=>x
 | n+1,x=>stps nx n (stp nx x)
theorem jT (n:Nat) {x:Str} (h:nx x=none):stps nx n x=x:=by
 induction n with
 | zero=>rfl
 | succ n ih=>rw [stps];rw [show stp nx x=x by simp [stp,h]];exact ih
theorem GoodT.run (g:GoodT H a xs rs nx ρ):∀ (n:Nat) (x:Str),x∈rs.map (·.1)→ρ x≤n→stps nx n x∈rs.map (·.1)∧nx (stps nx n x)=none∧stps nx (n+1) x=stps nx n x:=by
 intro n
 induction n with
 | zero=>
  intro x hx hr
  obtain ⟨r,hr',rfl⟩:=List.mem_map.mp hx
  cases e:nx r.1 with
  | none=>exact ⟨hx,e,jT 1 e⟩
  | some y=>have:=(g.inn r hr' y e).2;omega
 | succ n ih=>
  intro x hx hr
  obtain ⟨r,hr',rfl⟩:=List.mem_map.mp hx
  cases e:nx r.1 with
  | none=>
   rw [jT _ e,jT _ e]
   exact ⟨hx,e,rfl⟩
  | some y=>
   have e2:stp nx r.1=y:=by simp [stp,e]
   obtain ⟨h1,h2⟩:=g.inn r hr' y e
   have:=ih y h1 (by omega)
   rw [stps,stps,e2]
   exact this
def rowEnd (nx:Str→Option Str) (n:Nat) (x:Str):Str:=stps nx n x
theorem GoodT.endIn (g:GoodT H a xs rs nx ρ) {x:Str} (hx:x∈rs.map (·.1)):rowEnd nx rs.length x∈rs.map (·.1)∧nx (rowEnd nx rs.length x)=none:=by
 obtain ⟨r,hr,rfl⟩:=List.mem_map.mp hx
 obtain ⟨h1,h2,_⟩:=g.run rs.length r.1 hx (g.rk r hr)
 exact ⟨h1,h2⟩
theorem GoodT.endStep (g:GoodT H a xs rs nx ρ) {x y:Str} (hx:x∈rs.map (·.1)) (e:nx x=some y):rowEnd nx rs.length y=rowEnd nx rs.length x:=by
 obtain ⟨r,hr,rfl⟩:=List.mem_map.mp hx
 obtain ⟨h1,h2,h3⟩:=g.run rs.length r.1 hx (g.rk r hr)
 have e2:stp nx r.1=y:=by simp [stp,e]
 rw [stps,e2] at h3
 exact h3
end
theorem oM (xs:List V) (k:Nat):cutV xs (some (k:Int)) none=xs.drop k:=by
 unfold cutV
 rw [HT.fV,HT.jB]
 by_cases h:k≤xs.length
 ·rw [Nat.min_eq_left h]
  exact List.take_of_length_le (by simp)
 ·rw [Nat.min_eq_right (by omega)]
  simp [List.drop_eq_nil_of_le (show xs.length≤k by omega)]
theorem qN (xs:List V) (k:Nat):cutV xs none (some (k:Int))=xs.take k:=by
 unfold cutV
 rw [HT.fV,HT.jB]
 simp
theorem wL {α:Type} {l:List α} (h:l.Nodup) {i j:Nat} {x:α} (hi:l[i]? =some x) (hj:l[j]? =some x):i=j:=by
 obtain ⟨a,e1⟩:=List.getElem?_eq_some_iff.mp hi
 obtain ⟨b,e2⟩:=List.getElem?_eq_some_iff.mp hj
 rcases Nat.lt_trichotomy i j with z | z | z
 ·exact ((List.pairwise_iff_getElem.mp h i j a b z) (e1.trans e2.symm)).elim
 ·exact z
 ·exact ((List.pairwise_iff_getElem.mp h j i b a z) (e2.trans e1.symm)).elim
theorem q9 {α:Type} [BEq α] [LawfulBEq α] {l:List α} (h:l.Nodup) {i:Nat} {x:α} (hi:l[i]? =some x):l.idxOf x=i:=by
 have hm:x∈l:=List.mem_of_getElem? hi
 have h1:l.idxOf x < l.length:=List.idxOf_lt_length_of_mem hm
 have h2:l[l.idxOf x]? =some x:=by rw [List.getElem?_eq_getElem h1,List.getElem_idxOf]
 exact wL h h2 hi
open Classical in
theorem gA {z:Str} (h1:z.length≤20) (h2:∀ c∈z.cps.toList,c < 128):Wd z:=⟨h1,h2⟩
end L2
set_option maxRecDepth 100000
namespace L2
open PySem PySem.Spec PyProof.Rows
section
variable {α β:Type} {R:α→β→Prop}
theorem nH:∀ {xs xs':List α} {ys ys':List β},Paired R xs ys→Paired R xs' ys'→Paired R (xs++xs') (ys++ys')
 | _,_,_,_,.nil,h=>h
 | _,_,_,_,.cons a r,h=>.cons a (nH r h)
theorem yT:∀ {xs:List α} {ys:List β},xs.length=ys.length→(∀ i (h:i < xs.length) (h':i < ys.length),R xs[i] ys[i])→Paired R xs ys
 | [],[],_,_=>.nil
 | x::xs,y::ys,hl,h=>.cons (h 0 (by simp) (by simp)) (yT (by simpa using hl) fun i a b=>h (i+1) (by simpa using a) (by simpa using b))
theorem wA:∀ {xs:List α} {ys:List β},Paired R xs ys→xs.length=ys.length∧∀ i (h:i < xs.length) (h':i < ys.length),R xs[i] ys[i]
 | _,_,.nil=>⟨rfl,fun i h=>absurd h (by simp)⟩
 | _,_,.cons a r=>by
  obtain ⟨h1,h2⟩:=wA r
  refine ⟨by simp [h1],fun i h h'=>?_⟩
  cases i with
  | zero=>exact a
  | succ i=>exact h2 i (by simpa using h) (by simpa using h')
end
def PR (H:Hp) (x:V) (r:Key×V):Prop:=∃ b,x=.ref b∧H b=some (.tup [kV r.1,r.2])
theorem iC {H:Hp} {xs:List V} {rs:List (Key×V)}:PairsAt H xs rs↔Paired (PR H) xs rs:=by
 constructor
 ·rintro ⟨hl,h⟩
  refine yT hl fun i h1 h2=>?_
  obtain ⟨b,e1,e2⟩:=h i h2
  rw [List.getElem?_eq_getElem h1] at e1
  exact ⟨b,Option.some.inj e1,e2⟩
 ·intro h
  obtain ⟨hl,h'⟩:=wA h
  refine ⟨hl,fun i h2=>?_⟩
  obtain ⟨b,e1,e2⟩:=h' i (by omega) h2
  exact ⟨b,by rw [List.getElem?_eq_getElem (by omega),e1],e2⟩
section
variable {H:Hp} {xs:List V} {rs:List (Str×V)}
theorem qW (a b:List (Str×V)):rowsK (a++b)=rowsK a++rowsK b:=by simp [rowsK]
theorem pT:PairsAt H [] (rowsK []):=iC.mpr .nil
theorem nP (h:PairsAt H xs (rowsK rs)) {b:Addr} {n:Str} {v:V} (e:H b=some (.tup [.str n,v])):PairsAt H (xs++[.ref b]) (rowsK (rs++[(n,v)])):=by
 rw [qW]
 exact iC.mpr (nH (iC.mp h) (.cons ⟨b,rfl,e⟩ .nil))
end
section
variable {X:Cx} {pins:List (Addr×Obj)} {σ:St} {H:Hp} {s:Shared}
end
section
variable {X:Cx} {e1 e2:Expr} {p pos:Pos} {k:Nat} {g1 g2:TG}
end
def KD (w:World) (K:PySem.W.Frag) (a:Addr) (kvs:List (Key×V)):Prop:=∀ P:Program,∃ (o:Obj) (es:Array DictEntry) (ep:Nat) (vs:List (Key×Value)),K.lookup a=some o∧(a==sysModules)=false∧o.ExactDict∧o.data=.dict es ep∧KeysOf (mixKind P w) es∧Pairs (mixKind P w) es.toList vs∧(vs.map (·.1)).Nodup∧KV kvs vs
section
variable {X:Cx} {pins:List (Addr×Obj)} {σ:St} {H:Hp} {s:Shared} {a:Addr} {kvs:List (Key×V)}
theorem KD.of (h:KD X.w X.K a kvs) (I:Inv X pins σ H s):(a==sysModules)=false∧∃ vs,KV kvs vs∧s.heap.DictOf (mixKind X.prog X.w) a vs:=by
 obtain ⟨o,es,ep,vs,h1,h2,h3,h4,h5,h6,h7,h8⟩:=h X.prog
 exact ⟨h2,vs,h8,o,es,ep,I.kIn a o h1,h3,h4,h5,h6,h7⟩
variable {x:Str} {e:Expr} {pos p:Pos} {te:TE}
def tKGet (kvs:List (Key×V)) (te:TE):TE:=fun σ H Q=>te σ H fun y H1=>∃ k v,y=kV k∧valV kvs k=some v∧Q v H1
theorem uE {w:World} {K:PySem.W.Frag} (hx:∃ a,X.mg x=some (.ref a)∧KD w K a kvs) (he:SE X e te) (hs:NoSl e) (hw:X.w=w:=by rfl) (hK:X.K=K:=by rfl) (hg:Gl X x:=by rfl) (hd:(x==("__debug__":Str))=false:=by decide):SE X (.Subscript (.Name x p) e pos) (tKGet kvs te):=by
 subst hw hK
 obtain ⟨a,hm,kd⟩:=hx
 constructor
 intro pins s σ H Q I h
 refine w9 PySem.F.slot_dict_getitem.lookup hs (thn (mZ (v:=.ref a) hg hm rfl hd pins s σ H (fun v H'=>v=.ref a∧H'=H) I ⟨rfl,rfl⟩) fun u s2 ⟨z,H2,I2,rz,ez,eH⟩=>?_)
 subst ez eH
 cases rz
 refine thn (he.h pins s2 σ _ _ I2 h) ?_
 rintro iv s3 ⟨y,H3,I3,ry,k,v,ey,ev,q⟩
 subst ey
 obtain ⟨h1,vs,rel,dd⟩:=kd.of I3
 obtain ⟨w',hw,rw'⟩:=RelO.some_of (v:=v) (o:=valueAt vs k) (by rw [← ev];exact rel.val k)
 exact ⟨dd.typeIs,wpAny_getItem_of (kA ry) dd.mapOf hw ⟨v,_,I3.tok _,rw',q⟩⟩
end
theorem KV.len {kvs:List (Key×V)} {vs:List (Key×Value)} (r:KV kvs vs):kvs.length=vs.length:=Paired.length r
section
variable {X:Cx}
def rDIn (n:Bool):R2:=fun y x H Q=>∃ a o,x=.ref a∧DGet H a y o∧Q (.bl (n^^o.isSome)) H
theorem a25 (hu:X.A.units+1 < cLine):OpR X (compareOp .In) (rDIn false):=by
 intro pins s σ H x y v u Q I rx ry h
 obtain ⟨a,o,rfl,g,q⟩:=h
 cases ry
 exact a34 hu I g rx fun s' I'=>⟨.bl o.isSome,H,I',rfl,by simpa using q⟩
end
theorem DGet.rd {H:Hp} {a:Addr} {kvs:List (Key×V)} {k:Key} (e:Rd H a (.dK kvs)):DGet H a (kV k) (valV kvs k):=.inl ⟨kvs,k,e,rfl,rfl⟩
section
variable {X:Cx} {tg a b c:Expr} {ta:TA} {p pos:Pos}
end
inductive Dt where
 | str (z:Str)
 | tup (ds:List Dt)
 | oth
inductive DD (H:Hp):V→Dt→Prop
 | str {z:Str} (h:z.length≤100000):DD H (.str z) (.str z)
 | tup {a:Addr} {xs:List V} {ds:List Dt}:H a=some (.tup xs)→xs.length=ds.length→xs.length≤1000→(∀ i (h:i < xs.length) (h':i < ds.length),DD H xs[i] ds[i])→DD H (.ref a) (.tup ds)
 | non:DD H .non .oth
 | bl (b:Bool):DD H (.bl b) .oth
 | int (i:Int):DD H (.int i) .oth
 | lst {a:Addr} {xs:List V}:H a=some (.lst xs)→DD H (.ref a) .oth
 | dct {a:Addr} {kvs:List (Key×V)}:H a=some (.dK kvs)→DD H (.ref a) .oth
theorem DD.same {H H':Hp} (s:Same H H') {v:V} {d:Dt} (h:DD H v d):DD H' v d:=by
 induction h with
 | str h=>exact .str h
 | tup e hl hn _ ih=>exact .tup (s _ _ e) hl hn ih
 | non=>exact .non
 | bl b=>exact .bl b
 | int i=>exact .int i
 | lst e=>exact .lst (s _ _ e)
 | dct e=>exact .dct (s _ _ e)
def Dt.isTup:Dt→Bool | .tup _=>true | _=>false
def Dt.isStr:Dt→Bool | .str _=>true | _=>false
theorem DD.ty {H:Hp} {v:V} {d:Dt} (h:DD H v d):∃ t,tyName H v=some t∧isiT t "tuple"=d.isTup∧isiT t "str"=d.isStr:=by
 cases h with
 | str h=>exact ⟨"str",rfl,by rfl,by rfl⟩
 | tup e=>exact ⟨"tuple",by simp [tyName,e],by simp [isiT,Dt.isTup],by simp [isiT,Dt.isStr]⟩
 | non=>exact ⟨"NoneType",rfl,by decide,by decide⟩
 | bl b=>exact ⟨"bool",rfl,by decide,by decide⟩
 | int i=>exact ⟨"int",rfl,by decide,by decide⟩
 | lst e=>exact ⟨"list",by simp [tyName,e],by decide,by decide⟩
 | dct e=>exact ⟨"dict",by simp [tyName,e],by decide,by decide⟩
theorem DD.good {H:Hp} {v:V} {d:Dt} (h:DD H v d):∃ p w,GoodV p w H v:=by
 cases h with
 | str h=>exact ⟨0,0,h⟩
 | @tup a _ _ e=>exact ⟨Nat.succ a,Nat.succ a,Nat.ne_of_lt (Nat.lt_succ_self a),Nat.ne_of_lt (Nat.lt_succ_self a),.inr (.inl ⟨_,e⟩)⟩
 | non=>exact ⟨0,0,True.intro⟩
 | bl b=>exact ⟨0,0,True.intro⟩
 | int i=>exact ⟨0,0,True.intro⟩
 | @lst a _ e=>exact ⟨Nat.succ a,Nat.succ a,Nat.ne_of_lt (Nat.lt_succ_self a),Nat.ne_of_lt (Nat.lt_succ_self a),.inl ⟨_,e⟩⟩
 | @dct a _ e=>exact ⟨Nat.succ a,Nat.succ a,Nat.ne_of_lt (Nat.lt_succ_self a),Nat.ne_of_lt (Nat.lt_succ_self a),.inr (.inr ⟨_,e⟩)⟩
def nameD:Dt→Bool | .str z=>isName z | _=>false
def pairD:Dt→Bool | .tup [a,b]=>nameD a&&nameD b | _=>false
def fstS:Dt→Str | .tup (.str z::_)=>z | _=>""
def strLt (a b:Str):Bool:=decide (a.cps.toList < b.cps.toList)
def rising:List Str→Bool
 | a::b::r=>strLt a b&&rising (b::r)
 | _=>true
def pairsD:Dt→Bool | .tup ps=>ps.all pairD&&rising (ps.map fstS) | _=>false
def worded (s:Str):Bool:=s=="box"||s=="pick"
def behindN (s:Str):Option Nat:=if s=="all" then some 0 else if s=="none" then some 0 else if s=="way" then some 2 else if s=="as" then some 1 else none
def headD:Dt→Bool
 | .tup (.str s::rest)=>if worded s then (match rest with | [p]=>pairsD p | _=>false) else match behindN s with | some n=>decide (rest.length=n)&&rest.all nameD | none=>false
 | _=>false
def spT (f:Dt→Bool):Sp:=fun vs H Q _=>∃ (x:V) (d:Dt),vs=[x]∧DD H x d∧∀ H',Same H H'→Q (.bl (f d)) H'
theorem FnK.imp {P:Program} {w:World} {K:PySem.W.Frag} {mg:Str→Option Value} {base:Heap} {k:Nat} {x:Str} {ps:List Str} {sp sp':Sp} (F:FnK P w K mg base k x ps sp) (h:∀ vs H Q E,sp' vs H Q E→sp vs H Q E):FnK P w K mg base k x ps sp':=by
 obtain ⟨f,fd,G,r⟩:=F
 exact ⟨f,fd,G.imp h,r⟩
theorem a0h {H:Hp} {v:V} {d:Dt} (h:DD H v d):isNameV v=nameD d:=by cases h<;>rfl
theorem yE {vs:List V} {H:Hp} {Q:VK} {E:XK} (h:spT nameD vs H Q E):spName vs H Q E:=by
 obtain ⟨x,d,rfl,hd,q⟩:=h
 obtain ⟨p,w,g⟩:=hd.good
 refine ⟨p,w,x,rfl,g,fun H' s=>?_⟩
 rw [a0h hd];exact q H' s
theorem rX {σ:St} {H:Hp} {Q:Bool→Hp→Prop} (h:Q true H):tcNil σ H Q:=h
theorem iB {J:It} {ok:Hp→Prop} {n:Nat} {item:Nat→V} {te:TE} {τ0:St} {H1:Hp} {D:Addr} {Q:Hp→Prop} (hJ:ItN J ok n item) (f:Nat→Bool) (hn:n < sizeLine) (hD:H1 D=none) (hok:∀ H2,Same H1 H2→ok H2)
  (he:∀ i H2 (k:VK),i < n→Same H1 H2→(∀ H3,Same H2 H3→k (.bl (f i)) H3)→te (τ0.set 0 (some (item i))) H2 k)
  (hQ:∀ H2,Same H1 H2→H2 D=some (.lst (((List.range n).map f).map V.bl))→Q H2):∃ W:Nat→Nat→St→Hp→Prop,(∃ m,W 0 m τ0 (upd H1 D (.lst [])))∧∀ i m τ H,W i m τ H→
   (J.stop i H∧Q H)∨(J.go i H∧∃ N:St→Hp→Prop,(∀ τ' H',N τ' H'→∃ m',m' < m∧W (i+1) m' τ' H')∧∀ x H',J.yld i H x H'→gName 0 x τ H' fun τ2 H2=>tcNil τ2 H2 fun b H3=>
    if b=true then te τ2 H3 fun y H4=>∃ xs,H4 D=some (.lst xs)∧xs.length < sizeLine∧N τ2 (upd H4 D (.lst (xs++[y]))) else N τ2 H3):=by
 refine d7 hJ (fun i τ H=>H D=some (.lst (((List.range i).map f).map V.bl))∧Same H1 H∧∃ v,τ=τ0.set 0 v∨τ=τ0) ⟨aA,Same.upd hD _,none,.inr rfl⟩ (fun i τ H hi h=>hok H h.2.1) ?_ ?_
 ·rintro i τ H hi ⟨h1,h2,v,hv⟩
  have e:τ.set 0 (some (item i))=τ0.set 0 (some (item i)):=by
   rcases hv with rfl | rfl
   ·rw [List.set_set]
   ·rfl
  have hg:∀ (Q':St→Hp→Prop),Q' (τ0.set 0 (some (item i))) H→gName 0 (item i) τ H Q':=fun Q' h=>by unfold gName;rw [e];exact h
  refine hg _ ?_
  refine rX ?_
  rw [if_pos rfl]
  refine he i H _ hi h2 fun H3 s3=>?_
  refine ⟨_,s3 _ _ h1,by rw [List.length_map,List.length_map,List.length_range];omega,?_,(h2.trans s3).put hD,_,.inl rfl⟩
  rw [aA,List.range_succ,List.map_append,List.map_append];rfl
 ·rintro τ H ⟨h1,h2,_⟩
  exact hQ H h2 h1
theorem cW {α:Type} (ds:List α) (d:α) (g:α→Bool):((List.range ds.length).map fun i=>g (ds.getD i d)).all id=ds.all g:=by
 rw [List.all_map,Bool.eq_iff_iff,List.all_eq_true,List.all_eq_true]
 constructor
 ·intro h x hx
  obtain ⟨i,hi,rfl⟩:=List.getElem_of_mem hx
  have:=h i (List.mem_range.mpr hi)
  simpa [List.getD_eq_getElem?_getD,hi] using this
 ·intro h i hi
  have hi':=List.mem_range.mp hi
  have:=h _ (List.getElem_mem hi')
  simpa [List.getD_eq_getElem?_getD,hi'] using this
theorem lD (rs:List (Key×V)):(rs.map (·.1)).Nodup→dictOf rs=rs:=by
 have gen:∀ (rs kvs:List (Key×V)),(rs.map (·.1)).Nodup→(∀ r∈rs,valV kvs r.1=none)→rs.foldl (fun kvs r=>putK kvs r.1 r.2) kvs=kvs++rs:=by
  intro rs
  induction rs with
  | nil=>intro kvs _ _;simp
  | cons r rs ih=>
   intro kvs hn hk
   rw [List.map_cons,List.nodup_cons] at hn
   rw [List.foldl_cons,zZ _ (hk r List.mem_cons_self),ih _ hn.2 fun x hx=>?_]
   ·simp
   ·rw [lZ _ _ _ _ (hk r List.mem_cons_self),if_neg (fun e=>hn.1 (List.mem_map.mpr ⟨x,hx,e⟩))]
    exact hk x (List.mem_cons_of_mem _ hx)
 intro hn
 have:=gen rs [] hn (fun _ _=>rfl)
 simpa [dictOf] using this
def strD:Dt→Str | .str z=>z | _=>""
theorem iI:∀ ws:List Str,((List.range (min ws.length (ws.length - 1))).map fun i=>strLt (ws.getD i "") (ws.getD (i+1) "")).all id=rising ws
 | []=>rfl
 | [a]=>rfl
 | a::b::r=>by
  have ih:=iI (b::r)
  have e1:min (a::b::r).length ((a::b::r).length - 1)=min (b::r).length ((b::r).length - 1)+1:=by simp
  rw [e1,List.range_succ_eq_map,List.map_cons,List.all_cons,List.map_map]
  have e2:((List.range (min (b::r).length ((b::r).length - 1))).map ((fun i=>strLt ((a::b::r).getD i "") ((a::b::r).getD (i+1) ""))∘Nat.succ)).all id=rising (b::r):=by
   rw [← ih]
   rfl
  rw [e2]
  rfl
theorem pJ {H:Hp} {v:V} {d:Dt} (h:DD H v d) (hn:nameD d=true):∃ z,v=.str z∧d=.str z∧isName z=true:=by
 cases h with
 | str _=>exact ⟨_,rfl,rfl,hn⟩
 | tup _ _ _ _=>exact Bool.noConfusion hn
 | non=>exact Bool.noConfusion hn
 | bl _=>exact Bool.noConfusion hn
 | int _=>exact Bool.noConfusion hn
 | lst _=>exact Bool.noConfusion hn
 | dct _=>exact Bool.noConfusion hn
def sndD:Dt→Dt | .tup (_::h::_)=>h | _=>.oth
def asD:Dt→Option Str | .tup [.str s,.str x]=>if s=="as" then some x else none | _=>none
def rowsD (ds:List Dt):List (Str×Dt):=ds.map fun d=>(fstS d,sndD d)
def nxD (rs:List (Str×Dt)) (n:Str):Option Str:=(rs.find? fun r=>decide (r.1=n)).bind fun r=>asD r.2
theorem Rd.same {H H':Hp} {a:Addr} {u:HO} (r:Rd H a u) (s:Same H H'):Rd H' a u:=by
 rcases r with r | ⟨o,r⟩
 ·exact .inl (s _ _ r)
 ·exact .inr ⟨o,s _ _ r⟩
theorem zR (z:Str) (ds:List Dt):headD (.tup (.str z::ds))=if worded z then (match ds with | [p]=>pairsD p | _=>false) else match behindN z with | some n=>decide (ds.length=n)&&ds.all nameD | none=>false:=rfl
theorem zF {H:Hp} {v:V} {d:Dt} (h:DD H v d) (hh:headD d=true):∃ a z xs ds,v=.ref a∧d=.tup (.str z::ds)∧H a=some (.tup (.str z::xs))∧xs.length=ds.length∧xs.length < 1000∧(∀ i (h:i < xs.length) (h':i < ds.length),DD H xs[i] ds[i])∧
  ((worded z=true∧∃ p,ds=[p]∧pairsD p=true)∨(worded z=false∧∃ n,behindN z=some n∧ds.length=n∧ds.all nameD=true)):=by
 cases h with
 | @tup a xs ds e hl hn hds=>
  match ds,hl,hh,hds with
  | .str z::ds,hl,hh,hds=>
   match xs,hl,e,hn,hds with
   | x0::xs,hl,e,hn,hds=>
    have h0:=hds 0 (by simp) (by simp)
    simp only [List.getElem_cons_zero] at h0
    cases h0
    refine ⟨a,z,xs,ds,rfl,rfl,e,by simpa using hl,by simp at hn;omega,fun i h h'=>hds (i+1) (by simpa using h) (by simpa using h'),?_⟩
    rw [zR] at hh
    cases hw:worded z with
    | true=>
     rw [hw] at hh
     simp only [if_true] at hh
     match ds,hh with
     | [p],hh=>exact .inl ⟨rfl,p,rfl,hh⟩
    | false=>
     rw [hw] at hh
     simp only [Bool.false_eq_true,if_false] at hh
     cases hb:behindN z with
     | none=>rw [hb] at hh;exact Bool.noConfusion hh
     | some n=>
      rw [hb] at hh
      simp only [Bool.and_eq_true,decide_eq_true_eq] at hh
      exact .inr ⟨rfl,n,rfl,hh.1,hh.2⟩
  | .tup _::_,_,hh,_=>exact Bool.noConfusion hh
  | .oth::_,_,hh,_=>exact Bool.noConfusion hh
  | [],_,hh,_=>exact Bool.noConfusion hh
 | str _=>exact Bool.noConfusion hh
 | non=>exact Bool.noConfusion hh
 | bl _=>exact Bool.noConfusion hh
 | int _=>exact Bool.noConfusion hh
 | lst _=>exact Bool.noConfusion hh
 | dct _=>exact Bool.noConfusion hh
theorem xR:worded "as"=false:=by decide
theorem a1h {H:Hp} {v:V} {d:Dt} (h:DD H v d) (hh:headD d=true):AsV H v (asD d):=by
 obtain ⟨a,z,xs,ds,rfl,rfl,e,hl,hn,hds,hc⟩:=zF h hh
 refine ⟨a,rfl,?_⟩
 by_cases hz:z="as"
 ·subst hz
  rcases hc with ⟨hw,_⟩ | ⟨_,n,hb,hdl,hda⟩
  ·rw [xR] at hw;cases hw
  ·have hn1:n=1:=by
    have:behindN "as"=some 1:=by decide
    rw [this] at hb;cases hb;rfl
   subst hn1
   match ds,hdl,hl,hda,hds with
   | [d1],_,hl,hda,hds=>
    match xs,hl,e,hds with
    | [x1],_,e,hds=>
     simp only [List.all_cons,List.all_nil,Bool.and_true] at hda
     obtain ⟨y,q1,q2,_⟩:=pJ (hds 0 (by simp) (by simp)) hda
     simp only [List.getElem_cons_zero] at q1
     subst q1 q2
     exact .inr ⟨y,e,by simp [asD]⟩
 ·refine .inl ⟨z,xs,e,hz,?_⟩
  have hz':(z==Str.ofString "as")=false:=by simpa using hz
  unfold asD
  split
  ·next s x heq=>
   injection heq with heq
   injection heq with h1 _
   injection h1 with h1
   rw [← h1,if_neg (by rw [hz'];exact Bool.false_ne_true)]
  ·rfl
theorem vM {t:TS} {D:Ends} {σ:St} {H:Hp} {rt:VK} {bk ct:St→Hp→Prop} (h:t D σ H):tNext {nx:=t D,rt:=rt,bk:=bk,ct:=ct} σ H:=h
structure RowsDt (H:Hp) (xs:List V) (ds:List Dt) (rs:List (Str×V)) (hs:List Dt):Prop where
 l1:rs.length=ds.length
 l2:hs.length=ds.length
 ps:PairsAt H xs (rowsK rs)
 dd:∀ i (h:i < ds.length) (h1:i < rs.length) (h2:i < hs.length),ds[i]=.tup [.str rs[i].1,hs[i]]∧DD H rs[i].2 hs[i]∧headD hs[i]=true∧isName rs[i].1=true
section
variable {H:Hp} {xs:List V} {ds:List Dt} {rs:List (Str×V)} {hs:List Dt}
theorem RowsDt.rows (R:RowsDt H xs ds rs hs) {i:Nat} (h:i < ds.length) (h1:i < rs.length) (h2:i < hs.length):(rowsD ds)[i]? =some (rs[i].1,hs[i]):=by
 unfold rowsD
 rw [List.getElem?_map,List.getElem?_eq_getElem h,(R.dd i h h1 h2).1];rfl
theorem iS (n:Str) (h:n ∉ rs.map (·.1)):valV (rowsK rs) (.inr n)=none:=by
 unfold valV
 rw [List.find?_eq_none.mpr]
 ·rfl
 ·intro p hp e
  obtain ⟨r,hr,rfl⟩:=List.mem_map.mp hp
  exact h (List.mem_map.mpr ⟨r,hr,Sum.inr.inj (of_decide_eq_true e)⟩)
theorem k9 (nd:(rs.map (·.1)).Nodup) {i:Nat} (h:i < rs.length):valV (rowsK rs) (.inr rs[i].1)=some rs[i].2:=by
 have:=mP (rowsK rs) (nN nd) i (by simpa using h)
 rw [lD _ (nN nd)] at this
 simpa using this
theorem mW (nd:(rs.map (·.1)).Nodup) (n:Str):(valV (rowsK rs) (.inr n)).isSome=decide (n∈rs.map (·.1)):=by
 by_cases h:n∈rs.map (·.1)
 ·obtain ⟨r,hr,rfl⟩:=List.mem_map.mp h
  obtain ⟨i,hi,rfl⟩:=List.getElem_of_mem hr
  rw [k9 nd hi,decide_eq_true h];rfl
 ·rw [iS n h,decide_eq_false h];rfl
theorem RowsDt.nx (R:RowsDt H xs ds rs hs) (nd:(rs.map (·.1)).Nodup) {i:Nat} (h1:i < rs.length) (h2:i < hs.length):nxD (rowsD ds) rs[i].1=asD hs[i]:=by
 have h:i < ds.length:=by have:=R.l1;omega
 unfold nxD
 have:(rowsD ds).find? (fun r=>decide (r.1=rs[i].1))=some (rs[i].1,hs[i]):=by
  rw [List.find?_eq_some_iff_getElem]
  have hl:(rowsD ds).length=ds.length:=by unfold rowsD;simp
  refine ⟨by simp,i,by omega,?_,fun j hj=>?_⟩
  ·have:=R.rows h h1 h2
   rw [List.getElem?_eq_getElem (by omega)] at this
   exact Option.some.inj this
  ·have hj1:j < rs.length:=by omega
   have:=R.rows (i:=j) (by omega) hj1 (by omega)
   rw [List.getElem?_eq_getElem (by omega)] at this
   rw [Option.some.inj this]
   have hne:(rs.map (·.1))[j]'(by simp;omega)≠(rs.map (·.1))[i]'(by simpa using h1):=fun z=>(List.pairwise_iff_getElem.mp nd j i (by simp;omega) (by simpa using h1) hj) z
   simpa using hne
 rw [this];rfl
theorem RowsDt.has (R:RowsDt H xs ds rs hs) (nd:(rs.map (·.1)).Nodup) (n:Str) (v:V) (hv:valV (rowsK rs) (.inr n)=some v):AsV H v (nxD (rowsD ds) n):=by
 by_cases h:n∈rs.map (·.1)
 ·obtain ⟨r,hr,rfl⟩:=List.mem_map.mp h
  obtain ⟨i,hi,rfl⟩:=List.getElem_of_mem hr
  rw [k9 nd hi] at hv
  cases hv
  have h2:i < hs.length:=by have:=R.l1;have:=R.l2;omega
  rw [R.nx nd hi h2]
  obtain ⟨_,q1,q2,_⟩:=R.dd i (by have:=R.l1;omega) hi h2
  exact a1h q1 q2
 ·rw [iS n h] at hv;cases hv
end
inductive TX (H:Hp):V→Dt→Prop
 | str {z:Str} (h:z.length≤100000):TX H (.str z) (.str z)
 | tup {a:Addr} {xs:List V} {ds:List Dt}:H a=some (.tup xs)→xs.length=ds.length→xs.length≤1000→(∀ i (h:i < xs.length) (h':i < ds.length),TX H xs[i] ds[i])→TX H (.ref a) (.tup ds)
theorem TX.dd {H:Hp} {v:V} {d:Dt} (h:TX H v d):DD H v d:=by
 induction h with
 | str h=>exact .str h
 | tup e hl hn _ ih=>exact .tup e hl hn ih
theorem a0O {H:Hp} {a:Addr} {x:V} {d:Dt} (e:H a=some (.tup [x])) (h:TX H x d):TX H (.ref a) (.tup [d]):=.tup e rfl (by simp) fun i h1 h2=>by
 match i,h1 with
 | 0,_=>exact h
theorem rL {H:Hp} {a:Addr} {x y:V} {d d':Dt} (e:H a=some (.tup [x,y])) (h:TX H x d) (h':TX H y d'):TX H (.ref a) (.tup [d,d']):=.tup e rfl (by simp) fun i h1 h2=>by
 match i,h1 with
 | 0,_=>exact h
 | 1,_=>exact h'
theorem a15 {H:Hp} {a:Addr} {x y z:V} {d d' d'':Dt} (e:H a=some (.tup [x,y,z])) (h:TX H x d) (h':TX H y d') (h'':TX H z d''):TX H (.ref a) (.tup [d,d',d'']):=.tup e rfl (by simp) fun i h1 h2=>by
 match i,h1 with
 | 0,_=>exact h
 | 1,_=>exact h'
 | 2,_=>exact h''
theorem kO {z:Str} (h:isName z=true):z.length≤8:=by
 unfold isName at h
 simp only [Bool.and_eq_true,decide_eq_true_eq] at h
 exact h.1.1.2
theorem lF {H:Hp} {z:Str} (h:isName z=true):TX H (.str z) (.str z):=.str (by have:=kO h;omega)
theorem qZ {H:Hp} {z:Str} (h:z.length≤100):TX H (.str z) (.str z):=.str (by omega)
section
variable {H:Hp} {ns:List Str} {b:Addr} {P:Option Str→Prop}
structure PrsOk (H:Hp) (ns:List Str) (xs:List V) (ps:List (Str×Str)):Prop where
 len:xs.length=ps.length
 at_:∀ i (h:i < xs.length) (h':i < ps.length),∃ c,xs[i]=.ref c∧H c=some (.tup [.str ps[i].1,.str ps[i].2])
 nm:∀ p∈ps,isName p.1=true∧isName p.2=true∧p.2∈ns
 ris:rising (ps.map (·.1))=true
end
theorem iK:∀ {ws:List Str},ws.Pairwise (fun a b=>strLt a b=true)→rising ws=true
 | [],_=>rfl
 | [_],_=>rfl
 | a::b::r,h=>by
  rw [List.pairwise_cons] at h
  rw [rising,h.1 b List.mem_cons_self,iK h.2];rfl
def strV:V→Str
 | .str z=>z
 | _=>""
theorem a1p {H:Hp} {ns:List Str} {xs:List V} {rs:List (Str×V)} (q2:PairsAt H xs (rowsK rs)) (hn:∀ r∈rs,isName r.1=true) (q4:∀ r∈rs,∃ y,r.2=.str y∧y∈ns∧isName y=true) (hr:rising (rs.map (·.1))=true):PrsOk H ns xs (rs.map fun q=>(q.1,strV q.2)):=by
 have hl:xs.length=rs.length:=by have:=q2.1;simpa using this
 refine ⟨by simp;omega,fun i h1 h2=>?_,fun q hq=>?_,?_⟩
 ·have h3:i < rs.length:=by omega
  obtain ⟨c',e1,e2⟩:=q2.2 i (by simpa using h3)
  rw [List.getElem?_eq_getElem h1] at e1
  refine ⟨c',Option.some.inj e1,?_⟩
  obtain ⟨y,ey,_⟩:=q4 _ (List.getElem_mem h3)
  simp only [List.getElem_map]
  rw [ey]
  have:H c'=some (.tup [.str rs[i].1,rs[i].2]):=by simpa [rowsK,kV] using e2
  rw [ey] at this
  exact this
 ·obtain ⟨q',hq',rfl⟩:=List.mem_map.mp hq
  obtain ⟨y,ey,my,ny⟩:=q4 q' hq'
  refine ⟨hn q' hq',?_,?_⟩
  ·show isName (strV q'.2)=true
   rw [ey];exact ny
  ·show strV q'.2∈ns
   rw [ey];exact my
 ·rw [List.map_map];exact hr
section
variable {X:Cx}
end
section
variable {X:Cx} {pins:List (Addr×Obj)} {σ:St} {H:Hp} {s:Shared}
end
section
variable {X:Cx} {e1 e2:Expr} {p pos:Pos} {k:Nat} {g1 g2:TG}
end
section
variable {prog:Program} {w:World} {A:Around} {R:Result→Shared→Prop} {s:Shared}
end
section
variable {X:Cx} {t1 i1 t2 i2 elt:Expr} {sc:Scope} {pos:Pos} {own:List Str} {idx:List Nat} {N':List Str} {wi wi2:TI} {g g2:TG} {te:TE}
end
section
variable {prog:Program} {w:World} {A:Around} {E:Value→Shared→Prop} {s:Shared}
end
section
variable {X:Cx} {e st:Expr} {te ts:TE} {p2 pos:Pos}
end
inductive Hd where
 | one (s:Str)
 | as (y:Str)
 | way (x y:Str)
 | prs (s:Str) (ps:List (Str×Str))
def Hd.nx:Hd→Option Str
 | .as y=>some y
 | _=>none
def Hd.ok (ns:List Str):Hd→Prop
 | .one s=>s="all"∨s="none"
 | .as y=>isName y=true∧y∈ns
 | .way x y=>isName x=true∧isName y=true∧x∈ns∧y∈ns
 | .prs s ps=>(s="box"∨s="pick")∧(∀ p∈ps,isName p.1=true∧isName p.2=true∧p.2∈ns)∧rising (ps.map (·.1))=true∧ps.length≤10
structure PrsV (H:Hp) (xs:List V) (ps:List (Str×Str)):Prop where
 len:xs.length=ps.length
 at_:∀ i (h:i < xs.length) (h':i < ps.length),∃ c,xs[i]=.ref c∧H c=some (.tup [.str ps[i].1,.str ps[i].2])
theorem PrsV.tk {H H':Hp} {xs:List V} {ps:List (Str×Str)} (h:PrsV H xs ps) (s:Tk H H'):PrsV H' xs ps:=⟨h.len,fun i a b=>let ⟨c,h1,h2⟩:=h.at_ i a b;⟨c,h1,s _ _ h2⟩⟩
inductive HV (H:Hp):V→Hd→Prop
 | one {b:Addr} {s:Str}:H b=some (.tup [.str s])→HV H (.ref b) (.one s)
 | as {b:Addr} {y:Str}:H b=some (.tup [.str "as",.str y])→HV H (.ref b) (.as y)
 | way {b:Addr} {x y:Str}:H b=some (.tup [.str "way",.str x,.str y])→HV H (.ref b) (.way x y)
 | prs {b c:Addr} {s:Str} {xs:List V} {ps:List (Str×Str)}:H b=some (.tup [.str s,.ref c])→H c=some (.tup xs)→PrsV H xs ps→HV H (.ref b) (.prs s ps)
theorem HV.tk {H H':Hp} (s:Tk H H') {v:V} {h:Hd} (q:HV H v h):HV H' v h:=by
 cases q with
 | one e=>exact .one (s _ _ e)
 | as e=>exact .as (s _ _ e)
 | way e=>exact .way (s _ _ e)
 | prs e e' p=>exact .prs (s _ _ e) (s _ _ e') (p.tk s)
section
variable {H:Hp} {ns:List Str} {b:Addr} {v:V} {P:Option Str→Prop}
end
def Hd.dt:Hd→Dt
 | .one s=>.tup [.str s]
 | .as y=>.tup [.str "as",.str y]
 | .way x y=>.tup [.str "way",.str x,.str y]
 | .prs s ps=>.tup [.str s,.tup (ps.map fun p=>.tup [.str p.1,.str p.2])]
theorem HV.tx {H:Hp} {ns:List Str} {v:V} {h:Hd} (q:HV H v h) (ok:h.ok ns):TX H v h.dt:=by
 cases q with
 | one e=>exact a0O e (qZ (by rcases ok with rfl | rfl<;>decide))
 | as e=>exact rL e (qZ (by decide)) (lF ok.1)
 | way e=>exact a15 e (qZ (by decide)) (lF ok.1) (lF ok.2.1)
 | @prs b c s xs ps e e' p=>
  have h10:=ok.2.2.2
  have hl:=p.len
  refine rL e (qZ (by rcases ok.1 with rfl | rfl<;>decide)) (.tup e' (by simp [p.len]) (by omega) fun i h1 h2=>?_)
  have h3:i < ps.length:=by simpa using h2
  obtain ⟨c',q1,q2⟩:=p.at_ i h1 h3
  obtain ⟨m1,m2,_⟩:=ok.2.1 _ (List.getElem_mem h3)
  rw [q1]
  simp only [List.getElem_map]
  exact rL q2 (lF m1) (lF m2)
abbrev Rw2:=Str×Hd
structure RV (H:Hp) (xs:List V) (rows:List Rw2):Prop where
 len:xs.length=rows.length
 at_:∀ i (h:i < xs.length) (h':i < rows.length),∃ b v,xs[i]=.ref b∧H b=some (.tup [.str rows[i].1,v])∧HV H v rows[i].2
theorem RV.tk {H H':Hp} {xs:List V} {rows:List Rw2} (h:RV H xs rows) (s:Tk H H'):RV H' xs rows:=⟨h.len,fun i a b=>let ⟨c,v,h1,h2,h3⟩:=h.at_ i a b;⟨c,v,h1,s _ _ h2,h3.tk s⟩⟩
theorem RV.snoc {H:Hp} {xs:List V} {rows:List Rw2} (h:RV H xs rows) {b:Addr} {v:V} {r:Rw2} (e:H b=some (.tup [.str r.1,v])) (hv:HV H v r.2):RV H (xs++[.ref b]) (rows++[r]):=by
 have hl:=h.len
 refine ⟨by simp [hl],fun i h1 h2=>?_⟩
 by_cases hlt:i < xs.length
 ·rw [List.getElem_append_left hlt,List.getElem_append_left (by omega)]
  exact h.at_ i hlt (by omega)
 ·have e1:i=xs.length:=by simp at h1;omega
  subst e1
  rw [List.getElem_append_right (Nat.le_refl _),List.getElem_append_right (by omega)]
  simp only [Nat.sub_self,List.getElem_cons_zero,hl]
  exact ⟨b,v,rfl,e,hv⟩
def RowsK (ns:List Str) (rows:List Rw2):Prop:=∀ r∈rows,isName r.1=true∧r.2.ok ns
def Hd.pre:Hd→List Str
 | .one s=>[s]
 | .as _=>[]
 | .way _ _=>["way"]
 | .prs s _=>[s]
section
variable {X:Cx}
end
inductive DA (P:Addr→Prop) (H:Hp):Bool→V→PyData→Dt→Prop
 | str {m:Bool} {z:Str} (h:z.length≤100000):DA P H m (.str z) (.str z) (.str z)
 | non {m:Bool}:DA P H m .non .none .oth
 | bl {m:Bool} (b:Bool):DA P H m (.bl b) (.bool b) .oth
 | int {m:Bool} (i:Int):DA P H m (.int i) (.int i) .oth
 | tup {m:Bool} {a:Addr} {xs:List V} {ps:List PyData} {ds:List Dt}:P a→H a=some (.tup xs)→xs.length=ps.length→xs.length=ds.length→xs.length≤1000→(∀ i (h:i < xs.length) (h':i < ps.length) (h'':i < ds.length),DA P H m xs[i] ps[i] ds[i])→DA P H m (.ref a) (.tuple ps) (.tup ds)
 | lst {a:Addr} {xs:List V} {ps:List PyData} {ds:List Dt}:P a→H a=some (.lst xs)→xs.length=ps.length→xs.length=ds.length→(∀ i (h:i < xs.length) (h':i < ps.length) (h'':i < ds.length),DA P H true xs[i] ps[i] ds[i])→DA P H true (.ref a) (.list ps) .oth
 | dc0 {a:Addr}:P a→H a=some (.dK [])→DA P H false (.ref a) (.dict []) .oth
 | dc1 {a:Addr} {z:Str} {x:V} {p:PyData} {d:Dt}:P a→H a=some (.dK [(.inr z,x)])→DA P H false x p d→DA P H false (.ref a) (.dict [(.str z,p)]) .oth
section
variable {P P':Addr→Prop} {H H':Hp} {m:Bool} {v:V} {k n k' n':Nat} {a:Addr} {xs:List V}
end
section
variable {X:Cx}
end
section
variable {P:Addr→Prop} {m:Bool} {σ:St} {H0:Hp} {te:TE} {ta:TA} {k c:Nat}
end
section
variable {X:Cx} {pos:Pos}
end
section
variable {P:Program} {w:World} {A:Around} {E:Value→Shared→Prop} {s:Shared}
end
section
variable {P:Program} {w:World} {A:Around} {E:Value→Shared→Prop} {s:Shared}
end
section
variable {X:Cx}
end
section
variable {X:Cx} {pins:List (Addr×Obj)} {σ:St} {H:Hp} {s:Shared}
theorem i8 (K:PySem.W.Frag) (h:X.K=K:=by rfl):OpR X (binaryOp .Add) (rCatT K):=by subst h;exact a0w
end
section
variable {X:Cx} {tg a b c:Expr} {ta:TA} {p pos:Pos}
theorem a0P {o e f:Expr} {apos cpos:Pos} {td ty tx:TE} (hu:X.A.units+1 < cLine) (ho:SE X o td) (he:SE X e ty) (hf:SE X f tx) (m:M2 X o "get" apos e f cpos):SE X (.Call (.Attribute o "get" apos) [e,f] [] cpos) (tDGet2 td ty tx):=⟨a06 hu ho.h he.h hf.h m⟩
end
def Hd.wds:Hd→List Str
 | .prs _ ps=>ps.map (·.1)
 | _=>[]
structure HG4 (H:Hp) (ns ws:List Str) (v:V) (P:Option Str→Prop):Prop where
 ex:∃ h,HV H v h∧h.ok ns∧P h.nx∧∀ z∈h.wds,z∈ws
section
variable {H:Hp} {ns ws:List Str} {b:Addr} {v:V} {P:Option Str→Prop}
theorem HG4.tk {H':Hp} (h:HG4 H ns ws v P) (s:Tk H H'):HG4 H' ns ws v P:=let ⟨d,h1,h2⟩:=h.ex;⟨d,h1.tk s,h2⟩
theorem HG4.imp {P':Option Str→Prop} (h:HG4 H ns ws v P) (f:∀ o,P o→P' o):HG4 H ns ws v P':=let ⟨d,h1,h2,h3,h4⟩:=h.ex;⟨d,h1,h2,f _ h3,h4⟩
theorem a2F {y:Str} (e:H b=some (.tup [.str "as",.str y])) (hy:isName y=true) (hm:y∈ns) (hP:P (some y)):HG4 H ns ws (.ref b) P:=⟨.as y,.as e,⟨hy,hm⟩,hP,(fun _ h=>nomatch h)⟩
theorem yG (e:H b=some (.tup [.str "none"])) (hP:P none):HG4 H ns ws (.ref b) P:=⟨.one "none",.one e,.inr rfl,hP,(fun _ h=>nomatch h)⟩
theorem a0p (e:H b=some (.tup [.str "all"])) (hP:P none):HG4 H ns ws (.ref b) P:=⟨.one "all",.one e,.inl rfl,hP,(fun _ h=>nomatch h)⟩
theorem a0l {x y:Str} (e:H b=some (.tup [.str "way",.str x,.str y])) (hx:isName x=true) (hy:isName y=true) (mx:x∈ns) (my:y∈ns) (hP:P none):HG4 H ns ws (.ref b) P:=⟨.way x y,.way e,⟨hx,hy,mx,my⟩,hP,(fun _ h=>nomatch h)⟩
theorem vL {s:Str} {c:Addr} {xs:List V} {ps:List (Str×Str)} (hs:s="box"∨s="pick") (e:H b=some (.tup [.str s,.ref c])) (ec:H c=some (.tup xs)) (hn:xs.length≤10) (h:PrsOk H ns xs ps) (hw:∀ q∈ps,q.1∈ws) (hP:P none):HG4 H ns ws (.ref b) P:=
 ⟨.prs s ps,.prs e ec ⟨h.len,h.at_⟩,⟨hs,h.nm,h.ris,by rw [← h.len];exact hn⟩,hP,fun z hz=>by obtain ⟨q,hq,rfl⟩:=List.mem_map.mp hz;exact hw q hq⟩
end
theorem a01 {H:Hp} {b:Addr} {x y:Str} (e:H b=some (.tup [.str x,.str y])) (hx:Wd x) (hy:Wd y):TB H (.ref b) 1 411:=
 (TB.tup (k:=0) (n:=202) e fun v hv=>by
  simp only [List.mem_cons,List.mem_nil_iff,or_false] at hv
  rcases hv with rfl | rfl
  ·exact TB.str hx
  ·exact TB.str hy).mono (by omega) (by simp)
theorem HV.tb {H:Hp} {ns ws:List Str} {v:V} {h:Hd} (q:HV H v h) (ok:h.ok ns) (hn:∀ n∈ns,Wd n) (hw:∀ z∈h.wds,Wd z):TB H v 3 8273:=by
 cases q with
 | one e=>
  refine (TB.tup (k:=0) (n:=202) e fun v hv=>?_).mono (by omega) (by simp)
  rw [List.mem_singleton.mp hv]
  rcases ok with rfl | rfl<;>exact TB.str (gA (by decide) (by decide))
 | as e=>exact (a01 e (gA (by decide) (by decide)) (hn _ ok.2)).mono (by omega) (by omega)
 | way e=>
  refine (TB.tup (k:=0) (n:=202) e fun v hv=>?_).mono (by omega) (by simp)
  simp only [List.mem_cons,List.mem_nil_iff,or_false] at hv
  rcases hv with rfl | rfl | rfl
  ·exact TB.str (gA (by decide) (by decide))
  ·exact TB.str (hn _ ok.2.2.1)
  ·exact TB.str (hn _ ok.2.2.2)
 | @prs b c s xs ps e e' p=>
  have h10:=ok.2.2.2
  have hl:=p.len
  refine (TB.tup (k:=2) (n:=4133) e fun v hv=>?_).mono (by omega) (by simp)
  simp only [List.mem_cons,List.mem_nil_iff,or_false] at hv
  rcases hv with rfl | rfl
  ·rcases ok.1 with rfl | rfl<;>exact (TB.str (gA (by decide) (by decide))).mono (by omega) (by omega)
  ·refine (TB.tup (k:=1) (n:=411) e' fun x hx=>?_).mono (by omega) (by omega)
   obtain ⟨i,hi,rfl⟩:=List.getElem_of_mem hx
   have h3:i < ps.length:=by omega
   obtain ⟨c',q1,q2⟩:=p.at_ i hi h3
   rw [q1]
   have hm:ps[i]∈ps:=List.getElem_mem h3
   exact a01 q2 (hw _ (List.mem_map.mpr ⟨_,hm,rfl⟩)) (hn _ (ok.2.1 _ hm).2.2)
def Ahd (ns:List Str) (n:Str) (o:Option Str):Prop:=∀ y,o=some y→∃ (i j:Nat),i < j∧ns[i]? =some y∧ns[j]? =some n
structure RowsG (H:Hp) (ns ws:List Str) (rs:List (Str×V)):Prop where
 sub:∀ r∈rs,r.1∈ns
 hd:∀ r∈rs,HG4 H ns ws r.2 (Ahd ns r.1)
theorem RowsG.tk {H H':Hp} {ns ws:List Str} {rs:List (Str×V)} (h:RowsG H ns ws rs) (s:Tk H H'):RowsG H' ns ws rs:=⟨h.sub,fun r hr=>(h.hd r hr).tk s⟩
theorem RowsG.perm {H:Hp} {ns ws:List Str} {rs rs':List (Str×V)} (h:RowsG H ns ws rs) (p:∀ r∈rs',r∈rs):RowsG H ns ws rs':=⟨fun r hr=>h.sub r (p r hr),fun r hr=>h.hd r (p r hr)⟩
theorem RowsG.add {H:Hp} {ns ws:List Str} {rs:List (Str×V)} (h:RowsG H ns ws rs) {n:Str} {v:V} (h1:n∈ns) (h2:HG4 H ns ws v (Ahd ns n)):RowsG H ns ws ((n,v)::rs):=by
 refine ⟨fun r hr=>?_,fun r hr=>?_⟩<;>rcases List.mem_cons.mp hr with rfl | hr
 ·exact h1
 ·exact h.sub r hr
 ·exact h2
 ·exact h.hd r hr
structure RT (H:Hp) (a:Addr) (xs:List V) (rows:List Rw2) (ns ws:List Str):Prop where
 at_:H a=some (.tup xs)
 rv:RV H xs rows
 nm:(rows.map (·.1)).Perm ns
 nd:ns.Nodup
 ok:RowsK ns rows
 wd:∀ n∈ns,Wd n
 ah:∀ r∈rows,Ahd ns r.1 r.2.nx
 ww:∀ r∈rows,∀ z∈r.2.wds,z∈ws
 pos:1≤ns.length
 few:ns.length≤10
section
variable {H H':Hp} {a:Addr} {xs:List V} {rows:List Rw2} {ns ws:List Str}
theorem RT.tk (h:RT H a xs rows ns ws) (s:Tk H H'):RT H' a xs rows ns ws:=⟨s _ _ h.at_,h.rv.tk s,h.nm,h.nd,h.ok,h.wd,h.ah,h.ww,h.pos,h.few⟩
theorem RT.rl (h:RT H a xs rows ns ws):rows.length=ns.length:=by have:=h.nm.length_eq;simpa using this
theorem RT.ndr (h:RT H a xs rows ns ws):(rows.map (·.1)).Nodup:=by rw [h.nm.nodup_iff];exact h.nd
theorem RT.of {rs:List (Str×V)} (e:H a=some (.tup xs)) (ps:PairsAt H xs (rowsK rs)) (nm:(rs.map (·.1)).Perm ns) (nd:ns.Nodup) (okn:∀ n∈ns,isName n=true∧Wd n) (pos:1≤ns.length) (few:ns.length≤10) (g:RowsG H ns ws rs):∃ rows,RT H a xs rows ns ws:=by
 have hc:∀ i:Fin rs.length,∃ hd:Hd,HV H rs[i.val].2 hd∧hd.ok ns∧Ahd ns rs[i.val].1 hd.nx∧∀ z∈hd.wds,z∈ws:=fun i=>(g.hd _ (List.getElem_mem i.isLt)).ex
 obtain ⟨f,hf⟩:=Classical.axiomOfChoice hc
 have hxl:xs.length=rs.length:=by have:=ps.1;simpa using this
 have en:(List.ofFn fun i:Fin rs.length=>((rs[i.val].1,f i):Rw2)).map (·.1)=rs.map (·.1):=by
  apply List.ext_getElem
  ·simp
  ·intro i h1 h2;simp
 have mem:∀ r∈(List.ofFn fun i:Fin rs.length=>((rs[i.val].1,f i):Rw2)),∃ i:Fin rs.length,r=(rs[i.val].1,f i):=fun r hr=>by
  obtain ⟨i,hi,rfl⟩:=List.getElem_of_mem hr
  exact ⟨⟨i,by simpa using hi⟩,by simp⟩
 refine ⟨List.ofFn fun i=>(rs[i.val].1,f i),e,⟨by simp [hxl],fun i h1 h2=>?_⟩,by rw [en];exact nm,nd,fun r hr=>?_,fun n hn=>(okn n hn).2,fun r hr=>?_,fun r hr=>?_,pos,few⟩
 ·have h3:i < rs.length:=by omega
  obtain ⟨b,e1,e2⟩:=ps.2 i (by simpa using h3)
  rw [List.getElem?_eq_getElem h1] at e1
  refine ⟨b,rs[i].2,Option.some.inj e1,?_,?_⟩
  ·simpa [rowsK,kV] using e2
  ·simpa using (hf ⟨i,h3⟩).1
 ·obtain ⟨i,rfl⟩:=mem r hr
  exact ⟨(okn _ (g.sub _ (List.getElem_mem i.isLt))).1,(hf i).2.1⟩
 ·obtain ⟨i,rfl⟩:=mem r hr
  exact (hf i).2.2.1
 ·obtain ⟨i,rfl⟩:=mem r hr
  exact (hf i).2.2.2
end
section
variable {H H':Hp} {a b:Addr} {xs ys:List V} {rows rows2:List Rw2} {ns ws ws':List Str} {f g:Str→Str}
theorem RT.pairs (h:RT H a xs rows ns ws):∃ rs:List (Str×V),PairsAt H xs (rowsK rs)∧rs.map (·.1)=rows.map (·.1)∧rs.length=rows.length∧∀ i (h1:i < rs.length) (h2:i < rows.length),HV H rs[i].2 rows[i].2:=by
 have hl:=h.rv.len
 have hc:∀ i:Fin rows.length,∃ v:V,(∃ b,xs[i.val]? =some (.ref b)∧H b=some (.tup [.str rows[i.val].1,v]))∧HV H v rows[i.val].2:=fun i=>by
  obtain ⟨b,v,q1,q2,q3⟩:=h.rv.at_ i.val (by have:=i.isLt;omega) i.isLt
  exact ⟨v,⟨b,by rw [List.getElem?_eq_getElem (by have:=i.isLt;omega),q1],q2⟩,q3⟩
 obtain ⟨f,hf⟩:=Classical.axiomOfChoice hc
 refine ⟨List.ofFn fun i=>(rows[i.val].1,f i),⟨by simp [hl],fun i hi=>?_⟩,?_,by simp,fun i h1 h2=>?_⟩
 ·have hi':i < rows.length:=by simpa using hi
  obtain ⟨b,q1,q2⟩:=(hf ⟨i,hi'⟩).1
  exact ⟨b,q1,by simpa [rowsK,kV] using q2⟩
 ·apply List.ext_getElem
  ·simp
  ·intro i h1 h2;simp
 ·simpa using (hf ⟨i,h2⟩).2
def hdOf (rows:List Rw2) (x:Str):Hd:=((rows.find? fun r=>decide (r.1=x)).map (·.2)).getD (.one "")
def nxOf (rows:List Rw2) (x:Str):Option Str:=(hdOf rows x).nx
theorem jD (nd:(rows.map (·.1)).Nodup) {r:Rw2} (hr:r∈rows):hdOf rows r.1=r.2:=by
 obtain ⟨i,hi,rfl⟩:=List.getElem_of_mem hr
 have:rows.find? (fun r=>decide (r.1=rows[i].1))=some rows[i]:=by
  rw [List.find?_eq_some_iff_getElem]
  refine ⟨by simp,i,hi,rfl,fun j hj=>?_⟩
  have hne:(rows.map (·.1))[j]'(by simp;omega)≠(rows.map (·.1))[i]'(by simpa using hi):=List.pairwise_iff_getElem.mp nd j i (by simp;omega) (by simpa using hi) hj
  simpa using hne
 unfold hdOf
 rw [this];rfl
theorem HV.asV {v:V} {h:Hd} (q:HV H v h) (ok:h.ok ns):AsV H v h.nx:=by
 cases q with
 | one e=>exact ⟨_,rfl,.inl ⟨_,_,e,by rcases ok with rfl | rfl<;>decide,rfl⟩⟩
 | as e=>exact ⟨_,rfl,.inr ⟨_,e,rfl⟩⟩
 | way e=>exact ⟨_,rfl,.inl ⟨_,_,e,by decide,rfl⟩⟩
 | prs e e' p=>exact ⟨_,rfl,.inl ⟨_,_,e,by rcases ok.1 with rfl | rfl<;>decide,rfl⟩⟩
theorem RT.good (h:RT H a xs rows ns ws) (hw:∀ z∈ws,Wd z):∃ rs,GoodT H a xs rs (nxOf rows) (fun n=>ns.idxOf n)∧rs.map (·.1)=rows.map (·.1)∧rs.length=rows.length∧∀ x v,x∈ns→valV (dictOf (rowsK rs)) (.inr x)=some v→HV H v (hdOf rows x):=by
 obtain ⟨rs,ps,nm,rl,hv⟩:=h.pairs
 have hrl:=h.rl
 have hf:=h.few
 have hp:=h.pos
 have nd:(rs.map (·.1)).Nodup:=by rw [nm];exact h.ndr
 have hmem:∀ n,n∈ns↔n∈rs.map (·.1):=fun n=>by rw [nm];exact h.nm.mem_iff.symm
 have at':∀ r∈rs,∃ r'∈rows,r.1=r'.1∧HV H r.2 r'.2:=fun r hr=>by
  obtain ⟨i,hi,rfl⟩:=List.getElem_of_mem hr
  have hi':i < rows.length:=by omega
  refine ⟨rows[i],List.getElem_mem hi',?_,hv i hi hi'⟩
  have:(rs.map (·.1))[i]'(by simpa using hi)=(rows.map (·.1))[i]'(by simpa using hi'):=by simp only [nm]
  simpa using this
 have g:GoodT H a xs rs (nxOf rows) (fun n=>ns.idxOf n):=by
  refine ⟨h.at_,ps,nd,by omega,by omega,fun r hr=>?_,fun r hr y hy=>?_,fun r hr=>?_,fun r hr=>?_⟩
  ·obtain ⟨r',hr',e,v⟩:=at' r hr
   unfold nxOf
   rw [e,jD h.ndr hr']
   exact v.asV (h.ok r' hr').2
  ·obtain ⟨r',hr',e,v⟩:=at' r hr
   unfold nxOf at hy
   rw [e,jD h.ndr hr'] at hy
   obtain ⟨i,j,hij,h1,h2⟩:=h.ah r' hr' y hy
   refine ⟨(hmem y).mp (List.mem_of_getElem? h1),?_⟩
   show ns.idxOf y < ns.idxOf r.1
   rw [e,q9 h.nd h1,q9 h.nd h2]
   exact hij
  ·have:=List.idxOf_lt_length_of_mem ((hmem r.1).mpr (List.mem_map.mpr ⟨r,hr,rfl⟩))
   show ns.idxOf r.1≤_
   omega
  ·obtain ⟨r',hr',e,v⟩:=at' r hr
   refine ⟨h.wd _ ((hmem r.1).mpr (List.mem_map.mpr ⟨r,hr,rfl⟩)),v.tb (ws:=ws) (h.ok r' hr').2 h.wd fun z hz=>hw z (h.ww r' hr' z hz)⟩
 refine ⟨rs,g,nm,rl,fun x v hx hval=>?_⟩
 obtain ⟨v',m,e⟩:=g.get ((hmem x).mp hx)
 rw [hval] at e
 cases e
 obtain ⟨r',hr',e,q⟩:=at' _ m
 have e':x=r'.1:=e
 rw [e',jD h.ndr hr']
 exact q
end
def endOf (rows:List Rw2) (x:Str):Str:=rowEnd (nxOf rows) rows.length x
theorem RT.endIn {H:Hp} {a:Addr} {xs:List V} {rows:List Rw2} {ns ws:List Str} (rt:RT H a xs rows ns ws) (hw:∀ z∈ws,Wd z) {x:Str} (hx:x∈ns):endOf rows x∈ns∧(hdOf rows (endOf rows x)).nx=none∧(hdOf rows (endOf rows x)).ok ns:=by
 obtain ⟨rs,g,nm,rl,hv⟩:=rt.good hw
 have hm:∀ z,z∈ns↔z∈rs.map (·.1):=fun z=>by rw [nm];exact rt.nm.mem_iff.symm
 obtain ⟨h1,h2⟩:=g.endIn ((hm x).mp hx)
 rw [rl] at h1 h2
 refine ⟨(hm _).mpr h1,h2,?_⟩
 have h3:endOf rows x∈rows.map (·.1):=by rw [← nm];exact h1
 obtain ⟨r,hr,e⟩:=List.mem_map.mp h3
 rw [← e,jD rt.ndr hr]
 exact (rt.ok r hr).2
structure KTup (K:PySem.W.Frag) (t:Addr×Obj×List V):Prop where
 lk:K.lookup t.1=some t.2.1
 ok:∃ (its:List Value) (n:Nat),t.2.1.cls=.type "tuple"∧t.2.1.dict=none∧t.2.1.data=.seq its.toArray n∧Vals t.2.2 its∧t.2.2.length≤sizeLine
def without (K:PySem.W.Frag) (as:List Addr):PySem.W.Frag:=K.filter fun p=> !as.contains p.1
theorem eA {as:List Addr} {b:Addr}:∀ {K:PySem.W.Frag},(without K as).lookup b=if as.contains b=true then none else K.lookup b
 | []=>by unfold without;simp
 | (c,o)::K=>by
  have ih:=eA (as:=as) (b:=b) (K:=K)
  unfold without at ih ⊢
  rw [List.filter_cons]
  by_cases hc:as.contains c=true
  ·have h0:¬(!as.contains (c,o).1)=true:=by show ¬(!as.contains c)=true;rw [hc];decide
   rw [if_neg h0,ih]
   by_cases hb:as.contains b=true
   ·rw [if_pos hb,if_pos hb]
   ·have n:(b==c)=false:=by
     cases e:b==c with
     | false=>rfl
     | true=>rw [eq_of_beq e] at hb;exact absurd hc hb
    rw [if_neg hb,if_neg hb,List.lookup_cons,n]
  ·have h0:(!as.contains (c,o).1)=true:=by
    show (!as.contains c)=true
    cases q:as.contains c with
    | true=>exact absurd q hc
    | false=>rfl
   rw [if_pos h0,List.lookup_cons,List.lookup_cons,ih]
   cases e:b==c with
   | true=>
    have:¬as.contains b=true:=by rw [eq_of_beq e];exact hc
    show some o=if as.contains b=true then none else some o
    rw [if_neg this]
   | false=>rfl
def Frzn (H:Hp):Prop:=∀ b,H b=none∨∃ o u,H b=some (.frz o u)
def hpOf (ts:List (Addr×Obj×List V)) (G:Hp):Hp:=fun b=>match ts.find? fun t=>decide (t.1=b) with
 | some t=>some (.frz t.2.1 (.tup t.2.2))
 | none=>G b
theorem zA {ts:List (Addr×Obj×List V)} {G:Hp} {t:Addr×Obj×List V} (h:t∈ts) (nd:(ts.map (·.1)).Nodup):hpOf ts G t.1=some (.frz t.2.1 (.tup t.2.2)):=by
 induction ts with
 | nil=>cases h
 | cons a ts ih=>
  unfold hpOf
  rw [List.find?_cons]
  rw [List.map_cons,List.nodup_cons] at nd
  by_cases e:a.1=t.1
  ·rw [decide_eq_true e]
   rcases List.mem_cons.mp h with rfl | h
   ·rfl
   ·exact absurd (List.mem_map.mpr ⟨t,h,e.symm⟩) nd.1
  ·rw [decide_eq_false e]
   rcases List.mem_cons.mp h with rfl | h
   ·exact absurd rfl e
   ·exact ih h nd.2
theorem gK {ts:List (Addr×Obj×List V)} {G:Hp} {b:Addr}:(∃ t∈ts,t.1=b∧hpOf ts G b=some (.frz t.2.1 (.tup t.2.2)))∨((∀ t∈ts,t.1≠b)∧hpOf ts G b=G b):=by
 unfold hpOf
 cases q:ts.find? fun t=>decide (t.1=b) with
 | some t=>
  have h1:=List.mem_of_find?_eq_some q
  have h2:=List.find?_some q
  exact .inl ⟨t,h1,of_decide_eq_true h2,rfl⟩
 | none=>
  refine .inr ⟨fun t ht e=>?_,rfl⟩
  have:=List.find?_eq_none.mp q t ht
  simp [e] at this
theorem xH {P:Program} {w:World} {K:PySem.W.Frag} {mg mb:Str→Option Value} {CX:CXT} {k:Nat} {fa a:Addr} {fd:FuncData} {x:Str} {sp:Sp} {s₁:Shared} {vs:List Value} {ns:List Int} {ts:List (Addr×Obj×List V)}
  (hts:∀ t∈ts,KTup K t) (nd:(ts.map (·.1)).Nodup)
  (KX:K.In s₁.heap) (hns:s₁.heap.Ns mainGlobals mg) (hb:s₁.heap.Ns builtinsNs mb) (hbb:∀ x:Str,x≠"__name__"→mb x=bootBuiltins x) (hlim:s₁.heap.NoLimit) (hg:s₁.gens=#[])
  (ha:s₁.heap.get? a=some {cls:=.type "list",data:=.seq vs.toArray}) (hi:IntsAre vs ns) (hl:ns.length≤sizeLine) (hr:Room k callerA)
  (F:∀ base:Heap,(without K (ts.map (·.1))).In base→base.Ns mainGlobals mg→FnOk P w (without K (ts.map (·.1))) mg base CX k fa fd [x] sp) (hbind:∀ (s:Shared) (u:Value),BindsTo s fd ⟨[u],[]⟩ [(x,u)])
  (hsp:∀ H:Hp,Frzn H→(∀ t∈ts,H t.1=some (.frz t.2.1 (.tup t.2.2)))→SqL (without K (ts.map (·.1))) H a (ns.map V.int)→sp [.ref a] H (fun v _=>v=.bl true) fun _ _ _=>False)
  (hCX:∀ H e s',CX [] H s₁ (fun _ _ _=>False) e s'→False):
  codeAny (model P w) callerA (.call (.ref fa) ⟨[.ref a],[]⟩) (fun r s'=>r=.ok (.ret (.bool true))∧OldK s₁.heap s'.heap∧s'.os=s₁.os∧AllBare s'.gens) s₁:=by
 have rv:=pP hi
 have lenV:=hi.length
 have tob:∀ t∈ts,s₁.heap.get? t.1=some t.2.1:=fun t ht=>KX _ _ (hts t ht).lk
 have nta:∀ t∈ts,t.1≠a:=fun t ht e=>by
  obtain ⟨its,n,h1,_⟩:=(hts t ht).ok
  have:=tob t ht
  rw [e,ha] at this
  rw [← Option.some.inj this] at h1
  injection h1 with h2
  exact absurd h2 (by decide)
 have core:∀ G:Hp,(∀ b,G b≠none→b=a)→(G a≠none→K.lookup a=none)→(∀ b,G b=none∨∃ o u,G b=some (.frz o u))→SqL (without K (ts.map (·.1))) (hpOf ts G) a (ns.map V.int)→(∀ u,G a=some u→∀ H,ObjOk P w H s₁.heap a u)→
   codeAny (model P w) callerA (.call (.ref fa) ⟨[.ref a],[]⟩) (fun r s'=>r=.ok (.ret (.bool true))∧OldK s₁.heap s'.heap∧s'.os=s₁.os∧AllBare s'.gens) s₁:=by
  intro G hG hK hF hS hO
  have trk:∀ b,hpOf ts G b≠none→b=a∨∃ t∈ts,t.1=b:=fun b q=>by
   rcases gK (ts:=ts) (G:=G) (b:=b) with ⟨t,ht,e,_⟩ | ⟨_,e⟩
   ·exact .inr ⟨t,ht,e⟩
   ·rw [e] at q;exact .inl (hG b q)
  have frz:Frzn (hpOf ts G):=fun b=>by
   rcases gK (ts:=ts) (G:=G) (b:=b) with ⟨t,ht,e,q⟩ | ⟨_,q⟩
   ·exact .inr ⟨_,_,q⟩
   ·rw [q];exact hF b
  have hok:HOk P w (hpOf ts G) s₁.heap:=fun b u q=>by
   rcases gK (ts:=ts) (G:=G) (b:=b) with ⟨t,ht,e,q'⟩ | ⟨_,q'⟩
   ·rw [q'] at q
    cases q
    obtain ⟨its,n,h1,h2,h3,h4,h5⟩:=(hts t ht).ok
    have o1:=tob t ht
    rw [e] at o1
    exact ⟨o1,⟨h5,fun o z=>by rw [o1] at z;cases z;exact h2⟩,its,h4,t.2.1,o1,h1,n,h3⟩
   ·rw [q'] at q
    have e:=hG b (by rw [q];simp)
    subst e
    exact hO u q _
  have base_of:∀ {b:Addr} {o:Obj},s₁.heap.get? b=some o→hpOf ts G b=none→(hidT s₁.heap (hpOf ts G)).get? b=some o:=fun e n=>zJ e n
  have noA:∀ {b:Addr} {o:Obj} {es:Array DictEntry} {ep:Nat},s₁.heap.get? b=some o→o.data=.dict es ep→hpOf ts G b=none:=fun {b o es ep} e d=>by
   cases q:hpOf ts G b with
   | none=>rfl
   | some u=>
    rcases trk b (by rw [q];simp) with z | ⟨t,ht,z⟩
    ·subst z
     rw [ha] at e;cases e
     cases d
    ·have o1:=tob t ht
     rw [z,e] at o1
     cases o1
     obtain ⟨its,n,h1,h2,h3,_⟩:=(hts t ht).ok
     rw [d] at h3;cases h3
  have nsK:∀ {b:Addr} {m:Str→Option Value},s₁.heap.Ns b m→(hidT s₁.heap (hpOf ts G)).Ns b m:=fun {b m} ⟨o,es,ep,e,d,r⟩=>⟨o,es,ep,base_of e (noA e d),d,r⟩
  have hKb:(without K (ts.map (·.1))).In (hidT s₁.heap (hpOf ts G)):=fun b o e=>by
   rw [eA] at e
   by_cases hc:(ts.map (·.1)).contains b=true
   ·rw [if_pos hc] at e;cases e
   ·rw [if_neg hc] at e
    refine base_of (KX b o e) ?_
    cases q:hpOf ts G b with
    | none=>rfl
    | some u=>
     rcases gK (ts:=ts) (G:=G) (b:=b) with ⟨t,ht,z,_⟩ | ⟨_,q'⟩
     ·exact absurd (by rw [List.contains_iff_mem];exact List.mem_map.mpr ⟨t,ht,z⟩) hc
     ·rw [q'] at q
      have z:=hG b (by rw [q];simp)
      subst z
      rw [hK (by rw [q];simp)] at e;cases e
  have hM:Mod (without K (ts.map (·.1))) mg (hidT s₁.heap (hpOf ts G)):=⟨hKb,nsK hns,⟨mb,nsK hb,hbb⟩,let ⟨mc,h1,h2⟩:=hlim;⟨mc,nsK h1,h2⟩⟩
  have e0:Env0 P w (without K (ts.map (·.1))) mg (hidT s₁.heap (hpOf ts G)) callerA [] s₁ (hpOf ts G):=⟨rfl,hM,fun b o e=>a0H e,Nat.le_of_eq (xT _ _),trivial,fun b hb=>absurd (show b∈([]:List Addr) from hb) (by simp),hok,.of_eq hg⟩
  refine codeAny_mono ((F _ hKb (nsK hns)).run callerA [] s₁ (hpOf ts G) ⟨[.ref a],[]⟩ [.ref a] [.ref a] _ _ hr e0 (hbind s₁ (.ref a)) (.cons rfl .nil) (hsp (hpOf ts G) frz (fun t ht=>zA ht nd) hS)) fun r s' h=>?_
  cases r with
  | error e=>exact (hCX _ e s' h).elim
  | ok fl=>
   cases fl with
   | next=>exact False.elim h
   | brk=>exact False.elim h
   | cont=>exact False.elim h
   | ret u=>
    obtain ⟨v,H',os,bare,un,hok',r',q⟩:=h
    have q':v=.bl true:=q
    subst q'
    obtain rfl:u=Value.bool true:=r'
    refine ⟨rfl,OldK.of_keep fun b o e=>?_,os,bare⟩
    cases q:hpOf ts G b with
    | none=>exact un.keep b o e q (by intro z;exact absurd (show b∈([]:List Addr) from z) (by simp)) (by simp)
    | some u=>
     rcases frz b with z | ⟨ob,u',z⟩
     ·rw [q] at z;cases z
     ·have z2:=un.frzs b ob _ z
      obtain ⟨e1,_⟩:=hok b _ z
      obtain ⟨e2,_⟩:=hok' b _ z2
      rw [e] at e1;cases e1
      exact e2
 have nca:¬(ts.map (·.1)).contains a=true:=fun h=>by
  rw [List.contains_iff_mem] at h
  obtain ⟨t,ht,e⟩:=List.mem_map.mp h
  exact nta t ht e
 have hga:∀ G:Hp,hpOf ts G a=G a:=fun G=>by
  rcases gK (ts:=ts) (G:=G) (b:=a) with ⟨t,ht,e,_⟩ | ⟨_,q⟩
  ·exact absurd e (nta t ht)
  ·exact q
 cases hk:K.lookup a with
 | some o=>
  have e:=KX a o hk
  rw [ha] at e
  cases e
  exact core (fun _=>none) (fun b z=>absurd rfl z) (fun z=>absurd rfl z) (fun _=>.inl rfl) (.inr ⟨_,vs.toArray,_,by rw [eA,if_neg nca];exact hk,rfl,rfl,rfl,by rw [List.size_toArray,lenV];exact hl,by simpa using rv⟩) fun u z=>by cases z
 | none=>
  refine core (fun b=>if b=a then some (.frz {cls:=.type "list",data:=.seq vs.toArray} (.lst (ns.map V.int))) else none) (fun b z=>?_) (fun _=>hk) (fun b=>?_) (.inl (.inr ⟨{cls:=.type "list",data:=.seq vs.toArray},by rw [hga];exact if_pos rfl⟩)) fun u z H=>?_
  ·by_cases hb:b=a
   ·exact hb
   ·exact absurd (if_neg hb) z
  ·by_cases hb:b=a
   ·exact .inr ⟨_,_,if_pos hb⟩
   ·exact .inl (if_neg hb)
  ·have z':=(if_pos rfl).symm.trans z
   cases z'
   exact ⟨ha,by rw [List.length_map];exact hl,vs,_,rv,ha⟩
section
variable {X:Cx} {tg iter kx vx:Expr} {ifs:List Expr} {sc:Scope} {pos:Pos} {own:List Str} {idx:List Nat} {N':List Str} {wi:TI} {g:TG} {tc:TC} {tk tw:TE}
end
section
variable {X:Cx} {e o value:Expr} {es:List Expr} {te ta tv:TE} {t:TA} {f x:Str} {pos pos' p:Pos} {C:Addr} {k:Nat} {ps:List Str} {sp:Sp}
end
section
variable {X:Cx}
end
theorem a0Z {kvs:List (Key×V)} {vs:List (Key×Value)} (r:KV kvs vs):∀ {i:Nat} {p:Key×V},kvs[i]? =some p→∃ q,vs[i]? =some q∧q.1=p.1∧RelV p.2 q.2:=by
 intro i
 induction r generalizing i with
 | nil=>intro p h;simp at h
 | cons a t ih=>
  intro p h
  cases i with
  | zero=>simp at h;subst h;exact ⟨_,by simp,a.1.symm,a.2⟩
  | succ i=>simp at h;simpa using ih h
section
variable {X:Cx} {elts:List Expr} {k:Nat} {tpos apos cpos:Pos} {o:Expr} {to:TE}
end
end L2
set_option maxRecDepth 100000
namespace PySem
end PySem
namespace L2
open PySem PySem.Spec PyProof.Rows
section
variable {X:Cx}
end
end L2
set_option maxRecDepth 100000
namespace L2
open PySem PySem.Spec PyProof.Rows
section
variable {X:Cx} {pins:List (Addr×Obj)} {σ:St} {H:Hp} {s:Shared}
end
section
variable {X:Cx} {o e:Expr} {es:List Expr} {apos cpos:Pos} {to:TE} {t:TA}
end
end L2
set_option maxRecDepth 100000
namespace L2
open PySem PySem.Spec PyProof.Rows HT
section
variable {prog:Program} {w:World} {A:Around} {E:Value→Shared→Prop} {s:Shared}
end
section
variable {X:Cx}
end
end L2
set_option maxRecDepth 100000
namespace L2
open PySem PySem.Spec PyProof.Rows
theorem uR {K:PySem.W.Frag} {as:List Addr} {h:Heap} (x:K.In h):(without K as).In h:=fun a o e=>by
 rw [eA] at e
 by_cases hc:as.contains a=true
 ·rw [if_pos hc] at e;cases e
 ·rw [if_neg hc] at e;exact x a o e
def Sx (x:Addr) (H H':Hp):Prop:=∀ b o,b≠x→H b=some o→H' b=some o
theorem Sx.upd {x:Addr} {H:Hp} {o:HO}:Sx x H (upd H x o):=fun c u n h=>by rw [aN n];exact h
section
variable {H:Hp} {a:Addr} {xs:List V} {rows:List Rw2} {ns ws:List Str}
end
section
variable {X:Cx}
end
theorem rQ {A:Around} {k:Nat} (hr:Room k A):A.units+20 < cLine:=by have:=hr.un;omega
section
variable {P:Program} {w:World} {A:Around} {E:Value→Shared→Prop} {s:Shared} {it d:Addr} {i n ep:Nat} {od:Obj} {es:Array DictEntry} {ok ov:Value} {Q:Option Value→Shared→Prop}
end
section
variable {X:Cx} {elts:List Expr} {k:Nat} {tpos apos cpos:Pos} {o:Expr} {to:TE}
end
section
variable {X:Cx} {tg:Expr} {apos cpos:Pos} {o:Expr} {to:TE}
end
section
variable {X:Cx}
def rSum (K:PySem.W.Frag):List V→Hp→VK→Prop:=fun xs H Q=>match xs with
 | [.ref p]=>∃ ns:List Int,SqL K H p (ns.map V.int)∧Q (.int ns.sum) H
 | _=>False
theorem mJ (ns:List Int):∀ k,k≤ns.length→PySem.preSum (fun i=>ns.getD i 0) k=(ns.take k).sum
 | 0,_=>rfl
 | k+1,h=>by
  have ih:=mJ ns k (by omega)
  show PySem.preSum _ k+ns.getD k 0=_
  rw [ih,List.take_add_one,List.getElem?_eq_getElem h,List.sum_append,List.getD_eq_getElem?_getD,List.getElem?_eq_getElem h]
  simp
theorem x5 (K:PySem.W.Frag) (hc:X.calm=true) (h:X.K=K:=by rfl):CallR X (.builtin "sum") (rSum K):=by
 subst h
 intro pins s σ H xs us Q I r h
 unfold rSum at h
 split at h
 ·next p=>
  obtain ⟨ns,hq,q⟩:=h
  obtain ⟨u,rfl,ru⟩:=r.one
  cases ru
  obtain ⟨its,rv,pl,hz⟩:=I.list hq
  have hl:=rv.length
  rw [List.length_map] at hl
  have hlt:p < s.heap.objs.size:=by obtain ⟨_,e,_⟩:=pl.isList;exact Heap.lt_size e
  refine call_sum_walkAnyS (wpAny_pyIter_list pl.isList ?_)
  refine ⟨s.heap.objs.size,[s.heap.objs.size,p],[s.heap.objs.size],_,its.toArray.size,_,_,fun i=>ns.getD i 0,rfl,(Walks.list (A:=X.A.in1) (I.ok.hd hc) _ p (Nat.ne_of_lt hlt) _).toS,
   ⟨⟨_,Heap.get?_push_size _ rfl,rfl,rfl⟩,pl.isList.push _⟩,fun b hb=>?_,fun i v hP=>?_,fun s' t' mv=>?_⟩
  ·simp only [List.mem_cons,List.mem_nil_iff,or_false] at hb
   show b < (s.heap.push _).objs.size
   rw [Heap.size_push]
   rcases hb with rfl | rfl
   ·exact Nat.lt_succ_self _
   ·exact Nat.lt_succ_of_lt hlt
  ·have hP':its[i]? =some v:=by simpa using hP
   have hi:i < its.length:=(List.getElem?_eq_some_iff.mp hP').1
   obtain ⟨u,h1,h2⟩:=rv.get (i:=i) (x:=.int (ns.getD i 0)) (by rw [List.getElem?_map,List.getElem?_eq_getElem (by omega),List.getD_eq_getElem?_getD,List.getElem?_eq_getElem (by omega)];rfl)
   rw [hP'] at h1
   cases h1
   exact h2
  ·have e:PySem.preSum (fun i=>ns.getD i 0) its.toArray.size=ns.sum:=by
    rw [List.size_toArray,← hl,mJ ns ns.length (Nat.le_refl _),List.take_length]
   rw [e]
   obtain ⟨hp',g',d',tk',os'⟩:=s'
   obtain ⟨m1,m2,m3,m4,m5⟩:=mv
   simp only at m1 m2 m3 m4 m5
   subst m2 m3 m4
   refine ⟨.int ns.sum,H,I.kept (t':=tk') fun b o e=>m1 b o (fun hm=>?_) (Heap.get?_push_of_some _ e),⟨_,rfl⟩,q⟩
   rw [List.mem_singleton.mp hm] at e
   exact Nat.lt_irrefl _ (Heap.lt_size e)
 ·exact h.elim
end
theorem Paired.at {α β:Type} {R:α→β→Prop} {xs:List α} {ys:List β} (h:Paired R xs ys):∀ i (h1:i < xs.length) (h2:i < ys.length),R xs[i] ys[i]:=by
 induction h with
 | nil=>intro i h1;exact absurd h1 (by simp)
 | cons a _ ih=>
  intro i h1 h2
  cases i with
  | zero=>exact a
  | succ i=>exact ih i (by simpa using h1) (by simpa using h2)
section
variable {prog:Program} {w:World} {A:Around} {R:Result→Shared→Prop} {s:Shared}
end
section
variable {X:Cx} {t1 i1 t2 i2 elt:Expr} {ifs:List Expr} {tc:TC} {sc:Scope} {pos:Pos} {own:List Str} {idx:List Nat} {N':List Str} {wi wi2:TI} {g g2:TG} {te:TE}
end
section
variable {X:Cx} {tg e:Expr} {te:TE}
end
section
variable {P:Program} {w:World} {A:Around} {E:Value→Shared→Prop} {s:Shared} {it d:Addr} {i n ep:Nat} {od:Obj} {es:Array DictEntry} {Q:Option Value→Shared→Prop}
end
section
variable {X:Cx} {tg:Expr} {apos cpos:Pos} {o:Expr} {to:TE}
end
section
variable {P:Program} {w:World} {A:Around} {E:Value→Shared→Prop} {s:Shared}
end
section
variable {X:Cx} {tg a:Expr} {ta:TA} {p p2 pos pos2:Pos}
end
section
variable {X:Cx}
end
section
variable {H:Hp} {a:Addr} {xs:List V} {rows:List Rw2} {ns ws:List Str}
end
section
variable {X:Cx} {pos:Pos}
theorem a30 {i:Nat} {x:Str} {e:Expr} {te:TE} {op:Operator} {ti:TIp} {pos':Pos} (hN:X.N.Nodup) (hi:X.N[i]? =some x) (hx:Loc X.env.scope x) (he:SE X e te) (ho:PIp X op ti) (hf:X.fn x=true∨X.env.scope.names.lookup x=some .local:=by first | exact .inl rfl | exact .inr rfl | assumption):
  SS X (.AugAssign (.Name x pos') op e pos) (tAug i te ti):=⟨a24 hN hi hx he.h ho hf⟩
theorem a2s (K:PySem.W.Frag) {o:Expr} {T:String} {name:Str} {id:String} {r:V→List V→Hp→VK→Prop} {to:TE} {apos cpos:Pos} (pa:PlainAttrs T) (slot:Slot T name id) (hty:typeOf (.builtin id)=pure (.type "method_descriptor")) (hm:MtM X id r) (ho:SE X o to) (h:X.K=K:=by rfl)
  (hbase:attributeBase o name X.env (eval o X.env)=eval o X.env:=by rfl) (hline:(apos.endLine==cpos.line)=true:=by rfl):SE X (.Call (.Attribute o name apos) [] [] cpos) (tBM0 K T r to):=by
 subst h;exact ⟨a20 pa slot hty hm ho.h hbase hline⟩
def tTru (K:PySem.W.Frag) (ta:TE):TT:=fun σ H Q=>ta σ H fun x H'=>∃ k,TruV K x H' k∧Q k H'
theorem a0n (K:PySem.W.Frag) {a:Expr} {ta:TE} (ha:SE X a ta) (h:X.K=K:=by rfl) (he:∀ whole,isTrue a X.env whole=(do let v ← whole;standAt a.pos;holding [v] (truthy v)):=by intro _;rfl):ST X a (tTru K ta):=by
 subst h;exact ⟨yR ha.h he⟩
end
open AutoSeq1 (wpAny_loadPart')
theorem j9 (l:Addr) (dat:Data) (dd:Option Addr) (sl:Array (Option Value)) (b:Str) (u:Tok):
  Meets (Builtin.«dict.__eq__» ⟨[.ref l,.str b u],[]⟩) (fun _ R s=>s.heap.get? l=some {cls:=.type "dict",dict:=dd,data:=dat,slots:=sl}∧R (.ok (.ret .notImplemented)) s):=
 .of_wp fun prog w A R s h=>by obtain ⟨hp,g,d,tk,os⟩:=s;obtain ⟨hl,h⟩:=h;have f1:=F.sub_str_dict;wp_walk using wpAny_loadPart' hl,wpAny_load hl;exact ⟨_,rfl,h⟩
theorem iL (l b:Addr) (dat:Data) (items2:Array Value) (n2:Nat) (dd dd2:Option Addr) (sl sl2:Array (Option Value)):
  Meets (Builtin.«dict.__eq__» ⟨[.ref l,.ref b],[]⟩) (fun _ R s=>s.heap.get? l=some {cls:=.type "dict",dict:=dd,data:=dat,slots:=sl}∧s.heap.get? b=some {cls:=.type "tuple",dict:=dd2,data:=.seq items2 n2,slots:=sl2}∧R (.ok (.ret .notImplemented)) s):=
 .of_wp fun prog w A R s h=>by obtain ⟨hp,g,d,tk,os⟩:=s;obtain ⟨hl,hb,h⟩:=h;have f1:=F.sub_tuple_dict;wp_walk using wpAny_loadPart' hl,wpAny_load hl,wpAny_loadPart' hb,wpAny_load hb;exact ⟨_,rfl,h⟩
theorem iO (l b:Addr) (dat:Data) (items2:Array Value) (n2:Nat) (dd dd2:Option Addr) (sl sl2:Array (Option Value)):
  Meets (Builtin.«tuple.__eq__» ⟨[.ref b,.ref l],[]⟩) (fun _ R s=>s.heap.get? l=some {cls:=.type "dict",dict:=dd,data:=dat,slots:=sl}∧s.heap.get? b=some {cls:=.type "tuple",dict:=dd2,data:=.seq items2 n2,slots:=sl2}∧R (.ok (.ret .notImplemented)) s):=
 .of_wp fun prog w A R s h=>by obtain ⟨hp,g,d,tk,os⟩:=s;obtain ⟨hl,hb,h⟩:=h;have f1:=F.sub_dict_tuple;wp_walk using wpAny_loadPart' hl,wpAny_load hl,wpAny_loadPart' hb,wpAny_load hb;exact ⟨_,rfl,h⟩
theorem jF (l:Addr) (es:Array DictEntry) (ep:Nat) (dd:Option Addr) (sl:Array (Option Value)) (b:Str) (u:Tok):
  Meets (Builtin.«str.__eq__» ⟨[.str b u,.ref l],[]⟩) (fun _ R s=>s.heap.get? l=some {cls:=.type "dict",dict:=dd,data:=.dict es ep,slots:=sl}∧R (.ok (.ret .notImplemented)) s):=
 .of_wp fun prog w A R s h=>by obtain ⟨hp,g,d,tk,os⟩:=s;obtain ⟨hl,h⟩:=h;wp_walk using wpAny_loadPart' hl,wpAny_load hl;exact ⟨_,rfl,h⟩
section
variable {A:Around} {s:Shared}
theorem tL {l:Addr} {o:Obj} {es:Array DictEntry} {ep:Nat} (b:Str) (u:Tok) (ho:s.heap.get? l=some o) (hc:o.cls=.type "dict") (hd:o.data=.dict es ep) (hu:A.units < cLine):SeqAt.RcAt A s (.ref l) (.str b u) false:=fun prog w E Q h=>by
 obtain ⟨cls,dd,data,sl⟩:=o
 simp only at hc hd
 subst hc hd
 exact SeqAt.rc_eq_decline_or (k:=false) ⟨_,ho,rfl⟩ (typeIs_str s b u) (by decide) F.sub_str_dict F.slot_dict_eq F.slot_str_eq_refl
  (fun _ hq=>call_meets F.slot_dict_eq ⟨_,ho,rfl⟩ F.entry_dict_eq (F.args_dict_eq_2 _ _) (j9 l (.dict es ep) dd sl b u) ⟨ho,hq⟩)
  (fun _ hq=>call_meets F.slot_str_eq_refl (typeIs_str s b u) F.entry_str_eq (F.args_str_eq_2 _ _) (jF l es ep dd sl b u) ⟨ho,hq⟩)
  (fun _ hq=>wpAny_of_eq (rfl:isSame (.ref l) (.str b u)=pure false) hq) (.inr hu) h
theorem tS {l:Addr} {o:Obj} {es:Array DictEntry} {ep:Nat} (b:Str) (u:Tok) (ho:s.heap.get? l=some o) (hc:o.cls=.type "dict") (hd:o.data=.dict es ep) (hu:A.units < cLine):SeqAt.EqAt A s (.ref l) (.str b u) false:=fun prog w E Q h=>by
 unfold eqBool
 refine wpAny_holding ?_
 refine wpAny_ite_split (fun hab=>absurd (eq_of_beq hab) nofun) (fun _=>?_)
 exact wpAny_bind (tL b u ho hc hd hu prog w E _ (wpAny_truthy_bool h))
theorem oY {l b:Addr} {o:Obj} {items2:Array Value} (ho:s.heap.get? l=some o) (hc:o.cls=.type "dict") (hb:s.heap.IsTuple b items2) (hu:A.units < cLine):l≠b∧SeqAt.RcAt A s (.ref l) (.ref b) false:=by
 obtain ⟨cls,dd,data,sl⟩:=o
 obtain ⟨⟨cls2,dd2,data2,sl2⟩,ho2,hc2,n2,hd2⟩:=id hb
 simp only at hc hc2 hd2
 subst hc hc2 hd2
 have hne:l≠b:=fun e=>by
  subst e
  rw [ho] at ho2
  have:=congrArg Obj.cls (Option.some.inj ho2)
  simp at this
 refine ⟨hne,fun prog w E Q h=>?_⟩
 exact (SeqAt.rc_eq_decline_or (k:=false) ⟨_,ho,rfl⟩ ⟨_,ho2,rfl⟩ (by decide) F.sub_tuple_dict F.slot_dict_eq F.slot_tuple_eq_refl
  (fun _ hq=>call_meets F.slot_dict_eq ⟨_,ho,rfl⟩ F.entry_dict_eq (F.args_dict_eq_2 _ _) (iL l b data items2 n2 dd dd2 sl sl2) ⟨ho,ho2,hq⟩)
  (fun _ hq=>call_meets F.slot_tuple_eq_refl ⟨_,ho2,rfl⟩ F.entry_tuple_eq (F.args_tuple_eq_2 _ _) (iO l b data items2 n2 dd dd2 sl sl2) ⟨ho,ho2,hq⟩)
  (fun _ hq=>wpAny_isSame_ref_other hne ho ho2 (by simp) hq) (.inr hu) h)
end
def Dt.isS (z:Str):Dt→Bool
 | .str y=>y==z
 | _=>false
section
variable {X:Cx} {pins:List (Addr×Obj)} {σ:St} {H:Hp} {s:Shared}
theorem DD.eqS (I:Inv X pins σ H s) {x:V} {d:Dt} (h:DD H x d) {A:Around} (hu:A.units < cLine) {v:Value} (r:RelV x v) (z:Str) (t:Tok):SeqAt.EqAt A s v (.str z t) (d.isS z):=by
 cases h with
 | @str y h=>obtain ⟨t',rfl⟩:=(show ∃ t,v=Value.str y t from r);exact SeqAt.EqAt.str_str y t' z t
 | @tup a xs ds e hl hn hd=>
  cases (show v=Value.ref a from r)
  obtain ⟨i1,r1,p1,_⟩:=I.tuple (SqT.of e)
  exact SeqAt.EqAt.tuple_str z t p1 hu
 | non=>cases (show v=Value.none from r);exact SeqAt.EqAt.none_str z t
 | bl b=>cases (show v=Value.bool b from r);exact SeqAt.EqAt.bool_str b z t
 | int i=>obtain ⟨t',rfl⟩:=(show ∃ t,v=Value.int i t from r);exact SeqAt.EqAt.int_str i t' z t
 | @lst a xs e=>
  cases (show v=Value.ref a from r)
  obtain ⟨_,its,n,rv,ho⟩:=(show ObjOk X.prog X.w H s.heap a (.lst xs) from I.hok a _ e)
  exact SeqAt.EqAt.list_str z t ⟨_,ho,rfl,_,rfl⟩ hu
 | @dct a kvs e=>
  cases (show v=Value.ref a from r)
  obtain ⟨_,hd,vs,rel,o,es,ep,ho,hx,hdat,hk,hp⟩:=pM I.hok e
  exact tS z t ho hx.1 hdat hu
end
section
variable {H H':Hp} {a:Addr} {xs:List V} {rows:List Rw2} {ns ws:List Str}
end
end L2
set_option maxRecDepth 100000
namespace L2
open PySem PySem.Spec PyProof.Rows
open AutoSeq1 (wpAny_loadPart')
section
variable {A:Around} {s:Shared} {l b:Addr} {o:Obj} {es:Array DictEntry} {ep:Nat} {items2:Array Value}
end
mutual
def Dt.oc:Dt→Nat
 | .str _=>0
 | .oth=>1
 | .tup ds=>ocs ds
def ocs:List Dt→Nat
 | []=>0
 | d::r=>d.oc+ocs r
end
mutual
def Dt.dep:Dt→Nat
 | .str _=>0
 | .oth=>0
 | .tup ds=>deps ds+1
def deps:List Dt→Nat
 | []=>0
 | d::r=>max d.dep (deps r)
end
theorem lC:∀ {ds:List Dt} {d:Dt},d∈ds→d.dep≤deps ds
 | e::r,d,h=>by
  rcases List.mem_cons.mp h with rfl | h
  ·simp only [deps];omega
  ·have:=lC h;simp only [deps];omega
open Classical in
section
variable {X:Cx} {pins:List (Addr×Obj)} {σ:St} {H:Hp} {s:Shared}
theorem DD.tup_elt {x:V} {ds:List Dt} (h:DD H x (.tup ds)):∃ a xs,x=.ref a∧H a=some (.tup xs)∧xs.length=ds.length∧∀ i (h:i < xs.length) (h':i < ds.length),DD H xs[i] ds[i]:=by
 cases h with
 | tup e hl hn hd=>exact ⟨_,_,rfl,e,hl,hd⟩
end
end L2
set_option maxRecDepth 100000
namespace L2
open PySem PySem.Spec PyProof.Rows
mutual
def Dt.cn:Dt→Nat
 | .str _=>1
 | .oth=>1
 | .tup ds=>cns ds+1
def cns:List Dt→Nat
 | []=>0
 | d::r=>d.cn+cns r
end
structure DX (P:Addr→Prop) (H:Hp) (m:Bool) (v:V) (d:Dt) (k c:Nat):Prop where
 ex:∃ p,DA P H m v p d∧p.depth≤k∧p.shown.length+2≤220*c∧p.showable=true∧d.cn≤c∧d.dep≤k
section
variable {P:Addr→Prop} {H H':Hp} {m:Bool} {v:V} {d:Dt} {k k' c c':Nat} {a:Addr}
theorem DX.dep (h:DX P H m v d k c):d.dep≤k:=let ⟨p,_,_,_,_,_,h⟩:=h.ex;h
end
structure PX (H:Hp) (v:V) (d:Dt) (k c:Nat):Prop where
 ex:∃ p,TX H v d∧TDen H v p∧p.depth≤k∧p.shown.length+2≤220*c∧p.showable=true∧d.cn≤c∧d.dep≤k∧d.oc=0
section
variable {H H':Hp} {v:V} {d:Dt} {k k' c c':Nat} {a:Addr}
theorem PX.dep (h:PX H v d k c):d.dep≤k:=let ⟨_,_,_,_,_,_,_,h,_⟩:=h.ex;h
inductive PXs (H:Hp) (k:Nat):List V→List Dt→Nat→Prop
 | nil:PXs H k [] [] 0
 | cons {v:V} {d:Dt} {c:Nat} {vs:List V} {ds:List Dt} {cs:Nat}:PX H v d k c→PXs H k vs ds cs→PXs H k (v::vs) (d::ds) (c+cs)
theorem PXs.len {vs:List V} {ds:List Dt} {cs:Nat} (h:PXs H k vs ds cs):vs.length=ds.length:=by
 induction h with
 | nil=>rfl
 | cons _ _ ih=>simp [ih]
end
theorem lW {tc:TT} {t u:TS} {D:Ends} {σ:St} {H:Hp} (M:Bool→Hp→Prop) (h1:∀ Q:Bool→Hp→Prop,(∀ c H',M c H'→Q c H')→tc σ H Q) (h2:∀ H',M true H'→t D σ H') (h3:∀ H',M false H'→u D σ H'):tIfS tc t u D σ H:=h1 _ fun c H' m=>iteB (fun e=>h2 H' (e▸m)) (fun e=>h3 H' (e▸m))
end L2
set_option maxRecDepth 100000
namespace L2
open PySem PySem.Spec PyProof.Rows
section
variable {P:Program} {w:World} {A:Around}
def SrcAt (tp:Bool) (l:Addr) (vs:Array Value) (h:Heap):Prop:=if tp then IsTup h l vs else h.IsList l vs
def CurAt (tp:Bool) (c l:Addr) (k:Nat) (h:Heap):Prop:=if tp then IsTupIter h c l k else h.IsListIter c l k
theorem SrcAt.ext {tp:Bool} {l b:Addr} {vs:Array Value} {h h':Heap} (x:SrcAt tp l vs h) (e:Heap.ExtBut b h h') (n:l≠b):SrcAt tp l vs h':=by
 cases tp
 ·exact Heap.IsList.extBut x e n
 ·exact IsTup.extBut x e n
theorem CurAt.ext {tp:Bool} {c l b:Addr} {k:Nat} {h h':Heap} (x:CurAt tp c l k h) (e:Heap.ExtBut b h h') (n:c≠b):CurAt tp c l k h':=by
 cases tp
 ·exact Heap.IsListIter.extBut x e n
 ·obtain ⟨o,ho,r⟩:=x;exact ⟨o,e _ _ n ho,r⟩
theorem CurAt.at_ {tp:Bool} {c l:Addr} {k:Nat} {h h':Heap} (x:CurAt tp c l k h) (q:∀ o,h.get? c=some o→h'.get? c=some o):CurAt tp c l k h':=by
 cases tp
 ·obtain ⟨o,ho,r⟩:=x;exact ⟨o,q o ho,r⟩
 ·obtain ⟨o,ho,r⟩:=x;exact ⟨o,q o ho,r⟩
theorem CurAt.obj {tp:Bool} {c l:Addr} {k:Nat} {h:Heap} (x:CurAt tp c l k h):∃ o,h.get? c=some o∧∀ v,o.data≠.cell v:=by
 cases tp
 ·obtain ⟨o,ho,_,d⟩:=x;exact ⟨o,ho,fun v z=>by rw [d] at z;cases z⟩
 ·obtain ⟨o,ho,_,d⟩:=x;exact ⟨o,ho,fun v z=>by rw [d] at z;cases z⟩
theorem SrcAt.lt {tp:Bool} {l:Addr} {vs:Array Value} {h:Heap} (x:SrcAt tp l vs h):l < h.objs.size:=by
 cases tp<;>(obtain ⟨o,ho,_⟩:=x;exact Heap.lt_size ho)
theorem a1A {c t:Addr} {i:Nat} {vs:Array Value} {x:Value} {Q:Value→Shared→Prop} {E:Value→Shared→Prop} {s:Shared} (hc:IsTupIter s.heap c t i) (ht:IsTup s.heap t vs) (hx:vs[i]? =some x)
  (q:∀ g,IsTupIter g c t (i+1)→Heap.SameBut c s.heap g→Q x {s with heap:=g}):wpAny (model P w) A (Builtin.SmallTypes.nextOf (.ref c)) Q E s:=by
 obtain ⟨ob,e1,e2,e3⟩:=id hc
 obtain ⟨ot,f1,_,m,f3⟩:=ht
 unfold Builtin.SmallTypes.nextOf
 refine wpAny_bind (wpAny_callSpecial?_slot (name:=Str.ofString "__next__") hc.typeIs slot_tupleiter_next (wpAny_call_entry slot_tupleiter_next hc.typeIs entry_tupleiter_next ?_ (args_tupleiter_next _)))
 show wpAny _ _ (field (.ref c) 0 >>=_) _ _ s
 refine wpAny_bind (wpAny_field e1 e3 (x:=.ref t) rfl ?_)
 show wpAny _ _ (if (Value.ref t==Value.none)=true then _ else _) _ _ s
 rw [if_neg (by exact Bool.false_ne_true)]
 show wpAny _ _ (field (.ref c) 1 >>=_) _ _ s
 refine wpAny_bind (wpAny_field e1 e3 (x:=.int i 0) rfl ?_)
 show wpAny _ _ (seqItems? (.ref t) >>=_) _ _ s
 refine wpAny_bind (wpAny_seqItems f1 f3 ?_)
 simp only [Int.toNat_natCast,hx]
 refine wpAny_bind (wpAny_setField e1 e3 (by simp) (wpAny_pure ⟨x,rfl,wpAny_pure (q _ ⟨_,Heap.get?_update_self _ e1 (Obj.isFreed_of_fields (Obj.data_mapFields e3 _)),(Obj.cls_mapFields ..).trans e2,?_⟩ (Heap.SameBut.update ..))⟩))
 rw [Obj.data_mapFields e3];simp [rawInt]
theorem a0x {c t:Addr} {i:Nat} {vs:Array Value} {Q:Value→Shared→Prop} {E:Value→Shared→Prop} {s:Shared} (hh:A.handled=none) (hc:IsTupIter s.heap c t i) (ht:IsTup s.heap t vs) (hx:vs[i]? =none)
  (q:∀ g e,Heap.ExtBut c s.heap g→(∃ o,g.get? e=some o∧o.cls=.type "StopIteration")→E (.ref e) {s with heap:=g}):wpAny (model P w) A (Builtin.SmallTypes.nextOf (.ref c)) Q E s:=by
 obtain ⟨ob,e1,e2,e3⟩:=id hc
 obtain ⟨ot,f1,_,m,f3⟩:=ht
 unfold Builtin.SmallTypes.nextOf
 refine wpAny_bind (wpAny_callSpecial?_slot (name:=Str.ofString "__next__") hc.typeIs slot_tupleiter_next (wpAny_call_entry slot_tupleiter_next hc.typeIs entry_tupleiter_next ?_ (args_tupleiter_next _)))
 show wpAny _ _ (field (.ref c) 0 >>=_) _ _ s
 refine wpAny_bind (wpAny_field e1 e3 (x:=.ref t) rfl ?_)
 show wpAny _ _ (if (Value.ref t==Value.none)=true then _ else _) _ _ s
 rw [if_neg (by exact Bool.false_ne_true)]
 show wpAny _ _ (field (.ref c) 1 >>=_) _ _ s
 refine wpAny_bind (wpAny_field e1 e3 (x:=.int i 0) rfl ?_)
 show wpAny _ _ (seqItems? (.ref t) >>=_) _ _ s
 refine wpAny_bind (wpAny_seqItems f1 f3 ?_)
 simp only [Int.toNat_natCast,hx]
 refine wpAny_bind (wpAny_rule (wpAny_bind (wpAny_setField e1 e3 (by simp) ?_)))
 show wpAny _ _ (newExc (.type "StopIteration") [] >>=_) _ _ _
 refine wpAny_bind ?_
 simp only [newExc,newTuple]
 refine wpAny_bind (wpAny_newObj_type ?_ (by size_fits))
 refine wpAny_bind (m:=firstArgMember _ _) (wpAny_of_eq (a:=.none) (by first | rfl | (simp only [firstArgMember];rfl)) ?_)
 refine wpAny_newObj_type ?_ (by size_fits)
 simp only [raiseNew]
 refine wpAny_bind (wpAny_handled ?_)
 first | rw [show A.in1.handled=none by exact hh] | rw [hh]
 exact wpAny_bind (wpAny_pure (wpAny_throw (q _ _ (((Heap.SameBut.update ..).extBut.push _).push _) ⟨_,Heap.get?_push_size _ rfl,rfl⟩)))
theorem yF {tp:Bool} {c l:Addr} {i:Nat} {vs:Array Value} {x:Value} {Q:Value→Shared→Prop} {E:Value→Shared→Prop} {s:Shared} (hc:CurAt tp c l i s.heap) (hs:SrcAt tp l vs s.heap) (hx:vs[i]? =some x)
  (q:∀ g,CurAt tp c l (i+1) g→Heap.SameBut c s.heap g→Q x {s with heap:=g}):wpAny (model P w) A (Builtin.SmallTypes.nextOf (.ref c)) Q E s:=by
 cases tp
 ·exact wpAny_nextOf_list_item hc hs hx q
 ·exact a1A hc hs hx q
theorem zV {tp:Bool} {c l:Addr} {i:Nat} {vs:Array Value} {Q:Value→Shared→Prop} {E:Value→Shared→Prop} {s:Shared} (hh:A.handled=none) (hc:CurAt tp c l i s.heap) (hs:SrcAt tp l vs s.heap) (hx:vs[i]? =none)
  (q:∀ g e,Heap.ExtBut c s.heap g→(∃ o,g.get? e=some o∧o.cls=.type "StopIteration")→E (.ref e) {s with heap:=g}):wpAny (model P w) A (Builtin.SmallTypes.nextOf (.ref c)) Q E s:=by
 cases tp
 ·exact wpAny_nextOf_list_end hh hc hs hx q
 ·exact a0x hh hc hs hx q
variable {E:Value→Shared→Prop} {s:Shared} {t1 t2:Bool} {z TI TO c1 c2 l1 l2:Addr} {k1 k2:Nat} {xs ys:Array Value} {x y a b:Value}
theorem a0u {Q:Option Value→Shared→Prop} (D:ZipApart z TI TO c1 c2 l1 l2) (hz:IsZip s.heap z TI TO .none) (hI:IsPair s.heap TI (.ref c1) (.ref c2)) (hO:IsPair s.heap TO a b)
  (h1:CurAt t1 c1 l1 k1 s.heap) (h2:CurAt t2 c2 l2 k2 s.heap) (s1:SrcAt t1 l1 xs s.heap) (s2:SrcAt t2 l2 ys s.heap) (hx:xs[k1]? =some x) (hy:ys[k2]? =some y)
  (q:∀ g,IsZip g z TI TO (rawInt s.heap.objs.size)→IsPair g TO x y→CurAt t1 c1 l1 (k1+1) g→CurAt t2 c2 l2 (k2+1) g→IsPair g s.heap.objs.size x y→
   (∀ d o,d≠z→d≠TO→d≠c1→d≠c2→s.heap.get? d=some o→g.get? d=some o)→Q (some (.ref s.heap.objs.size)) {s with heap:=g}):wpAny (model P w) A (pyNext (.ref z)) Q E s:=by
 have ty:s.TypeIs (.ref z) "zip":=⟨_,hz,rfl⟩
 unfold pyNext
 refine wpAny_bind (wpAny_attempt (wpAny_callSpecial?_slot (name:=Str.ofString "__next__") ty F.slot_zip_next (wpAny_call_entry F.slot_zip_next ty F.entry_zip_next ?_ (F.args_zip_next_1 _))))
 show wpAny _ _ (field (.ref z) 2 >>=_) _ _ _
 refine wpAny_bind (wpAny_field hz rfl (x:=.bool false) rfl ?_)
 show wpAny _ _ (field (.ref z) 3 >>=_) _ _ _
 refine wpAny_bind (wpAny_field hz rfl (x:=.ref TI) rfl ?_)
 refine wpAny_bind (wpAny_seqItems hI rfl ?_)
 show wpAny _ _ (Builtin.SmallTypes.ownedTupleIsFree (.ref z) >>=_) _ _ _
 refine wpAny_bind ?_
 unfold Builtin.SmallTypes.ownedTupleIsFree
 refine wpAny_bind (wpAny_field hz rfl (x:=.none) rfl (wpAny_pure ?_))
 simp only [if_true]
 refine wpAny_bind (wpAny_rule (wpAny_bind (wpAny_field hz rfl (x:=.ref TO) rfl ?_)))
 refine wpAny_bind (wpAny_setField_rec hz (by simp) fun g1 z1 e1=>?_)
 replace z1:IsZip g1 z TI TO .ellipsis:=z1
 refine wpAny_bind ?_
 simp only [List.zipIdx_cons,List.zipIdx_nil,List.forIn_cons,List.forIn_nil]
 refine wpAny_bind (wpAny_bind (wpAny_onRaise ?_))
 show wpAny _ _ (Builtin.SmallTypes.nextOf (.ref c1) >>=_) _ _ _
 refine wpAny_bind (yF (h1.ext e1.extBut D.i1z) (s1.ext e1.extBut D.l1z) hx fun g2 m2 e2=>wpAny_pure ?_)
 have O2:IsPair g2 TO a b:=e2.extBut _ _ D.TOi1 (e1.extBut _ _ D.TOz hO)
 refine wpAny_bind (wpAny_seqItems O2 rfl (wpAny_bind (wpAny_updateSeq_pair O2 fun g3 O3 e3=>?_)))
 replace O3:IsPair g3 TO x b:=O3
 refine wpAny_bind (wpAny_letGo (wpAny_pure ?_))
 refine wpAny_bind (wpAny_bind (wpAny_onRaise ?_))
 show wpAny _ _ (Builtin.SmallTypes.nextOf (.ref c2) >>=_) _ _ _
 refine wpAny_bind (yF (((h2.ext e1.extBut D.i2z).ext e2.extBut D.i12.symm).ext e3.extBut D.TOi2.symm) (((s2.ext e1.extBut D.l2z).ext e2.extBut D.l2i1).ext e3.extBut D.l2TO) hy fun g4 m4 e4=>wpAny_pure ?_)
 have O4:IsPair g4 TO x b:=e4.extBut _ _ D.TOi2 O3
 refine wpAny_bind (wpAny_seqItems O4 rfl (wpAny_bind (wpAny_updateSeq_pair O4 fun g5 O5 e5=>?_)))
 replace O5:IsPair g5 TO x y:=O5
 refine wpAny_bind (wpAny_letGo (wpAny_pure (wpAny_pure ?_)))
 refine wpAny_bind (wpAny_seqItems O5 rfl (wpAny_bind (wpAny_newTuple ?_)))
 have sz:g5.objs.size=s.heap.objs.size:=by rw [e5.1,e4.1,e3.1,e2.1,e1.1]
 have z5:IsZip g5 z TI TO .ellipsis:=e5.extBut _ _ D.TOz.symm (e4.extBut _ _ D.i2z.symm (e3.extBut _ _ D.TOz.symm (e2.extBut _ _ D.i1z.symm z1)))
 have k5:∀ d o,d≠z→d≠TO→d≠c1→d≠c2→s.heap.get? d=some o→g5.get? d=some o:=fun d o n1 n2 n3 n4 e=>e5.extBut _ _ n2 (e4.extBut _ _ n4 (e3.extBut _ _ n2 (e2.extBut _ _ n3 (e1.extBut _ _ n1 e))))
 have m15:CurAt t1 c1 l1 (k1+1) g5:=((m2.ext e3.extBut D.TOi1.symm).ext e4.extBut D.i12).ext e5.extBut D.TOi1.symm
 have m25:CurAt t2 c2 l2 (k2+1) g5:=m4.ext e5.extBut D.TOi2.symm
 have zl:z < g5.objs.size:=Heap.lt_size z5
 show wpAny _ _ (Builtin.SmallTypes.ownedTupleHandOut (.ref z) (.ref g5.objs.size) >>=_) _ _ _
 refine wpAny_bind ?_
 unfold Builtin.SmallTypes.ownedTupleHandOut
 have z6:IsZip (g5.push {cls:=.type "tuple",data:=.seq #[x,y]}) z TI TO .ellipsis:=Heap.get?_push_of_some _ z5
 refine wpAny_bind (wpAny_setField_rec z6 (by simp) fun g7 z7 e7=>?_)
 replace z7:IsZip g7 z TI TO (rawInt g5.objs.size):=z7
 refine wpAny_setField_rec z7 (by simp) fun g8 z8 e8=>?_
 replace z8:IsZip g8 z TI TO (rawInt g5.objs.size):=z8
 have up:∀ d o,d≠z→g5.get? d=some o→g8.get? d=some o:=fun d o n e=>e8.extBut _ _ n (e7.extBut _ _ n (Heap.get?_push_of_some _ e))
 have T8:IsPair g8 g5.objs.size x y:=e8.extBut _ _ (Nat.ne_of_gt zl) (e7.extBut _ _ (Nat.ne_of_gt zl) (Heap.get?_push_size _ rfl))
 rw [sz] at z8 T8
 refine wpAny_pure ⟨_,rfl,wpAny_pure ?_⟩
 show Q (some (.ref g5.objs.size)) _
 rw [sz]
 exact q g8 z8 (up _ _ D.TOz O5) (m15.at_ fun o e=>up _ o D.i1z e) (m25.at_ fun o e=>up _ o D.i2z e) T8 fun d o n1 n2 n3 n4 e=>up d o n1 (k5 d o n1 n2 n3 n4 e)
theorem a1q {Q:Option Value→Shared→Prop} (hh:A.handled=none) (D:ZipApart z TI TO c1 c2 l1 l2) (hz:IsZip s.heap z TI TO .none) (hI:IsPair s.heap TI (.ref c1) (.ref c2)) (hO:IsPair s.heap TO a b)
  (h1:CurAt t1 c1 l1 k1 s.heap) (h2:CurAt t2 c2 l2 k2 s.heap) (s1:SrcAt t1 l1 xs s.heap) (s2:SrcAt t2 l2 ys s.heap) (hend:xs[k1]? =none∨ys[k2]? =none)
  (q:∀ g,(∀ d o,d≠z→d≠TO→d≠c1→d≠c2→s.heap.get? d=some o→g.get? d=some o)→Q none {s with heap:=g}):wpAny (model P w) A (pyNext (.ref z)) Q E s:=by
 have ty:s.TypeIs (.ref z) "zip":=⟨_,hz,rfl⟩
 unfold pyNext
 refine wpAny_bind (wpAny_attempt (wpAny_callSpecial?_slot (name:=Str.ofString "__next__") ty F.slot_zip_next (wpAny_call_entry F.slot_zip_next ty F.entry_zip_next ?_ (F.args_zip_next_1 _))))
 have fin:∀ (g:Heap) (e:Addr),(∀ d o,d≠z→d≠TO→d≠c1→d≠c2→s.heap.get? d=some o→g.get? d=some o)→(∃ o,g.get? e=some o∧o.cls=.type "StopIteration")→wpAny (model P w) A (do if ← isInstance (.ref e) (.type "StopIteration") then pure none else throw (.ref e)) Q E {s with heap:=g}:=fun g e k ⟨o,ho,hc⟩=>
  wpAny_bind (wpAny_isInstance (T:="StopIteration") (b:=true) ⟨o,ho,hc⟩ isSubtype_stop (wpAny_pure (q g k)))
 show wpAny _ _ (field (.ref z) 2 >>=_) _ _ _
 refine wpAny_bind (wpAny_field hz rfl (x:=.bool false) rfl ?_)
 show wpAny _ _ (field (.ref z) 3 >>=_) _ _ _
 refine wpAny_bind (wpAny_field hz rfl (x:=.ref TI) rfl ?_)
 refine wpAny_bind (wpAny_seqItems hI rfl ?_)
 show wpAny _ _ (Builtin.SmallTypes.ownedTupleIsFree (.ref z) >>=_) _ _ _
 refine wpAny_bind ?_
 unfold Builtin.SmallTypes.ownedTupleIsFree
 refine wpAny_bind (wpAny_field hz rfl (x:=.none) rfl (wpAny_pure ?_))
 simp only [if_true]
 refine wpAny_bind (wpAny_rule (wpAny_bind (wpAny_field hz rfl (x:=.ref TO) rfl ?_)))
 refine wpAny_bind (wpAny_setField_rec hz (by simp) fun g1 z1 e1=>?_)
 replace z1:IsZip g1 z TI TO .ellipsis:=z1
 refine wpAny_bind ?_
 simp only [List.zipIdx_cons,List.zipIdx_nil,List.forIn_cons,List.forIn_nil]
 refine wpAny_bind (wpAny_bind (wpAny_onRaise ?_))
 show wpAny _ _ (Builtin.SmallTypes.nextOf (.ref c1) >>=_) _ _ _
 cases hx:xs[k1]? with
 | none=>
  refine wpAny_bind (zV hh (h1.ext e1.extBut D.i1z) (s1.ext e1.extBut D.l1z) hx ?_)
  rintro g2 e e2 ⟨oe,f1,f2⟩
  have z2:IsZip g2 z TI TO .ellipsis:=e2 _ _ D.i1z.symm z1
  have ez:e≠z:=fun r=>by subst r;rw [z2] at f1;cases f1;simp at f2
  exact wpAny_setField_rec z2 (by simp) fun g3 _ e3=>fin g3 e (fun d o n1 _ n3 _ r=>e3.extBut _ _ n1 (e2 _ _ n3 (e1.extBut _ _ n1 r))) ⟨oe,e3.extBut _ _ ez f1,f2⟩
 | some x=>
  have hy:ys[k2]? =none:=by rcases hend with h | h;rw [hx] at h;cases h;exact h
  refine wpAny_bind (yF (h1.ext e1.extBut D.i1z) (s1.ext e1.extBut D.l1z) hx fun g2 m2 e2=>wpAny_pure ?_)
  have O2:IsPair g2 TO a b:=e2.extBut _ _ D.TOi1 (e1.extBut _ _ D.TOz hO)
  refine wpAny_bind (wpAny_seqItems O2 rfl (wpAny_bind (wpAny_updateSeq_pair O2 fun g3 O3 e3=>?_)))
  refine wpAny_bind (wpAny_letGo (wpAny_pure ?_))
  refine wpAny_bind (wpAny_bind (wpAny_onRaise ?_))
  show wpAny _ _ (Builtin.SmallTypes.nextOf (.ref c2) >>=_) _ _ _
  refine wpAny_bind (zV hh (((h2.ext e1.extBut D.i2z).ext e2.extBut D.i12.symm).ext e3.extBut D.TOi2.symm) (((s2.ext e1.extBut D.l2z).ext e2.extBut D.l2i1).ext e3.extBut D.l2TO) hy ?_)
  rintro g4 e e4 ⟨oe,f1,f2⟩
  have z4:IsZip g4 z TI TO .ellipsis:=e4 _ _ D.i2z.symm (e3.extBut _ _ D.TOz.symm (e2.extBut _ _ D.i1z.symm z1))
  have ez:e≠z:=fun r=>by subst r;rw [z4] at f1;cases f1;simp at f2
  exact wpAny_setField_rec z4 (by simp) fun g5 _ e5=>fin g5 e (fun d o n1 n2 n3 n4 r=>e5.extBut _ _ n1 (e4 _ _ n4 (e3.extBut _ _ n2 (e2.extBut _ _ n3 (e1.extBut _ _ n1 r))))) ⟨oe,e5.extBut _ _ ez f1,f2⟩
abbrev zpC (tp:Bool) (l:Addr):Obj:={cls:=.type (if tp then "tuple_iterator" else "list_iterator"),data:=.fields #[.ref l,.int 0 0]}
theorem a1D {tp:Bool} {l:Addr} {vs:Array Value} {Q:Value→Shared→Prop} {s:Shared} (h:SrcAt tp l vs s.heap) (q:Q (.ref s.heap.objs.size) {s with heap:=s.heap.push (zpC tp l)}):wpAny (model P w) A (pyIter (.ref l)) Q E s:=by
 cases tp
 ·exact wpAny_pyIter_list h q
 ·exact iter_tuple h q
theorem SrcAt.push {tp:Bool} {l:Addr} {vs:Array Value} {h:Heap} (x:SrcAt tp l vs h) (o:Obj):SrcAt tp l vs (h.push o):=by
 cases tp
 ·exact Heap.IsList.push x o
 ·exact IsTup.push x o
end
section
variable {P:Program} {w:World} {A:Around} {E:Value→Shared→Prop}
abbrev zp2 (t1 t2:Bool) (h:Heap) (l1 l2:Addr):Heap:=(h.push (zpC t1 l1)).push (zpC t2 l2)
abbrev zp4 (t1 t2:Bool) (h:Heap) (l1 l2:Addr):Heap:=((zp2 t1 t2 h l1 l2).push {cls:=.type "tuple",data:=.seq #[.ref h.objs.size,.ref (h.objs.size+1)]}).push {cls:=.type "tuple",data:=.seq #[.none,.none]}
abbrev zp5 (t1 t2:Bool) (h:Heap) (l1 l2:Addr):Heap:=(zp4 t1 t2 h l1 l2).push {cls:=.type "zip",data:=.fields #[.none,.bool false,.bool false,.ref (h.objs.size+2),.ref (h.objs.size+3)]}
theorem a2U (t1 t2:Bool) (l1 l2:Addr) (xs ys:Array Value):Meets (Builtin.«zip.__new__» ⟨[.type "zip",.ref l1,.ref l2],[]⟩) (fun _ R s=>SrcAt t1 l1 xs s.heap∧SrcAt t2 l2 ys s.heap∧R (.ok (.ret (.ref (s.heap.objs.size+4)))) {s with heap:=zp5 t1 t2 s.heap l1 l2}):=
 .of_wp fun prog w A R s h=>by
  obtain ⟨hp,g,d,tk,os⟩:=s
  obtain ⟨a1,a2,h⟩:=h
  have su:=sub_zip
  have b1:SrcAt t1 l1 xs (Shared.heap ⟨hp,g,d,tk,os⟩):=a1
  have b2:SrcAt t2 l2 ys (Shared.heap ⟨hp.push (zpC t1 l1),g,d,tk,os⟩):=SrcAt.push a2 _
  wp_walk using a1D b1,a1D b2
  refine ⟨_,rfl,?_⟩
  simp only [Heap.size_push] at h ⊢
  exact h
theorem a0i {t1 t2:Bool} {l1 l2:Addr} {xs ys:Array Value} {s:Shared} {Q:Value→Shared→Prop} (a1:SrcAt t1 l1 xs s.heap) (a2:SrcAt t2 l2 ys s.heap)
  (q:∀ g,IsZip g (s.heap.objs.size+4) (s.heap.objs.size+2) (s.heap.objs.size+3) .none→IsPair g (s.heap.objs.size+2) (.ref s.heap.objs.size) (.ref (s.heap.objs.size+1))→IsPair g (s.heap.objs.size+3) .none .none→
   CurAt t1 s.heap.objs.size l1 0 g→CurAt t2 (s.heap.objs.size+1) l2 0 g→(∀ c o,s.heap.get? c=some o→g.get? c=some o)→Q (.ref (s.heap.objs.size+4)) {s with heap:=g}):wpAny (model P w) A (call (.type "zip") [.ref l1,.ref l2]) Q E s:=by
 refine callType_new F.called_zip (by decide) (F.typeCall_zip_2 _ _) (F.newCall_zip_2 _ _) (fun obj=>F.args_object_init_3 obj _ _) F.entry_zip_new (a2U t1 t2 l1 l2 xs ys) ⟨a1,a2,?_⟩
 have n1:(s.heap.push (zpC t1 l1)).objs.size=s.heap.objs.size+1:=Heap.size_push ..
 have n2:(zp2 t1 t2 s.heap l1 l2).objs.size=s.heap.objs.size+2:=by rw [Heap.size_push,n1]
 have n3:((zp2 t1 t2 s.heap l1 l2).push {cls:=.type "tuple",data:=.seq #[.ref s.heap.objs.size,.ref (s.heap.objs.size+1)]}).objs.size=s.heap.objs.size+3:=by rw [Heap.size_push,n2]
 have n4:(zp4 t1 t2 s.heap l1 l2).objs.size=s.heap.objs.size+4:=by rw [Heap.size_push,n3]
 have g5:(zp5 t1 t2 s.heap l1 l2).get? (s.heap.objs.size+4)=some {cls:=.type "zip",data:=.fields #[.none,.bool false,.bool false,.ref (s.heap.objs.size+2),.ref (s.heap.objs.size+3)]}:=by rw [← n4];exact Heap.get?_push_size _ rfl
 have g4:(zp5 t1 t2 s.heap l1 l2).get? (s.heap.objs.size+3)=some {cls:=.type "tuple",data:=.seq #[.none,.none]}:=Heap.get?_push_of_some _ (by rw [← n3];exact Heap.get?_push_size _ rfl)
 have g3:(zp5 t1 t2 s.heap l1 l2).get? (s.heap.objs.size+2)=some {cls:=.type "tuple",data:=.seq #[.ref s.heap.objs.size,.ref (s.heap.objs.size+1)]}:=Heap.get?_push_of_some _ (Heap.get?_push_of_some _ (by rw [← n2];exact Heap.get?_push_size _ rfl))
 have g2:(zp5 t1 t2 s.heap l1 l2).get? (s.heap.objs.size+1)=some (zpC t2 l2):=Heap.get?_push_of_some _ (Heap.get?_push_of_some _ (Heap.get?_push_of_some _ (by rw [← n1];exact Heap.get?_push_size _ rfl)))
 have g1:(zp5 t1 t2 s.heap l1 l2).get? s.heap.objs.size=some (zpC t1 l1):=Heap.get?_push_of_some _ (Heap.get?_push_of_some _ (Heap.get?_push_of_some _ (Heap.get?_push_of_some _ (Heap.get?_push_size _ rfl))))
 refine ⟨⟨_,g5,rfl⟩,q _ g5 g3 g4 ?_ ?_ fun c o x=>Heap.get?_push_of_some _ (Heap.get?_push_of_some _ (Heap.get?_push_of_some _ (Heap.get?_push_of_some _ (Heap.get?_push_of_some _ x))))⟩
 ·cases t1<;>exact ⟨_,g1,rfl,rfl⟩
 ·cases t2<;>exact ⟨_,g2,rfl,rfl⟩
end
def SqB (tp:Bool) (K:PySem.W.Frag) (H:Hp) (a:Addr) (xs:List V):Prop:=if tp then SqT K H a xs else SqL K H a xs
section
variable {X:Cx} {pins:List (Addr×Obj)} {σ:St} {H:Hp} {s:Shared}
theorem Inv.sqB {tp:Bool} {a:Addr} {xs:List V} (I:Inv X pins σ H s) (h:SqB tp X.K H a xs):∃ us:List Value,Vals xs us∧SrcAt tp a us.toArray s.heap:=by
 cases tp
 ·obtain ⟨us,rv,p,_⟩:=I.list h
  exact ⟨us,rv,p.isList⟩
 ·obtain ⟨us,rv,p,_⟩:=I.tuple h
  exact ⟨us,rv,p⟩
theorem Inv.sqB_inj {tp:Bool} {a:Addr} {xs ys:List V} (I:Inv X pins σ H s) (h:SqB tp X.K H a xs) (h':SqB tp X.K H a ys):xs=ys:=by
 cases tp
 ·exact I.list_inj h h'
 ·exact I.tuple_inj h h'
end
def Itzb (t1 t2 : Bool) (K : PySem.W.Frag) (a b : Addr) : It :=
  ⟨fun i H => ∃ xs ys x y, SqB t1 K H a xs ∧ SqB t2 K H b ys ∧ xs[i]? = some x ∧ ys[i]? = some y, fun i H x H' => ∃ v1 v2, (∀ xs, SqB t1 K H a xs → xs[i]? = some v1) ∧ (∀ ys, SqB t2 K H b ys → ys[i]? = some v2) ∧ pairY v1 v2 H x H',
   fun i H => ∃ xs ys, SqB t1 K H a xs ∧ SqB t2 K H b ys ∧ (xs.length ≤ i ∨ ys.length ≤ i)⟩
abbrev zbSt (t1 t2:Bool) (z TI TO c1 c2 a b:Addr) (i:Nat) (h:Heap):Prop:=IsZip h z TI TO .none∧IsPair h TI (.ref c1) (.ref c2)∧(∃ u v,IsPair h TO u v)∧CurAt t1 c1 a i h∧CurAt t2 c2 b i h
theorem a0I {P:Program} {w:World} {K:PySem.W.Frag} {elts:List Expr} {k:Nat} {pos:Pos} {t1 t2:Bool} (z TI TO c1 c2 a b:Addr) (D:ZipApart z TI TO c1 c2 a b):Turn P w K (.Tuple elts k pos) (Itzb t1 t2 K a b) [z,TI,TO,c1,c2] z (zbSt t1 t2 z TI TO c1 c2 a b) where
 mem:=by simp
 obj:=fun i h st c hc=>by
  obtain ⟨hz,hTI,⟨u,v,hTO⟩,h1,h2⟩:=st
  simp only [List.mem_cons,List.mem_nil_iff,or_false] at hc
  rcases hc with rfl | rfl | rfl | rfl | rfl
  ·exact ⟨_,hz,fun v z=>by have z':Data.fields _=Data.cell v:=z;cases z'⟩
  ·exact ⟨_,hTI,fun v z=>by have z':Data.seq _ _=Data.cell v:=z;cases z'⟩
  ·exact ⟨_,hTO,fun v z=>by have z':Data.seq _ _=Data.cell v:=z;cases z'⟩
  ·exact h1.obj
  ·exact h2.obj
 keep:=fun i h h' st k=>by
  obtain ⟨hz,hTI,⟨u,v,hTO⟩,h1,h2⟩:=st
  exact ⟨k z (by simp) _ hz,k TI (by simp) _ hTI,⟨u,v,k TO (by simp) _ hTO⟩,h1.at_ fun o x=>k c1 (by simp) o x,h2.at_ fun o x=>k c2 (by simp) o x⟩
 item:=by
  intro X hP hw hK hc i pins s σ H E I hf st hg
  subst hP hw hK
  obtain ⟨hz,hTI,⟨u0,v0,hTO⟩,h1,h2⟩:=st
  obtain ⟨xs,ys,x,y,hq1,hq2,hx,hy⟩:=hg
  obtain ⟨its,rv,p⟩:=I.sqB hq1
  obtain ⟨its2,rv2,p2⟩:=I.sqB hq2
  obtain ⟨u,hu,ru⟩:=rv.get hx
  obtain ⟨u2,hu2,ru2⟩:=rv2.get hy
  refine a0u D hz hTI hTO h1 h2 p p2 (x:=u) (y:=u2) (by simpa using hu) (by simpa using hu2) fun h' a1 a2 a3 a4 a5 hk=>?_
  have I1:Inv X pins σ (upd H s.heap.objs.size (.tup [x,y])) {s with heap:=h',toks:=s.toks}:=I.turnedT (t':=s.toks) hf (fun b o hb e=>hk b o (fun z=>hb (by simp [z])) (fun z=>hb (by simp [z])) (fun z=>hb (by simp [z])) (fun z=>hb (by simp [z])) e) (Nat.le_refl _) (vX ru ru2 a5)
  refine ⟨_,rfl,wpAny_letOwnedTupleGo_zip (s:={s with heap:=h'}) a1 fun h'' hz'' sb=>?_⟩
  have hlt:∀ b∈[z,TI,TO,c1,c2],b≠s.heap.objs.size:=fun c hc z'=>by
   simp only [List.mem_cons,List.mem_nil_iff,or_false] at hc
   obtain ⟨o1,e1,_⟩:=h1.obj
   obtain ⟨o2,e2,_⟩:=h2.obj
   rcases hc with rfl | rfl | rfl | rfl | rfl
   ·exact Nat.ne_of_lt (Heap.lt_size hz) z'
   ·exact Nat.ne_of_lt (Heap.lt_size hTI) z'
   ·exact Nat.ne_of_lt (Heap.lt_size hTO) z'
   ·exact Nat.ne_of_lt (Heap.lt_size e1) z'
   ·exact Nat.ne_of_lt (Heap.lt_size e2) z'
  have hf1:∀ b∈[z,TI,TO,c1,c2],FpOk X pins (upd H s.heap.objs.size (.tup [x,y])) b:=fun b hb=>by
   obtain ⟨f0,f⟩:=hf b hb
   exact ⟨by rw [aN (hlt b hb)];exact f0,f⟩
  obtain ⟨f0,f1,f2,f3,f4,f5⟩:=hf1 z (by simp)
  refine ⟨.ref s.heap.objs.size,_,I1.turned (t':=s.toks) (fun b o hb q=>(sb.2 b hb).trans q) f0 f1 f3 f4 f5,rfl,⟨x,y,fun ys hy=>by rw [I.sqB_inj hy hq1];exact hx,fun ys hy'=>by rw [I.sqB_inj hy' hq2];exact hy,_,rfl,I.hok.fresh (Nat.le_refl _),rfl⟩,?_,fun b hb=>(hf1 b hb).1⟩
  refine ⟨hz'',(sb.2 _ D.TIz).trans (hk _ _ D.TIz D.TITO D.TIi1 D.TIi2 hTI),⟨_,_,(sb.2 _ D.TOz).trans a2⟩,a3.at_ fun o q=>(sb.2 _ D.i1z).trans q,a4.at_ fun o q=>(sb.2 _ D.i2z).trans q⟩
 done:=by
  intro X hP hw hK hc i pins s σ H E I hf st hg
  subst hP hw hK
  obtain ⟨hz,hTI,⟨u0,v0,hTO⟩,h1,h2⟩:=st
  obtain ⟨xs,ys,hq1,hq2,hx⟩:=hg
  obtain ⟨its,rv,p⟩:=I.sqB hq1
  obtain ⟨its2,rv2,p2⟩:=I.sqB hq2
  have hl:=rv.length
  have hl2:=rv2.length
  refine a1q (I.ok.hd hc) D hz hTI hTO h1 h2 p p2 ?_ fun h' hk=>⟨rfl,I.turnedL (t':=s.toks) hf fun b o hb q=>hk b o (fun z=>hb (by simp [z])) (fun z=>hb (by simp [z])) (fun z=>hb (by simp [z])) (fun z=>hb (by simp [z])) q⟩
  rcases hx with hx | hx
  ·exact .inl (by simp;omega)
  ·exact .inr (by simp;omega)
 self:=fun _ _ _ _ _ st h=>wpAny_pyIter_zip st.1 h
section
variable {X:Cx} {elts:List Expr} {k:Nat} {tpos p pos:Pos} {a b:Expr} {ta:TA}
def iZb (t1 t2:Bool) (K:PySem.W.Frag) (ta:TA):TI:=fun σ H R=>ta σ H fun vs H1=>∃ l m xs ys,vs=[.ref l,.ref m]∧SqB t1 K H1 l xs∧SqB t2 K H1 m ys∧R (Itzb t1 t2 K l m) H1
theorem a1F (t1 t2:Bool) (K:PySem.W.Frag) (hg:Gl X "zip") (hm:X.mg "zip"=none) (ha:SA X [a,b] ta) (hK:X.K=K:=by rfl) (hs:starEach [a,b] X.env=[(false,eval a X.env),(false,eval b X.env)]:=by rfl) (hs2:starEach [b] X.env=[(false,eval b X.env)]:=by rfl):
  SI X (.Tuple elts k tpos) (.Call (.Name "zip" p) [a,b] [] pos) (iZb t1 t2 K ta):=by
 subst hK
 constructor
 intro pins s σ H R I h
 refine Call_ (jC I hg hm boot_zip (PyProof.Rows.callWith_type1 (thn (ha.h pos pins s σ H _ I h) fun us s1 ⟨vs,H1,I1,r1,q1⟩=>?_) (by rw [hs,hs2]) (by rw [hs2];rfl)))
 obtain ⟨l,m,xs,ys,e,hq1,hq2,q⟩:=q1
 subst e
 obtain ⟨u1,u2,rfl,r1',r2'⟩:=r1.two
 cases r1'
 cases r2'
 obtain ⟨its,rv,pl⟩:=I1.sqB hq1
 obtain ⟨its2,rv2,pl2⟩:=I1.sqB hq2
 refine a0i pl pl2 fun h' hz hTI hTO h1 h2 hk=>wpAny_pyIter_zip hz ?_
 have I2:Inv X pins σ H1 {s1 with heap:=h'}:=I1.kept (t':=s1.toks) hk
 refine ⟨s1.heap.objs.size+4,[s1.heap.objs.size+4,s1.heap.objs.size+2,s1.heap.objs.size+3,s1.heap.objs.size,s1.heap.objs.size+1],_,_,H1,rfl,I2,a0I _ _ _ _ _ l m ?_,⟨hz,hTI,⟨_,_,hTO⟩,h1,h2⟩,fun b hb=>?_,q⟩
 ·exact mM pl.lt pl2.lt
 ·simp only [List.mem_cons,List.mem_nil_iff,or_false] at hb
  rcases hb with rfl | rfl | rfl | rfl | rfl<;>exact I1.fpOk (by simp) (I1.hok.fresh (by simp))
end
theorem yY {t1 t2:Bool} {K:PySem.W.Frag} {a b:Addr} (xs ys:List V):ItP (Itzb t1 t2 K a b) (fun H=>SqB t1 K H a xs∧SqB t2 K H b ys) (min xs.length ys.length) (fun i=>xs.getD i .non) (fun i=>ys.getD i .non):=fun H ok=>
 ⟨fun i hi=>⟨⟨xs,ys,xs[i]'(by omega),ys[i]'(by omega),ok.1,ok.2,by simp,by simp⟩,fun x H' ⟨v1,v2,hv1,hv2,y⟩=>by
  have e1:xs.getD i V.non=v1:=by rw [List.getD_eq_getElem?_getD,hv1 xs ok.1];rfl
  have e2:ys.getD i V.non=v2:=by rw [List.getD_eq_getElem?_getD,hv2 ys ok.2];rfl
  show pairY (xs.getD i .non) (ys.getD i .non) H x H'
  rw [e1,e2];exact y⟩,⟨xs,ys,ok.1,ok.2,by omega⟩⟩
theorem a1B {X:Cx} {x:Str} {p pos:Pos} {k:Nat} {ps:List Str} {sp:Sp} (F:FnK X.prog X.w X.K X.mg X.base k x ps sp) (hr:Room k X.A) (hg:Gl X x:=by rfl) (hdb:(x==("__debug__":Str))=false:=by decide):SE X (.Call (.Name x p) [] [] pos) (tCall sp [] E0 tNil):=by
 obtain ⟨f,fd,G,mgf,kp,b,_⟩:=F
 exact ⟨zG G hr hg mgf kp b .nil pass0 hdb⟩
section
variable {X:Cx} {tg iter kx vx:Expr} {ifs:List Expr} {tc:TC} {sc:Scope} {pos:Pos} {own:List Str} {idx:List Nat} {N':List Str} {wi:TI} {g:TG} {tk tw:TE}
end
def hv (hs:List (Str×Nat)) (y:Str):Nat:=((hs.find? fun q=>decide (q.1=y)).map (·.2)).getD 0
section
variable {P:Program} {w:World} {H:Hp} {h h':Heap}
end
section
variable {X:Cx} {pins:List (Addr×Obj)} {σ:St} {H:Hp} {s:Shared} {h':Heap}
end
section
variable {X:Cx} {o:Expr} {to:TE} {p apos ipos cpos:Pos}
end
section
variable {X:Cx} {o e f:Expr} {td ty tx:TE} {apos cpos:Pos}
end
section
variable {X:Cx}
end
section
variable {A:Around} {s:Shared}
end
section
variable {X:Cx} {pins:List (Addr×Obj)} {σ:St} {H:Hp} {s:Shared}
end
end L2
set_option maxRecDepth 100000
namespace L2
open PySem PySem.Spec PyProof.Rows PySem.W
section
variable {prog:Program} {w:World} {A:Around} {E:Value→Shared→Prop} {s:Shared}
end
section
variable {X:Cx}
end
end L2
set_option maxRecDepth 100000
namespace L2
open PySem PySem.Spec PyProof.Rows PySem.W
section
variable {prog:Program} {w:World} {A:Around} {E:Value→Shared→Prop} {s:Shared}
end
section
variable {X:Cx} {o:Expr} {to:TE} {p apos ipos cpos:Pos}
end
end L2
set_option maxRecDepth 100000
namespace L2
open PySem PySem.Spec PyProof.Rows PySem.W
theorem tT:∀ {us:List Value} {ss:List Str},us.length=ss.length→(∀ i (h1:i < us.length) (h2:i < ss.length),∃ t,us[i]=Value.str ss[i] t)→StrsAre us ss
 | [],[],_,_=>.nil
 | u::us,z::ss,hl,h=>by
  obtain ⟨t,e⟩:=h 0 (by simp) (by simp)
  simp only [List.getElem_cons_zero] at e
  subst e
  exact .cons z t (tT (by simpa using hl) fun i h1 h2=>by
   have:=h (i+1) (by simpa using h1) (by simpa using h2)
   simpa using this)
section
variable {X:Cx}
def rSortedD:List V→Hp→VK→Prop:=fun xs H Q=>∃ (a:Addr) (kvs:List (Key×V)) (ks:List Str),xs=[.ref a]∧Rd H a (.dK kvs)∧kvs.map (·.1)=ks.map Sum.inr∧ks.length < 64∧
 ∀ l (ss':List Str),H l=none→ss'.Perm ks→Q (.ref l) (upd H l (.lst (ss'.map V.str)))
theorem rH (hc:X.calm=true):CallR X (.builtin "sorted") rSortedD:=by
 intro pins s σ H xs us Q I r h
 obtain ⟨a,kvs,ks,rfl,hr,hks,h64,q⟩:=h
 obtain ⟨u,rfl,ru⟩:=r.one
 cases ru
 obtain ⟨z,hdm,vs,rel,dd⟩:=kX I.hok hr
 obtain ⟨ob,es,ep,e,h2,hdat,h4⟩:=id dd
 have hlen:=rel.length
 have hkl:kvs.length=ks.length:=by have:=congrArg List.length hks;simpa using this
 refine Calls.call_function_entry kind_sorted plain_sorted entry_sorted (args_sorted1 _) ?_
 unfold Builtin.«sorted»
 refine wpAny_bind (m:=checkCount "sorted" 1 1 _) (wpAny_pure ?_)
 refine wpAny_bind (kdu_collect (A:=X.A.in1) (kdl_dict (knd:=mixKind X.prog X.w) (kvs:=vs) (ep:=ep) hdm) (I.ok.hd hc) ⟨ob,es,e,h2,hdat,h4⟩ (by omega) fun h' tk acc hk hI=>?_)
 obtain ⟨hsz',hP⟩:=hI
 have hal:acc.toList.length=ks.length:=by simp;omega
 have hS:StrsAre acc.toList ks:=by
  refine tT hal fun i h1 h2=>?_
  obtain ⟨k,x,e1,e2⟩:=hP i acc.toList[i] (by rw [← Array.getElem?_toList,List.getElem?_eq_getElem h1])
  obtain ⟨q',e3,e4,_⟩:=a0Z rel (i:=i) (p:=kvs[i]'(by omega)) (List.getElem?_eq_getElem (by omega))
  rw [e1] at e3
  cases e3
  have e5:(kvs.map (·.1))[i]'(by rw [List.length_map];omega)=(ks.map (Sum.inr:Str→Key))[i]'(by rw [List.length_map];omega):=by simp only [hks]
  rw [List.getElem_map,List.getElem_map] at e5
  have e6:k=Sum.inr ks[i]:=(show k=(kvs[i]'(by omega)).1 from e4).trans e5
  rcases bW e2 with ⟨j,t,rfl,e⟩ | ⟨y,t,rfl,e⟩
  ·cases e6
  ·cases e6;exact ⟨t,e⟩
 have hsz:sizeLine=16777216:=sizeLine_eq
 refine wpAny_bind (wpAny_newList ?_ (by omega))
 have hoL:(h'.push {cls:=.type "list",data:=.seq acc.toList.toArray}).get? h'.objs.size=some (seqObj "list" acc.toList.toArray 0):=Heap.get?_push_size _ rfl
 refine wpAny_bind (wpAny_holding (wpAny_call_entry slot_list_sort ⟨_,hoL,rfl⟩ entry_list_sort (list_sort_treeK strKind_oneLt hoL hS.keysOf (fun v₁ v₂ rest e=>keyKind_strs (by rw [← e];exact hS)) (by omega) fun st' a1 a2=>⟨_,rfl,?_⟩) (args_list_sort _)))
 refine wpAny_pure ⟨_,rfl,?_⟩
 obtain ⟨ss',b1,b2,b3⟩:=sorted_out_str hS a1 a2
 obtain ⟨ee,hL⟩:=sortedHeap_at (out:=(arrOf st').map (·.2)) hoL
 have I2:Inv X pins σ H {s with heap:=h',toks:=tk}:=I.kept (t':=tk) hk
 have hold:∀ b o,h'.get? b=some o→(sortedHeap (h'.push {cls:=.type "list",data:=.seq acc.toList.toArray}) h'.objs.size acc.toList ((arrOf st').map (·.2))).get? b=some o:=fun b o q'=>by
  rw [sortedHeap_old (Nat.ne_of_lt (Heap.lt_size q')) (Heap.lt_size (Heap.get?_push_of_some _ q'))]
  exact Heap.get?_push_of_some _ q'
 refine ⟨.ref h'.objs.size,_,I2.laid (t':=tk) (a:=h'.objs.size) (o:=.lst (ss'.map V.str)) hold (Nat.le_refl _) ?_,rfl,q _ ss' (I2.hok.fresh (Nat.le_refl _)) b2⟩
 refine ⟨?_,((arrOf st').map (·.2)).toList,ee,pL b1,?_⟩
 ·rw [List.length_map,b2.length_eq];omega
 ·rw [hL]
end
end L2
set_option maxRecDepth 100000
namespace L2
open PySem PySem.Spec PyProof.Rows PySem.W
section
variable {X:Cx}
def rDictD:List V→Hp→VK→Prop:=fun xs H Q=>∃ (a:Addr) (kvs:List (Key×V)),xs=[.ref a]∧Rd H a (.dK kvs)∧∀ l,H l=none→Q (.ref l) (upd H l (.dK kvs))
theorem kM (hc:X.calm=true):CallR X (.type "dict") rDictD:=by
 intro pins s σ H xs us Q I r h
 obtain ⟨a,kvs,rfl,hr,q⟩:=h
 obtain ⟨u,rfl,ru⟩:=r.one
 cases ru
 obtain ⟨z,hdm,vs,rel,dd⟩:=kX I.hok hr
 have hlen:=rel.length
 refine kt_call_dict (knd:=mixKind X.prog X.w) (more:=vs) hdm dd (by omega) ?_
 intro h' hd hs
 have hk:∀ b o,s.heap.get? b=some o→h'.get? b=some o:=fun b o e=>hs.extBut _ _ (Nat.ne_of_lt (Heap.lt_size e)) (Heap.get?_push_of_some _ e)
 exact ⟨.ref s.heap.objs.size,_,I.laid (t':=s.toks) (a:=s.heap.objs.size) (o:=.dK kvs) hk (Nat.le_refl _) ⟨z,beq_eq_false_iff_ne.mpr (Ne.symm (Nat.ne_of_lt I.big)),vs,rel,hd⟩,rfl,q _ (I.hok.fresh (Nat.le_refl _))⟩
end
end L2
set_option maxRecDepth 100000
namespace L2
open PySem PySem.Spec PyProof.Rows
def Dt.isE:Dt→Bool
 | .tup []=>true
 | _=>false
def Dt.is2 (z:Str):Dt→Bool
 | .tup [d,e]=>d.isS z&&e.isE
 | _=>false
section
variable {X:Cx} {pins:List (Addr×Obj)} {σ:St} {H:Hp} {s:Shared}
theorem DD.eqE (I:Inv X pins σ H s) {x:V} {d:Dt} (h:DD H x d) {A:Around} (hu:A.units+1 < cLine) {v:Value} (r:RelV x v) {b:Addr} (hb:SqT X.K H b []):SeqAt.EqAt A s v (.ref b) d.isE:=by
 obtain ⟨i2,r2,p2,_⟩:=I.tuple hb
 cases r2
 have hu':A.units < cLine:=by omega
 cases h with
 | @str y h=>obtain ⟨t',rfl⟩:=(show ∃ t,v=Value.str y t from r);exact SeqAt.EqAt.str_tuple y t' p2 hu'
 | @tup a xs ds e hl hn hd=>
  cases (show v=Value.ref a from r)
  obtain ⟨i1,r1,p1,_⟩:=I.tuple (SqT.of e)
  have hl1:=r1.length
  by_cases hab:a=b
  ·subst hab
   have e9:=I.tuple_inj (SqT.of e) hb
   subst e9
   have:ds=[]:=List.length_eq_zero_iff.mp hl.symm
   subst this
   exact SeqAt.EqAt.same _
  ·refine SeqAt.EqAt.of_refs hab ?_
   have:=SeqAt.RcAt.tuples (A:=A) (e:=fun _=>true) p1 p2 hu' fun j g1 g2=>absurd g2 (by simp)
   have ee:((List.range (min i1.toArray.size ([]:List Value).toArray.size)).all (fun _=>true)&&i1.toArray.size==([]:List Value).toArray.size)=(Dt.tup ds).isE:=by
    have hs:i1.toArray.size=ds.length:=by simp;omega
    rw [hs]
    cases ds with
    | nil=>rfl
    | cons d dr=>simp [Dt.isE]
   rw [← ee]
   exact this
 | non=>cases (show v=Value.none from r);exact SeqAt.EqAt.none_tuple p2 hu'
 | bl b'=>cases (show v=Value.bool b' from r);exact SeqAt.EqAt.bool_tuple b' p2 hu'
 | int i=>obtain ⟨t',rfl⟩:=(show ∃ t,v=Value.int i t from r);exact SeqAt.EqAt.int_tuple i t' p2 hu'
 | @lst a xs e=>
  cases (show v=Value.ref a from r)
  obtain ⟨_,its,n,rv,ho⟩:=(show ObjOk X.prog X.w H s.heap a (.lst xs) from I.hok a _ e)
  exact SeqAt.EqAt.list_tuple ⟨_,ho,rfl,_,rfl⟩ p2 hu'
 | @dct a kvs e=>
  cases (show v=Value.ref a from r)
  obtain ⟨_,hd,vs,rel,o,es,ep,ho,hx,hdat,hk,hp⟩:=pM I.hok e
  obtain ⟨h1,h2⟩:=oY (A:=A) ho hx.1 p2 hu'
  exact SeqAt.EqAt.of_refs h1 h2
theorem DD.rc2 (I:Inv X pins σ H s) {a:Addr} {xs:List V} {ds:List Dt} (e:H a=some (.tup xs)) (hl:xs.length=ds.length) (hd:∀ i (h:i < xs.length) (h':i < ds.length),DD H xs[i] ds[i]) {A:Around} (hu:A.units+4 < cLine) {b c:Addr} {z:Str} (hb:SqT X.K H b [.str z,.ref c]) (hc:SqT X.K H c []):SeqAt.RcAt A s (.ref a) (.ref b) ((Dt.tup ds).is2 z):=by
 obtain ⟨i2,r2,p2,_⟩:=I.tuple hb
 obtain ⟨u1,u2,rfl,ra,rb⟩:=Vals.two r2
 obtain ⟨t2,rfl⟩:=(show ∃ t,u1=Value.str z t from ra)
 cases rb
 obtain ⟨i1,r1,p1,_⟩:=I.tuple (SqT.of e)
 have hl1:=r1.length
 have hA1:A.in1.units+1 < cLine:=by rw [Around.in1_units];omega
 have:=SeqAt.RcAt.tuples (A:=A) (e:=fun j=>if j=0 then (ds.getD j .oth).isS z else (ds.getD j .oth).isE) p1 p2 (by omega) fun j g1 g2=>by
  have g1':j < xs.length:=by simp at g1;omega
  have g2':j < 2:=by simpa using g2
  obtain ⟨w1,f1,q1⟩:=r1.get (List.getElem?_eq_getElem g1')
  have e1:i1.toArray[j]=w1:=by
   simp at f1 g1
   rw [List.getElem?_eq_getElem (by omega)] at f1
   simpa using Option.some.inj f1
  have e2:ds.getD j .oth=ds[j]'(by omega):=by rw [List.getD_eq_getElem?_getD,List.getElem?_eq_getElem (by omega)];rfl
  rw [e1]
  simp only [e2]
  rcases (show j=0∨j=1 by omega) with rfl | rfl
  ·exact DD.eqS I (hd 0 g1' (by omega)) (by omega) q1 z t2
  ·exact DD.eqE I (hd 1 g1' (by omega)) hA1 q1 hc
 have ee:((List.range (min i1.toArray.size ([Value.str z t2,Value.ref c]:List Value).toArray.size)).all (fun j=>if j=0 then (ds.getD j .oth).isS z else (ds.getD j .oth).isE)&&i1.toArray.size==([Value.str z t2,Value.ref c]:List Value).toArray.size)=(Dt.tup ds).is2 z:=by
  have hs:i1.toArray.size=ds.length:=by simp;omega
  rw [hs]
  match ds with
  | []=>rfl
  | [d0]=>simp [Dt.is2]
  | [d0,d1]=>
   have:(List.range (min [d0,d1].length ([Value.str z t2,Value.ref c]:List Value).toArray.size))=[0,1]:=by rfl
   rw [this]
   simp [Dt.is2]
  | d0::d1::d2::dr=>simp [Dt.is2]
 rw [← ee]
 exact this
def rEqP (K:PySem.W.Frag):R2:=fun x y H Q=>∃ (a b c:Addr) (z:Str) (xs:List V) (ds:List Dt),x=.ref a∧y=.ref b∧H a=some (.tup xs)∧xs.length=ds.length∧(∀ i (h:i < xs.length) (h':i < ds.length),DD H xs[i] ds[i])∧SqT K H b [.str z,.ref c]∧SqT K H c []∧Q (.bl ((Dt.tup ds).is2 z)) H
theorem a2Q (K:PySem.W.Frag) (hu:X.A.units+20 < cLine) (hK:X.K=K:=by rfl):OpR X (compareOp .Eq) (rEqP K):=by
 subst hK
 intro pins s σ H x y v u Q I rx ry h
 obtain ⟨a,b,c,z,xs,ds,rfl,rfl,ha,hl,hd,hb,hc,q⟩:=h
 cases rx
 cases ry
 exact DD.rc2 I ha hl hd (A:=X.A) (by omega) hb hc _ _ _ _ ⟨.bl ((Dt.tup ds).is2 z),H,I,rfl,q⟩
end
def Shr (z:Str):Prop:=z.length≤100000
def StrN (n:Nat) (ys:List V):Prop:=ys.length=n∧∀ y∈ys,∃ z:Str,y=.str z∧Shr z
theorem StrN.one {z:Str} (h:Shr z):StrN 1 [.str z]:=⟨rfl,fun y hy=>⟨z,List.mem_singleton.mp hy,h⟩⟩
theorem StrN.two {z z':Str} (h:Shr z) (h':Shr z'):StrN 2 [.str z,.str z']:=⟨rfl,fun y hy=>by
 rcases List.mem_cons.mp hy with rfl | hy
 ·exact ⟨z,rfl,h⟩
 ·exact ⟨z',List.mem_singleton.mp hy,h'⟩⟩
structure RowM (H:Hp) (n:Nat) (xs ms:List V):Prop where
 len:xs.length=ms.length
 few:xs.length≤1000
 at_:∀ i (h:i < xs.length) (h':i < ms.length),∃ c ys,xs[i]=.ref c∧H c=some (.tup (ys++[ms[i]]))∧StrN n ys
inductive Shp (H:Hp):V→List V→Prop
 | get {a:Addr} {z:Str}:H a=some (.tup [.str "get",.str z])→Shr z→Shp H (.ref a) []
 | fn {a:Addr} {v r:Str} {m:V}:H a=some (.tup [.str "fn",.str v,.str r,m])→Shr v→Shr r→Shp H (.ref a) [m]
 | call {a:Addr} {f x:V}:H a=some (.tup [.str "call",f,x])→Shp H (.ref a) [f,x]
 | box {a b:Addr} {xs ms:List V}:H a=some (.tup [.str "box",.ref b])→H b=some (.tup xs)→RowM H 1 xs ms→Shp H (.ref a) ms
 | part {a:Addr} {m:V} {z:Str}:H a=some (.tup [.str "part",m,.str z])→Shr z→Shp H (.ref a) [m]
 | pick {a:Addr} {z:Str} {m:V}:H a=some (.tup [.str "pick",.str z,m])→Shr z→Shp H (.ref a) [m]
 | split {a b:Addr} {m:V} {xs ms:List V}:H a=some (.tup [.str "split",m,.ref b])→H b=some (.tup xs)→RowM H 2 xs ms→Shp H (.ref a) (m::ms)
 | hold {a:Addr} {m:V} {z:Str}:H a=some (.tup [.str "hold",m,.str z])→Shr z→Shp H (.ref a) [m]
theorem RowM.tk {H H':Hp} {n:Nat} {xs ms:List V} (h:RowM H n xs ms) (s:Tk H H'):RowM H' n xs ms:=⟨h.len,h.few,fun i a b=>let ⟨c,ys,h1,h2,h3⟩:=h.at_ i a b;⟨c,ys,h1,s _ _ h2,h3⟩⟩
theorem Shp.tk {H H':Hp} (s:Tk H H') {v:V} {ks:List V} (h:Shp H v ks):Shp H' v ks:=by
 cases h with
 | get e h=>exact .get (s _ _ e) h
 | fn e h h2=>exact .fn (s _ _ e) h h2
 | call e=>exact .call (s _ _ e)
 | box e e' r=>exact .box (s _ _ e) (s _ _ e') (r.tk s)
 | part e h=>exact .part (s _ _ e) h
 | pick e h=>exact .pick (s _ _ e) h
 | split e e' r=>exact .split (s _ _ e) (s _ _ e') (r.tk s)
 | hold e h=>exact .hold (s _ _ e) h
inductive MkT (H:Hp):Nat→Nat→V→Prop
 | mk {n s:Nat} {v:V} {ks:List V} {ss:List Nat}:Shp H v ks→ks.length=ss.length→(∀ i (h:i < ks.length) (h':i < ss.length),MkT H n ss[i] ks[i])→s=1+ss.sum→MkT H (n+1) s v
theorem MkT.tk {H H':Hp} (t:Tk H H') {n s:Nat} {v:V} (h:MkT H n s v):MkT H' n s v:=by
 induction h with
 | mk a b _ e ih=>exact .mk (a.tk t) b ih e
theorem MkT.up {H:Hp} {n s:Nat} {v:V} (h:MkT H n s v):∀ {m},n≤m→MkT H m s v:=by
 induction h with
 | mk a b _ e ih=>
  intro m hm
  obtain ⟨k,rfl⟩:∃ k,m=k+1:=⟨m - 1,by omega⟩
  exact .mk a b (fun i h h'=>ih i h h' (by omega)) e
theorem jS {H:Hp} {v:V} {ks:List V} (h:Shp H v ks):ks.length≤1001:=by
 cases h with
 | box _ _ r=>have:=r.few;have:=r.len;omega
 | split _ _ r=>have:=r.few;have:=r.len;simp only [List.length_cons];omega
 | _=>simp
theorem len3 {α:Type} {l:List α} (h:l.length=3):∃ a b c,l=[a,b,c]:=by
 match l,h with
 | [a,b,c],_=>exact ⟨a,b,c,rfl⟩
def tupN (n:Nat):Dt→Bool | .tup ds=>decide (ds.length=n) | _=>false
def hd0:Dt→Dt | .tup (a::_)=>a | _=>.oth
def nd1:Dt→Dt | .tup (_::b::_)=>b | _=>.oth
def lastD:Dt→Dt | .tup ds=>ds.getLastD .oth | _=>.oth
def wrdD (n:Nat):Dt→Bool | .tup ps=>decide (ps.length≤8)&&(ps.all (tupN n)&&((ps.map hd0).all nameD&&rising ((ps.map hd0).map strD))) | _=>false
def rowM (ns:Str→Bool):Dt→Bool | .str z=>ns z | _=>false
def casD:Dt→Bool | .tup ps=>(ps.map nd1).all nameD | _=>false
def fitD (ns:Str→Bool) (what:Str) (d:Dt):Bool:=
 if what=="name" then nameD d else if what=="row" then nameD d&&rowM ns d else if what=="parts" then wrdD 2 d else if what=="cases" then wrdD 3 d&&casD d else true
def plcs (z:Str):Option (List Str):=
 if z=="get" then some ["name"] else if z=="fn" then some ["name","row","maker"] else if z=="call" then some ["maker","maker"] else if z=="box" then some ["parts"] else if z=="part" then some ["maker","name"]
 else if z=="pick" then some ["name","maker"] else if z=="split" then some ["maker","cases"] else if z=="hold" then some ["maker","row"] else none
def fits (ns:Str→Bool):List Str→List Dt→Bool
 | [],[]=>true
 | w::ws,d::ds=>fitD ns w d&&fits ns ws ds
 | _,_=>false
def mfD (ns:Str→Bool):Dt→Bool
 | .tup (.str z::r)=>(match plcs z with | some ws=>fits ns ws r | none=>false)
 | _=>false
def partsOf (w:Str) (d:Dt):List Dt:=if w=="maker" then [d] else if w=="parts"||w=="cases" then (match d with | .tup ps=>ps.map lastD | _=>[]) else []
def kidsOf:List Str→List Dt→List Dt
 | w::ws,d::ds=>partsOf w d++kidsOf ws ds
 | _,_=>[]
def kidM:Dt→List Dt
 | .tup (.str z::r)=>(match plcs z with | some ws=>kidsOf ws r | none=>[])
 | _=>[]
def mkids (ns:Str→Bool) (d:Dt):List Dt:=if mfD ns d then kidM d else []
theorem y3 (d:Dt):(lastD d).dep≤d.dep:=by
 cases d with
 | str _=>simp [lastD,Dt.dep]
 | oth=>simp [lastD,Dt.dep]
 | tup ds=>
  show (ds.getLastD .oth).dep≤deps ds+1
  cases h:ds.getLast? with
  | none=>rw [List.getLastD_eq_getLast?,h];simp [Dt.dep]
  | some x=>
   rw [List.getLastD_eq_getLast?,h]
   have:=lC (List.mem_of_getLast? h)
   show x.dep≤_
   omega
theorem sP {w:Str} {d x:Dt} (h:x∈partsOf w d):x.dep≤d.dep:=by
 unfold partsOf at h
 split at h
 ·rw [List.mem_singleton.mp h];exact Nat.le_refl _
 ·split at h
  ·split at h
   ·rename_i ps
    obtain ⟨q,hq,rfl⟩:=List.mem_map.mp h
    have h1:=lC hq
    have h2:=y3 q
    simp only [Dt.dep];omega
   ·cases h
  ·cases h
theorem oD:∀ {ws:List Str} {ds:List Dt} {x:Dt},x∈kidsOf ws ds→x.dep≤deps ds
 | [],_,_,h=>by simp [kidsOf] at h
 | _::_,[],_,h=>by simp [kidsOf] at h
 | w::ws,d::ds,x,h=>by
  rcases List.mem_append.mp h with h | h
  ·have:=sP h
   simp only [deps];omega
  ·have:=oD h
   simp only [deps];omega
theorem cN {ns:Str→Bool} {d x:Dt} (h:x∈mkids ns d):x.dep < d.dep:=by
 unfold mkids at h
 split at h
 ·unfold kidM at h
  split at h
  ·split at h
   ·have:=oD h
    simp only [Dt.dep,deps];omega
   ·cases h
  ·cases h
 ·cases h
def afF (ns:Str→Bool):Nat→Dt→Bool
 | 0,_=>true
 | n+1,d=>mfD ns d&&(mkids ns d).all (afF ns n)
def szF (ns:Str→Bool):Nat→Dt→Nat
 | 0,_=>1
 | n+1,d=>1+((mkids ns d).map (szF ns n)).sum
def dpF (ns:Str→Bool):Nat→Dt→Nat
 | 0,_=>1
 | n+1,d=>1+((mkids ns d).map (dpF ns n)).foldr max 0
section
variable (ns:Str→Bool)
theorem tY:∀ (n m:Nat) (d:Dt),d.dep < n→d.dep < m→afF ns n d=afF ns m d
 | 0,_,_,h,_=>absurd h (Nat.not_lt_zero _)
 | _,0,_,_,h=>absurd h (Nat.not_lt_zero _)
 | n+1,m+1,d,h1,h2=>by
  unfold afF
  congr 1
  rw [Bool.eq_iff_iff,List.all_eq_true,List.all_eq_true]
  constructor<;>(intro h x hx;have:=cN hx;have e:=tY n m x (by omega) (by omega);have:=h x hx;rw [e] at*;exact this)
theorem tZ:∀ (n m:Nat) (d:Dt),d.dep < n→d.dep < m→szF ns n d=szF ns m d
 | 0,_,_,h,_=>absurd h (Nat.not_lt_zero _)
 | _,0,_,_,h=>absurd h (Nat.not_lt_zero _)
 | n+1,m+1,d,h1,h2=>by
  unfold szF
  congr 2
  refine List.map_congr_left fun x hx=>?_
  have:=cN hx
  exact tZ n m x (by omega) (by omega)
theorem sC:∀ (n m:Nat) (d:Dt),d.dep < n→d.dep < m→dpF ns n d=dpF ns m d
 | 0,_,_,h,_=>absurd h (Nat.not_lt_zero _)
 | _,0,_,_,h=>absurd h (Nat.not_lt_zero _)
 | n+1,m+1,d,h1,h2=>by
  unfold dpF
  congr 2
  refine List.map_congr_left fun x hx=>?_
  have:=cN hx
  exact sC n m x (by omega) (by omega)
def afD (d:Dt):Bool:=afF ns (d.dep+1) d
def szD (d:Dt):Nat:=szF ns (d.dep+1) d
def dpD (d:Dt):Nat:=dpF ns (d.dep+1) d
theorem lT (d:Dt):afD ns d=(mfD ns d&&(mkids ns d).all (afD ns)):=by
 show (mfD ns d&&(mkids ns d).all (afF ns d.dep))=_
 congr 1
 rw [Bool.eq_iff_iff,List.all_eq_true,List.all_eq_true]
 constructor<;>(intro h x hx;have:=cN hx;have e:=tY ns d.dep (x.dep+1) x (by omega) (by omega);have:=h x hx;unfold afD at*;rw [e] at*;exact this)
theorem qQ (d:Dt):szD ns d=1+((mkids ns d).map (szD ns)).sum:=by
 show 1+((mkids ns d).map (szF ns d.dep)).sum=_
 congr 2
 refine List.map_congr_left fun x hx=>?_
 have:=cN hx
 exact tZ ns d.dep (x.dep+1) x (by omega) (by omega)
theorem oP (d:Dt):dpD ns d=1+((mkids ns d).map (dpD ns)).foldr max 0:=by
 show 1+((mkids ns d).map (dpF ns d.dep)).foldr max 0=_
 congr 2
 refine List.map_congr_left fun x hx=>?_
 have:=cN hx
 exact sC ns d.dep (x.dep+1) x (by omega) (by omega)
def mkrD (d:Dt):Bool:=afD ns d&&(decide (szD ns d≤60)&&decide (dpD ns d≤20))
def stkD (many:Nat) (st:List (Dt×Nat)):Bool:=st.all (fun p=>afD ns p.1)&&(decide (many+(st.map fun p=>szD ns p.1).sum≤60)&&st.all fun p=>decide (p.2+dpD ns p.1≤21))
theorem vB (d:Dt):stkD ns 0 [(d,1)]=mkrD ns d:=by
 unfold stkD mkrD
 simp only [List.all_cons,List.all_nil,Bool.and_true,List.map_cons,List.map_nil,List.sum_cons,List.sum_nil,Nat.zero_add,Nat.add_zero]
 congr 2
 rw [Bool.eq_iff_iff,decide_eq_true_iff,decide_eq_true_iff]
 omega
theorem wC (d:Dt):1≤szD ns d:=by rw [qQ];omega
theorem d5 {l:List Nat} {n:Nat}:l.foldr max 0≤n↔∀ x∈l,x≤n:=by
 induction l with
 | nil=>simp
 | cons a r ih=>simp only [List.foldr_cons,List.mem_cons,forall_eq_or_imp,← ih];omega
theorem wO (many:Nat) (st:List (Dt×Nat)) (d:Dt) (dp:Nat):stkD ns many (st++[(d,dp)])=(decide (many+1≤60)&&(decide (dp≤20)&&(mfD ns d&&stkD ns (many+1) (st++(mkids ns d).map fun x=>(x,dp+1))))):=by
 unfold stkD
 rw [Bool.eq_iff_iff]
 simp only [Bool.and_eq_true_iff,decide_eq_true_iff,List.all_append,List.all_cons,List.all_nil,Bool.and_true,List.map_append,List.sum_append,List.map_cons,List.map_nil,List.sum_cons,List.sum_nil,Nat.add_zero,List.all_map,List.map_map]
 have e1:=lT ns d
 have e2:=qQ ns d
 have e3:=oP ns d
 have e4:((mkids ns d).map ((fun p:Dt×Nat=>szD ns p.1)∘fun x=>(x,dp+1))).sum=((mkids ns d).map (szD ns)).sum:=rfl
 rw [e4]
 constructor
 ·rintro ⟨⟨h1,h2⟩,h3,h4,h5⟩
  rw [e1,Bool.and_eq_true_iff] at h2
  refine ⟨by have:=wC ns d;omega,by omega,h2.1,⟨h1,h2.2⟩,by omega,h4,?_⟩
  rw [List.all_eq_true]
  intro x hx
  show decide (dp+1+dpD ns x≤21)=true
  rw [decide_eq_true_iff]
  have:=d5.mp (show ((mkids ns d).map (dpD ns)).foldr max 0≤20 - dp by omega) _ (List.mem_map.mpr ⟨x,hx,rfl⟩)
  omega
 ·rintro ⟨h0,h1,h2,⟨h3,h4⟩,h5,h6,h7⟩
  refine ⟨⟨h3,by rw [e1,h2];exact h4⟩,by omega,h6,?_⟩
  rw [List.all_eq_true] at h7
  have:((mkids ns d).map (dpD ns)).foldr max 0≤20 - dp:=d5.mpr fun y hy=>by
   obtain ⟨x,hx,rfl⟩:=List.mem_map.mp hy
   have:=h7 x hx
   have:dp+1+dpD ns x≤21:=by simpa using this
   omega
  omega
end
section
variable {X:Cx} {x:Str} {e:Expr} {pos p:Pos} {te:TE} {kvs:List (Key×V)}
def tKNin (kvs:List (Key×V)) (te:TE):TE:=fun σ H Q=>te σ H fun y H1=>∃ k,y=kV k∧Q (.bl (!(valV kvs k).isSome)) H1
theorem a0z {w:World} {K:PySem.W.Frag} (hx:∃ a,X.mg x=some (.ref a)∧KD w K a kvs) (he:PE X e te) (hw:X.w=w) (hK:X.K=K) (hg:Gl X x) (hd:(x==("__debug__":Str))=false):PC X .NotIn e (.Name x p) (tKNin kvs te):=by
 subst hw hK
 obtain ⟨a,hm,kd⟩:=hx
 intro pins s σ H Q I h
 refine thn (he pins s σ H _ I h) ?_
 rintro iv s1 ⟨y,H1,I1,ry,k,ey,q1⟩
 subst ey
 refine thn (mZ (v:=.ref a) hg hm rfl hd pins s1 σ H1 (fun v H'=>v=.ref a∧H'=H1) I1 ⟨rfl,rfl⟩) fun u s2 ⟨z,H2,I2,rz,ez,eH⟩=>?_
 subst ez eH
 cases rz
 obtain ⟨h1,vs,rel,dd⟩:=kd.of I2
 refine wpAny_notIn_of (kA ry) h1 dd.mapOf ?_
 rw [← (rel.val k).isSome_eq]
 exact ⟨.bl _,_,I2.tok _,rfl,q1⟩
theorem a29 {w:World} {K:PySem.W.Frag} (hx:∃ a,X.mg x=some (.ref a)∧KD w K a kvs) (he:SE X e te) (hw:X.w=w:=by rfl) (hK:X.K=K:=by rfl) (hg:Gl X x:=by rfl) (hd:(x==("__debug__":Str))=false:=by decide):ST X (.Compare e [.NotIn] [.Name x p] pos) (tB (tKNin kvs te)):=⟨a1K (a0z hx he.h hw hK hg hd) rfl⟩
end
section
variable {P:Addr→Prop} {m:Bool} {σ:St} {H0:Hp} {te:TE} {ta:TA} {k c c2 o o2 n C:Nat}
theorem nG {i:Nat} {v:V} {σ:St} {H:Hp} {Q:VK} (e:σ[i]? =some (some v)) (q:Q v H):tV i σ H Q:=by
 unfold tV
 rw [e]
 exact q
end
end L2
set_option autoImplicit false
set_option maxRecDepth 100000
namespace L2
open PySem PySem.Spec PyProof.Rows
def OkD (H:Hp) (k:Nat) (x:V):Prop:=∃ d,DD H x d∧d.dep≤k
structure Ky (H H':Hp):Prop where
 tk:Tk H H'
 ls:∀ a xs,H a=some (.lst xs)→∃ ys,H' a=some (.lst ys)
 dk:∀ a kvs,H a=some (.dK kvs)→∃ kv,H' a=some (.dK kv)
section
variable {H H' H2:Hp} {σ:St} {H0:Hp} {te:TE} {ta:TA} {k k' n:Nat} {x:V}
theorem Ky.trans (a:Ky H H') (b:Ky H' H2):Ky H H2:=⟨a.tk.trans b.tk,fun p xs h=>let ⟨ys,h1⟩:=a.ls p xs h;b.ls p ys h1,fun p kv h=>let ⟨ys,h1⟩:=a.dk p kv h;b.dk p ys h1⟩
theorem Same.ky (s:Same H H'):Ky H H':=⟨s.ts,fun a xs h=>⟨xs,s _ _ h⟩,fun a kv h=>⟨kv,s _ _ h⟩⟩
theorem Ky.lset {L:Addr} {xs ys:List V} (e:H L=some (.lst xs)):Ky H (upd H L (.lst ys)):=by
 have key:∀ a u,H a=some u→a≠L→upd H L (.lst ys) a=some u:=fun a u h n=>by rw [aN n];exact h
 refine ⟨fun a us h=>key a _ h fun q=>?_,fun a us h=>?_,fun a kv h=>⟨kv,key a _ h fun q=>?_⟩⟩
 ·rw [q,e] at h;cases h
 ·by_cases q:a=L
  ·subst q;exact ⟨ys,aA⟩
  ·exact ⟨us,key a _ h q⟩
 ·rw [q,e] at h;cases h
theorem Ky.sm {p:Addr} {xs ys:List V} (s:Sm p p H H') (e:H p=some (.lst xs)) (e':H' p=some (.lst ys)):Ky H H':=by
 refine ⟨fun a us h=>s _ _ h (fun q=>?_) (fun q=>?_),fun a us h=>?_,fun a kv h=>⟨kv,s _ _ h (fun q=>?_) (fun q=>?_)⟩⟩
 ·rw [q,e] at h;cases h
 ·rw [q,e] at h;cases h
 ·by_cases q:a=p
  ·subst q;exact ⟨ys,e'⟩
  ·exact ⟨us,s _ _ h q q⟩
 ·rw [q,e] at h;cases h
 ·rw [q,e] at h;cases h
theorem DD.ky {v:V} {d:Dt} (h:DD H v d) (s:Ky H H'):DD H' v d:=by
 induction h with
 | str h=>exact .str h
 | tup e hl hn _ ih=>exact .tup (s.tk _ _ e) hl hn ih
 | non=>exact .non
 | bl b=>exact .bl b
 | int i=>exact .int i
 | lst e=>obtain ⟨ys,e'⟩:=s.ls _ _ e;exact .lst e'
 | dct e=>obtain ⟨ys,e'⟩:=s.dk _ _ e;exact .dct e'
theorem OkD.ky (h:OkD H k x) (s:Ky H H'):OkD H' k x:=let ⟨d,h1,h2⟩:=h;⟨d,h1.ky s,h2⟩
theorem OkD.same (h:OkD H k x) (s:Same H H'):OkD H' k x:=let ⟨d,h1,h2⟩:=h;⟨d,h1.same s,h2⟩
theorem OkD.up (h:OkD H k x) (l:k≤k'):OkD H k' x:=let ⟨d,h1,h2⟩:=h;⟨d,h1,by omega⟩
theorem wF:∀ {vs:List V},(∀ v∈vs,OkD H k v)→∃ ds:List Dt,vs.length=ds.length∧(∀ i (h:i < vs.length) (h':i < ds.length),DD H vs[i] ds[i])∧deps ds≤k
 | [],_=>⟨[],rfl,fun i h=>absurd h (by simp),Nat.zero_le _⟩
 | v::vs,h=>by
  obtain ⟨d,h1,h2⟩:=h v (List.mem_cons_self ..)
  obtain ⟨ds,g1,g2,g3⟩:=wF (vs:=vs) fun u hu=>h u (List.mem_cons_of_mem _ hu)
  refine ⟨d::ds,by simp [g1],fun i a b=>?_,by simp only [deps];omega⟩
  cases i with
  | zero=>exact h1
  | succ j=>exact g2 j (by simpa using a) (by simpa using b)
theorem bG {a:Addr} {vs:List V} (e:H a=some (.tup vs)) (hn:vs.length≤1000) (h:∀ v∈vs,OkD H k v):OkD H (k+1) (.ref a):=by
 obtain ⟨ds,g1,g2,g3⟩:=wF h
 exact ⟨.tup ds,.tup e g1 hn g2,by simp only [Dt.dep];omega⟩
theorem d8 {z:Str} (h:Shr z):OkD H k (.str z):=⟨.str z,.str h,by simp [Dt.dep]⟩
theorem a1Q {a:Addr} {vs:List V} (e:H a=some (.lst vs)):OkD H k (.ref a):=⟨.oth,.lst e,by simp [Dt.dep]⟩
theorem a1O {a:Addr} {kvs:List (Key×V)} (e:H a=some (.dK kvs)):OkD H k (.ref a):=⟨.oth,.dct e,by simp [Dt.dep]⟩
theorem OkD.mem {a:Addr} {vs:List V} {v:V} (h:OkD H k (.ref a)) (e:H a=some (.tup vs)) (hv:v∈vs):∃ k',k=k'+1∧OkD H k' v:=by
 obtain ⟨d,h1,h2⟩:=h
 cases h1 with
 | @tup _ xs ds e' hl hn hds=>
  rw [e] at e';cases e'
  obtain ⟨i,hi,rfl⟩:=List.getElem_of_mem hv
  have hid:i < ds.length:=by omega
  have:=lC (List.getElem_mem hid)
  simp only [Dt.dep] at h2
  exact ⟨k - 1,by omega,ds[i],hds i hi hid,by omega⟩
 | lst e'=>rw [e] at e';cases e'
 | dct e'=>rw [e] at e';cases e'
def GK (σ:St) (H0:Hp) (te:TE) (k:Nat):Prop:=∀ (H:Hp) (Q:VK),Same H0 H→(∀ v H',Same H H'→OkD H' k v→Q v H')→te σ H Q
def GKA (σ:St) (H0:Hp) (ta:TA) (k n:Nat):Prop:=∀ (H:Hp) (Q:List V→Hp→Prop),Same H0 H→(∀ vs H',Same H H'→vs.length=n→(∀ v∈vs,OkD H' k v)→Q vs H')→ta σ H Q
theorem a1t {i:Nat} {z:Str} (e:σ[i]? =some (some (.str z))) (h:Shr z):GK σ H0 (tV i) k:=fun H Q s q=>nG e (q _ H (Same.refl H) (d8 h))
theorem a1M {i:Nat} {v:V} (e:σ[i]? =some (some v)) (h:OkD H0 k' v) (hk:k'≤k):GK σ H0 (tV i) k:=fun H Q s q=>nG e (q _ H (Same.refl H) ((h.up hk).same s))
theorem zO {z:Str} (h:Shr z):GK σ H0 (tC (.str z)) k:=fun H Q s q=>q _ H (Same.refl H) (d8 h)
theorem yK:GK σ H0 (tC .non) k:=fun H Q s q=>q _ H (Same.refl H) ⟨.oth,.non,by simp [Dt.dep]⟩
theorem y6 {b:Bool}:GK σ H0 (tC (.bl b)) k:=fun H Q s q=>q _ H (Same.refl H) ⟨.oth,.bl b,by simp [Dt.dep]⟩
theorem yQ {i:Int}:GK σ H0 (tC (.int i)) k:=fun H Q s q=>q _ H (Same.refl H) ⟨.oth,.int i,by simp [Dt.dep]⟩
theorem uY (h:GKA σ H0 ta k n) (hn:n≤1000):GK σ H0 (tTup ta) (k+1):=fun H Q s q=>
 h H _ s fun vs H1 s1 hl hx=>⟨by have:sizeLine=16777216:=sizeLine_eq;omega,fun a ha=>q _ _ (s1.trans (Same.upd ha _)) (bG aA (by omega) fun v hv=>(hx v hv).same (Same.upd ha _))⟩
theorem uH (h:GKA σ H0 ta k n) (hn:n≤1000):GK σ H0 (tLst ta) k:=fun H Q s q=>
 h H _ s fun vs H1 s1 hl hx=>⟨by have:sizeLine=16777216:=sizeLine_eq;omega,fun a ha=>q _ _ (s1.trans (Same.upd ha _)) (a1Q aA)⟩
theorem zS:GK σ H0 tDNewK k:=fun H Q s q p hp=>q _ _ (Same.upd hp _) (a1O aA)
theorem rR:GKA σ H0 tNil k 0:=fun H Q s q=>q [] H (Same.refl H) rfl fun _ h=>nomatch h
theorem nE (h:GK σ H0 te k) (hr:GKA σ H0 ta k n):GKA σ H0 (tCons te ta) k (n+1):=fun H Q s q=>
 h H _ s fun v H1 s1 hx=>hr H1 _ (s.trans s1) fun vs H2 s2 hl hxs=>q (v::vs) H2 (s1.trans s2) (by simp [hl]) fun u hu=>by
  rcases List.mem_cons.mp hu with rfl | hu
  ·exact hx.same s2
  ·exact hxs u hu
theorem uK {u:TS} {D:Ends} {H:Hp} {i:Nat} (G:GKA σ H ta k n) (hn:n≤50) (q:∀ S ws H',Same H H'→H S=none→H' S=some (.lst ws)→ws.length=n→(∀ x∈ws,OkD H' k x)→u D (σ.set i (some (.ref S))) H'):tSeq (tAsg (tLst ta) (gName i)) u D σ H:=
 G H _ (Same.refl H) fun vs H1 s1 hl hv=>⟨by have:sizeLine=16777216:=sizeLine_eq;omega,fun S hS=>q S vs _ (s1.trans (Same.upd hS _)) (s1.free hS) aA hl fun x hx=>(hv x hx).same (Same.upd hS _)⟩
theorem kE {u:TS} {D:Ends} {H:Hp} {i:Nat} {S:Addr} {vs:List V} (e:σ[i]? =some (some (.ref S))) (g:H S=some (.lst vs)) (hvs:∀ x∈vs,OkD H k x) (hl:vs.length≤900) (G:GKA σ H ta k n) (hn:n≤50)
  (q:∀ S' ws H',Same H H'→H S'=none→H' S'=some (.lst ws)→ws.length=vs.length+n→(∀ x∈ws,OkD H' k x)→u D (σ.set i (some (.ref S'))) H'):tSeq (tAsg (tOp rAddD (tV i) (tLst ta)) (gName i)) u D σ H:=by
 have hsz:sizeLine=16777216:=sizeLine_eq
 refine aI (nG (Q:=fun x H1=>tLst ta σ H1 fun y H2=>rAddD x y H2 fun z H3=>u D (σ.set i (some z)) H3) e ?_)
 refine G H _ (Same.refl H) fun ws H1 s1 hl1 hw=>⟨by omega,fun L hL=>?_⟩
 have s2:=Same.upd hL (.lst ws)
 refine ⟨vs,ws,(s1.trans s2) _ _ g,aA,by omega,fun S' hS'=>?_⟩
 have s3:=Same.upd hS' (.lst (vs++ws))
 refine q S' (vs++ws) _ ((s1.trans s2).trans s3) (s1.free (s2.free hS')) aA (by simp;omega) fun x hx=>?_
 rcases List.mem_append.mp hx with h | h
 ·exact (hvs x h).same ((s1.trans s2).trans s3)
 ·exact (hw x h).same (s2.trans s3)
theorem yP {K:PySem.W.Frag} {u:TS} {D:Ends} {H:Hp} {i:Nat} {S:Addr} {vs:List V} (e:σ[i]? =some (some (.ref S))) (g:H S=some (.lst vs)) (hl:vs.length≤900) (G:GK σ H te k)
  (q:∀ v H1,Same H H1→OkD H1 k v→u D σ (upd H1 S (.lst (vs++[v])))):tSeq (tDrop (tBM K "list" rAppend (tV i) (tCons te tNil))) u D σ H:=by
 have hsz:sizeLine=16777216:=sizeLine_eq
 refine nG (Q:=fun x H1=>tyV K "list" x H1∧tCons te tNil σ H1 fun ys H2=>rAppend x ys H2 fun _ H3=>u D σ H3) e ?_
 exact ⟨.inl ⟨rfl,_,SqL.of g⟩,G H _ (Same.refl H) fun v H1 s1 hv=>⟨S,vs,v,rfl,rfl,s1 _ _ g,by omega,q v H1 s1 hv⟩⟩
theorem nV {K:PySem.W.Frag} {u:TS} {D:Ends} {Hs H:Hp} {i:Nat} {S:Addr} {vs:List V} (fS:Hs S=none) (ss:Same Hs H) (e:σ[i]? =some (some (.ref S))) (g:H S=some (.lst vs)) (hvs:∀ x∈vs,OkD H k x) (hl:vs.length≤900) (G:GK σ H te k)
  (q:∀ ws H',Same Hs H'→Ky H H'→H' S=some (.lst ws)→ws.length=vs.length+1→(∀ x∈ws,OkD H' k x)→u D σ H'):tSeq (tDrop (tBM K "list" rAppend (tV i) (tCons te tNil))) u D σ H:=
 yP e g hl G fun v H1 s1 o1=>by
  have ky:=Ky.lset (ys:=vs++[v]) (s1 _ _ g)
  refine q (vs++[v]) _ ((ss.trans s1).put fS) (s1.ky.trans ky) aA (by simp) fun x hx=>?_
  rcases List.mem_append.mp hx with h | h
  ·exact ((hvs x h).same s1).ky ky
  ·rw [List.mem_singleton.mp h];exact o1.ky ky
end
end L2
set_option autoImplicit false
set_option maxRecDepth 100000
namespace L2
open PySem PySem.Spec PyProof.Rows
section
variable (ns:Str→Bool) (d e:Dt)
theorem rT:mfD ns (.tup [.str "call",d,e])=true:=rfl
theorem qL:mfD ns (.tup [.str "pick",.str "a",d])=true:=by
 show (nameD (.str "a")&&(true&&true))=true
 decide+kernel
theorem qP:mfD ns (.tup [.str "part",d,.str "a"])=true:=by
 show (true&&(nameD (.str "a")&&true))=true
 decide+kernel
theorem uP:mfD ns (.tup [.str "get",.str "v"])=true:=by
 show (nameD (.str "v")&&true)=true
 decide+kernel
theorem a0L:mfD ns (.tup [.str "box",.tup [.tup [.str "a",d],.tup [.str "b",e]]])=true:=by
 have h1:isName "a"=true:=by decide+kernel
 have h2:isName "b"=true:=by decide+kernel
 have h3:rising ["a","b"]=true:=by decide+kernel
 show ((decide (2≤8)&&((true&&(true&&true))&&((isName "a"&&(isName "b"&&true))&&rising ["a","b"])))&&true)=true
 rw [h1,h2,h3]
 rfl
theorem vK {x:Dt} {l:List Dt} (h:mfD ns x=true) (hk:kidM x=l):mkids ns x=l:=by unfold mkids;rw [if_pos h,hk]
theorem nO {x:Dt} {l:List Dt} (h:mfD ns x=true) (hk:kidM x=l):szD ns x=1+(l.map (szD ns)).sum:=by rw [qQ,vK ns h hk]
theorem pK {x:Dt} {l:List Dt} (h:mfD ns x=true) (hk:kidM x=l):dpD ns x=1+(l.map (dpD ns)).foldr max 0:=by rw [oP,vK ns h hk]
theorem pI {x:Dt} {l:List Dt} (h:mfD ns x=true) (hk:kidM x=l):afD ns x=l.all (afD ns):=by rw [lT,vK ns h hk,h];rfl
theorem wH:szD ns (.tup [.str "call",d,e])=1+szD ns d+szD ns e:=by
 rw [nO ns (l:=[d,e]) (rT ns d e) rfl]
 simp only [List.map_cons,List.map_nil,List.sum_cons,List.sum_nil];omega
theorem a0v:szD ns (.tup [.str "box",.tup [.tup [.str "a",d],.tup [.str "b",e]]])=1+szD ns d+szD ns e:=by
 rw [nO ns (l:=[d,e]) (a0L ns d e) rfl]
 simp only [List.map_cons,List.map_nil,List.sum_cons,List.sum_nil];omega
theorem qX:szD ns (.tup [.str "pick",.str "a",d])=1+szD ns d∧dpD ns (.tup [.str "pick",.str "a",d])=1+dpD ns d∧afD ns (.tup [.str "pick",.str "a",d])=afD ns d:=by
 refine ⟨?_,?_,?_⟩
 ·rw [nO ns (l:=[d]) (qL ns d) rfl];simp
 ·rw [pK ns (l:=[d]) (qL ns d) rfl];simp
 ·rw [pI ns (l:=[d]) (qL ns d) rfl];simp
theorem qG:szD ns (.tup [.str "part",d,.str "a"])=1+szD ns d∧dpD ns (.tup [.str "part",d,.str "a"])=1+dpD ns d∧afD ns (.tup [.str "part",d,.str "a"])=afD ns d:=by
 refine ⟨?_,?_,?_⟩
 ·rw [nO ns (l:=[d]) (qP ns d) rfl];simp
 ·rw [pK ns (l:=[d]) (qP ns d) rfl];simp
 ·rw [pI ns (l:=[d]) (qP ns d) rfl];simp
theorem qH:mfD ns (.tup [.str "box",.tup []])=true:=rfl
structure Mz (x:Dt) (s p:Nat):Prop where
 sz:szD ns x=s
 dp:dpD ns x=p
 af:afD ns x=true
variable {ns d e}
theorem Mz.box0:Mz ns (.tup [.str "box",.tup []]) 1 1:=⟨by rw [nO ns (l:=[]) (qH ns) rfl];rfl,by rw [pK ns (l:=[]) (qH ns) rfl];rfl,by rw [pI ns (l:=[]) (qH ns) rfl];rfl⟩
theorem Mz.get:Mz ns (.tup [.str "get",.str "v"]) 1 1:=⟨by rw [nO ns (l:=[]) (uP ns) rfl];rfl,by rw [pK ns (l:=[]) (uP ns) rfl];rfl,by rw [pI ns (l:=[]) (uP ns) rfl];rfl⟩
theorem Mz.call {s p s' p':Nat} (h:Mz ns d s p) (h':Mz ns e s' p'):Mz ns (.tup [.str "call",d,e]) (1+s+s') (1+max p p'):=⟨by rw [wH,h.sz,h'.sz],by rw [pK ns (l:=[d,e]) (rT ns d e) rfl];simp [h.dp,h'.dp],by rw [pI ns (l:=[d,e]) (rT ns d e) rfl];simp [h.af,h'.af]⟩
theorem Mz.pick {s p:Nat} (h:Mz ns d s p):Mz ns (.tup [.str "pick",.str "a",d]) (1+s) (1+p):=⟨by rw [(qX ns d).1,h.sz],by rw [(qX ns d).2.1,h.dp],by rw [(qX ns d).2.2,h.af]⟩
theorem Mz.part {s p:Nat} (h:Mz ns d s p):Mz ns (.tup [.str "part",d,.str "a"]) (1+s) (1+p):=⟨by rw [(qG ns d).1,h.sz],by rw [(qG ns d).2.1,h.dp],by rw [(qG ns d).2.2,h.af]⟩
def row7 (d:Dt):List Dt:=[.tup [.str ⟨#[97]⟩,d],.tup [.str ⟨#[98]⟩,d],.tup [.str ⟨#[99]⟩,d],.tup [.str ⟨#[100]⟩,d],.tup [.str ⟨#[101]⟩,d],.tup [.str ⟨#[102]⟩,d],.tup [.str ⟨#[103]⟩,d]]
theorem rW:mfD ns (.tup [.str "box",.tup (row7 d)])=true:=by
 have h1:([⟨#[97]⟩,⟨#[98]⟩,⟨#[99]⟩,⟨#[100]⟩,⟨#[101]⟩,⟨#[102]⟩,⟨#[103]⟩]:List Str).all isName=true:=by decide+kernel
 have h2:rising [⟨#[97]⟩,⟨#[98]⟩,⟨#[99]⟩,⟨#[100]⟩,⟨#[101]⟩,⟨#[102]⟩,⟨#[103]⟩]=true:=by decide+kernel
 show ((true&&(true&&(([⟨#[97]⟩,⟨#[98]⟩,⟨#[99]⟩,⟨#[100]⟩,⟨#[101]⟩,⟨#[102]⟩,⟨#[103]⟩]:List Str).all isName&&rising [⟨#[97]⟩,⟨#[98]⟩,⟨#[99]⟩,⟨#[100]⟩,⟨#[101]⟩,⟨#[102]⟩,⟨#[103]⟩])))&&true)=true
 rw [h1,h2];rfl
theorem Mz.box7 {s p:Nat} (h:Mz ns d s p):Mz ns (.tup [.str "box",.tup (row7 d)]) (1+7*s) (1+p):=by
 refine ⟨?_,?_,?_⟩
 ·rw [nO ns (l:=[d,d,d,d,d,d,d]) rW rfl];simp [h.sz];omega
 ·rw [pK ns (l:=[d,d,d,d,d,d,d]) rW rfl];simp [h.dp]
 ·rw [pI ns (l:=[d,d,d,d,d,d,d]) rW rfl];simp [h.af]
theorem Mz.mkr {s p:Nat} (h:Mz ns d s p):mkrD ns d=(decide (s≤60)&&decide (p≤20)):=by unfold mkrD;rw [h.sz,h.dp,h.af];rfl
theorem zT:∀ (n:Nat) (d:Dt),d.dep < n→dpD ns d≤d.dep+1
 | 0,_,h=>absurd h (Nat.not_lt_zero _)
 | n+1,d,h=>by
  rw [oP]
  have:((mkids ns d).map (dpD ns)).foldr max 0≤d.dep:=d5.mpr fun x hx=>by
   obtain ⟨y,hy,rfl⟩:=List.mem_map.mp hx
   have h1:=cN hy
   have h2:=zT n y (by omega)
   omega
  omega
end
end L2
set_option autoImplicit false
set_option maxRecDepth 100000
namespace L2
open PySem PySem.Spec PySem.W PyProof.Rows
def notFreed:Data→Bool
 | .freed=>false
 | _=>true
def fragFrom:Nat→List Obj→Frag
 | _,[]=>[]
 | n,o::os=>if notFreed o.data then (n,o)::fragFrom (n+1) os else fragFrom (n+1) os
def fragAll (h:Heap):Frag:=fragFrom 0 h.objs.toList
theorem iQ:∀ {os:List Obj} {n a:Nat} {o:Obj},(fragFrom n os).lookup a=some o→n≤a∧os[a - n]? =some o∧notFreed o.data=true
 | [],n,a,o,h=>by simp [fragFrom] at h
 | x::os,n,a,o,h=>by
  unfold fragFrom at h
  have next:(fragFrom (n+1) os).lookup a=some o→n≤a∧(x::os)[a - n]? =some o∧notFreed o.data=true:=fun h=>by
   obtain ⟨h1,h2,h3⟩:=iQ h
   refine ⟨by omega,?_,h3⟩
   obtain ⟨k,hk⟩:∃ k,a - n=k+1:=⟨a - n - 1,by omega⟩
   rw [hk,List.getElem?_cons_succ,← h2]
   congr 1;omega
  split at h
  ·rename_i hf
   rw [List.lookup_cons] at h
   split at h
   ·rename_i e
    obtain rfl:a=n:=by simpa using e
    cases h
    exact ⟨Nat.le_refl _,by simp,hf⟩
   ·exact next h
  ·exact next h
theorem vJ (h:Heap):(fragAll h).In h:=fun a o e=>by
 obtain ⟨_,h2,h3⟩:=iQ e
 have h2':h.objs[a]? =some o:=by rw [← Array.getElem?_toList];simpa using h2
 unfold Heap.get?
 rw [h2']
 obtain ⟨c,d,dt,sl⟩:=o
 cases dt<;>first | rfl | cases h3
def seeHook {α:Type} (look:Frag→α) (want:World→α):Hook where
 α:=α
 obs s:=look (fragAll s.heap)
 val:=want
 says w h:=∃ K:Frag,K.In h∧look K=want w
 of:=fun w s e=>⟨fragAll s.heap,vJ _,e⟩
 keeps:=fun w h h' ⟨K,x,e⟩ k=>⟨K,fun a o l=>k a o (x a o l),e⟩
theorem yU {p q:Program} {loose:List Str} {Xt:Shared→Bool} {α:Type} {Yf:Shared→α} {Ya:World→α} {N:Nat} {g0:Bool} (row:String)
  (hF:∀ w:World,(openEnds treeTable p (w.withFollow row false) N).map (fun s=>(openSeen q loose (importedModules p.main.body) Xt g0 s,Yf s))=some (openGood q loose,Ya (w.withFollow row false)))
  (hT:∀ w:World,(openEnds treeTable p (w.withFollow row true) N).map (fun s=>(openSeen q loose (importedModules p.main.body) Xt g0 s,Yf s))=some (openGood q loose,Ya (w.withFollow row true))):LeftO p q loose Xt Yf Ya N g0:=fun w=>by
 have e:=World.withFollow_self w row
 cases hb:w.params.followText row<;>rw [hb] at e
 ·have:=hF w;rw [e] at this;exact this
 ·have:=hT w;rw [e] at this;exact this
abbrev FnL:=Str×Str×Arguments×FuncBody×Scope×Addr×List (Str×Addr)×Value×Addr×Bool
def fnAt (K:Frag) (q:Str):Option (Option Value)→Option FnL
 | some (some (.ref f))=>(match K.lookup f with
  | some ⟨_,_,.func fd,_⟩=>some (fd.name,fd.qualname,fd.params,fd.body,fd.scope,fd.globals,fd.closure,fd.defaults,fd.builtins,codeIn K fd.code q)
  | _=>none)
 | _=>none
def fnWant (x q:Str) (st:Stmt):FnL:=(x,q,defArgs st,.stmts (defBody st),defScope st,mainGlobals,[],.none,builtinsNs,true)
def fnsLook (K:Frag):List (Str×Stmt)→List (Option FnL)
 | []=>[]
 | x::l=>fnAt K x.1 (nsIn K mainGlobals x.1)::fnsLook K l
def fnsWant:List (Str×Stmt)→List (Option FnL)
 | []=>[]
 | x::l=>some (fnWant x.1 x.1 x.2)::fnsWant l
def valLook (K:Frag) (x:Str):Option V:=match nsIn K mainGlobals x with
 | some (some v)=>absV v
 | _=>none
def valsLook (K:Frag):List (Str×V)→List (Option V)
 | []=>[]
 | x::l=>valLook K x.1::valsLook K l
def valsWant:List (Str×V)→List (Option V)
 | []=>[]
 | x::l=>some x.2::valsWant l
abbrev TupL:=Value×Option Addr×List (Option V)
def absL:List Value→List (Option V)
 | []=>[]
 | v::l=>absV v::absL l
def someL:List V→List (Option V)
 | []=>[]
 | v::l=>some v::someL l
def tupAt (K:Frag):Value→Option TupL
 | .ref a=>(match K.lookup a with
  | some ⟨c,d,.seq it _,_⟩=>some (c,d,absL it.toList)
  | _=>none)
 | _=>none
def tupWant (xs:List V):TupL:=(.type "tuple",none,someL xs)
def tupLook (K:Frag) (x:Str):Option TupL:=match nsIn K mainGlobals x with
 | some (some v)=>tupAt K v
 | _=>none
def tupsLook (K:Frag):List (Str×List V)→List (Option TupL)
 | []=>[]
 | x::l=>tupLook K x.1::tupsLook K l
def tupsWant:List (Str×List V)→List (Option TupL)
 | []=>[]
 | x::l=>some (tupWant x.2)::tupsWant l
def noneLook (K:Frag):List Str→Bool
 | []=>true
 | x::l=>(match nsIn K mainGlobals x with | some none=>true | _=>false)&&noneLook K l
section
variable {K:Frag} {h:Heap} {mg:Str→Option Value}
theorem jK {v:Value} {x:V} (e:absV v=some x):RelV x v:=by
 cases v<;>first | (cases e;first | rfl | exact ⟨_,rfl⟩) | cases e
theorem qA:∀ {us:List Value} {xs:List V},absL us=someL xs→Vals xs us
 | [],[],_=>.nil
 | [],_::_,e=>by cases e
 | _::_,[],e=>by cases e
 | u::us,x::xs,e=>by
  have e':=List.cons.inj (show absV u::absL us=some x::someL xs from e)
  exact .cons (jK e'.1) (qA e'.2)
theorem a0q {q x:Str} {st:Stmt} {v:Option (Option Value)} (e:fnAt K q v=some (fnWant x q st)):∃ f fd,v=some (some (.ref f))∧Fun K x q st f fd:=by
 unfold fnAt at e
 split at e
 ·rename_i f
  split at e
  ·rename_i oc od fd osl hl
   have e:=Option.some.inj e
   unfold fnWant at e
   obtain ⟨n,qn,ps,b,sc,gl,cl,df,kd,doc,pm,an,cd,ct,bt⟩:=fd
   simp only [Prod.mk.injEq] at e
   obtain ⟨rfl,rfl,rfl,rfl,rfl,rfl,rfl,rfl,rfl,hc⟩:=e
   refine ⟨f,_,rfl,a1I hl hc ?_⟩
   unfold keepIn
   simp only [hl]
  ·cases e
 ·cases e
theorem w5:∀ {l:List (Str×Stmt)},fnsLook K l=fnsWant l→∀ (i:Nat) {x:Str} {st:Stmt},l[i]? =some (x,st)→fnAt K x (nsIn K mainGlobals x)=some (fnWant x x st)
 | y::l,e,0,x,st,h=>by cases h;exact (List.cons.inj e).1
 | y::l,e,i+1,x,st,h=>w5 (List.cons.inj e).2 i (by simpa using h)
theorem mG (X:K.In h) (G:h.Ns mainGlobals mg) {l:List (Str×Stmt)} (e:fnsLook K l=fnsWant l) (i:Nat) {x:Str} {st:Stmt} {ps:List Str} (hi:l[i]? =some (x,st))
  (hb:∀ (kV doc pm:Value) (an:Option Addr) (cdv ct:Value) (us:List Value),us.length=ps.length→bindArgs (fnOf x x (defArgs st) (defBody st) (defScope st) .none kV doc pm an cdv ct) ⟨us,[]⟩=pure (ps.zip us)):FnT K mg x st ps:=by
 obtain ⟨f,fd,e1,F⟩:=a0q (w5 e i hi)
 exact ⟨f,fd,F,mg_of X G e1,F.binds hb⟩
variable {x:Str} {st:Stmt} {l:List (Str×Stmt)} {p0 p1 p2 p3 p4 p5 p6:Str}
theorem fn0 (X:K.In h) (G:h.Ns mainGlobals mg) (e:fnsLook K l=fnsWant l) (i:Nat) (hi:l[i]? =some (x,st):=by rfl)
  (hb:∀ (kV doc pm:Value) (an:Option Addr) (cdv ct:Value),bindArgs (fnOf x x (defArgs st) (defBody st) (defScope st) .none kV doc pm an cdv ct) ⟨[],[]⟩=pure []:=by intros;rfl):FnT K mg x st []:=
 mG X G e i hi fun a b c d f g us hl=>by obtain rfl:=List.eq_nil_of_length_eq_zero hl;exact hb ..
theorem fn1 (X:K.In h) (G:h.Ns mainGlobals mg) (e:fnsLook K l=fnsWant l) (i:Nat) (hi:l[i]? =some (x,st):=by rfl)
  (hb:∀ (kV doc pm:Value) (an:Option Addr) (cdv ct a0:Value),bindArgs (fnOf x x (defArgs st) (defBody st) (defScope st) .none kV doc pm an cdv ct) ⟨[a0],[]⟩=pure [(p0,a0)]:=by intros;rfl):FnT K mg x st [p0]:=
 mG X G e i hi fun a b c d f g us hl=>by
  match us,hl with
  | [a0],_=>exact hb ..
theorem fn2 (X:K.In h) (G:h.Ns mainGlobals mg) (e:fnsLook K l=fnsWant l) (i:Nat) (hi:l[i]? =some (x,st):=by rfl)
  (hb:∀ (kV doc pm:Value) (an:Option Addr) (cdv ct a0 a1:Value),bindArgs (fnOf x x (defArgs st) (defBody st) (defScope st) .none kV doc pm an cdv ct) ⟨[a0,a1],[]⟩=pure [(p0,a0),(p1,a1)]:=by intros;rfl):FnT K mg x st [p0,p1]:=
 mG X G e i hi fun a b c d f g us hl=>by
  match us,hl with
  | [a0,a1],_=>exact hb ..
theorem fn3 (X:K.In h) (G:h.Ns mainGlobals mg) (e:fnsLook K l=fnsWant l) (i:Nat) (hi:l[i]? =some (x,st):=by rfl)
  (hb:∀ (kV doc pm:Value) (an:Option Addr) (cdv ct a0 a1 a2:Value),bindArgs (fnOf x x (defArgs st) (defBody st) (defScope st) .none kV doc pm an cdv ct) ⟨[a0,a1,a2],[]⟩=pure [(p0,a0),(p1,a1),(p2,a2)]:=by intros;rfl):FnT K mg x st [p0,p1,p2]:=
 mG X G e i hi fun a b c d f g us hl=>by
  match us,hl with
  | [a0,a1,a2],_=>exact hb ..
theorem fn4 (X:K.In h) (G:h.Ns mainGlobals mg) (e:fnsLook K l=fnsWant l) (i:Nat) (hi:l[i]? =some (x,st):=by rfl)
  (hb:∀ (kV doc pm:Value) (an:Option Addr) (cdv ct a0 a1 a2 a3:Value),bindArgs (fnOf x x (defArgs st) (defBody st) (defScope st) .none kV doc pm an cdv ct) ⟨[a0,a1,a2,a3],[]⟩=pure [(p0,a0),(p1,a1),(p2,a2),(p3,a3)]:=by intros;rfl):FnT K mg x st [p0,p1,p2,p3]:=
 mG X G e i hi fun a b c d f g us hl=>by
  match us,hl with
  | [a0,a1,a2,a3],_=>exact hb ..
theorem fn5 (X:K.In h) (G:h.Ns mainGlobals mg) (e:fnsLook K l=fnsWant l) (i:Nat) (hi:l[i]? =some (x,st):=by rfl)
  (hb:∀ (kV doc pm:Value) (an:Option Addr) (cdv ct a0 a1 a2 a3 a4:Value),bindArgs (fnOf x x (defArgs st) (defBody st) (defScope st) .none kV doc pm an cdv ct) ⟨[a0,a1,a2,a3,a4],[]⟩=pure [(p0,a0),(p1,a1),(p2,a2),(p3,a3),(p4,a4)]:=by intros;rfl):FnT K mg x st [p0,p1,p2,p3,p4]:=
 mG X G e i hi fun a b c d f g us hl=>by
  match us,hl with
  | [a0,a1,a2,a3,a4],_=>exact hb ..
theorem a1v (X:K.In h) (G:h.Ns mainGlobals mg) {v:V} (e:valLook K x=some v):∃ u,mg x=some u∧RelV v u:=by
 unfold valLook at e
 split at e
 ·rename_i u hn;exact ⟨u,mg_of X G hn,jK e⟩
 ·cases e
theorem sE:∀ {l:List (Str×V)},valsLook K l=valsWant l→∀ (i:Nat) {x:Str} {v:V},l[i]? =some (x,v)→valLook K x=some v
 | y::l,e,0,x,st,h=>by cases h;exact (List.cons.inj e).1
 | y::l,e,i+1,x,st,h=>sE (List.cons.inj e).2 i (by simpa using h)
theorem vl (X:K.In h) (G:h.Ns mainGlobals mg) {l:List (Str×V)} (e:valsLook K l=valsWant l) (i:Nat) {v:V} (hi:l[i]? =some (x,v):=by rfl):∃ u,mg x=some u∧RelV v u:=a1v X G (sE e i hi)
theorem tI {v:Value} {xs:List V} (e:tupAt K v=some (tupWant xs)):∃ (a:Addr) (it:Array Value) (n:Nat) (sq:Array (Option Value)),v=.ref a∧K.lookup a=some ⟨.type "tuple",none,.seq it n,sq⟩∧Vals xs it.toList:=by
 unfold tupAt at e
 split at e
 ·rename_i a
  split at e
  ·rename_i c d it n sl hl
   have e:=Option.some.inj e
   unfold tupWant at e
   simp only [Prod.mk.injEq] at e
   obtain ⟨rfl,rfl,e3⟩:=e
   exact ⟨a,it,n,sl,rfl,hl,qA e3⟩
  ·cases e
 ·cases e
theorem uV {xs:List V} (e:tupLook K x=some (tupWant xs)):∃ (a:Addr) (it:Array Value) (n:Nat) (sq:Array (Option Value)),nsIn K mainGlobals x=some (some (.ref a))∧K.lookup a=some ⟨.type "tuple",none,.seq it n,sq⟩∧Vals xs it.toList:=by
 unfold tupLook at e
 split at e
 ·rename_i u hn
  obtain ⟨a,it,n,sq,rfl,h1,h2⟩:=tI e
  exact ⟨a,it,n,sq,hn,h1,h2⟩
 ·cases e
theorem sX:∀ {l:List (Str×List V)},tupsLook K l=tupsWant l→∀ (i:Nat) {x:Str} {v:List V},l[i]? =some (x,v)→tupLook K x=some (tupWant v)
 | y::l,e,0,x,st,h=>by cases h;exact (List.cons.inj e).1
 | y::l,e,i+1,x,st,h=>sX (List.cons.inj e).2 i (by simpa using h)
theorem zX {a:Addr} {it:Array Value} {n:Nat} {d:Option Addr} {sq:Array (Option Value)} {xs:List V} (hl:K.lookup a=some ⟨.type "tuple",d,.seq it n,sq⟩) (hv:Vals xs it.toList) (hz:xs.length≤sizeLine) (H:Hp):SqT K H a xs:=
 .inr ⟨_,it,n,hl,rfl,rfl,by have:=hv.length;simp at this;omega,hv⟩
theorem tu (X:K.In h) (G:h.Ns mainGlobals mg) {l:List (Str×List V)} (e:tupsLook K l=tupsWant l) (i:Nat) {v:List V} (hi:l[i]? =some (x,v):=by rfl) (hz:v.length≤sizeLine:=by decide):∃ a,mg x=some (.ref a)∧∀ H,SqT K H a v:=by
 obtain ⟨a,it,n,sq,h1,h2,h3⟩:=uV (sX e i hi)
 exact ⟨a,mg_of X G h1,zX h2 h3 hz⟩
theorem tN:∀ {l:List Str},noneLook K l=true→∀ (i:Nat) {x:Str},l[i]? =some x→nsIn K mainGlobals x=some none
 | y::l,e,0,x,h=>by
  cases h
  unfold noneLook at e
  rw [Bool.and_eq_true_iff] at e
  have e:=e.1
  split at e
  ·assumption
  ·cases e
 | y::l,e,i+1,x,h=>by
  unfold noneLook at e
  rw [Bool.and_eq_true_iff] at e
  exact tN e.2 i (by simpa using h)
theorem nn (X:K.In h) (G:h.Ns mainGlobals mg) {l:List Str} (e:noneLook K l=true) (i:Nat) (hi:l[i]? =some x:=by rfl):mg x=none:=mg_none_of X G (tN e i hi)
end
inductive DvL where
 | v (x:Option V)
 | t (x:Option TupL)
abbrev DctL:=Value×Option Addr×Nat×Bool×List (Int×Option V×DvL)
def dvAt (K:Frag) (v:Value):DvL:=match v with
 | .ref _=>.t (tupAt K v)
 | _=>.v (absV v)
def entsLook (K:Frag):List DictEntry→List (Int×Option V×DvL)
 | []=>[]
 | e::l=>(e.hash,absV e.key,dvAt K e.val)::entsLook K l
def dctLook (K:Frag) (x:Str):Option DctL:=match nsIn K mainGlobals x with
 | some (some (.ref a))=>(match K.lookup a with
  | some ⟨c,d,.dict es _,sl⟩=>some (c,d,sl.size,a==sysModules,entsLook K es.toList)
  | _=>none)
 | _=>none
abbrev DEnt:=Str×(V ⊕ List V)
def entsWant (w:World):List DEnt→List (Int×Option V×DvL)
 | []=>[]
 | (k,.inl v)::l=>(keyH w (.inr k),some (.str k),.v (some v))::entsWant w l
 | (k,.inr v)::l=>(keyH w (.inr k),some (.str k),.t (some (tupWant v)))::entsWant w l
def dctWant (w:World) (l:List DEnt):DctL:=(.type "dict",none,0,false,entsWant w l)
def dctsLook (K:Frag):List (Str×List DEnt)→List (Option DctL)
 | []=>[]
 | x::l=>dctLook K x.1::dctsLook K l
def dctsWant (w:World):List (Str×List DEnt)→List (Option DctL)
 | []=>[]
 | x::l=>some (dctWant w x.2)::dctsWant w l
def EntV (K:Frag):List DEnt→List V→Prop
 | [],[]=>True
 | (_,.inl v)::l,u::us=>u=v∧EntV K l us
 | (_,.inr xs)::l,u::us=>(∃ a,u=.ref a∧∀ H,SqT K H a xs)∧EntV K l us
 | _,_=>False
def entKV:List DEnt→List V→List (Key×V)
 | e::l,u::us=>(.inr e.1,u)::entKV l us
 | _,_=>[]
def entsOk:List DEnt→Bool
 | []=>true
 | (_,.inl _)::l=>entsOk l
 | (_,.inr xs)::l=>decide (xs.length≤1000)&&entsOk l
section
variable {K:Frag} {h:Heap} {mg:Str→Option Value} {w:World}
theorem mI:∀ {l:List DEnt},entsOk l=true→∀ e∈l,∀ xs,e.2=.inr xs→xs.length≤sizeLine
 | (_,.inl _)::l,h,e,he,xs,hx=>by
  rcases List.mem_cons.mp he with rfl | he
  ·cases hx
  ·exact mI (l:=l) h e he xs hx
 | (_,.inr ys)::l,h,e,he,xs,hx=>by
  unfold entsOk at h
  rw [Bool.and_eq_true_iff,decide_eq_true_iff] at h
  rcases List.mem_cons.mp he with rfl | he
  ·cases hx;exact Nat.le_trans h.1 (by decide)
  ·exact mI (l:=l) h.2 e he xs hx
theorem rZ {k:Str} {xs:List V} {l:List DEnt} {us:List V} (e:EntV K ((k,.inr xs)::l) us):∃ a vs,us=.ref a::vs∧(∀ H,SqT K H a xs)∧EntV K l vs:=by
 cases us with
 | nil=>exact False.elim e
 | cons u vs=>obtain ⟨⟨a,rfl,q⟩,r⟩:=(show (∃ a,u=.ref a∧∀ H,SqT K H a xs)∧EntV K l vs from e);exact ⟨a,vs,rfl,q,r⟩
theorem a37 {us:List V} (e:EntV K [] us):us=[]:=by
 cases us with
 | nil=>rfl
 | cons u vs=>exact False.elim e
theorem rP:∀ {l:List DEnt} {es:List DictEntry},entsLook K es=entsWant w l→(∀ e∈l,∀ xs,e.2=.inr xs→xs.length≤sizeLine)→∃ (us:List V) (vs:List (Key×Value)),EntV K l us∧(∀ P,Pairs (mixKind P w) es vs)∧(∀ P,∀ e∈es,∃ k,(mixKind P w).is k e.key=true∧e.hash=(mixKind P w).hash k)∧KV (entKV l us) vs∧vs.map (·.1)=l.map (fun e=>.inr e.1)
 | [],[],_,_=>⟨[],[],trivial,fun _=>.nil,(fun _ _ h=>nomatch h),.nil,rfl⟩
 | [],_::_,e,_=>by cases e
 | (_,.inl _)::_,[],e,_=>by cases e
 | (_,.inr _)::_,[],e,_=>by cases e
 | (k,.inl v)::l,d::es,e,hz=>by
  have e':=List.cons.inj (show (d.hash,absV d.key,dvAt K d.val)::entsLook K es=(keyH w (.inr k),some (.str k),.v (some v))::entsWant w l from e)
  obtain ⟨us,vs,h1,h2,h3,h4,h5⟩:=rP e'.2 fun x hx=>hz x (List.mem_cons_of_mem _ hx)
  have e1:=e'.1
  simp only [Prod.mk.injEq] at e1
  obtain ⟨q1,q2,q3⟩:=e1
  obtain ⟨t,q2⟩:=jK q2
  have q4:RelV v d.val:=by
   unfold dvAt at q3
   split at q3
   ·cases q3
   ·exact jK (DvL.v.inj q3)
  have hk:∀ P,(mixKind P w).is (.inr k) d.key=true:=fun P=>by rw [q2];exact jH P w k t
  refine ⟨v::us,(.inr k,d.val)::vs,⟨rfl,h1⟩,fun P=>.cons (kv:=((Sum.inr k,d.val):Key×Value)) (hk P) rfl (h2 P),fun P y hy=>?_,.cons ⟨rfl,q4⟩ h4,by simp [h5]⟩
  rcases List.mem_cons.mp hy with rfl | hy
  ·exact ⟨.inr k,hk P,q1⟩
  ·exact h3 P y hy
 | (k,.inr xs)::l,d::es,e,hz=>by
  have e':=List.cons.inj (show (d.hash,absV d.key,dvAt K d.val)::entsLook K es=(keyH w (.inr k),some (.str k),.t (some (tupWant xs)))::entsWant w l from e)
  obtain ⟨us,vs,h1,h2,h3,h4,h5⟩:=rP e'.2 fun x hx=>hz x (List.mem_cons_of_mem _ hx)
  have e1:=e'.1
  simp only [Prod.mk.injEq] at e1
  obtain ⟨q1,q2,q3⟩:=e1
  obtain ⟨t,q2⟩:=jK q2
  have q4:tupAt K d.val=some (tupWant xs):=by
   unfold dvAt at q3
   split at q3
   ·exact DvL.t.inj q3
   ·cases q3
  obtain ⟨a,it,n,sq,q5,q6,q7⟩:=tI q4
  have hk:∀ P,(mixKind P w).is (.inr k) d.key=true:=fun P=>by rw [q2];exact jH P w k t
  refine ⟨.ref a::us,(.inr k,d.val)::vs,⟨⟨a,rfl,zX q6 q7 (hz _ (List.mem_cons_self ..) xs rfl)⟩,h1⟩,fun P=>.cons (kv:=((Sum.inr k,d.val):Key×Value)) (hk P) rfl (h2 P),fun P y hy=>?_,.cons ⟨rfl,by rw [q5];rfl⟩ h4,by simp [h5]⟩
  rcases List.mem_cons.mp hy with rfl | hy
  ·exact ⟨.inr k,hk P,q1⟩
  ·exact h3 P y hy
theorem a2N {x:Str} {l:List DEnt} (X:K.In h) (G:h.Ns mainGlobals mg) (e:dctLook K x=some (dctWant w l)) (hz':entsOk l=true) (nd:(l.map (·.1)).Nodup):∃ (a:Addr) (us:List V),mg x=some (.ref a)∧EntV K l us∧KD w K a (entKV l us):=by
 have hz:=mI hz'
 unfold dctLook at e
 split at e
 ·rename_i a hn
  split at e
  ·rename_i c d es ep sl hl
   have e:=Option.some.inj e
   unfold dctWant at e
   simp only [Prod.mk.injEq] at e
   obtain ⟨rfl,rfl,e3,e4,e5⟩:=e
   obtain ⟨us,vs,h1,h2,h3,h4,h5⟩:=rP e5 hz
   refine ⟨a,us,mg_of X G hn,h1,fun P=>⟨_,es,ep,vs,hl,e4,⟨rfl,rfl,Array.eq_empty_of_size_eq_zero e3⟩,rfl,fun y hy=>h3 P y (by simpa using hy),h2 P,?_,h4⟩⟩
   rw [h5]
   have:l.map (fun e=>(Sum.inr e.1:Key))=(l.map (·.1)).map Sum.inr:=by simp
   rw [this]
   exact List.Pairwise.map _ (fun a b q c=>q (Sum.inr.inj c)) nd
  ·cases e
 ·cases e
theorem rY:∀ {l:List (Str×List DEnt)},dctsLook K l=dctsWant w l→∀ (i:Nat) {x:Str} {v:List DEnt},l[i]? =some (x,v)→dctLook K x=some (dctWant w v)
 | y::l,e,0,x,st,h=>by cases h;exact (List.cons.inj e).1
 | y::l,e,i+1,x,st,h=>rY (List.cons.inj e).2 i (by simpa using h)
end
theorem z9 {l:OpenLaw} {n k:Nat} {q:Program} {loose:List Str} {XP:(Str→Option Value)→Heap→Prop} {d:DefRec} {α:Type} {look:Frag→α} {want:World→α} {x:Str}
  (hn:l.most=some n) (hn2:n≤sizeLine) (hdf:d.params.defaults=[]) (hr:Room k callerA)
  (F:∀ (w:World) (mg:Str→Option Value) (fa:Addr) (h:Heap) (K:Frag),K.In h→look K=want w→h.Ns mainGlobals mg→mg d.name=some (.ref fa)→
   ∃ (ts:List (Addr×Obj×List V)) (fd:FuncData) (sp:Sp),(∀ t∈ts,KTup K t)∧(ts.map (·.1)).Nodup∧(∀ (s:Shared) (u:Value),BindsTo s fd ⟨[u],[]⟩ [(x,u)])∧
    (∀ base:Heap,(without K (ts.map (·.1))).In base→base.Ns mainGlobals mg→FnOk l.prog w (without K (ts.map (·.1))) mg base CX0 k fa fd [x] sp)∧
    (∀ (H:Hp) (a:Addr) (ns:List Int),ns.length≤n→(∀ t∈ts,H t.1=some (.frz t.2.1 (.tup t.2.2)))→SqL (without K (ts.map (·.1))) H a (ns.map V.int)→sp [.ref a] H (fun v _=>v=.bl true) fun _ _ _=>False)):
  WalkO q loose XP (seeHook look want).says l.row.toRowW d [] (fun f vs=>PySem.call f vs):=by
 refine Att.tM hn hdf fun w s₀ s₁ mg mb fa o pm cd doc a vs ns G Y ho hd hcd hmg hobj hints hlen hg=>?_
 obtain ⟨K,KX,hl⟩:=Y
 obtain ⟨ts,fd,sp,hts,nd,hb,hF,hsp⟩:=F w mg fa _ K KX hl G.T.g hmg
 exact xH hts nd KX G.T.g G.T.b G.T.builtins G.T.nolimit hg hobj hints (Nat.le_trans hlen hn2) hr hF hb (fun H _ ht hS=>hsp H a ns hlen ht hS) fun _ _ _ z=>z
theorem vU {l:OpenLaw} {k:Nat} {q:Program} {loose:List Str} {XP:(Str→Option Value)→Heap→Prop} {d:DefRec} {α:Type} {look:Frag→α} {want:World→α} {st:Stmt}
  (hn:l.most=some 63) (hdf:d.params.defaults=[]) (hr:Room k callerA) (hname:d.name="law")
  (hb:∀ (kV doc pm:Value) (an:Option Addr) (cdv ct a0:Value),bindArgs (fnOf "law" "law" (defArgs st) (defBody st) (defScope st) .none kV doc pm an cdv ct) ⟨[a0],[]⟩=pure [(("script":Str),a0)])
  (F:∀ (w:World) (mg:Str→Option Value) (h:Heap) (K:Frag),K.In h→look K=want w→h.Ns mainGlobals mg→FnT (without K []) mg "law" st ["script"]∧∀ base:Heap,FnK l.prog w (without K []) mg base k "law" ["script"] (spLaw (without K []))):
  WalkO q loose XP (seeHook look want).says l.row.toRowW d [] (fun f vs=>PySem.call f vs):=
 z9 (n:=63) (k:=k) (x:="script") hn (by decide) hdf hr fun w mg fa h K KX hl G hmg=>by
  obtain ⟨⟨f,fd,Fu,m,b⟩,hF⟩:=F w mg h K KX hl G
  rw [hname] at hmg
  rw [m] at hmg
  cases hmg
  refine ⟨[],fd,spLaw (without K []),(fun t ht=>nomatch ht),.nil,fun s u=>?_,fun base kb nb=>?_,fun H a ns hl _ hS=>⟨a,ns,rfl,hS,hl,fun _=>rfl⟩⟩
  ·obtain ⟨oc,od,kV,doc,pm,an,cdv,ct,osl,rfl,lk,hcd⟩:=Fu.ex
   exact .of_eq (hb ..)
  ·obtain ⟨f',fd',G',m',k',b',oc',od',osl',lk'⟩:=hF base
   rw [m] at m'
   cases m'
   have e:fd=fd':=by
    obtain ⟨oc,od,kV,doc,pm,an,cdv,ct,osl,e1,lk,hcd⟩:=Fu.ex
    rw [lk] at lk'
    have:=Option.some.inj lk'
    injection this with _ _ h3 _
    injection h3
   rw [e];exact G'
end L2
set_option autoImplicit false
set_option maxRecDepth 100000
namespace L2
open PySem PySem.Spec PyProof.Rows
section
variable {H0 H:Hp} {σ:St} {ta:TA} {te:TE} {k k' n:Nat} {K:PySem.W.Frag}
theorem sI {xs:List V} {lo hi:Option Int} {v:V} (h:v∈cutV xs lo hi):v∈xs:=List.mem_of_mem_drop (List.mem_of_mem_take h)
theorem a1G {i j:Nat} {a:Addr} {xs:List V} (e:σ[i]? =some (some (.ref a))) (g:H a=some (.tup xs)) (h:∀ v∈xs,OkD H k' v) (hk:k'≤k) (hn:xs.length≤1000) (hj:0 < j) (hx:0 < xs.length):GK σ H (tSl (fun x lo hi H Q=>rSlS x lo hi H Q∨(rSlL K x lo hi H Q∨rSlT K x lo hi H Q)) (tV i) (tPart (tC (.int (j:Int)))) tNoPart) (k+1):=fun H1 Q s q=>by
 refine nG e ?_
 refine ⟨(j:Int),rfl,.inr (.inr ⟨a,xs,rfl,.inl (.inl (s _ _ g)),fun c=>?_,fun p hp=>q _ _ (Same.upd hp _) (bG aA (by have:=gQ xs (some (j:Int)) none;omega) fun v hv=>(((h v (sI hv)).up hk).same s).same (Same.upd hp _))⟩)⟩
 rw [HT.fV] at c;omega
theorem a1H {i j:Nat} {a:Addr} {xs:List V} (e:σ[i]? =some (some (.ref a))) (g:H a=some (.tup xs)) (h:∀ v∈xs,OkD H k' v) (hk:k'≤k) (hn:xs.length≤1000) (hj:j < xs.length):GK σ H (tSl (fun x lo hi H Q=>rSlS x lo hi H Q∨(rSlL K x lo hi H Q∨rSlT K x lo hi H Q)) (tV i) tNoPart (tPart (tC (.int (j:Int))))) (k+1):=fun H1 Q s q=>by
 refine nG e ?_
 refine ⟨(j:Int),rfl,.inr (.inr ⟨a,xs,rfl,.inl (.inl (s _ _ g)),fun c=>?_,fun p hp=>q _ _ (Same.upd hp _) (bG aA (by have:=gQ xs none (some (j:Int));omega) fun v hv=>(((h v (sI hv)).up hk).same s).same (Same.upd hp _))⟩)⟩
 rw [HT.fV] at c;omega
structure OW (H0 H:Hp) (S:Addr) (ws:List V) (n k k0:Nat) (v e:V):Prop where
 s:Same H0 H
 f:H0 S=none
 g:H S=some (.lst ws)
 l:ws.length=n
 o:∀ x∈ws,OkD H k x
 ov:OkD H k0 v
 oe:OkD H 2 e
variable {S:Addr} {ws:List V} {m k0:Nat} {v e:V} {u:TS} {D:Ends} {i:Nat}
theorem a2R (τ:Addr→St) (s:Same H0 H) (ov:OkD H k0 v) (oe:OkD H 2 e) (G:GKA σ H ta k n) (hn:n≤50) (q:∀ S ws H',OW H0 H' S ws n k k0 v e→u D (τ S) H') (hτ:∀ S,σ.set i (some (.ref S))=τ S:=by intro _;rfl):tSeq (tAsg (tLst ta) (gName i)) u D σ H:=
 uK G hn fun S ws H' s' f g l o=>hτ S▸q S ws H' ⟨s.trans s',s.free f,g,l,o,ov.same s',oe.same s'⟩
theorem cP (τ:Addr→St) (W:OW H0 H S ws m k k0 v e) (hi:σ[i]? =some (some (.ref S))) (hm:m≤900) (G:GKA σ H ta k n) (hn:n≤50) (q:∀ S' ws' H',Same H H'→OW H0 H' S' ws' (m+n) k k0 v e→u D (τ S') H') (hτ:∀ S,σ.set i (some (.ref S))=τ S:=by intro _;rfl):tSeq (tAsg (tOp rAddD (tV i) (tLst ta)) (gName i)) u D σ H:=
 kE hi W.g W.o (by have:=W.l;omega) G hn fun S' ws' H' s' f g l o=>hτ S'▸q S' ws' H' s' ⟨W.s.trans s',W.s.free f,g,by rw [l,W.l],o,W.ov.same s',W.oe.same s'⟩
theorem a2L (W:OW H0 H S ws m k k0 v e) (hi:σ[i]? =some (some (.ref S))) (hm:m≤900) (G:GK σ H te k) (q:∀ ws' H',Ky H H'→OW H0 H' S ws' (m+1) k k0 v e→u D σ H'):tSeq (tDrop (tBM K "list" rAppend (tV i) (tCons te tNil))) u D σ H:=
 nV W.f W.s hi W.g W.o (by have:=W.l;omega) G fun ws' H' s' ky g l o=>q ws' H' ky ⟨s',W.f,g,by rw [l,W.l],o,W.ov.ky ky,W.oe.ky ky⟩
theorem OW.same {H':Hp} (W:OW H0 H S ws m k k0 v e) (s:Same H H'):OW H0 H' S ws m k k0 v e:=⟨W.s.trans s,W.f,s _ _ W.g,W.l,fun x hx=>(W.o x hx).same s,W.ov.same s,W.oe.same s⟩
theorem a1k {vs:List V} (e:σ[i]? =some (some (.ref S))) (g:H S=some (.lst vs)) (hvs:∀ x∈vs,OkD H k x) (hl:vs.length≤900) (G:GKA σ H ta k n) (hn:n≤50)
  (q:∀ S' ws H',Same H H'→H S'=none→H' S'=some (.lst ws)→ws.length=vs.length+n→(∀ x∈ws,OkD H' k x)→D.rt (.ref S') H'):tRet (tOp rAddD (tV i) (tLst ta)) D σ H:=by
 have hsz:sizeLine=16777216:=sizeLine_eq
 refine nG (Q:=fun x H1=>tLst ta σ H1 fun y H2=>rAddD x y H2 fun z H3=>D.rt z H3) e ?_
 refine G H _ (Same.refl H) fun ws H1 s1 hl1 hw=>⟨by omega,fun L hL=>?_⟩
 have s2:=Same.upd hL (.lst ws)
 refine ⟨vs,ws,(s1.trans s2) _ _ g,aA,by omega,fun S' hS'=>?_⟩
 have s3:=Same.upd hS' (.lst (vs++ws))
 refine q S' (vs++ws) _ ((s1.trans s2).trans s3) (s1.free (s2.free hS')) aA (by simp;omega) fun x hx=>?_
 rcases List.mem_append.mp hx with h | h
 ·exact (hvs x h).same ((s1.trans s2).trans s3)
 ·exact (hw x h).same (s2.trans s3)
theorem a17 {Hs:Hp} {vs:List V} (fS:Hs S=none) (ss:Same Hs H) (e:σ[i]? =some (some (.ref S))) (g:H S=some (.lst vs)) (hvs:∀ x∈vs,OkD H k x) (hl:vs.length≤900) (G:GK σ H te k)
  (q:∀ ws H',Same Hs H'→Ky H H'→H' S=some (.lst ws)→ws.length=vs.length+1→(∀ x∈ws,OkD H' k x)→D.nx σ H'):tDrop (tBM K "list" rAppend (tV i) (tCons te tNil)) D σ H:=nV (u:=fun D σ H=>D.nx σ H) fS ss e g hvs hl G q
theorem shr1 (c:Nat):Shr ⟨#[c]⟩:=show 1≤100000 by decide
end
end L2
set_option autoImplicit false
set_option maxRecDepth 100000
namespace PySem
open Sem (wp)
section
variable {prog:Program} {w:World} {A:Around} {R:Result→Shared→Prop} {I:Addr} {fp wr:List Addr} {n:Nat} {P:Nat→Value→Prop} {St:Nat→Heap→Prop} {kw:List (Str×Value)}
theorem yV (W:Walks prog w A.in1 I fp wr n P St) (bt:Nat→Nat→Bool) (hcmp:CmpOf prog w A.in1 .Gt P bt) (S:Addr) (hSf:S ∉ fp):
  ∀ (k j:Nat) (s:Shared) (vb:Value) (c:Nat),n - (j+1)=k→j+1≤n→St (j+1) s.heap→P (argBest bt j) vb→
  s.heap.get? S=some {cls:=.type "list",dict:=none,data:=.seq #[vb,vb] c,slots:=#[]}→
  (∀ v h' tk,P (argBest bt (n - 1)) v→(∀ b o,b ∉ wr→b≠S→s.heap.get? b=some o→h'.get? b=some o)→R (.ok (.ret v)) {s with heap:=h',toks:=tk})→
  codeAny (model prog w) A (.builtin "max.loop" ⟨[.ref I,.none,.ref S],kw⟩) R s:=by
 have hSw:S ∉ wr:=fun h=>hSf (W.sub _ h)
 have nm:(toString "max"++toString ".loop":String)="max.loop":=by decide
 intro k
 induction k with
 | zero=>
  intro j s vb c hk hj hst hPb hS hR
  have hin:j+1=n:=by omega
  refine codeAny_builtin F.entry_max_loop ?_
  rw [Around.under_plainId F.plain_max_loop _]
  refine wpAny_bind (wpAny_seqItems hS rfl ?_)
  refine wpAny_bind (wpAny_tryCatch (W.done s _ _ (hin▸hst) fun h' tk hk'=>?_))
  have hS':=hk' S _ hSw hS
  refine wpAny_bind (wpAny_updateSeq hS' rfl (wpAny_bind (wpAny_letGo (wpAny_pure ?_))))
  exact hR vb _ tk (by rw [← hin];exact hPb) fun b o hb hbS e=>(Heap.get?_update_other _ _ (Ne.symm hbS)).trans (hk' b o hb e)
 | succ k ih=>
  intro j s vb c hk hj hst hPb hS hR
  have hlt:j+1 < n:=by omega
  refine codeAny_builtin F.entry_max_loop ?_
  rw [Around.under_plainId F.plain_max_loop _]
  refine wpAny_bind (wpAny_seqItems hS rfl ?_)
  refine wpAny_bind (wpAny_tryCatch (W.item (j+1) s _ _ hlt hst fun v h' tk hP hst' hk'=>?_))
  have hS':=hk' S _ hSw hS
  refine wpAny_bind (wpAny_pure ?_)
  refine wpAny_bind (wpAny_tryCatch (wpAny_holding (wpAny_bind (hcmp (j+1) (argBest bt j) v vb _ _ _ hP hPb ?_))))
  refine wpAny_bind (wpAny_holding (wpAny_truthy_bool ?_))
  refine wpAny_bind (wpAny_letGo (wpAny_pure ?_))
  cases hb:bt (j+1) (argBest bt j) with
  | true=>
   simp only [if_true]
   refine wpAny_bind (wpAny_updateSeq hS' rfl (wpAny_bind (wpAny_letGo ?_)))
   rw [nm]
   refine wpAny_pure ⟨plainId_quiet F.plain_max_loop _,ih (j+1) _ v _ (by omega) hlt (W.frame _ _ _ hst' fun b hbf o e=>?_) (by simp only [argBest,hb,if_true];exact hP) (Heap.get?_update_self _ hS' rfl) fun v' h2 tk2 hP' hk2=>?_⟩
   ·exact (Heap.get?_update_other _ _ (fun h:S=b=>hSf (by rw [h];exact hbf))).trans e
   ·exact hR v' h2 tk2 hP' fun b o hbw hbS e=>hk2 b o hbw hbS ((Heap.get?_update_other _ _ (Ne.symm hbS)).trans (hk' b o hbw e))
  | false=>
   simp only [Bool.false_eq_true,if_false]
   refine wpAny_bind (wpAny_letGo ?_)
   rw [nm]
   refine wpAny_pure ⟨plainId_quiet F.plain_max_loop _,ih (j+1) _ vb c (by omega) hlt hst' (by simp only [argBest,hb,Bool.false_eq_true,if_false];exact hPb) hS' fun v' h2 tk2 hP' hk2=>?_⟩
   exact hR v' h2 tk2 hP' fun b o hbw hbS e=>hk2 b o hbw hbS (hk' b o hbw e)
theorem x9 {d:Value} (W:Walks prog w A.in1 I fp wr n P St) (bt:Nat→Nat→Bool) (hcmp:CmpOf prog w A.in1 .Gt P bt) (S:Addr) (hSf:S ∉ fp) {s:Shared} {c:Nat} (hst:St 0 s.heap)
  (hS:s.heap.get? S=some {cls:=.type "list",dict:=none,data:=.seq #[] c,slots:=#[]})
  (hR:∀ v h' tk,(0 < n∧P (argBest bt (n - 1)) v∨n=0∧v=d)→(∀ b o,b ∉ wr→b≠S→s.heap.get? b=some o→h'.get? b=some o)→R (.ok (.ret v)) {s with heap:=h',toks:=tk}):
  codeAny (model prog w) A (.builtin "max.loop" ⟨[.ref I,.none,.ref S],[("default",d)]⟩) R s:=by
 have hSw:S ∉ wr:=fun h=>hSf (W.sub _ h)
 have nm:(toString "max"++toString ".loop":String)="max.loop":=by decide
 refine codeAny_builtin F.entry_max_loop ?_
 rw [Around.under_plainId F.plain_max_loop _]
 refine wpAny_bind (wpAny_seqItems hS rfl ?_)
 rcases Nat.eq_zero_or_pos n with h0 | hn
 ·refine wpAny_bind (wpAny_tryCatch (W.done s _ _ (h0▸hst) fun h' tk hk'=>?_))
  refine wpAny_bind (wpAny_rule ?_)
  exact wpAny_pure (hR d _ tk (.inr ⟨h0,rfl⟩) fun b o hb _ e=>hk' b o hb e)
 ·refine wpAny_bind (wpAny_tryCatch (W.item 0 s _ _ hn hst fun v h' tk hP hst' hk'=>?_))
  have hS':=hk' S _ hSw hS
  refine wpAny_bind (wpAny_pure ?_)
  refine wpAny_bind (wpAny_updateSeq hS' rfl ?_)
  rw [nm]
  refine wpAny_pure ⟨plainId_quiet F.plain_max_loop _,yV W bt hcmp S hSf _ 0 _ v _ rfl hn (W.frame _ _ _ hst' fun b hbf o e=>?_) hP (Heap.get?_update_self _ hS' rfl) fun v' h2 tk2 hP' hk2=>?_⟩
  ·exact (Heap.get?_update_other _ _ (fun h:S=b=>hSf (by rw [h];exact hbf))).trans e
  ·exact hR v' h2 tk2 (.inl ⟨hn,hP'⟩) fun b o hbw hbS e=>hk2 b o hbw hbS ((Heap.get?_update_other _ _ (Ne.symm hbS)).trans (hk' b o hbw e))
end
section
variable {prog:Program} {w:World} {A:Around} {E:Value→Shared→Prop} {s:Shared}
theorem zB (a v:Value):argsOk "max" ⟨[a],[("default",v)]⟩:=by unfold argsOk;kernel_rfl
theorem yM (v:Value):Builtin.Builtins.bindParams "max" ["key","default"] 0 ⟨[],[("default",v)]⟩=pure [none,some v]:=by rfl
theorem yN {x d:Value} {Q:Value→Shared→Prop}
  (h:wpAny (model prog w) A.in1 (pyIter x) (fun it s2=>∃ I fp wr n P St bt,it=.ref I∧Walks prog w A.in1 I fp wr n P St∧St 0 s2.heap∧(∀ b∈fp,b < s2.heap.objs.size)∧CmpOf prog w A.in1 .Gt P bt∧
   ∀ v h' tk,(0 < n∧P (argBest bt (n - 1)) v∨n=0∧v=d)→(∀ b o,b ∉ wr→s2.heap.get? b=some o→h'.get? b=some o)→Q v {s2 with heap:=h',toks:=tk}) E s):
  wpAny (model prog w) A (call (.builtin "max") [x] [("default",d)]) Q E s:=by
 have nm:(toString "max"++toString ".loop":String)="max.loop":=by decide
 refine PyProof.Rows.kmk_tree F.kind_max F.plain_max F.entry_max (zB _ _) ?_
 refine wpAny_bind (wpAny_of_eq (yM d) ?_)
 refine wpAny_bind (wpAny_pure ?_)
 refine wpAny_bind (wpAny_mono h (fun it s2 h2=>?_) fun _ _ e=>e)
 obtain ⟨I,fp,wr,n,P,St,bt,rfl,W,hst,hfp,hcmp,hQ⟩:=h2
 refine wpAny_bind (wpAny_newObj_type ?_)
 have hSf:s2.heap.objs.size ∉ fp:=fun hm=>Nat.lt_irrefl _ (hfp _ hm)
 rw [nm]
 refine wpAny_pure ⟨plainId_quiet F.plain_max_loop _,x9 W bt hcmp s2.heap.objs.size hSf (W.frame _ _ _ hst fun b _ o e=>Heap.get?_push_of_some _ e) (Heap.get?_push_size _ rfl) fun v h' tk hP hk=>?_⟩
 exact hQ v h' tk hP fun b o hbw e=>hk b o hbw (Nat.ne_of_lt (Heap.lt_size e)) (Heap.get?_push_of_some _ e)
end
end PySem
namespace L2
open PySem PySem.Spec PyProof.Rows
section
variable {X:Cx} {x:Str} {e dv:Expr} {kp pos p:Pos} {te td:TE}
def tMaxD (K:PySem.W.Frag) (te td:TE):TE:=fun σ H Q=>te σ H fun y H1=>td σ H1 fun z H2=>∃ (a:Addr) (ns:List Int) (d:Int),y=.ref a∧z=.int d∧SqL K H2 a (ns.map V.int)∧∀ m,(ns=[]∧m=d∨m∈ns∧∀ i∈ns,i≤m)→Q (.int m) H2
theorem a0f (hc:X.calm=true) (hg:Gl X "max") (hm:X.mg "max"=none) (he:PE X e te) (hd:PE X dv td) (he1:starEach [e] X.env=(false,eval e X.env)::starEach [] X.env:=by rfl) (hpl:(backTo pos (starEach [e] X.env)).any (·.1)=false:=by rfl):PE X (.Call (.Name "max" p) [e] [⟨some "default",dv,kp⟩] pos) (tMaxD X.K te td):=by
 intro pins s σ H Q I h
 refine wpAny_Call_Name_kw (jC I hg hm PyProof.Rows.boot_max ?_ (by decide) (by decide))
 refine callWith_kw ?_ (by rw [he1];rfl) hpl
 rw [he1]
 refine Calls.spliced_cons (thn (he pins s σ H _ I h) fun u s1 ⟨y,H1,I1,ru,q1⟩=>Calls.spliced_nil ?_)
 refine kws_cons (thn (hd pins s1 σ H1 _ I1 q1) ?_)
 rintro u2 s2 ⟨z,H2,I2,rz,a,ns,d,ea,ez,hq,q⟩
 subst ea ez
 cases ru
 obtain ⟨td,rfl⟩:=rz
 refine kws_nil ?_
 show wpAny _ _ (call (.builtin "max") [.ref a] [("default",.int d td)]) _ _ _
 obtain ⟨its,rv,pl,hz⟩:=I2.list hq
 have hl:=rv.length
 rw [List.length_map] at hl
 have hlt:a < s2.heap.objs.size:=by obtain ⟨_,e,_⟩:=pl.isList;exact Heap.lt_size e
 have get:∀ (i:Nat) (v:Value),its.toArray[i]? =some v→∃ t,v=.int (ns.getD i 0) t:=fun i v hP=>by
  have hP':its[i]? =some v:=by simpa using hP
  have hi:i < its.length:=(List.getElem?_eq_some_iff.mp hP').1
  obtain ⟨u,h1,h2⟩:=rv.get (i:=i) (x:=.int (ns.getD i 0)) (by rw [List.getElem?_map,List.getElem?_eq_getElem (by omega),List.getD_eq_getElem?_getD,List.getElem?_eq_getElem (by omega)];rfl)
  rw [hP'] at h1
  cases h1
  exact h2
 refine yN (wpAny_pyIter_list pl.isList ?_)
 refine ⟨s2.heap.objs.size,[s2.heap.objs.size,a],[s2.heap.objs.size],its.toArray.size,_,_,fun i j=>decide (ns.getD i 0 > ns.getD j 0),rfl,Walks.list (A:=X.A.in1) (I2.ok.hd hc) _ a (Nat.ne_of_lt hlt) _,
  ⟨⟨_,Heap.get?_push_size _ rfl,rfl,rfl⟩,pl.isList.push _⟩,fun b hb=>?_,fun i j vi vj s' Q' E' hi hj hQ=>?_,fun v h' tk hP hk=>?_⟩
 ·simp only [List.mem_cons,List.mem_nil_iff,or_false] at hb
  show b < (s2.heap.push _).objs.size
  rw [Heap.size_push]
  rcases hb with rfl | rfl
  ·exact Nat.lt_succ_self _
  ·exact Nat.lt_succ_of_lt hlt
 ·obtain ⟨t,rfl⟩:=get i vi hi
  obtain ⟨t',rfl⟩:=get j vj hj
  exact PySem.P.gt_int hQ
 ·have I3:=I2.kept (t':=tk) (h':=h') fun b o e=>hk b o (fun hm=>by rw [List.mem_singleton.mp hm] at e;exact Nat.lt_irrefl _ (Heap.lt_size e)) (Heap.get?_push_of_some _ e)
  rcases hP with ⟨hn,hP⟩ | ⟨hn,rfl⟩
  ·obtain ⟨t,rfl⟩:=get _ v hP
   obtain ⟨g1,g2⟩:=argBest_gt (fun i=>ns.getD i 0) (its.toArray.size - 1)
   have hm:argBest (fun i j=>decide (ns.getD i 0 > ns.getD j 0)) (its.toArray.size - 1) < ns.length:=by simp at g1 hn ⊢;omega
   refine ⟨.int _,H2,I3,⟨_,rfl⟩,q _ (.inr ⟨?_,fun x hx=>?_⟩)⟩
   ·rw [List.getD_eq_getElem?_getD,List.getElem?_eq_getElem hm];exact List.getElem_mem hm
   ·obtain ⟨i,hi,rfl⟩:=List.getElem_of_mem hx
    have:=g2 i (by simp;omega)
    simp only [List.getD_eq_getElem?_getD,List.getElem?_eq_getElem hi,Option.getD_some] at this
    simpa [List.getD_eq_getElem?_getD] using this
  ·have:ns=[]:=by
    have:its.length=0:=by simpa using hn
    exact List.length_eq_zero_iff.mp (by omega)
   exact ⟨.int _,H2,I3,⟨_,rfl⟩,q _ (.inl ⟨this,rfl⟩)⟩
theorem a2K (K:PySem.W.Frag) (hc:X.calm=true) (hg:Gl X "max") (hm:X.mg "max"=none) (he:SE X e te) (hd:SE X dv td) (hK:X.K=K:=by rfl) (he1:starEach [e] X.env=(false,eval e X.env)::starEach [] X.env:=by rfl) (hpl:(backTo pos (starEach [e] X.env)).any (·.1)=false:=by rfl):SE X (.Call (.Name "max" p) [e] [⟨some "default",dv,kp⟩] pos) (tMaxD K te td):=by
 subst hK;exact ⟨a0f hc hg hm he.h hd.h he1 hpl⟩
end
end L2
set_option maxRecDepth 100000
namespace L2
open PySem PySem.Spec PyProof.Rows
section
variable {X:Cx} {pins:List (Addr×Obj)} {σ:St} {H:Hp} {s:Shared}
end
section
variable {X:Cx} {es:List Expr} {k n:Nat} {u:TGs} {pos:Pos}
end
section
variable {prog:Program} {w:World} {A:Around} {R:Result→Shared→Prop} {I:Addr} {fp wr:List Addr} {G:Array GenState→Array GenState→Prop} {n:Nat} {P:Nat→Value→Prop} {St:Nat→Shared→Prop}
end
section
variable {prog:Program} {w:World} {A:Around} {E:Value→Shared→Prop} {s:Shared}
end
section
variable {X:Cx}
end
section
variable {prog:Program} {w:World} {A:Around} {E:Value→Shared→Prop} {s:Shared} {I:Addr} {fp wr:List Addr} {G:Array GenState→Array GenState→Prop} {n:Nat} {P:Nat→Value→Prop} {St:Nat→Shared→Prop}
end
section
variable {X:Cx}
end
section
variable {X:Cx} {e st:Expr} {te ts:TE} {p2 pos:Pos}
def rNeTE:R2:=fun x y H Q=>∃ a b xs,x=.ref a∧y=.ref b∧H a=some (.tup xs)∧H b=some (.tup [])∧Q (.bl (!xs.isEmpty)) H
theorem a0s (hu:X.A.units+20 < cLine):OpR X (compareOp .NotEq) rNeTE:=by
 intro pins s σ H x y v u Q I rx ry h
 obtain ⟨a,b,xs,rfl,rfl,ha,hb,q⟩:=h
 cases rx
 cases ry
 obtain ⟨i1,r1,p1,_⟩:=I.tuple (SqT.of ha)
 obtain ⟨i2,r2,p2,_⟩:=I.tuple (SqT.of hb)
 cases r2
 refine SeqAt.RcNeAt.tuples (e:=fun _=>true) p1 p2 (by omega) (fun j h1 h2=>absurd h2 (by simp)) _ _ _ _ ?_
 have e:((List.range (min i1.toArray.size ([]:List Value).toArray.size)).all (fun _=>true)&&i1.toArray.size==([]:List Value).toArray.size)=xs.isEmpty:=by
  have hl:=r1.length
  cases xs with
  | nil=>simp at hl;simp [← hl]
  | cons x xs=>cases i1 with
   | nil=>simp at hl
   | cons u us=>simp
 rw [e]
 exact ⟨.bl (!xs.isEmpty),H,I,rfl,q⟩
end
end L2
set_option autoImplicit false
set_option maxRecDepth 100000
set_option maxHeartbeats 400000
--LEVEL 120
--SEE
namespace T1
open PySem L2
def top (i:Nat):Stmt:=PySem.Challenge.pw_coilkind_k75_what_is_a_maker.main.body.getD i (.Pass ⟨0,0,0,0⟩)
abbrev iA:Stmt:=top 4
abbrev cI:Stmt:=top 5
abbrev gB:Stmt:=top 7
abbrev gH:Stmt:=top 13
abbrev fB:Stmt:=top 14
abbrev fH:Stmt:=top 15
abbrev j3:Stmt:=top 16
abbrev cJ:Stmt:=top 17
abbrev kC:Stmt:=top 19
abbrev kD:Stmt:=top 20
abbrev iP:Stmt:=top 21
abbrev fG:Stmt:=top 22
abbrev gJ:Stmt:=top 23
abbrev i6:Stmt:=top 24
abbrev mH:Stmt:=top 25
abbrev fY:Stmt:=top 26
abbrev fK:Stmt:=top 27
abbrev dC:Stmt:=top 29
abbrev hZ:Stmt:=top 30
abbrev eZ:Stmt:=top 31
abbrev eR:Stmt:=top 32
abbrev dG:Stmt:=top 33
abbrev cC:Stmt:=top 34
abbrev fZ:Stmt:=top 35
abbrev cX:Stmt:=top 36
abbrev dW:Stmt:=top 37
abbrev i4:Stmt:=top 38
abbrev eO:Stmt:=top 39
abbrev dF:Stmt:=top 40
abbrev bM:Stmt:=top 41
abbrev j4:Stmt:=top 42
abbrev gI:Stmt:=top 43
abbrev eP:Stmt:=top 44
abbrev eX:Stmt:=top 45
abbrev eW:Stmt:=top 46
abbrev gE:Stmt:=top 47
abbrev c9:Stmt:=top 48
abbrev d9:Stmt:=top 49
abbrev bY:Stmt:=top 50
abbrev iR:Stmt:=top 51
structure Txt (K:PySem.W.Frag) (mg:Str→Option Value) (w:World):Prop where
 n_len:mg "len"=none
 bI:mg "isinstance"=none
 n_all:mg "all"=none
 dU:mg "range"=none
 n_str:mg "str"=none
 a2G:mg "bool"=none
 vT:mg "list"=none
 cB:mg "tuple"=none
 lU:mg "dict"=none
 a0A:mg "sorted"=none
 n_zip:mg "zip"=none
 n_max:mg "max"=none
 n_sum:mg "sum"=none
 wX:∃ u,mg "LETTERS"=some u∧RelV (.str "abcdefghijklmnopqrstuvwxyz") u
 xC:∃ u,mg "LONGEST"=some u∧RelV (.int 8) u
 vS:∃ a,mg "NO_NAMES"=some (.ref a)∧∀ H,SqT K H a [.str "all",.str "none",.str "way",.str "box",.str "pick"]
 pE:∃ u,mg "MOST_MAKERS"=some u∧RelV (.int 60) u
 pD:∃ u,mg "MOST_WITHIN"=some u∧RelV (.int 20) u
 rD:∃ u,mg "MOST_WORDS"=some u∧RelV (.int 8) u
 u6:∃ (a t0 t1 t2 t3 t4 t5 t6 t7:Addr),mg "PLACES"=some (.ref a)∧KD w K a [(.inr "get",.ref t0),(.inr "fn",.ref t1),(.inr "call",.ref t2),(.inr "box",.ref t3),(.inr "part",.ref t4),(.inr "pick",.ref t5),(.inr "split",.ref t6),(.inr "hold",.ref t7)]∧(∀ H,SqT K H t0 [.str "name"])∧(∀ H,SqT K H t1 [.str "name",.str "row",.str "maker"])∧(∀ H,SqT K H t2 [.str "maker",.str "maker"])∧(∀ H,SqT K H t3 [.str "parts"])∧(∀ H,SqT K H t4 [.str "maker",.str "name"])∧(∀ H,SqT K H t5 [.str "name",.str "maker"])∧(∀ H,SqT K H t6 [.str "maker",.str "cases"])∧(∀ H,SqT K H t7 [.str "maker",.str "row"])
 wP:FnT K mg "is_name" iA ["thing"]
 rV:FnT K mg "are_rising" cI ["words"]
 uO:FnT K mg "heads_of" gB ["T"]
 uQ:FnT K mg "is_maker" gH ["T","thing"]
 uA:FnT K mg "makers_in" fB ["maker"]
 tF:FnT K mg "is_formed" fH ["heads","thing"]
 zD:FnT K mg "is_fit" j3 ["heads","what","thing"]
 qF:FnT K mg "are_worded" cJ ["thing","length"]
 vV:FnT K mg "_law_fill" kC ["_law_cell","_law_at"]
 vR:FnT K mg "_law_next" kD ["_law_pen","_law_many"]
 rE:FnT K mg "_law_turned" iP ["_law_pen","_law_some"]
 uD:FnT K mg "_law_words" fG ["_law_pen"]
 uN:FnT K mg "_law_head" gJ ["_law_pen","_law_names","_law_ahead"]
 p8:FnT K mg "_law_telling" i6 ["_law_pen","_law_most"]
 y4:FnT K mg "_law_any" mH ["_law_pen","_law_told"]
 nK:FnT K mg "_law_row_here" fY ["_law_told","_law_name"]
 mY:FnT K mg "_law_head_here" fK ["_law_told","_law_name"]
 jX:FnT K mg "_law_maker_telling" dC ["_law_pen","_law_most"]
 oZ:FnT K mg "_law_endless" hZ []
 mD:FnT K mg "_law_name_bound" eZ ["_law_pen"]
 pN:FnT K mg "_law_for" eR ["_law_pen","_law_told","_law_name","_law_known","_law_deep"]
 oV:FnT K mg "_law_wrapped" dG ["_law_pen","_law_told","_law_name","_law_known","_law_deep"]
 m8:FnT K mg "_law_split_over" cC ["_law_pen","_law_told","_law_name","_law_known","_law_deep"]
 nM:FnT K mg "_law_many" fZ ["_law_maker"]
 u7:FnT K mg "_law_parts" cX ["_law_maker"]
 lP:FnT K mg "_law_small_maker" dW ["_law_pen","_law_told","_law_name"]
 oX:FnT K mg "_law_rebuilt" i4 ["_law_maker","_law_at","_law_one"]
 iH:FnT K mg "_law_bent_maker" eO ["_law_pen","_law_maker"]
 p9:FnT K mg "_law_name_is" dF ["_law_thing"]
 nW:FnT K mg "_law_rows_are" bM ["_law_thing","_law_size"]
 u3:FnT K mg "_law_is" j4 ["_law_names","_law_thing"]
 nU:FnT K mg "_law_deep" gI ["_law_maker"]
 wW:FnT K mg "_law_odd" eP ["_law_maker","_law_name"]
 mB:FnT K mg "_law_wrapped_in" eX ["_law_pen","_law_thing","_law_name"]
 iG:FnT K mg "_law_put_within" eW ["_law_pen","_law_maker","_law_thing"]
 nI:FnT K mg "_law_chain_of" gE ["_law_pen","_law_name","_law_many_here"]
 lL:FnT K mg "_law_deeper_ones" c9 ["_law_pen","_law_maker","_law_some","_law_name"]
 jW:FnT K mg "_law_doubled_right" d9 ["_law_pen","_law_told"]
 kH:FnT K mg "_law_bounds_right" bY ["_law_told"]
 t_law:FnT K mg "law" iR ["script"]
theorem uG:FnScope ["thing"] ["thing"] (defScope iA):=⟨rfl,rfl,rfl,by decide+kernel,rfl,by decide+kernel,by decide+kernel⟩
theorem oU:FnScope ["words"] ["words"] (defScope cI):=⟨rfl,rfl,rfl,by decide+kernel,rfl,by decide+kernel,by decide+kernel⟩
theorem sY:FnScope ["T"] ["T"] (defScope gB):=⟨rfl,rfl,rfl,by decide+kernel,rfl,by decide+kernel,by decide+kernel⟩
theorem cV:FnScope ["T","thing","heads","waiting","many","one","deep"] ["T","thing"] (defScope gH):=⟨rfl,rfl,rfl,by decide+kernel,rfl,by decide+kernel,by decide+kernel⟩
theorem fT:FnScope ["maker","found","what","one"] ["maker"] (defScope fB):=⟨rfl,rfl,rfl,by decide+kernel,rfl,by decide+kernel,by decide+kernel⟩
theorem rM:FnScope ["heads","thing"] ["heads","thing"] (defScope fH):=⟨rfl,rfl,rfl,by decide+kernel,rfl,by decide+kernel,by decide+kernel⟩
theorem xG:FnScope ["heads","what","thing"] ["heads","what","thing"] (defScope j3):=⟨rfl,rfl,rfl,by decide+kernel,rfl,by decide+kernel,by decide+kernel⟩
theorem pF:FnScope ["thing","length"] ["thing","length"] (defScope cJ):=⟨rfl,rfl,rfl,by decide+kernel,rfl,by decide+kernel,by decide+kernel⟩
theorem j6:FnScope ["_law_cell","_law_at","_law_x"] ["_law_cell","_law_at"] (defScope kC):=⟨rfl,rfl,rfl,by decide+kernel,rfl,by decide+kernel,by decide+kernel⟩
theorem dP:FnScope ["_law_pen","_law_many","_law_at","_law_cell","_law_found"] ["_law_pen","_law_many"] (defScope kD):=⟨rfl,rfl,rfl,by decide+kernel,rfl,by decide+kernel,by decide+kernel⟩
theorem hX:FnScope ["_law_pen","_law_some","_law_left","_law_found"] ["_law_pen","_law_some"] (defScope iP):=⟨rfl,rfl,rfl,by decide+kernel,rfl,by decide+kernel,by decide+kernel⟩
theorem qI:FnScope ["_law_pen"] ["_law_pen"] (defScope fG):=⟨rfl,rfl,rfl,by decide+kernel,rfl,by decide+kernel,by decide+kernel⟩
theorem jP:FnScope ["_law_pen","_law_names","_law_ahead","_law_way","_law_one"] ["_law_pen","_law_names","_law_ahead"] (defScope gJ):=⟨rfl,rfl,rfl,by decide+kernel,rfl,by decide+kernel,by decide+kernel⟩
theorem cU:FnScope ["_law_pen","_law_most","_law_size","_law_names","_law_rows","_law_k"] ["_law_pen","_law_most"] (defScope i6):=⟨rfl,rfl,rfl,by decide+kernel,rfl,by decide+kernel,by decide+kernel⟩
theorem uL:FnScope ["_law_pen","_law_told"] ["_law_pen","_law_told"] (defScope mH):=⟨rfl,rfl,rfl,by decide+kernel,rfl,by decide+kernel,by decide+kernel⟩
theorem fN:FnScope ["_law_told","_law_name","_law_rows"] ["_law_told","_law_name"] (defScope fY):=⟨rfl,rfl,rfl,by decide+kernel,rfl,by decide+kernel,by decide+kernel⟩
theorem lS:FnScope ["_law_told","_law_name"] ["_law_told","_law_name"] (defScope fK):=⟨rfl,rfl,rfl,by decide+kernel,rfl,by decide+kernel,by decide+kernel⟩
theorem iY:FnScope ["_law_pen","_law_most"] ["_law_pen","_law_most"] (defScope dC):=⟨rfl,rfl,rfl,by decide+kernel,rfl,by decide+kernel,by decide+kernel⟩
theorem jM:FnScope ["_law_self"] [] (defScope hZ):=⟨rfl,rfl,rfl,by decide+kernel,rfl,by decide+kernel,by decide+kernel⟩
theorem lB:FnScope ["_law_pen"] ["_law_pen"] (defScope eZ):=⟨rfl,rfl,rfl,by decide+kernel,rfl,by decide+kernel,by decide+kernel⟩
theorem bX:FnScope ["_law_pen","_law_told","_law_name","_law_known","_law_deep","_law_here","_law_row","_law_some","_law_inner","_law_bound","_law_made","_law_word","_law_other","_law_parts_here"] ["_law_pen","_law_told","_law_name","_law_known","_law_deep"] (defScope eR):=⟨rfl,rfl,rfl,by decide+kernel,rfl,by decide+kernel,by decide+kernel⟩
theorem bH:FnScope ["_law_pen","_law_told","_law_name","_law_known","_law_deep","_law_way","_law_made","_law_other","_law_inner","_law_bound","_law_first","_law_at","_law_cases"] ["_law_pen","_law_told","_law_name","_law_known","_law_deep"] (defScope dG):=⟨rfl,rfl,rfl,by decide+kernel,rfl,by decide+kernel,by decide+kernel⟩
theorem bA:FnScope ["_law_pen","_law_told","_law_name","_law_known","_law_deep","_law_rows","_law_row","_law_held","_law_cases","_law_word","_law_other","_law_bound","_law_inner","_law_made"] ["_law_pen","_law_told","_law_name","_law_known","_law_deep"] (defScope cC):=⟨rfl,rfl,rfl,by decide+kernel,rfl,by decide+kernel,by decide+kernel⟩
theorem mO:FnScope ["_law_maker"] ["_law_maker"] (defScope fZ):=⟨rfl,rfl,rfl,by decide+kernel,rfl,by decide+kernel,by decide+kernel⟩
theorem lK:FnScope ["_law_maker","_law_word"] ["_law_maker"] (defScope cX):=⟨rfl,rfl,rfl,by decide+kernel,rfl,by decide+kernel,by decide+kernel⟩
theorem dN:FnScope ["_law_pen","_law_told","_law_name","_law_deep","_law_found"] ["_law_pen","_law_told","_law_name"] (defScope dW):=⟨rfl,rfl,rfl,by decide+kernel,rfl,by decide+kernel,by decide+kernel⟩
theorem dY:FnScope ["_law_maker","_law_at","_law_one","_law_word","_law_rows"] ["_law_maker","_law_at","_law_one"] (defScope i4):=⟨rfl,rfl,rfl,by decide+kernel,rfl,by decide+kernel,by decide+kernel⟩
theorem bB:FnScope ["_law_pen","_law_maker","_law_parts_here","_law_at","_law_way","_law_some","_law_get","_law_e"] ["_law_pen","_law_maker"] (defScope eO):=⟨rfl,rfl,rfl,by decide+kernel,rfl,by decide+kernel,by decide+kernel⟩
theorem oO:FnScope ["_law_thing"] ["_law_thing"] (defScope dF):=⟨rfl,rfl,rfl,by decide+kernel,rfl,by decide+kernel,by decide+kernel⟩
theorem fM:FnScope ["_law_thing","_law_size","_law_one","_law_words_here"] ["_law_thing","_law_size"] (defScope bM):=⟨rfl,rfl,rfl,by decide+kernel,rfl,by decide+kernel,by decide+kernel⟩
theorem lX:FnScope ["_law_names","_law_thing","_law_word"] ["_law_names","_law_thing"] (defScope j4):=⟨rfl,rfl,rfl,by decide+kernel,rfl,by decide+kernel,by decide+kernel⟩
theorem mQ:FnScope ["_law_maker"] ["_law_maker"] (defScope gI):=⟨rfl,rfl,rfl,by decide+kernel,rfl,by decide+kernel,by decide+kernel⟩
theorem aY:FnScope ["_law_maker","_law_name","_law_e","_law_some","_law_wide","_law_cases","_law_odd_one"] ["_law_maker","_law_name"] (defScope eP):=⟨rfl,rfl,rfl,by decide+kernel,rfl,by decide+kernel,by decide+kernel⟩
theorem bV:FnScope ["_law_pen","_law_thing","_law_name","_law_e","_law_some"] ["_law_pen","_law_thing","_law_name"] (defScope eX):=⟨rfl,rfl,rfl,by decide+kernel,rfl,by decide+kernel,by decide+kernel⟩
theorem cR:FnScope ["_law_pen","_law_maker","_law_thing","_law_parts_here","_law_at"] ["_law_pen","_law_maker","_law_thing"] (defScope eW):=⟨rfl,rfl,rfl,by decide+kernel,rfl,by decide+kernel,by decide+kernel⟩
theorem dH:FnScope ["_law_pen","_law_name","_law_many_here","_law_found","_law_k"] ["_law_pen","_law_name","_law_many_here"] (defScope gE):=⟨rfl,rfl,rfl,by decide+kernel,rfl,by decide+kernel,by decide+kernel⟩
theorem bJ:FnScope ["_law_pen","_law_maker","_law_some","_law_name","_law_found","_law_turn","_law_thing","_law_k","_law_two"] ["_law_pen","_law_maker","_law_some","_law_name"] (defScope c9):=⟨rfl,rfl,rfl,by decide+kernel,rfl,by decide+kernel,by decide+kernel⟩
theorem bT:FnScope ["_law_pen","_law_told","_law_one","_law_k","_law_both"] ["_law_pen","_law_told"] (defScope d9):=⟨rfl,rfl,rfl,by decide+kernel,rfl,by decide+kernel,by decide+kernel⟩
theorem aX:FnScope ["_law_told","_law_chain","_law_k","_law_one","_law_wide","_law_sixty","_law_left","_law_rest","_law_just"] ["_law_told"] (defScope bY):=⟨rfl,rfl,rfl,by decide+kernel,rfl,by decide+kernel,by decide+kernel⟩
theorem dZ:FnScope ["script","_law_pen","_law_k","_law_told","_law_names","_law_maker","_law_some","_law_things","_law_thing","_law_due","_law_found"] ["script"] (defScope iR):=⟨rfl,rfl,rfl,by decide+kernel,rfl,by decide+kernel,by decide+kernel⟩
section
variable {P:Program} {w:World} {K:PySem.W.Frag} {mg:Str→Option Value} {base:Heap}
def spFill:Sp:=fun vs H Q _=>∃ c t:Int,vs=[.int c,.int t]∧(0≤t∧t < 1000000000)∧∀ r:Int,Q (.int r) H
theorem tW (T:Txt K mg w):FnK P w K mg base 1 "_law_fill" ["_law_cell","_law_at"] spFill:=by
 refine T.vV.okS j6 (fun vs H Q E h=>?_) (fun f cdv A outer s H vs Q E hr h=>?_)
 ·obtain ⟨c,t,rfl,_⟩:=h
  rfl
 ·obtain ⟨c,t,rfl,⟨ht0,ht1⟩,k⟩:=h
  refine ⟨_,(aD (bO (aM a1U (zv 0) (b8 a0D aF aF) (nomark _)) (aG (aO (zv 0))) aV)
   (aD (aL (i:=2) j6.nd rfl (Or.inl rfl) (b8 gU (b8 aS (b8 aS (b8 fA (b8 gU (zv 0) aF) aF) (b8 fA (zv 1) aF)) aF) aF))
   (aD (aL (i:=2) j6.nd rfl (Or.inl rfl) (b8 gU (b8 aS (b8 aS (b8 fA (zv 2) (zv 2)) (b8 fA aF (zv 2))) (zv 1)) aF))
   (aG (aO (b8 aS (b8 fA (zv 2) aF) (b8 gU (b8 aS (b8 fA (zv 2) (zv 2)) (b8 fA aF (zv 1))) aF))))))),?_⟩
  refine ⟨⟨by decide,by decide,by decide⟩,_,rfl,ite2 (fun hk=>k _) (fun hk=>?_)⟩
  refine ⟨by decide,.inl ⟨?_,?_⟩,.inl ⟨by omega,by omega⟩,by decide,?_⟩
  ·have:=Int.emod_nonneg c (show (2147483647:Int)≠0 by decide);omega
  ·have:=Int.emod_lt_of_pos c (show (0:Int) < 2147483647 by decide);omega
  generalize hx:(c % 2147483647*48271+t*69621+11) % 2147483629=x
  have hx0:0≤x:=by rw [← hx];exact Int.emod_nonneg _ (by decide)
  have hx1:x < 2147483629:=by rw [← hx];exact Int.emod_lt_of_pos _ (by decide)
  refine ⟨.inl ⟨by omega,by omega⟩,.inl ⟨by decide,by decide⟩,by decide,?_⟩
  generalize hy:(x*x+48271*x+t) % 2147483587=y
  have hy0:0≤y:=by rw [← hy];exact Int.emod_nonneg _ (by decide)
  have hy1:y < 2147483587:=by rw [← hy];exact Int.emod_lt_of_pos _ (by decide)
  exact ⟨.inl ⟨by omega,by omega⟩,.inl ⟨by omega,by omega⟩,.inl ⟨by decide,by decide⟩,by decide,k _⟩
def spNext (K:PySem.W.Frag):Sp:=fun vs H Q _=>∃ (p a:Addr) (ns:List Int) (m t x:Int),vs=[.ref p,.int m]∧H p=some (.lst [.ref a,.int t,.int x])∧(∀ o,SqL K (upd H p o) a (ns.map V.int))∧SqL K H a (ns.map V.int)∧(0≤t∧t < 1000000)∧(0 < m∧m < 1073741824)∧
 ∀ r t' x':Int,0≤r→r < m→0≤t'→t'≤t+1→Q (.int r) (upd H p (.lst [.ref a,.int t',.int x']))
theorem atI0 {α:Type} (x y z:α):atI [x,y,z] 0=some x:=rfl
theorem atI1 {α:Type} (x y z:α):atI [x,y,z] 1=some y:=rfl
theorem atI2 {α:Type} (x y z:α):atI [x,y,z] 2=some z:=rfl
theorem sQ (T:Txt K mg w):FnK P w K mg base 2 "_law_next" ["_law_pen","_law_many"] (spNext K):=by
 have uT:FnK P w K mg base 1 "_law_fill" ["_law_cell","_law_at"] spFill:=tW T
 refine T.vR.okS dP (fun vs H Q E h=>?_) (fun f cdv A outer s H vs Q E hr h=>?_)
 ·obtain ⟨p,a,ns,m,t,x,rfl,_⟩:=h
  rfl
 ·obtain ⟨p,a,ns,m,t,x,rfl,hp,hS',hS,⟨ht0,ht1⟩,⟨hm0,hm1⟩,k⟩:=h
  refine ⟨_,(aD (bO (aM m9 (b7 (b6 K) (zv 0) aF (fun _ _=>rfl)) (zv 1) (nomark _)) (aD (aL (i:=2) dP.nd rfl (Or.inl rfl) (b7 (b6 K) (zv 0) aF (fun _ _=>rfl)))
   (aD (aL (i:=3) dP.nd rfl (Or.inl rfl) aF)
   (aD (bO (aM m9 (zv 2) (aQ (aZ K) (by rfl) T.n_len PySem.boot_len (aH (b7 (b6 K) (zv 0) aF (fun _ _=>rfl)) sa_nil)) (nomark _)) (aG (aL (i:=3) dP.nd rfl (Or.inl rfl) (b7 (b6 K) (b7 (b6 K) (zv 0) aF (fun _ _=>rfl)) (zv 2) (fun _ _=>rfl)))) (aG (bO (aM hV (aQ (aZ K) (by rfl) T.n_len PySem.boot_len (aH (b7 (b6 K) (zv 0) aF (fun _ _=>rfl)) sa_nil)) aF (nomark _)) (aG (aL (i:=3) dP.nd rfl (Or.inl rfl) (b8 aS (b8 gU (b7 (b6 K) (b7 (b6 K) (zv 0) aF (fun _ _=>rfl)) (b8 gU (b8 fA (zv 2) aF) (aQ (aZ K) (by rfl) T.n_len PySem.boot_len (aH (b7 (b6 K) (zv 0) aF (fun _ _=>rfl)) sa_nil))) (fun _ _=>rfl)) aF) (b8 fA (zv 2) aF)))) aV)))
   (aD (lN (b8 aS (zv 2) aF) (pR (zv 0) aF i9))
   (aG (lN (aT uT (hr.mono (by decide)) (a9 (zv 3) (a9 (zv 2) sa_nil))) (pR (zv 0) aF i9))))))) aV)
   (aD (aL (i:=4) dP.nd rfl (Or.inl rfl) (b8 gU (b7 (b6 K) (zv 0) aF (fun _ _=>rfl)) (zv 1)))
   (aD (lN (b8 a0a (b7 (b6 K) (zv 0) aF (fun _ _=>rfl)) (zv 1)) (pR (zv 0) aF i9))
   (aG (aO (zv 4)))))),?_⟩
  refine aJ (fun σ' H1=>∃ (v2 v3:Option V) (t' x':Int),σ'=[some (.ref p),some (.int m),v2,v3,none]∧H1 p=some (.lst [.ref a,.int t',.int x'])∧(H1=H∨∃ o,H1=upd H p o)∧0≤t'∧t'≤t+1) ?_ ?_
  ·intro nx hnx
   refine ⟨_,.int x,.inl (SqL.of hp),atI2 _ _ _,_,rfl,ite2 (fun hk=>?_) (fun hk=>?_)⟩
   ·refine aI ⟨_,.int t,.inl (SqL.of hp),atI1 _ _ _,?_⟩
    refine xP ?_
    refine aJ (fun σ' H1=>H1=H∧∃ c:Int,σ'=[some (.ref p),some (.int m),some (.int t),some (.int c),none]) ?_ ?_
    ·intro nx' hnx'
     refine ⟨_,.ref a,.inl (SqL.of hp),atI0 _ _ _,.inl ⟨_,.inl hS,_,rfl,ite2 (fun hl=>?_) (fun hl=>?_)⟩⟩
     ·obtain ⟨c,hc1,hc2⟩:=kT (ns.map V.int) t ht0 (by have:=of_decide_eq_true hl;omega)
      have hl':t.toNat < ns.length:=by
       have:=of_decide_eq_true hl
       rw [List.length_map] at this;omega
      have hc:c=.int (ns[t.toNat]):=by
       rw [List.getElem?_map,List.getElem?_eq_getElem hl'] at hc1
       exact (Option.some.inj hc1).symm
      subst hc
      exact ⟨_,.ref a,.inl (SqL.of hp),atI0 _ _ _,_,_,.inl hS,hc2,hnx' _ _ ⟨rfl,_,rfl⟩⟩
     ·refine ⟨_,.ref a,.inl (SqL.of hp),atI0 _ _ _,.inl ⟨_,.inl hS,_,rfl,ite2 (fun hl2=>?_) (fun hl2=>?_)⟩⟩
      ·have hl2':=of_decide_eq_true hl2
       have hlp:0 < (ns.map V.int).length:=by omega
       have e0:=Int.emod_nonneg (t*7) (show ((ns.map V.int).length:Int)≠0 by omega)
       have e1:=Int.emod_lt_of_pos (t*7) (show (0:Int) < (ns.map V.int).length by omega)
       obtain ⟨c,hc1,hc2⟩:=kT (ns.map V.int) (t*7 % ((ns.map V.int).length:Int)) e0 e1
       have hl':(t*7 % ((ns.map V.int).length:Int)).toNat < ns.length:=by
        have e2:(ns.map V.int).length=ns.length:=List.length_map _
        omega
       have hc:c=.int (ns[(t*7 % ((ns.map V.int).length:Int)).toNat]):=by
        rw [List.getElem?_map,List.getElem?_eq_getElem hl'] at hc1
        exact (Option.some.inj hc1).symm
       subst hc
       refine ⟨_,.ref a,.inl (SqL.of hp),atI0 _ _ _,.inl ⟨by omega,by omega⟩,_,.ref a,.inl (SqL.of hp),atI0 _ _ _,.inl ⟨_,.inl hS,hl2',_,_,.inl hS,hc2,by decide,.inl ⟨by omega,by omega⟩,hnx' _ _ ⟨rfl,_,rfl⟩⟩⟩
      ·exact hnx' _ _ ⟨rfl,0,rfl⟩
    ·rintro σ' H1 ⟨rfl,c,rfl⟩
     refine ⟨p,_,1,1,rfl,rfl,hp,rfl,?_⟩
     refine ⟨c,t,rfl,⟨ht0,by omega⟩,fun r=>?_⟩
     refine ⟨p,_,2,2,rfl,rfl,aA,rfl,?_⟩
     rw [jR]
     exact hnx _ _ ⟨_,_,t+1,r,rfl,aA,.inr ⟨_,rfl⟩,by omega,by omega⟩
   ·exact hnx _ _ ⟨none,none,t,x,rfl,hp,.inl rfl,ht0,by omega⟩
  ·rintro σ' H1 ⟨v2,v3,t',x',rfl,h1,h2,h3,h4⟩
   refine ⟨_,.int x',.inl (SqL.of h1),atI2 _ _ _,hm0,?_⟩
   refine ⟨_,.int x',.inl (SqL.of h1),atI2 _ _ _,⟨hm0,hm1⟩,p,_,2,2,rfl,rfl,h1,rfl,?_⟩
   have e:∀ o,upd H1 p o=upd H p o:=fun o=>by
    rcases h2 with rfl | ⟨o',rfl⟩
    ·rfl
    ·exact jR
   rw [e]
   exact k _ t' _ (Int.emod_nonneg _ (by omega)) (Int.emod_lt_of_pos _ hm0) h3 h4
structure NxAt (K:PySem.W.Frag) (H0 H:Hp) (p:Addr) (t:Nat):Prop where
 ex:∃ (a:Addr) (ns:List Int) (u x:Int),H p=some (.lst [.ref a,.int u,.int x])∧(∀ H',Sm p p H0 H'→SqL K H' a (ns.map V.int))∧0≤u∧u≤(t:Int)
 sm:Sm p p H0 H
section
variable {H0 H H':Hp} {p D:Addr} {t u:Nat} {o:HO}
theorem NxAt.mono (h:NxAt K H0 H p t) (l:t≤u):NxAt K H0 H p u:=by
 obtain ⟨a,ns,y,x,h1,h2,h3,h4⟩:=h.ex
 exact ⟨⟨a,ns,y,x,h1,h2,h3,by omega⟩,h.sm⟩
theorem NxAt.same (h:NxAt K H0 H p t) (s:Same H H'):NxAt K H0 H' p t:=by
 obtain ⟨a,ns,y,x,h1,h2⟩:=h.ex
 exact ⟨⟨a,ns,y,x,s _ _ h1,h2⟩,h.sm.trans s.sm⟩
theorem NxAt.ne (h:NxAt K H0 H p t) (hD:H D=none):D≠p:=fun e=>by
 obtain ⟨_,_,_,_,z,_⟩:=h.ex
 rw [← e,hD] at z;cases z
theorem NxAt.free (h:NxAt K H0 H p t) (hD:H D=none):H0 D=none:=h.sm.free hD (h.ne hD) (h.ne hD)
theorem NxAt.put (h:NxAt K H0 H p t) (h1:D≠p) (h2:H0 D=none):NxAt K H0 (upd H D o) p t:=by
 obtain ⟨a,ns,y,x,e1,e2⟩:=h.ex
 exact ⟨⟨a,ns,y,x,by rw [aN h1.symm];exact e1,e2⟩,h.sm.upd h2⟩
theorem NxAt.ts (h:NxAt K H0 H p t) (s:Sm p p H H'):Tk H H':=fun b xs e=>by
 obtain ⟨_,_,_,_,z,_⟩:=h.ex
 have n:b≠p:=fun q=>by rw [q,z] at e;cases e
 exact s _ _ e n n
end
def spNx (K:PySem.W.Frag):Sp:=fun vs H Q _=>∃ (H0:Hp) (p:Addr) (m:Int) (t:Nat),vs=[.ref p,.int m]∧NxAt K H0 H p t∧(0 < m∧m < 1073741824)∧t < 900000∧
 ∀ (r:Int) (H':Hp),0≤r→r < m→NxAt K H0 H' p (t+1)→Sm p p H H'→Q (.int r) H'
theorem nA {n j:Nat} (h:j < n):ixN n (j:Int)=some j:=by
 unfold ixN
 rw [if_pos (by omega),if_pos (by omega)];simp
theorem oK {α:Type}:∀ {ls:List α} {i:Nat} (h:i < ls.length),(ls[i]::ls.eraseIdx i).Perm ls
 | x::r,0,_=>List.Perm.refl _
 | x::r,i+1,h=>by
  have ih:=oK (ls:=r) (i:=i) (by simpa using h)
  exact (List.Perm.swap _ _ _).trans (ih.cons x)
theorem bC (T:Txt K mg w):FnK P w K mg base 2 "_law_next" ["_law_pen","_law_many"] (spNx K):=(sQ T).imp fun vs H Q E h=>by
 obtain ⟨H0,p,m,t,rfl,hn,hm,ht,k⟩:=h
 obtain ⟨a,ns,u,x,h1,h2,h3,h4⟩:=hn.ex
 have sU:∀ o,Sm p p H (upd H p o):=fun o b u hb n _=>by rw [aN n];exact hb
 refine ⟨p,a,ns,m,u,x,rfl,h1,fun o=>h2 _ (hn.sm.trans (sU o)),h2 _ hn.sm,⟨h3,by omega⟩,hm,fun r t' x' r0 r1 t0 t1=>?_⟩
 exact k r _ r0 r1 ⟨⟨a,ns,t',x',aA,h2,t0,by push_cast;omega⟩,hn.sm.trans (sU _)⟩ (sU _)
def spTurn (K:PySem.W.Frag):Sp:=fun vs H Q _=>∃ (H0:Hp) (p a:Addr) (xs:List V) (t:Nat),vs=[.ref p,.ref a]∧NxAt K H0 H p t∧t+100 < 900000∧(SqL K H a xs∨SqT K H a xs)∧xs.length≤100∧
 ∀ (L:Addr) (ys:List V) (H':Hp),H L=none→H' L=some (.lst ys)→ys.Perm xs→NxAt K H0 H' p (t+100)→Sm p p H H'→Q (.ref L) H'
theorem pB (T:Txt K mg w):FnK P w K mg base 3 "_law_turned" ["_law_pen","_law_some"] (spTurn K):=by
 have aK:FnK P w K mg base 2 "_law_next" ["_law_pen","_law_many"] (spNx K):=bC T
 refine T.rE.okS hX (fun vs H Q E h=>?_) (fun f cdv A outer s H vs Q E hr h=>?_)
 ·obtain ⟨H0,p,a,xs,t,rfl,_⟩:=h
  rfl
 ·obtain ⟨H0,p,a,xs,t,rfl,hn,ht,ha,hx,k⟩:=h
  have hu:=bD hr
  have hu0:=Nat.lt_of_succ_lt (bD hr)
  have hsz:sizeLine=16777216:=sizeLine_eq
  refine ⟨_,(aD (aL (i:=2) hX.nd rfl (Or.inl rfl) (bL (mF K) (by rfl) T.vT PyProof.Rows.boot_list (a9 (zv 1) sa_nil)))
   (aD (aL (i:=3) hX.nd rfl (Or.inl rfl) (b4 sa_nil))
   (aD (rG PassesOwn.never (aM (j5 hu0) (zv 2) (b4 sa_nil) (nomark _)) (aG (cT (iT K PySem.F.plainAttrs_list PySem.F.slot_list_append PySem.F.type_list_append bQ (zv 3) (b5 (iT K PySem.F.plainAttrs_list PySem.F.slot_list_pop PySem.F.type_list_pop yO (zv 2) (b5 (aT aK (hr.mono (by decide)) (a9 (zv 0) (b5 (aQ (aZ K) (by rfl) T.n_len PySem.boot_len (a9 (zv 2) sa_nil)) sa_nil))) sa_nil)) sa_nil)))))
   (aG (aO (zv 3)))))),?_⟩
  refine aI ⟨a,xs,rfl,ha,fun l0 hl0=>?_⟩
  refine aI ⟨(show 0≤sizeLine by decide),fun l1 hl1=>?_⟩
  have s1:=Same.upd hl0 (.lst xs)
  have s2:=Same.upd hl1 (.lst [])
  have e0:l0≠p:=hn.ne hl0
  have e1:l1≠p:=(hn.same s1).ne hl1
  have n01:l0≠l1:=aU aA hl1
  have f0:=hn.free hl0
  have f1:=(hn.same s1).free hl1
  have g0:upd (upd H l0 (.lst xs)) l1 (.lst []) l0=some (.lst xs):=s2 _ _ aA
  have g1:upd (upd H l0 (.lst xs)) l1 (.lst []) l1=some (.lst []):=aA
  have hn2:=(hn.same s1).same s2
  have sm2:Sm p p H (upd (upd H l0 (.lst xs)) l1 (.lst [])):=(s1.trans s2).sm
  dsimp only
  generalize upd (upd H l0 (.lst xs)) l1 (.lst [])=H2 at g0 g1 hn2 sm2
  have fl0:H l0=none:=hl0
  have fl1:H l1=none:=s1.free hl1
  refine aJ (fun σ' H'=>∃ ys,σ'=[some (.ref p),some (.ref a),some (.ref l0),some (.ref l1)]∧H' l1=some (.lst ys)∧ys.Perm xs∧NxAt K H0 H' p (t+100)∧Sm p p H H') ?_ ?_
  ·intro nx hnx
   refine ⟨fun m σ' H'=>∃ (ls ys:List V),σ'=[some (.ref p),some (.ref a),some (.ref l0),some (.ref l1)]∧H' l0=some (.lst ls)∧H' l1=some (.lst ys)∧ls.length=m∧(ys++ls).Perm xs∧NxAt K H0 H' p (t+ys.length)∧Sm p p H H',⟨xs.length,xs,[],rfl,g0,g1,rfl,by simp,hn2,sm2⟩,?_⟩
   rintro m σ' H3 ⟨ls,ys,rfl,q0,q1,q2,q3,q4,q5⟩
   have hyl:ys.length+ls.length=xs.length:=by have:=q3.length_eq;rw [List.length_append] at this;exact this
   refine ⟨(show 0≤sizeLine by decide),fun b hb=>⟨aU q0 hb,ls,(Same.upd hb _) _ _ q0,aA,_,rfl,iteB (fun c=>?_) (fun c=>?_)⟩⟩
   ·have s3:=Same.upd hb (.lst [])
    have q4':=q4.same s3
    have q0':=s3 _ _ q0
    have q1':=s3 _ _ q1
    have q5':=q5.trans s3.sm
    generalize upd H3 b (.lst [])=H4 at q4' q0' q1' q5'
    have hpos:0 < ls.length:=by
     cases ls with
     | nil=>exact absurd c (by decide)
     | cons x r=>simp
    refine ⟨fun σ' H''=>∃ m',m' < m∧∃ (ls ys:List V),σ'=[some (.ref p),some (.ref a),some (.ref l0),some (.ref l1)]∧H'' l0=some (.lst ls)∧H'' l1=some (.lst ys)∧ls.length=m'∧(ys++ls).Perm xs∧NxAt K H0 H'' p (t+ys.length)∧Sm p p H H'',fun σ' H'' h=>h,?_⟩
    refine ⟨.inl ⟨rfl,ys,SqL.of q1'⟩,.inl ⟨rfl,ls,SqL.of q0'⟩,.inl ⟨ls,.inl (SqL.of q0'),H0,p,_,_,rfl,q4',⟨by omega,by omega⟩,by omega,fun r H5 r0 r1 hn5 sm5=>?_⟩⟩
    obtain ⟨i,rfl⟩:∃ i:Nat,r=(i:Int):=⟨r.toNat,by omega⟩
    have hi:i < ls.length:=by omega
    have p0:=sm5 _ _ q0' e0 e0
    have p1:=sm5 _ _ q1' e1 e1
    refine ⟨l0,ls,(i:Int),i,ls[i],rfl,rfl,p0,by omega,by omega,(rS (nA hi)).1,List.getElem?_eq_getElem hi,l1,ys,ls[i],rfl,rfl,by rw [aN n01.symm];exact p1,by omega,ls.length - 1,by omega,ls.eraseIdx i,ys++[ls[i]],rfl,by rw [aN n01];exact aA,aA,?_,?_,?_,(q5'.trans sm5).upd fl0 |>.upd fl1⟩
    ·rw [List.length_eraseIdx,if_pos hi]
    ·rw [List.append_assoc]
     exact ((oK hi).append_left ys).trans q3
    ·rw [List.length_append]
     exact (hn5.put e0 f0).put e1 f1
   ·have hnil:ls=[]:=by
     cases ls with
     | nil=>rfl
     | cons x r=>exact absurd c (by simp)
    subst hnil
    rw [List.append_nil] at q3
    have s3:=Same.upd hb (.lst [])
    exact hnx _ _ ⟨ys,rfl,s3 _ _ q1,q3,(q4.same s3).mono (by have:=q3.length_eq;omega),q5.trans s3.sm⟩
  ·rintro σ' H' ⟨ys,rfl,q1,q2,q3,q4⟩
   exact k l1 ys H' fl1 q1 q2 q3 q4
def baseA:List Str:=["a","ab","b","ba"]
def baseB:List Str:=["case","from","part","to"]
def WW:List Str:=baseA++baseB
theorem u9:∀ z∈WW,isName z=true∧Wd z:=fun z hz=>by
 simp only [WW,baseA,baseB,List.cons_append,List.nil_append,List.mem_cons,List.mem_nil_iff,or_false] at hz
 rcases hz with rfl | rfl | rfl | rfl | rfl | rfl | rfl | rfl<;>exact ⟨by decide+kernel,gA (by decide) (by decide)⟩
structure WN (os:List Str):Prop where
 ris:rising os=true
 len:os.length≤4
 ww:∀ z∈os,z∈WW
theorem pwA:baseA.Pairwise fun a b=>strLt a b=true:=by decide+kernel
theorem pwB:baseB.Pairwise fun a b=>strLt a b=true:=by decide+kernel
theorem WN.of {b os:List Str} (hb:b=baseA∨b=baseB) (s:os.Sublist b):WN os:=by
 rcases hb with rfl | rfl
 ·exact ⟨iK (pwA.sublist s),s.length_le,fun z hz=>List.mem_append.mpr (.inl (s.subset hz))⟩
 ·exact ⟨iK (pwB.sublist s),s.length_le,fun z hz=>List.mem_append.mpr (.inr (s.subset hz))⟩
def spWords (K:PySem.W.Frag):Sp:=fun vs H Q _=>∃ (H0:Hp) (p:Addr) (t:Nat),vs=[.ref p]∧NxAt K H0 H p t∧t+5 < 900000∧
 ∀ (L:Addr) (os:List Str) (H':Hp),H L=none→H' L=some (.lst (os.map V.str))→WN os→NxAt K H0 H' p (t+5)→Sm p p H H'→Q (.ref L) H'
theorem qR (T:Txt K mg w):FnK P w K mg base 3 "_law_words" ["_law_pen"] (spWords K):=by
 have aK:FnK P w K mg base 2 "_law_next" ["_law_pen","_law_many"] (spNx K):=bC T
 refine T.uD.okS qI (fun vs H Q E h=>?_) (fun f cdv A outer s H vs Q E hr h=>?_)
 ·obtain ⟨H0,p,t,rfl,_⟩:=h
  rfl
 ·obtain ⟨H0,p,t,rfl,hn,ht,k⟩:=h
  have hu:=bD hr
  have hu0:=Nat.lt_of_succ_lt (bD hr)
  have hsz:sizeLine=16777216:=sizeLine_eq
  refine ⟨_,(aG (aO (fU (own:=["_law_word"]) (idx:=[0]) (N':=["_law_word","_law_pen"]) (⟨rfl,by decide+kernel,by decide+kernel,(show ∀ y∈Scope.names _,y.2=NameKind.free→((defScope fG).names.lookup y.1=some NameKind.cell∨(defScope fG).names.lookup y.1=some NameKind.free) by decide+kernel),(show ∀ j∈([0]:List Nat),(Scope.names _).lookup ((["_law_pen"]:List Str).getD j "")=some NameKind.free∧j < (["_law_pen"]:List Str).length by decide+kernel),rfl⟩) rfl (kL K (b4 (a7 aC (a7 aC (a7 aC (a7 aC sa_nil)))))) (fun _ _ _ _ _ _=>(aR (i:=0) (show List.Nodup (["_law_word","_law_pen"]:List Str) by decide+kernel) rfl (Or.inl rfl))) (fun _ _ _ _ _ _=>(yA (aM (bF hu0) (aT aK (hr.mono (by decide)) (a9 (zv 1) (a7 aF sa_nil))) aF (nomark _)))) (fun _ _ _ _ _ _=>(zv 0))))),?_⟩
  refine ⟨(show 4≤sizeLine by decide),fun S hl1=>?_⟩
  have s1:=Same.upd hl1 (.lst [V.str "a",V.str "ab",V.str "b",V.str "ba"])
  have gS0:upd H S (.lst [V.str "a",V.str "ab",V.str "b",V.str "ba"]) S=some (.lst (baseA.map V.str)):=aA
  have hn4:=(hn.same s1).mono (u:=t+1) (by omega)
  have eS:S≠p:=hn.ne hl1
  generalize upd H S (.lst [V.str "a",V.str "ab",V.str "b",V.str "ba"])=H4 at s1 gS0 hn4 ⊢
  obtain ⟨bs,hb,gS⟩:∃ bs:List Str,(bs=baseA∨bs=baseB)∧H4 S=some (.lst (bs.map V.str)):=⟨baseA,.inl rfl,gS0⟩
  have hbl:bs.length=4:=by rcases hb with rfl | rfl<;>rfl
  have smA:Sm p p H H4:=s1.sm
  refine Or.inl ⟨⟨_,SqL.of gS⟩,fun D hD=>?_⟩
  have nDp:D≠p:=hn4.ne hD
  have nDS:D≠S:=fun e=>by rw [e,gS] at hD;cases hD
  have fD:H0 D=none:=hn4.free hD
  have hD0:H D=none:=smA.free hD nDp nDp
  refine d7 (cL (bs.map V.str)) (fun i τ H2=>∃ (v:Option V) (os:List Str),τ=[v,some (.ref p)]∧H2 D=some (.lst (os.map V.str))∧os.Sublist (bs.take i)∧H2 S=some (.lst (bs.map V.str))∧NxAt K H0 H2 p (t+1+i)∧Sm p p H H2)
   ⟨none,[],rfl,aA,List.Sublist.refl _,by rw [aN nDS.symm];exact gS,hn4.same (Same.upd hD _),smA.upd hD0⟩ (by rintro i τ H2 _ ⟨_,_,_,_,_,q,_⟩;exact SqL.of q) ?_ ?_
  ·rintro i τ H5 hi ⟨v,os,rfl,q1,q2,q4,q5,q6⟩
   rw [List.length_map] at hi
   rw [gY bs i hi]
   have hti:bs.take (i+1)=bs.take i++[bs.getD i ""]:=by
    rw [List.take_add_one,List.getD_eq_getElem?_getD,List.getElem?_eq_getElem hi];rfl
   generalize bs.getD i ""=z at hti
   have hol:os.length≤i:=by have:=q2.length_le;simp at this;omega
   refine ⟨H0,p,2,t+1+i,rfl,q5,⟨by decide,by decide⟩,by omega,fun r H6 r0 r1 hp3 sm3=>?_⟩
   refine ⟨rfl,_,rfl,?_⟩
   have g4:=sm3 _ _ q4 eS eS
   have g1:=sm3 _ _ q1 nDp nDp
   refine iteB (fun _=>?_) (fun _=>?_)
   ·exact ⟨_,g1,by rw [List.length_map];exact small1000 (by omega),_,os++[z],rfl,by rw [aA,List.map_append];rfl,by rw [hti];exact q2.append (List.Sublist.refl _),by rw [aN nDS.symm];exact g4,hp3.put nDp fD,(q6.trans sm3).upd hD0⟩
   ·exact ⟨_,os,rfl,g1,by rw [hti];exact q2.trans (List.sublist_append_left _ _),g4,hp3,q6.trans sm3⟩
  ·rintro τ H5 ⟨v,os,rfl,q1,q2,q4,q5,q6⟩
   rw [List.length_map] at q2 q5
   rw [List.take_length] at q2
   exact k D os H5 hD0 q1 (WN.of hb q2) (q5.mono (by omega)) q6
structure TxtsAt (H:Hp) (l:Addr) (ss:List Str):Prop where
 e:H l=some (.lst (ss.map V.str))
 ne:ss≠[]
 few:ss.length≤60
 wd:∀ z∈ss,Wd z
theorem zM {H0 H:Hp} {p l:Addr} {t:Nat} {ss:List Str} (h:TxtsAt H l ss) (hp:NxAt K H0 H p t):l≠p:=fun q=>by
 obtain ⟨_,_,_,_,z,_⟩:=hp.ex
 have e:=h.e
 have ne:=h.ne
 rw [q,z] at e
 cases ss with
 | nil=>exact ne rfl
 | cons a r=>cases e
theorem TxtsAt.nx {H0 H H':Hp} {p l:Addr} {t:Nat} {ss:List Str} (h:TxtsAt H l ss) (hp:NxAt K H0 H p t) (s:Sm p p H H'):TxtsAt H' l ss:=⟨s _ _ h.e (zM h hp) (zM h hp),h.ne,h.few,h.wd⟩
theorem TxtsAt.same {H H':Hp} {l:Addr} {ss:List Str} (h:TxtsAt H l ss) (s:Same H H'):TxtsAt H' l ss:=⟨s _ _ h.e,h.ne,h.few,h.wd⟩
theorem TxtsAt.at {H:Hp} {l:Addr} {ss:List Str} (h:TxtsAt H l ss) (r:Int) (h0:0≤r) (h1:r < ss.length):∃ z,atI (ss.map V.str) r=some (.str z)∧ss[r.toNat]? =some z∧Wd z:=by
 obtain ⟨c,hc1,hc2⟩:=kT (ss.map V.str) r h0 (by rw [List.length_map];exact h1)
 rw [List.getElem?_map] at hc1
 cases e:ss[r.toNat]? with
 | none=>rw [e] at hc1;cases hc1
 | some z=>
  rw [e] at hc1
  cases hc1
  exact ⟨z,hc2,rfl,h.wd z (List.mem_of_getElem? e)⟩
theorem TxtsAt.pos {H:Hp} {l:Addr} {ss:List Str} (h:TxtsAt H l ss):0 < ss.length:=List.length_pos_iff.mpr h.ne
def AhK (ns:List Str) (k:Nat) (o:Option Str):Prop:=∀ y,o=some y→∃ i,i < k∧ns[i]? =some y
def spHead5 (K:PySem.W.Frag):Sp:=fun vs H Q _=>∃ (H0:Hp) (p nm:Addr) (k t:Nat) (ns:List Str),vs=[.ref p,.ref nm,.int (k:Int)]∧NxAt K H0 H p t∧t+20 < 900000∧TxtsAt H nm ns∧(∀ z∈ns,isName z=true)∧k≤ns.length∧
 ∀ (v:V) (H':Hp),HG4 H' ns WW v (AhK ns k)→NxAt K H0 H' p (t+20)→Sm p p H H'→Q v H'
theorem tR (T:Txt K mg w):FnK P w K mg base 4 "_law_head" ["_law_pen","_law_names","_law_ahead"] (spHead5 K):=by
 have aK:FnK P w K mg base 2 "_law_next" ["_law_pen","_law_many"] (spNx K):=bC T
 have sM:FnK P w K mg base 3 "_law_words" ["_law_pen"] (spWords K):=qR T
 refine T.uN.okS jP (fun vs H Q E h=>?_) (fun f cdv A outer s H vs Q E hr h=>?_)
 ·obtain ⟨H0,p,nm,k,t,ns,rfl,_⟩:=h
  rfl
 ·obtain ⟨H0,p,nm,ka,t,ns,rfl,hn,ht,tn,hnn,hk,k⟩:=h
  have hu:=bD hr
  have hu0:=Nat.lt_of_succ_lt (bD hr)
  have hsz:sizeLine=16777216:=sizeLine_eq
  have npos:=tn.pos
  have nfew:=tn.few
  refine ⟨_,(aD (aL (i:=3) jP.nd rfl (Or.inl rfl) (aT aK (hr.mono (by decide)) (a9 (zv 0) (a7 aF sa_nil))))
   (aD (bO (aM m9 (zv 3) aF (nomark _)) (aG (aO (b7 (b6 K) (b4 (aB (aE (a7 aC sa_nil)) (aB (aE (a7 aC sa_nil)) sa_nil))) (zv 3) (fun _ _=>rfl)))) aV)
   (aD (bO (jZ (aM (bF hu0) (zv 3) aF (nomark _)) (hU (aM hV (zv 2) aF (nomark _)))).pt (aG (aO (aE (a7 aC (aH (b7 (b6 K) (zv 1) (aT aK (hr.mono (by decide)) (a9 (zv 0) (a9 (zv 2) sa_nil))) (fun _ _=>rfl)) sa_nil))))) aV)
   (aD (bO (aM m9 (zv 3) aF (nomark _)) (aD (aL (i:=4) jP.nd rfl (Or.inl rfl) (b7 (b6 K) (zv 1) (aT aK (hr.mono (by decide)) (a9 (zv 0) (b5 (aQ (aZ K) (by rfl) T.n_len PySem.boot_len (a9 (zv 1) sa_nil)) sa_nil))) (fun _ _=>rfl)))
   (aG (aO (aE (a7 aC (a9 (zv 4) (aH (b7 (b6 K) (zv 1) (aT aK (hr.mono (by decide)) (a9 (zv 0) (b5 (aQ (aZ K) (by rfl) T.n_len PySem.boot_len (a9 (zv 1) sa_nil)) sa_nil))) (fun _ _=>rfl)) sa_nil))))))) aV)
   (aG (aO (aE (aH (b7 (b6 K) (b4 (a7 aC (a7 aC sa_nil))) (b8 gU (zv 3) aF) (fun _ _=>rfl)) (b5 (bL (cO K) (by rfl) T.cB PyProof.Rows.boot_tuple (b9 (fU (own:=["_law_word"]) (idx:=[0,1]) (N':=["_law_word","_law_pen","_law_names"]) (⟨rfl,by decide+kernel,by decide+kernel,(show ∀ y∈Scope.names _,y.2=NameKind.free→((defScope gJ).names.lookup y.1=some NameKind.cell∨(defScope gJ).names.lookup y.1=some NameKind.free) by decide+kernel),(show ∀ j∈([0,1]:List Nat),(Scope.names _).lookup ((["_law_pen","_law_names","_law_ahead","_law_way","_law_one"]:List Str).getD j "")=some NameKind.free∧j < (["_law_pen","_law_names","_law_ahead","_law_way","_law_one"]:List Str).length by decide+kernel),rfl⟩) rfl (kL K (aT sM (hr.mono (by decide)) (a9 (zv 0) sa_nil))) (fun _ _ _ _ _ _=>(aR (i:=0) (show List.Nodup (["_law_word","_law_pen","_law_names"]:List Str) by decide+kernel) rfl (Or.inl rfl))) (fun _ _ _ _ _ _=>cA) (fun _ _ _ _ _ _=>(aE (a9 (zv 0) (aH (b7 (b6 K) (zv 2) (aT aK (hr.mono (by decide)) (a9 (zv 1) (b5 (aQ (aZ K) (by rfl) T.n_len PySem.boot_len (a9 (zv 2) sa_nil)) sa_nil))) (fun _ _=>rfl)) sa_nil))))) sa_nil)) sa_nil))))))))),?_⟩
  refine aI ⟨H0,p,10,t,rfl,hn,⟨by decide,by decide⟩,by omega,fun wy H1 w0 w1 hn1 sm1=>?_⟩
  have tn1:=tn.nx hn sm1
  refine aJ (fun σ' H'=>σ'=[some (.ref p),some (.ref nm),some (.int (ka:Int)),some (.int wy),none]∧H1=H') ?_ ?_
  ·intro nx hnx
   refine ⟨_,rfl,iteB (fun c1=>?_) (fun c1=>hnx _ _ ⟨rfl,rfl⟩)⟩
   have c1':wy < 2:=of_decide_eq_true c1
   refine ⟨(show 1≤sizeLine by decide),fun q1 hq1=>⟨(show 1≤sizeLine by decide),fun q2 hq2=>⟨(show 2≤sizeLine by decide),fun O hO=>?_⟩⟩⟩
   have s1:=Same.upd hq1 (.tup [.str "all"])
   have s2:=Same.upd hq2 (.tup [.str "none"])
   have s3:=Same.upd hO (.lst [.ref q1,.ref q2])
   have sA:=(s1.trans s2).trans s3
   have g1:=s3 _ _ (s2 _ _ (aA:upd H1 q1 (.tup [.str "all"]) q1=some (.tup [.str "all"])))
   have g2:=s3 _ _ (aA:upd (upd H1 q1 (.tup [.str "all"])) q2 (.tup [.str "none"]) q2=some (.tup [.str "none"]))
   rcases (show wy=0∨wy=1 by omega) with rfl | rfl
   ·exact ⟨_,.ref q1,.inl (SqL.of aA),rfl,k _ _ (a0p g1 (fun _ h=>nomatch h)) ((hn1.same sA).mono (by omega)) (sm1.trans sA.sm)⟩
   ·exact ⟨_,.ref q2,.inl (SqL.of aA),rfl,k _ _ (yG g2 (fun _ h=>nomatch h)) ((hn1.same sA).mono (by omega)) (sm1.trans sA.sm)⟩
  rintro σ' H' ⟨rfl,rfl⟩
  refine aJ (fun σ' H'=>σ'=[some (.ref p),some (.ref nm),some (.int (ka:Int)),some (.int wy),none]∧H1=H') ?_ ?_
  ·intro nx hnx
   refine ⟨rfl,_,rfl,iteB (fun h2=>⟨_,rfl,iteB (fun h3=>?_) (fun _=>hnx _ _ ⟨rfl,rfl⟩)⟩) (fun h2=>iteB (fun c=>absurd c (by decide)) fun _=>hnx _ _ ⟨rfl,rfl⟩)⟩
   have h3':(0:Int) < (ka:Int):=of_decide_eq_true h3
   refine ⟨H0,p,(ka:Int),_,rfl,hn1,⟨by omega,by omega⟩,by omega,fun r H2 r0 r1 hn2 sm2=>?_⟩
   have tn2:=tn1.nx hn1 sm2
   obtain ⟨y,hya,hyi,hyw⟩:=tn2.at r r0 (by omega)
   refine ⟨_,_,.inl (SqL.of tn2.e),hya,(show 2≤sizeLine by decide),fun c hc=>?_⟩
   refine k _ _ (a2F aA (hnn _ (List.mem_of_getElem? hyi)) (List.mem_of_getElem? hyi) (fun y' e=>?_)) ((hn2.same (Same.upd hc _)).mono (by omega)) ((sm1.trans sm2).trans (Same.upd hc _).sm)
   cases e
   exact ⟨r.toNat,by omega,hyi⟩
  rintro σ' H' ⟨rfl,rfl⟩
  refine aJ (fun σ' H'=>σ'=[some (.ref p),some (.ref nm),some (.int (ka:Int)),some (.int wy),none]∧H1=H') ?_ ?_
  ·intro nx hnx
   refine ⟨_,rfl,iteB (fun c1=>?_) (fun c1=>hnx _ _ ⟨rfl,rfl⟩)⟩
   refine aI (.inl ⟨_,.inl (SqL.of tn1.e),H0,p,_,_,rfl,hn1,⟨by rw [List.length_map];omega,by rw [List.length_map];omega⟩,by omega,fun r H2 r0 r1 hn2 sm2=>?_⟩)
   rw [List.length_map] at r1
   have tn2:=tn1.nx hn1 sm2
   obtain ⟨x,hxa,hxi,hxw⟩:=tn2.at r r0 r1
   refine ⟨_,_,.inl (SqL.of tn2.e),hxa,.inl ⟨_,.inl (SqL.of tn2.e),H0,p,_,_,rfl,hn2,⟨by rw [List.length_map];omega,by rw [List.length_map];omega⟩,by omega,fun r2 H3 b0 b1 hn3 sm3=>?_⟩⟩
   rw [List.length_map] at b1
   have tn3:=tn2.nx hn2 sm3
   obtain ⟨y,hya,hyi,hyw⟩:=tn3.at r2 b0 b1
   refine ⟨_,_,.inl (SqL.of tn3.e),hya,(show 3≤sizeLine by decide),fun b hb=>?_⟩
   exact k _ _ (a0l aA (hnn _ (List.mem_of_getElem? hxi)) (hnn _ (List.mem_of_getElem? hyi)) (List.mem_of_getElem? hxi) (List.mem_of_getElem? hyi) (fun _ h=>nomatch h)) ((hn3.same (Same.upd hb _)).mono (by omega)) (((sm1.trans sm2).trans sm3).trans (Same.upd hb _).sm)
  rintro σ' H' ⟨rfl,rfl⟩
  refine ⟨(show 2≤sizeLine by decide),fun O hO=>?_⟩
  have sO:=Same.upd hO (.lst [.str "box",.str "pick"])
  have gO:upd H1 O (.lst [.str "box",.str "pick"]) O=some (.lst [.str "box",.str "pick"]):=aA
  have hnO:=hn1.same sO
  have tnO:=tn1.same sO
  have smO:=sm1.trans sO.sm
  dsimp only
  generalize upd H1 O (.lst [.str "box",.str "pick"])=H2 at sO gO hnO tnO smO
  obtain ⟨so,hat,hso⟩:∃ so:Str,atI [V.str "box",V.str "pick"] (wy % 2)=some (.str so)∧(so="box"∨so="pick"):=by
   rcases (show wy % 2=0∨wy % 2=1 by omega) with e | e
   ·rw [e];exact ⟨"box",rfl,.inl rfl⟩
   ·rw [e];exact ⟨"pick",rfl,.inr rfl⟩
  refine ⟨(show (0:Int) < 2 by decide),_,_,.inl (SqL.of gO),hat,H0,p,_,rfl,hnO,by omega,fun D os H3 hD0 q1 wn q5 sm3=>?_⟩
  have q6:Sm p p H H3:=smO.trans sm3
  have tn3:=tnO.nx hnO sm3
  have hol:=wn.len
  have nDp:D≠p:=hnO.ne hD0
  refine Or.inl ⟨⟨_,SqL.of q1⟩,fun D2 hD2=>?_⟩
  have n2p:D2≠p:=q5.ne hD2
  have n2D:D2≠D:=fun e=>by rw [e,q1] at hD2;cases hD2
  have hD20:H D2=none:=q6.free hD2 n2p n2p
  have f2:H0 D2=none:=q5.free hD2
  have n2n:D2≠nm:=fun e=>by rw [e,tn3.e] at hD2;cases hD2
  refine d7 (cL (os.map V.str)) (fun i τ H3=>∃ (v:Option V) (xs:List V) (rs:List (Str×V)),τ=[v,some (.ref p),some (.ref nm)]∧H3 D2=some (.lst xs)∧PairsAt H3 xs (rowsK rs)∧rs.map (·.1)=os.take i∧(∀ r∈rs,∃ y,r.2=.str y∧y∈ns∧Wd y)∧H3 D=some (.lst (os.map V.str))∧NxAt K H0 H3 p (t+1+5+i)∧Sm p p H H3∧TxtsAt H3 nm ns)
   ⟨none,[],[],rfl,aA,pT,rfl,(fun _ h=>nomatch h),by rw [aN n2D.symm];exact q1,(q5.same (Same.upd hD2 _)).mono (by omega),q6.upd hD20,tn3.same (Same.upd hD2 _)⟩ (by rintro i τ H2 _ ⟨_,_,_,_,_,_,_,_,q,_⟩;exact SqL.of q) ?_ ?_
  ·rintro i τ H4 hi ⟨v,xs,rs,rfl,r1,r2,r2n,r3,r4,r5,r6,tn4⟩
   rw [List.length_map] at hi
   rw [gY os i hi]
   have hti:os.take (i+1)=os.take i++[os.getD i ""]:=by
    rw [List.take_add_one,List.getD_eq_getElem?_getD,List.getElem?_eq_getElem hi];rfl
   generalize os.getD i ""=z at hti
   have hrl:rs.length=i:=by have:=congrArg List.length r2n;simp at this;omega
   have hxl:xs.length=i:=by have:=r2.1;simp at this;omega
   refine .inl ⟨_,.inl (SqL.of tn4.e),H0,p,_,t+1+5+i,rfl,r5,⟨by rw [List.length_map];omega,by rw [List.length_map];omega⟩,by omega,fun r H5 a0 a1 hp4 sm4=>?_⟩
   rw [List.length_map] at a1
   have tn5:=tn4.nx r5 sm4
   obtain ⟨n,hna,hni,hnw⟩:=tn5.at r a0 a1
   refine ⟨_,_,.inl (SqL.of tn5.e),hna,(show 2≤sizeLine by decide),fun b hb=>?_⟩
   have g1:=sm4 _ _ r1 n2p n2p
   have g4:=sm4 _ _ r4 nDp nDp
   have nbD:D2≠b:=aU g1 hb
   have nbD':D≠b:=aU g4 hb
   have tk4:Tk H4 H5:=r5.ts sm4
   have tk5:Tk H4 (upd (upd H5 b (.tup [.str z,.str n])) D2 (.lst (xs++[.ref b]))):=(tk4.trans (Same.upd hb _).ts).set (by rw [aN nbD];exact g1) (by intro _ z;cases z)
   have hb5:upd (upd H5 b (.tup [.str z,.str n])) D2 (.lst (xs++[.ref b])) b=some (.tup [.str z,.str n]):=by rw [aN nbD.symm];exact aA
   have tn6:TxtsAt (upd (upd H5 b (.tup [.str z,.str n])) D2 (.lst (xs++[.ref b]))) nm ns:=⟨by rw [aN n2n.symm];exact (Same.upd hb _) _ _ tn5.e,tn5.ne,tn5.few,tn5.wd⟩
   refine ⟨xs,by rw [aN nbD];exact g1,by omega,_,xs++[.ref b],rs++[(z,.str n)],rfl,aA,nP (r2.ts tk5) hb5,by rw [List.map_append,r2n,hti];rfl,fun r' hr'=>?_,by rw [aN n2D.symm,aN nbD'];exact g4,((hp4.same (Same.upd hb _)).put n2p f2),((r6.trans sm4).trans (Same.upd hb _).sm).upd hD20,tn6⟩
   rcases List.mem_append.mp hr' with hx | hx
   ·exact r3 r' hx
   ·rw [List.mem_singleton.mp hx]
    exact ⟨n,rfl,List.mem_of_getElem? hni,hnw⟩
  ·rintro τ H4 ⟨v,xs,rs,rfl,r1,r2,r2n,r3,r4,r5,r6,tn4⟩
   rw [List.length_map] at r2n r5
   rw [List.take_length] at r2n
   have hrl:rs.length=os.length:=by rw [← r2n,List.length_map]
   have hxl:xs.length=os.length:=by have:=r2.1;simp at this;omega
   refine ⟨D2,xs,rfl,.inl ⟨SqL.of r1,fun c hc=>⟨(show 2≤sizeLine by decide),fun b hb=>?_⟩⟩⟩
   have s5:=Same.upd hc (.tup xs)
   have s6:=Same.upd hb (.tup [.str so,.ref c])
   have gc:=s6 _ _ (aA:upd H4 c (.tup xs) c=some (.tup xs))
   have hmem:∀ r'∈rs,r'.1∈os:=fun r' hr'=>by rw [← r2n];exact List.mem_map.mpr ⟨r',hr',rfl⟩
   have tk:=s5.ts.trans s6.ts
   have hprs:=a1p (r2.ts tk) (fun r' hr'=>(u9 _ (wn.ww _ (hmem r' hr'))).1) (fun r' hr'=>by obtain ⟨y,e1,e2,_⟩:=r3 r' hr';exact ⟨y,e1,e2,hnn y e2⟩) (by rw [r2n];exact wn.ris)
   exact k _ _ (vL hso aA gc (by omega) hprs (fun q hq=>by obtain ⟨q',hq',rfl⟩:=List.mem_map.mp hq;exact wn.ww _ (hmem q' hq')) (fun _ h=>nomatch h)) ((r5.same (s5.trans s6)).mono (by omega)) (r6.trans (s5.trans s6).sm)
def N8:List Str:=["x","xa","xb","y","ya","z","ka","kb"]
theorem yX:∀ z∈N8,isName z=true∧Wd z:=fun z hz=>by
 simp only [N8,List.mem_cons,List.mem_nil_iff,or_false] at hz
 rcases hz with rfl | rfl | rfl | rfl | rfl | rfl | rfl | rfl<;>exact ⟨by decide+kernel,gA (by decide) (by decide)⟩
theorem a2e:N8.Nodup:=by decide+kernel
theorem wV {ys:List V} {l:List Str} (h:ys.Perm (l.map V.str)):∃ zs:List Str,zs.Perm l∧ys=zs.map V.str:=by
 refine ⟨ys.map strV,?_,?_⟩
 ·have:=h.map strV
  rw [List.map_map] at this
  have e:(strV∘V.str)=(id:Str→Str):=rfl
  rw [e,List.map_id] at this
  exact this
 ·rw [List.map_map]
  have:∀ y∈ys,(V.str∘strV) y=y:=fun y hy=>by
   obtain ⟨z,_,rfl⟩:=List.mem_map.mp (h.mem_iff.mp hy)
   rfl
  rw [List.map_congr_left this,List.map_id']
theorem t9 {α β:Type} {R:α→β→Prop} {xs ys:List α} (p:ys.Perm xs):∀ {rs:List β},Paired R xs rs→∃ rs',rs'.Perm rs∧Paired R ys rs':=by
 induction p with
 | nil=>intro rs h;cases h;exact ⟨[],.refl _,.nil⟩
 | cons x p ih=>
  intro rs h
  cases h with
  | cons a b=>
   obtain ⟨rs',q1,q2⟩:=ih b
   exact ⟨_::rs',q1.cons _,.cons a q2⟩
 | swap x y l=>
  intro rs h
  cases h with
  | cons a h=>
   cases h with
   | cons b h=>exact ⟨_::_::_,.swap _ _ _,.cons b (.cons a h)⟩
 | trans p1 p2 ih1 ih2=>
  intro rs h
  obtain ⟨r1,a1,b1⟩:=ih2 h
  obtain ⟨r2,a2,b2⟩:=ih1 b1
  exact ⟨r2,a2.trans a1,b2⟩
theorem lA {α β γ:Type} {R:α→β→Prop} {g:γ→β}:∀ {xs:List α} {rs:List γ},Paired R xs (rs.map g)→Paired (fun x r=>R x (g r)) xs rs
 | [],[],.nil=>.nil
 | _::_,_::_,.cons a b=>.cons a (lA b)
theorem nZ {α β γ:Type} {R:α→β→Prop} {g:γ→β}:∀ {xs:List α} {rs:List γ},Paired (fun x r=>R x (g r)) xs rs→Paired R xs (rs.map g)
 | [],[],.nil=>.nil
 | _::_,_::_,.cons a b=>.cons a (nZ b)
theorem uZ {H:Hp} {xs ys:List V} {rs:List (Str×V)} (h:PairsAt H xs (rowsK rs)) (p:ys.Perm xs):∃ rs',rs'.Perm rs∧PairsAt H ys (rowsK rs'):=by
 obtain ⟨rs',q1,q2⟩:=t9 p (lA (iC.mp h))
 exact ⟨rs',q1,iC.mpr (nZ q2)⟩
def spTelling5 (K:PySem.W.Frag):Sp:=fun vs H Q _=>∃ (H0:Hp) (p:Addr) (most:Int) (t:Nat),vs=[.ref p,.int most]∧NxAt K H0 H p t∧t+600 < 900000∧(1≤most∧most≤8)∧
 ∀ (a:Addr) (xs:List V) (rows:List Rw2) (ns:List Str) (H':Hp),RT H' a xs rows ns WW→(ns.length:Int)≤most→(∀ n∈ns,n∈N8)→NxAt K H0 H' p (t+600)→Sm p p H H'→Q (.ref a) H'
theorem nY (T:Txt K mg w):FnK P w K mg base 5 "_law_telling" ["_law_pen","_law_most"] (spTelling5 K):=by
 have aK:FnK P w K mg base 2 "_law_next" ["_law_pen","_law_many"] (spNx K):=bC T
 have lQ:FnK P w K mg base 3 "_law_turned" ["_law_pen","_law_some"] (spTurn K):=pB T
 have vG:FnK P w K mg base 4 "_law_head" ["_law_pen","_law_names","_law_ahead"] (spHead5 K):=tR T
 refine T.p8.okS cU (fun vs H Q E h=>?_) (fun f cdv A outer s H vs Q E hr h=>?_)
 ·obtain ⟨H0,p,most,t,rfl,_⟩:=h
  rfl
 ·obtain ⟨H0,p,most,t,rfl,hn,ht,⟨hm1,hm2⟩,k⟩:=h
  have hu:=bD hr
  have hu0:=Nat.lt_of_succ_lt (bD hr)
  have hsz:sizeLine=16777216:=sizeLine_eq
  refine ⟨_,(aD (aL (i:=2) cU.nd rfl (Or.inl rfl) (b8 aS aF (aT aK (hr.mono (by decide)) (a9 (zv 0) (a9 (zv 1) sa_nil)))))
   (aD (aL (i:=3) cU.nd rfl (Or.inl rfl) (dI (mV K) (aT lQ (hr.mono (by decide)) (a9 (zv 0) (f9 (b4 (a7 aC (a7 aC (a7 aC (a7 aC (a7 aC (a7 aC (a7 aC (a7 aC sa_nil))))))))) sa_nil))) dJ (dM (zv 2))))
   (aD (aL (i:=4) cU.nd rfl (Or.inl rfl) (b4 sa_nil))
   (aD (gX PassesOwn.never rfl (dD (by rfl) T.dU (a9 (zv 2) sa_nil)) (aR (i:=5) cU.nd rfl (Or.inl rfl)) (aG (cT (iT K PySem.F.plainAttrs_list PySem.F.slot_list_append PySem.F.type_list_append bQ (zv 4) (aB (aE (aH (b7 (b6 K) (zv 3) (zv 5) (fun _ _=>rfl)) (b5 (aT vG (hr.mono (by decide)) (a9 (zv 0) (a9 (zv 3) (a9 (zv 5) sa_nil)))) sa_nil))) sa_nil)))))
   (aG (aO (bL (cO K) (by rfl) T.cB PyProof.Rows.boot_tuple (b5 (aT lQ (hr.mono (by decide)) (a9 (zv 0) (a9 (zv 4) sa_nil))) sa_nil)))))))),?_⟩
  refine aI ⟨H0,p,most,t,rfl,hn,⟨by omega,by omega⟩,by omega,fun r H1 r0 r1 hn1 sm1=>?_⟩
  obtain ⟨i0,rfl⟩:∃ i:Nat,r=(i:Int):=⟨r.toNat,by omega⟩
  refine aI ⟨(show 8≤sizeLine by decide),fun l1 hl1=>?_⟩
  have s1:=Same.upd hl1 (.lst (N8.map V.str))
  have g1:upd H1 l1 (.lst (N8.map V.str)) l1=some (.lst (N8.map V.str)):=aA
  have hn2:=hn1.same s1
  have sm2:=sm1.trans s1.sm
  refine ⟨H0,p,l1,N8.map V.str,_,rfl,hn2,by omega,.inl (SqL.of g1),(by decide),fun L ys H2 hL gL pm hn3 sm3=>?_⟩
  obtain ⟨zs,zpm,rfl⟩:=wV pm
  have smA:=sm2.trans sm3
  have hzl:zs.length=8:=zpm.length_eq
  refine ⟨1+(i0:Int),rfl,Or.inr (Or.inl ⟨L,zs.map V.str,rfl,SqL.of gL,fun N hN=>?_⟩)⟩
  have ecut:cutV (zs.map V.str) none (some (1+(i0:Int)))=(zs.take (1+i0)).map V.str:=by
   rw [show (1+(i0:Int))=((1+i0:Nat):Int) by omega,qN,List.map_take]
  rw [ecut]
  have sN:=Same.upd hN (.lst ((zs.take (1+i0)).map V.str))
  have gN:upd H2 N (.lst ((zs.take (1+i0)).map V.str)) N=some (.lst ((zs.take (1+i0)).map V.str)):=aA
  have hn4:=hn3.same sN
  have smB:=smA.trans sN.sm
  generalize upd H2 N (.lst ((zs.take (1+i0)).map V.str))=H3 at sN gN hn4 smB
  have nsl:(zs.take (1+i0)).length=1+i0:=by rw [List.length_take];omega
  have nok:∀ n∈zs.take (1+i0),n∈N8:=fun n hn=>zpm.mem_iff.mp (List.mem_of_mem_take hn)
  have nnd:(zs.take (1+i0)).Nodup:=(zpm.nodup_iff.mpr a2e).sublist (List.take_sublist _ _)
  generalize zs.take (1+i0)=ns at gN nsl nok nnd
  have tn:TxtsAt H3 N ns:=⟨gN,by intro e;rw [e] at nsl;simp at nsl;omega,by omega,fun n hn=>(yX n (nok n hn)).2⟩
  refine aI ⟨(show 0≤sizeLine by decide),fun R hR=>?_⟩
  have nRp:R≠p:=hn4.ne hR
  have nRN:R≠N:=fun e=>by rw [e,gN] at hR;cases hR
  have hR0:H R=none:=smB.free hR nRp nRp
  have fR:H0 R=none:=hn4.free hR
  have sR:=Same.upd hR (.lst [])
  refine aJ (fun σ' H'=>∃ (v5:Option V) (xs:List V) (rs:List (Str×V)),σ'=[some (.ref p),some (.int most),some (.int (1+(i0:Int))),some (.ref N),some (.ref R),v5]∧H' R=some (.lst xs)∧PairsAt H' xs (rowsK rs)∧rs.map (·.1)=ns∧RowsG H' ns WW rs∧NxAt K H0 H' p (t+101+20*8)∧Sm p p H H') ?_ ?_
  ·intro nx hnx
   refine ⟨1+(i0:Int),rfl,by omega,by omega,eU (cG 0 (1+(i0:Int)).toNat) (fun i σ' H'=>∃ (v5:Option V) (xs:List V) (rs:List (Str×V)),σ'=[some (.ref p),some (.int most),some (.int (1+(i0:Int))),some (.ref N),some (.ref R),v5]∧H' R=some (.lst xs)∧PairsAt H' xs (rowsK rs)∧rs.map (·.1)=ns.take i∧RowsG H' ns WW rs∧TxtsAt H' N ns∧NxAt K H0 H' p (t+101+20*i)∧Sm p p H H')
    ⟨none,[],[],rfl,aA,pT,rfl,⟨(fun _ h=>nomatch h),(fun _ h=>nomatch h)⟩,tn.same sR,(hn4.same sR).mono (by omega),smB.trans sR.sm⟩ (fun _ _ _ _ _=>True.intro) ?_ ?_⟩
   ·rintro i σ' H4 hi ⟨v5,xs,rs,rfl,q1,q2,q3,q4,tn4,q6,q7⟩
    have hi':i < ns.length:=by omega
    have e0:(0+(i:Int))=(i:Int):=by omega
    rw [e0]
    have hni:ns[i]? =some ns[i]:=List.getElem?_eq_getElem hi'
    have hnm:ns[i]∈ns:=List.getElem_mem hi'
    generalize ns[i]=nm at hni hnm
    have hxl:xs.length=i:=by
     have h1:=q2.1
     have h2:=congrArg List.length q3
     simp at h1 h2
     omega
    refine ⟨.inl ⟨rfl,_,SqL.of q1⟩,_,.str nm,.inl (SqL.of tn4.e),bN (by rw [List.getElem?_map,hni];rfl),H0,p,N,i,_,ns,rfl,q6,by omega,tn4,(fun z hz=>(yX z (nok z hz)).1),by omega,fun hv H5 hg hn5 sm5=>⟨(show 2≤sizeLine by decide),fun c hc=>?_⟩⟩
    have g4:H5 R=some (.lst xs):=sm5 _ _ q1 nRp nRp
    have tn5:=tn4.nx q6 sm5
    have ncR:R≠c:=aU g4 hc
    refine ⟨R,xs,.ref c,rfl,rfl,by rw [aN ncR];exact g4,by omega,?_⟩
    have tk8:Tk H5 (upd (upd H5 c (.tup [.str nm,hv])) R (.lst (xs++[.ref c]))):=((Same.upd hc _).ts).set (by rw [aN ncR];exact g4) (by intro _ z;cases z)
    have hc8:upd (upd H5 c (.tup [.str nm,hv])) R (.lst (xs++[.ref c])) c=some (.tup [.str nm,hv]):=by rw [aN ncR.symm];exact aA
    have tk38:=(q6.ts sm5).trans tk8
    refine ⟨_,xs++[.ref c],rs++[(nm,hv)],rfl,aA,nP (q2.ts tk38) hc8,?_,?_,⟨by rw [aN nRN.symm,aN (aU tn5.e hc)];exact tn5.e,tn5.ne,tn5.few,tn5.wd⟩,((hn5.same (Same.upd hc _)).put nRp fR).mono (by omega),((q7.trans sm5).trans (Same.upd hc _).sm).upd hR0⟩
    ·rw [List.map_append,q3,List.take_add_one,hni];rfl
    ·have:=((q4.tk tk38).add (n:=nm) (v:=hv) hnm ((hg.tk tk8).imp fun o h y e=>by obtain ⟨i',h1,h2⟩:=h y e;exact ⟨i',i,h1,h2,hni⟩))
     exact this.perm fun r hr=>by
      rcases List.mem_append.mp hr with hr | hr
      ·exact List.mem_cons_of_mem _ hr
      ·rw [List.mem_singleton.mp hr];exact List.mem_cons_self
   ·rintro σ' H' ⟨v5,xs,rs,rfl,q1,q2,q3,q4,q5,q6,q7⟩
    have en:(1+(i0:Int)).toNat=ns.length:=by omega
    rw [en,List.take_length] at q3
    exact hnx _ _ ⟨v5,xs,rs,rfl,q1,q2,q3,q4,q6.mono (by omega),q7⟩
  ·rintro σ' H4 ⟨v5,xs,rs,rfl,q1,q2,q3,q4,q6,q7⟩
   have hrl:rs.length=ns.length:=by rw [← q3,List.length_map]
   have hxl:xs.length=rs.length:=by have:=q2.1;simpa using this
   refine ⟨H0,p,R,xs,_,rfl,q6,by omega,.inl (SqL.of q1),by omega,fun L2 ys H5 hL2 gL2 pm2 hn5 sm5=>⟨L2,ys,rfl,.inl ⟨SqL.of gL2,fun a ha=>?_⟩⟩⟩
   have s6:=Same.upd ha (.tup ys)
   have tk5:=(q6.ts sm5).trans s6.ts
   obtain ⟨rs',pr,pa⟩:=uZ (q2.ts tk5) pm2
   obtain ⟨rows,rt⟩:=RT.of aA pa (by rw [← q3];exact pr.map _) nnd (fun n hn=>yX n (nok n hn)) (by omega) (by omega) ((q4.tk tk5).perm fun r hr=>pr.mem_iff.mp hr)
   exact k a _ rows ns _ rt (by omega) nok ((hn5.same s6).mono (by omega)) ((q7.trans sm5).trans s6.sm)
theorem uX (T:Txt K mg w):FnK P w K mg base 1 "is_name" ["thing"] spName:=by
 refine T.wP.okS uG (fun vs H Q E h=>?_) (fun f cdv A outer s H vs Q E hr h=>?_)
 ·obtain ⟨p,w',x,rfl,_⟩:=h
  rfl
 ·obtain ⟨p,w',x,rfl,hg,k⟩:=h
  refine ⟨_,(aD (bO (i7 (dS (eI (aQ bZ (by rfl) T.bI PyProof.Rows.boot_isinstance (a9 (zv 0) (a9 (fI (v:=.ty "str") (by rfl) T.n_str PyProof.Rows.boot_str rfl) sa_nil))))) (fO (dS (wI kP kP aF (aQ (aZ K) (by rfl) T.n_len PySem.boot_len (a9 (zv 0) sa_nil)) (yB T.xC))))).pt (aG (aO dR)) aV)
   (aG (aO (lR (fJ (mE K) (zv 0) (a2g K T.vS) rfl) (kS (aQ (cM K rfl) (by rfl) T.n_all PyProof.Rows.boot_all (b9 (fU (own:=["sign"]) (idx:=[]) (N':=["sign"]) (⟨rfl,by decide+kernel,by decide+kernel,(show ∀ y∈Scope.names _,y.2=NameKind.free→((defScope iA).names.lookup y.1=some NameKind.cell∨(defScope iA).names.lookup y.1=some NameKind.free) by decide+kernel),(show ∀ j∈([]:List Nat),(Scope.names _).lookup ((["thing"]:List Str).getD j "")=some NameKind.free∧j < (["thing"]:List Str).length by decide+kernel),rfl⟩) rfl (kL K (zv 0)) (fun _ _ _ _ _ _=>(aR (i:=0) (show List.Nodup (["sign"]:List Str) by decide+kernel) rfl (Or.inl rfl))) (fun _ _ _ _ _ _=>cA) (fun _ _ _ _ _ _=>(fJ (iN K) (zv 0) (yB T.wX) rfl))) sa_nil))))))),?_⟩
  obtain ⟨t,ht,hts⟩:=goodTy hg
  refine ⟨by decide,t,ht,_,rfl,?_⟩
  cases hs:isiT t "str" with
  | false=>
   refine iteT ?_
   have:=k H (Same.refl H)
   rw [notStr (fun hz=>by rw [hts.mpr hz] at hs;cases hs)] at this
   exact this
  | true=>
   obtain ⟨z,rfl⟩:=hts.mp hs
   have hz:z.length≤100000:=hg
   have hz':z.length≤sizeLine:=by have:sizeLine=16777216:=sizeLine_eq;omega
   refine iteF ?_
   have fin:∀ b,isName z=b→Q (.bl b) H:=fun b e=>by have:=k H (Same.refl H);rw [← e];exact this
   refine ⟨hz',_,rfl,?_⟩
   refine ite2 (fun h1=>?_) (fun h1=>?_)
   ·refine ⟨_,rfl,?_⟩
    have h1':1≤z.length:=by have:=of_decide_eq_true h1;omega
    refine iteNB (fun h2=>?_) (fun h2=>?_)
    rotate_left
    ·refine fin false ?_
     have h2':¬z.length≤8:=by have:=of_decide_eq_false h2;omega
     simp [isName,h2']
    ·have h2':z.length≤8:=by have:=of_decide_eq_true h2;omega
     intro a ha
     refine ⟨_,.inr ha,rfl,rfl,_,rfl,?_⟩
     have hin:inV (.str z) (NON.map V.str)=NON.any fun y=>y==z:=by
      show (NON.map V.str).any (fun y=>eqV y (.str z))=_
      rw [List.any_map];rfl
     refine ite2 (fun h3=>?_) (fun h3=>?_)
     ·intro D hD
      refine w4 (lJ z) (fun _=>true) (fun i=>.bl (inAbc (z.cps.getD i 0))) (small1000 (by have:z.cps.size=z.length:=rfl;omega)) (fun _=>True.intro) (fun i hi ys k' hk=>hk) (fun i hi _ ys k' hk=>⟨_,rfl,by rw [Bool.false_xor];exact hk⟩) ?_
      refine ⟨(List.range z.cps.size).map fun i=>inAbc (z.cps.getD i 0),?_,?_⟩
      ·rw [List.map_map]
       have:((List.range z.cps.size).filter fun _=>true)=List.range z.cps.size:=by simp
       rw [this]
       exact SqL.of aA
      ·rw [k7]
       have e:isNameV (.str z)=z.cps.toList.all inAbc:=by
        have h3':(NON.any fun y=>y==z)=false:=by rw [← hin];simpa using h3
        simp [isNameV,isName,h1',h2',h3']
       rw [← e]
       exact k _ (Same.upd hD _)
     ·refine fin false ?_
      have h3':(NON.any fun y=>y==z)=true:=by rw [← hin];simpa using h3
      simp [isName,h3']
   ·refine ⟨_,rfl,iteT (fin false ?_)⟩
    have h1':¬1≤z.length:=by have:¬(1:Int)≤z.length:=fun q=>h1 (decide_eq_true q);omega
    simp [isName,h1']
theorem jN (T:Txt K mg w):FnK P w K mg base 1 "is_name" ["thing"] (spT nameD):=(uX T).imp fun _ _ _ _ h=>yE h
def spRis:Sp:=fun vs H Q _=>∃ (L:Addr) (xs:List V) (ds:List Dt),vs=[.ref L]∧H L=some (.lst xs)∧xs.length=ds.length∧xs.length≤1000∧(∀ i (h:i < xs.length) (h':i < ds.length),DD H xs[i] ds[i])∧∀ H',Same H H'→Q (.bl (ds.all nameD&&rising (ds.map strD))) H'
theorem pA (T:Txt K mg w):FnK P w K mg base 2 "are_rising" ["words"] spRis:=by
 have fX:FnK P w K mg base 1 "is_name" ["thing"] (spT nameD):=jN T
 refine T.rV.okS oU (fun vs H Q E h=>?_) (fun f cdv A outer s H vs Q E hr h=>?_)
 ·obtain ⟨L,xs,ds,rfl,_⟩:=h
  rfl
 ·obtain ⟨L,xs,ds,rfl,gL,hl,hn,hds,k⟩:=h
  have hu0:=Nat.lt_of_succ_lt (bD hr)
  have hsz:sizeLine=16777216:=sizeLine_eq
  refine ⟨_,(aG (aO (lR (aQ (cM K rfl) (by rfl) T.n_all PyProof.Rows.boot_all (b9 (fU (own:=["word"]) (idx:=[]) (N':=["word"]) (⟨rfl,by decide+kernel,by decide+kernel,(show ∀ y∈Scope.names _,y.2=NameKind.free→((defScope cI).names.lookup y.1=some NameKind.cell∨(defScope cI).names.lookup y.1=some NameKind.free) by decide+kernel),(show ∀ j∈([]:List Nat),(Scope.names _).lookup ((["words"]:List Str).getD j "")=some NameKind.free∧j < (["words"]:List Str).length by decide+kernel),rfl⟩) rfl (kL K (zv 0)) (fun _ _ _ _ _ _=>(aR (i:=0) (show List.Nodup (["word"]:List Str) by decide+kernel) rfl (Or.inl rfl))) (fun _ _ _ _ _ _=>cA) (fun _ _ _ _ _ _=>(aT fX (hr.mono (by decide)) (a9 (zv 0) sa_nil)))) sa_nil)) (kS (aQ (cM K rfl) (by rfl) T.n_all PyProof.Rows.boot_all (b9 (fU (own:=["ahead","behind"]) (idx:=[]) (N':=["ahead","behind"]) (⟨rfl,by decide+kernel,by decide+kernel,(show ∀ y∈Scope.names _,y.2=NameKind.free→((defScope cI).names.lookup y.1=some NameKind.cell∨(defScope cI).names.lookup y.1=some NameKind.free) by decide+kernel),(show ∀ j∈([]:List Nat),(Scope.names _).lookup ((["words"]:List Str).getD j "")=some NameKind.free∧j < (["words"]:List Str).length by decide+kernel),rfl⟩) rfl (a19 K (by rfl) T.n_zip (a9 (zv 0) (aH (dI (mV K) (zv 0) (dM aF) dJ) sa_nil))) (fun _ _ _ _ _ _=>(jG K (n:=2) rfl (bR (aR (i:=0) (show List.Nodup (["ahead","behind"]:List Str) by decide+kernel) rfl (Or.inl rfl)) (bR (aR (i:=1) (show List.Nodup (["ahead","behind"]:List Str) by decide+kernel) rfl (Or.inl rfl)) gG)))) (fun _ _ _ _ _ _=>cA) (fun _ _ _ _ _ _=>(fJ m9 (zv 0) (zv 1) (nomark _)))) sa_nil)))))),?_⟩
  refine Or.inl ⟨⟨xs,SqL.of gL⟩,fun D hD=>?_⟩
  refine iB (cL xs) (fun i=>nameD (ds.getD i .oth)) (by omega) hD (fun H2 s2=>SqL.of (s2 _ _ gL)) (fun i H2 k' hi s2 hk=>?_) (fun H2 s2 hl2=>?_)
  ·refine ⟨_,ds.getD i .oth,rfl,?_,hk⟩
   have h3:=hds i hi (by omega)
   have e1:xs.getD i .non=xs[i]:=by simp [List.getD_eq_getElem?_getD,hi]
   have e2:ds.getD i .oth=ds[i]'(by omega):=by rw [List.getD_eq_getElem?_getD,List.getElem?_eq_getElem (by omega)];rfl
   show DD H2 (xs.getD i .non) _
   rw [e1,e2]
   exact h3.same s2
  ·refine ⟨_,SqL.of hl2,_,rfl,?_⟩
   rw [hl,cW ds .oth nameD]
   refine iteB (fun h3=>?_) (fun h3=>?_)
   rotate_left
   ·have:=k H2 s2
    simp only [h3,Bool.false_and] at this
    exact this
   ·obtain ⟨ws,hws,rfl⟩:∃ ws:List Str,ds.map strD=ws∧xs=ws.map V.str:=by
     refine ⟨_,rfl,?_⟩
     apply List.ext_getElem
     ·simp [hl]
     ·intro i h1 h2
      have h4:=List.all_eq_true.mp h3 _ (List.getElem_mem (show i < ds.length by omega))
      obtain ⟨z,q1,q2,_⟩:=pJ (hds i h1 (by omega)) h4
      rw [q1];simp [q2,strD]
    have q1:=s2 _ _ gL
    refine ⟨1,rfl,Or.inr (Or.inl ⟨L,_,rfl,SqL.of q1,fun p1 hp1=>?_⟩)⟩
    have n21:L≠p1:=aU q1 hp1
    refine ⟨L,p1,_,_,rfl,SqL.of (by rw [aN n21];exact q1),SqL.of aA,fun D3 hD3=>?_⟩
    have ec:cutV (ws.map V.str) (some 1) none=(ws.drop 1).map V.str:=by
     have:=oM (ws.map V.str) 1
     rw [List.map_drop];exact this
    rw [ec] at hD3 ⊢
    refine wK (a0t (ws.map V.str) ((ws.drop 1).map V.str)) (fun i τ H4=>H4 D3=some (.lst (((List.range i).map fun i=>strLt (ws.getD i "") (ws.getD (i+1) "")).map V.bl))∧Same (upd H2 p1 (.lst ((ws.drop 1).map V.str))) H4∧∃ v1 v2,τ=[v1,v2]) ⟨aA,Same.upd hD3 _,none,none,rfl⟩
     (fun i τ H4 _ h=>⟨SqL.of (h.2.1 _ _ (by rw [aN n21];exact q1)),SqL.of (h.2.1 _ _ aA)⟩) ?_ ?_
    ·rintro i τ H4 T0 hi ⟨r1,r2,u1,u2,rfl⟩ hT0
     simp only [List.length_map,List.length_drop] at hi
     have e6:(ws.map V.str).getD i .non=.str (ws.getD i ""):=gY ws i (by omega)
     have e7:((ws.drop 1).map V.str).getD i .non=.str (ws.getD (i+1) ""):=by
      rw [gY (ws.drop 1) i (by rw [List.length_drop];omega)]
      congr 1
      rw [List.getD_eq_getElem?_getD,List.getD_eq_getElem?_getD,List.getElem?_drop,Nat.add_comm]
     rw [e6,e7]
     refine rX ?_
     rw [if_pos rfl]
     simp only [List.length_map] at hn
     refine ⟨_,(Same.upd hT0 _) _ _ r1,by simp;omega,?_,((r2.trans (Same.upd hT0 _)).put hD3),_,_,rfl⟩
     rw [aA,List.range_succ,List.map_append,List.map_append];rfl
    ·rintro τ H4 ⟨r1,r2,u1,u2,rfl⟩
     refine ⟨_,SqL.of r1,?_⟩
     have sAll:Same H H4:=(s2.trans (Same.upd hp1 _)).trans r2
     have:=k H4 sAll
     simp only [h3,Bool.true_and] at this
     have er:((List.range (min (ws.map V.str).length ((ws.drop 1).map V.str).length)).map fun i=>strLt (ws.getD i "") (ws.getD (i+1) "")).all id=rising ws:=by
      simp only [List.length_map,List.length_drop]
      exact iI ws
     rw [er,← hws]
     exact this
theorem rowEq {rs:List (Str×V)} (i:Nat) (h:i < (rowsK rs).length) (h':i < rs.length):(rowsK rs)[i]=(Sum.inr rs[i].1,rs[i].2):=by simp [rowsK]
def TelAt (H:Hp) (a:Addr) (xs:List V) (rs:List (Str×V)):Prop:=H a=some (.tup xs)∧PairsAt H xs (rowsK rs)∧rs.length≤1000
def spHeads:Sp:=fun vs H Q _=>∃ (a:Addr) (xs:List V) (rs:List (Str×V)),vs=[.ref a]∧TelAt H a xs rs∧∀ d,H d=none→Q (.ref d) (upd H d (.dK (dictOf (rowsK rs))))
theorem uB (T:Txt K mg w):FnK P w K mg base 1 "heads_of" ["T"] spHeads:=by
 refine T.uO.okS sY (fun vs H Q E h=>?_) (fun f cdv A outer s H vs Q E hr h=>?_)
 ·obtain ⟨a,xs,rs,rfl,_⟩:=h
  rfl
 ·obtain ⟨a,xs,rs,rfl,⟨hx,hp,hlen⟩,k⟩:=h
  refine ⟨_,(aG (aO (a33 (own:=["name","head"]) (idx:=[]) (N':=["name","head"]) (⟨rfl,by decide+kernel,by decide+kernel,(show ∀ y∈Scope.names _,y.2=NameKind.free→((defScope gB).names.lookup y.1=some NameKind.cell∨(defScope gB).names.lookup y.1=some NameKind.free) by decide+kernel),(show ∀ j∈([]:List Nat),(Scope.names _).lookup ((["T"]:List Str).getD j "")=some NameKind.free∧j < (["T"]:List Str).length by decide+kernel),rfl⟩) rfl (kL K (zv 0)) (fun _ _ _ _ _ _=>(jG K (n:=2) rfl (bR (aR (i:=0) (show List.Nodup (["name","head"]:List Str) by decide+kernel) rfl (Or.inl rfl)) (bR (aR (i:=1) (show List.Nodup (["name","head"]:List Str) by decide+kernel) rfl (Or.inl rfl)) gG)))) (fun _ _ _ _ _ _=>cA) (fun _ _ _ _ _ _=>(zv 0)) (fun _ _ _ _ _ _=>(zv 1))))),?_⟩
  refine Or.inr ⟨⟨xs,SqT.of hx⟩,fun D hD=>?_⟩
  have J:=cS (K:=K) (a:=a) xs
  have hsz:sizeLine=16777216:=sizeLine_eq
  have hxl:xs.length=rs.length:=by have:=hp.1;simpa using this
  have sD:∀ o,Same H (upd H D o):=fun o=>Same.upd hD o
  refine ⟨fun i m τ H'=>m=xs.length - i∧i≤xs.length∧(∃ v1 v2,τ=[v1,v2])∧H'=upd H D (.dK (dictOf ((rowsK rs).take i))),⟨_,rfl,Nat.zero_le _,⟨none,none,rfl⟩,rfl⟩,?_⟩
  rintro i m τ H' ⟨rfl,hi,⟨v1,v2,rfl⟩,rfl⟩
  obtain ⟨k1,k2⟩:=J _ (show SqT K (upd H D _) a xs from SqT.of (sD _ _ _ hx))
  by_cases hlt:i < xs.length
  ·have hir:i < rs.length:=by omega
   have hik:i < (rowsK rs).length:=by simpa using hir
   refine .inr ⟨(k1 i hlt).1,fun τ' H'=>(∃ v1 v2,τ'=[v1,v2])∧H'=upd H D (.dK (dictOf ((rowsK rs).take (i+1)))),fun τ' H' ⟨h1,h2⟩=>⟨xs.length - (i+1),by omega,rfl,hlt,h1,h2⟩,fun x H' y=>?_⟩
   obtain ⟨e,e2⟩:=(k1 i hlt).2 x H' y
   subst e e2
   obtain ⟨b,hb1,hb2⟩:=hp.2 i hik
   rw [rowEq i hik hir] at hb2
   have eb:xs.getD i .non=.ref b:=by rw [List.getD_eq_getElem?_getD,hb1];rfl
   show gTup K 2 _ (xs.getD i .non) _ _ _
   rw [eb]
   refine ⟨b,_,rfl,SqT.of (sD _ _ _ hb2),rfl,_,_,rfl,_,_,rfl,rfl,?_⟩
   refine ⟨dictOf ((rowsK rs).take i),.inr rs[i].1,rfl,aA,?_,⟨_,_,rfl⟩,?_⟩
   ·have:=oQ ((rowsK rs).take i)
    rw [List.length_take] at this
    omega
   ·rw [jR,mK (rowsK rs) i hik,rowEq i hik hir]
  ·have e:i=xs.length:=by omega
   subst e
   refine .inl ⟨k2,?_⟩
   rw [List.take_of_length_le (by simp;omega)]
   exact k D hD
def spRowOf:Sp:=fun vs H Q _=>∃ (a:Addr) (xs:List V) (rs:List (Str×V)) (nx:Str→Option Str) (ρ:Str→Nat) (x:Str),vs=[.ref a,.str x]∧GoodT H a xs rs nx ρ∧x∈rs.map (·.1)∧∀ H',Same H H'→Q (.str (rowEnd nx rs.length x)) H'
def spHeadOf:Sp:=fun vs H Q _=>∃ (a:Addr) (xs:List V) (rs:List (Str×V)) (nx:Str→Option Str) (ρ:Str→Nat) (x:Str),vs=[.ref a,.str x]∧GoodT H a xs rs nx ρ∧x∈rs.map (·.1)∧
 ∀ v H',Same H H'→valV (dictOf (rowsK rs)) (.inr (rowEnd nx rs.length x))=some v→Q v H'
def spAny (K:PySem.W.Frag):Sp:=fun vs H Q _=>∃ (H0:Hp) (p a:Addr) (t:Nat) (xs:List V) (rows:List Rw2) (ns ws:List Str),vs=[.ref p,.ref a]∧NxAt K H0 H p t∧t < 900000∧RT H a xs rows ns ws∧
 ∀ (n:Str) (H':Hp),n∈ns→NxAt K H0 H' p (t+1)→Sm p p H H'→Q (.str n) H'
theorem kI (T:Txt K mg w):FnK P w K mg base 3 "_law_any" ["_law_pen","_law_told"] (spAny K):=by
 have aK:FnK P w K mg base 2 "_law_next" ["_law_pen","_law_many"] (spNx K):=bC T
 refine T.y4.okS uL (fun vs H Q E h=>?_) (fun f cdv A outer s H vs Q E hr h=>?_)
 ·obtain ⟨H0,p,a,t,xs,rows,ns,ws,rfl,_⟩:=h
  rfl
 ·obtain ⟨H0,p,a,t,xs,rows,ns,ws,rfl,hn,ht,rt,k⟩:=h
  have hu:=bD hr
  have hu0:=Nat.lt_of_succ_lt (bD hr)
  have hsz:sizeLine=16777216:=sizeLine_eq
  have hrl:=rt.rl
  have hxl:=rt.rv.len
  have pos:=rt.pos
  have few:=rt.few
  refine ⟨_,(aG (aO (b7 (b6 K) (b7 (b6 K) (zv 1) (aT aK (hr.mono (by decide)) (a9 (zv 0) (b5 (aQ (aZ K) (by rfl) T.n_len PySem.boot_len (a9 (zv 1) sa_nil)) sa_nil))) (fun _ _=>rfl)) aF (fun _ _=>rfl)))),?_⟩
  refine .inl ⟨_,.inr (SqT.of rt.at_),H0,p,_,t,rfl,hn,⟨by omega,by omega⟩,by omega,fun r H1 r0 r1 hn1 sm1=>?_⟩
  obtain ⟨i,rfl⟩:∃ i:Nat,r=(i:Int):=⟨r.toNat,by omega⟩
  have rt1:=rt.tk (hn.ts sm1)
  obtain ⟨b,v,q1,q2,q3⟩:=rt1.rv.at_ i (by omega) (by omega)
  refine ⟨xs,.ref b,.inr (SqT.of rt1.at_),bN (by rw [List.getElem?_eq_getElem (by omega),q1]),_,_,.inr (SqT.of q2),aW _ _,k _ H1 (rt1.nm.mem_iff.mp (List.mem_map.mpr ⟨_,List.getElem_mem (by omega),rfl⟩)) hn1 sm1⟩
theorem dL (T:Txt K mg w):FnK P w K mg base 1 "_law_row_here" ["_law_told","_law_name"] spRowOf:=by
 refine T.nK.okS fN (fun vs H Q E h=>?_) (fun f cdv A outer s H vs Q E hr h=>?_)
 ·obtain ⟨a,xs,rs,nx,ρ,x,rfl,_⟩:=h
  rfl
 ·obtain ⟨a,xs,rs,nx,ρ,x,rfl,g,hx,k⟩:=h
  have hu:=bD hr
  have hu0:=Nat.lt_of_succ_lt hu
  refine ⟨_,(aD (aL (i:=2) fN.nd rfl (Or.inl rfl) (bL (iM rfl) (by rfl) T.lU PyProof.Rows.boot_dict (a9 (zv 0) sa_nil)))
   (aD (rG PassesOwn.never (aM (bF hu0) (b7 (b6 K) (oC hu (zv 2) (zv 1) (fun _ _=>rfl)) aF (fun _ _=>rfl)) aC (nomark _)) (aG (aL (i:=1) fN.nd rfl (Or.inl rfl) (b7 (b6 K) (oC hu (zv 2) (zv 1) (fun _ _=>rfl)) aF (fun _ _=>rfl)))))
   (aG (aO (zv 1))))),?_⟩
  have hsz:sizeLine=16777216:=sizeLine_eq
  have hgl:=g.len
  refine aI ⟨a,xs,rowsK rs,rfl,g.at_,g.ps,(by simp;omega),fun d hd=>?_⟩
  have s1:Same H (upd H d (.dK (dictOf (rowsK rs)))):=Same.upd hd _
  have g1:=g.ts s1.ts
  refine ⟨fun m σ H'=>H'=upd H d (.dK (dictOf (rowsK rs)))∧∃ y,σ=[some (.ref a),some (.str y),some (.ref d)]∧y∈rs.map (·.1)∧rowEnd nx rs.length y=rowEnd nx rs.length x∧m=ρ y,⟨_,rfl,x,rfl,hx,rfl,rfl⟩,?_⟩
  rintro m σ H' ⟨rfl,y,rfl,hy,he,rfl⟩
  obtain ⟨v,hv,hval⟩:=g1.get hy
  have hdg:DGet (upd H d (.dK (dictOf (rowsK rs)))) d (.str y) (some v):=by
   rw [← hval];exact DGet.k (k:=Sum.inr y) aA
  obtain ⟨b,rfl,hb⟩:=g1.as _ hv
  rcases hb with ⟨z,ys,h1,h2,h3⟩ | ⟨z,h1,h3⟩
  ·refine ⟨d,_,rfl,hdg,_,.str z,.inr (SqT.of h1),aW _ _,rfl,_,rfl,?_⟩
   rw [Bool.false_xor,decide_eq_false (fun e=>h2 (V.str.inj e))]
   refine iteF ?_
   have e2:rowEnd nx rs.length y=y:=jT _ h3
   have:=k _ s1
   rw [← he,e2] at this
   exact this
  ·refine ⟨d,_,rfl,hdg,_,.str "as",.inr (SqT.of h1),aW _ _,rfl,_,rfl,?_⟩
   refine iteT ?_
   obtain ⟨i1,i2⟩:=g1.inn _ hv z h3
   refine ⟨fun σ' H''=>∃ m',m' < ρ y∧H''=upd H d (.dK (dictOf (rowsK rs)))∧∃ y,σ'=[some (.ref a),some (.str y),some (.ref d)]∧y∈rs.map (·.1)∧rowEnd nx rs.length y=rowEnd nx rs.length x∧m'=ρ y,fun _ _ h=>h,?_⟩
   refine ⟨d,_,rfl,hdg,_,.str z,.inr (SqT.of h1),rfl,_,i2,rfl,z,rfl,i1,?_,rfl⟩
   rw [← he]
   exact g1.endStep hy h3
theorem lY (T:Txt K mg w):FnK P w K mg base 2 "_law_head_here" ["_law_told","_law_name"] spHeadOf:=by
 have bU:FnK P w K mg base 1 "_law_row_here" ["_law_told","_law_name"] spRowOf:=dL T
 refine T.mY.okS lS (fun vs H Q E h=>?_) (fun f cdv A outer s H vs Q E hr h=>?_)
 ·obtain ⟨a,xs,rs,nx,ρ,x,rfl,_⟩:=h
  rfl
 ·obtain ⟨a,xs,rs,nx,ρ,x,rfl,g,hx,k⟩:=h
  have hu:=bD hr
  have hsz:sizeLine=16777216:=sizeLine_eq
  have hgl:=g.len
  refine ⟨_,(aG (aO (oC hu (bL (iM rfl) (by rfl) T.lU PyProof.Rows.boot_dict (a9 (zv 0) sa_nil)) (aT bU (hr.mono (by decide)) (a9 (zv 0) (a9 (zv 1) sa_nil))) (fun _ _=>rfl)))),?_⟩
  refine ⟨a,xs,rowsK rs,rfl,g.at_,g.ps,(by simp;omega),fun d hd=>?_⟩
  have s1:Same H (upd H d (.dK (dictOf (rowsK rs)))):=Same.upd hd _
  refine ⟨a,xs,rs,nx,ρ,x,rfl,g.ts s1.ts,hx,fun H' s2=>?_⟩
  obtain ⟨v,hv,hval⟩:=g.get (g.endIn hx).1
  refine ⟨d,v,rfl,?_,k v _ (s1.trans s2) hval⟩
  rw [← hval];exact DGet.k (k:=Sum.inr (rowEnd nx rs.length x)) (s2 _ _ aA)
theorem iE {d:Dt} (h:d.isTup=true):∃ ds,d=.tup ds:=by cases d<;>first | exact ⟨_,rfl⟩ | cases h
def spWrd:Sp:=fun vs H Q _=>∃ (x:V) (d:Dt) (n:Nat),vs=[x,.int (n:Int)]∧2≤n∧DD H x d∧∀ H',Same H H'→Q (.bl (wrdD n d)) H'
theorem pG (T:Txt K mg w):FnK P w K mg base 3 "are_worded" ["thing","length"] spWrd:=by
 have fX:FnK P w K mg base 1 "is_name" ["thing"] (spT nameD):=jN T
 have rC:FnK P w K mg base 2 "are_rising" ["words"] spRis:=pA T
 refine T.qF.okS pF (fun vs H Q E h=>?_) (fun f cdv A outer s H vs Q E hr h=>?_)
 ·obtain ⟨x,d,n,rfl,_⟩:=h
  rfl
 ·obtain ⟨x,d,n,rfl,hn2,hd,k⟩:=h
  have hu0:=Nat.lt_of_succ_lt (bD hr)
  have hsz:sizeLine=16777216:=sizeLine_eq
  refine ⟨_,(aD (bO (i7 (dS (eI (aQ bZ (by rfl) T.bI PyProof.Rows.boot_isinstance (a9 (zv 0) (a9 (fI (v:=.ty "tuple") (by rfl) T.cB PyProof.Rows.boot_tuple rfl) sa_nil))))) (fO (aM hV (aQ (aZ K) (by rfl) T.n_len PySem.boot_len (a9 (zv 0) sa_nil)) (yB T.rD) (nomark _)))).pt (aG (aO dR)) aV)
   (aG (aO (lR (aQ (cM K rfl) (by rfl) T.n_all PyProof.Rows.boot_all (b9 (fU (own:=["row"]) (idx:=[1]) (N':=["row","length"]) (⟨rfl,by decide+kernel,by decide+kernel,(show ∀ y∈Scope.names _,y.2=NameKind.free→((defScope cJ).names.lookup y.1=some NameKind.cell∨(defScope cJ).names.lookup y.1=some NameKind.free) by decide+kernel),(show ∀ j∈([1]:List Nat),(Scope.names _).lookup ((["thing","length"]:List Str).getD j "")=some NameKind.free∧j < (["thing","length"]:List Str).length by decide+kernel),rfl⟩) rfl (kL K (zv 0)) (fun _ _ _ _ _ _=>(aR (i:=0) (show List.Nodup (["row","length"]:List Str) by decide+kernel) rfl (Or.inl rfl))) (fun _ _ _ _ _ _=>cA) (fun _ _ _ _ _ _=>(lR (aQ bZ (by rfl) T.bI PyProof.Rows.boot_isinstance (a9 (zv 0) (a9 (fI (v:=.ty "tuple") (by rfl) T.cB PyProof.Rows.boot_tuple rfl) sa_nil))) (kS (fJ (bF hu0) (aQ (aZ K) (by rfl) T.n_len PySem.boot_len (a9 (zv 0) sa_nil)) (zv 1) (nomark _)))))) sa_nil)) (kS (aT rC (hr.mono (by decide)) (b9 (fU (own:=["row"]) (idx:=[]) (N':=["row"]) (⟨rfl,by decide+kernel,by decide+kernel,(show ∀ y∈Scope.names _,y.2=NameKind.free→((defScope cJ).names.lookup y.1=some NameKind.cell∨(defScope cJ).names.lookup y.1=some NameKind.free) by decide+kernel),(show ∀ j∈([]:List Nat),(Scope.names _).lookup ((["thing","length"]:List Str).getD j "")=some NameKind.free∧j < (["thing","length"]:List Str).length by decide+kernel),rfl⟩) rfl (kL K (zv 0)) (fun _ _ _ _ _ _=>(aR (i:=0) (show List.Nodup (["row"]:List Str) by decide+kernel) rfl (Or.inl rfl))) (fun _ _ _ _ _ _=>cA) (fun _ _ _ _ _ _=>(b7 (b6 K) (zv 0) aF (fun _ _=>rfl)))) sa_nil))))))),?_⟩
  have kf:∀ b,wrdD n d=b→∀ H',Same H H'→Q (.bl b) H':=fun b e H' s'=>by have:=k H' s';rw [e] at this;exact this
  obtain ⟨t,ht,h1,h2⟩:=hd.ty
  refine aJ (fun σ' H'=>σ'=[some x,some (.int (n:Int))]∧H=H'∧∃ a ps ys,x=.ref a∧d=.tup ps∧H a=some (.tup ys)∧ys.length≤8∧ys.length=ps.length∧∀ i (h:i < ys.length) (h':i < ps.length),DD H ys[i] ps[i]) (fun nx hnx=>?_) ?_
  ·refine ⟨by decide,t,ht,_,rfl,?_⟩
   rw [h1]
   cases htup:d.isTup with
   | false=>exact iteT (iteT (kf false (by cases d<;>first | rfl | cases htup) H (Same.refl H)))
   | true=>
    refine iteF ?_
    obtain ⟨ps,rfl⟩:=iE htup
    obtain ⟨a,ys,rfl,e,hl,hds⟩:=hd.tup_elt
    refine .inl ⟨_,.inr (SqT.of e),_,rfl,iteB (fun c=>kf false ?_ H (Same.refl H)) (fun c=>hnx _ _ ⟨rfl,rfl,a,ps,ys,rfl,rfl,e,?_,hl,hds⟩)⟩
    ·have c':(ys.length:Int) > 8:=by simpa using c
     show (decide (ps.length≤8)&&_)=false
     rw [decide_eq_false (by omega)];rfl
    ·have c':¬(ys.length:Int) > 8:=by simpa using c
     omega
  rintro σ' _ ⟨rfl,rfl,a,ps,ys,rfl,rfl,e,hl8,hl,hds⟩
  have ew:wrdD n (.tup ps)=(ps.all (tupN n)&&((ps.map hd0).all nameD&&rising ((ps.map hd0).map strD))):=by
   show (decide (ps.length≤8)&&_)=_
   rw [decide_eq_true (by omega),Bool.true_and]
  refine Or.inr ⟨⟨ys,SqT.of e⟩,fun D hD=>?_⟩
  refine iB (cS ys) (fun i=>tupN n (ps.getD i .oth)) (by omega) hD (fun H2 s2=>SqT.of (s2 _ _ e)) (fun i H2 k' hi s2 hk=>?_) (fun H2 s2 hl2'=>?_)
  ·have h3:=(hds i hi (by omega)).same s2
   have e1:ys.getD i .non=ys[i]:=by simp [List.getD_eq_getElem?_getD,hi]
   have e3:ps.getD i .oth=ps[i]'(by omega):=by rw [List.getD_eq_getElem?_getD,List.getElem?_eq_getElem (by omega)];rfl
   rw [e1]
   rw [e3] at hk
   generalize ys[i]=y at h3
   generalize ps[i]'(by omega)=dp at h3 hk
   obtain ⟨t',ht',g1,g2⟩:=h3.ty
   refine ⟨by decide,t',ht',_,rfl,?_⟩
   rw [g1]
   cases hdt:dp.isTup with
   | false=>
    refine iteF ?_
    have:tupN n dp=false:=by cases dp<;>first | rfl | cases hdt
    rw [this] at hk
    exact hk H2 (Same.refl _)
   | true=>
    refine iteT ?_
    obtain ⟨qs,rfl⟩:=iE hdt
    obtain ⟨b,zs,rfl,e4,hl4,_⟩:=h3.tup_elt
    refine .inl ⟨_,.inr (SqT.of e4),rfl,?_⟩
    have:(false^^decide (V.int (zs.length:Int)=V.int (n:Int)))=tupN n (.tup qs):=by
     rw [Bool.false_xor,eE,hl4]
     show _=decide (qs.length=n)
     rw [Bool.eq_iff_iff,decide_eq_true_iff,decide_eq_true_iff]
     omega
    rw [this]
    exact hk H2 (Same.refl _)
  refine ⟨_,SqL.of hl2',_,rfl,?_⟩
  rw [hl,cW ps .oth (tupN n)]
  refine iteB (fun hall=>?_) (fun h3=>kf false ?_ H2 s2)
  rotate_left
  ·rw [ew,h3];rfl
  have hrow:∀ i (h:i < ys.length),∃ b x zs,ys[i]=.ref b∧H b=some (.tup (x::zs))∧DD H x (hd0 (ps.getD i .oth)):=fun i hi=>by
   have h4:=List.all_eq_true.mp hall _ (List.getElem_mem (show i < ps.length by omega))
   have h5:=hds i hi (by omega)
   have e3:ps.getD i .oth=ps[i]'(by omega):=by rw [List.getD_eq_getElem?_getD,List.getElem?_eq_getElem (by omega)];rfl
   rw [e3]
   generalize ys[i]=y at h5 ⊢
   generalize ps[i]'(by omega)=dp at h5 h4 ⊢
   obtain ⟨qs,rfl⟩:∃ qs,dp=.tup qs:=by cases dp<;>first | exact ⟨_,rfl⟩ | cases h4
   obtain ⟨b,zs,rfl,e4,hl4,hq⟩:=h5.tup_elt
   have hq2:qs.length=n:=of_decide_eq_true h4
   match zs,qs,hl4,hq,hq2 with
   | x::zs,q::qs,_,hq,_=>exact ⟨b,x,zs,rfl,e4,hq 0 (by simp) (by simp)⟩
   | [],[],_,_,h=>exact absurd h (by simp;omega)
  refine Or.inr ⟨⟨ys,SqT.of (s2 _ _ e)⟩,fun D2 hD2=>?_⟩
  refine d7 (cS ys) (fun i τ H3=>(∃ us:List V,H3 D2=some (.lst us)∧us.length=i∧∀ j (h:j < us.length) (h':j < ps.length),DD H us[j] (hd0 ps[j]))∧Same H2 H3∧∃ v1,τ=[v1]) ⟨⟨[],aA,rfl,fun j h=>nomatch h⟩,Same.upd hD2 _,none,rfl⟩ (fun i τ H3 _ h=>SqT.of (h.2.1 _ _ (s2 _ _ e))) ?_ ?_
  ·rintro i τ H3 hi ⟨⟨us,q1,q1l,q1d⟩,q2,v1,rfl⟩
   obtain ⟨b,x,zs,e3,e4,e6⟩:=hrow i hi
   have e1:ys.getD i .non=.ref b:=by rw [List.getD_eq_getElem?_getD,List.getElem?_eq_getElem hi,e3];rfl
   rw [e1]
   refine ⟨_,x,.inr (SqT.of (q2 _ _ (s2 _ _ e4))),aW _ _,?_⟩
   refine ⟨_,q1,by omega,⟨us++[x],aA,by simp;omega,fun j hj hj'=>?_⟩,(q2.put hD2),_,rfl⟩
   by_cases hju:j < us.length
   ·rw [List.getElem_append_left hju];exact q1d j hju hj'
   ·have ej:j=i:=by simp at hj;omega
    subst ej
    have e7:ps.getD j .oth=ps[j]:=by rw [List.getD_eq_getElem?_getD,List.getElem?_eq_getElem hj'];rfl
    rw [e7] at e6
    rw [List.getElem_append_right (by omega)]
    simp only [q1l,Nat.sub_self,List.getElem_cons_zero]
    exact e6
  ·rintro τ H3 ⟨⟨us,q1,q1l,q1d⟩,q2,v1,rfl⟩
   refine ⟨D2,us,ps.map hd0,rfl,q1,by simp;omega,by omega,fun j hj hj'=>?_,fun H4 s4=>?_⟩
   ·rw [List.getElem_map]
    exact (q1d j hj (by simpa using hj')).same (s2.trans q2)
   ·refine kf _ ?_ H4 ((s2.trans q2).trans s4)
    rw [ew,hall];rfl
def nsOf (kvs:List (Key×V)):Str→Bool:=fun z=>(valV kvs (.inr z)).isSome
theorem sK {d:Dt} (h:nameD d=true):∃ z,d=.str z:=by cases d<;>first | exact ⟨_,rfl⟩ | cases h
theorem nJ {H:Hp} {x:V} {z:Str} (h:DD H x (.str z)):x=.str z:=by cases h;rfl
def spFit:Sp:=fun vs H Q _=>∃ (h:Addr) (kvs:List (Key×V)) (what:Str) (x:V) (d:Dt),vs=[.ref h,.str what,x]∧Rd H h (.dK kvs)∧DD H x d∧∀ H',Same H H'→Q (.bl (fitD (nsOf kvs) what d)) H'
theorem xO (T:Txt K mg w):FnK P w K mg base 4 "is_fit" ["heads","what","thing"] spFit:=by
 have fX:FnK P w K mg base 1 "is_name" ["thing"] (spT nameD):=jN T
 have kU:FnK P w K mg base 3 "are_worded" ["thing","length"] spWrd:=pG T
 refine T.zD.okS xG (fun vs H Q E h=>?_) (fun f cdv A outer s H vs Q E hr h=>?_)
 ·obtain ⟨h,kvs,what,x,d,rfl,_⟩:=h
  rfl
 ·obtain ⟨h,kvs,what,x,d,rfl,eh,hd,k⟩:=h
  have hu:=bD hr
  have hu0:=Nat.lt_of_succ_lt (bD hr)
  have hsz:sizeLine=16777216:=sizeLine_eq
  refine ⟨_,(aD (bO (aM (bF hu0) (zv 1) aC (nomark _)) (aG (aO (aT fX (hr.mono (by decide)) (a9 (zv 2) sa_nil)))) aV)
   (aD (bO (aM (bF hu0) (zv 1) aC (nomark _)) (aG (aO (lR (aT fX (hr.mono (by decide)) (a9 (zv 2) sa_nil)) (kS (fJ (a25 hu) (zv 2) (zv 0) rfl))))) aV)
   (aD (bO (aM (bF hu0) (zv 1) aC (nomark _)) (aG (aO (aT kU (hr.mono (by decide)) (a9 (zv 2) (a7 aF sa_nil))))) aV)
   (aD (bO (aM (bF hu0) (zv 1) aC (nomark _)) (aG (aO (lR (aT kU (hr.mono (by decide)) (a9 (zv 2) (a7 aF sa_nil))) (kS (aQ (cM K rfl) (by rfl) T.n_all PyProof.Rows.boot_all (b9 (fU (own:=["row"]) (idx:=[]) (N':=["row"]) (⟨rfl,by decide+kernel,by decide+kernel,(show ∀ y∈Scope.names _,y.2=NameKind.free→((defScope j3).names.lookup y.1=some NameKind.cell∨(defScope j3).names.lookup y.1=some NameKind.free) by decide+kernel),(show ∀ j∈([]:List Nat),(Scope.names _).lookup ((["heads","what","thing"]:List Str).getD j "")=some NameKind.free∧j < (["heads","what","thing"]:List Str).length by decide+kernel),rfl⟩) rfl (kL K (zv 2)) (fun _ _ _ _ _ _=>(aR (i:=0) (show List.Nodup (["row"]:List Str) by decide+kernel) rfl (Or.inl rfl))) (fun _ _ _ _ _ _=>cA) (fun _ _ _ _ _ _=>(aT fX (hr.mono (by decide)) (aH (b7 (b6 K) (zv 0) aF (fun _ _=>rfl)) sa_nil)))) sa_nil)))))) aV)
   (aG (aO dR)))))),?_⟩
  have kf:∀ b,fitD (nsOf kvs) what d=b→∀ H',Same H H'→Q (.bl b) H':=fun b e H' s'=>by have:=k H' s';rw [e] at this;exact this
  have ev:∀ z:Str,(false^^decide (V.str what=V.str z))=(what==z):=fun z=>by
   rw [Bool.false_xor,Bool.eq_iff_iff,decide_eq_true_iff,beq_iff_eq]
   exact ⟨fun h=>by injection h,fun h=>by rw [h]⟩
  refine aJ (fun σ' H'=>σ'=[some (.ref h),some (.str what),some x]∧H=H'∧(what=="name")=false) (fun nx hnx=>?_) ?_
  ·refine ⟨rfl,_,rfl,iteB (fun c=>?_) (fun c=>hnx _ _ ⟨rfl,rfl,(ev _).symm.trans c⟩)⟩
   rw [ev] at c
   exact ⟨x,d,rfl,hd,kf _ (by unfold fitD;rw [if_pos c])⟩
  rintro σ' _ ⟨rfl,rfl,n1⟩
  refine aJ (fun σ' H'=>σ'=[some (.ref h),some (.str what),some x]∧H=H'∧(what=="row")=false) (fun nx hnx=>?_) ?_
  ·refine ⟨rfl,_,rfl,iteB (fun c=>?_) (fun c=>hnx _ _ ⟨rfl,rfl,(ev _).symm.trans c⟩)⟩
   rw [ev] at c
   have ef:fitD (nsOf kvs) what d=(nameD d&&rowM (nsOf kvs) d):=by unfold fitD;rw [if_neg (by rw [n1];decide),if_pos c]
   refine ⟨x,d,rfl,hd,fun H1 s1=>⟨_,rfl,iteB (fun hn=>?_) (fun hn=>kf _ (by rw [ef,hn];rfl) _ s1)⟩⟩
   obtain ⟨z,rfl⟩:=sK hn
   cases nJ hd
   refine ⟨h,_,rfl,DGet.rd (k:=.inr z) (eh.same s1),?_⟩
   exact kf _ (by rw [ef,hn];simp [nsOf,rowM]) _ s1
  rintro σ' _ ⟨rfl,rfl,n2⟩
  refine aJ (fun σ' H'=>σ'=[some (.ref h),some (.str what),some x]∧H=H'∧(what=="parts")=false) (fun nx hnx=>?_) ?_
  ·refine ⟨rfl,_,rfl,iteB (fun c=>?_) (fun c=>hnx _ _ ⟨rfl,rfl,(ev _).symm.trans c⟩)⟩
   rw [ev] at c
   exact ⟨x,d,2,rfl,by omega,hd,kf _ (by unfold fitD;rw [if_neg (by rw [n1];decide),if_neg (by rw [n2];decide),if_pos c])⟩
  rintro σ' _ ⟨rfl,rfl,n3⟩
  refine aJ (fun σ' H'=>σ'=[some (.ref h),some (.str what),some x]∧H=H'∧(what=="cases")=false) (fun nx hnx=>?_) ?_
  ·refine ⟨rfl,_,rfl,iteB (fun c=>?_) (fun c=>hnx _ _ ⟨rfl,rfl,(ev _).symm.trans c⟩)⟩
   rw [ev] at c
   have ef:fitD (nsOf kvs) what d=(wrdD 3 d&&casD d):=by unfold fitD;rw [if_neg (by rw [n1];decide),if_neg (by rw [n2];decide),if_neg (by rw [n3];decide),if_pos c]
   refine ⟨x,d,3,rfl,by omega,hd,fun H1 s1=>⟨_,rfl,iteB (fun hw=>?_) (fun hn=>kf _ (by rw [ef,hn];rfl) _ s1)⟩⟩
   obtain ⟨ps,rfl,hp8,hall⟩:∃ ps,d=.tup ps∧ps.length≤8∧ps.all (tupN 3)=true:=by
    cases d with
    | tup ps=>
     unfold wrdD at hw
     rw [Bool.and_eq_true_iff,Bool.and_eq_true_iff] at hw
     exact ⟨ps,rfl,of_decide_eq_true hw.1,hw.2.1⟩
    | str _=>cases hw
    | oth=>cases hw
   obtain ⟨a,ys,rfl,e,hl,hds⟩:=hd.tup_elt
   refine Or.inr ⟨⟨ys,SqT.of (s1 _ _ e)⟩,fun D hD=>?_⟩
   refine iB (cS ys) (fun i=>nameD (nd1 (ps.getD i .oth))) (by omega) hD (fun H2 s2=>SqT.of (s2 _ _ (s1 _ _ e))) (fun i H2 k' hi s2 hk=>?_) (fun H2 s2 hl2'=>?_)
   ·have h3:=((hds i hi (by omega)).same s1).same s2
    have h4:=List.all_eq_true.mp hall _ (List.getElem_mem (show i < ps.length by omega))
    have e1:ys.getD i .non=ys[i]:=by simp [List.getD_eq_getElem?_getD,hi]
    have e3:ps.getD i .oth=ps[i]'(by omega):=by rw [List.getD_eq_getElem?_getD,List.getElem?_eq_getElem (by omega)];rfl
    rw [e1]
    rw [e3] at hk
    generalize ys[i]=y at h3
    generalize ps[i]'(by omega)=dp at h3 hk h4
    obtain ⟨qs,rfl⟩:∃ qs,dp=.tup qs:=by cases dp<;>first | exact ⟨_,rfl⟩ | cases h4
    obtain ⟨b,zs,rfl,e4,hl4,hq⟩:=h3.tup_elt
    have hq2:qs.length=3:=of_decide_eq_true h4
    obtain ⟨q0,q1,q2,rfl⟩:=len3 hq2
    obtain ⟨z0,z1,z2,rfl⟩:=len3 (hl4.trans hq2)
    exact ⟨_,z1,.inr (SqT.of e4),rfl,z1,q1,rfl,hq 1 (by simp) (by simp),hk⟩
   ·refine ⟨_,SqL.of hl2',?_⟩
    rw [hl,cW ps .oth (fun p=>nameD (nd1 p))]
    refine kf _ ?_ _ (s1.trans s2)
    rw [ef,hw,Bool.true_and]
    show (ps.map nd1).all nameD=_
    rw [List.all_map];rfl
  rintro σ' _ ⟨rfl,rfl,n4⟩
  refine kf true ?_ H (Same.refl H)
  unfold fitD;rw [if_neg (by rw [n1];decide),if_neg (by rw [n2];decide),if_neg (by rw [n3];decide),if_neg (by rw [n4];decide)]
def spParts:Sp:=fun vs H Q _=>∃ (v:V) (ks:List V),vs=[v]∧Shp H v ks∧∀ L H',H L=none→H' L=some (.lst ks)→Same H H'→Q (.ref L) H'
theorem dX (T:Txt K mg w):FnK P w K mg base 1 "_law_parts" ["_law_maker"] spParts:=by
 refine T.u7.okS lK (fun vs H Q E h=>?_) (fun f cdv A outer s H vs Q E hr h=>?_)
 ·obtain ⟨v,ks,rfl,_⟩:=h
  rfl
 ·obtain ⟨v,ks,rfl,hs,k⟩:=h
  have hu0:=Nat.lt_of_succ_lt (bD hr)
  have hsz:sizeLine=16777216:=sizeLine_eq
  refine ⟨_,(aD (aL (i:=1) lK.nd rfl (Or.inl rfl) (b7 (b6 K) (zv 0) aF (fun _ _=>rfl)))
   (aD (bO (aM (iN K) (zv 1) (aE (a7 aC (a7 aC sa_nil))) rfl) (aG (aO (b4 (aH (b7 (b6 K) (zv 0) (a14 rO aF) (fun _ _=>rfl)) sa_nil)))) aV)
   (aD (bO (aM (bF hu0) (zv 1) aC (nomark _)) (aG (aO (b4 (aH (b7 (b6 K) (zv 0) aF (fun _ _=>rfl)) (aH (b7 (b6 K) (zv 0) aF (fun _ _=>rfl)) sa_nil))))) aV)
   (aD (bO (aM (iN K) (zv 1) (aE (a7 aC (a7 aC sa_nil))) rfl) (aG (aO (b4 (aH (b7 (b6 K) (zv 0) aF (fun _ _=>rfl)) sa_nil)))) aV)
   (aD (bO (aM (bF hu0) (zv 1) aC (nomark _)) (aG (aO (fU (own:=["_law_one"]) (idx:=[]) (N':=["_law_one"]) (⟨rfl,by decide+kernel,by decide+kernel,(show ∀ y∈Scope.names _,y.2=NameKind.free→((defScope cX).names.lookup y.1=some NameKind.cell∨(defScope cX).names.lookup y.1=some NameKind.free) by decide+kernel),(show ∀ j∈([]:List Nat),(Scope.names _).lookup ((["_law_maker","_law_word"]:List Str).getD j "")=some NameKind.free∧j < (["_law_maker","_law_word"]:List Str).length by decide+kernel),rfl⟩) rfl (kL K (b7 (b6 K) (zv 0) aF (fun _ _=>rfl))) (fun _ _ _ _ _ _=>(aR (i:=0) (show List.Nodup (["_law_one"]:List Str) by decide+kernel) rfl (Or.inl rfl))) (fun _ _ _ _ _ _=>cA) (fun _ _ _ _ _ _=>(b7 (b6 K) (zv 0) aF (fun _ _=>rfl)))))) aV)
   (aD (bO (aM (bF hu0) (zv 1) aC (nomark _)) (aG (aO (b8 aS (b4 (aH (b7 (b6 K) (zv 0) aF (fun _ _=>rfl)) sa_nil)) (fU (own:=["_law_one"]) (idx:=[]) (N':=["_law_one"]) (⟨rfl,by decide+kernel,by decide+kernel,(show ∀ y∈Scope.names _,y.2=NameKind.free→((defScope cX).names.lookup y.1=some NameKind.cell∨(defScope cX).names.lookup y.1=some NameKind.free) by decide+kernel),(show ∀ j∈([]:List Nat),(Scope.names _).lookup ((["_law_maker","_law_word"]:List Str).getD j "")=some NameKind.free∧j < (["_law_maker","_law_word"]:List Str).length by decide+kernel),rfl⟩) rfl (kL K (b7 (b6 K) (zv 0) aF (fun _ _=>rfl))) (fun _ _ _ _ _ _=>(aR (i:=0) (show List.Nodup (["_law_one"]:List Str) by decide+kernel) rfl (Or.inl rfl))) (fun _ _ _ _ _ _=>cA) (fun _ _ _ _ _ _=>(b7 (b6 K) (zv 0) aF (fun _ _=>rfl))))))) aV)
   (aG (aO (b4 sa_nil))))))))),?_⟩
  cases hs with
  | @fn a v r m e _ _=>
   refine aI ⟨_,.str "fn",.inr (SqT.of e),aW _ _,?_⟩
   refine ⟨(show 2≤sizeLine by decide),fun b1 hb1=>⟨_,.inr (SqT.of aA),rfl,rfl,_,rfl,?_⟩⟩
   have s1:Same H _:=(Same.refl H).trans (Same.upd hb1 (.tup [.str "fn",.str "pick"]))
   generalize upd H b1 (.tup [.str "fn",.str "pick"])=H1 at s1
   refine iteB (fun _=>?_) (fun c=>absurd c (by decide+kernel))
   exact ⟨1,rfl,_,m,.inr (SqT.of (s1 _ _ e)),rfl,(show 1≤sizeLine by decide),fun L hL=>k L _ (s1.free hL) aA (s1.trans (Same.upd hL _))⟩
  | @pick a z m e _=>
   refine aI ⟨_,.str "pick",.inr (SqT.of e),aW _ _,?_⟩
   refine ⟨(show 2≤sizeLine by decide),fun b1 hb1=>⟨_,.inr (SqT.of aA),rfl,rfl,_,rfl,?_⟩⟩
   have s1:Same H _:=(Same.refl H).trans (Same.upd hb1 (.tup [.str "fn",.str "pick"]))
   generalize upd H b1 (.tup [.str "fn",.str "pick"])=H1 at s1
   refine iteB (fun _=>?_) (fun c=>absurd c (by decide+kernel))
   exact ⟨1,rfl,_,m,.inr (SqT.of (s1 _ _ e)),rfl,(show 1≤sizeLine by decide),fun L hL=>k L _ (s1.free hL) aA (s1.trans (Same.upd hL _))⟩
  | @call a f x e=>
   refine aI ⟨_,.str "call",.inr (SqT.of e),aW _ _,?_⟩
   refine ⟨(show 2≤sizeLine by decide),fun b1 hb1=>⟨_,.inr (SqT.of aA),rfl,rfl,_,rfl,?_⟩⟩
   have s1:Same H _:=(Same.refl H).trans (Same.upd hb1 (.tup [.str "fn",.str "pick"]))
   generalize upd H b1 (.tup [.str "fn",.str "pick"])=H1 at s1
   refine iteB (fun c=>absurd c (by decide+kernel)) (fun _=>bP ?_)
   refine ⟨rfl,_,rfl,?_⟩
   refine iteB (fun _=>?_) (fun c=>absurd c (by decide+kernel))
   exact ⟨_,f,.inr (SqT.of (s1 _ _ e)),rfl,_,x,.inr (SqT.of (s1 _ _ e)),rfl,(show 2≤sizeLine by decide),fun L hL=>k L _ (s1.free hL) aA (s1.trans (Same.upd hL _))⟩
  | @part a m z e _=>
   refine aI ⟨_,.str "part",.inr (SqT.of e),aW _ _,?_⟩
   refine ⟨(show 2≤sizeLine by decide),fun b1 hb1=>⟨_,.inr (SqT.of aA),rfl,rfl,_,rfl,?_⟩⟩
   have s1:Same H _:=(Same.refl H).trans (Same.upd hb1 (.tup [.str "fn",.str "pick"]))
   generalize upd H b1 (.tup [.str "fn",.str "pick"])=H1 at s1
   refine iteB (fun c=>absurd c (by decide+kernel)) (fun _=>bP ?_)
   refine ⟨rfl,_,rfl,?_⟩
   refine iteB (fun c=>absurd c (by decide+kernel)) (fun _=>bP ?_)
   refine ⟨(show 2≤sizeLine by decide),fun b2 hb2=>⟨_,.inr (SqT.of aA),rfl,rfl,_,rfl,?_⟩⟩
   have s2:Same H _:=s1.trans (Same.upd hb2 (.tup [.str "part",.str "hold"]))
   generalize upd H1 b2 (.tup [.str "part",.str "hold"])=H2 at s2
   refine iteB (fun _=>?_) (fun c=>absurd c (by decide+kernel))
   exact ⟨_,m,.inr (SqT.of (s2 _ _ e)),rfl,(show 1≤sizeLine by decide),fun L hL=>k L _ (s2.free hL) aA (s2.trans (Same.upd hL _))⟩
  | @hold a m z e _=>
   refine aI ⟨_,.str "hold",.inr (SqT.of e),aW _ _,?_⟩
   refine ⟨(show 2≤sizeLine by decide),fun b1 hb1=>⟨_,.inr (SqT.of aA),rfl,rfl,_,rfl,?_⟩⟩
   have s1:Same H _:=(Same.refl H).trans (Same.upd hb1 (.tup [.str "fn",.str "pick"]))
   generalize upd H b1 (.tup [.str "fn",.str "pick"])=H1 at s1
   refine iteB (fun c=>absurd c (by decide+kernel)) (fun _=>bP ?_)
   refine ⟨rfl,_,rfl,?_⟩
   refine iteB (fun c=>absurd c (by decide+kernel)) (fun _=>bP ?_)
   refine ⟨(show 2≤sizeLine by decide),fun b2 hb2=>⟨_,.inr (SqT.of aA),rfl,rfl,_,rfl,?_⟩⟩
   have s2:Same H _:=s1.trans (Same.upd hb2 (.tup [.str "part",.str "hold"]))
   generalize upd H1 b2 (.tup [.str "part",.str "hold"])=H2 at s2
   refine iteB (fun _=>?_) (fun c=>absurd c (by decide+kernel))
   exact ⟨_,m,.inr (SqT.of (s2 _ _ e)),rfl,(show 1≤sizeLine by decide),fun L hL=>k L _ (s2.free hL) aA (s2.trans (Same.upd hL _))⟩
  | @box a b xs ms e e2 rm=>
   refine aI ⟨_,.str "box",.inr (SqT.of e),aW _ _,?_⟩
   refine ⟨(show 2≤sizeLine by decide),fun b1 hb1=>⟨_,.inr (SqT.of aA),rfl,rfl,_,rfl,?_⟩⟩
   have s1:Same H _:=(Same.refl H).trans (Same.upd hb1 (.tup [.str "fn",.str "pick"]))
   generalize upd H b1 (.tup [.str "fn",.str "pick"])=H1 at s1
   refine iteB (fun c=>absurd c (by decide+kernel)) (fun _=>bP ?_)
   refine ⟨rfl,_,rfl,?_⟩
   refine iteB (fun c=>absurd c (by decide+kernel)) (fun _=>bP ?_)
   refine ⟨(show 2≤sizeLine by decide),fun b2 hb2=>⟨_,.inr (SqT.of aA),rfl,rfl,_,rfl,?_⟩⟩
   have s2:Same H _:=s1.trans (Same.upd hb2 (.tup [.str "part",.str "hold"]))
   generalize upd H1 b2 (.tup [.str "part",.str "hold"])=H2 at s2
   refine iteB (fun c=>absurd c (by decide+kernel)) (fun _=>bP ?_)
   refine ⟨rfl,_,rfl,?_⟩
   refine iteB (fun _=>?_) (fun c=>absurd c (by decide+kernel))
   refine ⟨_,.ref b,.inr (SqT.of (s2 _ _ e)),rfl,Or.inr ⟨⟨xs,SqT.of (s2 _ _ e2)⟩,fun D hD=>?_⟩⟩
   have hl:=rm.len
   have hfew:=rm.few
   refine d7 (cS xs) (fun i τ H3=>H3 D=some (.lst (ks.take i))∧Same H2 H3∧∃ v1,τ=[v1]) ⟨aA,Same.upd hD _,none,rfl⟩ (fun i τ H3 _ h=>SqT.of (h.2.1 _ _ (s2 _ _ e2))) ?_ ?_
   ·rintro i τ H3 hi ⟨q1,q2,v1,rfl⟩
    obtain ⟨c,ys,r1,r2,r3,_⟩:=rm.at_ i hi (by omega)
    have eg:xs.getD i .non=.ref c:=by rw [List.getD_eq_getElem?_getD,List.getElem?_eq_getElem hi,r1];rfl
    rw [eg]
    refine ⟨_,ks[i]'(by omega),.inr (SqT.of (q2 _ _ (s2 _ _ r2))),?_,_,q1,by simp;omega,?_,q2.put hD,_,rfl⟩
    ·exact bN (j:=1) (by rw [← r3,List.getElem?_append_right (Nat.le_refl _),Nat.sub_self];rfl)
    ·rw [aA,List.take_add_one,List.getElem?_eq_getElem (show i < ks.length by omega)];rfl
   ·rintro τ H3 ⟨q1,q2,v1,rfl⟩
    rw [List.take_of_length_le (by omega)] at q1
    exact k D H3 (s2.free hD) q1 (s2.trans q2)
  | @split a b m xs ms e e2 rm=>
   refine aI ⟨_,.str "split",.inr (SqT.of e),aW _ _,?_⟩
   refine ⟨(show 2≤sizeLine by decide),fun b1 hb1=>⟨_,.inr (SqT.of aA),rfl,rfl,_,rfl,?_⟩⟩
   have s1:Same H _:=(Same.refl H).trans (Same.upd hb1 (.tup [.str "fn",.str "pick"]))
   generalize upd H b1 (.tup [.str "fn",.str "pick"])=H1 at s1
   refine iteB (fun c=>absurd c (by decide+kernel)) (fun _=>bP ?_)
   refine ⟨rfl,_,rfl,?_⟩
   refine iteB (fun c=>absurd c (by decide+kernel)) (fun _=>bP ?_)
   refine ⟨(show 2≤sizeLine by decide),fun b2 hb2=>⟨_,.inr (SqT.of aA),rfl,rfl,_,rfl,?_⟩⟩
   have s2:Same H _:=s1.trans (Same.upd hb2 (.tup [.str "part",.str "hold"]))
   generalize upd H1 b2 (.tup [.str "part",.str "hold"])=H2 at s2
   refine iteB (fun c=>absurd c (by decide+kernel)) (fun _=>bP ?_)
   refine ⟨rfl,_,rfl,?_⟩
   refine iteB (fun c=>absurd c (by decide+kernel)) (fun _=>bP ?_)
   refine ⟨rfl,_,rfl,?_⟩
   refine iteB (fun _=>?_) (fun c=>absurd c (by decide+kernel))
   refine ⟨_,m,.inr (SqT.of (s2 _ _ e)),rfl,(show 1≤sizeLine by decide),fun L1 hL1=>?_⟩
   have s9:Same H _:=s2.trans (Same.upd hL1 (.lst [m]))
   have gL1:upd H2 L1 (.lst [m]) L1=some (.lst [m]):=aA
   generalize upd H2 L1 (.lst [m])=H9 at s9 gL1
   refine ⟨_,.ref b,.inr (SqT.of (s9 _ _ e)),rfl,Or.inr ⟨⟨xs,SqT.of (s9 _ _ e2)⟩,fun D hD=>?_⟩⟩
   have hl:=rm.len
   have hfew:=rm.few
   refine d7 (cS xs) (fun i τ H3=>H3 D=some (.lst (ms.take i))∧Same H9 H3∧∃ v1,τ=[v1]) ⟨aA,Same.upd hD _,none,rfl⟩ (fun i τ H3 _ h=>SqT.of (h.2.1 _ _ (s9 _ _ e2))) ?_ ?_
   ·rintro i τ H3 hi ⟨q1,q2,v1,rfl⟩
    obtain ⟨c,ys,r1,r2,r3,_⟩:=rm.at_ i hi (by omega)
    have eg:xs.getD i .non=.ref c:=by rw [List.getD_eq_getElem?_getD,List.getElem?_eq_getElem hi,r1];rfl
    rw [eg]
    refine ⟨_,ms[i]'(by omega),.inr (SqT.of (q2 _ _ (s9 _ _ r2))),?_,_,q1,by simp;omega,?_,q2.put hD,_,rfl⟩
    ·exact bN (j:=2) (by rw [← r3,List.getElem?_append_right (Nat.le_refl _),Nat.sub_self];rfl)
    ·rw [aA,List.take_add_one,List.getElem?_eq_getElem (show i < ms.length by omega)];rfl
   ·rintro τ H3 ⟨q1,q2,v1,rfl⟩
    rw [List.take_of_length_le (by omega)] at q1
    exact ⟨_,_,q2 _ _ gL1,q1,by simp;omega,fun L hL=>k L _ (s9.free (q2.free hL)) aA ((s9.trans q2).trans (Same.upd hL _))⟩
  | @get a z e _=>
   refine aI ⟨_,.str "get",.inr (SqT.of e),aW _ _,?_⟩
   refine ⟨(show 2≤sizeLine by decide),fun b1 hb1=>⟨_,.inr (SqT.of aA),rfl,rfl,_,rfl,?_⟩⟩
   have s1:Same H _:=(Same.refl H).trans (Same.upd hb1 (.tup [.str "fn",.str "pick"]))
   generalize upd H b1 (.tup [.str "fn",.str "pick"])=H1 at s1
   refine iteB (fun c=>absurd c (by decide+kernel)) (fun _=>bP ?_)
   refine ⟨rfl,_,rfl,?_⟩
   refine iteB (fun c=>absurd c (by decide+kernel)) (fun _=>bP ?_)
   refine ⟨(show 2≤sizeLine by decide),fun b2 hb2=>⟨_,.inr (SqT.of aA),rfl,rfl,_,rfl,?_⟩⟩
   have s2:Same H _:=s1.trans (Same.upd hb2 (.tup [.str "part",.str "hold"]))
   generalize upd H1 b2 (.tup [.str "part",.str "hold"])=H2 at s2
   refine iteB (fun c=>absurd c (by decide+kernel)) (fun _=>bP ?_)
   refine ⟨rfl,_,rfl,?_⟩
   refine iteB (fun c=>absurd c (by decide+kernel)) (fun _=>bP ?_)
   refine ⟨rfl,_,rfl,?_⟩
   refine iteB (fun c=>absurd c (by decide+kernel)) (fun _=>vM ?_)
   exact ⟨(show 0≤sizeLine by decide),fun L hL=>k L _ (s2.free hL) aA (s2.trans (Same.upd hL _))⟩
def spMany (n:Nat):Sp:=fun vs H Q _=>∃ (v:V) (s:Nat),vs=[v]∧MkT H n s v∧∀ H',Same H H'→Q (.int (s:Int)) H'
theorem a1i {H:Hp} {n s:Nat} {v:V} (h:MkT H n s v):1≤s:=by
 cases h with
 | mk _ _ _ e=>omega
theorem tG:∀ ss:List Nat,(ss.map fun x:Nat=>(x:Int)).sum=((ss.sum:Nat):Int)
 | []=>rfl
 | s::ss=>by rw [List.map_cons,List.sum_cons,List.sum_cons,tG ss];push_cast;rfl
theorem jI (T:Txt K mg w):∀ n:Nat,FnK P w K mg base (2+n) "_law_many" ["_law_maker"] (spMany n):=by
 intro n
 induction n with
 | zero=>
  refine T.nM.okS (k:=1) mO (fun vs H Q E h=>?_) (fun f cdv A outer s H vs Q E hr h=>?_)
  ·obtain ⟨v,s,rfl,_⟩:=h
   rfl
  ·obtain ⟨v,s,rfl,h,_⟩:=h
   cases h
 | succ n ih=>
  have cZ:FnK P w K mg base (2+n) "_law_many" ["_law_maker"] (spMany n):=ih
  have c8:FnK P w K mg base 1 "_law_parts" ["_law_maker"] spParts:=dX T
  refine T.nM.okS (k:=2+n) mO (fun vs H Q E h=>?_) (fun f cdv A outer s H vs Q E hr h=>?_)
  ·obtain ⟨v,s,rfl,_⟩:=h
   rfl
  ·obtain ⟨v,s,rfl,hm,k⟩:=h
   have hu:=bD hr
   have hu0:=Nat.lt_of_succ_lt (bD hr)
   have hsz:sizeLine=16777216:=sizeLine_eq
   cases hm with
   | @mk _ _ _ ks ss hsh hl hks he=>
    have hpos:∀ i (h:i < ss.length),1≤ss[i]:=fun i h=>a1i (hks i (by omega) h)
    have hls:=jS hsh
    refine ⟨_,(aG (aO (b8 aS aF (aQ (x5 K rfl) (by rfl) T.n_sum PyProof.Rows.boot_sum (b9 (fU (own:=["_law_one"]) (idx:=[]) (N':=["_law_one"]) (⟨rfl,by decide+kernel,by decide+kernel,(show ∀ y∈Scope.names _,y.2=NameKind.free→((defScope fZ).names.lookup y.1=some NameKind.cell∨(defScope fZ).names.lookup y.1=some NameKind.free) by decide+kernel),(show ∀ j∈([]:List Nat),(Scope.names _).lookup ((["_law_maker"]:List Str).getD j "")=some NameKind.free∧j < (["_law_maker"]:List Str).length by decide+kernel),rfl⟩) rfl (kL K (aT c8 (hr.mono (by omega)) (a9 (zv 0) sa_nil))) (fun _ _ _ _ _ _=>(aR (i:=0) (show List.Nodup (["_law_one"]:List Str) by decide+kernel) rfl (Or.inl rfl))) (fun _ _ _ _ _ _=>cA) (fun _ _ _ _ _ _=>(aT cZ (hr.mono (by omega)) (a9 (zv 0) sa_nil)))) sa_nil))))),?_⟩
    refine ⟨v,ks,rfl,hsh,fun L H1 hL gL s1=>Or.inl ⟨⟨ks,SqL.of gL⟩,fun D hD=>?_⟩⟩
    refine d7 (cL ks) (fun i τ H3=>H3 D=some (.lst (((ss.take i).map fun x:Nat=>(x:Int)).map V.int))∧Same H1 H3∧∃ v1,τ=[v1]) ⟨aA,Same.upd hD _,none,rfl⟩ (fun i τ H3 _ h=>SqL.of (h.2.1 _ _ gL)) ?_ ?_
    ·rintro i τ H3 hi ⟨q1,q2,v1,rfl⟩
     have hi':i < ss.length:=by omega
     have eg:ks.getD i .non=ks[i]:=by simp [List.getD_eq_getElem?_getD,hi]
     rw [eg]
     refine ⟨ks[i],ss[i],rfl,(hks i hi hi').tk (s1.trans q2).ts,fun H4 s4=>?_⟩
     refine ⟨_,s4 _ _ q1,by simp;omega,?_,(q2.trans s4).put hD,_,rfl⟩
     have et:ss.take (i+1)=ss.take i++[ss[i]]:=by rw [List.take_add_one,List.getElem?_eq_getElem hi'];rfl
     rw [aA,et,List.map_append,List.map_append];rfl
    ·rintro τ H3 ⟨q1,q2,v1,rfl⟩
     rw [List.take_of_length_le (by omega)] at q1
     refine ⟨_,SqL.of q1,?_⟩
     rw [tG]
     have:=k H3 (s1.trans q2)
     have e9:(s:Int)=1+((ss.sum:Nat):Int):=by omega
     rw [e9] at this
     exact this
def Ctr (H:Hp) (what:Str) (x:V) (ms:List V):Prop:=(what="maker"∧ms=[x])∨((what="parts"∨what="cases")∧∃ b rows n,x=.ref b∧H b=some (.tup rows)∧RowM H (n+1) rows ms)∨((what="name"∨what="row")∧ms=[])
inductive CtrL (H:Hp):List Str→List V→List (List V)→Prop
 | nil:CtrL H [] [] []
 | cons {w:Str} {ws:List Str} {x:V} {xs:List V} {c:List V} {cs:List (List V)}:Ctr H w x c→CtrL H ws xs cs→CtrL H (w::ws) (x::xs) (c::cs)
theorem CtrL.len {H:Hp} {ws:List Str} {xs:List V} {cs:List (List V)} (h:CtrL H ws xs cs):xs.length=ws.length∧cs.length=ws.length:=by
 induction h with
 | nil=>exact ⟨rfl,rfl⟩
 | cons _ _ ih=>simp [ih.1,ih.2]
theorem CtrL.at_ {H:Hp} {ws:List Str} {xs:List V} {cs:List (List V)} (h:CtrL H ws xs cs):∀ i,i < ws.length→∃ w x c,ws[i]? =some w∧xs[i]? =some x∧cs[i]? =some c∧Ctr H w x c:=by
 induction h with
 | nil=>intro i hi;exact absurd hi (by simp)
 | cons hc _ ih=>
  intro i hi
  cases i with
  | zero=>exact ⟨_,_,_,rfl,rfl,rfl,hc⟩
  | succ j=>exact ih j (by simpa using hi)
structure MkrOf (K:PySem.W.Frag) (H:Hp) (kvs:List (Key×V)) (v:V) (ks:List V) (t:Addr) (w:Str) (whats:List Str) (xs:List V) (cs:List (List V)):Prop where
 vl:valV kvs (.inr w)=some (.ref t)
 at_:∃ a,v=.ref a∧H a=some (.tup (.str w::xs))
 sq:∀ H,SqT K H t (whats.map V.str)
 ctr:CtrL H whats xs cs
 fl:cs.flatten=ks
 few:whats.length≤3
abbrev PLk (t0 t1 t2 t3 t4 t5 t6 t7:Addr):List (Key×V):=[(.inr "get",.ref t0),(.inr "fn",.ref t1),(.inr "call",.ref t2),(.inr "box",.ref t3),(.inr "part",.ref t4),(.inr "pick",.ref t5),(.inr "split",.ref t6),(.inr "hold",.ref t7)]
theorem ctM {H:Hp} {x:V}:Ctr H "maker" x [x]:=.inl ⟨rfl,rfl⟩
theorem ctN {H:Hp} {x:V}:Ctr H "name" x []:=.inr (.inr ⟨.inl rfl,rfl⟩)
theorem ctR {H:Hp} {x:V}:Ctr H "row" x []:=.inr (.inr ⟨.inr rfl,rfl⟩)
theorem zY {α:Type} (ys:List α) (y:α):atI (ys++[y]) (-1)=some y:=by
 unfold atI ixN
 rw [if_neg (by decide),if_pos (by simp;omega)]
 have:(-1+((ys++[y]).length:Int)).toNat=ys.length:=by simp;omega
 show (ys++[y])[(-1+((ys++[y]).length:Int)).toNat]? =some y
 rw [this];simp
theorem rJ (T:Txt K mg w):FnK P w K mg base 1 "makers_in" ["maker"] spParts:=by
 refine T.uA.okS fT (fun vs H Q E h=>?_) (fun f cdv A outer s H vs Q E hr h=>?_)
 ·obtain ⟨v,ks,rfl,_⟩:=h
  rfl
 ·obtain ⟨v,ks,rfl,hs,k⟩:=h
  have hu0:=Nat.lt_of_succ_lt (bD hr)
  have hsz:sizeLine=16777216:=sizeLine_eq
  obtain ⟨aP,t0,t1,t2,t3,t4,t5,t6,t7,hmP,kdP,q0,q1,q2,q3,q4,q5,q6,q7⟩:=T.u6
  have cPLACES:∃ a,mg "PLACES"=some (.ref a)∧KD w K a _:=⟨aP,hmP,kdP⟩
  refine ⟨_,(aD (aL (i:=1) fT.nd rfl (Or.inl rfl) (b4 sa_nil))
   (aD (gX PassesOwn.never rfl (a1F true true K (by rfl) T.n_zip (aH (uE cPLACES (b7 (b6 K) (zv 0) aF (fun _ _=>rfl)) (fun _ _=>rfl)) (aH (dI (mV K) (zv 0) (dM aF) dJ) sa_nil))) (jG K (n:=2) rfl (bR (aR (i:=2) fT.nd rfl (Or.inl rfl)) (bR (aR (i:=3) fT.nd rfl (Or.inl rfl)) gG))) (aG (bO (aM (bF hu0) (zv 2) aC (nomark _)) (aG (cT (iT K PySem.F.plainAttrs_list PySem.F.slot_list_append PySem.F.type_list_append bQ (zv 1) (a9 (zv 3) sa_nil)))) (aG (bO (aM (iN K) (zv 2) (aE (a7 aC (a7 aC sa_nil))) rfl) (aG (cT (iT K PySem.F.plainAttrs_list PySem.F.slot_list_extend PySem.F.type_list_extend qB (zv 1) (b9 (fU (own:=["row"]) (idx:=[]) (N':=["row"]) (⟨rfl,by decide+kernel,by decide+kernel,(show ∀ y∈Scope.names _,y.2=NameKind.free→((defScope fB).names.lookup y.1=some NameKind.cell∨(defScope fB).names.lookup y.1=some NameKind.free) by decide+kernel),(show ∀ j∈([]:List Nat),(Scope.names _).lookup ((["maker","found","what","one"]:List Str).getD j "")=some NameKind.free∧j < (["maker","found","what","one"]:List Str).length by decide+kernel),rfl⟩) rfl (kL K (zv 3)) (fun _ _ _ _ _ _=>(aR (i:=0) (show List.Nodup (["row"]:List Str) by decide+kernel) rfl (Or.inl rfl))) (fun _ _ _ _ _ _=>cA) (fun _ _ _ _ _ _=>(b7 (b6 K) (zv 0) (a14 rO aF) (fun _ _=>rfl)))) sa_nil)))) aV)))))
   (aG (aO (zv 1))))),?_⟩
  have core:∃ t ww whats xs cs,MkrOf K H (PLk t0 t1 t2 t3 t4 t5 t6 t7) v ks t ww whats xs cs:=by
   cases hs with
   | @get a z e _=>exact ⟨t0,"get",["name"],[.str z],[[]],rfl,⟨a,rfl,e⟩,q0,.cons ctN .nil,rfl,by simp⟩
   | @fn a z r m e _ _=>exact ⟨t1,"fn",["name","row","maker"],[.str z,.str r,m],[[],[],[m]],rfl,⟨a,rfl,e⟩,q1,.cons ctN (.cons ctR (.cons ctM .nil)),rfl,by simp⟩
   | @call a f x e=>exact ⟨t2,"call",["maker","maker"],[f,x],[[f],[x]],rfl,⟨a,rfl,e⟩,q2,.cons ctM (.cons ctM .nil),rfl,by simp⟩
   | @box a b xs ms e e2 rm=>exact ⟨t3,"box",["parts"],[.ref b],[ks],rfl,⟨a,rfl,e⟩,q3,.cons (.inr (.inl ⟨.inl rfl,b,xs,0,rfl,e2,rm⟩)) .nil,by simp,by simp⟩
   | @part a m z e _=>exact ⟨t4,"part",["maker","name"],[m,.str z],[[m],[]],rfl,⟨a,rfl,e⟩,q4,.cons ctM (.cons ctN .nil),rfl,by simp⟩
   | @pick a z m e _=>exact ⟨t5,"pick",["name","maker"],[.str z,m],[[],[m]],rfl,⟨a,rfl,e⟩,q5,.cons ctN (.cons ctM .nil),rfl,by simp⟩
   | @split a b m xs ms e e2 rm=>exact ⟨t6,"split",["maker","cases"],[m,.ref b],[[m],ms],rfl,⟨a,rfl,e⟩,q6,.cons ctM (.cons (.inr (.inl ⟨.inr rfl,b,xs,1,rfl,e2,rm⟩)) .nil),by simp,by simp⟩
   | @hold a m z e _=>exact ⟨t7,"hold",["maker","row"],[m,.str z],[[m],[]],rfl,⟨a,rfl,e⟩,q7,.cons ctM (.cons ctR .nil),rfl,by simp⟩
  obtain ⟨t,ww,whats,xs,cs,mo⟩:=core
  obtain ⟨a,rfl,ea⟩:=mo.at_
  have hfew:=mo.few
  obtain ⟨hl1,hl2⟩:=mo.ctr.len
  refine aI ⟨Nat.zero_le _,fun L hL=>?_⟩
  have s0:=Same.upd hL (.lst [])
  have gL:upd H L (.lst []) L=some (.lst []):=aA
  generalize upd H L (.lst [])=H1 at s0 gL
  refine aJ (fun σ' H'=>∃ v2 v3,σ'=[some (.ref a),some (.ref L),v2,v3]∧H' L=some (.lst ks)∧Same H H') ?_ ?_
  ·intro nx hnx
   refine ⟨_,_,.inr (SqT.of (s0 _ _ ea)),aW _ _,_,_,rfl,mo.vl,?_⟩
   refine ⟨1,rfl,?_⟩
   refine Or.inr ?_
   refine Or.inr ?_
   refine ⟨a,_,rfl,SqT.of (s0 _ _ ea),by simp [HT.sIx],fun p hp=>?_⟩
   have ecut:cutV (V.str ww::xs) (some 1) none=xs:=by simp [cutV,HT.sIx]
   rw [ecut]
   have s1:=Same.upd hp (.tup xs)
   have gp:upd H1 p (.tup xs) p=some (.tup xs):=aA
   have gL1:=s1 _ _ gL
   generalize upd H1 p (.tup xs)=H2 at s1 gp gL1
   have s2:=s0.trans s1
   refine ⟨t,p,_,_,rfl,mo.sq _,SqT.of gp,zN (yY (whats.map V.str) xs) (fun i σ' H'=>∃ v2 v3,σ'=[some (.ref a),some (.ref L),v2,v3]∧H' L=some (.lst (cs.take i).flatten)∧Same H H'∧H' p=some (.tup xs)∧(cs.take i).flatten.length≤1000*i) ⟨_,_,rfl,by simpa using gL1,s2,gp,by simp⟩ (by rintro i τ H' _ ⟨_,_,_,_,s',gp',_⟩;exact ⟨mo.sq _,SqT.of gp'⟩) ?_ ?_⟩
   ·rintro i σ' H3 tt hi ⟨v2,v3,rfl,g1,s3,gp3,hln⟩ htt
    have hi':i < whats.length:=by simp at hi;omega
    obtain ⟨wh,x,c,e1,e2,e3,hc⟩:=mo.ctr.at_ i hi'
    have ew:(whats.map V.str).getD i .non=.str wh:=by simp [List.getD_eq_getElem?_getD,e1]
    have ex:xs.getD i .non=x:=by simp [List.getD_eq_getElem?_getD,e2]
    rw [ew,ex]
    have s4:=s3.trans (Same.upd htt (.tup [.str wh,x]))
    have g4:=Same.upd htt (.tup [.str wh,x]) _ _ g1
    have gp4:=Same.upd htt (.tup [.str wh,x]) _ _ gp3
    generalize upd H3 tt (.tup [.str wh,x])=H4 at s4 g4 gp4
    have etk:(cs.take (i+1)).flatten=(cs.take i).flatten++c:=by rw [List.take_add_one,e3];simp
    have nLp:p≠L:=fun z=>by rw [z,gL] at hp;cases hp
    rcases hc with ⟨rfl,rfl⟩ | ⟨hw,b,rows,n,rfl,hb,rm⟩ | ⟨hw,rfl⟩
    ·refine ⟨rfl,_,rfl,iteB (fun _=>?_) (fun c=>absurd c (by decide+kernel))⟩
     refine ⟨.inl ⟨rfl,_,SqL.of g4⟩,L,_,_,rfl,rfl,g4,by omega,_,_,rfl,by rw [aA,etk],s4.put hL,by rw [aN nLp];exact gp4,by rw [etk,List.length_append,List.length_singleton];omega⟩
    ·have hnm:wh≠"maker":=by rcases hw with rfl | rfl<;>decide+kernel
     have hl:=rm.len
     have hfw:=rm.few
     refine ⟨rfl,_,rfl,iteB (fun c=>absurd c (by simp [hnm])) (fun _=>?_)⟩
     refine ⟨(show 2≤sizeLine by decide),fun b1 hb1=>⟨_,.inr (SqT.of aA),?_,rfl,_,rfl,?_⟩⟩
     ·rcases hw with rfl | rfl<;>rfl
     have s5:=s4.trans (Same.upd hb1 (.tup [.str "parts",.str "cases"]))
     have g5:=Same.upd hb1 (.tup [.str "parts",.str "cases"]) _ _ g4
     have gp5:=Same.upd hb1 (.tup [.str "parts",.str "cases"]) _ _ gp4
     generalize upd H4 b1 (.tup [.str "parts",.str "cases"])=H5 at s5 g5 gp5
     refine iteB (fun _=>?_) (fun c=>absurd c ?_)
     ·refine ⟨.inl ⟨rfl,_,SqL.of g5⟩,Or.inr ⟨⟨rows,SqT.of (s5 _ _ hb)⟩,fun D hD=>?_⟩⟩
      have nDL:L≠D:=fun z=>by rw [← z,g5] at hD;cases hD
      refine d7 (cS rows) (fun i τ H3=>H3 D=some (.lst (c.take i))∧Same H5 H3∧∃ v1,τ=[v1]) ⟨aA,Same.upd hD _,none,rfl⟩ (fun i τ H3 _ h=>SqT.of (h.2.1 _ _ (s5 _ _ hb))) ?_ ?_
      ·rintro j τ H6 hj ⟨r1,r2,v1,rfl⟩
       obtain ⟨cc,ys,w1,w2,w3⟩:=rm.at_ j hj (by omega)
       have eg:rows.getD j .non=.ref cc:=by rw [List.getD_eq_getElem?_getD,List.getElem?_eq_getElem hj,w1];rfl
       rw [eg]
       refine ⟨1,rfl,_,c[j]'(by omega),.inr (SqT.of (r2 _ _ (s5 _ _ w2))),zY _ _,_,r1,by simp;omega,?_,r2.put hD,_,rfl⟩
       rw [aA,List.take_add_one,List.getElem?_eq_getElem (show j < c.length by omega)];rfl
      ·rintro τ H6 ⟨r1,r2,v1,rfl⟩
       rw [List.take_of_length_le (by omega)] at r1
       exact ⟨L,D,_,c,rfl,rfl,r2 _ _ g5,r1,by omega,_,_,rfl,by rw [aA,etk],(s5.trans r2).put hL,by rw [aN nLp];exact r2 _ _ gp5,by rw [etk,List.length_append];omega⟩
     ·rcases hw with rfl | rfl<;>decide+kernel
    ·have hnm:wh≠"maker":=by rcases hw with rfl | rfl<;>decide+kernel
     refine ⟨rfl,_,rfl,iteB (fun c=>absurd c (by simp [hnm])) (fun _=>?_)⟩
     refine ⟨(show 2≤sizeLine by decide),fun b1 hb1=>⟨_,.inr (SqT.of aA),?_,rfl,_,rfl,?_⟩⟩
     ·rcases hw with rfl | rfl<;>rfl
     have s5:=s4.trans (Same.upd hb1 (.tup [.str "parts",.str "cases"]))
     have g5:=Same.upd hb1 (.tup [.str "parts",.str "cases"]) _ _ g4
     have gp5:=Same.upd hb1 (.tup [.str "parts",.str "cases"]) _ _ gp4
     generalize upd H4 b1 (.tup [.str "parts",.str "cases"])=H5 at s5 g5 gp5
     refine iteB (fun c=>absurd c ?_) (fun _=>?_)
     ·rcases hw with rfl | rfl<;>decide+kernel
     ·exact ⟨_,_,rfl,by rw [g5,etk,List.append_nil],s5,gp5,by rw [etk,List.append_nil];omega⟩
   ·rintro σ' H3 ⟨v2,v3,rfl,g1,s3,gp3,_⟩
    rw [List.take_of_length_le (by simp;omega)] at g1
    exact hnx _ _ ⟨v2,v3,rfl,by rw [g1,mo.fl],s3⟩
  ·rintro σ' H3 ⟨v2,v3,rfl,g1,s3⟩
   exact k L H3 hL g1 s3
structure PlOf (K:PySem.W.Frag) (kvs:List (Key×V)) (z:Str) (ws:List Str) (t:Addr):Prop where
 pl:plcs z=some ws
 vl:valV kvs (.inr z)=some (.ref t)
 sq:∀ H,SqT K H t (ws.map V.str)
 few:ws.length≤3
theorem gM {y z:Str} (h:(z==y)=false):¬(Sum.inr y:Key)=Sum.inr z:=fun e=>by
 have:y=z:=Sum.inr.inj e
 rw [this,beq_self_eq_true] at h
 cases h
theorem a16 {t0 t1 t2 t3 t4 t5 t6 t7:Addr} (q0:∀ H,SqT K H t0 [.str "name"]) (q1:∀ H,SqT K H t1 [.str "name",.str "row",.str "maker"]) (q2:∀ H,SqT K H t2 [.str "maker",.str "maker"]) (q3:∀ H,SqT K H t3 [.str "parts"]) (q4:∀ H,SqT K H t4 [.str "maker",.str "name"]) (q5:∀ H,SqT K H t5 [.str "name",.str "maker"]) (q6:∀ H,SqT K H t6 [.str "maker",.str "cases"]) (q7:∀ H,SqT K H t7 [.str "maker",.str "row"]) (z:Str):
  (plcs z=none∧valV (PLk t0 t1 t2 t3 t4 t5 t6 t7) (.inr z)=none)∨∃ ws t,PlOf K (PLk t0 t1 t2 t3 t4 t5 t6 t7) z ws t:=by
 cases h0:z=="get" with
 | true=>rw [eq_of_beq h0];exact .inr ⟨["name"],t0,rfl,rfl,q0,by simp⟩
 | false=>
 cases h1:z=="fn" with
 | true=>rw [eq_of_beq h1];exact .inr ⟨["name","row","maker"],t1,rfl,rfl,q1,by simp⟩
 | false=>
 cases h2:z=="call" with
 | true=>rw [eq_of_beq h2];exact .inr ⟨["maker","maker"],t2,rfl,rfl,q2,by simp⟩
 | false=>
 cases h3:z=="box" with
 | true=>rw [eq_of_beq h3];exact .inr ⟨["parts"],t3,rfl,rfl,q3,by simp⟩
 | false=>
 cases h4:z=="part" with
 | true=>rw [eq_of_beq h4];exact .inr ⟨["maker","name"],t4,rfl,rfl,q4,by simp⟩
 | false=>
 cases h5:z=="pick" with
 | true=>rw [eq_of_beq h5];exact .inr ⟨["name","maker"],t5,rfl,rfl,q5,by simp⟩
 | false=>
 cases h6:z=="split" with
 | true=>rw [eq_of_beq h6];exact .inr ⟨["maker","cases"],t6,rfl,rfl,q6,by simp⟩
 | false=>
 cases h7:z=="hold" with
 | true=>rw [eq_of_beq h7];exact .inr ⟨["maker","row"],t7,rfl,rfl,q7,by simp⟩
 | false=>
  refine .inl ⟨?_,?_⟩
  ·unfold plcs;rw [h0,h1,h2,h3,h4,h5,h6,h7];rfl
  ·rw [bK (gM h0),bK (gM h1),bK (gM h2),bK (gM h3),bK (gM h4),bK (gM h5),bK (gM h6),bK (gM h7)];rfl
def fitL (ns:Str→Bool) (ws:List Str) (ds:List Dt) (i:Nat):Bool:=fitD ns (ws.getD i "") (ds.getD i .oth)
theorem sH (ns:Str→Bool):∀ (ws:List Str) (ds:List Dt),ws.length=ds.length→((List.range ws.length).map (fitL ns ws ds)).all id=fits ns ws ds
 | [],[],_=>rfl
 | w::ws,d::ds,h=>by
  have ih:=sH ns ws ds (by simpa using h)
  show _=(fitD ns w d&&fits ns ws ds)
  rw [← ih,List.length_cons,List.range_succ_eq_map,List.map_cons,List.all_cons,List.map_map]
  rfl
theorem oJ (ns:Str→Bool):∀ (ws:List Str) (ds:List Dt),ws.length≠ds.length→fits ns ws ds=false
 | [],[],h=>absurd rfl h
 | [],_::_,_=>rfl
 | _::_,[],_=>rfl
 | w::ws,d::ds,h=>by
  show (fitD ns w d&&fits ns ws ds)=false
  rw [oJ ns ws ds (by simpa using h),Bool.and_false]
def spFrm:Sp:=fun vs H Q _=>∃ (h:Addr) (kvs:List (Key×V)) (x:V) (d:Dt),vs=[.ref h,x]∧Rd H h (.dK kvs)∧DD H x d∧∀ H',Same H H'→Q (.bl (mfD (nsOf kvs) d)) H'
theorem rF (T:Txt K mg w):FnK P w K mg base 5 "is_formed" ["heads","thing"] spFrm:=by
 have zE:FnK P w K mg base 4 "is_fit" ["heads","what","thing"] spFit:=xO T
 refine T.tF.okS rM (fun vs H Q E h=>?_) (fun f cdv A outer s H vs Q E hr h=>?_)
 ·obtain ⟨h,kvs,x,d,rfl,_⟩:=h
  rfl
 ·obtain ⟨h,kvs,x,d,rfl,eh,hd,k⟩:=h
  have hu:=bD hr
  have hu0:=Nat.lt_of_succ_lt (bD hr)
  have hsz:sizeLine=16777216:=sizeLine_eq
  obtain ⟨aP,t0,t1,t2,t3,t4,t5,t6,t7,hmP,kdP,q0,q1,q2,q3,q4,q5,q6,q7⟩:=T.u6
  have cPLACES:∃ a,mg "PLACES"=some (.ref a)∧KD w K a _:=⟨aP,hmP,kdP⟩
  refine ⟨_,(aD (bO (i7 (dS (eI (aQ bZ (by rfl) T.bI PyProof.Rows.boot_isinstance (a9 (zv 1) (a9 (fI (v:=.ty "tuple") (by rfl) T.cB PyProof.Rows.boot_tuple rfl) sa_nil))))) (fO (aM (bF hu0) (aQ (aZ K) (by rfl) T.n_len PySem.boot_len (a9 (zv 1) sa_nil)) aF (nomark _)))).pt (aG (aO dR)) aV)
   (aD (bO (i7 (dS (eI (aQ bZ (by rfl) T.bI PyProof.Rows.boot_isinstance (aH (b7 (b6 K) (zv 1) aF (fun _ _=>rfl)) (a9 (fI (v:=.ty "str") (by rfl) T.n_str PyProof.Rows.boot_str rfl) sa_nil))))) (i7 (a29 cPLACES (b7 (b6 K) (zv 1) aF (fun _ _=>rfl))) (fO (aM (j5 hu0) (aQ (aZ K) (by rfl) T.n_len PySem.boot_len (a9 (zv 1) sa_nil)) (b8 aS aF (aQ (aZ K) (by rfl) T.n_len PySem.boot_len (aH (uE cPLACES (b7 (b6 K) (zv 1) aF (fun _ _=>rfl)) (fun _ _=>rfl)) sa_nil))) (nomark _))))).pt (aG (aO dR)) aV)
   (aG (aO (aQ (cM K rfl) (by rfl) T.n_all PyProof.Rows.boot_all (b9 (fU (own:=["what","one"]) (idx:=[0]) (N':=["what","one","heads"]) (⟨rfl,by decide+kernel,by decide+kernel,(show ∀ y∈Scope.names _,y.2=NameKind.free→((defScope fH).names.lookup y.1=some NameKind.cell∨(defScope fH).names.lookup y.1=some NameKind.free) by decide+kernel),(show ∀ j∈([0]:List Nat),(Scope.names _).lookup ((["heads","thing"]:List Str).getD j "")=some NameKind.free∧j < (["heads","thing"]:List Str).length by decide+kernel),rfl⟩) rfl (a1F true true K (by rfl) T.n_zip (aH (uE cPLACES (b7 (b6 K) (zv 1) aF (fun _ _=>rfl)) (fun _ _=>rfl)) (aH (dI (mV K) (zv 1) (dM aF) dJ) sa_nil))) (fun _ _ _ _ _ _=>(jG K (n:=2) rfl (bR (aR (i:=0) (show List.Nodup (["what","one","heads"]:List Str) by decide+kernel) rfl (Or.inl rfl)) (bR (aR (i:=1) (show List.Nodup (["what","one","heads"]:List Str) by decide+kernel) rfl (Or.inl rfl)) gG)))) (fun _ _ _ _ _ _=>cA) (fun _ _ _ _ _ _=>(aT zE (hr.mono (by decide)) (a9 (zv 2) (a9 (zv 0) (a9 (zv 1) sa_nil)))))) sa_nil)))))),?_⟩
  have kf:∀ b,mfD (nsOf kvs) d=b→∀ H',Same H H'→Q (.bl b) H':=fun b e H' s'=>by have:=k H' s';rw [e] at this;exact this
  obtain ⟨t,ht,h1,h2⟩:=hd.ty
  refine aJ (fun σ' H'=>σ'=[some (.ref h),some x]∧H=H'∧∃ a d0 r x0 xr,x=.ref a∧d=.tup (d0::r)∧H a=some (.tup (x0::xr))∧xr.length=r.length∧DD H x0 d0∧∀ i (h:i < xr.length) (h':i < r.length),DD H xr[i] r[i]) (fun nx hnx=>?_) ?_
  ·refine ⟨by decide,t,ht,_,rfl,?_⟩
   rw [h1]
   cases htup:d.isTup with
   | false=>exact iteT (iteT (kf false (by cases d<;>first | rfl | cases htup) H (Same.refl H)))
   | true=>
    refine iteF ?_
    obtain ⟨ps,rfl⟩:=iE htup
    obtain ⟨a,ys,rfl,e,hl,hds⟩:=hd.tup_elt
    refine .inl ⟨_,.inr (SqT.of e),rfl,_,rfl,?_⟩
    cases ps with
    | nil=>
     obtain rfl:ys=[]:=List.length_eq_zero_iff.mp hl
     exact iteT (kf false rfl H (Same.refl H))
    | cons d0 r=>
     cases ys with
     | nil=>simp at hl
     | cons x0 xr=>
      refine iteB (fun c=>?_) (fun c=>hnx _ _ ⟨rfl,rfl,a,d0,r,x0,xr,rfl,rfl,e,by simpa using hl,hds 0 (by simp) (by simp),fun i g g'=>hds (i+1) (by simpa using g) (by simpa using g')⟩)
      rw [Bool.false_xor,eE] at c
      have:=of_decide_eq_true c
      simp at this
      omega
  rintro σ' _ ⟨rfl,rfl,a,d0,r,x0,xr,rfl,rfl,e,hl,hx0,hxr⟩
  obtain ⟨t',ht',g1,g2⟩:=hx0.ty
  refine aJ (fun σ' H'=>σ'=[some (.ref h),some (.ref a)]∧H=H'∧∃ z ws t,d0=.str z∧x0=.str z∧PlOf K (PLk t0 t1 t2 t3 t4 t5 t6 t7) z ws t∧ws.length=r.length) (fun nx hnx=>?_) ?_
  ·refine ⟨_,x0,.inr (SqT.of e),aW _ _,by decide,t',ht',_,rfl,?_⟩
   rw [g2]
   cases hs:d0.isStr with
   | false=>exact iteT (iteT (kf false (by cases d0<;>first | rfl | cases hs) H (Same.refl H)))
   | true=>
    refine iteF ?_
    obtain ⟨z,rfl⟩:∃ z,d0=.str z:=by cases d0<;>first | exact ⟨_,rfl⟩ | cases hs
    cases nJ hx0
    refine ⟨_,_,.inr (SqT.of e),aW _ _,.inr z,rfl,_,rfl,?_⟩
    rcases a16 q0 q1 q2 q3 q4 q5 q6 q7 z with ⟨p1,p2⟩ | ⟨ws,tt,po⟩
    ·rw [p2]
     refine iteT (iteT (kf false ?_ H (Same.refl H)))
     show (match plcs z with | some ws=>fits (nsOf kvs) ws r | none=>false)=false
     rw [p1]
    ·rw [po.vl]
     refine iteF ?_
     have em:mfD (nsOf kvs) (.tup (.str z::r))=fits (nsOf kvs) ws r:=by
      show (match plcs z with | some ws=>fits (nsOf kvs) ws r | none=>false)=_
      rw [po.pl]
     refine .inl ⟨_,.inr (SqT.of e),_,_,.inr (SqT.of e),aW _ _,.inr z,_,rfl,po.vl,.inl ⟨_,.inr (po.sq H),rfl,_,rfl,?_⟩⟩
     refine iteB (fun c=>kf false ?_ H (Same.refl H)) (fun c=>hnx _ _ ⟨rfl,rfl,z,ws,tt,rfl,rfl,po,?_⟩)
     ·rw [Bool.true_xor,eE] at c
      rw [em]
      refine oJ _ _ _ fun hh=>?_
      have c':¬((xr.length:Int)+1=1+(ws.length:Int)):=by simpa using c
      omega
     ·rw [Bool.true_xor,eE] at c
      have c':((xr.length:Int)+1=1+(ws.length:Int)):=by simpa using c
      omega
  rintro σ' _ ⟨rfl,rfl,z,ws,t,rfl,rfl,po,hwl⟩
  have em:mfD (nsOf kvs) (.tup (.str z::r))=fits (nsOf kvs) ws r:=by
   show (match plcs z with | some ws=>fits (nsOf kvs) ws r | none=>false)=_
   rw [po.pl]
  have hfew:=po.few
  refine ⟨_,_,.inr (SqT.of e),aW _ _,.inr z,_,rfl,po.vl,?_⟩
  refine ⟨1,rfl,Or.inr (Or.inr ⟨a,_,rfl,SqT.of e,by simp [HT.sIx],fun p hp=>?_⟩)⟩
  have ecut:cutV (V.str z::xr) (some 1) none=xr:=by simp [cutV,HT.sIx]
  rw [ecut]
  have s1:=Same.upd hp (.tup xr)
  have gp:upd H p (.tup xr) p=some (.tup xr):=aA
  generalize upd H p (.tup xr)=H1 at s1 gp
  refine ⟨t,p,_,_,rfl,po.sq _,SqT.of gp,fun D hD=>?_⟩
  refine wK (yY (ws.map V.str) xr) (fun i τ H'=>(∃ v1 v2,τ=[v1,v2,some (.ref h)])∧H' D=some (.lst (((List.range i).map (fitL (nsOf kvs) ws r)).map V.bl))∧Same H1 H') ⟨⟨_,_,rfl⟩,aA,Same.upd hD _⟩ (by rintro i τ H' _ ⟨_,_,s'⟩;exact ⟨po.sq _,SqT.of (s' _ _ gp)⟩) ?_ ?_
  ·rintro i τ H2 TT hi ⟨⟨v1,v2,rfl⟩,g3,s2⟩ hTT
   have hiw:i < ws.length:=by simp at hi;omega
   have hix:i < xr.length:=by omega
   have ew:(ws.map V.str).getD i .non=.str (ws.getD i ""):=by simp [List.getD_eq_getElem?_getD,hiw]
   have ex:xr.getD i .non=xr[i]:=by simp [List.getD_eq_getElem?_getD,hix]
   have ed:r.getD i .oth=r[i]'(by omega):=by rw [List.getD_eq_getElem?_getD,List.getElem?_eq_getElem (by omega)];rfl
   rw [ew,ex]
   have s3:=s2.trans (Same.upd hTT (.tup [.str (ws.getD i ""),xr[i]]))
   have g4:=Same.upd hTT (.tup [.str (ws.getD i ""),xr[i]]) _ _ g3
   generalize upd H2 TT (.tup [.str (ws.getD i ""),xr[i]])=H3 at s3 g4
   refine rX ?_
   rw [if_pos rfl]
   refine ⟨h,kvs,_,_,r.getD i .oth,rfl,eh.same (s1.trans s3),by rw [ed];exact (hxr i hix (by omega)).same (s1.trans s3),fun H4 s4=>?_⟩
   refine ⟨_,s4 _ _ g4,by simp;omega,⟨_,_,rfl⟩,?_,(s3.trans s4).put hD⟩
   rw [aA,List.range_succ,List.map_append,List.map_append]
   rfl
  ·rintro τ H2 ⟨_,g3,s2⟩
   rw [show min (ws.map V.str).length xr.length=ws.length by simp;omega] at g3
   refine ⟨_,SqL.of g3,kf _ ?_ _ (s1.trans s2)⟩
   rw [em,sH _ _ _ hwl]
def DDs (H:Hp) (xs:List V) (ds:List Dt):Prop:=xs.length=ds.length∧∀ i (h:i < xs.length) (h':i < ds.length),DD H xs[i] ds[i]
theorem DDs.same {H H':Hp} {xs:List V} {ds:List Dt} (h:DDs H xs ds) (s:Same H H'):DDs H' xs ds:=⟨h.1,fun i a b=>(h.2 i a b).same s⟩
theorem DDs.nil {H:Hp}:DDs H [] []:=⟨rfl,fun i h=>absurd h (by simp)⟩
theorem DDs.snoc {H:Hp} {xs:List V} {ds:List Dt} (h:DDs H xs ds) {x:V} {d:Dt} (hx:DD H x d):DDs H (xs++[x]) (ds++[d]):=by
 obtain ⟨hl,hh⟩:=h
 refine ⟨by simp [hl],fun i a b=>?_⟩
 by_cases hi:i < xs.length
 ·rw [List.getElem_append_left hi,List.getElem_append_left (by omega)];exact hh i hi (by omega)
 ·obtain rfl:i=xs.length:=by simp at a;omega
  rw [List.getElem_append_right (by omega),List.getElem_append_right (by omega)]
  simpa [hl] using hx
theorem DDs.one {H:Hp} {x:V} {d:Dt} (h:DD H x d):DDs H [x] [d]:=by simpa using (DDs.nil (H:=H)).snoc h
theorem DDs.cons {H:Hp} {x:V} {d:Dt} {xs:List V} {ds:List Dt} (h:DD H x d) (t:DDs H xs ds):DDs H (x::xs) (d::ds):=⟨by simp [t.1],fun i a b=>by
 cases i with
 | zero=>exact h
 | succ j=>exact t.2 j (by simpa using a) (by simpa using b)⟩
theorem DDs.tail {H:Hp} {x:V} {d:Dt} {xs:List V} {ds:List Dt} (t:DDs H (x::xs) (d::ds)):DD H x d∧DDs H xs ds:=⟨t.2 0 (by simp) (by simp),by have:=t.1;simpa using this,fun i a b=>t.2 (i+1) (by simpa using a) (by simpa using b)⟩
theorem DDs.pop {H:Hp} {xs:List V} {d:Dt} {ds:List Dt} (t:DDs H xs (d::ds)):∃ x ys,xs=x::ys∧DD H x d∧DDs H ys ds:=by
 cases xs with
 | nil=>have:=t.1;simp at this
 | cons x ys=>exact ⟨x,ys,rfl,t.tail.1,t.tail.2⟩
theorem DDs.end_ {H:Hp} {xs:List V} (t:DDs H xs []):xs=[]:=List.length_eq_zero_iff.mp t.1
theorem gP {H:Hp} {x:V} {d:Dt} (h:DD H x d) (hn:nameD d=true):∃ z,x=.str z∧d=.str z∧Shr z:=by
 obtain ⟨z,rfl⟩:=sK hn
 cases h with
 | str hz=>exact ⟨z,rfl,rfl,hz⟩
theorem sW {H:Hp}:∀ {ds:List Dt} {xs:List V},DDs H xs ds→ds.all nameD=true→∀ y∈xs,∃ z:Str,y=.str z∧Shr z
 | [],xs,h,_,y,hy=>by rw [h.end_] at hy;cases hy
 | d::ds,xs,h,ha,y,hy=>by
  obtain ⟨x,ys,rfl,h1,h2⟩:=h.pop
  rw [List.all_cons,Bool.and_eq_true_iff] at ha
  rcases List.mem_cons.mp hy with rfl | hy
  ·obtain ⟨z,e,_,hz⟩:=gP h1 ha.1
   exact ⟨z,e,hz⟩
  ·exact sW h2 ha.2 y hy
theorem DDs.split {H:Hp}:∀ {ds es:List Dt} {xs:List V},DDs H xs (ds++es)→∃ ys zs,xs=ys++zs∧DDs H ys ds∧DDs H zs es
 | [],es,xs,h=>⟨[],xs,rfl,.nil,h⟩
 | d::ds,es,xs,h=>by
  obtain ⟨x,ys,rfl,h1,h2⟩:=DDs.pop h
  obtain ⟨us,zs,rfl,h3,h4⟩:=DDs.split h2
  exact ⟨x::us,zs,rfl,h3.cons h1,h4⟩
def RowD (n:Nat) (q:Dt):Prop:=∃ is m,q=.tup (is++[m])∧is.length=n∧is.all nameD=true
theorem rowsM {H:Hp} {n:Nat}:∀ {ps:List Dt} {rows:List V},DDs H rows ps→ps.length≤8→(∀ q∈ps,RowD n q)→∃ ms,RowM H n rows ms∧DDs H ms (ps.map lastD)
 | [],rows,h,_,_=>by rw [h.end_];exact ⟨[],⟨rfl,by simp,fun i h=>absurd h (by simp)⟩,.nil⟩
 | p::ps,rows,h,h8,hq=>by
  obtain ⟨x,ys,rfl,h1,h2⟩:=h.pop
  obtain ⟨ms,rm,hm⟩:=rowsM h2 (by simp at h8;omega) fun q hq'=>hq q (List.mem_cons_of_mem _ hq')
  obtain ⟨is,m,rfl,hl,hn⟩:=hq p (List.mem_cons_self ..)
  obtain ⟨a,us,rfl,e,hlu,hus⟩:=h1.tup_elt
  obtain ⟨u1,u2,rfl,d1,d2⟩:=DDs.split (H:=H) (ds:=is) (es:=[m]) ⟨hlu,hus⟩
  obtain ⟨v,v',rfl,d3,d4⟩:=d2.pop
  rw [d4.end_] at e
  have hrl:=rm.len
  have h2l:=h2.1
  refine ⟨v::ms,⟨by simp [hrl],by simp at h8 ⊢;omega,fun i g1 g2=>?_⟩,?_⟩
  ·cases i with
   | zero=>exact ⟨a,u1,rfl,e,d1.1.trans hl,sW d1 hn⟩
   | succ j=>exact rm.at_ j (by simpa using g1) (by simpa using g2)
  ·have:lastD (.tup (is++[m]))=m:=by simp [lastD]
   rw [List.map_cons,this]
   exact hm.cons d3
theorem x4 {ps:List Dt} (h:wrdD 2 (.tup ps)=true):ps.length≤8∧∀ q∈ps,RowD 1 q:=by
 unfold wrdD at h
 simp only [Bool.and_eq_true_iff,decide_eq_true_iff] at h
 obtain ⟨h8,h2,h3,_⟩:=h
 refine ⟨h8,fun q hq=>?_⟩
 have t2:=List.all_eq_true.mp h2 q hq
 have t3:=List.all_eq_true.mp h3 _ (List.mem_map.mpr ⟨q,hq,rfl⟩)
 cases q with
 | tup ds=>
  have hl:ds.length=2:=of_decide_eq_true t2
  match ds,hl with
  | [a,b],_=>exact ⟨[a],b,rfl,rfl,by rw [List.all_cons,show nameD a=true from t3];rfl⟩
 | str _=>cases t2
 | oth=>cases t2
theorem wU {ps:List Dt} (h:wrdD 3 (.tup ps)=true) (hc:casD (.tup ps)=true):ps.length≤8∧∀ q∈ps,RowD 2 q:=by
 unfold wrdD at h
 simp only [Bool.and_eq_true_iff,decide_eq_true_iff] at h
 obtain ⟨h8,h2,h3,_⟩:=h
 refine ⟨h8,fun q hq=>?_⟩
 have t2:=List.all_eq_true.mp h2 q hq
 have t3:=List.all_eq_true.mp h3 _ (List.mem_map.mpr ⟨q,hq,rfl⟩)
 have t4:=List.all_eq_true.mp hc _ (List.mem_map.mpr ⟨q,hq,rfl⟩)
 cases q with
 | tup ds=>
  have hl:ds.length=3:=of_decide_eq_true t2
  match ds,hl with
  | [a,b,c],_=>exact ⟨[a,b],c,rfl,rfl,by simp only [List.all_cons,List.all_nil,Bool.and_true];rw [show nameD a=true from t3,show nameD b=true from t4];rfl⟩
 | str _=>cases t2
 | oth=>cases t2
theorem w6 {n:Nat} {d:Dt} (h:wrdD n d=true):∃ ps,d=.tup ps:=by cases d<;>first | exact ⟨_,rfl⟩ | cases h
theorem kR {ns:Str→Bool} {d:Dt} (h:fitD ns "name" d=true):nameD d=true:=h
theorem vY {ns:Str→Bool} {d:Dt} (h:fitD ns "row" d=true):nameD d=true∧rowM ns d=true:=by
 have:(nameD d&&rowM ns d)=true:=h
 rwa [Bool.and_eq_true_iff] at this
theorem xQ {ns:Str→Bool} {d:Dt} (h:fitD ns "parts" d=true):wrdD 2 d=true:=h
theorem xB {ns:Str→Bool} {d:Dt} (h:fitD ns "cases" d=true):wrdD 3 d=true∧casD d=true:=by
 have:(wrdD 3 d&&casD d)=true:=h
 rwa [Bool.and_eq_true_iff] at this
theorem bS {ns:Str→Bool} {w:Str} {ws:List Str} {ds:List Dt} (h:fits ns (w::ws) ds=true):∃ d r,ds=d::r∧fitD ns w d=true∧fits ns ws r=true:=by
 cases ds with
 | nil=>cases h
 | cons d r=>
  have:(fitD ns w d&&fits ns ws r)=true:=h
  rw [Bool.and_eq_true_iff] at this
  exact ⟨d,r,rfl,this.1,this.2⟩
theorem fE {ns:Str→Bool} {ds:List Dt} (h:fits ns [] ds=true):ds=[]:=by
 cases ds with
 | nil=>rfl
 | cons d r=>cases h
theorem a0X {ns:Str→Bool} {d:Dt} (h:mfD ns d=true):∃ z r ws,d=.tup (.str z::r)∧plcs z=some ws∧fits ns ws r=true:=by
 unfold mfD at h
 split at h
 ·split at h
  ·exact ⟨_,_,_,rfl,by assumption,h⟩
  ·cases h
 ·cases h
theorem a0c {z:Str} {r:List Dt} {ws:List Str} (h:plcs z=some ws):kidM (.tup (.str z::r))=kidsOf ws r:=by
 show (match plcs z with | some ws=>kidsOf ws r | none=>[])=_
 rw [h]
theorem eK {z:Str} {ws:List Str} (h:plcs z=some ws):(z="get"∧ws=(["name"]:List Str))∨(z="fn"∧ws=(["name","row","maker"]:List Str))∨(z="call"∧ws=(["maker","maker"]:List Str))∨(z="box"∧ws=(["parts"]:List Str))∨(z="part"∧ws=(["maker","name"]:List Str))∨(z="pick"∧ws=(["name","maker"]:List Str))∨(z="split"∧ws=(["maker","cases"]:List Str))∨(z="hold"∧ws=(["maker","row"]:List Str)):=by
 unfold plcs at h
 repeat' split at h
 all_goals first | cases h | skip
 all_goals (rename_i c;have e:=eq_of_beq c;subst e;simp)
theorem rB {ns:Str→Bool} {H:Hp} {v:V} {d:Dt} (hd:DD H v d) (h:mfD ns d=true):∃ ks,Shp H v ks∧DDs H ks (kidM d):=by
 obtain ⟨z,r,ws,rfl,hp,hf⟩:=a0X h
 rw [a0c hp]
 obtain ⟨a,xs,rfl,e,hl,hds⟩:=hd.tup_elt
 obtain ⟨x0,xr,rfl,d0,dr⟩:=(show DDs H xs (.str z::r) from ⟨hl,hds⟩).pop
 cases nJ d0
 rcases eK hp with ⟨rfl,rfl⟩ | ⟨rfl,rfl⟩ | ⟨rfl,rfl⟩ | ⟨rfl,rfl⟩ | ⟨rfl,rfl⟩ | ⟨rfl,rfl⟩ | ⟨rfl,rfl⟩ | ⟨rfl,rfl⟩
 ·obtain ⟨d1,r1,rfl,f1,hf1⟩:=bS hf
  cases fE hf1
  obtain ⟨x1,xr1,rfl,e1,dr1⟩:=dr.pop
  cases dr1.end_
  obtain ⟨y,rfl,rfl,hy⟩:=gP e1 (kR f1)
  exact ⟨[],.get e hy,.nil⟩
 ·obtain ⟨d1,r1,rfl,f1,hf1⟩:=bS hf
  obtain ⟨d2,r2,rfl,f2,hf2⟩:=bS hf1
  obtain ⟨d3,r3,rfl,f3,hf3⟩:=bS hf2
  cases fE hf3
  obtain ⟨x1,xr1,rfl,e1,dr1⟩:=dr.pop
  obtain ⟨x2,xr2,rfl,e2,dr2⟩:=dr1.pop
  obtain ⟨x3,xr3,rfl,e3,dr3⟩:=dr2.pop
  cases dr3.end_
  obtain ⟨y,rfl,rfl,hy⟩:=gP e1 (kR f1)
  obtain ⟨y',rfl,rfl,hy'⟩:=gP e2 (vY f2).1
  exact ⟨[x3],.fn e hy hy',.one e3⟩
 ·obtain ⟨d1,r1,rfl,f1,hf1⟩:=bS hf
  obtain ⟨d2,r2,rfl,f2,hf2⟩:=bS hf1
  cases fE hf2
  obtain ⟨x1,xr1,rfl,e1,dr1⟩:=dr.pop
  obtain ⟨x2,xr2,rfl,e2,dr2⟩:=dr1.pop
  cases dr2.end_
  exact ⟨[x1,x2],.call e,(DDs.one e2).cons e1⟩
 ·obtain ⟨d1,r1,rfl,f1,hf1⟩:=bS hf
  cases fE hf1
  obtain ⟨x1,xr1,rfl,e1,dr1⟩:=dr.pop
  cases dr1.end_
  have hw:=xQ f1
  obtain ⟨ps,rfl⟩:=w6 hw
  obtain ⟨b,rows,rfl,eb,hlb,hdb⟩:=e1.tup_elt
  obtain ⟨h8,hq⟩:=x4 hw
  obtain ⟨ms,rm,hm⟩:=rowsM ⟨hlb,hdb⟩ h8 hq
  refine ⟨ms,.box e eb rm,?_⟩
  show DDs H ms (ps.map lastD++[])
  rw [List.append_nil];exact hm
 ·obtain ⟨d1,r1,rfl,f1,hf1⟩:=bS hf
  obtain ⟨d2,r2,rfl,f2,hf2⟩:=bS hf1
  cases fE hf2
  obtain ⟨x1,xr1,rfl,e1,dr1⟩:=dr.pop
  obtain ⟨x2,xr2,rfl,e2,dr2⟩:=dr1.pop
  cases dr2.end_
  obtain ⟨y,rfl,rfl,hy⟩:=gP e2 (kR f2)
  exact ⟨[x1],.part e hy,.one e1⟩
 ·obtain ⟨d1,r1,rfl,f1,hf1⟩:=bS hf
  obtain ⟨d2,r2,rfl,f2,hf2⟩:=bS hf1
  cases fE hf2
  obtain ⟨x1,xr1,rfl,e1,dr1⟩:=dr.pop
  obtain ⟨x2,xr2,rfl,e2,dr2⟩:=dr1.pop
  cases dr2.end_
  obtain ⟨y,rfl,rfl,hy⟩:=gP e1 (kR f1)
  exact ⟨[x2],.pick e hy,.one e2⟩
 ·obtain ⟨d1,r1,rfl,f1,hf1⟩:=bS hf
  obtain ⟨d2,r2,rfl,f2,hf2⟩:=bS hf1
  cases fE hf2
  obtain ⟨x1,xr1,rfl,e1,dr1⟩:=dr.pop
  obtain ⟨x2,xr2,rfl,e2,dr2⟩:=dr1.pop
  cases dr2.end_
  obtain ⟨hw,hc⟩:=xB f2
  obtain ⟨ps,rfl⟩:=w6 hw
  obtain ⟨b,rows,rfl,eb,hlb,hdb⟩:=e2.tup_elt
  obtain ⟨h8,hq⟩:=wU hw hc
  obtain ⟨ms,rm,hm⟩:=rowsM ⟨hlb,hdb⟩ h8 hq
  refine ⟨x1::ms,.split e eb rm,?_⟩
  show DDs H (x1::ms) (d1::(ps.map lastD++[]))
  rw [List.append_nil];exact hm.cons e1
 ·obtain ⟨d1,r1,rfl,f1,hf1⟩:=bS hf
  obtain ⟨d2,r2,rfl,f2,hf2⟩:=bS hf1
  cases fE hf2
  obtain ⟨x1,xr1,rfl,e1,dr1⟩:=dr.pop
  obtain ⟨x2,xr2,rfl,e2,dr2⟩:=dr1.pop
  cases dr2.end_
  obtain ⟨y,rfl,rfl,hy⟩:=gP e2 (vY f2).1
  exact ⟨[x1],.hold e hy,.one e1⟩
theorem zH {ns:Str→Bool} {H:Hp}:∀ (n:Nat) {v:V} {d:Dt},d.dep < n→DD H v d→afD ns d=true→MkT H (dpD ns d) (szD ns d) v
 | 0,_,_,h,_,_=>absurd h (Nat.not_lt_zero _)
 | n+1,v,d,hn,hd,ha=>by
  rw [lT,Bool.and_eq_true_iff] at ha
  obtain ⟨hm,hk⟩:=ha
  obtain ⟨ks,sh,hks⟩:=rB hd hm
  have ek:mkids ns d=kidM d:=by unfold mkids;rw [if_pos hm]
  rw [qQ,oP,ek,Nat.add_comm 1 (List.foldr ..)]
  rw [ek] at hk
  refine .mk (ss:=(kidM d).map (szD ns)) sh (by simp [hks.1]) (fun i h h'=>?_) rfl
  have hi:i < (kidM d).length:=by simpa using h'
  have hmem:=List.getElem_mem hi
  have hdep:=cN (ns:=ns) (d:=d) (x:=(kidM d)[i]) (by rw [ek];exact hmem)
  rw [List.getElem_map]
  refine (zH n (by omega) (hks.2 i h hi) (List.all_eq_true.mp hk _ hmem)).up ?_
  exact d5.mp (Nat.le_refl _) _ (List.mem_map.mpr ⟨_,hmem,rfl⟩)
def WAt (H H':Hp) (ws:List V) (st:List (Dt×Nat)):Prop:=ws.length=st.length∧∀ i (h:i < ws.length) (h':i < st.length),∃ c x,ws[i]=.ref c∧H' c=some (.tup [x,.int (st[i].2:Int)])∧DD H x st[i].1
theorem WAt.tk {H H' H2:Hp} {ws:List V} {st:List (Dt×Nat)} (h:WAt H H' ws st) (t:Tk H' H2):WAt H H2 ws st:=⟨h.1,fun i a b=>let ⟨c,x,h1,h2,h3⟩:=h.2 i a b;⟨c,x,h1,t _ _ h2,h3⟩⟩
theorem WAt.append {H H':Hp} {ws vs:List V} {st ts:List (Dt×Nat)} (h:WAt H H' ws st) (t:WAt H H' vs ts):WAt H H' (ws++vs) (st++ts):=⟨by simp [h.1,t.1],fun i a b=>by
 have hl:=h.1
 by_cases hi:i < ws.length
 ·rw [List.getElem_append_left hi]
  have:(st++ts)[i]=st[i]:=List.getElem_append_left (by omega)
  rw [this];exact h.2 i hi (by omega)
 ·have e1:(ws++vs)[i]=vs[i - ws.length]'(by simp at a;omega):=List.getElem_append_right (by omega)
  have e2:(st++ts)[i]=ts[i - ws.length]'(by simp at b;omega):=by rw [List.getElem_append_right (by omega)];congr 1;omega
  rw [e1,e2];exact t.2 _ _ _⟩
theorem WAt.snoc {H H':Hp} {ws:List V} {st:List (Dt×Nat)} (h:WAt H H' ws st) {c:Addr} {x:V} {d:Dt} {n:Nat} (e:H' c=some (.tup [x,.int (n:Int)])) (hd:DD H x d):WAt H H' (ws++[.ref c]) (st++[(d,n)]):=
 h.append ⟨rfl,fun i a b=>by
  obtain rfl:i=0:=by simp at a;omega
  exact ⟨c,x,rfl,e,hd⟩⟩
theorem WAt.last {H H':Hp} {ws:List V} {st:List (Dt×Nat)} (h:WAt H H' ws st) (hp:0 < ws.length):∃ (c:Addr) (x:V) (st':List (Dt×Nat)) (d:Dt) (n:Nat),ws[ws.length - 1]? =some (.ref c)∧H' c=some (.tup [x,.int (n:Int)])∧DD H x d∧st=st'++[(d,n)]∧WAt H H' ws.dropLast st':=by
 have hl:=h.1
 have hs:st≠[]:=by intro e;rw [e] at hl;simp at hl;rw [hl] at hp;simp at hp
 obtain ⟨c,x,h1,h2,h3⟩:=h.2 (ws.length - 1) (by omega) (by omega)
 refine ⟨c,x,st.dropLast,st[ws.length - 1].1,st[ws.length - 1].2,by rw [List.getElem?_eq_getElem (by omega),h1],h2,h3,?_,by simp [hl],fun i a b=>?_⟩
 ·have e:=(List.dropLast_concat_getLast hs).symm
  rw [List.getLast_eq_getElem] at e
  have ei:st.length - 1=ws.length - 1:=by omega
  simp only [ei] at e
  exact e
 ·obtain ⟨c,x,g1,g2,g3⟩:=h.2 i (by simp at a;omega) (by simp at b;omega)
  exact ⟨c,x,by rw [List.getElem_dropLast];exact g1,by rw [List.getElem_dropLast];exact g2,by rw [List.getElem_dropLast];exact g3⟩
def spIsM:Sp:=fun vs H Q _=>∃ (a:Addr) (xs:List V) (rs:List (Str×V)) (x:V) (d:Dt),vs=[.ref a,x]∧TelAt H a xs rs∧DD H x d∧∀ H',Same H H'→Q (.bl (mkrD (nsOf (dictOf (rowsK rs))) d)) H'
theorem jA (T:Txt K mg w):FnK P w K mg base 6 "is_maker" ["T","thing"] spIsM:=by
 have uI:FnK P w K mg base 1 "heads_of" ["T"] spHeads:=uB T
 have u4:FnK P w K mg base 5 "is_formed" ["heads","thing"] spFrm:=rF T
 have tP:FnK P w K mg base 1 "makers_in" ["maker"] spParts:=rJ T
 refine T.uQ.okS cV (fun vs H Q E h=>?_) (fun f cdv A outer s H vs Q E hr h=>?_)
 ·obtain ⟨a,xs,rs,x,d,rfl,_⟩:=h
  rfl
 ·obtain ⟨a,xs,rs,x,d,rfl,ht,hd,k⟩:=h
  have hu:=bD hr
  have hu0:=Nat.lt_of_succ_lt (bD hr)
  have hsz:sizeLine=16777216:=sizeLine_eq
  refine ⟨_,(aD (aL (i:=2) cV.nd rfl (Or.inl rfl) (aT uI (hr.mono (by decide)) (a9 (zv 0) sa_nil)))
   (aD (aL (i:=3) cV.nd rfl (Or.inl rfl) (b4 (aB (aE (a9 (zv 1) (a7 aF sa_nil))) sa_nil)))
   (aD (aL (i:=4) cV.nd rfl (Or.inl rfl) aF)
   (aD (rG PassesOwn.never (a0n K (zv 3)) (aD (lN (a2s K PySem.F.plainAttrs_list PySem.F.slot_list_pop PySem.F.type_list_pop a1Z (zv 3)) (jG K (n:=2) rfl (bR (aR (i:=5) cV.nd rfl (Or.inl rfl)) (bR (aR (i:=6) cV.nd rfl (Or.inr rfl)) gG))))
   (aD (a30 (i:=4) cV.nd rfl (Or.inl rfl) aF a1b)
   (aD (bO (i7 (aM hV (zv 4) (yB T.pE) (nomark _)) (i7 (aM hV (zv 6) (yB T.pD) (nomark _)) (fO (dS (eI (aT u4 (hr.mono (by decide)) (a9 (zv 2) (a9 (zv 5) sa_nil)))))))).pt (aG (aO dR)) aV)
   (aG (cT (iT K PySem.F.plainAttrs_list PySem.F.slot_list_extend PySem.F.type_list_extend qB (zv 3) (b9 (fU (own:=["inner"]) (idx:=[6]) (N':=["inner","deep"]) (⟨rfl,by decide+kernel,by decide+kernel,(show ∀ y∈Scope.names _,y.2=NameKind.free→((defScope gH).names.lookup y.1=some NameKind.cell∨(defScope gH).names.lookup y.1=some NameKind.free) by decide+kernel),(show ∀ j∈([6]:List Nat),(Scope.names _).lookup ((["T","thing","heads","waiting","many","one","deep"]:List Str).getD j "")=some NameKind.free∧j < (["T","thing","heads","waiting","many","one","deep"]:List Str).length by decide+kernel),rfl⟩) rfl (kL K (aT tP (hr.mono (by decide)) (a9 (zv 5) sa_nil))) (fun _ _ _ _ _ _=>(aR (i:=0) (show List.Nodup (["inner","deep"]:List Str) by decide+kernel) rfl (Or.inl rfl))) (fun _ _ _ _ _ _=>cA) (fun _ _ _ _ _ _=>(aE (a9 (zv 0) (cE (b8 aS (zv 1) aF) sa_nil))))) sa_nil))))))))
   (aG (aO dR)))))),?_⟩
  refine aI ⟨a,xs,rs,rfl,ht,fun h hh=>?_⟩
  have s0:=Same.upd hh (.dK (dictOf (rowsK rs)))
  have gh:upd H h (.dK (dictOf (rowsK rs))) h=some (.dK (dictOf (rowsK rs))):=aA
  generalize upd H h (.dK (dictOf (rowsK rs)))=H0 at s0 gh
  generalize dictOf (rowsK rs)=kvs at k gh
  refine aI ⟨(show 2≤sizeLine by decide),fun c0 hc0=>⟨(show 1≤sizeLine by decide),fun W hW=>?_⟩⟩
  have s1:=Same.upd hc0 (.tup [x,.int 1])
  have gc:upd H0 c0 (.tup [x,.int 1]) c0=some (.tup [x,.int 1]):=aA
  generalize upd H0 c0 (.tup [x,.int 1])=H1 at s1 gc hW
  have s2:=Same.upd hW (.lst [.ref c0])
  have gW:upd H1 W (.lst [.ref c0]) W=some (.lst [.ref c0]):=aA
  have fW:H0 W=none:=s1.free hW
  dsimp only
  generalize upd H1 W (.lst [.ref c0])=H2 at s2 gW
  refine aI ?_
  have nhW:h≠W:=fun q=>by rw [← q,gh] at fW;cases fW
  have kf:∀ b,mkrD (nsOf kvs) d=b→∀ H',Same H0 H'→Q (.bl b) H':=fun b e H' s'=>by have:=k H' (s0.trans s');rw [e] at this;exact this
  refine aJ (fun σ' H'=>Same H0 H'∧mkrD (nsOf kvs) d=true) ?_ (by rintro σ' H' ⟨s,e⟩;exact kf true e H' s)
  intro nx hnx
  refine ⟨fun m σ' H'=>∃ (ws:List V) (st:List (Dt×Nat)) (many:Nat) (v5 v6:Option V),σ'=[some (.ref a),some x,some (.ref h),some (.ref W),some (.int (many:Int)),v5,v6]∧m=61 - many∧many≤60∧H' W=some (.lst ws)∧WAt H0 H' ws st∧st.length≤1+1001*many∧stkD (nsOf kvs) many st=mkrD (nsOf kvs) d∧Same H0 H',⟨61,[.ref c0],[(d,1)],0,none,none,rfl,rfl,by omega,gW,⟨rfl,fun i a b=>?_⟩,by simp,vB _ _,s1.trans s2⟩,?_⟩
  ·obtain rfl:i=0:=by simp at a;omega
   exact ⟨c0,x,rfl,s2 _ _ gc,hd.same s0⟩
  rintro m σ' H3 ⟨ws,st,many,v5,v6,rfl,rfl,hm60,g3,hst,hsl,hk,s3⟩
  have hwl:=hst.1
  refine ⟨!ws.isEmpty,.inl ⟨ws,SqL.of g3,rfl⟩,iteB (fun c=>?_) (fun c=>?_)⟩
  rotate_left
  ·have:ws=[]:=by simpa using c
   subst this
   have:st=[]:=List.length_eq_zero_iff.mp (by simpa using hwl.symm)
   subst this
   refine hnx _ _ ⟨s3,?_⟩
   rw [← hk]
   unfold stkD
   simp;omega
  have hpos:0 < ws.length:=by
   cases ws with
   | nil=>cases c
   | cons _ _=>simp
  obtain ⟨c1,y,st',dy,n,e1,e2,e3,rfl,hst'⟩:=hst.last hpos
  rw [wO] at hk
  refine ⟨fun σ' H'=>∃ m',m' < 61 - many∧∃ (ws:List V) (st:List (Dt×Nat)) (many:Nat) (v5 v6:Option V),σ'=[some (.ref a),some x,some (.ref h),some (.ref W),some (.int (many:Int)),v5,v6]∧m'=61 - many∧many≤60∧H' W=some (.lst ws)∧WAt H0 H' ws st∧st.length≤1+1001*many∧stkD (nsOf kvs) many st=mkrD (nsOf kvs) d∧Same H0 H',fun σ' H' h=>h,?_⟩
  have tkW:Tk H3 (upd H3 W (.lst ws.dropLast)):=(Tk.refl).set g3 (by intro _ z;cases z)
  refine aJ (fun σ' H'=>σ'=[some (.ref a),some x,some (.ref h),some (.ref W),some (.int (many:Int)),some y,some (.int (n:Int))]∧H'=upd H3 W (.lst ws.dropLast)) (fun nx2 hnx2=>?_) ?_
  ·refine ⟨.inl ⟨rfl,_,SqL.of g3⟩,W,ws,_,rfl,rfl,g3,e1,?_⟩
   exact kW (tkW _ _ e2) (hnx2 _ _ ⟨rfl,rfl⟩)
  rintro σ' _ ⟨rfl,rfl⟩
  have g4:upd H3 W (.lst ws.dropLast) W=some (.lst ws.dropLast):=aA
  have s4:=s3.put (o:=.lst ws.dropLast) fW
  have hst4:=hst'.tk tkW
  generalize upd H3 W (.lst ws.dropLast)=H4 at g4 s4 hst4
  refine aJ (fun σ' H'=>σ'=[some (.ref a),some x,some (.ref h),some (.ref W),some (.int ((many+1:Nat):Int)),some y,some (.int (n:Int))]∧H4=H') (fun nx2 hnx2=>?_) ?_
  ·exact ⟨_,rfl,_,_,rfl,rfl,hnx2 _ _ ⟨rfl,rfl⟩⟩
  rintro σ' _ ⟨rfl,rfl⟩
  have hdy:=e3.same s4
  refine aJ (fun σ' H'=>σ'=[some (.ref a),some x,some (.ref h),some (.ref W),some (.int ((many+1:Nat):Int)),some y,some (.int (n:Int))]∧Same H4 H'∧many+1≤60∧n≤20∧mfD (nsOf kvs) dy=true) (fun nx2 hnx2=>?_) ?_
  ·refine ⟨_,rfl,iteB (fun c=>iteT (kf false ?_ H4 s4)) (fun c=>?_)⟩
   ·have c':(60:Int) < ((many+1:Nat):Int):=of_decide_eq_true c
    rw [← hk,decide_eq_false (by omega)];rfl
   have c':¬(60:Int) < ((many+1:Nat):Int):=of_decide_eq_false c
   refine ⟨_,rfl,iteB (fun c=>iteT (kf false ?_ H4 s4)) (fun c=>?_)⟩
   ·have c'':(20:Int) < (n:Int):=of_decide_eq_true c
    rw [← hk,decide_eq_false (show ¬n≤20 by omega),Bool.false_and,Bool.and_false]
   have c'':¬(20:Int) < (n:Int):=of_decide_eq_false c
   refine ⟨h,kvs,y,dy,rfl,.inl (s4 _ _ gh),hdy,fun H5 s5=>⟨_,rfl,?_⟩⟩
   refine iteNB (fun hf=>hnx2 _ _ ⟨rfl,s5,by omega,by omega,hf⟩) (fun hf=>kf false ?_ H5 (s4.trans s5))
   rw [← hk,hf,Bool.false_and,Bool.and_false,Bool.and_false]
  rintro σ' H5 ⟨rfl,s5,hm1,hn20,hf⟩
  rw [decide_eq_true hm1,decide_eq_true hn20,hf,Bool.true_and,Bool.true_and,Bool.true_and] at hk
  obtain ⟨ks,sh,hks⟩:=rB e3 hf
  have ekd:mkids (nsOf kvs) dy=kidM dy:=by unfold mkids;rw [if_pos hf]
  rw [ekd] at hk
  have hkl:=jS sh
  have hkl2:=hks.1
  have g5:=s5 _ _ g4
  refine ⟨.inl ⟨rfl,_,SqL.of g5⟩,y,ks,rfl,sh.tk (s4.trans s5).ts,fun L H6 hL gL s6=>Or.inl ⟨⟨ks,SqL.of gL⟩,fun D hD=>?_⟩⟩
  have s46:=s5.trans s6
  refine d7 (cL ks) (fun i τ H7=>(∃ zs,H7 D=some (.lst zs)∧WAt H0 H7 zs (((kidM dy).take i).map fun z=>(z,n+1)))∧Same H6 H7∧∃ v1,τ=[v1,some (.int (n:Int))]) ⟨⟨[],aA,rfl,fun j h=>nomatch h⟩,Same.upd hD _,none,rfl⟩ (fun i τ H7 _ h=>SqL.of (h.2.1 _ _ gL)) ?_ ?_
  ·rintro i τ H7 hi ⟨⟨zs,q1,q2⟩,q3,v1,rfl⟩
   have hik:i < (kidM dy).length:=by omega
   have eg:ks.getD i .non=ks[i]:=by simp [List.getD_eq_getElem?_getD,hi]
   rw [eg]
   refine ⟨(show 2≤sizeLine by decide),fun c2 hc2=>?_⟩
   have en:((n:Int)+1)=((n+1:Nat):Int):=by omega
   rw [en]
   have s8:=Same.upd hc2 (.tup [ks[i],.int ((n+1:Nat):Int)])
   have g8:upd H7 c2 (.tup [ks[i],.int ((n+1:Nat):Int)]) c2=some (.tup [ks[i],.int ((n+1:Nat):Int)]):=aA
   generalize upd H7 c2 (.tup [ks[i],.int ((n+1:Nat):Int)])=H8 at s8 g8
   have q18:=s8 _ _ q1
   have hzl:=q2.1
   have tkD:Tk H8 (upd H8 D (.lst (zs++[.ref c2]))):=(Tk.refl).set q18 (by intro _ z;cases z)
   refine ⟨zs,q18,by simp at hzl;omega,⟨zs++[.ref c2],aA,?_⟩,(q3.trans s8).put hD,_,rfl⟩
   have et:(kidM dy).take (i+1)=(kidM dy).take i++[(kidM dy)[i]]:=by rw [List.take_add_one,List.getElem?_eq_getElem hik];rfl
   rw [et,List.map_append]
   exact ((q2.tk s8.ts).snoc g8 (hks.2 i hi hik)).tk tkD
  ·rintro τ H7 ⟨⟨zs,q1,q2⟩,q3,v1,rfl⟩
   rw [List.take_of_length_le (by omega)] at q2
   have hzl:=q2.1
   simp only [List.length_map] at hzl
   have hs47:=s46.trans q3
   have hdl:=hst4.1
   have g7:=hs47 _ _ g4
   simp only [List.length_append,List.length_cons,List.length_nil] at hsl
   refine ⟨W,D,ws.dropLast,zs,rfl,rfl,g7,q1,by omega,?_⟩
   have tkF:Tk H7 (upd H7 W (.lst (ws.dropLast++zs))):=(Tk.refl).set g7 (by intro _ z;cases z)
   refine ⟨61 - (many+1),by omega,ws.dropLast++zs,st'++(kidM dy).map fun z=>(z,n+1),many+1,_,_,rfl,rfl,by omega,aA,((hst4.tk hs47.ts).append q2).tk tkF,?_,hk,(s4.trans hs47).put fW⟩
   simp only [List.length_append,List.length_map]
   omega
def spDeep (n:Nat):Sp:=fun vs H Q _=>∃ (ns:Str→Bool) (v:V) (d:Dt),vs=[v]∧DD H v d∧afD ns d=true∧d.dep < n∧∀ H',Same H H'→Q (.int (dpD ns d:Int)) H'
theorem tO (T:Txt K mg w):∀ n:Nat,FnK P w K mg base (2+n) "_law_deep" ["_law_maker"] (spDeep n):=by
 intro n
 induction n with
 | zero=>
  refine T.nU.okS (k:=1) mQ (fun vs H Q E h=>?_) (fun f cdv A outer s H vs Q E hr h=>?_)
  ·obtain ⟨ns,v,d,rfl,_⟩:=h
   rfl
  ·obtain ⟨ns,v,d,rfl,_,_,h,_⟩:=h
   exact absurd h (Nat.not_lt_zero _)
 | succ n ih=>
  have kJ:FnK P w K mg base (2+n) "_law_deep" ["_law_maker"] (spDeep n):=ih
  have c8:FnK P w K mg base 1 "_law_parts" ["_law_maker"] spParts:=dX T
  refine T.nU.okS (k:=2+n) mQ (fun vs H Q E h=>?_) (fun f cdv A outer s H vs Q E hr h=>?_)
  ·obtain ⟨ns,v,d,rfl,_⟩:=h
   rfl
  ·obtain ⟨ns,v,d,rfl,hd,ha,hn,k⟩:=h
   have hu:=bD hr
   have hu0:=Nat.lt_of_succ_lt (bD hr)
   have hsz:sizeLine=16777216:=sizeLine_eq
   have ha':=ha
   rw [lT,Bool.and_eq_true_iff] at ha
   obtain ⟨hm,hk⟩:=ha
   obtain ⟨ks,sh,hks⟩:=rB hd hm
   have ek:mkids ns d=kidM d:=by unfold mkids;rw [if_pos hm]
   have hdp:=oP ns d
   rw [ek] at hk hdp
   have hkl:=jS sh
   have hkl2:=hks.1
   have hdep:∀ y∈kidM d,y.dep < n:=fun y hy=>by
    have:=cN (ns:=ns) (d:=d) (x:=y) (by rw [ek];exact hy)
    omega
   generalize kidM d=kd at hks hkl2 hk hdp hdep
   refine ⟨_,(aG (aO (b8 aS aF (a2K K rfl (by rfl) T.n_max (fU (own:=["_law_one"]) (idx:=[]) (N':=["_law_one"]) (⟨rfl,by decide+kernel,by decide+kernel,(show ∀ y∈Scope.names _,y.2=NameKind.free→((defScope gI).names.lookup y.1=some NameKind.cell∨(defScope gI).names.lookup y.1=some NameKind.free) by decide+kernel),(show ∀ j∈([]:List Nat),(Scope.names _).lookup ((["_law_maker"]:List Str).getD j "")=some NameKind.free∧j < (["_law_maker"]:List Str).length by decide+kernel),rfl⟩) rfl (kL K (aT c8 (hr.mono (by omega)) (a9 (zv 0) sa_nil))) (fun _ _ _ _ _ _=>(aR (i:=0) (show List.Nodup (["_law_one"]:List Str) by decide+kernel) rfl (Or.inl rfl))) (fun _ _ _ _ _ _=>cA) (fun _ _ _ _ _ _=>(aT kJ (hr.mono (by omega)) (a9 (zv 0) sa_nil)))) aF)))),?_⟩
   refine ⟨v,ks,rfl,sh,fun L H1 hL gL s1=>Or.inl ⟨⟨ks,SqL.of gL⟩,fun D hD=>?_⟩⟩
   refine d7 (cL ks) (fun i τ H3=>H3 D=some (.lst (((kd.take i).map fun x=>(dpD ns x:Int)).map V.int))∧Same H1 H3∧∃ v1,τ=[v1]) ⟨aA,Same.upd hD _,none,rfl⟩ (fun i τ H3 _ h=>SqL.of (h.2.1 _ _ gL)) ?_ ?_
   ·rintro i τ H3 hi ⟨q1,q2,v1,rfl⟩
    have hi':i < kd.length:=by omega
    have hmem:=List.getElem_mem hi'
    have eg:ks.getD i .non=ks[i]:=by simp [List.getD_eq_getElem?_getD,hi]
    rw [eg]
    refine ⟨ns,ks[i],kd[i],rfl,(hks.2 i hi hi').same (s1.trans q2),List.all_eq_true.mp hk _ hmem,hdep _ hmem,fun H4 s4=>?_⟩
    refine ⟨_,s4 _ _ q1,by simp;omega,?_,(q2.trans s4).put hD,_,rfl⟩
    have et:kd.take (i+1)=kd.take i++[kd[i]]:=by rw [List.take_add_one,List.getElem?_eq_getElem hi'];rfl
    rw [aA,et,List.map_append,List.map_append];rfl
   ·rintro τ H3 ⟨q1,q2,v1,rfl⟩
    rw [List.take_of_length_le (by omega)] at q1
    refine ⟨D,kd.map fun x=>(dpD ns x:Int),0,rfl,rfl,SqL.of q1,fun m hm'=>?_⟩
    have e9:(1:Int)+m=((dpD ns d:Nat):Int):=by
     rw [hdp]
     rcases hm' with ⟨e,rfl⟩ | ⟨hm1,hm2⟩
     ·have:kd=[]:=by simpa using e
      rw [this];rfl
     ·obtain ⟨y,hy,rfl⟩:=List.mem_map.mp hm1
      have h1:(kd.map (dpD ns)).foldr max 0≤dpD ns y:=d5.mpr fun x hx=>by
       obtain ⟨z,hz,rfl⟩:=List.mem_map.mp hx
       have:=hm2 _ (List.mem_map.mpr ⟨z,hz,rfl⟩)
       omega
      have h2:=d5.mp (Nat.le_refl ((kd.map (dpD ns)).foldr max 0)) _ (List.mem_map.mpr ⟨y,hy,rfl⟩)
      omega
    have:=k H3 (s1.trans q2)
    rw [← e9] at this
    exact this
theorem j0 (T:Txt K mg w):FnK P w K mg base 1 "_law_name_is" ["_law_thing"] (spT nameD):=by
 refine T.p9.okS oO (fun vs H Q E h=>?_) (fun f cdv A outer s H vs Q E hr h=>?_)
 ·obtain ⟨x,d,rfl,_⟩:=h
  rfl
 ·obtain ⟨x,d,rfl,hd,k⟩:=h
  have hu0:=Nat.lt_of_succ_lt (bD hr)
  have hsz:sizeLine=16777216:=sizeLine_eq
  refine ⟨_,(aD (bO (i7 (dS (eI (aQ bZ (by rfl) T.bI PyProof.Rows.boot_isinstance (a9 (zv 0) (a9 (fI (v:=.ty "str") (by rfl) T.n_str PyProof.Rows.boot_str rfl) sa_nil))))) (fO (dS (wI kP kP aF (aQ (aZ K) (by rfl) T.n_len PySem.boot_len (a9 (zv 0) sa_nil)) aF)))).pt (aG (aO dR)) aV)
   (aD (bO (aM (iN K) (zv 0) (aE (a7 aC (a7 aC (a7 aC (a7 aC (a7 aC sa_nil)))))) rfl) (aG (aO dR)) aV)
   (aG (aO (aQ (cM K rfl) (by rfl) T.n_all PyProof.Rows.boot_all (b9 (fU (own:=["_law_sign"]) (idx:=[]) (N':=["_law_sign"]) (⟨rfl,by decide+kernel,by decide+kernel,(show ∀ y∈Scope.names _,y.2=NameKind.free→((defScope dF).names.lookup y.1=some NameKind.cell∨(defScope dF).names.lookup y.1=some NameKind.free) by decide+kernel),(show ∀ j∈([]:List Nat),(Scope.names _).lookup ((["_law_thing"]:List Str).getD j "")=some NameKind.free∧j < (["_law_thing"]:List Str).length by decide+kernel),rfl⟩) rfl (kL K (zv 0)) (fun _ _ _ _ _ _=>(aR (i:=0) (show List.Nodup (["_law_sign"]:List Str) by decide+kernel) rfl (Or.inl rfl))) (fun _ _ _ _ _ _=>cA) (fun _ _ _ _ _ _=>(fJ (iN K) (zv 0) aC rfl))) sa_nil)))))),?_⟩
  obtain ⟨t,ht,h1,h2⟩:=hd.ty
  have kf:∀ b,nameD d=b→∀ H',Same H H'→Q (.bl b) H':=fun b e H' s'=>by have:=k H' s';rw [e] at this;exact this
  refine aJ (fun σ' H'=>σ'=[some x]∧H=H'∧∃ z,x=.str z∧d=.str z∧1≤z.length∧z.length≤8) (fun nx hnx=>?_) ?_
  ·refine ⟨by decide,t,ht,_,rfl,?_⟩
   rw [h2]
   cases hs:d.isStr with
   | false=>exact iteT (iteT (kf false (by cases d<;>first | rfl | cases hs) H (Same.refl H)))
   | true=>
    refine iteF ?_
    obtain ⟨z,rfl⟩:∃ z,d=.str z:=by cases d<;>first | exact ⟨_,rfl⟩ | cases hs
    obtain ⟨_,hz⟩:x=.str z∧z.length≤100000:=by cases hd with | str hz=>exact ⟨rfl,hz⟩
    subst x
    refine ⟨by omega,_,rfl,?_⟩
    refine ite2 (fun g1=>?_) (fun g1=>?_)
    ·refine ⟨_,rfl,?_⟩
     have g1':1≤z.length:=by have:=of_decide_eq_true g1;omega
     refine iteNB (fun g2=>hnx _ _ ⟨rfl,rfl,z,rfl,rfl,g1',?_⟩) (fun g2=>kf false ?_ H (Same.refl H))
     ·have:=of_decide_eq_true g2;omega
     ·have g2':¬z.length≤8:=by have:=of_decide_eq_false g2;omega
      show isName z=false
      simp [isName,g2']
    ·refine ⟨_,rfl,iteT (kf false ?_ H (Same.refl H))⟩
     have g1':¬1≤z.length:=by have:¬(1:Int)≤z.length:=fun q=>g1 (decide_eq_true q);omega
     show isName z=false
     simp [isName,g1']
  rintro σ' _ ⟨rfl,rfl,z,rfl,rfl,g1,g2⟩
  have hin:inV (.str z) [.str "all",.str "none",.str "way",.str "box",.str "pick"]=NON.any fun y=>y==z:=by
   unfold inV
   rfl
  refine aJ (fun σ' H'=>σ'=[some (.str z)]∧Same H H'∧(NON.any fun y=>y==z)=false) (fun nx hnx=>?_) ?_
  ·refine ⟨(show 5≤sizeLine by decide),fun b1 hb1=>⟨_,.inr (SqT.of aA),rfl,rfl,_,rfl,?_⟩⟩
   have sL:=Same.upd hb1 (.tup [.str "all",.str "none",.str "way",.str "box",.str "pick"])
   refine iteB (fun c=>kf false ?_ _ sL) (fun c=>hnx _ _ ⟨rfl,sL,?_⟩)
   ·have h5':(NON.any fun y=>y==z)=true:=by rw [← hin];simpa using c
    show isName z=false
    simp [isName,h5']
   ·rw [← hin];simpa using c
  rintro σ' H1 ⟨rfl,s1,hno⟩
  have hcs:z.cps.size=z.length:=rfl
  intro D hD
  refine w4 (lJ z) (fun _=>true) (fun i=>.bl (inAbc (z.cps.getD i 0))) (small1000 (by omega)) (fun _=>True.intro) (fun i hi ys k' hk=>hk) (fun i hi _ ys k' hk=>⟨_,rfl,by rw [Bool.false_xor];exact hk⟩) ?_
  refine ⟨(List.range z.cps.size).map fun i=>inAbc (z.cps.getD i 0),?_,?_⟩
  ·rw [List.map_map]
   have:((List.range z.cps.size).filter fun _=>true)=List.range z.cps.size:=by simp
   rw [this]
   exact SqL.of aA
  ·rw [k7]
   refine kf _ ?_ _ (s1.trans (Same.upd hD _))
   show isName z=_
   simp [isName,g1,g2,hno]
def initsD:Dt→List Dt | .tup ds=>ds.dropLast | _=>[]
def rowOk (n:Nat) (q:Dt):Bool:=tupN n q&&(initsD q).all nameD
def rwD (n:Nat):Dt→Bool | .tup ps=>decide (ps.length≤8)&&(ps.all (rowOk n)&&rising ((ps.map hd0).map strD)) | _=>false
theorem a2k (d:Dt):rwD 2 d=wrdD 2 d:=by
 cases d with
 | tup ps=>
  show (decide (ps.length≤8)&&(ps.all (rowOk 2)&&_))=(decide (ps.length≤8)&&(ps.all (tupN 2)&&((ps.map hd0).all nameD&&_)))
  have:ps.all (rowOk 2)=(ps.all (tupN 2)&&(ps.map hd0).all nameD):=by
   induction ps with
   | nil=>rfl
   | cons q r ih=>
    rw [List.all_cons,List.all_cons,List.map_cons,List.all_cons,ih]
    have:rowOk 2 q=(tupN 2 q&&nameD (hd0 q)):=by
     match q with
     | .str _=>rfl
     | .oth=>rfl
     | .tup []=>rfl
     | .tup [a]=>rfl
     | .tup [a,b]=>show (_&&((nameD a&&true)))=_;rw [Bool.and_true];rfl
     | .tup (a::b::c::r)=>
      have h:tupN 2 (.tup (a::b::c::r))=false:=by simp [tupN]
      unfold rowOk;rw [h];rfl
    rw [this]
    cases tupN 2 q<;>cases nameD (hd0 q)<;>cases r.all (tupN 2)<;>rfl
  rw [this,Bool.and_assoc]
 | str _=>rfl
 | oth=>rfl
theorem a2u (d:Dt):rwD 3 d=(wrdD 3 d&&casD d):=by
 cases d with
 | tup ps=>
  show (decide (ps.length≤8)&&(ps.all (rowOk 3)&&_))=((decide (ps.length≤8)&&(ps.all (tupN 3)&&((ps.map hd0).all nameD&&_)))&&(ps.map nd1).all nameD)
  have:ps.all (rowOk 3)=(ps.all (tupN 3)&&((ps.map hd0).all nameD&&(ps.map nd1).all nameD)):=by
   induction ps with
   | nil=>rfl
   | cons q r ih=>
    rw [List.all_cons,List.all_cons,List.map_cons,List.all_cons,List.map_cons,List.all_cons,ih]
    have:rowOk 3 q=(tupN 3 q&&(nameD (hd0 q)&&nameD (nd1 q))):=by
     match q with
     | .str _=>rfl
     | .oth=>rfl
     | .tup []=>rfl
     | .tup [a]=>rfl
     | .tup [a,b]=>rfl
     | .tup [a,b,c]=>show (_&&(nameD a&&(nameD b&&true)))=_;rw [Bool.and_true];rfl
     | .tup (a::b::c::e::r)=>
      have h:tupN 3 (.tup (a::b::c::e::r))=false:=by simp [tupN]
      unfold rowOk;rw [h];rfl
    rw [this]
    cases tupN 3 q<;>cases nameD (hd0 q)<;>cases nameD (nd1 q)<;>cases r.all (tupN 3)<;>cases (r.map hd0).all nameD<;>rfl
  rw [this]
  cases decide (ps.length≤8)<;>cases ps.all (tupN 3)<;>cases (ps.map hd0).all nameD<;>cases (ps.map nd1).all nameD<;>simp
 | str _=>rfl
 | oth=>rfl
def spRwA:Sp:=fun vs H Q _=>∃ (x:V) (d:Dt) (n:Nat),vs=[x,.int (n:Int)]∧2≤n∧DD H x d∧∀ H',Same H H'→Q (.bl (rwD n d)) H'
theorem a04 {α:Type} {f:α→Bool} {l:List α} {i:Nat} (h:(l.take i).all f=true) (hi:i < l.length) (hf:f l[i]=true):(l.take (i+1)).all f=true:=by
 rw [List.take_add_one,List.getElem?_eq_getElem hi]
 rw [List.all_append,h]
 simp [hf]
theorem wS {α:Type} {f:α→Bool} {l:List α} {i:Nat} (hi:i < l.length) (hf:f l[i]=false):l.all f=false:=by
 cases h:l.all f with
 | false=>rfl
 | true=>have:=List.all_eq_true.mp h _ (List.getElem_mem hi);rw [hf] at this;cases this
theorem uU (n d:Nat):HT.sIx n d (some (-1))=n - 1:=by
 unfold HT.sIx
 simp
 omega
theorem a02 (xs:List V):cutV xs none (some (-1))=xs.dropLast:=by
 unfold cutV
 rw [uU,HT.jB,List.dropLast_eq_take]
 simp
theorem DDs.dropLast {H:Hp} {xs:List V} {ds:List Dt} (h:DDs H xs ds):DDs H xs.dropLast ds.dropLast:=⟨by simp [h.1],fun i a b=>by
 rw [List.getElem_dropLast,List.getElem_dropLast]
 exact h.2 i _ _⟩
theorem mX (T:Txt K mg w):FnK P w K mg base 2 "_law_rows_are" ["_law_thing","_law_size"] spRwA:=by
 have f8:FnK P w K mg base 1 "_law_name_is" ["_law_thing"] (spT nameD):=j0 T
 refine T.nW.okS fM (fun vs H Q E h=>?_) (fun f cdv A outer s H vs Q E hr h=>?_)
 ·obtain ⟨x,d,n,rfl,_⟩:=h
  rfl
 ·obtain ⟨x,d,n,rfl,hn2,hd,k⟩:=h
  have hu0:=Nat.lt_of_succ_lt (bD hr)
  have hsz:sizeLine=16777216:=sizeLine_eq
  refine ⟨_,(aD (bO (i7 (dS (eI (aQ bZ (by rfl) T.bI PyProof.Rows.boot_isinstance (a9 (zv 0) (a9 (fI (v:=.ty "tuple") (by rfl) T.cB PyProof.Rows.boot_tuple rfl) sa_nil))))) (fO (aM hV (aQ (aZ K) (by rfl) T.n_len PySem.boot_len (a9 (zv 0) sa_nil)) aF (nomark _)))).pt (aG (aO dR)) aV)
   (aD (gX PassesOwn.never rfl (kL K (zv 0)) (aR (i:=2) fM.nd rfl (Or.inl rfl)) (aD (bO (i7 (dS (eI (aQ bZ (by rfl) T.bI PyProof.Rows.boot_isinstance (a9 (zv 2) (a9 (fI (v:=.ty "tuple") (by rfl) T.cB PyProof.Rows.boot_tuple rfl) sa_nil))))) (fO (aM (j5 hu0) (aQ (aZ K) (by rfl) T.n_len PySem.boot_len (a9 (zv 2) sa_nil)) (zv 1) (nomark _)))).pt (aG (aO dR)) aV)
   (aG (bO (dS (eI (aQ (cM K rfl) (by rfl) T.n_all PyProof.Rows.boot_all (b9 (fU (own:=["_law_word"]) (idx:=[]) (N':=["_law_word"]) (⟨rfl,by decide+kernel,by decide+kernel,(show ∀ y∈Scope.names _,y.2=NameKind.free→((defScope bM).names.lookup y.1=some NameKind.cell∨(defScope bM).names.lookup y.1=some NameKind.free) by decide+kernel),(show ∀ j∈([]:List Nat),(Scope.names _).lookup ((["_law_thing","_law_size","_law_one","_law_words_here"]:List Str).getD j "")=some NameKind.free∧j < (["_law_thing","_law_size","_law_one","_law_words_here"]:List Str).length by decide+kernel),rfl⟩) rfl (kL K (dI (mV K) (zv 2) dJ (dM (a14 rO aF)))) (fun _ _ _ _ _ _=>(aR (i:=0) (show List.Nodup (["_law_word"]:List Str) by decide+kernel) rfl (Or.inl rfl))) (fun _ _ _ _ _ _=>cA) (fun _ _ _ _ _ _=>(aT f8 (hr.mono (by decide)) (a9 (zv 0) sa_nil)))) sa_nil)))) (aG (aO dR)) aV))))
   (aD (aL (i:=3) fM.nd rfl (Or.inr rfl) (fU (own:=["_law_one"]) (idx:=[]) (N':=["_law_one"]) (⟨rfl,by decide+kernel,by decide+kernel,(show ∀ y∈Scope.names _,y.2=NameKind.free→((defScope bM).names.lookup y.1=some NameKind.cell∨(defScope bM).names.lookup y.1=some NameKind.free) by decide+kernel),(show ∀ j∈([]:List Nat),(Scope.names _).lookup ((["_law_thing","_law_size","_law_one","_law_words_here"]:List Str).getD j "")=some NameKind.free∧j < (["_law_thing","_law_size","_law_one","_law_words_here"]:List Str).length by decide+kernel),rfl⟩) rfl (kL K (zv 0)) (fun _ _ _ _ _ _=>(aR (i:=0) (show List.Nodup (["_law_one"]:List Str) by decide+kernel) rfl (Or.inl rfl))) (fun _ _ _ _ _ _=>cA) (fun _ _ _ _ _ _=>(b7 (b6 K) (zv 0) aF (fun _ _=>rfl)))))
   (aG (aO (aQ (cM K rfl) (by rfl) T.n_all PyProof.Rows.boot_all (b9 (fU (own:=["_law_k"]) (idx:=[3]) (N':=["_law_k","_law_words_here"]) (⟨rfl,by decide+kernel,by decide+kernel,(show ∀ y∈Scope.names _,y.2=NameKind.free→((defScope bM).names.lookup y.1=some NameKind.cell∨(defScope bM).names.lookup y.1=some NameKind.free) by decide+kernel),(show ∀ j∈([3]:List Nat),(Scope.names _).lookup ((["_law_thing","_law_size","_law_one","_law_words_here"]:List Str).getD j "")=some NameKind.free∧j < (["_law_thing","_law_size","_law_one","_law_words_here"]:List Str).length by decide+kernel),rfl⟩) rfl (y8 (by rfl) T.dU (a7 aF (b5 (aQ (aZ K) (by rfl) T.n_len PySem.boot_len (a9 (zv 3) sa_nil)) sa_nil))) (fun _ _ _ _ _ _=>(aR (i:=0) (show List.Nodup (["_law_k","_law_words_here"]:List Str) by decide+kernel) rfl (Or.inl rfl))) (fun _ _ _ _ _ _=>cA) (fun _ _ _ _ _ _=>(fJ m9 (b7 (b6 K) (zv 1) (b8 cQ (zv 0) aF) (fun _ _=>rfl)) (b7 (b6 K) (zv 1) (zv 0) (fun _ _=>rfl)) (nomark _)))) sa_nil))))))),?_⟩
  have kf:∀ b,rwD n d=b→∀ H',Same H H'→Q (.bl b) H':=fun b e H' s'=>by have:=k H' s';rw [e] at this;exact this
  obtain ⟨t,ht,h1,h2⟩:=hd.ty
  refine aJ (fun σ' H'=>σ'=[some x,some (.int (n:Int)),none,none]∧H=H'∧∃ a ps ys,x=.ref a∧d=.tup ps∧H a=some (.tup ys)∧ys.length≤8∧DDs H ys ps) (fun nx hnx=>?_) ?_
  ·refine ⟨by decide,t,ht,_,rfl,?_⟩
   rw [h1]
   cases htup:d.isTup with
   | false=>exact iteT (iteT (kf false (by cases d<;>first | rfl | cases htup) H (Same.refl H)))
   | true=>
    refine iteF ?_
    obtain ⟨ps,rfl⟩:=iE htup
    obtain ⟨a,ys,rfl,e,hl,hds⟩:=hd.tup_elt
    refine .inl ⟨_,.inr (SqT.of e),_,rfl,iteB (fun c=>kf false ?_ H (Same.refl H)) (fun c=>hnx _ _ ⟨rfl,rfl,a,ps,ys,rfl,rfl,e,?_,hl,hds⟩)⟩
    ·have c':(ys.length:Int) > 8:=by simpa using c
     show (decide (ps.length≤8)&&_)=false
     rw [decide_eq_false (by omega)];rfl
    ·have c':¬(ys.length:Int) > 8:=by simpa using c
     omega
  rintro σ' _ ⟨rfl,rfl,a,ps,ys,rfl,rfl,e,hl8,hds⟩
  have hl:=hds.1
  have ew:rwD n (.tup ps)=(ps.all (rowOk n)&&rising ((ps.map hd0).map strD)):=by
   show (decide (ps.length≤8)&&_)=_
   rw [decide_eq_true (by omega),Bool.true_and]
  refine aJ (fun σ' H'=>(∃ v2,σ'=[some (.ref a),some (.int (n:Int)),v2,none])∧Same H H'∧ps.all (rowOk n)=true) (fun nx hnx=>?_) ?_
  ·refine Or.inr ⟨⟨ys,SqT.of e⟩,eU (cS ys) (fun i σ' H'=>(∃ v2,σ'=[some (.ref a),some (.int (n:Int)),v2,none])∧Same H H'∧(ps.take i).all (rowOk n)=true) ⟨⟨_,rfl⟩,Same.refl H,rfl⟩ (fun i τ H' _ h=>SqT.of (h.2.1 _ _ e)) ?_ ?_⟩
   ·rintro i σ' H1 hi ⟨⟨v2,rfl⟩,s1,hall⟩
    have hip:i < ps.length:=by omega
    have h3:=(hds.2 i hi hip).same s1
    have e1:ys.getD i .non=ys[i]:=by simp [List.getD_eq_getElem?_getD,hi]
    rw [e1]
    have fin:rowOk n ps[i]=false→∀ H',Same H1 H'→Q (.bl false) H':=fun hf H' s'=>kf false (by rw [ew,wS hip hf];rfl) _ (s1.trans s')
    have con:=fun hf:rowOk n ps[i]=true=>a04 hall hip hf
    generalize ys[i]=y at h3
    generalize ps[i]=dp at h3 fin con
    obtain ⟨t',ht',g1,g2⟩:=h3.ty
    refine aJ (fun σ' H'=>σ'=[some (.ref a),some (.int (n:Int)),some y,none]∧H1=H'∧∃ b qs zs,y=.ref b∧dp=.tup qs∧H1 b=some (.tup zs)∧qs.length=n∧DDs H1 zs qs) (fun nx2 hnx2=>?_) ?_
    ·refine ⟨by decide,t',ht',_,rfl,?_⟩
     rw [g1]
     cases hdt:dp.isTup with
     | false=>exact iteT (iteT (fin (by cases dp<;>first | rfl | cases hdt) H1 (Same.refl _)))
     | true=>
      refine iteF ?_
      obtain ⟨qs,rfl⟩:=iE hdt
      obtain ⟨b,zs,rfl,e4,hl4,hq⟩:=h3.tup_elt
      refine .inl ⟨_,.inr (SqT.of e4),rfl,_,rfl,iteB (fun c=>fin ?_ H1 (Same.refl _)) (fun c=>hnx2 _ _ ⟨rfl,rfl,b,qs,zs,rfl,rfl,e4,?_,hl4,hq⟩)⟩
      ·rw [Bool.true_xor,eE] at c
       have c':¬(zs.length:Int)=n:=by simpa using c
       unfold rowOk
       rw [show tupN n (.tup qs)=false from decide_eq_false (by omega)];rfl
      ·rw [Bool.true_xor,eE] at c
       have c':(zs.length:Int)=n:=by simpa using c
       omega
    rintro σ' _ ⟨rfl,rfl,b,qs,zs,rfl,rfl,e4,hqn,hq⟩
    have hzl:=hq.1
    have er:rowOk n (.tup qs)=qs.dropLast.all nameD:=by
     unfold rowOk
     rw [show tupN n (.tup qs)=true from decide_eq_true hqn];rfl
    refine ⟨1,rfl, -1,rfl,Or.inr (Or.inr ⟨b,_,rfl,SqT.of e4,by rw [uU];omega,fun p hp=>?_⟩)⟩
    rw [a02]
    have s2:=Same.upd hp (.tup zs.dropLast)
    have gp:upd H1 p (.tup zs.dropLast) p=some (.tup zs.dropLast):=aA
    generalize upd H1 p (.tup zs.dropLast)=H2 at s2 gp
    have hq2:=(hq.same s2).dropLast
    have hq2l:=hq2.1
    have hz1000:zs.length≤1000:=by
     cases h3 with
     | tup e' _ hn' _=>rw [e4] at e';cases e';exact hn'
    have hdl:zs.dropLast.length≤1000:=by simp;omega
    refine Or.inr ⟨⟨_,SqT.of gp⟩,fun D hD=>?_⟩
    refine iB (cS zs.dropLast) (fun i=>nameD (qs.dropLast.getD i .oth)) (by omega) hD (fun H3 s3=>SqT.of (s3 _ _ gp)) (fun i H3 k' hi' s3 hk=>?_) (fun H3 s3 hl3=>?_)
    ·have hi2:i < qs.dropLast.length:=by omega
     have e1:zs.dropLast.getD i .non=zs.dropLast[i]:=by rw [List.getD_eq_getElem?_getD,List.getElem?_eq_getElem hi'];rfl
     have e3:qs.dropLast.getD i .oth=qs.dropLast[i]:=by rw [List.getD_eq_getElem?_getD,List.getElem?_eq_getElem hi2];rfl
     rw [e1]
     rw [e3] at hk
     exact ⟨_,_,rfl,(hq2.2 i hi' hi2).same s3,hk⟩
    ·refine ⟨_,SqL.of hl3,_,rfl,?_⟩
     rw [hq2l,cW qs.dropLast .oth nameD]
     refine iteNB (fun h4=>⟨⟨_,rfl⟩,s1.trans (s2.trans s3),con (er.trans h4)⟩) (fun h4=>fin (er.trans h4) _ (s2.trans s3))
   ·rintro σ' H1 ⟨h1,h2,h3⟩
    rw [hl,List.take_length] at h3
    exact hnx _ _ ⟨h1,h2,h3⟩
  rintro σ' H1 ⟨⟨v2,rfl⟩,s1,hall⟩
  have hrow:∀ i (h:i < ys.length),∃ b z zs,ys[i]=.ref b∧H b=some (.tup (.str z::zs))∧strD (hd0 (ps.getD i .oth))=z:=fun i hi=>by
   have hip:i < ps.length:=by omega
   have h4:=List.all_eq_true.mp hall _ (List.getElem_mem hip)
   have h5:=hds.2 i hi hip
   have e3:ps.getD i .oth=ps[i]:=by rw [List.getD_eq_getElem?_getD,List.getElem?_eq_getElem hip];rfl
   rw [e3]
   generalize ys[i]=y at h5 ⊢
   generalize ps[i]=dp at h5 h4 ⊢
   unfold rowOk at h4
   rw [Bool.and_eq_true_iff] at h4
   obtain ⟨h6,h7⟩:=h4
   obtain ⟨qs,rfl⟩:∃ qs,dp=.tup qs:=by cases dp<;>first | exact ⟨_,rfl⟩ | cases h6
   obtain ⟨b,zs,rfl,e4,hl4,hq⟩:=h5.tup_elt
   have hq2:qs.length=n:=of_decide_eq_true h6
   match qs,hl4,hq,hq2,h7 with
   | q0::q1::qs,hl4,hq,_,h7=>
    obtain ⟨x0,xr,rfl,d1,d2⟩:=(show DDs H zs (q0::q1::qs) from ⟨hl4,hq⟩).pop
    have h8:nameD q0=true:=List.all_eq_true.mp h7 q0 (by show q0∈(q0::q1::qs).dropLast;simp [List.dropLast])
    obtain ⟨z,rfl,rfl,_⟩:=gP d1 h8
    exact ⟨b,z,xr,rfl,e4,rfl⟩
   | [],_,_,h,_=>exact absurd h (by simp;omega)
   | [_],_,_,h,_=>exact absurd h (by simp;omega)
  have hwl:((ps.map hd0).map strD).length=ys.length:=by simp [hl]
  have hwg:∀ i,i < ys.length→((ps.map hd0).map strD).getD i ""=strD (hd0 (ps.getD i .oth)):=fun i hi=>by
   have hip:i < ps.length:=by omega
   simp [List.getD_eq_getElem?_getD,hip]
  generalize (ps.map hd0).map strD=wds at ew hwl hwg
  refine aJ (fun σ' H'=>∃ (v2:Option V) (L:Addr),σ'=[some (.ref a),some (.int (n:Int)),v2,some (.ref L)]∧Same H H'∧H' L=some (.lst (wds.map V.str))) (fun nx hnx=>?_) ?_
  ·refine Or.inr ⟨⟨ys,SqT.of (s1 _ _ e)⟩,fun D hD=>?_⟩
   refine d7 (cS ys) (fun i τ H3=>H3 D=some (.lst ((wds.take i).map V.str))∧Same H1 H3∧∃ v1,τ=[v1]) ⟨aA,Same.upd hD _,none,rfl⟩ (fun i τ H3 _ h=>SqT.of (h.2.1 _ _ (s1 _ _ e))) ?_ ?_
   ·rintro i τ H3 hi ⟨q1,q2,v1,rfl⟩
    obtain ⟨b,z,zs,r1,r2,r3⟩:=hrow i hi
    have eg:ys.getD i .non=.ref b:=by rw [List.getD_eq_getElem?_getD,List.getElem?_eq_getElem hi,r1];rfl
    rw [eg]
    refine ⟨_,_,.inr (SqT.of (q2 _ _ (s1 _ _ r2))),aW _ _,_,q1,by simp;omega,?_,q2.put hD,_,rfl⟩
    have hiw:i < wds.length:=by omega
    have ez:wds[i]=z:=by
     have:=hwg i hi
     rw [r3,List.getD_eq_getElem?_getD,List.getElem?_eq_getElem hiw] at this
     exact this
    rw [aA,List.take_add_one,List.getElem?_eq_getElem hiw,ez,List.map_append];rfl
   ·rintro τ H3 ⟨q1,q2,v1,rfl⟩
    rw [List.take_of_length_le (by omega)] at q1
    exact hnx _ _ ⟨_,D,rfl,s1.trans q2,q1⟩
  rintro σ' H2 ⟨v2',L,rfl,s2,gL⟩
  refine .inl ⟨_,.inl (SqL.of gL),1,_,rfl,⟨by decide,by decide,by rw [List.length_map];omega,by rw [List.length_map];omega⟩,fun D hD=>?_⟩
  have eN:(((wds.map V.str).length:Int) - 1).toNat=wds.length - 1:=by rw [List.length_map];omega
  rw [eN]
  refine iB (cG 1 (wds.length - 1)) (fun i=>strLt (wds.getD i "") (wds.getD (i+1) "")) (by omega) hD (fun _ _=>True.intro) (fun i H3 k' hi s3 hk=>?_) (fun H3 s3 hl3=>?_)
  ·have g3:=s3 _ _ gL
   have a1:atI (wds.map V.str) ((1+(i:Int)) - 1)=some (.str (wds.getD i "")):=by
    rw [show (1+(i:Int)) - 1=(i:Int) by omega]
    exact bN (by simp [List.getD_eq_getElem?_getD,show i < wds.length by omega])
   have a2:atI (wds.map V.str) (1+(i:Int))=some (.str (wds.getD (i+1) "")):=by
    rw [show 1+(i:Int)=((i+1:Nat):Int) by omega]
    exact bN (by simp [List.getD_eq_getElem?_getD,show i+1 < wds.length by omega])
   exact ⟨_,_,.inl (SqL.of g3),a1,_,_,.inl (SqL.of g3),a2,hk H3 (Same.refl _)⟩
  ·refine ⟨_,SqL.of hl3,kf _ ?_ _ (s2.trans s3)⟩
   rw [ew,hall,Bool.true_and,← iI wds,show min wds.length (wds.length - 1)=wds.length - 1 by omega]
theorem inS (l:List Str) (z:Str):inV (.str z) (l.map V.str)=decide (z∈l):=by
 have e:inV (.str z) (l.map V.str)=l.any fun y=>y==z:=by
  show (l.map V.str).any (fun y=>eqV y (.str z))=_
  rw [List.any_map];rfl
 rw [e,Bool.eq_iff_iff,decide_eq_true_iff,List.any_eq_true]
 constructor
 ·rintro ⟨y,hy,h⟩
  rw [← eq_of_beq h];exact hy
 ·intro h
  exact ⟨z,h,beq_self_eq_true z⟩
theorem in8 (z:Str):decide (z∈(["get","fn","call","box","part","pick","split","hold"]:List Str))=(plcs z).isSome:=by
 cases hp:plcs z with
 | some ws=>
  rcases eK hp with ⟨rfl,_⟩ | ⟨rfl,_⟩ | ⟨rfl,_⟩ | ⟨rfl,_⟩ | ⟨rfl,_⟩ | ⟨rfl,_⟩ | ⟨rfl,_⟩ | ⟨rfl,_⟩<;>(show _=true;decide+kernel)
 | none=>
  refine decide_eq_false fun h=>?_
  simp only [List.mem_cons,List.not_mem_nil,or_false] at h
  rcases h with rfl | rfl | rfl | rfl | rfl | rfl | rfl | rfl<;>exact absurd hp (by decide+kernel)
abbrev KV3:List (Key×V):=[(.inr "get",.int 2),(.inr "box",.int 2),(.inr "fn",.int 4)]
theorem len8 {z:Str} {ws:List Str} (h:plcs z=some ws):(valV (mergeK [] KV3) (.inr z)).getD (.int 3)=.int ((ws.length:Int)+1):=by
 rcases eK h with ⟨rfl,rfl⟩ | ⟨rfl,rfl⟩ | ⟨rfl,rfl⟩ | ⟨rfl,rfl⟩ | ⟨rfl,rfl⟩ | ⟨rfl,rfl⟩ | ⟨rfl,rfl⟩ | ⟨rfl,rfl⟩<;>rfl
def spIs (n:Nat):Sp:=fun vs H Q _=>∃ (ns:Str→Bool) (L:Addr) (nms:List Str) (x:V) (d:Dt),vs=[.ref L,x]∧H L=some (.lst (nms.map V.str))∧(∀ z,ns z=decide (z∈nms))∧(∀ z∈nms,isName z=true)∧DD H x d∧d.dep < n∧∀ H',Same H H'→Q (.bl (afD ns d)) H'
theorem a2T {ns:Str→Bool} {d:Dt} (h:mfD ns d=false):afD ns d=false:=by rw [lT,h];rfl
theorem a2d {ns:Str→Bool} {z:Str} {ws:List Str} {r:List Dt} (h:plcs z=some ws):mfD ns (.tup (.str z::r))=fits ns ws r:=by
 show (match plcs z with | some ws=>fits ns ws r | none=>false)=_
 rw [h]
theorem a1j {H:Hp} {a:Addr} {kvs:List (Key×V)} (h:H a=some (.dK kvs)):IsD H a:=by
 first | exact .inl ⟨_,h⟩ | exact ⟨_,h⟩ | exact ⟨kvs,.inl h⟩ | exact .inl ⟨_,.inl h⟩
theorem oE (a b:V) (r:List V):atI (a::b::r) 1=some b:=bN (j:=1) rfl
theorem oB (a b c:V) (r:List V):atI (a::b::c::r) 2=some c:=bN (j:=2) rfl
theorem len2D {l:List Dt} (h:l.length=2):∃ a b,l=[a,b]:=by
 match l,h with
 | [a,b],_=>exact ⟨a,b,rfl⟩
set_option maxHeartbeats 1000000 in
theorem wQ (T:Txt K mg w):∀ n:Nat,FnK P w K mg base (3+n) "_law_is" ["_law_names","_law_thing"] (spIs n):=by
 intro n
 induction n with
 | zero=>
  refine T.u3.okS (k:=2) lX (fun vs H Q E h=>?_) (fun f cdv A outer s H vs Q E hr h=>?_)
  ·obtain ⟨ns,L,nms,x,d,rfl,_⟩:=h
   rfl
  ·obtain ⟨ns,L,nms,x,d,rfl,_,_,_,_,hn,_⟩:=h
   exact absurd hn (Nat.not_lt_zero _)
 | succ n ih=>
  have oG:FnK P w K mg base (3+n) "_law_is" ["_law_names","_law_thing"] (spIs n):=ih
  have f8:FnK P w K mg base 1 "_law_name_is" ["_law_thing"] (spT nameD):=j0 T
  have j8:FnK P w K mg base 2 "_law_rows_are" ["_law_thing","_law_size"] spRwA:=mX T
  have c8:FnK P w K mg base 1 "_law_parts" ["_law_maker"] spParts:=dX T
  refine T.u3.okS (k:=3+n) lX (fun vs H Q E h=>?_) (fun f cdv A outer s H vs Q E hr h=>?_)
  ·obtain ⟨ns,L,nms,x,d,rfl,_⟩:=h
   rfl
  ·obtain ⟨ns,L,nms,x,d,rfl,gL,hns,hnn,hd,hn,k⟩:=h
   have hu:=bD hr
   have hu0:=Nat.lt_of_succ_lt (bD hr)
   have hsz:sizeLine=16777216:=sizeLine_eq
   refine ⟨_,(aD (bO (i7 (dS (eI (aQ bZ (by rfl) T.bI PyProof.Rows.boot_isinstance (a9 (zv 1) (a9 (fI (v:=.ty "tuple") (by rfl) T.cB PyProof.Rows.boot_tuple rfl) sa_nil))))) (i7 (aM (bF hu0) (aQ (aZ K) (by rfl) T.n_len PySem.boot_len (a9 (zv 1) sa_nil)) aF (nomark _)) (fO (dS (eI (aQ bZ (by rfl) T.bI PyProof.Rows.boot_isinstance (aH (b7 (b6 K) (zv 1) aF (fun _ _=>rfl)) (a9 (fI (v:=.ty "str") (by rfl) T.n_str PyProof.Rows.boot_str rfl) sa_nil)))))))).pt (aG (aO dR)) aV)
   (aD (aL (i:=2) lX.nd rfl (Or.inl rfl) (b7 (b6 K) (zv 1) aF (fun _ _=>rfl)))
   (aD (bO (aM (mE K) (zv 2) (aE (a7 aC (a7 aC (a7 aC (a7 aC (a7 aC (a7 aC (a7 aC (a7 aC sa_nil))))))))) rfl) (aG (aO dR)) aV)
   (aD (bO (aM (j5 hu0) (aQ (aZ K) (by rfl) T.n_len PySem.boot_len (a9 (zv 1) sa_nil)) (a0P hu (a1n (rN aC aF (rN aC aF (rN aC aF a2H))) rfl rfl (by simp) (by decide)) (zv 2) aF ⟨rfl,rfl,rfl,rfl⟩) (nomark _)) (aG (aO dR)) aV)
   (aD (bO (jZ (aM (iN K) (zv 2) (aE (a7 aC (a7 aC (a7 aC sa_nil)))) rfl) (hU (dS (eI (aT f8 (hr.mono (by omega)) (aH (b7 (b6 K) (zv 1) aF (fun _ _=>rfl)) sa_nil)))))).pt (aG (aO dR)) aV)
   (aD (bO (jZ (aM (bF hu0) (zv 2) aC (nomark _)) (hU (dS (eI (aT f8 (hr.mono (by omega)) (aH (b7 (b6 K) (zv 1) aF (fun _ _=>rfl)) sa_nil)))))).pt (aG (aO dR)) aV)
   (aD (bO (jZ (aM (iN K) (zv 2) (aE (a7 aC (a7 aC sa_nil))) rfl) (hU (i7 (dS (eI (aQ bZ (by rfl) T.bI PyProof.Rows.boot_isinstance (aH (b7 (b6 K) (zv 1) aF (fun _ _=>rfl)) (a9 (fI (v:=.ty "str") (by rfl) T.n_str PyProof.Rows.boot_str rfl) sa_nil))))) (fO (aM (mE K) (b7 (b6 K) (zv 1) aF (fun _ _=>rfl)) (zv 0) rfl))).pt)).pt (aG (aO dR)) aV)
   (aD (bO (jZ (aM (bF hu0) (zv 2) aC (nomark _)) (hU (dS (eI (aT j8 (hr.mono (by omega)) (aH (b7 (b6 K) (zv 1) aF (fun _ _=>rfl)) (a7 aF sa_nil))))))).pt (aG (aO dR)) aV)
   (aD (bO (jZ (aM (bF hu0) (zv 2) aC (nomark _)) (hU (dS (eI (aT j8 (hr.mono (by omega)) (aH (b7 (b6 K) (zv 1) aF (fun _ _=>rfl)) (a7 aF sa_nil))))))).pt (aG (aO dR)) aV)
   (aG (aO (aQ (cM K rfl) (by rfl) T.n_all PyProof.Rows.boot_all (b9 (fU (own:=["_law_one"]) (idx:=[0]) (N':=["_law_one","_law_names"]) (⟨rfl,by decide+kernel,by decide+kernel,(show ∀ y∈Scope.names _,y.2=NameKind.free→((defScope j4).names.lookup y.1=some NameKind.cell∨(defScope j4).names.lookup y.1=some NameKind.free) by decide+kernel),(show ∀ j∈([0]:List Nat),(Scope.names _).lookup ((["_law_names","_law_thing","_law_word"]:List Str).getD j "")=some NameKind.free∧j < (["_law_names","_law_thing","_law_word"]:List Str).length by decide+kernel),rfl⟩) rfl (kL K (aT c8 (hr.mono (by omega)) (a9 (zv 1) sa_nil))) (fun _ _ _ _ _ _=>(aR (i:=0) (show List.Nodup (["_law_one","_law_names"]:List Str) by decide+kernel) rfl (Or.inl rfl))) (fun _ _ _ _ _ _=>cA) (fun _ _ _ _ _ _=>(aT oG (hr.mono (by omega)) (a9 (zv 1) (a9 (zv 0) sa_nil))))) sa_nil))))))))))))),?_⟩
   have kf:mfD ns d=false→∀ H',Same H H'→Q (.bl false) H':=fun e H' s'=>by have:=k H' s';rw [a2T e] at this;exact this
   obtain ⟨t,ht,h1,h2⟩:=hd.ty
   refine aJ (fun σ' H'=>σ'=[some (.ref L),some x,none]∧H=H'∧∃ a z r xr,x=.ref a∧d=.tup (.str z::r)∧H a=some (.tup (.str z::xr))∧DDs H xr r) (fun nx hnx=>?_) ?_
   ·refine ⟨by decide,t,ht,_,rfl,?_⟩
    rw [h1]
    cases htup:d.isTup with
    | false=>exact iteT (iteT (kf (by cases d<;>first | rfl | cases htup) H (Same.refl H)))
    | true=>
     refine iteF ?_
     obtain ⟨ps,rfl⟩:=iE htup
     obtain ⟨a,ys,rfl,e,hl,hds⟩:=hd.tup_elt
     refine .inl ⟨_,.inr (SqT.of e),rfl,_,rfl,?_⟩
     cases ps with
     | nil=>
      obtain rfl:ys=[]:=List.length_eq_zero_iff.mp hl
      exact iteT (iteT (kf rfl H (Same.refl H)))
     | cons d0 r=>
      obtain ⟨x0,xr,rfl,hx0,hxr⟩:=(show DDs H ys (d0::r) from ⟨hl,hds⟩).pop
      refine iteB (fun c=>?_) (fun c=>?_)
      ·rw [Bool.false_xor,eE] at c
       have:=of_decide_eq_true c
       simp at this
       omega
      obtain ⟨t',ht',g1,g2⟩:=hx0.ty
      refine ⟨_,x0,.inr (SqT.of e),aW _ _,by decide,t',ht',_,rfl,?_⟩
      rw [g2]
      cases hs:d0.isStr with
      | false=>exact iteT (kf (by cases d0<;>first | rfl | cases hs) H (Same.refl H))
      | true=>
       refine iteF ?_
       obtain ⟨z,rfl⟩:∃ z,d0=.str z:=by cases d0<;>first | exact ⟨_,rfl⟩ | cases hs
       cases nJ hx0
       exact hnx _ _ ⟨rfl,rfl,a,z,r,xr,rfl,rfl,e,hxr⟩
   rintro σ' _ ⟨rfl,rfl,a,z,r,xr,rfl,rfl,e,hxr⟩
   have hxl:=hxr.1
   refine aI ⟨_,_,.inr (SqT.of e),aW _ _,?_⟩
   dsimp only
   refine aJ (fun σ' H'=>σ'=[some (.ref L),some (.ref a),some (.str z)]∧Same H H'∧∃ ws,plcs z=some ws) (fun nx hnx=>?_) ?_
   ·refine ⟨(show 8≤sizeLine by decide),fun b1 hb1=>⟨_,.inr (SqT.of aA),rfl,rfl,_,rfl,?_⟩⟩
    have sL:=Same.upd hb1 (.tup [.str "get",.str "fn",.str "call",.str "box",.str "part",.str "pick",.str "split",.str "hold"])
    have hin:inV (.str z) [.str "get",.str "fn",.str "call",.str "box",.str "part",.str "pick",.str "split",.str "hold"]=(plcs z).isSome:=(inS (["get","fn","call","box","part","pick","split","hold"]:List Str) z).trans (in8 z)
    rw [hin]
    cases hp:plcs z with
    | none=>
     refine iteT (kf ?_ _ sL)
     show (match plcs z with | some ws=>fits ns ws r | none=>false)=false
     rw [hp]
    | some ws=>exact iteF (hnx _ _ ⟨rfl,sL,ws,hp⟩)
   rintro σ' H1 ⟨rfl,s1,ws,hp⟩
   have em:=a2d (ns:=ns) (r:=r) hp
   have e1:=s1 _ _ e
   refine aJ (fun σ' H'=>σ'=[some (.ref L),some (.ref a),some (.str z)]∧Same H H'∧ws.length=r.length) (fun nx hnx=>?_) ?_
   ·refine .inl ⟨_,.inr (SqT.of e1),fun p hp'=>⟨aA,KV3,rfl,by decide,p,rfl,?_⟩⟩
    have sp:Same H1 (upd (upd H1 p (.dK [])) p (.dK (mergeK [] KV3))):=by rw [jR];exact Same.upd hp' _
    have gp:upd (upd H1 p (.dK [])) p (.dK (mergeK [] KV3)) p=some (.dK (mergeK [] KV3)):=aA
    generalize upd (upd H1 p (.dK [])) p (.dK (mergeK [] KV3))=H2 at sp gp
    refine ⟨a1j gp,_,DGet.k (k:=Sum.inr z) gp,?_⟩
    show rEqD true _ _ _ _
    rw [len8 hp]
    refine ⟨rfl,_,rfl,iteB (fun c=>kf ?_ _ (s1.trans sp)) (fun c=>hnx _ _ ⟨rfl,s1.trans sp,?_⟩)⟩
    ·rw [Bool.true_xor,eE] at c
     have c':¬((xr.length:Int)+1=(ws.length:Int)+1):=by simpa using c
     rw [em]
     exact oJ _ _ _ fun hh=>by omega
    ·rw [Bool.true_xor,eE] at c
     have c':((xr.length:Int)+1=(ws.length:Int)+1):=by simpa using c
     omega
   rintro σ' H2 ⟨rfl,s2,hwl⟩
   have ev:∀ y:Str,(false^^decide (V.str z=V.str y))=decide (z=y):=fun y=>by rw [Bool.false_xor,uC,Bool.eq_iff_iff,beq_iff_eq,decide_eq_true_iff]
   refine aJ (fun σ' H'=>σ'=[some (.ref L),some (.ref a),some (.str z)]∧Same H H'∧(z∈(["get","fn","pick"]:List Str)→∃ d1 r1,r=d1::r1∧nameD d1=true)) (fun nx hnx=>?_) ?_
   ·refine ⟨(show 3≤sizeLine by decide),fun b1 hb1=>⟨_,.inr (SqT.of aA),rfl,rfl,_,rfl,?_⟩⟩
    have s3:=s2.trans (Same.upd hb1 (.tup [.str "get",.str "fn",.str "pick"]))
    generalize upd H2 b1 (.tup [.str "get",.str "fn",.str "pick"])=H3 at s3
    rw [show inV (.str z) [.str "get",.str "fn",.str "pick"]=decide (z∈(["get","fn","pick"]:List Str)) from inS (["get","fn","pick"]:List Str) z]
    refine iteB (fun c=>?_) (fun c=>hnx _ _ ⟨rfl,s3,fun hz=>?_⟩)
    rotate_left
    ·rw [Bool.false_xor] at c;exact absurd hz (of_decide_eq_false c)
    rw [Bool.false_xor] at c
    have hz:=of_decide_eq_true c
    obtain ⟨ws',rfl⟩:∃ ws':List Str,ws=("name":Str)::ws':=by
     rcases eK hp with ⟨rfl,rfl⟩ | ⟨rfl,rfl⟩ | ⟨rfl,rfl⟩ | ⟨rfl,rfl⟩ | ⟨rfl,rfl⟩ | ⟨rfl,rfl⟩ | ⟨rfl,rfl⟩ | ⟨rfl,rfl⟩<;>first | exact ⟨_,rfl⟩ | exact absurd hz (by decide+kernel)
    obtain ⟨d1,r1,rfl⟩:∃ d1 r1,r=d1::r1:=by
     cases r with
     | nil=>simp at hwl
     | cons d1 r1=>exact ⟨d1,r1,rfl⟩
    obtain ⟨x1,xr1,rfl,hx1,hxr1⟩:=hxr.pop
    refine ⟨_,x1,.inr (SqT.of (s3 _ _ e)),oE _ _ _,x1,d1,rfl,hx1.same s3,fun H4 s4=>⟨_,rfl,?_⟩⟩
    refine iteNB (fun hn'=>hnx _ _ ⟨rfl,s3.trans s4,fun _=>⟨d1,r1,rfl,hn'⟩⟩) (fun hn'=>kf ?_ _ (s3.trans s4))
    rw [em]
    show (nameD d1&&_)=false
    rw [hn'];rfl
   rintro σ' H3 ⟨rfl,s3,hA⟩
   refine aJ (fun σ' H'=>σ'=[some (.ref L),some (.ref a),some (.str z)]∧Same H H'∧(z="part"→∃ d1 d2,r=[d1,d2]∧nameD d2=true)) (fun nx hnx=>?_) ?_
   ·refine ⟨rfl,_,rfl,?_⟩
    rw [ev]
    refine iteB (fun c=>?_) (fun c=>hnx _ _ ⟨rfl,s3,fun hz=>absurd hz (of_decide_eq_false c)⟩)
    have hz:=of_decide_eq_true c
    subst hz
    obtain rfl:(["maker","name"]:List Str)=ws:=Option.some.inj (show some (["maker","name"]:List Str)=some ws from hp)
    obtain ⟨d1,d2,rfl⟩:=len2D hwl.symm
    obtain ⟨x1,xr1,rfl,hx1,hxr1⟩:=hxr.pop
    obtain ⟨x2,xr2,rfl,hx2,hxr2⟩:=hxr1.pop
    refine ⟨_,x2,.inr (SqT.of (s3 _ _ e)),oB _ _ _ _,x2,d2,rfl,hx2.same s3,fun H4 s4=>⟨_,rfl,?_⟩⟩
    refine iteNB (fun hn'=>hnx _ _ ⟨rfl,s3.trans s4,fun _=>⟨d1,d2,rfl,hn'⟩⟩) (fun hn'=>kf ?_ _ (s3.trans s4))
    rw [em]
    show (fitD ns "maker" d1&&(nameD d2&&_))=false
    rw [hn',Bool.false_and,Bool.and_false]
   rintro σ' H4 ⟨rfl,s4,hB⟩
   refine aJ (fun σ' H'=>σ'=[some (.ref L),some (.ref a),some (.str z)]∧Same H H'∧(z∈(["fn","hold"]:List Str)→∃ d1 d2 r2,r=d1::d2::r2∧fitD ns "row" d2=true)) (fun nx hnx=>?_) ?_
   ·refine ⟨(show 2≤sizeLine by decide),fun b1 hb1=>⟨_,.inr (SqT.of aA),rfl,rfl,_,rfl,?_⟩⟩
    have s5:=s4.trans (Same.upd hb1 (.tup [.str "fn",.str "hold"]))
    generalize upd H4 b1 (.tup [.str "fn",.str "hold"])=H5 at s5
    rw [show inV (.str z) [.str "fn",.str "hold"]=decide (z∈(["fn","hold"]:List Str)) from inS (["fn","hold"]:List Str) z]
    refine iteB (fun c=>?_) (fun c=>hnx _ _ ⟨rfl,s5,fun hz=>?_⟩)
    rotate_left
    ·rw [Bool.false_xor] at c;exact absurd hz (of_decide_eq_false c)
    rw [Bool.false_xor] at c
    have hz:=of_decide_eq_true c
    obtain ⟨w1,ws',rfl⟩:∃ (w1:Str) (ws':List Str),ws=w1::("row":Str)::ws':=by
     rcases eK hp with ⟨rfl,rfl⟩ | ⟨rfl,rfl⟩ | ⟨rfl,rfl⟩ | ⟨rfl,rfl⟩ | ⟨rfl,rfl⟩ | ⟨rfl,rfl⟩ | ⟨rfl,rfl⟩ | ⟨rfl,rfl⟩<;>first | exact ⟨_,_,rfl⟩ | exact absurd hz (by decide+kernel)
    obtain ⟨d1,d2,r2,rfl⟩:∃ d1 d2 r2,r=d1::d2::r2:=by
     match r,hwl with
     | d1::d2::r2,_=>exact ⟨d1,d2,r2,rfl⟩
    obtain ⟨x1,xr1,rfl,hx1,hxr1⟩:=hxr.pop
    obtain ⟨x2,xr2,rfl,hx2,hxr2⟩:=hxr1.pop
    have bad:rowM ns d2=false→mfD ns (.tup (.str z::d1::d2::r2))=false:=fun hb=>by
     rw [em]
     show (fitD ns w1 d1&&((nameD d2&&rowM ns d2)&&_))=false
     rw [hb,Bool.and_false,Bool.false_and,Bool.and_false]
    have good:rowM ns d2=true→fitD ns "row" d2=true:=fun hg=>by
     show (nameD d2&&rowM ns d2)=true
     rw [hg,Bool.and_true]
     cases d2 with
     | str y=>
      have h':ns y=true:=hg
      rw [hns] at h'
      exact hnn y (of_decide_eq_true h')
     | tup _=>cases hg
     | oth=>cases hg
    obtain ⟨t',ht',g1,g2⟩:=(hx2.same s5).ty
    refine ⟨_,x2,.inr (SqT.of (s5 _ _ e)),oB _ _ _ _,by decide,t',ht',_,rfl,?_⟩
    rw [g2]
    cases hs:d2.isStr with
    | false=>exact iteT (iteT (kf (bad (by cases d2<;>first | rfl | cases hs)) _ s5))
    | true=>
     refine iteF ?_
     obtain ⟨y,rfl⟩:∃ y,d2=.str y:=by cases d2<;>first | exact ⟨_,rfl⟩ | cases hs
     cases nJ hx2
     have hrm:rowM ns (.str y)=inV (.str y) (nms.map V.str):=by rw [inS];exact hns y
     refine ⟨_,_,.inr (SqT.of (s5 _ _ e)),oB _ _ _ _,_,.inl (SqL.of (s5 _ _ gL)),?_⟩
     refine ⟨rfl,by rw [List.all_map];exact List.all_eq_true.mpr fun _ _=>rfl,_,rfl,?_⟩
     rw [← hrm,Bool.true_xor]
     exact iteNB (fun hg=>hnx _ _ ⟨rfl,s5,fun _=>⟨d1,_,r2,rfl,good hg⟩⟩) (fun hb=>kf (bad hb) _ s5)
   rintro σ' H5 ⟨rfl,s5,hC⟩
   refine aJ (fun σ' H'=>σ'=[some (.ref L),some (.ref a),some (.str z)]∧Same H H'∧(z="box"→∃ d1,r=[d1]∧wrdD 2 d1=true)) (fun nx hnx=>?_) ?_
   ·refine ⟨rfl,_,rfl,?_⟩
    rw [ev]
    refine iteB (fun c=>?_) (fun c=>hnx _ _ ⟨rfl,s5,fun hz=>absurd hz (of_decide_eq_false c)⟩)
    have hz:=of_decide_eq_true c
    subst hz
    obtain rfl:(["parts"]:List Str)=ws:=Option.some.inj (show some (["parts"]:List Str)=some ws from hp)
    obtain ⟨d1,rfl⟩:=List.length_eq_one_iff.mp hwl.symm
    obtain ⟨x1,xr1,rfl,hx1,hxr1⟩:=hxr.pop
    refine ⟨_,x1,.inr (SqT.of (s5 _ _ e)),oE _ _ _,x1,d1,2,rfl,by omega,hx1.same s5,fun H6 s6=>⟨_,rfl,?_⟩⟩
    rw [a2k]
    refine iteNB (fun hn'=>hnx _ _ ⟨rfl,s5.trans s6,fun _=>⟨d1,rfl,hn'⟩⟩) (fun hn'=>kf ?_ _ (s5.trans s6))
    rw [em]
    show (wrdD 2 d1&&_)=false
    rw [hn'];rfl
   rintro σ' H6 ⟨rfl,s6,hD⟩
   refine aJ (fun σ' H'=>σ'=[some (.ref L),some (.ref a),some (.str z)]∧Same H H'∧(z="split"→∃ d1 d2,r=[d1,d2]∧fitD ns "cases" d2=true)) (fun nx hnx=>?_) ?_
   ·refine ⟨rfl,_,rfl,?_⟩
    rw [ev]
    refine iteB (fun c=>?_) (fun c=>hnx _ _ ⟨rfl,s6,fun hz=>absurd hz (of_decide_eq_false c)⟩)
    have hz:=of_decide_eq_true c
    subst hz
    obtain rfl:(["maker","cases"]:List Str)=ws:=Option.some.inj (show some (["maker","cases"]:List Str)=some ws from hp)
    obtain ⟨d1,d2,rfl⟩:=len2D hwl.symm
    obtain ⟨x1,xr1,rfl,hx1,hxr1⟩:=hxr.pop
    obtain ⟨x2,xr2,rfl,hx2,hxr2⟩:=hxr1.pop
    refine ⟨_,x2,.inr (SqT.of (s6 _ _ e)),oB _ _ _ _,x2,d2,3,rfl,by omega,hx2.same s6,fun H7 s7=>⟨_,rfl,?_⟩⟩
    rw [a2u]
    refine iteNB (fun hn'=>hnx _ _ ⟨rfl,s6.trans s7,fun _=>⟨d1,d2,rfl,hn'⟩⟩) (fun hn'=>kf ?_ _ (s6.trans s7))
    rw [em]
    show (fitD ns "maker" d1&&((wrdD 3 d2&&casD d2)&&_))=false
    rw [hn',Bool.false_and,Bool.and_false]
   rintro σ' H7 ⟨rfl,s7,hE⟩
   have hmf:mfD ns (.tup (.str z::r))=true:=by
    rw [em]
    rcases eK hp with ⟨rfl,rfl⟩ | ⟨rfl,rfl⟩ | ⟨rfl,rfl⟩ | ⟨rfl,rfl⟩ | ⟨rfl,rfl⟩ | ⟨rfl,rfl⟩ | ⟨rfl,rfl⟩ | ⟨rfl,rfl⟩
    ·obtain ⟨d1,r1,rfl,q1⟩:=hA (by decide+kernel)
     obtain rfl:r1=[]:=List.length_eq_zero_iff.mp (by simp only [List.length_cons,List.length_nil] at hwl;omega)
     show (nameD d1&&true)=true
     rw [q1];rfl
    ·obtain ⟨d1,r1,e1',q1⟩:=hA (by decide+kernel)
     obtain ⟨d1',d2,r2,rfl,q2⟩:=hC (by decide+kernel)
     cases e1'
     obtain ⟨d3,rfl⟩:∃ d3,r2=[d3]:=List.length_eq_one_iff.mp (by simp only [List.length_cons,List.length_nil] at hwl;omega)
     show (nameD d1&&(fitD ns "row" d2&&true))=true
     rw [q1,q2];rfl
    ·obtain ⟨d1,d2,rfl⟩:=len2D hwl.symm
     rfl
    ·obtain ⟨d1,rfl,q1⟩:=hD rfl
     show (wrdD 2 d1&&true)=true
     rw [q1];rfl
    ·obtain ⟨d1,d2,rfl,q1⟩:=hB rfl
     show (true&&(nameD d2&&true))=true
     rw [q1];rfl
    ·obtain ⟨d1,r1,rfl,q1⟩:=hA (by decide+kernel)
     obtain ⟨d3,rfl⟩:∃ d3,r1=[d3]:=List.length_eq_one_iff.mp (by simp only [List.length_cons,List.length_nil] at hwl;omega)
     show (nameD d1&&(true&&true))=true
     rw [q1];rfl
    ·obtain ⟨d1,d2,rfl,q1⟩:=hE rfl
     show (true&&(fitD ns "cases" d2&&true))=true
     rw [q1];rfl
    ·obtain ⟨d1,d2,r2,rfl,q2⟩:=hC (by decide+kernel)
     obtain rfl:r2=[]:=List.length_eq_zero_iff.mp (by simp only [List.length_cons,List.length_nil] at hwl;omega)
     show (true&&(fitD ns "row" d2&&true))=true
     rw [q2];rfl
   obtain ⟨ks,sh,hks⟩:=rB hd hmf
   have hkl:=jS sh
   have hkl2:=hks.1
   have ekd:mkids ns (.tup (.str z::r))=kidM (.tup (.str z::r)):=by unfold mkids;rw [if_pos hmf]
   have eaf:afD ns (.tup (.str z::r))=(kidM (.tup (.str z::r))).all (afD ns):=by rw [lT,hmf,ekd];rfl
   have hdp:∀ y∈kidM (.tup (.str z::r)),y.dep < n:=fun y hy=>by
    have:=cN (ns:=ns) (d:=.tup (.str z::r)) (x:=y) (by rw [ekd];exact hy)
    omega
   generalize kidM (.tup (.str z::r))=kd at hks hkl2 eaf hdp
   refine ⟨_,ks,rfl,sh.tk s7.ts,fun L2 H8 hL2 gL2 s8=>Or.inl ⟨⟨ks,SqL.of gL2⟩,fun D hD'=>?_⟩⟩
   refine iB (cL ks) (fun i=>afD ns (kd.getD i .oth)) (by omega) hD' (fun H9 s9=>SqL.of (s9 _ _ gL2)) (fun i H9 k' hi s9 hk=>?_) (fun H9 s9 hl9=>?_)
   ·have hik:i < kd.length:=by omega
    have e1':ks.getD i .non=ks[i]:=by simp [List.getD_eq_getElem?_getD,hi]
    have e3':kd.getD i .oth=kd[i]:=by rw [List.getD_eq_getElem?_getD,List.getElem?_eq_getElem hik];rfl
    rw [e1']
    rw [e3'] at hk
    have s79:=s7.trans (s8.trans s9)
    exact ⟨ns,L,nms,ks[i],kd[i],rfl,s79 _ _ gL,hns,hnn,(hks.2 i hi hik).same s79,hdp _ (List.getElem_mem hik),hk⟩
   ·refine ⟨_,SqL.of hl9,?_⟩
    rw [hkl2,cW kd .oth (afD ns),← eaf]
    exact k _ (s7.trans (s8.trans s9))
local macro_rules | `(tactic| trivial) => `(tactic| (repeat' (first | with_reducible exact rR | with_reducible apply nE | ((with_reducible show GK _ _ (tV _) _); (first | exact a1t rfl (by assumption) | exact a1M rfl (by assumption) (by omega))) | with_reducible exact yK | with_reducible exact y6 | with_reducible exact yQ | exact zO (by unfold Shr; decide) | with_reducible apply uY | with_reducible apply uH | with_reducible exact zS | decide)))
theorem eC {H0 H H':Hp} {p:Addr} {t t':Nat} (a:NxAt K H0 H p t) (b:NxAt K H0 H' p t') (s:Sm p p H H'):Ky H H':=by
 obtain ⟨_,_,_,_,e,_⟩:=a.ex
 obtain ⟨_,_,_,_,e',_⟩:=b.ex
 exact .sm s e e'
def spWIn (K:PySem.W.Frag):Sp:=fun vs H Q _=>∃ (H0:Hp) (p:Addr) (t k:Nat) (x:V) (z:Str),vs=[.ref p,x,.str z]∧NxAt K H0 H p t∧t < 900000∧OkD H k x∧2≤k∧Shr z∧∀ v H',OkD H' (k+3) v→NxAt K H0 H' p (t+1)→Sm p p H H'→Q v H'
theorem gZ (T:Txt K mg w):FnK P w K mg base 3 "_law_wrapped_in" ["_law_pen","_law_thing","_law_name"] (spWIn K):=by
 have aK:FnK P w K mg base 2 "_law_next" ["_law_pen","_law_many"] (spNx K):=bC T
 refine T.mB.okS bV (fun vs H Q E h=>?_) (fun f cdv A outer s H vs Q E hr h=>?_)
 ·obtain ⟨H0,p,t,k,x,z,rfl,_⟩:=h
  rfl
 ·obtain ⟨H0,p,t,k,x,z,rfl,hn,ht,hx,hk,hz,q⟩:=h
  have hu0:=Nat.lt_of_succ_lt (bD hr)
  have hsz:sizeLine=16777216:=sizeLine_eq
  refine ⟨_,(aD (aL (i:=3) bV.nd rfl (Or.inl rfl) (aE (a7 aC (aB (aE sa_nil) sa_nil))))
   (aD (aL (i:=4) bV.nd rfl (Or.inl rfl) (b4 (aB (aE (a7 aC (a7 aC (a9 (zv 2) (a9 (zv 1) sa_nil))))) (aB (aE (a7 aC (a9 (zv 1) (a7 aC sa_nil)))) (aB (aE (a7 aC (a7 aC (a9 (zv 1) sa_nil)))) sa_nil)))))
   (aD (aL (i:=4) bV.nd rfl (Or.inl rfl) (b8 aS (zv 4) (b4 (aB (aE (a7 aC (a9 (zv 1) (a9 (zv 2) sa_nil)))) (aB (aE (a7 aC (a9 (zv 1) (a9 (zv 3) sa_nil)))) sa_nil)))))
   (aD (aL (i:=4) bV.nd rfl (Or.inl rfl) (b8 aS (zv 4) (b4 (aB (aE (a7 aC (a9 (zv 3) (a9 (zv 1) sa_nil)))) (aB (aE (a7 aC (a9 (zv 1) (aB (aE sa_nil) sa_nil)))) sa_nil)))))
   (aD (cT (iT K PySem.F.plainAttrs_list PySem.F.slot_list_append PySem.F.type_list_append bQ (zv 4) (aB (aE (a7 aC (a9 (zv 3) (aB (aE (aB (aE (a7 aC (a7 aC (a9 (zv 3) sa_nil)))) (aB (aE (a7 aC (a7 aC (a9 (zv 1) sa_nil)))) sa_nil))) sa_nil)))) sa_nil)))
   (aD (aL (i:=4) bV.nd rfl (Or.inl rfl) (b8 aS (zv 4) (b4 (aB (aE (a7 aC (aB (aE (aB (aE (a7 aC (a9 (zv 1) sa_nil))) sa_nil)) sa_nil))) (aB (aE (a7 aC (aB (aE (aB (aE (a7 aC (a9 (zv 3) sa_nil))) (aB (aE (a7 aC (a9 (zv 1) sa_nil))) sa_nil))) sa_nil))) sa_nil)))))
   (aG (aO (b7 (b6 K) (zv 4) (aT aK (hr.mono (by decide)) (a9 (zv 0) (a7 aF sa_nil))) (fun _ _=>rfl)))))))))),?_⟩
  refine aI ⟨(show 0≤sizeLine by decide),fun c1 h1=>⟨(show 2≤sizeLine by decide),fun e1 he1=>?_⟩⟩
  have s1:=(Same.upd h1 (.tup [])).trans (Same.upd he1 (.tup [.str "box",.ref c1]))
  have g1:upd (upd H c1 (.tup [])) e1 (.tup [.str "box",.ref c1]) e1=some (.tup [.str "box",.ref c1]):=aA
  have g2:=Same.upd he1 (.tup [.str "box",.ref c1]) _ _ (aA:upd H c1 (.tup []) c1=some (.tup []))
  dsimp only
  generalize upd (upd H c1 (.tup [])) e1 (.tup [.str "box",.ref c1])=H1 at s1 g1 g2
  have oe:OkD H1 2 (.ref e1):=bG (k:=1) g1 (by simp) fun v hv=>by
   rcases List.mem_cons.mp hv with rfl | hv
   ·exact d8 (by unfold Shr;decide)
   ·rw [List.mem_singleton.mp hv]
    exact bG (k:=0) g2 (by simp) fun v hv=>nomatch hv
  have ox:=hx.same s1
  refine uK (k:=k+3) (n:=3) (by trivial) (by decide) fun S2 ws2 H2 s2 f2 g2' l2 o2=>?_
  have oe2:=oe.same s2
  have ox2:=ox.same s2
  refine kE (k:=k+3) (n:=2) rfl g2' o2 (by omega) (by trivial) (by decide) fun S3 ws3 H3 s3 f3 g3 l3 o3=>?_
  have oe3:=oe2.same s3
  have ox3:=ox2.same s3
  refine kE (k:=k+3) (n:=2) rfl g3 o3 (by omega) (by trivial) (by decide) fun S4 ws4 H4 s4 f4 g4 l4 o4=>?_
  have oe4:=oe3.same s4
  have ox4:=ox3.same s4
  have s14:=s1.trans (s2.trans (s3.trans s4))
  have fS:H S4=none:=s1.free (s2.free (s3.free f4))
  refine yP (k:=k+3) rfl g4 (by omega) (by trivial) fun v5 H5 s5 o5=>?_
  have g5:=s5 _ _ g4
  have ky5:=Ky.lset (ys:=ws4++[v5]) g5
  have oe5:=(oe4.same s5).ky ky5
  have ox5:=(ox4.same s5).ky ky5
  have o5':∀ x∈ws4++[v5],OkD (upd H5 S4 (.lst (ws4++[v5]))) (k+3) x:=fun y hy=>by
   rcases List.mem_append.mp hy with h | h
   ·exact ((o4 y h).same s5).ky ky5
   ·rw [List.mem_singleton.mp h];exact o5.ky ky5
  have s6:=(s14.trans s5).put (o:=.lst (ws4++[v5])) fS
  have g6:upd H5 S4 (.lst (ws4++[v5])) S4=some (.lst (ws4++[v5])):=aA
  generalize upd H5 S4 (.lst (ws4++[v5]))=H6 at oe5 ox5 o5' s6 g6
  refine kE (k:=k+3) (n:=2) rfl g6 o5' (by simp;omega) (by trivial) (by decide) fun S7 ws7 H7 s7 f7 g7 l7 o7=>?_
  have s07:=s6.trans s7
  have hn7:=hn.same s07
  have l7':ws7.length=10:=by rw [l7];simp;omega
  refine ⟨H0,p,10,t,rfl,hn7,⟨by decide,by decide⟩,ht,fun r H8 r0 r1 hn8 sm8=>?_⟩
  have nS7:S7≠p:=(hn.same s6).ne f7
  have g8:=sm8 _ _ g7 nS7 nS7
  obtain ⟨i,rfl⟩:∃ i:Nat,r=(i:Int):=⟨r.toNat,by omega⟩
  have hi:i < ws7.length:=by omega
  exact ⟨ws7,ws7[i],.inl (SqL.of g8),bN (List.getElem?_eq_getElem hi),q _ H8 ((o7 _ (List.getElem_mem hi)).ky (eC hn7 hn8 sm8)) hn8 (s07.sm.trans sm8)⟩
def spDbl (K:PySem.W.Frag):Sp:=fun vs H Q _=>∃ (H0:Hp) (p a:Addr) (t:Nat) (xs:List V) (rs:List (Str×V)),vs=[.ref p,.ref a]∧NxAt K H0 H p t∧t+20 < 900000∧TelAt H a xs rs∧∀ H',NxAt K H0 H' p (t+20)→Sm p p H H'→Q (.bl true) H'
theorem iJ {H:Hp} {a:Addr} {x y:V} {d e:Dt} (g:H a=some (.tup [x,y])) (h1:DD H x d) (h2:DD H y e):DD H (.ref a) (.tup [d,e]):=.tup g rfl (by simp) fun i h h'=>by
 match i,h with
 | 0,_=>exact h1
 | 1,_=>exact h2
theorem lH {H:Hp} {a:Addr} {x y z:V} {d e f:Dt} (g:H a=some (.tup [x,y,z])) (h1:DD H x d) (h2:DD H y e) (h3:DD H z f):DD H (.ref a) (.tup [d,e,f]):=.tup g rfl (by simp) fun i h h'=>by
 match i,h with
 | 0,_=>exact h1
 | 1,_=>exact h2
 | 2,_=>exact h3
theorem dO {H:Hp} {z:Str} (h:Shr z):DD H (.str z) (.str z):=.str h
theorem jJ (T:Txt K mg w):FnK P w K mg base 7 "_law_doubled_right" ["_law_pen","_law_told"] (spDbl K):=by
 have aK:FnK P w K mg base 2 "_law_next" ["_law_pen","_law_many"] (spNx K):=bC T
 have cH:FnK P w K mg base 6 "is_maker" ["T","thing"] spIsM:=jA T
 refine T.jW.okS bT (fun vs H Q E h=>?_) (fun f cdv A outer s H vs Q E hr h=>?_)
 ·obtain ⟨H0,p,a,t,xs,rs,rfl,_⟩:=h
  rfl
 ·obtain ⟨H0,p,a,t,xs,rs,rfl,hn,ht,hT,q⟩:=h
  have hu0:=Nat.lt_of_succ_lt (bD hr)
  have hsz:sizeLine=16777216:=sizeLine_eq
  refine ⟨_,(aD (aL (i:=2) bT.nd rfl (Or.inl rfl) (aE (a7 aC (aB (aE sa_nil) sa_nil))))
   (aD (gX PassesOwn.never rfl (dD (by rfl) T.dU (cE (b8 aS aF (aT aK (hr.mono (by decide)) (a9 (zv 0) (a7 aF sa_nil)))) sa_nil)) (aR (i:=3) bT.nd rfl (Or.inl rfl)) (aD (aL (i:=4) bT.nd rfl (Or.inl rfl) (b4 (aB (aE (a7 aC (a9 (zv 2) (a9 (zv 2) sa_nil)))) (aB (aE (a7 aC (aB (aE (aB (aE (a7 aC (a9 (zv 2) sa_nil))) (aB (aE (a7 aC (a9 (zv 2) sa_nil))) sa_nil))) sa_nil))) sa_nil))))
   (aG (aL (i:=2) bT.nd rfl (Or.inl rfl) (b7 (b6 K) (zv 4) (aT aK (hr.mono (by decide)) (a9 (zv 0) (a7 aF sa_nil))) (fun _ _=>rfl))))))
   (aG (aO (fJ vP (aT cH (hr.mono (by decide)) (a9 (zv 1) (a9 (zv 2) sa_nil))) dR (nomark _)))))),?_⟩
  refine aI ⟨(show 0≤sizeLine by decide),fun c1 h1=>⟨(show 2≤sizeLine by decide),fun e1 he1=>?_⟩⟩
  have s1:=(Same.upd h1 (.tup [])).trans (Same.upd he1 (.tup [.str "box",.ref c1]))
  have g1:upd (upd H c1 (.tup [])) e1 (.tup [.str "box",.ref c1]) e1=some (.tup [.str "box",.ref c1]):=aA
  have g2:=Same.upd he1 (.tup [.str "box",.ref c1]) _ _ (aA:upd H c1 (.tup []) c1=some (.tup []))
  dsimp only
  generalize upd (upd H c1 (.tup [])) e1 (.tup [.str "box",.ref c1])=H1 at s1 g1 g2
  have d1:DD H1 (.ref e1) (.tup [.str "box",.tup []]):=iJ g1 (dO (by unfold Shr;decide)) (.tup g2 rfl (by simp) fun i h=>absurd h (by simp))
  have z1:=wC (nsOf (dictOf (rowsK rs))) (.tup [.str "box",.tup []])
  refine aJ (fun σ' H'=>∃ v d v3 v4,σ'=[some (.ref p),some (.ref a),some v,v3,v4]∧DD H' v d∧61≤szD (nsOf (dictOf (rowsK rs))) d∧Ky H H'∧NxAt K H0 H' p (t+20)∧Sm p p H H') (fun nx hnx=>?_) ?_
  ·refine ⟨H0,p,5,t,rfl,hn.same s1,⟨by decide,by decide⟩,by omega,fun r H2 r0 r1 hn2 sm2=>?_⟩
   obtain ⟨m,rfl⟩:∃ m:Nat,r=(m:Int):=⟨r.toNat,by omega⟩
   have ky2:=s1.ky.trans (eC (hn.same s1) hn2 sm2)
   have d2:=d1.ky (eC (hn.same s1) hn2 sm2)
   refine ⟨_,rfl,by omega,by omega,?_⟩
   rw [show ((6:Int)+(m:Int)).toNat=6+m by omega]
   refine eU (cG 0 (6+m)) (fun i σ' H'=>∃ v d v3 v4,σ'=[some (.ref p),some (.ref a),some v,v3,v4]∧DD H' v d∧2^i≤szD (nsOf (dictOf (rowsK rs))) d∧Ky H H'∧NxAt K H0 H' p (t+1+i)∧Sm p p H H') ⟨_,_,_,_,rfl,d2,z1,ky2,hn2.mono (by omega),s1.sm.trans sm2⟩ (fun _ _ _ _ _=>True.intro) ?_ ?_
   ·rintro i σ' H3 hi ⟨v,d,v3,v4,rfl,dd,hz,ky3,hn3,sm3⟩
    refine aI ⟨(show 3≤sizeLine by decide),fun a1 k1=>⟨(show 2≤sizeLine by decide),fun a2 k2=>⟨(show 2≤sizeLine by decide),fun a3 k3=>⟨(show 2≤sizeLine by decide),fun a4 k4=>⟨(show 2≤sizeLine by decide),fun a5 k5=>⟨(show 2≤sizeLine by decide),fun a6 k6=>?_⟩⟩⟩⟩⟩⟩
    have t1:=Same.upd k1 (.tup [.str "call",v,v])
    have f1:upd H3 a1 (.tup [.str "call",v,v]) a1=some (.tup [.str "call",v,v]):=aA
    generalize upd H3 a1 (.tup [.str "call",v,v])=G1 at*
    have t2:=Same.upd k2 (.tup [.str "a",v])
    have f2:upd G1 a2 (.tup [.str "a",v]) a2=some (.tup [.str "a",v]):=aA
    generalize upd G1 a2 (.tup [.str "a",v])=G2 at*
    have t3:=Same.upd k3 (.tup [.str "b",v])
    have f3:upd G2 a3 (.tup [.str "b",v]) a3=some (.tup [.str "b",v]):=aA
    generalize upd G2 a3 (.tup [.str "b",v])=G3 at*
    have t4:=Same.upd k4 (.tup [.ref a2,.ref a3])
    have f4:upd G3 a4 (.tup [.ref a2,.ref a3]) a4=some (.tup [.ref a2,.ref a3]):=aA
    generalize upd G3 a4 (.tup [.ref a2,.ref a3])=G4 at*
    have t5:=Same.upd k5 (.tup [.str "box",.ref a4])
    have f5:upd G4 a5 (.tup [.str "box",.ref a4]) a5=some (.tup [.str "box",.ref a4]):=aA
    generalize upd G4 a5 (.tup [.str "box",.ref a4])=G5 at*
    have t6:=Same.upd k6 (.lst [.ref a1,.ref a5])
    have f6:upd G5 a6 (.lst [.ref a1,.ref a5]) a6=some (.lst [.ref a1,.ref a5]):=aA
    generalize upd G5 a6 (.lst [.ref a1,.ref a5])=G6 at*
    have tt:=t1.trans (t2.trans (t3.trans (t4.trans (t5.trans t6))))
    have dd6:=dd.same tt
    have dA:DD G6 (.ref a1) (.tup [.str "call",d,d]):=lH (t6 _ _ (t5 _ _ (t4 _ _ (t3 _ _ (t2 _ _ f1))))) (dO (by unfold Shr;decide)) dd6 dd6
    have dB:DD G6 (.ref a5) (.tup [.str "box",.tup [.tup [.str "a",d],.tup [.str "b",d]]]):=iJ (t6 _ _ f5) (dO (by unfold Shr;decide)) (iJ (t6 _ _ (t5 _ _ f4)) (iJ (t6 _ _ (t5 _ _ (t4 _ _ (t3 _ _ f2)))) (dO (by unfold Shr;decide)) dd6) (iJ (t6 _ _ (t5 _ _ (t4 _ _ f3))) (dO (by unfold Shr;decide)) dd6))
    have hn6:=hn3.same tt
    have n6:a6≠p:=fun z=>by
     obtain ⟨_,_,_,_,ep,_⟩:=(hn3.same (t1.trans (t2.trans (t3.trans (t4.trans t5))))).ex
     rw [z,ep] at k6;cases k6
    dsimp only
    refine ⟨H0,p,2,_,rfl,hn6,⟨by decide,by decide⟩,by omega,fun r H7 r0 r1 hn7 sm7=>?_⟩
    have ky7:=eC hn6 hn7 sm7
    have g7:=sm7 _ _ f6 n6 n6
    have kyA:=(ky3.trans tt.ky).trans ky7
    have smA:=(sm3.trans tt.sm).trans sm7
    have pw:2^(i+1)=2*2^i:=by rw [Nat.pow_succ];omega
    rcases (show r=0∨r=1 by omega) with rfl | rfl
    ·exact ⟨_,.ref a1,.inl (SqL.of g7),aW _ _,_,_,_,_,rfl,dA.ky ky7,by rw [wH];omega,kyA,hn7,smA⟩
    ·exact ⟨_,.ref a5,.inl (SqL.of g7),oE _ _ _,_,_,_,_,rfl,dB.ky ky7,by rw [a0v];omega,kyA,hn7,smA⟩
   ·rintro σ' H3 ⟨v,d,v3,v4,rfl,dd,hz,ky3,hn3,sm3⟩
    refine hnx _ _ ⟨v,d,_,_,rfl,dd,?_,ky3,hn3.mono (by omega),sm3⟩
    have:2^6≤2^(6+m):=Nat.pow_le_pow_right (by omega) (by omega)
    omega
  rintro σ' H2 ⟨v,d,v3,v4,rfl,dd,hz,ky2,hn2,sm2⟩
  refine ⟨a,xs,rs,v,d,rfl,⟨ky2.tk _ _ hT.1,⟨hT.2.1.1,fun i h=>let ⟨b,h1,h2⟩:=hT.2.1.2 i h;⟨b,h1,ky2.tk _ _ h2⟩⟩,hT.2.2⟩,dd,fun H3 s3=>?_⟩
  have hf:mkrD (nsOf (dictOf (rowsK rs))) d=false:=by
   unfold mkrD
   rw [decide_eq_false (show ¬szD (nsOf (dictOf (rowsK rs))) d≤60 by omega),Bool.false_and,Bool.and_false]
  rw [hf]
  first | exact q H3 (hn2.same s3) (sm2.trans s3.sm) | exact ⟨_,_,rfl,rfl,q H3 (hn2.same s3) (sm2.trans s3.sm)⟩ | exact ⟨_,rfl,q H3 (hn2.same s3) (sm2.trans s3.sm)⟩
theorem qY {H:Hp} {a b:Addr} (e:H a=some (.tup [.str "box",.ref b])) (e':H b=some (.tup [])):OkD H 2 (.ref a):=bG (k:=1) e (by simp) fun v hv=>by
 rcases List.mem_cons.mp hv with rfl | hv
 ·exact d8 (by unfold Shr;decide)
 ·rw [List.mem_singleton.mp hv]
  exact bG (k:=0) e' (by simp) fun v hv=>nomatch hv
def spChn (K:PySem.W.Frag):Sp:=fun vs H Q _=>∃ (H0:Hp) (p:Addr) (t m:Nat) (z:Str),vs=[.ref p,.str z,.int (m:Int)]∧NxAt K H0 H p t∧t+m < 900000∧m≤100∧Shr z∧∀ v H',OkD H' (2+3*m) v→NxAt K H0 H' p (t+m)→Sm p p H H'→Q v H'
theorem mS (T:Txt K mg w):FnK P w K mg base 4 "_law_chain_of" ["_law_pen","_law_name","_law_many_here"] (spChn K):=by
 have eJ:FnK P w K mg base 3 "_law_wrapped_in" ["_law_pen","_law_thing","_law_name"] (spWIn K):=gZ T
 refine T.nI.okS dH (fun vs H Q E h=>?_) (fun f cdv A outer s H vs Q E hr h=>?_)
 ·obtain ⟨H0,p,t,m,z,rfl,_⟩:=h
  rfl
 ·obtain ⟨H0,p,t,m,z,rfl,hn,ht,hm,hz,q⟩:=h
  have hu0:=Nat.lt_of_succ_lt (bD hr)
  have hsz:sizeLine=16777216:=sizeLine_eq
  refine ⟨_,(aD (aL (i:=3) dH.nd rfl (Or.inl rfl) (aE (a7 aC (aB (aE sa_nil) sa_nil))))
   (aD (gX PassesOwn.never rfl (dD (by rfl) T.dU (a9 (zv 2) sa_nil)) (aR (i:=4) dH.nd rfl (Or.inl rfl)) (aG (aL (i:=3) dH.nd rfl (Or.inl rfl) (aT eJ (hr.mono (by decide)) (a9 (zv 0) (a9 (zv 3) (a9 (zv 1) sa_nil)))))))
   (aG (aO (zv 3))))),?_⟩
  refine aI ⟨(show 0≤sizeLine by decide),fun c1 h1=>⟨(show 2≤sizeLine by decide),fun e1 he1=>?_⟩⟩
  have s1:=(Same.upd h1 (.tup [])).trans (Same.upd he1 (.tup [.str "box",.ref c1]))
  have g1:upd (upd H c1 (.tup [])) e1 (.tup [.str "box",.ref c1]) e1=some (.tup [.str "box",.ref c1]):=aA
  have g2:=Same.upd he1 (.tup [.str "box",.ref c1]) _ _ (aA:upd H c1 (.tup []) c1=some (.tup []))
  dsimp only
  generalize upd (upd H c1 (.tup [])) e1 (.tup [.str "box",.ref c1])=H1 at s1 g1 g2
  have oe:=qY g1 g2
  refine aJ (fun σ' H'=>∃ v v4,σ'=[some (.ref p),some (.str z),some (.int (m:Int)),some v,v4]∧OkD H' (2+3*m) v∧NxAt K H0 H' p (t+m)∧Sm p p H H') (fun nx hnx=>?_) ?_
  ·refine ⟨_,rfl,by omega,by omega,?_⟩
   refine eU (cG 0 (Int.toNat (m:Int))) (fun i σ' H'=>∃ v v4,σ'=[some (.ref p),some (.str z),some (.int (m:Int)),some v,v4]∧OkD H' (2+3*i) v∧NxAt K H0 H' p (t+i)∧Sm p p H H') ⟨_,_,rfl,oe,hn.same s1,s1.sm⟩ (fun _ _ _ _ _=>True.intro) ?_ ?_
   ·rintro i σ' H2 hi ⟨v,v4,rfl,o2,hn2,sm2⟩
    have hi':i < m:=by simpa using hi
    refine ⟨H0,p,t+i,_,v,z,rfl,hn2,by omega,o2,by omega,hz,fun v3 H3 o3 hn3 sm3=>?_⟩
    exact ⟨v3,_,rfl,o3.up (by omega),hn3,sm2.trans sm3⟩
   ·rintro σ' H2 ⟨v,v4,rfl,o2,hn2,sm2⟩
    rw [Int.toNat_natCast] at o2 hn2
    exact hnx _ _ ⟨v,v4,rfl,o2,hn2,sm2⟩
  rintro σ' H' ⟨v,v4,rfl,o',hn',sm'⟩
  exact q v H' o' hn' sm'
theorem mem1 {P:V→Prop} {a:V} (h:P a):∀ v∈[a],P v:=fun v hv=>by rw [List.mem_singleton.mp hv];exact h
theorem memC {P:V→Prop} {a:V} {l:List V} (h:P a) (t:∀ v∈l,P v):∀ v∈a::l,P v:=fun v hv=>by
 rcases List.mem_cons.mp hv with rfl | hv
 ·exact h
 ·exact t v hv
theorem zP {H:Hp} {n k:Nat} {xs ms:List V} (r:RowM H n xs ms) (hn:n≤2) (h:∀ m∈ms,OkD H k m):∀ v∈xs,OkD H (k+1) v:=fun v hv=>by
 obtain ⟨i,hi,rfl⟩:=List.getElem_of_mem hv
 have him:i < ms.length:=by have:=r.len;omega
 obtain ⟨c,ys,h1,h2,h3,h4⟩:=r.at_ i hi him
 rw [h1]
 refine bG h2 (by simp;omega) fun u hu=>?_
 rcases List.mem_append.mp hu with hu | hu
 ·obtain ⟨z,rfl,hz⟩:=h4 u hu
  exact d8 hz
 ·rw [List.mem_singleton.mp hu];exact h _ (List.getElem_mem him)
theorem yC {H:Hp} {n s:Nat} {v:V} (h:MkT H n s v):OkD H (3*n) v:=by
 induction h with
 | @mk n s v ks ss sh hl hk he ih=>
  have kid:∀ m∈ks,OkD H (3*n) m:=fun m hm=>by
   obtain ⟨i,hi,rfl⟩:=List.getElem_of_mem hm
   exact ih i hi (by omega)
  have st:∀ {z:Str},Shr z→OkD H (3*n+2) (.str z):=fun hz=>d8 hz
  rw [show 3*(n+1)=3*n+2+1 by omega]
  cases sh with
  | get e hz=>exact bG e (by simp) (memC (st (by unfold Shr;decide)) (mem1 (st hz)))
  | fn e hz hz'=>exact bG e (by simp) (memC (st (by unfold Shr;decide)) (memC (st hz) (memC (st hz') (mem1 ((kid _ (by simp)).up (by omega))))))
  | call e=>exact bG e (by simp) (memC (st (by unfold Shr;decide)) (memC ((kid _ (by simp)).up (by omega)) (mem1 ((kid _ (by simp)).up (by omega)))))
  | box e e' r=>exact bG e (by simp) (memC (st (by unfold Shr;decide)) (mem1 (bG e' r.few (zP r (by omega) kid))))
  | part e hz=>exact bG e (by simp) (memC (st (by unfold Shr;decide)) (memC ((kid _ (by simp)).up (by omega)) (mem1 (st hz))))
  | pick e hz=>exact bG e (by simp) (memC (st (by unfold Shr;decide)) (memC (st hz) (mem1 ((kid _ (by simp)).up (by omega)))))
  | split e e' r=>exact bG e (by simp) (memC (st (by unfold Shr;decide)) (memC ((kid _ (by simp)).up (by omega)) (mem1 (bG e' r.few (zP r (by omega) fun m hm=>kid m (List.mem_cons_of_mem _ hm))))))
  | hold e hz=>exact bG e (by simp) (memC (st (by unfold Shr;decide)) (memC ((kid _ (by simp)).up (by omega)) (mem1 (st hz))))
theorem qN (xs:List V) (j:Nat) (h:j≤xs.length):cutV xs none (some (j:Int))=xs.take j:=by
 unfold cutV
 rw [HT.fV,HT.jB,Nat.min_eq_left h]
 simp
theorem oM (xs:List V) (j:Nat) (h:j≤xs.length):cutV xs (some (j:Int)) none=xs.drop j:=by
 unfold cutV
 rw [HT.fV,HT.jB,Nat.min_eq_left h,List.take_of_length_le (by simp)]
theorem eG {H:Hp} {a:Addr} {w w':Str} {ys zs:List V} (h1:H a=some (.tup (.str w::ys))) (h2:H a=some (.tup (.str w'::zs))):w=w':=by
 rw [h1] at h2
 injection h2 with h2
 injection h2 with h2
 injection h2 with h2 _
 injection h2
theorem pQ {H:Hp} {a:Addr} {w w':Str} {ys zs:List V} (h1:H a=some (.tup (.str w::ys))) (h2:H a=some (.tup (.str w'::zs))):ys=zs:=by
 rw [h1] at h2
 injection h2 with h2
 injection h2 with h2
 injection h2
theorem a0R {H:Hp} {a:Addr} {ys ks:List V} (sh:Shp H (.ref a) ks) (ea:H a=some (.tup (.str "box"::ys))):∃ b xs,ys=[.ref b]∧H b=some (.tup xs)∧RowM H 1 xs ks:=by
 cases sh with
 | box e e' r=>exact ⟨_,_,pQ ea e,e',r⟩
 | get e _=>exact absurd (eG ea e) (by decide+kernel)
 | fn e _ _=>exact absurd (eG ea e) (by decide+kernel)
 | call e=>exact absurd (eG ea e) (by decide+kernel)
 | part e _=>exact absurd (eG ea e) (by decide+kernel)
 | pick e _=>exact absurd (eG ea e) (by decide+kernel)
 | split e _ _=>exact absurd (eG ea e) (by decide+kernel)
 | hold e _=>exact absurd (eG ea e) (by decide+kernel)
theorem xJ {H:Hp} {a:Addr} {ys ks:List V} (sh:Shp H (.ref a) ks) (ea:H a=some (.tup (.str "split"::ys))):∃ m b xs ms,ys=[m,.ref b]∧H b=some (.tup xs)∧RowM H 2 xs ms∧ks=m::ms:=by
 cases sh with
 | split e e' r=>exact ⟨_,_,_,_,pQ ea e,e',r,rfl⟩
 | get e _=>exact absurd (eG ea e) (by decide+kernel)
 | fn e _ _=>exact absurd (eG ea e) (by decide+kernel)
 | call e=>exact absurd (eG ea e) (by decide+kernel)
 | part e _=>exact absurd (eG ea e) (by decide+kernel)
 | pick e _=>exact absurd (eG ea e) (by decide+kernel)
 | box e _ _=>exact absurd (eG ea e) (by decide+kernel)
 | hold e _=>exact absurd (eG ea e) (by decide+kernel)
theorem yS {H:Hp} {a:Addr} {wd:Str} {ys ks:List V} {i:Nat} (sh:Shp H (.ref a) ks) (ea:H a=some (.tup (.str wd::ys))) (h1:wd≠"fn") (h2:wd≠"pick") (h3:wd≠"box") (h4:wd="split"→i=0) (hi:i < ks.length):i+1 < (V.str wd::ys).length:=by
 cases sh with
 | split e e' r=>rw [pQ ea e,h4 (eG ea e)];simp
 | get e _=>simp at hi
 | fn e _ _=>exact absurd (eG ea e) h1
 | call e=>rw [pQ ea e];simp at hi ⊢;omega
 | part e _=>rw [pQ ea e];simp at hi ⊢;omega
 | pick e _=>exact absurd (eG ea e) h2
 | box e _ _=>exact absurd (eG ea e) h3
 | hold e _=>rw [pQ ea e];simp at hi ⊢;omega
def spReb:Sp:=fun vs H Q _=>∃ (v:V) (ks:List V) (i:Nat) (x:V) (n k:Nat),vs=[v,.int (i:Int),x]∧Shp H v ks∧i < ks.length∧OkD H n v∧OkD H k x∧∀ v' H',OkD H' (max n (k+3)) v'→Same H H'→Q v' H'
theorem jO (T:Txt K mg w):FnK P w K mg base 1 "_law_rebuilt" ["_law_maker","_law_at","_law_one"] spReb:=by
 refine T.oX.okS dY (fun vs H Q E h=>?_) (fun f cdv A outer s H vs Q E hr h=>?_)
 ·obtain ⟨v,ks,i,x,n,k,rfl,_⟩:=h
  rfl
 ·obtain ⟨v,ks,i,x,n,k,rfl,sh,hi,ov,ox,q⟩:=h
  have hu:=bD hr
  have hu0:=Nat.lt_of_succ_lt (bD hr)
  have hsz:sizeLine=16777216:=sizeLine_eq
  refine ⟨_,(aD (aL (i:=3) dY.nd rfl (Or.inl rfl) (b7 (b6 K) (zv 0) aF (fun _ _=>rfl)))
   (aD (bO (aM (iN K) (zv 3) (aE (a7 aC (a7 aC sa_nil))) rfl) (aG (aO (b8 (i8 K) (dI (mV K) (zv 0) dJ (dM (a14 rO aF))) (aE (a9 (zv 2) sa_nil))))) aV)
   (aD (bO (aM (bF hu0) (zv 3) aC (nomark _)) (aD (aL (i:=4) dY.nd rfl (Or.inl rfl) (bL (mF K) (by rfl) T.vT PyProof.Rows.boot_list (aH (b7 (b6 K) (zv 0) aF (fun _ _=>rfl)) sa_nil)))
   (aD (lN (aE (aH (b7 (b6 K) (b7 (b6 K) (zv 4) (zv 1) (fun _ _=>rfl)) aF (fun _ _=>rfl)) (a9 (zv 2) sa_nil))) (pR (zv 4) (zv 1) i9))
   (aG (aO (aE (a7 aC (b5 (bL (cO K) (by rfl) T.cB PyProof.Rows.boot_tuple (a9 (zv 4) sa_nil)) sa_nil))))))) aV)
   (aD (bO (jZ (aM (bF hu0) (zv 3) aC (nomark _)) (hU (aM hV (zv 1) aF (nomark _)))).pt (aD (aL (i:=4) dY.nd rfl (Or.inl rfl) (bL (mF K) (by rfl) T.vT PyProof.Rows.boot_list (aH (b7 (b6 K) (zv 0) aF (fun _ _=>rfl)) sa_nil)))
   (aD (lN (b8 (i8 K) (dI (mV K) (b7 (b6 K) (zv 4) (b8 cQ (zv 1) aF) (fun _ _=>rfl)) dJ (dM aF)) (aE (a9 (zv 2) sa_nil))) (pR (zv 4) (b8 cQ (zv 1) aF) i9))
   (aG (aO (b8 (i8 K) (dI (mV K) (zv 0) dJ (dM aF)) (aE (b5 (bL (cO K) (by rfl) T.cB PyProof.Rows.boot_tuple (a9 (zv 4) sa_nil)) sa_nil))))))) aV)
   (aG (aO (b8 (i8 K) (b8 (i8 K) (dI (mV K) (zv 0) dJ (dM (b8 aS (zv 1) aF))) (aE (a9 (zv 2) sa_nil))) (dI (mV K) (zv 0) (dM (b8 aS (zv 1) aF)) dJ)))))))),?_⟩
  obtain ⟨a,wd,ys,rfl,ea,hy1⟩:∃ a wd ys,v=.ref a∧H a=some (.tup (.str wd::ys))∧1≤ys.length:=by cases sh<;>exact ⟨_,_,_,rfl,by assumption,by simp⟩
  refine aI ⟨_,.str wd,.inr (SqT.of ea),aW _ _,?_⟩
  dsimp only
  have hys:(V.str wd::ys).length≤1000:=by
   obtain ⟨d,h1,_⟩:=ov
   cases h1 with
   | tup e' hl hn' _=>rw [ea] at e';cases e';exact hn'
   | lst e'=>rw [ea] at e';cases e'
   | dct e'=>rw [ea] at e';cases e'
  obtain ⟨n',rfl,_⟩:=ov.mem ea (List.mem_cons_self ..)
  have omem:∀ u∈V.str wd::ys,OkD H n' u:=fun u hu=>by
   obtain ⟨n2,e2,h2⟩:=ov.mem ea hu
   rw [show n'=n2 by omega];exact h2
  obtain ⟨M,hM⟩:∃ M,max (n'+1) (k+3)=M+1:=⟨max (n'+1) (k+3) - 1,by omega⟩
  rw [hM] at q
  have lastp:∀ H1 (D:Ends) σ,D.rt=Q→σ=[some (.ref a),some (.int (i:Int)),some x,some (.str wd),none]→Same H H1→i+1 < (V.str wd::ys).length→tRet (tOp (rCatT K) (tOp (rCatT K) (tSl (fun x lo hi H Q=>rSlS x lo hi H Q∨rSlL K x lo hi H Q∨rSlT K x lo hi H Q) (tV 0) tNoPart (tPart (tOp rAddD (tV 1) (tC (V.int 1))))) (tTup (tCons (tV 2) tNil))) (tSl (fun x lo hi H Q=>rSlS x lo hi H Q∨rSlL K x lo hi H Q∨rSlT K x lo hi H Q) (tV 0) (tPart (tOp rAddD (tV 1) (tC (V.int 2)))) tNoPart)) D σ H1:=by
   rintro H1 D _ hD rfl s1 hlen
   have e1':((i:Int)+1)=((i+1:Nat):Int):=by omega
   have e2':((i:Int)+2)=((i+2:Nat):Int):=by omega
   refine ⟨(i:Int)+1,rfl,Or.inr (Or.inr ⟨a,_,rfl,SqT.of (s1 _ _ ea),by rw [e1',HT.fV];omega,fun p1 hp1=>?_⟩)⟩
   rw [e1',qN _ _ (by omega)]
   have s2:=Same.upd hp1 (.tup ((V.str wd::ys).take (i+1)))
   have g2:upd H1 p1 (.tup ((V.str wd::ys).take (i+1))) p1=some (.tup ((V.str wd::ys).take (i+1))):=aA
   generalize upd H1 p1 (.tup ((V.str wd::ys).take (i+1)))=H2 at s2 g2
   refine ⟨(show 1≤sizeLine by decide),fun p2 hp2=>?_⟩
   have s3:=Same.upd hp2 (.tup [x])
   have g3:upd H2 p2 (.tup [x]) p2=some (.tup [x]):=aA
   have g23:=s3 _ _ g2
   generalize upd H2 p2 (.tup [x])=H3 at s3 g3 g23
   refine ⟨p1,p2,_,_,rfl,rfl,SqT.of g23,SqT.of g3,by simp,by simp;omega,fun h=>absurd h (by simp),fun _ p3 hp3=>?_⟩
   have s4:=Same.upd hp3 (.tup ((V.str wd::ys).take (i+1)++[x]))
   have g4:upd H3 p3 (.tup ((V.str wd::ys).take (i+1)++[x])) p3=some (.tup ((V.str wd::ys).take (i+1)++[x])):=aA
   generalize upd H3 p3 (.tup ((V.str wd::ys).take (i+1)++[x]))=H4 at s4 g4
   have s14:=s2.trans (s3.trans s4)
   refine ⟨(i:Int)+2,rfl,Or.inr (Or.inr ⟨a,_,rfl,SqT.of (s14 _ _ (s1 _ _ ea)),by rw [e2',HT.fV];omega,fun p5 hp5=>?_⟩)⟩
   rw [e2',oM _ _ (by omega)]
   have s5:=Same.upd hp5 (.tup ((V.str wd::ys).drop (i+2)))
   have g5:upd H4 p5 (.tup ((V.str wd::ys).drop (i+2))) p5=some (.tup ((V.str wd::ys).drop (i+2))):=aA
   have g45:=s5 _ _ g4
   generalize upd H4 p5 (.tup ((V.str wd::ys).drop (i+2)))=H5 at s5 g5 g45
   have s05:=s1.trans (s14.trans s5)
   have hmem:∀ H',Same H H'→∀ u∈(V.str wd::ys).take (i+1)++[x]++(V.str wd::ys).drop (i+2),OkD H' M u:=fun H' s' u hu=>by
    rcases List.mem_append.mp hu with hu | hu
    ·rcases List.mem_append.mp hu with hu | hu
     ·exact ((omem u (List.mem_of_mem_take hu)).up (by omega)).same s'
     ·rw [List.mem_singleton.mp hu];exact (ox.up (by omega)).same s'
    ·exact ((omem u (List.mem_of_mem_drop hu)).up (by omega)).same s'
   rw [hD]
   refine ⟨p3,p5,_,_,rfl,rfl,SqT.of g45,SqT.of g5,by simp,by simp only [List.length_append,List.length_take,List.length_drop,List.length_singleton];omega,fun h0=>?_,fun _ p6 hp6=>?_⟩
   ·have:=hmem H5 s05
    rw [h0,List.append_nil] at this
    exact q _ H5 (bG g45 (by simp only [List.length_append,List.length_take,List.length_singleton];omega) this) s05
   ·have s6:=Same.upd hp6 (.tup ((V.str wd::ys).take (i+1)++[x]++(V.str wd::ys).drop (i+2)))
    exact q _ _ (bG aA (by simp only [List.length_append,List.length_take,List.length_drop,List.length_singleton];omega) (hmem _ (s05.trans s6))) (s05.trans s6)
  have ev:∀ y:Str,(false^^decide (V.str wd=V.str y))=decide (wd=y):=fun y=>by rw [Bool.false_xor,uC,Bool.eq_iff_iff,beq_iff_eq,decide_eq_true_iff]
  refine aJ (fun σ' H'=>σ'=[some (.ref a),some (.int (i:Int)),some x,some (.str wd),none]∧Same H H'∧wd≠"fn"∧wd≠"pick") (fun nx hnx=>?_) ?_
  ·refine ⟨(show 2≤sizeLine by decide),fun b1 hb1=>⟨_,.inr (SqT.of aA),rfl,rfl,_,rfl,?_⟩⟩
   have s1:=Same.upd hb1 (.tup [.str "fn",.str "pick"])
   generalize upd H b1 (.tup [.str "fn",.str "pick"])=H1 at s1
   rw [show inV (.str wd) [.str "fn",.str "pick"]=decide (wd∈(["fn","pick"]:List Str)) from inS (["fn","pick"]:List Str) wd,Bool.false_xor]
   refine iteB (fun c=>?_) (fun c=>hnx _ _ ⟨rfl,s1,fun z=>of_decide_eq_false c (by rw [z];simp),fun z=>of_decide_eq_false c (by rw [z];simp)⟩)
   refine ⟨1,rfl, -1,rfl,Or.inr (Or.inr ⟨a,_,rfl,SqT.of (s1 _ _ ea),by rw [uU];simp,fun p1 hp1=>?_⟩)⟩
   rw [a02]
   have s2:=Same.upd hp1 (.tup (V.str wd::ys).dropLast)
   have g2:upd H1 p1 (.tup (V.str wd::ys).dropLast) p1=some (.tup (V.str wd::ys).dropLast):=aA
   generalize upd H1 p1 (.tup (V.str wd::ys).dropLast)=H2 at s2 g2
   refine ⟨(show 1≤sizeLine by decide),fun p2 hp2=>?_⟩
   have s3:=Same.upd hp2 (.tup [x])
   have g3:upd H2 p2 (.tup [x]) p2=some (.tup [x]):=aA
   have g23:=s3 _ _ g2
   generalize upd H2 p2 (.tup [x])=H3 at s3 g3 g23
   have hdl:(V.str wd::ys).dropLast.length=ys.length:=by simp
   simp only [List.length_cons] at hys
   refine ⟨p1,p2,_,_,rfl,rfl,SqT.of g23,SqT.of g3,fun z=>?_,by rw [hdl];simp;omega,fun h=>absurd h (by simp),fun _ p3 hp3=>?_⟩
   ·rw [z] at hdl;simp at hdl;omega
   have s4:=Same.upd hp3 (.tup ((V.str wd::ys).dropLast++[x]))
   have s04:=s1.trans (s2.trans (s3.trans s4))
   refine q _ _ (bG aA (by rw [List.length_append,hdl];simp;omega) fun u hu=>?_) s04
   rcases List.mem_append.mp hu with hu | hu
   ·exact ((omem u ((List.dropLast_sublist _).subset hu)).up (by omega)).same s04
   ·rw [List.mem_singleton.mp hu];exact (ox.up (by omega)).same s04
  rintro σ' H1 ⟨rfl,s1,n1,n2⟩
  refine aJ (fun σ' H'=>σ'=[some (.ref a),some (.int (i:Int)),some x,some (.str wd),none]∧H1=H'∧wd≠"box") (fun nx hnx=>?_) ?_
  ·refine ⟨rfl,_,rfl,?_⟩
   rw [ev]
   refine iteB (fun c=>?_) (fun c=>hnx _ _ ⟨rfl,rfl,of_decide_eq_false c⟩)
   have hz:=of_decide_eq_true c
   subst hz
   obtain ⟨b,xs,rfl,eb,rm⟩:=a0R sh ea
   have hrl:=rm.len
   have hrf:=rm.few
   have hi':i < xs.length:=by omega
   obtain ⟨c0,yw,r1,r2,r3,r4⟩:=rm.at_ i hi' hi
   obtain ⟨w0,rfl⟩:=List.length_eq_one_iff.mp r3
   have ob:=omem (.ref b) (by simp)
   obtain ⟨M',rfl⟩:∃ M',M=M'+1:=⟨M - 1,by omega⟩
   have oxs:∀ u∈xs,OkD H M' u:=fun u hu=>by
    obtain ⟨n2,e2,h2⟩:=ob.mem eb hu
    exact h2.up (by omega)
   refine aI ⟨_,.ref b,.inr (SqT.of (s1 _ _ ea)),oE _ _ _,b,xs,rfl,.inr (SqT.of (s1 _ _ eb)),fun L hL=>?_⟩
   have s2:=Same.upd hL (.lst xs)
   have gL:upd H1 L (.lst xs) L=some (.lst xs):=aA
   have fL:H L=none:=s1.free hL
   dsimp only
   generalize upd H1 L (.lst xs)=H2 at s2 gL
   refine ⟨xs,.ref c0,.inl (SqL.of gL),bN (by rw [List.getElem?_eq_getElem hi',r1]),_,w0,.inr (SqT.of (s2 _ _ (s1 _ _ r2))),aW _ _,(show 2≤sizeLine by decide),fun c1 h1=>?_⟩
   have s3:=Same.upd h1 (.tup [w0,x])
   have g3:upd H2 c1 (.tup [w0,x]) c1=some (.tup [w0,x]):=aA
   have gL3:=s3 _ _ gL
   generalize upd H2 c1 (.tup [w0,x])=H3 at s3 g3 gL3
   refine ⟨L,xs,_,i,rfl,rfl,gL3,nA hi',?_⟩
   have s03:=s1.trans (s2.trans s3)
   have s4:=s03.put (o:=.lst (xs.set i (.ref c1))) fL
   have g4:upd H3 L (.lst (xs.set i (.ref c1))) L=some (.lst (xs.set i (.ref c1))):=aA
   have g34:=(Ky.lset (ys:=xs.set i (.ref c1)) gL3).tk _ _ g3
   generalize upd H3 L (.lst (xs.set i (.ref c1)))=H4 at s4 g4 g34
   obtain ⟨zw,rfl,hzw⟩:=r4 w0 (by simp)
   have orow:OkD H4 M' (.ref c1):=(bG (k:=k) g34 (by simp) (memC (d8 hzw) (mem1 (ox.same s4)))).up (by omega)
   have oall:∀ u∈xs.set i (.ref c1),OkD H4 M' u:=fun u hu=>by
    rcases List.mem_or_eq_of_mem_set hu with hu | rfl
    ·exact (oxs u hu).same s4
    ·exact orow
   refine ⟨L,_,rfl,Or.inl ⟨SqL.of g4,fun r1 hr1=>⟨(show 2≤sizeLine by decide),fun r2 hr2=>?_⟩⟩⟩
   have s5:=Same.upd hr1 (.tup (xs.set i (.ref c1)))
   have s6:=Same.upd hr2 (.tup [.str "box",.ref r1])
   have g6:=s6 _ _ (aA:upd H4 r1 (.tup (xs.set i (.ref c1))) r1=_)
   exact q _ _ (bG aA (by simp) (memC (d8 (by unfold Shr;decide)) (mem1 (bG g6 (by simp;omega) fun u hu=>(oall u hu).same (s5.trans s6))))) (s4.trans (s5.trans s6))
  rintro σ' _ ⟨rfl,rfl,n3⟩
  refine aJ (fun σ' H'=>σ'=[some (.ref a),some (.int (i:Int)),some x,some (.str wd),none]∧H1=H'∧(wd="split"→i=0)) (fun nx hnx=>?_) ?_
  ·refine ⟨rfl,_,rfl,?_⟩
   rw [ev]
   refine iteB (fun c=>⟨_,rfl,iteB (fun c2=>?_) (fun c2=>hnx _ _ ⟨rfl,rfl,fun _=>?_⟩)⟩) (fun c=>hnx _ _ ⟨rfl,rfl,fun z=>absurd z (of_decide_eq_false c)⟩)
   rotate_left
   ·have:¬(0:Int) < (i:Int):=of_decide_eq_false c2
    omega
   have hz:=of_decide_eq_true c
   subst hz
   obtain ⟨m,b,xs,ms,rfl,eb,rm,rfl⟩:=xJ sh ea
   have hi0:(0:Int) < (i:Int):=of_decide_eq_true c2
   obtain ⟨j,rfl⟩:∃ j,i=j+1:=⟨i - 1,by omega⟩
   have ej:((j+1:Nat):Int) - 1=(j:Int):=by omega
   have hrl:=rm.len
   have hrf:=rm.few
   have hjm:j < ms.length:=by simpa using hi
   have hj:j < xs.length:=by omega
   obtain ⟨c0,yw,r1,r2,r3,r4⟩:=rm.at_ j hj hjm
   have ob:=omem (.ref b) (by simp)
   have om:=omem m (by simp)
   obtain ⟨M',rfl⟩:∃ M',M=M'+1:=⟨M - 1,by omega⟩
   have oxs:∀ u∈xs,OkD H M' u:=fun u hu=>by
    obtain ⟨n2,e2,h2⟩:=ob.mem eb hu
    exact h2.up (by omega)
   refine aI ⟨_,.ref b,.inr (SqT.of (s1 _ _ ea)),oB _ _ _ _,b,xs,rfl,.inr (SqT.of (s1 _ _ eb)),fun L hL=>?_⟩
   have s2:=Same.upd hL (.lst xs)
   have gL:upd H1 L (.lst xs) L=some (.lst xs):=aA
   have fL:H L=none:=s1.free hL
   dsimp only
   generalize upd H1 L (.lst xs)=H2 at s2 gL
   have ecut:cutV (yw++[ms[j]]) none (some 2)=yw:=by
    rw [show (2:Int)=((2:Nat):Int) from rfl,qN _ _ (by simp;omega),List.take_append_of_le_length (by omega),List.take_of_length_le (by omega)]
   refine ⟨xs,.ref c0,.inl (SqL.of gL),by rw [ej];exact bN (by rw [List.getElem?_eq_getElem hj,r1]),2,rfl,Or.inr (Or.inr ⟨c0,_,rfl,SqT.of (s2 _ _ (s1 _ _ r2)),by rw [show (2:Int)=((2:Nat):Int) from rfl,HT.fV];simp;omega,fun p1 hp1=>?_⟩)⟩
   rw [ecut]
   have s3:=Same.upd hp1 (.tup yw)
   have g3:upd H2 p1 (.tup yw) p1=some (.tup yw):=aA
   have gL3:=s3 _ _ gL
   generalize upd H2 p1 (.tup yw)=H3 at s3 g3 gL3
   refine ⟨(show 1≤sizeLine by decide),fun p2 hp2=>?_⟩
   have s4:=Same.upd hp2 (.tup [x])
   have g4:upd H3 p2 (.tup [x]) p2=some (.tup [x]):=aA
   have g34:=s4 _ _ g3
   have gL4:=s4 _ _ gL3
   generalize upd H3 p2 (.tup [x])=H4 at s4 g4 g34 gL4
   refine ⟨p1,p2,_,_,rfl,rfl,SqT.of g34,SqT.of g4,fun z=>by rw [z] at r3;simp at r3,by simp;omega,fun h=>absurd h (by simp),fun _ p3 hp3=>?_⟩
   have s5:=Same.upd hp3 (.tup (yw++[x]))
   have g5:upd H4 p3 (.tup (yw++[x])) p3=some (.tup (yw++[x])):=aA
   have gL5:=s5 _ _ gL4
   generalize upd H4 p3 (.tup (yw++[x]))=H5 at s5 g5 gL5
   refine ⟨L,xs,_,j,rfl,by rw [ej],gL5,nA hj,?_⟩
   have s05:=s1.trans (s2.trans (s3.trans (s4.trans s5)))
   have s6:=s05.put (o:=.lst (xs.set j (.ref p3))) fL
   have g6:upd H5 L (.lst (xs.set j (.ref p3))) L=some (.lst (xs.set j (.ref p3))):=aA
   have g56:=(Ky.lset (ys:=xs.set j (.ref p3)) gL5).tk _ _ g5
   generalize upd H5 L (.lst (xs.set j (.ref p3)))=H6 at s6 g6 g56
   have orow:OkD H6 M' (.ref p3):=(bG (k:=k) g56 (by simp;omega) fun u hu=>by
    rcases List.mem_append.mp hu with hu | hu
    ·obtain ⟨z,rfl,hz⟩:=r4 u hu
     exact d8 hz
    ·rw [List.mem_singleton.mp hu];exact ox.same s6).up (by omega)
   have oall:∀ u∈xs.set j (.ref p3),OkD H6 M' u:=fun u hu=>by
    rcases List.mem_or_eq_of_mem_set hu with hu | rfl
    ·exact (oxs u hu).same s6
    ·exact orow
   have ecut2:cutV [V.str "split",m,.ref b] none (some 2)=[.str "split",m]:=by simp [cutV,HT.sIx]
   refine ⟨2,rfl,Or.inr (Or.inr ⟨a,_,rfl,SqT.of (s6 _ _ ea),by simp [HT.sIx],fun p7 hp7=>?_⟩)⟩
   rw [ecut2]
   have s7:=Same.upd hp7 (.tup [.str "split",m])
   have g7:upd H6 p7 (.tup [.str "split",m]) p7=some (.tup [.str "split",m]):=aA
   have gL7:=s7 _ _ g6
   generalize upd H6 p7 (.tup [.str "split",m])=H7 at s7 g7 gL7
   refine ⟨L,_,rfl,Or.inl ⟨SqL.of gL7,fun r1 hr1=>⟨(show 1≤sizeLine by decide),fun r2 hr2=>?_⟩⟩⟩
   have s8:=Same.upd hr1 (.tup (xs.set j (.ref p3)))
   have g8:upd H7 r1 (.tup (xs.set j (.ref p3))) r1=some (.tup (xs.set j (.ref p3))):=aA
   generalize upd H7 r1 (.tup (xs.set j (.ref p3)))=H8 at s8 g8 hr2
   have s9:=Same.upd hr2 (.tup [.ref r1])
   have g9:upd H8 r2 (.tup [.ref r1]) r2=some (.tup [.ref r1]):=aA
   have g89:=s9 _ _ g8
   generalize upd H8 r2 (.tup [.ref r1])=H9 at s9 g9 g89
   refine ⟨p7,r2,_,_,rfl,rfl,SqT.of (s9 _ _ (s8 _ _ g7)),SqT.of g9,by simp,by simp;omega,fun h=>absurd h (by simp),fun _ p10 hp10=>?_⟩
   have s10:=Same.upd hp10 (.tup ([.str "split",m]++[.ref r1]))
   have s610:=s7.trans (s8.trans (s9.trans s10))
   exact q _ _ (bG aA (by simp) (memC (d8 (by unfold Shr;decide)) (memC ((om.up (by omega)).same (s6.trans s610)) (mem1 (bG (s10 _ _ g89) (by simp;omega) fun u hu=>(oall u hu).same s610))))) (s6.trans s610)
  rintro σ' _ ⟨rfl,rfl,n4⟩
  exact lastp _ _ _ rfl rfl s1 (yS sh ea n1 n2 n3 n4 hi)
def spPut (K:PySem.W.Frag) (n:Nat):Sp:=fun vs H Q _=>∃ (H0:Hp) (p:Addr) (t s k:Nat) (v x:V),vs=[.ref p,v,x]∧NxAt K H0 H p t∧t+2*n < 900000∧MkT H n s v∧OkD H k x∧∀ v' H',OkD H' (3*n+k) v'→NxAt K H0 H' p (t+2*n)→Sm p p H H'→Q v' H'
theorem lE (T:Txt K mg w):∀ n:Nat,FnK P w K mg base (3+n) "_law_put_within" ["_law_pen","_law_maker","_law_thing"] (spPut K n):=by
 intro n
 induction n with
 | zero=>
  refine T.iG.okS (k:=2) cR (fun vs H Q E h=>?_) (fun f cdv A outer s H vs Q E hr h=>?_)
  ·obtain ⟨H0,p,t,s,k,v,x,rfl,_⟩:=h
   rfl
  ·obtain ⟨H0,p,t,s,k,v,x,rfl,_,_,hm,_⟩:=h
   cases hm
 | succ n ih=>
  have eL:FnK P w K mg base (3+n) "_law_put_within" ["_law_pen","_law_maker","_law_thing"] (spPut K n):=ih
  have aK:FnK P w K mg base 2 "_law_next" ["_law_pen","_law_many"] (spNx K):=bC T
  have c8:FnK P w K mg base 1 "_law_parts" ["_law_maker"] spParts:=dX T
  have i3:FnK P w K mg base 1 "_law_rebuilt" ["_law_maker","_law_at","_law_one"] spReb:=jO T
  refine T.iG.okS (k:=3+n) cR (fun vs H Q E h=>?_) (fun f cdv A outer s H vs Q E hr h=>?_)
  ·obtain ⟨H0,p,t,s,k,v,x,rfl,_⟩:=h
   rfl
  ·obtain ⟨H0,p,t,s,k,v,x,rfl,hn,ht,hm,ox,q⟩:=h
   have hu:=bD hr
   have hu0:=Nat.lt_of_succ_lt (bD hr)
   have hsz:sizeLine=16777216:=sizeLine_eq
   have ov:=yC hm
   refine ⟨_,(aD (aL (i:=3) cR.nd rfl (Or.inl rfl) (aT c8 (hr.mono (by omega)) (a9 (zv 1) sa_nil)))
   (aD (bO (i7 (aM (bF hu0) (zv 3) (b4 sa_nil) (nomark _)) (fO (aM (bF hu0) (aT aK (hr.mono (by omega)) (a9 (zv 0) (a7 aF sa_nil))) aF (nomark _)))).pt (aG (aO (zv 2))) aV)
   (aD (aL (i:=4) cR.nd rfl (Or.inl rfl) (aT aK (hr.mono (by omega)) (a9 (zv 0) (b5 (aQ (aZ K) (by rfl) T.n_len PySem.boot_len (a9 (zv 3) sa_nil)) sa_nil))))
   (aG (aO (aT i3 (hr.mono (by omega)) (a9 (zv 1) (a9 (zv 4) (b5 (aT eL (hr.mono (by omega)) (a9 (zv 0) (aH (b7 (b6 K) (zv 3) (zv 4) (fun _ _=>rfl)) (a9 (zv 2) sa_nil)))) sa_nil))))))))),?_⟩
   cases hm with
   | @mk _ _ _ ks ss sh hl hks he=>
    have hkl:=jS sh
    refine aI ⟨v,ks,rfl,sh,fun L H1 hL gL s1=>?_⟩
    have hn1:=hn.same s1
    have nLp:L≠p:=hn.ne hL
    dsimp only
    refine aJ (fun σ' H'=>σ'=[some (.ref p),some v,some x,some (.ref L),none]∧Ky H H'∧H' L=some (.lst ks)∧NxAt K H0 H' p (t+1)∧Sm p p H H'∧ks≠[]) (fun nx hnx=>?_) ?_
    ·refine ⟨(show 0≤sizeLine by decide),fun b hb=>⟨aU gL hb,ks,(Same.upd hb _) _ _ gL,aA,_,rfl,iteB (fun c=>?_) (fun c=>?_)⟩⟩
     ·have sb:=s1.trans (Same.upd hb (.lst []))
      exact iteT (q x _ ((ox.up (by omega)).same sb) ((hn.same sb).mono (by omega)) sb.sm)
     have hne:ks≠[]:=fun z=>by rw [z] at c;exact absurd c (by decide)
     have sb:=Same.upd hb (.lst [])
     have gb:=sb _ _ gL
     have hnb:=hn1.same sb
     generalize upd H1 b (.lst [])=Hb at sb gb hnb
     refine ⟨H0,p,4,t,rfl,hnb,⟨by decide,by decide⟩,by omega,fun r H2 r0 r1 hn2 sm2=>⟨rfl,_,rfl,?_⟩⟩
     have ky2:=(s1.trans sb).ky.trans (eC hnb hn2 sm2)
     have sm02:=(s1.trans sb).sm.trans sm2
     exact iteB (fun c=>q x _ ((ox.up (by omega)).ky ky2) (hn2.mono (by omega)) sm02) (fun c=>hnx _ _ ⟨rfl,ky2,sm2 _ _ gb nLp nLp,hn2,sm02,hne⟩)
    rintro σ' H2 ⟨rfl,ky2,g2,hn2,sm2,hne⟩
    have hpos:0 < ks.length:=List.length_pos_iff.mpr hne
    refine aI (.inl ⟨_,.inl (SqL.of g2),H0,p,_,_,rfl,hn2,⟨by omega,by omega⟩,by omega,fun r H3 r0 r1 hn3 sm3=>?_⟩)
    have ky3:=eC hn2 hn3 sm3
    have g3:=sm3 _ _ g2 nLp nLp
    obtain ⟨i,rfl⟩:∃ i:Nat,r=(i:Int):=⟨r.toNat,by omega⟩
    have hi:i < ks.length:=by omega
    dsimp only
    have ky03:=ky2.trans ky3
    refine ⟨ks,ks[i],.inl (SqL.of g3),bN (List.getElem?_eq_getElem hi),H0,p,_,ss[i]'(by omega),k,_,x,rfl,hn3,by omega,(hks i hi (by omega)).tk ky03.tk,ox.ky ky03,fun v4 H4 o4 hn4 sm4=>?_⟩
    have ky4:=eC hn3 hn4 sm4
    have ky04:=ky03.trans ky4
    refine ⟨v,ks,i,v4,_,_,rfl,sh.tk ky04.tk,hi,ov.ky ky04,o4,fun v5 H5 o5 s5=>?_⟩
    exact q v5 H5 (o5.up (by omega)) ((hn4.same s5).mono (by omega)) ((sm2.trans (sm3.trans sm4)).trans s5.sm)
def spBnt (K:PySem.W.Frag) (n:Nat):Sp:=fun vs H Q _=>∃ (H0:Hp) (p:Addr) (t s:Nat) (v:V),vs=[.ref p,v]∧NxAt K H0 H p t∧t+2*n+2 < 900000∧MkT H n s v∧∀ v' H',OkD H' (3*n+6) v'→NxAt K H0 H' p (t+2*n+2)→Sm p p H H'→Q v' H'
set_option maxHeartbeats 2000000 in
theorem lI (T:Txt K mg w):∀ n:Nat,FnK P w K mg base (3+n) "_law_bent_maker" ["_law_pen","_law_maker"] (spBnt K n):=by
 intro n
 induction n with
 | zero=>
  refine T.iH.okS (k:=2) bB (fun vs H Q E h=>?_) (fun f cdv A outer s H vs Q E hr h=>?_)
  ·obtain ⟨H0,p,t,s,v,rfl,_⟩:=h
   rfl
  ·obtain ⟨H0,p,t,s,v,rfl,_,_,hm,_⟩:=h
   cases hm
 | succ n ih=>
  have eM:FnK P w K mg base (3+n) "_law_bent_maker" ["_law_pen","_law_maker"] (spBnt K n):=ih
  have aK:FnK P w K mg base 2 "_law_next" ["_law_pen","_law_many"] (spNx K):=bC T
  have c8:FnK P w K mg base 1 "_law_parts" ["_law_maker"] spParts:=dX T
  have i3:FnK P w K mg base 1 "_law_rebuilt" ["_law_maker","_law_at","_law_one"] spReb:=jO T
  refine T.iH.okS (k:=3+n) bB (fun vs H Q E h=>?_) (fun f cdv A outer s H vs Q E hr h=>?_)
  ·obtain ⟨H0,p,t,s,v,rfl,_⟩:=h
   rfl
  ·obtain ⟨H0,p,t,s,v,rfl,hn,ht,hm,q⟩:=h
   have hu:=bD hr
   have hu0:=Nat.lt_of_succ_lt (bD hr)
   have hsz:sizeLine=16777216:=sizeLine_eq
   have ov:=yC hm
   refine ⟨_,(aD (aL (i:=2) bB.nd rfl (Or.inl rfl) (aT c8 (hr.mono (by omega)) (a9 (zv 1) sa_nil)))
   (aD (bO (jZ (aM (j5 hu0) (zv 2) (b4 sa_nil) (nomark _)) (hU (aM hV (aT aK (hr.mono (by omega)) (a9 (zv 0) (a7 aF sa_nil))) aF (nomark _)))).pt (aD (aL (i:=3) bB.nd rfl (Or.inl rfl) (aT aK (hr.mono (by omega)) (a9 (zv 0) (b5 (aQ (aZ K) (by rfl) T.n_len PySem.boot_len (a9 (zv 2) sa_nil)) sa_nil))))
   (aG (aO (aT i3 (hr.mono (by omega)) (a9 (zv 1) (a9 (zv 3) (b5 (aT eM (hr.mono (by omega)) (a9 (zv 0) (aH (b7 (b6 K) (zv 2) (zv 3) (fun _ _=>rfl)) sa_nil))) sa_nil))))))) aV)
   (aD (aL (i:=4) bB.nd rfl (Or.inl rfl) (aT aK (hr.mono (by omega)) (a9 (zv 0) (a7 aF sa_nil))))
   (aD (aL (i:=5) bB.nd rfl (Or.inl rfl) (b4 (aB (aE (a7 aC (a7 aC sa_nil))) (aB (aE (a7 aC (a9 (zv 1) (a7 aC sa_nil)))) (aB (aE (a7 aC (a9 (zv 1) (a9 (zv 1) sa_nil)))) sa_nil)))))
   (aD (aL (i:=5) bB.nd rfl (Or.inl rfl) (b8 aS (zv 5) (b4 (aB (aE (a7 aC (a9 (zv 1) (aB (aE sa_nil) sa_nil)))) (aB (aE (a7 aC (a9 (zv 1) (a7 aC sa_nil)))) (aB (aE (a7 aC (aB (aE sa_nil) sa_nil))) sa_nil))))))
   (aD (lN (aE (aB (aE (a7 aC (a7 aC sa_nil))) (aB (aE (a7 aC (aB (aE sa_nil) sa_nil))) sa_nil))) (jG K (n:=2) rfl (bR (aR (i:=6) bB.nd rfl (Or.inl rfl)) (bR (aR (i:=7) bB.nd rfl (Or.inl rfl)) gG))))
   (aD (aL (i:=5) bB.nd rfl (Or.inl rfl) (b8 aS (zv 5) (b4 (aB (aE (a7 aC (a9 (zv 1) (a7 aC sa_nil)))) (aB (aE (a7 aC (a9 (zv 1) (aB (aE (aB (aE (a7 aC (a7 aC (a9 (zv 6) sa_nil)))) sa_nil)) sa_nil)))) sa_nil)))))
   (aD (cT (iT K PySem.F.plainAttrs_list PySem.F.slot_list_append PySem.F.type_list_append bQ (zv 5) (aB (aE (a7 aC (a9 (zv 1) (aB (aE (aB (aE (a7 aC (a7 aC (aB (aE (a7 aC (a7 aC sa_nil))) sa_nil)))) (aB (aE (a7 aC (a7 aC (a9 (zv 6) sa_nil)))) sa_nil))) sa_nil)))) sa_nil)))
   (aD (cT (iT K PySem.F.plainAttrs_list PySem.F.slot_list_append PySem.F.type_list_append bQ (zv 5) (aB (aE (a7 aC (a9 (zv 1) (aB (aE (aB (aE (a7 aC (a7 aC (a9 (zv 7) sa_nil)))) sa_nil)) sa_nil)))) sa_nil)))
   (aD (cT (iT K PySem.F.plainAttrs_list PySem.F.slot_list_append PySem.F.type_list_append bQ (zv 5) (aB (aE (a7 aC (a9 (zv 1) (aB (aE (aB (aE (a7 aC (a7 aC (aB (aE (a7 aC (a7 aC sa_nil))) sa_nil)))) (aB (aE (a7 aC (a7 aC (a9 (zv 7) sa_nil)))) sa_nil))) sa_nil)))) sa_nil)))
   (aG (aO (b7 (b6 K) (zv 5) (zv 4) (fun _ _=>rfl)))))))))))))),?_⟩
   cases hm with
   | @mk _ _ _ ks ss sh hl hks he=>
    have hkl:=jS sh
    refine aI ⟨v,ks,rfl,sh,fun L H1 hL gL s1=>?_⟩
    have hn1:=hn.same s1
    have nLp:L≠p:=hn.ne hL
    dsimp only
    refine aJ (fun σ' H'=>σ'=[some (.ref p),some v,some (.ref L),none,none,none,none,none]∧Ky H H'∧NxAt K H0 H' p (t+1)∧Sm p p H H') (fun nx hnx=>?_) ?_
    ·refine lW (fun c H'=>Ky H H'∧H' L=some (.lst ks)∧NxAt K H0 H' p (t+1)∧Sm p p H H'∧(c=true→ks≠[])) (fun Q hQ=>?_) (fun H2 ⟨ky2,g2,hn2,sm2,hne⟩=>?_) (by rintro H2 ⟨ky2,g2,hn2,sm2,_⟩;exact hnx _ _ ⟨rfl,ky2,hn2,sm2⟩)
     ·refine ⟨(show 0≤sizeLine by decide),fun b hb=>⟨aU gL hb,ks,(Same.upd hb _) _ _ gL,aA,_,rfl,iteB (fun c=>?_) (fun c=>?_)⟩⟩
      rotate_left
      ·have sb:=Same.upd hb (.lst [])
       exact hQ _ _ ⟨(s1.trans sb).ky,sb _ _ gL,((hn1.same sb).mono (by omega)),(s1.trans sb).sm,fun z=>nomatch z⟩
      have hne:ks≠[]:=fun z=>by rw [z] at c;exact absurd c (by decide)
      have sb:=Same.upd hb (.lst [])
      have gb:=sb _ _ gL
      have hnb:=hn1.same sb
      generalize upd H1 b (.lst [])=Hb at sb gb hnb
      refine ⟨H0,p,4,t,rfl,hnb,⟨by decide,by decide⟩,by omega,fun r H2 r0 r1 hn2 sm2=>⟨_,rfl,hQ _ _ ⟨(s1.trans sb).ky.trans (eC hnb hn2 sm2),sm2 _ _ gb nLp nLp,hn2,(s1.trans sb).sm.trans sm2,fun _=>hne⟩⟩⟩
     ·have hpos:0 < ks.length:=List.length_pos_iff.mpr (hne rfl)
      refine aI (.inl ⟨_,.inl (SqL.of g2),H0,p,_,_,rfl,hn2,⟨by omega,by omega⟩,by omega,fun r H3 r0 r1 hn3 sm3=>?_⟩)
      have ky3:=eC hn2 hn3 sm3
      have g3:=sm3 _ _ g2 nLp nLp
      obtain ⟨i,rfl⟩:∃ i:Nat,r=(i:Int):=⟨r.toNat,by omega⟩
      have hi:i < ks.length:=by omega
      dsimp only
      have ky03:=ky2.trans ky3
      refine ⟨ks,ks[i],.inl (SqL.of g3),bN (List.getElem?_eq_getElem hi),H0,p,_,ss[i]'(by omega),_,rfl,hn3,by omega,(hks i hi (by omega)).tk ky03.tk,fun v4 H4 o4 hn4 sm4=>?_⟩
      have ky4:=eC hn3 hn4 sm4
      have ky04:=ky03.trans ky4
      refine ⟨v,ks,i,v4,_,_,rfl,sh.tk ky04.tk,hi,ov.ky ky04,o4,fun v5 H5 o5 s5=>?_⟩
      exact q v5 H5 (o5.up (by omega)) ((hn4.same s5).mono (by omega)) ((sm2.trans (sm3.trans sm4)).trans s5.sm)
    rintro σ' H2 ⟨rfl,ky2,hn2,sm2⟩
    refine aI ⟨H0,p,11,t+1,rfl,hn2,⟨by decide,by decide⟩,by omega,fun r H3 r0 r1 hn3 sm3=>?_⟩
    have ov3:=(ov.ky ky2).ky (eC hn2 hn3 sm3)
    have sm03:=sm2.trans sm3
    generalize hK:3*(n+1)=B at ov3
    have hB:3≤B:=by omega
    refine uK (k:=B+6) (n:=3) (by trivial) (by decide) fun S4 ws4 H4 s4 f4 g4 l4 o4=>?_
    have ov4:=ov3.same s4
    refine kE (k:=B+6) (n:=3) rfl g4 o4 (by omega) (by trivial) (by decide) fun S5 ws5 H5 s5 f5 g5 l5 o5=>?_
    have ov5:=ov4.same s5
    refine aJ (fun σ' H'=>∃ vg ve,σ'=[some (.ref p),some v,some (.ref L),none,some (.int r),some (.ref S5),some vg,some ve]∧Same H5 H'∧OkD H' 2 vg∧OkD H' 2 ve) (fun nx hnx=>?_) ?_
    ·refine ⟨(show 2≤sizeLine by decide),fun c1 h1=>⟨(show 0≤sizeLine by decide),fun c2 h2=>⟨(show 2≤sizeLine by decide),fun c3 h3=>⟨(show 2≤sizeLine by decide),fun c4 h4=>?_⟩⟩⟩⟩
     have t1:=Same.upd h1 (.tup [.str "get",.str "w"])
     have f1:upd H5 c1 (.tup [.str "get",.str "w"]) c1=some (.tup [.str "get",.str "w"]):=aA
     generalize upd H5 c1 (.tup [.str "get",.str "w"])=G1 at*
     have t2:=Same.upd h2 (.tup [])
     have f2:upd G1 c2 (.tup []) c2=some (.tup []):=aA
     generalize upd G1 c2 (.tup [])=G2 at*
     have t3:=Same.upd h3 (.tup [.str "box",.ref c2])
     have f3:upd G2 c3 (.tup [.str "box",.ref c2]) c3=some (.tup [.str "box",.ref c2]):=aA
     generalize upd G2 c3 (.tup [.str "box",.ref c2])=G3 at*
     have t4:=Same.upd h4 (.tup [.ref c1,.ref c3])
     have f4:upd G3 c4 (.tup [.ref c1,.ref c3]) c4=some (.tup [.ref c1,.ref c3]):=aA
     generalize upd G3 c4 (.tup [.ref c1,.ref c3])=G4 at*
     refine kW f4 ?_
     exact hnx _ _ ⟨_,_,rfl,t1.trans (t2.trans (t3.trans t4)),bG (k:=1) (t4 _ _ (t3 _ _ (t2 _ _ f1))) (by simp) (memC (d8 (by unfold Shr;decide)) (mem1 (d8 (by unfold Shr;decide)))),qY (t4 _ _ f3) (t4 _ _ (t3 _ _ f2))⟩
    rintro σ' H6 ⟨vg,ve,rfl,s6,og6,oe6⟩
    have ov6:=ov5.same s6
    have g6:=s6 _ _ g5
    refine kE (k:=B+6) (n:=2) rfl g6 (fun x hx=>(o5 x hx).same s6) (by omega) (by trivial) (by decide) fun S7 ws7 H7 s7 f7 g7 l7 o7=>?_
    have ov7:=ov6.same s7
    have og7:=og6.same s7
    have oe7:=oe6.same s7
    have s37:=s4.trans (s5.trans (s6.trans s7))
    have fS:H3 S7=none:=s4.free (s5.free (s6.free f7))
    refine nV fS s37 rfl g7 o7 (by omega) (by trivial) fun ws8 H8 s8 ky8 g8 l8 o8=>?_
    have ov8:=ov7.ky ky8
    have og8:=og7.ky ky8
    have oe8:=oe7.ky ky8
    refine nV fS s8 rfl g8 o8 (by omega) (by trivial) fun ws9 H9 s9 ky9 g9 l9 o9=>?_
    have ov9:=ov8.ky ky9
    have og9:=og8.ky ky9
    have oe9:=oe8.ky ky9
    refine nV fS s9 rfl g9 o9 (by omega) (by trivial) fun ws10 H10 s10 ky10 g10 l10 o10=>?_
    obtain ⟨i,rfl⟩:∃ i:Nat,r=(i:Int):=⟨r.toNat,by omega⟩
    have hi:i < ws10.length:=by omega
    exact ⟨ws10,ws10[i],.inl (SqL.of g10),bN (List.getElem?_eq_getElem hi),q _ H10 ((o10 _ (List.getElem_mem hi)).up (by omega)) ((hn3.same s10).mono (by omega)) (sm03.trans s10.sm)⟩
structure DW (K:PySem.W.Frag) (H0 Hs H:Hp) (p F S:Addr) (ws us:List V) (B t:Nat):Prop where
 hn:NxAt K H0 H p t
 ky:Ky Hs H
 gF:H F=some (.lst us)
 ou:∀ u∈us,OkD H B u
 gS:H S=some (.lst ws)
 sm:Sm p p Hs H
section
variable {H0 Hs H H':Hp} {p F S:Addr} {ws us:List V} {B t t':Nat}
theorem DW.draw (h:DW K H0 Hs H p F S ws us B t) (hn':NxAt K H0 H' p t') (s:Sm p p H H') (nF:F≠p) (nS:S≠p):DW K H0 Hs H' p F S ws us B t':=
 have ky:=eC h.hn hn' s
 ⟨hn',h.ky.trans ky,s _ _ h.gF nF nF,fun u hu=>(h.ou u hu).ky ky,s _ _ h.gS nS nS,h.sm.trans s⟩
theorem DW.mono (h:DW K H0 Hs H p F S ws us B t) (l:t≤t'):DW K H0 Hs H p F S ws us B t':=⟨h.hn.mono l,h.ky,h.gF,h.ou,h.gS,h.sm⟩
theorem DW.same (h:DW K H0 Hs H p F S ws us B t) (s:Same H H'):DW K H0 Hs H' p F S ws us B t:=⟨h.hn.same s,h.ky.trans s.ky,s _ _ h.gF,fun u hu=>(h.ou u hu).same s,s _ _ h.gS,h.sm.trans s.sm⟩
theorem DW.app (h:DW K H0 Hs H p F S ws us B t) {x:V} (o:OkD H B x) (nF:F≠p) (fF:Hs F=none) (h0:H0 F=none) (nSF:S≠F):DW K H0 Hs (upd H F (.lst (us++[x]))) p F S ws (us++[x]) B t:=by
 have ky:=Ky.lset (ys:=us++[x]) h.gF
 refine ⟨h.hn.put nF h0,h.ky.trans ky,aA,fun u hu=>?_,by rw [aN nSF];exact h.gS,h.sm.upd fF⟩
 rcases List.mem_append.mp hu with g | g
 ·exact (h.ou u g).ky ky
 ·rw [List.mem_singleton.mp g];exact o.ky ky
theorem DW.putD (h:DW K H0 Hs H p F S ws us B t) {D:Addr} {xs ys:List V} (e:H D=some (.lst xs)) (nD:D≠p) (fD:Hs D=none) (h0:H0 D=none) (nF:F≠D) (nS:S≠D):DW K H0 Hs (upd H D (.lst ys)) p F S ws us B t:=by
 have ky:=Ky.lset (ys:=ys) e
 exact ⟨h.hn.put nD h0,h.ky.trans ky,by rw [aN nF];exact h.gF,fun u hu=>(h.ou u hu).ky ky,by rw [aN nS];exact h.gS,h.sm.upd fD⟩
end
def spDpo (K:PySem.W.Frag):Sp:=fun vs H Q _=>∃ (H0:Hp) (p S:Addr) (t s k:Nat) (v:V) (z:Str) (ws:List V),vs=[.ref p,v,.ref S,.str z]∧NxAt K H0 H p t∧t+400 < 900000∧MkT H 15 s v∧S≠p∧H S=some (.lst ws)∧1≤ws.length∧ws.length≤500∧(∀ x∈ws,OkD H k x)∧20≤k∧Shr z∧
 ∀ L us H',H L=none→H' L=some (.lst us)→us.length=8→(∀ u∈us,OkD H' (k+51) u)→NxAt K H0 H' p (t+400)→Sm p p H H'→Q (.ref L) H'
set_option maxHeartbeats 2000000 in
theorem kF (T:Txt K mg w):FnK P w K mg base 19 "_law_deeper_ones" ["_law_pen","_law_maker","_law_some","_law_name"] (spDpo K):=by
 have aK:FnK P w K mg base 2 "_law_next" ["_law_pen","_law_many"] (spNx K):=bC T
 have eL:FnK P w K mg base 18 "_law_put_within" ["_law_pen","_law_maker","_law_thing"] (spPut K 15):=lE T 15
 have eJ:FnK P w K mg base 3 "_law_wrapped_in" ["_law_pen","_law_thing","_law_name"] (spWIn K):=gZ T
 have iZ:FnK P w K mg base 4 "_law_chain_of" ["_law_pen","_law_name","_law_many_here"] (spChn K):=mS T
 refine T.lL.okS bJ (fun vs H Q E h=>?_) (fun f cdv A outer s H vs Q E hr h=>?_)
 ·obtain ⟨H0,p,S,t,s,k,v,z,ws,rfl,_⟩:=h
  rfl
 ·obtain ⟨H0,p,S,t,s,k,v,z,ws,rfl,hn,ht,hm,nS,gS,hw1,hw5,ow,hk,hz,q⟩:=h
  have hu0:=Nat.lt_of_succ_lt (bD hr)
  have hsz:sizeLine=16777216:=sizeLine_eq
  refine ⟨_,(aD (aL (i:=4) bJ.nd rfl (Or.inl rfl) (b4 sa_nil))
   (aD (gX PassesOwn.never rfl (dD (by rfl) T.dU (a7 aF sa_nil)) (aR (i:=5) bJ.nd rfl (Or.inl rfl)) (aD (aL (i:=6) bJ.nd rfl (Or.inl rfl) (b7 (b6 K) (zv 2) (aT aK (hr.mono (by decide)) (a9 (zv 0) (b5 (aQ (aZ K) (by rfl) T.n_len PySem.boot_len (a9 (zv 2) sa_nil)) sa_nil))) (fun _ _=>rfl)))
   (aD (gX PassesOwn.never rfl (dD (by rfl) T.dU (b5 (aT aK (hr.mono (by decide)) (a9 (zv 0) (a7 aF sa_nil))) sa_nil)) (aR (i:=7) bJ.nd rfl (Or.inl rfl)) (aG (aL (i:=6) bJ.nd rfl (Or.inl rfl) (aT eJ (hr.mono (by decide)) (a9 (zv 0) (a9 (zv 6) (a9 (zv 3) sa_nil)))))))
   (aG (cT (iT K PySem.F.plainAttrs_list PySem.F.slot_list_append PySem.F.type_list_append bQ (zv 4) (b5 (aT eL (hr.mono (by decide)) (a9 (zv 0) (a9 (zv 1) (a9 (zv 6) sa_nil)))) sa_nil)))))))
   (aD (cT (iT K PySem.F.plainAttrs_list PySem.F.slot_list_append PySem.F.type_list_append bQ (zv 4) (b5 (aT iZ (hr.mono (by decide)) (a9 (zv 0) (a9 (zv 3) (cE (b8 aS aF (aT aK (hr.mono (by decide)) (a9 (zv 0) (a7 aF sa_nil)))) sa_nil)))) sa_nil)))
   (aD (xX (i:=8) (own:=["_law_k"]) (idx:=[0,3]) (N':=["_law_k","_law_pen","_law_name"]) (⟨rfl,by decide+kernel,by decide+kernel,(show ∀ y∈Scope.names _,y.2=NameKind.free→((defScope c9).names.lookup y.1=some NameKind.cell∨(defScope c9).names.lookup y.1=some NameKind.free) by decide+kernel),(show ∀ j∈([0,3]:List Nat),(Scope.names _).lookup ((["_law_pen","_law_maker","_law_some","_law_name","_law_found","_law_turn","_law_thing","_law_k","_law_two"]:List Str).getD j "")=some NameKind.free∧j < (["_law_pen","_law_maker","_law_some","_law_name","_law_found","_law_turn","_law_thing","_law_k","_law_two"]:List Str).length by decide+kernel),rfl⟩) rfl (dD (by rfl) T.dU (a7 aF sa_nil)) (fun _ _ _ _ _ _=>(aR (i:=0) (show List.Nodup (["_law_k","_law_pen","_law_name"]:List Str) by decide+kernel) rfl (Or.inl rfl))) (fun _ _ _ _ _ _=>cA) (fun _ _ _ _ _ _=>(aT iZ (hr.mono (by decide)) (a9 (zv 1) (a9 (zv 2) (cE (b8 aS aF (aT aK (hr.mono (by decide)) (a9 (zv 1) (a7 aF sa_nil)))) sa_nil))))) bJ.nd rfl rfl)
   (aD (cT (iT K PySem.F.plainAttrs_list PySem.F.slot_list_append PySem.F.type_list_append bQ (zv 4) (aB (aE (a7 aC (aH (b7 (b6 K) (zv 8) aF (fun _ _=>rfl)) (aH (b7 (b6 K) (zv 8) aF (fun _ _=>rfl)) sa_nil)))) sa_nil)))
   (aG (aO (zv 4)))))))),?_⟩
  refine aI ⟨Nat.zero_le _,fun F hF=>?_⟩
  have nF:F≠p:=hn.ne hF
  have h0F:H0 F=none:=hn.free hF
  have nSF:S≠F:=fun e=>by rw [e,hF] at gS;cases gS
  have sF:=Same.upd hF (.lst [])
  have W0:DW K H0 H (upd H F (.lst [])) p F S ws [] (k+51) t:=⟨hn.same sF,sF.ky,aA,(fun u hu=>nomatch hu),sF _ _ gS,sF.sm⟩
  dsimp only
  generalize upd H F (.lst [])=H1 at W0
  refine aJ (fun σ' H'=>∃ v5 v6 v7 us,σ'=[some (.ref p),some v,some (.ref S),some (.str z),some (.ref F),v5,v6,v7,none]∧us.length=6∧DW K H0 H H' p F S ws us (k+51) (t+6*40)) (fun nx hnx=>?_) ?_
  ·refine ⟨6,rfl,by omega,by omega,?_⟩
   refine eU (cG 0 6) (fun i σ' H'=>∃ v5 v6 v7 us,σ'=[some (.ref p),some v,some (.ref S),some (.str z),some (.ref F),v5,v6,v7,none]∧us.length=i∧DW K H0 H H' p F S ws us (k+51) (t+i*40)) ⟨_,_,_,[],rfl,rfl,by simpa using W0⟩ (fun _ _ _ _ _=>True.intro) ?_ ?_
   ·rintro i σ' H2 hi ⟨v5,v6,v7,us,rfl,hul,W⟩
    refine aI (.inl ⟨_,.inl (SqL.of W.gS),H0,p,_,_,rfl,W.hn,⟨by omega,by omega⟩,by omega,fun r H3 r0 r1 hn3 sm3=>?_⟩)
    have W3:=W.draw hn3 sm3 nF nS
    obtain ⟨j,rfl⟩:∃ j:Nat,r=(j:Int):=⟨r.toNat,by omega⟩
    have hj:j < ws.length:=by omega
    refine ⟨ws,ws[j],.inl (SqL.of W3.gS),bN (List.getElem?_eq_getElem hj),?_⟩
    dsimp only
    refine aJ (fun σ' H'=>∃ v5 x v7,σ'=[some (.ref p),some v,some (.ref S),some (.str z),some (.ref F),v5,some x,v7,none]∧OkD H' (k+6) x∧DW K H0 H H' p F S ws us (k+51) (t+i*40+9)) (fun nx2 hnx2=>?_) ?_
    ·refine ⟨H0,p,3,_,rfl,W3.hn,⟨by decide,by decide⟩,by omega,fun r2 H4 r20 r21 hn4 sm4=>?_⟩
     have W4:=W3.draw hn4 sm4 nF nS
     obtain ⟨m,rfl⟩:∃ m:Nat,r2=(m:Int):=⟨r2.toNat,by omega⟩
     refine ⟨_,rfl,by omega,by omega,?_⟩
     refine eU (cG 0 (Int.toNat (m:Int))) (fun l σ' H'=>∃ v5 x v7,σ'=[some (.ref p),some v,some (.ref S),some (.str z),some (.ref F),v5,some x,v7,none]∧OkD H' (k+3*l) x∧DW K H0 H H' p F S ws us (k+51) (t+i*40+2+l)) ⟨_,_,_,rfl,(ow _ (List.getElem_mem hj)).ky W4.ky,W4.mono (by omega)⟩ (fun _ _ _ _ _=>True.intro) ?_ ?_
     ·rintro l σ' H5 hl ⟨v5,x,v7,rfl,ox,W5⟩
      have hl':l < m:=by simpa using hl
      refine ⟨H0,p,_,_,x,z,rfl,W5.hn,by omega,ox,by omega,hz,fun v6 H6 o6 hn6 sm6=>?_⟩
      exact ⟨_,v6,_,rfl,o6.up (by omega),(W5.draw hn6 sm6 nF nS).mono (by omega)⟩
     ·rintro σ' H5 ⟨v5,x,v7,rfl,ox,W5⟩
      rw [Int.toNat_natCast] at ox W5
      exact hnx2 _ _ ⟨_,x,_,rfl,ox.up (by omega),W5.mono (by omega)⟩
    rintro σ' H4 ⟨v5',x,v7',rfl,ox,W4⟩
    refine ⟨.inl ⟨rfl,_,SqL.of W4.gF⟩,H0,p,_,s,_,v,x,rfl,W4.hn,by omega,hm.tk W4.ky.tk,ox,fun v6 H6 o6 hn6 sm6=>?_⟩
    have W6:=W4.draw hn6 sm6 nF nS
    exact ⟨F,us,v6,rfl,rfl,W6.gF,by omega,_,_,_,us++[v6],rfl,by simp [hul],(W6.app (o6.up (by omega)) nF hF h0F nSF).mono (by omega)⟩
   ·rintro σ' H2 ⟨v5,v6,v7,us,rfl,hul,W⟩
    exact hnx _ _ ⟨_,_,_,us,rfl,hul,W⟩
  rintro σ' H2 ⟨v5,v6,v7,us,rfl,hul,W⟩
  refine aJ (fun σ' H'=>∃ us,σ'=[some (.ref p),some v,some (.ref S),some (.str z),some (.ref F),v5,v6,v7,none]∧us.length=7∧DW K H0 H H' p F S ws us (k+51) (t+280)) (fun nx hnx=>?_) ?_
  ·refine ⟨.inl ⟨rfl,_,SqL.of W.gF⟩,H0,p,3,_,rfl,W.hn,⟨by decide,by decide⟩,by omega,fun r H3 r0 r1 hn3 sm3=>?_⟩
   have W3:=W.draw hn3 sm3 nF nS
   obtain ⟨m,rfl⟩:∃ m:Nat,r=(m:Int):=⟨r.toNat,by omega⟩
   refine ⟨H0,p,_,18+m,z,by rw [show (18:Int)+(m:Int)=((18+m:Nat):Int) by omega];rfl,W3.hn,by omega,by omega,hz,fun v4 H4 o4 hn4 sm4=>?_⟩
   have W4:=W3.draw hn4 sm4 nF nS
   exact ⟨F,us,v4,rfl,rfl,W4.gF,by omega,hnx _ _ ⟨us++[v4],rfl,by simp [hul],(W4.app (o4.up (by omega)) nF hF h0F nSF).mono (by omega)⟩⟩
  rintro σ' H3 ⟨us',rfl,hul',W3⟩
  refine aJ (fun σ' H'=>∃ D a b,σ'=[some (.ref p),some v,some (.ref S),some (.str z),some (.ref F),v5,v6,v7,some (.ref D)]∧H' D=some (.lst [a,b])∧OkD H' 53 a∧OkD H' 53 b∧DW K H0 H H' p F S ws us' (k+51) (t+380)) (fun nx hnx=>?_) ?_
  ·refine ⟨2,rfl,by omega,by omega,fun D hD=>?_⟩
   have nD:D≠p:=W3.hn.ne hD
   have fD:H D=none:=W3.sm.free hD nD nD
   have h0D:H0 D=none:=W3.hn.free hD
   have nFD:F≠D:=fun e=>by rw [← e,W3.gF] at hD;cases hD
   have nSD:S≠D:=fun e=>by rw [← e,W3.gS] at hD;cases hD
   refine d7 (cG 0 2) (fun i τ H'=>∃ (v0:Option V) (zs:List V),τ=[v0,some (.ref p),some (.str z)]∧H' D=some (.lst zs)∧zs.length=i∧(∀ u∈zs,OkD H' 53 u)∧DW K H0 H H' p F S ws us' (k+51) (t+280+i*50)) ⟨none,[],rfl,aA,rfl,(fun u hu=>nomatch hu),by simpa using W3.same (Same.upd hD _)⟩ (fun _ _ _ _ _=>True.intro) ?_ ?_
   ·rintro i τ H4 hi ⟨v0,zs,rfl,gD,hzl,oz,W4⟩
    refine ⟨H0,p,9,_,rfl,W4.hn,⟨by decide,by decide⟩,by omega,fun r H5 r0 r1 hn5 sm5=>?_⟩
    have W5:=W4.draw hn5 sm5 nF nS
    have ky5:=eC W4.hn hn5 sm5
    obtain ⟨m,rfl⟩:∃ m:Nat,r=(m:Int):=⟨r.toNat,by omega⟩
    refine ⟨H0,p,_,9+m,z,by rw [show (9:Int)+(m:Int)=((9+m:Nat):Int) by omega];rfl,W5.hn,by omega,by omega,hz,fun v6' H6 o6 hn6 sm6=>?_⟩
    have W6:=W5.draw hn6 sm6 nF nS
    have ky6:=ky5.trans (eC W5.hn hn6 sm6)
    have gD6:=sm6 _ _ (sm5 _ _ gD nD nD) nD nD
    have kyD:=Ky.lset (ys:=zs++[v6']) gD6
    refine ⟨zs,gD6,by omega,_,zs++[v6'],rfl,aA,by simp [hzl],fun u hu=>?_,(W6.putD gD6 nD fD h0D nFD nSD).mono (by omega)⟩
    rcases List.mem_append.mp hu with g | g
    ·exact ((oz u g).ky ky6).ky kyD
    ·rw [List.mem_singleton.mp g];exact (o6.up (by omega)).ky kyD
   ·rintro τ H4 ⟨v0,zs,rfl,gD,hzl,oz,W4⟩
    obtain ⟨a,b,rfl⟩:∃ a b,zs=[a,b]:=by
     match zs,hzl with
     | [a,b],_=>exact ⟨a,b,rfl⟩
    exact hnx _ _ ⟨D,a,b,rfl,gD,oz a (by simp),oz b (by simp),W4.mono (by omega)⟩
  rintro σ' H4 ⟨D,a,b,rfl,gD,oa,ob,W4⟩
  refine aJ (fun σ' H'=>∃ us,σ'=[some (.ref p),some v,some (.ref S),some (.str z),some (.ref F),v5,v6,v7,some (.ref D)]∧us.length=8∧DW K H0 H H' p F S ws us (k+51) (t+380)) (fun nx hnx=>?_) ?_
  ·refine ⟨.inl ⟨rfl,_,SqL.of W4.gF⟩,_,a,.inl (SqL.of gD),aW _ _,_,b,.inl (SqL.of gD),oE _ _ _,(show 3≤sizeLine by decide),fun c1 h1=>?_⟩
   have t1:=Same.upd h1 (.tup [.str "call",a,b])
   have W5:=W4.same t1
   have oc:OkD (upd H4 c1 (.tup [.str "call",a,b])) 54 (.ref c1):=bG aA (by simp) (memC (d8 (by unfold Shr;decide)) (memC (oa.same t1) (mem1 (ob.same t1))))
   exact ⟨F,us',_,rfl,rfl,W5.gF,by omega,hnx _ _ ⟨_,rfl,by simp [hul'],W5.app (oc.up (by omega)) nF hF h0F nSF⟩⟩
  rintro σ' H5 ⟨us8,rfl,hl8,W5⟩
  exact q F us8 H5 hF W5.gF hl8 W5.ou (W5.hn.mono (by omega)) W5.sm
def spOdd:Sp:=fun vs H Q _=>∃ (v:V) (z:Str),vs=[v,.str z]∧OkD H 45 v∧Shr z∧∀ L ws H',H L=none→H' L=some (.lst ws)→ws.length=80→(∀ x∈ws,OkD H' 48 x)→Same H H'→Q (.ref L) H'
set_option maxHeartbeats 4000000 in
theorem vW (T:Txt K mg w):FnK P w K mg base 1 "_law_odd" ["_law_maker","_law_name"] spOdd:=by
 refine T.wW.okS aY (fun vs H Q E h=>?_) (fun f cdv A outer s H vs Q E hr h=>?_)
 ·obtain ⟨v,z,rfl,_⟩:=h
  rfl
 ·obtain ⟨v,z,rfl,hv,hz,q⟩:=h
  have hu0:=Nat.lt_of_succ_lt (bD hr)
  have hsz:sizeLine=16777216:=sizeLine_eq
  refine ⟨_,(aD (aL (i:=2) aY.nd rfl (Or.inr rfl) (aE (a7 aC (aB (aE sa_nil) sa_nil))))
   (aD (aL (i:=3) aY.nd rfl (Or.inl rfl) (b4 (a7 qC (a7 dR (a7 aC (aB (aE sa_nil) (f9 (b4 sa_nil) (aB (aE (a7 aC sa_nil)) (aB (aE (a7 aC (a7 aC (a7 aC sa_nil)))) (aB (aE (a7 aC (a7 aC sa_nil))) (aB (aE (a7 aC (a7 aF sa_nil))) (f9 (b4 (a7 aC (a7 aC sa_nil))) sa_nil))))))))))))
   (aD (aL (i:=3) aY.nd rfl (Or.inl rfl) (b8 aS (zv 3) (b4 (aB (aE (a7 aC (a7 aC (a7 aC sa_nil)))) (aB (aE (a7 aC (a7 aC (a7 aC (a9 (zv 2) sa_nil))))) (aB (aE (a7 aC (a7 aC (a9 (zv 1) (a9 (zv 2) sa_nil))))) sa_nil))))))
   (aD (aL (i:=3) aY.nd rfl (Or.inl rfl) (b8 aS (zv 3) (b4 (aB (aE (a7 aC (a7 aC (a7 qC (a9 (zv 2) sa_nil))))) (aB (aE (a7 aC (a9 (zv 2) sa_nil))) (aB (aE (a7 aC (a9 (zv 2) (a7 qC sa_nil)))) (aB (aE (a7 aC (f9 (b4 sa_nil) sa_nil))) sa_nil)))))))
   (aD (aL (i:=3) aY.nd rfl (Or.inl rfl) (b8 aS (zv 3) (b4 (aB (aE (a7 aC (aB (aE (aB (aE (a7 aC (a9 (zv 2) sa_nil))) (aB (aE (a7 aC (a9 (zv 2) sa_nil))) sa_nil))) sa_nil))) (aB (aE (a7 aC (aB (aE (aB (aE (a7 aC (a9 (zv 2) sa_nil))) (aB (aE (a7 aC (a9 (zv 2) sa_nil))) sa_nil))) sa_nil))) sa_nil)))))
   (aD (aL (i:=3) aY.nd rfl (Or.inl rfl) (b8 aS (zv 3) (b4 (aB (aE (a7 aC (aB (aE (aB (aE (a7 aC sa_nil)) sa_nil)) sa_nil))) (aB (aE (a7 aC (aB (aE (aB (aE (a7 aC (a9 (zv 2) sa_nil))) sa_nil)) sa_nil))) (aB (aE (a7 aC (aB (aE (f9 (b4 (a7 aC (a9 (zv 2) sa_nil))) sa_nil)) sa_nil))) sa_nil))))))
   (aD (cT (iT K PySem.F.plainAttrs_list PySem.F.slot_list_append PySem.F.type_list_append bQ (zv 3) (aB (aE (a7 aC (a9 (zv 2) sa_nil))) sa_nil)))
   (aD (aL (i:=3) aY.nd rfl (Or.inl rfl) (b8 aS (zv 3) (b4 (aB (aE (a7 aC (a9 (zv 2) (a7 aC sa_nil)))) (aB (aE (a7 aC (a7 aC (a9 (zv 2) sa_nil)))) (aB (aE (a7 aC (a7 aC sa_nil))) (aB (aE (a7 aC (a7 aC (a9 (zv 2) sa_nil)))) sa_nil)))))))
   (aD (aL (i:=3) aY.nd rfl (Or.inl rfl) (b8 aS (zv 3) (b4 (aB (aE (a7 aC (a9 (zv 2) (a7 aC sa_nil)))) (aB (aE (a7 aC (a9 (zv 2) (aB (aE (aB (aE (a7 aC (a9 (zv 2) sa_nil))) sa_nil)) sa_nil)))) (aB (aE (a7 aF (a7 aC sa_nil))) sa_nil))))))
   (aD (aL (i:=3) aY.nd rfl (Or.inl rfl) (b8 aS (zv 3) (b4 (aB (aE (a7 aC (a9 (zv 2) (aB (aE (aB (aE (a7 aC (a7 aC (a9 (zv 2) sa_nil)))) (aB (aE (a7 aC (a7 aC (a9 (zv 2) sa_nil)))) sa_nil))) sa_nil)))) sa_nil))))
   (aD (aL (i:=3) aY.nd rfl (Or.inl rfl) (b8 aS (zv 3) (b4 (aB (aE (a7 aC (a9 (zv 2) (aB (aE (aB (aE (a7 aC (a7 aC (a7 qC sa_nil)))) sa_nil)) sa_nil)))) (aB (aE (a7 aC (a9 (zv 2) (f9 (b4 (aB (aE (a7 aC (a7 aC (a9 (zv 2) sa_nil)))) sa_nil)) sa_nil)))) sa_nil)))))
   (aD (aL (i:=3) aY.nd rfl (Or.inl rfl) (b8 aS (zv 3) (b4 (aB (aE (a7 aC (a9 (zv 2) (a7 aC sa_nil)))) (aB (aE (a7 aC (a9 (zv 2) (f9 (b4 (a7 aC sa_nil)) sa_nil)))) (aB (aE (a7 aC (a9 (zv 0) sa_nil))) sa_nil))))))
   (aD (aL (i:=4) aY.nd rfl (Or.inl rfl) (bL (cO K) (by rfl) T.cB PyProof.Rows.boot_tuple (b9 (fU (own:=["_law_word"]) (idx:=[2]) (N':=["_law_word","_law_e"]) (⟨rfl,by decide+kernel,by decide+kernel,(show ∀ y∈Scope.names _,y.2=NameKind.free→((defScope eP).names.lookup y.1=some NameKind.cell∨(defScope eP).names.lookup y.1=some NameKind.free) by decide+kernel),(show ∀ j∈([2]:List Nat),(Scope.names _).lookup ((["_law_maker","_law_name","_law_e","_law_some","_law_wide","_law_cases","_law_odd_one"]:List Str).getD j "")=some NameKind.free∧j < (["_law_maker","_law_name","_law_e","_law_some","_law_wide","_law_cases","_law_odd_one"]:List Str).length by decide+kernel),rfl⟩) rfl (kL K aC) (fun _ _ _ _ _ _=>(aR (i:=0) (show List.Nodup (["_law_word","_law_e"]:List Str) by decide+kernel) rfl (Or.inl rfl))) (fun _ _ _ _ _ _=>cA) (fun _ _ _ _ _ _=>(aE (a9 (zv 0) (a9 (zv 1) sa_nil))))) sa_nil)))
   (aD (aL (i:=5) aY.nd rfl (Or.inl rfl) (bL (cO K) (by rfl) T.cB PyProof.Rows.boot_tuple (b9 (fU (own:=["_law_word"]) (idx:=[2]) (N':=["_law_word","_law_e"]) (⟨rfl,by decide+kernel,by decide+kernel,(show ∀ y∈Scope.names _,y.2=NameKind.free→((defScope eP).names.lookup y.1=some NameKind.cell∨(defScope eP).names.lookup y.1=some NameKind.free) by decide+kernel),(show ∀ j∈([2]:List Nat),(Scope.names _).lookup ((["_law_maker","_law_name","_law_e","_law_some","_law_wide","_law_cases","_law_odd_one"]:List Str).getD j "")=some NameKind.free∧j < (["_law_maker","_law_name","_law_e","_law_some","_law_wide","_law_cases","_law_odd_one"]:List Str).length by decide+kernel),rfl⟩) rfl (kL K aC) (fun _ _ _ _ _ _=>(aR (i:=0) (show List.Nodup (["_law_word","_law_e"]:List Str) by decide+kernel) rfl (Or.inl rfl))) (fun _ _ _ _ _ _=>cA) (fun _ _ _ _ _ _=>(aE (a9 (zv 0) (a7 aC (a9 (zv 1) sa_nil)))))) sa_nil)))
   (aD (aL (i:=3) aY.nd rfl (Or.inl rfl) (b8 aS (zv 3) (b4 (aB (aE (a7 aC (a9 (zv 4) sa_nil))) (aB (aE (a7 aC (aH (dI (mV K) (zv 4) (dM aF) dJ) sa_nil))) (aB (aE (a7 aC (a9 (zv 2) (a9 (zv 5) sa_nil)))) sa_nil))))))
   (aD (aL (i:=3) aY.nd rfl (Or.inl rfl) (b8 aS (zv 3) (b4 (aB (aE (a7 aC (a9 (zv 2) (aH (dI (mV K) (zv 5) dJ (dM aF)) sa_nil)))) (aB (aE (a7 aC (a9 (zv 2) (aB (aE (aB (aE (a7 aC (a7 aC (a9 (zv 2) sa_nil)))) sa_nil)) sa_nil)))) sa_nil)))))
   (aD (aL (i:=3) aY.nd rfl (Or.inl rfl) (b8 aS (zv 3) (b4 (aB (aE (a7 aC (a9 (zv 2) (aB (aE (aB (aE (a7 aC (a7 aF (a9 (zv 2) sa_nil)))) sa_nil)) sa_nil)))) (aB (aE (a7 aC (a9 (zv 2) (aB (aE (aB (aE (a7 aC (a7 aC (a9 (zv 2) sa_nil)))) sa_nil)) sa_nil)))) sa_nil)))))
   (aD (aL (i:=3) aY.nd rfl (Or.inl rfl) (b8 aS (zv 3) (b4 (aB (aE (a7 aC (aB (aE (aB (aE (a7 aC (a7 aC (a9 (zv 2) sa_nil)))) sa_nil)) sa_nil))) (aB (aE (a7 aC (a9 (zv 2) (aB (aE (aB (aE (a7 aC (a7 aC (a7 aC (a9 (zv 2) sa_nil))))) sa_nil)) sa_nil)))) sa_nil)))))
   (aD (aL (i:=3) aY.nd rfl (Or.inl rfl) (b8 aS (zv 3) (b4 (aB (aE (a7 aC (a9 (zv 2) (a9 (zv 2) (a9 (zv 2) sa_nil))))) (aB (aE (a7 aC (aB (aE sa_nil) (aB (aE sa_nil) sa_nil)))) (aB (aE (a7 aC (a9 (zv 2) (a7 aC (a7 aC sa_nil))))) sa_nil))))))
   (aD (aL (i:=3) aY.nd rfl (Or.inl rfl) (b8 aS (zv 3) (b4 (aB (aE (a7 aC (a7 aC (a9 (zv 2) (a9 (zv 2) sa_nil))))) (aB (aE (a7 aC (a9 (zv 2) (aB (aE sa_nil) (aB (aE sa_nil) sa_nil))))) (aB (aE (a7 aC sa_nil)) (aB (aE (a7 aC (a9 (zv 2) sa_nil))) sa_nil)))))))
   (aD (aL (i:=3) aY.nd rfl (Or.inl rfl) (b8 aS (zv 3) (b4 (aB (aE (a7 aC (a9 (zv 2) (a9 (zv 1) (a9 (zv 1) sa_nil))))) (aB (aE (a7 aC (a7 aC (a9 (zv 1) (a9 (zv 2) (a9 (zv 2) sa_nil)))))) sa_nil)))))
   (aD (aL (i:=3) aY.nd rfl (Or.inl rfl) (b8 aS (zv 3) (b4 (aB (aE (a7 aC (a9 (zv 2) sa_nil))) (aB (aE (a7 aC (a7 aC (f9 (b4 (a7 aC sa_nil)) (a9 (zv 2) sa_nil))))) (aB (aE (a7 aC (a7 aC (n5 qM (a9 (zv 2) sa_nil))))) sa_nil))))))
   (aD (aL (i:=3) aY.nd rfl (Or.inl rfl) (b8 aS (zv 3) (b4 (aB (aE (a7 aC (a9 (zv 2) (n5 qM sa_nil)))) (aB (aE (f9 (b4 (a7 aC sa_nil)) (a7 aC sa_nil))) (aB (aE (n5 qM (a7 aC sa_nil))) sa_nil))))))
   (aD (gX PassesOwn.never rfl (kL K (b4 (aB (aE (a7 aF (a9 (zv 2) sa_nil))) (a7 qC (aB (aE (f9 (b4 (a7 aC sa_nil)) (a9 (zv 2) sa_nil))) (aB (aE (a7 aC sa_nil)) (aB (aE (a7 aC (a9 (zv 2) (a9 (zv 2) sa_nil)))) (aB (aE (a7 aC (a9 (zv 2) sa_nil))) sa_nil)))))))) (aR (i:=6) aY.nd rfl (Or.inl rfl)) (aD (aL (i:=3) aY.nd rfl (Or.inl rfl) (b8 aS (zv 3) (b4 (aB (aE (a7 aC (aB (aE (aB (aE (a7 aC (a9 (zv 2) sa_nil))) (a9 (zv 6) sa_nil))) sa_nil))) (aB (aE (a7 aC (aB (aE (a9 (zv 6) (aB (aE (a7 aC (a9 (zv 2) sa_nil))) sa_nil))) sa_nil))) sa_nil)))))
   (aG (cT (iT K PySem.F.plainAttrs_list PySem.F.slot_list_append PySem.F.type_list_append bQ (zv 3) (aB (aE (a7 aC (a9 (zv 2) (aB (aE (aB (aE (a7 aC (a7 aC (a9 (zv 2) sa_nil)))) (a9 (zv 6) sa_nil))) sa_nil)))) sa_nil))))))
   (aG (aO (b8 aS (zv 3) (b4 (aB (aE (a7 aC (aB (aE (aB (aE (a7 aC (a9 (zv 0) sa_nil))) (aB (aE (a7 aC (a7 qC sa_nil))) sa_nil))) sa_nil))) (aB (aE (a7 aC (a9 (zv 0) (aB (aE (a7 aC (a7 aC sa_nil))) sa_nil)))) sa_nil)))))))))))))))))))))))))))))),?_⟩
  refine aI ⟨(show 0≤sizeLine by decide),fun c1 h1=>⟨(show 2≤sizeLine by decide),fun e1 he1=>?_⟩⟩
  have s1:=(Same.upd h1 (.tup [])).trans (Same.upd he1 (.tup [.str "box",.ref c1]))
  have oe:=qY (aA (H:=upd H c1 (.tup [])) (a:=e1) (o:=.tup [.str "box",.ref c1])) (Same.upd he1 (.tup [.str "box",.ref c1]) _ _ (aA:upd H c1 (.tup []) c1=some (.tup [])))
  have ov:=hv.same s1
  dsimp only
  generalize upd (upd H c1 (.tup [])) e1 (.tup [.str "box",.ref c1])=H1 at s1 oe ov
  refine a2R (fun S=>[some v,some (.str z),some (.ref e1),some (.ref S),none,none,none]) (k:=48) (n:=10) s1 ov oe (by trivial) (by decide) fun S ws H2 W=>?_
  have ov:=W.ov
  have oe:=W.oe
  refine cP (fun S=>[some v,some (.str z),some (.ref e1),some (.ref S),none,none,none]) (k:=48) (n:=3) W rfl (by decide) (by trivial) (by decide) fun S ws H3 s' W=>?_
  have ov:=W.ov
  have oe:=W.oe
  refine cP (fun S=>[some v,some (.str z),some (.ref e1),some (.ref S),none,none,none]) (k:=48) (n:=4) W rfl (by decide) (by trivial) (by decide) fun S ws H4 s' W=>?_
  have ov:=W.ov
  have oe:=W.oe
  refine cP (fun S=>[some v,some (.str z),some (.ref e1),some (.ref S),none,none,none]) (k:=48) (n:=2) W rfl (by decide) (by trivial) (by decide) fun S ws H5 s' W=>?_
  have ov:=W.ov
  have oe:=W.oe
  refine cP (fun S=>[some v,some (.str z),some (.ref e1),some (.ref S),none,none,none]) (k:=48) (n:=3) W rfl (by decide) (by trivial) (by decide) fun S ws H6 s' W=>?_
  have ov:=W.ov
  have oe:=W.oe
  refine a2L (k:=48) W rfl (by decide) (by trivial) fun ws H7 ky' W=>?_
  have ov:=W.ov
  have oe:=W.oe
  refine cP (fun S=>[some v,some (.str z),some (.ref e1),some (.ref S),none,none,none]) (k:=48) (n:=4) W rfl (by decide) (by trivial) (by decide) fun S ws H8 s' W=>?_
  have ov:=W.ov
  have oe:=W.oe
  refine cP (fun S=>[some v,some (.str z),some (.ref e1),some (.ref S),none,none,none]) (k:=48) (n:=3) W rfl (by decide) (by trivial) (by decide) fun S ws H9 s' W=>?_
  have ov:=W.ov
  have oe:=W.oe
  refine cP (fun S=>[some v,some (.str z),some (.ref e1),some (.ref S),none,none,none]) (k:=48) (n:=1) W rfl (by decide) (by trivial) (by decide) fun S ws H10 s' W=>?_
  have ov:=W.ov
  have oe:=W.oe
  refine cP (fun S=>[some v,some (.str z),some (.ref e1),some (.ref S),none,none,none]) (k:=48) (n:=2) W rfl (by decide) (by trivial) (by decide) fun S ws H11 s' W=>?_
  have ov:=W.ov
  have oe:=W.oe
  refine cP (fun S=>[some v,some (.str z),some (.ref e1),some (.ref S),none,none,none]) (k:=48) (n:=3) W rfl (by decide) (by trivial) (by decide) fun S ws H12 s' W=>?_
  have ov:=W.ov
  have oe:=W.oe
  refine aJ (fun σ' H'=>∃ wd xwd,σ'=[some v,some (.str z),some (.ref e1),some (.ref S),some (.ref wd),none,none]∧OW H H' S ws 36 48 45 v (.ref e1)∧H' wd=some (.tup xwd)∧xwd.length=9∧∀ x∈xwd,OkD H' 3 x) (fun nx hnx=>?_) ?_
  ·intro D hD
   refine d7 (lJ "abcdefghi") (fun i τ H'=>∃ (v0:Option V) (zs:List V),τ=[v0,some (.ref e1)]∧H' D=some (.lst zs)∧zs.length=i∧(∀ u∈zs,OkD H' 3 u)∧Same H12 H') ⟨none,[],rfl,aA,rfl,(fun u hu=>nomatch hu),Same.upd hD _⟩ (fun _ _ _ _ _=>True.intro) ?_ ?_
   ·rintro i τ H4 hi ⟨v0,zs,rfl,gD,hzl,oz,s4⟩
    have hi9:i < 9:=hi
    refine ⟨(show 2≤sizeLine by decide),fun c hc=>?_⟩
    have sc:=Same.upd hc (.tup [.str ⟨#[("abcdefghi":Str).cps.getD i 0]⟩,.ref e1])
    have ss:=s4.trans sc
    have ky:=Ky.lset (ys:=zs++[.ref c]) (sc _ _ gD)
    refine ⟨zs,sc _ _ gD,by omega,_,zs++[.ref c],rfl,aA,by simp [hzl],fun u hu=>?_,ss.put hD⟩
    rcases List.mem_append.mp hu with g | g
    ·exact ((oz u g).same sc).ky ky
    ·rw [List.mem_singleton.mp g];exact (bG (k:=2) aA (by simp) (memC (d8 (shr1 _)) (mem1 (oe.same ss)))).ky ky
   ·rintro τ H4 ⟨v0,zs,rfl,gD,hzl,oz,s4⟩
    refine ⟨D,zs,rfl,.inl ⟨SqL.of gD,fun l hl=>?_⟩⟩
    have sl:=Same.upd hl (.tup zs)
    exact hnx _ _ ⟨l,zs,rfl,W.same (s4.trans sl),aA,hzl,fun x hx=>(oz x hx).same sl⟩
  rintro σ' H13 ⟨wd,xwd,rfl,W,gwd,lwd,owd⟩
  have ov:=W.ov
  have oe:=W.oe
  refine aJ (fun σ' H'=>∃ cs xcs,σ'=[some v,some (.str z),some (.ref e1),some (.ref S),some (.ref wd),some (.ref cs),none]∧OW H H' S ws 36 48 45 v (.ref e1)∧H' wd=some (.tup xwd)∧(∀ x∈xwd,OkD H' 3 x)∧H' cs=some (.tup xcs)∧xcs.length=9∧∀ x∈xcs,OkD H' 3 x) (fun nx hnx=>?_) ?_
  ·intro D hD
   refine d7 (lJ "abcdefghi") (fun i τ H'=>∃ (v0:Option V) (zs:List V),τ=[v0,some (.ref e1)]∧H' D=some (.lst zs)∧zs.length=i∧(∀ u∈zs,OkD H' 3 u)∧Same H13 H') ⟨none,[],rfl,aA,rfl,(fun u hu=>nomatch hu),Same.upd hD _⟩ (fun _ _ _ _ _=>True.intro) ?_ ?_
   ·rintro i τ H4 hi ⟨v0,zs,rfl,gD,hzl,oz,s4⟩
    have hi9:i < 9:=hi
    refine ⟨(show 3≤sizeLine by decide),fun c hc=>?_⟩
    have sc:=Same.upd hc (.tup [.str ⟨#[("abcdefghi":Str).cps.getD i 0]⟩,.str "v",.ref e1])
    have ss:=s4.trans sc
    have ky:=Ky.lset (ys:=zs++[.ref c]) (sc _ _ gD)
    refine ⟨zs,sc _ _ gD,by omega,_,zs++[.ref c],rfl,aA,by simp [hzl],fun u hu=>?_,ss.put hD⟩
    rcases List.mem_append.mp hu with g | g
    ·exact ((oz u g).same sc).ky ky
    ·rw [List.mem_singleton.mp g];exact (bG (k:=2) aA (by simp) (memC (d8 (shr1 _)) (memC (d8 (by unfold Shr;decide)) (mem1 (oe.same ss))))).ky ky
   ·rintro τ H4 ⟨v0,zs,rfl,gD,hzl,oz,s4⟩
    refine ⟨D,zs,rfl,.inl ⟨SqL.of gD,fun l hl=>?_⟩⟩
    have sl:=Same.upd hl (.tup zs)
    exact hnx _ _ ⟨l,zs,rfl,W.same (s4.trans sl),(s4.trans sl) _ _ gwd,(fun x hx=>(owd x hx).same (s4.trans sl)),aA,hzl,fun x hx=>(oz x hx).same sl⟩
  rintro σ' H14 ⟨cs,xcs,rfl,W,gwd,owd,gcs,lcs,ocs⟩
  have ov:=W.ov
  have oe:=W.oe
  have okw:OkD H14 4 (.ref wd):=bG gwd (by omega) owd
  have okc:OkD H14 4 (.ref cs):=bG gcs (by omega) ocs
  refine cP (fun S=>[some v,some (.str z),some (.ref e1),some (.ref S),some (.ref wd),some (.ref cs),none]) (k:=48) (n:=3) W rfl (by decide) (by repeat' (first | with_reducible exact rR | with_reducible apply nE | ((with_reducible show GK _ _ (tV _) _);(first | exact a1t rfl (by assumption) | exact a1M rfl (by assumption) (by omega))) | with_reducible exact yK | with_reducible exact y6 | with_reducible exact yQ | exact zO (by unfold Shr;decide) | with_reducible apply uY | with_reducible apply uH | with_reducible exact zS | decide | exact a1G (j:=1) rfl (by assumption) (by assumption) (by omega) (by omega) (by decide) (by omega) | exact a1H (j:=8) rfl (by assumption) (by assumption) (by omega) (by omega) (by omega))) (by decide) fun S ws H15 s' W=>?_
  have ov:=W.ov
  have oe:=W.oe
  have gcs:=s' _ _ gcs
  have ocs:∀ x∈xcs,OkD H15 3 x:=fun x hx=>(ocs x hx).same s'
  refine cP (fun S=>[some v,some (.str z),some (.ref e1),some (.ref S),some (.ref wd),some (.ref cs),none]) (k:=48) (n:=2) W rfl (by decide) (by repeat' (first | with_reducible exact rR | with_reducible apply nE | ((with_reducible show GK _ _ (tV _) _);(first | exact a1t rfl (by assumption) | exact a1M rfl (by assumption) (by omega))) | with_reducible exact yK | with_reducible exact y6 | with_reducible exact yQ | exact zO (by unfold Shr;decide) | with_reducible apply uY | with_reducible apply uH | with_reducible exact zS | decide | exact a1G (j:=1) rfl (by assumption) (by assumption) (by omega) (by omega) (by decide) (by omega) | exact a1H (j:=8) rfl (by assumption) (by assumption) (by omega) (by omega) (by omega))) (by decide) fun S ws H16 s' W=>?_
  have ov:=W.ov
  have oe:=W.oe
  refine cP (fun S=>[some v,some (.str z),some (.ref e1),some (.ref S),some (.ref wd),some (.ref cs),none]) (k:=48) (n:=2) W rfl (by decide) (by trivial) (by decide) fun S ws H17 s' W=>?_
  have ov:=W.ov
  have oe:=W.oe
  refine cP (fun S=>[some v,some (.str z),some (.ref e1),some (.ref S),some (.ref wd),some (.ref cs),none]) (k:=48) (n:=2) W rfl (by decide) (by trivial) (by decide) fun S ws H18 s' W=>?_
  have ov:=W.ov
  have oe:=W.oe
  refine cP (fun S=>[some v,some (.str z),some (.ref e1),some (.ref S),some (.ref wd),some (.ref cs),none]) (k:=48) (n:=3) W rfl (by decide) (by trivial) (by decide) fun S ws H19 s' W=>?_
  have ov:=W.ov
  have oe:=W.oe
  refine cP (fun S=>[some v,some (.str z),some (.ref e1),some (.ref S),some (.ref wd),some (.ref cs),none]) (k:=48) (n:=4) W rfl (by decide) (by trivial) (by decide) fun S ws H20 s' W=>?_
  have ov:=W.ov
  have oe:=W.oe
  refine cP (fun S=>[some v,some (.str z),some (.ref e1),some (.ref S),some (.ref wd),some (.ref cs),none]) (k:=48) (n:=2) W rfl (by decide) (by trivial) (by decide) fun S ws H21 s' W=>?_
  have ov:=W.ov
  have oe:=W.oe
  refine cP (fun S=>[some v,some (.str z),some (.ref e1),some (.ref S),some (.ref wd),some (.ref cs),none]) (k:=48) (n:=3) W rfl (by decide) (by trivial) (by decide) fun S ws H22 s' W=>?_
  have ov:=W.ov
  have oe:=W.oe
  refine cP (fun S=>[some v,some (.str z),some (.ref e1),some (.ref S),some (.ref wd),some (.ref cs),none]) (k:=48) (n:=3) W rfl (by decide) (by trivial) (by decide) fun S ws H23 s' W=>?_
  have ov:=W.ov
  have oe:=W.oe
  refine aJ (fun σ' H'=>∃ S ws v6,σ'=[some v,some (.str z),some (.ref e1),some (.ref S),some (.ref wd),some (.ref cs),v6]∧Same H H'∧H' S=some (.lst ws)∧ws.length=78∧(∀ x∈ws,OkD H' 48 x)∧OkD H' 45 v) (fun nx hnx=>?_) ?_
  ·refine (show GKA _ H23 _ 3 6 from by trivial) H23 _ (Same.refl _) fun os H3 s3 hl3 o3=>⟨by omega,fun L hL=>Or.inl ⟨⟨os,SqL.of aA⟩,?_⟩⟩
   have sL:=s3.trans (Same.upd hL (.lst os))
   have gL:upd H3 L (.lst os) L=some (.lst os):=aA
   have o3:∀ x∈os,OkD (upd H3 L (.lst os)) 3 x:=fun x hx=>(o3 x hx).same (Same.upd hL _)
   generalize upd H3 L (.lst os)=HL at sL gL o3
   have WL:=W.same sL
   refine eU (cL os) (fun i σ' H'=>∃ S ws v6,σ'=[some v,some (.str z),some (.ref e1),some (.ref S),some (.ref wd),some (.ref cs),v6]∧Same HL H'∧H' S=some (.lst ws)∧ws.length=60+3*i∧(∀ x∈ws,OkD H' 48 x)) ⟨S,ws,_,rfl,Same.refl _,WL.g,WL.l,WL.o⟩ (by rintro i τ H' _ ⟨_,_,_,_,s,_⟩;exact SqL.of (s _ _ gL)) ?_ ?_
   ·rintro i σ' H4 hi ⟨S,ws,v6,rfl,s4,g4,l4,o4⟩
    have eg:os.getD i .non=os[i]:=by simp [List.getD_eq_getElem?_getD,hi]
    rw [eg]
    have oo:=(o3 _ (List.getElem_mem hi)).same s4
    have oe:=WL.oe.same s4
    have ov:=WL.ov.same s4
    generalize os[i]=x at oo
    refine kE (k:=48) (n:=2) rfl g4 o4 (by omega) (by trivial) (by decide) fun S' ws' H5 s5 f5 g5 l5 o5=>?_
    have oo:=oo.same s5
    have oe:=oe.same s5
    refine a17 (k:=48) (s4.free f5) (s4.trans s5) rfl g5 o5 (by omega) (by trivial) fun ws6 H6 s6 ky6 g6 l6 o6=>?_
    exact ⟨S',ws6,_,rfl,s6,g6,by omega,o6⟩
   ·rintro σ' H4 ⟨S,ws,v6,rfl,s4,g4,l4,o4⟩
    exact hnx _ _ ⟨S,ws,v6,rfl,WL.s.trans s4,g4,by omega,o4,WL.ov.same s4⟩
  rintro σ' H3 ⟨S,ws,v6,rfl,s3,g3,l3,o3,ov⟩
  exact a1k (k:=48) (n:=2) rfl g3 o3 (by omega) (by trivial) (by decide) fun S' ws' H4 s4 f4 g4 l4 o4=>q S' ws' _ (s3.free f4) g4 (by omega) o4 (s3.trans s4)
def spEndless:Sp:=fun vs H Q _=>vs=[]∧∀ v H',Same H H'→MkT H' 4 9 v→Q v H'
theorem iW {z:Str} (h:isName z=true):Shr z:=by have:=kO h;unfold Shr;omega
theorem vQ {H:Hp} {a:Addr} {z:Str} (e:H a=some (.tup [.str "get",.str z])) (hz:Shr z):MkT H 1 1 (.ref a):=.mk (ss:=[]) (.get e hz) rfl (fun i h=>absurd h (by simp)) rfl
theorem i5 {H:Hp} {n s:Nat} {v m:V} (h:Shp H v [m]) (hm:MkT H n s m):MkT H (n+1) (1+s) v:=.mk (ss:=[s]) h rfl (fun i h1 h2=>by
 match i,h1 with
 | 0,_=>exact hm) (by simp)
theorem vE {H:Hp} {n s s':Nat} {v m m':V} (h:Shp H v [m,m']) (hm:MkT H n s m) (hm':MkT H n s' m'):MkT H (n+1) (1+s+s') v:=.mk (ss:=[s,s']) h rfl (fun i h1 h2=>by
 match i,h1 with
 | 0,_=>exact hm
 | 1,_=>exact hm') (by simp;omega)
theorem wB:Shr "v":=by unfold Shr;decide
theorem a1f:Shr "dn":=by unfold Shr;decide
theorem jQ (T:Txt K mg w):FnK P w K mg base 1 "_law_endless" [] spEndless:=by
 refine T.oZ.okS jM (fun vs H Q E h=>?_) (fun f cdv A outer s H vs Q E hr h=>?_)
 ·obtain ⟨rfl,_⟩:=h
  rfl
 ·obtain ⟨rfl,k⟩:=h
  refine ⟨_,(aD (aL (i:=0) jM.nd rfl (Or.inl rfl) (aE (a7 aC (a7 aC (a7 aC (aB (aE (a7 aC (aB (aE (a7 aC (a7 aC sa_nil))) (aB (aE (a7 aC (a7 aC sa_nil))) sa_nil)))) sa_nil))))))
   (aG (aO (aE (a7 aC (a9 (zv 0) (a9 (zv 0) sa_nil))))))),?_⟩
  refine aI ⟨(show 2≤sizeLine by decide),fun a1 h1=>⟨(show 2≤sizeLine by decide),fun a2 h2=>⟨(show 3≤sizeLine by decide),fun a3 h3=>⟨(show 4≤sizeLine by decide),fun a4 h4=>?_⟩⟩⟩⟩
  have s1:=Same.upd h1 (.tup [.str "get",.str "v"])
  have g1:upd H a1 (.tup [.str "get",.str "v"]) a1=some (.tup [.str "get",.str "v"]):=aA
  generalize upd H a1 (.tup [.str "get",.str "v"])=H1 at*
  have s2:=Same.upd h2 (.tup [.str "get",.str "v"])
  have g2:upd H1 a2 (.tup [.str "get",.str "v"]) a2=some (.tup [.str "get",.str "v"]):=aA
  generalize upd H1 a2 (.tup [.str "get",.str "v"])=H2 at*
  have s3:=Same.upd h3 (.tup [.str "call",.ref a1,.ref a2])
  have g3:upd H2 a3 (.tup [.str "call",.ref a1,.ref a2]) a3=some (.tup [.str "call",.ref a1,.ref a2]):=aA
  generalize upd H2 a3 (.tup [.str "call",.ref a1,.ref a2])=H3 at*
  have s4:=Same.upd h4 (.tup [.str "fn",.str "v",.str "dn",.ref a3])
  have g4:upd H3 a4 (.tup [.str "fn",.str "v",.str "dn",.ref a3]) a4=some (.tup [.str "fn",.str "v",.str "dn",.ref a3]):=aA
  generalize upd H3 a4 (.tup [.str "fn",.str "v",.str "dn",.ref a3])=H4 at*
  refine ⟨(show 3≤sizeLine by decide),fun a5 h5=>?_⟩
  have s5:=Same.upd h5 (.tup [.str "call",.ref a4,.ref a4])
  have g5:upd H4 a5 (.tup [.str "call",.ref a4,.ref a4]) a5=some (.tup [.str "call",.ref a4,.ref a4]):=aA
  generalize upd H4 a5 (.tup [.str "call",.ref a4,.ref a4])=H5 at*
  have m1:=vQ (s5 _ _ (s4 _ _ (s3 _ _ (s2 _ _ g1)))) wB
  have m2:=vQ (s5 _ _ (s4 _ _ (s3 _ _ g2))) wB
  have m3:=vE (.call (s5 _ _ (s4 _ _ g3))) m1 m2
  have m4:=i5 (.fn (s5 _ _ g4) wB a1f) m3
  exact k _ H5 ((((s1.trans s2).trans s3).trans s4).trans s5) (vE (.call g5) m4 m4)
def BN:List Str:=["v","va","u","x"]
def spBound (K:PySem.W.Frag):Sp:=fun vs H Q _=>∃ (H0:Hp) (p:Addr) (t:Nat),vs=[.ref p]∧NxAt K H0 H p t∧t < 900000∧∀ (z:Str) (H':Hp),z∈BN→NxAt K H0 H' p (t+1)→Sm p p H H'→Q (.str z) H'
theorem eB (T:Txt K mg w):FnK P w K mg base 3 "_law_name_bound" ["_law_pen"] (spBound K):=by
 have aK:FnK P w K mg base 2 "_law_next" ["_law_pen","_law_many"] (spNx K):=bC T
 refine T.mD.okS lB (fun vs H Q E h=>?_) (fun f cdv A outer s H vs Q E hr h=>?_)
 ·obtain ⟨H0,p,t,rfl,_⟩:=h
  rfl
 ·obtain ⟨H0,p,t,rfl,hn,ht,k⟩:=h
  refine ⟨_,(aG (aO (b7 (b6 K) (b4 (a7 aC (a7 aC (a7 aC (a7 aC sa_nil))))) (aT aK (hr.mono (by decide)) (a9 (zv 0) (a7 aF sa_nil))) (fun _ _=>rfl)))),?_⟩
  refine ⟨(show 4≤sizeLine by decide),fun L hL=>?_⟩
  have s1:=Same.upd hL (.lst (BN.map V.str))
  have gL:upd H L (.lst (BN.map V.str)) L=some (.lst (BN.map V.str)):=aA
  have nLp:L≠p:=hn.ne hL
  have hn1:=hn.same s1
  refine ⟨H0,p,4,t,rfl,hn1,⟨by decide,by decide⟩,ht,fun r H2 r0 r1 hn2 sm2=>?_⟩
  obtain ⟨c,hc1,hc2⟩:=kT (BN.map V.str) r r0 r1
  obtain ⟨z,hz,rfl⟩:=List.mem_map.mp (List.mem_of_getElem? hc1)
  exact ⟨_,_,.inl (SqL.of (sm2 _ _ gL nLp nLp)),hc2,k z H2 hz hn2 (s1.sm.trans sm2)⟩
theorem xZ {ns ns2:List Str} {h:Hd} (ok:h.ok ns):h.ok (ns++ns2):=by
 cases h with
 | one s=>exact ok
 | as y=>exact ⟨ok.1,List.mem_append_left _ ok.2⟩
 | way x y=>exact ⟨ok.1,ok.2.1,List.mem_append_left _ ok.2.2.1,List.mem_append_left _ ok.2.2.2⟩
 | prs s ps=>exact ⟨ok.1,fun p hp=>⟨(ok.2.1 p hp).1,(ok.2.1 p hp).2.1,List.mem_append_left _ (ok.2.1 p hp).2.2⟩,ok.2.2⟩
theorem a0M {ns ns2:List Str} {n:Str} {o:Option Str} (h:Ahd ns n o):Ahd (ns++ns2) n o:=fun y e=>by
 obtain ⟨i,j,h1,h2,h3⟩:=h y e
 have hi:i < ns.length:=(List.getElem?_eq_some_iff.mp h2).1
 have hj:j < ns.length:=(List.getElem?_eq_some_iff.mp h3).1
 exact ⟨i,j,h1,by rw [List.getElem?_append_left hi];exact h2,by rw [List.getElem?_append_left hj];exact h3⟩
def spMkTell (K:PySem.W.Frag):Sp:=fun vs H Q _=>∃ (H0:Hp) (p:Addr) (most:Int) (t:Nat),vs=[.ref p,.int most]∧NxAt K H0 H p t∧t+600 < 900000∧(1≤most∧most≤8)∧
 ∀ (a:Addr) (xs:List V) (rows:List Rw2) (ns:List Str) (H':Hp),RT H' a xs rows ns WW→(∀ n∈ns,n∈N8++(["nn","dn"]:List Str))→NxAt K H0 H' p (t+600)→Sm p p H H'→Q (.ref a) H'
theorem iV (T:Txt K mg w):FnK P w K mg base 6 "_law_maker_telling" ["_law_pen","_law_most"] (spMkTell K):=by
 have pH:FnK P w K mg base 5 "_law_telling" ["_law_pen","_law_most"] (spTelling5 K):=nY T
 refine T.jX.okS iY (fun vs H Q E h=>?_) (fun f cdv A outer s H vs Q E hr h=>?_)
 ·obtain ⟨H0,p,most,t,rfl,_⟩:=h
  rfl
 ·obtain ⟨H0,p,most,t,rfl,hn,ht,hm,k⟩:=h
  have hsz:sizeLine=16777216:=sizeLine_eq
  refine ⟨_,(aG (aO (b8 (i8 K) (aT pH (hr.mono (by decide)) (a9 (zv 0) (a9 (zv 1) sa_nil))) (aE (aB (aE (a7 aC (aB (aE (a7 aC sa_nil)) sa_nil))) (aB (aE (a7 aC (aB (aE (a7 aC (a7 aC (a7 aC sa_nil)))) sa_nil))) sa_nil)))))),?_⟩
  refine ⟨H0,p,most,t,rfl,hn,ht,hm,fun a xs rows ns H1 rt hle h8 hn1 sm1=>?_⟩
  have hrl:=rt.rl
  have hxl:=rt.rv.len
  have pos:=rt.pos
  refine ⟨(show 1≤sizeLine by decide),fun b1 h1=>⟨(show 2≤sizeLine by decide),fun c1 h2=>⟨(show 3≤sizeLine by decide),fun b2 h3=>⟨(show 2≤sizeLine by decide),fun c2 h4=>⟨(show 2≤sizeLine by decide),fun q h5=>?_⟩⟩⟩⟩⟩
  have s1:=Same.upd h1 (.tup [.str "none"])
  have g1:upd H1 b1 (.tup [.str "none"]) b1=some (.tup [.str "none"]):=aA
  generalize upd H1 b1 (.tup [.str "none"])=H2 at*
  have s2:=Same.upd h2 (.tup [.str "nn",.ref b1])
  have g2:upd H2 c1 (.tup [.str "nn",.ref b1]) c1=some (.tup [.str "nn",.ref b1]):=aA
  generalize upd H2 c1 (.tup [.str "nn",.ref b1])=H3 at*
  have s3:=Same.upd h3 (.tup [.str "way",.str "dn",.str "nn"])
  have g3:upd H3 b2 (.tup [.str "way",.str "dn",.str "nn"]) b2=some (.tup [.str "way",.str "dn",.str "nn"]):=aA
  generalize upd H3 b2 (.tup [.str "way",.str "dn",.str "nn"])=H4 at*
  have s4:=Same.upd h4 (.tup [.str "dn",.ref b2])
  have g4:upd H4 c2 (.tup [.str "dn",.ref b2]) c2=some (.tup [.str "dn",.ref b2]):=aA
  generalize upd H4 c2 (.tup [.str "dn",.ref b2])=H5 at*
  have s5:=Same.upd h5 (.tup [.ref c1,.ref c2])
  have g5:upd H5 q (.tup [.ref c1,.ref c2]) q=some (.tup [.ref c1,.ref c2]):=aA
  generalize upd H5 q (.tup [.ref c1,.ref c2])=H6 at*
  have sA:Same H1 H6:=(((s1.trans s2).trans s3).trans s4).trans s5
  refine ⟨a,q,xs,[.ref c1,.ref c2],rfl,rfl,SqT.of (sA _ _ rt.at_),SqT.of g5,fun z=>by rw [z] at hxl;simp at hxl;omega,by simp;omega,fun z=>by simp at z,fun _ d hd=>?_⟩
  have sd:=Same.upd hd (.tup (xs++[.ref c1,.ref c2]))
  have gd:upd H6 d (.tup (xs++[.ref c1,.ref c2])) d=some (.tup (xs++[.ref c1,.ref c2])):=aA
  generalize upd H6 d (.tup (xs++[.ref c1,.ref c2]))=H7 at*
  have sB:=sA.trans sd
  have r1:RV H7 (xs++[.ref c1]) (rows++([("nn",.one "none")]:List Rw2)):=(rt.rv.tk sB.ts).snoc (sd _ _ (s5 _ _ (s4 _ _ (s3 _ _ g2)))) (.one (sd _ _ (s5 _ _ (s4 _ _ (s3 _ _ (s2 _ _ g1))))))
  have r2:RV H7 (xs++[.ref c1]++[.ref c2]) (rows++([("nn",.one "none")]:List Rw2)++([("dn",.way "dn" "nn")]:List Rw2)):=r1.snoc (sd _ _ (s5 _ _ g4)) (.way (sd _ _ (s5 _ _ (s4 _ _ g3))))
  have nin:∀ z∈(["nn","dn"]:List Str),z ∉ ns:=fun z hz hzn=>by
   have:=h8 z hzn
   simp only [List.mem_cons,List.mem_nil_iff,or_false] at hz
   rcases hz with rfl | rfl<;>exact absurd this (by decide)
  have nlen:ns.length≤8:=by omega
  refine k d _ (rows++([("nn",.one "none")]:List Rw2)++([("dn",.way "dn" "nn")]:List Rw2)) (ns++(["nn","dn"]:List Str)) H7 ⟨?_,r2,?_,?_,?_,?_,?_,?_,by simp,by simp;omega⟩ (fun n hn'=>?_) (hn1.same sB) (sm1.trans sB.sm)
  ·rw [gd];simp
  ·simp only [List.map_append,List.map_cons,List.map_nil,List.append_assoc]
   exact rt.nm.append_right _
  ·refine List.nodup_append.mpr ⟨rt.nd,by decide,fun x hx y hy e=>nin y hy (e▸hx)⟩
  ·intro r hr
   rcases List.mem_append.mp hr with hr | hr
   ·rcases List.mem_append.mp hr with hr | hr
    ·exact ⟨(rt.ok r hr).1,xZ (rt.ok r hr).2⟩
    ·rw [List.mem_singleton.mp hr];exact ⟨by decide+kernel,.inr rfl⟩
   ·rw [List.mem_singleton.mp hr];exact ⟨by decide+kernel,by decide+kernel,by decide+kernel,by simp,by simp⟩
  ·intro n hn'
   rcases List.mem_append.mp hn' with h | h
   ·exact rt.wd n h
   ·simp only [List.mem_cons,List.mem_nil_iff,or_false] at h
    rcases h with rfl | rfl<;>exact gA (by decide) (by decide)
  ·intro r hr
   rcases List.mem_append.mp hr with hr | hr
   ·rcases List.mem_append.mp hr with hr | hr
    ·exact a0M (rt.ah r hr)
    ·rw [List.mem_singleton.mp hr];exact fun _ h=>nomatch h
   ·rw [List.mem_singleton.mp hr];exact fun _ h=>nomatch h
  ·intro r hr z hz
   rcases List.mem_append.mp hr with hr | hr
   ·rcases List.mem_append.mp hr with hr | hr
    ·exact rt.ww r hr z hz
    ·rw [List.mem_singleton.mp hr] at hz;exact nomatch hz
   ·rw [List.mem_singleton.mp hr] at hz;exact nomatch hz
  ·rcases List.mem_append.mp hn' with h | h
   ·exact List.mem_append_left _ (h8 n h)
   ·exact List.mem_append_right _ h
def NN:Nat→Nat
 | 0=>10
 | d+1=>12*NN d+40
theorem j7 {z:Str} (h:z∈BN):Shr z:=by
 simp only [BN,List.mem_cons,List.not_mem_nil,or_false] at h
 unfold Shr
 rcases h with rfl | rfl | rfl | rfl<;>decide
theorem zC:Shr "a":=by unfold Shr;decide
theorem a1C:Shr "b":=by unfold Shr;decide
theorem a1w:Shr "ba":=by unfold Shr;decide
theorem a2n:Shr "z":=by unfold Shr;decide
theorem vD:Shr "zz":=by unfold Shr;decide
def KnK (kvs:List (Key×V)):Prop:=∀ e∈kvs,∃ z y:Str,e=(.inr z,.str y)∧Shr z
def spMd (K:PySem.W.Frag) (lim:Nat→Prop) (dep cost siz:Nat→Nat):Sp:=fun vs H Q _=>∃ (H0:Hp) (p a kn:Addr) (t:Nat) (xs:List V) (rows:List Rw2) (ns:List Str) (kvs:List (Key×V)) (x:Str) (d:Nat),
 vs=[.ref p,.ref a,.str x,.ref kn,.int (d:Int)]∧NxAt K H0 H p t∧t+cost d < 900000∧RT H a xs rows ns WW∧x∈ns∧H kn=some (.dK kvs)∧KnK kvs∧kvs.length+d≤8∧lim d∧
 ∀ (v:V) (s:Nat) (H':Hp),MkT H' (dep d) s v→s≤siz d→NxAt K H0 H' p (t+cost d)→Sm p p H H'→Q v H'
abbrev spFr (K:PySem.W.Frag) (n:Nat):Sp:=spMd K (fun d=>d < n) (fun d=>4+3*d) NN NN
abbrev spSo (K:PySem.W.Frag) (n:Nat):Sp:=spMd K (fun d=>0 < d∧d < n) (fun d=>4+3*d) NN NN
abbrev spWr (K:PySem.W.Frag) (n:Nat):Sp:=spMd K (fun d=>d < n) (fun d=>6+3*d) (fun d=>NN d+1) (fun d=>NN d+3)
structure MW (K:PySem.W.Frag) (H0 Hs H:Hp) (p a kn:Addr) (t:Nat) (xs:List V) (rows:List Rw2) (ns:List Str) (kvs:List (Key×V)):Prop where
 hn:NxAt K H0 H p t
 rt:RT H a xs rows ns WW
 kn:H kn=some (.dK kvs)
 sm:Sm p p Hs H
 s0:Sm p p H0 Hs
section
variable {H0 Hs H H':Hp} {p a kn D:Addr} {t t':Nat} {xs:List V} {rows:List Rw2} {ns:List Str} {kvs:List (Key×V)}
theorem MW.nk (h:MW K H0 Hs H p a kn t xs rows ns kvs):kn≠p:=fun q=>by
 obtain ⟨_,_,_,_,z,_⟩:=h.hn.ex
 have:=h.kn
 rw [q,z] at this;cases this
theorem MW.same (h:MW K H0 Hs H p a kn t xs rows ns kvs) (s:Same H H'):MW K H0 Hs H' p a kn t xs rows ns kvs:=⟨h.hn.same s,h.rt.tk s.ts,s _ _ h.kn,h.sm.trans s.sm,h.s0⟩
theorem MW.draw (h:MW K H0 Hs H p a kn t xs rows ns kvs) (hn':NxAt K H0 H' p t') (s:Sm p p H H'):MW K H0 Hs H' p a kn t' xs rows ns kvs:=⟨hn',h.rt.tk (h.hn.ts s),s _ _ h.kn h.nk h.nk,h.sm.trans s,h.s0⟩
theorem MW.mono (h:MW K H0 Hs H p a kn t xs rows ns kvs) (l:t≤t'):MW K H0 Hs H p a kn t' xs rows ns kvs:=⟨h.hn.mono l,h.rt,h.kn,h.sm,h.s0⟩
theorem MW.free (h:MW K H0 Hs H p a kn t xs rows ns kvs) (e:H D=none):Hs D=none:=h.sm.free e (h.hn.ne e) (h.hn.ne e)
theorem MW.neD (h:MW K H0 Hs H p a kn t xs rows ns kvs) {kv:List (Key×V)} (e:H D=some (.dK kv)):D≠p:=fun q=>by
 obtain ⟨_,_,_,_,z,_⟩:=h.hn.ex
 rw [q,z] at e;cases e
theorem qV {kv kv':List (Key×V)} (e:H D=some (.dK kv)):Tk H (upd H D (.dK kv')):=(Tk.refl).set e (by intro _ z;cases z)
theorem MW.dput (h:MW K H0 Hs H p a kn t xs rows ns kvs) {kv kv':List (Key×V)} (e:H D=some (.dK kv)) (f:Hs D=none) (nk:kn≠D):MW K H0 Hs (upd H D (.dK kv')) p a kn t xs rows ns kvs:=
 have np:=h.neD e
 ⟨h.hn.put np (h.s0.free f np np),h.rt.tk (qV e),by rw [aN nk];exact h.kn,h.sm.upd f,h.s0⟩
theorem MW.lput (h:MW K H0 Hs H p a kn t xs rows ns kvs) {kv kv':List V} (e:H D=some (.lst kv)) (f:Hs D=none) (np:D≠p):MW K H0 Hs (upd H D (.lst kv')) p a kn t xs rows ns kvs:=
 ⟨h.hn.put np (h.s0.free f np np),h.rt.tk ((Tk.refl).set e (by intro _ z;cases z)),by rw [aN (fun q=>by have:=h.kn;rw [q,e] at this;cases this)];exact h.kn,h.sm.upd f,h.s0⟩
theorem KnK.put (h:KnK kvs) {z:Str} (y:Str) (hz:Shr z):KnK (putK kvs (.inr z) (.str y)):=fun e he=>by
 unfold putK at he
 split at he
 ·obtain ⟨e',h1,rfl⟩:=List.mem_map.mp he
  split
  ·obtain ⟨z',y',rfl,hz'⟩:=h e' h1
   exact ⟨z',y,rfl,hz'⟩
  ·exact h e' h1
 ·rcases List.mem_append.mp he with h1 | h1
  ·exact h e h1
  ·exact ⟨z,y,List.mem_singleton.mp h1,hz⟩
theorem oT (z y:Str):(putK kvs (.inr z) (.str y)).length≤kvs.length+1:=by
 unfold putK
 split<;>simp
theorem KnK.keys (h:KnK kvs):∃ ks:List Str,kvs.map (·.1)=ks.map Sum.inr∧ks.length=kvs.length∧∀ z∈ks,Shr z∧∃ y,valV kvs (.inr z)=some (.str y):=by
 induction kvs with
 | nil=>exact ⟨[],rfl,rfl,fun z hz=>nomatch hz⟩
 | cons e r ih=>
  obtain ⟨ks,h1,h2,h3⟩:=ih fun e' he=>h e' (List.mem_cons_of_mem _ he)
  obtain ⟨z,y,rfl,hz0⟩:=h e (List.mem_cons_self ..)
  refine ⟨z::ks,by simp [h1],by simp [h2],fun z' hz=>?_⟩
  by_cases ez:z=z'
  ·subst ez
   exact ⟨hz0,y,cK rfl⟩
  ·rw [bK (by simpa using ez)]
   rcases List.mem_cons.mp hz with rfl | hz
   ·exact absurd rfl ez
   ·exact h3 z' hz
end
def Hd.s0:Hd→Str
 | .one s=>s
 | .as _=>"as"
 | .way _ _=>"way"
 | .prs s _=>s
theorem tX {H:Hp} {v:V} {h:Hd} (q:HV H v h):∃ b ys,v=.ref b∧H b=some (.tup (.str (Hd.s0 h)::ys)):=by
 cases q with
 | one e=>exact ⟨_,_,rfl,e⟩
 | as e=>exact ⟨_,_,rfl,e⟩
 | way e=>exact ⟨_,_,rfl,e⟩
 | prs e _ _=>exact ⟨_,_,rfl,e⟩
theorem a2J {H:Hp} {v:V} {h:Hd} {ns:List Str} (q:HV H v h) (ok:h.ok ns):∃ a xs ds,v=.ref a∧H a=some (.tup xs)∧xs.length=ds.length∧(∀ i (h:i < xs.length) (h':i < ds.length),DD H xs[i] ds[i])∧((Dt.tup ds).is2 "pick"=false→h≠.prs "pick" []):=by
 have t:=(q.tx ok).dd
 have key:∀ d,DD H v d→d=h.dt→∃ a xs ds,v=.ref a∧H a=some (.tup xs)∧xs.length=ds.length∧(∀ i (h:i < xs.length) (h':i < ds.length),DD H xs[i] ds[i])∧((Dt.tup ds).is2 "pick"=false→h≠.prs "pick" []):=by
  intro d hd e
  cases hd with
  | tup e1 e2 _ e3=>exact ⟨_,_,_,rfl,e1,e2,e3,fun hf hh=>by subst hh;rw [e] at hf;exact absurd hf (by decide+kernel)⟩
  | str _=>cases h<;>cases e
  | _=>cases h<;>cases e
 exact key _ t rfl
theorem lV:∀ d,10≤NN d
 | 0=>Nat.le_refl _
 | d+1=>by have:=lV d;simp only [NN];omega
def RowMk (H:Hp) (n:Nat) (zs:List V) (dep tot:Nat):Prop:=∃ (ms:List V) (ss:List Nat),RowM H n zs ms∧ms.length=ss.length∧(∀ j (h:j < ms.length) (h':j < ss.length),MkT H dep ss[j] ms[j])∧ss.sum≤tot
theorem RowMk.tk {H H':Hp} {n:Nat} {zs:List V} {dep tot:Nat} (h:RowMk H n zs dep tot) (s:Tk H H'):RowMk H' n zs dep tot:=by
 obtain ⟨ms,ss,h1,h2,h3,h4⟩:=h
 exact ⟨ms,ss,h1.tk s,h2,fun j a b=>(h3 j a b).tk s,h4⟩
theorem RowMk.nil {H:Hp} {n dep:Nat}:RowMk H n [] dep 0:=⟨[],[],⟨rfl,by simp,fun i h=>absurd h (by simp)⟩,rfl,fun j h=>absurd h (by simp),Nat.le_refl _⟩
theorem RowMk.snoc {H:Hp} {n:Nat} {zs:List V} {dep tot s tot':Nat} (h:RowMk H n zs dep tot) {c:Addr} {ys:List V} {m:V} (e:H c=some (.tup (ys++[m]))) (hy:StrN n ys) (hm:MkT H dep s m) (hl:zs.length < 1000) (ht:tot+s≤tot'):RowMk H n (zs++[.ref c]) dep tot':=by
 obtain ⟨ms,ss,h1,h2,h3,h4⟩:=h
 have hlen:=h1.len
 refine ⟨ms++[m],ss++[s],⟨by simp [hlen],by simp;omega,fun i g1 g2=>?_⟩,by simp [h2],fun j g1 g2=>?_,by rw [List.sum_append];simp;omega⟩
 ·by_cases hi:i < zs.length
  ·rw [List.getElem_append_left hi,List.getElem_append_left (by omega)]
   exact h1.at_ i hi (by omega)
  ·obtain rfl:i=zs.length:=by simp at g1;omega
   refine ⟨c,ys,by simp,?_,hy⟩
   rw [e]
   have:(ms++[m])[zs.length]'g2=m:=by
    rw [List.getElem_append_right (by omega)];simp [hlen]
   rw [this]
 ·by_cases hj:j < ms.length
  ·rw [List.getElem_append_left hj,List.getElem_append_left (by omega)]
   exact h3 j hj (by omega)
  ·obtain rfl:j=ms.length:=by simp at g1;omega
   rw [List.getElem_append_right (by omega),List.getElem_append_right (by omega)]
   simpa using hm
theorem RowMk.fall {H:Hp} {n:Nat} {zs:List V} {dep tot tot' dep':Nat} (h:RowMk H n zs dep tot) (hd:dep≤dep') (ht:tot≤tot'):RowMk H n zs dep' tot':=by
 obtain ⟨ms,ss,h1,h2,h3,h4⟩:=h
 exact ⟨ms,ss,h1,h2,fun j a b=>(h3 j a b).up hd,by omega⟩
theorem a0C {H:Hp} {a b:Addr} {zs:List V} {dep tot:Nat} (e:H a=some (.tup [.str "box",.ref b])) (e':H b=some (.tup zs)) (h:RowMk H 1 zs dep tot):∃ s,s≤1+tot∧MkT H (dep+1) s (.ref a):=by
 obtain ⟨ms,ss,h1,h2,h3,h4⟩:=h
 exact ⟨1+ss.sum,by omega,.mk (.box e e' h1) h2 h3 rfl⟩
theorem tK {H:Hp} {a b:Addr} {m:V} {zs:List V} {dep tot s0:Nat} (e:H a=some (.tup [.str "split",m,.ref b])) (e':H b=some (.tup zs)) (hm:MkT H dep s0 m) (h:RowMk H 2 zs dep tot):∃ s,s≤1+s0+tot∧MkT H (dep+1) s (.ref a):=by
 obtain ⟨ms,ss,h1,h2,h3,h4⟩:=h
 refine ⟨1+(s0::ss).sum,by simp;omega,.mk (.split e e' h1) (by simp [h2]) (fun j a b=>?_) rfl⟩
 cases j with
 | zero=>exact hm
 | succ j=>exact h3 j (by simpa using a) (by simpa using b)
theorem nB {H:Hp} {a b:Addr} (e:H a=some (.tup [.str "box",.ref b])) (e':H b=some (.tup [])):MkT H 1 1 (.ref a):=.mk (ss:=[]) (.box e e' ⟨rfl,by simp,fun i h=>absurd h (by simp)⟩) rfl (fun i h=>absurd h (by simp)) rfl
theorem lW {tc:TT} {t u:TS} {D:Ends} {σ:St} {H:Hp} (M:Bool→Hp→Prop) (h1:∀ Q:Bool→Hp→Prop,(∀ c H',M c H'→Q c H')→tc σ H Q) (h2:∀ H',M true H'→t D σ H') (h3:∀ H',M false H'→u D σ H'):tIfS tc t u D σ H:=h1 _ fun c H' m=>iteB (fun e=>h2 H' (e▸m)) (fun e=>h3 H' (e▸m))
set_option maxHeartbeats 2000000 in
theorem tH (T:Txt K mg w) (n:Nat) (cF:FnK P w K mg base (6+3*n) "_law_for" ["_law_pen","_law_told","_law_name","_law_known","_law_deep"] (spFr K n))
  (dE:FnK P w K mg base (8+3*n) "_law_wrapped" ["_law_pen","_law_told","_law_name","_law_known","_law_deep"] (spWr K n)):FnK P w K mg base (8+3*n+1) "_law_for" ["_law_pen","_law_told","_law_name","_law_known","_law_deep"] (spFr K (n+1)):=by
 have aK:FnK P w K mg base 2 "_law_next" ["_law_pen","_law_many"] (spNx K):=bC T
 have bU:FnK P w K mg base 1 "_law_row_here" ["_law_told","_law_name"] spRowOf:=dL T
 have mT:FnK P w K mg base 2 "_law_head_here" ["_law_told","_law_name"] spHeadOf:=lY T
 have iF:FnK P w K mg base 3 "_law_any" ["_law_pen","_law_told"] (spAny K):=kI T
 have h9:FnK P w K mg base 1 "_law_endless" [] spEndless:=jQ T
 have cD:FnK P w K mg base 3 "_law_name_bound" ["_law_pen"] (spBound K):=eB T
 refine T.pN.okS (k:=8+3*n) bX (fun vs H Q E h=>?_) (fun f cdv A outer s H vs Q E hr h=>?_)
 ·obtain ⟨H0,p,a,kn,t,xs,rows,ns,kvs,x,d,rfl,_⟩:=h
  rfl
 ·obtain ⟨H0,p,a,kn,t,xs,rows,ns,kvs,x,d,rfl,hn,ht,rt,hx,hk,kk,hkl,hd,k⟩:=h
  have hu:=bD hr
  have hu0:=Nat.lt_of_succ_lt (bD hr)
  have hu20:=rQ hr
  have hsz:sizeLine=16777216:=sizeLine_eq
  obtain ⟨rs,g,nm,rl,hval⟩:=rt.good fun z hz=>(u9 z hz).2
  have hm:∀ z,z∈ns↔z∈rs.map (·.1):=fun z=>by rw [nm];exact rt.nm.mem_iff.symm
  obtain ⟨e1,e2,e3⟩:=rt.endIn (fun z hz=>(u9 z hz).2) hx
  have few:=rt.few
  have W:MW K H0 H H p a kn t xs rows ns kvs:=⟨hn,rt,hk,Sm.refl,hn.sm⟩
  refine ⟨_,(aD (aL (i:=5) bX.nd rfl (Or.inl rfl) (aT mT (hr.mono (by omega)) (a9 (zv 1) (a9 (zv 2) sa_nil))))
   (aD (aL (i:=6) bX.nd rfl (Or.inr rfl) (aT bU (hr.mono (by omega)) (a9 (zv 1) (a9 (zv 2) sa_nil))))
   (aD (xX (i:=7) (own:=["_law_bound"]) (idx:=[3,6]) (N':=["_law_bound","_law_known","_law_row"]) (⟨rfl,by decide+kernel,by decide+kernel,(show ∀ y∈Scope.names _,y.2=NameKind.free→((defScope eR).names.lookup y.1=some NameKind.cell∨(defScope eR).names.lookup y.1=some NameKind.free) by decide+kernel),(show ∀ j∈([3,6]:List Nat),(Scope.names _).lookup ((["_law_pen","_law_told","_law_name","_law_known","_law_deep","_law_here","_law_row","_law_some","_law_inner","_law_bound","_law_made","_law_word","_law_other","_law_parts_here"]:List Str).getD j "")=some NameKind.free∧j < (["_law_pen","_law_told","_law_name","_law_known","_law_deep","_law_here","_law_row","_law_some","_law_inner","_law_bound","_law_made","_law_word","_law_other","_law_parts_here"]:List Str).length by decide+kernel),rfl⟩) rfl (kL K (aQ (rH rfl) (by rfl) T.a0A PyProof.Rows.boot_sorted (a9 (zv 3) sa_nil))) (fun _ _ _ _ _ _=>(aR (i:=0) (show List.Nodup (["_law_bound","_law_known","_law_row"]:List Str) by decide+kernel) rfl (Or.inl rfl))) (fun _ _ _ _ _ _=>(yA (aM (bF hu0) (oC hu (zv 1) (zv 0) (fun _ _=>rfl)) (zv 2) (nomark _)))) (fun _ _ _ _ _ _=>(zv 0)) bX.nd rfl rfl)
   (aD (bO (jZ (aM (j5 hu0) (zv 7) (b4 sa_nil) (nomark _)) (hU (aM hV (aT aK (hr.mono (by omega)) (a9 (zv 0) (a7 aF sa_nil))) aF (nomark _)))).pt (aG (aO (aE (a7 aC (aH (b7 (b6 K) (zv 7) (aT aK (hr.mono (by omega)) (a9 (zv 0) (b5 (aQ (aZ K) (by rfl) T.n_len PySem.boot_len (a9 (zv 7) sa_nil)) sa_nil))) (fun _ _=>rfl)) sa_nil))))) aV)
   (aD (bO (i7 (aM (bF hu0) (zv 4) aF (nomark _)) (i7 (aM (bF hu0) (b7 (b6 K) (zv 5) aF (fun _ _=>rfl)) aC (nomark _)) (fO (aM (a2Q K hu20) (zv 5) (aE (a7 aC (aB (aE sa_nil) sa_nil))) (nomark _))))).pt (aG (aO (a1B h9 (hr.mono (by omega))))) aV)
   (aD (bO (aM (bF hu0) (b7 (b6 K) (zv 5) aF (fun _ _=>rfl)) aC (nomark _)) (aG (aO (aT cF (hr.mono (by omega)) (a9 (zv 0) (a9 (zv 1) (b5 (aT iF (hr.mono (by omega)) (a9 (zv 0) (a9 (zv 1) sa_nil))) (a9 (zv 3) (cE (b8 cQ (zv 4) aF) sa_nil)))))))) aV)
   (aD (bO (aM (bF hu0) (b7 (b6 K) (zv 5) aF (fun _ _=>rfl)) aC (nomark _)) (aD (aL (i:=8) bX.nd rfl (Or.inl rfl) (bL (kM rfl) (by rfl) T.lU PyProof.Rows.boot_dict (a9 (zv 3) sa_nil)))
   (aD (aL (i:=9) bX.nd rfl (Or.inl rfl) (aT cD (hr.mono (by omega)) (a9 (zv 0) sa_nil)))
   (aD (uW hu (zv 8) (zv 9) (aT bU (hr.mono (by omega)) (a9 (zv 1) (aH (b7 (b6 K) (zv 5) aF (fun _ _=>rfl)) sa_nil))) rfl)
   (aD (aL (i:=10) bX.nd rfl (Or.inl rfl) (aT dE (hr.mono (by omega)) (a9 (zv 0) (a9 (zv 1) (aH (b7 (b6 K) (zv 5) aF (fun _ _=>rfl)) (a9 (zv 8) (cE (b8 cQ (zv 4) aF) sa_nil)))))))
   (aG (aO (aE (a7 aC (a9 (zv 9) (aH (b7 (b6 K) (zv 5) aF (fun _ _=>rfl)) (a9 (zv 10) sa_nil))))))))))) aV)
   (aD (bO (aM (bF hu0) (b7 (b6 K) (zv 5) aF (fun _ _=>rfl)) aC (nomark _)) (aD (lN (b7 (b6 K) (b7 (b6 K) (zv 5) aF (fun _ _=>rfl)) (aT aK (hr.mono (by omega)) (a9 (zv 0) (b5 (aQ (aZ K) (by rfl) T.n_len PySem.boot_len (aH (b7 (b6 K) (zv 5) aF (fun _ _=>rfl)) sa_nil)) sa_nil))) (fun _ _=>rfl)) (jG K (n:=2) rfl (bR (aR (i:=11) bX.nd rfl (Or.inl rfl)) (bR (aR (i:=12) bX.nd rfl (Or.inl rfl)) gG))))
   (aG (aO (aE (a7 aC (a9 (zv 11) (b5 (aT dE (hr.mono (by omega)) (a9 (zv 0) (a9 (zv 1) (a9 (zv 12) (a9 (zv 3) (cE (b8 cQ (zv 4) aF) sa_nil)))))) sa_nil))))))) aV)
   (aD (xX (i:=13) (own:=["_law_word","_law_other"]) (idx:=[0,1,3,4]) (N':=["_law_word","_law_other","_law_pen","_law_told","_law_known","_law_deep"]) (⟨rfl,by decide+kernel,by decide+kernel,(show ∀ y∈Scope.names _,y.2=NameKind.free→((defScope eR).names.lookup y.1=some NameKind.cell∨(defScope eR).names.lookup y.1=some NameKind.free) by decide+kernel),(show ∀ j∈([0,1,3,4]:List Nat),(Scope.names _).lookup ((["_law_pen","_law_told","_law_name","_law_known","_law_deep","_law_here","_law_row","_law_some","_law_inner","_law_bound","_law_made","_law_word","_law_other","_law_parts_here"]:List Str).getD j "")=some NameKind.free∧j < (["_law_pen","_law_told","_law_name","_law_known","_law_deep","_law_here","_law_row","_law_some","_law_inner","_law_bound","_law_made","_law_word","_law_other","_law_parts_here"]:List Str).length by decide+kernel),rfl⟩) rfl (kL K (b7 (b6 K) (zv 5) aF (fun _ _=>rfl))) (fun _ _ _ _ _ _=>(jG K (n:=2) rfl (bR (aR (i:=0) (show List.Nodup (["_law_word","_law_other","_law_pen","_law_told","_law_known","_law_deep"]:List Str) by decide+kernel) rfl (Or.inl rfl)) (bR (aR (i:=1) (show List.Nodup (["_law_word","_law_other","_law_pen","_law_told","_law_known","_law_deep"]:List Str) by decide+kernel) rfl (Or.inl rfl)) gG)))) (fun _ _ _ _ _ _=>cA) (fun _ _ _ _ _ _=>(aE (a9 (zv 0) (b5 (aT dE (hr.mono (by omega)) (a9 (zv 2) (a9 (zv 3) (a9 (zv 1) (a9 (zv 4) (cE (b8 cQ (zv 5) aF) sa_nil)))))) sa_nil)))) bX.nd rfl rfl)
   (aD (bO (aM (bF hu0) (aT aK (hr.mono (by omega)) (a9 (zv 0) (a7 aF sa_nil))) aF (nomark _)) (aG (cT (iT K PySem.F.plainAttrs_list PySem.F.slot_list_append PySem.F.type_list_append bQ (zv 13) (aB (aE (a7 aC (aB (aE (a7 aC (aB (aE sa_nil) sa_nil))) sa_nil))) sa_nil)))) aV)
   (aG (aO (aE (a7 aC (b5 (bL (cO K) (by rfl) T.cB PyProof.Rows.boot_tuple (a9 (zv 13) sa_nil)) sa_nil))))))))))))))),?_⟩
  refine aI ⟨a,xs,rs,_,_,x,rfl,g,(hm x).mp hx,fun v H1 s1 hv=>?_⟩
  have hq0:HV H v (hdOf rows (endOf rows x)):=hval _ v e1 (by rw [rl] at hv;exact hv)
  have hq:=hq0.tk s1.ts
  generalize hdOf rows (endOf rows x)=h at e2 e3 hq
  clear hq0 hval hv
  refine aI ⟨a,xs,rs,_,_,x,rfl,g.ts s1.ts,(hm x).mp hx,fun H2 s2=>?_⟩
  generalize rowEnd (nxOf rows) rs.length x=rw
  have W2:=(W.same s1).same s2
  have hq2:=hq.tk s2.ts
  have g2:=(g.ts s1.ts).ts s2.ts
  clear hq W
  obtain ⟨ks,k1,k2,k3⟩:=kk.keys
  refine aJ (fun σ' H'=>∃ (S:Addr) (ss:List Str),σ'=[some (.ref p),some (.ref a),some (.str x),some (.ref kn),some (.int (d:Int)),some v,some (.str rw),some (.ref S),none,none,none,none,none,none]∧H' S=some (.lst (ss.map V.str))∧ss.length≤8∧(∀ z∈ss,Shr z)∧Same H2 H') ?_ ?_
  ·intro nx hnx
   refine ⟨kn,kvs,ks,rfl,.inl W2.kn,k1,by omega,fun l ss' hl hp=>?_⟩
   have sl:=Same.upd hl (.lst (ss'.map V.str))
   have gl:upd H2 l (.lst (ss'.map V.str)) l=some (.lst (ss'.map V.str)):=aA
   generalize upd H2 l (.lst (ss'.map V.str))=Hl at sl gl
   have hsl:=hp.length_eq
   refine Or.inl ⟨⟨_,SqL.of gl⟩,fun D hD=>?_⟩
   refine d7 (cL (ss'.map V.str)) (fun i τ H'=>∃ (v0:Option V) (zs:List Str),τ=[v0,some (.ref kn),some (.str rw)]∧H' D=some (.lst (zs.map V.str))∧zs.length≤i∧(∀ z∈zs,Shr z)∧Same Hl H') ⟨none,[],rfl,aA,Nat.le_refl _,(fun _ h=>absurd h (by simp)),Same.upd hD _⟩ (by rintro i τ H' _ ⟨_,_,_,_,_,_,s⟩;exact SqL.of (s _ _ gl)) ?_ ?_
   ·rintro i τ H4 hi ⟨v0,zs,rfl,q1,q2,qs,q3⟩
    have hi':i < ss'.length:=by simpa using hi
    have eg:(ss'.map V.str).getD i .non=.str ss'[i]:=by simp [List.getD_eq_getElem?_getD,hi']
    rw [eg]
    obtain ⟨hsy,y,hy⟩:=k3 ss'[i] (hp.mem_iff.mp (List.getElem_mem hi'))
    refine ⟨kn,.str y,rfl,by rw [← hy];exact DGet.k (k:=Sum.inr ss'[i]) (q3 _ _ (sl _ _ W2.kn)),rfl,_,rfl,iteB (fun _=>?_) (fun _=>⟨_,zs,rfl,q1,by omega,qs,q3⟩)⟩
    exact ⟨_,q1,by simp;omega,_,zs++[ss'[i]],rfl,by rw [aA,List.map_append];rfl,by simp;omega,fun z hz=>(List.mem_append.mp hz).elim (qs z) (fun h=>List.mem_singleton.mp h▸hsy),q3.put hD⟩
   ·rintro τ H4 ⟨v0,zs,rfl,q1,q2,qs,q3⟩
    simp only [List.length_map] at q2
    exact hnx _ _ ⟨D,zs,rfl,q1,by omega,qs,sl.trans q3⟩
  rintro σ' H3 ⟨S,ss,rfl,gS,hS8,hShr,s3⟩
  have W3:=W2.same s3
  have hq3:=hq2.tk s3.ts
  have g3:=g2.ts s3.ts
  clear W2 hq2 g2
  have nnd:=lV d
  refine aJ (fun σ' H'=>σ'=[some (.ref p),some (.ref a),some (.str x),some (.ref kn),some (.int (d:Int)),some v,some (.str rw),some (.ref S),none,none,none,none,none,none]∧MW K H0 H H' p a kn (t+1) xs rows ns kvs∧Tk H3 H') ?_ ?_
  ·intro nx hnx
   refine lW (fun c H'=>MW K H0 H H' p a kn (t+1) xs rows ns kvs∧Tk H3 H'∧(c=true→ss≠[]∧H' S=some (.lst (ss.map V.str))∧S≠p)) (fun Q hQ=>?_) (fun H4 ⟨W4,tk4,hc⟩=>?_) (by rintro H4 ⟨W4,tk4,_⟩;exact hnx _ _ ⟨rfl,W4,tk4⟩)
   ·refine ⟨(show 0≤sizeLine by decide),fun b hb=>⟨aU gS hb,_,(Same.upd hb _) _ _ gS,aA,_,rfl,iteB (fun c=>?_) (fun c=>?_)⟩⟩
    ·have sb:=Same.upd hb (.lst [])
     have Wb:=W3.same sb
     have nSp:S≠p:=fun q=>by
      obtain ⟨a',ns',u',x',z,_⟩:=W3.hn.ex
      rw [q,z] at gS
      have:=congrArg (fun o=>match o with | some (HO.lst (y::_))=>y | _=>V.non) gS
      cases ss with
      | nil=>simp at this
      | cons _ _=>simp at this
     refine ⟨H0,p,3,t,rfl,Wb.hn,⟨by decide,by decide⟩,by omega,fun r H5 r0 r1 hn5 sm5=>⟨_,rfl,hQ _ _ ⟨Wb.draw hn5 sm5,sb.ts.trans (Wb.hn.ts sm5),fun _=>⟨fun z=>?_,sm5 _ _ (sb _ _ gS) nSp nSp,nSp⟩⟩⟩⟩
     subst z
     exact absurd c (by decide)
    ·exact hQ _ _ ⟨(W3.same (Same.upd hb _)).mono (by omega),(Same.upd hb _).ts,fun z=>absurd z (by decide)⟩
   ·obtain ⟨hne,gS4,nSp⟩:=hc rfl
    have hpos:0 < ss.length:=by
     cases ss with
     | nil=>exact absurd rfl hne
     | cons _ _=>simp
    refine .inl ⟨_,.inl (SqL.of gS4),H0,p,_,_,rfl,W4.hn,⟨by simp;omega,by simp;omega⟩,by omega,fun r H5 r0 r1 hn5 sm5=>?_⟩
    obtain ⟨i,rfl⟩:∃ i:Nat,r=(i:Int):=⟨r.toNat,by omega⟩
    have hi:i < ss.length:=by simpa using r1
    refine ⟨ss.map V.str,.str ss[i],.inl (SqL.of (sm5 _ _ gS4 nSp nSp)),bN (by simp [hi]),(show 2≤sizeLine by decide),fun b hb=>?_⟩
    exact k _ 1 _ ((vQ aA (hShr _ (List.getElem_mem hi))).up (by dsimp only;omega)) (by omega) ((hn5.same (Same.upd hb _)).mono (by omega)) (((W4.draw hn5 sm5).same (Same.upd hb _)).sm)
  rintro σ' H4 ⟨rfl,W4,tk4⟩
  have hq4:=hq3.tk tk4
  have g4:=g3.ts tk4
  clear W3 hq3 g3
  refine aJ (fun σ' H'=>σ'=[some (.ref p),some (.ref a),some (.str x),some (.ref kn),some (.int (d:Int)),some v,some (.str rw),some (.ref S),none,none,none,none,none,none]∧MW K H0 H H' p a kn (t+1) xs rows ns kvs∧Tk H4 H'∧0 < d∧Hd.s0 h≠"none"∧h≠.prs "pick" []) ?_ ?_
  ·intro nx hnx
   refine lW (fun c H'=>MW K H0 H H' p a kn (t+1) xs rows ns kvs∧Tk H4 H'∧(c=false→0 < d∧Hd.s0 h≠"none"∧h≠.prs "pick" [])) (fun Q hQ=>?_) (fun H5 ⟨W5,tk5,_⟩=>?_) (by rintro H5 ⟨W5,tk5,hc⟩;exact hnx _ _ ⟨rfl,W5,tk5,hc rfl⟩)
   ·refine ⟨rfl,_,rfl,iteB (fun c=>hQ _ _ ⟨W4,Tk.refl,fun z=>absurd z (by decide)⟩) (fun c0=>?_)⟩
    obtain ⟨b,ys,eb1,eb⟩:=tX hq4
    obtain ⟨b',xs',ds,eb2,f1,f2,f3,f4⟩:=a2J hq4 e3
    subst eb1
    cases eb2
    refine ⟨_,.str _,.inr (SqT.of eb),aW _ _,rfl,_,rfl,iteB (fun c=>hQ _ _ ⟨W4,Tk.refl,fun z=>absurd z (by decide)⟩) (fun c1=>?_)⟩
    refine ⟨(show 0≤sizeLine by decide),fun c1' h1=>⟨(show 2≤sizeLine by decide),fun b1 hb1=>?_⟩⟩
    have sA:=(Same.upd h1 (.tup [])).trans (Same.upd hb1 (.tup [.str "pick",.ref c1']))
    have gc:upd (upd H4 c1' (.tup [])) b1 (.tup [.str "pick",.ref c1']) c1'=some (.tup []):=Same.upd hb1 _ _ _ aA
    have gb:upd (upd H4 c1' (.tup [])) b1 (.tup [.str "pick",.ref c1']) b1=some (.tup [.str "pick",.ref c1']):=aA
    generalize upd (upd H4 c1' (.tup [])) b1 (.tup [.str "pick",.ref c1'])=H5 at sA gc gb
    refine ⟨b,b1,c1',"pick",xs',ds,rfl,rfl,sA _ _ f1,f2,fun i h1 h2=>(f3 i h1 h2).same sA,SqT.of gb,SqT.of gc,_,rfl,hQ _ _ ⟨W4.same sA,sA.ts,fun hc=>⟨?_,?_,f4 hc⟩⟩⟩
    ·rw [Bool.false_xor,decide_eq_false_iff_not] at c0
     exact Nat.pos_of_ne_zero fun z=>c0 (by rw [z];rfl)
    ·rw [Bool.false_xor,decide_eq_false_iff_not] at c1
     exact fun z=>c1 (by rw [z])
   ·refine ⟨rfl,fun v6 H6 s6 mk6=>?_⟩
    exact k v6 9 H6 (mk6.up (by dsimp only;omega)) (by omega) ((W5.hn.same s6).mono (by omega)) (W5.same s6).sm
  rintro σ' H5 ⟨rfl,W5,tk5,hd0,hnn,hnp⟩
  have hq5:=hq4.tk tk5
  have g5:=g4.ts tk5
  clear W4 hq4 g4
  obtain ⟨d',rfl⟩:∃ d',d=d'+1:=⟨d - 1,by omega⟩
  have eN:NN (d'+1)=12*NN d'+40:=rfl
  have ed:(((d'+1:Nat):Int)) - 1=(d':Int):=by omega
  have nnd':=lV d'
  cases hq5 with
  | @as b y e=>cases e2
  | @one b s e=>
   rcases e3 with rfl | rfl
   ·refine aJ (fun _ _=>False) (fun nx hnx=>?_) (fun _ _ h=>h.elim)
    refine ⟨_,.str _,.inr (SqT.of e),aW _ _,rfl,_,rfl,iteB (fun _=>?_) (fun c=>absurd c (by decide+kernel))⟩
    refine ⟨H0,p,a,_,xs,rows,ns,WW,rfl,W5.hn,by omega,W5.rt,fun nm H6 hnm hn6 sm6=>?_⟩
    have W6:=W5.draw hn6 sm6
    refine ⟨H0,p,a,kn,_,xs,rows,ns,kvs,nm,d',by rw [ed];rfl,W6.hn,by omega,W6.rt,hnm,W6.kn,kk,by omega,by omega,fun v7 s7 H7 mk7 hs7 hn7 sm7=>?_⟩
    exact k v7 s7 H7 (mk7.up (by dsimp only;omega)) (by omega) (hn7.mono (by omega)) (W6.draw hn7 sm7).sm
   ·exact absurd rfl hnn
  | @way b y z e=>
   refine aJ (fun σ' H'=>σ'=[some (.ref p),some (.ref a),some (.str x),some (.ref kn),some (.int ((d'+1:Nat):Int)),some (.ref b),some (.str rw),some (.ref S),none,none,none,none,none,none]∧H5=H') (fun nx hnx=>⟨_,.str _,.inr (SqT.of e),aW _ _,rfl,_,rfl,iteB (fun c=>absurd c (by decide+kernel)) (fun _=>hnx _ _ ⟨rfl,rfl⟩)⟩) ?_
   rintro σ' _ ⟨rfl,rfl⟩
   refine aJ (fun _ _=>False) (fun nx hnx=>?_) (fun _ _ h=>h.elim)
   refine ⟨_,.str _,.inr (SqT.of e),aW _ _,rfl,_,rfl,iteB (fun _=>?_) (fun c=>absurd c (by decide+kernel))⟩
   refine aI ⟨kn,kvs,rfl,.inl W5.kn,fun l hl=>?_⟩
   have sl:=Same.upd hl (.dK kvs)
   have gl:upd H5 l (.dK kvs) l=some (.dK kvs):=aA
   have fl:=W5.free hl
   have nkl:kn≠l:=fun q=>by have:=W5.kn;rw [q,hl] at this;cases this
   have W6:=W5.same sl
   have e6:=sl _ _ e
   have g6:=g5.ts sl.ts
   generalize upd H5 l (.dK kvs)=H6 at sl gl W6 e6 g6
   have nlp:=W6.neD gl
   refine aI ⟨H0,p,_,rfl,W6.hn,by omega,fun bn H7 hbn hn7 sm7=>?_⟩
   have W7:=W6.draw hn7 sm7
   have tk7:=W6.hn.ts sm7
   have e7:=tk7 _ _ e6
   have gl7:=sm7 _ _ gl nlp nlp
   refine ⟨_,.str y,.inr (SqT.of e7),rfl,a,xs,rs,_,_,y,rfl,g6.ts tk7,(hm y).mp e3.2.2.1,fun H8 s8=>⟨l,_,rfl,.inl ⟨kvs,.inr bn,s8 _ _ gl7,rfl,by omega,rfl⟩,?_⟩⟩
   have W8:=W7.same s8
   have gl8:=s8 _ _ gl7
   have W9:=W8.dput (kv':=putK kvs (.inr bn) (.str (rowEnd (nxOf rows) rs.length y))) gl8 fl nkl
   have tk9:=qV (kv':=putK kvs (.inr bn) (.str (rowEnd (nxOf rows) rs.length y))) gl8
   have e9:=tk9 _ _ (s8 _ _ e7)
   have gl9:upd H8 l (.dK (putK kvs (.inr bn) (.str (rowEnd (nxOf rows) rs.length y)))) l=some (.dK (putK kvs (.inr bn) (.str (rowEnd (nxOf rows) rs.length y)))):=aA
   generalize upd H8 l (.dK (putK kvs (.inr bn) (.str (rowEnd (nxOf rows) rs.length y))))=H9 at W9 e9 gl9
   have hpl:=oT (kvs:=kvs) bn (rowEnd (nxOf rows) rs.length y)
   dsimp only
   refine aI ⟨_,.str z,.inr (SqT.of e9),rfl,H0,p,a,l,_,xs,rows,ns,_,z,d',by rw [ed];rfl,W9.hn,by dsimp only;omega,W9.rt,e3.2.2.2,gl9,kk.put _ (j7 hbn),by omega,by omega,fun v10 s10 H10 mk10 hs10 hn10 sm10=>?_⟩
   have W10:=W9.draw hn10 sm10
   have e10:=(W9.hn.ts sm10) _ _ e9
   refine ⟨_,.str y,.inr (SqT.of e10),rfl,(show 4≤sizeLine by decide),fun r hr'=>?_⟩
   have sr:=Same.upd hr' (.tup [.str "fn",.str bn,.str y,v10])
   exact k _ (1+s10) _ ((i5 (.fn aA (j7 hbn) (iW e3.1)) (mk10.tk sr.ts)).up (by dsimp only;omega)) (by dsimp only at hs10;omega) ((hn10.same sr).mono (by dsimp only;omega)) (W10.same sr).sm
  | @prs b c s ys ps e ec hp=>
   have hpl:=hp.len
   have ok10:=e3.2.2.2
   refine aJ (fun σ' H'=>σ'=[some (.ref p),some (.ref a),some (.str x),some (.ref kn),some (.int ((d'+1:Nat):Int)),some (.ref b),some (.str rw),some (.ref S),none,none,none,none,none,none]∧H5=H') (fun nx hnx=>⟨_,.str _,.inr (SqT.of e),aW _ _,rfl,_,rfl,iteB (fun c=>absurd c (by rcases e3.1 with rfl | rfl<;>decide+kernel)) (fun _=>hnx _ _ ⟨rfl,rfl⟩)⟩) ?_
   rintro σ' _ ⟨rfl,rfl⟩
   refine aJ (fun σ' H'=>σ'=[some (.ref p),some (.ref a),some (.str x),some (.ref kn),some (.int ((d'+1:Nat):Int)),some (.ref b),some (.str rw),some (.ref S),none,none,none,none,none,none]∧H5=H') (fun nx hnx=>⟨_,.str _,.inr (SqT.of e),aW _ _,rfl,_,rfl,iteB (fun c=>absurd c (by rcases e3.1 with rfl | rfl<;>decide+kernel)) (fun _=>hnx _ _ ⟨rfl,rfl⟩)⟩) ?_
   rintro σ' _ ⟨rfl,rfl⟩
   rcases e3.1 with rfl | rfl
   ·refine aJ (fun σ' H'=>σ'=[some (.ref p),some (.ref a),some (.str x),some (.ref kn),some (.int ((d'+1:Nat):Int)),some (.ref b),some (.str rw),some (.ref S),none,none,none,none,none,none]∧H5=H') (fun nx hnx=>⟨_,.str _,.inr (SqT.of e),aW _ _,rfl,_,rfl,iteB (fun c=>absurd c (by decide+kernel)) (fun _=>hnx _ _ ⟨rfl,rfl⟩)⟩) ?_
    rintro σ' _ ⟨rfl,rfl⟩
    refine aJ (fun σ' H'=>∃ (D:Addr) (zs:List V),σ'=[some (.ref p),some (.ref a),some (.str x),some (.ref kn),some (.int ((d'+1:Nat):Int)),some (.ref b),some (.str rw),some (.ref S),none,none,none,none,none,some (.ref D)]∧D≠p∧H D=none∧H' D=some (.lst zs)∧zs.length≤10∧MW K H0 H H' p a kn (t+1+10*(NN d'+1)) xs rows ns kvs∧RowMk H' 1 zs (6+3*d') (10*(NN d'+3))) ?_ ?_
    ·intro nx hnx
     refine ⟨_,.ref c,.inr (SqT.of e),rfl,Or.inr ⟨⟨ys,SqT.of ec⟩,fun D hD=>?_⟩⟩
     have fD:=W5.free hD
     have nD:=W5.hn.ne hD
     refine d7 (cS ys) (fun i τ H'=>∃ (v0 v1:Option V) (zs:List V),τ=[v0,v1,some (.ref p),some (.ref a),some (.ref kn),some (.int ((d'+1:Nat):Int))]∧H' D=some (.lst zs)∧zs.length=i∧MW K H0 H H' p a kn (t+1+i*(NN d'+1)) xs rows ns kvs∧Tk H5 H'∧RowMk H' 1 zs (6+3*d') (i*(NN d'+3)))
      ⟨none,none,[],rfl,aA,rfl,by simpa using W5.same (Same.upd hD _),(Same.upd hD _).ts,by simpa using RowMk.nil⟩ (by rintro i τ H' _ ⟨_,_,_,_,_,_,_,s,_⟩;exact SqT.of (s _ _ ec)) ?_ ?_
     ·rintro i τ H6 hi ⟨v0,v1,zs,rfl,q1,q2,q3,q4,q5⟩
      have hip:i < ps.length:=by omega
      have hi10:i≤9:=by omega
      have m1:(i+1)*(NN d'+1)=i*(NN d'+1)+(NN d'+1):=Nat.succ_mul ..
      have m2:(i+1)*(NN d'+3)=i*(NN d'+3)+(NN d'+3):=Nat.succ_mul ..
      have m3:i*(NN d'+1)≤9*(NN d'+1):=Nat.mul_le_mul_right _ hi10
      obtain ⟨dd,r1,r2⟩:=hp.at_ i hi hip
      have eg:ys.getD i .non=.ref dd:=by rw [List.getD_eq_getElem?_getD,List.getElem?_eq_getElem hi,r1];rfl
      rw [eg]
      refine kW (q4 _ _ r2) ?_
      refine ⟨H0,p,a,kn,_,xs,rows,ns,kvs,_,d',by rw [ed];rfl,q3.hn,by dsimp only;omega,q3.rt,(e3.2.1 _ (List.getElem_mem hip)).2.2,q3.kn,kk,by omega,by omega,fun v10 s10 H10 mk10 hs10 hn10 sm10=>⟨(show 2≤sizeLine by decide),fun r hr'=>?_⟩⟩
      dsimp only at hs10 hn10 mk10
      have sr:=Same.upd hr' (.tup [.str ps[i].1,v10])
      have gr:upd H10 r (.tup [.str ps[i].1,v10]) r=some (.tup ([.str ps[i].1]++[v10])):=aA
      have W11:=(q3.draw hn10 sm10).same sr
      have q11:=sr _ _ (sm10 _ _ q1 nD nD)
      have tk11:=(q3.hn.ts sm10).trans sr.ts
      have mk11:=mk10.tk sr.ts
      generalize upd H10 r (.tup [.str ps[i].1,v10])=H11 at sr gr W11 q11 tk11 mk11
      have tkD:Tk H11 (upd H11 D (.lst (zs++[.ref r]))):=(Tk.refl).set q11 (by intro _ z;cases z)
      refine ⟨zs,q11,by omega,_,_,zs++[.ref r],rfl,aA,by simp [q2],(W11.lput q11 fD nD).mono (by omega),q4.trans (tk11.trans tkD),(((q5.tk tk11).snoc gr (.one (iW (e3.2.1 _ (List.getElem_mem hip)).1)) mk11 (by omega) (by omega)).tk tkD)⟩
     ·rintro τ H6 ⟨v0,v1,zs,rfl,q1,q2,q3,q4,q5⟩
      have m3:ys.length*(NN d'+1)≤10*(NN d'+1):=Nat.mul_le_mul_right _ (by omega)
      have m4:ys.length*(NN d'+3)≤10*(NN d'+3):=Nat.mul_le_mul_right _ (by omega)
      exact hnx _ _ ⟨D,zs,rfl,nD,fD,q1,by omega,q3.mono (by omega),q5.fall (Nat.le_refl _) m4⟩
    rintro σ' H6 ⟨D,zs,rfl,nD,fD,q1,q2,q3,q5⟩
    refine aJ (fun σ' H'=>∃ (zs:List V),σ'=[some (.ref p),some (.ref a),some (.str x),some (.ref kn),some (.int ((d'+1:Nat):Int)),some (.ref b),some (.str rw),some (.ref S),none,none,none,none,none,some (.ref D)]∧H' D=some (.lst zs)∧zs.length≤11∧MW K H0 H H' p a kn (t+2+10*(NN d'+1)) xs rows ns kvs∧RowMk H' 1 zs (6+3*d') (10*(NN d'+3)+1)) ?_ ?_
    ·intro nx hnx
     refine ⟨H0,p,3,_,rfl,q3.hn,⟨by decide,by decide⟩,by omega,fun r H7 r0 r1 hn7 sm7=>⟨rfl,_,rfl,iteB (fun _=>?_) (fun _=>hnx _ _ ⟨zs,rfl,sm7 _ _ q1 nD nD,by omega,(q3.draw hn7 sm7).mono (by omega),(q5.tk (q3.hn.ts sm7)).fall (Nat.le_refl _) (by omega)⟩)⟩⟩
     have W7:=q3.draw hn7 sm7
     have q7:=q5.tk (q3.hn.ts sm7)
     have g7:=sm7 _ _ q1 nD nD
     refine ⟨.inl ⟨rfl,_,SqL.of g7⟩,(show 0≤sizeLine by decide),fun c1 h1=>⟨(show 2≤sizeLine by decide),fun c2 h2=>⟨(show 2≤sizeLine by decide),fun c3 h3=>?_⟩⟩⟩
     have t1:=Same.upd h1 (.tup [])
     have t2:=Same.upd h2 (.tup [.str "box",.ref c1])
     have t3:=Same.upd h3 (.tup [.str "z",.ref c2])
     have f1:_=some (HO.tup []):=t3 _ _ (t2 _ _ (aA:upd H7 c1 (.tup []) c1=_))
     have f2:=t3 _ _ (aA:upd (upd H7 c1 (.tup [])) c2 (.tup [.str "box",.ref c1]) c2=_)
     have f3:upd (upd (upd H7 c1 (.tup [])) c2 (.tup [.str "box",.ref c1])) c3 (.tup [.str "z",.ref c2]) c3=some (.tup ([.str "z"]++[.ref c2])):=aA
     have tt:=(t1.trans t2).trans t3
     generalize upd (upd (upd H7 c1 (.tup [])) c2 (.tup [.str "box",.ref c1])) c3 (.tup [.str "z",.ref c2])=H8 at f1 f2 f3 tt
     have g8:=tt _ _ g7
     have tkD:Tk H8 (upd H8 D (.lst (zs++[.ref c3]))):=(Tk.refl).set g8 (by intro _ z;cases z)
     exact ⟨D,zs,_,rfl,rfl,g8,by omega,hnx _ _ ⟨zs++[.ref c3],rfl,aA,by simp;omega,((W7.same tt).lput g8 fD nD).mono (by omega),((q7.tk tt.ts).snoc f3 (.one a2n) ((nB f2 f1).up (by omega)) (by omega) (by omega)).tk tkD⟩⟩
    rintro σ' H7 ⟨zs,rfl,q1,q2,q3,q5⟩
    refine ⟨D,zs,rfl,Or.inl ⟨SqL.of q1,fun r1 hr1=>⟨(show 2≤sizeLine by decide),fun r2 hr2=>?_⟩⟩⟩
    have t1:=Same.upd hr1 (.tup zs)
    have t2:=Same.upd hr2 (.tup [.str "box",.ref r1])
    have f1:=t2 _ _ (aA:upd H7 r1 (.tup zs) r1=_)
    have tt:=t1.trans t2
    obtain ⟨sz,hs1,hs2⟩:=a0C aA f1 (q5.tk tt.ts)
    exact k _ sz _ (hs2.up (by dsimp only;omega)) (by omega) ((q3.hn.same tt).mono (by omega)) (q3.same tt).sm
   ·have hpos:0 < ps.length:=by
     cases ps with
     | nil=>exact absurd rfl hnp
     | cons _ _=>simp
    refine aJ (fun _ _=>False) (fun nx hnx=>?_) (fun _ _ h=>h.elim)
    refine ⟨_,.str _,.inr (SqT.of e),aW _ _,rfl,_,rfl,iteB (fun _=>?_) (fun c=>absurd c (by decide+kernel))⟩
    refine ⟨_,.ref c,.inr (SqT.of e),rfl,_,.ref c,.inr (SqT.of e),rfl,.inl ⟨_,.inr (SqT.of ec),H0,p,_,_,rfl,W5.hn,⟨by omega,by omega⟩,by omega,fun r H6 r0 r1 hn6 sm6=>?_⟩⟩
    obtain ⟨i,rfl⟩:∃ i:Nat,r=(i:Int):=⟨r.toNat,by omega⟩
    have hi:i < ps.length:=by omega
    have W6:=W5.draw hn6 sm6
    have tk6:=W5.hn.ts sm6
    obtain ⟨dd,r1',r2'⟩:=hp.at_ i (by omega) hi
    refine ⟨ys,.ref dd,.inr (SqT.of (tk6 _ _ ec)),bN (by rw [List.getElem?_eq_getElem (by omega),r1']),?_⟩
    refine kW (tk6 _ _ r2') ?_
    refine ⟨H0,p,a,kn,_,xs,rows,ns,kvs,_,d',by rw [ed];rfl,W6.hn,by dsimp only;omega,W6.rt,(e3.2.1 _ (List.getElem_mem hi)).2.2,W6.kn,kk,by omega,by omega,fun v10 s10 H10 mk10 hs10 hn10 sm10=>⟨(show 3≤sizeLine by decide),fun r hr'=>?_⟩⟩
    have sr:=Same.upd hr' (.tup [.str "pick",.str ps[i].1,v10])
    exact k _ (1+s10) _ ((i5 (.pick aA (iW (e3.2.1 _ (List.getElem_mem hi)).1)) (mk10.tk sr.ts)).up (by dsimp only;omega)) (by dsimp only at hs10;omega) ((hn10.same sr).mono (by dsimp only;omega)) ((W6.draw hn10 sm10).same sr).sm
set_option maxHeartbeats 2000000 in
theorem kN (T:Txt K mg w) (n:Nat) (cF:FnK P w K mg base (6+3*n) "_law_for" ["_law_pen","_law_told","_law_name","_law_known","_law_deep"] (spFr K n)):
  FnK P w K mg base (6+3*n+1) "_law_split_over" ["_law_pen","_law_told","_law_name","_law_known","_law_deep"] (spSo K n):=by
 have aK:FnK P w K mg base 2 "_law_next" ["_law_pen","_law_many"] (spNx K):=bC T
 have bU:FnK P w K mg base 1 "_law_row_here" ["_law_told","_law_name"] spRowOf:=dL T
 have cD:FnK P w K mg base 3 "_law_name_bound" ["_law_pen"] (spBound K):=eB T
 refine T.m8.okS (k:=6+3*n) bA (fun vs H Q E h=>?_) (fun f cdv A outer s H vs Q E hr h=>?_)
 ·obtain ⟨H0,p,a,kn,t,xs,rows,ns,kvs,x,d,rfl,_⟩:=h
  rfl
 ·obtain ⟨H0,p,a,kn,t,xs,rows,ns,kvs,x,d,rfl,hn,ht,rt,hx,hk,kk,hkl,⟨hd0,hd⟩,k⟩:=h
  have hu:=bD hr
  have hu0:=Nat.lt_of_succ_lt (bD hr)
  have hu20:=rQ hr
  have hsz:sizeLine=16777216:=sizeLine_eq
  obtain ⟨d',rfl⟩:∃ d',d=d'+1:=⟨d - 1,by omega⟩
  have eN:NN (d'+1)=12*NN d'+40:=rfl
  have ed:(((d'+1:Nat):Int)) - 1=(d':Int):=by omega
  have nnd':=lV d'
  obtain ⟨rs,g,nm,rl,hval⟩:=rt.good fun z hz=>(u9 z hz).2
  have hm:∀ z,z∈ns↔z∈rs.map (·.1):=fun z=>by rw [nm];exact rt.nm.mem_iff.symm
  have few:=rt.few
  have hrl:=rt.rl
  have hxl:=rt.rv.len
  have W:MW K H0 H H p a kn t xs rows ns kvs:=⟨hn,rt,hk,Sm.refl,hn.sm⟩
  refine ⟨_,(aD (xX (i:=5) (own:=["_law_row","_law_here"]) (idx:=[]) (N':=["_law_row","_law_here"]) (⟨rfl,by decide+kernel,by decide+kernel,(show ∀ y∈Scope.names _,y.2=NameKind.free→((defScope cC).names.lookup y.1=some NameKind.cell∨(defScope cC).names.lookup y.1=some NameKind.free) by decide+kernel),(show ∀ j∈([]:List Nat),(Scope.names _).lookup ((["_law_pen","_law_told","_law_name","_law_known","_law_deep","_law_rows","_law_row","_law_held","_law_cases","_law_word","_law_other","_law_bound","_law_inner","_law_made"]:List Str).getD j "")=some NameKind.free∧j < (["_law_pen","_law_told","_law_name","_law_known","_law_deep","_law_rows","_law_row","_law_held","_law_cases","_law_word","_law_other","_law_bound","_law_inner","_law_made"]:List Str).length by decide+kernel),rfl⟩) rfl (kL K (zv 1)) (fun _ _ _ _ _ _=>(jG K (n:=2) rfl (bR (aR (i:=0) (show List.Nodup (["_law_row","_law_here"]:List Str) by decide+kernel) rfl (Or.inl rfl)) (bR (aR (i:=1) (show List.Nodup (["_law_row","_law_here"]:List Str) by decide+kernel) rfl (Or.inl rfl)) gG)))) (fun _ _ _ _ _ _=>(yA (jZ (aM (bF hu0) (b7 (b6 K) (zv 1) aF (fun _ _=>rfl)) aC (nomark _)) (hU (aM (a0s hu20) (b7 (b6 K) (zv 1) aF (fun _ _=>rfl)) (aE sa_nil) (nomark _)))).pt)) (fun _ _ _ _ _ _=>(zv 0)) bA.nd rfl rfl)
   (aD (bO (aM (bF hu0) (zv 5) (b4 sa_nil) (nomark _)) (aG (aO (aT cF (hr.mono (by omega)) (a9 (zv 0) (a9 (zv 1) (a9 (zv 2) (a9 (zv 3) (a9 (zv 4) sa_nil)))))))) aV)
   (aD (aL (i:=6) bA.nd rfl (Or.inl rfl) (b7 (b6 K) (zv 5) (aT aK (hr.mono (by omega)) (a9 (zv 0) (b5 (aQ (aZ K) (by rfl) T.n_len PySem.boot_len (a9 (zv 5) sa_nil)) sa_nil))) (fun _ _=>rfl)))
   (aD (aL (i:=7) bA.nd rfl (Or.inl rfl) (aE (a7 aC (b5 (aT cF (hr.mono (by omega)) (a9 (zv 0) (a9 (zv 1) (a9 (zv 6) (a9 (zv 3) (cE (b8 cQ (zv 4) aF) sa_nil)))))) (a9 (zv 6) sa_nil)))))
   (aD (aL (i:=8) bA.nd rfl (Or.inl rfl) (b4 sa_nil))
   (aD (gX PassesOwn.never rfl (kL K (b7 (b6 K) (oC hu (bL (iM rfl) (by rfl) T.lU PyProof.Rows.boot_dict (a9 (zv 1) sa_nil)) (zv 6) (fun _ _=>rfl)) aF (fun _ _=>rfl))) (jG K (n:=2) rfl (bR (aR (i:=9) bA.nd rfl (Or.inl rfl)) (bR (aR (i:=10) bA.nd rfl (Or.inl rfl)) gG))) (aD (aL (i:=11) bA.nd rfl (Or.inl rfl) (aT cD (hr.mono (by omega)) (a9 (zv 0) sa_nil)))
   (aD (aL (i:=12) bA.nd rfl (Or.inl rfl) (bL (kM rfl) (by rfl) T.lU PyProof.Rows.boot_dict (a9 (zv 3) sa_nil)))
   (aD (uW hu (zv 12) (zv 11) (aT bU (hr.mono (by omega)) (a9 (zv 1) (a9 (zv 10) sa_nil))) rfl)
   (aD (aL (i:=13) bA.nd rfl (Or.inl rfl) (aT cF (hr.mono (by omega)) (a9 (zv 0) (a9 (zv 1) (a9 (zv 2) (a9 (zv 12) (cE (b8 cQ (zv 4) aF) sa_nil)))))))
   (aG (cT (iT K PySem.F.plainAttrs_list PySem.F.slot_list_append PySem.F.type_list_append bQ (zv 8) (aB (aE (a9 (zv 9) (a9 (zv 11) (a9 (zv 13) sa_nil)))) sa_nil)))))))))
   (aD (bO (aM (bF hu0) (aT aK (hr.mono (by omega)) (a9 (zv 0) (a7 aF sa_nil))) aF (nomark _)) (aG (cT (iT K PySem.F.plainAttrs_list PySem.F.slot_list_append PySem.F.type_list_append bQ (zv 8) (aB (aE (a7 aC (a7 aC (aB (aE (a7 aC (aB (aE (a7 aC (aB (aE sa_nil) sa_nil))) (a7 aC sa_nil)))) sa_nil)))) sa_nil)))) aV)
   (aG (aO (aE (a7 aC (a9 (zv 7) (b5 (bL (cO K) (by rfl) T.cB PyProof.Rows.boot_tuple (a9 (zv 8) sa_nil)) sa_nil))))))))))))),?_⟩
  refine aJ (fun σ' H'=>∃ (R:Addr) (zs:List Str),σ'=[some (.ref p),some (.ref a),some (.str x),some (.ref kn),some (.int ((d'+1:Nat):Int)),some (.ref R),none,none,none,none,none,none,none,none]∧R≠p∧H' R=some (.lst (zs.map V.str))∧zs.length≤10∧(∀ z∈zs,∃ ps,(z,Hd.prs "pick" ps)∈rows)∧Same H H') ?_ ?_
  ·intro nx hnx
   refine Or.inr ⟨⟨xs,SqT.of rt.at_⟩,fun D hD=>?_⟩
   refine d7 (cS xs) (fun i τ H'=>∃ (v0 v1:Option V) (zs:List Str),τ=[v0,v1]∧H' D=some (.lst (zs.map V.str))∧zs.length≤i∧(∀ z∈zs,∃ ps,(z,Hd.prs "pick" ps)∈rows)∧Same H H') ⟨none,none,[],rfl,aA,Nat.le_refl _,(fun z hz=>by cases hz),Same.upd hD _⟩ (by rintro i τ H' _ ⟨_,_,_,_,_,_,_,s⟩;exact SqT.of (s _ _ rt.at_)) ?_ ?_
   ·rintro i τ H1 hi ⟨v0,v1,zs,rfl,q1,q2,q3,q4⟩
    have hir:i < rows.length:=by omega
    obtain ⟨b,v,r1,r2,r3⟩:=rt.rv.at_ i hi hir
    have eg:xs.getD i .non=.ref b:=by rw [List.getD_eq_getElem?_getD,List.getElem?_eq_getElem hi,r1];rfl
    rw [eg]
    have okr:=(rt.ok _ (List.getElem_mem hir)).2
    have hmem:=List.getElem_mem hir
    generalize rows[i]=rw at r2 r3 okr hmem
    obtain ⟨rn,rh⟩:=rw
    refine kW (q4 _ _ r2) ?_
    have hv:=r3.tk q4.ts
    obtain ⟨b',ys,eb1,eb⟩:=tX hv
    subst eb1
    refine ⟨_,.str _,.inr (SqT.of eb),aW _ _,rfl,_,rfl,iteB (fun c=>?_) (fun _=>iteF ⟨_,_,zs,rfl,q1,by omega,q3,q4⟩)⟩
    have c':Hd.s0 rh="pick":=by
     rw [Bool.false_xor,decide_eq_true_iff] at c
     exact V.str.inj c
    have hp:∃ ps,rh=.prs "pick" ps:=by
     cases rh with
     | one s=>rcases okr with rfl | rfl<;>exact absurd c' (by decide+kernel)
     | as y=>exact absurd (show ("as":Str)="pick" from c') (by decide+kernel)
     | way y z=>exact absurd (show ("way":Str)="pick" from c') (by decide+kernel)
     | prs s ps=>exact ⟨ps,by rw [show s="pick" from c']⟩
    obtain ⟨ps,rfl⟩:=hp
    cases hv with
    | @prs _ c2 _ ys2 _ e ec hp=>
     refine ⟨_,.ref c2,.inr (SqT.of e),rfl,(show 0≤sizeLine by decide),fun e0 he0=>⟨c2,e0,ys2,rfl,rfl,Same.upd he0 _ _ _ ec,aA,_,rfl,iteB (fun _=>?_) (fun _=>⟨_,_,zs,rfl,Same.upd he0 _ _ _ q1,by omega,q3,q4.trans (Same.upd he0 _)⟩)⟩⟩
     refine ⟨_,Same.upd he0 _ _ _ q1,by simp;omega,_,_,zs++[rn],rfl,by rw [aA,List.map_append];rfl,by simp;omega,fun z hz=>?_,(q4.trans (Same.upd he0 _)).put hD⟩
     rcases List.mem_append.mp hz with h | h
     ·exact q3 z h
     ·rw [List.mem_singleton.mp h];exact ⟨ps,hmem⟩
   ·rintro τ H1 ⟨v0,v1,zs,rfl,q1,q2,q3,q4⟩
    exact hnx _ _ ⟨D,zs,rfl,hn.ne hD,q1,by omega,q3,q4⟩
  rintro σ' H1 ⟨R,zs,rfl,nR,gR,hz10,hzp,s1⟩
  have W1:=W.same s1
  refine aJ (fun σ' H'=>zs≠[]∧σ'=[some (.ref p),some (.ref a),some (.str x),some (.ref kn),some (.int ((d'+1:Nat):Int)),some (.ref R),none,none,none,none,none,none,none,none]∧Same H1 H') ?_ ?_
  ·intro nx hnx
   refine lW (fun c H'=>Same H1 H'∧(c=false→zs≠[])) (fun Q hQ=>?_) (fun H2 ⟨s2,_⟩=>?_) (by rintro H2 ⟨s2,hc⟩;exact hnx _ _ ⟨hc rfl,rfl,s2⟩)
   ·refine ⟨(show 0≤sizeLine by decide),fun b hb=>⟨aU gR hb,_,(Same.upd hb _) _ _ gR,aA,_,rfl,hQ _ _ ⟨Same.upd hb _,fun c z=>?_⟩⟩⟩
    subst z
    exact absurd c (by decide)
   ·have W2:=W1.same s2
    refine ⟨H0,p,a,kn,_,xs,rows,ns,kvs,x,d'+1,rfl,W2.hn,ht,W2.rt,hx,W2.kn,kk,hkl,hd,fun v7 s7 H7 mk7 hs7 hn7 sm7=>?_⟩
    exact k v7 s7 H7 mk7 hs7 hn7 (W2.draw hn7 sm7).sm
  rintro σ' H2 ⟨hne,rfl,s2⟩
  have W2:=W1.same s2
  have gR2:=s2 _ _ gR
  have hpos:0 < zs.length:=by
   cases zs with
   | nil=>exact absurd rfl hne
   | cons _ _=>simp
  refine aI (.inl ⟨_,.inl (SqL.of gR2),H0,p,_,_,rfl,W2.hn,⟨by simp;omega,by simp;omega⟩,by omega,fun r H3 r0 r1 hn3 sm3=>?_⟩)
  obtain ⟨i,rfl⟩:∃ i:Nat,r=(i:Int):=⟨r.toNat,by omega⟩
  have hi:i < zs.length:=by simpa using r1
  have W3:=W2.draw hn3 sm3
  refine ⟨zs.map V.str,.str zs[i],.inl (SqL.of (sm3 _ _ gR2 nR nR)),bN (by simp [hi]),?_⟩
  obtain ⟨ps,hzr⟩:=hzp _ (List.getElem_mem hi)
  have hzn:zs[i]∈ns:=rt.nm.mem_iff.mp (List.mem_map.mpr ⟨_,hzr,rfl⟩)
  have hzh:hdOf rows zs[i]=.prs "pick" ps:=jD rt.ndr hzr
  have okz:(Hd.prs "pick" ps).ok ns:=(rt.ok _ hzr).2
  generalize zs[i]=z at hzr hzn hzh
  refine aI ⟨H0,p,a,kn,_,xs,rows,ns,kvs,z,d',by rw [ed];rfl,W3.hn,by omega,W3.rt,hzn,W3.kn,kk,by omega,by omega,fun v4 s4 H4 mk4 hs4 hn4 sm4=>⟨(show 3≤sizeLine by decide),fun c5 hc5=>?_⟩⟩
  have W4:=W3.draw hn4 sm4
  have t5:=Same.upd hc5 (.tup [.str "hold",v4,.str z])
  have mk5:MkT (upd H4 c5 (.tup [.str "hold",v4,.str z])) (5+3*d') (1+s4) (.ref c5):=(i5 (.hold aA (iW (rt.ok _ hzr).1)) (mk4.tk t5.ts)).up (by dsimp only;omega)
  have W5:=W4.same t5
  generalize upd H4 c5 (.tup [.str "hold",v4,.str z])=H5 at t5 mk5 W5
  refine aI ⟨(show 0≤sizeLine by decide),fun C hC=>?_⟩
  have t6:=Same.upd hC (.lst [])
  have gC:upd H5 C (.lst []) C=some (.lst []):=aA
  have fC:=W5.free hC
  have nC:=W5.hn.ne hC
  have W6:=W5.same t6
  have mk6:=mk5.tk t6.ts
  generalize upd H5 C (.lst [])=H6 at t6 gC W6 mk6
  have tk16:Tk H H6:=s1.ts.trans (s2.ts.trans ((W2.hn.ts sm3).trans ((W3.hn.ts sm4).trans (t5.ts.trans t6.ts))))
  have g6:=g.ts tk16
  clear W1 W2 W3 W4 W5 mk5 hn3 hn4
  refine aJ (fun σ' H'=>∃ (ws:List V) (v9 v10 v11 v12 v13:Option V),σ'=[some (.ref p),some (.ref a),some (.str x),some (.ref kn),some (.int ((d'+1:Nat):Int)),some (.ref R),some (.str z),some (.ref c5),some (.ref C),v9,v10,v11,v12,v13]∧H' C=some (.lst ws)∧ws.length≤10∧MW K H0 H H' p a kn (t+1+NN d'+10*(NN d'+1)) xs rows ns kvs∧RowMk H' 2 ws (4+3*d') (10*NN d')∧MkT H' (5+3*d') (1+s4) (.ref c5)) ?_ ?_
  ·intro nx hnx
   refine ⟨a,xs,rowsK rs,rfl,g6.at_,g6.ps,(by simp;omega),fun dc hdc=>?_⟩
   obtain ⟨v,hv,hvl⟩:=g.get ((hm z).mp hzn)
   have t7:=Same.upd hdc (.dK (dictOf (rowsK rs)))
   have hdg:DGet (upd H6 dc (.dK (dictOf (rowsK rs)))) dc (.str z) (some v):=by
    rw [← hvl];exact DGet.k (k:=Sum.inr z) aA
   have hvv:=((hval z v hzn hvl).tk tk16).tk t7.ts
   have W7:=W6.same t7
   have g7:=g6.ts t7.ts
   have mk7:=mk6.tk t7.ts
   have gC7:=t7 _ _ gC
   generalize upd H6 dc (.dK (dictOf (rowsK rs)))=H7 at t7 hdg hvv W7 g7 mk7 gC7
   refine ⟨dc,v,rfl,hdg,?_⟩
   rw [hzh] at hvv
   cases hvv with
   | @prs b c _ ys _ e ec hp=>
    have hpl:=hp.len
    have ok10:=okz.2.2.2
    refine ⟨_,.ref c,.inr (SqT.of e),rfl,Or.inr ⟨⟨ys,SqT.of ec⟩,?_⟩⟩
    refine eU (cS ys) (fun i σ' H'=>∃ (ws:List V) (v9 v10 v11 v12 v13:Option V),σ'=[some (.ref p),some (.ref a),some (.str x),some (.ref kn),some (.int ((d'+1:Nat):Int)),some (.ref R),some (.str z),some (.ref c5),some (.ref C),v9,v10,v11,v12,v13]∧H' C=some (.lst ws)∧ws.length=i∧MW K H0 H H' p a kn (t+1+NN d'+i*(NN d'+1)) xs rows ns kvs∧RowMk H' 2 ws (4+3*d') (i*NN d')∧Tk H7 H')
     ⟨[],none,none,none,none,none,rfl,gC7,rfl,by simpa using W7,by simpa using RowMk.nil,Tk.refl⟩ (by rintro i τ H' _ ⟨_,_,_,_,_,_,_,_,_,_,_,s⟩;exact SqT.of (s _ _ ec)) ?_ ?_
    ·rintro i σ' H8 hi ⟨ws,v9,v10,v11,v12,v13,rfl,q1,q2,q3,q5,q4⟩
     have hip:i < ps.length:=by omega
     have hi10:i≤9:=by omega
     have m1:(i+1)*(NN d'+1)=i*(NN d'+1)+(NN d'+1):=Nat.succ_mul ..
     have m2:(i+1)*NN d'=i*NN d'+NN d':=Nat.succ_mul ..
     have m3:i*(NN d'+1)≤9*(NN d'+1):=Nat.mul_le_mul_right _ hi10
     obtain ⟨dd,r1,r2⟩:=hp.at_ i hi hip
     have eg:ys.getD i .non=.ref dd:=by rw [List.getD_eq_getElem?_getD,List.getElem?_eq_getElem hi,r1];rfl
     rw [eg]
     have hoth:=(okz.2.1 _ (List.getElem_mem hip)).2.2
     have hwn:=(okz.2.1 _ (List.getElem_mem hip)).1
     generalize ps[i]=pr at r2 hoth hwn
     refine kW (q4 _ _ r2) ?_
     refine aI ⟨H0,p,_,rfl,q3.hn,by omega,fun bn H9 hbn hn9 sm9=>?_⟩
     have W9:=q3.draw hn9 sm9
     have tk9:=q3.hn.ts sm9
     have gC9:=sm9 _ _ q1 nC nC
     refine aI ⟨kn,kvs,rfl,.inl W9.kn,fun l hl=>?_⟩
     have sl:=Same.upd hl (.dK kvs)
     have gl:upd H9 l (.dK kvs) l=some (.dK kvs):=aA
     have fl:=W9.free hl
     have nkl:kn≠l:=fun q=>by have:=W9.kn;rw [q,hl] at this;cases this
     have nCl:C≠l:=fun q=>by rw [q,hl] at gC9;cases gC9
     have Wl:=W9.same sl
     have gCl:=sl _ _ gC9
     generalize upd H9 l (.dK kvs)=Hl at sl gl Wl gCl
     have nlp:=Wl.neD gl
     refine ⟨a,xs,rs,_,_,pr.2,rfl,((g7.ts q4).ts tk9).ts sl.ts,(hm pr.2).mp hoth,fun Hm sm=>⟨l,_,rfl,.inl ⟨kvs,.inr bn,sm _ _ gl,rfl,by omega,rfl⟩,?_⟩⟩
     have Wm:=(Wl.same sm).dput (kv':=putK kvs (.inr bn) (.str (rowEnd (nxOf rows) rs.length pr.2))) (sm _ _ gl) fl nkl
     have tkm:=qV (kv':=putK kvs (.inr bn) (.str (rowEnd (nxOf rows) rs.length pr.2))) (sm _ _ gl)
     have glm:upd Hm l (.dK (putK kvs (.inr bn) (.str (rowEnd (nxOf rows) rs.length pr.2)))) l=some (.dK (putK kvs (.inr bn) (.str (rowEnd (nxOf rows) rs.length pr.2)))):=aA
     have gCm:upd Hm l (.dK (putK kvs (.inr bn) (.str (rowEnd (nxOf rows) rs.length pr.2)))) C=some (.lst ws):=by rw [aN nCl];exact sm _ _ gCl
     generalize upd Hm l (.dK (putK kvs (.inr bn) (.str (rowEnd (nxOf rows) rs.length pr.2))))=Hn at Wm tkm glm gCm
     have hpf:=oT (kvs:=kvs) bn (rowEnd (nxOf rows) rs.length pr.2)
     have tkA:=tk9.trans (sl.ts.trans (sm.ts.trans tkm))
     dsimp only
     refine aI ⟨H0,p,a,l,_,xs,rows,ns,_,x,d',by rw [ed];rfl,Wm.hn,by omega,Wm.rt,hx,glm,kk.put _ (j7 hbn),by omega,by omega,fun v10 s10 H10 mk10 hs10 hn10 sm10=>?_⟩
     have W10:=MW.draw (K:=K) (H':=H10) Wm hn10 sm10
     have gC10:=sm10 _ _ gCm nC nC
     refine ⟨.inl ⟨rfl,_,SqL.of gC10⟩,(show 3≤sizeLine by decide),fun r hr'=>?_⟩
     have sr:=Same.upd hr' (.tup [.str pr.1,.str bn,v10])
     have gr:upd H10 r (.tup [.str pr.1,.str bn,v10]) r=some (.tup ([.str pr.1,.str bn]++[v10])):=aA
     have W11:=W10.same sr
     have gC11:=sr _ _ gC10
     have tk11:=tkA.trans ((Wm.hn.ts sm10).trans sr.ts)
     have mk11:=mk10.tk sr.ts
     generalize upd H10 r (.tup [.str pr.1,.str bn,v10])=H11 at sr gr W11 gC11 tk11 mk11
     have tkD:Tk H11 (upd H11 C (.lst (ws++[.ref r]))):=(Tk.refl).set gC11 (by intro _ z;cases z)
     exact ⟨C,ws,_,rfl,rfl,gC11,by omega,ws++[.ref r],_,_,_,_,_,rfl,aA,by simp [q2],(W11.lput gC11 fC nC).mono (by omega),(((q5.tk tk11).snoc gr (.two (iW hwn) (j7 hbn)) mk11 (by omega) (by omega)).tk tkD),q4.trans (tk11.trans tkD)⟩
    ·rintro σ' H8 ⟨ws,v9,v10,v11,v12,v13,rfl,q1,q2,q3,q5,q4⟩
     have m3:ys.length*(NN d'+1)≤10*(NN d'+1):=Nat.mul_le_mul_right _ (by omega)
     have m4:ys.length*NN d'≤10*NN d':=Nat.mul_le_mul_right _ (by omega)
     exact hnx _ _ ⟨ws,v9,v10,v11,v12,v13,rfl,q1,by omega,q3.mono (by omega),q5.fall (Nat.le_refl _) m4,mk7.tk q4⟩
  rintro σ' H8 ⟨ws,v9,v10,v11,v12,v13,rfl,q1,q2,q3,q5,mk8⟩
  refine aJ (fun σ' H'=>∃ (ws:List V) (v9 v10 v11 v12 v13:Option V),σ'=[some (.ref p),some (.ref a),some (.str x),some (.ref kn),some (.int ((d'+1:Nat):Int)),some (.ref R),some (.str z),some (.ref c5),some (.ref C),v9,v10,v11,v12,v13]∧H' C=some (.lst ws)∧ws.length≤11∧MW K H0 H H' p a kn (t+2+NN d'+10*(NN d'+1)) xs rows ns kvs∧RowMk H' 2 ws (4+3*d') (10*NN d'+2)∧MkT H' (5+3*d') (1+s4) (.ref c5)) ?_ ?_
  ·intro nx hnx
   refine ⟨H0,p,3,_,rfl,q3.hn,⟨by decide,by decide⟩,by omega,fun r H7 r0 r1 hn7 sm7=>⟨rfl,_,rfl,iteB (fun _=>?_) (fun _=>hnx _ _ ⟨ws,v9,v10,v11,v12,v13,rfl,sm7 _ _ q1 nC nC,by omega,(q3.draw hn7 sm7).mono (by omega),(q5.tk (q3.hn.ts sm7)).fall (Nat.le_refl _) (by omega),mk8.tk (q3.hn.ts sm7)⟩)⟩⟩
   have W7:=q3.draw hn7 sm7
   have tk7:=q3.hn.ts sm7
   have q7:=q5.tk tk7
   have g7:=sm7 _ _ q1 nC nC
   refine ⟨.inl ⟨rfl,_,SqL.of g7⟩,(show 0≤sizeLine by decide),fun c1 h1=>⟨(show 2≤sizeLine by decide),fun c2 h2=>⟨(show 3≤sizeLine by decide),fun c3 h3=>⟨(show 3≤sizeLine by decide),fun c4 h4=>?_⟩⟩⟩⟩
   have t1:=Same.upd h1 (.tup [])
   have t2:=Same.upd h2 (.tup [.str "box",.ref c1])
   have t3:=Same.upd h3 (.tup [.str "part",.ref c2,.str "zz"])
   have t4:=Same.upd h4 (.tup [.str "zz",.str "v",.ref c3])
   have f1:_=some (HO.tup []):=t4 _ _ (t3 _ _ (t2 _ _ (aA:upd H7 c1 (.tup []) c1=_)))
   have f2:=t4 _ _ (t3 _ _ (aA:upd (upd H7 c1 (.tup [])) c2 (.tup [.str "box",.ref c1]) c2=_))
   have f3:=t4 _ _ (aA:upd (upd (upd H7 c1 (.tup [])) c2 (.tup [.str "box",.ref c1])) c3 (.tup [.str "part",.ref c2,.str "zz"]) c3=_)
   have f4:upd (upd (upd (upd H7 c1 (.tup [])) c2 (.tup [.str "box",.ref c1])) c3 (.tup [.str "part",.ref c2,.str "zz"])) c4 (.tup [.str "zz",.str "v",.ref c3]) c4=some (.tup ([.str "zz",.str "v"]++[.ref c3])):=aA
   have tt:=((t1.trans t2).trans t3).trans t4
   generalize upd (upd (upd (upd H7 c1 (.tup [])) c2 (.tup [.str "box",.ref c1])) c3 (.tup [.str "part",.ref c2,.str "zz"])) c4 (.tup [.str "zz",.str "v",.ref c3])=H8' at f1 f2 f3 f4 tt
   have g8:=tt _ _ g7
   have tkD:Tk H8' (upd H8' C (.lst (ws++[.ref c4]))):=(Tk.refl).set g8 (by intro _ z;cases z)
   exact ⟨C,ws,_,rfl,rfl,g8,by omega,hnx _ _ ⟨ws++[.ref c4],v9,v10,v11,v12,v13,rfl,aA,by simp;omega,((W7.same tt).lput g8 fC nC).mono (by omega),((q7.tk tt.ts).snoc f4 (.two vD wB) ((i5 (.part f3 vD) (nB f2 f1)).up (by omega)) (by omega) (by omega)).tk tkD,((mk8.tk tk7).tk tt.ts).tk tkD⟩⟩
  rintro σ' H7 ⟨ws,v9,v10,v11,v12,v13,rfl,q1,q2,q3,q5,mk8⟩
  refine ⟨C,ws,rfl,Or.inl ⟨SqL.of q1,fun r1 hr1=>⟨(show 3≤sizeLine by decide),fun r2 hr2=>?_⟩⟩⟩
  have t1:=Same.upd hr1 (.tup ws)
  have t2:=Same.upd hr2 (.tup [.str "split",.ref c5,.ref r1])
  have f1:=t2 _ _ (aA:upd H7 r1 (.tup ws) r1=_)
  have tt:=t1.trans t2
  obtain ⟨sz,hs1,hs2⟩:=tK aA f1 (mk8.tk tt.ts) ((q5.tk tt.ts).fall (by omega) (Nat.le_refl _))
  exact k _ sz _ (hs2.up (by dsimp only;omega)) (by omega) ((q3.hn.same tt).mono (by omega)) (q3.same tt).sm
theorem zK {z:Str} (h:Wd z):Shr z:=by have:=h.1;unfold Shr;omega
def CaseAt (H:Hp) (zs:List V) (dep sz:Nat):Prop:=∀ j (h:j < zs.length),∃ (c:Addr) (w z:Str) (m:V) (s:Nat),zs[j]=.ref c∧H c=some (.tup [.str w,.str z,m])∧MkT H dep s m∧s≤sz∧Shr w∧Shr z
theorem CaseAt.tk {H H':Hp} {zs:List V} {dep sz:Nat} (h:CaseAt H zs dep sz) (t:Tk H H'):CaseAt H' zs dep sz:=fun j hj=>by
 obtain ⟨c,w,z,m,s,h1,h2,h3,h4⟩:=h j hj
 exact ⟨c,w,z,m,s,h1,t _ _ h2,h3.tk t,h4⟩
theorem CaseAt.row {H:Hp} {zs:List V} {dep sz:Nat} (h:CaseAt H zs dep sz) (hl:zs.length≤900):∀ i,i≤zs.length→RowMk H 2 (zs.take i) dep (i*sz)
 | 0,_=>by simpa using RowMk.nil
 | i+1,hi=>by
  obtain ⟨c,w,z,m,s,h1,h2,h3,h4,hw,hz⟩:=h i (by omega)
  have ih:=CaseAt.row h hl i (by omega)
  rw [List.take_add_one,List.getElem?_eq_getElem (show i < zs.length by omega),h1]
  exact ih.snoc (ys:=[.str w,.str z]) h2 (.two hw hz) h3 (by simp;omega) (by rw [Nat.succ_mul];omega)
theorem CaseAt.set {H:Hp} {zs:List V} {dep sz:Nat} (h:CaseAt H zs dep sz) {i:Nat} {c:Addr} {w z:Str} {m:V} {s:Nat} (e:H c=some (.tup [.str w,.str z,m])) (hm:MkT H dep s m) (hs:s≤sz) (hw:Shr w) (hz:Shr z):CaseAt H (zs.set i (.ref c)) dep sz:=fun j hj=>by
 have hj':j < zs.length:=by simpa using hj
 by_cases hij:i=j
 ·subst hij
  exact ⟨c,w,z,m,s,by simp,e,hm,hs,hw,hz⟩
 ·obtain ⟨c',w',z',m',s',h1,h2,h3,h4⟩:=h j hj'
  exact ⟨c',w',z',m',s',by rw [List.getElem_set_ne hij];exact h1,h2,h3,h4⟩
set_option maxHeartbeats 2000000 in
theorem mR (T:Txt K mg w) (n:Nat) (cF:FnK P w K mg base (6+3*n) "_law_for" ["_law_pen","_law_told","_law_name","_law_known","_law_deep"] (spFr K n))
  (mC:FnK P w K mg base (6+3*n+1) "_law_split_over" ["_law_pen","_law_told","_law_name","_law_known","_law_deep"] (spSo K n)):
  FnK P w K mg base (6+3*n+1+1) "_law_wrapped" ["_law_pen","_law_told","_law_name","_law_known","_law_deep"] (spWr K n):=by
 have aK:FnK P w K mg base 2 "_law_next" ["_law_pen","_law_many"] (spNx K):=bC T
 have bU:FnK P w K mg base 1 "_law_row_here" ["_law_told","_law_name"] spRowOf:=dL T
 have iF:FnK P w K mg base 3 "_law_any" ["_law_pen","_law_told"] (spAny K):=kI T
 have cD:FnK P w K mg base 3 "_law_name_bound" ["_law_pen"] (spBound K):=eB T
 refine T.oV.okS (k:=6+3*n+1) bH (fun vs H Q E h=>?_) (fun f cdv A outer s H vs Q E hr h=>?_)
 ·obtain ⟨H0,p,a,kn,t,xs,rows,ns,kvs,x,d,rfl,_⟩:=h
  rfl
 ·obtain ⟨H0,p,a,kn,t,xs,rows,ns,kvs,x,d,rfl,hn,ht,rt,hx,hk,kk,hkl,hd,k⟩:=h
  dsimp only at ht hd k
  have hu:=bD hr
  have hu0:=Nat.lt_of_succ_lt (bD hr)
  have hsz:sizeLine=16777216:=sizeLine_eq
  have nnd:=lV d
  obtain ⟨rs,g,nm,rl,hval⟩:=rt.good fun z hz=>(u9 z hz).2
  have hm:∀ z,z∈ns↔z∈rs.map (·.1):=fun z=>by rw [nm];exact rt.nm.mem_iff.symm
  have W:MW K H0 H H p a kn t xs rows ns kvs:=⟨hn,rt,hk,Sm.refl,hn.sm⟩
  refine ⟨_,(aD (aL (i:=5) bH.nd rfl (Or.inl rfl) (aT aK (hr.mono (by omega)) (a9 (zv 0) (a7 aF sa_nil))))
   (aD (bO (i7 (aM (bF hu0) (zv 4) aF (nomark _)) (fO (aM hV (zv 5) aF (nomark _)))).pt (aG (aO (aT cF (hr.mono (by omega)) (a9 (zv 0) (a9 (zv 1) (a9 (zv 2) (a9 (zv 3) (a9 (zv 4) sa_nil)))))))) aV)
   (aD (bO (aM (bF hu0) (zv 5) aF (nomark _)) (aG (aO (aE (a7 aC (b5 (aT cF (hr.mono (by omega)) (a9 (zv 0) (a9 (zv 1) (a9 (zv 2) (a9 (zv 3) (a9 (zv 4) sa_nil)))))) (a9 (zv 2) sa_nil)))))) aV)
   (aD (bO (aM (bF hu0) (zv 5) aF (nomark _)) (aD (aL (i:=6) bH.nd rfl (Or.inl rfl) (aT cF (hr.mono (by omega)) (a9 (zv 0) (a9 (zv 1) (a9 (zv 2) (a9 (zv 3) (a9 (zv 4) sa_nil)))))))
   (aG (aO (aE (a7 aC (aB (aE (a7 aC (aB (aE (aB (aE (a7 aC (a9 (zv 6) sa_nil))) (aB (aE (a7 aC (aB (aE (a7 aC (aB (aE sa_nil) sa_nil))) sa_nil))) sa_nil))) sa_nil))) (a7 aC sa_nil))))))) aV)
   (aD (bO (aM (bF hu0) (zv 5) aF (nomark _)) (aG (aO (aT mC (hr.mono (by omega)) (a9 (zv 0) (a9 (zv 1) (a9 (zv 2) (a9 (zv 3) (a9 (zv 4) sa_nil)))))))) aV)
   (aD (aL (i:=7) bH.nd rfl (Or.inl rfl) (aT iF (hr.mono (by omega)) (a9 (zv 0) (a9 (zv 1) sa_nil))))
   (aD (aL (i:=8) bH.nd rfl (Or.inl rfl) (bL (kM rfl) (by rfl) T.lU PyProof.Rows.boot_dict (a9 (zv 3) sa_nil)))
   (aD (aL (i:=9) bH.nd rfl (Or.inr rfl) (aT cD (hr.mono (by omega)) (a9 (zv 0) sa_nil)))
   (aD (uW hu (zv 8) (zv 9) (aT bU (hr.mono (by omega)) (a9 (zv 1) (a9 (zv 7) sa_nil))) rfl)
   (aD (aL (i:=10) bH.nd rfl (Or.inl rfl) (aT cF (hr.mono (by omega)) (a9 (zv 0) (a9 (zv 1) (a9 (zv 7) (a9 (zv 3) (cE (b8 cQ (zv 4) aF) sa_nil)))))))
   (aD (aL (i:=6) bH.nd rfl (Or.inl rfl) (aT cF (hr.mono (by omega)) (a9 (zv 0) (a9 (zv 1) (a9 (zv 2) (a9 (zv 8) (cE (b8 cQ (zv 4) aF) sa_nil)))))))
   (aD (bO (aM (bF hu0) (zv 5) aF (nomark _)) (aG (aO (aE (a7 aC (aB (aE (a7 aC (a9 (zv 9) (a9 (zv 7) (a9 (zv 6) sa_nil))))) (a9 (zv 10) sa_nil)))))) aV)
   (aD (aL (i:=11) bH.nd rfl (Or.inl rfl) (aT aK (hr.mono (by omega)) (a9 (zv 0) (a7 aF sa_nil))))
   (aD (xX (i:=12) (own:=["_law_word"]) (idx:=[9]) (N':=["_law_word","_law_bound"]) (⟨rfl,by decide+kernel,by decide+kernel,(show ∀ y∈Scope.names _,y.2=NameKind.free→((defScope dG).names.lookup y.1=some NameKind.cell∨(defScope dG).names.lookup y.1=some NameKind.free) by decide+kernel),(show ∀ j∈([9]:List Nat),(Scope.names _).lookup ((["_law_pen","_law_told","_law_name","_law_known","_law_deep","_law_way","_law_made","_law_other","_law_inner","_law_bound","_law_first","_law_at","_law_cases"]:List Str).getD j "")=some NameKind.free∧j < (["_law_pen","_law_told","_law_name","_law_known","_law_deep","_law_way","_law_made","_law_other","_law_inner","_law_bound","_law_first","_law_at","_law_cases"]:List Str).length by decide+kernel),rfl⟩) rfl (kL K (b4 (a7 aC (a7 aC (a7 aC sa_nil))))) (fun _ _ _ _ _ _=>(aR (i:=0) (show List.Nodup (["_law_word","_law_bound"]:List Str) by decide+kernel) rfl (Or.inl rfl))) (fun _ _ _ _ _ _=>cA) (fun _ _ _ _ _ _=>(aE (a9 (zv 0) (a9 (zv 1) (aB (aE (a7 aC (aB (aE (a7 aC (aB (aE sa_nil) sa_nil))) (a7 aC sa_nil)))) sa_nil))))) bH.nd rfl rfl)
   (aD (lN (aE (aH (b7 (b6 K) (b7 (b6 K) (zv 12) (zv 11) (fun _ _=>rfl)) aF (fun _ _=>rfl)) (a9 (zv 9) (a9 (zv 6) sa_nil)))) (pR (zv 12) (zv 11) i9))
   (aG (aO (aE (a7 aC (aB (aE (a7 aC (aH (b7 (b6 K) (b7 (b6 K) (zv 12) (zv 11) (fun _ _=>rfl)) aF (fun _ _=>rfl)) (a9 (zv 10) sa_nil)))) (b5 (bL (cO K) (by rfl) T.cB PyProof.Rows.boot_tuple (a9 (zv 12) sa_nil)) sa_nil))))))))))))))))))))),?_⟩
  refine aI ⟨H0,p,9,t,rfl,hn,⟨by decide,by decide⟩,by omega,fun r H1 r0 r1 hn1 sm1=>?_⟩
  have W1:=W.draw hn1 sm1
  have g1:=g.ts (hn.ts sm1)
  refine aJ (fun σ' H'=>0 < d∧r≤4∧σ'=[some (.ref p),some (.ref a),some (.str x),some (.ref kn),some (.int (d:Int)),some (.int r),none,none,none,none,none,none,none]∧H1=H') ?_ ?_
  ·intro nx hnx
   refine lW (fun c H'=>H1=H'∧(c=false→0 < d∧r≤4)) (fun Q hQ=>?_) (fun H2 ⟨e2,_⟩=>?_) (by rintro H2 ⟨e2,hc⟩;exact hnx _ _ ⟨(hc rfl).1,(hc rfl).2,rfl,e2⟩)
   ·refine ⟨rfl,_,rfl,iteB (fun c=>hQ _ _ ⟨rfl,fun z=>absurd z (by decide)⟩) (fun c0=>⟨_,rfl,hQ _ _ ⟨rfl,fun c=>?_⟩⟩)⟩
    rw [Bool.false_xor,decide_eq_false_iff_not] at c0
    have c0':d≠0:=fun z=>c0 (by rw [z];rfl)
    have c':¬(r > 4):=by simpa using c
    omega
   ·subst e2
    refine ⟨H0,p,a,kn,_,xs,rows,ns,kvs,x,d,rfl,W1.hn,by omega,W1.rt,hx,W1.kn,kk,hkl,hd,fun v7 s7 H7 mk7 hs7 hn7 sm7=>?_⟩
    exact k v7 s7 H7 (mk7.up (by dsimp only;omega)) (by omega) (hn7.mono (by omega)) (W1.draw hn7 sm7).sm
  rintro σ' _ ⟨hd0,hr4,rfl,rfl⟩
  obtain ⟨d',rfl⟩:∃ d',d=d'+1:=⟨d - 1,by omega⟩
  have eN:NN (d'+1)=12*NN d'+40:=rfl
  have ed:(((d'+1:Nat):Int)) - 1=(d':Int):=by omega
  have nnd':=lV d'
  refine aJ (fun σ' H'=>r≠0∧σ'=[some (.ref p),some (.ref a),some (.str x),some (.ref kn),some (.int ((d'+1:Nat):Int)),some (.int r),none,none,none,none,none,none,none]∧H1=H') ?_ ?_
  ·intro nx hnx
   refine ⟨rfl,_,rfl,iteB (fun c=>?_) (fun c=>hnx _ _ ⟨fun z=>?_,rfl,rfl⟩)⟩
   ·refine ⟨H0,p,a,kn,_,xs,rows,ns,kvs,x,d'+1,rfl,W1.hn,by omega,W1.rt,hx,W1.kn,kk,hkl,hd,fun v7 s7 H7 mk7 hs7 hn7 sm7=>⟨(show 3≤sizeLine by decide),fun q hq=>?_⟩⟩
    have sq:=Same.upd hq (.tup [.str "hold",v7,.str x])
    exact k _ (1+s7) _ ((i5 (.hold aA (zK (W1.rt.wd _ hx))) (mk7.tk sq.ts)).up (by dsimp only;omega)) (by omega) ((hn7.same sq).mono (by omega)) ((W1.draw hn7 sm7).same sq).sm
   ·rw [z] at c;exact absurd c (by decide)
  rintro σ' _ ⟨hrn0,rfl,rfl⟩
  refine aJ (fun σ' H'=>r≠1∧σ'=[some (.ref p),some (.ref a),some (.str x),some (.ref kn),some (.int ((d'+1:Nat):Int)),some (.int r),none,none,none,none,none,none,none]∧H1=H') ?_ ?_
  ·intro nx hnx
   refine ⟨rfl,_,rfl,iteB (fun c=>?_) (fun c=>hnx _ _ ⟨fun z=>?_,rfl,rfl⟩)⟩
   ·refine aI ⟨H0,p,a,kn,_,xs,rows,ns,kvs,x,d'+1,rfl,W1.hn,by omega,W1.rt,hx,W1.kn,kk,hkl,hd,fun v7 s7 H7 mk7 hs7 hn7 sm7=>?_⟩
    have W7:=W1.draw hn7 sm7
    refine ⟨(show 2≤sizeLine by decide),fun c1 h1=>⟨(show 0≤sizeLine by decide),fun c2 h2=>⟨(show 2≤sizeLine by decide),fun c3 h3=>⟨(show 2≤sizeLine by decide),fun c4 h4=>⟨(show 2≤sizeLine by decide),fun c5 h5=>⟨(show 2≤sizeLine by decide),fun c6 h6=>⟨(show 3≤sizeLine by decide),fun c7 h7=>?_⟩⟩⟩⟩⟩⟩⟩
    have t1:=Same.upd h1 (.tup [.str "a",v7])
    have f1:upd H7 c1 (.tup [.str "a",v7]) c1=some (.tup ([.str "a"]++[v7])):=aA
    generalize upd H7 c1 (.tup [.str "a",v7])=G1 at*
    have t2:=Same.upd h2 (.tup [])
    have f2:upd G1 c2 (.tup []) c2=some (.tup []):=aA
    generalize upd G1 c2 (.tup [])=G2 at*
    have t3:=Same.upd h3 (.tup [.str "box",.ref c2])
    have f3:upd G2 c3 (.tup [.str "box",.ref c2]) c3=some (.tup [.str "box",.ref c2]):=aA
    generalize upd G2 c3 (.tup [.str "box",.ref c2])=G3 at*
    have t4:=Same.upd h4 (.tup [.str "b",.ref c3])
    have f4:upd G3 c4 (.tup [.str "b",.ref c3]) c4=some (.tup ([.str "b"]++[.ref c3])):=aA
    generalize upd G3 c4 (.tup [.str "b",.ref c3])=G4 at*
    have t5:=Same.upd h5 (.tup [.ref c1,.ref c4])
    have f5:upd G4 c5 (.tup [.ref c1,.ref c4]) c5=some (.tup [.ref c1,.ref c4]):=aA
    generalize upd G4 c5 (.tup [.ref c1,.ref c4])=G5 at*
    have t6:=Same.upd h6 (.tup [.str "box",.ref c5])
    have f6:upd G5 c6 (.tup [.str "box",.ref c5]) c6=some (.tup [.str "box",.ref c5]):=aA
    generalize upd G5 c6 (.tup [.str "box",.ref c5])=G6 at*
    have t7:=Same.upd h7 (.tup [.str "part",.ref c6,.str "a"])
    have f7:upd G6 c7 (.tup [.str "part",.ref c6,.str "a"]) c7=some (.tup [.str "part",.ref c6,.str "a"]):=aA
    generalize upd G6 c7 (.tup [.str "part",.ref c6,.str "a"])=G7 at*
    have tt:=t1.trans (t2.trans (t3.trans (t4.trans (t5.trans (t6.trans t7)))))
    have rm:=(RowMk.nil (H:=G7) (n:=1) (dep:=4+3*(d'+1))).snoc (t7 _ _ (t6 _ _ (t5 _ _ (t4 _ _ (t3 _ _ (t2 _ _ f1)))))) (.one zC) (mk7.tk tt.ts) (by simp) (Nat.le_refl _)
    have rm2:=rm.snoc (t7 _ _ (t6 _ _ (t5 _ _ f4))) (.one a1C) ((nB (t7 _ _ (t6 _ _ (t5 _ _ (t4 _ _ f3)))) (t7 _ _ (t6 _ _ (t5 _ _ (t4 _ _ (t3 _ _ f2)))))).up (by omega)) (by simp) (Nat.le_refl _)
    obtain ⟨sz,hs1,hs2⟩:=a0C (t7 _ _ f6) (t7 _ _ (t6 _ _ f5)) rm2
    exact k _ (1+sz) _ ((i5 (.part f7 zC) hs2).up (by omega)) (by omega) ((hn7.same tt).mono (by omega)) (W7.same tt).sm
   ·rw [z] at c;exact absurd c (by decide)
  rintro σ' _ ⟨hrn1,rfl,rfl⟩
  refine aJ (fun σ' H'=>r≠4∧σ'=[some (.ref p),some (.ref a),some (.str x),some (.ref kn),some (.int ((d'+1:Nat):Int)),some (.int r),none,none,none,none,none,none,none]∧H1=H') ?_ ?_
  ·intro nx hnx
   refine ⟨rfl,_,rfl,iteB (fun c=>?_) (fun c=>hnx _ _ ⟨fun z=>?_,rfl,rfl⟩)⟩
   ·refine ⟨H0,p,a,kn,_,xs,rows,ns,kvs,x,d'+1,rfl,W1.hn,by omega,W1.rt,hx,W1.kn,kk,hkl,⟨by omega,hd⟩,fun v7 s7 H7 mk7 hs7 hn7 sm7=>?_⟩
    exact k v7 s7 H7 (mk7.up (by dsimp only;omega)) (by omega) (hn7.mono (by omega)) (W1.draw hn7 sm7).sm
   ·rw [z] at c;exact absurd c (by decide)
  rintro σ' _ ⟨hrn4,rfl,rfl⟩
  refine aI ⟨H0,p,a,_,xs,rows,ns,WW,rfl,W1.hn,by omega,W1.rt,fun ot H2 hot hn2 sm2=>?_⟩
  have W2:=W1.draw hn2 sm2
  have g2:=g1.ts (hn1.ts sm2)
  refine aI ⟨kn,kvs,rfl,.inl W2.kn,fun l hl=>?_⟩
  have sl:=Same.upd hl (.dK kvs)
  have gl:upd H2 l (.dK kvs) l=some (.dK kvs):=aA
  have fl:=W2.free hl
  have nkl:kn≠l:=fun q=>by have:=W2.kn;rw [q,hl] at this;cases this
  have W3:=W2.same sl
  have g3:=g2.ts sl.ts
  generalize upd H2 l (.dK kvs)=H3 at sl gl W3 g3
  have nlp:=W3.neD gl
  refine aI ⟨H0,p,_,rfl,W3.hn,by omega,fun bn H4 hbn hn4 sm4=>?_⟩
  have W4:=W3.draw hn4 sm4
  have g4:=g3.ts (W3.hn.ts sm4)
  have gl4:=sm4 _ _ gl nlp nlp
  refine ⟨a,xs,rs,_,_,ot,rfl,g4,(hm ot).mp hot,fun H5 s5=>⟨l,_,rfl,.inl ⟨kvs,.inr bn,s5 _ _ gl4,rfl,by omega,rfl⟩,?_⟩⟩
  have W6:=(W4.same s5).dput (kv':=putK kvs (.inr bn) (.str (rowEnd (nxOf rows) rs.length ot))) (s5 _ _ gl4) fl nkl
  have gl6:upd H5 l (.dK (putK kvs (.inr bn) (.str (rowEnd (nxOf rows) rs.length ot)))) l=some (.dK (putK kvs (.inr bn) (.str (rowEnd (nxOf rows) rs.length ot)))):=aA
  generalize upd H5 l (.dK (putK kvs (.inr bn) (.str (rowEnd (nxOf rows) rs.length ot))))=H6 at W6 gl6
  have hpf:=oT (kvs:=kvs) bn (rowEnd (nxOf rows) rs.length ot)
  dsimp only
  refine aI ⟨H0,p,a,kn,_,xs,rows,ns,kvs,ot,d',by rw [ed];rfl,W6.hn,by omega,W6.rt,hot,W6.kn,kk,by omega,by omega,fun v7 s7 H7 mk7 hs7 hn7 sm7=>?_⟩
  have W7:=W6.draw hn7 sm7
  have gl7:=sm7 _ _ gl6 nlp nlp
  refine aI ⟨H0,p,a,l,_,xs,rows,ns,_,x,d',by rw [ed];rfl,W7.hn,by omega,W7.rt,hx,gl7,kk.put _ (j7 hbn),by omega,by omega,fun v8 s8 H8 mk8 hs8 hn8 sm8=>?_⟩
  have W8:=MW.draw (K:=K) (H':=H8) W7 hn8 sm8
  have mk78:=mk7.tk (W7.hn.ts sm8)
  refine aJ (fun σ' H'=>σ'=[some (.ref p),some (.ref a),some (.str x),some (.ref kn),some (.int ((d'+1:Nat):Int)),some (.int r),some v8,some (.str ot),some (.ref l),some (.str bn),some v7,none,none]∧H8=H') ?_ ?_
  ·intro nx hnx
   refine ⟨rfl,_,rfl,iteB (fun c=>?_) (fun c=>hnx _ _ ⟨rfl,rfl⟩)⟩
   refine ⟨(show 4≤sizeLine by decide),fun c1 h1=>⟨(show 3≤sizeLine by decide),fun c2 h2=>?_⟩⟩
   have t1:=Same.upd h1 (.tup [.str "fn",.str bn,.str ot,v8])
   have t2:=Same.upd h2 (.tup [.str "call",.ref c1,v7])
   have f1:=t2 _ _ (aA:upd H8 c1 (.tup [.str "fn",.str bn,.str ot,v8]) c1=_)
   have tt:=t1.trans t2
   have m1:=i5 (.fn f1 (j7 hbn) (zK (W8.rt.wd _ hot))) (mk8.tk tt.ts)
   exact k _ (1+(1+s8)+s7) _ ((vE (.call aA) m1 ((mk78.tk tt.ts).up (by omega))).up (by dsimp only;omega)) (by omega) ((hn8.same tt).mono (by omega)) (W8.same tt).sm
  rintro σ' _ ⟨rfl,rfl⟩
  refine aI ⟨H0,p,3,_,rfl,W8.hn,⟨by decide,by decide⟩,by omega,fun ra H9 ra0 ra1 hn9 sm9=>?_⟩
  have W9:=W8.draw hn9 sm9
  have tk9:=W8.hn.ts sm9
  have mk9:=mk8.tk tk9
  have mk79:=mk78.tk tk9
  obtain ⟨ia,rfl⟩:∃ i:Nat,ra=(i:Int):=⟨ra.toNat,by omega⟩
  have hia:ia < 3:=by omega
  clear hn1 W1 W2 W3 W4 W6 W7 W8 mk8 mk78
  refine aJ (fun σ' H'=>∃ (C:Addr) (zs:List V),σ'=[some (.ref p),some (.ref a),some (.str x),some (.ref kn),some (.int ((d'+1:Nat):Int)),some (.int r),some v8,some (.str ot),some (.ref l),some (.str bn),some v7,some (.int (ia:Int)),some (.ref C)]∧C≠p∧H C=none∧H' C=some (.lst zs)∧zs.length=3∧CaseAt H' zs (4+3*d') (NN d')∧Same H9 H') ?_ ?_
  ·intro nx hnx
   refine ⟨(show 3≤sizeLine by decide),fun L hL=>Or.inl ⟨⟨_,SqL.of aA⟩,fun D hD=>?_⟩⟩
   have sL:=Same.upd hL (.lst [.str "a",.str "b",.str "ba"])
   have gL:upd H9 L (.lst [.str "a",.str "b",.str "ba"]) L=some (.lst [.str "a",.str "b",.str "ba"]):=aA
   generalize upd H9 L (.lst [.str "a",.str "b",.str "ba"])=HL at sL gL hD
   have WL:=W9.same sL
   refine d7 (cL [.str "a",.str "b",.str "ba"]) (fun i τ H'=>∃ (v0:Option V) (zs:List V),τ=[v0,some (.str bn)]∧H' D=some (.lst zs)∧zs.length=i∧CaseAt H' zs (4+3*d') (NN d')∧Same HL H') ⟨none,[],rfl,aA,rfl,fun j hj=>absurd hj (by simp),Same.upd hD _⟩ (by rintro i τ H' _ ⟨_,_,_,_,_,_,s⟩;exact SqL.of (s _ _ gL)) ?_ ?_
   ·rintro i τ G hi ⟨v0,zs,rfl,q1,q2,q3,q4⟩
    have hi3:i < 3:=hi
    obtain ⟨wd,ew,hwd⟩:∃ wd:Str,([.str "a",.str "b",.str "ba"]:List V).getD i .non=.str wd∧Shr wd:=by
     rcases (show i=0∨i=1∨i=2 by omega) with rfl | rfl | rfl
     ·exact ⟨_,rfl,zC⟩
     ·exact ⟨_,rfl,a1C⟩
     ·exact ⟨_,rfl,a1w⟩
    rw [ew]
    refine ⟨(show 0≤sizeLine by decide),fun c1 h1=>⟨(show 2≤sizeLine by decide),fun c2 h2=>⟨(show 3≤sizeLine by decide),fun c3 h3=>⟨(show 3≤sizeLine by decide),fun c4 h4=>?_⟩⟩⟩⟩
    have t1:=Same.upd h1 (.tup [])
    have f1:upd G c1 (.tup []) c1=some (.tup []):=aA
    generalize upd G c1 (.tup [])=G1 at*
    have t2:=Same.upd h2 (.tup [.str "box",.ref c1])
    have f2:upd G1 c2 (.tup [.str "box",.ref c1]) c2=some (.tup [.str "box",.ref c1]):=aA
    generalize upd G1 c2 (.tup [.str "box",.ref c1])=G2 at*
    have t3:=Same.upd h3 (.tup [.str "part",.ref c2,.str "zz"])
    have f3:upd G2 c3 (.tup [.str "part",.ref c2,.str "zz"]) c3=some (.tup [.str "part",.ref c2,.str "zz"]):=aA
    generalize upd G2 c3 (.tup [.str "part",.ref c2,.str "zz"])=G3 at*
    have t4:=Same.upd h4 (.tup [.str wd,.str bn,.ref c3])
    have f4:upd G3 c4 (.tup [.str wd,.str bn,.ref c3]) c4=some (.tup [.str wd,.str bn,.ref c3]):=aA
    generalize upd G3 c4 (.tup [.str wd,.str bn,.ref c3])=G4 at*
    have tt:=t1.trans (t2.trans (t3.trans t4))
    have g4':=tt _ _ q1
    have tkD:Tk G4 (upd G4 D (.lst (zs++[.ref c4]))):=(Tk.refl).set g4' (by intro _ z;cases z)
    have m3:=((i5 (.part (t4 _ _ f3) vD) (nB (t4 _ _ (t3 _ _ f2)) (t4 _ _ (t3 _ _ (t2 _ _ f1))))).up (show 2≤4+3*d' by omega)).tk tkD
    refine ⟨zs,g4',by omega,_,zs++[.ref c4],rfl,aA,by simp [q2],fun j hj=>?_,(q4.trans tt).put hD⟩
    by_cases hj':j < zs.length
    ·obtain ⟨c,w',z,m,s,e1,e2,e3,e4⟩:=((q3.tk tt.ts).tk tkD) j hj'
     exact ⟨c,w',z,m,s,by rw [List.getElem_append_left hj'];exact e1,e2,e3,e4⟩
    ·obtain rfl:j=zs.length:=by simp at hj;omega
     exact ⟨c4,wd,bn,.ref c3,2,by simp,tkD _ _ f4,m3,by omega,hwd,j7 hbn⟩
   ·rintro τ G ⟨v0,zs,rfl,q1,q2,q3,q4⟩
    exact hnx _ _ ⟨D,zs,rfl,WL.hn.ne hD,WL.free hD,q1,q2,q3,sL.trans q4⟩
  rintro σ' G ⟨C,zs,rfl,nC,fC,gC,hz3,hz,sG⟩
  have WG:=W9.same sG
  have mkG:=mk9.tk sG.ts
  have mk7G:=mk79.tk sG.ts
  obtain ⟨cc,wd,z,m,sm',e1,e2,e3,e4,hwd,_⟩:=hz ia (by omega)
  refine ⟨zs,.ref cc,.inl (SqL.of gC),bN (by rw [List.getElem?_eq_getElem (by omega),e1]),_,.str wd,.inr (SqT.of e2),aW _ _,(show 3≤sizeLine by decide),fun c1 h1=>?_⟩
  have t1:=Same.upd h1 (.tup [.str wd,.str bn,v8])
  have f1:upd G c1 (.tup [.str wd,.str bn,v8]) c1=some (.tup [.str wd,.str bn,v8]):=aA
  have W10:=WG.same t1
  have gC1:=t1 _ _ gC
  have mk10:=mkG.tk t1.ts
  have mk710:=mk7G.tk t1.ts
  have hz1:=(hz.tk t1.ts).set (i:=ia) f1 mk10 hs8 hwd (j7 hbn)
  generalize upd G c1 (.tup [.str wd,.str bn,v8])=G1 at t1 f1 W10 gC1 mk10 mk710 hz1
  refine ⟨C,zs,_,ia,rfl,rfl,gC1,nA (by omega),?_⟩
  have tkC:Tk G1 (upd G1 C (.lst (zs.set ia (.ref c1)))):=(Tk.refl).set gC1 (by intro _ z;cases z)
  have gC2:upd G1 C (.lst (zs.set ia (.ref c1))) C=some (.lst (zs.set ia (.ref c1))):=aA
  have W11:=W10.lput (kv':=zs.set ia (.ref c1)) gC1 fC nC
  have mk11:=mk710.tk tkC
  have hz2:=hz1.tk tkC
  have f2:=tkC _ _ f1
  generalize upd G1 C (.lst (zs.set ia (.ref c1)))=G2 at tkC gC2 W11 mk11 hz2 f2
  refine ⟨_,.ref c1,.inl (SqL.of gC2),bN (by rw [List.getElem?_set_self (by omega)]),_,.str wd,.inr (SqT.of f2),aW _ _,(show 3≤sizeLine by decide),fun c2 h2=>?_⟩
  have t2:=Same.upd h2 (.tup [.str "pick",.str wd,v7])
  have f3:upd G2 c2 (.tup [.str "pick",.str wd,v7]) c2=some (.tup [.str "pick",.str wd,v7]):=aA
  generalize upd G2 c2 (.tup [.str "pick",.str wd,v7])=G3 at t2 f3
  refine ⟨C,_,rfl,Or.inl ⟨SqL.of (t2 _ _ gC2),fun r1 hr1=>⟨(show 3≤sizeLine by decide),fun r2 hr2=>?_⟩⟩⟩
  have t3:=Same.upd hr1 (.tup (zs.set ia (.ref c1)))
  have t4:=Same.upd hr2 (.tup [.str "split",.ref c2,.ref r1])
  have f4:=t4 _ _ (aA:upd G3 r1 (.tup (zs.set ia (.ref c1))) r1=_)
  have tt:=t3.trans t4
  have rw3:=hz2.row (by simp;omega) 3 (by simp;omega)
  rw [List.take_of_length_le (by simp;omega)] at rw3
  have mp:=i5 (.pick (tt _ _ f3) hwd) (mk11.tk (t2.trans tt).ts)
  obtain ⟨sz,hs1,hs2⟩:=tK aA f4 mp ((rw3.tk (t2.trans tt).ts).fall (show 4+3*d'≤4+3*d'+1 by omega) (Nat.le_refl _))
  have W12:=W11.same (t2.trans tt)
  exact k _ sz _ (hs2.up (by dsimp only;omega)) (by omega) (W12.hn.mono (by omega)) W12.sm
theorem a0T (T:Txt K mg w):∀ n:Nat,FnK P w K mg base (6+3*n) "_law_for" ["_law_pen","_law_told","_law_name","_law_known","_law_deep"] (spFr K n)∧FnK P w K mg base (8+3*n) "_law_wrapped" ["_law_pen","_law_told","_law_name","_law_known","_law_deep"] (spWr K n):=by
 intro n
 have wr:∀ n,FnK P w K mg base (6+3*n) "_law_for" ["_law_pen","_law_told","_law_name","_law_known","_law_deep"] (spFr K n)→FnK P w K mg base (8+3*n) "_law_wrapped" ["_law_pen","_law_told","_law_name","_law_known","_law_deep"] (spWr K n):=fun n F=>(mR T n F (kN T n F)).mono (by omega)
 induction n with
 | zero=>
  have F:FnK P w K mg base (6+3*0) "_law_for" ["_law_pen","_law_told","_law_name","_law_known","_law_deep"] (spFr K 0):=by
   refine T.pN.okS (k:=5) bX (fun vs H Q E h=>?_) (fun f cdv A outer s H vs Q E hr h=>?_)
   ·obtain ⟨H0,p,a,kn,t,xs,rows,ns,kvs,x,d,rfl,_⟩:=h
    rfl
   ·obtain ⟨H0,p,a,kn,t,xs,rows,ns,kvs,x,d,rfl,hn,ht,rt,hx,hk,kk,hkl,hd,k⟩:=h
    exact absurd hd (Nat.not_lt_zero _)
  exact ⟨F,wr 0 F⟩
 | succ n ih=>
  have F:=(tH T n ih.1 ih.2).mono (show 8+3*n+1≤6+3*(n+1) by omega)
  exact ⟨F,wr (n+1) F⟩
def spSmall (K:PySem.W.Frag):Sp:=fun vs H Q _=>∃ (H0:Hp) (p a:Addr) (t:Nat) (xs:List V) (rows:List Rw2) (ns:List Str) (x:Str),vs=[.ref p,.ref a,.str x]∧NxAt K H0 H p t∧t+80000 < 900000∧RT H a xs rows ns WW∧x∈ns∧
 ∀ (v:V) (s:Nat) (H':Hp),MkT H' 15 s v→s≤30→NxAt K H0 H' p (t+80000)→Sm p p H H'→Q v H'
set_option maxHeartbeats 2000000 in
theorem kG (T:Txt K mg w):FnK P w K mg base 21 "_law_small_maker" ["_law_pen","_law_told","_law_name"] (spSmall K):=by
 have dE:FnK P w K mg base 20 "_law_wrapped" ["_law_pen","_law_told","_law_name","_law_known","_law_deep"] (spWr K 4):=(a0T T 4).2
 have cZ:FnK P w K mg base 17 "_law_many" ["_law_maker"] (spMany 15):=jI T 15
 have h9:FnK P w K mg base 1 "_law_endless" [] spEndless:=jQ T
 refine T.lP.okS dN (fun vs H Q E h=>?_) (fun f cdv A outer s H vs Q E hr h=>?_)
 ·obtain ⟨H0,p,a,t,xs,rows,ns,x,rfl,_⟩:=h
  rfl
 ·obtain ⟨H0,p,a,t,xs,rows,ns,x,rfl,hn,ht,rt,hx,k⟩:=h
  have hsz:sizeLine=16777216:=sizeLine_eq
  have nb:∀ d,d≤3→NN d≤23560:=by decide
  refine ⟨_,(aD (gX PassesOwn.never rfl (kL K (b4 (a7 aF (a7 aF (a7 aF sa_nil))))) (aR (i:=3) dN.nd rfl (Or.inl rfl)) (aD (aL (i:=4) dN.nd rfl (Or.inl rfl) (aT dE (hr.mono (by decide)) (a9 (zv 0) (a9 (zv 1) (a9 (zv 2) (n5 qM (a9 (zv 3) sa_nil)))))))
   (aG (bO (aM kP (aT cZ (hr.mono (by decide)) (a9 (zv 4) sa_nil)) aF (nomark _)) (aG (aO (zv 4))) aV))))
   (aG (aO (a1B h9 (hr.mono (by decide)))))),?_⟩
  refine aJ (fun σ' H'=>∃ v3 v4,σ'=[some (.ref p),some (.ref a),some (.str x),v3,v4]∧NxAt K H0 H' p (t+72000)∧Sm p p H H') ?_ ?_
  ·intro nx hnx
   refine ⟨(show 3≤sizeLine by decide),fun L hL=>Or.inl ⟨⟨_,SqL.of aA⟩,?_⟩⟩
   have sL:=Same.upd hL (.lst [.int 3,.int 2,.int 1])
   have gL:upd H L (.lst [.int 3,.int 2,.int 1]) L=some (.lst [.int 3,.int 2,.int 1]):=aA
   have nL:=hn.ne hL
   have hn1:=hn.same sL
   generalize upd H L (.lst [.int 3,.int 2,.int 1])=H1 at sL gL hn1
   refine eU (cL [.int 3,.int 2,.int 1]) (fun i σ' H'=>∃ v3 v4,σ'=[some (.ref p),some (.ref a),some (.str x),v3,v4]∧NxAt K H0 H' p (t+i*24000)∧Sm p p H1 H') ⟨none,none,rfl,by simpa using hn1,Sm.refl⟩ (by rintro i τ H' _ ⟨_,_,_,_,s⟩;exact SqL.of (s _ _ gL nL nL)) ?_ ?_
   ·rintro i σ' H2 hi ⟨v3,v4,rfl,hn2,sm2⟩
    have hi3:i < 3:=hi
    obtain ⟨d,hd3,ew⟩:∃ d:Nat,d≤3∧([.int 3,.int 2,.int 1]:List V).getD i .non=.int (d:Int):=by
     rcases (show i=0∨i=1∨i=2 by omega) with rfl | rfl | rfl
     ·exact ⟨3,by decide,rfl⟩
     ·exact ⟨2,by decide,rfl⟩
     ·exact ⟨1,by decide,rfl⟩
    rw [ew]
    have hN:=nb d hd3
    have smA:=sL.sm.trans sm2
    refine aI fun kn hkn=>?_
    have sk:=Same.upd hkn (.dK [])
    have gk:upd H2 kn (.dK []) kn=some (.dK []):=aA
    have hn3:=hn2.same sk
    have rt3:=(rt.tk (hn.ts smA)).tk sk.ts
    generalize upd H2 kn (.dK [])=H3 at sk gk hn3 rt3
    refine ⟨H0,p,a,kn,_,xs,rows,ns,[],x,d,rfl,hn3,by dsimp only;omega,rt3,hx,gk,(fun e he=>nomatch he),by simp;omega,by dsimp only;omega,fun v4 s4 H4 mk4 hs4 hn4 sm4=>?_⟩
    dsimp only at mk4 hs4 hn4
    have smB:=(smA.trans sk.sm).trans sm4
    refine ⟨v4,s4,rfl,mk4.up (by omega),fun H5 s5=>⟨_,rfl,iteB (fun c=>?_) (fun _=>⟨_,_,rfl,(hn4.same s5).mono (by rw [Nat.succ_mul];omega),(sm2.trans sk.sm).trans (sm4.trans s5.sm)⟩)⟩⟩
    have c':(s4:Int)≤30:=by simpa using c
    exact k v4 s4 H5 ((mk4.tk s5.ts).up (by omega)) (by omega) ((hn4.same s5).mono (by omega)) (smB.trans s5.sm)
   ·rintro σ' H2 ⟨v3,v4,rfl,hn2,sm2⟩
    exact hnx _ _ ⟨v3,v4,rfl,hn2.mono (by simp),sL.sm.trans sm2⟩
  ·rintro σ' H2 ⟨v3,v4,rfl,hn2,sm2⟩
   refine ⟨rfl,fun v3 H3 s3 mk3=>?_⟩
   exact k v3 9 H3 (mk3.up (by omega)) (by omega) ((hn2.same s3).mono (by omega)) (sm2.trans s3.sm)
theorem yI {H:Hp} {a p:Addr} {ns:List Int} (hs:SqL K H a (ns.map V.int)) (hp:H p=none):NxAt K H (upd H p (.lst [.ref a,.int 0,.int 0])) p 0:=by
 refine ⟨⟨a,ns,0,0,aA,fun H' sm=>?_,by omega,by omega⟩,(Same.upd hp _).sm⟩
 rcases hs with h | h
 ·refine .inl ?_
  have n:a≠p:=fun z=>by rcases h with h | ⟨o,h⟩<;>(rw [z,hp] at h;cases h)
  exact h.imp (fun e=>sm _ _ e n n) fun ⟨o,e⟩=>⟨o,sm _ _ e n n⟩
 ·exact .inr h
def MzV (H:Hp) (ns:Str→Bool) (v:V) (s p:Nat):Prop:=∃ d,DD H v d∧Mz ns d s p
section
variable {H H':Hp} {ns:Str→Bool} {v x y:V} {s p s' p':Nat} {a:Addr}
theorem MzV.same (h:MzV H ns v s p) (t:Same H H'):MzV H' ns v s p:=let ⟨d,h1,h2⟩:=h;⟨d,h1.same t,h2⟩
theorem MzV.cast (h:MzV H ns v s p) (e:s=s') (e':p=p'):MzV H ns v s' p':=e▸e'▸h
theorem MzV.mk (h:MzV H ns v s p):MkT H p s v:=by
 obtain ⟨d,h1,h2⟩:=h
 have:=zH (d.dep+1) (Nat.lt_succ_self _) h1 h2.af
 rwa [h2.sz,h2.dp] at this
theorem MzV.call (e:H a=some (.tup [.str "call",x,y])) (h:MzV H ns x s p) (h':MzV H ns y s' p'):MzV H ns (.ref a) (1+s+s') (1+max p p'):=let ⟨d,h1,h2⟩:=h;let ⟨d',h1',h2'⟩:=h';⟨_,lH e (dO (by unfold Shr;decide)) h1 h1',h2.call h2'⟩
theorem MzV.pick (e:H a=some (.tup [.str "pick",.str "a",x])) (h:MzV H ns x s p):MzV H ns (.ref a) (1+s) (1+p):=let ⟨d,h1,h2⟩:=h;⟨_,lH e (dO (by unfold Shr;decide)) (dO (by unfold Shr;decide)) h1,h2.pick⟩
theorem MzV.part (e:H a=some (.tup [.str "part",x,.str "a"])) (h:MzV H ns x s p):MzV H ns (.ref a) (1+s) (1+p):=let ⟨d,h1,h2⟩:=h;⟨_,lH e (dO (by unfold Shr;decide)) h1 (dO (by unfold Shr;decide)),h2.part⟩
theorem MzV.get (e:H a=some (.tup [.str "get",.str "v"])):MzV H ns (.ref a) 1 1:=⟨_,iJ e (dO (by unfold Shr;decide)) (dO (by unfold Shr;decide)),Mz.get⟩
theorem TelAt.same' {xs:List V} {rs:List (Str×V)} (h:TelAt H a xs rs) (t:Same H H'):TelAt H' a xs rs:=⟨t _ _ h.1,⟨h.2.1.1,fun i g=>let ⟨b,h1,h2⟩:=h.2.1.2 i g;⟨b,h1,t _ _ h2⟩⟩,h.2.2⟩
end
def spBnd:Sp:=fun vs H Q _=>∃ (a:Addr) (xs:List V) (rs:List (Str×V)),vs=[.ref a]∧TelAt H a xs rs∧∀ H',Same H H'→Q (.bl true) H'
set_option maxHeartbeats 2000000 in
theorem jV (T:Txt K mg w):FnK P w K mg base 21 "_law_bounds_right" ["_law_told"] spBnd:=by
 have cH:FnK P w K mg base 6 "is_maker" ["T","thing"] spIsM:=jA T
 have cZ:FnK P w K mg base 20 "_law_many" ["_law_maker"] (spMany 18):=jI T 18
 refine T.kH.okS aX (fun vs H Q E h=>?_) (fun f cdv A outer s H vs Q E hr h=>?_)
 ·obtain ⟨a,xs,rs,rfl,_⟩:=h
  rfl
 ·obtain ⟨a,xs,rs,rfl,hT,q⟩:=h
  have hu0:=Nat.lt_of_succ_lt (bD hr)
  have hsz:sizeLine=16777216:=sizeLine_eq
  refine ⟨_,(aD (aL (i:=1) aX.nd rfl (Or.inl rfl) (aE (a7 aC (aB (aE sa_nil) sa_nil))))
   (aD (gX PassesOwn.never rfl (dD (by rfl) T.dU (a7 aF sa_nil)) (aR (i:=2) aX.nd rfl (Or.inl rfl)) (aG (aL (i:=1) aX.nd rfl (Or.inl rfl) (aE (a7 aC (a7 aC (a9 (zv 1) sa_nil)))))))
   (aD (aL (i:=3) aX.nd rfl (Or.inr rfl) (aE (a7 aC (aB (aE (a7 aC (a7 aC sa_nil))) (aB (aE (a7 aC (a7 aC sa_nil))) sa_nil)))))
   (aD (aL (i:=4) aX.nd rfl (Or.inl rfl) (aE (a7 aC (b5 (bL (cO K) (by rfl) T.cB PyProof.Rows.boot_tuple (b9 (fU (own:=["_law_word"]) (idx:=[3]) (N':=["_law_word","_law_one"]) (⟨rfl,by decide+kernel,by decide+kernel,(show ∀ y∈Scope.names _,y.2=NameKind.free→((defScope bY).names.lookup y.1=some NameKind.cell∨(defScope bY).names.lookup y.1=some NameKind.free) by decide+kernel),(show ∀ j∈([3]:List Nat),(Scope.names _).lookup ((["_law_told","_law_chain","_law_k","_law_one","_law_wide","_law_sixty","_law_left","_law_rest","_law_just"]:List Str).getD j "")=some NameKind.free∧j < (["_law_told","_law_chain","_law_k","_law_one","_law_wide","_law_sixty","_law_left","_law_rest","_law_just"]:List Str).length by decide+kernel),rfl⟩) rfl (kL K aC) (fun _ _ _ _ _ _=>(aR (i:=0) (show List.Nodup (["_law_word","_law_one"]:List Str) by decide+kernel) rfl (Or.inl rfl))) (fun _ _ _ _ _ _=>cA) (fun _ _ _ _ _ _=>(aE (a9 (zv 0) (a9 (zv 1) sa_nil))))) sa_nil)) sa_nil))))
   (aD (aL (i:=5) aX.nd rfl (Or.inl rfl) (aE (a7 aC (aB (aE (a7 aC (a9 (zv 4) (a9 (zv 4) sa_nil)))) (a9 (zv 1) sa_nil)))))
   (aD (bO (i7 (aM qT (aT cH (hr.mono (by decide)) (a9 (zv 0) (a9 (zv 1) sa_nil))) dR (nomark _)) (fO (aM qT (aT cH (hr.mono (by decide)) (a9 (zv 0) (aB (aE (a7 aC (a7 aC (a9 (zv 1) sa_nil)))) sa_nil))) dR (nomark _)))).pt (aG (aO dR)) aV)
   (aD (aL (i:=6) aX.nd rfl (Or.inl rfl) (b8 cQ (b8 cQ aF (b8 fA (aT cZ (hr.mono (by decide)) (a9 (zv 4) sa_nil)) aF)) aF))
   (aD (aL (i:=7) aX.nd rfl (Or.inl rfl) (aE (a7 aC (a7 aC sa_nil))))
   (aD (gX PassesOwn.never rfl (dD (by rfl) T.dU (cE (b8 cQ (zv 6) aF) sa_nil)) (aR (i:=2) aX.nd rfl (Or.inl rfl)) (aG (aL (i:=7) aX.nd rfl (Or.inl rfl) (aE (a7 aC (a9 (zv 7) (a7 aC sa_nil)))))))
   (aD (aL (i:=8) aX.nd rfl (Or.inl rfl) (aE (a7 aC (aB (aE (a7 aC (a9 (zv 4) (a9 (zv 4) sa_nil)))) (a9 (zv 7) sa_nil)))))
   (aD (bO (i7 (aM (j5 hu0) (aT cZ (hr.mono (by decide)) (a9 (zv 8) sa_nil)) aF (nomark _)) (fO (aM qT (aT cH (hr.mono (by decide)) (a9 (zv 0) (a9 (zv 8) sa_nil))) dR (nomark _)))).pt (aG (aO dR)) aV)
   (aG (aO (lR (fJ vP (aT cH (hr.mono (by decide)) (a9 (zv 0) (aB (aE (a7 aC (a9 (zv 8) (a7 aC sa_nil)))) sa_nil))) dR (nomark _)) (kS (fJ vP (aT cH (hr.mono (by decide)) (a9 (zv 0) (a9 (zv 5) sa_nil))) dR (nomark _))))))))))))))))),?_⟩
  refine aI ⟨(show 0≤sizeLine by decide),fun c1 h1=>⟨(show 2≤sizeLine by decide),fun e1 he1=>?_⟩⟩
  have s1:=(Same.upd h1 (.tup [])).trans (Same.upd he1 (.tup [.str "box",.ref c1]))
  have g1:upd (upd H c1 (.tup [])) e1 (.tup [.str "box",.ref c1]) e1=some (.tup [.str "box",.ref c1]):=aA
  have g2:=Same.upd he1 (.tup [.str "box",.ref c1]) _ _ (aA:upd H c1 (.tup []) c1=some (.tup []))
  dsimp only
  generalize upd (upd H c1 (.tup [])) e1 (.tup [.str "box",.ref c1])=H1 at s1 g1 g2
  have m1:MzV H1 (nsOf (dictOf (rowsK rs))) (.ref e1) 1 1:=⟨_,iJ g1 (dO (by unfold Shr;decide)) (.tup g2 rfl (by simp) fun i h=>absurd h (by simp)),Mz.box0⟩
  refine aJ (fun σ' H'=>∃ v v2,σ'=[some (.ref a),some v,v2,none,none,none,none,none,none]∧MzV H' (nsOf (dictOf (rowsK rs))) v 20 20∧Same H H') (fun nx hnx=>?_) ?_
  ·refine ⟨19,rfl,by omega,by omega,?_⟩
   refine eU (cG 0 19) (fun i σ' H'=>∃ v v2,σ'=[some (.ref a),some v,v2,none,none,none,none,none,none]∧MzV H' (nsOf (dictOf (rowsK rs))) v (1+i) (1+i)∧Same H H') ⟨_,_,rfl,m1,s1⟩ (fun _ _ _ _ _=>True.intro) ?_ ?_
   ·rintro i σ' H2 hi ⟨v,v2,rfl,m2,s2⟩
    refine ⟨(show 3≤sizeLine by decide),fun c hc=>?_⟩
    have sc:=Same.upd hc (.tup [.str "pick",.str "a",v])
    exact ⟨.ref c,_,rfl,(MzV.pick aA (m2.same sc)).cast (by omega) (by omega),s2.trans sc⟩
   ·rintro σ' H2 ⟨v,v2,rfl,m2,s2⟩
    exact hnx _ _ ⟨v,v2,rfl,m2,s2⟩
  rintro σ' H2 ⟨vc,v2,rfl,mc,s2⟩
  refine aI ⟨(show 2≤sizeLine by decide),fun k1 hk1=>⟨(show 2≤sizeLine by decide),fun k2 hk2=>⟨(show 3≤sizeLine by decide),fun k3 hk3=>?_⟩⟩⟩
  have t1:=Same.upd hk1 (.tup [.str "get",.str "v"])
  have f1:upd H2 k1 (.tup [.str "get",.str "v"]) k1=some (.tup [.str "get",.str "v"]):=aA
  generalize upd H2 k1 (.tup [.str "get",.str "v"])=G1 at t1 f1 hk2 hk3
  have t2:=Same.upd hk2 (.tup [.str "get",.str "v"])
  have f2:upd G1 k2 (.tup [.str "get",.str "v"]) k2=some (.tup [.str "get",.str "v"]):=aA
  dsimp only
  generalize upd G1 k2 (.tup [.str "get",.str "v"])=G2 at t2 f2 hk3
  have t3:=Same.upd hk3 (.tup [.str "call",.ref k1,.ref k2])
  have f3:upd G2 k3 (.tup [.str "call",.ref k1,.ref k2]) k3=some (.tup [.str "call",.ref k1,.ref k2]):=aA
  generalize upd G2 k3 (.tup [.str "call",.ref k1,.ref k2])=G3 at t3 f3
  have tt:=t1.trans (t2.trans t3)
  have mo:MzV G3 (nsOf (dictOf (rowsK rs))) (.ref k3) 3 2:=(MzV.call f3 (MzV.get (t3 _ _ (t2 _ _ f1))) (MzV.get (t3 _ _ f2))).cast (by omega) (by omega)
  have mc:=mc.same tt
  have s3:=s2.trans tt
  refine aJ (fun σ' H'=>∃ wd,σ'=[some (.ref a),some vc,v2,some (.ref k3),some wd,none,none,none,none]∧MzV H' (nsOf (dictOf (rowsK rs))) wd 22 3∧Same G3 H') (fun nx hnx=>?_) ?_
  ·intro D hD
   obtain ⟨dd,hd1,hd2⟩:=mo
   refine d7 (lJ "abcdefg") (fun i τ H'=>∃ (v0:Option V) (zs:List V),τ=[v0,some (.ref k3)]∧H' D=some (.lst zs)∧DDs H' zs ((row7 dd).take i)∧Same G3 H') ⟨none,[],rfl,aA,.nil,Same.upd hD _⟩ (fun _ _ _ _ _=>True.intro) ?_ ?_
   ·rintro i τ H4 hi ⟨v0,zs,rfl,gD,hzs,s4⟩
    have hi7:i < 7:=hi
    refine ⟨(show 2≤sizeLine by decide),fun c hc=>?_⟩
    have sc:=Same.upd hc (.tup [.str ⟨#[("abcdefg":Str).cps.getD i 0]⟩,.ref k3])
    have ss:=s4.trans sc
    have ky:=Ky.lset (ys:=zs++[.ref c]) (sc _ _ gD)
    have hzl:=hzs.1
    have h7:(row7 dd).length=7:=rfl
    rw [List.length_take,h7] at hzl
    have er:∃ r,(row7 dd)[i]? =some r∧r=.tup [.str ⟨#[("abcdefg":Str).cps.getD i 0]⟩,dd]:=by
     rcases (show i=0∨i=1∨i=2∨i=3∨i=4∨i=5∨i=6 by omega) with rfl | rfl | rfl | rfl | rfl | rfl | rfl<;>exact ⟨_,rfl,rfl⟩
    obtain ⟨r,er,rfl⟩:=er
    have et:(row7 dd).take (i+1)=(row7 dd).take i++[.tup [.str ⟨#[("abcdefg":Str).cps.getD i 0]⟩,dd]]:=by rw [List.take_add_one,er];rfl
    refine ⟨zs,sc _ _ gD,by omega,_,zs++[.ref c],rfl,aA,?_,ss.put hD⟩
    rw [et]
    have h1:DDs (upd H4 c (.tup [.str ⟨#[("abcdefg":Str).cps.getD i 0]⟩,.ref k3])) zs ((row7 dd).take i):=hzs.same sc
    have h2:=h1.snoc (iJ aA (dO (shr1 _)) (hd1.same ss))
    exact ⟨h2.1,fun j a b=>(h2.2 j a b).ky ky⟩
   ·rintro τ H4 ⟨v0,zs,rfl,gD,hzs,s4⟩
    have hzs:DDs H4 zs (row7 dd):=hzs
    have hzl:zs.length=7:=hzs.1
    refine ⟨D,zs,rfl,.inl ⟨SqL.of gD,fun l hl=>⟨(show 2≤sizeLine by decide),fun b hb=>?_⟩⟩⟩
    have sl:=Same.upd hl (.tup zs)
    have gl:upd H4 l (.tup zs) l=some (.tup zs):=aA
    generalize upd H4 l (.tup zs)=H5 at sl gl hb
    have sb:=Same.upd hb (.tup [.str "box",.ref l])
    have hzs:=hzs.same (sl.trans sb)
    exact hnx _ _ ⟨.ref b,rfl,⟨_,iJ aA (dO (by unfold Shr;decide)) (.tup (sb _ _ gl) hzs.1 (by omega) hzs.2),(Mz.box7 hd2)⟩,s4.trans (sl.trans sb)⟩
  rintro σ' H4 ⟨wd,rfl,mw,s4⟩
  have mc:=mc.same s4
  have s4':=s3.trans s4
  refine aI ⟨(show 3≤sizeLine by decide),fun l1 hl1=>⟨(show 3≤sizeLine by decide),fun l2 hl2=>?_⟩⟩
  have t1:=Same.upd hl1 (.tup [.str "call",wd,wd])
  have f1:upd H4 l1 (.tup [.str "call",wd,wd]) l1=some (.tup [.str "call",wd,wd]):=aA
  generalize upd H4 l1 (.tup [.str "call",wd,wd])=G1 at t1 f1 hl2
  have t2:=Same.upd hl2 (.tup [.str "call",.ref l1,vc])
  have f2:upd G1 l2 (.tup [.str "call",.ref l1,vc]) l2=some (.tup [.str "call",.ref l1,vc]):=aA
  dsimp only
  generalize upd G1 l2 (.tup [.str "call",.ref l1,vc])=H5 at t2 f2
  have tt:=t1.trans t2
  have mw:=mw.same tt
  have mc:=mc.same tt
  have m6:MzV H5 (nsOf (dictOf (rowsK rs))) (.ref l2) 66 21:=(MzV.call f2 (MzV.call (t2 _ _ f1) mw mw) mc).cast (by omega) (by omega)
  have s5:=s4'.trans tt
  refine aJ (fun σ' H'=>σ'=[some (.ref a),some vc,v2,some (.ref k3),some wd,some (.ref l2),none,none,none]∧Same H5 H') (fun nx hnx=>?_) ?_
  ·obtain ⟨dc,dc1,dc2⟩:=mc
   refine ⟨a,xs,rs,vc,dc,rfl,hT.same' s5,dc1,fun H6 s6=>?_⟩
   rw [dc2.mkr]
   refine ⟨_,rfl,iteF ⟨(show 3≤sizeLine by decide),fun b hb=>?_⟩⟩
   have sb:=Same.upd hb (.tup [.str "pick",.str "a",vc])
   have gb:upd H6 b (.tup [.str "pick",.str "a",vc]) b=some (.tup [.str "pick",.str "a",vc]):=aA
   generalize upd H6 b (.tup [.str "pick",.str "a",vc])=H6' at sb gb
   obtain ⟨dp,dp1,dp2⟩:=MzV.pick gb ((show MzV H5 _ vc 20 20 from ⟨dc,dc1,dc2⟩).same (s6.trans sb))
   refine ⟨a,xs,rs,_,dp,rfl,hT.same' (s5.trans (s6.trans sb)),dp1,fun H7 s7=>?_⟩
   rw [dp2.mkr]
   exact ⟨_,rfl,iteF (hnx _ _ ⟨rfl,s6.trans (sb.trans s7)⟩)⟩
  rintro σ' H6 ⟨rfl,s6⟩
  have mw6:=mw.same s6
  refine aJ (fun σ' H'=>σ'=[some (.ref a),some vc,v2,some (.ref k3),some wd,some (.ref l2),some (.int 14),none,none]∧Same H6 H') (fun nx hnx=>⟨wd,22,rfl,mw6.mk.up (by omega),fun H7 s7=>⟨.inr ⟨by decide,by decide⟩,hnx _ _ ⟨rfl,s7⟩⟩⟩) ?_
  rintro σ' H7 ⟨rfl,s7⟩
  have m6:=m6.same (s6.trans s7)
  have mw:=mw6.same s7
  have s7':=s5.trans (s6.trans s7)
  refine aI ⟨(show 2≤sizeLine by decide),fun k5 hk5=>?_⟩
  have t5:=Same.upd hk5 (.tup [.str "get",.str "v"])
  have f5:upd H7 k5 (.tup [.str "get",.str "v"]) k5=some (.tup [.str "get",.str "v"]):=aA
  dsimp only
  generalize upd H7 k5 (.tup [.str "get",.str "v"])=H8 at t5 f5
  have mg8:MzV H8 (nsOf (dictOf (rowsK rs))) (.ref k5) 1 1:=MzV.get f5
  have m6:=m6.same t5
  have mw:=mw.same t5
  have s8:=s7'.trans t5
  refine aJ (fun σ' H'=>∃ v v2,σ'=[some (.ref a),some vc,v2,some (.ref k3),some wd,some (.ref l2),some (.int 14),some v,none]∧MzV H' (nsOf (dictOf (rowsK rs))) v 14 14∧Same H8 H') (fun nx hnx=>?_) ?_
  ·refine ⟨13,rfl,by omega,by omega,?_⟩
   refine eU (cG 0 13) (fun i σ' H'=>∃ v v2,σ'=[some (.ref a),some vc,v2,some (.ref k3),some wd,some (.ref l2),some (.int 14),some v,none]∧MzV H' (nsOf (dictOf (rowsK rs))) v (1+i) (1+i)∧Same H8 H') ⟨_,_,rfl,mg8,Same.refl _⟩ (fun _ _ _ _ _=>True.intro) ?_ ?_
   ·rintro i σ' H2 hi ⟨v,v2,rfl,m2,s2⟩
    refine ⟨(show 3≤sizeLine by decide),fun c hc=>?_⟩
    have sc:=Same.upd hc (.tup [.str "part",v,.str "a"])
    exact ⟨.ref c,_,rfl,(MzV.part aA (m2.same sc)).cast (by omega) (by omega),s2.trans sc⟩
   ·rintro σ' H2 ⟨v,v2,rfl,m2,s2⟩
    exact hnx _ _ ⟨v,v2,rfl,m2,s2⟩
  rintro σ' H9 ⟨vr,v2',rfl,mr,s9⟩
  have m6:=m6.same s9
  have mw:=mw.same s9
  have s9':=s8.trans s9
  refine aI ⟨(show 3≤sizeLine by decide),fun j1 hj1=>⟨(show 3≤sizeLine by decide),fun j2 hj2=>?_⟩⟩
  have t1:=Same.upd hj1 (.tup [.str "call",wd,wd])
  have f1:upd H9 j1 (.tup [.str "call",wd,wd]) j1=some (.tup [.str "call",wd,wd]):=aA
  generalize upd H9 j1 (.tup [.str "call",wd,wd])=G1 at t1 f1 hj2
  have t2:=Same.upd hj2 (.tup [.str "call",.ref j1,vr])
  have f2:upd G1 j2 (.tup [.str "call",.ref j1,vr]) j2=some (.tup [.str "call",.ref j1,vr]):=aA
  dsimp only
  generalize upd G1 j2 (.tup [.str "call",.ref j1,vr])=Ha at t2 f2
  have tt:=t1.trans t2
  have mj:MzV Ha (nsOf (dictOf (rowsK rs))) (.ref j2) 60 15:=(MzV.call f2 (MzV.call (t2 _ _ f1) (mw.same tt) (mw.same tt)) (mr.same tt)).cast (by omega) (by omega)
  have m6:=m6.same tt
  have sa:=s9'.trans tt
  refine aJ (fun σ' H'=>σ'=[some (.ref a),some vc,v2',some (.ref k3),some wd,some (.ref l2),some (.int 14),some vr,some (.ref j2)]∧Same Ha H') (fun nx hnx=>?_) ?_
  ·refine ⟨.ref j2,60,rfl,mj.mk.up (by omega),fun Hb sb=>⟨rfl,_,rfl,iteF ?_⟩⟩
   obtain ⟨dj,dj1,dj2⟩:=mj.same sb
   refine ⟨a,xs,rs,_,dj,rfl,hT.same' (sa.trans sb),dj1,fun Hc sc=>?_⟩
   rw [dj2.mkr]
   exact ⟨_,rfl,iteF (hnx _ _ ⟨rfl,sb.trans sc⟩)⟩
  rintro σ' Hb ⟨rfl,sb⟩
  refine ⟨(show 3≤sizeLine by decide),fun b hb=>?_⟩
  have tb:=Same.upd hb (.tup [.str "part",.ref j2,.str "a"])
  have gb:upd Hb b (.tup [.str "part",.ref j2,.str "a"]) b=some (.tup [.str "part",.ref j2,.str "a"]):=aA
  generalize upd Hb b (.tup [.str "part",.ref j2,.str "a"])=Hc at tb gb
  obtain ⟨dp,dp1,dp2⟩:=MzV.part gb (mj.same (sb.trans tb))
  refine ⟨a,xs,rs,_,dp,rfl,hT.same' (sa.trans (sb.trans tb)),dp1,fun Hd sd=>?_⟩
  rw [dp2.mkr]
  obtain ⟨d6,d61,d62⟩:=m6.same ((sb.trans tb).trans sd)
  refine ⟨_,rfl,⟨a,xs,rs,_,d6,rfl,hT.same' (sa.trans ((sb.trans tb).trans sd)),d61,fun He se=>?_⟩⟩
  rw [d62.mkr]
  exact q He (sa.trans (((sb.trans tb).trans sd).trans se))
theorem y2 {rs:List (Str×V)} (nd:(rs.map (·.1)).Nodup) (z:Str):nsOf (dictOf (rowsK rs)) z=decide (z∈rs.map (·.1)):=by
 have hnd:((rowsK rs).map (·.1)).Nodup:=by
  have e:(rowsK rs).map (·.1)=(rs.map (·.1)).map (fun n=>(Sum.inr n:Key)):=by unfold rowsK;rw [List.map_map,List.map_map];rfl
  rw [e]
  exact List.Pairwise.map _ (fun a b h c=>h (Sum.inr.inj c)) nd
 unfold nsOf
 rw [lD _ hnd]
 exact mW nd z
structure LW (K:PySem.W.Frag) (H0 H:Hp) (p L S T a:Addr) (nms:List Str) (ws us xs:List V) (rs:List (Str×V)) (v:V) (s t:Nat):Prop where
 hn:NxAt K H0 H p t
 gL:H L=some (.lst (nms.map V.str))
 mkt:MkT H 15 s v
 hT:TelAt H a xs rs
 gS:H S=some (.lst ws)
 os:∀ x∈ws,OkD H 48 x
 gT:H T=some (.lst us)
 ou:∀ x∈us,OkD H 99 x
section
variable {H0 H H':Hp} {p L S T a:Addr} {nms:List Str} {ws us xs:List V} {rs:List (Str×V)} {v:V} {s t t':Nat}
theorem LW.draw (h:LW K H0 H p L S T a nms ws us xs rs v s t) (hn:NxAt K H0 H' p t') (sm:Sm p p H H') (nL:L≠p) (nS:S≠p) (nT:T≠p):LW K H0 H' p L S T a nms ws us xs rs v s t':=
 have ky:=eC h.hn hn sm
 ⟨hn,sm _ _ h.gL nL nL,h.mkt.tk ky.tk,⟨ky.tk _ _ h.hT.1,⟨h.hT.2.1.1,fun i g=>let ⟨b,h1,h2⟩:=h.hT.2.1.2 i g;⟨b,h1,ky.tk _ _ h2⟩⟩,h.hT.2.2⟩,sm _ _ h.gS nS nS,fun x hx=>(h.os x hx).ky ky,sm _ _ h.gT nT nT,fun x hx=>(h.ou x hx).ky ky⟩
theorem LW.same (h:LW K H0 H p L S T a nms ws us xs rs v s t) (e:Same H H'):LW K H0 H' p L S T a nms ws us xs rs v s t:=
 ⟨h.hn.same e,e _ _ h.gL,h.mkt.tk e.ts,h.hT.same' e,e _ _ h.gS,fun x hx=>(h.os x hx).same e,e _ _ h.gT,fun x hx=>(h.ou x hx).same e⟩
theorem LW.putD {D:Addr} {zs ys:List V} (h:LW K H0 H p L S T a nms ws us xs rs v s t) (e:H D=some (.lst zs)) (nD:D≠p) (h0:H0 D=none) (nL:L≠D) (nS:S≠D) (nT:T≠D):LW K H0 (upd H D (.lst ys)) p L S T a nms ws us xs rs v s t:=by
 have ky:=Ky.lset (ys:=ys) e
 exact ⟨h.hn.put nD h0,by rw [aN nL];exact h.gL,h.mkt.tk ky.tk,⟨ky.tk _ _ h.hT.1,⟨h.hT.2.1.1,fun i g=>let ⟨b,h1,h2⟩:=h.hT.2.1.2 i g;⟨b,h1,ky.tk _ _ h2⟩⟩,h.hT.2.2⟩,by rw [aN nS];exact h.gS,fun x hx=>(h.os x hx).ky ky,by rw [aN nT];exact h.gT,fun x hx=>(h.ou x hx).ky ky⟩
theorem LW.list {T':Addr} {us':List V} (h:LW K H0 H p L S T a nms ws us xs rs v s t) (g:H T'=some (.lst us')) (o:∀ x∈us',OkD H 99 x):LW K H0 H p L S T' a nms ws us' xs rs v s t:=⟨h.hn,h.gL,h.mkt,h.hT,h.gS,h.os,g,o⟩
theorem LW.mono (h:LW K H0 H p L S T a nms ws us xs rs v s t) (l:t≤t'):LW K H0 H p L S T a nms ws us xs rs v s t':=⟨h.hn.mono l,h.gL,h.mkt,h.hT,h.gS,h.os,h.gT,h.ou⟩
end
set_option maxHeartbeats 4000000 in
theorem a1r (T:Txt K mg w):FnK P w K mg base 120 "law" ["script"] (spLaw K):=by
 have aK:FnK P w K mg base 2 "_law_next" ["_law_pen","_law_many"] (spNx K):=bC T
 have jU:FnK P w K mg base 6 "_law_maker_telling" ["_law_pen","_law_most"] (spMkTell K):=iV T
 have iF:FnK P w K mg base 3 "_law_any" ["_law_pen","_law_told"] (spAny K):=kI T
 have lO:FnK P w K mg base 21 "_law_small_maker" ["_law_pen","_law_told","_law_name"] (spSmall K):=kG T
 have xN:FnK P w K mg base 1 "_law_odd" ["_law_maker","_law_name"] spOdd:=vW T
 have eM:FnK P w K mg base 18 "_law_bent_maker" ["_law_pen","_law_maker"] (spBnt K 15):=lI T 15
 have lM:FnK P w K mg base 19 "_law_deeper_ones" ["_law_pen","_law_maker","_law_some","_law_name"] (spDpo K):=kF T
 have oG:FnK P w K mg base 103 "_law_is" ["_law_names","_law_thing"] (spIs 100):=wQ T 100
 have cZ:FnK P w K mg base 103 "_law_many" ["_law_maker"] (spMany 101):=jI T 101
 have kJ:FnK P w K mg base 102 "_law_deep" ["_law_maker"] (spDeep 100):=tO T 100
 have cH:FnK P w K mg base 6 "is_maker" ["T","thing"] spIsM:=jA T
 have jY:FnK P w K mg base 7 "_law_doubled_right" ["_law_pen","_law_told"] (spDbl K):=jJ T
 have kQ:FnK P w K mg base 21 "_law_bounds_right" ["_law_told"] spBnd:=jV T
 refine T.t_law.okS (k:=119) dZ (fun vs H Q E h=>?_) (fun f cdv A outer s H vs Q E hr h=>?_)
 ·obtain ⟨a,ns,rfl,_⟩:=h
  rfl
 ·obtain ⟨sc,cells,rfl,hsc,hl63,k⟩:=h
  have hu:=bD hr
  have hu0:=Nat.lt_of_succ_lt (bD hr)
  have hu20:=rQ hr
  have hsz:sizeLine=16777216:=sizeLine_eq
  refine ⟨_,(aD (aL (i:=1) dZ.nd rfl (Or.inr rfl) (b4 (a9 (zv 0) (a7 aF (a7 aF sa_nil)))))
   (aD (gX PassesOwn.never rfl (dD (by rfl) T.dU (a7 aF sa_nil)) (aR (i:=2) dZ.nd rfl (Or.inl rfl)) (aD (aL (i:=3) dZ.nd rfl (Or.inl rfl) (aT jU (hr.mono (by decide)) (a9 (zv 1) (a7 aF sa_nil))))
   (aD (xX (i:=4) (own:=["_law_name","_law_here"]) (idx:=[]) (N':=["_law_name","_law_here"]) (⟨rfl,by decide+kernel,by decide+kernel,(show ∀ y∈Scope.names _,y.2=NameKind.free→((defScope iR).names.lookup y.1=some NameKind.cell∨(defScope iR).names.lookup y.1=some NameKind.free) by decide+kernel),(show ∀ j∈([]:List Nat),(Scope.names _).lookup ((["script","_law_pen","_law_k","_law_told","_law_names","_law_maker","_law_some","_law_things","_law_thing","_law_due","_law_found"]:List Str).getD j "")=some NameKind.free∧j < (["script","_law_pen","_law_k","_law_told","_law_names","_law_maker","_law_some","_law_things","_law_thing","_law_due","_law_found"]:List Str).length by decide+kernel),rfl⟩) rfl (kL K (zv 3)) (fun _ _ _ _ _ _=>(jG K (n:=2) rfl (bR (aR (i:=0) (show List.Nodup (["_law_name","_law_here"]:List Str) by decide+kernel) rfl (Or.inl rfl)) (bR (aR (i:=1) (show List.Nodup (["_law_name","_law_here"]:List Str) by decide+kernel) rfl (Or.inl rfl)) gG)))) (fun _ _ _ _ _ _=>cA) (fun _ _ _ _ _ _=>(zv 0)) dZ.nd rfl rfl)
   (aD (aL (i:=5) dZ.nd rfl (Or.inl rfl) (aT lO (hr.mono (by decide)) (a9 (zv 1) (a9 (zv 3) (b5 (aT iF (hr.mono (by decide)) (a9 (zv 1) (a9 (zv 3) sa_nil))) sa_nil)))))
   (aD (aL (i:=6) dZ.nd rfl (Or.inr rfl) (aT xN (hr.mono (by decide)) (a9 (zv 5) (aH (b7 (b6 K) (zv 4) aF (fun _ _=>rfl)) sa_nil))))
   (aD (aL (i:=7) dZ.nd rfl (Or.inl rfl) (b4 (a9 (zv 5) (b5 (aT eM (hr.mono (by decide)) (a9 (zv 1) (a9 (zv 5) sa_nil))) sa_nil))))
   (aD (aL (i:=7) dZ.nd rfl (Or.inl rfl) (b8 aS (zv 7) (fU (own:=["_law_turn"]) (idx:=[1,6]) (N':=["_law_turn","_law_pen","_law_some"]) (⟨rfl,by decide+kernel,by decide+kernel,(show ∀ y∈Scope.names _,y.2=NameKind.free→((defScope iR).names.lookup y.1=some NameKind.cell∨(defScope iR).names.lookup y.1=some NameKind.free) by decide+kernel),(show ∀ j∈([1,6]:List Nat),(Scope.names _).lookup ((["script","_law_pen","_law_k","_law_told","_law_names","_law_maker","_law_some","_law_things","_law_thing","_law_due","_law_found"]:List Str).getD j "")=some NameKind.free∧j < (["script","_law_pen","_law_k","_law_told","_law_names","_law_maker","_law_some","_law_things","_law_thing","_law_due","_law_found"]:List Str).length by decide+kernel),rfl⟩) rfl (dD (by rfl) T.dU (a7 aF sa_nil)) (fun _ _ _ _ _ _=>(aR (i:=0) (show List.Nodup (["_law_turn","_law_pen","_law_some"]:List Str) by decide+kernel) rfl (Or.inl rfl))) (fun _ _ _ _ _ _=>cA) (fun _ _ _ _ _ _=>(b7 (b6 K) (zv 2) (aT aK (hr.mono (by decide)) (a9 (zv 1) (b5 (aQ (aZ K) (by rfl) T.n_len PySem.boot_len (a9 (zv 2) sa_nil)) sa_nil))) (fun _ _=>rfl))))))
   (aD (aL (i:=7) dZ.nd rfl (Or.inl rfl) (b8 aS (zv 7) (aT lM (hr.mono (by decide)) (a9 (zv 1) (a9 (zv 5) (a9 (zv 6) (aH (b7 (b6 K) (zv 4) aF (fun _ _=>rfl)) sa_nil)))))))
   (aG (gX PassesOwn.never rfl (kL K (zv 7)) (aR (i:=8) dZ.nd rfl (Or.inl rfl)) (aD (aL (i:=9) dZ.nd rfl (Or.inl rfl) (aT oG (hr.mono (by decide)) (a9 (zv 4) (a9 (zv 8) sa_nil))))
   (aD (bO (eI (zv 9)) (aG (aL (i:=9) dZ.nd rfl (Or.inl rfl) (lR (fJ kP (aT cZ (hr.mono (by decide)) (a9 (zv 8) sa_nil)) aF (nomark _)) (kS (fJ kP (aT kJ (hr.mono (by decide)) (a9 (zv 8) sa_nil)) aF (nomark _)))))) aV)
   (aD (aL (i:=10) dZ.nd rfl (Or.inl rfl) (aT cH (hr.mono (by decide)) (a9 (zv 3) (a9 (zv 8) sa_nil))))
   (aG (bO (i7 (dS (eI (aQ bZ (by rfl) T.bI PyProof.Rows.boot_isinstance (a9 (zv 10) (a9 (fI (v:=.ty "bool") (by rfl) T.a2G PyProof.Rows.boot_bool rfl) sa_nil))))) (fO (aM (j5 hu0) (zv 10) (zv 9) (nomark _)))).pt (aG (aO dR)) aV)))))))))))))))
   (aG (aO (lR (aT jY (hr.mono (by decide)) (a9 (zv 1) (a9 (zv 3) sa_nil))) (kS (aT kQ (hr.mono (by decide)) (a9 (zv 3) sa_nil)))))))),?_⟩
  refine aI ⟨(show 3≤sizeLine by decide),fun p hp=>?_⟩
  have hn0:=yI hsc hp
  dsimp only
  generalize upd H p (.lst [.ref sc,.int 0,.int 0])=H1 at hn0
  refine aJ (fun σ' H'=>∃ v2 v4 v5 v6 v7 v8 v9 v10 a xs rs,σ'=[some (.ref sc),some (.ref p),v2,some (.ref a),v4,v5,v6,v7,v8,v9,v10]∧NxAt K H H' p 200000∧TelAt H' a xs rs) ?_ ?_
  ·intro nx hnx
   refine ⟨2,rfl,by decide,by decide,?_⟩
   refine eU (cG 0 2) (fun i σ' H'=>∃ v2 v3 v4 v5 v6 v7 v8 v9 v10,σ'=[some (.ref sc),some (.ref p),v2,v3,v4,v5,v6,v7,v8,v9,v10]∧NxAt K H H' p (i*100000)∧(0 < i→∃ a xs rs,v3=some (.ref a)∧TelAt H' a xs rs))
    ⟨none,none,none,none,none,none,none,none,none,rfl,hn0,fun h=>absurd h (Nat.lt_irrefl _)⟩ (fun _ _ _ _ _=>trivial) ?_ ?_
   ·rintro i σ' H2 hi ⟨v2,v3,v4,v5,v6,v7,v8,v9,v10,rfl,hn2,_⟩
    have hi2:i < 2:=hi
    refine aI ⟨H,p,5,i*100000,rfl,hn2,by omega,⟨by decide,by decide⟩,fun a xs rows ns H3 rt hN hn3 sm3=>?_⟩
    obtain ⟨rs,ps,ers,lrs,_⟩:=rt.pairs
    have ndr:(rs.map (·.1)).Nodup:=by rw [ers];exact rt.ndr
    have hT:TelAt H3 a xs rs:=⟨rt.at_,ps,by rw [lrs,rt.rl];have:=rt.few;omega⟩
    have hnm:∀ z∈rs.map (·.1),isName z=true:=fun z hz=>by
     rw [ers] at hz
     obtain ⟨r,hr,rfl⟩:=List.mem_map.mp hz
     exact (rt.ok r hr).1
    have hxl:=rt.rv.len
    have hrl:=rt.rl
    have hfew:=rt.few
    have hpos:=rt.pos
    refine aJ (fun σ' H'=>∃ L,σ'=[some (.ref sc),some (.ref p),some (.int (0+(i:Int))),some (.ref a),some (.ref L),v5,v6,v7,v8,v9,v10]∧L≠p∧H' L=some (.lst ((rs.map (·.1)).map V.str))∧Same H3 H') (fun nx2 hnx2=>?_) ?_
    ·refine Or.inr ⟨⟨xs,SqT.of rt.at_⟩,fun D hD=>?_⟩
     refine d7 (cS xs) (fun j τ H'=>∃ (v0 v1:Option V),τ=[v0,v1]∧H' D=some (.lst (((rs.take j).map (·.1)).map V.str))∧Same H3 H') ⟨none,none,rfl,aA,Same.upd hD _⟩ (by rintro j τ H' _ ⟨_,_,_,_,s⟩;exact SqT.of (s _ _ rt.at_)) ?_ ?_
     ·rintro j τ H4 hj ⟨v0,v1,rfl,gD,s4⟩
      have hjr:j < rs.length:=by omega
      obtain ⟨b,e1,e2⟩:=ps.2 j (by simpa [rowsK] using hjr)
      have eg:xs.getD j .non=.ref b:=by rw [List.getD_eq_getElem?_getD,e1];rfl
      rw [eg]
      have e2':H4 b=some (.tup [.str rs[j].1,rs[j].2]):=by simpa [rowsK,kV] using s4 _ _ e2
      refine kW e2' ?_
      refine ⟨_,gD,by simp;omega,_,_,rfl,?_,s4.put hD⟩
      have et:rs.take (j+1)=rs.take j++[rs[j]]:=by rw [List.take_add_one,List.getElem?_eq_getElem hjr];rfl
      rw [aA,et,List.map_append,List.map_append];rfl
     ·rintro τ H4 ⟨v0,v1,rfl,gD,s4⟩
      rw [List.take_of_length_le (by omega)] at gD
      exact hnx2 _ _ ⟨D,rfl,hn3.ne hD,gD,s4⟩
    rintro σ' H4 ⟨L,rfl,nL,gL,s4⟩
    have hns:=y2 ndr
    have hnl:(rs.map (·.1)).length=ns.length:=by simp;omega
    generalize rs.map (·.1)=nms at hns hnm hnl gL
    obtain ⟨n0,nr,rfl⟩:∃ n0 nr,nms=n0::nr:=by
     cases nms with
     | nil=>simp at hnl;omega
     | cons x y=>exact ⟨x,y,rfl⟩
    have hn4:=hn3.same s4
    have rt4:=rt.tk s4.ts
    have hT4:=hT.same' s4
    have hsh:Shr n0:=by have:=kO (hnm n0 (List.mem_cons_self ..));unfold Shr;omega
    refine aI ⟨H,p,a,_,xs,rows,ns,WW,rfl,hn4,by omega,rt4,fun x H5 hx hn5 sm5=>?_⟩
    refine ⟨H,p,a,_,xs,rows,ns,x,rfl,hn5,by omega,rt4.tk (hn4.ts sm5),hx,fun v s6 H6 mk6 hs6 hn6 sm6=>?_⟩
    have sm46:=sm5.trans sm6
    have ky6:=eC hn4 hn6 sm46
    have gL6:=sm46 _ _ gL nL nL
    have hT6:TelAt H6 a xs rs:=⟨ky6.tk _ _ hT4.1,⟨hT4.2.1.1,fun i h=>let ⟨b,h1,h2⟩:=hT4.2.1.2 i h;⟨b,h1,ky6.tk _ _ h2⟩⟩,hT4.2.2⟩
    have ov6:=yC mk6
    dsimp only
    refine aI ⟨_,.str n0,.inl (SqL.of gL6),aW _ _,v,n0,rfl,ov6,hsh,fun S ws H7 fS gS hwl ow s7=>?_⟩
    have nS:S≠p:=hn6.ne fS
    have hn7:=hn6.same s7
    dsimp only
    refine aI ⟨H,p,_,s6,v,rfl,hn7,by omega,mk6.tk s7.ts,fun vb H8 ob hn8 sm8=>⟨(show 2≤sizeLine by decide),fun T1 hT1=>?_⟩⟩
    have ky8:=eC hn7 hn8 sm8
    have ky68:=s7.ky.trans ky8
    have sT:=Same.upd hT1 (.lst [v,vb])
    have nT1:T1≠p:=hn8.ne hT1
    have W8:LW K H (upd H8 T1 (.lst [v,vb])) p L S T1 a (n0::nr) ws [v,vb] xs rs v s6 (i*100000+90000):=⟨(hn8.same sT).mono (by omega),sT _ _ (sm8 _ _ (s7 _ _ gL6) nL nL),(mk6.tk ky68.tk).tk sT.ts,
     (show TelAt H8 a xs rs from ⟨ky68.tk _ _ hT6.1,⟨hT6.2.1.1,fun i h=>let ⟨b,h1,h2⟩:=hT6.2.1.2 i h;⟨b,h1,ky68.tk _ _ h2⟩⟩,hT6.2.2⟩).same' sT,sT _ _ (sm8 _ _ gS nS nS),fun x hx=>((ow x hx).ky ky8).same sT,aA,memC (((ov6.ky ky68).up (by omega)).same sT) (mem1 ((ob.up (by omega)).same sT))⟩
    dsimp only
    generalize upd H8 T1 (.lst [v,vb])=H9 at W8
    refine aJ (fun σ' H'=>∃ T2 us,σ'=[some (.ref sc),some (.ref p),some (.int (0+(i:Int))),some (.ref a),some (.ref L),some v,some (.ref S),some (.ref T2),v8,v9,v10]∧T2≠p∧us.length=10∧LW K H H' p L S T2 a (n0::nr) ws us xs rs v s6 (i*100000+90010)) (fun nx2 hnx2=>?_) ?_
    ·refine ⟨8,rfl,by decide,by decide,fun D hD=>?_⟩
     have nD:D≠p:=W8.hn.ne hD
     have h0D:H D=none:=W8.hn.free hD
     have nLD:L≠D:=fun e=>by rw [← e,W8.gL] at hD;cases hD
     have nSD:S≠D:=fun e=>by rw [← e,W8.gS] at hD;cases hD
     have nTD:T1≠D:=fun e=>by rw [← e,W8.gT] at hD;cases hD
     refine d7 (cG 0 8) (fun j τ H'=>∃ (v0:Option V) (zs:List V),τ=[v0,some (.ref p),some (.ref S)]∧H' D=some (.lst zs)∧zs.length=j∧(∀ u∈zs,OkD H' 48 u)∧LW K H H' p L S T1 a (n0::nr) ws [v,vb] xs rs v s6 (i*100000+90000+j)) ⟨none,[],rfl,aA,rfl,(fun u hu=>nomatch hu),W8.same (Same.upd hD _)⟩ (fun _ _ _ _ _=>True.intro) ?_ ?_
     ·rintro j τ Ha hj ⟨v0,zs,rfl,gD,hzl,oz,Wa⟩
      refine .inl ⟨_,.inl (SqL.of Wa.gS),H,p,_,_,rfl,Wa.hn,⟨by omega,by omega⟩,by omega,fun r Hb r0 r1 hnb smb=>?_⟩
      have Wb:=Wa.draw hnb smb nL nS nT1
      have kyb:=eC Wa.hn hnb smb
      obtain ⟨m,rfl⟩:∃ m:Nat,r=(m:Int):=⟨r.toNat,by omega⟩
      have hm:m < ws.length:=by omega
      have gDb:=smb _ _ gD nD nD
      have kyD:=Ky.lset (ys:=zs++[ws[m]]) gDb
      refine ⟨ws,ws[m],.inl (SqL.of Wb.gS),bN (List.getElem?_eq_getElem hm),zs,gDb,by omega,_,zs++[ws[m]],rfl,aA,by simp [hzl],fun u hu=>?_,(Wb.putD gDb nD h0D nLD nSD nTD).mono (by omega)⟩
      rcases List.mem_append.mp hu with g | g
      ·exact ((oz u g).ky kyb).ky kyD
      ·rw [List.mem_singleton.mp g];exact (Wb.os _ (List.getElem_mem hm)).ky kyD
     ·rintro τ Ha ⟨v0,zs,rfl,gD,hzl,oz,Wa⟩
      refine ⟨_,zs,Wa.gT,gD,by simp;omega,fun T2 hT2=>?_⟩
      have s2:=Same.upd hT2 (.lst ([v,vb]++zs))
      refine hnx2 _ _ ⟨T2,[v,vb]++zs,rfl,Wa.hn.ne hT2,by simp;omega,((Wa.same s2).list aA fun x hx=>?_).mono (by omega)⟩
      rcases List.mem_append.mp hx with g | g
      ·exact (Wa.ou x g).same s2
      ·exact ((oz x g).up (by omega)).same s2
    rintro σ' Ha ⟨T2,us,rfl,nT2,hul,Wa⟩
    refine aJ (fun σ' H'=>∃ T3 us,σ'=[some (.ref sc),some (.ref p),some (.int (0+(i:Int))),some (.ref a),some (.ref L),some v,some (.ref S),some (.ref T3),v8,v9,v10]∧us.length=18∧LW K H H' p L S T3 a (n0::nr) ws us xs rs v s6 (i*100000+90500)) (fun nx2 hnx2=>?_) ?_
    ·refine ⟨_,.str n0,.inl (SqL.of Wa.gL),aW _ _,H,p,S,_,s6,48,v,n0,ws,rfl,Wa.hn,by omega,Wa.mkt,nS,Wa.gS,by omega,by omega,Wa.os,by omega,hsh,fun Ld u8 Hb fd gd hl8 o8 hnb smb=>?_⟩
     have Wb:=Wa.draw hnb smb nL nS nT2
     refine ⟨us,u8,Wb.gT,gd,by omega,fun T3 hT3=>?_⟩
     have s3:=Same.upd hT3 (.lst (us++u8))
     refine hnx2 _ _ ⟨T3,us++u8,rfl,by simp;omega,((Wb.same s3).list aA fun x hx=>?_).mono (by omega)⟩
     rcases List.mem_append.mp hx with g | g
     ·exact (Wb.ou x g).same s3
     ·exact (o8 x g).same s3
    rintro σ' Hb ⟨T3,us3,rfl,hul3,Wb⟩
    refine Or.inl ⟨⟨us3,SqL.of Wb.gT⟩,?_⟩
    refine eU (cL us3) (fun j σ' H'=>∃ v8 v9 v10,σ'=[some (.ref sc),some (.ref p),some (.int (0+(i:Int))),some (.ref a),some (.ref L),some v,some (.ref S),some (.ref T3),v8,v9,v10]∧Same Hb H') ⟨v8,v9,v10,rfl,Same.refl _⟩ (by rintro j τ H' _ ⟨_,_,_,_,s⟩;exact SqL.of (s _ _ Wb.gT)) ?_ ?_
    ·rintro j σ' Hc hj ⟨v8,v9,v10,rfl,sc'⟩
     have eg:us3.getD j .non=us3[j]:=by simp [List.getD_eq_getElem?_getD,hj]
     rw [eg]
     have Wc:=Wb.same sc'
     obtain ⟨d,hd,hdep⟩:=Wc.ou _ (List.getElem_mem hj)
     generalize us3[j]=x at hd
     refine aI ⟨nsOf (dictOf (rowsK rs)),L,n0::nr,x,d,rfl,Wc.gL,hns,hnm,hd,by omega,fun Hd sd=>?_⟩
     dsimp only
     refine aJ (fun σ' H'=>σ'=[some (.ref sc),some (.ref p),some (.int (0+(i:Int))),some (.ref a),some (.ref L),some v,some (.ref S),some (.ref T3),some x,some (.bl (mkrD (nsOf (dictOf (rowsK rs))) d)),v10]∧Same Hc H') (fun nx2 hnx2=>?_) ?_
     ·have emk:mkrD (nsOf (dictOf (rowsK rs))) d=(afD (nsOf (dictOf (rowsK rs))) d&&(decide (szD (nsOf (dictOf (rowsK rs))) d≤60)&&decide (dpD (nsOf (dictOf (rowsK rs))) d≤20))):=rfl
      rw [emk] at hnx2
      cases haf:afD (nsOf (dictOf (rowsK rs))) d with
      | false=>
       rw [haf] at hnx2
       exact ⟨_,rfl,iteF (hnx2 _ _ ⟨rfl,sd⟩)⟩
      | true=>
       rw [haf] at hnx2
       have hmk:=zH (d.dep+1) (Nat.lt_succ_self _) (hd.same sd) haf
       have hdl:=zT (ns:=nsOf (dictOf (rowsK rs))) (d.dep+1) d (Nat.lt_succ_self _)
       refine ⟨_,rfl,iteT ⟨x,_,rfl,hmk.up (by omega),fun H5 s5=>⟨_,rfl,iteB (fun c=>⟨nsOf (dictOf (rowsK rs)),x,d,rfl,hd.same (sd.trans s5),haf,by omega,fun H6 s6=>?_⟩) (fun c=>?_)⟩⟩⟩
       ·have e1:szD (nsOf (dictOf (rowsK rs))) d≤60:=by have:((szD (nsOf (dictOf (rowsK rs))) d:Nat):Int)≤60:=of_decide_eq_true c;omega
        have e2:decide (dpD (nsOf (dictOf (rowsK rs))) d≤20)=decide (((dpD (nsOf (dictOf (rowsK rs))) d:Nat):Int)≤20):=by rw [Bool.eq_iff_iff,decide_eq_true_iff,decide_eq_true_iff];omega
        rw [decide_eq_true e1,e2] at hnx2
        exact hnx2 _ _ ⟨rfl,sd.trans (s5.trans s6)⟩
       ·have e1:¬szD (nsOf (dictOf (rowsK rs))) d≤60:=by have:¬((szD (nsOf (dictOf (rowsK rs))) d:Nat):Int)≤60:=of_decide_eq_false c;omega
        rw [decide_eq_false e1] at hnx2
        have:=hnx2 _ _ ⟨rfl,sd.trans s5⟩
        exact this
     rintro σ' Hd ⟨rfl,sd⟩
     refine aI ⟨a,xs,rs,x,d,rfl,Wc.hT.same' sd,hd.same sd,fun He se=>?_⟩
     dsimp only
     refine ⟨by decide,"bool",rfl,_,rfl,iteF ⟨rfl,_,rfl,?_⟩⟩
     rw [decide_eq_true (show V.bl (mkrD (nsOf (dictOf (rowsK rs))) d)=V.bl (mkrD (nsOf (dictOf (rowsK rs))) d) from rfl)]
     exact iteF ⟨_,_,_,rfl,sc'.trans (sd.trans se)⟩
    ·rintro σ' Hc ⟨v8,v9,v10,rfl,sc'⟩
     have Wc:=Wb.same sc'
     exact ⟨_,_,_,_,_,_,_,_,_,rfl,Wc.hn.mono (by rw [Nat.succ_mul];omega),fun _=>⟨a,xs,rs,rfl,Wc.hT⟩⟩
   ·rintro σ' H2 ⟨v2,v3,v4,v5,v6,v7,v8,v9,v10,rfl,hn2,ht⟩
    obtain ⟨a,xs,rs,rfl,hT⟩:=ht (by decide)
    exact hnx _ _ ⟨_,_,_,_,_,_,_,_,a,xs,rs,rfl,hn2,hT⟩
  rintro σ' H2 ⟨v2,v4,v5,v6,v7,v8,v9,v10,a,xs,rs,rfl,hn2,hT⟩
  refine ⟨H,p,a,_,xs,rs,rfl,hn2,by omega,hT,fun H3 hn3 sm3=>?_⟩
  have ky:=eC hn2 hn3 sm3
  refine ⟨_,rfl,⟨a,xs,rs,rfl,⟨ky.tk _ _ hT.1,⟨hT.2.1.1,fun i h=>let ⟨b,h1,h2⟩:=hT.2.1.2 i h;⟨b,h1,ky.tk _ _ h2⟩⟩,hT.2.2⟩,fun H4 s4=>k H4⟩⟩
end
abbrev pw:=PySem.Challenge.pw_coilkind_k75_what_is_a_maker
abbrev rwl:=PySem.Challenge.rw_coilkind_k75_what_is_a_maker
def view:Program:={pw with main:={pw.main with body:=([1,2,3,4,5,7,9,10,11,12,13,14,15,16,17,19,20,21,22,23,24,25,26,27,28,29,30,31,32,33,34,35,36,37,38,39,40,41,42,43,44,45,46,47,48,49,50,51]:List Nat).filterMap fun i=>pw.main.body[i]?}}
def fns:List (Str×Stmt):=[⟨"is_name",iA⟩,⟨"are_rising",cI⟩,⟨"heads_of",gB⟩,⟨"is_maker",gH⟩,⟨"makers_in",fB⟩,⟨"is_formed",fH⟩,⟨"is_fit",j3⟩,⟨"are_worded",cJ⟩,⟨"_law_fill",kC⟩,⟨"_law_next",kD⟩,⟨"_law_turned",iP⟩,⟨"_law_words",fG⟩,⟨"_law_head",gJ⟩,⟨"_law_telling",i6⟩,⟨"_law_any",mH⟩,⟨"_law_row_here",fY⟩,⟨"_law_head_here",fK⟩,⟨"_law_maker_telling",dC⟩,⟨"_law_endless",hZ⟩,⟨"_law_name_bound",eZ⟩,⟨"_law_for",eR⟩,⟨"_law_wrapped",dG⟩,⟨"_law_split_over",cC⟩,⟨"_law_many",fZ⟩,⟨"_law_parts",cX⟩,⟨"_law_small_maker",dW⟩,⟨"_law_rebuilt",i4⟩,⟨"_law_bent_maker",eO⟩,⟨"_law_name_is",dF⟩,⟨"_law_rows_are",bM⟩,⟨"_law_is",j4⟩,⟨"_law_deep",gI⟩,⟨"_law_odd",eP⟩,⟨"_law_wrapped_in",eX⟩,⟨"_law_put_within",eW⟩,⟨"_law_chain_of",gE⟩,⟨"_law_deeper_ones",c9⟩,⟨"_law_doubled_right",d9⟩,⟨"_law_bounds_right",bY⟩,⟨"law",iR⟩]
def vals:List (Str×V):=[⟨"LETTERS",.str "abcdefghijklmnopqrstuvwxyz"⟩,⟨"LONGEST",.int 8⟩,⟨"MOST_MAKERS",.int 60⟩,⟨"MOST_WITHIN",.int 20⟩,⟨"MOST_WORDS",.int 8⟩]
def tups:List (Str×List V):=[⟨"NO_NAMES",[.str "all",.str "none",.str "way",.str "box",.str "pick"]⟩]
def dcts:List (Str×List DEnt):=[⟨"PLACES",[⟨"get",.inr [.str "name"]⟩,⟨"fn",.inr [.str "name",.str "row",.str "maker"]⟩,⟨"call",.inr [.str "maker",.str "maker"]⟩,⟨"box",.inr [.str "parts"]⟩,⟨"part",.inr [.str "maker",.str "name"]⟩,⟨"pick",.inr [.str "name",.str "maker"]⟩,⟨"split",.inr [.str "maker",.str "cases"]⟩,⟨"hold",.inr [.str "maker",.str "row"]⟩]⟩]
def nons:List Str:=["len","isinstance","all","range","str","bool","list","tuple","dict","sorted","zip","max","sum"]
def look (K:PySem.W.Frag):=(fnsLook (without K []) fns,valsLook (without K []) vals,tupsLook (without K []) tups,dctsLook (without K []) dcts,noneLook (without K []) nons)
def want (w:World):=(fnsWant fns,valsWant vals,tupsWant tups,dctsWant w dcts,true)
theorem leftF (w:World):(PySem.W.openEnds treeTable pw (w.withFollow "special-get-raises" false) 2958).map (fun s=>(PySem.W.openSeen view ["PLACES"] (PySem.importedModules pw.main.body) (fun s=>PySem.W.xlAt view [] s&&PySem.W.recOk [] s) true s,(seeHook look want).obs s))=some (PySem.W.openGood view ["PLACES"],(seeHook look want).val (w.withFollow "special-get-raises" false)):=by kernel_rfl
theorem leftT (w:World):(PySem.W.openEnds treeTable pw (w.withFollow "special-get-raises" true) 2958).map (fun s=>(PySem.W.openSeen view ["PLACES"] (PySem.importedModules pw.main.body) (fun s=>PySem.W.xlAt view [] s&&PySem.W.recOk [] s) true s,(seeHook look want).obs s))=some (PySem.W.openGood view ["PLACES"],(seeHook look want).val (w.withFollow "special-get-raises" true)):=by kernel_rfl
theorem a0m {K:PySem.W.Frag} {h:Heap} {mg:Str→Option Value} {w:World} (X:K.In h) (G:h.Ns mainGlobals mg) (e:look K=want w):Txt (without K []) mg w:=by
 have X':=uR (as:=[]) X
 obtain ⟨eF,e⟩:=Prod.mk.inj e
 obtain ⟨eV,e⟩:=Prod.mk.inj e
 obtain ⟨eT,e⟩:=Prod.mk.inj e
 obtain ⟨eD,e⟩:=Prod.mk.inj e
 have eN:=e
 obtain ⟨d_PLACES,u_PLACES,m_PLACES,q0,yZ⟩:=a2N X' G (rY eD 0 (x:="PLACES") rfl) rfl (by decide+kernel)
 obtain ⟨t0_PLACES,v0_PLACES,rfl,q0_PLACES,q0⟩:=rZ q0
 obtain ⟨t1_PLACES,v1_PLACES,rfl,q1_PLACES,q0⟩:=rZ q0
 obtain ⟨t2_PLACES,v2_PLACES,rfl,q2_PLACES,q0⟩:=rZ q0
 obtain ⟨t3_PLACES,v3_PLACES,rfl,q3_PLACES,q0⟩:=rZ q0
 obtain ⟨t4_PLACES,v4_PLACES,rfl,q4_PLACES,q0⟩:=rZ q0
 obtain ⟨t5_PLACES,v5_PLACES,rfl,q5_PLACES,q0⟩:=rZ q0
 obtain ⟨t6_PLACES,v6_PLACES,rfl,q6_PLACES,q0⟩:=rZ q0
 obtain ⟨t7_PLACES,v7_PLACES,rfl,q7_PLACES,q0⟩:=rZ q0
 obtain rfl:=a37 q0
 exact ⟨nn X' G eN 0,
  nn X' G eN 1,
  nn X' G eN 2,
  nn X' G eN 3,
  nn X' G eN 4,
  nn X' G eN 5,
  nn X' G eN 6,
  nn X' G eN 7,
  nn X' G eN 8,
  nn X' G eN 9,
  nn X' G eN 10,
  nn X' G eN 11,
  nn X' G eN 12,
  vl X' G eV 0,
  vl X' G eV 1,
  tu X' G eT 0,
  vl X' G eV 2,
  vl X' G eV 3,
  vl X' G eV 4,
  ⟨d_PLACES,t0_PLACES,t1_PLACES,t2_PLACES,t3_PLACES,t4_PLACES,t5_PLACES,t6_PLACES,t7_PLACES,m_PLACES,yZ,q0_PLACES,q1_PLACES,q2_PLACES,q3_PLACES,q4_PLACES,q5_PLACES,q6_PLACES,q7_PLACES⟩,
  fn1 X' G eF 0,
  fn1 X' G eF 1,
  fn1 X' G eF 2,
  fn2 X' G eF 3,
  fn1 X' G eF 4,
  fn2 X' G eF 5,
  fn3 X' G eF 6,
  fn2 X' G eF 7,
  fn2 X' G eF 8,
  fn2 X' G eF 9,
  fn2 X' G eF 10,
  fn1 X' G eF 11,
  fn3 X' G eF 12,
  fn2 X' G eF 13,
  fn2 X' G eF 14,
  fn2 X' G eF 15,
  fn2 X' G eF 16,
  fn2 X' G eF 17,
  fn0 X' G eF 18,
  fn1 X' G eF 19,
  fn5 X' G eF 20,
  fn5 X' G eF 21,
  fn5 X' G eF 22,
  fn1 X' G eF 23,
  fn1 X' G eF 24,
  fn3 X' G eF 25,
  fn3 X' G eF 26,
  fn2 X' G eF 27,
  fn1 X' G eF 28,
  fn2 X' G eF 29,
  fn2 X' G eF 30,
  fn1 X' G eF 31,
  fn2 X' G eF 32,
  fn3 X' G eF 33,
  fn3 X' G eF 34,
  fn3 X' G eF 35,
  fn4 X' G eF 36,
  fn2 X' G eF 37,
  fn1 X' G eF 38,
  fn1 X' G eF 39⟩
def dlaw:DefRec:=⟨"law",defArgs iR,defBody iR,defScope iR,(match iR with | .FunctionDef _ _ _ _ _ _ _ _ _ p=>p | _=>⟨0,0,0,0⟩)⟩
theorem walk {XP:(Str→Option Value)→Heap→Prop}:PySem.W.WalkO view ["PLACES"] XP (seeHook look want).says rwl.row.toRowW dlaw [] (fun f vs=>PySem.call f vs):=
 vU (l:=rwl) (st:=iR) (k:=120) rfl rfl ⟨rfl,by decide,by decide,rfl⟩ rfl (by intros;rfl) fun w mg h K X e G=>have T:=a0m X G e;⟨T.t_law,fun base=>a1r T⟩
theorem hdef:PySem.W.defOf view rwl.row.name=some (dlaw,[]):=by kernel_rfl
theorem hprog:rwl.row.prog.theDef rwl.row.name=some (dlaw.params,dlaw.body,dlaw.scope):=by kernel_rfl
theorem hkw:PySem.W.kwWritten? dlaw.params.kwonlyargs dlaw.params.kw_defaults=some []:=by kernel_rfl
theorem hok:(PySem.W.chainsOk view&&PySem.W.opensWell rwl.row.prog&&(PySem.W.frees rwl.row.toRowW&&rwl.row.within.isEmpty))=true:=by kernel_rfl
theorem hbare:rwl.row.prog.bare:=⟨rfl,rfl,rfl,rfl,rfl,by decide+kernel⟩
theorem hprom:rwl.row.toRowW.promised:=by w_witness2
end T1
open PySem PySem.W PyProof.Rows L2
set_option maxRecDepth 100000 in
set_option maxHeartbeats 0 in
theorem PySem.Challenge.cw_coilkind_k75_what_is_a_maker_holds : PySem.Challenge.rw_coilkind_k75_what_is_a_maker.Holds := by
 o_law
 exact PySem.W.holds_open (q:=T1.view) (loose:=["PLACES"]) (Xt:=fun s=>xlAt T1.view [] s&&recOk [] s) (XP:=XL T1.view []) (Yf:=(seeHook T1.look T1.want).obs) (Ya:=(seeHook T1.look T1.want).val) (YP:=(seeHook T1.look T1.want).says) (N:=2958)
  (yU "special-get-raises" T1.leftF T1.leftT) (seeHook T1.look T1.want).of (seeHook T1.look T1.want).keeps (fun s e=>xl_of s (Bool.and_eq_true_iff.mp e).1) XL.keeps T1.hdef T1.hprog T1.hkw (fun s e=>recFacts_of (Bool.and_eq_true_iff.mp e).2) rfl (by assumption) T1.hok T1.hbare T1.hprom T1.walk

