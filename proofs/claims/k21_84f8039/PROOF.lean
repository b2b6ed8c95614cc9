import PyProof.Rows.All
import Wide.All
import OpenK.AllK
import Wide.FinOn
import Lean
import PyProof.EqAt
import PyProof.EqKinds
import PyProof.TupleCall
import PyProof.DictCompW
import PyProof.AutoListH
import PyProof.EnumMake
import PyProof.ZipIter
import PyProof.AttrMissSeq
import KE.KDictOf
import PyProof.ReprLen
import PyProof.StrLawsRepr
import KE.KUnpackStar
import PyProof.DictWalks
import PyProof.Rows.DictUnroll
import PyProof.Rows.Range3
import PyProof.Rows.ChunkEnd
import PyProof.Rows.ChunkLeaf
import PyProof.StrCalls2
import PyProof.StrLawsTight
import PyProof.StrLawsChain
import PyProof.Rows.StrSplitJoin
import PyProof.Conv_int_bool
import PyProof.Rows.TupMore
import PyProof.StrLawsIn
import PyProof.Rows.StrCut
import PyProof.StrCalls
import PyProof.CallFns
import PyProof.FString5
import PyProof.NsCount
import PyProof.Rows.SetFrom
import PyProof.SetRoads
import KE.KRevIter
import PyProof.CollectIter
import PyProof.TupleOfGen
import KE.KItemsList
import PyProof.NeKinds
import PyProof.DictItems
import KE.KPairComp
import PyProof.SetKind
import PyProof.TupleKey
import PyProof.IsRules
import PyProof.DictValues
import PyProof.SumWalk
import PyProof.ConsumeWalk
import PyProof.SumAny
import PyProof.FactsAll.range_2
import PyProof.WalksMore
import PyProof.MinMaxWalk
import PyProof.SeqI3
import KE.KDictList
import KE.KDictLaws
import KE.KSortTup
import KE.KSetDisp
import KE.KStrOpen
import PyProof.NeData
import PySem.Challenge.RW_coilkind_k21_papers_of_alike_ones
set_option Elab.async false
set_option linter.all false
set_option maxRecDepth 100000
section
open PySem PySem.Spec PyProof.Rows
abbrev Qa := @List.getElem?_eq_getElem
abbrev Qb := @List.getD_eq_getElem?_getD
abbrev Qc := @Heap.get?_push_of_some
abbrev Qd := @Heap.get?_push_size
abbrev Qe := @List.getElem_append_left
abbrev Qf := @List.getElem_append_right
abbrev Qg := @List.getElem?_append_left
abbrev Qh := @List.mem_cons_of_mem
abbrev Qi := @List.getElem_of_mem
abbrev Qj := @List.getElem_mem
abbrev Qk := @List.length_append
abbrev Ql := @List.length_map
abbrev Qm := @List.map_append
abbrev Qn := @List.map_map
abbrev Qo := @List.take_length
abbrev Qp := @List.mem_cons
abbrev Qq := @List.getElem?_map
abbrev Qr := @List.getElem_map
abbrev Qs := @List.take_add_one
abbrev Qt := @of_decide_eq_true
abbrev Qv := @decide_eq_true
abbrev Qw := @decide_eq_false
abbrev Qx := @Nat.lt_of_succ_lt
abbrev Qy := @Nat.le_refl
abbrev Qz := @Heap.lt_size
abbrev QA := @List.mem_nil_iff
abbrev QB := @Function.comp_def
abbrev QC := @List.mem_of_getElem?
abbrev QD := @Option.some.inj
abbrev QE := @Bool.false_xor
abbrev QG := @PyProof.Rows.boot_tuple
abbrev QH := @PySem.F.plainAttrs_list
abbrev QJ := @PySem.F.slot_list_append
abbrev QK := @PySem.F.type_list_append
abbrev QL := @sizeLine_eq
abbrev QS := @List.eq_nil_of_length_eq_zero
abbrev QT := @wpAny_bind
abbrev QU := @wpAny_pure
abbrev Q0 := PySem.W.Frag
end
namespace L2
open PySem PySem.Spec PyProof.Rows
abbrev Key:=Sum Int Str
def keyIs:Key->Value->Bool
 | .inl k,v=>Value.isInt k v
 | .inr x,v=>Value.isStrOf x v
def keyH (w:World):Key->Int
 | .inl k=>hashInt k
 | .inr x=>hashStr w x
theorem bI:∀ {k:Key} {v:Value},keyIs k v=true->(∃ i t,k=Sum.inl i/\v=Value.int i t)\/(∃ x t,k=Sum.inr x/\v=Value.str x t)
 | .inl i,v,h=>by
  obtain ⟨t,e⟩:=Value.isInt_shape (k:=i) (v:=v) h
  exact .inl ⟨i,t,rfl,e⟩
 | .inr x,v,h=>by
  obtain ⟨t,e⟩:=Value.isStrOf_shape (x:=x) (v:=v) h
  exact .inr ⟨x,t,rfl,e⟩
theorem vZ (i:Int) (t:Tok):keyIs (.inl i) (.int i t)=true:=by simp [keyIs,Value.isInt]
theorem vK (x:Str) (t:Tok):keyIs (.inr x) (.str x t)=true:=by simp [keyIs,Value.isStrOf]
theorem a15 (a b:Int):decide ((Sum.inl a:Key)=Sum.inl b)=(a==b):=by
 by_cases e:a=b
 ·subst e;simp
 ·have h:¬(Sum.inl a:Key)=Sum.inl b:=fun q=>e (Sum.inl.inj q)
  rw [Qw h]
  exact (beq_eq_false_iff_ne.mpr e).symm
theorem a1A (a b:Str):decide ((Sum.inr a:Key)=Sum.inr b)=decide (a=b):=by
 by_cases e:a=b
 ·subst e;simp
 ·have h:¬(Sum.inr a:Key)=Sum.inr b:=fun q=>e (Sum.inr.inj q)
  rw [Qw h,Qw e]
theorem a1X (a:Int) (b:Str):decide ((Sum.inl a:Key)=Sum.inr b)=false:=Qw (fun q=>nomatch q)
theorem a1D (a:Str) (b:Int):decide ((Sum.inr a:Key)=Sum.inl b)=false:=Qw (fun q=>nomatch q)
def mixKind (prog:Program) (w:World):PySem.KeyKind prog w Key where
 is:=keyIs
 hash:=keyH w
 inj:=fun v a b ha hb=>by
  rcases bI ha with ⟨i,t,rfl,rfl⟩ | ⟨x,t,rfl,rfl⟩
  ·rcases bI hb with ⟨j,u,rfl,e⟩ | ⟨y,u,rfl,e⟩
   ·injection e with e1 _;rw [e1]
   ·exact nomatch e
  ·rcases bI hb with ⟨j,u,rfl,e⟩ | ⟨y,u,rfl,e⟩
   ·exact nomatch e
   ·injection e with e1 _;rw [e1]
 byValue:=fun k v h=>by
  rcases bI h with ⟨i,t,rfl,rfl⟩ | ⟨x,t,rfl,rfl⟩<;>rfl
 pyHash:=fun hv h=>by
  rcases bI hv with ⟨i,t,rfl,rfl⟩ | ⟨x,t,rfl,rfl⟩
  ·exact wpAny_pyHash_int h
  ·exact wpAny_pyHash_str h
 eqBool:=fun hu hv h=>by
  rcases bI hu with ⟨i,t,rfl,rfl⟩ | ⟨x,t,rfl,rfl⟩
  ·rcases bI hv with ⟨j,u,rfl,rfl⟩ | ⟨y,u,rfl,rfl⟩
   ·rw [a15] at h;exact wpAny_eqBool_int h
   ·rw [a1X] at h;exact SeqAt.EqAt.int_str i t y u _ _ _ _ h
  ·rcases bI hv with ⟨j,u,rfl,rfl⟩ | ⟨y,u,rfl,rfl⟩
   ·rw [a1D] at h;exact SeqAt.EqAt.str_int x t j u _ _ _ _ h
   ·rw [a1A] at h;exact wpAny_eqBool_str h
 «strs»:=fun k x t v h=>by
  rcases bI h with ⟨i,u,rfl,e⟩ | ⟨y,u,rfl,e⟩
  ·exact nomatch e
  ·injection e with e1 _
   subst e1
   cases v<;>rfl
theorem pR (prog:Program) (w:World) (i:Int) (t:Tok):(mixKind prog w).is (.inl i) (.int i t)=true:=vZ i t
theorem gP (prog:Program) (w:World) (x:Str) (t:Tok):(mixKind prog w).is (.inr x) (.str x t)=true:=vK x t
end L2
namespace L2
open PySem PySem.Spec PyProof.Rows
inductive V where
 | non | bl (b:Bool) | int (i:Int) | str (x:Str) | byt (b:Array UInt8) | flt (b:UInt64) | ref (a:Addr) | ty (n:String)
 deriving DecidableEq
def RelV:V->Value->Prop
 | .non,u=>u=Value.none
 | .bl b,u=>u=Value.bool b
 | .int i,u=>∃ t,u=Value.int i t
 | .str x,u=>∃ t,u=Value.str x t
 | .byt b,u=>∃ t,u=Value.bytes b t
 | .flt b,u=>∃ t,u=Value.float b t
 | .ref a,u=>u=Value.ref a
 | .ty n,u=>u=Value.type n
abbrev Vals:List V->List Value->Prop:=Paired RelV
theorem Vals.length {xs:List V} {us:List Value} (r:Vals xs us):xs.length=us.length:=Paired.length r
theorem Vals.get:∀ {xs:List V} {us:List Value} {i:Nat} {x:V},Vals xs us->xs[i]? =some x->∃ u,us[i]? =some u/\RelV x u
 | _,_,_,_,.nil,e=>by simp at e
 | _,_,0,_,.cons r _,e=>by simp at e;subst e;exact ⟨_,rfl,r⟩
 | _,_,i+1,x,.cons _ t,e=>by
  obtain ⟨u,h1,h2⟩:=Vals.get (i:=i) (x:=x) t (by simpa using e)
  exact ⟨u,by simpa using h1,h2⟩
theorem Vals.set {x:V} {u:Value} (r:RelV x u):∀ {xs:List V} {us:List Value} (i:Nat),Vals xs us->Vals (xs.set i x) (us.set i u)
 | _,_,_,.nil=>.nil
 | _,_,0,.cons _ t=>.cons r t
 | _,_,i+1,.cons q t=>.cons q (Vals.set r i t)
theorem Vals.append:∀ {xs ys:List V} {us ws:List Value},Vals xs us->Vals ys ws->Vals (xs++ys) (us++ws)
 | _,_,_,_,.nil,s=>s
 | _,_,_,_,.cons r t,s=>.cons r (Vals.append t s)
theorem Vals.take:∀ {xs:List V} {us:List Value} (n:Nat),Vals xs us->Vals (xs.take n) (us.take n)
 | _,_,0,_=>.nil
 | _,_,_+1,.nil=>.nil
 | _,_,n+1,.cons r t=>.cons r (Vals.take n t)
theorem Vals.drop:∀ {xs:List V} {us:List Value} (n:Nat),Vals xs us->Vals (xs.drop n) (us.drop n)
 | _,_,0,r=>r
 | _,_,_+1,.nil=>.nil
 | _,_,n+1,.cons _ t=>Vals.drop n t
def RelO:Option V->Option Value->Prop
 | some v,some u=>RelV v u
 | none,none=>True
 | _,_=>False
def KV {κ:Type}:List (κ×V)->List (κ×Value)->Prop:=Paired fun (p:κ×V) (q:κ×Value)=>p.1=q.1/\RelV p.2 q.2
def kV:Key->V
 | .inl i=>.int i
 | .inr x=>.str x
inductive HO where
  | lst (xs:List V)
  | tup (xs:List V)
  | dK (kvs:List (Key×V)) | dT (kvs:List (List Key×V))
  | set (S:Int->Bool) (n:Nat)
  | ins (C dx:Addr) (fs:List (Str×V))
  | own (x:Addr)
  | xd (fs:List (Str×V))
  | met (f x:Addr)
  | rng (lo hi:Int)
  | frz (o:Obj) (u:HO)
  | tbl (ps:Array Value)
  | ext (φ:Heap->Prop)
abbrev Hp:=Addr->Option HO
def upd (H:Hp) (a:Addr) (o:HO):Hp:=fun b=>if b=a then some o else H b
theorem a7 {H:Hp} {a:Addr} {o:HO}:upd H a o a=some o:=by unfold upd;rw [if_pos rfl]
theorem aD {H:Hp} {a b:Addr} {o:HO} (h:b≠a):upd H a o b=H b:=by unfold upd;rw [if_neg h]
theorem kN {H:Hp} {a:Addr} {o u:HO}:upd (upd H a o) a u=upd H a u:=by
 funext b;unfold upd;split<;>rfl
theorem aM {H:Hp} {a b:Addr} {o:HO} (h:H a=some o) (h':H b=none):a≠b:=by
 intro e;subst e;rw [h] at h';cases h'
def NoDct (h:Heap) (a:Addr):Prop:=∀ o,h.get? a=some o->o.dict=none
theorem NoDct.new {h:Heap} {ob:Obj} (h0:ob.isFreed=false) (hd:ob.dict=none):NoDct (h.push ob) h.objs.size:=fun o q=>by rw [Qd _ h0] at q;cases q;exact hd
def RdT (H:Hp) (b:Addr) (ys:List V):Prop:=H b=some (.tup ys)\/∃ o,H b=some (.frz o (.tup ys))
theorem RdT.upd {H:Hp} {b a:Addr} {ys:List V} {o:HO} (r:RdT H b ys) (ne:∀ u,H b=some u->b≠a):RdT (L2.upd H a o) b ys:=by
 rcases r with r | ⟨ob,r⟩
 ·exact .inl (by rw [aD (ne _ r)];exact r)
 ·exact .inr ⟨ob,by rw [aD (ne _ r)];exact r⟩
section
variable (P:Program) (w:World)
def ObjOk (H:Hp) (h:Heap) (a:Addr):HO->Prop
 | .lst xs=>xs.length<=sizeLine/\∃ (its:List Value) (n:Nat),Vals xs its/\h.get? a=some {cls:=.type "list",data:=.seq its.toArray n}
 | .tup xs=>(xs.length<=sizeLine/\NoDct h a)/\∃ its:List Value,Vals xs its/\IsTup h a its.toArray
 | .dK kvs=>kvs.length<=sizeLine/\(a==sysModules)=false/\∃ vs,KV kvs vs/\h.DictOf (mixKind P w) a vs
 | .dT kvs=>kvs.length<=sizeLine/\(a==sysModules)=false/\∃ xs:List (List Key×Addr×Value),
   Paired (fun (p:List Key×V) (q:List Key×Addr×Value)=>p.1=q.1/\RdT H q.2.1 (p.1.map kV)/\RelV p.2 q.2.2) kvs xs/\
   ∃ o es ep,h.get? a=some o/\o.ExactDict/\o.data=.dict es ep/\es.toList=xs.map (entryOfKey (tupleKind (mixKind P w)))/\(xs.map (·.1)).Nodup
 | .set S n=>h.SetOf (intKind P w) a S n
 | .ins C dx fs=>H dx=some (.own a)/\fs.length<=1000/\dx≠a/\h.get? a=some (PySem.W.instObj C dx)/\
   ∃ mA,h.Ns1 dx mA/\(∀ f,RelO (fs.lookup f) (mA f))/\PySem.Within mA (fs.map (·.1))
 | .own _=>∃ o,h.get? a=some o
 | .xd fs=>∃ mA,h.Ns1 a mA/\∀ f,RelO (fs.lookup f) (mA f)
 | .rng lo hi=>∃ t u v,h.get? a=some {cls:=.type "range",data:=.fields #[.int lo t,.int hi u,.int 1 v]}
 | .frz o u=>h.get? a=some o/\ObjOk H h a u
 | .tbl ps=>h.get? a=some {cls:=.none,data:=.fields ps}
 | .met f x=>h.get? a=some (PySem.W.methodObj (.ref f) (.ref x))
 | .ext φ=>φ h/\(∃ o,h.get? a=some o)/\∀ h1 h2:Heap,φ h1->(∀ o,h1.get? a=some o->h2.get? a=some o)->φ h2
def HOk (H:Hp) (h:Heap):Prop:=∀ a o,H a=some o->ObjOk P w H h a o
end
section
variable {P:Program} {w:World} {H H':Hp} {h h':Heap} {a:Addr} {o:HO}
theorem ObjOk.lt (x:ObjOk P w H h a o):a < h.objs.size:=by
 cases o with
 | lst xs=>obtain ⟨_,_,_,_,e⟩:=x;exact Qz e
 | tup xs=>obtain ⟨_,_,_,p⟩:=x;exact p.lt
 | dK kvs=>obtain ⟨_,_,_,_,o,_,_,e,_⟩:=x;exact Qz e
 | dT kvs=>obtain ⟨_,_,_,_,o,_,_,e,_⟩:=x;exact Qz e
 | set S n=>obtain ⟨o,_,_,_,e,_⟩:=x;exact Qz e
 | ins C dx fs=>obtain ⟨_,_,_,e,_⟩:=x;exact Qz e
 | own y=>obtain ⟨_,e⟩:=x;exact Qz e
 | xd fs=>obtain ⟨_,⟨_,_,_,e,_⟩,_⟩:=x;exact Qz e
 | rng lo hi=>obtain ⟨_,_,_,e⟩:=x;exact Qz e
 | frz ob u=>obtain ⟨e,_⟩:=x;exact Qz e
 | tbl ps=>exact Qz (show h.get? a=some _ from x)
 | met f y=>exact Qz (show h.get? a=some _ from x)
 | ext φ=>obtain ⟨_,⟨_,e⟩,_⟩:=x;exact Qz e
theorem Paired.mapP {α β:Type} {F G:α->β->Prop}:∀ {l₁:List α} {l₂:List β},Paired F l₁ l₂->(∀ a b,F a b->G a b)->Paired G l₁ l₂
 | _,_,.nil,_=>.nil
 | _,_,.cons r t,f=>.cons (f _ _ r) (Paired.mapP t f)
theorem ObjOk.stay (x:ObjOk P w H h a o) (k:∀ b u,(b=a\/H b=some (.own a))->h.get? b=some u->h'.get? b=some u)
  (ho:∀ b,H b=some (.own a)->H' b=some (.own a)) (ht:∀ b xs,RdT H b xs->RdT H' b xs):ObjOk P w H' h' a o:=by
 induction o with
 | lst xs=>obtain ⟨z,its,n,r,e⟩:=x;exact ⟨z,its,n,r,k _ _ (.inl rfl) e⟩
 | tup xs=>obtain ⟨⟨z,nd⟩,its,r,ob,e,c⟩:=x;exact ⟨⟨z,fun o q=>by rw [k _ _ (.inl rfl) e] at q;cases q;exact nd _ e⟩,its,r,ob,k _ _ (.inl rfl) e,c⟩
 | dK kvs=>obtain ⟨z,y,vs,r,ob,es,ep,e,c⟩:=x;exact ⟨z,y,vs,r,ob,es,ep,k _ _ (.inl rfl) e,c⟩
 | dT kvs=>
  obtain ⟨z,y,xs,r,ob,es,ep,e,c⟩:=x
  exact ⟨z,y,xs,Paired.mapP r fun p q z=>⟨z.1,ht _ _ z.2.1,z.2.2⟩,ob,es,ep,k _ _ (.inl rfl) e,c⟩
 | set S n=>obtain ⟨ob,es,ep,t,e,c⟩:=x;exact ⟨ob,es,ep,t,k _ _ (.inl rfl) e,c⟩
 | ins C dx fs=>
  obtain ⟨d,z,ne,e,mA,⟨od,es,ep,e2,c⟩,r⟩:=x
  exact ⟨ho _ d,z,ne,k _ _ (.inl rfl) e,mA,⟨od,es,ep,k _ _ (.inr d) e2,c⟩,r⟩
 | own y=>obtain ⟨ob,e⟩:=x;exact ⟨ob,k _ _ (.inl rfl) e⟩
 | xd fs=>obtain ⟨mA,⟨od,es,ep,e,c⟩,r⟩:=x;exact ⟨mA,⟨od,es,ep,k _ _ (.inl rfl) e,c⟩,r⟩
 | rng lo hi=>obtain ⟨t,u,v,e⟩:=x;exact ⟨t,u,v,k _ _ (.inl rfl) e⟩
 | frz ob u ih=>obtain ⟨e,q⟩:=x;exact ⟨k _ _ (.inl rfl) e,ih q⟩
 | tbl ps=>
  have e:h.get? a=some {cls:=.none,data:=.fields ps}:=x
  show h'.get? a=some {cls:=.none,data:=.fields ps}
  exact k a _ (.inl rfl) e
 | met f y=>
  have e:h.get? a=some (PySem.W.methodObj (.ref f) (.ref y)):=x
  show h'.get? a=some (PySem.W.methodObj (.ref f) (.ref y))
  exact k a _ (.inl rfl) e
 | ext φ=>obtain ⟨p,⟨o,e⟩,st⟩:=x;exact ⟨st _ _ p fun o q=>k _ _ (.inl rfl) q,⟨o,k _ _ (.inl rfl) e⟩,st⟩
theorem HOk.lt (x:HOk P w H h) (e:H a=some o):a < h.objs.size:=(x a o e).lt
theorem HOk.fresh (x:HOk P w H h) (e:h.objs.size<=a):H a=none:=by
 cases q:H a with
 | none=>rfl
 | some u=>exact absurd (Nat.lt_of_lt_of_le (x.lt q) e) (Nat.lt_irrefl _)
theorem HOk.kept (x:HOk P w H h) (k:∀ b u,h.get? b=some u->h'.get? b=some u):HOk P w H h':=fun a o e=>
 (x a o e).stay (fun b u _ q=>k b u q) (fun _ q=>q) fun _ _ q=>q
theorem HOk.laid (x:HOk P w H h) (k:∀ b u,h.get? b=some u->h'.get? b=some u) (hp:h.objs.size<=a) (new:ObjOk P w (upd H a o) h' a o):HOk P w (upd H a o) h':=fun b u e=>by
 have hn:=x.fresh hp
 by_cases hb:b=a
 ·subst hb;rw [a7] at e;cases e;exact new
 ·rw [aD hb] at e
  exact (x b u e).stay (fun c v _ q=>k c v q) (fun c q=>by rw [aD (aM q hn)];exact q) fun c xs q=>q.upd fun u hu=>aM hu hn
end
def Rd (H:Hp) (a:Addr) (u:HO):Prop:=H a=some u\/∃ o,H a=some (.frz o u)
theorem Rd.ok {P:Program} {w:World} {H:Hp} {h:Heap} {a:Addr} {u:HO} (r:Rd H a u) (x:HOk P w H h):ObjOk P w H h a u:=by
 rcases r with r | ⟨o,r⟩
 ·exact x a u r
 ·obtain ⟨_,q⟩:=x a _ r
  exact q
def Mut:Option HO->Prop
 | some (.lst _)=>True
 | some (.dK _)=>True
 | some (.dT _)=>True
 | some (.set _ _)=>True
 | some (.ins _ _ _)=>True
 | some (.ext _)=>True
 | _=>False
section
variable {P:Program} {w:World} {H:Hp} {h h':Heap} {x e:Addr} {o':HO}
theorem HOk.write (ok:HOk P w H h) (mu:Mut (H x)) (he:e=x\/H e=some (.own x)) (k:∀ b u,b≠e->h.get? b=some u->h'.get? b=some u) (heo:∃ u,h'.get? e=some u)
  (new:ObjOk P w (upd H x o') h' x o'):HOk P w (upd H x o') h':=fun b u q=>by
 have nown:∀ c y,H c=some (.own y)->c≠x:=fun c y r z=>by subst z;rw [r] at mu;exact mu
 have ntup:∀ c xs,H c=some (.tup xs)->c≠x:=fun c xs r z=>by subst z;rw [r] at mu;exact mu
 by_cases hb:b=x
 ·subst hb;rw [a7] at q;cases q;exact new
 ·rw [aD hb] at q
  by_cases hbe:b=e
  ·have q':H b=some (.own x):=by
    rcases he with z | z
    ·exact absurd (hbe.trans z) hb
    ·rw [hbe];exact z
   rw [q] at q';cases q'
   obtain ⟨v,hv⟩:=heo
   exact ⟨v,by rw [hbe];exact hv⟩
  ·refine (ok b u q).stay (fun c v hc r=>k c v ?_ r) (fun c r=>by rw [aD (nown c b r)];exact r) fun c xs r=>r.upd fun _ _ z=>by
    subst z
    rcases r with r | ⟨_,r⟩<;>(rw [r] at mu;exact mu)
   rcases hc with rfl | hc
   ·exact hbe
   ·rintro rfl
    rcases he with z | z
    ·exact nown c b hc z
    ·rw [hc] at z;cases z;exact hb rfl
end
structure Un (fs ex:List Addr) (H H':Hp) (h h':Heap):Prop where
 keep:∀ b o,h.get? b=some o->H b=none->b ∉ fs->b ∉ ex->h'.get? b=some o
 slot:∀ b o,h.get? b=some o->H b=none->b∈fs->b ∉ ex->∃ sl,h'.get? b=some {o with slots:=sl}
 free:∀ b o,h.get? b=some o->H b=none->b ∉ ex->H' b=none
 there:∀ b o,h.get? b=some o->b ∉ ex->∃ o',h'.get? b=some o'
 tups:∀ b xs,H b=some (.tup xs)->H' b=some (.tup xs)
 frzs:∀ b o u,H b=some (.frz o u)->H' b=some (.frz o u)
 tbls:∀ b ps,H b=some (.tbl ps)->∃ more,H' b=some (.tbl (ps++more))
section
variable {fs fs' ex ex':List Addr} {H H1 H2:Hp} {h h1 h2 h':Heap} {a x e:Addr} {o:HO}
theorem Un.any (u:Un fs ex H H1 h h1) {b:Addr} {ob:Obj} (q:h.get? b=some ob) (n:H b=none) (hx:b ∉ ex):∃ sl,h1.get? b=some {ob with slots:=sl}:=by
 by_cases hb:b∈fs
 ·exact u.slot b ob q n hb hx
 ·exact ⟨ob.slots,u.keep b ob q n hb hx⟩
theorem Un.trans (a:Un fs ex H H1 h h1) (b:Un fs ex H1 H2 h1 h2):Un fs ex H H2 h h2 where
 keep:=fun c ob q n hc hx=>b.keep c ob (a.keep c ob q n hc hx) (a.free c ob q n hx) hc hx
 slot:=fun c ob q n hc hx=>by
  obtain ⟨sl,e1⟩:=a.slot c ob q n hc hx
  obtain ⟨sl',e2⟩:=b.slot c _ e1 (a.free c ob q n hx) hc hx
  exact ⟨sl',e2⟩
 free:=fun c ob q n hx=>by
  obtain ⟨o',e1⟩:=a.there c ob q hx
  exact b.free c o' e1 (a.free c ob q n hx) hx
 there:=fun c ob q hx=>by
  obtain ⟨o',e1⟩:=a.there c ob q hx
  exact b.there c o' e1 hx
 tups:=fun c xs q=>b.tups c xs (a.tups c xs q)
 frzs:=fun c ob xs q=>b.frzs c ob xs (a.frzs c ob xs q)
 tbls:=fun c ps q=>by
  obtain ⟨m1,e1⟩:=a.tbls c ps q
  obtain ⟨m2,e2⟩:=b.tbls c _ e1
  exact ⟨m1++m2,by rw [e2,Array.append_assoc]⟩
theorem Un.kept (k:∀ b u,h.get? b=some u->h'.get? b=some u):Un fs ex H H h h':=
 ⟨fun b ob q _ _ _=>k b ob q,fun b ob q _ _ _=>⟨ob.slots,k b ob q⟩,fun _ _ _ n _=>n,fun b ob q _=>⟨ob,k b ob q⟩,fun _ _ q=>q,fun _ _ _ q=>q,fun _ ps q=>⟨#[],by rw [q];simp⟩⟩
theorem Un.refl:Un fs ex H H h h:=Un.kept fun _ _ q=>q
theorem Un.laid (k:∀ b u,h.get? b=some u->h'.get? b=some u) (hp:h.objs.size<=a) (hn:H a=none):Un fs ex H (upd H a o) h h' where
 keep:=fun b u q _ _ _=>k b u q
 slot:=fun b u q _ _ _=>⟨u.slots,k b u q⟩
 free:=fun b u q n _=>by rw [aD (Nat.ne_of_lt (Nat.lt_of_lt_of_le (Qz q) hp))];exact n
 there:=fun b u q _=>⟨u,k b u q⟩
 tups:=fun b xs q=>by rw [aD (aM q hn)];exact q
 frzs:=fun b u xs q=>by rw [aD (aM q hn)];exact q
 tbls:=fun b ps q=>⟨#[],by rw [aD (aM q hn),q];simp⟩
theorem Un.write (mu:Mut (H x)) (he:e=x\/H e=some (.own x)) (k:∀ b u,b≠e->h.get? b=some u->h'.get? b=some u) (heo:∃ u,h'.get? e=some u):Un fs ex H (upd H x o) h h':=by
 have hx:∀ b,H b=none->b≠x:=fun b n z=>by subst z;rw [n] at mu;exact mu
 have hb:∀ b,H b=none->b≠e:=fun b n z=>by
  subst z
  rcases he with r | r
  ·exact hx b n r
  ·rw [n] at r;cases r
 have hm:∀ b u,H b=some u->¬Mut (some u)->b≠x:=fun b u q nm z=>by subst z;rw [q] at mu;exact nm mu
 refine ⟨fun b u q n _ _=>k b u (hb b n) q,fun b u q n _ _=>⟨u.slots,k b u (hb b n) q⟩,fun b u q n _=>by rw [aD (hx b n)];exact n,fun b u q _=>?_,
  fun b xs q=>by rw [aD (hm b _ q fun z=>z)];exact q,fun b u xs q=>by rw [aD (hm b _ q fun z=>z)];exact q,fun b ps q=>⟨#[],by rw [aD (hm b _ q fun z=>z),q];simp⟩⟩
 by_cases hbe:b=e
 ·subst hbe;exact heo
 ·exact ⟨u,k b u hbe q⟩
end
def trk (h:Heap) (H:Hp):List Addr:=(List.range h.objs.size).filter fun a=>(H a).isSome
def hidT (h:Heap) (H:Hp):Heap:=PySem.W.hideAll h (trk h H)
theorem uU (h:Heap) (H:Hp):(hidT h H).objs.size=h.objs.size:=PySem.W.hideAll_size _ _
theorem xX {h:Heap} {H:Hp} {b:Addr} {o:Obj} (e:h.get? b=some o) (n:H b=none):(hidT h H).get? b=some o:=
 PySem.W.hideAll_get _ e fun hm=>by
  have q:(H b).isSome=true:=(List.mem_filter.mp hm).2
  rw [n] at q;simp at q
theorem zJ {h:Heap} {H:Hp} {b:Addr} {o:Obj} (e:(hidT h H).get? b=some o):h.get? b=some o/\H b=none:=by
 have e':h.get? b=some o:=PySem.W.of_hideAll (trk h H) e
 refine ⟨e',?_⟩
 cases q:H b with
 | none=>rfl
 | some x=>
  have hm:b∈trk h H:=List.mem_filter.mpr ⟨List.mem_range.mpr (Qz e'),by simp [q]⟩
  have z:(hidT h H).get? b=none:=PySem.W.hideAll_none (trk h H) hm
  rw [z] at e;cases e
end L2
namespace L2
open PySem PySem.Spec PyProof.Rows
structure Mod (K:Q0) (mg:Str->Option Value) (base:Heap):Prop where
 kin:K.In base
 glob:base.Ns mainGlobals mg
 blt:∃ mb,base.Ns builtinsNs mb/\∀ x:Str,x≠"__name__"->mb x=bootBuiltins x
 nolimit:base.NoLimit
structure Cx where
 prog:Program
 w:World
 K:Q0
 mg:Str->Option Value
 base:Heap
 A:Around
 N:List Str
 s₀:Shared
 H₀:Hp
 env:Env
 outer:List Env
 stack:List Env
 ex:List Addr
 fn:Str->Bool
 calm:Bool
 pn:List (Addr×Obj)
 xe:Value->Shared->Prop
def frs (l:List Env):List Addr:=l.filterMap (·.frame)
abbrev Cx.fs (X:Cx):List Addr:=frs X.outer
def Vis (sc:Scope) (x:Str):Prop:=sc.names.lookup x=some .local\/sc.names.lookup x=some .cell\/sc.names.lookup x=some .free
def Loc (sc:Scope) (x:Str):Prop:=sc.names.lookup x=some .local\/sc.names.lookup x=some .cell
def Look (env:Env) (h:Heap) (m:Str->Option Value) (x:Str) (u:Value):Prop:=
 (env.kindOf x=some .local/\m x=some u)\/((env.kindOf x=some .cell\/env.kindOf x=some .free)/\∃ c,env.cells.lookup x=some c/\h.IsCell c (some u))
structure Cx.Ok (X:Cx):Prop where
 mod:Mod X.K X.mg X.base
 kind:X.env.scope.kind=.function
 glob:X.env.globals=mainGlobals
 blt:X.env.builtins=builtinsNs
 above:X.s₀.heap.objs.size<=X.env.locals
 inj:∀ x y c,X.env.cells.lookup x=some c->X.env.cells.lookup y=some c->x=y
 has:∀ x,(X.env.kindOf x=some .cell\/X.env.kindOf x=some .free)->∃ c,X.env.cells.lookup x=some c
 cab:∀ x c,X.fn x=true->X.env.cells.lookup x=some c->X.s₀.heap.objs.size<=c
 hd:X.calm=true->X.A.handled=none
 frames:X.A.frames=some X.stack
 stk:X.stack=X.outer\/(X.stack=X.env::X.outer/\X.env.frame=some X.env.locals)
 exf:∀ b∈X.ex,b≠X.env.locals/\∀ x c,X.env.cells.lookup x=some c->c≠b
 bs:∀ b o,X.base.get? b=some o->X.s₀.heap.get? b=some o/\X.H₀ b=none
 bsz:X.base.objs.size<=X.s₀.heap.objs.size
 noex:∀ b o,X.base.get? b=some o->b ∉ X.ex
 exfs:∀ b∈X.ex,b ∉ X.fs
 funs:X.s₀.heap.FunFrames X.base X.outer
 frf:∀ b∈X.fs,X.H₀ b=none
structure Inv (X:Cx) (pins:List (Addr×Obj)) (σ:List (Option V)) (H:Hp) (s:Shared):Prop where
 ok:X.Ok
 os:s.os=X.s₀.os
 bare:AllBare s.gens
 base:Un X.fs X.ex X.H₀ H X.s₀.heap s.heap
 loc:∃ m,s.heap.Ns X.env.locals m/\∀ (i:Nat) (x:Str) (v:V),X.N[i]? =some x->σ[i]? =some (some v)->Vis X.env.scope x->∃ u,RelV v u/\Look X.env s.heap m x u
 cell:∀ x c,X.env.cells.lookup x=some c->∃ v,s.heap.IsCell c v
 free:H X.env.locals=none
 freeC:∀ x c,X.env.cells.lookup x=some c->H c=none
 pin:∀ p∈X.pn++pins,s.heap.get? p.1=some p.2/\H p.1=none/\p.1≠X.env.locals/\p.1 ∉ X.fs/\∀ v,p.2.data≠.cell v
 hok:HOk X.prog X.w H s.heap
 len:σ.length=X.N.length
section
variable {X:Cx} {pins:List (Addr×Obj)} {σ:List (Option V)} {H H':Hp} {s:Shared} {h':Heap}
theorem Cx.Ok.nofr (ok:X.Ok) {b:Addr} {o:Obj} (e:X.base.get? b=some o):b ∉ X.fs:=fun hb=>by
 have:=(ok.funs.mem hb).1
 rw [e] at this;cases this
theorem Inv.bs (I:Inv X pins σ H s):∀ b o,X.base.get? b=some o->s.heap.get? b=some o/\H b=none:=fun b o e=>
 ⟨I.base.keep b o (I.ok.bs b o e).1 (I.ok.bs b o e).2 (I.ok.nofr e) (I.ok.noex b o e),I.base.free b o (I.ok.bs b o e).1 (I.ok.bs b o e).2 (I.ok.noex b o e)⟩
theorem Inv.bk (I:Inv X pins σ H s):∀ b o,X.base.get? b=some o->s.heap.get? b=some o:=fun b o e=>(I.bs b o e).1
theorem Inv.mod (I:Inv X pins σ H s):Mod X.K X.mg X.base:=I.ok.mod
theorem Inv.kIn (I:Inv X pins σ H s):X.K.In s.heap:=I.ok.mod.kin.keeps I.bk
theorem Inv.lt (I:Inv X pins σ H s):X.env.locals < s.heap.objs.size:=let ⟨_,hn,_⟩:=I.loc;hn.lt
theorem Inv.sz (I:Inv X pins σ H s):X.s₀.heap.objs.size<=s.heap.objs.size:=Nat.le_trans I.ok.above (Nat.le_of_lt I.lt)
theorem Inv.nofs (I:Inv X pins σ H s) {a:Addr} (h:s.heap.objs.size<=a):a ∉ X.fs:=fun hb=>by
 obtain ⟨_,o,ho,_⟩:=I.ok.funs.mem hb
 exact absurd (Nat.lt_of_lt_of_le (Qz ho) (Nat.le_trans I.sz h)) (Nat.lt_irrefl _)
theorem Inv.cne (I:Inv X pins σ H s):∀ x c,X.env.cells.lookup x=some c->c≠X.env.locals:=fun x c e z=>by
 obtain ⟨v,o,ho,hd⟩:=I.cell x c e
 obtain ⟨m,⟨o',es,ep,ho',hd',_⟩,_⟩:=I.loc
 rw [z,ho'] at ho;cases ho;rw [hd'] at hd;cases hd
theorem Inv.funs (I:Inv X pins σ H s):s.heap.FunFrames X.base X.outer:=by
 have all:∀ (l:List Env),(∀ b∈frs l,b∈X.fs)->X.s₀.heap.FunFrames X.base l->s.heap.FunFrames X.base l:=by
  intro l
  induction l with
  | nil=>intro _ _;trivial
  | cons env r ih=>
   intro hs hl
   obtain ⟨hk,⟨L,o,hf,hn,ho,hd⟩,hr⟩:=hl
   have hL:L∈X.fs:=hs L (by unfold frs;rw [List.filterMap_cons,hf];exact List.mem_cons_self)
   obtain ⟨sl,e⟩:=I.base.slot L o ho (I.ok.frf L hL) hL fun z=>I.ok.exfs L z hL
   exact ⟨hk,⟨L,_,hf,hn,e,hd⟩,ih (fun b hb=>hs b (by unfold frs;rw [List.filterMap_cons,hf];exact Qh _ hb)) hr⟩
 exact all X.outer (fun _ hb=>hb) I.ok.funs
theorem Inv.stack (I:Inv X pins σ H s):s.heap.FunFrames X.base X.stack:=by
 rcases I.ok.stk with e | ⟨e,hf⟩
 ·rw [e];exact I.funs
 ·rw [e]
  obtain ⟨m,hn,_⟩:=I.loc
  refine .cons (by rw [I.ok.kind];decide) hf hn ?_ I.funs
  exact Heap.get?_none_of_le (Nat.le_trans I.ok.bsz I.ok.above)
theorem Inv.stkSub (I:Inv X pins σ H s):∀ b∈frs X.stack,b∈X.env.locals::X.fs:=fun b hb=>by
 rcases I.ok.stk with e | ⟨e,hf⟩
 ·rw [e] at hb;exact Qh _ hb
 ·rw [e] at hb
  unfold frs at hb
  rw [List.filterMap_cons,hf] at hb
  exact hb
theorem Inv.stkFree (I:Inv X pins σ H s):∀ b∈frs X.stack,H b=none:=fun b hb=>by
 rcases Qp.mp (I.stkSub b hb) with e | hb
 ·rw [e];exact I.free
 ·obtain ⟨_,o,ho,_⟩:=I.ok.funs.mem hb
  exact I.base.free b o ho (I.ok.frf b hb) fun z=>I.ok.exfs b z hb
theorem Inv.step {g':Array GenState} {t':Nat} {d':Drawn} {ch:List Addr} (I:Inv X pins σ H s)
  (hch:∀ b∈ch,(b∈X.ex\/X.s₀.heap.objs.size<=b)/\b≠X.env.locals/\(∀ x c,X.env.cells.lookup x=some c->c≠b)/\∀ p∈X.pn++pins,p.1≠b)
  (keep:∀ b o,b≠X.env.locals->b ∉ X.fs->b ∉ ch->s.heap.get? b=some o->H b=none->h'.get? b=some o)
  (slot:∀ b o,b≠X.env.locals->b∈X.fs->b ∉ ch->s.heap.get? b=some o->H b=none->∃ sl,h'.get? b=some {o with slots:=sl}) (free:∀ b o,b ∉ ch->s.heap.get? b=some o->H b=none->H' b=none)
  (there:∀ b o,b ∉ ch->s.heap.get? b=some o->∃ o',h'.get? b=some o')
  (tups:∀ b xs,H b=some (.tup xs)->H' b=some (.tup xs)) (frzs:∀ b o u,H b=some (.frz o u)->H' b=some (.frz o u)) (tbls:∀ b ps,H b=some (.tbl ps)->∃ more,H' b=some (.tbl (ps++more)))
  (ns:∀ m,s.heap.Ns X.env.locals m->h'.Ns X.env.locals m) (hok:HOk X.prog X.w H' h') (hg:AllBare g'):
  Inv X pins σ H' {s with heap:=h',gens:=g',drawn:=d',toks:=t'}:=by
 have neL:∀ b o,X.s₀.heap.get? b=some o->b≠X.env.locals:=fun b o e=>Nat.ne_of_lt (Nat.lt_of_lt_of_le (Qz e) I.ok.above)
 have neC:∀ b o,X.s₀.heap.get? b=some o->b ∉ X.ex->b ∉ ch:=fun b o e hx hb=>by
  rcases (hch b hb).1 with z | z
  ·exact hx z
  ·exact absurd (Nat.lt_of_lt_of_le (Qz e) z) (Nat.lt_irrefl _)
 have cellK:∀ x c,X.env.cells.lookup x=some c->∀ v,s.heap.IsCell c v->h'.IsCell c v:=fun x c e v ⟨o,ho,hd⟩=>by
  have nch:c ∉ ch:=fun z=>(hch c z).2.2.1 x c e rfl
  by_cases hc:c∈X.fs
  ·obtain ⟨sl,q⟩:=slot c o (I.cne x c e) hc nch ho (I.freeC x c e)
   exact ⟨_,q,hd⟩
  ·exact ⟨o,keep c o (I.cne x c e) hc nch ho (I.freeC x c e),hd⟩
 refine ⟨I.ok,I.os,hg,⟨fun b o e n hb hx=>?_,fun b o e n hb hx=>?_,fun b o e n hx=>?_,fun b o e hx=>?_,fun b xs e=>tups b xs (I.base.tups b xs e),fun b o xs e=>frzs b o xs (I.base.frzs b o xs e),fun b ps e=>?_⟩,?_,fun x c e=>?_,?_,fun x c e=>?_,fun p hp=>?_,hok,I.len⟩
 ·exact keep b o (neL b o e) hb (neC b o e hx) (I.base.keep b o e n hb hx) (I.base.free b o e n hx)
 ·obtain ⟨sl,e1⟩:=I.base.slot b o e n hb hx
  obtain ⟨sl',e2⟩:=slot b _ (neL b o e) hb (neC b o e hx) e1 (I.base.free b o e n hx)
  exact ⟨sl',e2⟩
 ·obtain ⟨o',e1⟩:=I.base.there b o e hx
  exact free b o' (neC b o e hx) e1 (I.base.free b o e n hx)
 ·obtain ⟨o',e1⟩:=I.base.there b o e hx
  exact there b o' (neC b o e hx) e1
 ·obtain ⟨m1,e1⟩:=I.base.tbls b ps e
  obtain ⟨m2,e2⟩:=tbls b _ e1
  exact ⟨m1++m2,by rw [e2,Array.append_assoc]⟩
 ·obtain ⟨m,hn,hl⟩:=I.loc
  refine ⟨m,ns m hn,fun i x v e1 e2 e3=>?_⟩
  obtain ⟨u,r,l⟩:=hl i x v e1 e2 e3
  refine ⟨u,r,?_⟩
  rcases l with l | ⟨k,c,e,z⟩
  ·exact .inl l
  ·exact .inr ⟨k,c,e,cellK x c e _ z⟩
 ·obtain ⟨v,z⟩:=I.cell x c e
  exact ⟨v,cellK x c e v z⟩
 ·obtain ⟨m,⟨o,_,_,ho,_⟩,_⟩:=I.loc
  exact free _ o (fun z=>(hch _ z).2.1 rfl) ho I.free
 ·obtain ⟨v,o,ho,hd⟩:=I.cell x c e
  exact free c o (fun z=>(hch c z).2.2.1 x c e rfl) ho (I.freeC x c e)
 ·obtain ⟨e,n,ne,nf,d⟩:=I.pin p hp
  have nch:p.1 ∉ ch:=fun z=>(hch p.1 z).2.2.2 p hp rfl
  exact ⟨keep p.1 p.2 ne nf nch e n,free p.1 p.2 nch e n,ne,nf,d⟩
theorem Inv.un {t':Nat} (I:Inv X pins σ H s) (u:Un X.fs [] H H' s.heap h') (hok:HOk X.prog X.w H' h'):Inv X pins σ H' {s with heap:=h',toks:=t'}:=by
 obtain ⟨m,⟨o,es,ep,ho,r⟩,_⟩:=id I.loc
 obtain ⟨sl,hL⟩:=u.any ho I.free (by simp)
 exact I.step (g':=s.gens) (d':=s.drawn) (ch:=[]) (fun _ z=>nomatch z) (fun b o _ hb _ e n=>u.keep b o e n hb (by simp)) (fun b o _ hb _ e n=>u.slot b o e n hb (by simp)) (fun b o _ e n=>u.free b o e n (by simp)) (fun b o _ e=>u.there b o e (by simp)) u.tups u.frzs u.tbls (fun m' hm=>by
  obtain ⟨o',es',ep',ho',r'⟩:=hm
  rw [ho] at ho';cases ho'
  exact ⟨_,es',ep',hL,r'⟩) hok I.bare
theorem Inv.call {g':Array GenState} {t':Nat} {d':Drawn} {ch:List Addr} (I:Inv X pins σ H s) (u:Un (frs X.stack) ch H H' s.heap h') (hok:HOk X.prog X.w H' h') (hg:AllBare g')
  (hch:∀ b∈ch,(b∈X.ex\/X.s₀.heap.objs.size<=b)/\b≠X.env.locals/\(∀ x c,X.env.cells.lookup x=some c->c≠b)/\∀ p∈X.pn++pins,p.1≠b):
  Inv X pins σ H' {s with heap:=h',gens:=g',drawn:=d',toks:=t'}:=by
 obtain ⟨m,⟨o,es,ep,ho,r⟩,_⟩:=id I.loc
 obtain ⟨sl,hL⟩:=u.any ho I.free fun z=>(hch _ z).2.1 rfl
 exact I.step (ch:=ch) hch (fun b o hL hb hc e n=>u.keep b o e n (fun z=>(Qp.mp (I.stkSub b z)).elim hL hb) hc) (fun b o _ _ hc e n=>u.any e n hc) (fun b o hc e n=>u.free b o e n hc) (fun b o hc e=>u.there b o e hc) u.tups u.frzs u.tbls (fun m' hm=>by
  obtain ⟨o',es',ep',ho',r'⟩:=hm
  rw [ho] at ho';cases ho'
  exact ⟨_,es',ep',hL,r'⟩) hok hg
theorem Inv.turned {t':Nat} {it:Addr} (I:Inv X pins σ H s) (k:∀ b o,b≠it->s.heap.get? b=some o->h'.get? b=some o) (hn:H it=none) (hL:it≠X.env.locals)
  (h1:it∈X.ex\/X.s₀.heap.objs.size<=it) (h2:∀ x c,X.env.cells.lookup x=some c->c≠it) (h3:∀ p∈X.pn++pins,p.1≠it):Inv X pins σ H {s with heap:=h',toks:=t'}:=by
 have nit:∀ b u,H b=some u->b≠it:=fun b u e z=>by rw [z,hn] at e;cases e
 refine I.step (g':=s.gens) (d':=s.drawn) (ch:=[it]) (fun b hb=>?_) (fun b o _ _ hc e _=>k b o (fun z=>hc (by simp [z])) e) (fun b o _ _ hc e _=>⟨o.slots,k b o (fun z=>hc (by simp [z])) e⟩) (fun _ _ _ _ n=>n)
  (fun b o hc e=>⟨o,k b o (fun z=>hc (by simp [z])) e⟩) (fun _ _ e=>e) (fun _ _ _ e=>e) (fun b ps e=>⟨#[],by rw [e];simp⟩) (fun m hm=>?_) (fun b u e=>?_) I.bare
 ·have e:b=it:=by simpa using hb
  subst e
  exact ⟨h1,hL,h2,h3⟩
 ·obtain ⟨o,es,ep,ho,r⟩:=hm
  exact ⟨o,es,ep,k _ o (Ne.symm hL) ho,r⟩
 ·refine (I.hok b u e).stay (fun c v hc q=>k c v ?_ q) (fun _ q=>q) fun _ _ q=>q
  rcases hc with z | z
  ·rw [z];exact nit b u e
  ·exact nit c _ z
theorem Inv.tok (I:Inv X pins σ H s) (t:Nat):Inv X pins σ H {s with toks:=t}:=I.un (h':=s.heap) (t':=t) Un.refl I.hok
theorem Inv.kept {t':Nat} (I:Inv X pins σ H s) (k:∀ b u,s.heap.get? b=some u->h'.get? b=some u):Inv X pins σ H {s with heap:=h',toks:=t'}:=I.un (Un.kept k) (I.hok.kept k)
theorem Inv.laid {a:Addr} {o:HO} {t':Nat} (I:Inv X pins σ H s) (k:∀ b u,s.heap.get? b=some u->h'.get? b=some u) (hp:s.heap.objs.size<=a) (new:ObjOk X.prog X.w (upd H a o) h' a o):
  Inv X pins σ (upd H a o) {s with heap:=h',toks:=t'}:=I.un (Un.laid k hp (I.hok.fresh hp)) (I.hok.laid k hp new)
theorem Inv.write {x e:Addr} {o:HO} {t':Nat} (I:Inv X pins σ H s) (mu:Mut (H x)) (he:e=x\/H e=some (.own x)) (k:∀ b u,b≠e->s.heap.get? b=some u->h'.get? b=some u) (heo:∃ u,h'.get? e=some u)
  (new:ObjOk X.prog X.w (upd H x o) h' x o):Inv X pins σ (upd H x o) {s with heap:=h',toks:=t'}:=I.un (Un.write mu he k heo) (I.hok.write mu he k heo new)
theorem Inv.pins_of {pins':List (Addr×Obj)} (I:Inv X pins σ H s) (h:∀ p∈pins',s.heap.get? p.1=some p.2/\H p.1=none/\p.1≠X.env.locals/\p.1 ∉ X.fs/\∀ v,p.2.data≠.cell v):Inv X pins' σ H s:=
 ⟨I.ok,I.os,I.bare,I.base,I.loc,I.cell,I.free,I.freeC,fun p hp=>(List.mem_append.mp hp).elim (fun z=>I.pin p (List.mem_append_left _ z)) (h p),I.hok,I.len⟩
theorem pH {N:List Str} (hN:N.Nodup) {i j:Nat} {x:Str} (a:N[i]? =some x) (b:N[j]? =some x):i=j:=by
 obtain ⟨h1,e1⟩:=List.getElem?_eq_some_iff.mp a
 obtain ⟨h2,e2⟩:=List.getElem?_eq_some_iff.mp b
 exact (List.getElem_inj hN).mp (e1.trans e2.symm)
theorem mD {M:Model} {A:Around} {E:Value->Shared->Prop} {i:Nat} {x:Str} {v:V} {u:Value} {Q:Unit->Shared->Prop} (I:Inv X pins σ H s) (hN:X.N.Nodup) (hi:X.N[i]? =some x) (hx:Loc X.env.scope x) (r:RelV v u)
  (h:∀ s',Inv X pins (σ.set i (some v)) H s'->(∃ a,Heap.SameBut a s.heap s'.heap/\(a=X.env.locals\/X.env.cells.lookup x=some a))->Q () s') (hf:X.fn x=true\/X.env.scope.names.lookup x=some .local:=by first | exact .inl rfl | exact .inr rfl | assumption):wpAny M A (storeName X.env x u) Q E s:=by
 obtain ⟨m,hn,hl⟩:=id I.loc
 have hcls:(X.env.scope.kind==.class||(X.env.scope.kind==.module&&X.env.locals !=X.env.globals))=false:=by rw [I.ok.kind];rfl
 have hiσ:i < σ.length:=by rw [I.len];exact (List.getElem?_eq_some_iff.mp hi).1
 have cne:=I.cne
 have tracked:∀ {a:Addr} {h':Heap},(∃ o,s.heap.get? a=some o/\H a=none)->Heap.SameBut a s.heap h'->HOk X.prog X.w H h':=fun {a h'} ha hs b ob e=>by
  obtain ⟨_,_,hfree⟩:=ha
  refine (I.hok b ob e).stay (fun c w' hc q=>(hs.2 c ?_).trans q) (fun _ q=>q) fun _ _ q=>q
  rintro rfl
  rcases hc with rfl | hc
  ·rw [hfree] at e;cases e
  ·rw [hfree] at hc;cases hc
 rcases hx with hk | hk
 ·refine wpAny_storeName_local hk hn (fun h' hn' hs=>?_) hcls
  obtain ⟨oL,_,_,hoL,_⟩:=id hn
  refine h _ ⟨I.ok,I.os,I.bare,⟨fun b o e n hb hx=>?_,fun b o e n hb hx=>?_,I.base.free,fun b o e hx=>?_,I.base.tups,I.base.frzs,I.base.tbls⟩,⟨_,hn',fun j y v' e1 e2 e3=>?_⟩,fun y c e=>?_,I.free,I.freeC,fun p hp=>?_,tracked ⟨oL,hoL,I.free⟩ hs,by simpa using I.len⟩ ⟨_,hs,.inl rfl⟩
  ·exact (hs.2 b (Nat.ne_of_lt (Nat.lt_of_lt_of_le (Qz e) I.ok.above))).trans (I.base.keep b o e n hb hx)
  ·obtain ⟨sl,e1⟩:=I.base.slot b o e n hb hx
   exact ⟨sl,(hs.2 b (Nat.ne_of_lt (Nat.lt_of_lt_of_le (Qz e) I.ok.above))).trans e1⟩
  ·obtain ⟨o',e1⟩:=I.base.there b o e hx
   exact ⟨o',(hs.2 b (Nat.ne_of_lt (Nat.lt_of_lt_of_le (Qz e) I.ok.above))).trans e1⟩
  ·by_cases hj:j=i
   ·subst hj
    rw [hi] at e1;cases e1
    rw [List.getElem?_set_self hiσ] at e2
    cases e2
    exact ⟨u,r,.inl ⟨hk,by simp⟩⟩
   ·rw [List.getElem?_set_ne (Ne.symm hj)] at e2
    obtain ⟨u',r',q⟩:=hl j y v' e1 e2 e3
    refine ⟨u',r',?_⟩
    rcases q with ⟨k,e⟩ | ⟨k,c,e,z⟩
    ·refine .inl ⟨k,?_⟩
     have:y≠x:=fun e=>hj (pH hN e1 (e▸hi))
     simp [this,e]
    ·exact .inr ⟨k,c,e,z.sameBut hs (cne y c e)⟩
  ·obtain ⟨w',z⟩:=I.cell y c e
   exact ⟨w',z.sameBut hs (cne y c e)⟩
  ·obtain ⟨e,n,ne,nf,d⟩:=I.pin p hp
   exact ⟨(hs.2 p.1 ne).trans e,n,ne,nf,d⟩
 ·have hfn:X.fn x=true:=by
   rcases hf with z | z
   ·exact z
   ·rw [z] at hk;cases hk
  obtain ⟨c,hc⟩:=I.ok.has x (.inl hk)
  obtain ⟨w',z⟩:=I.cell x c hc
  refine wpAny_storeName_cell I.ok.kind hk hc z (fun h' hc' hs=>?_)
  obtain ⟨oc,hoc,hocd⟩:=id z
  refine h {s with heap:=h'} ⟨I.ok,I.os,I.bare,⟨fun b o e n hb hx=>?_,fun b o e n hb hx=>?_,I.base.free,fun b o e hx=>?_,I.base.tups,I.base.frzs,I.base.tbls⟩,⟨m,hn.sameBut hs (Ne.symm (cne x c hc)),fun j y v' e1 e2 e3=>?_⟩,fun y c' e=>?_,I.free,I.freeC,fun p hp=>?_,tracked ⟨oc,hoc,I.freeC x c hc⟩ hs,by simpa using I.len⟩ ⟨c,hs,.inr hc⟩
  ·exact (hs.2 b (Nat.ne_of_lt (Nat.lt_of_lt_of_le (Qz e) (I.ok.cab x c hfn hc)))).trans (I.base.keep b o e n hb hx)
  ·obtain ⟨sl,e1⟩:=I.base.slot b o e n hb hx
   exact ⟨sl,(hs.2 b (Nat.ne_of_lt (Nat.lt_of_lt_of_le (Qz e) (I.ok.cab x c hfn hc)))).trans e1⟩
  ·obtain ⟨o',e1⟩:=I.base.there b o e hx
   exact ⟨o',(hs.2 b (Nat.ne_of_lt (Nat.lt_of_lt_of_le (Qz e) (I.ok.cab x c hfn hc)))).trans e1⟩
  ·by_cases hj:j=i
   ·subst hj
    rw [hi] at e1;cases e1
    rw [List.getElem?_set_self hiσ] at e2
    cases e2
    exact ⟨u,r,.inr ⟨.inl hk,c,hc,hc'⟩⟩
   ·rw [List.getElem?_set_ne (Ne.symm hj)] at e2
    obtain ⟨u',r',q⟩:=hl j y v' e1 e2 e3
    refine ⟨u',r',?_⟩
    rcases q with q | ⟨k,c',e,z'⟩
    ·exact .inl q
    ·refine .inr ⟨k,c',e,z'.sameBut hs ?_⟩
     rintro rfl
     exact hj (pH hN e1 (I.ok.inj _ _ _ e hc▸hi))
  ·by_cases hcc:c'=c
   ·subst hcc;exact ⟨_,hc'⟩
   ·obtain ⟨w2,z2⟩:=I.cell y c' e
    exact ⟨w2,z2.sameBut hs hcc⟩
  ·obtain ⟨e,n,ne,nf,d⟩:=I.pin p hp
   refine ⟨(hs.2 p.1 ?_).trans e,n,ne,nf,d⟩
   intro q
   rw [q,hoc] at e
   have q':oc=p.2:=QD e
   exact d w' (by rw [<- q'];exact hocd)
theorem gH {M:Model} {A:Around} {E:Value->Shared->Prop} {i:Nat} {x:Str} {v:V} {u:Value} {Q:Unit->Shared->Prop} (I:Inv X pins σ H s) (hN:X.N.Nodup) (hi:X.N[i]? =some x) (hx:Loc X.env.scope x) (r:RelV v u)
  (h:∀ s',Inv X pins (σ.set i (some v)) H s'->Q () s') (hf:X.fn x=true\/X.env.scope.names.lookup x=some .local:=by first | exact .inl rfl | exact .inr rfl | assumption):wpAny M A (storeName X.env x u) Q E s:=
 mD I hN hi hx r (fun s' I' _=>h s' I') hf
theorem Inv.call' {s':Shared} {ch:List Addr} (I:Inv X pins σ H s) (ho:s'.os=s.os) (u:Un (frs X.stack) ch H H' s.heap s'.heap) (hok:HOk X.prog X.w H' s'.heap) (hg:AllBare s'.gens)
  (hch:∀ b∈ch,(b∈X.ex\/X.s₀.heap.objs.size<=b)/\b≠X.env.locals/\(∀ x c,X.env.cells.lookup x=some c->c≠b)/\∀ p∈X.pn++pins,p.1≠b):Inv X pins σ H' s':=by
 obtain ⟨h',g',d',t',o'⟩:=s'
 have e:o'=s.os:=ho
 subst e
 exact I.call (g':=g') (t':=t') (d':=d') u hok hg hch
end
abbrev XK:=Value->Option Addr->Hp->Prop
abbrev St:=List (Option V)
abbrev VK:=V->Hp->Prop
abbrev TE:=St->Hp->VK->Prop
abbrev TT:=St->Hp->(Bool->Hp->Prop)->Prop
abbrev TA:=St->Hp->(List V->Hp->Prop)->Prop
structure Ends where
 nx:St->Hp->Prop
 rt:VK
 bk:St->Hp->Prop:=fun _ _=>False
 ct:St->Hp->Prop:=fun _ _=>False
abbrev TS:=Ends->St->Hp->Prop
def EP (X:Cx) (pins:List (Addr×Obj)) (σ:St) (Q:VK) (u:Value) (s':Shared):Prop:=∃ v H',Inv X pins σ H' s'/\RelV v u/\Q v H'
def TP (X:Cx) (pins:List (Addr×Obj)) (σ:St) (Q:Bool->Hp->Prop) (b:Bool) (s':Shared):Prop:=∃ H',Inv X pins σ H' s'/\Q b H'
def AP (X:Cx) (pins:List (Addr×Obj)) (σ:St) (Q:List V->Hp->Prop) (us:List Value) (s':Shared):Prop:=∃ vs H',Inv X pins σ H' s'/\Vals vs us/\Q vs H'
def SP (X:Cx) (pins:List (Addr×Obj)) (D:Ends) (f:Flow) (s':Shared):Prop:=
 match f with
 | .next=>∃ σ' H',Inv X pins σ' H' s'/\D.nx σ' H'
 | .brk=>∃ σ' H',Inv X pins σ' H' s'/\D.bk σ' H'
 | .cont=>∃ σ' H',Inv X pins σ' H' s'/\D.ct σ' H'
 | .ret u=>∃ v σ' H',Inv X pins σ' H' s'/\RelV v u/\D.rt v H'
def PE (X:Cx) (e:Expr) (t:TE):Prop:=
 ∀ (pins:List (Addr×Obj)) (s:Shared) (σ:St) (H:Hp) (Q:VK),Inv X pins σ H s->t σ H Q->wpAny (model X.prog X.w) X.A (eval e X.env) (EP X pins σ Q) X.xe s
def PT (X:Cx) (e:Expr) (t:TT):Prop:=
 ∀ (pins:List (Addr×Obj)) (s:Shared) (σ:St) (H:Hp) (Q:Bool->Hp->Prop),Inv X pins σ H s->t σ H Q->wpAny (model X.prog X.w) X.A (isTrue e X.env (eval e X.env)) (TP X pins σ Q) X.xe s
def PW (X:Cx) (e:Expr) (t:TT):Prop:=
 ∀ (whole:Sem Value) (pins:List (Addr×Obj)) (s:Shared) (σ:St) (H:Hp) (Q:Bool->Hp->Prop),Inv X pins σ H s->t σ H Q->wpAny (model X.prog X.w) X.A (isTrue e X.env whole) (TP X pins σ Q) X.xe s
theorem PW.pt {X:Cx} {e:Expr} {t:TT} (h:PW X e t):PT X e t:=h _
def PA (X:Cx) (es:List Expr) (t:TA):Prop:=
 ∀ (pos:Pos) (pins:List (Addr×Obj)) (s:Shared) (σ:St) (H:Hp) (Q:List V->Hp->Prop),Inv X pins σ H s->t σ H Q->wpAny (model X.prog X.w) X.A (spliced (backTo pos (starEach es X.env))) (AP X pins σ Q) X.xe s
def PS (X:Cx) (st:Stmt) (t:TS):Prop:=
 ∀ (pins:List (Addr×Obj)) (s:Shared) (σ:St) (H:Hp) (D:Ends),Inv X pins σ H s->t D σ H->wpAny (model X.prog X.w) X.A (exec st X.env) (SP X pins D) X.xe s
def PSs (X:Cx) (st:List Stmt) (t:TS):Prop:=
 ∀ (pins:List (Addr×Obj)) (s:Shared) (σ:St) (H:Hp) (D:Ends),Inv X pins σ H s->t D σ H->wpAny (model X.prog X.w) X.A (execs st X.env) (SP X pins D) X.xe s
theorem thn {α:Type} {t:Sem α} {Q Q':α->Shared->Prop} {M:Model} {A:Around} {E:Value->Shared->Prop} {s:Shared} (h:wpAny M A t Q E s) (hQ:∀ a s,Q a s->Q' a s):wpAny M A t Q' E s:=wpAny_mono h hQ fun _ _ x=>x
end L2
namespace L2
open PySem PySem.Spec PyProof.Rows
section
variable {X:Cx}
def tVar (i:Nat):TE:=fun σ H Q=>∃ v,σ[i]? =some (some v)/\Q v H
def tC (v:V):TE:=fun _ H Q=>Q v H
theorem a1g {i:Nat} {x:Str} {pos:Pos} (hN:X.N[i]? =some x) (hv:Vis X.env.scope x) (hd:(x==("__debug__":Str))=false:=by decide) (hcd:(x==("__classdict__":Str))=false:=by decide):PE X (.Name x pos) (tVar i):=by
 intro pins s σ H Q I h
 obtain ⟨v,e,h⟩:=h
 obtain ⟨m,hn,hl⟩:=I.loc
 obtain ⟨u,r,l⟩:=hl i x v hN e hv
 have fin:EP X pins σ Q u s:=⟨v,H,I,r,h⟩
 rcases l with ⟨hk,hm⟩ | ⟨hk,c,hc,hcell⟩
 ·exact wpAny_Name (wpAny_loadName_local I.ok.kind hk hn hm fin) hd
 ·rcases hk with hk | hk
  ·exact wpAny_Name (wpAny_loadName_cell I.ok.kind hk hc hcell fin) hd
  ·exact wpAny_Name (wpAny_loadName_free I.ok.kind hk hc hcell fin hcd) hd
theorem a1j {i j pos}:PE X (.Constant (.int i) j pos) (tC (.int i)):=fun _ _ _ H _ I h=>wpAny_Constant_int ⟨.int i,H,I.tok _,⟨_,rfl⟩,h⟩
theorem a20 {b j pos}:PE X (.Constant (.bool b) j pos) (tC (.bl b)):=fun _ _ _ H _ I h=>Constant_bool ⟨.bl b,H,I,rfl,h⟩
theorem a0m {j pos}:PE X (.Constant .none j pos) (tC .non):=fun _ _ _ H _ I h=>Constant_none ⟨.non,H,I,rfl,h⟩
theorem a0v {x j pos}:PE X (.Constant (.str x) j pos) (tC (.str x)):=fun _ _ _ H _ I h=>Calls.Constant_str ⟨.str x,H,I.tok _,⟨_,rfl⟩,h⟩
def Gl (X:Cx) (x:Str):Prop:=X.env.kindOf x=some .globalImplicit
theorem oI {E:Value->Shared->Prop} {pins:List (Addr×Obj)} {s:Shared} {σ:St} {H:Hp} {x:Str} {u:Value} {pos:Pos} {Q:Value->Shared->Prop} (I:Inv X pins σ H s) (hg:Gl X x) (hm:X.mg x=some u) (h:Q u s)
  (hd:(x==("__debug__":Str))=false:=by decide):wpAny (model X.prog X.w) X.A (eval (.Name x pos) X.env) Q E s:=
 Calls.Name_function_global I.ok.kind hg (Calls.loadGlobal_global (by rw [I.ok.glob];exact I.mod.glob.keeps I.bk) hm h) hd
theorem lO {E:Value->Shared->Prop} {pins:List (Addr×Obj)} {s:Shared} {σ:St} {H:Hp} {x:Str} {u:Value} {pos:Pos} {Q:Value->Shared->Prop} (I:Inv X pins σ H s) (hg:Gl X x) (hm:X.mg x=none) (hv:bootBuiltins x=some u) (h:Q u s)
  (hn:x≠"__name__":=by decide) (hd:(x==("__debug__":Str))=false:=by decide):wpAny (model X.prog X.w) X.A (eval (.Name x pos) X.env) Q E s:=by
 obtain ⟨mb,h1,h2⟩:=I.mod.blt
 exact Calls.Name_function_global I.ok.kind hg (Calls.loadGlobal_builtin (by rw [I.ok.glob];exact I.mod.glob.keeps I.bk) hm (by rw [I.ok.blt];exact h1.keeps I.bk) ((h2 x hn).trans hv) h) hd
theorem kO {x:Str} {v:V} {u:Value} {pos:Pos} (hg:Gl X x) (hm:X.mg x=some u) (r:RelV v u) (hd:(x==("__debug__":Str))=false:=by decide):PE X (.Name x pos) (tC v):=
 fun _ _ _ H _ I h=>oI I hg hm ⟨v,H,I,r,h⟩ hd
theorem a0O {x:Str} {v:V} {u:Value} {pos:Pos} (hg:Gl X x) (hm:X.mg x=none) (hv:bootBuiltins x=some u) (r:RelV v u) (hn:x≠"__name__":=by decide) (hd:(x==("__debug__":Str))=false:=by decide):PE X (.Name x pos) (tC v):=
 fun _ _ _ H _ I h=>lO I hg hm hv ⟨v,H,I,r,h⟩ hn hd
variable {a b:Expr} {ta tb:TE} {pos:Pos}
def PC (X:Cx) (op:CmpOp) (a b:Expr) (t:TE):Prop:=
 ∀ (pins:List (Addr×Obj)) (s:Shared) (σ:St) (H:Hp) (Q:VK),Inv X pins σ H s->t σ H Q->
  wpAny (model X.prog X.w) X.A (eval a X.env) (fun v s₁=>wpAny (model X.prog X.w) X.A (eval b X.env) (fun u s₂=>wpAny (model X.prog X.w) X.A (compareOp op v u) (EP X pins σ Q) X.xe s₂) X.xe s₁) X.xe s
def tB (t:TE):TT:=fun σ H Q=>t σ H fun x H1=>∃ c,x=.bl c/\Q c H1
theorem a1s {op:CmpOp} {t:TE} (h:PC X op a b t) (h1:behindInMarks op b=false:=by first | exact nobehind _ (by decide) (by decide) | rfl):PT X (.Compare a [op] [b] pos) (tB t):=by
 intro pins s σ H Q I hw
 refine wpAny_isTrue_Compare1 (thn (h pins s σ H _ I hw) fun v s1 h1=>thn h1 fun u s2 h2=>thn h2 fun c s3 ⟨x,H1,I1,r1,q1⟩=>?_) h1
 obtain ⟨d,rfl,q⟩:=q1
 cases r1
 exact wpAny_truthy_bool ⟨H1,I1,q⟩
theorem a1b {e:Expr} {t:TE} (h:PE X e t) (he:∀ whole,isTrue e X.env whole=(do let v <- whole;standAt e.pos;holding [v] (truthy v)):=by intro _;rfl):PT X e (tB t):=by
 intro pins s σ H Q I hw
 refine isTrue_plain (thn (h pins s σ H _ I hw) fun v s1 ⟨x,H1,I1,r1,q1⟩=>?_) (he _)
 obtain ⟨d,rfl,q⟩:=q1
 cases r1
 exact wpAny_truthy_bool ⟨H1,I1,q⟩
variable {tA tB':TT} {rest:List Expr}
def tAnd (t u:TT):TT:=fun σ H Q=>t σ H fun c H1=>if c=true then u σ H1 Q else Q false H1
def tOr (t u:TT):TT:=fun σ H Q=>t σ H fun c H1=>if c=true then Q true H1 else u σ H1 Q
def tNot (t:TT):TT:=fun σ H Q=>t σ H fun c H1=>Q (!c) H1
theorem zX (ha:PT X a tA):PW X (.BoolOp .And [a] pos) tA:=by
 intro wh pins s σ H Q I h
 refine isTrue_and (thn (ha pins s σ H Q I h) fun c s1 e=>?_)
 cases c with
 | true=>exact isTrue_and_nil e
 | false=>exact e
theorem a1c (ha:PT X a tA):PW X (.BoolOp .Or [a] pos) tA:=by
 intro wh pins s σ H Q I h
 refine isTrue_or (thn (ha pins s σ H Q I h) fun c s1 e=>?_)
 cases c with
 | false=>exact isTrue_or_nil e
 | true=>exact e
theorem a1Y (ha:PT X a tA) (hb:PW X (.BoolOp .And (b::rest) pos) tB'):PW X (.BoolOp .And (a::b::rest) pos) (tAnd tA tB'):=by
 intro wh pins s σ H Q I h
 refine isTrue_and (thn (ha pins s σ H _ I h) ?_)
 rintro c s1 ⟨H1,I1,q1⟩
 cases c with
 | true=>exact hb wh pins s1 σ H1 Q I1 q1
 | false=>exact ⟨H1,I1,q1⟩
theorem a2K (ha:PT X a tA) (hb:PW X (.BoolOp .Or (b::rest) pos) tB'):PW X (.BoolOp .Or (a::b::rest) pos) (tOr tA tB'):=by
 intro wh pins s σ H Q I h
 refine isTrue_or (thn (ha pins s σ H _ I h) ?_)
 rintro c s1 ⟨H1,I1,q1⟩
 cases c with
 | true=>exact ⟨H1,I1,q1⟩
 | false=>exact hb wh pins s1 σ H1 Q I1 q1
theorem a0k (ha:PT X a tA):PT X (.UnaryOp .Not a pos) (tNot tA):=by
 intro pins s σ H Q I h
 exact isTrue_not (ha pins s σ H (fun c H1=>Q (!c) H1) I h)
end
end L2
namespace L2
open PySem PySem.Spec PyProof.Rows
def SqL (K:Q0) (H:Hp) (a:Addr) (xs:List V):Prop:=
 Rd H a (.lst xs)\/
  ∃ (o:Obj) (its:Array Value) (n:Nat),K.lookup a=some o/\o.cls=.type "list"/\o.dict=none/\o.data=.seq its n/\its.size<=sizeLine/\Vals xs its.toList
def SqT (K:Q0) (H:Hp) (a:Addr) (xs:List V):Prop:=
 Rd H a (.tup xs)\/
  ∃ (o:Obj) (its:Array Value) (n:Nat),K.lookup a=some o/\o.cls=.type "tuple"/\o.data=.seq its n/\its.size<=sizeLine/\Vals xs its.toList
def absV:Value->Option V
 | .none=>some .non
 | .bool b=>some (.bl b)
 | .int i _=>some (.int i)
 | .str x _=>some (.str x)
 | .bytes b _=>some (.byt b)
 | .float b _=>some (.flt b)
 | .ref a=>some (.ref a)
 | .type n=>some (.ty n)
 | _=>none
theorem RelV.abs {x:V} {u:Value} (r:RelV x u):absV u=some x:=by
 cases x with
 | non=>cases r;rfl
 | bl _=>cases r;rfl
 | int _=>obtain ⟨t,rfl⟩:=r;rfl
 | str _=>obtain ⟨t,rfl⟩:=r;rfl
 | byt _=>obtain ⟨t,rfl⟩:=r;rfl
 | flt _=>obtain ⟨t,rfl⟩:=r;rfl
 | ref _=>cases r;rfl
 | ty _=>cases r;rfl
theorem RelV.inj {x y:V} {u:Value} (r:RelV x u) (q:RelV y u):x=y:=QD (r.abs.symm.trans q.abs)
theorem Vals.inj:∀ {xs ys:List V} {us:List Value},Vals xs us->Vals ys us->xs=ys
 | _,_,_,.nil,.nil=>rfl
 | _,_,_,.cons r t,.cons r' t'=>by rw [r.inj r',Vals.inj t t']
section
variable {X:Cx} {pins:List (Addr×Obj)} {σ:St} {H:Hp} {s:Shared} {a:Addr} {xs ys:List V}
theorem SqL.of {K:Q0} (h:H a=some (.lst xs)):SqL K H a xs:=.inl (.inl h)
theorem SqT.of {K:Q0} (h:H a=some (.tup xs)):SqT K H a xs:=.inl (.inl h)
theorem Inv.list (I:Inv X pins σ H s) (h:SqL X.K H a xs):∃ its:List Value,Vals xs its/\PlainL s.heap a its.toArray/\xs.length<=sizeLine:=by
 rcases h with h | ⟨o,its,n,hk,hc,hd,hs,hz,r⟩
 ·obtain ⟨z,its,n,r,e⟩:=h.ok I.hok
  exact ⟨its,r,⟨_,n,e,rfl,rfl,rfl⟩,z⟩
 ·refine ⟨its.toList,r,⟨o,n,I.kIn a o hk,hc,hd,by simpa using hs⟩,?_⟩
  have e:=r.length
  simp only [Array.length_toList] at e
  omega
theorem Inv.tuple (I:Inv X pins σ H s) (h:SqT X.K H a xs):∃ its:List Value,Vals xs its/\IsTup s.heap a its.toArray/\xs.length<=sizeLine:=by
 rcases h with h | ⟨o,its,n,hk,hc,hs,hz,r⟩
 ·obtain ⟨⟨z,_⟩,its,r,p⟩:=h.ok I.hok
  exact ⟨its,r,p,z⟩
 ·refine ⟨its.toList,r,⟨o,I.kIn a o hk,hc,n,by simpa using hs⟩,?_⟩
  have e:=r.length
  simp only [Array.length_toList] at e
  omega
theorem Inv.list_inj (I:Inv X pins σ H s) (h:SqL X.K H a xs) (h':SqL X.K H a ys):xs=ys:=by
 obtain ⟨its,r,⟨o,n,e,_,_,d⟩,_⟩:=I.list h
 obtain ⟨its',r',⟨o',n',e',_,_,d'⟩,_⟩:=I.list h'
 rw [e] at e';cases e'
 rw [d] at d'
 injection d' with d1 _
 have:its=its':=by simpa using congrArg Array.toList d1
 subst this
 exact r.inj r'
theorem Inv.tuple_inj (I:Inv X pins σ H s) (h:SqT X.K H a xs) (h':SqT X.K H a ys):xs=ys:=by
 obtain ⟨its,r,⟨o,e,_,n,d⟩,_⟩:=I.tuple h
 obtain ⟨its',r',⟨o',e',_,n',d'⟩,_⟩:=I.tuple h'
 rw [e] at e';cases e'
 rw [d] at d'
 injection d' with d1 _
 have:its=its':=by simpa using congrArg Array.toList d1
 subst this
 exact r.inj r'
end
abbrev Cx.wish (X:Cx) (E:Value->Shared->Prop):Cx:={X with xe:=E}
abbrev Cx.nox (X:Cx):Cx:=X.wish fun _ _=>False
theorem Cx.Ok.wish {X:Cx} (ok:X.Ok) (E:Value->Shared->Prop):(X.wish E).Ok:=
 ⟨ok.mod,ok.kind,ok.glob,ok.blt,ok.above,ok.inj,ok.has,ok.cab,ok.hd,ok.frames,ok.stk,ok.exf,ok.bs,ok.bsz,ok.noex,ok.exfs,ok.funs,ok.frf⟩
theorem Cx.Ok.unwish {X:Cx} {E:Value->Shared->Prop} (ok:(X.wish E).Ok):X.Ok:=
 ⟨ok.mod,ok.kind,ok.glob,ok.blt,ok.above,ok.inj,ok.has,ok.cab,ok.hd,ok.frames,ok.stk,ok.exf,ok.bs,ok.bsz,ok.noex,ok.exfs,ok.funs,ok.frf⟩
section
variable {X:Cx} {pins:List (Addr×Obj)} {σ:St} {H:Hp} {s:Shared} {E:Value->Shared->Prop}
theorem Inv.wish (I:Inv X pins σ H s) (E:Value->Shared->Prop):Inv (X.wish E) pins σ H s:=⟨I.ok.wish E,I.os,I.bare,I.base,I.loc,I.cell,I.free,I.freeC,I.pin,I.hok,I.len⟩
theorem Inv.unwish (I:Inv (X.wish E) pins σ H s):Inv X pins σ H s:=⟨I.ok.unwish,I.os,I.bare,I.base,I.loc,I.cell,I.free,I.freeC,I.pin,I.hok,I.len⟩
theorem SP.unwish {D:Ends} {f:Flow} {s':Shared} (h:SP (X.wish E) pins D f s'):SP X pins D f s':=by
 cases f with
 | next=>obtain ⟨σ',H',I,q⟩:=h;exact ⟨σ',H',I.unwish,q⟩
 | brk=>obtain ⟨σ',H',I,q⟩:=h;exact ⟨σ',H',I.unwish,q⟩
 | cont=>obtain ⟨σ',H',I,q⟩:=h;exact ⟨σ',H',I.unwish,q⟩
 | ret u=>obtain ⟨v,σ',H',I,r,q⟩:=h;exact ⟨v,σ',H',I.unwish,r,q⟩
theorem PSs.nox {st:List Stmt} {t:TS} (h:PSs X.nox st t):PSs X st t:=fun pins s σ H D I hw=>
 wpAny_mono (h pins s σ H D (I.wish _) hw) (fun _ _ q=>q.unwish) fun _ _ z=>False.elim z
end
section
variable {X:Cx} {st:Stmt} {rest:List Stmt} {t u:TS} {e:Expr} {te:TE} {pos:Pos}
def tNext:TS:=fun D σ H=>D.nx σ H
def tSeq (t u:TS):TS:=fun D σ H=>t {D with nx:=u D} σ H
theorem a0L:PSs X [] tNext:=fun _ _ σ H _ I h=>wpAny_execs_nil ⟨σ,H,I,h⟩
theorem yO (h1:PS X st t) (h2:PSs X rest u):PSs X (st::rest) (tSeq t u):=by
 intro pins s σ H D I h
 refine wpAny_execs_cons (thn (h1 pins s σ H {D with nx:=u D} I h) fun f s1 q=>?_)
 cases f with
 | next=>
  obtain ⟨σ',H',I',q⟩:=q
  exact h2 pins s1 σ' H' D I' q
 | ret v=>exact q
 | brk=>exact q
 | cont=>exact q
theorem a0P (h1:PS X st t):PSs X [st] t:=by
 intro pins s σ H D I h
 refine wpAny_execs_cons (thn (h1 pins s σ H D I h) fun f s1 q=>?_)
 cases f with
 | next=>exact wpAny_execs_nil q
 | ret v=>exact q
 | brk=>exact q
 | cont=>exact q
theorem Inv.quiet {pins:List (Addr×Obj)} {σ:St} {H:Hp} {s:Shared} (I:Inv X pins σ H s):interactive X.env=false:=by simp [interactive,I.ok.kind]
def tDrop (te:TE):TS:=fun D σ H=>te σ H fun _ H1=>D.nx σ H1
theorem yX (he:PE X e te) (hs:swapsWith e none pos.line X.env=pure false:=by rfl):PS X (.Expr e pos) (tDrop te):=by
 intro pins s σ H D I h
 exact wpAny_Expr_any (thn (he pins s σ H _ I h) fun v s1 ⟨x,H1,I1,r1,q1⟩=>⟨σ,H1,I1,q1⟩) I.quiet hs
def tRet (te:TE):TS:=fun D σ H=>te σ H D.rt
theorem a0x (he:PE X e te):PS X (.Return (some e) pos) (tRet te):=by
 intro pins s σ H D I h
 exact wpAny_Return_some (thn (he pins s σ H _ I h) fun v s1 ⟨x,H1,I1,r1,q1⟩=>⟨x,σ,H1,I1,r1,q1⟩)
def tIfS (c:TT) (t u:TS):TS:=fun D σ H=>c σ H fun b H1=>if b=true then t D σ H1 else u D σ H1
theorem a22 {c:Expr} {a b:List Stmt} {tc:TT} (hc:PT X c tc) (ha:PSs X a t) (hb:PSs X b u):PS X (.If c a b pos) (tIfS tc t u):=by
 intro pins s σ H D I h
 refine wpAny_If (thn (hc pins s σ H _ I h) ?_)
 rintro d s1 ⟨H1,I1,q1⟩
 cases d with
 | true=>exact ha pins s1 σ H1 D I1 q1
 | false=>exact hb pins s1 σ H1 D I1 q1
end
abbrev TG:=V->St->Hp->(St->Hp->Prop)->Prop
abbrev TGs:=List V->St->Hp->(St->Hp->Prop)->Prop
def PG (X:Cx) (target:Expr) (t:TG):Prop:=
 ∀ (pins:List (Addr×Obj)) (s:Shared) (σ:St) (H:Hp) (v:V) (u:Value) (Q:St->Hp->Prop),Inv X pins σ H s->RelV v u->t v σ H Q->
  wpAny (model X.prog X.w) X.A (assign target X.env u) (fun _ s'=>∃ σ' H',Inv X pins σ' H' s'/\Q σ' H') X.xe s
def PGs (X:Cx) (ts:List Expr) (t:TGs):Prop:=
 ∀ (pins:List (Addr×Obj)) (s:Shared) (σ:St) (H:Hp) (vs:List V) (us:List Value) (Q:St->Hp->Prop),Inv X pins σ H s->Vals vs us->t vs σ H Q->
  wpAny (model X.prog X.w) X.A (assignInOrder ((assignEach ts X.env).map (·.2)) us) (fun _ s'=>∃ σ' H',Inv X pins σ' H' s'/\Q σ' H') X.xe s
abbrev TSet:=V->V->V->Hp->(Hp->Prop)->Prop
def PSet (X:Cx) (t:TSet):Prop:=
 ∀ (pins:List (Addr×Obj)) (s:Shared) (σ:St) (H:Hp) (o i v:V) (ov iv u:Value) (Q:Hp->Prop),Inv X pins σ H s->RelV o ov->RelV i iv->RelV v u->t o i v H Q->
  wpAny (model X.prog X.w) X.A (setItem ov iv u) (fun _ s'=>∃ H',Inv X pins σ H' s'/\Q H') X.xe s
abbrev TIp:=V->V->Hp->VK->Prop
def PIp (X:Cx) (op:Operator) (t:TIp):Prop:=
 ∀ (pins:List (Addr×Obj)) (s:Shared) (σ:St) (H:Hp) (x y:V) (v u:Value) (Q:VK),Inv X pins σ H s->RelV x v->RelV y u->t x y H Q->
  wpAny (model X.prog X.w) X.A (inplaceOp op v u) (EP X pins σ Q) X.xe s
section
variable {X:Cx} {pos:Pos}
def gName (i:Nat):TG:=fun v σ H Q=>Q (σ.set i (some v)) H
theorem a0C {i:Nat} {x:Str} (hN:X.N.Nodup) (hi:X.N[i]? =some x) (hx:Loc X.env.scope x) (hf:X.fn x=true\/X.env.scope.names.lookup x=some .local:=by first | exact .inl rfl | exact .inr rfl | assumption):PG X (.Name x pos) (gName i):=by
 intro pins s σ H v u Q I r h
 exact wpAny_assign_Name (gH I hN hi hx r (fun s' I'=>⟨_,H,I',h⟩) hf)
def gNil:TGs:=fun vs σ H Q=>vs=[]/\Q σ H
def gCons (t:TG) (u:TGs):TGs:=fun vs σ H Q=>∃ v r,vs=v::r/\t v σ H fun σ' H'=>u r σ' H' Q
theorem a0G:PGs X [] gNil:=by
 intro pins s σ H vs us Q I r h
 obtain ⟨e,h⟩:=h
 subst e
 cases r
 exact assignInOrder_nil ⟨σ,H,I,h⟩
theorem wU {e:Expr} {es:List Expr} {t:TG} {u:TGs} (h1:PG X e t) (h2:PGs X es u)
  (hs:(assignEach (e::es) X.env).map (·.2)=assign e X.env::(assignEach es X.env).map (·.2):=by rfl):PGs X (e::es) (gCons t u):=by
 intro pins s σ H vs us Q I r h
 obtain ⟨v,vr,e1,h⟩:=h
 subst e1
 cases r with
 | cons r rr=>
  rw [hs]
  refine assignInOrder_cons (thn (h1 pins s σ H _ _ _ I r h) ?_)
  rintro _ s1 ⟨σ1,H1,I1,q1⟩
  exact h2 pins s1 σ1 H1 _ _ Q I1 rr q1
def gTup (K:Q0) (n:Nat) (t:TGs):TG:=fun v σ H Q=>∃ a xs,v=.ref a/\SqT K H a xs/\xs.length=n/\t xs σ H Q
theorem a0l {es:List Expr} {k:Nat} {t:TGs} {n:Nat} (hc:X.calm=true) (h:PGs X es t)
  (hn:(assignEach es X.env).length=n:=by rfl) (hst:(assignEach es X.env).findIdx? (·.1)=none:=by rfl):PG X (.Tuple es k pos) (gTup X.K n t):=by
 intro pins s σ H v u Q I r hw
 obtain ⟨a,xs,e1,hq,hl,hw⟩:=hw
 subst e1
 cases r
 obtain ⟨its,rv,ht,hz⟩:=I.tuple hq
 refine assign_Tuple_tuple (I.ok.hd hc) ht (by simp [hn,<- hl,rv.length]) hst fun h' hx=>?_
 have I1:Inv X pins σ H {s with heap:=h'}:=I.kept (t':=s.toks) fun b o e=>hx b o (Nat.ne_of_lt (Qz e)) e
 exact h pins _ σ H xs _ Q I1 (by simpa using rv) hw
def gSub (to ti:TE) (t:TSet):TG:=fun v σ H Q=>to σ H fun o H1=>ti σ H1 fun i H2=>t o i v H2 fun H3=>Q σ H3
theorem a1y {o i:Expr} {to ti:TE} {t:TSet} (ho:PE X o to) (hi:PE X i ti) (hs:PSet X t)
  (ha:∀ v,assign (.Subscript o i pos) X.env v=(do
   let ov <- holding [v] (eval o X.env)
   let iv <- holding [v,ov] (eval i X.env)
   standAt pos
   holding [v,ov,iv] (setItem ov iv v)
   release [v,ov,iv] []):=by intro _;rfl):PG X (.Subscript o i pos) (gSub to ti t):=by
 intro pins s σ H v u Q I r h
 rw [ha]
 refine QT (wpAny_holding (thn (ho pins s σ H _ I h) ?_))
 rintro ov s1 ⟨x,H1,I1,r1,q1⟩
 refine QT (wpAny_holding (thn (hi pins s1 σ H1 _ I1 q1) ?_))
 rintro iv s2 ⟨y,H2,I2,r2,q2⟩
 refine QT (wpAny_standAt (QT (wpAny_holding (thn (hs pins s2 σ H2 x y v ov iv u _ I2 r1 r2 r q2) ?_))))
 rintro _ s3 ⟨H3,I3,q3⟩
 exact wpAny_release ⟨σ,H3,I3,q3⟩
def tAsg (te:TE) (g:TG):TS:=fun D σ H=>te σ H fun x H1=>g x σ H1 D.nx
theorem a19 {tg e:Expr} {te:TE} {g:TG} (he:PE X e te) (hg:PG X tg g) (hs:swapsWithSole [tg] e pos.line X.env=pure false:=by rfl) (hw:swappedStores [tg] e X.env=pure none:=by rfl)
  (h1:(assignEach [tg] X.env).map (·.2)=[assign tg X.env]:=by rfl):PS X (.Assign [tg] e pos) (tAsg te g):=by
 intro pins s σ H D I h
 refine wpAny_Assign_stores (thn (he pins s σ H _ I h) fun v s1 ⟨x,H1,I1,r1,q1⟩=>?_) hs hw
 rw [h1]
 exact thn (hg pins s1 σ H1 x v _ I1 r1 q1) fun _ s2 q=>q
theorem a0s {i:Nat} {x:Str} {e:Expr} {te:TE} {pos':Pos} (hN:X.N.Nodup) (hi:X.N[i]? =some x) (hx:Loc X.env.scope x) (he:PE X e te) (hs:swapsWith e (some (.Name x pos')) pos.line X.env=pure false:=by rfl) (hf:X.fn x=true\/X.env.scope.names.lookup x=some .local:=by first | exact .inl rfl | exact .inr rfl | assumption):
  PS X (.Assign [.Name x pos'] e pos) (tAsg te (gName i)):=by
 intro pins s σ H D I h
 refine wpAny_Assign_Name (thn (he pins s σ H _ I h) fun v s1 ⟨y,H1,I1,r1,q1⟩=>?_) hs
 exact gH I1 hN hi hx r1 (fun s2 I2=>⟨_,H1,I2,q1⟩) hf
def tPar (i j:Nat) (ta:TA):TS:=fun D σ H=>ta σ H fun vs H1=>∃ v w,vs=[v,w]/\D.nx ((σ.set i (some v)).set j (some w)) H1
theorem a1P {i j:Nat} {x y:Str} {a b:Expr} {ta:TA} {px py pt:Pos} {kt k2 pt2} (hc:X.calm=true) (hN:X.N.Nodup) (hi:X.N[i]? =some x) (hj:X.N[j]? =some y) (hij:i≠j)
  (hx:X.env.scope.names.lookup x=some .local) (hy:X.env.scope.names.lookup y=some .local) (ha:PA X [a,b] ta)
  (hw:swappedStores [.Tuple [.Name x px,.Name y py] kt pt] (.Tuple [a,b] k2 pt2) X.env=pure (some [x,y]))
  (hs:swapsWithSole [.Tuple [.Name x px,.Name y py] kt pt] (.Tuple [a,b] k2 pt2) pos.line X.env=pure false:=by rfl):
  PS X (.Assign [.Tuple [.Name x px,.Name y py] kt pt] (.Tuple [a,b] k2 pt2) pos) (tPar i j ta):=by
 intro pins s σ H D I h
 rw [exec_Assign_arm]
 refine QT (wpAny_standAt ?_)
 rw [hs]
 refine QT (QU ?_)
 rw [if_neg (by decide)]
 refine QT (Tuple_ (thn (ha _ pins s σ H _ I h) ?_))
 rintro us s1 ⟨vs,H1,I1,r1,q1⟩
 obtain ⟨v,w,e1,q1⟩:=q1
 subst e1
 obtain ⟨u1,u2,rfl,rv,rw'⟩:∃ u1 u2,us=[u1,u2]/\RelV v u1/\RelV w u2:=by
  cases r1 with
  | cons p q=>
   cases q with
   | cons p' q'=>
    cases q'
    exact ⟨_,_,rfl,p,p'⟩
 refine wpAny_newObj_type ?_ (by show 2<=sizeLine;decide)
 have I2:Inv X pins σ H1 {s1 with heap:=s1.heap.push {cls:=.type "tuple",data:=.seq [u1,u2].toArray}}:=I1.kept (t':=s1.toks) fun b o e=>Qc _ e
 rw [hw]
 refine QT (QU ?_)
 show wpAny (model X.prog X.w) X.A (do rule "assign.swapped-stores";let items <- unpackItems (.ref s1.heap.objs.size) 2 none;assignInOrder [fun v=>bindName X.env y v,fun v=>bindName X.env x v] items.reverse;pure Flow.next) _ _ _
 refine QT (wpAny_rule (QT (unpackItems_tuple (items:=#[u1,u2]) (I.ok.hd hc) (IsTup.new s1.heap _) fun h' hx'=>?_)))
 have I3:=I2.kept (h':=h') (t':=s1.toks) fun b o e=>hx' b o (Nat.ne_of_lt (Qz e)) e
 show wpAny _ _ (assignInOrder [fun v=>bindName X.env y v,fun v=>bindName X.env x v] [u2,u1] >>=fun _=>pure Flow.next) _ _ _
 refine QT (assignInOrder_cons (wpAny_bindName (gH I3 hN hj (.inl hy) rw' (fun s2 I4=>?_) (.inr hy))))
 refine assignInOrder_cons (wpAny_bindName (gH I4 hN hi (.inl hx) rv (fun s3 I5=>assignInOrder_nil (QU ?_)) (.inr hx)))
 rw [List.set_comm _ _ (Ne.symm hij)] at I5
 exact ⟨_,H1,I5,q1⟩
def tAug (i:Nat) (te:TE) (ti:TIp):TS:=fun D σ H=>∃ x,σ[i]? =some (some x)/\te σ H fun y H1=>ti x y H1 fun z H2=>D.nx (σ.set i (some z)) H2
theorem a0w {i:Nat} {x:Str} {e:Expr} {te:TE} {op:Operator} {ti:TIp} {pos':Pos} (hN:X.N.Nodup) (hi:X.N[i]? =some x) (hx:Loc X.env.scope x) (he:PE X e te) (ho:PIp X op ti) (hf:X.fn x=true\/X.env.scope.names.lookup x=some .local:=by first | exact .inl rfl | exact .inr rfl | assumption):
  PS X (.AugAssign (.Name x pos') op e pos) (tAug i te ti):=by
 intro pins s σ H D I h
 obtain ⟨v,e1,h⟩:=h
 obtain ⟨m,hn,hl⟩:=I.loc
 have vis:Vis X.env.scope x:=by rcases hx with k | k;exact .inl k;exact .inr (.inl k)
 obtain ⟨u,r,l⟩:=hl i x v hi e1 vis
 refine wpAny_AugAssign_Name ?_
 have go:wpAny (model X.prog X.w) X.A (eval e X.env) (fun w s₂=>wpAny (model X.prog X.w) X.A (inplaceOp op u w) (fun r s₃=>wpAny (model X.prog X.w) X.A (storeName X.env x r) (fun _=>SP X pins D .next) X.xe s₃) X.xe s₂) X.xe s:=by
  refine thn (he pins s σ H _ I h) ?_
  rintro w s1 ⟨y,H1,I1,r1,q1⟩
  refine thn (ho pins s1 σ H1 v y u w _ I1 r r1 q1) ?_
  rintro z s2 ⟨zv,H2,I2,r2,q2⟩
  exact gH I2 hN hi hx r2 (fun s3 I3=>⟨_,H2,I3,q2⟩) hf
 rcases l with ⟨hk,hm⟩ | ⟨hk,c,hc,hcell⟩
 ·exact wpAny_loadName_local I.ok.kind hk hn hm go
 ·rcases hk with hk | hk
  ·exact wpAny_loadName_cell I.ok.kind hk hc hcell go
  ·rcases hx with k | k
   ·have:X.env.scope.names.lookup x=some .free:=hk
    rw [k] at this;cases this
   ·have:X.env.scope.names.lookup x=some .free:=hk
    rw [k] at this;cases this
def ipI (f:Int->Int->Int):TIp:=fun x y H Q=>∃ i j,x=.int i/\y=.int j/\Q (.int (f i j)) H
theorem yG:PIp X .Add (ipI fun i j=>i+j):=by
 intro pins s σ H x y v u Q I r1 r2 h
 obtain ⟨i,j,e1,e2,q⟩:=h
 subst e1;subst e2
 obtain ⟨t,rfl⟩:=r1
 obtain ⟨t',rfl⟩:=r2
 exact iadd_int ⟨.int _,H,I.tok _,⟨_,rfl⟩,q⟩
end
section
variable {X:Cx} {pos:Pos}
def tWhile (c:TT) (tb:TS):TS:=fun D σ H=>∃ W:Nat->St->Hp->Prop,(∃ m,W m σ H)/\∀ m σ H,W m σ H->
 c σ H fun b H1=>if b=true then ∃ N:St->Hp->Prop,(∀ σ' H',N σ' H'->∃ m',m' < m/\W m' σ' H')/\tb {D with nx:=N,ct:=N,bk:=D.nx} σ H1 else D.nx σ H1
theorem xH {c:Expr} {body:List Stmt} {tc:TT} {tb:TS} (hp:PassesOwn (model X.prog X.w) X.A X.env X.xe) (hc:PT X c tc) (hb:PSs X body tb):PS X (.While c body [] pos) (tWhile tc tb):=by
 intro pins s σ H D I h
 obtain ⟨W,⟨m0,w0⟩,turn⟩:=h
 refine wpAny_While (codeAny_whileLoop (fun n s'=>∃ σ' H',Inv X pins σ' H' s'/\W n σ' H') ?_ m0 ⟨σ,H,I,w0⟩)
 rintro n s1 ⟨σ1,H1,I1,w1⟩
 refine wpAny_passesOwn hp (thn (hc pins s1 σ1 H1 _ I1 (turn n σ1 H1 w1)) ?_)
 rintro b s2 ⟨H2,I2,q2⟩
 cases b with
 | true=>
  obtain ⟨N,hN,q2⟩:=q2
  rw [if_pos rfl]
  refine wpAny_passesOwn hp (thn (hb pins s2 σ1 H2 _ I2 q2) fun f s3 q3=>?_)
  cases f with
  | next=>
   obtain ⟨σ3,H3,I3,n3⟩:=q3
   obtain ⟨m',hm,w3⟩:=hN σ3 H3 n3
   exact ⟨m',hm,σ3,H3,I3,w3⟩
  | cont=>
   obtain ⟨σ3,H3,I3,n3⟩:=q3
   obtain ⟨m',hm,w3⟩:=hN σ3 H3 n3
   exact ⟨m',hm,σ3,H3,I3,w3⟩
  | brk=>exact q3
  | ret v=>exact q3
 | false=>
  rw [if_neg Bool.false_ne_true]
  exact wpAny_execs_nil ⟨σ1,H2,I2,q2⟩
end
structure It where
 go:Nat->Hp->Prop
 yld:Nat->Hp->V->Hp->Prop
 stop:Nat->Hp->Prop
def FpOk (X:Cx) (pins:List (Addr×Obj)) (H:Hp) (b:Addr):Prop:=
 H b=none/\b≠X.env.locals/\b ∉ X.fs/\(b∈X.ex\/X.s₀.heap.objs.size<=b)/\(∀ x c,X.env.cells.lookup x=some c->c≠b)/\∀ p∈X.pn++pins,p.1≠b
theorem Inv.fpOk {X:Cx} {pins:List (Addr×Obj)} {σ:St} {H H':Hp} {s:Shared} {b:Addr} (I:Inv X pins σ H s) (hb:s.heap.objs.size<=b) (hn:H' b=none):FpOk X pins H' b:=by
 refine ⟨hn,Nat.ne_of_gt (Nat.lt_of_lt_of_le I.lt hb),I.nofs hb,.inr (Nat.le_trans I.sz hb),fun x c e z=>?_,fun p hp z=>?_⟩
 ·obtain ⟨v,q⟩:=I.cell x c e
  exact absurd (Nat.lt_of_lt_of_le q.lt (by rw [z];exact hb)) (Nat.lt_irrefl _)
 ·exact absurd (Nat.lt_of_lt_of_le (Qz (I.pin p hp).1) (by rw [z];exact hb)) (Nat.lt_irrefl _)
structure Turn (P:Program) (w:World) (K:Q0) (tg:Expr) (J:It) (fp:List Addr) (it:Addr) (tn:Nat->Heap->Prop):Prop where
 mem:it∈fp
 obj:∀ i h,tn i h->∀ b∈fp,∃ o,h.get? b=some o/\∀ v,o.data≠.cell v
 keep:∀ i h h',tn i h->(∀ b∈fp,∀ o,h.get? b=some o->h'.get? b=some o)->tn i h'
 item:∀ (X:Cx),X.prog=P->X.w=w->X.K=K->X.calm=true->∀ (i:Nat) (pins:List (Addr×Obj)) (s:Shared) (σ:St) (H:Hp) (E:Value->Shared->Prop),Inv X pins σ H s->(∀ b∈fp,FpOk X pins H b)->tn i s.heap->J.go i H->
  wpAny (model P w) X.A (pyNext (.ref it)) (fun r s1=>∃ u,r=some u/\
   wpAny (model P w) X.A (letOwnedTupleGo tg (.ref it) u) (fun _ s2=>∃ x H',Inv X pins σ H' s2/\RelV x u/\J.yld i H x H'/\tn (i+1) s2.heap/\∀ b∈fp,H' b=none) E s1) E s
 done:∀ (X:Cx),X.prog=P->X.w=w->X.K=K->X.calm=true->∀ (i:Nat) (pins:List (Addr×Obj)) (s:Shared) (σ:St) (H:Hp) (E:Value->Shared->Prop),Inv X pins σ H s->(∀ b∈fp,FpOk X pins H b)->tn i s.heap->J.stop i H->
  wpAny (model P w) X.A (pyNext (.ref it)) (fun r s1=>r=none/\Inv X pins σ H s1) E s
 self:∀ (A:Around) (i:Nat) (s:Shared) (Q:Value->Shared->Prop) (E:Value->Shared->Prop),tn i s.heap->Q (.ref it) s->wpAny (model P w) A (pyIter (.ref it)) Q E s
abbrev TI:=St->Hp->(It->Hp->Prop)->Prop
def PIE (X:Cx) (pins:List (Addr×Obj)) (σ:St) (tg:Expr) (R:It->Hp->Prop) (itv:Value) (s2:Shared):Prop:=
 ∃ (it:Addr) (fp:List Addr) (tn:Nat->Heap->Prop) (J:It) (H':Hp),itv=.ref it/\Inv X pins σ H' s2/\Turn X.prog X.w X.K tg J fp it tn/\tn 0 s2.heap/\(∀ b∈fp,FpOk X pins H' b)/\R J H'
def PI (X:Cx) (tg iter:Expr) (wi:TI):Prop:=
 ∀ (pins:List (Addr×Obj)) (s:Shared) (σ:St) (H:Hp) (R:It->Hp->Prop),Inv X pins σ H s->wi σ H R->
  wpAny (model X.prog X.w) X.A (eval iter X.env) (fun v s1=>wpAny (model X.prog X.w) X.A (pyIter v) (PIE X pins σ tg R) X.xe s1) X.xe s
theorem mJ {M : Model} {A : Around} {E : Value -> Shared -> Prop} {s : Shared} {tg : Expr} {it : Addr} {u : Value} {o : Obj} {n : String} {vs : Array Value} {Q : Unit -> Shared -> Prop} (ho : s.heap.get? it = some o) (hc : o.cls = .type n) (hd : o.data = .fields vs)
    (hn : ["enumerate", "zip", "dict_itemiterator", "dict_reverseitemiterator", "odict_iterator", "itertools.zip_longest", "itertools.pairwise"].contains n = false) (hQ : Q () s) : wpAny M A (letOwnedTupleGo tg (.ref it) u) Q E s := by
  unfold letOwnedTupleGo
  cases tg <;> first
    | exact QU hQ
    | (cases u <;> first
        | exact QU hQ
        | (refine QT (wpAny_load ho ?_)
           rw [hc, hd]
           show wpAny M A (if (["enumerate", "zip", "dict_itemiterator", "dict_reverseitemiterator", "odict_iterator", "itertools.zip_longest", "itertools.pairwise"].contains n && vs[0]? == some (rawInt _)) = true then _ else _) Q E s
           rw [if_neg (by intro h; rw [hn, Bool.false_and] at h; cases h)]
           exact QU hQ))
def Itl (K:Q0) (a:Addr):It:=
 ⟨fun i H=>∃ xs x,SqL K H a xs/\xs[i]? =some x,fun i H x H'=>H'=H/\∀ xs,SqL K H a xs->xs[i]? =some x,fun i H=>∃ xs,SqL K H a xs/\xs.length<=i⟩
def Itt (K:Q0) (a:Addr):It:=
 ⟨fun i H=>∃ xs x,SqT K H a xs/\xs[i]? =some x,fun i H x H'=>H'=H/\∀ xs,SqT K H a xs->xs[i]? =some x,fun i H=>∃ xs,SqT K H a xs/\xs.length<=i⟩
def Itr (lo:Int) (n:Nat):It:=⟨fun i _=>i < n,fun i H x H'=>H'=H/\x=.int (lo+i),fun i _=>n<=i⟩
theorem uO {P:Program} {w:World} {K:Q0} {tg:Expr} (a it:Addr):Turn P w K tg (Itl K a) [it] it (fun i h=>h.IsListIter it a i) where
 mem:=by simp
 obj:=fun i h st b hb=>by
  have e:b=it:=by simpa using hb
  subst e
  obtain ⟨o,e,c,d⟩:=st
  exact ⟨o,e,fun v z=>by rw [d] at z;cases z⟩
 keep:=fun i h h' st k=>st.at fun o e=>k it (by simp) o e
 item:=by
  intro X hP hw hK hc i pins s σ H E I hf st hg
  subst hP hw hK
  obtain ⟨xs,x,hq,hx⟩:=hg
  obtain ⟨its,rv,p,hz⟩:=I.list hq
  obtain ⟨u,hu,ru⟩:=rv.get hx
  obtain ⟨f0,f1,f2,f3,f4,f5⟩:=hf it (by simp)
  refine wpAny_pyNext_list_item st p.isList (x:=u) (by simpa using hu) fun h' st' sb=>?_
  have I1:Inv X pins σ H {s with heap:=h'}:=I.turned (t':=s.toks) (fun b o hb e=>(sb.2 b hb).trans e) f0 f1 f3 f4 f5
  obtain ⟨o,e,c,d⟩:=id st'
  exact ⟨u,rfl,mJ (s:={s with heap:=h'}) e c d (by decide) ⟨x,H,I1,ru,⟨rfl,fun ys hy=>by rw [I.list_inj hy hq];exact hx⟩,st',fun b hb=>(hf b hb).1⟩⟩
 done:=by
  intro X hP hw hK hc i pins s σ H E I hf st hg
  subst hP hw hK
  obtain ⟨xs,hq,hx⟩:=hg
  obtain ⟨its,rv,p,hz⟩:=I.list hq
  obtain ⟨f0,f1,f2,f3,f4,f5⟩:=hf it (by simp)
  have hl:=rv.length
  exact wpAny_pyNext_list_end (I.ok.hd hc) st p.isList (by simp;omega) fun h' eb=>⟨rfl,I.turned (t':=s.toks) (fun b o hb e=>eb b o hb e) f0 f1 f3 f4 f5⟩
 self:=fun _ _ _ _ _ st h=>wpAny_pyIter_listiter st h
theorem rP {P:Program} {w:World} {K:Q0} {tg:Expr} (a it:Addr):Turn P w K tg (Itt K a) [it] it (fun i h=>h.IsTupleIter it a i) where
 mem:=by simp
 obj:=fun i h st b hb=>by
  have e:b=it:=by simpa using hb
  subst e
  obtain ⟨o,e,c,d⟩:=st
  exact ⟨o,e,fun v z=>by rw [d] at z;cases z⟩
 keep:=fun i h h' st k=>st.at fun o e=>k it (by simp) o e
 item:=by
  intro X hP hw hK hc i pins s σ H E I hf st hg
  subst hP hw hK
  obtain ⟨xs,x,hq,hx⟩:=hg
  obtain ⟨its,rv,p,hz⟩:=I.tuple hq
  obtain ⟨u,hu,ru⟩:=rv.get hx
  obtain ⟨f0,f1,f2,f3,f4,f5⟩:=hf it (by simp)
  refine wpAny_pyNext_tuple_item st (show s.heap.IsTuple a its.toArray from p) (x:=u) (by simpa using hu) fun h' st' sb=>?_
  have I1:Inv X pins σ H {s with heap:=h'}:=I.turned (t':=s.toks) (fun b o hb e=>(sb.2 b hb).trans e) f0 f1 f3 f4 f5
  obtain ⟨o,e,c,d⟩:=id st'
  exact ⟨u,rfl,mJ (s:={s with heap:=h'}) e c d (by decide) ⟨x,H,I1,ru,⟨rfl,fun ys hy=>by rw [I.tuple_inj hy hq];exact hx⟩,st',fun b hb=>(hf b hb).1⟩⟩
 done:=by
  intro X hP hw hK hc i pins s σ H E I hf st hg
  subst hP hw hK
  obtain ⟨xs,hq,hx⟩:=hg
  obtain ⟨its,rv,p,hz⟩:=I.tuple hq
  obtain ⟨f0,f1,f2,f3,f4,f5⟩:=hf it (by simp)
  have hl:=rv.length
  exact wpAny_pyNext_tuple_end (I.ok.hd hc) st (show s.heap.IsTuple a its.toArray from p) (by simp;omega) fun h' eb=>⟨rfl,I.turned (t':=s.toks) (fun b o hb e=>eb b o hb e) f0 f1 f3 f4 f5⟩
 self:=fun _ _ _ _ _ st h=>wpAny_pyIter_tupleiter st h
theorem sM {P:Program} {w:World} {K:Q0} {tg:Expr} (it:Addr) (lo:Int) (n:Nat):Turn P w K tg (Itr lo n) [it] it (fun i h=>IsRangeIter h it (lo+(i:Nat)*1) ((n:Int) - (i:Nat)) 1) where
 mem:=by simp
 obj:=fun i h st b hb=>by
  have e:b=it:=by simpa using hb
  subst e
  exact ⟨_,st,fun v z=>by
   have z':Data.fields _=Data.cell v:=z
   cases z'⟩
 keep:=fun i h h' st k=>k it (by simp) _ st
 item:=by
  intro X hP hw hK hc i pins s σ H E I hf st hg
  subst hP hw hK
  obtain ⟨f0,f1,f2,f3,f4,f5⟩:=hf it (by simp)
  have W:=Walks.range (prog:=X.prog) (w:=X.w) (I.ok.hd hc) it lo 1 n
  refine W.item i s _ _ hg st fun v h' tk hv st' kk=>?_
  obtain ⟨t,rfl⟩:=hv
  have I1:Inv X pins σ H {s with heap:=h',toks:=tk}:=I.turned (fun b o hb e=>kk b o (by simpa using hb) e) f0 f1 f3 f4 f5
  refine ⟨_,rfl,mJ (s:={s with heap:=h',toks:=tk}) (n:="range_iterator") st' rfl rfl (by decide) ⟨.int (lo+i),H,I1,⟨t,?_⟩,⟨rfl,rfl⟩,st',fun b hb=>(hf b hb).1⟩⟩
  rw [Int.mul_one]
 done:=by
  intro X hP hw hK hc i pins s σ H E I hf st hg
  subst hP hw hK
  obtain ⟨f0,f1,f2,f3,f4,f5⟩:=hf it (by simp)
  exact wpAny_pyNext_range_end (I.ok.hd hc) st (by have:n<=i:=hg;omega) fun h' eb=>⟨rfl,I.turned (t':=s.toks) (fun b o hb e=>eb b o hb e) f0 f1 f3 f4 f5⟩
 self:=fun _ _ _ _ _ st h=>wpAny_pyIter_rangeiter st h
end L2
namespace L2
open PySem PySem.Spec PyProof.Rows
section
variable {X:Cx} {tg:Expr}
theorem wO {pins:List (Addr×Obj)} {σ:St} {H:Hp} {s:Shared} {R:It->Hp->Prop} {E:Value->Shared->Prop} {lo hi:Int} {t u v:Tok} {tk:Nat} (I:Inv X pins σ H s) (h1: -(2^62)<=lo) (h2:lo < 2^62) (h3: -(2^62)<=hi) (h4:hi < 2^62)
  (q:R (Itr lo (hi - lo).toNat) H):wpAny (model X.prog X.w) X.A (pyIter (.ref s.heap.objs.size)) (PIE X pins σ tg R) E {s with heap:=s.heap.push {cls:=.type "range",data:=.fields #[.int lo t,.int hi u,.int 1 v]},toks:=tk}:=by
 refine wpAny_pyIter_range (IsRange.new ..) (small_one h1 h2 h3 h4) ?_
 have I1:Inv X pins σ H {s with heap:=s.heap.push {cls:=.type "range",data:=.fields #[.int lo t,.int hi u,.int 1 v]},toks:=tk}:=I.kept fun b o e=>Qc _ e
 refine ⟨(s.heap.push {cls:=.type "range",data:=.fields #[.int lo t,.int hi u,.int 1 v]}).objs.size,[(s.heap.push {cls:=.type "range",data:=.fields #[.int lo t,.int hi u,.int 1 v]}).objs.size],_,_,H,rfl,
  I1.kept (t':=tk) fun b o e=>Qc _ e,sM _ lo (hi - lo).toNat,?_,fun b hb=>?_,q⟩
 ·have e1:lo+((0:Nat):Int)*1=lo:=by simp
  have e2:(((hi - lo).toNat:Nat):Int) - ((0:Nat):Int)=Builtin.Range.rangeSize lo hi 1:=by rw [rangeSize_one];split<;>omega
  show IsRangeIter _ _ (lo+((0:Nat):Int)*1) ((((hi - lo).toNat:Nat):Int) - ((0:Nat):Int)) 1
  rw [e1,e2]
  exact Qd _ rfl
 ·have e:b=(s.heap.push {cls:=.type "range",data:=.fields #[.int lo t,.int hi u,.int 1 v]}).objs.size:=by simpa using hb
  subst e
  exact I1.fpOk (Qy _) (I1.hok.fresh (Qy _))
def iRng1 (ta:TA):TI:=fun σ H R=>ta σ H fun vs H1=>∃ j:Int,vs=[.int j]/\ -(2^62)<=j/\j < 2^62/\R (Itr 0 j.toNat) H1
theorem vX {a:Expr} {ta:TA} {p pos:Pos} (hg:Gl X "range") (hm:X.mg "range"=none) (ha:PA X [a] ta) (hs:starEach [a] X.env=[(false,eval a X.env)]:=by rfl):PI X tg (.Call (.Name "range" p) [a] [] pos) (iRng1 ta):=by
 intro pins s σ H R I h
 refine Call_ (lO I hg hm boot_range (PyProof.Rows.callWith_type1 (thn (ha pos pins s σ H _ I h) fun us s1 ⟨vs,H1,I1,r1,q1⟩=>?_) hs rfl))
 obtain ⟨j,e,q1,q2,q⟩:=q1
 subst e
 cases r1 with
 | cons r rr=>
  cases rr
  obtain ⟨t,rfl⟩:=r
  exact call_range_1 (wO I1 (by omega) (by omega) q1 q2 (by simpa using q))
def tFor (wi:TI) (g:TG) (tb:TS):TS:=fun D σ H=>wi σ H fun J H1=>∃ W:Nat->Nat->St->Hp->Prop,(∃ m,W 0 m σ H1)/\∀ i m σ H,W i m σ H->
 (J.stop i H/\D.nx σ H)\/(J.go i H/\∃ N:St->Hp->Prop,(∀ σ' H',N σ' H'->∃ m',m' < m/\W (i+1) m' σ' H')/\∀ x H',J.yld i H x H'->g x σ H' fun σ2 H2=>tb {D with nx:=N,ct:=N,bk:=D.nx} σ2 H2)
def pinsAt (fp:List Addr) (h:Heap):List (Addr×Obj):=fp.filterMap fun b=>(h.get? b).map fun o=>(b,o)
theorem cL {fp:List Addr} {h:Heap} {b:Addr} {o:Obj} (hb:b∈fp) (e:h.get? b=some o):(b,o)∈pinsAt fp h:=List.mem_filterMap.mpr ⟨b,hb,by rw [e];rfl⟩
theorem uK {fp:List Addr} {h:Heap} {p:Addr×Obj} (hp:p∈pinsAt fp h):p.1∈fp/\h.get? p.1=some p.2:=by
 obtain ⟨b,hb,e⟩:=List.mem_filterMap.mp hp
 cases q:h.get? b with
 | none=>rw [q] at e;cases e
 | some o=>
  rw [q] at e
  have e':(b,o)=p:=QD e
  subst e'
  exact ⟨hb,q⟩
theorem Inv.pinned {pins:List (Addr×Obj)} {σ:St} {H:Hp} {s:Shared} {fp:List Addr} (I:Inv X pins σ H s) (hf:∀ b∈fp,FpOk X pins H b) (ho:∀ b∈fp,∃ o,s.heap.get? b=some o/\∀ v,o.data≠.cell v):Inv X (pins++pinsAt fp s.heap) σ H s:=
 I.pins_of fun p hp=>(List.mem_append.mp hp).elim (fun z=>I.pin p (List.mem_append_right _ z)) fun z=>by
  obtain ⟨hb,e⟩:=uK z
  obtain ⟨f0,f1,f2,_⟩:=hf p.1 hb
  obtain ⟨o,e',d⟩:=ho p.1 hb
  rw [e] at e';cases e'
  exact ⟨e,f0,f1,f2,d⟩
theorem Inv.unpinned {pins pl:List (Addr×Obj)} {σ:St} {H:Hp} {s:Shared} (I:Inv X (pins++pl) σ H s):Inv X pins σ H s:=I.pins_of fun p hp=>I.pin p (List.mem_append_right _ (List.mem_append_left _ hp))
theorem a1h {iter:Expr} {body:List Stmt} {wi:TI} {g:TG} {tb:TS} {pos:Pos} (hp:PassesOwn (model X.prog X.w) X.A X.env X.xe) (hc:X.calm=true) (hi:PI X tg iter wi) (hg:PG X tg g) (hb:PSs X body tb)
  (hs:∀ x,foldedSetIterable iter X.env x=pure x:=by intro _;rfl):PS X (.For tg iter body [] pos) (tFor wi g tb):=by
 intro pins s σ H D I h
 refine wpAny_For (thn (hi pins s σ H _ I h) fun v s1 h1=>thn h1 fun itv s2 h2=>?_) hs
 obtain ⟨it,fp,tn,J,H2,e,I2,T,st2,f2,W,⟨m0,w0⟩,turn⟩:=h2
 subst e
 -- what stays true of the iterator's objects through the loop
 have stat:∀ {H':Hp},(∀ b∈fp,H' b=none)->∀ b∈fp,FpOk X pins H' b:=fun hn b hb=>⟨hn b hb,(f2 b hb).2⟩
 refine codeAny_forLoop_any (fun n s'=>∃ i σ' H',Inv X pins σ' H' s'/\tn i s'.heap/\(∀ b∈fp,H' b=none)/\W i n σ' H') ?_ m0 ⟨0,σ,H2,I2,st2,fun b hb=>(f2 b hb).1,w0⟩
 rintro n s3 ⟨i,σ3,H3,I3,st3,fr3,w3⟩
 rcases turn i n σ3 H3 w3 with ⟨stop,qn⟩ | ⟨go,N,hN,step⟩
 ·refine wpAny_passesOwn hp (thn (T.done X rfl rfl rfl hc i pins s3 σ3 H3 X.xe I3 (stat fr3) st3 stop) ?_)
  rintro r s4 ⟨hr,I4⟩
  subst hr
  exact wpAny_execs_nil ⟨σ3,H3,I4,qn⟩
 ·refine wpAny_passesOwn hp (thn (T.item X rfl rfl rfl hc i pins s3 σ3 H3 X.xe I3 (stat fr3) st3 go) ?_)
  rintro r s4 ⟨u,hr,h4⟩
  subst hr
  refine wpAny_passesOwn hp (thn h4 ?_)
  rintro _ s5 ⟨x,H5,I5,r5,y5,st5,fr5⟩
  have I5':=I5.pinned (stat fr5) (T.obj _ _ st5)
  refine wpAny_passesOwn hp (thn (hg _ s5 σ3 H5 x u _ I5' r5 (step x H5 y5)) ?_)
  rintro _ s6 ⟨σ6,H6,I6,q6⟩
  refine wpAny_passesOwn hp (thn (hb _ s6 σ6 H6 _ I6 q6) fun f s7 q7=>?_)
  have again:∀ {σ7:St} {H7:Hp},Inv X (pins++pinsAt fp s5.heap) σ7 H7 s7->N σ7 H7->∃ m,m < n/\∃ i σ' H',Inv X pins σ' H' s7/\tn i s7.heap/\(∀ b∈fp,H' b=none)/\W i m σ' H':=fun {σ7 H7} I7 n7=>by
   obtain ⟨m',hm,w7⟩:=hN σ7 H7 n7
   refine ⟨m',hm,i+1,σ7,H7,I7.unpinned,T.keep _ _ _ st5 fun b hb o e=>(I7.pin (b,o) (List.mem_append_right _ (List.mem_append_right _ (cL hb e)))).1,fun b hb=>?_,w7⟩
   obtain ⟨o,e,d⟩:=T.obj _ _ st5 b hb
   exact (I7.pin (b,o) (List.mem_append_right _ (List.mem_append_right _ (cL hb e)))).2.1
  cases f with
  | next=>obtain ⟨σ7,H7,I7,n7⟩:=q7;exact again I7 n7
  | cont=>obtain ⟨σ7,H7,I7,n7⟩:=q7;exact again I7 n7
  | brk=>obtain ⟨σ7,H7,I7,q7⟩:=q7;exact ⟨σ7,H7,I7.unpinned,q7⟩
  | ret v=>obtain ⟨x7,σ7,H7,I7,r7,q7⟩:=q7;exact ⟨x7,σ7,H7,I7.unpinned,r7,q7⟩
end
end L2
namespace L2
open PySem PySem.Spec PyProof.Rows
abbrev R2:=V->V->Hp->VK->Prop
def OpR (X:Cx) (f:Value->Value->Sem Value) (r:R2):Prop:=
 ∀ (pins:List (Addr×Obj)) (s:Shared) (σ:St) (H:Hp) (x y:V) (v u:Value) (Q:VK),Inv X pins σ H s->RelV x v->RelV y u->r x y H Q->
  wpAny (model X.prog X.w) X.A (f v u) (EP X pins σ Q) X.xe s
def UnR (X:Cx) (f:Value->Sem Value) (r:V->Hp->VK->Prop):Prop:=
 ∀ (pins:List (Addr×Obj)) (s:Shared) (σ:St) (H:Hp) (x:V) (v:Value) (Q:VK),Inv X pins σ H s->RelV x v->r x H Q->
  wpAny (model X.prog X.w) X.A (f v) (EP X pins σ Q) X.xe s
def CallR (X:Cx) (f:Value) (r:List V->Hp->VK->Prop):Prop:=
 ∀ (pins:List (Addr×Obj)) (s:Shared) (σ:St) (H:Hp) (xs:List V) (us:List Value) (Q:VK),Inv X pins σ H s->Vals xs us->r xs H Q->
  wpAny (model X.prog X.w) X.A (call f us) (EP X pins σ Q) X.xe s
def tOp (r:R2) (ta tb:TE):TE:=fun σ H Q=>ta σ H fun x H1=>tb σ H1 fun y H2=>r x y H2 Q
def tUn (r:V->Hp->VK->Prop) (ta:TE):TE:=fun σ H Q=>ta σ H fun x H1=>r x H1 Q
def rI (C:Int->Int->Prop) (g:Int->Int->V):R2:=fun x y H Q=>∃ i j,x=.int i/\y=.int j/\C i j/\Q (g i j) H
def rI0 (g:Int->Int->V):R2:=fun x y H Q=>∃ i j,x=.int i/\y=.int j/\Q (g i j) H
def rU (g:Int->V):V->Hp->VK->Prop:=fun x H Q=>∃ i,x=.int i/\Q (g i) H
section
variable {X:Cx} {a b c:Expr} {ta tb tc:TE} {pos:Pos}
theorem binT (ha:PE X a ta) (hb:PE X b tb) {pins:List (Addr×Obj)} {s:Shared} {σ:St} {H:Hp} {R:V->V->Hp->Prop} (I:Inv X pins σ H s)
  (h:ta σ H fun x H1=>tb σ H1 fun y H2=>R x y H2) {Q:Value->Shared->Prop} {f:Value->Value->Sem Value}
  (hf:∀ v u s2 x y H2,Inv X pins σ H2 s2->RelV x v->RelV y u->R x y H2->wpAny (model X.prog X.w) X.A (f v u) Q X.xe s2):
  wpAny (model X.prog X.w) X.A (eval a X.env) (fun v s₁=>wpAny (model X.prog X.w) X.A (eval b X.env) (fun u s₂=>wpAny (model X.prog X.w) X.A (f v u) Q X.xe s₂) X.xe s₁) X.xe s:=by
 refine thn (ha pins s σ H _ I h) ?_
 rintro v s1 ⟨x,H1,I1,r1,q1⟩
 refine thn (hb pins s1 σ H1 _ I1 q1) ?_
 rintro u s2 ⟨y,H2,I2,r2,q2⟩
 exact hf v u s2 x y H2 I2 r1 r2 q2
theorem a2H {op:Operator} {r:R2} (ho:OpR X (binaryOp op) r) (ha:PE X a ta) (hb:PE X b tb):PE X (.BinOp a op b pos) (tOp r ta tb):=by
 intro pins s σ H Q I h
 exact wpAny_BinOp (binT ha hb I h fun v u s2 x y H2 I2 rx ry q=>ho pins s2 σ H2 x y v u Q I2 rx ry q)
theorem a2J {op:UnaryOp} {r:V->Hp->VK->Prop} (ho:UnR X (unaryOp op) r) (ha:PE X a ta):PE X (.UnaryOp op a pos) (tUn r ta):=by
 intro pins s σ H Q I h
 exact UnaryOp_ (thn (ha pins s σ H _ I h) fun v s1 ⟨x,H1,I1,r1,q1⟩=>ho pins s1 σ H1 x v Q I1 r1 q1)
theorem opI {f:Value->Value->Sem Value} {C:Int->Int->Prop} {g:Int->Int->Int}
  (rule:∀ (i j:Int) (t u:Tok) (s:Shared) (Q:Value->Shared->Prop) (E:Value->Shared->Prop),C i j->Q (.int (g i j) s.toks) {s with toks:=s.toks+1}->wpAny (model X.prog X.w) X.A (f (.int i t) (.int j u)) Q E s):
  OpR X f (rI C fun i j=>.int (g i j)):=by
 intro pins s σ H x y v u Q I rx ry h
 obtain ⟨i,j,rfl,rfl,hc,q⟩:=h
 obtain ⟨t,rfl⟩:=rx
 obtain ⟨t',rfl⟩:=ry
 exact rule i j t t' s _ _ hc ⟨.int (g i j),H,I.tok _,⟨_,rfl⟩,q⟩
theorem opI0 {f:Value->Value->Sem Value} {g:Int->Int->Int}
  (rule:∀ (i j:Int) (t u:Tok) (s:Shared) (Q:Value->Shared->Prop) (E:Value->Shared->Prop),Q (.int (g i j) s.toks) {s with toks:=s.toks+1}->wpAny (model X.prog X.w) X.A (f (.int i t) (.int j u)) Q E s):
  OpR X f (rI0 fun i j=>.int (g i j)):=by
 intro pins s σ H x y v u Q I rx ry h
 obtain ⟨i,j,rfl,rfl,q⟩:=h
 obtain ⟨t,rfl⟩:=rx
 obtain ⟨t',rfl⟩:=ry
 exact rule i j t t' s _ _ ⟨.int (g i j),H,I.tok _,⟨_,rfl⟩,q⟩
theorem opB0 {f:Value->Value->Sem Value} {g:Int->Int->Bool}
  (rule:∀ (i j:Int) (t u:Tok) (s:Shared) (Q:Value->Shared->Prop) (E:Value->Shared->Prop),Q (.bool (g i j)) s->wpAny (model X.prog X.w) X.A (f (.int i t) (.int j u)) Q E s):
  OpR X f (rI0 fun i j=>.bl (g i j)):=by
 intro pins s σ H x y v u Q I rx ry h
 obtain ⟨i,j,rfl,rfl,q⟩:=h
 obtain ⟨t,rfl⟩:=rx
 obtain ⟨t',rfl⟩:=ry
 exact rule i j t t' s _ _ ⟨.bl (g i j),H,I,rfl,q⟩
def CDiv (i j:Int):Prop:=0 < j/\j < 1073741824
def CPow (i j:Int):Prop:=0<=j/\j<=1000000/\i.natAbs < 2^64
def CMul (i j:Int):Prop:=(-(2^64) < i/\i < 2^64)\/(-(2^64) < j/\j < 2^64)
theorem CMul.ok {i j:Int} (h:CMul i j):IntMulOk i j:=by
 rcases h with ⟨h1,h2⟩ | ⟨h1,h2⟩
 ·exact .of_left (intBits_le_64 h1 h2)
 ·exact .of_right (intBits_le_64 h1 h2)
theorem a0q:OpR X (binaryOp .Add) (rI0 fun i j=>.int (i+j)):=opI0 fun _ _ _ _ _ _ _ q=>add_int q
theorem a18:OpR X (binaryOp .Mult) (rI CMul fun i j=>.int (i*j)):=opI fun _ _ _ _ _ _ _ hc q=>mul_int q hc.ok
theorem a0S:OpR X (binaryOp .FloorDiv) (rI CDiv fun i j=>.int (i / j)):=opI fun i j _ _ _ _ _ hc q=>by
 have h1:(0:Int) < j:=hc.1
 have h2:j < 1073741824:=hc.2
 exact floordiv_int (by omega) (by rw [Int.fdiv_eq_ediv_of_nonneg i (by omega)];exact q) (.inl (PyProof.noPylong_small (by omega)))
theorem a1i:OpR X (binaryOp .Mod) (rI (fun _ j=>0 < j) fun i j=>.int (i % j)):=opI fun i j _ _ _ _ _ hc q=>by
 have h1:(0:Int) < j:=hc
 exact mod_int' (by omega) (by rw [Int.fmod_eq_emod_of_nonneg i (by omega)];exact q)
theorem a0r:OpR X (binaryOp .Pow) (rI CPow fun i j=>.int (i^j.toNat)):=opI fun _ _ _ _ _ _ _ hc q=>pow_int_small hc.1 hc.2.1 hc.2.2 q
theorem unI {f:Value->Sem Value} {g:Int->Int}
  (rule:∀ (i:Int) (t:Tok) (s:Shared) (Q:Value->Shared->Prop) (E:Value->Shared->Prop),Q (.int (g i) s.toks) {s with toks:=s.toks+1}->wpAny (model X.prog X.w) X.A (f (.int i t)) Q E s):
  UnR X f (rU fun i=>.int (g i)):=by
 intro pins s σ H x v Q I rx h
 obtain ⟨i,rfl,q⟩:=h
 obtain ⟨t,rfl⟩:=rx
 exact rule i t s _ _ ⟨.int (g i),H,I.tok _,⟨_,rfl⟩,q⟩
theorem xR:UnR X (unaryOp .USub) (rU fun i=>.int (-i)):=unI fun _ _ _ _ _ q=>neg_int q
end
def scal:V->V->Bool
 | .non,.non=>true | .non,.int _=>true | .int _,.non=>true | .non,.bl _=>true | .bl _,.non=>true | .non,.str _=>true | .str _,.non=>true
 | .int _,.int _=>true | .bl _,.bl _=>true | .str _,.str _=>true | .byt _,.byt _=>true
 | .int _,.str _=>true | .str _,.int _=>true | .bl _,.str _=>true | .str _,.bl _=>true
 | _,_=>false
def rEq:R2:=fun x y H Q=>scal x y=true/\Q (.bl (decide (x=y))) H
def rNe:R2:=fun x y H Q=>scal x y=true/\Q (.bl (!decide (x=y))) H
theorem tG {i j:Int}:decide (V.int i=V.int j)=(i==j):=by
 rw [Bool.eq_iff_iff]
 simp
theorem wF {i j:Bool}:decide (V.bl i=V.bl j)=(i==j):=by
 rw [Bool.eq_iff_iff]
 simp
theorem tU {i j:Str}:decide (V.str i=V.str j)=(i==j):=by
 rw [Bool.eq_iff_iff]
 simp
theorem u9 {i j:Array UInt8}:decide (V.byt i=V.byt j)=(i.toList==j.toList):=by
 rw [Bool.eq_iff_iff]
 cases i
 cases j
 simp
section
variable {X:Cx} {a b c:Expr} {ta tb tc:TE} {pos:Pos}
theorem aS {pins:List (Addr×Obj)} {σ:St} {H:Hp} {s:Shared} {Q:VK} {k k':Bool} (I:Inv X pins σ H s) (q:Q (.bl k) H) (e:k=k'):EP X pins σ Q (.bool k') s:=by
 subst e
 exact ⟨.bl k,H,I,rfl,q⟩
theorem a28:OpR X (compareOp .Eq) rEq:=by
 intro pins s σ H x y v u Q I rx ry h
 obtain ⟨hs,q⟩:=h
 cases x with
 | non=>
  cases rx
  cases y with
  | non=>cases ry;exact PySem.EqNone.eq_none_none (aS I q (by simp))
  | bl j=>cases ry;exact PySem.EqNone.eq_none_bool (aS I q (by simp))
  | int j=>obtain ⟨t',rfl⟩:=ry;exact PySem.EqNone.eq_none_int (aS I q (by simp))
  | str j=>obtain ⟨t',rfl⟩:=ry;exact PySem.EqNone.eq_none_str (aS I q (by simp))
  | _=>exact absurd (show false=true from hs) Bool.false_ne_true
 | bl i=>
  cases rx
  cases y with
  | non=>cases ry;exact PySem.EqNone.eq_bool_none (aS I q (by simp))
  | bl j=>cases ry;exact eq_bool (aS I q wF)
  | str j=>obtain ⟨t',rfl⟩:=ry;exact PySem.EqMixed.eq_bool_str (aS I q (by simp))
  | _=>exact absurd (show false=true from hs) Bool.false_ne_true
 | int i=>
  obtain ⟨t,rfl⟩:=rx
  cases y with
  | non=>cases ry;exact PySem.EqNone.eq_int_none (aS I q (by simp))
  | int j=>obtain ⟨t',rfl⟩:=ry;exact eq_int (aS I q tG)
  | str j=>obtain ⟨t',rfl⟩:=ry;exact PySem.EqMixed.eq_int_str (aS I q (by simp))
  | _=>exact absurd (show false=true from hs) Bool.false_ne_true
 | str i=>
  obtain ⟨t,rfl⟩:=rx
  cases y with
  | non=>cases ry;exact PySem.EqNone.eq_str_none (aS I q (by simp))
  | bl j=>cases ry;exact PySem.EqMixed.eq_str_bool (aS I q (by simp))
  | int j=>obtain ⟨t',rfl⟩:=ry;exact PySem.EqMixed.eq_str_int (aS I q (by simp))
  | str j=>obtain ⟨t',rfl⟩:=ry;exact eq_str (aS I q tU)
  | _=>exact absurd (show false=true from hs) Bool.false_ne_true
 | byt i=>
  obtain ⟨t,rfl⟩:=rx
  cases y with
  | byt j=>obtain ⟨t',rfl⟩:=ry;exact PySem.W.eq_bytes (aS I q u9)
  | _=>exact absurd (show false=true from hs) Bool.false_ne_true
 | _=>cases y<;>exact absurd (show false=true from hs) Bool.false_ne_true
theorem a2Q:OpR X (compareOp .NotEq) rNe:=by
 intro pins s σ H x y v u Q I rx ry h
 obtain ⟨hs,q⟩:=h
 cases x with
 | non=>
  cases rx
  cases y with
  | non=>cases ry;exact PySem.EqNone.ne_none_none (aS I q (by simp))
  | bl j=>cases ry;exact PySem.EqNone.ne_none_bool (aS I q (by simp))
  | int j=>obtain ⟨t',rfl⟩:=ry;exact PySem.EqNone.ne_none_int (aS I q (by simp))
  | str j=>obtain ⟨t',rfl⟩:=ry;exact PySem.EqNone.ne_none_str (aS I q (by simp))
  | _=>exact absurd (show false=true from hs) Bool.false_ne_true
 | bl i=>
  cases rx
  cases y with
  | non=>cases ry;exact PySem.EqNone.ne_bool_none (aS I q (by simp))
  | bl j=>cases ry;exact ne_bool (aS I q (congrArg not wF))
  | str j=>obtain ⟨t',rfl⟩:=ry;exact PySem.EqMixed.ne_bool_str (aS I q (by simp))
  | _=>exact absurd (show false=true from hs) Bool.false_ne_true
 | int i=>
  obtain ⟨t,rfl⟩:=rx
  cases y with
  | non=>cases ry;exact PySem.EqNone.ne_int_none (aS I q (by simp))
  | int j=>obtain ⟨t',rfl⟩:=ry;exact ne_int (aS I q (congrArg not tG))
  | str j=>obtain ⟨t',rfl⟩:=ry;exact PySem.EqMixed.ne_int_str (aS I q (by simp))
  | _=>exact absurd (show false=true from hs) Bool.false_ne_true
 | str i=>
  obtain ⟨t,rfl⟩:=rx
  cases y with
  | non=>cases ry;exact PySem.EqNone.ne_str_none (aS I q (by simp))
  | bl j=>cases ry;exact PySem.EqMixed.ne_str_bool (aS I q (by simp))
  | int j=>obtain ⟨t',rfl⟩:=ry;exact PySem.EqMixed.ne_str_int (aS I q (by simp))
  | str j=>obtain ⟨t',rfl⟩:=ry;exact ne_str (aS I q (congrArg not tU))
  | _=>exact absurd (show false=true from hs) Bool.false_ne_true
 | byt i=>
  obtain ⟨t,rfl⟩:=rx
  cases y with
  | byt j=>obtain ⟨t',rfl⟩:=ry;exact PySem.W.ne_bytes (aS I q (congrArg not u9))
  | _=>exact absurd (show false=true from hs) Bool.false_ne_true
 | _=>cases y<;>exact absurd (show false=true from hs) Bool.false_ne_true
theorem a24:OpR X (compareOp .Lt) (rI0 fun i j=>.bl (decide (i < j))):=opB0 fun _ _ _ _ _ _ _ q=>lt_int q
theorem a26:OpR X (compareOp .Gt) (rI0 fun i j=>.bl (decide (j < i))):=opB0 fun _ _ _ _ _ _ _ q=>gt_int q
theorem a2G:OpR X (compareOp .GtE) (rI0 fun i j=>.bl (decide (j<=i))):=opB0 fun _ _ _ _ _ _ _ q=>ge_int q
theorem uI:OpR X (compareOp .Lt) (fun x y H Q=>∃ i j,x=.str i/\y=.str j/\Q (.bl (decide (i.cps.toList < j.cps.toList))) H):=by
 intro pins s σ H x y v u Q I rx ry h
 obtain ⟨i,j,rfl,rfl,q⟩:=h
 obtain ⟨t,rfl⟩:=rx
 obtain ⟨t',rfl⟩:=ry
 exact lt_str (aS I q rfl)
theorem vA:OpR X (compareOp .In) (fun x y H Q=>∃ i j,x=.str i/\y=.str j/\Q (.bl (!(Builtin.Str.occurrences j i 0 j.length 1).isEmpty)) H):=by
 intro pins s σ H x y v u Q I rx ry h
 obtain ⟨i,j,rfl,rfl,q⟩:=h
 obtain ⟨t,rfl⟩:=rx
 obtain ⟨t',rfl⟩:=ry
 exact in_str (aS I q rfl)
theorem a1C:OpR X (compareOp .Is) (fun x y H Q=>y=.non/\Q (.bl (decide (x=.non))) H):=by
 intro pins s σ H x y v u Q I rx ry h
 obtain ⟨rfl,q⟩:=h
 cases ry
 refine is_none_gen (aS I q ?_)
 cases x<;>first
  | (cases rx;rfl)
  | (obtain ⟨t,rfl⟩:=rx;rfl)
theorem a07:OpR X (compareOp .IsNot) (fun x y H Q=>y=.non/\Q (.bl (!decide (x=.non))) H):=by
 intro pins s σ H x y v u Q I rx ry h
 obtain ⟨rfl,q⟩:=h
 cases ry
 refine isnot_none_gen (aS I q ?_)
 cases x<;>first
  | (cases rx;rfl)
  | (obtain ⟨t,rfl⟩:=rx;rfl)
theorem nomark (b:Expr) {op:CmpOp} (h:op≠.In:=by decide) (h2:op≠.NotIn:=by decide):behindInMarks op b=false:=by
 have e1:(op==CmpOp.In)=false:=by cases op<;>first | rfl | exact absurd rfl h
 have e2:(op==CmpOp.NotIn)=false:=by cases op<;>first | rfl | exact absurd rfl h2
 cases b<;>simp [behindInMarks,e1,e2]
theorem yV {op:CmpOp} {r:R2} (ho:OpR X (compareOp op) r) (ha:PE X a ta) (hb:PE X b tb) (hm:behindInMarks op b=false):PE X (.Compare a [op] [b] pos) (tOp r ta tb):=by
 intro pins s σ H Q I h
 exact wpAny_Compare1 (binT ha hb I h fun v u s2 x y H2 I2 rx ry q=>ho pins s2 σ H2 x y v u Q I2 rx ry q) hm
def tTest (t:TE):TT:=fun σ H Q=>t σ H fun x H'=>∃ k,x=.bl k/\Q k H'
theorem a0T {op:CmpOp} {r:R2} (ho:OpR X (compareOp op) r) (ha:PE X a ta) (hb:PE X b tb) (hm:behindInMarks op b=false):PT X (.Compare a [op] [b] pos) (tTest (tOp r ta tb)):=by
 intro pins s σ H Q I h
 refine wpAny_isTrue_Compare1 (thn (ha pins s σ H _ I h) fun v s1 ⟨x,H1,I1,r1,q1⟩=>thn (hb pins s1 σ H1 _ I1 q1) fun u s2 ⟨y,H2,I2,r2,q2⟩=>
  thn (ho pins s2 σ H2 x y v u _ I2 r1 r2 q2) fun c s3 ⟨z,H3,I3,r3,k,e,q3⟩=>?_) hm
 subst e
 cases r3
 exact wpAny_truthy_bool ⟨H3,I3,q3⟩
theorem line63:(sizeLine:Nat) < 2^63:=by rw [QL];decide
theorem sW:OpR X (binaryOp .Add) (fun x y H Q=>∃ i j,x=.str i/\y=.str j/\i.length+j.length<=sizeLine/\Q (.str (i++j)) H):=by
 intro pins s σ H x y v u Q I rx ry h
 obtain ⟨i,j,rfl,rfl,hz,q⟩:=h
 obtain ⟨t,rfl⟩:=rx
 obtain ⟨t',rfl⟩:=ry
 exact add_str (fun t' tk=>⟨.str (i++j),H,I.tok _,⟨_,rfl⟩,q⟩) hz
theorem vals1 {x:V} {us:List Value} (r:Vals [x] us):∃ u,us=[u]/\RelV x u:=by
 cases r with
 | cons r1 r2=>cases r2;exact ⟨_,rfl,r1⟩
def LenV (K:Q0) (x:V) (H:Hp) (n:Nat):Prop:=
 match x with
 | .str y=>y.length<=sizeLine/\n=y.length
 | .byt y=>y.size<=sizeLine/\n=y.size
 | .ref p=>(∃ xs,SqL K H p xs/\n=xs.length)\/∃ xs,SqT K H p xs/\n=xs.length
 | _=>False
theorem lT:CallR X (.builtin "len") (fun xs H Q=>∃ x n,xs=[x]/\LenV X.K x H n/\Q (.int n) H):=by
 intro pins s σ H xs us Q I r h
 obtain ⟨x,n,rfl,e,q⟩:=h
 obtain ⟨u,rfl,rx⟩:=vals1 r
 have hl:=line63
 have hs:sizeLine=16777216:=QL
 cases x with
 | str y=>
  obtain ⟨t,rfl⟩:=rx
  obtain ⟨hy,e'⟩:y.length<=sizeLine/\n=y.length:=e
  subst e'
  exact len_str (by omega) ⟨.int _,H,I.tok _,⟨_,rfl⟩,q⟩
 | byt y=>
  obtain ⟨t,rfl⟩:=rx
  obtain ⟨hy,e'⟩:y.size<=sizeLine/\n=y.size:=e
  subst e'
  exact PySem.W.len_bytes (by omega) ⟨.int _,H,I.tok _,⟨_,rfl⟩,q⟩
 | ref p=>
  cases rx
  have e':(∃ xs,SqL X.K H p xs/\n=xs.length)\/∃ xs,SqT X.K H p xs/\n=xs.length:=e
  rcases e' with ⟨xs,hx,e'⟩ | ⟨xs,hx,e'⟩
  ·subst e'
   obtain ⟨its,r',pl,hz⟩:=I.list hx
   have hlen:=r'.length
   exact Calls.call_len_list pl.isList (by simp only [List.size_toArray];omega) ⟨.int xs.length,H,I.tok _,⟨_,by simp only [List.size_toArray];rw [hlen]⟩,q⟩
  ·subst e'
   obtain ⟨its,r',pl,hz⟩:=I.tuple hx
   have hlen:=r'.length
   exact len_tuple pl (by simp only [List.size_toArray];omega) ⟨.int xs.length,H,I.tok _,⟨_,by simp only [List.size_toArray];rw [hlen]⟩,q⟩
 | _=>exact (show False from e).elim
end
end L2
namespace L2
open PySem PySem.Spec PyProof.Rows
structure ObjM (h:Heap) (x dx C:Addr) (mA:Str->Option Value):Prop where
 obj:h.get? x=some (PySem.W.instObj C dx)
 ns:h.Ns1 dx mA
 ne:dx≠x
theorem vC {h:Heap} {dx:Addr} {mA:Str->Option Value} (n:h.Ns1 dx mA):∃ od,h.get? dx=some od/\∀ name,PySem.W.lookIn name od=some (mA name):=by
 obtain ⟨o,es,ep,ho,hd,hk,_,hm⟩:=n
 refine ⟨o,ho,fun name=>?_⟩
 have e:=hm name
 unfold nsFind findBy at e
 rw [<- Array.find?_toList] at e
 unfold PySem.W.lookIn
 rw [hd]
 dsimp only
 split
 ·rename_i y q
  rw [q] at e
  exact congrArg some e
 ·rename_i q
  rw [q] at e
  have a:es.toList.any (·.refKey)=false:=by
   rw [List.any_eq_false]
   intro y hy
   obtain ⟨z,t,hkey⟩:=hk y (Array.mem_toList_iff.mp hy)
   simp [DictEntry.refKey,hkey]
  have a':¬es.toList.any (·.refKey)=true:=by rw [a];exact Bool.false_ne_true
  rw [if_neg a']
  exact congrArg some e
theorem ObjM.look {h:Heap} {x dx C:Addr} {mA:Str->Option Value} (I:ObjM h x dx C mA):∃ od,PySem.W.InstAt h x (PySem.W.instObj C dx) C (some od)/\∀ name,PySem.W.lookIn name od=some (mA name):=
 let ⟨od,ho,hl⟩:=vC I.ns
 ⟨od,⟨I.obj,rfl,rfl,ho⟩,hl⟩
section
variable {prog:Program} {w:World} {A:Around} {E:Value->Shared->Prop} {s:Shared} {K:Q0} {x dx C f:Addr} {mA:Str->Option Value} {name:Str} {v:Value}
theorem a0M {expr:Bool} {Q:Value->Shared->Prop} (X:K.In s.heap) (I:ObjM s.heap x dx C mA) (hg:PySem.W.plainGet K C name=true) (hh:PySem.W.hasDictIn K C=true)
  (ha:PySem.W.findIn K (.ref C) name=some none) (hv:mA name=some v) (hv':PySem.W.handedIn v=true) (h:Q v {s with toks:=s.toks+1}):
  wpAny (model prog w) A (getAttr (.ref x) name expr) Q E s:=by
 obtain ⟨od,J,hl⟩:=I.look
 exact PySem.W.get_value X J (PySem.W.plainGet_of hg).1 (PySem.W.findObj_own hh ha rfl (by rw [hl,hv])) hv' h
theorem a0I {ns:List Str} {Q:Unit->Shared->Prop} (X:K.In s.heap) (I:ObjM s.heap x dx C mA)
  (hs:PySem.W.findIn K (.ref C) "__setattr__"=some (some (.builtin "object.__setattr__"))) (hp:PySem.W.plainOver K C=true) (ht:PySem.W.takerIn K C name=some none) (hh:PySem.W.hasDictIn K C=true)
  (hw:PySem.Within mA ns) (hsz:ns.length<=sizeLine)
  (h:∀ h',ObjM h' x dx C (fun y=>if y=name then some v else mA y)->Heap.SameBut dx s.heap h'->Q () {s with heap:=h',toks:=s.toks+2}):
  wpAny (model prog w) A (setAttr (.ref x) name v) Q E s:=by
 obtain ⟨od,J,hl⟩:=I.look
 refine PySem.W.set_plain X J hs (PySem.W.osa_open (s:={s with toks:=s.toks+1}) (r:=none) X J hp ht fun b=>?_)
 obtain ⟨cd,hc,hd'⟩:=PySem.W.any_some hh
 have hx:s.heap.get? x=some ⟨.ref C,some dx,.plain,#[]⟩:=I.obj
 refine QT (QU (QT (QT (wpAny_loadPart hx (QT (PySem.W.Looks.here (s:={s with toks:=s.toks+1}) (PySem.W.looks_clsIn X hc) ?_))))))
 rw [hd']
 refine QU (a:=some dx) (QT (QU (QT ?_)))
 refine wpAny_nsSet1 (s:={s with toks:=s.toks+1}) I.ns fun h' hn2 hs2=>?_
 obtain ⟨oD,esD,epD,hoD,hdD,hcD⟩:=hn2.count (PySem.Within.cons name v hw)
 refine QT (wpAny_lookBehind hoD (by rw [hdD];exact pastItsLine_dict (Nat.le_trans hcD (by rw [List.length_cons];omega))) ?_)
 exact QU (h _ ⟨(hs2.2 _ (Ne.symm I.ne)).trans I.obj,hn2,I.ne⟩ hs2)
theorem wQ {R:Result->Shared->Prop} {vs:List Value} {kw:List (Str×Value)} (X:K.In s.heap) (hm:PySem.W.makesIn K C=true)
  (hi:PySem.W.findIn K (.ref C) "__init__"=some (some (.ref f))) (hf:PySem.W.typeIn K (.ref f)=some (.type "function"))
  (h:codeAny (model prog w) (A.under (.builtin "type.__call__" ⟨.ref C::vs,kw⟩)) (.call (.ref f) ⟨.ref (s.heap.objs.size+1)::vs,kw⟩) (PySem.W.InitBack (s.heap.objs.size+1) R)
   {s with heap:=(s.heap.push PySem.W.emptyDict).push (PySem.W.instObj C s.heap.objs.size)}):
  codeAny (model prog w) A (.call (.ref C) ⟨vs,kw⟩) R s:=by
 obtain ⟨hh,g,d,t,os⟩:=s
 exact PySem.W.make_core (PySem.W.makes_of X hm) (PySem.W.looks_findIn X hi) (fun self=>PySem.W.bind_fn X self hf) (.inl rfl) h
end
def putF (f:Str) (v:V):List (Str×V)->List (Str×V)
 | []=>[(f,v)]
 | (g,x)::r=>if g=f then (g,v)::r else (g,x)::putF f v r
theorem cH (f g:Str) (v:V):∀ fs:List (Str×V),(putF f v fs).lookup g=if g=f then some v else fs.lookup g
 | []=>by
  show List.lookup g [(f,v)]=_
  by_cases h:g=f
  ·have hb:(g==f)=true:=beq_iff_eq.mpr h
   simp only [List.lookup,hb,if_pos h]
  ·have hb:(g==f)=false:=beq_eq_false_iff_ne.mpr h
   simp only [List.lookup,hb,if_neg h]
 | (k,x)::r=>by
  have ih:=cH f g v r
  rw [show putF f v ((k,x)::r)=(if k=f then (k,v)::r else (k,x)::putF f v r) from rfl]
  by_cases hk:k=f
  ·rw [if_pos hk]
   by_cases h:g=k
   ·have hb:(g==k)=true:=beq_iff_eq.mpr h
    simp only [List.lookup,hb,if_pos (h.trans hk)]
   ·have hb:(g==k)=false:=beq_eq_false_iff_ne.mpr h
    simp only [List.lookup,hb,if_neg (fun e:g=f=>h (e.trans hk.symm))]
  ·rw [if_neg hk]
   by_cases h:g=k
   ·have hb:(g==k)=true:=beq_iff_eq.mpr h
    simp only [List.lookup,hb,if_neg (fun e:g=f=>hk (h.symm.trans e))]
   ·have hb:(g==k)=false:=beq_eq_false_iff_ne.mpr h
    simp only [List.lookup,hb]
    exact ih
theorem j9 (f:Str) (v:V):∀ fs:List (Str×V),f∈(putF f v fs).map (·.1)/\∀ g,g∈fs.map (·.1)->g∈(putF f v fs).map (·.1)
 | []=>⟨by simp [putF],fun g h=>by simp at h⟩
 | (k,x)::r=>by
  obtain ⟨i1,i2⟩:=j9 f v r
  rw [show putF f v ((k,x)::r)=(if k=f then (k,v)::r else (k,x)::putF f v r) from rfl]
  by_cases hk:k=f
  ·rw [if_pos hk]
   subst hk
   exact ⟨by simp,fun g h=>by simpa using h⟩
  ·rw [if_neg hk]
   refine ⟨?_,fun g h=>?_⟩
   ·rw [List.map_cons]
    exact Qh _ i1
   ·rw [List.map_cons] at h ⊢
    rcases Qp.mp h with e | e
    ·exact Qp.mpr (.inl e)
    ·exact Qh _ (i2 g e)
theorem cK (f:Str) (v:V):∀ fs:List (Str×V),(putF f v fs).length<=fs.length+1
 | []=>by simp [putF]
 | (k,x)::r=>by
  have ih:=cK f v r
  rw [show putF f v ((k,x)::r)=(if k=f then (k,v)::r else (k,x)::putF f v r) from rfl]
  by_cases hk:k=f
  ·rw [if_pos hk,List.length_cons,List.length_cons];omega
  ·rw [if_neg hk,List.length_cons,List.length_cons];omega
theorem RelO.some_of {v:V} {o:Option Value} (r:RelO (some v) o):∃ u,o=some u/\RelV v u:=by
 cases o with
 | none=>exact (show False from r).elim
 | some u=>exact ⟨u,rfl,r⟩
theorem vI {v:V} {u:Value} (r:RelV v u):PySem.W.handedIn u=true:=by
 cases v with
 | non=>cases (show u=Value.none from r);rfl
 | bl b=>cases (show u=Value.bool b from r);rfl
 | int i=>obtain ⟨t,e⟩:=(show ∃ t,u=Value.int i t from r);cases e;rfl
 | str x=>obtain ⟨t,e⟩:=(show ∃ t,u=Value.str x t from r);cases e;rfl
 | byt b=>obtain ⟨t,e⟩:=(show ∃ t,u=Value.bytes b t from r);cases e;rfl
 | flt b=>obtain ⟨t,e⟩:=(show ∃ t,u=Value.float b t from r);cases e;rfl
 | ref a=>cases (show u=Value.ref a from r);rfl
 | ty n=>cases (show u=Value.type n from r);rfl
section
variable {P:Program} {w:World} {H H':Hp} {h h':Heap} {a C dx:Addr} {fs fs':List (Str×V)}
theorem nI (hok:HOk P w H h) (e:H a=some (.ins C dx fs)):∃ mA,ObjM h a dx C mA/\(∀ f,RelO (fs.lookup f) (mA f))/\PySem.Within mA (fs.map (·.1))/\fs.length<=1000/\H dx=some (.own a):=by
 obtain ⟨d,z,ne,ob,mA,n,r,q⟩:=(show ObjOk P w H h a (.ins C dx fs) from hok a _ e)
 exact ⟨mA,⟨ob,n,ne⟩,r,q,z,d⟩
end
structure Cls (K:Q0) (C:Addr):Prop where
 pg:PySem.W.plainGet K C Str.empty=true
 hd:PySem.W.hasDictIn K C=true
 po:PySem.W.plainOver K C=true
 sa:PySem.W.findIn K (.ref C) "__setattr__"=some (some (.builtin "object.__setattr__"))
theorem Cls.get {K:Q0} {C:Addr} (c:Cls K C) (f:Str):PySem.W.plainGet K C f=true:=c.pg
def NoAttr (K:Q0) (C:Addr) (f:Str):Prop:=PySem.W.findIn K (.ref C) f=some none
theorem NoAttr.taker {K:Q0} {C:Addr} {f:Str} (n:NoAttr K C f):PySem.W.takerIn K C f=some none:=by
 unfold PySem.W.takerIn
 rw [show PySem.W.findIn K (.ref C) f=some none from n]
 rfl
section
variable {X:Cx} {pins:List (Addr×Obj)} {σ:St} {H:Hp} {s:Shared} {a C dx:Addr} {fs:List (Str×V)} {f:Str} {v:V} {A:Around} {E:Value->Shared->Prop}
theorem qT {b:Bool} {Q:Value->Shared->Prop} (I:Inv X pins σ H s) (e:H a=some (.ins C dx fs)) (c:Cls X.K C) (n:NoAttr X.K C f) (l:fs.lookup f=some v)
  (h:∀ u s',Inv X pins σ H s'->RelV v u->Q u s'):wpAny (model X.prog X.w) A (getAttr (.ref a) f b) Q E s:=by
 obtain ⟨mA,O,r,_,_,_⟩:=nI I.hok e
 obtain ⟨u,hu,ru⟩:=RelO.some_of (v:=v) (o:=mA f) (by rw [<- l];exact r f)
 exact a0M I.kIn O (c.get f) c.hd n hu (vI ru) (h u _ (I.tok _) ru)
theorem sB {y:V} {u:Value} {Q:Unit->Shared->Prop} (I:Inv X pins σ H s) (e:H a=some (.ins C dx fs)) (c:Cls X.K C) (n:NoAttr X.K C f) (hl:fs.length < 1000) (ry:RelV y u)
  (h:∀ s',Inv X pins σ (upd H a (.ins C dx (putF f y fs))) s'->Q () s'):wpAny (model X.prog X.w) A (setAttr (.ref a) f u) Q E s:=by
 obtain ⟨mA,O,r,wi,_,ho⟩:=nI I.hok e
 have hz:(fs.map (·.1)).length<=sizeLine:=by rw [Ql,QL];omega
 refine a0I I.kIn O c.sa c.po n.taker c.hd wi hz fun h' O' sb=>h _ ?_
 have hd:∃ o,h'.get? dx=some o:=let ⟨o,_,_,e',_⟩:=O'.ns;⟨o,e'⟩
 refine I.write (x:=a) (e:=dx) (by rw [e];exact True.intro) (.inr ho) (fun b q hb z=>(sb.2 b hb).trans z) hd ?_
 refine ⟨by rw [aD O.ne];exact ho,?_,O.ne,O'.obj,_,O'.ns,fun g=>?_,fun g hg=>?_⟩
 ·have:=cK f y fs;omega
 ·show RelO ((putF f y fs).lookup g) (if g=f then some u else mA g)
  rw [cH]
  by_cases q:g=f
  ·rw [if_pos q,if_pos q];exact ry
  ·rw [if_neg q,if_neg q];exact r g
 ·by_cases q:g=f
  ·rw [q];exact (j9 f y fs).1
  ·refine (j9 f y fs).2 g (wi g fun z=>hg ?_)
   show (if g=f then some u else mA g)=none
   rw [if_neg q];exact z
theorem Inv.made (I:Inv X pins σ H s):Inv X pins σ (upd (upd H s.heap.objs.size (.own (s.heap.objs.size+1))) (s.heap.objs.size+1) (.ins C s.heap.objs.size []))
  {s with heap:=(s.heap.push PySem.W.emptyDict).push (PySem.W.instObj C s.heap.objs.size)}:=by
 have e1:(s.heap.push PySem.W.emptyDict).get? s.heap.objs.size=some PySem.W.emptyDict:=Qd s.heap rfl
 have e2:((s.heap.push PySem.W.emptyDict).push (PySem.W.instObj C s.heap.objs.size)).get? (s.heap.objs.size+1)=some (PySem.W.instObj C s.heap.objs.size):=by
  have:=Qd (s.heap.push PySem.W.emptyDict) (o:=PySem.W.instObj C s.heap.objs.size) rfl
  rwa [Heap.size_push] at this
 have e3:(s.heap.push PySem.W.emptyDict).Ns s.heap.objs.size (fun _=>none):=⟨PySem.W.emptyDict,#[],_,e1,rfl,(fun e he=>absurd he (by simp)),fun _=>rfl⟩
 have I1:=I.laid (a:=s.heap.objs.size) (o:=.own (s.heap.objs.size+1)) (h':=s.heap.push PySem.W.emptyDict) (t':=s.toks) (fun b u q=>Qc _ q) (Qy _) ⟨_,e1⟩
 refine I1.laid (a:=s.heap.objs.size+1) (o:=.ins C s.heap.objs.size []) (t':=s.toks) (fun b u q=>Qc _ q) (Nat.le_of_eq (Heap.size_push _ _)) ?_
 have ne:s.heap.objs.size≠s.heap.objs.size+1:=Nat.ne_of_lt (Nat.lt_succ_self _)
 refine ⟨by rw [aD ne,a7],Nat.zero_le _,ne,e2,fun _=>none,(Heap.Ns1.of_empty e3).at fun o q=>Qc _ q,fun _=>True.intro,fun y hy=>absurd rfl hy⟩
theorem a0V {prog:Program} {w:World} {env:Env} {e:Expr} {f:Str} {pos:Pos} {s:Shared} {Q:Value->Shared->Prop} (hb:attributeBase e f env (eval e env)=eval e env)
  (h:wpAny (model prog w) A (eval e env) (fun o s₁=>wpAny (model prog w) A (getAttr o f true) Q E s₁) E s):wpAny (model prog w) A (eval (.Attribute e f pos) env) Q E s:=
 Attribute_any_ h (by rw [arm_eval_Attribute,hb])
end
def tFld (K:Q0) (ta:TE) (f:Str):TE:=fun σ H Q=>ta σ H fun x H1=>∃ a C dx fs v,x=.ref a/\H1 a=some (.ins C dx fs)/\Cls K C/\NoAttr K C f/\fs.lookup f=some v/\Q v H1
def sFld (K:Q0) (ta tv:TE) (f:Str):TS:=fun D σ H=>tv σ H fun y H1=>ta σ H1 fun x H2=>∃ a C dx fs,x=.ref a/\H2 a=some (.ins C dx fs)/\Cls K C/\NoAttr K C f/\fs.length < 1000/\
 D.nx σ (upd H2 a (.ins C dx (putF f y fs)))
section
variable {X:Cx} {o e value:Expr} {f:Str} {pos pos' tpos:Pos} {ta tv:TE}
theorem a1O (he:PE X e ta) (hb:attributeBase e f X.env (eval e X.env)=eval e X.env):PE X (.Attribute e f pos) (tFld X.K ta f):=by
 intro pins s σ H Q I h
 refine a0V hb (thn (he pins s σ H _ I h) ?_)
 rintro u s1 ⟨x,H1,I1,rx,a,C,dx,fs,v,ex,ea,c,n,l,q⟩
 subst ex
 obtain rfl:u=Value.ref a:=rx
 exact qT I1 ea c n l fun u' s2 I2 ru=>⟨v,H1,I2,ru,q⟩
theorem a0z (ha:PE X o ta) (hv:PE X value tv) (hs:swapsWith value (some (.Attribute o f pos')) pos.line X.env=pure false):PS X (.Assign [.Attribute o f pos'] value pos) (sFld X.K ta tv f):=by
 intro pins s σ H D I h
 refine plainObj_wpAny_Assign_Attribute (thn (hv pins s σ H _ I h) fun u s1 ⟨y,H1,I1,ry,q⟩=>thn (ha pins s1 σ H1 _ I1 q) fun ov s2 ⟨x,H2,I2,rx,a,C,dx,fs,ex,ea,c,n,l,q2⟩=>?_) hs
 subst ex
 obtain rfl:ov=Value.ref a:=rx
 exact sB I2 ea c n l ry fun s3 I3=>⟨σ,_,I3,q2⟩
end
section
variable {X:Cx} {pins:List (Addr×Obj)} {σ:St} {H:Hp} {s:Shared} {A:Around} {E:Value->Shared->Prop} {Q:Value->Shared->Prop} {c:Value} {b:Bool}
inductive TyOf (K:Q0) (H:Hp):V->Value->Prop where
 | non:TyOf K H .non (.type "NoneType")
 | bl (x:Bool):TyOf K H (.bl x) (.type "bool")
 | int (i:Int):TyOf K H (.int i) (.type "int")
 | str (x:Str):TyOf K H (.str x) (.type "str")
 | flt (x:UInt64):TyOf K H (.flt x) (.type "float")
 | lst {a:Addr} {xs:List V} (e:H a=some (.lst xs)):TyOf K H (.ref a) (.type "list")
 | frz {a:Addr} {o:Obj} {xs:List V} (e:H a=some (.frz o (.lst xs))):TyOf K H (.ref a) (.type "list")
 | tup {a:Addr} {xs:List V} (e:H a=some (.tup xs)):TyOf K H (.ref a) (.type "tuple")
 | dK {a:Addr} {kvs:List (Key×V)} (e:H a=some (.dK kvs)):TyOf K H (.ref a) (.type "dict")
 | dT {a:Addr} {kvs:List (List Key×V)} (e:H a=some (.dT kvs)):TyOf K H (.ref a) (.type "dict")
 | ins {a C dx:Addr} {fs:List (Str×V)} (e:H a=some (.ins C dx fs)) (cl:Cls K C) (ha:PySem.W.findIn K (.ref C) "__class__"=some (some (.builtin "object.__class__")))
   (hn:PySem.W.specialIn K (.builtin "object.__class__") "__get__"=some (some (.builtin "getset_descriptor.__get__"))) (htk:PySem.W.takesIn K (.builtin "object.__class__")=some true)
   (hm:PySem.W.mroIn K C (.type "object")=some true):TyOf K H (.ref a) (.ref C)
theorem uT {x:V} {u t:Value} (I:Inv X pins σ H s) (rx:RelV x u) (ty:TyOf X.K H x t) (e:PySem.W.kitOne X.K t c=some b) (h:∀ tk,Q (.bool b) {s with toks:=tk}):
  wpAny (model X.prog X.w) A (call (.builtin "isinstance") [u,c]) Q E s:=by
 cases ty with
 | non=>cases (show u=Value.none from rx);exact PySem.W.kia_one PySem.W.kitx_none I.kIn True.intro e (fun z=>nomatch z) h
 | bl y=>cases (show u=Value.bool y from rx);exact PySem.W.kia_one PySem.W.kitx_bool I.kIn True.intro e (fun z=>nomatch z) h
 | int i=>obtain ⟨t,q⟩:=(show ∃ t,u=Value.int i t from rx);cases q;exact PySem.W.kia_one PySem.W.kitx_int I.kIn True.intro e (fun z=>nomatch z) h
 | str y=>obtain ⟨t,q⟩:=(show ∃ t,u=Value.str y t from rx);cases q;exact PySem.W.kia_one PySem.W.kitx_str I.kIn True.intro e (fun z=>nomatch z) h
 | flt y=>obtain ⟨t,q⟩:=(show ∃ t,u=Value.float y t from rx);cases q;exact PySem.W.kia_one PySem.W.kitx_float I.kIn True.intro e (fun z=>nomatch z) h
 | @lst a xs ea=>
  cases (show u=Value.ref a from rx)
  obtain ⟨_,_,n,_,h1⟩:=(show ObjOk X.prog X.w H s.heap a (.lst xs) from I.hok a _ ea)
  exact PySem.W.kia_one PySem.W.kitx_list I.kIn ⟨_,h1,rfl⟩ e (fun z=>nomatch z) h
 | @frz a ob xs ea=>
  cases (show u=Value.ref a from rx)
  obtain ⟨_,_,_,n,_,h1⟩:=(show ObjOk X.prog X.w H s.heap a (.frz ob (.lst xs)) from I.hok a _ ea)
  exact PySem.W.kia_one PySem.W.kitx_list I.kIn ⟨_,h1,rfl⟩ e (fun z=>nomatch z) h
 | @tup a xs ea=>
  cases (show u=Value.ref a from rx)
  obtain ⟨_,_,_,p⟩:=(show ObjOk X.prog X.w H s.heap a (.tup xs) from I.hok a _ ea)
  obtain ⟨o,h1,h2,_⟩:=p
  exact PySem.W.kia_one PySem.W.kitx_tuple I.kIn ⟨o,h1,h2⟩ e (fun z=>nomatch z) h
 | @dK a kvs ea=>
  cases (show u=Value.ref a from rx)
  obtain ⟨_,_,vs,_,p⟩:=(show ObjOk X.prog X.w H s.heap a (.dK kvs) from I.hok a _ ea)
  obtain ⟨o,es,ep,h1,h2,_⟩:=p
  exact PySem.W.kia_one PySem.W.kitx_dict I.kIn ⟨o,h1,h2.1⟩ e (fun z=>nomatch z) h
 | @dT a kvs ea=>
  cases (show u=Value.ref a from rx)
  obtain ⟨_,_,xs,_,o,es,ep,h1,h2,_⟩:=(show ObjOk X.prog X.w H s.heap a (.dT kvs) from I.hok a _ ea)
  exact PySem.W.kia_one PySem.W.kitx_dict I.kIn ⟨o,h1,h2.1⟩ e (fun z=>nomatch z) h
 | @ins a C dx fs ea cl ha hn htk hm=>
  cases (show u=Value.ref a from rx)
  obtain ⟨mA,O,_⟩:=nI I.hok ea
  obtain ⟨od,J,_⟩:=O.look
  exact PySem.W.kia_one (PySem.W.kitx_own (cl.get _) cl.hd ha hn htk hm) I.kIn J e (fun z=>nomatch z) h
end
end L2
namespace L2
open PySem PySem.Spec PyProof.Rows
structure Room (k:Nat) (A:Around):Prop where
 hd:A.handled=none
 dp:A.depth+3*k+5 < recursionLimit
 un:A.units+16*k+200 < cLine
 gd:A.guards=some []
theorem Room.mono {j k:Nat} {A:Around} (r:Room k A) (h:j<=k):Room j A:=⟨r.hd,by have:=r.dp;omega,by have:=r.un;omega,r.gd⟩
theorem Room.deeper {k:Nat} {A:Around} (r:Room (k+1) A) (env:Env):Room k (A.deeper env):=
 ⟨r.hd,by have:=r.dp;show A.depth+1+3*k+5 < _;omega,by have:=r.un;show A.units+3+16*k+200 < _;omega,r.gd⟩
theorem qQ {A:Around} {C:Addr} {us:List Value} {kw:List (Str×Value)}:(A.under (.builtin "type.__call__" ⟨.ref C::us,kw⟩)).depth=A.depth+1:=by
 first | rfl | simp [Around.under,Code.weight,Code.isCreation,Code.isGuard,Code.isCaller,Code.frames,Code.isFrame,guardIds]
theorem sT {A:Around} {C:Addr} {us:List Value} {kw:List (Str×Value)}:(A.under (.builtin "type.__call__" ⟨.ref C::us,kw⟩)).units=A.units+1:=by
 first | rfl | simp [Around.under,Code.cUnits,Code.frames,Code.isFrame]
theorem pD {A:Around} {C:Addr} {us:List Value} {kw:List (Str×Value)} (h:A.guards=some []):(A.under (.builtin "type.__call__" ⟨.ref C::us,kw⟩)).guards=some []:=by
 first | exact h | (simp [Around.under,pushGuards,Code.guards,Code.isGuard,guardIds,h])
theorem Room.make {k:Nat} {A:Around} (r:Room (k+1) A) (C:Addr) (us:List Value) (kw:List (Str×Value)):Room k (A.under (.builtin "type.__call__" ⟨.ref C::us,kw⟩)):=
 ⟨r.hd,by have:=r.dp;rw [qQ];omega,by have:=r.un;rw [sT];omega,pD r.gd⟩
theorem Room.depth {k:Nat} {A:Around} (r:Room k A):A.depth < recursionLimit:=by have:=r.dp;omega
theorem Room.units {k:Nat} {A:Around} (r:Room k A):A.units+64 < cLine:=by have:=r.un;omega
def tNil:TA:=fun _ H Q=>Q [] H
def tCons (ta:TE) (tr:TA):TA:=fun σ H Q=>ta σ H fun x H1=>tr σ H1 fun xs H2=>Q (x::xs) H2
section
variable {X:Cx} {e:Expr} {es:List Expr} {te:TE} {t:TA} {pos:Pos}
theorem a1E:PA X [] tNil:=fun _ _ _ _ H Q I h=>Calls.spliced_nil ⟨[],H,I,.nil,h⟩
theorem dS (ha:PE X e te) (hr:PA X es t) (hs:starEach (e::es) X.env=(false,eval e X.env)::starEach es X.env:=by rfl):PA X (e::es) (tCons te t):=by
 intro pos pins s σ H Q I h
 rw [hs]
 show wpAny _ _ (spliced ((false,eval e X.env)::backTo pos (starEach es X.env))) _ _ s
 refine Calls.spliced_cons (thn (ha pins s σ H _ I h) ?_)
 rintro u s1 ⟨x,H1,I1,r1,q1⟩
 exact thn (hr pos pins s1 σ H1 _ I1 q1) fun us s2 ⟨xs,H2,I2,r2,q2⟩=>⟨x::xs,H2,I2,.cons r1 r2,q2⟩
def tTup (t:TA):TE:=fun σ H Q=>t σ H fun xs H1=>xs.length<=sizeLine/\∀ p,H1 p=none->Q (.ref p) (upd H1 p (.tup xs))
def tLst (t:TA):TE:=fun σ H Q=>t σ H fun xs H1=>xs.length<=sizeLine/\∀ p,H1 p=none->Q (.ref p) (upd H1 p (.lst xs))
theorem a0p {x1} (h:PA X es t):PE X (.Tuple es x1 pos) (tTup t):=by
 intro pins s σ H Q I hq
 refine wpAny_Tuple_spliced (thn (h pos pins s σ H _ I hq) fun us s1 ⟨xs,H1,I1,r,z,q⟩=>⟨by rw [<- r.length];exact z,?_⟩)
 have hf:H1 s1.heap.objs.size=none:=I1.hok.fresh (Qy _)
 refine ⟨.ref s1.heap.objs.size,upd H1 s1.heap.objs.size (.tup xs),I1.laid (t':=s1.toks) (fun b u e=>Qc _ e) (Qy _) ?_,rfl,q _ hf⟩
 exact ⟨⟨z,NoDct.new rfl rfl⟩,us,r,⟨_,Qd _ rfl,rfl,_,rfl⟩⟩
theorem a1r (h:PA X es t):PE X (.List es pos) (tLst t):=by
 intro pins s σ H Q I hq
 refine wpAny_List_spliced (thn (h pos pins s σ H _ I hq) fun us s1 ⟨xs,H1,I1,r,z,q⟩=>⟨by rw [<- r.length];exact z,?_⟩)
 have hf:H1 s1.heap.objs.size=none:=I1.hok.fresh (Qy _)
 refine ⟨.ref s1.heap.objs.size,upd H1 s1.heap.objs.size (.lst xs),I1.laid (t':=s1.toks) (fun b u e=>Qc _ e) (Qy _) ?_,rfl,q _ hf⟩
 exact ⟨z,us,0,r,Qd _ rfl⟩
end
abbrev Sp:=List V->Hp->VK->XK->Prop
abbrev CXT:=List Env->Hp->Shared->XK->Value->Shared->Prop
structure Env0 (P:Program) (w:World) (K:Q0) (mg:Str->Option Value) (base:Heap) (A:Around) (outer:List Env) (s:Shared) (H:Hp):Prop where
 frames:A.frames=some outer
 mod:Mod K mg base
 bs:∀ b o,base.get? b=some o->s.heap.get? b=some o/\H b=none
 bsz:base.objs.size<=s.heap.objs.size
 funs:s.heap.FunFrames base outer
 frf:∀ b∈frs outer,H b=none
 hok:HOk P w H s.heap
 bare:AllBare s.gens
def CE (outer:List Env) (P:Program) (w:World) (H:Hp) (s:Shared) (Q:VK) (u:Value) (s':Shared):Prop:=
 ∃ v H',s'.os=s.os/\AllBare s'.gens/\Un (frs outer) [] H H' s.heap s'.heap/\HOk P w H' s'.heap/\RelV v u/\Q v H'
def CR (CX:CXT) (outer:List Env) (P:Program) (w:World) (H:Hp) (s:Shared) (Q:VK) (E:XK) (r:Result) (s':Shared):Prop:=
 match r with
 | .ok (.ret u)=>CE outer P w H s Q u s'
 | .ok _=>False
 | .error e=>CX outer H s E e s'
structure FnOk (P:Program) (w:World) (K:Q0) (mg:Str->Option Value) (base:Heap) (CX:CXT) (k:Nat) (f:Addr) (fd:FuncData) (ps:List Str) (sp:Sp):Prop where
 len:∀ vs H Q E,sp vs H Q E->vs.length=ps.length
 run:∀ (A:Around) (outer:List Env) (s:Shared) (H:Hp) (args:Args) (us:List Value) (vs:List V) (Q:VK) (E:XK),Room k A->Env0 P w K mg base A outer s H->BindsTo s fd args (ps.zip us)->Vals vs us->sp vs H Q E->
  codeAny (model P w) A (.call (.ref f) args) (CR CX outer P w H s Q E) s
theorem FnOk.imp {P:Program} {w:World} {K:Q0} {mg:Str->Option Value} {base:Heap} {CX:CXT} {k:Nat} {f:Addr} {fd:FuncData} {ps:List Str} {sp sp':Sp} (F:FnOk P w K mg base CX k f fd ps sp)
  (h:∀ vs H Q E,sp' vs H Q E->sp vs H Q E):FnOk P w K mg base CX k f fd ps sp':=
 ⟨fun vs H Q E q=>F.len vs H Q E (h _ _ _ _ q),fun A outer s H args us vs Q E hr he hb hv hs=>F.run A outer s H args us vs Q E hr he hb hv (h _ _ _ _ hs)⟩
theorem Env0.make {P:Program} {w:World} {K:Q0} {mg:Str->Option Value} {base:Heap} {A:Around} {outer:List Env} {s:Shared} {H:Hp} (e:Env0 P w K mg base A outer s H) (C:Addr) (us:List Value) (kw:List (Str×Value)):
  Env0 P w K mg base (A.under (.builtin "type.__call__" ⟨.ref C::us,kw⟩)) outer s H:=⟨by first | exact e.frames | (simpa [Around.under,Code.envs,Code.isFrame,pushEnvs] using e.frames),e.mod,e.bs,e.bsz,e.funs,e.frf,e.hok,e.bare⟩
section
variable {X:Cx} {pins:List (Addr×Obj)} {σ:St} {H:Hp} {s s':Shared}
theorem Inv.env0 (I:Inv X pins σ H s):Env0 X.prog X.w X.K X.mg X.base X.A X.stack s H:=
 ⟨I.ok.frames,I.ok.mod,I.bs,Nat.le_trans I.ok.bsz I.sz,I.stack,I.stkFree,I.hok,I.bare⟩
theorem Inv.after {Q:VK} {u:Value} (I:Inv X pins σ H s) (h:CE X.stack X.prog X.w H s Q u s'):EP X pins σ Q u s':=by
 obtain ⟨v,H',os,bare,un,hok,r,q⟩:=h
 obtain ⟨hh,g,d,t,os'⟩:=s'
 obtain rfl:os'=s.os:=os
 exact ⟨v,H',I.call (h':=hh) (g':=g) (d':=d) (t':=t) (ch:=[]) un hok bare (fun b z=>absurd z (by simp)),r,q⟩
end
def tCall (sp:Sp) (dvs:List V) (E:XK) (t:TA):TE:=fun σ H Q=>t σ H fun vs H1=>sp (vs++dvs) H1 Q E
def tMake (C:Addr) (sp:Sp) (dvs:List V) (E:XK) (t:TA):TE:=fun σ H Q=>t σ H fun vs H1=>∀ x dx,H1 x=none->H1 dx=none->dx≠x->
 sp (.ref x::(vs++dvs)) (upd (upd H1 dx (.own x)) x (.ins C dx [])) (fun v H2=>v=.non/\Q (.ref x) H2) E
def Binds (K:Q0) (fd:FuncData) (ps:List Str) (ds:List Value):Prop:=
 ∀ (s:Shared) (us:List Value),K.In s.heap->(us++ds).length=ps.length->BindsTo s fd ⟨us,[]⟩ (ps.zip (us++ds))
theorem Binds.all {K:Q0} {fd:FuncData} {ps:List Str} (h:∀ us:List Value,us.length=ps.length->bindArgs fd ⟨us,[]⟩=pure (ps.zip us)):Binds K fd ps []:=fun s us _ hl=>by
 rw [List.append_nil] at hl ⊢
 exact .of_eq (h us hl)
def Passes (CX:CXT) (X:Cx) (E:XK):Prop:=∀ (pins:List (Addr×Obj)) (σ:St) (H:Hp) (s:Shared) (e:Value) (s':Shared),Inv X pins σ H s->CX X.stack H s E e s'->X.xe e s'
section
variable {X:Cx} {CX:CXT} {k:Nat} {f C:Addr} {fd:FuncData} {ps:List Str} {sp:Sp} {dvs:List V} {ds:List Value} {E:XK} {x m:Str} {p pos apos:Pos} {e o:Expr} {es:List Expr} {ta:TE} {t:TA}
theorem a0u {pins:List (Addr×Obj)} {σ:St} {H:Hp} {s:Shared} {Q:VK} {us:List Value} {vs:List V} (F:FnOk X.prog X.w X.K X.mg X.base CX k f fd ps sp) (hr:Room k X.A) (hb:Binds X.K fd ps ds) (hd:Vals dvs ds) (hx:Passes CX X E)
  (I:Inv X pins σ H s) (r:Vals vs us) (h:sp (vs++dvs) H Q E):wpAny (model X.prog X.w) X.A (call (.ref f) us) (EP X pins σ Q) X.xe s:=by
 have r2:Vals (vs++dvs) (us++ds):=r.append hd
 have hl:(us++ds).length=ps.length:=by rw [<- r2.length];exact F.len _ _ _ _ h
 refine wpAny_call (codeAny_mono (F.run X.A X.stack s H ⟨us,[]⟩ (us++ds) (vs++dvs) Q E hr I.env0 (hb s us I.kIn hl) r2 h) fun r s' hq=>?_)
 cases r with
 | error e=>exact hx pins σ H s e s' I hq
 | ok fl=>
  cases fl with
  | ret u=>exact I.after hq
  | next=>exact False.elim hq
  | brk=>exact False.elim hq
  | cont=>exact False.elim hq
theorem a0R (F:FnOk X.prog X.w X.K X.mg X.base CX k f fd ps sp) (hr:Room k X.A) (hg:Gl X x) (hm:X.mg x=some (.ref f)) (hk:PySem.W.keepIn X.K (.ref f)=true) (hb:Binds X.K fd ps ds) (hd:Vals dvs ds) (hx:Passes CX X E)
  (ha:PA X (e::es) t) (hdb:(x==("__debug__":Str))=false:=by decide) (he:starEach (e::es) X.env=(false,eval e X.env)::starEach es X.env:=by rfl) (hpl:(backTo pos (starEach es X.env)).any (·.1)=false:=by rfl):
  PE X (.Call (.Name x p) (e::es) [] pos) (tCall sp dvs E t):=by
 intro pins s σ H Q I h
 refine wpAny_Call_Name_kw (oI I hg hm ?_ hdb)
 refine PySem.W.callWith_K (h₀:=X.base) I.ok.mod.kin hk (thn (ha pos pins s σ H _ I h) fun us s1 ⟨vs,H1,I1,r,q⟩=>⟨I1.kIn,?_⟩) he hpl
 exact a0u F hr hb hd hx I1 r q
structure Mk (K:Q0) (C f:Addr):Prop where
 makes:PySem.W.makesIn K C=true
 init:PySem.W.findIn K (.ref C) "__init__"=some (some (.ref f))
 fn:PySem.W.isFn K (.ref f)=true
 kp:PySem.W.keepIn K (.ref C)=true
theorem yQ {pins:List (Addr×Obj)} {σ:St} {H:Hp} {s:Shared} {Q:VK} {us:List Value} {vs:List V} (M:Mk X.K C f) (F:FnOk X.prog X.w X.K X.mg X.base CX k f fd ps sp) (hr:Room (k+1) X.A) (hb:Binds X.K fd ps ds) (hd:Vals dvs ds)
  (hx:Passes CX X E) (I:Inv X pins σ H s) (r:Vals vs us)
  (h:∀ x dx,H x=none->H dx=none->dx≠x->sp (.ref x::(vs++dvs)) (upd (upd H dx (.own x)) x (.ins C dx [])) (fun v H2=>v=.non/\Q (.ref x) H2) E):
  wpAny (model X.prog X.w) X.A (call (.ref C) us) (EP X pins σ Q) X.xe s:=by
 have hq:=h (s.heap.objs.size+1) s.heap.objs.size (I.hok.fresh (Nat.le_succ _)) (I.hok.fresh (Qy _)) (Nat.ne_of_lt (Nat.lt_succ_self _))
 have I2:=Inv.made (C:=C) I
 have r2:Vals (V.ref (s.heap.objs.size+1)::(vs++dvs)) (Value.ref (s.heap.objs.size+1)::(us++ds)):=.cons rfl (r.append hd)
 have hl:(Value.ref (s.heap.objs.size+1)::us++ds).length=ps.length:=by
  have e:=r2.length
  rw [F.len _ _ _ _ hq] at e
  exact e.symm
 refine wpAny_call (wQ (f:=f) I.kIn M.makes M.init (beq_iff_eq.mp M.fn) (codeAny_mono (F.run _ X.stack _ _ ⟨Value.ref (s.heap.objs.size+1)::us,[]⟩ (Value.ref (s.heap.objs.size+1)::(us++ds)) _ _ E (hr.make C us [])
  (I2.env0.make C us []) (hb _ (Value.ref (s.heap.objs.size+1)::us) I2.kIn hl) r2 hq) fun r s' hq'=>?_))
 cases r with
 | error e=>exact hx pins σ _ _ e s' I2 hq'
 | ok fl=>
  cases fl with
  | ret u=>
   obtain ⟨v,H',I3,rv,ev,q3⟩:=I2.after hq'
   subst ev
   exact ⟨rv,⟨V.ref (s.heap.objs.size+1),H',I3,rfl,q3⟩⟩
  | next=>exact False.elim hq'
  | brk=>exact False.elim hq'
  | cont=>exact False.elim hq'
theorem a0N (M:Mk X.K C f) (F:FnOk X.prog X.w X.K X.mg X.base CX k f fd ps sp) (hr:Room (k+1) X.A) (hg:Gl X x) (hm:X.mg x=some (.ref C)) (hb:Binds X.K fd ps ds) (hd:Vals dvs ds) (hx:Passes CX X E)
  (ha:PA X (e::es) t) (hdb:(x==("__debug__":Str))=false:=by decide) (he:starEach (e::es) X.env=(false,eval e X.env)::starEach es X.env:=by rfl) (hpl:(backTo pos (starEach es X.env)).any (·.1)=false:=by rfl):
  PE X (.Call (.Name x p) (e::es) [] pos) (tMake C sp dvs E t):=by
 intro pins s σ H Q I h
 refine wpAny_Call_Name_kw (oI I hg hm ?_ hdb)
 refine PySem.W.callWith_K (h₀:=X.base) I.ok.mod.kin M.kp (thn (ha pos pins s σ H _ I h) fun us s1 ⟨vs,H1,I1,r,q⟩=>⟨I1.kIn,?_⟩) he hpl
 exact yQ M F hr hb hd hx I1 r q
end
section
variable {X:Cx} {CX:CXT} {k:Nat} {f C:Addr} {fd:FuncData} {ps ks:List Str} {sp:Sp} {E:XK} {x m:Str} {p pos apos kpos:Pos} {e o:Expr} {es:List Expr} {kws:List Keyword} {te ta:TE} {t tk:TA} {nm:Option Str}
variable {g:List Value->List Value->List Value} {gV:List V->List V->List V}
end
structure FnScope (N P:List Str) (sc:Scope):Prop where
 kind:sc.kind=.function
 co:sc.isCoroutine=false
 gen:sc.isGenerator=false
 nd:N.Nodup
 pre:N.take P.length=P
 par:∀ x∈P,sc.names.lookup x=some .local\/sc.names.lookup x=some .cell
 nofree:∀ y∈sc.names,y.2≠.free
theorem mM {kindOf:Str->Option NameKind} {x:Str}:∀ {binds:List (Str×Value)} {m:Str->Option Value},(∀ v,(x,v) ∉ binds)->bindL kindOf binds m x=m x
 | [],_,_=>rfl
 | (n,v)::r,m,h=>by
  unfold bindL
  rw [mM fun w hw=>h w (Qh _ hw)]
  split
  ·have:x≠n:=by rintro rfl;exact h v List.mem_cons_self
   simp [this]
  ·rfl
theorem mU {kindOf:Str->Option NameKind} {x:Str}:∀ {binds:List (Str×Value)} {m:Str->Option Value},(∀ v,(x,v) ∉ binds)->bindC kindOf binds m x=m x
 | [],_,_=>rfl
 | (n,v)::r,m,h=>by
  unfold bindC
  rw [mU fun w hw=>h w (Qh _ hw)]
  split
  ·rfl
  ·have:x≠n:=by rintro rfl;exact h v List.mem_cons_self
   simp [this]
theorem mI {kindOf:Str->Option NameKind} {x:Str} {v:Value}:∀ {P:List Str} {vs:List Value} {i:Nat} {m:Str->Option Value},P.Nodup->P[i]? =some x->vs[i]? =some v->kindOf x=some .local->
  bindL kindOf (P.zip vs) m x=some v
 | [],_,_,_,_,h,_,_=>by simp at h
 | _::_,[],_,_,_,_,h,_=>by simp at h
 | p::P,w::vs,0,m,nd,h1,h2,hk=>by
  simp at h1 h2;subst h1;subst h2
  show bindL kindOf ((p,w)::P.zip vs) m p=_
  unfold bindL
  rw [mM fun v hv=>(List.nodup_cons.mp nd).1 (List.of_mem_zip hv).1,if_pos hk]
  simp
 | p::P,w::vs,i+1,m,nd,h1,h2,hk=>by
  show bindL kindOf ((p,w)::P.zip vs) m x=_
  unfold bindL
  exact mI (i:=i) (List.nodup_cons.mp nd).2 (by simpa using h1) (by simpa using h2) hk
theorem mV {kindOf:Str->Option NameKind} {x:Str} {v:Value}:∀ {P:List Str} {vs:List Value} {i:Nat} {m:Str->Option Value},P.Nodup->P[i]? =some x->vs[i]? =some v->kindOf x≠some .local->
  bindC kindOf (P.zip vs) m x=some v
 | [],_,_,_,_,h,_,_=>by simp at h
 | _::_,[],_,_,_,_,h,_=>by simp at h
 | p::P,w::vs,0,m,nd,h1,h2,hk=>by
  simp at h1 h2;subst h1;subst h2
  show bindC kindOf ((p,w)::P.zip vs) m p=_
  unfold bindC
  rw [mU fun v hv=>(List.nodup_cons.mp nd).1 (List.of_mem_zip hv).1,if_neg hk]
  simp
 | p::P,w::vs,i+1,m,nd,h1,h2,hk=>by
  show bindC kindOf ((p,w)::P.zip vs) m x=_
  unfold bindC
  exact mV (i:=i) (List.nodup_cons.mp nd).2 (by simpa using h1) (by simpa using h2) hk
def start (N:List Str) (vs:List V):St:=vs.map some++List.replicate (N.length - vs.length) none
def cxOf (CX:CXT) (P:Program) (w:World) (K:Q0) (mg:Str->Option Value) (base:Heap) (N:List Str) (qual:Str) (scope:Scope) (f:Addr) (cd:Value) (A:Around) (outer:List Env) (s:Shared) (H:Hp) (E:XK):Cx where
 prog:=P
 w:=w
 K:=K
 mg:=mg
 base:=base
 A:=A.deeper (envOfC qual scope s.heap.objs.size f cd)
 N:=N
 s₀:=s
 H₀:=H
 env:=envOfC qual scope s.heap.objs.size f cd
 outer:=outer
 stack:=envOfC qual scope s.heap.objs.size f cd::outer
 ex:=[]
 calm:=true
 fn:=fun _=>true
 pn:=[]
 xe:=fun e s'=>wpAny (model P w) (A.deeper (envOfC qual scope s.heap.objs.size f cd)) (leaving (envOfC qual scope s.heap.objs.size f cd) e) (fun _ s''=>CX outer H s E e s'') (fun e' s''=>CX outer H s E e' s'') s'
theorem pJ {sc:Scope} {n:Nat} {x:Str} (h:sc.names.lookup x=some .cell):∃ c,(cellsFrom n sc.names []).lookup x=some c:=by
 have q:=PySem.W.cellsFrom_some sc.names n [] (.inl h)
 exact Option.isSome_iff_exists.mp q
theorem vB {CX:CXT} {P:Program} {w:World} {K:Q0} {mg:Str->Option Value} {base:Heap} {N ps:List Str} {qual:Str} {scope:Scope} {f:Addr} {cd:Value} {A:Around} {outer:List Env} {s s1:Shared} {H:Hp} {E:XK} {us:List Value} {vs:List V}
  (S:FnScope N ps scope) (hd:A.handled=none) (e0:Env0 P w K mg base A outer s H) (hl:vs.length=ps.length) (r:Vals vs us)
  (x:InCallC s s.heap.objs.size (bindL (envOfC qual scope s.heap.objs.size f cd).kindOf (ps.zip us) fun _=>none) (cellsFrom (s.heap.objs.size+1) scope.names []) (bindC (envOfC qual scope s.heap.objs.size f cd).kindOf (ps.zip us) fun _=>none) s1):
  Inv (cxOf CX P w K mg base N qual scope f cd A outer s H E) [] (start N vs) H s1:=by
 have hpl:ps.length<=N.length:=by have:=congrArg List.length S.pre;rw [List.length_take] at this;omega
 obtain ⟨h1,tk,rfl,hk⟩:=x.done
 have noA:∀ b:Addr,b ∉ (cxOf CX P w K mg base N qual scope f cd A outer s H E).ex:=fun b z=>absurd (show b∈([]:List Addr) from z) (by simp)
 refine ⟨⟨e0.mod,S.kind,rfl,rfl,Qy _,fun y z c h1 h2=>?_,fun y hy=>?_,fun y c _ h=>?_,fun _=>hd,Around.frames_deeper e0.frames,.inr ⟨rfl,rfl⟩,fun b z=>absurd z (noA b),e0.bs,e0.bsz,fun b _ _=>noA b,fun b z=>absurd z (noA b),e0.funs,e0.frf⟩,
  rfl,e0.bare,Un.kept hk,⟨_,x.toInCall.ns,fun i y v h1 h2 h3=>?_⟩,fun y c h=>⟨_,x.cell y c h⟩,e0.hok.fresh (Qy _),fun y c h=>?_,fun p hp=>absurd (show p∈([]:List (Addr×Obj)) from hp) (by simp),e0.hok.kept hk,?_⟩
 ·exact name_of_addr x.apart (PySem.mem_of_lookup h1) (PySem.mem_of_lookup h2)
 ·have hy:scope.names.lookup y=some .cell\/scope.names.lookup y=some .free:=hy
  rcases hy with hy | hy
  ·exact pJ hy
  ·exact absurd rfl (S.nofree _ (PySem.mem_of_lookup hy))
 ·exact Nat.le_of_lt (x.above y c (PySem.mem_of_lookup h))
 ·have hi:i < vs.length:=by
   unfold start at h2
   by_cases hi:i < vs.length
   ·exact hi
   ·rw [List.getElem?_append_right (by simpa using hi)] at h2
    rw [List.getElem?_replicate] at h2
    split at h2<;>cases h2
  have ha:vs[i]? =some v:=by
   unfold start at h2
   rw [Qg (by simpa using hi),Qq] at h2
   cases e:vs[i]? with
   | none=>rw [e] at h2;cases h2
   | some a=>rw [e] at h2;cases h2;rfl
  obtain ⟨u,hu,rv⟩:=r.get ha
  have hp:ps[i]? =some y:=by
   rw [<- S.pre,List.getElem?_take_of_lt (by omega)];exact h1
  have ndP:ps.Nodup:=by rw [<- S.pre];exact S.nd.sublist (List.take_sublist _ _)
  refine ⟨u,rv,?_⟩
  rcases S.par y (QC hp) with k | k
  ·exact .inl ⟨k,mI ndP hp hu k⟩
  ·obtain ⟨c,e⟩:=pJ (n:=s.heap.objs.size+1) k
   refine .inr ⟨.inl k,c,e,?_⟩
   have q:=x.cell y c e
   rw [mV ndP hp hu (by show scope.names.lookup y≠_;rw [k];decide)] at q
   exact q
 ·exact e0.hok.fresh (Nat.le_of_lt (x.above y c (PySem.mem_of_lookup h)))
 ·unfold start
  show _=N.length
  rw [Qk,Ql,List.length_replicate]
  omega
theorem a0Z {CX:CXT} {P:Program} {w:World} {K:Q0} {mg:Str->Option Value} {base:Heap} {k:Nat} {f:Addr} {name qual:Str} {params:Arguments} {body:List Stmt} {scope:Scope} {dV kV doc pm cdv ct oc:Value} {an od:Option Addr}
  {osl:Array (Option Value)} {N ps:List Str} {sp:Sp} (lk:K.lookup f=some ⟨oc,od,.func (PySem.W.fnOf name qual params body scope dV kV doc pm an cdv ct),osl⟩) (hcd:PySem.W.codeIn K cdv qual=true) (S:FnScope N ps scope)
  (len:∀ vs H Q E,sp vs H Q E->vs.length=ps.length)
  (hbody:∀ (A:Around) (outer:List Env) (s:Shared) (H:Hp) (vs:List V) (Q:VK) (E:XK),Room k (A.deeper (envOfC qual scope s.heap.objs.size f cdv))->sp vs H Q E->
   ∃ t,PSs (cxOf CX P w K mg base N qual scope f cdv A outer s H E) body t/\t {nx:=fun _ H'=>Q .non H',rt:=Q} (start N vs) H):
  FnOk P w K mg base CX (k+1) f (PySem.W.fnOf name qual params body scope dV kV doc pm an cdv ct) ps sp:=by
 refine ⟨len,fun A outer s H args us vs Q E hr e0 hb r hsp=>?_⟩
 have hl:=len _ _ _ _ hsp
 have KX:K.In s.heap:=e0.mod.kin.keeps fun b o e=>(e0.bs b o e).1
 have lim:s.heap.NoLimit:=e0.mod.nolimit.keeps fun b o e=>(e0.bs b o e).1
 have hkind:∀ y∈ps.zip us,scope.names.lookup y.1=some .local\/(scope.names.lookup y.1=some .cell/\((cellsFrom (s.heap.objs.size+1) scope.names []).lookup y.1).isSome=true):=fun ⟨n,v⟩ hy=>by
  rcases S.par n (List.of_mem_zip hy).1 with q | q
  ·exact .inl q
  ·exact .inr ⟨q,PySem.W.cellsFrom_some _ _ _ (.inl q)⟩
 refine codeAny_call_function hr.depth (KX _ _ lk) rfl S.co S.gen rfl (PySem.W.codeRec_of KX hcd) (hb _ _ _ _ ?_)
 refine wpAny_newFunctionEnv_cells S.kind hkind fun env he s1 x=>?_
 subst he
 refine ⟨lim.keeps x.toInCall.keep,codeAny_func ?_⟩
 obtain ⟨t,ht,hq⟩:=hbody A outer s H vs Q E (hr.deeper _) hsp
 have I:Inv (cxOf CX P w K mg base N qual scope f cdv A outer s H E) [] (start N vs) H s1:=vB S hr.hd e0 hl r x
 refine wpAny_mono (ht [] s1 (start N vs) H _ I hq) (fun fl s' hs=>?_) fun e s' hs=>hs
 have fin:∀ {σ':St} {H':Hp} {v:V} {u:Value},Inv (cxOf CX P w K mg base N qual scope f cdv A outer s H E) [] σ' H' s'->RelV v u->Q v H'->CE outer P w H s Q u s':=
  fun {σ' H' v u} J rv q=>⟨v,H',J.os,J.bare,J.base,J.hok,rv,q⟩
 cases fl with
 | ret u=>
  obtain ⟨v,σ',H',J,rv,q⟩:=hs
  exact fin J rv q
 | next=>
  obtain ⟨σ',H',J,q⟩:=hs
  exact fin (v:=V.non) (u:=Value.none) J rfl q
 | brk=>
  obtain ⟨_,_,_,q⟩:=hs
  exact False.elim q
 | cont=>
  obtain ⟨_,_,_,q⟩:=hs
  exact False.elim q
end L2
namespace L2
open PySem PySem.Spec PyProof.Rows
section
variable {X:Cx} {x:Str} {p pos:Pos} {e:Expr} {es:List Expr} {t:TA} {id T:String} {r:List V->Hp->VK->Prop}
def tCB (r:List V->Hp->VK->Prop) (t:TA):TE:=fun σ H Q=>t σ H fun vs H1=>r vs H1 Q
theorem yI (hc:CallR X (.builtin id) r) (hg:Gl X x) (hm:X.mg x=none) (hv:bootBuiltins x=some (.builtin id)) (ha:PA X (e::es) t) (hn:x≠"__name__":=by decide) (hdb:(x==("__debug__":Str))=false:=by decide)
  (he:starEach (e::es) X.env=(false,eval e X.env)::starEach es X.env:=by rfl) (hpl:(backTo pos (starEach es X.env)).any (·.1)=false:=by rfl):PE X (.Call (.Name x p) (e::es) [] pos) (tCB r t):=by
 intro pins s σ H Q I h
 refine wpAny_Call_Name_kw (lO I hg hm hv ?_ hn hdb)
 exact PyProof.Rows.callWith_builtin1 (thn (ha pos pins s σ H _ I h) fun us s1 ⟨vs,H1,I1,r1,q1⟩=>hc pins s1 σ H1 vs us Q I1 r1 q1) he hpl
theorem vT (hc:CallR X (.type T) r) (hg:Gl X x) (hm:X.mg x=none) (hv:bootBuiltins x=some (.type T)) (ha:PA X (e::es) t) (hn:x≠"__name__":=by decide) (hdb:(x==("__debug__":Str))=false:=by decide)
  (he:starEach (e::es) X.env=(false,eval e X.env)::starEach es X.env:=by rfl) (hpl:(backTo pos (starEach es X.env)).any (·.1)=false:=by rfl):PE X (.Call (.Name x p) (e::es) [] pos) (tCB r t):=by
 intro pins s σ H Q I h
 refine wpAny_Call_Name_kw (lO I hg hm hv ?_ hn hdb)
 exact PyProof.Rows.callWith_type1 (thn (ha pos pins s σ H _ I h) fun us s1 ⟨vs,H1,I1,r1,q1⟩=>hc pins s1 σ H1 vs us Q I1 r1 q1) he hpl
end
end L2
namespace HT
open PySem PyProof.Rows
section
open PySem.SeqAt
open PySem.AutoSeq1 (wpAny_loadPart')
open PySem.MeetsSeq PySem.MeetsSeq2 PySem.MeetsSeq3
end
section
variable {prog:Program} {w:World} {A:Around} {E:Value->Shared->Prop} {s:Shared}
theorem zE {t b:Addr} {vs ws:List Value} {Q:Value->Shared->Prop} (ht:IsTup s.heap t vs.toArray) (hb:IsTup s.heap b ws.toArray) (hv:vs≠[])
  (h1:ws=[]->Q (.ref t) s) (h2:ws≠[]->Q (.ref s.heap.objs.size) {s with heap:=s.heap.push {cls:=.type "tuple",data:=.seq (vs++ws).toArray}})
  (hsz:vs.length+ws.length<=sizeLine):wpAny (model prog w) A (binaryOp .Add (.ref t) (.ref b)) Q E s:=by
 obtain ⟨⟨cls,dd,data,sl⟩,ho,hc,n,hd⟩:=id ht
 obtain ⟨⟨cls2,dd2,data2,sl2⟩,ho2,hc2,n2,hd2⟩:=id hb
 simp only at hc hd hc2 hd2
 subst hc hd hc2 hd2
 have e:vs.toArray++ws.toArray=(vs++ws).toArray:=by simp
 by_cases hw:ws=[]
 ·exact concat_meets ⟨_,ho,rfl⟩ ⟨_,ho2,rfl⟩ noFill_tuple_add seq_tuple_add PySem.F.slot_tuple_add PySem.F.entry_tuple_add (PySem.F.args_tuple_add_2 _ _)
   (tuple_addW1 t b vs.toArray ws.toArray n n2 dd dd2 sl sl2 (by simpa using hv) (by simp [hw])) ⟨ho,ho2,h1 hw⟩
 ·refine concat_meets ⟨_,ho,rfl⟩ ⟨_,ho2,rfl⟩ noFill_tuple_add seq_tuple_add PySem.F.slot_tuple_add PySem.F.entry_tuple_add (PySem.F.args_tuple_add_2 _ _)
   (tuple_addW2 t b vs.toArray ws.toArray n n2 dd dd2 sl sl2 (by simpa using hv) (by simpa using hw) (by rw [List.size_toArray,List.size_toArray];exact hsz)) ⟨ho,ho2,?_⟩
  rw [e]
  exact h2 hw
def sIx (n d:Nat):Option Int->Nat
 | none=>d
 | some v=>if v < 0 then (v+(n:Int)).toNat else min v.toNat n
theorem oP (n d:Nat):sIx n d none=d:=rfl
theorem j0 (n d k:Nat):sIx n d (some (k:Int))=min k n:=by
 show (if (k:Int) < 0 then ((k:Int)+(n:Int)).toNat else min (k:Int).toNat n)=min k n
 rw [if_neg (by omega),Int.toNat_natCast]
theorem a1n (n d:Nat) (hd:d<=n) (o:Option Int):sIx n d o<=n:=by
 cases o with
 | none=>exact hd
 | some v=>
  show (if v < 0 then (v+(n:Int)).toNat else min v.toNat n)<=n
  by_cases hv:v < 0
  ·rw [if_pos hv];omega
  ·rw [if_neg hv];exact Nat.min_le_right _ _
theorem tD (v:Int) (n d:Nat):(if v < 0 then max (v+(n:Int)) 0 else min v (n:Int))=((sIx n d (some v):Nat):Int):=by
 show (if v < 0 then max (v+(n:Int)) 0 else min v (n:Int))=(((if v < 0 then (v+(n:Int)).toNat else min v.toNat n):Nat):Int)
 by_cases hv:v < 0
 ·simp only [if_pos hv];omega
 ·simp only [if_neg hv];omega
theorem rG (lo hi:Option Int) (n:Nat):Builtin.Slice.sliceAdjust lo hi 1 (n:Int)=(((sIx n 0 lo:Nat):Int),((sIx n n hi:Nat):Int)):=by
 have h1:¬((1:Int) < 0):=by omega
 unfold Builtin.Slice.sliceAdjust
 simp only [h1,if_false]
 refine Prod.ext ?_ ?_
 ·cases lo with
  | none=>rfl
  | some v=>exact tD v n 0
 ·cases hi with
  | none=>rfl
  | some v=>exact tD v n n
theorem rW (i j:Nat):Builtin.Slice.slicePlaces (i:Int) (j:Int) 1=j - i:=by
 unfold Builtin.Slice.slicePlaces
 have h1:(1:Int) > 0:=by omega
 simp only [h1,if_true,Int.ediv_one]
 split<;>omega
theorem kX {v:Value} {o:Option Int} {Q:Option Int->Shared->Prop} (p:IsPart v o) (h:Q o s):wpAny (model prog w) A (Builtin.Slice.slicePartIndex v) Q E s:=by
 cases p with
 | none=>exact slicePart_none h
 | int i t=>exact slicePart_int h
theorem jA {sl:Addr} {vl vu:Value} {lo hi:Option Int} {n:Nat} {Q:Int×Int×Nat->Shared->Prop} (hs:s.heap.IsSliceOf sl vl vu .none) (pl:IsPart vl lo) (pu:IsPart vu hi)
  (h:Q (((sIx n 0 lo:Nat):Int),1,sIx n n hi - sIx n 0 lo) s):wpAny (model prog w) A (Builtin.Slice.sliceApplied (.ref sl) (pure (n:Int))) Q E s:=by
 obtain ⟨os,hos,hcs,hds⟩:=id hs
 unfold Builtin.Slice.sliceApplied Builtin.Slice.sliceFields
 refine QT (QT (wpAny_field hos hds (x:=vl) rfl (QT (wpAny_field hos hds (x:=vu) rfl (QT (wpAny_field hos hds (x:=.none) rfl (QU ?_)))))))
 refine QT (slicePart_none ?_)
 show wpAny _ _ (if ((1:Int)==0)=true then _ else _) _ _ s
 rw [if_neg (by decide)]
 refine QT (kX pl (QT (kX pu (QT (QU ?_)))))
 show wpAny _ _ (match Builtin.Slice.sliceAdjust lo hi 1 (n:Int) with | (lo,hi)=>pure (lo,(1:Int),Builtin.Slice.slicePlaces lo hi 1)) _ _ s
 rw [rG lo hi n]
 show wpAny _ _ (pure (((sIx n 0 lo:Nat):Int),(1:Int),Builtin.Slice.slicePlaces ((sIx n 0 lo:Nat):Int) ((sIx n n hi:Nat):Int) 1)) _ _ s
 rw [rW]
 exact QU h
theorem xS (xs:Array Value) (i k:Nat):((List.range k).filterMap fun (m:Nat)=>xs[((i:Int)+(m:Int)*1).toNat]?).toArray=((xs.toList.drop i).take k).toArray:=by
 have e:(fun (m:Nat)=>xs[((i:Int)+(m:Int)*1).toNat]?)=fun m=>xs[i+m]?:=by
  funext m
  have:((i:Int)+(m:Int)*1).toNat=i+m:=by omega
  rw [this]
 rw [e]
 have:=pick_run xs i k
 rw [List.filterMap_map] at this
 have e2:((fun x=>xs[x]?)∘fun x=>i+x)=fun m=>xs[i+m]?:=rfl
 rw [e2] at this
 rw [this]
theorem iR {t sl:Addr} {items:Array Value} {vl vu:Value} {lo hi:Option Int} {Q:Value->Shared->Prop} (ht:IsTup s.heap t items) (hs:s.heap.IsSliceOf sl vl vu .none) (pl:IsPart vl lo) (pu:IsPart vu hi)
  (hw:¬(sIx items.size 0 lo=0/\sIx items.size items.size hi=items.size))
  (h:Q (.ref s.heap.objs.size) {s with heap:=s.heap.push {cls:=.type "tuple",data:=.seq ((items.toList.drop (sIx items.size 0 lo)).take (sIx items.size items.size hi - sIx items.size 0 lo)).toArray}})
  (hsz:items.size<=sizeLine):wpAny (model prog w) A (getItem (.ref t) (.ref sl)) Q E s:=by
 have htake:sizeOk (.seq ((items.toList.drop (sIx items.size 0 lo)).take (sIx items.size items.size hi - sIx items.size 0 lo)).toArray):=by
  show ((items.toList.drop (sIx items.size 0 lo)).take (sIx items.size items.size hi - sIx items.size 0 lo)).toArray.size<=sizeLine
  rw [List.size_toArray,List.length_take,List.length_drop,Array.length_toList]
  omega
 have hj:sIx items.size items.size hi<=items.size:=a1n _ _ (Qy _) hi
 obtain ⟨os,hos,hcs,hds⟩:=id hs
 have hTs:s.TypeIs (.ref sl) "slice":=⟨os,hos,hcs⟩
 unfold getItem
 try with_reducible refine wpAny_holding ?_
 first | refine QT (QU ?_) | skip
 refine QT (wpAny_sequenceKey ht.typeIs (by decide) ?_)
 refine QT (wpAny_callSpecial?_slot (name:=Str.ofString "__getitem__") ht.typeIs PyProof.Rows.slot_tuple_getitem
  (wpAny_call_entry PyProof.Rows.slot_tuple_getitem ht.typeIs entry_tuple_getitem ?_ (args_tuple_getitem _ _)))
 show wpAny _ _ (Builtin.Tuple.tupleItemsOf (.ref t) >>=_) _ _ s
 refine QT (tupleItemsOf_ ht ?_)
 refine QT (wpAny_typeOf hTs ?_)
 rw [if_pos (by decide)]
 refine QT (jA hs pl pu ?_)
 have hno:¬((((sIx items.size 0 lo:Nat):Int)==0&&(1:Int)==1&&(sIx items.size items.size hi - sIx items.size 0 lo)==items.size)=true):=by
  intro q
  rw [Bool.and_eq_true,Bool.and_eq_true] at q
  have q1:((sIx items.size 0 lo:Nat):Int)=0:=eq_of_beq q.1.1
  have q2:sIx items.size items.size hi - sIx items.size 0 lo=items.size:=eq_of_beq q.2
  exact hw ⟨by omega,by omega⟩
 show wpAny _ _ (if (((sIx items.size 0 lo:Nat):Int)==0&&(1:Int)==1&&(sIx items.size items.size hi - sIx items.size 0 lo)==items.size)=true then _ else _) _ _ s
 rw [if_neg hno,xS]
 first
  | exact QT (m:=Builtin.Tuple.tupleExact _) (wpAny_newObj_type (QU ⟨_,rfl,QU h⟩) htake)
  | exact QT (m:=Builtin.Tuple.tupleExact _) (wpAny_newObj_type (QT (QU (QU ⟨_,rfl,QU h⟩))) htake)
  | exact QT (QT (m:=Builtin.Tuple.tupleExact _) (wpAny_newObj_type (QU (QU ⟨_,rfl,QU h⟩)) htake))
  | exact QT (QT (m:=Builtin.Tuple.tupleExact _) (wpAny_newObj_type (QU ⟨_,rfl,QU h⟩) htake))
end
end HT
namespace L2
open PySem PySem.Spec PyProof.Rows
abbrev TO:=St->Hp->(Option Int->Hp->Prop)->Prop
def PO (X:Cx) (e:Option Expr) (t:TO):Prop:=
 ∀ (pins:List (Addr×Obj)) (s:Shared) (σ:St) (H:Hp) (Q:Option Int->Hp->Prop),Inv X pins σ H s->t σ H Q->
  wpAny (model X.prog X.w) X.A (evalPart e X.env) (fun u s'=>∃ o H',Inv X pins σ H' s'/\IsPart u o/\Q o H') X.xe s
def tNoPart:TO:=fun _ H Q=>Q none H
def tPart (t:TE):TO:=fun σ H Q=>t σ H fun x H1=>∃ i,x=.int i/\Q (some i) H1
section
variable {X:Cx} {e:Expr} {te:TE} {lo hi:Option Expr} {tl th:TO} {pos p2:Pos}
theorem zF:PO X none tNoPart:=by
 intro pins s σ H Q I h
 rw [evalPart_none]
 exact QU ⟨none,H,I,.none,h⟩
theorem a0E (h:PE X e te):PO X (some e) (tPart te):=by
 intro pins s σ H Q I hw
 rw [evalPart_some]
 refine thn (h pins s σ H _ I hw) ?_
 rintro u s1 ⟨x,H1,I1,r1,q1⟩
 obtain ⟨i,rfl,q⟩:=q1
 obtain ⟨t,rfl⟩:=r1
 exact ⟨some i,H1,I1,.int i t,q⟩
def SlR (X:Cx) (r:V->Option Int->Option Int->Hp->VK->Prop):Prop:=
 ∀ (pins:List (Addr×Obj)) (s:Shared) (σ:St) (H:Hp) (x:V) (v vl vu:Value) (lo hi:Option Int) (sl:Addr) (Q:VK),Inv X pins σ H s->RelV x v->s.heap.IsSliceOf sl vl vu .none->IsPart vl lo->IsPart vu hi->r x lo hi H Q->
  ∃ T id,typeLookup (.type T) "__getitem__"=pure (some (.builtin id))/\s.TypeIs v T/\wpAny (model X.prog X.w) X.A (getItem v (.ref sl)) (EP X pins σ Q) X.xe s
theorem SlR.or {r r':V->Option Int->Option Int->Hp->VK->Prop} (h:SlR X r) (h':SlR X r'):SlR X (fun x lo hi H Q=>r x lo hi H Q\/r' x lo hi H Q):=by
 intro pins s σ H x v vl vu lo hi sl Q I rx hs pl pu q
 rcases q with q | q
 ·exact h pins s σ H x v vl vu lo hi sl Q I rx hs pl pu q
 ·exact h' pins s σ H x v vl vu lo hi sl Q I rx hs pl pu q
def tSl (r:V->Option Int->Option Int->Hp->VK->Prop) (te:TE) (tl th:TO):TE:=fun σ H Q=>te σ H fun x H1=>tl σ H1 fun l H2=>th σ H2 fun u H3=>r x l u H3 Q
theorem xI {r:V->Option Int->Option Int->Hp->VK->Prop} (hr:SlR X r) (he:PE X e te) (hl:PO X lo tl) (hu:PO X hi th):PE X (.Subscript e (.Slice lo hi none p2) pos) (tSl r te tl th):=by
 intro pins s σ H Q I h
 refine Subscript_ (thn (he pins s σ H _ I h) ?_)
 rintro v s1 ⟨x,H1,I1,r1,q1⟩
 refine wpAny_Slice (thn (hl pins s1 σ H1 _ I1 q1) fun vl s2 ⟨l,H2,I2,pl,q2⟩=>thn (hu pins s2 σ H2 _ I2 q2) fun vu s3 ⟨u,H3,I3,pu,q3⟩=>?_)
 rw [evalPart_none]
 refine QU ?_
 have I4:Inv X pins σ H3 {s3 with heap:=s3.heap.push {cls:=.type "slice",data:=.fields #[vl,vu,.none]}}:=I3.kept (t':=s3.toks) fun b ob q=>Qc _ q
 obtain ⟨T,id,hT,ht,hg⟩:=hr pins {s3 with heap:=s3.heap.push {cls:=.type "slice",data:=.fields #[vl,vu,.none]}} σ H3 x v vl vu l u s3.heap.objs.size Q I4 r1 (Heap.IsSliceOf.new ..) pl pu q3
 show wpAny (model X.prog X.w) X.A (subscriptTail e (.Slice lo hi none p2) v (.ref s3.heap.objs.size)) (EP X pins σ Q) X.xe {s3 with heap:=s3.heap.push {cls:=.type "slice",data:=.fields #[vl,vu,.none]}}
 exact tail_any (ops:=[.ref s3.heap.objs.size,v]) ht hT hg (by with_unfolding_all rfl)
def cutV (xs:List V) (lo hi:Option Int):List V:=(xs.drop (HT.sIx xs.length 0 lo)).take (HT.sIx xs.length xs.length hi - HT.sIx xs.length 0 lo)
theorem jS (xs:List V) (lo hi:Option Int):(cutV xs lo hi).length<=xs.length:=by
 unfold cutV
 rw [List.length_take,List.length_drop]
 omega
def rSlT (K:Q0):V->Option Int->Option Int->Hp->VK->Prop:=fun x lo hi H Q=>∃ a xs,x=.ref a/\SqT K H a xs/\
 ¬(HT.sIx xs.length 0 lo=0/\HT.sIx xs.length xs.length hi=xs.length)/\∀ p,H p=none->Q (.ref p) (upd H p (.tup (cutV xs lo hi)))
theorem a1p:SlR X (rSlT X.K):=by
 intro pins s σ H x v vl vu lo hi sl Q I rx hs pl pu h
 obtain ⟨a,xs,rfl,hx,hw,q⟩:=h
 cases rx
 obtain ⟨its,r,ht,hz⟩:=I.tuple hx
 have hlen:its.toArray.size=xs.length:=by rw [List.size_toArray];exact r.length.symm
 refine ⟨"tuple",_,PyProof.Rows.slot_tuple_getitem.lookup,ht.typeIs,?_⟩
 refine HT.iR ht hs pl pu (by rw [hlen];exact hw) ?_ (by rw [hlen];exact hz)
 rw [hlen]
 refine ⟨.ref s.heap.objs.size,_,I.laid (t':=s.toks) (o:=.tup (cutV xs lo hi)) (fun b ob q=>Qc _ q) (Qy _) ?_,rfl,q _ (I.hok.fresh (Qy _))⟩
 exact ⟨⟨Nat.le_trans (jS xs lo hi) hz,NoDct.new rfl rfl⟩,_,(r.drop (HT.sIx xs.length 0 lo)).take (HT.sIx xs.length xs.length hi - HT.sIx xs.length 0 lo),IsTup.new _ _⟩
def rCatT (K:Q0):R2:=fun x y H Q=>∃ a b xs ys,x=.ref a/\y=.ref b/\SqT K H a xs/\SqT K H b ys/\xs≠[]/\xs.length+ys.length<=sizeLine/\
 (ys=[]->Q (.ref a) H)/\(ys≠[]->∀ p,H p=none->Q (.ref p) (upd H p (.tup (xs++ys))))
theorem Vals.nil_iff {xs:List V} {us:List Value} (r:Vals xs us):us=[]↔xs=[]:=by
 cases r with
 | nil=>simp
 | cons _ _=>simp
theorem yU:OpR X (binaryOp .Add) (rCatT X.K):=by
 intro pins s σ H x y v u Q I rx ry h
 obtain ⟨a,b,xs,ys,rfl,rfl,ha,hb,hx,hz,q1,q2⟩:=h
 cases rx
 cases ry
 obtain ⟨its,r1,p1,_⟩:=I.tuple ha
 obtain ⟨its2,r2,p2,_⟩:=I.tuple hb
 refine HT.zE p1 p2 (fun z=>hx (r1.nil_iff.mp z)) (fun z=>⟨.ref a,H,I,rfl,q1 (r2.nil_iff.mp z)⟩) (fun z=>?_) (by rw [<- r1.length,<- r2.length];exact hz)
 refine ⟨.ref s.heap.objs.size,_,I.laid (t':=s.toks) (o:=.tup (xs++ys)) (fun b ob q=>Qc _ q) (Qy _) ?_,rfl,q2 (fun w=>z (r2.nil_iff.mpr w)) _ (I.hok.fresh (Qy _))⟩
 exact ⟨⟨by rw [Qk];exact hz,NoDct.new rfl rfl⟩,_,r1.append r2,IsTup.new _ _⟩
end
end L2
namespace L2
open PySem PySem.Spec PyProof.Rows
def ixN (n:Nat) (i:Int):Option Nat:=if 0<=i then (if i < n then some i.toNat else none) else if -(n:Int)<=i then some (i+n).toNat else none
def atI {α:Type} (xs:List α) (i:Int):Option α:=(ixN xs.length i).bind fun j=>xs[j]?
theorem o8 {n:Nat} {i:Int} {j:Nat} (h:ixN n i=some j):seqIndex? i n=some j/\j < n/\ -(n:Int)<=i/\i < n:=by
 unfold ixN at h
 by_cases h0:0<=i
 ·rw [if_pos h0] at h
  by_cases h1:i < n
  ·rw [if_pos h1] at h
   have e:i.toNat=j:=QD h
   exact ⟨by rw [seqIndex_of h0 h1,e],by omega,by omega,h1⟩
  ·rw [if_neg h1] at h;cases h
 ·rw [if_neg h0] at h
  by_cases h1: -(n:Int)<=i
  ·rw [if_pos h1] at h
   have e:(i+n).toNat=j:=QD h
   exact ⟨by rw [seqIndex_neg (by omega) h1,e],by omega,h1,by omega⟩
  ·rw [if_neg h1] at h;cases h
theorem nS {α:Type} {xs:List α} {i:Int} {v:α} (h:atI xs i=some v):∃ j,seqIndex? i xs.length=some j/\xs[j]? =some v/\j < xs.length/\ -(xs.length:Int)<=i/\i < xs.length:=by
 unfold atI at h
 cases e:ixN xs.length i with
 | none=>rw [e] at h;cases h
 | some j=>
  rw [e] at h
  obtain ⟨h1,h2,h3,h4⟩:=o8 e
  exact ⟨j,h1,h,h2,h3,h4⟩
theorem dN {α:Type} {xs:List α} {j:Nat} {v:α} (h:xs[j]? =some v):atI xs (j:Int)=some v:=by
 have hj:j < xs.length:=(List.getElem?_eq_some_iff.mp h).1
 have e:ixN xs.length (j:Int)=some j:=by
  unfold ixN
  rw [if_pos (by omega),if_pos (by omega)];simp
 unfold atI;rw [e];exact h
def PlainIx (b:Expr):Prop:=∀ o i,subscripted b false o i=operate [o,i] (getItem o i)
def IxR (X:Cx) (r:R2):Prop:=
 ∀ (value slice:Expr) (pins:List (Addr×Obj)) (s:Shared) (σ:St) (H:Hp) (x y:V) (v u:Value) (Q:VK),Inv X pins σ H s->RelV x v->RelV y u->r x y H Q->
  subscripted slice false v u=operate [v,u] (getItem v u)->wpAny (model X.prog X.w) X.A (subscriptTail value slice v u) (EP X pins σ Q) X.xe s
def MtR (X:Cx) (id:String) (r:V->List V->Hp->VK->Prop):Prop:=
 ∀ (pins:List (Addr×Obj)) (s:Shared) (σ:St) (H:Hp) (x:V) (xs:List V) (v:Value) (us:List Value) (Q:VK),Inv X pins σ H s->RelV x v->Vals xs us->r x xs H Q->
  wpAny (model X.prog X.w) X.A (call (.builtin id) (v::us)) (EP X pins σ Q) X.xe s
section
variable {X:Cx} {a b:Expr} {ta tb:TE} {pos:Pos}
theorem a23 {r:R2} (hr:IxR X r) (ha:PE X a ta) (hb:PE X b tb) (hs:PlainIx b):PE X (.Subscript a b pos) (tOp r ta tb):=by
 intro pins s σ H Q I h
 exact Subscript_ (binT ha hb I h fun v u s2 x y H2 I2 rx ry q=>hr a b pins s2 σ H2 x y v u Q I2 rx ry q (hs _ _))
def rIxL (K:Q0):R2:=fun x y H Q=>∃ p xs i v,x=.ref p/\y=.int i/\SqL K H p xs/\atI xs i=some v/\Q v H
def rIxT (K:Q0):R2:=fun x y H Q=>∃ p xs i v,x=.ref p/\y=.int i/\SqT K H p xs/\atI xs i=some v/\Q v H
def rIxS:R2:=fun x y H Q=>∃ z i c,x=.str z/\y=.int i/\z.length<=sizeLine/\atI z.cps.toList i=some c/\Q (.str ⟨#[c]⟩) H
theorem zK:IxR X (rIxL X.K):=by
 intro value slice pins s σ H x y v u Q I rx ry h hs
 obtain ⟨p,xs,i,z,rfl,rfl,hq,he,q⟩:=h
 cases rx
 obtain ⟨t,rfl⟩:=ry
 obtain ⟨its,r,pl,hz⟩:=I.list hq
 obtain ⟨j,h1,h2,h3,h4,h5⟩:=nS he
 obtain ⟨w,ew,rw'⟩:=r.get h2
 have hl:=r.length
 have hn:=line63
 have fin:EP X pins σ Q w s:=⟨z,H,I,rw',q⟩
 by_cases h0:0<=i
 ·have hj:i.toNat=j:=by
   rw [seqIndex_of h0 h5] at h1
   exact QD h1
  exact item_listR pl.isList h0 (by omega) (by rw [hj];simpa using ew) fin hs
 ·have hj:(i+(its.toArray.size:Int)).toNat=j:=by
   rw [seqIndex_neg (by omega) h4] at h1
   rw [List.size_toArray,<- hl]
   exact QD h1
  exact subscriptTail_builtinR (x:=w) pl.isList.typeIs slot_list_getitem.lookup
   (wpAny_getItem_list_neg (Q:=fun r s'=>r=w/\EP X pins σ Q r s') pl.isList (by omega) (by rw [List.size_toArray]<;>omega) (by omega) (by rw [hj];simpa using ew) ⟨rfl,fin⟩) hs
theorem a1e:IxR X (rIxT X.K):=by
 intro value slice pins s σ H x y v u Q I rx ry h hs
 obtain ⟨p,xs,i,z,rfl,rfl,hq,he,q⟩:=h
 cases rx
 obtain ⟨t,rfl⟩:=ry
 obtain ⟨its,r,pl,hz⟩:=I.tuple hq
 obtain ⟨j,h1,h2,h3,h4,h5⟩:=nS he
 obtain ⟨w,ew,rw'⟩:=r.get h2
 have hl:=r.length
 have hn:=line63
 have fin:EP X pins σ Q w s:=⟨z,H,I,rw',q⟩
 exact subscriptTail_builtinR (x:=w) pl.typeIs slot_tuple_getitem.lookup
  (getItem_tuple (j:=j) (Q:=fun r s'=>r=w/\EP X pins σ Q r s') pl (by omega) (by omega) (by rw [List.size_toArray,<- hl];exact h1) (by simpa using ew) ⟨rfl,fin⟩) hs
theorem a1V:IxR X rIxS:=by
 intro value slice pins s σ H x y v u Q I rx ry h hs
 obtain ⟨z,i,c,rfl,rfl,hz,he,q⟩:=h
 obtain ⟨t,rfl⟩:=rx
 obtain ⟨t',rfl⟩:=ry
 obtain ⟨j,h1,h2,h3,h4,h5⟩:=nS he
 have hl:z.cps.toList.length=z.length:=by simp [Str.length]
 rw [hl] at h1 h4 h5
 have hn:=line63
 exact tail_any (typeIs_str s z t) slot_str_getitem.lookup (getItem_str (c:=c) (by
  have e1:decide (i < -(2^63:Int))=false:=Qw (by omega)
  have e2:decide (i≥2^63)=false:=Qw (by omega)
  rw [e1,e2,Bool.or_false]) (by rw [h1];simpa using h2) ⟨.str ⟨#[c]⟩,H,I.tok _,⟨_,rfl⟩,q⟩) hs
theorem rJ (its:List Value) (n j:Nat) (u:Value):Obj.mapSeq (·.setIfInBounds j u) {cls:=.type "list",data:=.seq its.toArray n}={cls:=.type "list",data:=.seq (its.set j u).toArray n}:=by
 simp [Obj.mapSeq]
theorem Inv.lst {pins:List (Addr×Obj)} {σ:St} {H:Hp} {s:Shared} {p:Addr} {xs:List V} (I:Inv X pins σ H s) (h:H p=some (.lst xs)):
  ∃ (its:List Value) (n:Nat),Vals xs its/\s.heap.get? p=some {cls:=.type "list",data:=.seq its.toArray n}/\xs.length<=sizeLine:=by
 obtain ⟨z,its,n,r,e⟩:=I.hok p _ h
 exact ⟨its,n,r,e,z⟩
theorem Inv.lstUpd {pins:List (Addr×Obj)} {σ:St} {H:Hp} {s:Shared} {p:Addr} {xs ys:List V} {its its':List Value} {n n':Nat} {f:Obj->Obj} (I:Inv X pins σ H s) (h:H p=some (.lst xs))
  (ho:s.heap.get? p=some {cls:=.type "list",data:=.seq its.toArray n}) (hf:f {cls:=.type "list",data:=.seq its.toArray n}={cls:=.type "list",data:=.seq its'.toArray n'}) (r:Vals ys its') (hz:ys.length<=sizeLine) (t:Nat):
  Inv X pins σ (upd H p (.lst ys)) {s with heap:=s.heap.update p f,toks:=t}:=by
 have e:(s.heap.update p f).get? p=some {cls:=.type "list",data:=.seq its'.toArray n'}:=by
  rw [Heap.get?_update_self f ho (by rw [hf]<;>rfl),hf]
 refine I.write (x:=p) (e:=p) (by rw [h];trivial) (.inl rfl) (fun b u hb q=>(Heap.get?_update_other _ _ (Ne.symm hb)).trans q) ⟨_,e⟩ ?_
 exact ⟨hz,its',n',r,e⟩
def rSetL:V->V->V->Hp->(Hp->Prop)->Prop:=fun o i v H Q=>∃ p xs k j,o=.ref p/\i=.int k/\H p=some (.lst xs)/\ixN xs.length k=some j/\Q (upd H p (.lst (xs.set j v)))
theorem kZ:PSet X rSetL:=by
 intro pins s σ H o i v ov iv u Q I ro ri rv h
 obtain ⟨p,xs,k,j,rfl,rfl,hp,hj,q⟩:=h
 cases ro
 obtain ⟨t,rfl⟩:=ri
 obtain ⟨its,n,r,ho,hz⟩:=I.lst hp
 obtain ⟨h1,h2,h3,h4⟩:=o8 hj
 have hl:=r.length
 have hn:=line63
 have I':Inv X pins σ (upd H p (.lst (xs.set j v))) {s with heap:=s.heap.update p (Obj.mapSeq (·.setIfInBounds j u))}:=
  I.lstUpd hp ho (rJ its n j u) (r.set rv j) (by rw [List.length_set];exact hz) s.toks
 by_cases h0:0<=k
 ·have hk:k.toNat=j:=by
   rw [seqIndex_of h0 h4] at h1
   exact QD h1
  exact PySem.W.ki_setAt ho h0 (by omega) (by rw [List.size_toArray,<- hl];exact h4) (by rw [hk];exact ⟨_,I',q⟩)
 ·have hk:(k+(its.toArray.size:Int)).toNat=j:=by
   rw [seqIndex_neg (by omega) h3] at h1
   rw [List.size_toArray,<- hl]
   exact QD h1
  exact PySem.W.ki_setBack ho (by omega) (by rw [List.size_toArray,<- hl];exact h3) (by omega) (by rw [hk];exact ⟨_,I',q⟩)
theorem oG (lo hi:Option Int) (n:Nat):(sliceBounds lo hi none n).1=((HT.sIx n 0 lo:Nat):Int)/\(sliceBounds lo hi none n).2.1=((HT.sIx n n hi:Nat):Int)/\(sliceBounds lo hi none n).2.2=1:=by
 refine ⟨?_,?_,rfl⟩
 ·cases lo with
  | none=>simp [sliceBounds,HT.sIx]
  | some i=>
   simp only [sliceBounds,HT.sIx,Option.getD_none,show (1:Int) > 0 by decide,if_true]
   by_cases h:i < 0
   ·simp only [h,if_true]<;>omega
   ·simp only [h,if_false]<;>omega
 ·cases hi with
  | none=>simp [sliceBounds,HT.sIx]
  | some i=>
   simp only [sliceBounds,HT.sIx,Option.getD_none,show (1:Int) > 0 by decide,if_true]
   by_cases h:i < 0
   ·simp only [h,if_true]<;>omega
   ·simp only [h,if_false]<;>omega
theorem m7 (its:List Value) (lo hi:Option Int):slicePick its.toArray lo hi none=((its.drop (HT.sIx its.length 0 lo)).take (HT.sIx its.length its.length hi - HT.sIx its.length 0 lo)).toArray:=by
 obtain ⟨h1,h2,h3⟩:=oG lo hi its.toArray.size
 unfold slicePick
 rw [h1,h2,h3]
 simp only [sliceRange_one,pick_run,List.size_toArray]<;>rfl
def rSlL (K:Q0):V->Option Int->Option Int->Hp->VK->Prop:=fun x lo hi H Q=>∃ a xs,x=.ref a/\SqL K H a xs/\∀ p,H p=none->Q (.ref p) (upd H p (.lst (cutV xs lo hi)))
theorem a0Q:SlR X (rSlL X.K):=by
 intro pins s σ H x v vl vu lo hi sl Q I rx hs pl pu h
 obtain ⟨a,xs,rfl,hx,q⟩:=h
 cases rx
 obtain ⟨its,r,ht,hz⟩:=I.list hx
 have hlen:=r.length
 refine ⟨"list",_,slot_list_getitem.lookup,ht.isList.typeIs,?_⟩
 refine wpAny_getItem_list_slice ht.isList hs pl pu .none (by simp) ?_ (by rw [List.size_toArray]<;>omega)
 rw [m7,<- hlen]
 refine ⟨.ref s.heap.objs.size,_,I.laid (t':=s.toks) (o:=.lst (cutV xs lo hi)) (fun b ob q=>Qc _ q) (Qy _) ?_,rfl,q _ (I.hok.fresh (Qy _))⟩
 exact ⟨Nat.le_trans (jS xs lo hi) hz,_,0,(r.drop (HT.sIx xs.length 0 lo)).take (HT.sIx xs.length xs.length hi - HT.sIx xs.length 0 lo),Qd _ rfl⟩
def flatV:V->Bool
 | .non=>true
 | .bl _=>true
 | .int _=>true
 | .str _=>true
 | _=>false
def eqV:V->V->Bool
 | .non,.non=>true
 | .bl a,.bl b=>a==b
 | .bl a,.int b=>(if a then 1 else 0)==b
 | .int a,.bl b=>a==(if b then 1 else 0)
 | .int a,.int b=>a==b
 | .str a,.str b=>a==b
 | _,_=>false
theorem a1H {A:Around} {s:Shared} {y x:V} {u v:Value} (ry:RelV y u) (rx:RelV x v) (fy:flatV y=true) (fx:flatV x=true):SeqAt.EqAt A s u v (eqV y x):=by
 cases y with
 | non=>
  cases ry
  cases x with
  | non=>cases rx;exact SeqAt.EqAt.same _
  | bl b=>cases rx;exact SeqAt.EqAt.none_bool b
  | int b=>obtain ⟨t,rfl⟩:=rx;exact SeqAt.EqAt.none_int b t
  | str b=>obtain ⟨t,rfl⟩:=rx;exact SeqAt.EqAt.none_str b t
  | _=>exact absurd (show false=true from fx) Bool.false_ne_true
 | bl a=>
  cases ry
  cases x with
  | non=>cases rx;exact SeqAt.EqAt.bool_none a
  | bl b=>cases rx;exact SeqAt.EqAt.bool_bool a b
  | int b=>obtain ⟨t,rfl⟩:=rx;exact SeqAt.EqAt.bool_int a b t
  | str b=>obtain ⟨t,rfl⟩:=rx;exact SeqAt.EqAt.bool_str a b t
  | _=>exact absurd (show false=true from fx) Bool.false_ne_true
 | int a=>
  obtain ⟨t',rfl⟩:=ry
  cases x with
  | non=>cases rx;exact SeqAt.EqAt.int_none a t'
  | bl b=>cases rx;exact SeqAt.EqAt.int_bool a t' b
  | int b=>obtain ⟨t,rfl⟩:=rx;exact SeqAt.EqAt.int_int a t' b t
  | str b=>obtain ⟨t,rfl⟩:=rx;exact SeqAt.EqAt.int_str a t' b t
  | _=>exact absurd (show false=true from fx) Bool.false_ne_true
 | str a=>
  obtain ⟨t',rfl⟩:=ry
  cases x with
  | non=>cases rx;exact SeqAt.EqAt.str_none a t'
  | bl b=>cases rx;exact SeqAt.EqAt.str_bool a t' b
  | int b=>obtain ⟨t,rfl⟩:=rx;exact SeqAt.EqAt.str_int a t' b t
  | str b=>obtain ⟨t,rfl⟩:=rx;exact SeqAt.EqAt.str_str a t' b t
  | _=>exact absurd (show false=true from fx) Bool.false_ne_true
 | _=>exact absurd (show false=true from fy) Bool.false_ne_true
def eqU (x:V) (u:Value):Bool:=match u with
 | .none=>eqV .non x
 | .bool b=>eqV (.bl b) x
 | .int i _=>eqV (.int i) x
 | .str z _=>eqV (.str z) x
 | _=>false
theorem wX {x y:V} {u:Value} (r:RelV y u) (f:flatV y=true):eqU x u=eqV y x:=by
 cases y with
 | non=>cases r;rfl
 | bl b=>cases r;rfl
 | int i=>obtain ⟨t,rfl⟩:=r;rfl
 | str z=>obtain ⟨t,rfl⟩:=r;rfl
 | _=>exact absurd (show false=true from f) Bool.false_ne_true
theorem nK {x:V}:∀ {xs:List V} {us:List Value},Vals xs us->xs.all flatV=true->us.any (eqU x)=xs.any fun y=>eqV y x
 | _,_,.nil,_=>rfl
 | y::xs,u::us,.cons r t,f=>by
  rw [List.all_cons,Bool.and_eq_true] at f
  rw [List.any_cons,List.any_cons,wX r f.1,nK t f.2]
theorem lL {A:Around} {s:Shared} {x:V} {v:Value} (rx:RelV x v) (fx:flatV x=true):∀ {xs:List V} {us:List Value},Vals xs us->xs.all flatV=true->∀ u∈us,SeqAt.EqAt A s u v (eqU x u)
 | _,_,.nil,_=>fun u hu=>by cases hu
 | y::xs,u::us,.cons r t,f=>fun u' hu=>by
  rw [List.all_cons,Bool.and_eq_true] at f
  rcases Qp.mp hu with rfl | hu
  ·rw [wX r f.1];exact a1H r rx f.1 fx
  ·exact lL rx fx t f.2 u' hu
def inV (x:V) (xs:List V):Bool:=xs.any fun y=>eqV y x
def rIn (K:Q0) (neg:Bool):R2:=fun x y H Q=>∃ p xs,y=.ref p/\(SqL K H p xs\/SqT K H p xs)/\flatV x=true/\xs.all flatV=true/\Q (.bl (if neg then !inV x xs else inV x xs)) H
theorem vY:OpR X (compareOp .In) (rIn X.K false):=by
 intro pins s σ H x y v u Q I rx ry h
 obtain ⟨p,xs,rfl,hq,fx,fs,q⟩:=h
 cases ry
 rcases hq with hq | hq
 ·obtain ⟨its,r,pl,hz⟩:=I.list hq
  refine SeqAt.in_listAt (eqU x) pl.isList (fun w hw=>lL rx fx r fs w (by simpa using hw)) ⟨.bl _,H,I,rfl,?_⟩
  rw [show its.toArray.any (eqU x)=its.any (eqU x) by simp,nK r fs]
  exact q
 ·obtain ⟨its,r,pl,hz⟩:=I.tuple hq
  refine SeqAt.in_tupleAt (eqU x) pl (fun w hw=>lL rx fx r fs w (by simpa using hw)) ⟨.bl _,H,I,rfl,?_⟩
  rw [show its.toArray.any (eqU x)=its.any (eqU x) by simp,nK r fs]
  exact q
theorem nF:CallR X (.type "list") (fun xs H Q=>∃ p ys,xs=[.ref p]/\(SqL X.K H p ys\/SqT X.K H p ys)/\∀ l,H l=none->Q (.ref l) (upd H l (.lst ys))):=by
 intro pins s σ H xs us Q I r h
 obtain ⟨p,ys,rfl,hq,q⟩:=h
 obtain ⟨u,rfl,rx⟩:=vals1 r
 cases rx
 have fin:∀ (its:List Value),Vals ys its->ys.length<=sizeLine->∀ (h':Heap) (c':Nat),(∀ b o',s.heap.get? b=some o'->h'.get? b=some o')->
   h'.get? s.heap.objs.size=some {cls:=.type "list",dict:=none,data:=.seq its.toArray c',slots:=#[]}->EP X pins σ Q (.ref s.heap.objs.size) {s with heap:=h'}:=fun its r' hz h' c' kp e=>
  ⟨.ref s.heap.objs.size,_,I.laid (t':=s.toks) kp (Qy _) (show ObjOk X.prog X.w _ h' _ (.lst ys) from ⟨hz,its,c',r',e⟩),rfl,q _ (I.hok.fresh (Qy _))⟩
 rcases hq with hq | hq
 ·obtain ⟨its,r',pl,hz⟩:=I.list hq
  have hlen:=r'.length
  obtain ⟨o,ho,hc,n,hd⟩:=pl.isList
  exact call_list_seq p (.inl rfl) ho hc hd (fun h' c' kp e=>fin its r' hz h' c' kp e) (by simp only [List.size_toArray]<;>omega)
 ·obtain ⟨its,r',pl,hz⟩:=I.tuple hq
  have hlen:=r'.length
  obtain ⟨o,ho,hc,n,hd⟩:=pl
  exact call_list_seq p (.inr rfl) ho hc hd (fun h' c' kp e=>fin its r' hz h' c' kp e) (by simp only [List.size_toArray]<;>omega)
theorem m8:CallR X (.type "tuple") (fun xs H Q=>∃ p ys,xs=[.ref p]/\((SqL X.K H p ys/\∀ l,H l=none->Q (.ref l) (upd H l (.tup ys)))\/(SqT X.K H p ys/\Q (.ref p) H))):=by
 intro pins s σ H xs us Q I r h
 obtain ⟨p,ys,rfl,h⟩:=h
 obtain ⟨u,rfl,rx⟩:=vals1 r
 cases rx
 rcases h with ⟨hq,q⟩ | ⟨hq,q⟩
 ·obtain ⟨its,r',pl,hz⟩:=I.list hq
  have hlen:=r'.length
  refine call_tuple_list pl.isList (fun h' kp=>?_) (by simp only [List.size_toArray]<;>omega)
  have I1:Inv X pins σ H {s with heap:=h'}:=I.kept (t':=s.toks) kp
  have I2:Inv X pins σ (upd H h'.objs.size (.tup ys)) {s with heap:=h'.push {cls:=.type "tuple",data:=.seq its.toArray}}:=
   I1.laid (t':=s.toks) (fun b o e=>Qc _ e) (Qy _) (show ObjOk X.prog X.w _ _ _ (.tup ys) from ⟨⟨hz,NoDct.new rfl rfl⟩,its,r',IsTup.new _ _⟩)
  exact ⟨.ref h'.objs.size,_,I2,rfl,q _ (I1.hok.fresh (Qy _))⟩
 ·obtain ⟨its,r',pl,hz⟩:=I.tuple hq
  exact call_tuple_same pl ⟨.ref p,H,I,rfl,q⟩
def tyV (K:Q0) (T:String) (x:V) (H:Hp):Prop:=match x with
 | .str _=>T="str"
 | .int _=>T="int"
 | .ref p=>(T="list"/\∃ xs,SqL K H p xs)\/(T="tuple"/\∃ o,K.lookup p=some o/\o.cls=.type "tuple"/\o.dict=none)\/
   (T="dict"/\((∃ kvs,H p=some (.dK kvs))\/∃ kvs,H p=some (.dT kvs)))\/(T="set"/\∃ S n,H p=some (.set S n))
 | _=>False
theorem a0o {pins:List (Addr×Obj)} {σ:St} {H:Hp} {s:Shared} {T:String} {x:V} {v:Value} (I:Inv X pins σ H s) (r:RelV x v) (ty:tyV X.K T x H):
  s.TypeIs v T/\∀ a,v=.ref a->∃ ob,s.heap.get? a=some ob/\ob.dict=none:=by
 cases x with
 | str z=>
  obtain ⟨t,rfl⟩:=r
  cases (show T="str" from ty)
  exact ⟨typeIs_str s z t,fun _ e=>nomatch e⟩
 | int i=>
  obtain ⟨t,rfl⟩:=r
  cases (show T="int" from ty)
  exact ⟨typeIs_int s i t,fun _ e=>nomatch e⟩
 | ref p=>
  cases r
  rcases ty with ⟨rfl,xs,hq⟩ | ⟨rfl,o,hk,hc,hd⟩ | ⟨rfl,hk⟩ | ⟨rfl,S,n,hk⟩
  ·obtain ⟨its,_,pl,_⟩:=I.list hq
   refine ⟨pl.isList.typeIs,fun a e=>?_⟩
   cases e
   obtain ⟨o,n,e,c,hd,_⟩:=pl
   exact ⟨o,e,hd⟩
  ·refine ⟨⟨o,I.kIn p o hk,hc⟩,fun a e=>?_⟩
   cases e
   exact ⟨o,I.kIn _ o hk,hd⟩
  ·have z:∃ o,s.heap.get? p=some o/\o.ExactDict:=by
    rcases hk with ⟨kvs,hk⟩ | ⟨kvs,hk⟩
    ·obtain ⟨_,_,_,_,o,_,_,e,ex,_⟩:=I.hok p _ hk
     exact ⟨o,e,ex⟩
    ·obtain ⟨_,_,_,_,o,_,_,e,ex,_⟩:=I.hok p _ hk
     exact ⟨o,e,ex⟩
   obtain ⟨o,e,ex⟩:=z
   refine ⟨⟨o,e,ex.1⟩,fun a e2=>?_⟩
   cases e2
   exact ⟨o,e,ex.2.1⟩
  ·obtain ⟨o,_,_,_,e,ex,_⟩:=I.hok p _ hk
   refine ⟨⟨o,e,ex.1⟩,fun a e2=>?_⟩
   cases e2
   exact ⟨o,e,ex.2.1⟩
 | _=>exact False.elim ty
def tBM (K:Q0) (T:String) (r:V->List V->Hp->VK->Prop) (to:TE) (t:TA):TE:=fun σ H Q=>to σ H fun x H1=>tyV K T x H1/\t σ H1 fun xs H2=>r x xs H2 Q
variable {o e:Expr} {es:List Expr} {to:TE} {t:TA} {name:Str} {apos cpos:Pos} {T id:String} {r:V->List V->Hp->VK->Prop}
theorem a21 (pa:PlainAttrs T) (slot:Slot T name id) (hty:typeOf (.builtin id)=pure (.type "method_descriptor")) (hm:MtR X id r) (ho:PE X o to) (ha:PA X (e::es) t)
  (hbase:attributeBase o name X.env (eval o X.env)=eval o X.env:=by rfl)
  (hfew:((backTo cpos (starEach (e::es) X.env)).all (fun x=> !x.1)&&(backToKw cpos (keywordEach [] X.env)).all (fun x=>x.1.isSome)
   &&decide ((e::es).length+([]:List Keyword).length+(if ([]:List Keyword).isEmpty then 0 else 1) < 30))=true:=by rfl)
  (hline:(apos.endLine==cpos.line)=true:=by rfl) (hs:starEach (e::es) X.env=(false,eval e X.env)::starEach es X.env:=by rfl) (hplain:(backTo cpos (starEach es X.env)).any (·.1)=false:=by rfl):
  PE X (.Call (.Attribute o name apos) (e::es) [] cpos) (tBM X.K T r to t):=by
 intro pins s σ H Q I h
 refine wpAny_Call_method_late hbase hfew hline rfl (thn (ho pins s σ H _ I h) ?_)
 rintro v s1 ⟨x,H1,I1,r1,ty,q1⟩
 obtain ⟨h1,h2⟩:=a0o I1 r1 ty
 refine ⟨T,id,pa,slot,hty,h1,h2,?_⟩
 have hA:=ha cpos pins s1 σ H1 _ I1 q1
 rw [hs] at hA ⊢
 refine Calls.callWith_builtin (by show (false||(backTo cpos (starEach es X.env)).any (·.1))=false;rw [hplain]<;>rfl) (Calls.evalArgs_plain ?_)
 exact thn hA fun us s2 ⟨vs,H2,I2,r2,q2⟩=>hm pins s2 σ H2 x vs v us Q I2 r1 r2 q2
/- xs.append(e),list.index on a module's tuple .. are MtR facts of 06m -/
end
end L2
namespace L2
open PySem PySem.Spec PyProof.Rows
def MtM (X:Cx) (id:String) (r:V->List V->Hp->VK->Prop):Prop:=
 ∀ (pins:List (Addr×Obj)) (s:Shared) (σ:St) (H:Hp) (x:V) (xs:List V) (v:Value) (us:List Value) (Q:VK),Inv X pins σ H s->RelV x v->Vals xs us->r x xs H Q->
  wpAny (model X.prog X.w) X.A (call (.builtin id) (v::us)) (EP X pins σ Q) X.xe s
theorem Vals.one {x:V} {us:List Value} (h:Vals [x] us):∃ u,us=[u]/\RelV x u:=by
 cases h with
 | cons r t=>
  cases t
  exact ⟨_,rfl,r⟩
theorem Vals.two {x y:V} {us:List Value} (h:Vals [x,y] us):∃ u v,us=[u,v]/\RelV x u/\RelV y v:=by
 cases h with
 | cons r t=>
  cases t with
  | cons q t=>
   cases t
   exact ⟨_,_,rfl,r,q⟩
theorem Vals.eraseIdx:∀ {xs:List V} {us:List Value} (i:Nat),Vals xs us->Vals (xs.eraseIdx i) (us.eraseIdx i)
 | _,_,_,.nil=>.nil
 | _,_,0,.cons _ t=>t
 | _,_,i+1,.cons r t=>.cons r (Vals.eraseIdx i t)
theorem mN {α:Type}:∀ (l:List α) (i:Nat),(l.eraseIdx i).length<=l.length
 | [],_=>Qy _
 | _::_,0=>Nat.le_succ _
 | _::r,i+1=>Nat.succ_le_succ (mN r i)
section
variable {X:Cx} {pins:List (Addr×Obj)} {σ:St} {H:Hp} {s:Shared} {l b:Addr} {xs ys zs:List V}
theorem Inv.lset {its its':List Value} {n:Nat} {f:Array Value->Array Value} {t':Nat} (I:Inv X pins σ H s) (hH:H l=some (.lst xs))
  (e:s.heap.get? l=some {cls:=.type "list",data:=.seq its.toArray n}) (hf:f its.toArray=its'.toArray) (hv:Vals ys its') (hz:ys.length<=sizeLine):
  Inv X pins σ (upd H l (.lst ys)) {s with heap:=s.heap.update l (Obj.mapSeq f),toks:=t'}:=by
 have q:=PySem.IsL.update e f
 rw [hf] at q
 refine I.write (x:=l) (e:=l) (by rw [hH];exact trivial) (.inl rfl) (fun b' u hb hu=>(Heap.get?_update_other s.heap (Obj.mapSeq f) (Ne.symm hb)).trans hu) ⟨_,q⟩ ?_
 exact ⟨hz,its',_,hv,q⟩
theorem Inv.lnew {its:List Value} {t':Nat} (I:Inv X pins σ H s) (hv:Vals ys its) (hz:ys.length<=sizeLine):
  Inv X pins σ (upd H s.heap.objs.size (.lst ys)) {s with heap:=s.heap.push {cls:=.type "list",data:=.seq its.toArray},toks:=t'}:=
 I.laid (fun _ _ q=>Qc _ q) (Qy _) ⟨hz,its,0,hv,Qd _ rfl⟩
theorem Inv.fresh (I:Inv X pins σ H s):H s.heap.objs.size=none:=I.hok.fresh (Qy _)
theorem Inv.lstM (I:Inv X pins σ H s) (hH:H l=some (.lst xs)):xs.length<=sizeLine/\∃ (its:List Value) (n:Nat),Vals xs its/\xs.length=its.length/\s.heap.get? l=some {cls:=.type "list",data:=.seq its.toArray n}:=by
 obtain ⟨z,its,n,r,e⟩:=I.hok l _ hH
 exact ⟨z,its,n,r,r.length,e⟩
end
section
variable {X:Cx}
def rAppend:V->List V->Hp->VK->Prop:=fun x vs H Q=>∃ l xs y,x=.ref l/\vs=[y]/\H l=some (.lst xs)/\xs.length < sizeLine/\Q .non (upd H l (.lst (xs++[y])))
theorem bV:MtM X "list.append" rAppend:=by
 intro pins s σ H x vs v us Q I rx rv h
 obtain ⟨l,xs,y,rfl,rfl,hH,hz,q⟩:=h
 cases rx
 obtain ⟨u,rfl,ru⟩:=rv.one
 obtain ⟨z,its,n,r,hl,e⟩:=I.lstM hH
 refine call_meets F.slot_list_append ⟨_,e,rfl⟩ F.entry_list_append (F.args_list_append_2 _ _) (PySem.list_append l its.toArray n u (by rw [List.size_toArray];omega)) ⟨e,?_⟩
 refine ⟨.non,_,I.lset (its':=its++[u]) hH e (by simp) (r.append (.cons ru .nil)) ?_,rfl,q⟩
 rw [Qk,List.length_singleton]
 omega
def rPopAt:V->List V->Hp->VK->Prop:=fun x vs H Q=>∃ l xs i k y,x=.ref l/\vs=[.int i]/\H l=some (.lst xs)/\ -(2^63)<=i/\i < 2^63/\seqIndex? i xs.length=some k/\xs[k]? =some y/\Q y (upd H l (.lst (xs.eraseIdx k)))
theorem wG:MtM X "list.pop" rPopAt:=by
 intro pins s σ H x vs v us Q I rx rv h
 obtain ⟨l,xs,i,k,y,rfl,rfl,hH,h1,h2,hk,hy,q⟩:=h
 cases rx
 obtain ⟨u,rfl,ru⟩:=rv.one
 obtain ⟨t,rfl⟩:=ru
 obtain ⟨z,its,n,r,hl,e⟩:=I.lstM hH
 obtain ⟨w,hw,rw'⟩:=r.get hy
 refine call_meets F.slot_list_pop ⟨_,e,rfl⟩ F.entry_list_pop (F.args_list_pop_2 _ _)
  (MeetsSeq.list_pop_at l its.toArray n i t k w (fitsIndex_both h1 h2) (by rw [List.size_toArray,<- hl];exact hk) (by rw [<- Array.getElem?_toList];exact hw) (by rw [List.size_toArray];omega)) ⟨e,?_⟩
 refine ⟨y,_,I.lset (its':=its.eraseIdx k) hH e ?_ (r.eraseIdx k) ?_,rw',q⟩
 ·show its.toArray.eraseIdxIfInBounds k=(its.eraseIdx k).toArray
  rw [List.eraseIdxIfInBounds_toArray]
 ·have:=mN xs k
  omega
def rCat:R2:=fun x y H Q=>∃ l b xs zs,x=.ref l/\y=.ref b/\H l=some (.lst xs)/\H b=some (.lst zs)/\xs.length+zs.length<=sizeLine/\∀ p,H p=none->Q (.ref p) (upd H p (.lst (xs++zs)))
theorem a1S:OpR X (binaryOp .Add) rCat:=by
 intro pins s σ H x y v u Q I rx ry h
 obtain ⟨l,b,xs,zs,rfl,rfl,hH,hB,hz,q⟩:=h
 cases rx
 cases ry
 obtain ⟨z,its,n,r,hl,e⟩:=I.lstM hH
 obtain ⟨z2,its2,n2,r2,hl2,e2⟩:=I.lstM hB
 refine PySem.P.add_list e e2 ?_ (by rw [List.size_toArray,List.size_toArray];omega)
 have ea:its.toArray++its2.toArray=(its++its2).toArray:=by simp
 rw [ea]
 exact ⟨.ref _,_,I.lnew (t':=s.toks) (r.append r2) (by rw [Qk];omega),rfl,q _ I.fresh⟩
end
section
variable {prog:Program} {w:World} {A:Around} {E:Value->Shared->Prop} {s:Shared}
end
section
variable {X:Cx}
end
end L2
namespace L2
open PySem PySem.Spec PyProof.Rows
section
variable {κ:Type} [DecidableEq κ]
def valV (kvs:List (κ×V)) (k:κ):Option V:=(kvs.find? fun kv=>decide (kv.1=k)).map (·.2)
def putK (kvs:List (κ×V)) (k:κ) (v:V):List (κ×V):=
 if (kvs.any fun kv=>decide (kv.1=k))=true then kvs.map (fun kv=>if kv.1=k then (kv.1,v) else kv) else kvs++[(k,v)]
theorem bU {p:κ×V} {r:List (κ×V)} {k:κ} (e:p.1=k):valV (p::r) k=some p.2:=by simp [valV,List.find?_cons,e]
theorem bT {p:κ×V} {r:List (κ×V)} {k:κ} (e:¬p.1=k):valV (p::r) k=valV r k:=by simp [valV,List.find?_cons,e]
theorem cA (k:κ):∀ kvs:List (κ×V),(kvs.any fun kv=>decide (kv.1=k))=(valV kvs k).isSome
 | []=>rfl
 | p::r=>by
  rw [List.any_cons]
  by_cases e:p.1=k
  ·simp only [bU e,Qv e,Bool.true_or,Option.isSome_some]
  ·rw [bT e,Qw e,Bool.false_or];exact cA k r
theorem qC (k j:κ) (y:V):∀ kvs:List (κ×V),valV (kvs.map fun kv=>if kv.1=k then (kv.1,y) else kv) j=(valV kvs j).map fun x=>if j=k then y else x
 | []=>rfl
 | p::r=>by
  have ih:=qC k j y r
  rw [List.map_cons]
  by_cases h:p.1=k
  ·rw [if_pos h]
   by_cases e:p.1=j
   ·rw [bU (p:=(p.1,y)) e,bU e,Option.map_some,if_pos (e.symm.trans h)]
   ·rw [bT (p:=(p.1,y)) e,bT e,ih]
  ·rw [if_neg h]
   by_cases e:p.1=j
   ·rw [bU (p:=p) e,bU e,Option.map_some,if_neg (fun z=>h (e.trans z))]
   ·rw [bT (p:=p) e,bT e,ih]
theorem j4 (k j:κ) (y:V):∀ kvs:List (κ×V),valV kvs k=none->valV (kvs++[(k,y)]) j=if j=k then some y else valV kvs j
 | [],_=>by
  by_cases e:k=j
  ·rw [if_pos e.symm];exact bU (p:=(k,y)) e
  ·rw [if_neg (fun z=>e z.symm)];exact bT (p:=(k,y)) e
 | p::r,hn=>by
  rw [List.cons_append]
  have hk:¬p.1=k:=fun z=>by rw [bU z] at hn;cases hn
  rw [bT hk] at hn
  have ih:=j4 k j y r hn
  by_cases e:p.1=j
  ·rw [bU e,bU e,if_neg (fun z=>hk (e.trans z))]
  ·rw [bT e,bT e,ih]
theorem kP (kvs:List (κ×V)) (k j:κ) (y:V):valV (putK kvs k y) j=if j=k then some y else valV kvs j:=by
 unfold putK
 by_cases a:(kvs.any fun kv=>decide (kv.1=k))=true
 ·rw [if_pos a,qC]
  rw [cA] at a
  by_cases e:j=k
  ·obtain ⟨x,hx⟩:=Option.isSome_iff_exists.mp a
   rw [if_pos e,e,hx,Option.map_some,if_pos rfl]
  ·rw [if_neg e]
   cases valV kvs j with
   | none=>rfl
   | some x=>rw [Option.map_some,if_neg e]
 ·rw [if_neg a]
  refine j4 k j y kvs ?_
  rw [cA] at a
  cases q:valV kvs k with
  | none=>rfl
  | some x=>rw [q] at a;exact (a rfl).elim
theorem cR (kvs:List (κ×V)) (k:κ) (v:V):(putK kvs k v).length<=kvs.length+1:=by
 unfold putK
 split
 ·rw [Ql];omega
 ·rw [Qk,List.length_cons,List.length_nil];omega
theorem cP {kvs:List (κ×V)} {k:κ} (v:V) (h:valV kvs k=none):putK kvs k v=kvs++[(k,v)]:=by
 unfold putK
 rw [cA,h]
 exact if_neg (by decide)
theorem RelO.isSome_eq {o:Option V} {u:Option Value} (r:RelO o u):o.isSome=u.isSome:=by
 cases o with
 | none=>cases u with
  | none=>rfl
  | some _=>exact (show False from r).elim
 | some _=>cases u with
  | none=>exact (show False from r).elim
  | some _=>rfl
theorem RelO.getD {o:Option V} {u:Option Value} {d:V} {d':Value} (r:RelO o u) (rd:RelV d d'):RelV (o.getD d) (u.getD d'):=by
 cases o with
 | none=>cases u with
  | none=>exact rd
  | some _=>exact (show False from r).elim
 | some _=>cases u with
  | none=>exact (show False from r).elim
  | some _=>exact r
theorem KV.val {kvs:List (κ×V)} {vs:List (κ×Value)} (r:KV kvs vs) (k:κ):RelO (valV kvs k) (valueAt vs k):=by
 unfold KV at r
 induction r with
 | nil=>exact True.intro
 | @cons p q ps qs h t ih=>
  obtain ⟨h1,h2⟩:=h
  by_cases e:p.1=k
  ·have e':q.1=k:=h1.symm.trans e
   have b:valueAt (q::qs) k=some q.2:=by simp [valueAt,List.find?_cons,e']
   rw [bU e,b];exact h2
  ·have e':¬q.1=k:=fun z=>e (h1.trans z)
   have b:valueAt (q::qs) k=valueAt qs k:=by simp [valueAt,List.find?_cons,e']
   rw [bT e,b];exact ih
theorem KV.any {kvs:List (κ×V)} {vs:List (κ×Value)} (r:KV kvs vs) (k:κ):(kvs.any fun kv=>decide (kv.1=k))=vs.any fun kv=>decide (kv.1=k):=by
 unfold KV at r
 induction r with
 | nil=>rfl
 | cons h t ih=>rw [List.any_cons,List.any_cons,ih,h.1]
theorem KV.repl {kvs:List (κ×V)} {vs:List (κ×Value)} (r:KV kvs vs) (k:κ) {y:V} {u:Value} (ry:RelV y u):
  KV (kvs.map fun kv=>if kv.1=k then (kv.1,y) else kv) (vs.map fun kv=>if kv.1=k then (kv.1,u) else kv):=by
 unfold KV at r ⊢
 induction r with
 | nil=>exact .nil
 | @cons p q ps qs h t ih=>
  rw [List.map_cons,List.map_cons]
  refine .cons ?_ ih
  obtain ⟨h1,h2⟩:=h
  by_cases e:p.1=k
  ·rw [if_pos e,if_pos (h1.symm.trans e)];exact ⟨h1,ry⟩
  ·rw [if_neg e,if_neg (fun z=>e (h1.trans z))];exact ⟨h1,h2⟩
theorem KV.put {kvs:List (κ×V)} {vs:List (κ×Value)} (r:KV kvs vs) (k:κ) {y:V} {u:Value} (ry:RelV y u):KV (putK kvs k y) (stored vs k u):=by
 unfold putK stored
 rw [r.any k]
 by_cases e:(vs.any fun kv=>decide (kv.1=k))=true
 ·rw [if_pos e,if_pos e];exact r.repl k ry
 ·rw [if_neg e,if_neg e];exact Paired.snoc r ⟨rfl,ry⟩
theorem KV.length {kvs:List (κ×V)} {vs:List (κ×Value)} (r:KV kvs vs):kvs.length=vs.length:=Paired.length r
end
theorem iV {P:Program} {w:World} {k:Key} {u:Value} (r:RelV (kV k) u):(mixKind P w).is k u=true:=by
 cases k with
 | inl i=>obtain ⟨t,e⟩:=(show ∃ t,u=Value.int i t from r);subst e;exact pR P w i t
 | inr x=>obtain ⟨t,e⟩:=(show ∃ t,u=Value.str x t from r);subst e;exact gP P w x t
theorem a1G {a b:Key} (e:kV a=kV b):a=b:=by
 cases a with
 | inl i=>cases b with
  | inl j=>have e':V.int i=V.int j:=e;injection e' with e';rw [e']
  | inr y=>exact nomatch (show V.int i=V.str y from e)
 | inr x=>cases b with
  | inl j=>exact nomatch (show V.str x=V.int j from e)
  | inr y=>have e':V.str x=V.str y:=e;injection e' with e';rw [e']
theorem mQ {P:Program} {w:World}:∀ {ks:List Key} {us:List Value},Vals (ks.map kV) us->ItemsAre (mixKind P w) ks us
 | [],_,r=>by rw [List.map_nil] at r;cases r;exact .nil
 | k::ks,_,r=>by
  rw [List.map_cons] at r
  cases r with
  | cons h t=>exact .cons (iV h) (mQ t)
abbrev KT (H:Hp):List (List Key×V)->List (List Key×Addr×Value)->Prop:=Paired fun p q=>p.1=q.1/\RdT H q.2.1 (p.1.map kV)/\RelV p.2 q.2.2
theorem KT.val {H:Hp} {kvs:List (List Key×V)} {xs:List (List Key×Addr×Value)} (r:KT H kvs xs) (k:List Key):RelO (valV kvs k) ((atKey xs k).map (·.2)):=by
 induction r with
 | nil=>exact True.intro
 | @cons p q ps qs h t ih=>
  obtain ⟨h1,_,h2⟩:=h
  by_cases e:p.1=k
  ·have e':q.1=k:=h1.symm.trans e
   have b:atKey (q::qs) k=some q.2:=by simp [atKey,List.find?_cons,e']
   rw [bU e,b];exact h2
  ·have e':¬q.1=k:=fun z=>e (h1.trans z)
   have b:atKey (q::qs) k=atKey qs k:=by simp [atKey,List.find?_cons,e']
   rw [bT e,b];exact ih
theorem KT.repl {H:Hp} {kvs:List (List Key×V)} {xs:List (List Key×Addr×Value)} (r:KT H kvs xs) (k:List Key) {y:V} {u:Value} (ry:RelV y u):
  KT H (kvs.map fun kv=>if kv.1=k then (kv.1,y) else kv) (xs.map (putAt k u)):=by
 induction r with
 | nil=>exact .nil
 | @cons p q ps qs h t ih=>
  rw [List.map_cons,List.map_cons]
  refine .cons ?_ ih
  obtain ⟨h1,h2,h3⟩:=h
  unfold putAt
  by_cases e:p.1=k
  ·rw [if_pos e,if_pos (h1.symm.trans e)];exact ⟨h1,h2,ry⟩
  ·rw [if_neg e,if_neg (fun z=>e (h1.trans z))];exact ⟨h1,h2,h3⟩
theorem KT.put {H:Hp} {kvs:List (List Key×V)} {xs:List (List Key×Addr×Value)} (r:KT H kvs xs) (k:List Key) {b:Addr} {y:V} {u:Value} (hb:RdT H b (k.map kV)) (ry:RelV y u):
  KT H (putK kvs k y) (storedH xs k b u):=by
 have e:(kvs.any fun kv=>decide (kv.1=k))=(atKey xs k).isSome:=by
  rw [cA,(r.val k).isSome_eq,Option.isSome_map]
 unfold putK storedH
 rw [e]
 by_cases q:(atKey xs k).isSome=true
 ·rw [if_pos q,if_pos q];exact r.repl k ry
 ·rw [if_neg q,if_neg q];exact Paired.snoc r ⟨rfl,hb,ry⟩
theorem KT.keeps {H H':Hp} {kvs:List (List Key×V)} {xs:List (List Key×Addr×Value)} (r:KT H kvs xs) (ht:∀ b ys,RdT H b ys->RdT H' b ys):KT H' kvs xs:=
 Paired.mapP r fun _ _ z=>⟨z.1,ht _ _ z.2.1,z.2.2⟩
section
variable {P:Program} {w:World} {H:Hp} {h:Heap} {a:Addr}
theorem a0W {u:HO} (ok:HOk P w H h) (e:Rd H a u):ObjOk P w H h a u:=e.ok ok
theorem mG {kvs:List (Key×V)} (ok:HOk P w H h) (e:Rd H a (.dK kvs)):kvs.length<=sizeLine/\(a==sysModules)=false/\∃ vs,KV kvs vs/\h.DictOf (mixKind P w) a vs:=
 show ObjOk P w H h a (.dK kvs) from a0W ok e
theorem wS {kvs:List (Key×V)} (ok:HOk P w H h) (e:H a=some (.dK kvs)):kvs.length<=sizeLine/\(a==sysModules)=false/\∃ vs,KV kvs vs/\h.DictOf (mixKind P w) a vs:=mG ok (.inl e)
theorem dG {ks:List Key} (ok:HOk P w H h) (e:RdT H a (ks.map kV)):(tupleKind (mixKind P w)).is h ks a:=by
 have qq:ObjOk P w H h a (.tup (ks.map kV)):=by
  rcases e with e | ⟨_,e⟩
  ·exact ok a _ e
  ·exact (ok a _ e).2
 obtain ⟨_,its,r,o,h1,h2,n,h3⟩:=qq
 exact ⟨o,its.toArray,n,h1,h2,h3,by simpa using mQ r⟩
theorem pV {kvs:List (List Key×V)} (ok:HOk P w H h) (e:Rd H a (.dT kvs)):kvs.length<=sizeLine/\(a==sysModules)=false/\
  ∃ xs,KT H kvs xs/\h.DictOfH (tupleKind (mixKind P w)) a xs:=by
 obtain ⟨z,y,xs,r,o,es,ep,h1,h2,h3,h4,h5⟩:=(show ObjOk P w H h a (.dT kvs) from a0W ok e)
 refine ⟨z,y,xs,r,o,es,ep,h1,h2,h3,h4,fun x hx=>?_,h5⟩
 have all:∀ {l:List (List Key×V)} {m:List (List Key×Addr×Value)},KT H l m->∀ x∈m,(tupleKind (mixKind P w)).is h x.1 x.2.1:=by
  intro l m q
  induction q with
  | nil=>intro x hx;exact nomatch hx
  | @cons p q ps qs hq t ih=>
   intro x hx
   rcases Qp.mp hx with e | hx
   ·subst e
    exact dG ok (by rw [<- hq.1];exact hq.2.1)
   ·exact ih x hx
 exact all r x hx
theorem a0f {kvs:List (List Key×V)} (ok:HOk P w H h) (e:H a=some (.dT kvs)):kvs.length<=sizeLine/\(a==sysModules)=false/\
  ∃ xs,KT H kvs xs/\h.DictOfH (tupleKind (mixKind P w)) a xs:=pV ok (.inl e)
end
def DGet (H:Hp) (a:Addr) (y:V) (r:Option V):Prop:=
 (∃ kvs k,Rd H a (.dK kvs)/\y=kV k/\r=valV kvs k)\/∃ kvs k b,Rd H a (.dT kvs)/\y=.ref b/\RdT H b (k.map kV)/\r=valV kvs k
def DPut (H:Hp) (a:Addr) (y v:V) (H':Hp):Prop:=
 (∃ kvs k,H a=some (.dK kvs)/\y=kV k/\kvs.length < sizeLine/\H'=upd H a (.dK (putK kvs k v)))\/
 ∃ kvs k b,H a=some (.dT kvs)/\y=.ref b/\RdT H b (k.map kV)/\kvs.length < sizeLine/\H'=upd H a (.dT (putK kvs k v))
theorem DGet.k {H:Hp} {a:Addr} {kvs:List (Key×V)} {k:Key} (e:H a=some (.dK kvs)):DGet H a (kV k) (valV kvs k):=.inl ⟨kvs,k,.inl e,rfl,rfl⟩
theorem DPut.k {H:Hp} {a:Addr} {kvs:List (Key×V)} {k:Key} {v:V} (e:H a=some (.dK kvs)) (hl:kvs.length < sizeLine):DPut H a (kV k) v (upd H a (.dK (putK kvs k v))):=.inl ⟨kvs,k,e,rfl,hl,rfl⟩
section
variable {X:Cx} {pins:List (Addr×Obj)} {σ:St} {H:Hp} {s:Shared} {a:Addr} {y v:V} {u r:Value} {o:Option V} {A:Around} {E:Value->Shared->Prop}
theorem Inv.big (I:Inv X pins σ H s):sysModules < s.heap.objs.size:=by
 have h:mainGlobals < s.heap.objs.size:=(I.mod.glob.keeps I.bk).lt
 exact Nat.lt_trans (by decide) h
theorem uM {Q:Value->Shared->Prop} (hu:A.units+1 < cLine) (I:Inv X pins σ H s) (g:DGet H a y (some v)) (ry:RelV y u) (h:∀ w' s',Inv X pins σ H s'->RelV v w'->Q w' s'):
  wpAny (model X.prog X.w) A (getItem (.ref a) u) Q E s:=by
 rcases g with ⟨kvs,k,e,ey,l⟩ | ⟨kvs,k,b,e,ey,eb,l⟩
 ·subst ey
  obtain ⟨z,hd,vs,rel,dd⟩:=mG I.hok e
  obtain ⟨w',hw,rw'⟩:=RelO.some_of (v:=v) (o:=valueAt vs k) (by rw [l];exact rel.val k)
  exact wpAny_getItem_of (iV ry) dd.mapOf hw (h w' _ (I.tok _) rw')
 ·subst ey
  cases (show u=Value.ref b from ry)
  obtain ⟨z,hd,xs,rel,dd⟩:=pV I.hok e
  obtain ⟨w',hw,rw'⟩:=RelO.some_of (v:=v) (o:=(atKey xs k).map (·.2)) (by rw [l];exact rel.val k)
  obtain ⟨p,hp,hp2⟩:=Option.map_eq_some_iff.mp hw
  refine wpAny_getItem_heap (tupleKind_room_in1 hu) (dG I.hok eb) dd hp ?_
  rw [hp2]
  exact h w' _ (I.tok _) rw'
theorem a2Y {Q:Value->Shared->Prop} (hu:A.units+1 < cLine) (I:Inv X pins σ H s) (g:DGet H a y o) (ry:RelV y u) (h:∀ s',Inv X pins σ H s'->Q (.bool o.isSome) s'):
  wpAny (model X.prog X.w) A (compareOp .In u (.ref a)) Q E s:=by
 rcases g with ⟨kvs,k,e,ey,l⟩ | ⟨kvs,k,b,e,ey,eb,l⟩
 ·subst ey
  obtain ⟨z,hd,vs,rel,dd⟩:=mG I.hok e
  refine wpAny_in_of (iV ry) hd dd.mapOf ?_
  rw [<- (rel.val k).isSome_eq,<- l]
  exact h _ (I.tok _)
 ·subst ey
  cases (show u=Value.ref b from ry)
  obtain ⟨z,hd,xs,rel,dd⟩:=pV I.hok e
  refine wpAny_in_heap (tupleKind_room_in1 hu) (dG I.hok eb) hd dd ?_
  have q:=(rel.val k).isSome_eq
  rw [Option.isSome_map] at q
  rw [<- q,<- l]
  exact h _ (I.tok _)
theorem zU {Q:Value->Shared->Prop} (hu:A.units+1 < cLine) (I:Inv X pins σ H s) (g:DGet H a y o) (ry:RelV y u) (h:∀ s',Inv X pins σ H s'->Q (.bool (!o.isSome)) s'):
  wpAny (model X.prog X.w) A (compareOp .NotIn u (.ref a)) Q E s:=by
 rcases g with ⟨kvs,k,e,ey,l⟩ | ⟨kvs,k,b,e,ey,eb,l⟩
 ·subst ey
  obtain ⟨z,hd,vs,rel,dd⟩:=mG I.hok e
  refine wpAny_notIn_of (iV ry) hd dd.mapOf ?_
  rw [<- (rel.val k).isSome_eq,<- l]
  exact h _ (I.tok _)
 ·subst ey
  cases (show u=Value.ref b from ry)
  obtain ⟨z,hd,xs,rel,dd⟩:=pV I.hok e
  refine wpAny_notIn_heap (tupleKind_room_in1 hu) (dG I.hok eb) hd dd ?_
  have q:=(rel.val k).isSome_eq
  rw [Option.isSome_map] at q
  rw [<- q,<- l]
  exact h _ (I.tok _)
theorem iX {h':Heap} {t':Nat} {ob:HO} (I:Inv X pins σ H s) (mu:Mut (H a)) (hs:Heap.SameBut a s.heap h') (he:∃ q,h'.get? a=some q) (new:ObjOk X.prog X.w (upd H a ob) h' a ob):
  Inv X pins σ (upd H a ob) {s with heap:=h',toks:=t'}:=
 I.write (x:=a) (e:=a) mu (.inl rfl) (fun b q hb z=>(hs.2 b hb).trans z) he new
theorem rC {P:Program} {w:World} {H':Hp} {h':Heap} {kvs:List (Key×V)} {vs:List (Key×Value)} (z:kvs.length<=sizeLine) (hd:(a==sysModules)=false) (rel:KV kvs vs) (dd:h'.DictOf (mixKind P w) a vs):
  ObjOk P w H' h' a (.dK kvs):=⟨z,hd,vs,rel,dd⟩
theorem vM {H':Hp} {Q:Unit->Shared->Prop} (hu:A.units+1 < cLine) (I:Inv X pins σ H s) (g:DPut H a y v H') (ry:RelV y u) (rv:RelV v r) (h:∀ s',Inv X pins σ H' s'->Q () s'):
  wpAny (model X.prog X.w) A (setItem (.ref a) u r) Q E s:=by
 rcases g with ⟨kvs,k,e,ey,l,eH⟩ | ⟨kvs,k,b,e,ey,eb,l,eH⟩
 ·subst ey eH
  obtain ⟨z,hd,vs,rel,dd⟩:=wS I.hok e
  have hz:vs.length<=sizeLine:=by rw [<- rel.length];exact z
  have hl:(putK kvs k v).length<=sizeLine:=by have:=cR kvs k v;omega
  refine wpAny_setItem_pairs (hsz:=hz) (iV ry) dd fun h' dd' hs=>h _ ?_
  have he:∃ q,h'.get? a=some q:=let ⟨q,_,_,hq,_⟩:=dd';⟨q,hq⟩
  exact iX I (by rw [e];exact True.intro) hs he (rC hl hd (rel.put k rv) dd')
 ·subst ey eH
  cases (show u=Value.ref b from ry)
  obtain ⟨z,hd,xs,rel,dd⟩:=a0f I.hok e
  have hz:xs.length<=sizeLine:=by rw [<- Paired.length rel];exact z
  have hl:(putK kvs k v).length<=sizeLine:=by have:=cR kvs k v;omega
  refine wpAny_setItem_heap (hsz:=hz) (tupleKind_room_in1 hu) (dG I.hok eb) dd fun h' dd' hs=>h _ ?_
  obtain ⟨q,es,ep,hq,h2,h3,h4,_,h5⟩:=dd'
  refine iX I (by rw [e];exact True.intro) hs ⟨q,hq⟩ ⟨hl,hd,_,(rel.put k eb rv).keeps fun c ys ec=>?_,q,es,ep,hq,h2,h3,h4,h5⟩
  refine ec.upd fun u hu z=>?_
  subst z
  rcases ec with ec | ⟨_,ec⟩<;>(rw [e] at ec;cases ec)
end
section
variable {X:Cx} {pins:List (Addr×Obj)} {σ:St} {H:Hp} {s:Shared} {a:Addr} {kvs:List (Key×V)} {k:Key} {u:Value} {A:Around} {E:Value->Shared->Prop}
theorem a2M {Q:Value->Shared->Prop} (I:Inv X pins σ H s) (e:Rd H a (.dK kvs)) (h:∀ t s',Inv X pins σ H s'->Q (.int kvs.length t) s'):wpAny (model X.prog X.w) A (call (.builtin "len") [.ref a]) Q E s:=by
 obtain ⟨z,hd,vs,rel,dd⟩:=mG I.hok e
 refine call_len_dict hd dd (by rw [<- rel.length];rw [QL] at z;omega) ?_
 rw [<- rel.length]
 exact h _ _ (I.tok _)
end
def NoSl (i:Expr):Prop:=∀ ov iv,subscripted i false ov iv=operate [ov,iv] (getItem ov iv)
theorem tQ {prog:Program} {w:World} {A:Around} {E:Value->Shared->Prop} {s:Shared} {env:Env} {value slice:Expr} {pos:Pos} {T id:String} {Q:Value->Shared->Prop}
  (hl:typeLookup (.type T) "__getitem__"=pure (some (.builtin id))) (hs:NoSl slice)
  (h:wpAny (model prog w) A (eval value env) (fun o s₁=>wpAny (model prog w) A (eval slice env) (fun i s₂=>s₂.TypeIs o T/\wpAny (model prog w) A (getItem o i) Q E s₂) E s₁) E s):
  wpAny (model prog w) A (eval (.Subscript value slice pos) env) Q E s:=by
 refine Subscript_ (wpAny_mono h (fun o s₁ h₁=>wpAny_mono h₁ (fun i s₂ h₂=>?_) fun _ _ x=>x) fun _ _ x=>x)
 obtain ⟨hT,h₂⟩:=h₂
 unfold subscriptTail
 refine QT ?_
 rw [getitemInPython_of_ne hT.not_modules]
 refine QT (wpAny_specialOf hT hl ?_)
 have fin:wpAny (model prog w) A (subscripted slice false o i) (fun r s₃=>wpAny (model prog w) A (letTemporaryGo value o r >>=fun _=>pure r) Q E s₃) E s₂:=by
  rw [hs o i]
  exact wpAny_operating (wpAny_mono h₂ (fun r s₃ h₃=>QT (wpAny_letTemporaryGo (QU h₃))) fun _ _ x=>x)
 first
  | exact QU (QT fin)
  | exact QT (QU (QT fin))
  | exact QT fin
theorem oQ {X:Cx} {pins:List (Addr×Obj)} {σ:St} {H:Hp} {s:Shared} {a:Addr} {y:V} {o:Option V} (I:Inv X pins σ H s) (g:DGet H a y o):s.TypeIs (.ref a) "dict":=by
 rcases g with ⟨kvs,k,e,_,_⟩ | ⟨kvs,k,b,e,_,_,_⟩
 ·obtain ⟨_,_,vs,_,dd⟩:=mG I.hok e
  exact dd.typeIs
 ·obtain ⟨_,_,xs,_,dd⟩:=pV I.hok e
  exact dd.typeIs
def tDGet (td ty:TE):TE:=fun σ H Q=>td σ H fun x H1=>ty σ H1 fun y H2=>∃ a v,x=.ref a/\DGet H2 a y (some v)/\Q v H2
def sDPut (td ty tv:TE):TS:=fun D σ H=>tv σ H fun v H1=>td σ H1 fun x H2=>ty σ H2 fun y H3=>∃ a H4,x=.ref a/\DPut H3 a y v H4/\D.nx σ H4
section
variable {X:Cx} {o i e value:Expr} {pos pos' tpos:Pos} {td ty tv:TE}
theorem a0U (hu:X.A.units+1 < cLine) (ho:PE X o td) (hi:PE X i ty) (hs:NoSl i):PE X (.Subscript o i pos) (tDGet td ty):=by
 intro pins s σ H Q I h
 refine tQ PySem.F.slot_dict_getitem.lookup hs (thn (ho pins s σ H _ I h) fun u s1 ⟨x,H1,I1,rx,q1⟩=>thn (hi pins s1 σ H1 _ I1 q1) fun iv s2 ⟨y,H2,I2,ry,a,v,ex,g,q2⟩=>?_)
 subst ex
 obtain rfl:u=Value.ref a:=rx
 exact ⟨oQ I2 g,uM hu I2 g ry fun w' s3 I3 rw'=>⟨v,H2,I3,rw',q2⟩⟩
theorem a0J (hu:X.A.units+1 < cLine) (ho:PE X o td) (hi:PE X i ty) (hv:PE X value tv) (hs:swapsWith value (some (.Subscript o i pos')) pos.line X.env=pure false):
  PS X (.Assign [.Subscript o i pos'] value pos) (sDPut td ty tv):=by
 intro pins s σ H D I h
 refine wpAny_Assign_Subscript (thn (hv pins s σ H _ I h) fun r s1 ⟨v,H1,I1,rv,q1⟩=>thn (ho pins s1 σ H1 _ I1 q1) fun u s2 ⟨x,H2,I2,rx,q2⟩=>thn (hi pins s2 σ H2 _ I2 q2) fun iv s3 ⟨y,H3,I3,ry,a,H4,ex,g,q3⟩=>?_) hs
 subst ex
 obtain rfl:u=Value.ref a:=rx
 exact vM hu I3 g ry rv fun s4 I4=>⟨σ,H4,I4,q3⟩
end
theorem w5 {P:Program} {w:World} {H:Hp} (h:Heap) (hb:sysModules < h.objs.size):ObjOk P w H (h.push {cls:=.type "dict",data:=.dict #[]}) h.objs.size (.dK []):=
 ⟨Nat.zero_le _,beq_eq_false_iff_ne.mpr (Ne.symm (Nat.ne_of_lt hb)),[],.nil,Heap.DictOf.new h⟩
theorem yE {P:Program} {w:World} {H:Hp} (h:Heap) (hb:sysModules < h.objs.size):ObjOk P w H (h.push {cls:=.type "dict",data:=.dict #[]}) h.objs.size (.dT []):=
 ⟨Nat.zero_le _,beq_eq_false_iff_ne.mpr (Ne.symm (Nat.ne_of_lt hb)),[],.nil,_,#[],0,Qd _ rfl,⟨rfl,rfl,rfl⟩,rfl,rfl,List.nodup_nil⟩
def tDNewK:TE:=fun _ H Q=>∀ p,H p=none->Q (.ref p) (upd H p (.dK []))
def tDNewT:TE:=fun _ H Q=>∀ p,H p=none->Q (.ref p) (upd H p (.dT []))
section
variable {X:Cx} {pos:Pos}
theorem yK:PE X (.Dict [] [] pos) tDNewK:=fun pins s σ H Q I h=>
 wpAny_Dict_empty ⟨.ref s.heap.objs.size,_,I.laid (a:=s.heap.objs.size) (o:=.dK []) (t':=s.toks) (fun _ _ q=>Qc _ q) (Qy _) (w5 s.heap I.big),rfl,h _ (I.hok.fresh (Qy _))⟩
theorem yD:PE X (.Dict [] [] pos) tDNewT:=fun pins s σ H Q I h=>
 wpAny_Dict_empty ⟨.ref s.heap.objs.size,_,I.laid (a:=s.heap.objs.size) (o:=.dT []) (t':=s.toks) (fun _ _ q=>Qc _ q) (Qy _) (yE s.heap I.big),rfl,h _ (I.hok.fresh (Qy _))⟩
end
section
variable {X:Cx} {pins:List (Addr×Obj)} {σ:St} {H:Hp} {s:Shared} {a:Addr} {y d:V} {u r:Value} {o:Option V} {A:Around} {E:Value->Shared->Prop}
end
section
variable {X:Cx} {o e f:Expr} {apos cpos:Pos} {td ty tx:TE}
end
section
variable {X:Cx} {pins:List (Addr×Obj)} {σ:St} {H:Hp} {s:Shared} {a:Addr} {kvs:List (Key×V)} {A:Around} {E:Value->Shared->Prop}
end
section
variable {X:Cx} {pins:List (Addr×Obj)} {σ:St} {H:Hp} {s:Shared} {a:Addr} {y:V} {u:Value} {A:Around} {E:Value->Shared->Prop}
end
end L2
namespace Att
open PySem PySem.W PySem.Calls PyProof.Rows
theorem kD {P:Params} {h:Heap}:∀ (ns:List Int) (vs:List Value),WellAll P h vs (ns.map WData.int)->IntsAre vs ns:=by
 intro ns
 induction ns with
 | nil=>
  intro vs w
  rw [List.map_nil] at w
  cases w
  exact .nil
 | cons n ns ih=>
  intro vs w
  rw [List.map_cons] at w
  cases w with
  | cons a b=>
   cases a
   exact .cons _ _ (ih _ b)
theorem uN {l:OpenLaw} {n:Nat} (hn:l.most=some n) {P:Params} {h:Heap} {args:List WData} {vals:List Value}
  (hpre:l.row.toRowW.claim.pre args=true) (hwl:WellAll P h vals args):
  ∃ a vs ns,vals=[Value.ref a]/\args=[WData.list (ns.map WData.int)]/\h.get? a=some {cls:=.type "list",data:=.seq vs.toArray}/\IntsAre vs ns/\ns.length<=n:=by
 have hsh:WShape.hasAll [] args [.list .int]=true:=(pre_splitW hpre).1
 have hc:l.pre.holds [] {args:=args}=true:=(pre_splitW hpre).2
 obtain ⟨d,r,rfl,h1,h2⟩:=hasAllW_cons hsh
 obtain rfl:=hasAllW_nil h2
 obtain ⟨xs,rfl,h3⟩:=hasW_list h1
 obtain ⟨ns,rfl⟩:=items_int h3
 have hlen:ns.length<=n:=by
  unfold OpenLaw.pre at hc
  have h4:(WTm.not (.lt (.lit (.int (n:Int))) (.len (.arg 0)))).holds [] {args:=[.list (ns.map .int)]}=true:=by
   have h4:=(holds_andW hc).1
   rw [hn] at h4
   exact h4
  have h5:=condW_of h4 (w_not (w_lt w_lit (w_len_list (w_arg rfl))))
  rw [Ql] at h5
  refine Nat.le_of_not_lt fun q=>?_
  have q':(n:Int) < ((ns.length:Nat):Int):=by omega
  first
   | (rw [Qv q'] at h5;exact absurd h5 (by decide))
   | (simp at h5;omega)
 cases hwl with
 | cons w1 w2=>
  cases w2
  cases w1 with
  | list ho hall=>exact ⟨_,_,ns,rfl,rfl,ho,kD ns _ hall,hlen⟩
theorem uP (l:OpenLaw) (args:List WData):l.row.toRowW.claim.post args (.bool true) args=true:=
 postW_of (r:=l.row.toRowW) (X:=(true==true))
  (show WShape.has [] (.bool true) .bool=true by first | rfl | decide | simp [WShape.has,WShape.arms,WShape.armsAll])
  (show (WTm.eq .res (.lit (.bool true))).value [] {args:=args,res:=some (.bool true),after:=args}=some (.bool (true==true)) from w_eq_bool (w_res rfl) w_lit) rfl
theorem qB {l:OpenLaw} {n:Nat} {q:Program} {loose:List Str} {XP:(Str->Option Value)->Heap->Prop} {YP:World->Heap->Prop} {d:DefRec}
  (hn:l.most=some n) (hdf:d.params.defaults=[])
  (call:∀ (w:World) (s₀ s₁:Shared) (mg mb:Str->Option Value) (fa:Addr) (o:Obj) (pm cd doc:Value) (a:Addr) (vs:List Value) (ns:List Int),
   Ground q loose [] XP w s₀ mg mb s₁.heap->YP w s₁.heap->
   s₁.heap.get? fa=some o->o.data=.func (docDef d.name d.params d.body d.scope pm cd doc)->s₁.heap.CodeRec cd d.name->mg d.name=some (.ref fa)->
   s₁.heap.get? a=some {cls:=.type "list",data:=.seq vs.toArray}->IntsAre vs ns->ns.length<=n->s₁.gens=#[]->
   codeAny (model l.prog w) callerA (.call (.ref fa) ⟨[.ref a],[]⟩) (fun r s'=>r=.ok (.ret (.bool true))/\OldK s₁.heap s'.heap/\s'.os=s₁.os/\AllBare s'.gens) s₁):
  WalkO q loose XP YP l.row.toRowW d [] (fun f vs=>PySem.call f vs):=by
 intro w s₀ s₁ mg mb G Y fa o pm cd doc dV kV ho hd hcd hD hmg hg args vals as hpre hlay hrd hwl hlo
 obtain rfl:dV=.none:=Dflts.none hD hdf
 obtain rfl:kV=.none:=Dflts.noKw hD
 obtain ⟨a,vs,ns,rfl,rfl,hobj,hints,hlen⟩:=uN hn hpre hwl
 refine enter_call (codeAny_mono (call w s₀ s₁ mg mb fa o pm cd doc a vs ns G Y ho (fd_plain hd) hcd hmg hobj hints hlen hg) fun r s' hq=>?_)
 obtain ⟨rfl,h2,h3,h4⟩:=hq
 exact ⟨.inl ⟨.bool true,.bool true,[],rfl,fun _=>rfl,.bool true,uP l _,fun _=>⟨List.Pairwise.nil,fun _ hm=>(nomatch hm)⟩⟩,h2,h3,h4⟩
section
variable {prog:Program} {w:World} {A:Around} {E:Value->Shared->Prop} {s:Shared} {K:Frag}
end
end Att
namespace L2
open PySem PySem.Spec PyProof.Rows
theorem mL:∀ {vs:List Value} {ns:List Int},IntsAre vs ns->Vals (ns.map V.int) vs
 | _,_,.nil=>.nil
 | _,_,.cons n t h=>.cons ⟨t,rfl⟩ (mL h)
end L2
namespace L2
open PySem PySem.Spec PyProof.Rows
end L2
namespace L2
open PySem PySem.Spec PyProof.Rows
def inClass (s:Stmt) (j:Nat):Stmt:=match s with
 | .ClassDef _ _ _ body _ _ _ _ _ _ _=>body.getD j (.Pass ⟨0,0,0,0⟩)
 | _=>.Pass ⟨0,0,0,0⟩
def defArgs (s:Stmt):Arguments:=match s with
 | .FunctionDef _ a _ _ _ _ _ _ _ _=>a
 | _=>{posonlyargs:=[],args:=[],vararg:=none,kwonlyargs:=[],kw_defaults:=[],kwarg:=none,defaults:=[]}
def defBody (s:Stmt):List Stmt:=match s with
 | .FunctionDef _ _ b _ _ _ _ _ _ _=>b
 | _=>[]
def defScope (s:Stmt):Scope:=match s with
 | .FunctionDef _ _ _ _ _ _ sc _ _ _=>sc
 | _=>{kind:=.function,names:=[],isGenerator:=false,isCoroutine:=false}
abbrev CX0:CXT:=fun _ _ _ _ _ _=>False
abbrev E0:XK:=fun _ _ _=>False
theorem pass0 {X:Cx}:Passes CX0 X E0:=fun _ _ _ _ _ _ _ h=>h.elim
structure Fun (K:Q0) (x qual:Str) (st:Stmt) (f:Addr) (fd:FuncData):Prop where
 ex:∃ (oc:Value) (od:Option Addr) (kV doc pm:Value) (an:Option Addr) (cdv ct:Value) (osl:Array (Option Value)),
  fd=PySem.W.fnOf x qual (defArgs st) (defBody st) (defScope st) .none kV doc pm an cdv ct/\K.lookup f=some ⟨oc,od,.func fd,osl⟩/\PySem.W.codeIn K cdv qual=true
 kp:PySem.W.keepIn K (.ref f)=true
section
variable {P:Program} {w:World} {K:Q0} {mg:Str->Option Value} {base:Heap}
theorem Fun.ok {x qual:Str} {st:Stmt} {f:Addr} {fd:FuncData} {N ps:List Str} {k:Nat} {sp:Sp} (F:Fun K x qual st f fd) (S:FnScope N ps (defScope st)) (len:∀ vs H Q E,sp vs H Q E->vs.length=ps.length)
  (hbody:∀ (cdv:Value) (A:Around) (outer:List Env) (s:Shared) (H:Hp) (vs:List V) (Q:VK) (E:XK),Room k (A.deeper (envOfC qual (defScope st) s.heap.objs.size f cdv))->sp vs H Q E->
   ∃ t,PSs (cxOf CX0 P w K mg base N qual (defScope st) f cdv A outer s H E).nox (defBody st) t/\t {nx:=fun _ H'=>Q .non H',rt:=Q} (start N vs) H):FnOk P w K mg base CX0 (k+1) f fd ps sp:=by
 obtain ⟨oc,od,kV,doc,pm,an,cdv,ct,osl,rfl,lk,hcd⟩:=F.ex
 refine a0Z lk hcd S len fun A outer s H vs Q E hr hsp=>?_
 obtain ⟨t,h,q⟩:=hbody cdv A outer s H vs Q E hr hsp
 exact ⟨t,h.nox,q⟩
theorem Fun.binds {x qual:Str} {st:Stmt} {f:Addr} {fd:FuncData} {ps:List Str} (F:Fun K x qual st f fd)
  (h:∀ (kV doc pm:Value) (an:Option Addr) (cdv ct:Value) (us:List Value),us.length=ps.length->bindArgs (PySem.W.fnOf x qual (defArgs st) (defBody st) (defScope st) .none kV doc pm an cdv ct) ⟨us,[]⟩=pure (ps.zip us)):Binds K fd ps []:=by
 obtain ⟨oc,od,kV,doc,pm,an,cdv,ct,osl,rfl,lk,hcd⟩:=F.ex
 exact .all (h kV doc pm an cdv ct)
theorem a0n {x qual:Str} {st:Stmt} {f:Addr} {oc:Value} {od an:Option Addr} {osl:Array (Option Value)} {kV doc pm cdv ct:Value} (l:K.lookup f=some ⟨oc,od,.func (PySem.W.fnOf x qual (defArgs st) (defBody st) (defScope st) .none kV doc pm an cdv ct),osl⟩)
  (c:PySem.W.codeIn K cdv qual=true) (k:PySem.W.keepIn K (.ref f)=true):Fun K x qual st f (PySem.W.fnOf x qual (defArgs st) (defBody st) (defScope st) .none kV doc pm an cdv ct):=⟨⟨oc,od,kV,doc,pm,an,cdv,ct,osl,rfl,l,c⟩,k⟩
end
theorem aQ {A:Around} {k:Nat} (hr:Room k A):A.units+1 < cLine:=Nat.lt_of_le_of_lt (Nat.add_le_add_left (by decide:1<=64) _) hr.units
theorem small1000 {n:Nat} (h:n<=1000):n < sizeLine:=Nat.lt_of_le_of_lt h (by decide)
section
variable {X:Cx}
end
theorem iteF {A B:Prop} (h:B):if false=true then A else B:=by
 rw [if_neg Bool.false_ne_true]
 exact h
theorem iteT {A B:Prop} (h:A):if true=true then A else B:=by
 rw [if_pos rfl]
 exact h
theorem ite2 {c A B:Prop} [Decidable c] (h1:c->A) (h2:¬c->B):if c then A else B:=by
 by_cases h:c
 ·rw [if_pos h]
  exact h1 h
 ·rw [if_neg h]
  exact h2 h
def Same (H H':Hp):Prop:=∀ b o,H b=some o->H' b=some o
theorem Same.refl (H:Hp):Same H H:=fun _ _ h=>h
theorem Same.trans {H H1 H2:Hp} (a:Same H H1) (b:Same H1 H2):Same H H2:=fun c o h=>b c o (a c o h)
theorem Same.free {H H':Hp} (e:Same H H') {l:Addr} (h:H' l=Option.none):H l=Option.none:=by
 cases q:H l with
 | none=>rfl
 | some o=>
  rw [e l o q] at h
  cases h
section
variable {κ:Type} [DecidableEq κ]
theorem xB {kvs:List (κ×V)} {k:κ} (h:valV kvs k=none):¬k∈kvs.map (·.1):=by
 intro m
 obtain ⟨p,hp,e⟩:=List.mem_map.mp m
 have q:(kvs.any fun kv=>decide (kv.1=k))=true:=List.any_eq_true.mpr ⟨p,hp,Qv e⟩
 rw [cA,h] at q
 exact absurd q (by simp)
theorem kJ {kvs:List (κ×V)} {k:κ} {v:V} (h:valV kvs k=some v):k∈kvs.map (·.1):=by
 have q:(kvs.any fun kv=>decide (kv.1=k))=true:=by
  rw [cA,h]
  all_goals rfl
 obtain ⟨p,hp,e⟩:=List.any_eq_true.mp q
 exact List.mem_map.mpr ⟨p,hp,Qt e⟩
theorem uF:∀ {l:List κ} {k:κ},l.Nodup->¬k∈l->(l++[k]).Nodup
 | [],k,_,_=>by simp
 | a::r,k,h,hk=>by
  obtain ⟨h1,h2⟩:=List.nodup_cons.mp h
  show (a::(r++[k])).Nodup
  refine List.nodup_cons.mpr ⟨fun m=>?_,uF h2 fun m=>hk (Qp.mpr (Or.inr m))⟩
  rcases List.mem_append.mp m with q | q
  ·exact h1 q
  ·exact hk (Qp.mpr (Or.inl (List.mem_singleton.mp q).symm))
theorem tO {kvs:List (κ×V)} {k:κ} (v:V) (hn:(kvs.map (·.1)).Nodup) (h:valV kvs k=none):((putK kvs k v).map (·.1)).Nodup:=by
 rw [cP v h,Qm]
 exact uF hn (xB h)
end
end L2
set_option maxRecDepth 100000
namespace L2
open PySem PySem.Spec PyProof.Rows
theorem iE {env:Env}:∀ (names:List (Str×NameKind)) (acc:List (Str×Addr)),
  (∀ y∈names,y.2=.free->∃ c,env.cells.lookup y.1=some c)->(∀ x c,acc.lookup x=some c->env.cells.lookup x=some c)->
  ∃ cl,(forIn names acc fun (x:Str×NameKind) cs=>(if (x.2==NameKind.free)=true then (do let c <- cellOf env x.1;pure (ForInStep.yield ((x.1,c)::cs))) else pure (ForInStep.yield cs):Sem (ForInStep (List (Str×Addr)))))=pure cl/\
   (∀ x c,cl.lookup x=some c->env.cells.lookup x=some c)/\(∀ y∈names,y.2=.free->∃ c,cl.lookup y.1=some c)/\(∀ x c,acc.lookup x=some c->∃ c,cl.lookup x=some c)
 | [],acc,_,ha=>⟨acc,rfl,ha,(fun _ h=>nomatch h),fun x c h=>⟨c,h⟩⟩
 | (n,k)::r,acc,h,ha=>by
  rw [List.forIn_cons]
  by_cases hk:k=.free
  ·obtain ⟨c,hc⟩:=h (n,k) List.mem_cons_self hk
   have hc':cellOf env n=pure c:=by unfold cellOf;rw [show env.cells.lookup n=some c from hc]
   have ha2:∀ x d,((n,c)::acc).lookup x=some d->env.cells.lookup x=some d:=fun x d hx=>by
    rw [List.lookup_cons] at hx
    cases e:x==n with
    | true=>rw [e] at hx;cases hx;rw [eq_of_beq e];exact hc
    | false=>rw [e] at hx;exact ha x d hx
   obtain ⟨cl,e,h1,h2,h3⟩:=iE r ((n,c)::acc) (fun y hy=>h y (Qh _ hy)) ha2
   refine ⟨cl,?_,h1,fun y hy hf=>?_,fun x d hx=>?_⟩
   ·have hk':(k==NameKind.free)=true:=by rw [hk];rfl
    simp only [hk',if_true,hc',pure_bind]
    exact e
   ·rcases Qp.mp hy with z | hy
    ·rw [z];exact h3 n c (by simp [List.lookup_cons])
    ·exact h2 y hy hf
   ·cases e2:x==n with
    | true=>exact h3 x c (by simp [List.lookup_cons,e2])
    | false=>exact h3 x d (by simp [List.lookup_cons,e2,hx])
  ·have hk':(k==NameKind.free)=false:=by simpa using hk
   obtain ⟨cl,e,h1,h2,h3⟩:=iE r acc (fun y hy=>h y (Qh _ hy)) ha
   refine ⟨cl,?_,h1,fun y hy hf=>?_,h3⟩
   ·simp only [hk',Bool.false_eq_true,if_false,pure_bind]
    exact e
   ·rcases Qp.mp hy with z | hy
    ·rw [z] at hf;exact absurd hf hk
    ·exact h2 y hy hf
theorem rZ {sc:Scope} {env:Env} (h:∀ y∈sc.names,y.2=.free->∃ c,env.cells.lookup y.1=some c):
  ∃ cl,closureFor sc env=pure cl/\(∀ x c,cl.lookup x=some c->env.cells.lookup x=some c)/\(∀ y∈sc.names,y.2=.free->∃ c,cl.lookup y.1=some c):=by
 obtain ⟨cl,e,h1,h2,_⟩:=iE (env:=env) sc.names [] h (fun _ _ h=>nomatch h)
 refine ⟨cl,?_,h1,h2⟩
 unfold closureFor
 have e':(forIn sc.names ([]:List (Str×Addr)) fun (x:Str×NameKind) cs=>(if (x.2==NameKind.free)=true then (do let c <- cellOf env x.1;pure (ForInStep.yield ((x.1,c)::cs))) else pure (ForInStep.yield cs):Sem (ForInStep (List (Str×Addr))))) >>=(fun cs=>(pure cs:Sem _))=pure cl:=by rw [e];rfl
 exact e'
theorem dL {env:Env}:∀ {names:List (Str×NameKind)} {x:Str},names.lookup x=some .free->
  (names.map fun (n,k)=>if (k==NameKind.free&&env.scope.kind==.function&&env.kindOf n==some .cell) then (n,NameKind.cell) else (n,k)).lookup x=some .cell\/
  (names.map fun (n,k)=>if (k==NameKind.free&&env.scope.kind==.function&&env.kindOf n==some .cell) then (n,NameKind.cell) else (n,k)).lookup x=some .free
 | [],_,h=>by simp at h
 | (n,k)::r,x,h=>by
  have ih:=@dL env r x
  show List.lookup x ((if (k==NameKind.free&&env.scope.kind==.function&&env.kindOf n==some .cell)=true then (n,NameKind.cell) else (n,k))::_)=_\/List.lookup x ((if (k==NameKind.free&&env.scope.kind==.function&&env.kindOf n==some .cell)=true then (n,NameKind.cell) else (n,k))::_)=_
  cases hx:x==n with
  | true=>
   simp only [List.lookup_cons,hx] at h
   cases h
   by_cases hc:(NameKind.free==NameKind.free&&env.scope.kind==.function&&env.kindOf n==some .cell)=true
   ·rw [if_pos hc];simp [List.lookup_cons,hx]
   ·rw [if_neg hc];simp [List.lookup_cons,hx]
  | false=>
   simp only [List.lookup_cons,hx] at h
   by_cases hc:(k==NameKind.free&&env.scope.kind==.function&&env.kindOf n==some .cell)=true
   ·rw [if_pos hc];simp only [List.lookup_cons,hx];exact ih h
   ·rw [if_neg hc];simp only [List.lookup_cons,hx];exact ih h
theorem jW {env:Env} {names:List (Str×NameKind)} {x:Str} {k:NameKind}
  (h:(names.map fun (n,k)=>if (k==NameKind.free&&env.scope.kind==.function&&env.kindOf n==some .cell) then (n,NameKind.cell) else (n,k)).lookup x=some k) (hk:k=.cell\/k=.free) (hc:∀ y∈names,y.2≠.cell):(x,NameKind.free)∈names:=by
 have hm:=PySem.mem_of_lookup h
 obtain ⟨⟨n,k'⟩,h1,h2⟩:=List.mem_map.mp hm
 dsimp only at h2
 split at h2
 ·next hh=>
  cases h2
  have:k'=.free:=by
   simp only [Bool.and_eq_true,beq_iff_eq] at hh
   exact hh.1.1
  rw [<- this];exact h1
 ·cases h2
  rcases hk with z | z
  ·exact absurd z (hc _ h1)
  ·rw [<- z];exact h1
abbrev cxComp (X:Cx) (N':List Str) (sc:Scope) (cl:List (Str×Addr)) (C:Addr) (s3:Shared) (H0:Hp) (fp:List Addr) (pn:List (Addr×Obj)):Cx where
 prog:=X.prog
 w:=X.w
 K:=X.K
 mg:=X.mg
 base:=X.base
 A:=X.A
 N:=N'
 s₀:=s3
 H₀:=H0
 env:=compEnvC sc cl C X.env
 outer:=X.stack
 stack:=X.stack
 ex:=fp
 fn:=fun _=>false
 calm:=X.calm
 pn:=pn
 xe:=fun _ _=>False
structure CScope (osc:Scope) (oN:List Str) (sc:Scope) (own:List Str) (idx:List Nat) (N':List Str):Prop where
 kind:sc.kind=.function
 cell:∀ y∈sc.names,y.2≠.cell
 names:∀ y∈sc.names,y.2=.local->sc.names.lookup y.1=some .local
 free:∀ y∈sc.names,y.2=.free->(osc.names.lookup y.1=some .cell\/osc.names.lookup y.1=some .free)
 seen:∀ j∈idx,sc.names.lookup (oN.getD j "")=some .free/\j < oN.length
 nn:N'=own++idx.map (fun j=>oN.getD j "")
def stIn (own:List Str) (idx:List Nat) (σ:St):St:=List.replicate own.length none++idx.map fun j=>(σ[j]?).join
section
variable {X:Cx} {pins:List (Addr×Obj)} {σ:St} {H2:Hp} {s2:Shared}
theorem l6 {sc:Scope} {own:List Str} {idx:List Nat} {N':List Str} {cl:List (Str×Addr)} {fp:List Addr} {h4:Heap} {ob:Obj} {ho:HO} {t4:Nat} (S:CScope X.env.scope X.N sc own idx N') (I:Inv X pins σ H2 s2) (hf:∀ b∈fp,FpOk X pins H2 b) (hfo:∀ b∈fp,∃ o,s2.heap.get? b=some o)
  (c1:∀ x c,cl.lookup x=some c->X.env.cells.lookup x=some c) (c2:∀ y∈sc.names,y.2=.free->∃ c,cl.lookup y.1=some c) (hob:ob.isFreed=false)
  (hD:∀ (H:Hp) (h:Heap),h.get? s2.heap.objs.size=some ob->ObjOk X.prog X.w H h s2.heap.objs.size ho)
  (ns:h4.Ns (s2.heap.push ob).objs.size (fun x=>([]:List (Str×Value)).reverse.lookup x)) (sb:∀ b o,(s2.heap.push ob).get? b=some o->h4.get? b=some o):
  Inv (cxComp X N' sc cl (s2.heap.push ob).objs.size {s2 with heap:=s2.heap.push ob} (upd H2 s2.heap.objs.size ho) fp (X.pn++pins)) [] (stIn own idx σ) (upd H2 s2.heap.objs.size ho) {s2 with heap:=h4,toks:=t4}:=by
 have hsz:(s2.heap.push ob).objs.size=s2.heap.objs.size+1:=Heap.size_push _ _
 have fr2:H2 s2.heap.objs.size=none:=I.hok.fresh (Qy _)
 have up:∀ b o,s2.heap.get? b=some o->(s2.heap.push ob).get? b=some o:=fun b o e=>Qc _ e
 have up4:∀ b o,s2.heap.get? b=some o->h4.get? b=some o:=fun b o e=>sb b o (up b o e)
 have ltD:∀ b o,s2.heap.get? b=some o->b≠s2.heap.objs.size:=fun b o e=>Nat.ne_of_lt (Qz e)
 have nh:∀ b o,s2.heap.get? b=some o->H2 b=none->upd H2 s2.heap.objs.size ho b=none:=fun b o e n=>by rw [aD (ltD b o e)];exact n
 have stkO:∀ b∈frs X.stack,∃ o,s2.heap.get? b=some o:=fun b hb=>by
  obtain ⟨_,o,ho,_⟩:=I.stack.mem hb
  exact ⟨o,ho⟩
 have cellO:∀ x c,cl.lookup x=some c->∃ o,s2.heap.get? c=some o:=fun x c e=>by
  obtain ⟨v,o,ho,_⟩:=I.cell x c (c1 x c e)
  exact ⟨o,ho⟩
 have eD:(s2.heap.push ob).get? s2.heap.objs.size=some ob:=Qd s2.heap hob
 have hok3:HOk X.prog X.w (upd H2 s2.heap.objs.size ho) h4:=I.hok.laid up4 (Qy _) (hD _ _ (sb _ _ eD))
 refine ⟨⟨I.ok.mod,S.kind,I.ok.glob,I.ok.blt,Qy _,fun x y c h1 h2=>I.ok.inj x y c (c1 x c h1) (c1 y c h2),fun x hx=>?_,(fun x c hx _=>nomatch hx),I.ok.hd,I.ok.frames,.inl rfl,fun b hb=>⟨?_,fun x c e=>?_⟩,fun b o e=>⟨?_,?_⟩,?_,fun b o e hb=>?_,fun b hb=>?_,?_,fun b hb=>?_⟩,
  rfl,I.bare,Un.kept sb,⟨_,ns,fun i x v h1 h2 h3=>?_⟩,fun x c e=>?_,?_,fun x c e=>?_,fun p hp=>?_,hok3,?_⟩
 ·rcases hx with hx | hx
  ·exact c2 (x,.free) (jW hx (.inl rfl) S.cell) rfl
  ·exact c2 (x,.free) (jW hx (.inr rfl) S.cell) rfl
 ·obtain ⟨o,e⟩:=hfo b hb
  have:=Qz e
  show b≠(s2.heap.push ob).objs.size
  rw [hsz];exact Nat.ne_of_lt (Nat.lt_succ_of_lt this)
 ·exact (hf b hb).2.2.2.2.1 x c (c1 x c e)
 ·exact up b o (I.bk b o e)
 ·exact nh b o (I.bk b o e) (I.bs b o e).2
 ·show X.base.objs.size<=(s2.heap.push ob).objs.size
  have:=Nat.le_trans I.ok.bsz I.sz
  rw [hsz];omega
 ·obtain ⟨f0,f1,f2,f3,f4,f5⟩:=hf b hb
  rcases f3 with z | z
  ·exact I.ok.noex b o e z
  ·exact absurd (Qz e) (Nat.not_lt.mpr (Nat.le_trans I.ok.bsz z))
 ·obtain ⟨f0,f1,f2,f3,f4,f5⟩:=hf b hb
  intro z
  rcases Qp.mp (I.stkSub b z) with z | z
  ·exact f1 z
  ·exact f2 z
 ·exact Heap.FunFrames.of_keeps (fun b o e _=>⟨o,up b o e,rfl⟩) I.stack
 ·obtain ⟨o,e⟩:=stkO b hb
  exact nh b o e (I.stkFree b hb)
 ·unfold stIn at h2
  by_cases hi:i < own.length
  ·rw [Qg (by simpa using hi),List.getElem?_replicate,if_pos hi] at h2
   cases h2
  ·rw [List.getElem?_append_right (by simpa using hi),List.length_replicate,Qq] at h2
   have h1':N'[i]? =some x:=h1
   rw [S.nn,List.getElem?_append_right (by simpa using hi),Qq] at h1'
   cases ej:idx[i - own.length]? with
   | none=>rw [ej] at h1';cases h1'
   | some j=>
    rw [ej] at h1' h2
    obtain ⟨hs1,hs2⟩:=S.seen j (QC ej)
    have hx:X.N[j]? =some x:=by
     have:X.N.getD j ""=x:=QD h1'
     rw [<- this,Qb,Qa hs2];rfl
    have hv:σ[j]? =some (some v):=by
     have h2':(σ[j]?).join=some v:=QD h2
     cases q:σ[j]? with
     | none=>rw [q] at h2';cases h2'
     | some w=>rw [q] at h2';exact congrArg some h2'
    have hsx:sc.names.lookup x=some .free:=by
     have:X.N.getD j ""=x:=QD h1'
     rw [<- this];exact hs1
    have hmem:(x,NameKind.free)∈sc.names:=PySem.mem_of_lookup hsx
    obtain ⟨m,hn,hl⟩:=I.loc
    have hvis:Vis X.env.scope x:=by
     rcases S.free _ hmem rfl with z | z
     ·exact .inr (.inl z)
     ·exact .inr (.inr z)
    obtain ⟨u,r,lk⟩:=hl j x v hx hv hvis
    refine ⟨u,r,?_⟩
    rcases lk with ⟨k,_⟩ | ⟨k,c,e,z⟩
    ·rcases S.free _ hmem rfl with q | q
     ·have q':X.env.kindOf x=some .cell:=q
      rw [q'] at k;cases k
     ·have q':X.env.kindOf x=some .free:=q
      rw [q'] at k;cases k
    ·obtain ⟨c',hc'⟩:=c2 (x,.free) hmem rfl
     have e':=c1 x c' hc'
     rw [e] at e'
     cases e'
     refine .inr ⟨?_,c,hc',?_⟩
     ·rcases dL (env:=X.env) hsx with q | q
      ·exact .inl q
      ·exact .inr q
     ·obtain ⟨o,ho',hd⟩:=z
      exact ⟨o,up4 c o ho',hd⟩
 ·obtain ⟨v,o,ho',hd⟩:=I.cell x c (c1 x c e)
  exact ⟨v,o,up4 c o ho',hd⟩
 ·show upd H2 s2.heap.objs.size ho (s2.heap.push ob).objs.size=none
  rw [aD (by rw [hsz];exact Nat.ne_of_gt (Nat.lt_succ_self _))]
  exact I.hok.fresh (by rw [hsz];omega)
 ·obtain ⟨o,e1⟩:=cellO x c e
  exact nh c o e1 (I.freeC x c (c1 x c e))
 ·have hp':p∈X.pn++pins:=by simpa using hp
  obtain ⟨e,n,ne,nf,d⟩:=I.pin p hp'
  refine ⟨up4 _ _ e,nh _ _ e n,?_,fun z=>?_,d⟩
  ·have:=Qz e
   show p.1≠(s2.heap.push ob).objs.size
   rw [hsz];exact Nat.ne_of_lt (Nat.lt_succ_of_lt this)
  ·rcases Qp.mp (I.stkSub p.1 z) with z | z
   ·exact ne z
   ·exact nf z
 ·show (stIn own idx σ).length=N'.length
  rw [S.nn];unfold stIn
  simp
theorem jE {sc:Scope} {N':List Str} {cl:List (Str×Addr)} {fp:List Addr} {ob:Obj} {ho:HO} {τ:St} {H':Hp} {s':Shared} (I:Inv X pins σ H2 s2) (hf:∀ b∈fp,FpOk X pins H2 b) (hob:ob.isFreed=false)
  (J:Inv (cxComp X N' sc cl (s2.heap.push ob).objs.size {s2 with heap:=s2.heap.push ob} (upd H2 s2.heap.objs.size ho) fp (X.pn++pins)) [] τ H' s'):
  Inv X pins σ H' s'/\H' (s2.heap.push ob).objs.size=none/\(s2.heap.push ob).objs.size≠X.env.locals/\X.s₀.heap.objs.size<=(s2.heap.push ob).objs.size/\
   (∀ x c,X.env.cells.lookup x=some c->c≠(s2.heap.push ob).objs.size)/\(∀ p∈X.pn++pins,p.1≠(s2.heap.push ob).objs.size)/\∃ m,s'.heap.Ns (s2.heap.push ob).objs.size m:=by
 have hsz:(s2.heap.push ob).objs.size=s2.heap.objs.size+1:=Heap.size_push _ _
 have u1:Un (frs X.stack) fp H2 (upd H2 s2.heap.objs.size ho) s2.heap (s2.heap.push ob):=Un.laid (fun b o e=>Qc _ e) (Qy _) (I.hok.fresh (Qy _))
 have u2:Un (frs X.stack) fp (upd H2 s2.heap.objs.size ho) H' (s2.heap.push ob) s'.heap:=J.base
 have hos:s'.os=s2.os:=J.os
 refine ⟨I.call' hos (u1.trans u2) J.hok J.bare fun b hb=>?_,J.free,?_,?_,fun x c e z=>?_,fun p hp z=>?_,let ⟨m,hn,_⟩:=J.loc;⟨m,hn⟩⟩
 ·obtain ⟨f0,f1,f2,f3,f4,f5⟩:=hf b hb
  exact ⟨f3,f1,f4,f5⟩
 ·rw [hsz];exact Nat.ne_of_gt (Nat.lt_succ_of_lt I.lt)
 ·have:=I.sz;rw [hsz];omega
 ·obtain ⟨v,q⟩:=I.cell x c e
  have:=q.lt
  rw [z,hsz] at this;exact absurd this (Nat.not_lt.mpr (Nat.le_succ _))
 ·have:=Qz (I.pin p hp).1
  rw [z,hsz] at this;exact absurd this (Nat.not_lt.mpr (Nat.le_succ _))
end
section
variable {prog:Program} {w:World} {A:Around} {R:Result->Shared->Prop} {s:Shared}
abbrev NoE:Value->Shared->Prop:=fun _ _=>False
theorem compLoopG {elt target iter:Expr} {ifs:List Expr} {scope:Scope} {pos:Pos} {it acc:Value} {env:Env} (I:Nat->Shared->Prop)
  (turn:∀ n s,I n s->wpAny (model prog w) A (pyNext it) (fun r s₁=>match r with
   | none=>R (.ok .next) s₁
   | some v=>wpAny (model prog w) A (letOwnedTupleGo target it v) (fun _ s₁'=>wpAny (model prog w) A (assign target env v) (fun _ s₂=>
     wpAny (model prog w) A (forIn ifs true fun c r=>if r=true then do let ok <- isTrue c env (eval c env);pure (ForInStep.yield ok) else pure (ForInStep.yield r)) (fun ok s₃=>
      if ok=true then wpAny (model prog w) A (eval elt env) (fun x s₄=>
       wpAny (model prog w) A (call (.builtin "list.append") [acc,x]) (fun _ s₅=>∃ m,m < n/\I m s₅) NoE s₄) NoE s₃
      else ∃ m,m < n/\I m s₃) NoE s₂) NoE s₁') NoE s₁) NoE s)
  (n:Nat) (h:I n s):
  codeAny (model prog w) A (.compLoop (.ListComp elt [⟨target,iter,ifs,0⟩] scope pos) 0 it acc env) R s:=by
 refine codeAny_loop rfl I (fun n s hI=>?_) n h
 show wpAny _ A ((compTurn (.ListComp elt [⟨target,iter,ifs,0⟩] scope pos) 0 it acc env).onRaise (fun x=>do noteFrame x env;theTreesLotGoes x)) _ _ s
 refine wpAny_noted ?_
 rw [compTurn_list]
 refine QT (wpAny_standAt (QT (wpAny_mono (turn n s hI) (fun r s₁ h₁=>?_) fun _ _ h'=>h'.elim)))
 cases r with
 | none=>exact QU h₁
 | some v=>
  refine QT (wpAny_mono h₁ (fun _ s₁' h₁'=>?_) fun _ _ h'=>h'.elim)
  refine QT (wpAny_mono h₁' (fun _ s₂ h₂=>QT (wpAny_mono h₂ (fun ok s₃ h₃=>?_) fun _ _ h'=>h'.elim)) fun _ _ h'=>h'.elim)
  cases ok with
  | false=>exact QU ⟨rfl,h₃⟩
  | true=>
   exact QT (QT (wpAny_mono h₃ (fun x s₄ h₄=>QT (wpAny_mono h₄ (fun _ s₅ h₅=>QU (QU ⟨rfl,h₅⟩)) fun _ _ h'=>h'.elim)) fun _ _ h'=>h'.elim))
end
abbrev TC:=St->Hp->(Bool->Hp->Prop)->Prop
def PC' (X:Cx) (ifs:List Expr) (t:TC):Prop:=
 ∀ (pins:List (Addr×Obj)) (s:Shared) (σ:St) (H:Hp) (Q:Bool->Hp->Prop),Inv X pins σ H s->t σ H Q->
  wpAny (model X.prog X.w) X.A (forIn ifs true fun c r=>if r=true then do let ok <- isTrue c X.env (eval c X.env);pure (ForInStep.yield ok) else pure (ForInStep.yield r)) (TP X pins σ Q) X.xe s
def tcNil:TC:=fun _ H Q=>Q true H
theorem zS {X:Cx}:PC' X [] tcNil:=fun pins s σ H Q I h=>QU ⟨H,I,h⟩
theorem zP {X:Cx} {c:Expr} {t:TT} (h:PT X c t):PC' X [c] t:=fun pins s σ H Q I hq=>wpAny_tests_one (h pins s σ H Q I hq)
def tLC (own:List Str) (idx:List Nat) (wi:TI) (g:TG) (tc:TC) (te:TE):TE:=fun σ H Q=>wi σ H fun J H1=>∀ D,H1 D=none->∃ W:Nat->Nat->St->Hp->Prop,(∃ m,W 0 m (stIn own idx σ) (upd H1 D (.lst [])))/\∀ i m τ H,W i m τ H->
 (J.stop i H/\Q (.ref D) H)\/(J.go i H/\∃ N:St->Hp->Prop,(∀ τ' H',N τ' H'->∃ m',m' < m/\W (i+1) m' τ' H')/\∀ x H',J.yld i H x H'->g x τ H' fun τ2 H2=>tc τ2 H2 fun b H3=>
  if b=true then te τ2 H3 fun y H4=>∃ xs,H4 D=some (.lst xs)/\xs.length < sizeLine/\N τ2 (upd H4 D (.lst (xs++[y]))) else N τ2 H3)
section
variable {X:Cx} {tg iter elt:Expr} {ifs:List Expr} {sc:Scope} {pos:Pos} {own:List Str} {idx:List Nat} {N':List Str} {wi:TI} {g:TG} {tc:TC} {te:TE}
abbrev lob:Obj:={cls:=.type "list",dict:=none,data:=.seq ([]:List Value).toArray}
theorem lU (S:CScope X.env.scope X.N sc own idx N') {cl:List (Str×Addr)} (c1:∀ x c,cl.lookup x=some c->X.env.cells.lookup x=some c) (c2:∀ y∈sc.names,y.2=.free->∃ c,cl.lookup y.1=some c) (hc:X.calm=true)
  (hg:∀ cl C s3 H0 fp pn,PG (cxComp X N' sc cl C s3 H0 fp pn) tg g) (ht:∀ cl C s3 H0 fp pn,PC' (cxComp X N' sc cl C s3 H0 fp pn) ifs tc) (he:∀ cl C s3 H0 fp pn,PE (cxComp X N' sc cl C s3 H0 fp pn) elt te)
  {pins:List (Addr×Obj)} {σ:St} {Q:VK} {itv:Value} {s2:Shared} {RR:Value->Addr->Result->Shared->Prop} {E:Value->Shared->Prop}
  (hI:PIE X pins σ tg (fun J H1=>∀ D,H1 D=none->∃ W:Nat->Nat->St->Hp->Prop,(∃ m,W 0 m (stIn own idx σ) (upd H1 D (.lst [])))/\∀ i m τ H,W i m τ H->
   (J.stop i H/\Q (.ref D) H)\/(J.go i H/\∃ N:St->Hp->Prop,(∀ τ' H',N τ' H'->∃ m',m' < m/\W (i+1) m' τ' H')/\∀ x H',J.yld i H x H'->g x τ H' fun τ2 H2=>tc τ2 H2 fun b H3=>
    if b=true then te τ2 H3 fun y H4=>∃ xs,H4 D=some (.lst xs)/\xs.length < sizeLine/\N τ2 (upd H4 D (.lst (xs++[y]))) else N τ2 H3)) itv s2)
  (hRR:∀ D C H' s',Inv X pins σ H' s'->Q (.ref D) H'->(H' C=none/\C≠X.env.locals/\X.s₀.heap.objs.size<=C/\(∀ x c,X.env.cells.lookup x=some c->c≠C)/\(∀ p∈X.pn++pins,p.1≠C)/\∃ m,s'.heap.Ns C m)->RR (.ref D) C (.ok .next) s'):
  wpAny (model X.prog X.w) X.A (newList []) (fun acc s₃=>wpAny (model X.prog X.w) X.A (newFunctionEnv sc X.env.globals cl [] X.env.qual none .none (some X.env)) (fun cenv s₄=>
   codeAny (model X.prog X.w) X.A (.compStart (.ListComp elt [⟨tg,iter,ifs,0⟩] sc pos) 0 itv acc {cenv with scope:=relabel sc X.env}) (RR acc cenv.locals) s₄) E s₃) E s2:=by
 obtain ⟨it,fp,tn,J,H2,rfl,I,T,st2,f2,body⟩:=hI
 refine wpAny_newObj_type (wpAny_newFunctionEnv S.cell (by intro y hy;simp at hy) (fun h4 ns sb=>?_) S.kind)
 dsimp only at ns sb ⊢
 have hob:lob.isFreed=false:=rfl
 have fr:H2 s2.heap.objs.size=none:=I.hok.fresh (Qy _)
 obtain ⟨W,⟨m0,w0⟩,turn⟩:=body _ fr
 have hfo:∀ b∈fp,∃ o,s2.heap.get? b=some o:=fun b hb=>let ⟨o,e,_⟩:=T.obj _ _ st2 b hb;⟨o,e⟩
 have sb':∀ b o,(s2.heap.push lob).get? b=some o->h4.get? b=some o:=fun b o e=>(sb.2 b (Nat.ne_of_lt (Qz e))).trans (Qc _ e)
 have hDo:∀ (H:Hp) (h:Heap),h.get? s2.heap.objs.size=some lob->ObjOk X.prog X.w H h s2.heap.objs.size (.lst []):=fun H h e=>⟨Nat.zero_le _,[],_,.nil,e⟩
 have I4:Inv (cxComp X N' sc cl (s2.heap.push lob).objs.size {s2 with heap:=s2.heap.push lob} (upd H2 s2.heap.objs.size (.lst [])) fp (X.pn++pins)) [] (stIn own idx σ) (upd H2 s2.heap.objs.size (.lst [])) {s2 with heap:=h4,toks:=s2.toks+([]:List (Str×Value)).length}:=
  l6 S I f2 hfo c1 c2 hob hDo ns sb'
 -- the block's own context
 generalize hY:cxComp X N' sc cl (s2.heap.push lob).objs.size {s2 with heap:=s2.heap.push lob} (upd H2 s2.heap.objs.size (.lst [])) fp (X.pn++pins)=Y at I4
 have hgY:PG Y tg g:=by rw [<- hY];exact hg _ _ _ _ _ _
 have htY:PC' Y ifs tc:=by rw [<- hY];exact ht _ _ _ _ _ _
 have heY:PE Y elt te:=by rw [<- hY];exact he _ _ _ _ _ _
 have pY:Y.prog=X.prog:=by rw [<- hY]
 have wY:Y.w=X.w:=by rw [<- hY]
 have KY:Y.K=X.K:=by rw [<- hY]
 have AY:Y.A=X.A:=by rw [<- hY]
 have cY:Y.calm=true:=by rw [<- hY];exact hc
 have xY:Y.xe=fun _ _=>False:=by rw [<- hY]
 have eY:Y.env=compEnvC sc cl (s2.heap.push lob).objs.size X.env:=by rw [<- hY]
 have exY:Y.ex=fp:=by rw [<- hY]
 have fsY:Y.fs=frs X.stack:=by rw [<- hY]
 have pnY:Y.pn=X.pn++pins:=by rw [<- hY]
 have stat:∀ {H':Hp},(∀ b∈fp,H' b=none)->∀ b∈fp,FpOk Y [] H' b:=fun hn b hb=>by
  obtain ⟨f0,f1,f3,f4,f5,f6⟩:=f2 b hb
  refine ⟨hn b hb,?_,?_,.inl (by rw [exY];exact hb),fun x c e=>?_,fun p hp=>?_⟩
  ·obtain ⟨o,e⟩:=hfo b hb
   have:=Qz e
   rw [eY]
   show b≠(s2.heap.push lob).objs.size
   rw [Heap.size_push];exact Nat.ne_of_lt (Nat.lt_succ_of_lt this)
  ·rw [fsY]
   intro z
   rcases Qp.mp (I.stkSub b z) with z | z
   ·exact f1 z
   ·exact f3 z
  ·rw [eY] at e
   exact f5 x c (c1 x c e)
  ·rw [pnY,List.append_nil] at hp
   exact f6 p hp
 have st4:tn 0 h4:=T.keep _ _ _ st2 fun b hb o e=>sb' b o (Qc _ e)
 have fr4:∀ b∈fp,upd H2 s2.heap.objs.size (.lst []) b=none:=fun b hb=>by
  obtain ⟨o,e⟩:=hfo b hb
  rw [aD (Nat.ne_of_lt (Qz e))]
  exact (f2 b hb).1
 have loop:codeAny (model X.prog X.w) X.A (.compLoop (.ListComp elt [⟨tg,iter,ifs,0⟩] sc pos) 0 (.ref it) (.ref s2.heap.objs.size) (compEnvC sc cl (s2.heap.push lob).objs.size X.env))
   (RR (.ref s2.heap.objs.size) (s2.heap.push lob).objs.size) {s2 with heap:=h4,toks:=s2.toks+([]:List (Str×Value)).length}:=by
  refine compLoopG (fun n s'=>∃ i τ H',Inv Y [] τ H' s'/\tn i s'.heap/\(∀ b∈fp,H' b=none)/\W i n τ H') ?_ m0 ⟨0,_,_,I4,st4,fr4,w0⟩
  rintro n s3 ⟨i,τ3,H3,I3,st3,fr3,w3⟩
  rcases turn i n τ3 H3 w3 with ⟨stop,qn⟩ | ⟨go,N,hN,step⟩
  ·have h:=T.done Y pY wY KY cY i [] s3 τ3 H3 NoE I3 (stat fr3) st3 stop
   rw [AY] at h
   refine thn h ?_
   rintro r s4 ⟨hr,I4'⟩
   subst hr
   have J4:=I4'
   rw [<- hY] at J4
   obtain ⟨b1,b2⟩:=jE I f2 hob J4
   exact hRR _ _ _ _ b1 qn b2
  ·have h:=T.item Y pY wY KY cY i [] s3 τ3 H3 NoE I3 (stat fr3) st3 go
   rw [AY] at h
   refine thn h ?_
   rintro r s4 ⟨u,hr,h4'⟩
   subst hr
   refine thn h4' ?_
   rintro _ s5 ⟨x,H5,I5,r5,y5,st5,fr5⟩
   have I5':=I5.pinned (stat fr5) (T.obj _ _ st5)
   have g5:=hgY _ s5 τ3 H5 x u _ I5' r5 (step x H5 y5)
   rw [pY,wY,AY,xY,eY] at g5
   refine thn g5 ?_
   rintro _ s6 ⟨τ6,H6,I6,q6⟩
   have t6:=htY _ s6 τ6 H6 _ I6 q6
   rw [pY,wY,AY,xY,eY] at t6
   refine thn t6 ?_
   rintro ok s7 ⟨H7,I7,q7⟩
   have again:∀ {τ8:St} {H8:Hp} {s8:Shared},Inv Y ([]++pinsAt fp s5.heap) τ8 H8 s8->N τ8 H8->∃ m,m < n/\∃ i τ' H',Inv Y [] τ' H' s8/\tn i s8.heap/\(∀ b∈fp,H' b=none)/\W i m τ' H':=fun {τ8 H8 s8} I8 n8=>by
    obtain ⟨m',hm,w8⟩:=hN τ8 H8 n8
    refine ⟨m',hm,i+1,τ8,H8,I8.unpinned,T.keep _ _ _ st5 fun b hb o e=>(I8.pin (b,o) (List.mem_append_right _ (List.mem_append_right _ (cL hb e)))).1,fun b hb=>?_,w8⟩
    obtain ⟨o,e,d⟩:=T.obj _ _ st5 b hb
    exact (I8.pin (b,o) (List.mem_append_right _ (List.mem_append_right _ (cL hb e)))).2.1
   cases ok with
   | false=>
    rw [if_neg (by decide)] at q7 ⊢
    exact again I7 q7
   | true=>
    rw [if_pos rfl] at q7 ⊢
    have e7:=heY _ s7 τ6 H7 _ I7 q7
    rw [pY,wY,AY,xY,eY] at e7
    refine thn e7 ?_
    rintro yv s8 ⟨y,H8,I8,r8,xs,hD8,hz,n8⟩
    have a8:=bV (X:=Y) _ s8 τ6 H8 (.ref s2.heap.objs.size) [y] (.ref s2.heap.objs.size) [yv] (fun v H'=>N τ6 H') I8 rfl (.cons r8 .nil) ⟨_,xs,y,rfl,rfl,hD8,hz,n8⟩
    rw [pY,wY,AY,xY] at a8
    refine thn a8 ?_
    rintro _ s9 ⟨_,H9,I9,_,n9⟩
    exact again I9 n9
 exact codeAny_compStart_list loop (T.self _ 0 _ _ _ st4 loop)
theorem CScope.closure (S:CScope X.env.scope X.N sc own idx N') (ok:X.Ok):∃ cl,closureFor sc X.env=pure cl/\(∀ x c,cl.lookup x=some c->X.env.cells.lookup x=some c)/\(∀ y∈sc.names,y.2=.free->∃ c,cl.lookup y.1=some c):=
 rZ fun y hy hf=>ok.has _ (S.free y hy hf)
theorem a2R (S:CScope X.env.scope X.N sc own idx N') (hc:X.calm=true) (hi:PI X tg iter wi)
  (hg:∀ cl C s3 H0 fp pn,PG (cxComp X N' sc cl C s3 H0 fp pn) tg g) (ht:∀ cl C s3 H0 fp pn,PC' (cxComp X N' sc cl C s3 H0 fp pn) ifs tc) (he:∀ cl C s3 H0 fp pn,PE (cxComp X N' sc cl C s3 H0 fp pn) elt te)
  (hs:∀ x,foldedSetIterable iter X.env x=pure x:=by intro _;rfl):PE X (.ListComp elt [⟨tg,iter,ifs,0⟩] sc pos) (tLC own idx wi g tc te):=by
 intro pins s σ H Q I h
 obtain ⟨cl,hcl,c1,c2⟩:=S.closure I.ok
 rw [eval_ListComp]
 refine wpAny_comprehension_free (use:=none) rfl hs hcl S.kind S.names (thn (hi pins s σ H _ I h) fun v s1 h1=>thn h1 fun itv s2 h2=>?_)
 refine lU (Q:=Q) (pins:=pins) (σ:=σ) (RR:=fun acc C=>compPost (model X.prog X.w) X.A X.xe none (EP X pins σ Q) acc C) S c1 c2 hc hg ht he h2 ?_
 intro D C H' s' I' q ⟨a1,a2,a3,a4,a5,m,a6⟩
 exact ⟨m,a6,fun h' sb=>⟨.ref D,H',I'.turned (t':=s'.toks) (fun b o hb e=>(sb.2 b hb).trans e) a1 (Ne.symm (Ne.symm a2)) (.inr a3) a4 a5,rfl,q⟩⟩
theorem a2D {i:Nat} {y:Str} {py spos:Pos} (S:CScope X.env.scope X.N sc own idx N') (hc:X.calm=true) (hi:PI X tg iter wi)
  (hg:∀ cl C s3 H0 fp pn,PG (cxComp X N' sc cl C s3 H0 fp pn) tg g) (ht:∀ cl C s3 H0 fp pn,PC' (cxComp X N' sc cl C s3 H0 fp pn) ifs tc) (he:∀ cl C s3 H0 fp pn,PE (cxComp X N' sc cl C s3 H0 fp pn) elt te)
  (hN:X.N.Nodup) (hiy:X.N[i]? =some y) (hy:X.env.scope.names.lookup y=some .local)
  (hsw:swapsWith (.ListComp elt [⟨tg,iter,ifs,0⟩] sc pos) (some (.Name y py)) spos.line X.env=pure true:=by rfl)
  (hs:∀ x,foldedSetIterable iter X.env x=pure x:=by intro _;rfl):PS X (.Assign [.Name y py] (.ListComp elt [⟨tg,iter,ifs,0⟩] sc pos) spos) (tAsg (tLC own idx wi g tc te) (gName i)):=by
 intro pins s σ H D I h
 obtain ⟨cl,hcl,c1,c2⟩:=S.closure I.ok
 rw [exec_Assign_Name_used _ _ _ _ hsw]
 refine QT (wpAny_standAt (QT ?_))
 show wpAny _ X.A (do let _ <- comprehension (.ListComp elt [⟨tg,iter,ifs,0⟩] sc pos) sc X.env _ (newList []) false (eval iter X.env) (some (assign (.Name y py) X.env))) _ _ s
 refine QT (wpAny_mono (wpAny_comprehension_free (use:=some (assign (.Name y py) X.env)) (Q:=fun _ s'=>SP X pins D .next s') rfl hs hcl S.kind S.names
  (thn (hi pins s σ H _ I h) fun v s1 h1=>thn h1 fun itv s2 h2=>?_)) (fun _ s' hq=>QU (QU hq)) fun _ _ e=>e)
 refine lU (Q:=fun x H1=>gName i x σ H1 D.nx) (pins:=pins) (σ:=σ) (RR:=fun acc C=>compPost (model X.prog X.w) X.A X.xe (some (assign (.Name y py) X.env)) (fun _ s'=>SP X pins D .next s') acc C) S c1 c2 hc hg ht he h2 ?_
 intro D' C H' s' I' q ⟨a1,a2,a3,a4,a5,m,a6⟩
 show wpAny _ X.A (assign (.Name y py) X.env (.ref D')) _ _ _
 refine wpAny_assign_Name (mD (v:=.ref D') I' hN hiy (.inl hy) rfl (fun s'' I'' ⟨a,sb,ha⟩=>?_) (.inr hy))
 have nCa:C≠a:=by
  rcases ha with z | z
  ·rw [z];exact a2
  ·exact Ne.symm (a4 _ _ z)
 refine ⟨m,a6.sameBut sb nCa,fun h' sb'=>⟨_,H',I''.turned (t':=s''.toks) (fun b o hb e=>(sb'.2 b hb).trans e) a1 a2 (.inr a3) a4 a5,q⟩⟩
end
def tV (i:Nat):TE:=fun σ H Q=>match σ[i]? with | some (some v)=>Q v H | _=>False
section
variable {X:Cx}
theorem pvv (i:Nat) {x:Str} {pos:Pos} (hN:X.N[i]? =some x:=by rfl) (hv:Vis X.env.scope x:=by first | exact Or.inl rfl | exact Or.inr (Or.inl rfl) | exact Or.inr (Or.inr rfl)) (hd:(x==("__debug__":Str))=false:=by decide) (hcd:(x==("__classdict__":Str))=false:=by decide):PE X (.Name x pos) (tV i):=by
 intro pins s σ H Q I h
 refine a1g hN hv hd hcd pins s σ H Q I ?_
 unfold tV at h
 split at h
 ·next v e=>exact ⟨v,e,h⟩
 ·exact h.elim
def rAddD:R2:=fun x y H Q=>match x,y with
 | .int i,.int j=>Q (.int (i+j)) H
 | .str i,.str j=>i.length+j.length<=sizeLine/\Q (.str (i++j)) H
 | .ref l,.ref b=>(∃ xs zs,H l=some (.lst xs)/\H b=some (.lst zs)/\xs.length+zs.length<=sizeLine/\∀ p,H p=none->Q (.ref p) (upd H p (.lst (xs++zs))))
 | _,_=>False
theorem bB:OpR X (binaryOp .Add) rAddD:=by
 intro pins s σ H x y v u Q I rx ry h
 cases x<;>cases y<;>first
  | exact (show False from h).elim
  | exact a0q pins s σ H _ _ v u Q I rx ry ⟨_,_,rfl,rfl,h⟩
  | exact sW pins s σ H _ _ v u Q I rx ry ⟨_,_,rfl,rfl,h.1,h.2⟩
  | (obtain ⟨xs,zs,h1,h2,h3,h4⟩:=h;exact a1S pins s σ H _ _ v u Q I rx ry ⟨_,_,xs,zs,rfl,rfl,h1,h2,h3,h4⟩)
def rMulD:R2:=fun x y H Q=>match x,y with | .int i,.int j=>CMul i j/\Q (.int (i*j)) H | _,_=>False
theorem dR:OpR X (binaryOp .Mult) rMulD:=by
 intro pins s σ H x y v u Q I rx ry h
 cases x<;>cases y<;>first
  | exact (show False from h).elim
  | exact a18 pins s σ H _ _ v u Q I rx ry ⟨_,_,rfl,rfl,h.1,h.2⟩
def rModD:R2:=fun x y H Q=>match x,y with | .int i,.int j=>0 < j/\Q (.int (i % j)) H | _,_=>False
theorem eQ:OpR X (binaryOp .Mod) rModD:=by
 intro pins s σ H x y v u Q I rx ry h
 cases x<;>cases y<;>first
  | exact (show False from h).elim
  | exact a1i pins s σ H _ _ v u Q I rx ry ⟨_,_,rfl,rfl,h.1,h.2⟩
def rDivD:R2:=fun x y H Q=>match x,y with | .int i,.int j=>(0 < j/\j < 1073741824)/\Q (.int (i / j)) H | _,_=>False
theorem a00:OpR X (binaryOp .FloorDiv) rDivD:=by
 intro pins s σ H x y v u Q I rx ry h
 cases x<;>cases y<;>first
  | exact (show False from h).elim
  | exact a0S pins s σ H _ _ v u Q I rx ry ⟨_,_,rfl,rfl,h.1,h.2⟩
def rPowD:R2:=fun x y H Q=>match x,y with | .int i,.int j=>CPow i j/\Q (.int (i^j.toNat)) H | _,_=>False
theorem zG:OpR X (binaryOp .Pow) rPowD:=by
 intro pins s σ H x y v u Q I rx ry h
 cases x<;>cases y<;>first
  | exact (show False from h).elim
  | exact a0r pins s σ H _ _ v u Q I rx ry ⟨_,_,rfl,rfl,h.1,h.2⟩
def rIC (p:Int->Int->Bool):R2:=fun x y H Q=>match x,y with | .int i,.int j=>Q (.bl (p i j)) H | _,_=>False
theorem yF:OpR X (compareOp .Gt) (rIC fun i j=>decide (j < i)):=by
 intro pins s σ H x y v u Q I rx ry h
 cases x<;>cases y<;>first
  | exact (show False from h).elim
  | exact a26 pins s σ H _ _ v u Q I rx ry ⟨_,_,rfl,rfl,h⟩
theorem a1Q:OpR X (compareOp .GtE) (rIC fun i j=>decide (j<=i)):=by
 intro pins s σ H x y v u Q I rx ry h
 cases x<;>cases y<;>first
  | exact (show False from h).elim
  | exact a2G pins s σ H _ _ v u Q I rx ry ⟨_,_,rfl,rfl,h⟩
def rLtD:R2:=fun x y H Q=>match x,y with
 | .int i,.int j=>Q (.bl (decide (i < j))) H
 | .str i,.str j=>Q (.bl (decide (i.cps.toList < j.cps.toList))) H
 | _,_=>False
theorem i6:OpR X (compareOp .Lt) rLtD:=by
 intro pins s σ H x y v u Q I rx ry h
 cases x<;>cases y<;>first
  | exact (show False from h).elim
  | exact a24 pins s σ H _ _ v u Q I rx ry ⟨_,_,rfl,rfl,h⟩
  | exact uI pins s σ H _ _ v u Q I rx ry ⟨_,_,rfl,rfl,h⟩
def rEqD (n:Bool):R2:=fun x y H Q=>match x,y with
 | .ref a,.ref b=>a≠b/\∃ xs,H a=some (.lst xs)/\H b=some (.lst [])/\Q (.bl (n^^xs.isEmpty)) H
 | x,y=>scal x y=true/\Q (.bl (n^^decide (x=y))) H
theorem wJ {pins:List (Addr×Obj)} {σ:St} {H:Hp} {s:Shared} {Q:Value->Shared->Prop} {E:Value->Shared->Prop} {A:Around} {a b:Addr} {xs:List V} (hu:A.units < cLine) (I:Inv X pins σ H s) (ha:H a=some (.lst xs)) (hb:H b=some (.lst [])) (hab:a≠b)
  (q:∀ tk,Q (.bool xs.isEmpty) {s with toks:=tk}) (q0:Q (.bool xs.isEmpty) s):wpAny (model X.prog X.w) A (compareOp .Eq (.ref a) (.ref b)) Q E s:=by
 obtain ⟨_,its,n,r1,e1⟩:=(show ObjOk X.prog X.w H s.heap a (.lst xs) from I.hok a _ ha)
 obtain ⟨_,its2,n2,r2,e2⟩:=(show ObjOk X.prog X.w H s.heap b (.lst []) from I.hok b _ hb)
 cases r2
 have l1:s.heap.IsList a its.toArray:=⟨_,e1,rfl,_,rfl⟩
 have l2:s.heap.IsList b (#[]:Array Value):=⟨_,e2,rfl,_,rfl⟩
 cases r1 with
 | nil=>
  exact SeqAt.eq_listAt (e:=fun _=>true) l1 l2 rfl hu (fun i hi=>absurd hi (by simp)) (by simpa using q0)
 | cons z t=>
  exact SeqAt.eq_list_lengthsAt l1 l2 (by simp) hu (by simpa using q0)
theorem bX (hu:X.A.units < cLine):OpR X (compareOp .Eq) (rEqD false):=by
 intro pins s σ H x y v u Q I rx ry h
 have hs:(∀ a b,x=.ref a->y=.ref b->False)->scal x y=true/\Q (.bl (false^^decide (x=y))) H:=fun hn=>by
  cases x<;>cases y<;>first
   | exact (hn _ _ rfl rfl).elim
   | exact h
 by_cases hr:∃ a b,x=.ref a/\y=.ref b
 ·obtain ⟨a,b,rfl,rfl⟩:=hr
  obtain ⟨hab,xs,h1,h2,q⟩:=h
  cases rx;cases ry
  exact wJ hu I h1 h2 hab (fun tk=>⟨.bl xs.isEmpty,H,I.tok tk,rfl,by simpa using q⟩) ⟨.bl xs.isEmpty,H,I,rfl,by simpa using q⟩
 ·obtain ⟨h1,h2⟩:=hs fun a b e1 e2=>hr ⟨a,b,e1,e2⟩
  exact a28 pins s σ H x y v u Q I rx ry ⟨h1,by simpa using h2⟩
theorem yR {pins:List (Addr×Obj)} {σ:St} {H:Hp} {s:Shared} {Q:Value->Shared->Prop} {E:Value->Shared->Prop} {A:Around} {a b:Addr} {xs:List V} (hu:A.units < cLine) (I:Inv X pins σ H s) (ha:H a=some (.lst xs)) (hb:H b=some (.lst []))
  (q0:Q (.bool (!xs.isEmpty)) s):wpAny (model X.prog X.w) A (compareOp .NotEq (.ref a) (.ref b)) Q E s:=by
 obtain ⟨_,its,n,r1,e1⟩:=(show ObjOk X.prog X.w H s.heap a (.lst xs) from I.hok a _ ha)
 obtain ⟨_,its2,n2,r2,e2⟩:=(show ObjOk X.prog X.w H s.heap b (.lst []) from I.hok b _ hb)
 cases r2
 have l1:s.heap.IsList a its.toArray:=⟨_,e1,rfl,_,rfl⟩
 have l2:s.heap.IsList b (#[]:Array Value):=⟨_,e2,rfl,_,rfl⟩
 cases r1 with
 | nil=>
  exact SeqAt.RcNeAt.lists (e:=fun _=>true) l1 l2 rfl hu (fun i hi=>absurd hi (by simp)) _ _ _ _ (by simpa using q0)
 | cons z t=>
  exact SeqAt.RcNeAt.lists_lengths l1 l2 (by simp) hu _ _ _ _ (by simpa using q0)
theorem iF (hu:X.A.units < cLine):OpR X (compareOp .NotEq) (rEqD true):=by
 intro pins s σ H x y v u Q I rx ry h
 have hs:(∀ a b,x=.ref a->y=.ref b->False)->scal x y=true/\Q (.bl (true^^decide (x=y))) H:=fun hn=>by
  cases x<;>cases y<;>first
   | exact (hn _ _ rfl rfl).elim
   | exact h
 by_cases hr:∃ a b,x=.ref a/\y=.ref b
 ·obtain ⟨a,b,rfl,rfl⟩:=hr
  obtain ⟨hab,xs,h1,h2,q⟩:=h
  cases rx;cases ry
  exact yR hu I h1 h2 ⟨.bl (!xs.isEmpty),H,I,rfl,by simpa using q⟩
 ·obtain ⟨h1,h2⟩:=hs fun a b e1 e2=>hr ⟨a,b,e1,e2⟩
  exact a2Q pins s σ H x y v u Q I rx ry ⟨h1,by simpa using h2⟩
def rIxD (K:Q0):R2:=fun x y H Q=>match x,y with
 | .ref p,.int i=>∃ xs v,(SqL K H p xs\/SqT K H p xs)/\atI xs i=some v/\Q v H
 | .str z,.int i=>z.length<=sizeLine/\∃ c,atI z.cps.toList i=some c/\Q (.str ⟨#[c]⟩) H
 | _,_=>False
theorem a2Z : IxR X (rIxD X.K) := by
  intro e1 e2 pins s σ H x y v u Q I rx ry h hs
  cases x <;> cases y <;> first
    | exact (show False from h).elim
    | (obtain ⟨xs, w, h1 | h1, h2, h3⟩ := h
       · exact zK e1 e2 pins s σ H _ _ v u Q I rx ry ⟨_, xs, _, w, rfl, rfl, h1, h2, h3⟩ hs
       · exact a1e e1 e2 pins s σ H _ _ v u Q I rx ry ⟨_, xs, _, w, rfl, rfl, h1, h2, h3⟩ hs)
    | (obtain ⟨h1, c, h2, h3⟩ := h; exact a1V e1 e2 pins s σ H _ _ v u Q I rx ry ⟨_, _, c, rfl, rfl, h1, h2, h3⟩ hs)
def rInD (K:Q0) (n:Bool):R2:=fun x y H Q=>match y with
 | .str j=>∃ i,x=.str i/\Q (.bl (n^^(!(Builtin.Str.occurrences j i 0 j.length 1).isEmpty))) H
 | .ref p=>∃ xs,(SqL K H p xs\/SqT K H p xs)/\flatV x=true/\xs.all flatV=true/\Q (.bl (n^^inV x xs)) H
 | _=>False
theorem a0y:OpR X (compareOp .In) (rInD X.K false):=by
 intro pins s σ H x y v u Q I rx ry h
 cases y<;>first
  | exact (show False from h).elim
  | (obtain ⟨i,rfl,h2⟩:=h;exact vA pins s σ H _ _ v u Q I rx ry ⟨i,_,rfl,rfl,by simpa using h2⟩)
  | (obtain ⟨xs,h1,h2,h3,h4⟩:=h;exact vY pins s σ H _ _ v u Q I rx ry ⟨_,xs,rfl,h1,h2,h3,by simpa using h4⟩)
def rLenD (K:Q0):List V->Hp->VK->Prop:=fun xs H Q=>match xs with
 | [.str y]=>y.length<=sizeLine/\Q (.int y.length) H
 | [.ref p]=>(∃ ys,(SqL K H p ys\/SqT K H p ys)/\Q (.int ys.length) H)\/(∃ kvs,Rd H p (.dK kvs)/\Q (.int kvs.length) H)
 | _=>False
theorem vS:CallR X (.builtin "len") (rLenD X.K):=by
 intro pins s σ H xs us Q I r h
 unfold rLenD at h
 split at h
 ·exact lT pins s σ H _ us Q I r ⟨_,_,rfl,⟨h.1,rfl⟩,h.2⟩
 ·rcases h with ⟨ys,h1 | h1,q⟩ | ⟨kvs,h1,q⟩
  ·exact lT pins s σ H _ us Q I r ⟨_,_,rfl,.inl ⟨ys,h1,rfl⟩,q⟩
  ·exact lT pins s σ H _ us Q I r ⟨_,_,rfl,.inr ⟨ys,h1,rfl⟩,q⟩
  ·obtain ⟨u,rfl,ru⟩:=vals1 r
   cases ru
   exact a2M I h1 fun t s' I'=>⟨.int kvs.length,H,I',⟨t,rfl⟩,q⟩
 ·exact h.elim
def tyName (H:Hp):V->Option String
 | .non=>some "NoneType"
 | .bl _=>some "bool"
 | .int _=>some "int"
 | .str _=>some "str"
 | .ref a=>match H a with
  | some (.lst _)=>some "list"
  | some (.tup _)=>some "tuple"
  | some (.dK _)=>some "dict"
  | _=>none
 | _=>none
def isiT (t T:String):Bool:=t==T||(t=="bool"&&T=="int")
theorem z8:∀ (K:Q0) (t T:String),t∈["NoneType","bool","int","str","list","tuple","dict"]->T∈["bool","int","str","list","tuple","dict"]->PySem.W.kitOne K (.type t) (.type T)=some (isiT t T):=by
 intro K t T h1 h2
 simp only [Qp,QA,or_false] at h1 h2
 rcases h1 with rfl | rfl | rfl | rfl | rfl | rfl | rfl<;>rcases h2 with rfl | rfl | rfl | rfl | rfl | rfl<;>rfl
def rIsi:List V->Hp->VK->Prop:=fun xs H Q=>match xs with
 | [x,.ty T]=>T∈["bool","int","str","list","tuple","dict"]/\∃ t,tyName H x=some t/\Q (.bl (isiT t T)) H
 | _=>False
theorem jP:CallR X (.builtin "isinstance") rIsi:=by
 intro pins s σ H xs us Q I r h
 unfold rIsi at h
 split at h
 ·next x T=>
  obtain ⟨hT,t,ht,q⟩:=h
  obtain ⟨u,c,rfl,ru,rc⟩:=r.two
  cases rc
  have fin:∀ tk,EP X pins σ Q (.bool (isiT t T)) {s with toks:=tk}:=fun tk=>⟨.bl (isiT t T),H,I.tok tk,rfl,q⟩
  have tm:t∈["NoneType","bool","int","str","list","tuple","dict"]/\TyOf X.K H x (.type t):=by
   cases x with
   | non=>cases ht;exact ⟨by simp,.non⟩
   | bl b=>cases ht;exact ⟨by simp,.bl b⟩
   | int b=>cases ht;exact ⟨by simp,.int b⟩
   | str b=>cases ht;exact ⟨by simp,.str b⟩
   | ref a=>
    unfold tyName at ht
    dsimp only at ht
    split at ht
    ·next e=>cases ht;exact ⟨by simp,.lst e⟩
    ·next e=>cases ht;exact ⟨by simp,.tup e⟩
    ·next e=>cases ht;exact ⟨by simp,.dK e⟩
    ·cases ht
   | _=>cases ht
  exact uT I ru tm.2 (z8 _ t T tm.1 hT) fin
 ·exact h.elim
def rAll (K:Q0):List V->Hp->VK->Prop:=fun xs H Q=>match xs with
 | [.ref p]=>∃ bs:List Bool,SqL K H p (bs.map V.bl)/\Q (.bl (bs.all id)) H
 | _=>False
theorem pC:∀ {bs:List Bool} {us:List Value},Vals (bs.map V.bl) us->us=bs.map Value.bool
 | [],_,.nil=>rfl
 | b::bs,_,.cons r t=>by
  cases (show _=Value.bool b from r)
  rw [pC t];rfl
theorem uJ (hc:X.calm=true):CallR X (.builtin "all") (rAll X.K):=by
 intro pins s σ H xs us Q I r h
 unfold rAll at h
 split at h
 ·next p=>
  obtain ⟨bs,hq,q⟩:=h
  obtain ⟨u,rfl,ru⟩:=r.one
  cases ru
  obtain ⟨its,rv,pl,hz⟩:=I.list hq
  have e:=pC rv
  subst e
  have hlt:p < s.heap.objs.size:=by obtain ⟨_,e,_⟩:=pl.isList;exact Qz e
  refine call_all_walk (wpAny_pyIter_list pl.isList ?_)
  refine ⟨s.heap.objs.size,[s.heap.objs.size,p],[s.heap.objs.size],(bs.map Value.bool).toArray.size,_,_,fun i=>(bs[i]?).getD true,rfl,Walks.list (A:=X.A.in1) (I.ok.hd hc) _ p (Nat.ne_of_lt hlt) _,
   ⟨⟨_,Qd _ rfl,rfl,rfl⟩,pl.isList.push _⟩,fun i v s' Q' E' hP hQ=>?_,fun h' tk hk=>?_⟩
  ·have hP':(bs.map Value.bool)[i]? =some v:=by simpa using hP
   rw [Qq] at hP'
   cases eb:bs[i]? with
   | none=>rw [eb] at hP';cases hP'
   | some b=>
    rw [eb] at hP'
    cases hP'
    simp only [eb,Option.getD_some] at hQ
    exact wpAny_truthy_bool hQ
  ·have e:((List.range (bs.map Value.bool).toArray.size).all fun i=>(bs[i]?).getD true)=bs.all id:=by
    rw [List.size_toArray,Ql]
    rw [Bool.eq_iff_iff,List.all_eq_true,List.all_eq_true]
    constructor
    ·intro h b hb
     obtain ⟨i,hi,rfl⟩:=Qi hb
     have:=h i (List.mem_range.mpr hi)
     simpa [Qa hi] using this
    ·intro h i hi
     have hi':=List.mem_range.mp hi
     have:=h _ (Qj hi')
     simpa [Qa hi'] using this
   rw [e]
   refine ⟨.bl (bs.all id),H,I.kept (t':=tk) fun b o e=>hk b o (fun hm=>?_) (Qc _ e),rfl,q⟩
   rw [List.mem_singleton.mp hm] at e
   exact Nat.lt_irrefl _ (Qz e)
 ·exact h.elim
def rSlS:V->Option Int->Option Int->Hp->VK->Prop:=fun x lo hi H Q=>∃ z,x=.str z/\z.length<=sizeLine/\Q (.str (Txt.slice z lo hi)) H
theorem a1f:SlR X rSlS:=by
 intro pins s σ H x v vl vu lo hi sl Q I rx hs pl pu h
 obtain ⟨z,rfl,hz,q⟩:=h
 obtain ⟨t,rfl⟩:=(show ∃ t,v=Value.str z t from rx)
 refine ⟨"str",_,F.slot_str_getitem.lookup,typeIs_str _ _ _,?_⟩
 have hpart:∀ {w:Value} {o:Option Int},IsPart w o->∃ l:Option (Int×Tok),w=partValue l/\l.map (·.1)=o:=fun {w o} p=>by
  cases p with
  | none=>exact ⟨none,rfl,rfl⟩
  | int k t=>exact ⟨some (k,t),rfl,rfl⟩
 obtain ⟨l,e1,e2⟩:=hpart pl
 obtain ⟨u,e3,e4⟩:=hpart pu
 subst e1 e3
 obtain ⟨o,ho,hc,hd⟩:=hs
 refine wpAny_getItem_str_slice (l:=l) (u:=u) (st:=none) ⟨o,ho,hc,hd⟩ rfl ?_
 refine post_val_or_str ⟨Nat.le_trans (Txt.slice_le z _ _) hz,fun t' k=>?_⟩
 show EP X pins σ Q (.str (Txt.slice z (l.map (·.1)) (u.map (·.1))) t') _
 rw [e2,e4]
 exact ⟨.str (Txt.slice z lo hi),H,I.tok k,⟨t',rfl⟩,q⟩
def Its (z:Str):It:=⟨fun i _=>i < z.cps.size,fun i H x H'=>H'=H/\∃ c,z.cps[i]? =some c/\x=.str ⟨#[c]⟩,fun i _=>z.cps.size=i⟩
theorem qP {P:Program} {w:World} {K:Q0} {tg:Expr} {it:Addr} {z:Str} {St:Nat->Heap->Prop} (W:∀ A':Around,A'.handled=none->Walks P w A' it [it] [it] z.cps.size (SignAt z) St)
  (hself:∀ (A:Around) (i:Nat) (s:Shared) (Q:Value->Shared->Prop) (E:Value->Shared->Prop),St i s.heap->Q (.ref it) s->wpAny (model P w) A (pyIter (.ref it)) Q E s)
  (hg:∀ i h,St i h->∃ o n vs,h.get? it=some o/\o.cls=.type n/\o.data=.fields vs/\["enumerate","zip","dict_itemiterator","dict_reverseitemiterator","odict_iterator","itertools.zip_longest","itertools.pairwise"].contains n=false):Turn P w K tg (Its z) [it] it St where
 mem:=by simp
 obj:=fun i h st b hb=>by
  have e:b=it:=by simpa using hb
  subst e
  obtain ⟨o,n,vs,e,c,d,_⟩:=hg i h st
  exact ⟨o,e,fun v z=>by rw [d] at z;cases z⟩
 keep:=fun i h h' st k=>(W {} rfl).frame _ _ _ st k
 item:=by
  intro X hP hw hK hc i pins s σ H E I hf st hgo
  subst hP hw hK
  obtain ⟨f0,f1,f2,f3,f4,f5⟩:=hf it (by simp)
  refine (W X.A (I.ok.hd hc)).item i s _ _ hgo st fun v h' tk hv st' kk=>?_
  obtain ⟨c,t,hc1,rfl⟩:=hv
  have I1:Inv X pins σ H {s with heap:=h',toks:=tk}:=I.turned (fun b o hb e=>kk b o (by simpa using hb) e) f0 f1 f3 f4 f5
  obtain ⟨o,n,vs,e,c',d,nn⟩:=hg _ _ st'
  exact ⟨_,rfl,mJ (s:={s with heap:=h',toks:=tk}) e c' d nn ⟨.str ⟨#[c]⟩,H,I1,⟨t,rfl⟩,⟨rfl,c,hc1,rfl⟩,st',fun b hb=>(hf b hb).1⟩⟩
 done:=by
  intro X hP hw hK hc i pins s σ H E I hf st hgo
  subst hP hw hK
  obtain ⟨f0,f1,f2,f3,f4,f5⟩:=hf it (by simp)
  have e:z.cps.size=i:=hgo
  subst e
  exact (W X.A (I.ok.hd hc)).done s _ _ st fun h' tk kk=>⟨rfl,I.turned (fun b o hb e=>kk b o (by simpa using hb) e) f0 f1 f3 f4 f5⟩
 self:=hself
end
def FnK (P:Program) (w:World) (K:Q0) (mg:Str->Option Value) (base:Heap) (k:Nat) (x:Str) (ps:List Str) (sp:Sp):Prop:=
 ∃ (f:Addr) (fd:FuncData),FnOk P w K mg base CX0 k f fd ps sp/\mg x=some (.ref f)/\PySem.W.keepIn K (.ref f)=true/\Binds K fd ps []/\∃ (oc:Value) (od:Option Addr) (osl:Array (Option Value)),K.lookup f=some ⟨oc,od,.func fd,osl⟩
section
variable {X:Cx} {k:Nat} {ps:List Str} {sp:Sp} {x:Str} {p pos:Pos} {e:Expr} {es:List Expr} {t:TA}
theorem a2C (F:FnK X.prog X.w X.K X.mg X.base k x ps sp) (hr:Room k X.A) (ha:PA X (e::es) t) (hg:Gl X x:=by rfl) (hdb:(x==("__debug__":Str))=false:=by decide)
  (he:starEach (e::es) X.env=(false,eval e X.env)::starEach es X.env:=by rfl) (hpl:(backTo pos (starEach es X.env)).any (·.1)=false:=by rfl):
  PE X (.Call (.Name x p) (e::es) [] pos) (tCall sp [] E0 t):=by
 obtain ⟨f,fd,G,mgf,kp,b,_⟩:=F
 exact a0R G hr hg mgf kp b .nil pass0 ha hdb he hpl
end
def iD (K:Q0) (tl:TE):TI:=fun σ H R=>tl σ H fun x H1=>match x with
 | .ref a=>((∃ xs,SqL K H1 a xs)/\R (Itl K a) H1)\/((∃ xs,SqT K H1 a xs)/\R (Itt K a) H1)
 | .str z=>R (Its z) H1
 | _=>False
theorem a2W {X:Cx} {tg l:Expr} {tl:TE} (hl:PE X l tl):PI X tg l (iD X.K tl):=by
 intro pins s σ H R I h
 refine thn (hl pins s σ H _ I h) ?_
 rintro v s1 ⟨x,H1,I1,r1,q1⟩
 cases x with
 | ref a=>
  cases r1
  rcases q1 with ⟨⟨xs,hq⟩,q⟩ | ⟨⟨xs,hq⟩,q⟩
  ·obtain ⟨its,rv,p,hz⟩:=I1.list hq
   refine wpAny_pyIter_list p.isList ?_
   refine ⟨s1.heap.objs.size,[s1.heap.objs.size],_,_,H1,rfl,I1.kept (t':=s1.toks) fun b o e=>Qc _ e,uO a _,⟨_,Qd _ rfl,rfl,rfl⟩,fun b hb=>?_,q⟩
   have e:b=s1.heap.objs.size:=by simpa using hb
   subst e
   exact I1.fpOk (Qy _) (I1.hok.fresh (Qy _))
  ·obtain ⟨its,rv,p,hz⟩:=I1.tuple hq
   refine wpAny_pyIter_tuple (show s1.heap.IsTuple a its.toArray from p) ?_
   refine ⟨s1.heap.objs.size,[s1.heap.objs.size],_,_,H1,rfl,I1.kept (t':=s1.toks) fun b o e=>Qc _ e,rP a _,⟨_,Qd _ rfl,rfl,rfl⟩,fun b hb=>?_,q⟩
   have e:b=s1.heap.objs.size:=by simpa using hb
   subst e
   exact I1.fpOk (Qy _) (I1.hok.fresh (Qy _))
 | str z=>
  obtain ⟨t,rfl⟩:=(show ∃ t,v=Value.str z t from r1)
  have q:R (Its z) H1:=q1
  have fin:∀ (o:Obj) (n:String) (W:∀ A':Around,A'.handled=none->Walks X.prog X.w A' s1.heap.objs.size [s1.heap.objs.size] [s1.heap.objs.size] z.cps.size (SignAt z) (fun i h=>h.IsStrIter s1.heap.objs.size n z t i)),
    (∀ (A:Around) (i:Nat) (s:Shared) (Q:Value->Shared->Prop) (E:Value->Shared->Prop),s.heap.IsStrIter s1.heap.objs.size n z t i->Q (.ref s1.heap.objs.size) s->wpAny (model X.prog X.w) A (pyIter (.ref s1.heap.objs.size)) Q E s)->
    ["enumerate","zip","dict_itemiterator","dict_reverseitemiterator","odict_iterator","itertools.zip_longest","itertools.pairwise"].contains n=false->
    (s1.heap.push o).IsStrIter s1.heap.objs.size n z t 0->PIE X pins σ tg R (.ref s1.heap.objs.size) {s1 with heap:=s1.heap.push o}:=by
   intro o n W hself hn st
   refine ⟨s1.heap.objs.size,[s1.heap.objs.size],_,_,H1,rfl,I1.kept (t':=s1.toks) fun b o e=>Qc _ e,qP W hself (fun i h st=>?_),st,fun b hb=>?_,q⟩
   ·obtain ⟨o,e,c,d⟩:=st
    exact ⟨o,n,_,e,c,d,hn⟩
   ·have e:b=s1.heap.objs.size:=by simpa using hb
    subst e
    exact I1.fpOk (Qy _) (I1.hok.fresh (Qy _))
  cases ha:z.cps.all (· < 128)
  ·exact wpAny_pyIter_wide ha (fin _ _ (fun A' hA=>Walks.strWide hA _ z t) (fun A i s Q E st h=>wpAny_pyIter_striter_wide st h) (by decide) ⟨_,Qd _ rfl,rfl,rfl⟩)
  ·exact wpAny_pyIter_ascii ha (fin _ _ (fun A' hA=>Walks.strAscii hA _ z t) (fun A i s Q E st h=>wpAny_pyIter_striter_ascii st h) (by decide) ⟨_,Qd _ rfl,rfl,rfl⟩)
 | _=>exact (show False from q1).elim
def ItN (J:It) (ok:Hp->Prop) (n:Nat) (item:Nat->V):Prop:=
 ∀ H,ok H->(∀ i,i < n->J.go i H/\∀ x H',J.yld i H x H'->H'=H/\x=item i)/\J.stop n H
theorem bZ {K:Q0} {a:Addr} (xs:List V):ItN (Itl K a) (fun H=>SqL K H a xs) xs.length (fun i=>xs.getD i .non):=fun H ok=>
 ⟨fun i hi=>⟨⟨xs,xs[i],ok,by simp [hi]⟩,fun x H' ⟨e,y⟩=>⟨e,by
  have:=y xs ok
  show x=xs.getD i V.non
  rw [Qb,this];rfl⟩⟩,⟨xs,ok,Qy _⟩⟩
theorem cV {K:Q0} {a:Addr} (xs:List V):ItN (Itt K a) (fun H=>SqT K H a xs) xs.length (fun i=>xs.getD i .non):=fun H ok=>
 ⟨fun i hi=>⟨⟨xs,xs[i],ok,by simp [hi]⟩,fun x H' ⟨e,y⟩=>⟨e,by
  have:=y xs ok
  show x=xs.getD i V.non
  rw [Qb,this];rfl⟩⟩,⟨xs,ok,Qy _⟩⟩
theorem mT (lo:Int) (n:Nat):ItN (Itr lo n) (fun _=>True) n (fun i=>.int (lo+i)):=fun H _=>
 ⟨fun i hi=>⟨hi,fun x H' ⟨e,y⟩=>⟨e,y⟩⟩,Qy _⟩
theorem fW {J:It} {ok:Hp->Prop} {n:Nat} {item:Nat->V} {g:TG} {tc:TC} {te:TE} {τ0:St} {H0:Hp} {D:Addr} {Q:Hp->Prop} (hJ:ItN J ok n item) (Pv:Nat->St->Hp->Prop) (h0:Pv 0 τ0 H0)
  (hok:∀ i τ H,i<=n->Pv i τ H->ok H)
  (hs:∀ i τ H,i < n->Pv i τ H->g (item i) τ H fun τ2 H2=>tc τ2 H2 fun b H3=>if b=true then te τ2 H3 fun y H4=>∃ xs,H4 D=some (.lst xs)/\xs.length < sizeLine/\Pv (i+1) τ2 (upd H4 D (.lst (xs++[y]))) else Pv (i+1) τ2 H3)
  (hd:∀ τ H,Pv n τ H->Q H):∃ W:Nat->Nat->St->Hp->Prop,(∃ m,W 0 m τ0 H0)/\∀ i m τ H,W i m τ H->
   (J.stop i H/\Q H)\/(J.go i H/\∃ N:St->Hp->Prop,(∀ τ' H',N τ' H'->∃ m',m' < m/\W (i+1) m' τ' H')/\∀ x H',J.yld i H x H'->g x τ H' fun τ2 H2=>tc τ2 H2 fun b H3=>
    if b=true then te τ2 H3 fun y H4=>∃ xs,H4 D=some (.lst xs)/\xs.length < sizeLine/\N τ2 (upd H4 D (.lst (xs++[y]))) else N τ2 H3):=by
 refine ⟨fun i m τ H=>m=n - i/\i<=n/\Pv i τ H,⟨n,by simp,Nat.zero_le _,h0⟩,?_⟩
 rintro i m τ H ⟨rfl,hi,p⟩
 obtain ⟨k1,k2⟩:=hJ H (hok i τ H hi p)
 by_cases hlt:i < n
 ·refine .inr ⟨(k1 i hlt).1,Pv (i+1),fun σ' H' p'=>⟨n - (i+1),by omega,rfl,hlt,p'⟩,fun x H' y=>?_⟩
  obtain ⟨e,e2⟩:=(k1 i hlt).2 x H' y
  subst e e2
  exact hs i τ _ hlt p
 ·have e:i=n:=by omega
  subst e
  exact .inl ⟨k2,hd τ H p⟩
theorem dZ {J:It} {ok:Hp->Prop} {n:Nat} {item:Nat->V} {g:TG} {tb:TS} {D:Ends} {σ:St} {H:Hp} (hJ:ItN J ok n item) (Pv:Nat->St->Hp->Prop) (h0:Pv 0 σ H) (hok:∀ i τ H,i<=n->Pv i τ H->ok H)
  (hs:∀ i σ H,i < n->Pv i σ H->g (item i) σ H fun σ2 H2=>tb {D with nx:=Pv (i+1),ct:=Pv (i+1),bk:=D.nx} σ2 H2) (hd:∀ σ H,Pv n σ H->D.nx σ H):
  ∃ W:Nat->Nat->St->Hp->Prop,(∃ m,W 0 m σ H)/\∀ i m σ H,W i m σ H->
   (J.stop i H/\D.nx σ H)\/(J.go i H/\∃ N:St->Hp->Prop,(∀ σ' H',N σ' H'->∃ m',m' < m/\W (i+1) m' σ' H')/\∀ x H',J.yld i H x H'->g x σ H' fun σ2 H2=>tb {D with nx:=N,ct:=N,bk:=D.nx} σ2 H2):=by
 refine ⟨fun i m σ H=>m=n - i/\i<=n/\Pv i σ H,⟨n,by simp,Nat.zero_le _,h0⟩,?_⟩
 rintro i m σ H ⟨rfl,hi,p⟩
 obtain ⟨k1,k2⟩:=hJ H (hok i σ H hi p)
 by_cases hlt:i < n
 ·refine .inr ⟨(k1 i hlt).1,Pv (i+1),fun σ' H' p'=>⟨n - (i+1),by omega,rfl,hlt,p'⟩,fun x H' y=>?_⟩
  obtain ⟨e,e2⟩:=(k1 i hlt).2 x H' y
  subst e e2
  exact hs i σ _ hlt p
 ·have e:i=n:=by omega
  subst e
  exact .inl ⟨k2,hd σ H p⟩
def FnT (K:Q0) (mg:Str->Option Value) (x:Str) (st:Stmt) (ps:List Str):Prop:=∃ (f:Addr) (fd:FuncData),Fun K x x st f fd/\mg x=some (.ref f)/\Binds K fd ps []
theorem FnT.ok {P:Program} {w:World} {K:Q0} {mg:Str->Option Value} {base:Heap} {x:Str} {st:Stmt} {N ps:List Str} {k:Nat} {sp:Sp} (F:FnT K mg x st ps) (S:FnScope N ps (defScope st)) (len:∀ vs H Q E,sp vs H Q E->vs.length=ps.length)
  (hbody:∀ (f:Addr) (cdv:Value) (A:Around) (outer:List Env) (s:Shared) (H:Hp) (vs:List V) (Q:VK) (E:XK),Room k (A.deeper (envOfC x (defScope st) s.heap.objs.size f cdv))->sp vs H Q E->
   ∃ t,PSs (cxOf CX0 P w K mg base N x (defScope st) f cdv A outer s H E).nox (defBody st) t/\t {nx:=fun _ H'=>Q .non H',rt:=Q} (start N vs) H):FnK P w K mg base (k+1) x ps sp:=by
 obtain ⟨f,fd,Fu,m,b⟩:=F
 exact ⟨f,fd,Fu.ok S len (hbody f),m,Fu.kp,b,let ⟨oc,od,_,_,_,_,_,_,osl,_,lk,_⟩:=Fu.ex;⟨oc,od,osl,lk⟩⟩
section
variable {X:Cx} {x:Str} {pos:Pos}
theorem a2S {v:V} (h:∃ u,X.mg x=some u/\RelV v u) (hg:Gl X x:=by rfl) (hd:(x==("__debug__":Str))=false:=by decide):PE X (.Name x pos) (tC v):=by
 obtain ⟨u,h1,h2⟩:=h
 exact kO hg h1 h2 hd
def tGlT (K:Q0) (xs:List V):TE:=fun _ H Q=>∀ a,SqT K H a xs->Q (.ref a) H
theorem a12 {xs:List V} (h:∃ a,X.mg x=some (.ref a)/\∀ H,SqT X.K H a xs) (hg:Gl X x:=by rfl) (hd:(x==("__debug__":Str))=false:=by decide):PE X (.Name x pos) (tGlT X.K xs):=by
 obtain ⟨a,h1,h2⟩:=h
 intro pins s σ H Q I q
 exact kO (v:=.ref a) hg h1 rfl hd pins s σ H Q I (q a (h2 H))
theorem a2V:SlR X (fun x lo hi H Q=>rSlS x lo hi H Q\/(rSlL X.K x lo hi H Q\/rSlT X.K x lo hi H Q)):=a1f.or (a0Q.or a1p)
end
section
variable {X:Cx} (K:Q0)
theorem aY (h:X.K=K:=by rfl):IxR X (rIxD K):=by rw [<- h];exact a2Z
theorem oA (h:X.K=K:=by rfl):OpR X (compareOp .In) (rInD K false):=by rw [<- h];exact a0y
theorem bJ (h:X.K=K:=by rfl):CallR X (.builtin "len") (rLenD K):=by rw [<- h];exact vS
theorem nA (hc:X.calm=true) (h:X.K=K:=by rfl):CallR X (.builtin "all") (rAll K):=by rw [<- h];exact uJ hc
theorem m9 (h:X.K=K:=by rfl):SlR X (fun x lo hi H Q=>rSlS x lo hi H Q\/(rSlL K x lo hi H Q\/rSlT K x lo hi H Q)):=by rw [<- h];exact a2V
theorem a2X {tg l:Expr} {tl:TE} (hl:PE X l tl) (h:X.K=K:=by rfl):PI X tg l (iD K tl):=by rw [<- h];exact a2W hl
theorem a1Z {x:Str} {pos:Pos} {xs:List V} (hx:∃ a,X.mg x=some (.ref a)/\∀ H,SqT K H a xs) (h:X.K=K:=by rfl) (hg:Gl X x:=by rfl) (hd:(x==("__debug__":Str))=false:=by decide):PE X (.Name x pos) (tGlT K xs):=by
 subst h;exact a12 hx hg hd
theorem a03 {es:List Expr} {k:Nat} {t:TGs} {n:Nat} {pos:Pos} (hc:X.calm=true) (hh:PGs X es t) (h:X.K=K:=by rfl)
  (hn:(assignEach es X.env).length=n:=by rfl) (hst:(assignEach es X.env).findIdx? (·.1)=none:=by rfl):PG X (.Tuple es k pos) (gTup K n t):=by
 subst h;exact a0l hc hh hn hst
theorem a1o {T:String} {name:Str} {id:String} {r:V->List V->Hp->VK->Prop} {o e:Expr} {es:List Expr} {to:TE} {t:TA} {apos cpos:Pos} (pa:PlainAttrs T) (slot:Slot T name id) (hty:typeOf (.builtin id)=pure (.type "method_descriptor")) (hm:MtM X id r) (ho:PE X o to) (ha:PA X (e::es) t) (h:X.K=K:=by rfl)
  (hbase:attributeBase o name X.env (eval o X.env)=eval o X.env:=by rfl)
  (hfew:((backTo cpos (starEach (e::es) X.env)).all (fun x=> !x.1)&&(backToKw cpos (keywordEach [] X.env)).all (fun x=>x.1.isSome)
   &&decide ((e::es).length+([]:List Keyword).length+(if ([]:List Keyword).isEmpty then 0 else 1) < 30))=true:=by rfl)
  (hline:(apos.endLine==cpos.line)=true:=by rfl) (hs:starEach (e::es) X.env=(false,eval e X.env)::starEach es X.env:=by rfl) (hplain:(backTo cpos (starEach es X.env)).any (·.1)=false:=by rfl):
  PE X (.Call (.Attribute o name apos) (e::es) [] cpos) (tBM K T r to t):=by
 subst h;exact a21 pa slot hty hm ho ha hbase hfew hline hs hplain
end
structure SE (X:Cx) (e:Expr) (t:TE):Prop where
 h:PE X e t
structure ST (X:Cx) (e:Expr) (t:TT):Prop where
 h:PT X e t
structure SW (X:Cx) (e:Expr) (t:TT):Prop where
 h:PW X e t
structure SA (X:Cx) (es:List Expr) (t:TA):Prop where
 h:PA X es t
structure SS (X:Cx) (s:Stmt) (t:TS):Prop where
 h:PS X s t
structure SB (X:Cx) (s:List Stmt) (t:TS):Prop where
 h:PSs X s t
structure SG (X:Cx) (e:Expr) (t:TG):Prop where
 h:PG X e t
structure SGs (X:Cx) (e:List Expr) (t:TGs):Prop where
 h:PGs X e t
structure SI (X:Cx) (tg e:Expr) (t:TI):Prop where
 h:PI X tg e t
structure SC (X:Cx) (e:List Expr) (t:TC):Prop where
 h:PC' X e t
structure SO (X:Cx) (e:Option Expr) (t:TO):Prop where
 h:PO X e t
section
variable {X:Cx} {es:List Expr} {te:TE} {t:TA} {c:Const} {j:Nat} {pos0:Pos} {n:Str} {xs0:List Expr} {f0 a0 b0 c0:Expr} {kw0:List Keyword} {o0:Operator} {ks0:List (Option Expr)} {gs0:List Comprehension} {sc0:Scope} {u0:UnaryOp} {bo0:BoolOp} {ops0:List CmpOp}theorem sa_nil:SA X [] tNil:=⟨a1E⟩
theorem aB (ha:SE X (.Constant c j pos0) te) (hr:SA X es t):SA X (.Constant c j pos0::es) (tCons te t):=⟨dS ha.h hr.h⟩
theorem a9 (ha:SE X (.Name n pos0) te) (hr:SA X es t):SA X (.Name n pos0::es) (tCons te t):=⟨dS ha.h hr.h⟩
theorem tP (ha:SE X (.List xs0 pos0) te) (hr:SA X es t):SA X (.List xs0 pos0::es) (tCons te t):=⟨dS ha.h hr.h⟩
theorem bE (ha:SE X (.Tuple xs0 j pos0) te) (hr:SA X es t):SA X (.Tuple xs0 j pos0::es) (tCons te t):=⟨dS ha.h hr.h⟩
theorem aK (ha:SE X (.Call f0 xs0 kw0 pos0) te) (hr:SA X es t):SA X (.Call f0 xs0 kw0 pos0::es) (tCons te t):=⟨dS ha.h hr.h⟩
theorem gK (ha:SE X (.BinOp a0 o0 b0 pos0) te) (hr:SA X es t):SA X (.BinOp a0 o0 b0 pos0::es) (tCons te t):=⟨dS ha.h hr.h⟩
theorem aF (ha:SE X (.Subscript a0 b0 pos0) te) (hr:SA X es t):SA X (.Subscript a0 b0 pos0::es) (tCons te t):=⟨dS ha.h hr.h⟩
theorem dC (ha:SE X (.ListComp a0 gs0 sc0 pos0) te) (hr:SA X es t):SA X (.ListComp a0 gs0 sc0 pos0::es) (tCons te t):=⟨dS ha.h hr.h⟩
end
section
variable {X:Cx} {a b c e o i value lo hi tg iter elt:Expr} {ta tb tc te td ty tv:TE} {t:TA} {pos p p2 pos' pos0:Pos} {x:Str} {es:List Expr}
theorem zv (i:Nat) {x:Str} {pos:Pos} (hN:X.N[i]? =some x:=by rfl) (hv:Vis X.env.scope x:=by first | exact Or.inl rfl | exact Or.inr (Or.inl rfl) | exact Or.inr (Or.inr rfl)) (hd:(x==("__debug__":Str))=false:=by decide) (hcd:(x==("__classdict__":Str))=false:=by decide):SE X (.Name x pos) (tV i):=⟨pvv i hN hv hd hcd⟩
theorem a2N {v:V} (h:∃ u,X.mg x=some u/\RelV v u) (hg:Gl X x:=by rfl) (hd:(x==("__debug__":Str))=false:=by decide):SE X (.Name x pos) (tC v):=⟨a2S h hg hd⟩
theorem a2T (K:Q0) {xs:List V} (hx:∃ a,X.mg x=some (.ref a)/\∀ H,SqT K H a xs) (h:X.K=K:=by rfl) (hg:Gl X x:=by rfl) (hd:(x==("__debug__":Str))=false:=by decide):SE X (.Name x pos) (tGlT K xs):=⟨a1Z K hx h hg hd⟩
theorem rY {v:V} {u:Value} (hg:Gl X x) (hm:X.mg x=none) (hv:bootBuiltins x=some u) (r:RelV v u) (hn:x≠"__name__":=by decide) (hd:(x==("__debug__":Str))=false:=by decide):SE X (.Name x pos) (tC v):=⟨a0O hg hm hv r hn hd⟩
theorem sZ {j}:SE X (.Constant .none j pos) (tC .non):=⟨a0m⟩
theorem iB {b:Bool} {j}:SE X (.Constant (.bool b) j pos) (tC (.bl b)):=⟨a20⟩
theorem aE {i:Int} {j}:SE X (.Constant (.int i) j pos) (tC (.int i)):=⟨a1j⟩
theorem aU {x:Str} {j}:SE X (.Constant (.str x) j pos) (tC (.str x)):=⟨a0v⟩
theorem bM {op:Operator} {r:R2} (ho:OpR X (binaryOp op) r) (ha:SE X a ta) (hb:SE X b tb):SE X (.BinOp a op b pos) (tOp r ta tb):=⟨a2H ho ha.h hb.h⟩
theorem a27 {op:UnaryOp} {r:V->Hp->VK->Prop} (ho:UnR X (unaryOp op) r) (ha:SE X a ta):SE X (.UnaryOp op a pos) (tUn r ta):=⟨a2J ho ha.h⟩
theorem a1v {op:CmpOp} {r:R2} (ho:OpR X (compareOp op) r) (ha:SE X a ta) (hb:SE X b tb) (hm:behindInMarks op b=false):SE X (.Compare a [op] [b] pos) (tOp r ta tb):=⟨yV ho ha.h hb.h hm⟩
theorem aJ {op:CmpOp} {r:R2} (ho:OpR X (compareOp op) r) (ha:SE X a ta) (hb:SE X b tb) (hm:behindInMarks op b=false):ST X (.Compare a [op] [b] pos) (tTest (tOp r ta tb)):=⟨a0T ho ha.h hb.h hm⟩
theorem uD (h:SE X e te) (he:∀ whole,isTrue e X.env whole=(do let v <- whole;standAt e.pos;holding [v] (truthy v)):=by intro _;rfl):ST X e (tB te):=⟨a1b h.h he⟩
theorem xG {tA:TT} (ha:ST X a tA):ST X (.UnaryOp .Not a pos) (tNot tA):=⟨a0k ha.h⟩
theorem rH {tA:TT} (ha:ST X a tA):SW X (.BoolOp .And [a] pos) tA:=⟨zX ha.h⟩
theorem pZ {tA:TT} (ha:ST X a tA):SW X (.BoolOp .Or [a] pos) tA:=⟨a1c ha.h⟩
theorem xL {tA tB':TT} {rest:List Expr} (ha:ST X a tA) (hb:SW X (.BoolOp .And (b::rest) pos) tB'):SW X (.BoolOp .And (a::b::rest) pos) (tAnd tA tB'):=⟨a1Y ha.h hb.h⟩
theorem rS {tA tB':TT} {rest:List Expr} (ha:ST X a tA) (hb:SW X (.BoolOp .Or (b::rest) pos) tB'):SW X (.BoolOp .Or (a::b::rest) pos) (tOr tA tB'):=⟨a2K ha.h hb.h⟩
theorem SW.pt {tA:TT} (h:SW X e tA):ST X e tA:=⟨h.h.pt⟩
theorem cB (h:SA X es t):SE X (.List es pos) (tLst t):=⟨a1r h.h⟩
theorem aT {x1} (h:SA X es t):SE X (.Tuple es x1 pos) (tTup t):=⟨a0p h.h⟩
theorem a17:SE X (.Dict [] [] pos) tDNewK:=⟨yK⟩
theorem dM:SO X none tNoPart:=⟨zF⟩
theorem cZ (h:SE X e te):SO X (some e) (tPart te):=⟨a0E h.h⟩
theorem dB {r:V->Option Int->Option Int->Hp->VK->Prop} {l u:Option Expr} {tl th:TO} (hr:SlR X r) (he:SE X e te) (hl:SO X l tl) (hu:SO X u th):SE X (.Subscript e (.Slice l u none p2) pos) (tSl r te tl th):=⟨xI hr he.h hl.h hu.h⟩
theorem bK (hu:X.A.units+1 < cLine) (ho:SE X o td) (hi:SE X i ty) (hs:NoSl i):SE X (.Subscript o i pos) (tDGet td ty):=⟨a0U hu ho.h hi.h hs⟩
theorem aZ {r:R2} (hr:IxR X r) (ha:SE X a ta) (hb:SE X b tb) (hs:PlainIx b):SE X (.Subscript a b pos) (tOp r ta tb):=⟨a23 hr ha.h hb.h hs⟩
theorem bA {k:Nat} {ps:List Str} {sp:Sp} (F:FnK X.prog X.w X.K X.mg X.base k x ps sp) (hr:Room k X.A) (ha:SA X (e::es) t) (hg:Gl X x:=by rfl) (hdb:(x==("__debug__":Str))=false:=by decide)
  (he:starEach (e::es) X.env=(false,eval e X.env)::starEach es X.env:=by rfl) (hpl:(backTo pos (starEach es X.env)).any (·.1)=false:=by rfl):
  SE X (.Call (.Name x p) (e::es) [] pos) (tCall sp [] E0 t):=⟨a2C F hr ha.h hg hdb he hpl⟩
theorem bL {id:String} {r:List V->Hp->VK->Prop} (hc:CallR X (.builtin id) r) (hg:Gl X x) (hm:X.mg x=none) (hv:bootBuiltins x=some (.builtin id)) (ha:SA X (e::es) t) (hn:x≠"__name__":=by decide) (hdb:(x==("__debug__":Str))=false:=by decide)
  (he:starEach (e::es) X.env=(false,eval e X.env)::starEach es X.env:=by rfl) (hpl:(backTo pos (starEach es X.env)).any (·.1)=false:=by rfl):SE X (.Call (.Name x p) (e::es) [] pos) (tCB r t):=⟨yI hc hg hm hv ha.h hn hdb he hpl⟩
theorem lM (K:Q0) {T:String} {name:Str} {id:String} {r:V->List V->Hp->VK->Prop} {to:TE} {apos cpos:Pos} (pa:PlainAttrs T) (slot:Slot T name id) (hty:typeOf (.builtin id)=pure (.type "method_descriptor")) (hm:MtM X id r) (ho:SE X o to) (ha:SA X (e::es) t) (h:X.K=K:=by rfl)
  (hbase:attributeBase o name X.env (eval o X.env)=eval o X.env:=by rfl)
  (hfew:((backTo cpos (starEach (e::es) X.env)).all (fun x=> !x.1)&&(backToKw cpos (keywordEach [] X.env)).all (fun x=>x.1.isSome)
   &&decide ((e::es).length+([]:List Keyword).length+(if ([]:List Keyword).isEmpty then 0 else 1) < 30))=true:=by rfl)
  (hline:(apos.endLine==cpos.line)=true:=by rfl) (hs:starEach (e::es) X.env=(false,eval e X.env)::starEach es X.env:=by rfl) (hplain:(backTo cpos (starEach es X.env)).any (·.1)=false:=by rfl):
  SE X (.Call (.Attribute o name apos) (e::es) [] cpos) (tBM K T r to t):=⟨a1o K pa slot hty hm ho.h ha.h h hbase hfew hline hs hplain⟩
theorem aP:SB X [] tNext:=⟨a0L⟩
theorem aC {st:Stmt} {u:TS} (h1:SS X st u):SB X [st] u:=⟨a0P h1.h⟩
theorem aA {st:Stmt} {rest:List Stmt} {u v:TS} (h1:SS X st u) (h2:SB X rest v):SB X (st::rest) (tSeq u v):=⟨yO h1.h h2.h⟩
theorem aN (he:SE X e te):SS X (.Return (some e) pos) (tRet te):=⟨a0x he.h⟩
theorem eJ (he:SE X e te) (hs:swapsWith e none pos.line X.env=pure false:=by rfl):SS X (.Expr e pos) (tDrop te):=⟨yX he.h hs⟩
theorem bN {a b:List Stmt} {tA:TT} {u v:TS} (hc:ST X c tA) (ha:SB X a u) (hb:SB X b v):SS X (.If c a b pos) (tIfS tA u v):=⟨a22 hc.h ha.h hb.h⟩
theorem fY {body:List Stmt} {wi:TI} {g:TG} {u:TS} (hp:PassesOwn (model X.prog X.w) X.A X.env X.xe) (hc:X.calm=true) (hi:SI X tg iter wi) (hg:SG X tg g) (hb:SB X body u) (hs:∀ x,foldedSetIterable iter X.env x=pure x:=by intro _;rfl):SS X (.For tg iter body [] pos) (tFor wi g u):=⟨a1h hp hc hi.h hg.h hb.h hs⟩
theorem fL {body:List Stmt} {tA:TT} {u:TS} (hp:PassesOwn (model X.prog X.w) X.A X.env X.xe) (hc:ST X c tA) (hb:SB X body u):SS X (.While c body [] pos) (tWhile tA u):=⟨xH hp hc.h hb.h⟩
theorem aR {i:Nat} (hN:X.N.Nodup) (hi:X.N[i]? =some x) (hx:Loc X.env.scope x) (he:SE X e te) (hs:swapsWith e (some (.Name x pos')) pos.line X.env=pure false:=by rfl) (hf:X.fn x=true\/X.env.scope.names.lookup x=some .local:=by first | exact .inl rfl | exact .inr rfl | assumption):
  SS X (.Assign [.Name x pos'] e pos) (tAsg te (gName i)):=⟨a0s hN hi hx he.h hs hf⟩
theorem qX (hu:X.A.units+1 < cLine) (ho:SE X o td) (hi:SE X i ty) (hv:SE X value tv) (hs:swapsWith value (some (.Subscript o i pos')) pos.line X.env=pure false):SS X (.Assign [.Subscript o i pos'] value pos) (sDPut td ty tv):=⟨a0J hu ho.h hi.h hv.h hs⟩
theorem hV {g:TG} (he:SE X e te) (hg:SG X tg g) (hs:swapsWithSole [tg] e pos.line X.env=pure false:=by rfl) (hw:swappedStores [tg] e X.env=pure none:=by rfl)
  (h1:(assignEach [tg] X.env).map (·.2)=[assign tg X.env]:=by rfl):SS X (.Assign [tg] e pos) (tAsg te g):=⟨a19 he.h hg.h hs hw h1⟩
theorem aG {i:Nat} (hN:X.N.Nodup) (hi:X.N[i]? =some x) (hx:Loc X.env.scope x) (hf:X.fn x=true\/X.env.scope.names.lookup x=some .local:=by first | exact .inl rfl | exact .inr rfl | assumption):SG X (.Name x pos) (gName i):=⟨a0C hN hi hx hf⟩
theorem bD:SGs X [] gNil:=⟨a0G⟩
theorem aH {g:TG} {u:TGs} (h1:SG X e g) (h2:SGs X es u) (hs:(assignEach (e::es) X.env).map (·.2)=assign e X.env::(assignEach es X.env).map (·.2):=by rfl):SGs X (e::es) (gCons g u):=⟨wU h1.h h2.h hs⟩
theorem bQ (K:Q0) {k:Nat} {u:TGs} {n:Nat} (hc:X.calm=true) (hh:SGs X es u) (h:X.K=K:=by rfl)
  (hn:(assignEach es X.env).length=n:=by rfl) (hst:(assignEach es X.env).findIdx? (·.1)=none:=by rfl):SG X (.Tuple es k pos) (gTup K n u):=⟨a03 K hc hh.h h hn hst⟩
theorem xO {u:TSet} (ho:SE X o td) (hi:SE X i ty) (hs:PSet X u)
  (ha:∀ v,assign (.Subscript o i pos) X.env v=(do
   let ov <- holding [v] (eval o X.env)
   let iv <- holding [v,ov] (eval i X.env)
   standAt pos
   holding [v,ov,iv] (setItem ov iv v)
   release [v,ov,iv] []):=by intro _;rfl):SG X (.Subscript o i pos) (gSub td ty u):=⟨a1y ho.h hi.h hs ha⟩
theorem oV (hg:Gl X "range") (hm:X.mg "range"=none) (ha:SA X [a] t) (hs:starEach [a] X.env=[(false,eval a X.env)]:=by rfl):SI X tg (.Call (.Name "range" p) [a] [] pos) (iRng1 t):=⟨vX hg hm ha.h hs⟩
theorem j6 (K:Q0) (hl:SE X e te) (h:X.K=K:=by rfl):SI X tg e (iD K te):=⟨a2X K hl.h h⟩
theorem cN:SC X [] tcNil:=⟨zS⟩
theorem a0Y {tA:TT} (h:ST X c tA):SC X [c] tA:=⟨zP h.h⟩
theorem i9 {ifs:List Expr} {sc:Scope} {own:List Str} {idx:List Nat} {N':List Str} {wi:TI} {g:TG} {tt:TC} (S:CScope X.env.scope X.N sc own idx N') (hc:X.calm=true) (hi:SI X tg iter wi)
  (hg:∀ cl C s3 H0 fp pn,SG (cxComp X N' sc cl C s3 H0 fp pn) tg g) (ht:∀ cl C s3 H0 fp pn,SC (cxComp X N' sc cl C s3 H0 fp pn) ifs tt) (he:∀ cl C s3 H0 fp pn,SE (cxComp X N' sc cl C s3 H0 fp pn) elt te)
  (hs:∀ x,foldedSetIterable iter X.env x=pure x:=by intro _;rfl):SE X (.ListComp elt [⟨tg,iter,ifs,0⟩] sc pos) (tLC own idx wi g tt te):=
 ⟨a2R S hc hi.h (fun q r s t u v=>(hg q r s t u v).h) (fun q r s t u v=>(ht q r s t u v).h) (fun q r s t u v=>(he q r s t u v).h) hs⟩
theorem a1R {ifs:List Expr} {sc:Scope} {own:List Str} {idx:List Nat} {N':List Str} {wi:TI} {g:TG} {tt:TC} {i:Nat} {y:Str} {py spos:Pos} (S:CScope X.env.scope X.N sc own idx N') (hc:X.calm=true) (hi:SI X tg iter wi)
  (hg:∀ cl C s3 H0 fp pn,SG (cxComp X N' sc cl C s3 H0 fp pn) tg g) (ht:∀ cl C s3 H0 fp pn,SC (cxComp X N' sc cl C s3 H0 fp pn) ifs tt) (he:∀ cl C s3 H0 fp pn,SE (cxComp X N' sc cl C s3 H0 fp pn) elt te)
  (hN:X.N.Nodup) (hiy:X.N[i]? =some y) (hy:X.env.scope.names.lookup y=some .local)
  (hsw:swapsWith (.ListComp elt [⟨tg,iter,ifs,0⟩] sc pos) (some (.Name y py)) spos.line X.env=pure true:=by rfl)
  (hs:∀ x,foldedSetIterable iter X.env x=pure x:=by intro _;rfl):SS X (.Assign [.Name y py] (.ListComp elt [⟨tg,iter,ifs,0⟩] sc pos) spos) (tAsg (tLC own idx wi g tt te) (gName i)):=
 ⟨a2D S hc hi.h (fun q r s t u v=>(hg q r s t u v).h) (fun q r s t u v=>(ht q r s t u v).h) (fun q r s t u v=>(he q r s t u v).h) hN hiy hy hsw hs⟩
end
theorem FnT.okS {P:Program} {w:World} {K:Q0} {mg:Str->Option Value} {base:Heap} {x:Str} {st:Stmt} {N ps:List Str} {k:Nat} {sp:Sp} (F:FnT K mg x st ps) (S:FnScope N ps (defScope st)) (len:∀ vs H Q E,sp vs H Q E->vs.length=ps.length)
  (hbody:∀ (f:Addr) (cdv:Value) (A:Around) (outer:List Env) (s:Shared) (H:Hp) (vs:List V) (Q:VK) (E:XK),Room k (A.deeper (envOfC x (defScope st) s.heap.objs.size f cdv))->sp vs H Q E->
   ∃ t,SB (cxOf CX0 P w K mg base N x (defScope st) f cdv A outer s H E).nox (defBody st) t/\t {nx:=fun _ H'=>Q .non H',rt:=Q} (start N vs) H):FnK P w K mg base (k+1) x ps sp:=
 F.ok S len fun f cdv A outer s H vs Q E hr h=>let ⟨t,h1,h2⟩:=hbody f cdv A outer s H vs Q E hr h;⟨t,h1.h,h2⟩
section
variable {prog:Program} {w:World} {A:Around} {R:Result->Shared->Prop} {s:Shared}
theorem compLoopD {kx vx target iter:Expr} {ifs:List Expr} {scope:Scope} {pos:Pos} {it:Value} {D:Addr} {env:Env} (I:Nat->Shared->Prop)
  (turn:∀ n s,I n s->wpAny (model prog w) A (pyNext it) (fun r s₁=>match r with
   | none=>R (.ok .next) s₁
   | some v=>wpAny (model prog w) A (letOwnedTupleGo target it v) (fun _ s₁'=>wpAny (model prog w) A (assign target env v) (fun _ s₂=>
     wpAny (model prog w) A (forIn ifs true fun c r=>if r=true then do let ok <- isTrue c env (eval c env);pure (ForInStep.yield ok) else pure (ForInStep.yield r)) (fun ok s₃=>
      if ok=true then wpAny (model prog w) A (eval kx env) (fun kv s₄=>wpAny (model prog w) A (eval vx env) (fun vv s₅=>
       wpAny (model prog w) A (dictSet D kv vv) (fun _ s₆=>∃ m,m < n/\I m s₆) NoE s₅) NoE s₄) NoE s₃
      else ∃ m,m < n/\I m s₃) NoE s₂) NoE s₁') NoE s₁) NoE s)
  (n:Nat) (h:I n s):
  codeAny (model prog w) A (.compLoop (.DictComp kx vx [⟨target,iter,ifs,0⟩] scope pos) 0 it (.ref D) env) R s:=by
 refine codeAny_loop rfl I (fun n s hI=>?_) n h
 show wpAny _ A ((compTurn (.DictComp kx vx [⟨target,iter,ifs,0⟩] scope pos) 0 it (.ref D) env).onRaise (fun x=>do noteFrame x env;theTreesLotGoes x)) _ _ s
 refine wpAny_noted ?_
 rw [compTurn_dict]
 refine QT (wpAny_standAt (QT (wpAny_mono (turn n s hI) (fun r s₁ h₁=>?_) fun _ _ h'=>h'.elim)))
 cases r with
 | none=>exact QU h₁
 | some v=>
  refine QT (wpAny_mono h₁ (fun _ s₁' h₁'=>?_) fun _ _ h'=>h'.elim)
  refine QT (wpAny_mono h₁' (fun _ s₂ h₂=>QT (wpAny_mono h₂ (fun ok s₃ h₃=>?_) fun _ _ h'=>h'.elim)) fun _ _ h'=>h'.elim)
  cases ok with
  | false=>exact QU ⟨rfl,h₃⟩
  | true=>
   exact QT (QT (wpAny_mono h₃ (fun kv s₄ h₄=>QT (wpAny_holding (wpAny_mono h₄ (fun vv s₅ h₅=>QT (wpAny_standAt (wpAny_holding (wpAny_mono h₅ (fun _ s₆ h₆=>QU ⟨rfl,h₆⟩) fun _ _ h'=>h'.elim)))) fun _ _ h'=>h'.elim))) fun _ _ h'=>h'.elim))
end
section
variable {X:Cx} {tg iter kx vx:Expr} {ifs:List Expr} {sc:Scope} {pos:Pos} {own:List Str} {idx:List Nat} {N':List Str} {wi:TI} {g:TG} {tc:TC} {tk tw:TE}
abbrev dob:Obj:={cls:=.type "dict",data:=.dict #[]}
def tDC (own:List Str) (idx:List Nat) (wi:TI) (g:TG) (tc:TC) (tk tw:TE):TE:=fun σ H Q=>wi σ H fun J H1=>∀ D,H1 D=none->∃ W:Nat->Nat->St->Hp->Prop,(∃ m,W 0 m (stIn own idx σ) (upd H1 D (.dK [])))/\∀ i m τ H,W i m τ H->
 (J.stop i H/\Q (.ref D) H)\/(J.go i H/\∃ N:St->Hp->Prop,(∀ τ' H',N τ' H'->∃ m',m' < m/\W (i+1) m' τ' H')/\∀ x H',J.yld i H x H'->g x τ H' fun τ2 H2=>tc τ2 H2 fun b H3=>
  if b=true then tk τ2 H3 fun x H4=>tw τ2 H4 fun y H5=>∃ kvs key,x=kV key/\H5 D=some (.dK kvs)/\kvs.length < sizeLine/\N τ2 (upd H5 D (.dK (putK kvs key y))) else N τ2 H3)
theorem qI (S:CScope X.env.scope X.N sc own idx N') {cl:List (Str×Addr)} (c1:∀ x c,cl.lookup x=some c->X.env.cells.lookup x=some c) (c2:∀ y∈sc.names,y.2=.free->∃ c,cl.lookup y.1=some c) (hc:X.calm=true)
  (hg:∀ cl C s3 H0 fp pn,PG (cxComp X N' sc cl C s3 H0 fp pn) tg g) (ht:∀ cl C s3 H0 fp pn,PC' (cxComp X N' sc cl C s3 H0 fp pn) ifs tc) (he:∀ cl C s3 H0 fp pn,PE (cxComp X N' sc cl C s3 H0 fp pn) kx tk) (hv:∀ cl C s3 H0 fp pn,PE (cxComp X N' sc cl C s3 H0 fp pn) vx tw)
  {pins:List (Addr×Obj)} {σ:St} {Q:VK} {itv:Value} {s2:Shared} {RR:Value->Addr->Result->Shared->Prop} {E:Value->Shared->Prop}
  (hI:PIE X pins σ tg (fun J H1=>∀ D,H1 D=none->∃ W:Nat->Nat->St->Hp->Prop,(∃ m,W 0 m (stIn own idx σ) (upd H1 D (.dK [])))/\∀ i m τ H,W i m τ H->
   (J.stop i H/\Q (.ref D) H)\/(J.go i H/\∃ N:St->Hp->Prop,(∀ τ' H',N τ' H'->∃ m',m' < m/\W (i+1) m' τ' H')/\∀ x H',J.yld i H x H'->g x τ H' fun τ2 H2=>tc τ2 H2 fun b H3=>
    if b=true then tk τ2 H3 fun x H4=>tw τ2 H4 fun y H5=>∃ kvs key,x=kV key/\H5 D=some (.dK kvs)/\kvs.length < sizeLine/\N τ2 (upd H5 D (.dK (putK kvs key y))) else N τ2 H3)) itv s2)
  (hRR:∀ D C H' s',Inv X pins σ H' s'->Q (.ref D) H'->(H' C=none/\C≠X.env.locals/\X.s₀.heap.objs.size<=C/\(∀ x c,X.env.cells.lookup x=some c->c≠C)/\(∀ p∈X.pn++pins,p.1≠C)/\∃ m,s'.heap.Ns C m)->RR (.ref D) C (.ok .next) s'):
  wpAny (model X.prog X.w) X.A newDict (fun acc s₃=>wpAny (model X.prog X.w) X.A (newFunctionEnv sc X.env.globals cl [] X.env.qual none .none (some X.env)) (fun cenv s₄=>
   codeAny (model X.prog X.w) X.A (.compStart (.DictComp kx vx [⟨tg,iter,ifs,0⟩] sc pos) 0 itv acc {cenv with scope:=relabel sc X.env}) (RR acc cenv.locals) s₄) E s₃) E s2:=by
 obtain ⟨it,fp,tn,J,H2,rfl,I,T,st2,f2,body⟩:=hI
 refine wpAny_newObj_type (wpAny_newFunctionEnv S.cell (by intro y hy;simp at hy) (fun h4 ns sb=>?_) S.kind)
 dsimp only at ns sb ⊢
 have hob:dob.isFreed=false:=rfl
 have fr:H2 s2.heap.objs.size=none:=I.hok.fresh (Qy _)
 obtain ⟨W,⟨m0,w0⟩,turn⟩:=body _ fr
 have hfo:∀ b∈fp,∃ o,s2.heap.get? b=some o:=fun b hb=>let ⟨o,e,_⟩:=T.obj _ _ st2 b hb;⟨o,e⟩
 have sb':∀ b o,(s2.heap.push dob).get? b=some o->h4.get? b=some o:=fun b o e=>(sb.2 b (Nat.ne_of_lt (Qz e))).trans (Qc _ e)
 have hDo:∀ (H:Hp) (h:Heap),h.get? s2.heap.objs.size=some dob->ObjOk X.prog X.w H h s2.heap.objs.size (.dK []):=fun H h e=>⟨Nat.zero_le _,beq_eq_false_iff_ne.mpr (Ne.symm (Nat.ne_of_lt I.big)),[],.nil,(Heap.DictOf.new s2.heap).at fun o eo=>by rw [Qd _ rfl] at eo;cases eo;exact e⟩
 have I4:Inv (cxComp X N' sc cl (s2.heap.push dob).objs.size {s2 with heap:=s2.heap.push dob} (upd H2 s2.heap.objs.size (.dK [])) fp (X.pn++pins)) [] (stIn own idx σ) (upd H2 s2.heap.objs.size (.dK [])) {s2 with heap:=h4,toks:=s2.toks+([]:List (Str×Value)).length}:=
  l6 S I f2 hfo c1 c2 hob hDo ns sb'
 -- the block's own context
 generalize hY:cxComp X N' sc cl (s2.heap.push dob).objs.size {s2 with heap:=s2.heap.push dob} (upd H2 s2.heap.objs.size (.dK [])) fp (X.pn++pins)=Y at I4
 have hgY:PG Y tg g:=by rw [<- hY];exact hg _ _ _ _ _ _
 have htY:PC' Y ifs tc:=by rw [<- hY];exact ht _ _ _ _ _ _
 have heY:PE Y kx tk:=by rw [<- hY];exact he _ _ _ _ _ _
 have hvY:PE Y vx tw:=by rw [<- hY];exact hv _ _ _ _ _ _
 have pY:Y.prog=X.prog:=by rw [<- hY]
 have wY:Y.w=X.w:=by rw [<- hY]
 have KY:Y.K=X.K:=by rw [<- hY]
 have AY:Y.A=X.A:=by rw [<- hY]
 have cY:Y.calm=true:=by rw [<- hY];exact hc
 have xY:Y.xe=fun _ _=>False:=by rw [<- hY]
 have eY:Y.env=compEnvC sc cl (s2.heap.push dob).objs.size X.env:=by rw [<- hY]
 have exY:Y.ex=fp:=by rw [<- hY]
 have fsY:Y.fs=frs X.stack:=by rw [<- hY]
 have pnY:Y.pn=X.pn++pins:=by rw [<- hY]
 have stat:∀ {H':Hp},(∀ b∈fp,H' b=none)->∀ b∈fp,FpOk Y [] H' b:=fun hn b hb=>by
  obtain ⟨f0,f1,f3,f4,f5,f6⟩:=f2 b hb
  refine ⟨hn b hb,?_,?_,.inl (by rw [exY];exact hb),fun x c e=>?_,fun p hp=>?_⟩
  ·obtain ⟨o,e⟩:=hfo b hb
   have:=Qz e
   rw [eY]
   show b≠(s2.heap.push dob).objs.size
   rw [Heap.size_push];exact Nat.ne_of_lt (Nat.lt_succ_of_lt this)
  ·rw [fsY]
   intro z
   rcases Qp.mp (I.stkSub b z) with z | z
   ·exact f1 z
   ·exact f3 z
  ·rw [eY] at e
   exact f5 x c (c1 x c e)
  ·rw [pnY,List.append_nil] at hp
   exact f6 p hp
 have st4:tn 0 h4:=T.keep _ _ _ st2 fun b hb o e=>sb' b o (Qc _ e)
 have fr4:∀ b∈fp,upd H2 s2.heap.objs.size (.dK []) b=none:=fun b hb=>by
  obtain ⟨o,e⟩:=hfo b hb
  rw [aD (Nat.ne_of_lt (Qz e))]
  exact (f2 b hb).1
 have loop:codeAny (model X.prog X.w) X.A (.compLoop (.DictComp kx vx [⟨tg,iter,ifs,0⟩] sc pos) 0 (.ref it) (.ref s2.heap.objs.size) (compEnvC sc cl (s2.heap.push dob).objs.size X.env))
   (RR (.ref s2.heap.objs.size) (s2.heap.push dob).objs.size) {s2 with heap:=h4,toks:=s2.toks+([]:List (Str×Value)).length}:=by
  refine compLoopD (fun n s'=>∃ i τ H',Inv Y [] τ H' s'/\tn i s'.heap/\(∀ b∈fp,H' b=none)/\W i n τ H') ?_ m0 ⟨0,_,_,I4,st4,fr4,w0⟩
  rintro n s3 ⟨i,τ3,H3,I3,st3,fr3,w3⟩
  rcases turn i n τ3 H3 w3 with ⟨stop,qn⟩ | ⟨go,N,hN,step⟩
  ·have h:=T.done Y pY wY KY cY i [] s3 τ3 H3 NoE I3 (stat fr3) st3 stop
   rw [AY] at h
   refine thn h ?_
   rintro r s4 ⟨hr,I4'⟩
   subst hr
   have J4:=I4'
   rw [<- hY] at J4
   obtain ⟨b1,b2⟩:=jE I f2 hob J4
   exact hRR _ _ _ _ b1 qn b2
  ·have h:=T.item Y pY wY KY cY i [] s3 τ3 H3 NoE I3 (stat fr3) st3 go
   rw [AY] at h
   refine thn h ?_
   rintro r s4 ⟨u,hr,h4'⟩
   subst hr
   refine thn h4' ?_
   rintro _ s5 ⟨x,H5,I5,r5,y5,st5,fr5⟩
   have I5':=I5.pinned (stat fr5) (T.obj _ _ st5)
   have g5:=hgY _ s5 τ3 H5 x u _ I5' r5 (step x H5 y5)
   rw [pY,wY,AY,xY,eY] at g5
   refine thn g5 ?_
   rintro _ s6 ⟨τ6,H6,I6,q6⟩
   have t6:=htY _ s6 τ6 H6 _ I6 q6
   rw [pY,wY,AY,xY,eY] at t6
   refine thn t6 ?_
   rintro ok s7 ⟨H7,I7,q7⟩
   have again:∀ {τ8:St} {H8:Hp} {s8:Shared},Inv Y ([]++pinsAt fp s5.heap) τ8 H8 s8->N τ8 H8->∃ m,m < n/\∃ i τ' H',Inv Y [] τ' H' s8/\tn i s8.heap/\(∀ b∈fp,H' b=none)/\W i m τ' H':=fun {τ8 H8 s8} I8 n8=>by
    obtain ⟨m',hm,w8⟩:=hN τ8 H8 n8
    refine ⟨m',hm,i+1,τ8,H8,I8.unpinned,T.keep _ _ _ st5 fun b hb o e=>(I8.pin (b,o) (List.mem_append_right _ (List.mem_append_right _ (cL hb e)))).1,fun b hb=>?_,w8⟩
    obtain ⟨o,e,d⟩:=T.obj _ _ st5 b hb
    exact (I8.pin (b,o) (List.mem_append_right _ (List.mem_append_right _ (cL hb e)))).2.1
   cases ok with
   | false=>
    rw [if_neg (by decide)] at q7 ⊢
    exact again I7 q7
   | true=>
    rw [if_pos rfl] at q7 ⊢
    have e7:=heY _ s7 τ6 H7 _ I7 q7
    rw [pY,wY,AY,xY,eY] at e7
    refine thn e7 ?_
    rintro kv s8 ⟨x8,H8,I8,r8,q8⟩
    have v8:=hvY _ s8 τ6 H8 _ I8 q8
    rw [pY,wY,AY,xY,eY] at v8
    refine thn v8 ?_
    rintro yv s9 ⟨y9,H9,I9,r9,kvs,key,ek,hD9,hz,n9⟩
    subst ek
    obtain ⟨z,hd,vs,rel,dd⟩:=wS I9.hok hD9
    have hzz:vs.length<=sizeLine:=by rw [<- rel.length];exact z
    have hlen:(putK kvs key y9).length<=sizeLine:=by have:=cR kvs key y9;omega
    rw [pY,wY] at dd
    refine wpAny_dictSet_pairs (hsz:=hzz) (iV r8) dd fun h' dd' hs=>?_
    have he9:∃ q,h'.get? s2.heap.objs.size=some q:=let ⟨q,_,_,hq,_⟩:=dd';⟨q,hq⟩
    rw [<- pY,<- wY] at dd'
    have I10:=iX (t':=s9.toks+1) (ob:=.dK (putK kvs key y9)) I9 (by rw [hD9];exact True.intro) hs he9 (rC hlen hd (rel.put key r9) dd')
    exact again I10 n9
 exact codeAny_compStart_dict loop (T.self _ 0 _ _ _ st4 loop)
theorem a1z (S:CScope X.env.scope X.N sc own idx N') (hc:X.calm=true) (hi:PI X tg iter wi)
  (hg:∀ cl C s3 H0 fp pn,PG (cxComp X N' sc cl C s3 H0 fp pn) tg g) (ht:∀ cl C s3 H0 fp pn,PC' (cxComp X N' sc cl C s3 H0 fp pn) ifs tc) (he:∀ cl C s3 H0 fp pn,PE (cxComp X N' sc cl C s3 H0 fp pn) kx tk) (hv:∀ cl C s3 H0 fp pn,PE (cxComp X N' sc cl C s3 H0 fp pn) vx tw)
  (hs:∀ x,foldedSetIterable iter X.env x=pure x:=by intro _;rfl):PE X (.DictComp kx vx [⟨tg,iter,ifs,0⟩] sc pos) (tDC own idx wi g tc tk tw):=by
 intro pins s σ H Q I h
 obtain ⟨cl,hcl,c1,c2⟩:=S.closure I.ok
 show wpAny _ X.A (comprehension (.DictComp kx vx [⟨tg,iter,ifs,0⟩] sc pos) sc X.env _ newDict false (eval iter X.env)) _ _ s
 refine wpAny_comprehension_free (use:=none) rfl hs hcl S.kind S.names (thn (hi pins s σ H _ I h) fun v s1 h1=>thn h1 fun itv s2 h2=>?_)
 refine qI (Q:=Q) (pins:=pins) (σ:=σ) (RR:=fun acc C=>compPost (model X.prog X.w) X.A X.xe none (EP X pins σ Q) acc C) S c1 c2 hc hg ht he hv h2 ?_
 intro D C H' s' I' q ⟨a1,a2,a3,a4,a5,m,a6⟩
 exact ⟨m,a6,fun h' sb=>⟨.ref D,H',I'.turned (t':=s'.toks) (fun b o hb e=>(sb.2 b hb).trans e) a1 (Ne.symm (Ne.symm a2)) (.inr a3) a4 a5,rfl,q⟩⟩
theorem a0F (S:CScope X.env.scope X.N sc own idx N') (hc:X.calm=true) (hi:SI X tg iter wi)
  (hg:∀ cl C s3 H0 fp pn,SG (cxComp X N' sc cl C s3 H0 fp pn) tg g) (ht:∀ cl C s3 H0 fp pn,SC (cxComp X N' sc cl C s3 H0 fp pn) ifs tc) (he:∀ cl C s3 H0 fp pn,SE (cxComp X N' sc cl C s3 H0 fp pn) kx tk) (hv:∀ cl C s3 H0 fp pn,SE (cxComp X N' sc cl C s3 H0 fp pn) vx tw)
  (hs:∀ x,foldedSetIterable iter X.env x=pure x:=by intro _;rfl):SE X (.DictComp kx vx [⟨tg,iter,ifs,0⟩] sc pos) (tDC own idx wi g tc tk tw):=
 ⟨a1z S hc hi.h (fun q r s t u v=>(hg q r s t u v).h) (fun q r s t u v=>(ht q r s t u v).h) (fun q r s t u v=>(he q r s t u v).h) (fun q r s t u v=>(hv q r s t u v).h) hs⟩
end
theorem Same.upd {H:Hp} {a:Addr} (h:H a=none) (o:HO):Same H (upd H a o):=fun b u q=>by rw [aD (aM q h)];exact q
theorem iteB {c:Bool} {A B:Prop} (h1:c=true->A) (h2:c=false->B):if c=true then A else B:=by
 cases c with
 | true=>exact iteT (h1 rfl)
 | false=>exact iteF (h2 rfl)
theorem aV {t u:TS} {D:Ends} {σ:St} {H:Hp} (mid:St->Hp->Prop) (h1:∀ nx:St->Hp->Prop,(∀ σ' H',mid σ' H'->nx σ' H')->t {D with nx:=nx} σ H) (h2:∀ σ' H',mid σ' H'->u D σ' H'):tSeq t u D σ H:=h1 (u D) h2
theorem aI {α:Type} (x:α) (xs:List α):atI (x::xs) 0=some x:=dN (j:=0) rfl
theorem kR {α:Type} (xs:List α) (i:Int) (h0:0<=i) (h1:i < xs.length):∃ c,xs[i.toNat]? =some c/\atI xs i=some c:=by
 have hl:i.toNat < xs.length:=by omega
 refine ⟨xs[i.toNat],by simp [hl],?_⟩
 have:=dN (xs:=xs) (j:=i.toNat) (v:=xs[i.toNat]) (by simp [hl])
 rw [<- this]
 congr 1
 omega
theorem gM (ns:List Str) (i:Nat) (h:i < ns.length):(ns.map V.str).getD i .non=.str (ns.getD i ""):=by
 simp [Qb,h]
abbrev penD (w:Addr) (m t:Int):List (Key×V):=[(.inr "mixed",.int m),(.inr "turn",.int t),(.inr "wide",.ref w)]
structure PenAt (H:Hp) (p w:Addr) (t:Nat):Prop where
 ex:∃ (m c:Int) (ws:List Int),H p=some (.dK (penD w m c))/\H w=some (.lst (ws.map V.int))/\(0<=m/\m < 2147483629)/\0<=c/\c<=(t:Int)
def Sm (p w:Addr) (H H':Hp):Prop:=∀ b o,H b=some o->b≠p->b≠w->H' b=some o
theorem Sm.trans {p w:Addr} {H H1 H2:Hp} (a:Sm p w H H1) (b:Sm p w H1 H2):Sm p w H H2:=fun c o h h1 h2=>b c o (a c o h h1 h2) h1 h2
theorem Same.sm {p w:Addr} {H H1:Hp} (a:Same H H1):Sm p w H H1:=fun c o h _ _=>a c o h
theorem PenAt.same {H H':Hp} {p w:Addr} {t:Nat} (h:PenAt H p w t) (s:Same H H'):PenAt H' p w t:=by
 obtain ⟨m,c,ws,h1,h2,r⟩:=h.ex
 exact ⟨m,c,ws,s _ _ h1,s _ _ h2,r⟩
theorem Sm.free {p w:Addr} {H H':Hp} (s:Sm p w H H') {l:Addr} (h:H' l=none) (hp:l≠p) (hw:l≠w):H l=none:=by
 cases q:H l with
 | none=>rfl
 | some o=>rw [s l o q hp hw] at h;cases h
theorem PenAt.upd {H:Hp} {p w D:Addr} {t:Nat} {o:HO} (h:PenAt H p w t) (h1:D≠p) (h2:D≠w):PenAt (upd H D o) p w t:=by
 obtain ⟨m,c,ws,e1,e2,r⟩:=h.ex
 exact ⟨m,c,ws,by rw [aD h1.symm];exact e1,by rw [aD h2.symm];exact e2,r⟩
theorem Sm.upd {p w D:Addr} {H H':Hp} {o:HO} (s:Sm p w H H') (h:H D=none):Sm p w H (upd H' D o):=fun b u hb h1 h2=>by rw [aD (aM hb h)];exact s b u hb h1 h2
def GoodV (p w:Addr) (H:Hp):V->Prop
 | .non=>True
 | .bl _=>True
 | .int _=>True
 | .str z=>z.length<=100000
 | .ref a=>a≠p/\a≠w/\((∃ xs,H a=some (.lst xs))\/(∃ xs,H a=some (.tup xs))\/∃ kvs,H a=some (.dK kvs))
 | _=>False
theorem GoodV.sm {p w:Addr} {H H':Hp} {x:V} (h:GoodV p w H x) (s:Sm p w H H'):GoodV p w H' x:=by
 cases x with
 | ref a=>
  obtain ⟨h1,h2,h3⟩:=h
  refine ⟨h1,h2,?_⟩
  rcases h3 with ⟨xs,e⟩ | ⟨xs,e⟩ | ⟨xs,e⟩
  ·exact .inl ⟨xs,s _ _ e h1 h2⟩
  ·exact .inr (.inl ⟨xs,s _ _ e h1 h2⟩)
  ·exact .inr (.inr ⟨xs,s _ _ e h1 h2⟩)
 | _=>exact h
structure GLs (p w:Addr) (t:Nat) (H:Hp) (xs:List V):Prop where
 pen:PenAt H p w t
 all:∀ x∈xs,GoodV p w H x
section
variable {p w:Addr} {t u:Nat} {H H':Hp} {xs ys:List V}
theorem GLs.sm (g:GLs p w t H xs) (hp:PenAt H' p w u) (s:Sm p w H H'):GLs p w u H' xs:=⟨hp,fun x hx=>(g.all x hx).sm s⟩
theorem GLs.upd {q:Addr} {o:HO} (g:GLs p w t H xs) (h:H q=none):GLs p w t (upd H q o) xs:=g.sm (g.pen.same (Same.upd h o)) (Same.upd h o).sm
theorem GLs.add {x:V} (g:GLs p w t H xs) (h:GoodV p w H x):GLs p w t H (x::xs):=⟨g.pen,fun y hy=>by
 rcases Qp.mp hy with e | hy
 ·rw [e];exact h
 ·exact g.all y hy⟩
end
section
variable {X:Cx} {x:Str} {p pos:Pos} {e:Expr} {es:List Expr} {t:TA}
theorem bO {T:String} {r:List V->Hp->VK->Prop} (hc:CallR X (.type T) r) (hg:Gl X x) (hm:X.mg x=none) (hv:bootBuiltins x=some (.type T)) (ha:SA X (e::es) t) (hn:x≠"__name__":=by decide) (hdb:(x==("__debug__":Str))=false:=by decide)
  (he:starEach (e::es) X.env=(false,eval e X.env)::starEach es X.env:=by rfl) (hpl:(backTo pos (starEach es X.env)).any (·.1)=false:=by rfl):SE X (.Call (.Name x p) (e::es) [] pos) (tCB r t):=⟨vT hc hg hm hv ha.h hn hdb he hpl⟩
def rTupOf (K:Q0):List V->Hp->VK->Prop:=fun xs H Q=>∃ p ys,xs=[.ref p]/\((SqL K H p ys/\∀ l,H l=none->Q (.ref l) (upd H l (.tup ys)))\/(SqT K H p ys/\Q (.ref p) H))
def rLstOf (K:Q0):List V->Hp->VK->Prop:=fun xs H Q=>∃ p ys,xs=[.ref p]/\(SqL K H p ys\/SqT K H p ys)/\∀ l,H l=none->Q (.ref l) (upd H l (.lst ys))
theorem d6 (K:Q0) (h:X.K=K:=by rfl):CallR X (.type "tuple") (rTupOf K):=by subst h;exact m8
theorem jF (K:Q0) (h:X.K=K:=by rfl):CallR X (.type "list") (rLstOf K):=by subst h;exact nF
end
mutual
inductive Den (H:Hp):V->PyData->Prop
 | non:Den H .non .none
 | bl (b:Bool):Den H (.bl b) (.bool b)
 | int (i:Int):Den H (.int i) (.int i)
 | str (z:Str):Den H (.str z) (.str z)
 | tup {a:Addr} {xs:List V} {ds:List PyData}:H a=some (.tup xs)->DenL H xs ds->Den H (.ref a) (.tuple ds)
 | lst {a:Addr} {xs:List V} {ds:List PyData}:H a=some (.lst xs)->DenL H xs ds->Den H (.ref a) (.list ds)
inductive DenL (H:Hp):List V->List PyData->Prop
 | nil:DenL H [] []
 | cons {x:V} {d:PyData} {xs:List V} {ds:List PyData}:Den H x d->DenL H xs ds->DenL H (x::xs) (d::ds)
end
mutual
theorem Den.same {H H':Hp} (s:Same H H'):∀ {x:V} {d:PyData},Den H x d->Den H' x d
 | _,_,.non=>.non
 | _,_,.bl b=>.bl b
 | _,_,.int i=>.int i
 | _,_,.str z=>.str z
 | _,_,.tup e r=>.tup (s _ _ e) (DenL.same s r)
 | _,_,.lst e r=>.lst (s _ _ e) (DenL.same s r)
theorem DenL.same {H H':Hp} (s:Same H H'):∀ {xs:List V} {ds:List PyData},DenL H xs ds->DenL H' xs ds
 | _,_,.nil=>.nil
 | _,_,.cons a r=>.cons (Den.same s a) (DenL.same s r)
end
mutual
theorem xM {P:Program} {w:World} {H:Hp} {h:Heap} (ok:HOk P w H h):∀ {x:V} {d:PyData} {u:Value},Den H x d->RelV x u->∃ as,Reads h u d as
 | _,_,_,.non,r=>by cases (show _=Value.none from r);exact ⟨[],.none⟩
 | _,_,_,.bl b,r=>by cases (show _=Value.bool b from r);exact ⟨[],.bool b⟩
 | _,_,_,.int i,r=>by obtain ⟨t,rfl⟩:=(show ∃ t,_=Value.int i t from r);exact ⟨[],.int i t⟩
 | _,_,_,.str z,r=>by obtain ⟨t,rfl⟩:=(show ∃ t,_=Value.str z t from r);exact ⟨[],.str z t⟩
 | _,_,_,.tup (a:=a) (xs:=xs) e l,r=>by
  cases (show _=Value.ref a from r)
  obtain ⟨_,its,rv,o,ho,hc,n,hd⟩:=(show ObjOk P w H h a (.tup xs) from ok a _ e)
  obtain ⟨as,ra⟩:=fZ ok l rv
  exact ⟨as,.tuple ho hc hd (by simpa using ra)⟩
 | _,_,_,.lst (a:=a) (xs:=xs) e l,r=>by
  cases (show _=Value.ref a from r)
  obtain ⟨_,its,n,rv,ho⟩:=(show ObjOk P w H h a (.lst xs) from ok a _ e)
  obtain ⟨as,ra⟩:=fZ ok l rv
  exact ⟨a::as,.list ho rfl rfl (by simpa using ra)⟩
theorem fZ {P:Program} {w:World} {H:Hp} {h:Heap} (ok:HOk P w H h):∀ {xs:List V} {ds:List PyData} {us:List Value},DenL H xs ds->Vals xs us->∃ as,ReadsAll h us ds as
 | _,_,_,.nil,.nil=>⟨[],.nil⟩
 | _,_,_,.cons a l,.cons r rs=>by
  obtain ⟨as,ra⟩:=xM ok a r
  obtain ⟨bs,rb⟩:=fZ ok l rs
  exact ⟨as++bs,.cons ra rb⟩
end
end L2
set_option maxRecDepth 100000
namespace L2
open PySem PySem.Spec PyProof.Rows
section
variable {X:Cx}
def rIsB (n:Bool):R2:=fun x y H Q=>match x,y with
 | .bl a,.bl b=>Q (.bl (n^^(a==b))) H
 | x,.non=>Q (.bl (n^^decide (x=.non))) H
 | _,_=>False
theorem a1a:OpR X (compareOp .Is) (rIsB false):=by
 intro pins s σ H x y v u Q I rx ry h
 cases y with
 | non=>exact a1C pins s σ H _ _ v u Q I rx ry ⟨rfl,by cases x<;>simpa [rIsB] using h⟩
 | bl b=>
  cases x with
  | bl a=>
   cases rx;cases ry
   exact is_bool (aS I h (by cases a<;>cases b<;>rfl))
  | _=>exact (show False from h).elim
 | _=>cases x<;>exact (show False from h).elim
theorem yZ:OpR X (compareOp .IsNot) (rIsB true):=by
 intro pins s σ H x y v u Q I rx ry h
 cases y with
 | non=>exact a07 pins s σ H _ _ v u Q I rx ry ⟨rfl,by cases x<;>simpa [rIsB] using h⟩
 | bl b=>
  cases x with
  | bl a=>
   cases rx;cases ry
   exact isnot_bool (aS I h (by cases a<;>cases b<;>rfl))
  | _=>exact (show False from h).elim
 | _=>cases x<;>exact (show False from h).elim
end
abbrev ABC:Str:="abcdefghijklmnopqrstuvwxyz"
abbrev NON:List Str:=["all","none","way","box","pick"]
def inAbc (c:Nat):Bool:= !(Builtin.Str.occurrences ABC ⟨#[c]⟩ 0 ABC.length 1).isEmpty
def isName (z:Str):Bool:=decide (1<=z.length)&&decide (z.length<=8)&& !(NON.any fun y=>y==z)&&z.cps.toList.all inAbc
theorem cO {i j:Str}:(decide (V.str i=V.str j))=(i==j):=by
 by_cases h:i=j
 ·subst h;simp
 ·rw [Qw (fun e=>h (V.str.inj e))]
  exact (beq_eq_false_iff_ne.mpr h).symm
theorem Same.put {H0 H':Hp} {p:Addr} {o:HO} (s:Same H0 H') (h:H0 p=none):Same H0 (L2.upd H' p o):=fun b u q=>by rw [aD (aM q h)];exact s b u q
theorem aL {te:TE} {i:Nat} {u:TS} {D:Ends} {σ:St} {H:Hp} (h:te σ H fun x H1=>u D (σ.set i (some x)) H1):tSeq (tAsg te (gName i)) u D σ H:=h
theorem jK {v:V} {i:Nat} {u:TS} {D:Ends} {σ:St} {H:Hp} (h:u D (σ.set i (some v)) H):tSeq (tAsg (tC v) (gName i)) u D σ H:=h
theorem gQ {t u:TS} {D:Ends} {σ:St} {H:Hp} {rt:VK} {bk ct:St->Hp->Prop} (h:tSeq t u D σ H):tNext {nx:=tSeq t u D,rt:=rt,bk:=bk,ct:=ct} σ H:=h
section
variable {X:Cx} {pins:List (Addr×Obj)} {σ:St} {H:Hp} {s:Shared} {h':Heap}
theorem Inv.turnedT {t':Nat} {ch:List Addr} {T:Addr} {o:HO} (I:Inv X pins σ H s) (hf:∀ b∈ch,FpOk X pins H b) (k:∀ b o,b ∉ ch->s.heap.get? b=some o->h'.get? b=some o)
  (hT:s.heap.objs.size<=T) (new:ObjOk X.prog X.w (upd H T o) h' T o):Inv X pins σ (upd H T o) {s with heap:=h',toks:=t'}:=by
 have hfr:H T=none:=I.hok.fresh hT
 have nT:∀ b ob,s.heap.get? b=some ob->b≠T:=fun b ob e=>Nat.ne_of_lt (Nat.lt_of_lt_of_le (Qz e) hT)
 have nch:∀ b u,H b=some u->b ∉ ch:=fun b u e hb=>by rw [(hf b hb).1] at e;cases e
 refine I.step (g':=s.gens) (d':=s.drawn) (ch:=ch) (fun b hb=>?_) (fun b o _ _ hc e _=>k b o hc e) (fun b o _ _ hc e _=>⟨o.slots,k b o hc e⟩) (fun b o hc e n=>by rw [aD (nT b o e)];exact n)
  (fun b o hc e=>⟨o,k b o hc e⟩) (fun b xs e=>by rw [aD (aM e hfr)];exact e) (fun b o u e=>by rw [aD (aM e hfr)];exact e) (fun b ps e=>⟨#[],by rw [aD (aM e hfr),e];simp⟩) (fun m hm=>?_) (fun b u e=>?_) I.bare
 ·obtain ⟨f0,f1,f2,f3,f4,f5⟩:=hf b hb
  exact ⟨f3,f1,f4,f5⟩
 ·obtain ⟨o,es,ep,ho,r⟩:=hm
  exact ⟨o,es,ep,k _ o (fun z=>(hf _ z).2.1 rfl) ho,r⟩
 ·by_cases hb:b=T
  ·subst hb
   rw [a7] at e;cases e
   exact new
  ·rw [aD hb] at e
   refine (I.hok b u e).stay (fun c v hc q=>k c v ?_ q) (fun c q=>by rw [aD (aM q hfr)];exact q) fun c xs q=>q.upd fun u' hu=>aM hu hfr
   rcases hc with z | z
   ·rw [z];exact nch b u e
   ·exact nch c _ z
theorem Inv.turnedL {t':Nat} {ch:List Addr} (I:Inv X pins σ H s) (hf:∀ b∈ch,FpOk X pins H b) (k:∀ b o,b ∉ ch->s.heap.get? b=some o->h'.get? b=some o):Inv X pins σ H {s with heap:=h',toks:=t'}:=by
 have nch:∀ b u,H b=some u->b ∉ ch:=fun b u e hb=>by rw [(hf b hb).1] at e;cases e
 refine I.step (g':=s.gens) (d':=s.drawn) (ch:=ch) (fun b hb=>?_) (fun b o _ _ hc e _=>k b o hc e) (fun b o _ _ hc e _=>⟨o.slots,k b o hc e⟩) (fun b o hc e n=>n)
  (fun b o hc e=>⟨o,k b o hc e⟩) (fun b xs e=>e) (fun b o u e=>e) (fun b ps e=>⟨#[],by rw [e];simp⟩) (fun m hm=>?_) (fun b u e=>?_) I.bare
 ·obtain ⟨f0,f1,f2,f3,f4,f5⟩:=hf b hb
  exact ⟨f3,f1,f4,f5⟩
 ·obtain ⟨o,es,ep,ho,r⟩:=hm
  exact ⟨o,es,ep,k _ o (fun z=>(hf _ z).2.1 rfl) ho,r⟩
 ·refine (I.hok b u e).stay (fun c v hc q=>k c v ?_ q) (fun c q=>q) fun c xs q=>q
  rcases hc with z | z
  ·rw [z];exact nch b u e
  ·exact nch c _ z
end
abbrev pairY (v1 v2:V):Hp->V->Hp->Prop:=fun H x H'=>∃ T,x=.ref T/\H T=none/\H'=upd H T (.tup [v1,v2])
theorem o7 {P:Program} {w:World} {H:Hp} {h:Heap} {T:Addr} {v1 v2:V} {u1 u2:Value} (r1:RelV v1 u1) (r2:RelV v2 u2) (e:h.get? T=some {cls:=.type "tuple",data:=.seq #[u1,u2]}):ObjOk P w H h T (.tup [v1,v2]):=
 ⟨⟨show 2<=sizeLine by decide,fun o q=>by rw [e] at q;cases q;rfl⟩,[u1,u2],.cons r1 (.cons r2 .nil),_,e,rfl,_,rfl⟩
theorem pQ {n l m:Nat} (h1:l < n) (h2:m < n):ZipApart (n+4) (n+2) (n+3) n (n+1) l m:=by
 constructor<;>(show (_:Nat)≠_)<;>omega
def Itz (K : Q0) (a b : Addr) : It :=
  ⟨fun i H => ∃ xs ys x y, SqL K H a xs /\ SqL K H b ys /\ xs[i]? = some x /\ ys[i]? = some y, fun i H x H' => ∃ v1 v2, (∀ xs, SqL K H a xs -> xs[i]? = some v1) /\ (∀ ys, SqL K H b ys -> ys[i]? = some v2) /\ pairY v1 v2 H x H',
   fun i H => ∃ xs ys, SqL K H a xs /\ SqL K H b ys /\ (xs.length <= i \/ ys.length <= i)⟩
abbrev zipSt (z TI TO i1 i2 a b:Addr) (i:Nat) (h:Heap):Prop:=IsZip h z TI TO .none/\IsPair h TI (.ref i1) (.ref i2)/\(∃ u v,IsPair h TO u v)/\h.IsListIter i1 a i/\h.IsListIter i2 b i
theorem wN {P:Program} {w:World} {K:Q0} {elts:List Expr} {k:Nat} {pos:Pos} (z TI TO i1 i2 a b:Addr) (D:ZipApart z TI TO i1 i2 a b):Turn P w K (.Tuple elts k pos) (Itz K a b) [z,TI,TO,i1,i2] z (zipSt z TI TO i1 i2 a b) where
 mem:=by simp
 obj:=fun i h st c hc=>by
  obtain ⟨hz,hTI,⟨u,v,hTO⟩,⟨o1,e1,c1,d1⟩,o2,e2,c2,d2⟩:=st
  simp only [Qp,QA,or_false] at hc
  rcases hc with rfl | rfl | rfl | rfl | rfl
  ·exact ⟨_,hz,fun v z=>by have z':Data.fields _=Data.cell v:=z;cases z'⟩
  ·exact ⟨_,hTI,fun v z=>by have z':Data.seq _ _=Data.cell v:=z;cases z'⟩
  ·exact ⟨_,hTO,fun v z=>by have z':Data.seq _ _=Data.cell v:=z;cases z'⟩
  ·exact ⟨_,e1,fun v z=>by rw [d1] at z;cases z⟩
  ·exact ⟨_,e2,fun v z=>by rw [d2] at z;cases z⟩
 keep:=fun i h h' st k=>by
  obtain ⟨hz,hTI,⟨u,v,hTO⟩,h1,h2⟩:=st
  exact ⟨k z (by simp) _ hz,k TI (by simp) _ hTI,⟨u,v,k TO (by simp) _ hTO⟩,h1.at fun o x=>k i1 (by simp) o x,h2.at fun o x=>k i2 (by simp) o x⟩
 item:=by
  intro X hP hw hK hc i pins s σ H E I hf st hg
  subst hP hw hK
  obtain ⟨hz,hTI,⟨u0,v0,hTO⟩,h1,h2⟩:=st
  obtain ⟨xs,ys,x,y,hq1,hq2,hx,hy⟩:=hg
  obtain ⟨its,rv,p,hzz⟩:=I.list hq1
  obtain ⟨its2,rv2,p2,hz2⟩:=I.list hq2
  obtain ⟨u,hu,ru⟩:=rv.get hx
  obtain ⟨u2,hu2,ru2⟩:=rv2.get hy
  refine wpAny_pyNext_zip_item D hz hTI hTO h1 h2 p.isList p2.isList (x:=u) (y:=u2) (by simpa using hu) (by simpa using hu2) fun h' a1 a2 a3 a4 a5 a6 hk=>?_
  have I1:Inv X pins σ (upd H s.heap.objs.size (.tup [x,y])) {s with heap:=h',toks:=s.toks}:=I.turnedT (t':=s.toks) hf (fun b o hb e=>hk b o (fun z=>hb (by simp [z])) (fun z=>hb (by simp [z])) (fun z=>hb (by simp [z])) (fun z=>hb (by simp [z])) e) (Qy _) (o7 ru ru2 a5)
  refine ⟨_,rfl,wpAny_letOwnedTupleGo_zip (s:={s with heap:=h'}) a1 fun h'' hz'' sb=>?_⟩
  have hlt:∀ b∈[z,TI,TO,i1,i2],b≠s.heap.objs.size:=fun c hc z'=>by
   simp only [Qp,QA,or_false] at hc
   obtain ⟨o1,e1,_⟩:=h1
   obtain ⟨o2,e2,_⟩:=h2
   rcases hc with rfl | rfl | rfl | rfl | rfl
   ·exact Nat.ne_of_lt (Qz hz) z'
   ·exact Nat.ne_of_lt (Qz hTI) z'
   ·exact Nat.ne_of_lt (Qz hTO) z'
   ·exact Nat.ne_of_lt (Qz e1) z'
   ·exact Nat.ne_of_lt (Qz e2) z'
  have hf1:∀ b∈[z,TI,TO,i1,i2],FpOk X pins (upd H s.heap.objs.size (.tup [x,y])) b:=fun b hb=>by
   obtain ⟨f0,f⟩:=hf b hb
   exact ⟨by rw [aD (hlt b hb)];exact f0,f⟩
  obtain ⟨f0,f1,f2,f3,f4,f5⟩:=hf1 z (by simp)
  refine ⟨.ref s.heap.objs.size,_,I1.turned (t':=s.toks) (fun b o hb q=>(sb.2 b hb).trans q) f0 f1 f3 f4 f5,rfl,⟨x,y,fun ys hy=>by rw [I.list_inj hy hq1];exact hx,fun ys hy'=>by rw [I.list_inj hy' hq2];exact hy,_,rfl,I.hok.fresh (Qy _),rfl⟩,?_,fun b hb=>(hf1 b hb).1⟩
  refine ⟨hz'',(sb.2 _ D.TIz).trans (hk _ _ D.TIz D.TITO D.TIi1 D.TIi2 hTI),⟨_,_,(sb.2 _ D.TOz).trans a2⟩,a3.at fun o q=>(sb.2 _ D.i1z).trans q,a4.at fun o q=>(sb.2 _ D.i2z).trans q⟩
 done:=by
  intro X hP hw hK hc i pins s σ H E I hf st hg
  subst hP hw hK
  obtain ⟨hz,hTI,⟨u0,v0,hTO⟩,h1,h2⟩:=st
  obtain ⟨xs,ys,hq1,hq2,hx⟩:=hg
  obtain ⟨its,rv,p,hzz⟩:=I.list hq1
  obtain ⟨its2,rv2,p2,hz2⟩:=I.list hq2
  have hl:=rv.length
  have hl2:=rv2.length
  refine wpAny_pyNext_zip_end (I.ok.hd hc) D hz hTI hTO h1 h2 p.isList p2.isList ?_ fun h' hk=>⟨rfl,I.turnedL (t':=s.toks) hf fun b o hb q=>hk b o (fun z=>hb (by simp [z])) (fun z=>hb (by simp [z])) (fun z=>hb (by simp [z])) (fun z=>hb (by simp [z])) q⟩
  rcases hx with hx | hx
  ·exact .inl (by simp;omega)
  ·exact .inr (by simp;omega)
 self:=fun _ _ _ _ _ st h=>wpAny_pyIter_zip st.1 h
section
variable {X:Cx} {elts:List Expr} {k:Nat} {tpos p pos:Pos} {a b:Expr} {ta:TA}
def iZip (K:Q0) (ta:TA):TI:=fun σ H R=>ta σ H fun vs H1=>∃ l m xs ys,vs=[.ref l,.ref m]/\SqL K H1 l xs/\SqL K H1 m ys/\R (Itz K l m) H1
theorem a1q (hg:Gl X "zip") (hm:X.mg "zip"=none) (ha:PA X [a,b] ta) (hs:starEach [a,b] X.env=[(false,eval a X.env),(false,eval b X.env)]:=by rfl) (hs2:starEach [b] X.env=[(false,eval b X.env)]:=by rfl):
  PI X (.Tuple elts k tpos) (.Call (.Name "zip" p) [a,b] [] pos) (iZip X.K ta):=by
 intro pins s σ H R I h
 refine Call_ (lO I hg hm boot_zip (PyProof.Rows.callWith_type1 (thn (ha pos pins s σ H _ I h) fun us s1 ⟨vs,H1,I1,r1,q1⟩=>?_) (by rw [hs,hs2]) (by rw [hs2];rfl)))
 obtain ⟨l,m,xs,ys,e,hq1,hq2,q⟩:=q1
 subst e
 obtain ⟨u1,u2,rfl,r1',r2'⟩:=r1.two
 cases r1'
 cases r2'
 obtain ⟨its,rv,pl,hz⟩:=I1.list hq1
 obtain ⟨its2,rv2,pl2,hz2⟩:=I1.list hq2
 have l1:l < s1.heap.objs.size:=by obtain ⟨_,e,_⟩:=pl.isList;exact Qz e
 have l2:m < s1.heap.objs.size:=by obtain ⟨_,e,_⟩:=pl2.isList;exact Qz e
 refine call_zip_2 pl.isList pl2.isList fun h' hz hTI hTO h1 h2 hsz hk=>wpAny_pyIter_zip hz ?_
 have I2:Inv X pins σ H1 {s1 with heap:=h'}:=I1.kept (t':=s1.toks) hk
 have ne:∀ {x y:Nat},x < y->x≠y:=fun h=>Nat.ne_of_lt h
 have ne':∀ {x y:Nat},y < x->x≠y:=fun h=>Nat.ne_of_gt h
 refine ⟨s1.heap.objs.size+4,[s1.heap.objs.size+4,s1.heap.objs.size+2,s1.heap.objs.size+3,s1.heap.objs.size,s1.heap.objs.size+1],_,_,H1,rfl,I2,wN _ _ _ _ _ l m ?_,⟨hz,hTI,⟨_,_,hTO⟩,h1,h2⟩,fun b hb=>?_,q⟩
 ·exact pQ l1 l2
 ·simp only [Qp,QA,or_false] at hb
  rcases hb with rfl | rfl | rfl | rfl | rfl<;>exact I1.fpOk (by simp) (I1.hok.fresh (by simp))
theorem tR (K:Q0) (hg:Gl X "zip") (hm:X.mg "zip"=none) (ha:SA X [a,b] ta) (h:X.K=K:=by rfl) (hs:starEach [a,b] X.env=[(false,eval a X.env),(false,eval b X.env)]:=by rfl) (hs2:starEach [b] X.env=[(false,eval b X.env)]:=by rfl):
  SI X (.Tuple elts k tpos) (.Call (.Name "zip" p) [a,b] [] pos) (iZip K ta):=by subst h;exact ⟨a1q hg hm ha.h hs hs2⟩
end
def ItP (J:It) (ok:Hp->Prop) (n:Nat) (f1 f2:Nat->V):Prop:=
 ∀ H,ok H->(∀ i,i < n->J.go i H/\∀ x H',J.yld i H x H'->pairY (f1 i) (f2 i) H x H')/\J.stop n H
theorem uB {K:Q0} {a b:Addr} (xs ys:List V):ItP (Itz K a b) (fun H=>SqL K H a xs/\SqL K H b ys) (min xs.length ys.length) (fun i=>xs.getD i .non) (fun i=>ys.getD i .non):=fun H ok=>
 ⟨fun i hi=>⟨⟨xs,ys,xs[i]'(by omega),ys[i]'(by omega),ok.1,ok.2,by simp,by simp⟩,fun x H' ⟨v1,v2,hv1,hv2,y⟩=>by
  have e1:xs.getD i V.non=v1:=by rw [Qb,hv1 xs ok.1];rfl
  have e2:ys.getD i V.non=v2:=by rw [Qb,hv2 ys ok.2];rfl
  show pairY (xs.getD i .non) (ys.getD i .non) H x H'
  rw [e1,e2];exact y⟩,⟨xs,ys,ok.1,ok.2,by omega⟩⟩
abbrev g2 (K:Q0) (a b:Nat):TG:=gTup K 2 (gCons (gName a) (gCons (gName b) gNil))
theorem cX {K:Q0} {a b:Nat} {T:Addr} {v1 v2:V} {σ:St} {H:Hp} {Q:St->Hp->Prop} (h:H T=some (.tup [v1,v2])) (q:Q ((σ.set a (some v1)).set b (some v2)) H):g2 K a b (.ref T) σ H Q:=
 ⟨T,_,rfl,SqT.of h,rfl,_,_,rfl,_,_,rfl,rfl,q⟩
theorem xJ {K:Q0} {J:It} {ok:Hp->Prop} {n:Nat} {f1 f2:Nat->V} {a b:Nat} {tb:TS} {D:Ends} {σ:St} {H:Hp} (hJ:ItP J ok n f1 f2) (Pv:Nat->St->Hp->Prop) (h0:Pv 0 σ H) (hok:∀ i τ H,i<=n->Pv i τ H->ok H)
  (hs:∀ i σ H T,i < n->Pv i σ H->H T=none->tb {D with nx:=Pv (i+1),ct:=Pv (i+1),bk:=D.nx} ((σ.set a (some (f1 i))).set b (some (f2 i))) (upd H T (.tup [f1 i,f2 i]))) (hd:∀ σ H,Pv n σ H->D.nx σ H):
  ∃ W:Nat->Nat->St->Hp->Prop,(∃ m,W 0 m σ H)/\∀ i m σ H,W i m σ H->
   (J.stop i H/\D.nx σ H)\/(J.go i H/\∃ N:St->Hp->Prop,(∀ σ' H',N σ' H'->∃ m',m' < m/\W (i+1) m' σ' H')/\∀ x H',J.yld i H x H'->g2 K a b x σ H' fun σ2 H2=>tb {D with nx:=N,ct:=N,bk:=D.nx} σ2 H2):=by
 refine ⟨fun i m σ H=>m=n - i/\i<=n/\Pv i σ H,⟨n,by simp,Nat.zero_le _,h0⟩,?_⟩
 rintro i m σ H ⟨rfl,hi,p⟩
 obtain ⟨k1,k2⟩:=hJ H (hok i σ H hi p)
 by_cases hlt:i < n
 ·refine .inr ⟨(k1 i hlt).1,Pv (i+1),fun σ' H' p'=>⟨n - (i+1),by omega,rfl,hlt,p'⟩,fun x H' y=>?_⟩
  obtain ⟨T,rfl,hT,rfl⟩:=(k1 i hlt).2 x H' y
  exact cX a7 (hs i σ _ T hlt p hT)
 ·have e:i=n:=by omega
  subst e
  exact .inl ⟨k2,hd σ H p⟩
end L2
set_option maxRecDepth 100000
namespace PySem
theorem l7 {prog:Program} {w:World} {A:Around} {E:Value->Shared->Prop} {s:Shared} {a:Addr} {o:Obj} {xs:Array Value} {k:Nat} {Q:Option Value->Shared->Prop}
  (hx:s.heap.get? a=some o) (hc:o.cls=.type "tuple") (hdat:o.data=.seq xs k) (hd:o.dict=none) (hA:A.handled=none)
  (h:∀ h' tk,(∀ b ob,s.heap.get? b=some ob->h'.get? b=some ob)->Q none {s with heap:=h',toks:=tk}):
  wpAny (model prog w) A (getAttr? (.ref a) "keys") Q E s:=by
 obtain ⟨c,dct,dat,sl⟩:=o
 simp only at hc hdat hd
 subst hc hdat hd
 obtain ⟨hp,g,d,tk,os⟩:=s
 have hT:∀ tk',(⟨hp,g,d,tk',os⟩:Shared).TypeIs (.ref a) "tuple":=fun _=>⟨_,hx,rfl⟩
 have hmiss:typeLookup (.type "tuple") "keys"=pure none:=am_miss_of_fast (by kernel_rfl)
 have f1:=sub_AttributeError
 have f3:=F.slot_tuple_getattribute.lookup
 have f4:=F.slot_tuple_getattribute.bind (.ref a)
 have f5:=am_tuple_getattr_none
 unfold getAttr? getAttrBy? getAttrBy
 repeat (any_goals (first | assumption | exact hT _ | ((with_reducible show wpAny _ _ (call (Value.builtin "tuple.__getattribute__") _ _) _ _ _);refine call_meets F.slot_tuple_getattribute (hT _) am_entry_tuple_getattribute (F.args_tuple_getattribute_2 _ _) (meets_getattribute_miss_tuple a xs k sl _ _ hmiss (by decide) (by decide)) ⟨hx,hA,fun h' tk' e hx'=>?_⟩) | wp_step))
 obtain ⟨t',u',he⟩:=hx'.there
 show wpAny _ _ (getattributeRaised _ _ _ _ _ _ _) _ _ _
 unfold getattributeRaised
 repeat (any_goals (first | assumption | wp_step))
 exact h _ _ hx'.keeps
end PySem
namespace PySem.F
theorem entry_dict_update_loop:entryFor table "dict.update.loop"=some Builtin.«dict.update.loop»:=entryFor_of_tree (by kernel_rfl)
theorem plain_dict_update_loop:plainId "dict.update.loop"=true:=by decide+kernel
end PySem.F
namespace L2
open PySem PySem.Spec PyProof.Rows
def PairsAt (H:Hp) (ys:List V) (rs:List (Key×V)):Prop:=ys.length=rs.length/\∀ i (h:i < rs.length),∃ b,ys[i]? =some (.ref b)/\H b=some (.tup [kV rs[i].1,rs[i].2])
def dictOf (rs:List (Key×V)):List (Key×V):=rs.foldl (fun kvs r=>putK kvs r.1 r.2) []
theorem pP (rs:List (Key×V)):∀ kvs:List (Key×V),(rs.foldl (fun kvs r=>putK kvs r.1 r.2) kvs).length<=kvs.length+rs.length:=by
 induction rs with
 | nil=>intro kvs;exact Qy _
 | cons r rs ih=>
  intro kvs
  have h1:=ih (putK kvs r.1 r.2)
  have h2:=cR kvs r.1 r.2
  rw [List.foldl_cons,List.length_cons]
  omega
theorem iA (rs:List (Key×V)):(dictOf rs).length<=rs.length:=by have:=pP rs [];simpa [dictOf] using this
theorem jV (rs:List (Key×V)) (i:Nat) (h:i < rs.length):dictOf (rs.take (i+1))=putK (dictOf (rs.take i)) rs[i].1 rs[i].2:=by
 unfold dictOf
 rw [Qs,Qa h,Option.toList_some,List.foldl_append];rfl
section
variable {X:Cx}
theorem rT {pins:List (Addr×Obj)} {σ:St} {A:Around} {R:Result->Shared->Prop} {d it a:Addr} {ys:List V} {rs:List (Key×V)} (hA:A.handled=none) {H:Hp} (hH:H d=none) (hlen:rs.length<=sizeLine) (hp:PairsAt H ys rs) (ha:H a=some (.tup ys)) (hit:it≠d)
  (hR:∀ s,Inv X pins σ (upd H d (.dK (dictOf rs))) s->R (.ok (.ret .none)) s):
  ∀ (k i:Nat) (s:Shared),rs.length - i=k->i<=rs.length->Inv X pins σ (upd H d (.dK (dictOf (rs.take i)))) s->s.heap.IsTupleIter it a i->FpOk X pins (upd H d (.dK (dictOf (rs.take i)))) it->
   codeAny (model X.prog X.w) A (.builtin "dict.update.loop" ⟨[.ref d,.ref it,rawInt i,.none],[]⟩) R s:=by
 have had:a≠d:=aM ha hH
 intro k
 induction k with
 | zero=>
  intro i s hk hi I st f
  have hin:i=rs.length:=by omega
  subst hin
  refine codeAny_builtin F.entry_dict_update_loop ?_
  rw [Around.under_plainId F.plain_dict_update_loop _]
  show wpAny _ A.in1 (pyNext (.ref it) >>=_) _ _ s
  obtain ⟨its,rv,p,hz⟩:=I.tuple (SqT.of (by rw [aD had];exact ha))
  have hl:=rv.length
  have hl2:=hp.1
  obtain ⟨f0,f1,f2,f3,f4,f5⟩:=f
  refine QT (wpAny_pyNext_tuple_end (by simp [hA]) st (show s.heap.IsTuple a its.toArray from p) (by simp;omega) fun h' eb=>?_)
  have I1:=I.turned (t':=s.toks) (h':=h') (fun b o hb e=>eb b o hb e) f0 f1 f3 f4 f5
  rw [Qo] at I1
  show wpAny _ _ (Builtin.Dict.addKeywords d [] >>=fun _=>ret .none) _ _ _
  exact QT (QU (QU (hR _ I1)))
 | succ k ih=>
  intro i s hk hi I st f
  have hlt:i < rs.length:=by omega
  refine codeAny_builtin F.entry_dict_update_loop ?_
  rw [Around.under_plainId F.plain_dict_update_loop _]
  show wpAny _ A.in1 (pyNext (.ref it) >>=_) _ _ s
  obtain ⟨its,rv,p,hz⟩:=I.tuple (SqT.of (by rw [aD had];exact ha))
  obtain ⟨b,hb1,hb2⟩:=hp.2 i hlt
  obtain ⟨u,hu,ru⟩:=rv.get hb1
  cases ru
  obtain ⟨f0,f1,f2,f3,f4,f5⟩:=id f
  refine QT (wpAny_pyNext_tuple_item st (show s.heap.IsTuple a its.toArray from p) (x:=.ref b) (by simpa using hu) fun h' st' sb=>?_)
  have I1:Inv X pins σ (upd H d (.dK (dictOf (rs.take i)))) {s with heap:=h'}:=I.turned (t':=s.toks) (fun b o hb e=>(sb.2 b hb).trans e) f0 f1 f3 f4 f5
  have hbd:b≠d:=aM hb2 hH
  obtain ⟨its2,rv2,⟨ob,ho,hc,n,hd2⟩,hz2⟩:=I1.tuple (SqT.of (a:=b) (by rw [aD hbd];exact hb2))
  obtain ⟨u1,u2,rfl,r1,r2⟩:=rv2.two
  show wpAny _ A.in1 (holding [Value.ref b] _ >>=_) _ _ _
  refine QT (wpAny_holding (QT (wpAny_tryCatch ?_)))
  unfold Builtin.Dict.pairItems
  refine QT (wpAny_typeOf (T:="tuple") ⟨ob,ho,hc⟩ ?_)
  rw [if_pos (by decide)]
  refine QT (wpAny_seqItems ho hd2 (QU ?_))
  show wpAny _ A.in1 (holding [u1,u2] (dictSet d u1 u2)) _ _ _
  refine wpAny_holding ?_
  obtain ⟨z,hd,vs,rel,dd⟩:=wS I1.hok (a7:upd H d (.dK (dictOf (rs.take i))) d=_)
  have hl0:=iA (rs.take i)
  rw [List.length_take] at hl0
  have hl1:(dictOf (rs.take i)).length < sizeLine:=by omega
  have hzz:vs.length<=sizeLine:=by rw [<- rel.length];exact z
  have hlen':(putK (dictOf (rs.take i)) rs[i].1 rs[i].2).length<=sizeLine:=by have:=cR (dictOf (rs.take i)) rs[i].1 rs[i].2;omega
  refine wpAny_dictSet_pairs (hsz:=hzz) (iV r1) dd fun h2 dd' hs=>?_
  have he9:∃ q,h2.get? d=some q:=let ⟨q,_,_,hq,_⟩:=dd';⟨q,hq⟩
  have I10:=iX (t':=s.toks+1) (ob:=.dK (putK (dictOf (rs.take i)) rs[i].1 rs[i].2)) I1 (by rw [a7];exact True.intro) hs he9 (rC hlen' hd (rel.put _ r2) dd')
  rw [kN,<- jV rs i hlt] at I10
  refine QU ⟨plainId_quiet F.plain_dict_update_loop _,?_⟩
  exact ih (i+1) _ (by omega) hlt I10 (st'.at fun o q=>(hs.2 it hit).trans q) ⟨by rw [aD hit] at f0 ⊢;exact f0,f1,f2,f3,f4,f5⟩
end
end L2
set_option maxRecDepth 100000
namespace L2
open PySem PySem.Spec PyProof.Rows
section
variable {X:Cx}
def rDictOf:List V->Hp->VK->Prop:=fun xs H Q=>∃ a ys rs,xs=[.ref a]/\H a=some (.tup ys)/\PairsAt H ys rs/\rs.length<=sizeLine/\∀ d,H d=none->Q (.ref d) (upd H d (.dK (dictOf rs)))
theorem dO (hc:X.calm=true):CallR X (.type "dict") rDictOf:=by
 intro pins s σ H xs us Q I r h
 obtain ⟨a,ys,rs,rfl,ha,hp,hl,q⟩:=h
 obtain ⟨u,rfl,ru⟩:=r.one
 cases ru
 refine callType_codes (Q₁:=fun obj s₁=>obj=.ref s.heap.objs.size/\s₁={s with heap:=s.heap.push {cls:=.type "dict",data:=.dict #[]}}) F.kt_called_dict (F.kt_typeCall_dict_1 _) F.entry_dict_init (kt_code_dict_new _ ⟨rfl,rfl⟩) ?_
 rintro obj s₁ ⟨rfl,rfl⟩
 have fr:H s.heap.objs.size=none:=I.hok.fresh (Qy _)
 have hnew:(s.heap.push {cls:=.type "dict",data:=.dict #[]}).DictOf (mixKind X.prog X.w) s.heap.objs.size []:=Heap.DictOf.new s.heap
 have I1:Inv X pins σ (upd H s.heap.objs.size (.dK [])) {s with heap:=s.heap.push {cls:=.type "dict",data:=.dict #[]}}:=I.laid (t':=s.toks) (fun b u e=>Qc _ e) (Qy _)
  ⟨Nat.zero_le _,beq_eq_false_iff_ne.mpr (Ne.symm (Nat.ne_of_lt I.big)),[],.nil,hnew⟩
 have had:a≠s.heap.objs.size:=aM ha fr
 obtain ⟨⟨z,nd⟩,its,rv,o,ho,hcl,n,hd⟩:=(show ObjOk X.prog X.w _ _ a (.tup ys) from I1.hok a _ (by rw [aD had];exact ha))
 refine ⟨hnew.typeIs,F.args_dict_init_2 _ _,?_⟩
 unfold Builtin.«dict.__init__»
 refine QT ?_
 unfold Builtin.Dict.selfAndRest
 refine QT (wpAny_notOrdered_dict hnew.typeIs ?_)
 show wpAny _ _ (pure (s.heap.objs.size,[Value.ref a])) _ _ _
 refine QU ?_
 show wpAny _ _ (Builtin.Dict.updateFrom "dict.__init__" s.heap.objs.size (.ref a) [] .none) _ _ _
 unfold Builtin.Dict.updateFrom
 refine QT (wpAny_typeOf (T:="tuple") ⟨o,ho,hcl⟩ ?_)
 rw [if_pos (by decide)]
 have hh:X.A.handled=none:=I.ok.hd hc
 refine QT (l7 ho hcl hd (nd _ ho) (by simp [hh]) fun h' tk hk=>?_)
 rw [if_pos (by rfl)]
 refine QT (wpAny_rule ?_)
 have I2:Inv X pins σ (upd H s.heap.objs.size (.dK [])) {s with heap:=h',toks:=tk}:=I1.kept (t':=tk) hk
 obtain ⟨its2,rv2,p2,hz2⟩:=I2.tuple (SqT.of (a:=a) (xs:=ys) (by rw [aD had];exact ha))
 refine QT (wpAny_pyIter_tuple (show Heap.IsTuple h' a its2.toArray from p2) ?_)
 have hsz:s.heap.objs.size < h'.objs.size:=by
  obtain ⟨_,_,_,e,_⟩:=hnew
  exact Qz (hk _ _ e)
 refine QU ⟨plainId_quiet F.plain_dict_update_loop _,?_⟩
 refine rT (X:=X) (pins:=pins) (σ:=σ) (by simp [hh]) fr hl hp ha (Nat.ne_of_gt hsz) (fun s' I'=>⟨rfl,.ref s.heap.objs.size,_,I',rfl,q _ fr⟩) rs.length 0 _ rfl (Nat.zero_le _) (I2.kept (t':=tk) fun b o e=>Qc _ e) ⟨_,Qd _ rfl,rfl,rfl⟩ (I2.fpOk (Qy _) (I2.hok.fresh (Qy _)))
end
def Tk (H H':Hp):Prop:=∀ b xs,H b=some (.tup xs)->H' b=some (.tup xs)
theorem Tk.refl {H:Hp}:Tk H H:=fun _ _ h=>h
theorem Tk.trans {H H1 H2:Hp} (a:Tk H H1) (b:Tk H1 H2):Tk H H2:=fun c xs h=>b c xs (a c xs h)
theorem Same.ts {H H':Hp} (s:Same H H'):Tk H H':=fun b xs h=>s b _ h
theorem Tk.upd {H H':Hp} {a:Addr} {o:HO} (s:Tk H H') (h:H' a=none):Tk H (L2.upd H' a o):=fun b xs e=>by rw [aD (aM (s b xs e) h)];exact s b xs e
theorem Tk.set {H H':Hp} {a:Addr} {o o':HO} (s:Tk H H') (h:H' a=some o) (hn:∀ xs,o≠.tup xs):Tk H (L2.upd H' a o'):=fun b xs e=>by
 rw [aD (fun z=>by rw [z] at e;have:=s a xs e;rw [h] at this;cases this;exact hn _ rfl)];exact s b xs e
inductive TDen (H:Hp):V->PyData->Prop
 | str (z:Str):TDen H (.str z) (.str z)
 | tup {a:Addr} {xs:List V} {ds:List PyData}:H a=some (.tup xs)->xs.length=ds.length->(∀ i (h:i < xs.length) (h':i < ds.length),TDen H xs[i] ds[i])->TDen H (.ref a) (.tuple ds)
theorem TDen.ts {H H':Hp} (s:Tk H H') {v:V} {d:PyData} (h:TDen H v d):TDen H' v d:=by
 induction h with
 | str z=>exact .str z
 | tup e hl _ ih=>exact .tup (s _ _ e) hl ih
theorem gB:∀ {ds:List PyData},(∀ d∈ds,d.showable=true)->PyData.showableAll ds=true
 | [],_=>by simp [PyData.showableAll]
 | d::ds,h=>by simp [PyData.showableAll,h d List.mem_cons_self,gB fun x hx=>h x (Qh _ hx)]
theorem hZ:∀ {ds:List PyData},(∀ d∈ds,d.hasDict=false)->PyData.hasDictAll ds=false
 | [],_=>by simp [PyData.hasDictAll]
 | d::ds,h=>by simp [PyData.hasDictAll,h d List.mem_cons_self,hZ fun x hx=>h x (Qh _ hx)]
theorem jT {k:Nat}:∀ {ds:List PyData},(∀ d∈ds,d.depth<=k)->PyData.depthAll ds<=k
 | [],_=>by simp [PyData.depthAll]
 | d::ds,h=>by
  have h1:=h d List.mem_cons_self
  have h2:=jT (ds:=ds) fun x hx=>h x (Qh _ hx)
  simp [PyData.depthAll];omega
theorem wI {n:Nat}:∀ {ts:List Str},(∀ t∈ts,t.length<=n)->(ts.map (·.length)).sum<=ts.length*n
 | [],_=>by simp
 | t::ts,h=>by
  have h1:=h t List.mem_cons_self
  have h2:=wI (ts:=ts) fun x hx=>h x (Qh _ hx)
  rw [List.map_cons,List.sum_cons,List.length_cons,Nat.add_mul];omega
def TB (H:Hp) (v:V) (k n:Nat):Prop:=∃ d,TDen H v d/\d.depth<=k/\d.shown.length<=n/\d.showable=true/\d.hasDict=false
def Wd (z:Str):Prop:=z.length<=20/\∀ c∈z.cps.toList,c < 128
theorem TB.mono {H:Hp} {v:V} {k n k' n':Nat} (h:TB H v k n) (hk:k<=k') (hn:n<=n'):TB H v k' n':=by
 obtain ⟨d,h1,h2,h3,h4,h5⟩:=h
 exact ⟨d,h1,by omega,by omega,h4,h5⟩
theorem TB.ts {H H':Hp} (s:Tk H H') {v:V} {k n:Nat} (h:TB H v k n):TB H' v k n:=by
 obtain ⟨d,h1,h2⟩:=h
 exact ⟨d,h1.ts s,h2⟩
theorem TB.str {H:Hp} {z:Str} (h:Wd z):TB H (.str z) 0 202:=by
 refine ⟨.str z,.str z,by simp [PyData.depth],?_,by simp [PyData.showable],by simp [PyData.hasDict]⟩
 show (PyData.str z).shown.length<=202
 simp only [PyData.shown]
 have:=StrLaws.reprText_len z (fun c hc=>Nat.lt_of_lt_of_le (h.2 c hc) (by decide))
 have:=h.1
 omega
theorem TB.tup {H:Hp} {a:Addr} {xs:List V} {k n:Nat} (e:H a=some (.tup xs)) (h:∀ x∈xs,TB H x k n):TB H (.ref a) (k+1) (xs.length*(n+2)+3):=by
 have hc:∀ i:Fin xs.length,∃ d,TDen H xs[i.val] d/\d.depth<=k/\d.shown.length<=n/\d.showable=true/\d.hasDict=false:=fun i=>h _ (Qj i.isLt)
 obtain ⟨f,hf⟩:=Classical.axiomOfChoice hc
 have hm:∀ d∈List.ofFn f,d.depth<=k/\d.shown.length<=n/\d.showable=true/\d.hasDict=false:=fun d hd=>by
  obtain ⟨i,rfl⟩:=List.mem_ofFn.mp hd
  exact (hf i).2
 refine ⟨.tuple (List.ofFn f),.tup e (by simp) fun i h1 h2=>?_,?_,?_,?_,?_⟩
 ·have:=(hf ⟨i,h1⟩).1
  simpa using this
 ·simp only [PyData.depth]
  have:=jT (fun d hd=>(hm d hd).1)
  omega
 ·simp only [PyData.shown]
  have h1:=tupleText_len_le (PyData.shownAll (List.ofFn f))
  have e2:PyData.shownAll (List.ofFn f)=(List.ofFn f).map PyData.shown:=shownAll_eq_map _
  have h2:((PyData.shownAll (List.ofFn f)).map (·.length)).sum<=(PyData.shownAll (List.ofFn f)).length*n:=wI fun t ht=>by
   rw [e2] at ht
   obtain ⟨d,hd,rfl⟩:=List.mem_map.mp ht
   exact (hm d hd).2.1
  have h3:(PyData.shownAll (List.ofFn f)).length=xs.length:=by rw [e2];simp
  rw [h3] at h1 h2
  rw [Nat.mul_add];omega
 ·simp only [PyData.showable]
  exact gB fun d hd=>(hm d hd).2.2.1
 ·simp only [PyData.hasDict]
  exact hZ fun d hd=>(hm d hd).2.2.2
theorem jZ (rs:List (Key×V)):(rs.map (·.1)).Nodup->∀ i (h:i < rs.length),valV (dictOf rs) rs[i].1=some rs[i].2:=by
 have gen:∀ (rs:List (Key×V)) (kvs:List (Key×V)),(rs.map (·.1)).Nodup->∀ k,valV (rs.foldl (fun kvs r=>putK kvs r.1 r.2) kvs) k=((rs.find? fun r=>decide (r.1=k)).map (·.2)).or (valV kvs k):=by
  intro rs
  induction rs with
  | nil=>intro kvs _ k;simp
  | cons r rs ih=>
   intro kvs hn k
   rw [List.map_cons,List.nodup_cons] at hn
   rw [List.foldl_cons,ih _ hn.2,kP]
   by_cases e:r.1=k
   ·have:rs.find? (fun r=>decide (r.1=k))=none:=by
     rw [List.find?_eq_none]
     intro x hx z
     have z':=Qt z
     exact hn.1 (List.mem_map.mpr ⟨x,hx,by rw [z',e]⟩)
    rw [this,List.find?_cons,if_pos e.symm]
    simp [e]
   ·rw [if_neg (fun z=>e z.symm),List.find?_cons]
    simp [e]
 intro hn i h
 unfold dictOf
 rw [gen rs [] hn]
 have:rs.find? (fun r=>decide (r.1=rs[i].1))=some rs[i]:=by
  rw [List.find?_eq_some_iff_getElem]
  refine ⟨by simp,i,h,rfl,fun j hj=>?_⟩
  have hne:(rs.map (·.1))[j]'(by simp;omega)≠(rs.map (·.1))[i]'(by simpa using h):=fun z=>by
   exact (List.pairwise_iff_getElem.mp hn j i (by simp;omega) (by simpa using h) hj) z
  simpa using hne
 rw [this];rfl
abbrev rowsK (rs:List (Str×V)):List (Key×V):=rs.map fun r=>(Sum.inr r.1,r.2)
def AsV (H:Hp) (v:V) (o:Option Str):Prop:=∃ b,v=.ref b/\((∃ s ys,H b=some (.tup (.str s::ys))/\s≠"as"/\o=none)\/∃ x,H b=some (.tup [.str "as",.str x])/\o=some x)
theorem AsV.ts {H H':Hp} (s:Tk H H') {v:V} {o:Option Str} (h:AsV H v o):AsV H' v o:=by
 obtain ⟨b,e,h⟩:=h
 refine ⟨b,e,?_⟩
 rcases h with ⟨z,ys,h1,h2⟩ | ⟨x,h1,h2⟩
 ·exact .inl ⟨z,ys,s _ _ h1,h2⟩
 ·exact .inr ⟨x,s _ _ h1,h2⟩
structure GoodT (H:Hp) (a:Addr) (xs:List V) (rs:List (Str×V)) (nx:Str->Option Str) (ρ:Str->Nat):Prop where
 at_:H a=some (.tup xs)
 ps:PairsAt H xs (rowsK rs)
 nd:(rs.map (·.1)).Nodup
 len:rs.length<=300
 pos:0 < rs.length
 as:∀ r∈rs,AsV H r.2 (nx r.1)
 inn:∀ r∈rs,∀ y,nx r.1=some y->y∈rs.map (·.1)/\ρ y < ρ r.1
 rk:∀ r∈rs,ρ r.1<=rs.length
 tb:∀ r∈rs,Wd r.1/\TB H r.2 3 8273
theorem PairsAt.ts {H H':Hp} {ys:List V} {rs:List (Key×V)} (p:PairsAt H ys rs) (s:Tk H H'):PairsAt H' ys rs:=⟨p.1,fun i h=>let ⟨b,e1,e2⟩:=p.2 i h;⟨b,e1,s _ _ e2⟩⟩
section
variable {H H':Hp} {a:Addr} {xs:List V} {rs:List (Str×V)} {nx:Str->Option Str} {ρ:Str->Nat}
theorem GoodT.ts (g:GoodT H a xs rs nx ρ) (s:Tk H H'):GoodT H' a xs rs nx ρ:=
 ⟨s _ _ g.at_,g.ps.ts s,g.nd,g.len,g.pos,fun r hr=>(g.as r hr).ts s,g.inn,g.rk,fun r hr=>⟨(g.tb r hr).1,(g.tb r hr).2.ts s⟩⟩
theorem iZ (h:(rs.map (·.1)).Nodup):((rowsK rs).map (·.1)).Nodup:=by
 have e:(rowsK rs).map (·.1)=(rs.map (·.1)).map (Sum.inr:Str->Key):=by simp [rowsK,Qn,QB]
 rw [e]
 exact List.Pairwise.map _ (fun a b hab z=>hab (Sum.inr.inj z)) h
theorem GoodT.get (g:GoodT H a xs rs nx ρ) {x:Str} (hx:x∈rs.map (·.1)):∃ v,(x,v)∈rs/\valV (dictOf (rowsK rs)) (.inr x)=some v:=by
 obtain ⟨r,hr,rfl⟩:=List.mem_map.mp hx
 obtain ⟨i,hi,rfl⟩:=Qi hr
 refine ⟨rs[i].2,hr,?_⟩
 have:=jZ (rowsK rs) (iZ g.nd) i (by simpa using hi)
 simpa using this
def stp (nx:Str->Option Str) (x:Str):Str:=(nx x).getD x
def stps (nx:Str->Option Str):Nat->Str->Str
 | 0,x=>x
 | n+1,x=>stps nx n (stp nx x)
theorem d9 (n:Nat) {x:Str} (h:nx x=none):stps nx n x=x:=by
 induction n with
 | zero=>rfl
 | succ n ih=>rw [stps];rw [show stp nx x=x by simp [stp,h]];exact ih
theorem GoodT.run (g:GoodT H a xs rs nx ρ):∀ (n:Nat) (x:Str),x∈rs.map (·.1)->ρ x<=n->stps nx n x∈rs.map (·.1)/\nx (stps nx n x)=none/\stps nx (n+1) x=stps nx n x:=by
 intro n
 induction n with
 | zero=>
  intro x hx hr
  obtain ⟨r,hr',rfl⟩:=List.mem_map.mp hx
  cases e:nx r.1 with
  | none=>exact ⟨hx,e,d9 1 e⟩
  | some y=>have:=(g.inn r hr' y e).2;omega
 | succ n ih=>
  intro x hx hr
  obtain ⟨r,hr',rfl⟩:=List.mem_map.mp hx
  cases e:nx r.1 with
  | none=>
   rw [d9 _ e,d9 _ e]
   exact ⟨hx,e,rfl⟩
  | some y=>
   have e2:stp nx r.1=y:=by simp [stp,e]
   obtain ⟨h1,h2⟩:=g.inn r hr' y e
   have:=ih y h1 (by omega)
   rw [stps,stps,e2]
   exact this
def rowEnd (nx:Str->Option Str) (n:Nat) (x:Str):Str:=stps nx n x
theorem GoodT.endIn (g:GoodT H a xs rs nx ρ) {x:Str} (hx:x∈rs.map (·.1)):rowEnd nx rs.length x∈rs.map (·.1)/\nx (rowEnd nx rs.length x)=none:=by
 obtain ⟨r,hr,rfl⟩:=List.mem_map.mp hx
 obtain ⟨h1,h2,_⟩:=g.run rs.length r.1 hx (g.rk r hr)
 exact ⟨h1,h2⟩
theorem GoodT.endStep (g:GoodT H a xs rs nx ρ) {x y:Str} (hx:x∈rs.map (·.1)) (e:nx x=some y):rowEnd nx rs.length y=rowEnd nx rs.length x:=by
 obtain ⟨r,hr,rfl⟩:=List.mem_map.mp hx
 obtain ⟨h1,h2,h3⟩:=g.run rs.length r.1 hx (g.rk r hr)
 have e2:stp nx r.1=y:=by simp [stp,e]
 rw [stps,e2] at h3
 exact h3
end
theorem g7 (xs:List V) (k:Nat):cutV xs (some (k:Int)) none=xs.drop k:=by
 unfold cutV
 rw [HT.j0,HT.oP]
 by_cases h:k<=xs.length
 ·rw [Nat.min_eq_left h]
  exact List.take_of_length_le (by simp)
 ·rw [Nat.min_eq_right (by omega)]
  simp [List.drop_eq_nil_of_le (show xs.length<=k by omega)]
theorem oH (xs:List V) (k:Nat):cutV xs none (some (k:Int))=xs.take k:=by
 unfold cutV
 rw [HT.j0,HT.oP]
 simp
theorem vE {α:Type} {l:List α} (h:l.Nodup) {i j:Nat} {x:α} (hi:l[i]? =some x) (hj:l[j]? =some x):i=j:=by
 obtain ⟨a,e1⟩:=List.getElem?_eq_some_iff.mp hi
 obtain ⟨b,e2⟩:=List.getElem?_eq_some_iff.mp hj
 rcases Nat.lt_trichotomy i j with z | z | z
 ·exact ((List.pairwise_iff_getElem.mp h i j a b z) (e1.trans e2.symm)).elim
 ·exact z
 ·exact ((List.pairwise_iff_getElem.mp h j i b a z) (e2.trans e1.symm)).elim
theorem mH {α:Type} [BEq α] [LawfulBEq α] {l:List α} (h:l.Nodup) {i:Nat} {x:α} (hi:l[i]? =some x):l.idxOf x=i:=by
 have hm:x∈l:=QC hi
 have h1:l.idxOf x < l.length:=List.idxOf_lt_length_of_mem hm
 have h2:l[l.idxOf x]? =some x:=by rw [Qa h1,List.getElem_idxOf]
 exact vE h h2 hi
open Classical in
theorem fE {z:Str} (h1:z.length<=20) (h2:∀ c∈z.cps.toList,c < 128):Wd z:=⟨h1,h2⟩
end L2
set_option maxRecDepth 100000
namespace L2
open PySem PySem.Spec PyProof.Rows
section
variable {α β:Type} {R:α->β->Prop}
theorem lB:∀ {xs xs':List α} {ys ys':List β},Paired R xs ys->Paired R xs' ys'->Paired R (xs++xs') (ys++ys')
 | _,_,_,_,.nil,h=>h
 | _,_,_,_,.cons a r,h=>.cons a (lB r h)
theorem wD:∀ {xs:List α} {ys:List β},xs.length=ys.length->(∀ i (h:i < xs.length) (h':i < ys.length),R xs[i] ys[i])->Paired R xs ys
 | [],[],_,_=>.nil
 | x::xs,y::ys,hl,h=>.cons (h 0 (by simp) (by simp)) (wD (by simpa using hl) fun i a b=>h (i+1) (by simpa using a) (by simpa using b))
theorem tM:∀ {xs:List α} {ys:List β},Paired R xs ys->xs.length=ys.length/\∀ i (h:i < xs.length) (h':i < ys.length),R xs[i] ys[i]
 | _,_,.nil=>⟨rfl,fun i h=>absurd h (by simp)⟩
 | _,_,.cons a r=>by
  obtain ⟨h1,h2⟩:=tM r
  refine ⟨by simp [h1],fun i h h'=>?_⟩
  cases i with
  | zero=>exact a
  | succ i=>exact h2 i (by simpa using h) (by simpa using h')
end
def PR (H:Hp) (x:V) (r:Key×V):Prop:=∃ b,x=.ref b/\H b=some (.tup [kV r.1,r.2])
theorem fC {H:Hp} {xs:List V} {rs:List (Key×V)}:PairsAt H xs rs↔Paired (PR H) xs rs:=by
 constructor
 ·rintro ⟨hl,h⟩
  refine wD hl fun i h1 h2=>?_
  obtain ⟨b,e1,e2⟩:=h i h2
  rw [Qa h1] at e1
  exact ⟨b,QD e1,e2⟩
 ·intro h
  obtain ⟨hl,h'⟩:=tM h
  refine ⟨hl,fun i h2=>?_⟩
  obtain ⟨b,e1,e2⟩:=h' i (by omega) h2
  exact ⟨b,by rw [Qa (by omega),e1],e2⟩
section
variable {H:Hp} {xs:List V} {rs:List (Str×V)}
theorem nY (a b:List (Str×V)):rowsK (a++b)=rowsK a++rowsK b:=by simp [rowsK]
theorem jG:PairsAt H [] (rowsK []):=fC.mpr .nil
theorem iH (h:PairsAt H xs (rowsK rs)) {b:Addr} {n:Str} {v:V} (e:H b=some (.tup [.str n,v])):PairsAt H (xs++[.ref b]) (rowsK (rs++[(n,v)])):=by
 rw [nY]
 exact fC.mpr (lB (fC.mp h) (.cons ⟨b,rfl,e⟩ .nil))
end
section
variable {X:Cx} {pins:List (Addr×Obj)} {σ:St} {H:Hp} {s:Shared}
end
section
variable {X:Cx} {e1 e2:Expr} {p pos:Pos} {k:Nat} {g1 g2:TG}
end
def KD (w:World) (K:Q0) (a:Addr) (kvs:List (Key×V)):Prop:=∀ P:Program,∃ (o:Obj) (es:Array DictEntry) (ep:Nat) (vs:List (Key×Value)),K.lookup a=some o/\(a==sysModules)=false/\o.ExactDict/\o.data=.dict es ep/\KeysOf (mixKind P w) es/\Pairs (mixKind P w) es.toList vs/\(vs.map (·.1)).Nodup/\KV kvs vs
section
variable {X:Cx} {pins:List (Addr×Obj)} {σ:St} {H:Hp} {s:Shared} {a:Addr} {kvs:List (Key×V)}
theorem KD.of (h:KD X.w X.K a kvs) (I:Inv X pins σ H s):(a==sysModules)=false/\∃ vs,KV kvs vs/\s.heap.DictOf (mixKind X.prog X.w) a vs:=by
 obtain ⟨o,es,ep,vs,h1,h2,h3,h4,h5,h6,h7,h8⟩:=h X.prog
 exact ⟨h2,vs,h8,o,es,ep,I.kIn a o h1,h3,h4,h5,h6,h7⟩
variable {x:Str} {e:Expr} {pos p:Pos} {te:TE}
def tKIn (kvs:List (Key×V)) (te:TE):TE:=fun σ H Q=>te σ H fun y H1=>∃ k,y=kV k/\Q (.bl (valV kvs k).isSome) H1
theorem a1T {w:World} {K:Q0} (hx:∃ a,X.mg x=some (.ref a)/\KD w K a kvs) (he:PE X e te) (hw:X.w=w) (hK:X.K=K) (hg:Gl X x) (hd:(x==("__debug__":Str))=false):PC X .In e (.Name x p) (tKIn kvs te):=by
 subst hw hK
 obtain ⟨a,hm,kd⟩:=hx
 intro pins s σ H Q I h
 refine thn (he pins s σ H _ I h) ?_
 rintro iv s1 ⟨y,H1,I1,ry,k,ey,q1⟩
 subst ey
 refine thn (kO (v:=.ref a) hg hm rfl hd pins s1 σ H1 (fun v H'=>v=.ref a/\H'=H1) I1 ⟨rfl,rfl⟩) fun u s2 ⟨z,H2,I2,rz,ez,eH⟩=>?_
 subst ez eH
 cases rz
 obtain ⟨h1,vs,rel,dd⟩:=kd.of I2
 refine wpAny_in_of (iV ry) h1 dd.mapOf ?_
 rw [<- (rel.val k).isSome_eq]
 exact ⟨.bl _,_,I2.tok _,rfl,q1⟩
theorem a2O {w:World} {K:Q0} (hx:∃ a,X.mg x=some (.ref a)/\KD w K a kvs) (he:SE X e te) (hw:X.w=w:=by rfl) (hK:X.K=K:=by rfl) (hg:Gl X x:=by rfl) (hd:(x==("__debug__":Str))=false:=by decide):ST X (.Compare e [.In] [.Name x p] pos) (tB (tKIn kvs te)):=⟨a1s (a1T hx he.h hw hK hg hd) rfl⟩
def tKGet (kvs:List (Key×V)) (te:TE):TE:=fun σ H Q=>te σ H fun y H1=>∃ k v,y=kV k/\valV kvs k=some v/\Q v H1
theorem a1m {w:World} {K:Q0} (hx:∃ a,X.mg x=some (.ref a)/\KD w K a kvs) (he:SE X e te) (hs:NoSl e) (hw:X.w=w:=by rfl) (hK:X.K=K:=by rfl) (hg:Gl X x:=by rfl) (hd:(x==("__debug__":Str))=false:=by decide):SE X (.Subscript (.Name x p) e pos) (tKGet kvs te):=by
 subst hw hK
 obtain ⟨a,hm,kd⟩:=hx
 constructor
 intro pins s σ H Q I h
 refine tQ PySem.F.slot_dict_getitem.lookup hs (thn (kO (v:=.ref a) hg hm rfl hd pins s σ H (fun v H'=>v=.ref a/\H'=H) I ⟨rfl,rfl⟩) fun u s2 ⟨z,H2,I2,rz,ez,eH⟩=>?_)
 subst ez eH
 cases rz
 refine thn (he.h pins s2 σ _ _ I2 h) ?_
 rintro iv s3 ⟨y,H3,I3,ry,k,v,ey,ev,q⟩
 subst ey
 obtain ⟨h1,vs,rel,dd⟩:=kd.of I3
 obtain ⟨w',hw,rw'⟩:=RelO.some_of (v:=v) (o:=valueAt vs k) (by rw [<- ev];exact rel.val k)
 exact ⟨dd.typeIs,wpAny_getItem_of (iV ry) dd.mapOf hw ⟨v,_,I3.tok _,rw',q⟩⟩
end
def keyAt (kvs:List (Key×V)) (i:Nat):V:=((kvs[i]?).map fun kv=>kV kv.1).getD .non
def Itk (a:Addr) (o:Obj) (kvs:List (Key×V)):It:=⟨fun i H=>H a=some (.frz o (.dK kvs))/\i < kvs.length,fun i H x H'=>H'=H/\x=keyAt kvs i,fun i H=>H a=some (.frz o (.dK kvs))/\kvs.length=i⟩
theorem xA {a:Addr} {o:Obj} (kvs:List (Key×V)):ItN (Itk a o kvs) (fun H=>H a=some (.frz o (.dK kvs))) kvs.length (keyAt kvs):=fun H ok=>⟨fun i hi=>⟨⟨ok,hi⟩,fun x H' h=>h⟩,ok,rfl⟩
theorem a1l {kvs:List (Key×V)} {vs:List (Key×Value)} (r:KV kvs vs):∀ {i:Nat} {p:Key×V},kvs[i]? =some p->∃ q,vs[i]? =some q/\q.1=p.1:=by
 intro i
 induction r generalizing i with
 | nil=>intro p h;simp at h
 | cons a t ih=>
  intro p h
  cases i with
  | zero=>simp at h;subst h;exact ⟨_,by simp,a.1.symm⟩
  | succ i=>simp at h;simpa using ih h
theorem pN {P:Program} {w:World} {k:Key} {u:Value} (h:(mixKind P w).is k u=true):RelV (kV k) u:=by
 rcases bI h with ⟨i,t,rfl,rfl⟩ | ⟨x,t,rfl,rfl⟩
 ·exact ⟨t,rfl⟩
 ·exact ⟨t,rfl⟩
theorem KV.len {kvs:List (Key×V)} {vs:List (Key×Value)} (r:KV kvs vs):kvs.length=vs.length:=Paired.length r
theorem vG {P:Program} {w:World} {K:Q0} {tg:Expr} {a it:Addr} {o:Obj} {kvs:List (Key×V)} {ep:Nat} (hep:∃ es,o.data=.dict es ep):Turn P w K tg (Itk a o kvs) [it] it (fun i h=>h.IsKeyIter it a i kvs.length ep) where
 mem:=by simp
 obj:=fun i h st b hb=>by
  have e:b=it:=by simpa using hb
  subst e
  obtain ⟨o,e,c,d⟩:=st
  exact ⟨o,e,fun v z=>by rw [d] at z;cases z⟩
 keep:=fun i h h' st k=>st.at fun o e=>k it (by simp) o e
 item:=by
  intro X hP hw hK hc i pins s σ H E I hf st hg
  subst hP hw hK
  obtain ⟨hq,hi⟩:=hg
  obtain ⟨e,z,hd,vs,rel,ob,es,ep',h1,h2,h3,h4⟩:=(show ObjOk X.prog X.w H s.heap a (.frz o (.dK kvs)) from I.hok a _ hq)
  obtain ⟨es',he'⟩:=hep
  rw [e] at h1;cases h1
  rw [he'] at h3;injection h3 with h3a h3b
  subst h3a h3b
  obtain ⟨q,hq1,hq2⟩:=a1l rel (Qa hi)
  have hl:=rel.len
  obtain ⟨f0,f1,f2,f3,f4,f5⟩:=hf it (by simp)
  obtain ⟨qk,qv⟩:=q
  refine wpAny_pyNext_dict_item (knd:=mixKind X.prog X.w) (kvs:=vs) (ep:=ep) (by rw [<- hl];exact st) ⟨o,es',e,h2,he',h4⟩ hq1 fun key h' hk st' sb=>?_
  have I1:Inv X pins σ H {s with heap:=h'}:=I.turned (t':=s.toks) (fun b o hb e=>(sb.2 b hb).trans e) f0 f1 f3 f4 f5
  have st2:h'.IsKeyIter it a (i+1) kvs.length ep:=by rw [hl];exact st'
  obtain ⟨o3,e3,c3,d3⟩:=id st2
  refine ⟨key,rfl,mJ (s:={s with heap:=h'}) e3 c3 d3 (by decide) ⟨keyAt kvs i,H,I1,?_,⟨rfl,rfl⟩,st2,fun b hb=>(hf b hb).1⟩⟩
  unfold keyAt
  rw [Qa hi]
  show RelV (kV kvs[i].1) key
  have hqk:qk=kvs[i].1:=hq2
  rw [<- hqk]
  exact pN hk
 done:=by
  intro X hP hw hK hc i pins s σ H E I hf st hg
  subst hP hw hK
  obtain ⟨hq,hi⟩:=hg
  obtain ⟨e,z,hd,vs,rel,ob,es,ep',h1,h2,h3,h4⟩:=(show ObjOk X.prog X.w H s.heap a (.frz o (.dK kvs)) from I.hok a _ hq)
  obtain ⟨es',he'⟩:=hep
  rw [e] at h1;cases h1
  rw [he'] at h3;injection h3 with h3a h3b
  subst h3a h3b
  have hl:=rel.len
  obtain ⟨f0,f1,f2,f3,f4,f5⟩:=hf it (by simp)
  exact wpAny_pyNext_dict_end (knd:=mixKind X.prog X.w) (kvs:=vs) (ep:=ep) (I.ok.hd hc) (by rw [<- hl];exact st) ⟨o,es',e,h2,he',h4⟩ (by simp;omega) fun h' eb=>⟨rfl,I.turned (t':=s.toks) (fun b o hb e=>eb b o hb e) f0 f1 f3 f4 f5⟩
 self:=fun _ _ _ _ _ st h=>wpAny_pyIter_keyiter st h
theorem qF {H:Hp} {a:Addr} {o:HO} (h:H a=some o):upd H a o=H:=by
 funext b
 unfold upd
 by_cases e:b=a
 ·rw [if_pos e,e,h]
 ·rw [if_neg e]
section
variable {X:Cx}
theorem Inv.freeze {pins:List (Addr×Obj)} {σ:St} {H:Hp} {s:Shared} {a:Addr} {kvs:List (Key×V)} (I:Inv X pins σ H s) (h:Rd H a (.dK kvs)):∃ o es ep,o.data=.dict es ep/\Inv X pins σ (upd H a (.frz o (.dK kvs))) s/\s.heap.get? a=some o:=by
 rcases h with h | ⟨o,h⟩
 ·have ok:=(show ObjOk X.prog X.w H s.heap a (.dK kvs) from I.hok a _ h)
  obtain ⟨z,hd,vs,rel,o,es,ep,h1,h2,h3,h4⟩:=ok
  have I2:=I.write (x:=a) (e:=a) (h':=s.heap) (t':=s.toks) (o:=.frz o (.dK kvs)) (by rw [h];exact True.intro) (.inl rfl) (fun b u _ q=>q) ⟨o,h1⟩ ⟨h1,z,hd,vs,rel,o,es,ep,h1,h2,h3,h4⟩
  exact ⟨o,es,ep,h3,I2,h1⟩
 ·obtain ⟨e,z,hd,vs,rel,ob,es,ep,h1,h2,h3,h4⟩:=(show ObjOk X.prog X.w H s.heap a (.frz o (.dK kvs)) from I.hok a _ h)
  rw [e] at h1;cases h1
  exact ⟨o,es,ep,h3,by rw [qF h];exact I,e⟩
def iKeys (te:TE):TI:=fun σ H R=>te σ H fun x H1=>∃ a kvs,x=.ref a/\Rd H1 a (.dK kvs)/\∀ o,R (Itk a o kvs) (upd H1 a (.frz o (.dK kvs)))
theorem z9 {tg e:Expr} {te:TE} (he:SE X e te):SI X tg e (iKeys te):=by
 constructor
 intro pins s σ H R I h
 refine thn (he.h pins s σ H _ I h) ?_
 rintro v s1 ⟨x,H1,I1,r1,a,kvs,ex,hr,q⟩
 subst ex
 cases r1
 obtain ⟨o,es,ep,hd,I2,ho⟩:=I1.freeze hr
 obtain ⟨e,z,hdm,vs,rel,ob,es',ep',h1,h2,h3,h4⟩:=(show ObjOk X.prog X.w _ s1.heap a (.frz o (.dK kvs)) from I2.hok a _ a7)
 rw [e] at h1;cases h1
 rw [hd] at h3;injection h3 with h3a h3b
 subst h3a h3b
 refine wpAny_pyIter_dict (knd:=mixKind X.prog X.w) (kvs:=vs) (ep:=ep) hdm ⟨o,es,e,h2,hd,h4⟩ ?_
 have hl:=rel.len
 refine ⟨s1.heap.objs.size,[s1.heap.objs.size],_,_,_,rfl,I2.kept (t':=s1.toks) fun b o e=>Qc _ e,vG (kvs:=kvs) (a:=a) (o:=o) ⟨es,hd⟩,by rw [hl];exact ⟨_,Qd _ rfl,rfl,rfl⟩,fun b hb=>?_,q o⟩
 have e:b=s1.heap.objs.size:=by simpa using hb
 subst e
 exact I2.fpOk (Qy _) (I2.hok.fresh (Qy _))
def rDIn (n:Bool):R2:=fun y x H Q=>∃ a o,x=.ref a/\DGet H a y o/\Q (.bl (n^^o.isSome)) H
theorem qY (hu:X.A.units+1 < cLine):OpR X (compareOp .In) (rDIn false):=by
 intro pins s σ H x y v u Q I rx ry h
 obtain ⟨a,o,rfl,g,q⟩:=h
 cases ry
 exact a2Y hu I g rx fun s' I'=>⟨.bl o.isSome,H,I',rfl,by simpa using q⟩
theorem fF (hu:X.A.units+1 < cLine):OpR X (compareOp .NotIn) (rDIn true):=by
 intro pins s σ H x y v u Q I rx ry h
 obtain ⟨a,o,rfl,g,q⟩:=h
 cases ry
 exact zU hu I g rx fun s' I'=>⟨.bl (!o.isSome),H,I',rfl,by simpa using q⟩
end
theorem DGet.rd {H:Hp} {a:Addr} {kvs:List (Key×V)} {k:Key} (e:Rd H a (.dK kvs)):DGet H a (kV k) (valV kvs k):=.inl ⟨kvs,k,e,rfl,rfl⟩
section
variable {X:Cx} {tg a b c:Expr} {ta:TA} {p pos:Pos}
end
inductive Dt where
 | str (z:Str)
 | tup (ds:List Dt)
 | oth
inductive DD (H:Hp):V->Dt->Prop
 | str {z:Str} (h:z.length<=100000):DD H (.str z) (.str z)
 | tup {a:Addr} {xs:List V} {ds:List Dt}:H a=some (.tup xs)->xs.length=ds.length->xs.length<=1000->(∀ i (h:i < xs.length) (h':i < ds.length),DD H xs[i] ds[i])->DD H (.ref a) (.tup ds)
 | non:DD H .non .oth
 | bl (b:Bool):DD H (.bl b) .oth
 | int (i:Int):DD H (.int i) .oth
 | lst {a:Addr} {xs:List V}:H a=some (.lst xs)->DD H (.ref a) .oth
 | dct {a:Addr} {kvs:List (Key×V)}:H a=some (.dK kvs)->DD H (.ref a) .oth
theorem DD.same {H H':Hp} (s:Same H H') {v:V} {d:Dt} (h:DD H v d):DD H' v d:=by
 induction h with
 | str h=>exact .str h
 | tup e hl hn _ ih=>exact .tup (s _ _ e) hl hn ih
 | non=>exact .non
 | bl b=>exact .bl b
 | int i=>exact .int i
 | lst e=>exact .lst (s _ _ e)
 | dct e=>exact .dct (s _ _ e)
def nameD:Dt->Bool | .str z=>isName z | _=>false
def pairD:Dt->Bool | .tup [a,b]=>nameD a&&nameD b | _=>false
def fstS:Dt->Str | .tup (.str z::_)=>z | _=>""
def strLt (a b:Str):Bool:=decide (a.cps.toList < b.cps.toList)
def rising:List Str->Bool
 | a::b::r=>strLt a b&&rising (b::r)
 | _=>true
def pairsD:Dt->Bool | .tup ps=>ps.all pairD&&rising (ps.map fstS) | _=>false
def worded (s:Str):Bool:=s=="box"||s=="pick"
def behindN (s:Str):Option Nat:=if s=="all" then some 0 else if s=="none" then some 0 else if s=="way" then some 2 else if s=="as" then some 1 else none
def headD:Dt->Bool
 | .tup (.str s::rest)=>if worded s then (match rest with | [p]=>pairsD p | _=>false) else match behindN s with | some n=>decide (rest.length=n)&&rest.all nameD | none=>false
 | _=>false
theorem FnK.imp {P:Program} {w:World} {K:Q0} {mg:Str->Option Value} {base:Heap} {k:Nat} {x:Str} {ps:List Str} {sp sp':Sp} (F:FnK P w K mg base k x ps sp) (h:∀ vs H Q E,sp' vs H Q E->sp vs H Q E):FnK P w K mg base k x ps sp':=by
 obtain ⟨f,fd,G,r⟩:=F
 exact ⟨f,fd,G.imp h,r⟩
theorem fS (rs:List (Key×V)):(rs.map (·.1)).Nodup->dictOf rs=rs:=by
 have gen:∀ (rs kvs:List (Key×V)),(rs.map (·.1)).Nodup->(∀ r∈rs,valV kvs r.1=none)->rs.foldl (fun kvs r=>putK kvs r.1 r.2) kvs=kvs++rs:=by
  intro rs
  induction rs with
  | nil=>intro kvs _ _;simp
  | cons r rs ih=>
   intro kvs hn hk
   rw [List.map_cons,List.nodup_cons] at hn
   rw [List.foldl_cons,cP _ (hk r List.mem_cons_self),ih _ hn.2 fun x hx=>?_]
   ·simp
   ·rw [j4 _ _ _ _ (hk r List.mem_cons_self),if_neg (fun e=>hn.1 (List.mem_map.mpr ⟨x,hx,e⟩))]
    exact hk x (Qh _ hx)
 intro hn
 have:=gen rs [] hn (fun _ _=>rfl)
 simpa [dictOf] using this
theorem uL {H:Hp} {v:V} {d:Dt} (h:DD H v d) (hn:nameD d=true):∃ z,v=.str z/\d=.str z/\isName z=true:=by
 cases h with
 | str _=>exact ⟨_,rfl,rfl,hn⟩
 | tup _ _ _ _=>exact Bool.noConfusion hn
 | non=>exact Bool.noConfusion hn
 | bl _=>exact Bool.noConfusion hn
 | int _=>exact Bool.noConfusion hn
 | lst _=>exact Bool.noConfusion hn
 | dct _=>exact Bool.noConfusion hn
def sndD:Dt->Dt | .tup (_::h::_)=>h | _=>.oth
def asD:Dt->Option Str | .tup [.str s,.str x]=>if s=="as" then some x else none | _=>none
def rowsD (ds:List Dt):List (Str×Dt):=ds.map fun d=>(fstS d,sndD d)
def nxD (rs:List (Str×Dt)) (n:Str):Option Str:=(rs.find? fun r=>decide (r.1=n)).bind fun r=>asD r.2
theorem Rd.same {H H':Hp} {a:Addr} {u:HO} (r:Rd H a u) (s:Same H H'):Rd H' a u:=by
 rcases r with r | ⟨o,r⟩
 ·exact .inl (s _ _ r)
 ·exact .inr ⟨o,s _ _ r⟩
theorem xV (z:Str) (ds:List Dt):headD (.tup (.str z::ds))=if worded z then (match ds with | [p]=>pairsD p | _=>false) else match behindN z with | some n=>decide (ds.length=n)&&ds.all nameD | none=>false:=rfl
theorem yN {H:Hp} {v:V} {d:Dt} (h:DD H v d) (hh:headD d=true):∃ a z xs ds,v=.ref a/\d=.tup (.str z::ds)/\H a=some (.tup (.str z::xs))/\xs.length=ds.length/\xs.length < 1000/\(∀ i (h:i < xs.length) (h':i < ds.length),DD H xs[i] ds[i])/\
  ((worded z=true/\∃ p,ds=[p]/\pairsD p=true)\/(worded z=false/\∃ n,behindN z=some n/\ds.length=n/\ds.all nameD=true)):=by
 cases h with
 | @tup a xs ds e hl hn hds=>
  match ds,hl,hh,hds with
  | .str z::ds,hl,hh,hds=>
   match xs,hl,e,hn,hds with
   | x0::xs,hl,e,hn,hds=>
    have h0:=hds 0 (by simp) (by simp)
    simp only [List.getElem_cons_zero] at h0
    cases h0
    refine ⟨a,z,xs,ds,rfl,rfl,e,by simpa using hl,by simp at hn;omega,fun i h h'=>hds (i+1) (by simpa using h) (by simpa using h'),?_⟩
    rw [xV] at hh
    cases hw:worded z with
    | true=>
     rw [hw] at hh
     simp only [if_true] at hh
     match ds,hh with
     | [p],hh=>exact .inl ⟨rfl,p,rfl,hh⟩
    | false=>
     rw [hw] at hh
     simp only [Bool.false_eq_true,if_false] at hh
     cases hb:behindN z with
     | none=>rw [hb] at hh;exact Bool.noConfusion hh
     | some n=>
      rw [hb] at hh
      simp only [Bool.and_eq_true,decide_eq_true_eq] at hh
      exact .inr ⟨rfl,n,rfl,hh.1,hh.2⟩
  | .tup _::_,_,hh,_=>exact Bool.noConfusion hh
  | .oth::_,_,hh,_=>exact Bool.noConfusion hh
  | [],_,hh,_=>exact Bool.noConfusion hh
 | str _=>exact Bool.noConfusion hh
 | non=>exact Bool.noConfusion hh
 | bl _=>exact Bool.noConfusion hh
 | int _=>exact Bool.noConfusion hh
 | lst _=>exact Bool.noConfusion hh
 | dct _=>exact Bool.noConfusion hh
theorem vN:worded "as"=false:=by decide
theorem a16 {H:Hp} {v:V} {d:Dt} (h:DD H v d) (hh:headD d=true):AsV H v (asD d):=by
 obtain ⟨a,z,xs,ds,rfl,rfl,e,hl,hn,hds,hc⟩:=yN h hh
 refine ⟨a,rfl,?_⟩
 by_cases hz:z="as"
 ·subst hz
  rcases hc with ⟨hw,_⟩ | ⟨_,n,hb,hdl,hda⟩
  ·rw [vN] at hw;cases hw
  ·have hn1:n=1:=by
    have:behindN "as"=some 1:=by decide
    rw [this] at hb;cases hb;rfl
   subst hn1
   match ds,hdl,hl,hda,hds with
   | [d1],_,hl,hda,hds=>
    match xs,hl,e,hds with
    | [x1],_,e,hds=>
     simp only [List.all_cons,List.all_nil,Bool.and_true] at hda
     obtain ⟨y,q1,q2,_⟩:=uL (hds 0 (by simp) (by simp)) hda
     simp only [List.getElem_cons_zero] at q1
     subst q1 q2
     exact .inr ⟨y,e,by simp [asD]⟩
 ·refine .inl ⟨z,xs,e,hz,?_⟩
  have hz':(z==Str.ofString "as")=false:=by simpa using hz
  unfold asD
  split
  ·next s x heq=>
   injection heq with heq
   injection heq with h1 _
   injection h1 with h1
   rw [<- h1,if_neg (by rw [hz'];exact Bool.false_ne_true)]
  ·rfl
structure RowsDt (H:Hp) (xs:List V) (ds:List Dt) (rs:List (Str×V)) (hs:List Dt):Prop where
 l1:rs.length=ds.length
 l2:hs.length=ds.length
 ps:PairsAt H xs (rowsK rs)
 dd:∀ i (h:i < ds.length) (h1:i < rs.length) (h2:i < hs.length),ds[i]=.tup [.str rs[i].1,hs[i]]/\DD H rs[i].2 hs[i]/\headD hs[i]=true/\isName rs[i].1=true
section
variable {H:Hp} {xs:List V} {ds:List Dt} {rs:List (Str×V)} {hs:List Dt}
theorem RowsDt.rows (R:RowsDt H xs ds rs hs) {i:Nat} (h:i < ds.length) (h1:i < rs.length) (h2:i < hs.length):(rowsD ds)[i]? =some (rs[i].1,hs[i]):=by
 unfold rowsD
 rw [Qq,Qa h,(R.dd i h h1 h2).1];rfl
theorem k9 (n:Str) (h:n ∉ rs.map (·.1)):valV (rowsK rs) (.inr n)=none:=by
 unfold valV
 rw [List.find?_eq_none.mpr]
 ·rfl
 ·intro p hp e
  obtain ⟨r,hr,rfl⟩:=List.mem_map.mp hp
  exact h (List.mem_map.mpr ⟨r,hr,Sum.inr.inj (Qt e)⟩)
theorem m6 (nd:(rs.map (·.1)).Nodup) {i:Nat} (h:i < rs.length):valV (rowsK rs) (.inr rs[i].1)=some rs[i].2:=by
 have:=jZ (rowsK rs) (iZ nd) i (by simpa using h)
 rw [fS _ (iZ nd)] at this
 simpa using this
theorem RowsDt.nx (R:RowsDt H xs ds rs hs) (nd:(rs.map (·.1)).Nodup) {i:Nat} (h1:i < rs.length) (h2:i < hs.length):nxD (rowsD ds) rs[i].1=asD hs[i]:=by
 have h:i < ds.length:=by have:=R.l1;omega
 unfold nxD
 have:(rowsD ds).find? (fun r=>decide (r.1=rs[i].1))=some (rs[i].1,hs[i]):=by
  rw [List.find?_eq_some_iff_getElem]
  have hl:(rowsD ds).length=ds.length:=by unfold rowsD;simp
  refine ⟨by simp,i,by omega,?_,fun j hj=>?_⟩
  ·have:=R.rows h h1 h2
   rw [Qa (by omega)] at this
   exact QD this
  ·have hj1:j < rs.length:=by omega
   have:=R.rows (i:=j) (by omega) hj1 (by omega)
   rw [Qa (by omega)] at this
   rw [QD this]
   have hne:(rs.map (·.1))[j]'(by simp;omega)≠(rs.map (·.1))[i]'(by simpa using h1):=fun z=>(List.pairwise_iff_getElem.mp nd j i (by simp;omega) (by simpa using h1) hj) z
   simpa using hne
 rw [this];rfl
theorem RowsDt.has (R:RowsDt H xs ds rs hs) (nd:(rs.map (·.1)).Nodup) (n:Str) (v:V) (hv:valV (rowsK rs) (.inr n)=some v):AsV H v (nxD (rowsD ds) n):=by
 by_cases h:n∈rs.map (·.1)
 ·obtain ⟨r,hr,rfl⟩:=List.mem_map.mp h
  obtain ⟨i,hi,rfl⟩:=Qi hr
  rw [m6 nd hi] at hv
  cases hv
  have h2:i < hs.length:=by have:=R.l1;have:=R.l2;omega
  rw [R.nx nd hi h2]
  obtain ⟨_,q1,q2,_⟩:=R.dd i (by have:=R.l1;omega) hi h2
  exact a16 q1 q2
 ·rw [k9 n h] at hv;cases hv
end
inductive TX (H:Hp):V->Dt->Prop
 | str {z:Str} (h:z.length<=100000):TX H (.str z) (.str z)
 | tup {a:Addr} {xs:List V} {ds:List Dt}:H a=some (.tup xs)->xs.length=ds.length->xs.length<=1000->(∀ i (h:i < xs.length) (h':i < ds.length),TX H xs[i] ds[i])->TX H (.ref a) (.tup ds)
theorem TX.dd {H:Hp} {v:V} {d:Dt} (h:TX H v d):DD H v d:=by
 induction h with
 | str h=>exact .str h
 | tup e hl hn _ ih=>exact .tup e hl hn ih
theorem zL {H:Hp} {a:Addr} {x:V} {d:Dt} (e:H a=some (.tup [x])) (h:TX H x d):TX H (.ref a) (.tup [d]):=.tup e rfl (by simp) fun i h1 h2=>by
 match i,h1 with
 | 0,_=>exact h
theorem nR {H:Hp} {a:Addr} {x y:V} {d d':Dt} (e:H a=some (.tup [x,y])) (h:TX H x d) (h':TX H y d'):TX H (.ref a) (.tup [d,d']):=.tup e rfl (by simp) fun i h1 h2=>by
 match i,h1 with
 | 0,_=>exact h
 | 1,_=>exact h'
theorem yW {H:Hp} {a:Addr} {x y z:V} {d d' d'':Dt} (e:H a=some (.tup [x,y,z])) (h:TX H x d) (h':TX H y d') (h'':TX H z d''):TX H (.ref a) (.tup [d,d',d'']):=.tup e rfl (by simp) fun i h1 h2=>by
 match i,h1 with
 | 0,_=>exact h
 | 1,_=>exact h'
 | 2,_=>exact h''
theorem dY {z:Str} (h:isName z=true):z.length<=8:=by
 unfold isName at h
 simp only [Bool.and_eq_true,decide_eq_true_eq] at h
 exact h.1.1.2
theorem iN {H:Hp} {z:Str} (h:isName z=true):TX H (.str z) (.str z):=.str (by have:=dY h;omega)
theorem nB {H:Hp} {z:Str} (h:z.length<=100):TX H (.str z) (.str z):=.str (by omega)
section
variable {H:Hp} {ns:List Str} {b:Addr} {P:Option Str->Prop}
structure PrsOk (H:Hp) (ns:List Str) (xs:List V) (ps:List (Str×Str)):Prop where
 len:xs.length=ps.length
 at_:∀ i (h:i < xs.length) (h':i < ps.length),∃ c,xs[i]=.ref c/\H c=some (.tup [.str ps[i].1,.str ps[i].2])
 nm:∀ p∈ps,isName p.1=true/\isName p.2=true/\p.2∈ns
 ris:rising (ps.map (·.1))=true
end
theorem oS {a b c:Str} (h1:strLt a b=true) (h2:strLt b c=true):strLt a c=true:=by
 unfold strLt at*
 exact Qv (List.lt_trans (Qt h1) (Qt h2))
theorem fJ:∀ {ws:List Str},ws.Pairwise (fun a b=>strLt a b=true)->rising ws=true
 | [],_=>rfl
 | [_],_=>rfl
 | a::b::r,h=>by
  rw [List.pairwise_cons] at h
  rw [rising,h.1 b List.mem_cons_self,fJ h.2];rfl
def strV:V->Str
 | .str z=>z
 | _=>""
theorem a1N {H:Hp} {ns:List Str} {xs:List V} {rs:List (Str×V)} (q2:PairsAt H xs (rowsK rs)) (hn:∀ r∈rs,isName r.1=true) (q4:∀ r∈rs,∃ y,r.2=.str y/\y∈ns/\isName y=true) (hr:rising (rs.map (·.1))=true):PrsOk H ns xs (rs.map fun q=>(q.1,strV q.2)):=by
 have hl:xs.length=rs.length:=by have:=q2.1;simpa using this
 refine ⟨by simp;omega,fun i h1 h2=>?_,fun q hq=>?_,?_⟩
 ·have h3:i < rs.length:=by omega
  obtain ⟨c',e1,e2⟩:=q2.2 i (by simpa using h3)
  rw [Qa h1] at e1
  refine ⟨c',QD e1,?_⟩
  obtain ⟨y,ey,_⟩:=q4 _ (Qj h3)
  simp only [Qr]
  rw [ey]
  have:H c'=some (.tup [.str rs[i].1,rs[i].2]):=by simpa [rowsK,kV] using e2
  rw [ey] at this
  exact this
 ·obtain ⟨q',hq',rfl⟩:=List.mem_map.mp hq
  obtain ⟨y,ey,my,ny⟩:=q4 q' hq'
  refine ⟨hn q' hq',?_,?_⟩
  ·show isName (strV q'.2)=true
   rw [ey];exact ny
  ·show strV q'.2∈ns
   rw [ey];exact my
 ·rw [Qn];exact hr
section
variable {X:Cx}
end
section
variable {X:Cx} {pins:List (Addr×Obj)} {σ:St} {H:Hp} {s:Shared}
end
section
variable {X:Cx} {e1 e2:Expr} {p pos:Pos} {k:Nat} {g1 g2:TG}
end
section
variable {prog:Program} {w:World} {A:Around} {R:Result->Shared->Prop} {s:Shared}
end
section
variable {X:Cx} {t1 i1 t2 i2 elt:Expr} {sc:Scope} {pos:Pos} {own:List Str} {idx:List Nat} {N':List Str} {wi wi2:TI} {g g2:TG} {te:TE}
end
section
variable {prog:Program} {w:World} {A:Around} {E:Value->Shared->Prop} {s:Shared}
theorem lR {α β:Type} {f g:α->Option β}:∀ {l:List α},(∀ x∈l,f x=g x)->l.filterMap f=l.filterMap g
 | [],_=>rfl
 | a::l,h=>by rw [List.filterMap_cons,List.filterMap_cons,h a List.mem_cons_self,lR fun x hx=>h x (Qh _ hx)]
theorem y8 (xs:Array Value):((List.range xs.size).filterMap fun (k:Nat)=>xs[(((xs.size:Int) - 1)+(k:Int)*(-1)).toNat]?)=xs.toList.reverse:=by
 have e:((List.range xs.size).filterMap fun (k:Nat)=>xs[(((xs.size:Int) - 1)+(k:Int)*(-1)).toNat]?)=(List.range xs.size).map fun k=>xs.toList.reverse.getD k .none:=by
  rw [<- List.filterMap_eq_map]
  refine lR fun k hk=>?_
  have hk':=List.mem_range.mp hk
  have e1:(((xs.size:Int) - 1)+(k:Int)*(-1)).toNat=xs.size - 1 - k:=by omega
  rw [e1]
  have h1:xs.size - 1 - k < xs.size:=by omega
  have h2:k < xs.toList.reverse.length:=by simp;exact hk'
  show _=some (xs.toList.reverse.getD k .none)
  rw [Qb,Qa h2,List.getElem_reverse]
  simp [h1]
 rw [e]
 refine List.ext_getElem (by simp) fun i h1 h2=>?_
 rw [Qr,List.getElem_range,Qb,Qa h2];rfl
end
section
variable {X:Cx} {e st:Expr} {te ts:TE} {p2 pos:Pos}
theorem Vals.rev:∀ {xs:List V} {us:List Value},Vals xs us->Vals xs.reverse us.reverse
 | _,_,.nil=>.nil
 | _,_,.cons r rr=>by
  rw [List.reverse_cons,List.reverse_cons]
  exact (Vals.rev rr).append (.cons r .nil)
end
inductive Hd where
 | one (s:Str)
 | as (y:Str)
 | way (x y:Str)
 | prs (s:Str) (ps:List (Str×Str))
def Hd.nx:Hd->Option Str
 | .as y=>some y
 | _=>none
def Hd.ok (ns:List Str):Hd->Prop
 | .one s=>s="all"\/s="none"
 | .as y=>isName y=true/\y∈ns
 | .way x y=>isName x=true/\isName y=true/\x∈ns/\y∈ns
 | .prs s ps=>(s="box"\/s="pick")/\(∀ p∈ps,isName p.1=true/\isName p.2=true/\p.2∈ns)/\rising (ps.map (·.1))=true/\ps.length<=10
structure PrsV (H:Hp) (xs:List V) (ps:List (Str×Str)):Prop where
 len:xs.length=ps.length
 at_:∀ i (h:i < xs.length) (h':i < ps.length),∃ c,xs[i]=.ref c/\H c=some (.tup [.str ps[i].1,.str ps[i].2])
theorem PrsV.tk {H H':Hp} {xs:List V} {ps:List (Str×Str)} (h:PrsV H xs ps) (s:Tk H H'):PrsV H' xs ps:=⟨h.len,fun i a b=>let ⟨c,h1,h2⟩:=h.at_ i a b;⟨c,h1,s _ _ h2⟩⟩
inductive HV (H:Hp):V->Hd->Prop
 | one {b:Addr} {s:Str}:H b=some (.tup [.str s])->HV H (.ref b) (.one s)
 | as {b:Addr} {y:Str}:H b=some (.tup [.str "as",.str y])->HV H (.ref b) (.as y)
 | way {b:Addr} {x y:Str}:H b=some (.tup [.str "way",.str x,.str y])->HV H (.ref b) (.way x y)
 | prs {b c:Addr} {s:Str} {xs:List V} {ps:List (Str×Str)}:H b=some (.tup [.str s,.ref c])->H c=some (.tup xs)->PrsV H xs ps->HV H (.ref b) (.prs s ps)
theorem HV.tk {H H':Hp} (s:Tk H H') {v:V} {h:Hd} (q:HV H v h):HV H' v h:=by
 cases q with
 | one e=>exact .one (s _ _ e)
 | as e=>exact .as (s _ _ e)
 | way e=>exact .way (s _ _ e)
 | prs e e' p=>exact .prs (s _ _ e) (s _ _ e') (p.tk s)
section
variable {H:Hp} {ns:List Str} {b:Addr} {v:V} {P:Option Str->Prop}
end
def Hd.dt:Hd->Dt
 | .one s=>.tup [.str s]
 | .as y=>.tup [.str "as",.str y]
 | .way x y=>.tup [.str "way",.str x,.str y]
 | .prs s ps=>.tup [.str s,.tup (ps.map fun p=>.tup [.str p.1,.str p.2])]
theorem HV.tx {H:Hp} {ns:List Str} {v:V} {h:Hd} (q:HV H v h) (ok:h.ok ns):TX H v h.dt:=by
 cases q with
 | one e=>exact zL e (nB (by rcases ok with rfl | rfl<;>decide))
 | as e=>exact nR e (nB (by decide)) (iN ok.1)
 | way e=>exact yW e (nB (by decide)) (iN ok.1) (iN ok.2.1)
 | @prs b c s xs ps e e' p=>
  have h10:=ok.2.2.2
  have hl:=p.len
  refine nR e (nB (by rcases ok.1 with rfl | rfl<;>decide)) (.tup e' (by simp [p.len]) (by omega) fun i h1 h2=>?_)
  have h3:i < ps.length:=by simpa using h2
  obtain ⟨c',q1,q2⟩:=p.at_ i h1 h3
  obtain ⟨m1,m2,_⟩:=ok.2.1 _ (Qj h3)
  rw [q1]
  simp only [Qr]
  exact nR q2 (iN m1) (iN m2)
abbrev Rw2:=Str×Hd
structure RV (H:Hp) (xs:List V) (rows:List Rw2):Prop where
 len:xs.length=rows.length
 at_:∀ i (h:i < xs.length) (h':i < rows.length),∃ b v,xs[i]=.ref b/\H b=some (.tup [.str rows[i].1,v])/\HV H v rows[i].2
theorem RV.tk {H H':Hp} {xs:List V} {rows:List Rw2} (h:RV H xs rows) (s:Tk H H'):RV H' xs rows:=⟨h.len,fun i a b=>let ⟨c,v,h1,h2,h3⟩:=h.at_ i a b;⟨c,v,h1,s _ _ h2,h3.tk s⟩⟩
def rowDt (r:Rw2):Dt:=.tup [.str r.1,r.2.dt]
def RowsK (ns:List Str) (rows:List Rw2):Prop:=∀ r∈rows,isName r.1=true/\r.2.ok ns
def Hd.pre:Hd->List Str
 | .one s=>[s]
 | .as _=>[]
 | .way _ _=>["way"]
 | .prs s _=>[s]
section
variable {X:Cx}
end
inductive DA (P:Addr->Prop) (H:Hp):Bool->V->PyData->Dt->Prop
 | str {m:Bool} {z:Str} (h:z.length<=100000):DA P H m (.str z) (.str z) (.str z)
 | non {m:Bool}:DA P H m .non .none .oth
 | bl {m:Bool} (b:Bool):DA P H m (.bl b) (.bool b) .oth
 | int {m:Bool} (i:Int):DA P H m (.int i) (.int i) .oth
 | tup {m:Bool} {a:Addr} {xs:List V} {ps:List PyData} {ds:List Dt}:P a->H a=some (.tup xs)->xs.length=ps.length->xs.length=ds.length->xs.length<=1000->(∀ i (h:i < xs.length) (h':i < ps.length) (h'':i < ds.length),DA P H m xs[i] ps[i] ds[i])->DA P H m (.ref a) (.tuple ps) (.tup ds)
 | lst {a:Addr} {xs:List V} {ps:List PyData} {ds:List Dt}:P a->H a=some (.lst xs)->xs.length=ps.length->xs.length=ds.length->(∀ i (h:i < xs.length) (h':i < ps.length) (h'':i < ds.length),DA P H true xs[i] ps[i] ds[i])->DA P H true (.ref a) (.list ps) .oth
 | dc0 {a:Addr}:P a->H a=some (.dK [])->DA P H false (.ref a) (.dict []) .oth
 | dc1 {a:Addr} {z:Str} {x:V} {p:PyData} {d:Dt}:P a->H a=some (.dK [(.inr z,x)])->DA P H false x p d->DA P H false (.ref a) (.dict [(.str z,p)]) .oth
theorem DA.dd {P:Addr->Prop} {H:Hp} {m:Bool} {v:V} {p:PyData} {d:Dt} (h:DA P H m v p d):DD H v d:=by
 induction h with
 | str h=>exact .str h
 | non=>exact .non
 | bl b=>exact .bl b
 | int i=>exact .int i
 | tup _ e h1 h2 h3 _ ih=>exact .tup e h2 h3 fun i a b=>ih i a (by omega) b
 | lst _ e h1 h2 _ ih=>exact .lst e
 | dc0 _ e=>exact .dct e
 | dc1 _ e _ ih=>exact .dct e
section
variable {P P':Addr->Prop} {H H':Hp} {m:Bool} {v:V} {k n k' n':Nat} {a:Addr} {xs:List V}
end
section
variable {X:Cx}
end
section
variable {P:Addr->Prop} {m:Bool} {σ:St} {H0:Hp} {te:TE} {ta:TA} {k c:Nat}
end
section
variable {X:Cx} {pos:Pos}
theorem pI {i j:Nat} {x y:Str} {a b:Expr} {ta:TA} {px py pt:Pos} {kt k2 pt2} (hc:X.calm=true) (hN:X.N.Nodup) (hi:X.N[i]? =some x) (hj:X.N[j]? =some y) (hij:i≠j) (hx:X.env.scope.names.lookup x=some .local) (hy:X.env.scope.names.lookup y=some .local) (ha:SA X [a,b] ta)
  (hw:swappedStores [.Tuple [.Name x px,.Name y py] kt pt] (.Tuple [a,b] k2 pt2) X.env=pure (some [x,y])) (hs:swapsWithSole [.Tuple [.Name x px,.Name y py] kt pt] (.Tuple [a,b] k2 pt2) pos.line X.env=pure false:=by rfl):SS X (.Assign [.Tuple [.Name x px,.Name y py] kt pt] (.Tuple [a,b] k2 pt2) pos) (tPar i j ta):=⟨a1P hc hN hi hj hij hx hy ha.h hw hs⟩
end
theorem iM (y:Str) (zs:List Str):inV (.str y) (zs.map V.str)=decide (y∈zs):=by
 rw [Bool.eq_iff_iff,decide_eq_true_iff]
 unfold inV
 rw [List.any_map,List.any_eq_true]
 constructor
 ·rintro ⟨a,ha,e⟩
  have e':(a==y)=true:=e
  rw [<- eq_of_beq e'];exact ha
 ·intro h
  exact ⟨y,h,(beq_self_eq_true y:(y==y)=true)⟩
section
variable {prog:Program} {w:World} {A:Around} {R:Result->Shared->Prop} {I:Addr} {fp wr:List Addr} {G:Array GenState->Array GenState->Prop} {n:Nat} {P:Nat->Value->Prop} {St:Nat->Shared->Prop}
end
section
variable {prog:Program} {w:World} {A:Around} {E:Value->Shared->Prop} {s:Shared}
end
section
variable {X:Cx}
end
section
variable {prog:Program} {w:World} {A:Around} {E:Value->Shared->Prop} {s:Shared} {I:Addr} {fp wr:List Addr} {G:Array GenState->Array GenState->Prop} {n:Nat} {P:Nat->Value->Prop} {St:Nat->Shared->Prop}
end
section
variable {X:Cx}
end
section
variable {P:Program} {w:World} {A:Around} {E:Value->Shared->Prop} {s:Shared}
end
section
variable {P:Program} {w:World} {A:Around} {E:Value->Shared->Prop} {s:Shared}
end
section
variable {X:Cx}
end
section
variable {X:Cx} {pins:List (Addr×Obj)} {σ:St} {H:Hp} {s:Shared}
end
section
variable {X:Cx} {tg a b c:Expr} {ta:TA} {p pos:Pos}
end
def Hd.wds:Hd->List Str
 | .prs _ ps=>ps.map (·.1)
 | _=>[]
structure HG4 (H:Hp) (ns ws:List Str) (v:V) (P:Option Str->Prop):Prop where
 ex:∃ h,HV H v h/\h.ok ns/\P h.nx/\∀ z∈h.wds,z∈ws
section
variable {H:Hp} {ns ws:List Str} {b:Addr} {v:V} {P:Option Str->Prop}
theorem HG4.tk {H':Hp} (h:HG4 H ns ws v P) (s:Tk H H'):HG4 H' ns ws v P:=let ⟨d,h1,h2⟩:=h.ex;⟨d,h1.tk s,h2⟩
theorem HG4.imp {P':Option Str->Prop} (h:HG4 H ns ws v P) (f:∀ o,P o->P' o):HG4 H ns ws v P':=let ⟨d,h1,h2,h3,h4⟩:=h.ex;⟨d,h1,h2,f _ h3,h4⟩
theorem a1w {y:Str} (e:H b=some (.tup [.str "as",.str y])) (hy:isName y=true) (hm:y∈ns) (hP:P (some y)):HG4 H ns ws (.ref b) P:=⟨.as y,.as e,⟨hy,hm⟩,hP,(fun _ h=>nomatch h)⟩
theorem wT (e:H b=some (.tup [.str "none"])) (hP:P none):HG4 H ns ws (.ref b) P:=⟨.one "none",.one e,.inr rfl,hP,(fun _ h=>nomatch h)⟩
theorem zI (e:H b=some (.tup [.str "all"])) (hP:P none):HG4 H ns ws (.ref b) P:=⟨.one "all",.one e,.inl rfl,hP,(fun _ h=>nomatch h)⟩
theorem zM {x y:Str} (e:H b=some (.tup [.str "way",.str x,.str y])) (hx:isName x=true) (hy:isName y=true) (mx:x∈ns) (my:y∈ns) (hP:P none):HG4 H ns ws (.ref b) P:=⟨.way x y,.way e,⟨hx,hy,mx,my⟩,hP,(fun _ h=>nomatch h)⟩
theorem qW {s:Str} {c:Addr} {xs:List V} {ps:List (Str×Str)} (hs:s="box"\/s="pick") (e:H b=some (.tup [.str s,.ref c])) (ec:H c=some (.tup xs)) (hn:xs.length<=10) (h:PrsOk H ns xs ps) (hw:∀ q∈ps,q.1∈ws) (hP:P none):HG4 H ns ws (.ref b) P:=
 ⟨.prs s ps,.prs e ec ⟨h.len,h.at_⟩,⟨hs,h.nm,h.ris,by rw [<- h.len];exact hn⟩,hP,fun z hz=>by obtain ⟨q,hq,rfl⟩:=List.mem_map.mp hz;exact hw q hq⟩
end
theorem wZ {H:Hp} {b:Addr} {x y:Str} (e:H b=some (.tup [.str x,.str y])) (hx:Wd x) (hy:Wd y):TB H (.ref b) 1 411:=
 (TB.tup (k:=0) (n:=202) e fun v hv=>by
  simp only [Qp,QA,or_false] at hv
  rcases hv with rfl | rfl
  ·exact TB.str hx
  ·exact TB.str hy).mono (by omega) (by simp)
theorem HV.tb {H:Hp} {ns ws:List Str} {v:V} {h:Hd} (q:HV H v h) (ok:h.ok ns) (hn:∀ n∈ns,Wd n) (hw:∀ z∈h.wds,Wd z):TB H v 3 8273:=by
 cases q with
 | one e=>
  refine (TB.tup (k:=0) (n:=202) e fun v hv=>?_).mono (by omega) (by simp)
  rw [List.mem_singleton.mp hv]
  rcases ok with rfl | rfl<;>exact TB.str (fE (by decide) (by decide))
 | as e=>exact (wZ e (fE (by decide) (by decide)) (hn _ ok.2)).mono (by omega) (by omega)
 | way e=>
  refine (TB.tup (k:=0) (n:=202) e fun v hv=>?_).mono (by omega) (by simp)
  simp only [Qp,QA,or_false] at hv
  rcases hv with rfl | rfl | rfl
  ·exact TB.str (fE (by decide) (by decide))
  ·exact TB.str (hn _ ok.2.2.1)
  ·exact TB.str (hn _ ok.2.2.2)
 | @prs b c s xs ps e e' p=>
  have h10:=ok.2.2.2
  have hl:=p.len
  refine (TB.tup (k:=2) (n:=4133) e fun v hv=>?_).mono (by omega) (by simp)
  simp only [Qp,QA,or_false] at hv
  rcases hv with rfl | rfl
  ·rcases ok.1 with rfl | rfl<;>exact (TB.str (fE (by decide) (by decide))).mono (by omega) (by omega)
  ·refine (TB.tup (k:=1) (n:=411) e' fun x hx=>?_).mono (by omega) (by omega)
   obtain ⟨i,hi,rfl⟩:=Qi hx
   have h3:i < ps.length:=by omega
   obtain ⟨c',q1,q2⟩:=p.at_ i hi h3
   rw [q1]
   have hm:ps[i]∈ps:=Qj h3
   exact wZ q2 (hw _ (List.mem_map.mpr ⟨_,hm,rfl⟩)) (hn _ (ok.2.1 _ hm).2.2)
theorem o9 (a:Str):strLt a a=false:=by
 unfold strLt
 exact Qw (List.lt_irrefl _)
def Ahd (ns:List Str) (n:Str) (o:Option Str):Prop:=∀ y,o=some y->∃ (i j:Nat),i < j/\ns[i]? =some y/\ns[j]? =some n
structure RowsG (H:Hp) (ns ws:List Str) (rs:List (Str×V)):Prop where
 sub:∀ r∈rs,r.1∈ns
 hd:∀ r∈rs,HG4 H ns ws r.2 (Ahd ns r.1)
theorem RowsG.tk {H H':Hp} {ns ws:List Str} {rs:List (Str×V)} (h:RowsG H ns ws rs) (s:Tk H H'):RowsG H' ns ws rs:=⟨h.sub,fun r hr=>(h.hd r hr).tk s⟩
theorem RowsG.perm {H:Hp} {ns ws:List Str} {rs rs':List (Str×V)} (h:RowsG H ns ws rs) (p:∀ r∈rs',r∈rs):RowsG H ns ws rs':=⟨fun r hr=>h.sub r (p r hr),fun r hr=>h.hd r (p r hr)⟩
theorem RowsG.add {H:Hp} {ns ws:List Str} {rs:List (Str×V)} (h:RowsG H ns ws rs) {n:Str} {v:V} (h1:n∈ns) (h2:HG4 H ns ws v (Ahd ns n)):RowsG H ns ws ((n,v)::rs):=by
 refine ⟨fun r hr=>?_,fun r hr=>?_⟩<;>rcases Qp.mp hr with rfl | hr
 ·exact h1
 ·exact h.sub r hr
 ·exact h2
 ·exact h.hd r hr
structure RT (H:Hp) (a:Addr) (xs:List V) (rows:List Rw2) (ns ws:List Str):Prop where
 at_:H a=some (.tup xs)
 rv:RV H xs rows
 nm:(rows.map (·.1)).Perm ns
 nd:ns.Nodup
 ok:RowsK ns rows
 wd:∀ n∈ns,Wd n
 ah:∀ r∈rows,Ahd ns r.1 r.2.nx
 ww:∀ r∈rows,∀ z∈r.2.wds,z∈ws
 pos:1<=ns.length
 few:ns.length<=10
section
variable {H H':Hp} {a:Addr} {xs:List V} {rows:List Rw2} {ns ws:List Str}
theorem RT.tk (h:RT H a xs rows ns ws) (s:Tk H H'):RT H' a xs rows ns ws:=⟨s _ _ h.at_,h.rv.tk s,h.nm,h.nd,h.ok,h.wd,h.ah,h.ww,h.pos,h.few⟩
theorem RT.rl (h:RT H a xs rows ns ws):rows.length=ns.length:=by have:=h.nm.length_eq;simpa using this
theorem RT.ndr (h:RT H a xs rows ns ws):(rows.map (·.1)).Nodup:=by rw [h.nm.nodup_iff];exact h.nd
theorem RT.of {rs:List (Str×V)} (e:H a=some (.tup xs)) (ps:PairsAt H xs (rowsK rs)) (nm:(rs.map (·.1)).Perm ns) (nd:ns.Nodup) (okn:∀ n∈ns,isName n=true/\Wd n) (pos:1<=ns.length) (few:ns.length<=10) (g:RowsG H ns ws rs):∃ rows,RT H a xs rows ns ws:=by
 have hc:∀ i:Fin rs.length,∃ hd:Hd,HV H rs[i.val].2 hd/\hd.ok ns/\Ahd ns rs[i.val].1 hd.nx/\∀ z∈hd.wds,z∈ws:=fun i=>(g.hd _ (Qj i.isLt)).ex
 obtain ⟨f,hf⟩:=Classical.axiomOfChoice hc
 have hxl:xs.length=rs.length:=by have:=ps.1;simpa using this
 have en:(List.ofFn fun i:Fin rs.length=>((rs[i.val].1,f i):Rw2)).map (·.1)=rs.map (·.1):=by
  apply List.ext_getElem
  ·simp
  ·intro i h1 h2;simp
 have mem:∀ r∈(List.ofFn fun i:Fin rs.length=>((rs[i.val].1,f i):Rw2)),∃ i:Fin rs.length,r=(rs[i.val].1,f i):=fun r hr=>by
  obtain ⟨i,hi,rfl⟩:=Qi hr
  exact ⟨⟨i,by simpa using hi⟩,by simp⟩
 refine ⟨List.ofFn fun i=>(rs[i.val].1,f i),e,⟨by simp [hxl],fun i h1 h2=>?_⟩,by rw [en];exact nm,nd,fun r hr=>?_,fun n hn=>(okn n hn).2,fun r hr=>?_,fun r hr=>?_,pos,few⟩
 ·have h3:i < rs.length:=by omega
  obtain ⟨b,e1,e2⟩:=ps.2 i (by simpa using h3)
  rw [Qa h1] at e1
  refine ⟨b,rs[i].2,QD e1,?_,?_⟩
  ·simpa [rowsK,kV] using e2
  ·simpa using (hf ⟨i,h3⟩).1
 ·obtain ⟨i,rfl⟩:=mem r hr
  exact ⟨(okn _ (g.sub _ (Qj i.isLt))).1,(hf i).2.1⟩
 ·obtain ⟨i,rfl⟩:=mem r hr
  exact (hf i).2.2.1
 ·obtain ⟨i,rfl⟩:=mem r hr
  exact (hf i).2.2.2
end
section
variable {H H':Hp} {a b:Addr} {xs ys:List V} {rows rows2:List Rw2} {ns ws ws':List Str} {f g:Str->Str}
theorem RT.pairs (h:RT H a xs rows ns ws):∃ rs:List (Str×V),PairsAt H xs (rowsK rs)/\rs.map (·.1)=rows.map (·.1)/\rs.length=rows.length/\∀ i (h1:i < rs.length) (h2:i < rows.length),HV H rs[i].2 rows[i].2:=by
 have hl:=h.rv.len
 have hc:∀ i:Fin rows.length,∃ v:V,(∃ b,xs[i.val]? =some (.ref b)/\H b=some (.tup [.str rows[i.val].1,v]))/\HV H v rows[i.val].2:=fun i=>by
  obtain ⟨b,v,q1,q2,q3⟩:=h.rv.at_ i.val (by have:=i.isLt;omega) i.isLt
  exact ⟨v,⟨b,by rw [Qa (by have:=i.isLt;omega),q1],q2⟩,q3⟩
 obtain ⟨f,hf⟩:=Classical.axiomOfChoice hc
 refine ⟨List.ofFn fun i=>(rows[i.val].1,f i),⟨by simp [hl],fun i hi=>?_⟩,?_,by simp,fun i h1 h2=>?_⟩
 ·have hi':i < rows.length:=by simpa using hi
  obtain ⟨b,q1,q2⟩:=(hf ⟨i,hi'⟩).1
  exact ⟨b,q1,by simpa [rowsK,kV] using q2⟩
 ·apply List.ext_getElem
  ·simp
  ·intro i h1 h2;simp
 ·simpa using (hf ⟨i,h2⟩).2
def hdOf (rows:List Rw2) (x:Str):Hd:=((rows.find? fun r=>decide (r.1=x)).map (·.2)).getD (.one "")
def nxOf (rows:List Rw2) (x:Str):Option Str:=(hdOf rows x).nx
theorem cW (nd:(rows.map (·.1)).Nodup) {r:Rw2} (hr:r∈rows):hdOf rows r.1=r.2:=by
 obtain ⟨i,hi,rfl⟩:=Qi hr
 have:rows.find? (fun r=>decide (r.1=rows[i].1))=some rows[i]:=by
  rw [List.find?_eq_some_iff_getElem]
  refine ⟨by simp,i,hi,rfl,fun j hj=>?_⟩
  have hne:(rows.map (·.1))[j]'(by simp;omega)≠(rows.map (·.1))[i]'(by simpa using hi):=List.pairwise_iff_getElem.mp nd j i (by simp;omega) (by simpa using hi) hj
  simpa using hne
 unfold hdOf
 rw [this];rfl
theorem HV.asV {v:V} {h:Hd} (q:HV H v h) (ok:h.ok ns):AsV H v h.nx:=by
 cases q with
 | one e=>exact ⟨_,rfl,.inl ⟨_,_,e,by rcases ok with rfl | rfl<;>decide,rfl⟩⟩
 | as e=>exact ⟨_,rfl,.inr ⟨_,e,rfl⟩⟩
 | way e=>exact ⟨_,rfl,.inl ⟨_,_,e,by decide,rfl⟩⟩
 | prs e e' p=>exact ⟨_,rfl,.inl ⟨_,_,e,by rcases ok.1 with rfl | rfl<;>decide,rfl⟩⟩
theorem RT.good (h:RT H a xs rows ns ws) (hw:∀ z∈ws,Wd z):∃ rs,GoodT H a xs rs (nxOf rows) (fun n=>ns.idxOf n)/\rs.map (·.1)=rows.map (·.1)/\rs.length=rows.length/\∀ x v,x∈ns->valV (dictOf (rowsK rs)) (.inr x)=some v->HV H v (hdOf rows x):=by
 obtain ⟨rs,ps,nm,rl,hv⟩:=h.pairs
 have hrl:=h.rl
 have hf:=h.few
 have hp:=h.pos
 have nd:(rs.map (·.1)).Nodup:=by rw [nm];exact h.ndr
 have hmem:∀ n,n∈ns↔n∈rs.map (·.1):=fun n=>by rw [nm];exact h.nm.mem_iff.symm
 have at':∀ r∈rs,∃ r'∈rows,r.1=r'.1/\HV H r.2 r'.2:=fun r hr=>by
  obtain ⟨i,hi,rfl⟩:=Qi hr
  have hi':i < rows.length:=by omega
  refine ⟨rows[i],Qj hi',?_,hv i hi hi'⟩
  have:(rs.map (·.1))[i]'(by simpa using hi)=(rows.map (·.1))[i]'(by simpa using hi'):=by simp only [nm]
  simpa using this
 have g:GoodT H a xs rs (nxOf rows) (fun n=>ns.idxOf n):=by
  refine ⟨h.at_,ps,nd,by omega,by omega,fun r hr=>?_,fun r hr y hy=>?_,fun r hr=>?_,fun r hr=>?_⟩
  ·obtain ⟨r',hr',e,v⟩:=at' r hr
   unfold nxOf
   rw [e,cW h.ndr hr']
   exact v.asV (h.ok r' hr').2
  ·obtain ⟨r',hr',e,v⟩:=at' r hr
   unfold nxOf at hy
   rw [e,cW h.ndr hr'] at hy
   obtain ⟨i,j,hij,h1,h2⟩:=h.ah r' hr' y hy
   refine ⟨(hmem y).mp (QC h1),?_⟩
   show ns.idxOf y < ns.idxOf r.1
   rw [e,mH h.nd h1,mH h.nd h2]
   exact hij
  ·have:=List.idxOf_lt_length_of_mem ((hmem r.1).mpr (List.mem_map.mpr ⟨r,hr,rfl⟩))
   show ns.idxOf r.1<=_
   omega
  ·obtain ⟨r',hr',e,v⟩:=at' r hr
   refine ⟨h.wd _ ((hmem r.1).mpr (List.mem_map.mpr ⟨r,hr,rfl⟩)),v.tb (ws:=ws) (h.ok r' hr').2 h.wd fun z hz=>hw z (h.ww r' hr' z hz)⟩
 refine ⟨rs,g,nm,rl,fun x v hx hval=>?_⟩
 obtain ⟨v',m,e⟩:=g.get ((hmem x).mp hx)
 rw [hval] at e
 cases e
 obtain ⟨r',hr',e,q⟩:=at' _ m
 have e':x=r'.1:=e
 rw [e',cW h.ndr hr']
 exact q
end
def Hd.mvs:Hd->List (List Str×Str)
 | .way x y=>[(["from"],x),(["to"],y)]
 | .prs s ps=>ps.map fun p=>([if s="box" then "part" else "case",p.1],p.2)
 | _=>[]
theorem rE {ns:List Str}:∀ {h:Hd},h.ok ns->∀ m∈h.mvs,m.2∈ns
 | .one _,_,_,hm=>nomatch hm
 | .as _,_,_,hm=>nomatch hm
 | .way x y,ok,m,hm=>by
  simp only [Hd.mvs,Qp,QA,or_false] at hm
  rcases hm with rfl | rfl
  ·exact ok.2.2.1
  ·exact ok.2.2.2
 | .prs s ps,ok,m,hm=>by
  obtain ⟨p,hp,rfl⟩:=List.mem_map.mp hm
  exact (ok.2.1 p hp).2.2
structure MV (H:Hp) (xs:List V) (ms:List (List Str×Str)):Prop where
 len:xs.length=ms.length
 at_:∀ i (h:i < xs.length) (h':i < ms.length),∃ c b,xs[i]=.ref c/\H c=some (.tup [.ref b,.str ms[i].2])/\H b=some (.tup (ms[i].1.map V.str))
theorem MV.tk {H H':Hp} {xs:List V} {ms:List (List Str×Str)} (h:MV H xs ms) (s:Tk H H'):MV H' xs ms:=⟨h.len,fun i a b=>let ⟨c,d,h1,h2,h3⟩:=h.at_ i a b;⟨c,d,h1,s _ _ h2,s _ _ h3⟩⟩
theorem MV.nil {H:Hp}:MV H [] []:=⟨rfl,fun i h=>absurd h (by simp)⟩
theorem MV.snoc {H:Hp} {xs:List V} {ms:List (List Str×Str)} (h:MV H xs ms) {c b:Addr} {m:List Str×Str} (e1:H c=some (.tup [.ref b,.str m.2])) (e2:H b=some (.tup (m.1.map V.str))):MV H (xs++[.ref c]) (ms++[m]):=by
 have hl:=h.len
 refine ⟨by simp [hl],fun i h1 h2=>?_⟩
 by_cases hlt:i < xs.length
 ·rw [Qe hlt,Qe (by omega)]
  exact h.at_ i hlt (by omega)
 ·have e:i=xs.length:=by simp at h1;omega
  subst e
  rw [Qf (Qy _),Qf (by omega)]
  simp only [Nat.sub_self,hl,List.getElem_cons_zero]
  exact ⟨c,b,rfl,e1,e2⟩
def endOf (rows:List Rw2) (x:Str):Str:=rowEnd (nxOf rows) rows.length x
def onOf (rows:List Rw2) (x:Str):List (List Str×Str):=(hdOf rows (endOf rows x)).mvs.map fun m=>(m.1,endOf rows m.2)
theorem RT.endIn {H:Hp} {a:Addr} {xs:List V} {rows:List Rw2} {ns ws:List Str} (rt:RT H a xs rows ns ws) (hw:∀ z∈ws,Wd z) {x:Str} (hx:x∈ns):endOf rows x∈ns/\(hdOf rows (endOf rows x)).nx=none/\(hdOf rows (endOf rows x)).ok ns:=by
 obtain ⟨rs,g,nm,rl,hv⟩:=rt.good hw
 have hm:∀ z,z∈ns↔z∈rs.map (·.1):=fun z=>by rw [nm];exact rt.nm.mem_iff.symm
 obtain ⟨h1,h2⟩:=g.endIn ((hm x).mp hx)
 rw [rl] at h1 h2
 refine ⟨(hm _).mpr h1,h2,?_⟩
 have h3:endOf rows x∈rows.map (·.1):=by rw [<- nm];exact h1
 obtain ⟨r,hr,e⟩:=List.mem_map.mp h3
 rw [<- e,cW rt.ndr hr]
 exact (rt.ok r hr).2
structure KTup (K:Q0) (t:Addr×Obj×List V):Prop where
 lk:K.lookup t.1=some t.2.1
 ok:∃ (its:List Value) (n:Nat),t.2.1.cls=.type "tuple"/\t.2.1.dict=none/\t.2.1.data=.seq its.toArray n/\Vals t.2.2 its/\t.2.2.length<=sizeLine
def without (K:Q0) (as:List Addr):Q0:=K.filter fun p=> !as.contains p.1
theorem cS {as:List Addr} {b:Addr}:∀ {K:Q0},(without K as).lookup b=if as.contains b=true then none else K.lookup b
 | []=>by unfold without;simp
 | (c,o)::K=>by
  have ih:=cS (as:=as) (b:=b) (K:=K)
  unfold without at ih ⊢
  rw [List.filter_cons]
  by_cases hc:as.contains c=true
  ·have h0:¬(!as.contains (c,o).1)=true:=by show ¬(!as.contains c)=true;rw [hc];decide
   rw [if_neg h0,ih]
   by_cases hb:as.contains b=true
   ·rw [if_pos hb,if_pos hb]
   ·have n:(b==c)=false:=by
     cases e:b==c with
     | false=>rfl
     | true=>rw [eq_of_beq e] at hb;exact absurd hc hb
    rw [if_neg hb,if_neg hb,List.lookup_cons,n]
  ·have h0:(!as.contains (c,o).1)=true:=by
    show (!as.contains c)=true
    cases q:as.contains c with
    | true=>exact absurd q hc
    | false=>rfl
   rw [if_pos h0,List.lookup_cons,List.lookup_cons,ih]
   cases e:b==c with
   | true=>
    have:¬as.contains b=true:=by rw [eq_of_beq e];exact hc
    show some o=if as.contains b=true then none else some o
    rw [if_neg this]
   | false=>rfl
def Frzn (H:Hp):Prop:=∀ b,H b=none\/∃ o u,H b=some (.frz o u)
def hpOf (ts:List (Addr×Obj×List V)) (G:Hp):Hp:=fun b=>match ts.find? fun t=>decide (t.1=b) with
 | some t=>some (.frz t.2.1 (.tup t.2.2))
 | none=>G b
theorem wM {ts:List (Addr×Obj×List V)} {G:Hp} {t:Addr×Obj×List V} (h:t∈ts) (nd:(ts.map (·.1)).Nodup):hpOf ts G t.1=some (.frz t.2.1 (.tup t.2.2)):=by
 induction ts with
 | nil=>cases h
 | cons a ts ih=>
  unfold hpOf
  rw [List.find?_cons]
  rw [List.map_cons,List.nodup_cons] at nd
  by_cases e:a.1=t.1
  ·rw [Qv e]
   rcases Qp.mp h with rfl | h
   ·rfl
   ·exact absurd (List.mem_map.mpr ⟨t,h,e.symm⟩) nd.1
  ·rw [Qw e]
   rcases Qp.mp h with rfl | h
   ·exact absurd rfl e
   ·exact ih h nd.2
theorem eI {ts:List (Addr×Obj×List V)} {G:Hp} {b:Addr}:(∃ t∈ts,t.1=b/\hpOf ts G b=some (.frz t.2.1 (.tup t.2.2)))\/((∀ t∈ts,t.1≠b)/\hpOf ts G b=G b):=by
 unfold hpOf
 cases q:ts.find? fun t=>decide (t.1=b) with
 | some t=>
  have h1:=List.mem_of_find?_eq_some q
  have h2:=List.find?_some q
  exact .inl ⟨t,h1,Qt h2,rfl⟩
 | none=>
  refine .inr ⟨fun t ht e=>?_,rfl⟩
  have:=List.find?_eq_none.mp q t ht
  simp [e] at this
theorem vW {P:Program} {w:World} {K:Q0} {mg mb:Str->Option Value} {CX:CXT} {k:Nat} {fa a:Addr} {fd:FuncData} {x:Str} {sp:Sp} {s₁:Shared} {vs:List Value} {ns:List Int} {ts:List (Addr×Obj×List V)}
  (hts:∀ t∈ts,KTup K t) (nd:(ts.map (·.1)).Nodup)
  (KX:K.In s₁.heap) (hns:s₁.heap.Ns mainGlobals mg) (hb:s₁.heap.Ns builtinsNs mb) (hbb:∀ x:Str,x≠"__name__"->mb x=bootBuiltins x) (hlim:s₁.heap.NoLimit) (hg:s₁.gens=#[])
  (ha:s₁.heap.get? a=some {cls:=.type "list",data:=.seq vs.toArray}) (hi:IntsAre vs ns) (hl:ns.length<=sizeLine) (hr:Room k callerA)
  (F:∀ base:Heap,(without K (ts.map (·.1))).In base->base.Ns mainGlobals mg->FnOk P w (without K (ts.map (·.1))) mg base CX k fa fd [x] sp) (hbind:∀ (s:Shared) (u:Value),BindsTo s fd ⟨[u],[]⟩ [(x,u)])
  (hsp:∀ H:Hp,Frzn H->(∀ t∈ts,H t.1=some (.frz t.2.1 (.tup t.2.2)))->SqL (without K (ts.map (·.1))) H a (ns.map V.int)->sp [.ref a] H (fun v _=>v=.bl true) fun _ _ _=>False)
  (hCX:∀ H e s',CX [] H s₁ (fun _ _ _=>False) e s'->False):
  codeAny (model P w) callerA (.call (.ref fa) ⟨[.ref a],[]⟩) (fun r s'=>r=.ok (.ret (.bool true))/\OldK s₁.heap s'.heap/\s'.os=s₁.os/\AllBare s'.gens) s₁:=by
 have rv:=mL hi
 have lenV:=hi.length
 have tob:∀ t∈ts,s₁.heap.get? t.1=some t.2.1:=fun t ht=>KX _ _ (hts t ht).lk
 have nta:∀ t∈ts,t.1≠a:=fun t ht e=>by
  obtain ⟨its,n,h1,_⟩:=(hts t ht).ok
  have:=tob t ht
  rw [e,ha] at this
  rw [<- QD this] at h1
  injection h1 with h2
  exact absurd h2 (by decide)
 have core:∀ G:Hp,(∀ b,G b≠none->b=a)->(G a≠none->K.lookup a=none)->(∀ b,G b=none\/∃ o u,G b=some (.frz o u))->SqL (without K (ts.map (·.1))) (hpOf ts G) a (ns.map V.int)->(∀ u,G a=some u->∀ H,ObjOk P w H s₁.heap a u)->
   codeAny (model P w) callerA (.call (.ref fa) ⟨[.ref a],[]⟩) (fun r s'=>r=.ok (.ret (.bool true))/\OldK s₁.heap s'.heap/\s'.os=s₁.os/\AllBare s'.gens) s₁:=by
  intro G hG hK hF hS hO
  have trk:∀ b,hpOf ts G b≠none->b=a\/∃ t∈ts,t.1=b:=fun b q=>by
   rcases eI (ts:=ts) (G:=G) (b:=b) with ⟨t,ht,e,_⟩ | ⟨_,e⟩
   ·exact .inr ⟨t,ht,e⟩
   ·rw [e] at q;exact .inl (hG b q)
  have frz:Frzn (hpOf ts G):=fun b=>by
   rcases eI (ts:=ts) (G:=G) (b:=b) with ⟨t,ht,e,q⟩ | ⟨_,q⟩
   ·exact .inr ⟨_,_,q⟩
   ·rw [q];exact hF b
  have hok:HOk P w (hpOf ts G) s₁.heap:=fun b u q=>by
   rcases eI (ts:=ts) (G:=G) (b:=b) with ⟨t,ht,e,q'⟩ | ⟨_,q'⟩
   ·rw [q'] at q
    cases q
    obtain ⟨its,n,h1,h2,h3,h4,h5⟩:=(hts t ht).ok
    have o1:=tob t ht
    rw [e] at o1
    exact ⟨o1,⟨h5,fun o z=>by rw [o1] at z;cases z;exact h2⟩,its,h4,t.2.1,o1,h1,n,h3⟩
   ·rw [q'] at q
    have e:=hG b (by rw [q];simp)
    subst e
    exact hO u q _
  have base_of:∀ {b:Addr} {o:Obj},s₁.heap.get? b=some o->hpOf ts G b=none->(hidT s₁.heap (hpOf ts G)).get? b=some o:=fun e n=>xX e n
  have noA:∀ {b:Addr} {o:Obj} {es:Array DictEntry} {ep:Nat},s₁.heap.get? b=some o->o.data=.dict es ep->hpOf ts G b=none:=fun {b o es ep} e d=>by
   cases q:hpOf ts G b with
   | none=>rfl
   | some u=>
    rcases trk b (by rw [q];simp) with z | ⟨t,ht,z⟩
    ·subst z
     rw [ha] at e;cases e
     cases d
    ·have o1:=tob t ht
     rw [z,e] at o1
     cases o1
     obtain ⟨its,n,h1,h2,h3,_⟩:=(hts t ht).ok
     rw [d] at h3;cases h3
  have nsK:∀ {b:Addr} {m:Str->Option Value},s₁.heap.Ns b m->(hidT s₁.heap (hpOf ts G)).Ns b m:=fun {b m} ⟨o,es,ep,e,d,r⟩=>⟨o,es,ep,base_of e (noA e d),d,r⟩
  have hKb:(without K (ts.map (·.1))).In (hidT s₁.heap (hpOf ts G)):=fun b o e=>by
   rw [cS] at e
   by_cases hc:(ts.map (·.1)).contains b=true
   ·rw [if_pos hc] at e;cases e
   ·rw [if_neg hc] at e
    refine base_of (KX b o e) ?_
    cases q:hpOf ts G b with
    | none=>rfl
    | some u=>
     rcases eI (ts:=ts) (G:=G) (b:=b) with ⟨t,ht,z,_⟩ | ⟨_,q'⟩
     ·exact absurd (by rw [List.contains_iff_mem];exact List.mem_map.mpr ⟨t,ht,z⟩) hc
     ·rw [q'] at q
      have z:=hG b (by rw [q];simp)
      subst z
      rw [hK (by rw [q];simp)] at e;cases e
  have hM:Mod (without K (ts.map (·.1))) mg (hidT s₁.heap (hpOf ts G)):=⟨hKb,nsK hns,⟨mb,nsK hb,hbb⟩,let ⟨mc,h1,h2⟩:=hlim;⟨mc,nsK h1,h2⟩⟩
  have e0:Env0 P w (without K (ts.map (·.1))) mg (hidT s₁.heap (hpOf ts G)) callerA [] s₁ (hpOf ts G):=⟨rfl,hM,fun b o e=>zJ e,Nat.le_of_eq (uU _ _),trivial,fun b hb=>absurd (show b∈([]:List Addr) from hb) (by simp),hok,.of_eq hg⟩
  refine codeAny_mono ((F _ hKb (nsK hns)).run callerA [] s₁ (hpOf ts G) ⟨[.ref a],[]⟩ [.ref a] [.ref a] _ _ hr e0 (hbind s₁ (.ref a)) (.cons rfl .nil) (hsp (hpOf ts G) frz (fun t ht=>wM ht nd) hS)) fun r s' h=>?_
  cases r with
  | error e=>exact (hCX _ e s' h).elim
  | ok fl=>
   cases fl with
   | next=>exact False.elim h
   | brk=>exact False.elim h
   | cont=>exact False.elim h
   | ret u=>
    obtain ⟨v,H',os,bare,un,hok',r',q⟩:=h
    have q':v=.bl true:=q
    subst q'
    obtain rfl:u=Value.bool true:=r'
    refine ⟨rfl,OldK.of_keep fun b o e=>?_,os,bare⟩
    cases q:hpOf ts G b with
    | none=>exact un.keep b o e q (by intro z;exact absurd (show b∈([]:List Addr) from z) (by simp)) (by simp)
    | some u=>
     rcases frz b with z | ⟨ob,u',z⟩
     ·rw [q] at z;cases z
     ·have z2:=un.frzs b ob _ z
      obtain ⟨e1,_⟩:=hok b _ z
      obtain ⟨e2,_⟩:=hok' b _ z2
      rw [e] at e1;cases e1
      exact e2
 have nca:¬(ts.map (·.1)).contains a=true:=fun h=>by
  rw [List.contains_iff_mem] at h
  obtain ⟨t,ht,e⟩:=List.mem_map.mp h
  exact nta t ht e
 have hga:∀ G:Hp,hpOf ts G a=G a:=fun G=>by
  rcases eI (ts:=ts) (G:=G) (b:=a) with ⟨t,ht,e,_⟩ | ⟨_,q⟩
  ·exact absurd e (nta t ht)
  ·exact q
 cases hk:K.lookup a with
 | some o=>
  have e:=KX a o hk
  rw [ha] at e
  cases e
  exact core (fun _=>none) (fun b z=>absurd rfl z) (fun z=>absurd rfl z) (fun _=>.inl rfl) (.inr ⟨_,vs.toArray,_,by rw [cS,if_neg nca];exact hk,rfl,rfl,rfl,by rw [List.size_toArray,lenV];exact hl,by simpa using rv⟩) fun u z=>by cases z
 | none=>
  refine core (fun b=>if b=a then some (.frz {cls:=.type "list",data:=.seq vs.toArray} (.lst (ns.map V.int))) else none) (fun b z=>?_) (fun _=>hk) (fun b=>?_) (.inl (.inr ⟨{cls:=.type "list",data:=.seq vs.toArray},by rw [hga];exact if_pos rfl⟩)) fun u z H=>?_
  ·by_cases hb:b=a
   ·exact hb
   ·exact absurd (if_neg hb) z
  ·by_cases hb:b=a
   ·exact .inr ⟨_,_,if_pos hb⟩
   ·exact .inl (if_neg hb)
  ·have z':=(if_pos rfl).symm.trans z
   cases z'
   exact ⟨ha,by rw [Ql];exact hl,vs,_,rv,ha⟩
def adr (mg:Str->Option Value) (x:Str):Addr:=match mg x with
 | some (.ref a)=>a
 | _=>0
theorem a1U {mg:Str->Option Value} {x:Str} {a:Addr} (h:mg x=some (.ref a)):RelV (.ref (adr mg x)) (.ref a):=by
 unfold adr
 rw [h]
 exact rfl
def Kn (mg:Str->Option Value) (H:Hp) (x:Str) (ys:List V):Prop:=∃ o,H (adr mg x)=some (.frz o (.tup ys))
theorem Kn.same {mg:Str->Option Value} {H H':Hp} {x:Str} {ys:List V} (h:Kn mg H x ys) (s:Same H H'):Kn mg H' x ys:=let ⟨o,e⟩:=h;⟨o,s _ _ e⟩
theorem Kn.rd {mg:Str->Option Value} {H:Hp} {x:Str} {ys:List V} (h:Kn mg H x ys):RdT H (adr mg x) ys:=.inr h
theorem RdT.same {H H':Hp} {b:Addr} {ys:List V} (h:RdT H b ys) (s:Same H H'):RdT H' b ys:=h.imp (fun e=>s _ _ e) fun ⟨o,e⟩=>⟨o,s _ _ e⟩
structure SV (H:Hp) (xs:List V) (ss:List (List Str)):Prop where
 len:xs.length=ss.length
 at_:∀ i (h:i < xs.length) (h':i < ss.length),∃ b,xs[i]=.ref b/\RdT H b (ss[i].map V.str)
theorem SV.keep {H H':Hp} {xs:List V} {ss:List (List Str)} (h:SV H xs ss) (s:∀ b ys,RdT H b ys->RdT H' b ys):SV H' xs ss:=⟨h.len,fun i a b=>let ⟨c,h1,h2⟩:=h.at_ i a b;⟨c,h1,s _ _ h2⟩⟩
theorem SV.nil {H:Hp}:SV H [] []:=⟨rfl,fun i h=>absurd h (by simp)⟩
theorem SV.snoc {H:Hp} {xs:List V} {ss:List (List Str)} (h:SV H xs ss) {b:Addr} {m:List Str} (e:RdT H b (m.map V.str)):SV H (xs++[.ref b]) (ss++[m]):=by
 have hl:=h.len
 refine ⟨by simp [hl],fun i h1 h2=>?_⟩
 by_cases hlt:i < xs.length
 ·rw [Qe hlt,Qe (by omega)]
  exact h.at_ i hlt (by omega)
 ·have e':i=xs.length:=by simp at h1;omega
  subst e'
  rw [Qf (Qy _),Qf (by omega)]
  simp only [Nat.sub_self,hl,List.getElem_cons_zero]
  exact ⟨b,rfl,e⟩
section
variable {X:Cx} {tg iter kx vx:Expr} {ifs:List Expr} {sc:Scope} {pos:Pos} {own:List Str} {idx:List Nat} {N':List Str} {wi:TI} {g:TG} {tc:TC} {tk tw:TE}
def tDCT (own:List Str) (idx:List Nat) (wi:TI) (g:TG) (tc:TC) (tk tw:TE):TE:=fun σ H Q=>wi σ H fun J H1=>∀ D,H1 D=none->∃ W:Nat->Nat->St->Hp->Prop,(∃ m,W 0 m (stIn own idx σ) (upd H1 D (.dT [])))/\∀ i m τ H,W i m τ H->
 (J.stop i H/\Q (.ref D) H)\/(J.go i H/\∃ N:St->Hp->Prop,(∀ τ' H',N τ' H'->∃ m',m' < m/\W (i+1) m' τ' H')/\∀ x H',J.yld i H x H'->g x τ H' fun τ2 H2=>tc τ2 H2 fun b H3=>
  if b=true then tk τ2 H3 fun x H4=>tw τ2 H4 fun y H5=>∃ kvs key b,x=.ref b/\RdT H5 b (key.map kV)/\H5 D=some (.dT kvs)/\kvs.length < sizeLine/\N τ2 (upd H5 D (.dT (putK kvs key y))) else N τ2 H3)
theorem nO (S:CScope X.env.scope X.N sc own idx N') {cl:List (Str×Addr)} (c1:∀ x c,cl.lookup x=some c->X.env.cells.lookup x=some c) (c2:∀ y∈sc.names,y.2=.free->∃ c,cl.lookup y.1=some c) (hc:X.calm=true) (hu:X.A.units < cLine)
  (hg:∀ cl C s3 H0 fp pn,PG (cxComp X N' sc cl C s3 H0 fp pn) tg g) (ht:∀ cl C s3 H0 fp pn,PC' (cxComp X N' sc cl C s3 H0 fp pn) ifs tc) (he:∀ cl C s3 H0 fp pn,PE (cxComp X N' sc cl C s3 H0 fp pn) kx tk) (hv:∀ cl C s3 H0 fp pn,PE (cxComp X N' sc cl C s3 H0 fp pn) vx tw)
  {pins:List (Addr×Obj)} {σ:St} {Q:VK} {itv:Value} {s2:Shared} {RR:Value->Addr->Result->Shared->Prop} {E:Value->Shared->Prop}
  (hI:PIE X pins σ tg (fun J H1=>∀ D,H1 D=none->∃ W:Nat->Nat->St->Hp->Prop,(∃ m,W 0 m (stIn own idx σ) (upd H1 D (.dT [])))/\∀ i m τ H,W i m τ H->
   (J.stop i H/\Q (.ref D) H)\/(J.go i H/\∃ N:St->Hp->Prop,(∀ τ' H',N τ' H'->∃ m',m' < m/\W (i+1) m' τ' H')/\∀ x H',J.yld i H x H'->g x τ H' fun τ2 H2=>tc τ2 H2 fun b H3=>
    if b=true then tk τ2 H3 fun x H4=>tw τ2 H4 fun y H5=>∃ kvs key b,x=.ref b/\RdT H5 b (key.map kV)/\H5 D=some (.dT kvs)/\kvs.length < sizeLine/\N τ2 (upd H5 D (.dT (putK kvs key y))) else N τ2 H3)) itv s2)
  (hRR:∀ D C H' s',Inv X pins σ H' s'->Q (.ref D) H'->(H' C=none/\C≠X.env.locals/\X.s₀.heap.objs.size<=C/\(∀ x c,X.env.cells.lookup x=some c->c≠C)/\(∀ p∈X.pn++pins,p.1≠C)/\∃ m,s'.heap.Ns C m)->RR (.ref D) C (.ok .next) s'):
  wpAny (model X.prog X.w) X.A newDict (fun acc s₃=>wpAny (model X.prog X.w) X.A (newFunctionEnv sc X.env.globals cl [] X.env.qual none .none (some X.env)) (fun cenv s₄=>
   codeAny (model X.prog X.w) X.A (.compStart (.DictComp kx vx [⟨tg,iter,ifs,0⟩] sc pos) 0 itv acc {cenv with scope:=relabel sc X.env}) (RR acc cenv.locals) s₄) E s₃) E s2:=by
 obtain ⟨it,fp,tn,J,H2,rfl,I,T,st2,f2,body⟩:=hI
 refine wpAny_newObj_type (wpAny_newFunctionEnv S.cell (by intro y hy;simp at hy) (fun h4 ns sb=>?_) S.kind)
 dsimp only at ns sb ⊢
 have hob:dob.isFreed=false:=rfl
 have fr:H2 s2.heap.objs.size=none:=I.hok.fresh (Qy _)
 obtain ⟨W,⟨m0,w0⟩,turn⟩:=body _ fr
 have hfo:∀ b∈fp,∃ o,s2.heap.get? b=some o:=fun b hb=>let ⟨o,e,_⟩:=T.obj _ _ st2 b hb;⟨o,e⟩
 have sb':∀ b o,(s2.heap.push dob).get? b=some o->h4.get? b=some o:=fun b o e=>(sb.2 b (Nat.ne_of_lt (Qz e))).trans (Qc _ e)
 have hDo:∀ (H:Hp) (h:Heap),h.get? s2.heap.objs.size=some dob->ObjOk X.prog X.w H h s2.heap.objs.size (.dT []):=fun H h e=>⟨Nat.zero_le _,beq_eq_false_iff_ne.mpr (Ne.symm (Nat.ne_of_lt I.big)),[],.nil,_,#[],0,e,⟨rfl,rfl,rfl⟩,rfl,rfl,List.nodup_nil⟩
 have I4:Inv (cxComp X N' sc cl (s2.heap.push dob).objs.size {s2 with heap:=s2.heap.push dob} (upd H2 s2.heap.objs.size (.dT [])) fp (X.pn++pins)) [] (stIn own idx σ) (upd H2 s2.heap.objs.size (.dT [])) {s2 with heap:=h4,toks:=s2.toks+([]:List (Str×Value)).length}:=
  l6 S I f2 hfo c1 c2 hob hDo ns sb'
 -- the block's own context
 generalize hY:cxComp X N' sc cl (s2.heap.push dob).objs.size {s2 with heap:=s2.heap.push dob} (upd H2 s2.heap.objs.size (.dT [])) fp (X.pn++pins)=Y at I4
 have hgY:PG Y tg g:=by rw [<- hY];exact hg _ _ _ _ _ _
 have htY:PC' Y ifs tc:=by rw [<- hY];exact ht _ _ _ _ _ _
 have heY:PE Y kx tk:=by rw [<- hY];exact he _ _ _ _ _ _
 have hvY:PE Y vx tw:=by rw [<- hY];exact hv _ _ _ _ _ _
 have pY:Y.prog=X.prog:=by rw [<- hY]
 have wY:Y.w=X.w:=by rw [<- hY]
 have KY:Y.K=X.K:=by rw [<- hY]
 have AY:Y.A=X.A:=by rw [<- hY]
 have cY:Y.calm=true:=by rw [<- hY];exact hc
 have xY:Y.xe=fun _ _=>False:=by rw [<- hY]
 have eY:Y.env=compEnvC sc cl (s2.heap.push dob).objs.size X.env:=by rw [<- hY]
 have exY:Y.ex=fp:=by rw [<- hY]
 have fsY:Y.fs=frs X.stack:=by rw [<- hY]
 have pnY:Y.pn=X.pn++pins:=by rw [<- hY]
 have stat:∀ {H':Hp},(∀ b∈fp,H' b=none)->∀ b∈fp,FpOk Y [] H' b:=fun hn b hb=>by
  obtain ⟨f0,f1,f3,f4,f5,f6⟩:=f2 b hb
  refine ⟨hn b hb,?_,?_,.inl (by rw [exY];exact hb),fun x c e=>?_,fun p hp=>?_⟩
  ·obtain ⟨o,e⟩:=hfo b hb
   have:=Qz e
   rw [eY]
   show b≠(s2.heap.push dob).objs.size
   rw [Heap.size_push];exact Nat.ne_of_lt (Nat.lt_succ_of_lt this)
  ·rw [fsY]
   intro z
   rcases Qp.mp (I.stkSub b z) with z | z
   ·exact f1 z
   ·exact f3 z
  ·rw [eY] at e
   exact f5 x c (c1 x c e)
  ·rw [pnY,List.append_nil] at hp
   exact f6 p hp
 have st4:tn 0 h4:=T.keep _ _ _ st2 fun b hb o e=>sb' b o (Qc _ e)
 have fr4:∀ b∈fp,upd H2 s2.heap.objs.size (.dT []) b=none:=fun b hb=>by
  obtain ⟨o,e⟩:=hfo b hb
  rw [aD (Nat.ne_of_lt (Qz e))]
  exact (f2 b hb).1
 have loop:codeAny (model X.prog X.w) X.A (.compLoop (.DictComp kx vx [⟨tg,iter,ifs,0⟩] sc pos) 0 (.ref it) (.ref s2.heap.objs.size) (compEnvC sc cl (s2.heap.push dob).objs.size X.env))
   (RR (.ref s2.heap.objs.size) (s2.heap.push dob).objs.size) {s2 with heap:=h4,toks:=s2.toks+([]:List (Str×Value)).length}:=by
  refine compLoopD (fun n s'=>∃ i τ H',Inv Y [] τ H' s'/\tn i s'.heap/\(∀ b∈fp,H' b=none)/\W i n τ H') ?_ m0 ⟨0,_,_,I4,st4,fr4,w0⟩
  rintro n s3 ⟨i,τ3,H3,I3,st3,fr3,w3⟩
  rcases turn i n τ3 H3 w3 with ⟨stop,qn⟩ | ⟨go,N,hN,step⟩
  ·have h:=T.done Y pY wY KY cY i [] s3 τ3 H3 NoE I3 (stat fr3) st3 stop
   rw [AY] at h
   refine thn h ?_
   rintro r s4 ⟨hr,I4'⟩
   subst hr
   have J4:=I4'
   rw [<- hY] at J4
   obtain ⟨b1,b2⟩:=jE I f2 hob J4
   exact hRR _ _ _ _ b1 qn b2
  ·have h:=T.item Y pY wY KY cY i [] s3 τ3 H3 NoE I3 (stat fr3) st3 go
   rw [AY] at h
   refine thn h ?_
   rintro r s4 ⟨u,hr,h4'⟩
   subst hr
   refine thn h4' ?_
   rintro _ s5 ⟨x,H5,I5,r5,y5,st5,fr5⟩
   have I5':=I5.pinned (stat fr5) (T.obj _ _ st5)
   have g5:=hgY _ s5 τ3 H5 x u _ I5' r5 (step x H5 y5)
   rw [pY,wY,AY,xY,eY] at g5
   refine thn g5 ?_
   rintro _ s6 ⟨τ6,H6,I6,q6⟩
   have t6:=htY _ s6 τ6 H6 _ I6 q6
   rw [pY,wY,AY,xY,eY] at t6
   refine thn t6 ?_
   rintro ok s7 ⟨H7,I7,q7⟩
   have again:∀ {τ8:St} {H8:Hp} {s8:Shared},Inv Y ([]++pinsAt fp s5.heap) τ8 H8 s8->N τ8 H8->∃ m,m < n/\∃ i τ' H',Inv Y [] τ' H' s8/\tn i s8.heap/\(∀ b∈fp,H' b=none)/\W i m τ' H':=fun {τ8 H8 s8} I8 n8=>by
    obtain ⟨m',hm,w8⟩:=hN τ8 H8 n8
    refine ⟨m',hm,i+1,τ8,H8,I8.unpinned,T.keep _ _ _ st5 fun b hb o e=>(I8.pin (b,o) (List.mem_append_right _ (List.mem_append_right _ (cL hb e)))).1,fun b hb=>?_,w8⟩
    obtain ⟨o,e,d⟩:=T.obj _ _ st5 b hb
    exact (I8.pin (b,o) (List.mem_append_right _ (List.mem_append_right _ (cL hb e)))).2.1
   cases ok with
   | false=>
    rw [if_neg (by decide)] at q7 ⊢
    exact again I7 q7
   | true=>
    rw [if_pos rfl] at q7 ⊢
    have e7:=heY _ s7 τ6 H7 _ I7 q7
    rw [pY,wY,AY,xY,eY] at e7
    refine thn e7 ?_
    rintro kv s8 ⟨x8,H8,I8,r8,q8⟩
    have v8:=hvY _ s8 τ6 H8 _ I8 q8
    rw [pY,wY,AY,xY,eY] at v8
    refine thn v8 ?_
    rintro yv s9 ⟨y9,H9,I9,r9,kvs,key,b9,ek,eb,hD9,hz,n9⟩
    subst ek
    cases (show kv=Value.ref b9 from r8)
    obtain ⟨z,hd,xs,rel,dd⟩:=a0f I9.hok hD9
    have hzz:xs.length<=sizeLine:=by rw [<- Paired.length rel];exact z
    have hlen:(putK kvs key y9).length<=sizeLine:=by have:=cR kvs key y9;omega
    have hky:=dG I9.hok eb
    rw [pY,wY] at dd hky
    refine wpAny_dictSet_heap (hsz:=hzz) hu hky dd fun h' dd' hs=>?_
    rw [<- pY,<- wY] at dd'
    obtain ⟨q,es,ep,hq,h2,h3,h4,_,h5⟩:=dd'
    have I10:=iX (t':=s9.toks+(tupleKind (mixKind X.prog X.w)).draws key) (ob:=.dT (putK kvs key y9)) I9 (by rw [hD9];exact True.intro) hs ⟨q,hq⟩ ⟨hlen,hd,_,(rel.put key eb r9).keeps fun c ys ec=>ec.upd fun u hu z=>by subst z;rcases ec with ec | ⟨_,ec⟩<;>(rw [hD9] at ec;cases ec),q,es,ep,hq,h2,h3,h4,h5⟩
    exact again I10 n9
 exact codeAny_compStart_dict loop (T.self _ 0 _ _ _ st4 loop)
theorem a1F (S:CScope X.env.scope X.N sc own idx N') (hc:X.calm=true) (hu:X.A.units < cLine) (hi:PI X tg iter wi)
  (hg:∀ cl C s3 H0 fp pn,PG (cxComp X N' sc cl C s3 H0 fp pn) tg g) (ht:∀ cl C s3 H0 fp pn,PC' (cxComp X N' sc cl C s3 H0 fp pn) ifs tc) (he:∀ cl C s3 H0 fp pn,PE (cxComp X N' sc cl C s3 H0 fp pn) kx tk) (hv:∀ cl C s3 H0 fp pn,PE (cxComp X N' sc cl C s3 H0 fp pn) vx tw)
  (hs:∀ x,foldedSetIterable iter X.env x=pure x:=by intro _;rfl):PE X (.DictComp kx vx [⟨tg,iter,ifs,0⟩] sc pos) (tDCT own idx wi g tc tk tw):=by
 intro pins s σ H Q I h
 obtain ⟨cl,hcl,c1,c2⟩:=S.closure I.ok
 show wpAny _ X.A (comprehension (.DictComp kx vx [⟨tg,iter,ifs,0⟩] sc pos) sc X.env _ newDict false (eval iter X.env)) _ _ s
 refine wpAny_comprehension_free (use:=none) rfl hs hcl S.kind S.names (thn (hi pins s σ H _ I h) fun v s1 h1=>thn h1 fun itv s2 h2=>?_)
 refine nO (Q:=Q) (pins:=pins) (σ:=σ) (RR:=fun acc C=>compPost (model X.prog X.w) X.A X.xe none (EP X pins σ Q) acc C) S c1 c2 hc hu hg ht he hv h2 ?_
 intro D C H' s' I' q ⟨a1,a2,a3,a4,a5,m,a6⟩
 exact ⟨m,a6,fun h' sb=>⟨.ref D,H',I'.turned (t':=s'.toks) (fun b o hb e=>(sb.2 b hb).trans e) a1 (Ne.symm (Ne.symm a2)) (.inr a3) a4 a5,rfl,q⟩⟩
theorem a0i (S:CScope X.env.scope X.N sc own idx N') (hc:X.calm=true) (hu:X.A.units < cLine) (hi:SI X tg iter wi)
  (hg:∀ cl C s3 H0 fp pn,SG (cxComp X N' sc cl C s3 H0 fp pn) tg g) (ht:∀ cl C s3 H0 fp pn,SC (cxComp X N' sc cl C s3 H0 fp pn) ifs tc) (he:∀ cl C s3 H0 fp pn,SE (cxComp X N' sc cl C s3 H0 fp pn) kx tk) (hv:∀ cl C s3 H0 fp pn,SE (cxComp X N' sc cl C s3 H0 fp pn) vx tw)
  (hs:∀ x,foldedSetIterable iter X.env x=pure x:=by intro _;rfl):SE X (.DictComp kx vx [⟨tg,iter,ifs,0⟩] sc pos) (tDCT own idx wi g tc tk tw):=
 ⟨a1F S hc hu hi.h (fun q r s t u v=>(hg q r s t u v).h) (fun q r s t u v=>(ht q r s t u v).h) (fun q r s t u v=>(he q r s t u v).h) (fun q r s t u v=>(hv q r s t u v).h) hs⟩
end
def ClT (K:Q0) (mg:Str->Option Value) (x q:Str) (st:Stmt) (ps fs:List Str) (C:Addr):Prop:=
 mg x=some (.ref C)/\Cls K C/\(∀ f∈fs,NoAttr K C f)/\∃ (f:Addr) (fd:FuncData),Mk K C f/\Fun K "__init__" q st f fd/\Binds K fd ps []
def ClK (P:Program) (w:World) (K:Q0) (mg:Str->Option Value) (base:Heap) (k:Nat) (x:Str) (C:Addr) (ps:List Str) (sp:Sp):Prop:=
 mg x=some (.ref C)/\∃ (f:Addr) (fd:FuncData),Mk K C f/\FnOk P w K mg base CX0 k f fd ps sp/\Binds K fd ps []
section
variable {X:Cx} {e o value:Expr} {es:List Expr} {te ta tv:TE} {t:TA} {f x:Str} {pos pos' p:Pos} {C:Addr} {k:Nat} {ps:List Str} {sp:Sp}
theorem eE (K:Q0) (he:SE X e te) (h:X.K=K:=by rfl) (hb:attributeBase e f X.env (eval e X.env)=eval e X.env:=by rfl):SE X (.Attribute e f pos) (tFld K te f):=by subst h;exact ⟨a1O he.h hb⟩
theorem tK (K:Q0) (ha:SE X o ta) (hv:SE X value tv) (h:X.K=K:=by rfl) (hs:swapsWith value (some (.Attribute o f pos')) pos.line X.env=pure false:=by rfl):SS X (.Assign [.Attribute o f pos'] value pos) (sFld K ta tv f):=by subst h;exact ⟨a0z ha.h hv.h hs⟩
theorem oJ (F:ClK X.prog X.w X.K X.mg X.base k x C ps sp) (hr:Room (k+1) X.A) (ha:SA X (e::es) t) (hg:Gl X x:=by rfl) (hdb:(x==("__debug__":Str))=false:=by decide)
  (he:starEach (e::es) X.env=(false,eval e X.env)::starEach es X.env:=by rfl) (hpl:(backTo pos (starEach es X.env)).any (·.1)=false:=by rfl):
  SE X (.Call (.Name x p) (e::es) [] pos) (tMake C sp [] E0 t):=by
 obtain ⟨m,f,fd,M,G,b⟩:=F
 exact ⟨a0N M G hr hg m b .nil pass0 ha.h hdb he hpl⟩
end
theorem ClT.okS {P:Program} {w:World} {K:Q0} {mg:Str->Option Value} {base:Heap} {x q:Str} {st:Stmt} {N ps fs:List Str} {k:Nat} {sp:Sp} {C:Addr} (F:ClT K mg x q st ps fs C) (S:FnScope N ps (defScope st)) (len:∀ vs H Q E,sp vs H Q E->vs.length=ps.length)
  (hbody:∀ (f:Addr) (cdv:Value) (A:Around) (outer:List Env) (s:Shared) (H:Hp) (vs:List V) (Q:VK) (E:XK),Room k (A.deeper (envOfC q (defScope st) s.heap.objs.size f cdv))->sp vs H Q E->
   ∃ t,SB (cxOf CX0 P w K mg base N q (defScope st) f cdv A outer s H E).nox (defBody st) t/\t {nx:=fun _ H'=>Q .non H',rt:=Q} (start N vs) H):ClK P w K mg base (k+1) x C ps sp:=by
 obtain ⟨m,_,_,f,fd,M,Fu,b⟩:=F
 exact ⟨m,f,fd,M,Fu.ok S len fun cdv A outer s H vs Q E hr h=>let ⟨t,h1,h2⟩:=hbody f cdv A outer s H vs Q E hr h;⟨t,h1.h,h2⟩,b⟩
section
variable {X:Cx}
theorem Inv.freezeT {pins:List (Addr×Obj)} {σ:St} {H:Hp} {s:Shared} {a:Addr} {kvs:List (List Key×V)} (I:Inv X pins σ H s) (h:Rd H a (.dT kvs)):∃ o,Inv X pins σ (upd H a (.frz o (.dT kvs))) s:=by
 rcases h with h | ⟨o,h⟩
 ·have ok:=(show ObjOk X.prog X.w H s.heap a (.dT kvs) from I.hok a _ h)
  obtain ⟨z,hd,xs,rel,o,es,ep,h1,h2,h3,h4,h5⟩:=ok
  refine ⟨o,I.write (x:=a) (e:=a) (h':=s.heap) (t':=s.toks) (o:=.frz o (.dT kvs)) (by rw [h];exact True.intro) (.inl rfl) (fun b u _ q=>q) ⟨o,h1⟩ ⟨h1,z,hd,xs,?_,o,es,ep,h1,h2,h3,h4,h5⟩⟩
  exact (show KT H kvs xs from rel).keeps fun c ys ec=>ec.upd fun u hu z=>by subst z;rcases ec with ec | ⟨_,ec⟩<;>(rw [h] at ec;cases ec)
 ·exact ⟨o,by rw [qF h];exact I⟩
def tFrz (te:TE):TE:=fun σ H Q=>te σ H fun x H1=>∃ a,x=.ref a/\((∃ kvs,Rd H1 a (.dK kvs)/\∀ o,Q x (upd H1 a (.frz o (.dK kvs))))\/∃ kvs,Rd H1 a (.dT kvs)/\∀ o,Q x (upd H1 a (.frz o (.dT kvs))))
theorem mC {e:Expr} {te:TE} (he:SE X e te):SE X e (tFrz te):=by
 constructor
 intro pins s σ H Q I h
 refine thn (he.h pins s σ H _ I h) ?_
 rintro v s1 ⟨x,H1,I1,r1,a,ex,q⟩
 rcases q with ⟨kvs,hr,q⟩ | ⟨kvs,hr,q⟩
 ·obtain ⟨o,es,ep,hd,I2,ho⟩:=I1.freeze hr
  exact ⟨x,_,I2,r1,q o⟩
 ·obtain ⟨o,I2⟩:=I1.freezeT hr
  exact ⟨x,_,I2,r1,q o⟩
end
def valAt (kvs:List (Key×V)) (i:Nat):V:=((kvs[i]?).map fun kv=>kv.2).getD .non
def Iti (a:Addr) (o:Obj) (kvs:List (Key×V)):It:=⟨fun i H=>H a=some (.frz o (.dK kvs))/\i < kvs.length,fun i H x H'=>pairY (keyAt kvs i) (valAt kvs i) H x H',fun i H=>H a=some (.frz o (.dK kvs))/\kvs.length=i⟩
theorem n5 {a:Addr} {o:Obj} (kvs:List (Key×V)):ItP (Iti a o kvs) (fun H=>H a=some (.frz o (.dK kvs))) kvs.length (keyAt kvs) (valAt kvs):=fun H ok=>⟨fun i hi=>⟨⟨ok,hi⟩,fun x H' h=>h⟩,ok,rfl⟩
theorem a04 {kvs:List (Key×V)} {vs:List (Key×Value)} (r:KV kvs vs):∀ {i:Nat} {p:Key×V},kvs[i]? =some p->∃ q,vs[i]? =some q/\q.1=p.1/\RelV p.2 q.2:=by
 intro i
 induction r generalizing i with
 | nil=>intro p h;simp at h
 | cons a t ih=>
  intro p h
  cases i with
  | zero=>simp at h;subst h;exact ⟨_,by simp,a.1.symm,a.2⟩
  | succ i=>simp at h;simpa using ih h
theorem sF {P:Program} {w:World} {K:Q0} {elts:List Expr} {k:Nat} {pos:Pos} {a it:Addr} {o:Obj} {kvs:List (Key×V)} {ep:Nat} (hai:a≠it) (hep:∃ es,o.data=.dict es ep):
  Turn P w K (.Tuple elts k pos) (Iti a o kvs) [it] it (fun i h=>∃ ok ov,IsItemIter h it a i kvs.length ep ok ov) where
 mem:=by simp
 obj:=fun i h st b hb=>by
  have e:b=it:=by simpa using hb
  subst e
  obtain ⟨ok,ov,he⟩:=st
  exact ⟨_,he,fun v z=>by
   have z':Data.fields _=Data.cell v:=z
   cases z'⟩
 keep:=fun i h h' st k=>let ⟨ok,ov,he⟩:=st;⟨ok,ov,k it (by simp) _ he⟩
 item:=by
  intro X hP hw hK hc i pins s σ H E I hf st hg
  subst hP hw hK
  obtain ⟨ok,ov,he⟩:=st
  obtain ⟨hq,hi⟩:=hg
  obtain ⟨e,z,hd,vs,rel,ob,es,ep',h1,h2,h3,h4⟩:=(show ObjOk X.prog X.w H s.heap a (.frz o (.dK kvs)) from I.hok a _ hq)
  obtain ⟨es',he'⟩:=hep
  rw [e] at h1;cases h1
  rw [he'] at h3;injection h3 with h3a h3b
  subst h3a h3b
  obtain ⟨q,hq1,hq2,hq3⟩:=a04 rel (Qa hi)
  have hl:=rel.len
  obtain ⟨qk,qv⟩:=q
  refine wpAny_pyNext_items_item (knd:=mixKind X.prog X.w) (kvs:=vs) (ep:=ep) (ok:=ok) (ov:=ov) (by rw [<- hl];exact he) ⟨o,es',e,h2,he',h4⟩ hq1 fun key h' hk ho hT hsz hkp=>?_
  have rk:RelV (keyAt kvs i) key:=by
   unfold keyAt
   rw [Qa hi]
   show RelV (kV kvs[i].1) key
   have hqk:qk=kvs[i].1:=hq2
   rw [<- hqk]
   exact pN hk
  have rv:RelV (valAt kvs i) qv:=by
   unfold valAt
   rw [Qa hi]
   exact hq3
  have I1:Inv X pins σ (upd H s.heap.objs.size (.tup [keyAt kvs i,valAt kvs i])) {s with heap:=h'}:=I.turnedT (t':=s.toks) hf (fun b o hb e=>hkp b o (fun z=>hb (by simp [z])) e) (Qy _) (o7 rk rv hT)
  refine ⟨_,rfl,wpAny_letOwnedTupleGo_items (s:={s with heap:=h'}) ho fun h'' he'' sb=>?_⟩
  have hlt:it≠s.heap.objs.size:=Nat.ne_of_lt (Qz he)
  obtain ⟨f0,f1,f2,f3,f4,f5⟩:=hf it (by simp)
  have f0':upd H s.heap.objs.size (.tup [keyAt kvs i,valAt kvs i]) it=none:=by rw [aD hlt];exact f0
  refine ⟨.ref s.heap.objs.size,_,I1.turned (t':=s.toks) (fun b o hb q=>(sb.2 b hb).trans q) f0' f1 f3 f4 f5,rfl,⟨_,rfl,I.hok.fresh (Qy _),rfl⟩,⟨_,_,by rw [hl];exact he''⟩,fun b hb=>?_⟩
  have e:b=it:=by simpa using hb
  subst e
  exact f0'
 done:=by
  intro X hP hw hK hc i pins s σ H E I hf st hg
  subst hP hw hK
  obtain ⟨ok,ov,he⟩:=st
  obtain ⟨hq,hi⟩:=hg
  obtain ⟨e,z,hd,vs,rel,ob,es,ep',h1,h2,h3,h4⟩:=(show ObjOk X.prog X.w H s.heap a (.frz o (.dK kvs)) from I.hok a _ hq)
  obtain ⟨es',he'⟩:=hep
  rw [e] at h1;cases h1
  rw [he'] at h3;injection h3 with h3a h3b
  subst h3a h3b
  have hl:=rel.len
  obtain ⟨f0,f1,f2,f3,f4,f5⟩:=hf it (by simp)
  exact wpAny_pyNext_items_end (knd:=mixKind X.prog X.w) (kvs:=vs) (ep:=ep) (ok:=ok) (ov:=ov) (I.ok.hd hc) (by rw [<- hl];exact he) ⟨o,es',e,h2,he',h4⟩ (by simp;omega) fun h' eb=>⟨rfl,I.turned (t':=s.toks) (fun b o hb e=>eb b o hb e) f0 f1 f3 f4 f5⟩
 self:=fun _ _ _ _ _ st h=>let ⟨_,_,he⟩:=st;PySem.W.kcp_self he h
section
variable {X:Cx} {elts:List Expr} {k:Nat} {tpos apos cpos:Pos} {o:Expr} {to:TE}
def iItems (te:TE):TI:=fun σ H R=>te σ H fun x H1=>∃ a kvs,x=.ref a/\((∃ o,H1 a=some (.frz o (.dK kvs))/\R (Iti a o kvs) H1)\/(H1 a=some (.dK kvs)/\∀ o,R (Iti a o kvs) (upd H1 a (.frz o (.dK kvs)))))
theorem qJ (ho:SE X o to) (hbase:attributeBase o "items" X.env (eval o X.env)=eval o X.env:=by rfl) (hline:(apos.endLine==cpos.line)=true:=by rfl):
  SI X (.Tuple elts k tpos) (.Call (.Attribute o "items" apos) [] [] cpos) (iItems to):=by
 constructor
 intro pins s σ H R I h
 refine wpAny_Call_method0_late hbase hline (thn (ho.h pins s σ H _ I h) ?_)
 rintro v s1 ⟨x,H1,I1,r1,a,kvs,ex,hr⟩
 subst ex
 cases r1
 obtain ⟨o,H2,I2,hH2,q⟩:∃ (o:Obj) (H2:Hp),Inv X pins σ H2 s1/\H2 a=some (.frz o (.dK kvs))/\R (Iti a o kvs) H2:=by
  rcases hr with ⟨o,e,q⟩ | ⟨e,q⟩
  ·exact ⟨o,H1,I1,e,q⟩
  ·obtain ⟨o,_,_,_,I2,_⟩:=I1.freeze (.inl e)
   exact ⟨o,_,I2,a7,q o⟩
 obtain ⟨e,z,hdm,vs,rel,ob,es,ep,h1,h2,hd,h4⟩:=(show ObjOk X.prog X.w _ s1.heap a (.frz o (.dK kvs)) from I2.hok a _ hH2)
 rw [e] at h1;cases h1
 have hl:=rel.len
 have hT:s1.TypeIs (.ref a) "dict":=⟨o,e,h2.1⟩
 refine ⟨"dict","dict.items",PySem.F.plainAttrs_dict,PySem.F.slot_dict_items,PySem.F.type_dict_items,hT,fun b hb=>by cases hb;exact ⟨o,e,h2.2.1⟩,Calls.callWith_builtin rfl (PySem.evalArgs_none ?_)⟩
 refine call_meetsIn PySem.F.slot_dict_items hT PySem.F.entry_dict_items (PySem.F.args_dict_items_1 _) (meets_dict_items (mixKind X.prog X.w) a hdm) ⟨⟨vs,o,es,ep,e,h2,hd,h4⟩,?_⟩
 have I3:Inv X pins σ H2 {s1 with heap:=s1.heap.push {cls:=.type "dict_items",data:=.fields #[.ref a]}}:=I2.kept (t':=s1.toks) fun b o e=>Qc _ e
 refine wpAny_pyIter_items (knd:=mixKind X.prog X.w) (kvs:=vs) (ep:=ep) ⟨_,Qd _ rfl,rfl,rfl⟩ ⟨o,es,Qc _ e,h2,hd,h4⟩ ?_
 have hne:a≠(s1.heap.push {cls:=.type "dict_items",data:=.fields #[.ref a]}).objs.size:=by
  rw [Heap.size_push];exact Nat.ne_of_lt (Nat.lt_succ_of_lt (Qz e))
 refine ⟨_,[(s1.heap.push {cls:=.type "dict_items",data:=.fields #[.ref a]}).objs.size],_,_,_,rfl,I3.kept (t':=s1.toks) fun b o e=>Qc _ e,sF (kvs:=kvs) (a:=a) (o:=o) hne ⟨es,hd⟩,⟨.none,.none,by rw [hl];exact Qd _ rfl⟩,fun b hb=>?_,q⟩
 have e:b=(s1.heap.push {cls:=.type "dict_items",data:=.fields #[.ref a]}).objs.size:=by simpa using hb
 subst e
 exact I3.fpOk (Qy _) (I3.hok.fresh (Qy _))
end
end L2
set_option maxRecDepth 100000
namespace PySem
end PySem
namespace L2
open PySem PySem.Spec PyProof.Rows
section
variable {X:Cx}
end
end L2
set_option maxRecDepth 100000
namespace L2
open PySem PySem.Spec PyProof.Rows
theorem RdT.inj {H:Hp} {a:Addr} {xs ys:List V} (h:RdT H a xs) (h':RdT H a ys):xs=ys:=by
 rcases h with h | ⟨o,h⟩<;>rcases h' with h' | ⟨o',h'⟩<;>(rw [h] at h';cases h')<;>rfl
section
variable {X:Cx} {pins:List (Addr×Obj)} {σ:St} {H:Hp} {s:Shared}
end
section
variable {X:Cx} {o e:Expr} {es:List Expr} {apos cpos:Pos} {to:TE} {t:TA}
end
theorem oB {X:Cx} {a0:Expr} {n:Str} {pos0:Pos} {es:List Expr} {te:TE} {t:TA} (ha:SE X (.Attribute a0 n pos0) te) (hr:SA X es t):SA X (.Attribute a0 n pos0::es) (tCons te t):=⟨dS ha.h hr.h⟩
theorem a0B {K:Q0} {a:Addr} {it:Array Value} {n:Nat} {sq:Array (Option Value)} {xs:List V} (gl:K.lookup a=some ⟨.type "tuple",none,.seq it n,sq⟩) (gv:Vals xs it.toList) (gz:xs.length<=sizeLine):KTup K (a,⟨.type "tuple",none,.seq it n,sq⟩,xs):=
 ⟨gl,it.toList,n,rfl,rfl,by simp,gv,gz⟩
theorem sC {K:Q0} {as:List Addr} {h:Heap} (x:K.In h):(without K as).In h:=fun a o e=>by
 rw [cS] at e
 by_cases hc:as.contains a=true
 ·rw [if_pos hc] at e;cases e
 ·rw [if_neg hc] at e;exact x a o e
end L2
set_option autoImplicit false
set_option maxRecDepth 100000
namespace L2
open PySem PySem.Spec PySem.W PyProof.Rows
def notFreed:Data->Bool
 | .freed=>false
 | _=>true
def fragFrom:Nat->List Obj->Frag
 | _,[]=>[]
 | n,o::os=>if notFreed o.data then (n,o)::fragFrom (n+1) os else fragFrom (n+1) os
def fragAll (h:Heap):Frag:=fragFrom 0 h.objs.toList
theorem fV:∀ {os:List Obj} {n a:Nat} {o:Obj},(fragFrom n os).lookup a=some o->n<=a/\os[a - n]? =some o/\notFreed o.data=true
 | [],n,a,o,h=>by simp [fragFrom] at h
 | x::os,n,a,o,h=>by
  unfold fragFrom at h
  have next:(fragFrom (n+1) os).lookup a=some o->n<=a/\(x::os)[a - n]? =some o/\notFreed o.data=true:=fun h=>by
   obtain ⟨h1,h2,h3⟩:=fV h
   refine ⟨by omega,?_,h3⟩
   obtain ⟨k,hk⟩:∃ k,a - n=k+1:=⟨a - n - 1,by omega⟩
   rw [hk,List.getElem?_cons_succ,<- h2]
   congr 1;omega
  split at h
  ·rename_i hf
   rw [List.lookup_cons] at h
   split at h
   ·rename_i e
    obtain rfl:a=n:=by simpa using e
    cases h
    exact ⟨Qy _,by simp,hf⟩
   ·exact next h
  ·exact next h
theorem sQ (h:Heap):(fragAll h).In h:=fun a o e=>by
 obtain ⟨_,h2,h3⟩:=fV e
 have h2':h.objs[a]? =some o:=by rw [<- Array.getElem?_toList];simpa using h2
 unfold Heap.get?
 rw [h2']
 obtain ⟨c,d,dt,sl⟩:=o
 cases dt<;>first | rfl | cases h3
def seeHook {α:Type} (look:Frag->α) (want:World->α):Hook where
 α:=α
 obs s:=look (fragAll s.heap)
 val:=want
 says w h:=∃ K:Frag,K.In h/\look K=want w
 of:=fun w s e=>⟨fragAll s.heap,sQ _,e⟩
 keeps:=fun w h h' ⟨K,x,e⟩ k=>⟨K,fun a o l=>k a o (x a o l),e⟩
theorem wC {p q:Program} {loose:List Str} {Xt:Shared->Bool} {α:Type} {Yf:Shared->α} {Ya:World->α} {N:Nat} {g0:Bool} (row:String)
  (hF:∀ w:World,(openEnds treeTable p (w.withFollow row false) N).map (fun s=>(openSeen q loose (importedModules p.main.body) Xt g0 s,Yf s))=some (openGood q loose,Ya (w.withFollow row false)))
  (hT:∀ w:World,(openEnds treeTable p (w.withFollow row true) N).map (fun s=>(openSeen q loose (importedModules p.main.body) Xt g0 s,Yf s))=some (openGood q loose,Ya (w.withFollow row true))):LeftO p q loose Xt Yf Ya N g0:=fun w=>by
 have e:=World.withFollow_self w row
 cases hb:w.params.followText row<;>rw [hb] at e
 ·have:=hF w;rw [e] at this;exact this
 ·have:=hT w;rw [e] at this;exact this
abbrev FnL:=Str×Str×Arguments×FuncBody×Scope×Addr×List (Str×Addr)×Value×Addr×Bool
def fnAt (K:Frag) (q:Str):Option (Option Value)->Option FnL
 | some (some (.ref f))=>(match K.lookup f with
  | some ⟨_,_,.func fd,_⟩=>some (fd.name,fd.qualname,fd.params,fd.body,fd.scope,fd.globals,fd.closure,fd.defaults,fd.builtins,codeIn K fd.code q)
  | _=>none)
 | _=>none
def fnWant (x q:Str) (st:Stmt):FnL:=(x,q,defArgs st,.stmts (defBody st),defScope st,mainGlobals,[],.none,builtinsNs,true)
def fnsLook (K:Frag):List (Str×Stmt)->List (Option FnL)
 | []=>[]
 | x::l=>fnAt K x.1 (nsIn K mainGlobals x.1)::fnsLook K l
def fnsWant:List (Str×Stmt)->List (Option FnL)
 | []=>[]
 | x::l=>some (fnWant x.1 x.1 x.2)::fnsWant l
def valLook (K:Frag) (x:Str):Option V:=match nsIn K mainGlobals x with
 | some (some v)=>absV v
 | _=>none
def valsLook (K:Frag):List (Str×V)->List (Option V)
 | []=>[]
 | x::l=>valLook K x.1::valsLook K l
def valsWant:List (Str×V)->List (Option V)
 | []=>[]
 | x::l=>some x.2::valsWant l
abbrev TupL:=Value×Option Addr×List (Option V)
def absL:List Value->List (Option V)
 | []=>[]
 | v::l=>absV v::absL l
def someL:List V->List (Option V)
 | []=>[]
 | v::l=>some v::someL l
def tupAt (K:Frag):Value->Option TupL
 | .ref a=>(match K.lookup a with
  | some ⟨c,d,.seq it _,_⟩=>some (c,d,absL it.toList)
  | _=>none)
 | _=>none
def tupWant (xs:List V):TupL:=(.type "tuple",none,someL xs)
def tupLook (K:Frag) (x:Str):Option TupL:=match nsIn K mainGlobals x with
 | some (some v)=>tupAt K v
 | _=>none
def tupsLook (K:Frag):List (Str×List V)->List (Option TupL)
 | []=>[]
 | x::l=>tupLook K x.1::tupsLook K l
def tupsWant:List (Str×List V)->List (Option TupL)
 | []=>[]
 | x::l=>some (tupWant x.2)::tupsWant l
def noneLook (K:Frag):List Str->Bool
 | []=>true
 | x::l=>(match nsIn K mainGlobals x with | some none=>true | _=>false)&&noneLook K l
section
variable {K:Frag} {h:Heap} {mg:Str->Option Value}
theorem j3 {v:Value} {x:V} (e:absV v=some x):RelV x v:=by
 cases v<;>first | (cases e;first | rfl | exact ⟨_,rfl⟩) | cases e
theorem mO:∀ {us:List Value} {xs:List V},absL us=someL xs->Vals xs us
 | [],[],_=>.nil
 | [],_::_,e=>by cases e
 | _::_,[],e=>by cases e
 | u::us,x::xs,e=>by
  have e':=List.cons.inj (show absV u::absL us=some x::someL xs from e)
  exact .cons (j3 e'.1) (mO e'.2)
theorem tW {q x:Str} {st:Stmt} {v:Option (Option Value)} (e:fnAt K q v=some (fnWant x q st)):∃ f fd,v=some (some (.ref f))/\Fun K x q st f fd:=by
 unfold fnAt at e
 split at e
 ·rename_i f
  split at e
  ·rename_i oc od fd osl hl
   have e:=QD e
   unfold fnWant at e
   obtain ⟨n,qn,ps,b,sc,gl,cl,df,kd,doc,pm,an,cd,ct,bt⟩:=fd
   simp only [Prod.mk.injEq] at e
   obtain ⟨rfl,rfl,rfl,rfl,rfl,rfl,rfl,rfl,rfl,hc⟩:=e
   refine ⟨f,_,rfl,a0n hl hc ?_⟩
   unfold keepIn
   simp only [hl]
  ·cases e
 ·cases e
theorem tL:∀ {l:List (Str×Stmt)},fnsLook K l=fnsWant l->∀ (i:Nat) {x:Str} {st:Stmt},l[i]? =some (x,st)->fnAt K x (nsIn K mainGlobals x)=some (fnWant x x st)
 | y::l,e,0,x,st,h=>by cases h;exact (List.cons.inj e).1
 | y::l,e,i+1,x,st,h=>tL (List.cons.inj e).2 i (by simpa using h)
theorem lF (X:K.In h) (G:h.Ns mainGlobals mg) {l:List (Str×Stmt)} (e:fnsLook K l=fnsWant l) (i:Nat) {x:Str} {st:Stmt} {ps:List Str} (hi:l[i]? =some (x,st))
  (hb:∀ (kV doc pm:Value) (an:Option Addr) (cdv ct:Value) (us:List Value),us.length=ps.length->bindArgs (fnOf x x (defArgs st) (defBody st) (defScope st) .none kV doc pm an cdv ct) ⟨us,[]⟩=pure (ps.zip us)):FnT K mg x st ps:=by
 obtain ⟨f,fd,e1,F⟩:=tW (tL e i hi)
 exact ⟨f,fd,F,mg_of X G e1,F.binds hb⟩
variable {x:Str} {st:Stmt} {l:List (Str×Stmt)} {p0 p1 p2 p3 p4 p5 p6:Str}
theorem lnT {n:Nat} {us:List Value} (h:us.length=n+1):∃ a t,us=a::t/\t.length=n:=by
 cases us with
 | nil=>cases h
 | cons a t=>exact ⟨a,t,rfl,by simpa using h⟩
theorem fn1 (X:K.In h) (G:h.Ns mainGlobals mg) (e:fnsLook K l=fnsWant l) (i:Nat) (hi:l[i]? =some (x,st):=by rfl)
  (hb:∀ (kV doc pm:Value) (an:Option Addr) (cdv ct a0:Value),bindArgs (fnOf x x (defArgs st) (defBody st) (defScope st) .none kV doc pm an cdv ct) ⟨[a0],[]⟩=pure [(p0,a0)]:=by intros;rfl):FnT K mg x st [p0]:=
 lF X G e i hi fun a b c d f g us hl=>by
  obtain ⟨a0,us0,rfl,hl0⟩:=lnT (n:=0) hl
  obtain rfl:=QS hl0
  exact hb ..
theorem fn2 (X:K.In h) (G:h.Ns mainGlobals mg) (e:fnsLook K l=fnsWant l) (i:Nat) (hi:l[i]? =some (x,st):=by rfl)
  (hb:∀ (kV doc pm:Value) (an:Option Addr) (cdv ct a0 a1:Value),bindArgs (fnOf x x (defArgs st) (defBody st) (defScope st) .none kV doc pm an cdv ct) ⟨[a0,a1],[]⟩=pure [(p0,a0),(p1,a1)]:=by intros;rfl):FnT K mg x st [p0,p1]:=
 lF X G e i hi fun a b c d f g us hl=>by
  obtain ⟨a0,us0,rfl,hl0⟩:=lnT (n:=1) hl
  obtain ⟨a1,us1,rfl,hl1⟩:=lnT (n:=0) hl0
  obtain rfl:=QS hl1
  exact hb ..
theorem fn3 (X:K.In h) (G:h.Ns mainGlobals mg) (e:fnsLook K l=fnsWant l) (i:Nat) (hi:l[i]? =some (x,st):=by rfl)
  (hb:∀ (kV doc pm:Value) (an:Option Addr) (cdv ct a0 a1 a2:Value),bindArgs (fnOf x x (defArgs st) (defBody st) (defScope st) .none kV doc pm an cdv ct) ⟨[a0,a1,a2],[]⟩=pure [(p0,a0),(p1,a1),(p2,a2)]:=by intros;rfl):FnT K mg x st [p0,p1,p2]:=
 lF X G e i hi fun a b c d f g us hl=>by
  obtain ⟨a0,us0,rfl,hl0⟩:=lnT (n:=2) hl
  obtain ⟨a1,us1,rfl,hl1⟩:=lnT (n:=1) hl0
  obtain ⟨a2,us2,rfl,hl2⟩:=lnT (n:=0) hl1
  obtain rfl:=QS hl2
  exact hb ..
theorem fn4 (X:K.In h) (G:h.Ns mainGlobals mg) (e:fnsLook K l=fnsWant l) (i:Nat) (hi:l[i]? =some (x,st):=by rfl)
  (hb:∀ (kV doc pm:Value) (an:Option Addr) (cdv ct a0 a1 a2 a3:Value),bindArgs (fnOf x x (defArgs st) (defBody st) (defScope st) .none kV doc pm an cdv ct) ⟨[a0,a1,a2,a3],[]⟩=pure [(p0,a0),(p1,a1),(p2,a2),(p3,a3)]:=by intros;rfl):FnT K mg x st [p0,p1,p2,p3]:=
 lF X G e i hi fun a b c d f g us hl=>by
  obtain ⟨a0,us0,rfl,hl0⟩:=lnT (n:=3) hl
  obtain ⟨a1,us1,rfl,hl1⟩:=lnT (n:=2) hl0
  obtain ⟨a2,us2,rfl,hl2⟩:=lnT (n:=1) hl1
  obtain ⟨a3,us3,rfl,hl3⟩:=lnT (n:=0) hl2
  obtain rfl:=QS hl3
  exact hb ..
theorem fn5 (X:K.In h) (G:h.Ns mainGlobals mg) (e:fnsLook K l=fnsWant l) (i:Nat) (hi:l[i]? =some (x,st):=by rfl)
  (hb:∀ (kV doc pm:Value) (an:Option Addr) (cdv ct a0 a1 a2 a3 a4:Value),bindArgs (fnOf x x (defArgs st) (defBody st) (defScope st) .none kV doc pm an cdv ct) ⟨[a0,a1,a2,a3,a4],[]⟩=pure [(p0,a0),(p1,a1),(p2,a2),(p3,a3),(p4,a4)]:=by intros;rfl):FnT K mg x st [p0,p1,p2,p3,p4]:=
 lF X G e i hi fun a b c d f g us hl=>by
  obtain ⟨a0,us0,rfl,hl0⟩:=lnT (n:=4) hl
  obtain ⟨a1,us1,rfl,hl1⟩:=lnT (n:=3) hl0
  obtain ⟨a2,us2,rfl,hl2⟩:=lnT (n:=2) hl1
  obtain ⟨a3,us3,rfl,hl3⟩:=lnT (n:=1) hl2
  obtain ⟨a4,us4,rfl,hl4⟩:=lnT (n:=0) hl3
  obtain rfl:=QS hl4
  exact hb ..
theorem pA {v:Value} {xs:List V} (e:tupAt K v=some (tupWant xs)):∃ (a:Addr) (it:Array Value) (n:Nat) (sq:Array (Option Value)),v=.ref a/\K.lookup a=some ⟨.type "tuple",none,.seq it n,sq⟩/\Vals xs it.toList:=by
 unfold tupAt at e
 split at e
 ·rename_i a
  split at e
  ·rename_i c d it n sl hl
   have e:=QD e
   unfold tupWant at e
   simp only [Prod.mk.injEq] at e
   obtain ⟨rfl,rfl,e3⟩:=e
   exact ⟨a,it,n,sl,rfl,hl,mO e3⟩
  ·cases e
 ·cases e
theorem i7 {xs:List V} (e:tupLook K x=some (tupWant xs)):∃ (a:Addr) (it:Array Value) (n:Nat) (sq:Array (Option Value)),nsIn K mainGlobals x=some (some (.ref a))/\K.lookup a=some ⟨.type "tuple",none,.seq it n,sq⟩/\Vals xs it.toList:=by
 unfold tupLook at e
 split at e
 ·rename_i u hn
  obtain ⟨a,it,n,sq,rfl,h1,h2⟩:=pA e
  exact ⟨a,it,n,sq,hn,h1,h2⟩
 ·cases e
theorem lH:∀ {l:List (Str×List V)},tupsLook K l=tupsWant l->∀ (i:Nat) {x:Str} {v:List V},l[i]? =some (x,v)->tupLook K x=some (tupWant v)
 | y::l,e,0,x,st,h=>by cases h;exact (List.cons.inj e).1
 | y::l,e,i+1,x,st,h=>lH (List.cons.inj e).2 i (by simpa using h)
theorem wV {a:Addr} {it:Array Value} {n:Nat} {d:Option Addr} {sq:Array (Option Value)} {xs:List V} (hl:K.lookup a=some ⟨.type "tuple",d,.seq it n,sq⟩) (hv:Vals xs it.toList) (hz:xs.length<=sizeLine) (H:Hp):SqT K H a xs:=
 .inr ⟨_,it,n,hl,rfl,rfl,by have:=hv.length;simp at this;omega,hv⟩
theorem tu (X:K.In h) (G:h.Ns mainGlobals mg) {l:List (Str×List V)} (e:tupsLook K l=tupsWant l) (i:Nat) {v:List V} (hi:l[i]? =some (x,v):=by rfl) (hz:v.length<=sizeLine:=by decide):∃ a,mg x=some (.ref a)/\∀ H,SqT K H a v:=by
 obtain ⟨a,it,n,sq,h1,h2,h3⟩:=i7 (lH e i hi)
 exact ⟨a,mg_of X G h1,wV h2 h3 hz⟩
theorem qG:∀ {l:List Str},noneLook K l=true->∀ (i:Nat) {x:Str},l[i]? =some x->nsIn K mainGlobals x=some none
 | y::l,e,0,x,h=>by
  cases h
  unfold noneLook at e
  rw [Bool.and_eq_true_iff] at e
  have e:=e.1
  split at e
  ·assumption
  ·cases e
 | y::l,e,i+1,x,h=>by
  unfold noneLook at e
  rw [Bool.and_eq_true_iff] at e
  exact qG e.2 i (by simpa using h)
theorem nn (X:K.In h) (G:h.Ns mainGlobals mg) {l:List Str} (e:noneLook K l=true) (i:Nat) (hi:l[i]? =some x:=by rfl):mg x=none:=mg_none_of X G (qG e i hi)
end
inductive DvL where
 | v (x:Option V)
 | t (x:Option TupL)
abbrev DctL:=Value×Option Addr×Nat×Bool×List (Int×Option V×DvL)
def dvAt (K:Frag) (v:Value):DvL:=match v with
 | .ref _=>.t (tupAt K v)
 | _=>.v (absV v)
def entsLook (K:Frag):List DictEntry->List (Int×Option V×DvL)
 | []=>[]
 | e::l=>(e.hash,absV e.key,dvAt K e.val)::entsLook K l
def dctLook (K:Frag) (x:Str):Option DctL:=match nsIn K mainGlobals x with
 | some (some (.ref a))=>(match K.lookup a with
  | some ⟨c,d,.dict es _,sl⟩=>some (c,d,sl.size,a==sysModules,entsLook K es.toList)
  | _=>none)
 | _=>none
abbrev DEnt:=Str×(V ⊕ List V)
def entsWant (w:World):List DEnt->List (Int×Option V×DvL)
 | []=>[]
 | (k,.inl v)::l=>(keyH w (.inr k),some (.str k),.v (some v))::entsWant w l
 | (k,.inr v)::l=>(keyH w (.inr k),some (.str k),.t (some (tupWant v)))::entsWant w l
def dctWant (w:World) (l:List DEnt):DctL:=(.type "dict",none,0,false,entsWant w l)
def dctsLook (K:Frag):List (Str×List DEnt)->List (Option DctL)
 | []=>[]
 | x::l=>dctLook K x.1::dctsLook K l
def dctsWant (w:World):List (Str×List DEnt)->List (Option DctL)
 | []=>[]
 | x::l=>some (dctWant w x.2)::dctsWant w l
def EntV (K:Frag):List DEnt->List V->Prop
 | [],[]=>True
 | (_,.inl v)::l,u::us=>u=v/\EntV K l us
 | (_,.inr xs)::l,u::us=>(∃ a,u=.ref a/\∀ H,SqT K H a xs)/\EntV K l us
 | _,_=>False
def entKV:List DEnt->List V->List (Key×V)
 | e::l,u::us=>(.inr e.1,u)::entKV l us
 | _,_=>[]
def entsOk:List DEnt->Bool
 | []=>true
 | (_,.inl _)::l=>entsOk l
 | (_,.inr xs)::l=>decide (xs.length<=1000)&&entsOk l
section
variable {K:Frag} {h:Heap} {mg:Str->Option Value} {w:World}
theorem jC:∀ {l:List DEnt},entsOk l=true->∀ e∈l,∀ xs,e.2=.inr xs->xs.length<=sizeLine
 | (_,.inl _)::l,h,e,he,xs,hx=>by
  rcases Qp.mp he with rfl | he
  ·cases hx
  ·exact jC (l:=l) h e he xs hx
 | (_,.inr ys)::l,h,e,he,xs,hx=>by
  unfold entsOk at h
  rw [Bool.and_eq_true_iff,decide_eq_true_iff] at h
  rcases Qp.mp he with rfl | he
  ·cases hx;exact Nat.le_trans h.1 (by decide)
  ·exact jC (l:=l) h.2 e he xs hx
theorem a2B {k:Str} {v:V} {l:List DEnt} {us:List V} (e:EntV K ((k,.inl v)::l) us):∃ vs,us=v::vs/\EntV K l vs:=by
 cases us with
 | nil=>exact False.elim e
 | cons u vs=>obtain ⟨rfl,r⟩:=(show u=v/\EntV K l vs from e);exact ⟨vs,rfl,r⟩
theorem a2U {us:List V} (e:EntV K [] us):us=[]:=by
 cases us with
 | nil=>rfl
 | cons u vs=>exact False.elim e
theorem nE:∀ {l:List DEnt} {es:List DictEntry},entsLook K es=entsWant w l->(∀ e∈l,∀ xs,e.2=.inr xs->xs.length<=sizeLine)->∃ (us:List V) (vs:List (Key×Value)),EntV K l us/\(∀ P,Pairs (mixKind P w) es vs)/\(∀ P,∀ e∈es,∃ k,(mixKind P w).is k e.key=true/\e.hash=(mixKind P w).hash k)/\KV (entKV l us) vs/\vs.map (·.1)=l.map (fun e=>.inr e.1)
 | [],[],_,_=>⟨[],[],trivial,fun _=>.nil,(fun _ _ h=>nomatch h),.nil,rfl⟩
 | [],_::_,e,_=>by cases e
 | (_,.inl _)::_,[],e,_=>by cases e
 | (_,.inr _)::_,[],e,_=>by cases e
 | (k,.inl v)::l,d::es,e,hz=>by
  have e':=List.cons.inj (show (d.hash,absV d.key,dvAt K d.val)::entsLook K es=(keyH w (.inr k),some (.str k),.v (some v))::entsWant w l from e)
  obtain ⟨us,vs,h1,h2,h3,h4,h5⟩:=nE e'.2 fun x hx=>hz x (Qh _ hx)
  have e1:=e'.1
  simp only [Prod.mk.injEq] at e1
  obtain ⟨q1,q2,q3⟩:=e1
  obtain ⟨t,q2⟩:=j3 q2
  have q4:RelV v d.val:=by
   unfold dvAt at q3
   split at q3
   ·cases q3
   ·exact j3 (DvL.v.inj q3)
  have hk:∀ P,(mixKind P w).is (.inr k) d.key=true:=fun P=>by rw [q2];exact gP P w k t
  refine ⟨v::us,(.inr k,d.val)::vs,⟨rfl,h1⟩,fun P=>.cons (kv:=((Sum.inr k,d.val):Key×Value)) (hk P) rfl (h2 P),fun P y hy=>?_,.cons ⟨rfl,q4⟩ h4,by simp [h5]⟩
  rcases Qp.mp hy with rfl | hy
  ·exact ⟨.inr k,hk P,q1⟩
  ·exact h3 P y hy
 | (k,.inr xs)::l,d::es,e,hz=>by
  have e':=List.cons.inj (show (d.hash,absV d.key,dvAt K d.val)::entsLook K es=(keyH w (.inr k),some (.str k),.t (some (tupWant xs)))::entsWant w l from e)
  obtain ⟨us,vs,h1,h2,h3,h4,h5⟩:=nE e'.2 fun x hx=>hz x (Qh _ hx)
  have e1:=e'.1
  simp only [Prod.mk.injEq] at e1
  obtain ⟨q1,q2,q3⟩:=e1
  obtain ⟨t,q2⟩:=j3 q2
  have q4:tupAt K d.val=some (tupWant xs):=by
   unfold dvAt at q3
   split at q3
   ·exact DvL.t.inj q3
   ·cases q3
  obtain ⟨a,it,n,sq,q5,q6,q7⟩:=pA q4
  have hk:∀ P,(mixKind P w).is (.inr k) d.key=true:=fun P=>by rw [q2];exact gP P w k t
  refine ⟨.ref a::us,(.inr k,d.val)::vs,⟨⟨a,rfl,wV q6 q7 (hz _ (List.mem_cons_self ..) xs rfl)⟩,h1⟩,fun P=>.cons (kv:=((Sum.inr k,d.val):Key×Value)) (hk P) rfl (h2 P),fun P y hy=>?_,.cons ⟨rfl,by rw [q5];rfl⟩ h4,by simp [h5]⟩
  rcases Qp.mp hy with rfl | hy
  ·exact ⟨.inr k,hk P,q1⟩
  ·exact h3 P y hy
theorem a0t {x:Str} {l:List DEnt} (X:K.In h) (G:h.Ns mainGlobals mg) (e:dctLook K x=some (dctWant w l)) (hz':entsOk l=true) (nd:(l.map (·.1)).Nodup):∃ (a:Addr) (us:List V),mg x=some (.ref a)/\EntV K l us/\KD w K a (entKV l us):=by
 have hz:=jC hz'
 unfold dctLook at e
 split at e
 ·rename_i a hn
  split at e
  ·rename_i c d es ep sl hl
   have e:=QD e
   unfold dctWant at e
   simp only [Prod.mk.injEq] at e
   obtain ⟨rfl,rfl,e3,e4,e5⟩:=e
   obtain ⟨us,vs,h1,h2,h3,h4,h5⟩:=nE e5 hz
   refine ⟨a,us,mg_of X G hn,h1,fun P=>⟨_,es,ep,vs,hl,e4,⟨rfl,rfl,Array.eq_empty_of_size_eq_zero e3⟩,rfl,fun y hy=>h3 P y (by simpa using hy),h2 P,?_,h4⟩⟩
   rw [h5]
   have:l.map (fun e=>(Sum.inr e.1:Key))=(l.map (·.1)).map Sum.inr:=by simp
   rw [this]
   exact List.Pairwise.map _ (fun a b q c=>q (Sum.inr.inj c)) nd
  ·cases e
 ·cases e
theorem oY:∀ {l:List (Str×List DEnt)},dctsLook K l=dctsWant w l->∀ (i:Nat) {x:Str} {v:List DEnt},l[i]? =some (x,v)->dctLook K x=some (dctWant w v)
 | y::l,e,0,x,st,h=>by cases h;exact (List.cons.inj e).1
 | y::l,e,i+1,x,st,h=>oY (List.cons.inj e).2 i (by simpa using h)
end
theorem wL {l:OpenLaw} {n k:Nat} {q:Program} {loose:List Str} {XP:(Str->Option Value)->Heap->Prop} {d:DefRec} {α:Type} {look:Frag->α} {want:World->α} {x:Str}
  (hn:l.most=some n) (hn2:n<=sizeLine) (hdf:d.params.defaults=[]) (hr:Room k callerA)
  (F:∀ (w:World) (mg:Str->Option Value) (fa:Addr) (h:Heap) (K:Frag),K.In h->look K=want w->h.Ns mainGlobals mg->mg d.name=some (.ref fa)->
   ∃ (ts:List (Addr×Obj×List V)) (fd:FuncData) (sp:Sp),(∀ t∈ts,KTup K t)/\(ts.map (·.1)).Nodup/\(∀ (s:Shared) (u:Value),BindsTo s fd ⟨[u],[]⟩ [(x,u)])/\
    (∀ base:Heap,(without K (ts.map (·.1))).In base->base.Ns mainGlobals mg->FnOk l.prog w (without K (ts.map (·.1))) mg base CX0 k fa fd [x] sp)/\
    (∀ (H:Hp) (a:Addr) (ns:List Int),ns.length<=n->(∀ t∈ts,H t.1=some (.frz t.2.1 (.tup t.2.2)))->SqL (without K (ts.map (·.1))) H a (ns.map V.int)->sp [.ref a] H (fun v _=>v=.bl true) fun _ _ _=>False)):
  WalkO q loose XP (seeHook look want).says l.row.toRowW d [] (fun f vs=>PySem.call f vs):=by
 refine Att.qB hn hdf fun w s₀ s₁ mg mb fa o pm cd doc a vs ns G Y ho hd hcd hmg hobj hints hlen hg=>?_
 obtain ⟨K,KX,hl⟩:=Y
 obtain ⟨ts,fd,sp,hts,nd,hb,hF,hsp⟩:=F w mg fa _ K KX hl G.T.g hmg
 exact vW hts nd KX G.T.g G.T.b G.T.builtins G.T.nolimit hg hobj hints (Nat.le_trans hlen hn2) hr hF hb (fun H _ ht hS=>hsp H a ns hlen ht hS) fun _ _ _ z=>z
def trkAs (K:Frag):List (Str×List V)->List Addr
 | []=>[]
 | x::l=>(match nsIn K mainGlobals x.1 with | some (some (.ref a))=>a | _=>0)::trkAs K l
def shortL:List (Str×List V)->Bool
 | []=>true
 | x::l=>decide (x.2.length<=1000)&&shortL l
section
variable {K:Frag} {h:Heap} {mg:Str->Option Value}
theorem yB (X:K.In h) (G:h.Ns mainGlobals mg):∀ {l:List (Str×List V)},tupsLook K l=tupsWant l->shortL l=true->∃ ts:List (Addr×Obj×List V),ts.map (·.1)=trkAs K l/\(∀ t∈ts,KTup K t)/\∀ (i:Nat) (x:Str) (xs:List V),l[i]? =some (x,xs)->∃ t∈ts,t.1=adr mg x/\t.2.2=xs
 | [],_,_=>⟨[],rfl,(fun t ht=>nomatch ht),fun i x xs e=>by simp at e⟩
 | y::l,e,hs=>by
  have e':=List.cons.inj (show tupLook K y.1::tupsLook K l=some (tupWant y.2)::tupsWant l from e)
  unfold shortL at hs
  rw [Bool.and_eq_true_iff,decide_eq_true_iff] at hs
  obtain ⟨ts,h1,h2,h3⟩:=yB X G e'.2 hs.2
  obtain ⟨a,it,n,sq,g1,g2,g3⟩:=i7 e'.1
  have hm:=mg_of X G g1
  refine ⟨(a,⟨.type "tuple",none,.seq it n,sq⟩,y.2)::ts,?_,fun t ht=>?_,fun i x xs ei=>?_⟩
  ·unfold trkAs
   rw [g1,List.map_cons,h1]
  ·rcases Qp.mp ht with rfl | ht
   ·exact a0B g2 g3 (Nat.le_trans hs.1 (by decide))
   ·exact h2 t ht
  ·cases i with
   | zero=>
    cases ei
    refine ⟨_,List.mem_cons_self ..,?_,rfl⟩
    show a=adr mg _
    unfold adr;rw [hm]
   | succ i=>
    obtain ⟨t,ht,r⟩:=h3 i x xs (by simpa using ei)
    exact ⟨t,Qh _ ht,r⟩
theorem xE {ts:List (Addr×Obj×List V)} {H:Hp} {x:Str} {xs:List V} (h:∃ t∈ts,t.1=adr mg x/\t.2.2=xs) (hH:∀ t∈ts,H t.1=some (.frz t.2.1 (.tup t.2.2))):Kn mg H x xs:=by
 obtain ⟨t,ht,e1,e2⟩:=h
 exact ⟨t.2.1,by rw [<- e1,<- e2];exact hH t ht⟩
theorem tY (X:K.In h) (G:h.Ns mainGlobals mg) {l:List (Str×List V)} (e:tupsLook K l=tupsWant l) (i:Nat) {x:Str} {xs:List V} (hi:l[i]? =some (x,xs):=by rfl):∃ u,mg x=some u/\RelV (.ref (adr mg x)) u:=by
 obtain ⟨a,it,n,sq,h1,h2,h3⟩:=i7 (lH e i hi)
 exact ⟨.ref a,mg_of X G h1,a1U (mg_of X G h1)⟩
end
end L2
set_option autoImplicit false
set_option maxRecDepth 100000
namespace L2
open PySem PySem.Spec PySem.W PyProof.Rows
structure ClsS where
 x:Str
 q:Str
 st:Stmt
 fs:List Str
abbrev ClsL:=Option FnL×Option (Option Value)×Bool
def noAttrs (K:Frag) (C:Addr):List Str->Bool
 | []=>true
 | f::l=>(match findIn K (.ref C) f with | some none=>true | _=>false)&&noAttrs K C l
def clsAt (K:Frag) (c:ClsS) (C:Addr):ClsL:=(fnAt K c.q (findIn K (.ref C) "__init__"),findIn K (.ref C) "__setattr__",
 plainGet K C Str.empty&&(hasDictIn K C&&(plainOver K C&&(makesIn K C&&(keepIn K (.ref C)&&((match findIn K (.ref C) "__init__" with | some (some v)=>isFn K v | _=>false)&&noAttrs K C c.fs))))))
def clsLook (K:Frag):List ClsS->List (Option ClsL)
 | []=>[]
 | c::l=>(match nsIn K mainGlobals c.x with | some (some (.ref C))=>some (clsAt K c C) | _=>none)::clsLook K l
def clsWant:List ClsS->List (Option ClsL)
 | []=>[]
 | c::l=>some (some (fnWant "__init__" c.q c.st),some (some (.builtin "object.__setattr__")),true)::clsWant l
section
variable {K:Frag} {h:Heap} {mg:Str->Option Value}
theorem jY:∀ {C:Addr} {l:List Str},noAttrs K C l=true->∀ f∈l,NoAttr K C f
 | C,f::l,e,g,hg=>by
  unfold noAttrs at e
  rw [Bool.and_eq_true_iff] at e
  rcases Qp.mp hg with rfl | hg
  ·have e1:=e.1
   split at e1
   ·assumption
   ·cases e1
  ·exact jY e.2 g hg
theorem tJ:∀ {l:List ClsS},clsLook K l=clsWant l->∀ (i:Nat) {c:ClsS},l[i]? =some c->∃ C,nsIn K mainGlobals c.x=some (some (.ref C))/\clsAt K c C=(some (fnWant "__init__" c.q c.st),some (some (.builtin "object.__setattr__")),true)
 | y::l,e,0,c,h=>by
  cases h
  have e1:=(List.cons.inj e).1
  split at e1
  ·rename_i C hC
   exact ⟨C,hC,QD e1⟩
  ·cases e1
 | y::l,e,i+1,c,h=>tJ (List.cons.inj e).2 i (by simpa using h)
theorem a13 (X:K.In h) (G:h.Ns mainGlobals mg) {l:List ClsS} (e:clsLook K l=clsWant l) (i:Nat) {x q:Str} {st:Stmt} {fs ps:List Str} (hi:l[i]? =some ⟨x,q,st,fs⟩)
  (hb:∀ (kV doc pm:Value) (an:Option Addr) (cdv ct:Value) (us:List Value),us.length=ps.length->bindArgs (fnOf "__init__" q (defArgs st) (defBody st) (defScope st) .none kV doc pm an cdv ct) ⟨us,[]⟩=pure (ps.zip us)):ClT K mg x q st ps fs (adr mg x):=by
 obtain ⟨C,hn,hc⟩:=tJ e i hi
 have hm:=mg_of X G hn
 have ea:adr mg x=C:=by unfold adr;rw [hm]
 unfold clsAt at hc
 simp only [Prod.mk.injEq,Bool.and_eq_true_iff] at hc
 obtain ⟨c1,c2,c3,c4,c5,c6,c7,c8,c9⟩:=hc
 obtain ⟨f,fd,e1,F⟩:=tW c1
 rw [e1] at c8
 rw [ea]
 exact ⟨hm,⟨c3,c4,c5,c2⟩,jY c9,f,fd,⟨c6,e1,c8,c7⟩,F,F.binds hb⟩
theorem clT2 (X:K.In h) (G:h.Ns mainGlobals mg) {l:List ClsS} (e:clsLook K l=clsWant l) (i:Nat) {x q p0 p1:Str} {st:Stmt} {fs:List Str} (hi:l[i]? =some ⟨x,q,st,fs⟩:=by rfl)
  (hb:∀ (kV doc pm:Value) (an:Option Addr) (cdv ct a0 a1:Value),bindArgs (fnOf "__init__" q (defArgs st) (defBody st) (defScope st) .none kV doc pm an cdv ct) ⟨[a0,a1],[]⟩=pure [(p0,a0),(p1,a1)]:=by intros;rfl):ClT K mg x q st [p0,p1] fs (adr mg x):=
 a13 X G e i hi fun a b c d f g us hl=>by
  match us,hl with
  | [a0,a1],_=>exact hb ..
end
end L2
set_option autoImplicit false
set_option maxRecDepth 100000
namespace L2
def it5:Nat->Nat->Nat
 | 0,x=>x
 | n+1,x=>it5 n (5*x+1)
theorem kK:∀ (a b x:Nat),it5 (a+b) x=it5 b (it5 a x)
 | 0,b,x=>by rw [Nat.zero_add];rfl
 | a+1,b,x=>by rw [show a+1+b=(a+b)+1 by omega];exact kK a b (5*x+1)
theorem wW (n x:Nat):it5 (n+1) x=5*it5 n x+1:=kK n 1 x
theorem tX:∀ k:Nat,∃ c:Nat,c % 2=1/\∀ x,it5 (2^k) x=x+2^k*(c*(4*x+1))
 | 0=>⟨1,rfl,fun x=>by show 5*x+1=_;omega⟩
 | k+1=>by
  obtain ⟨c,hc,h⟩:=tX k
  refine ⟨c+2*(2^k*(c*c)),by omega,fun x=>?_⟩
  have e:2^(k+1)=2^k+2^k:=by rw [Nat.pow_succ];omega
  rw [e,kK,h,h]
  generalize 2^k=p
  generalize hm:4*x+1=m
  have e1:4*(x+p*(c*m))+1=m+4*(p*(c*m)):=by rw [Nat.mul_add];omega
  have e2:c*(m+4*(p*(c*m)))=c*m+4*(p*(c*(c*m))):=by rw [Nat.mul_add];congr 1;ac_rfl
  have e3:(c+2*(p*(c*c)))*m=c*m+2*(p*(c*(c*m))):=by rw [Nat.add_mul];congr 1;ac_rfl
  rw [e1,e2,e3]
  generalize p*(c*(c*m))=v
  generalize c*m=u
  have f1:p*(u+4*v)=p*u+4*(p*v):=by rw [Nat.mul_add];congr 1;ac_rfl
  have f2:(p+p)*(u+2*v)=p*u+p*u+4*(p*v):=by
   have f3:p*(2*v)=2*(p*v):=by ac_rfl
   rw [Nat.add_mul,Nat.mul_add,f3]
   omega
  rw [f1,f2]
  omega
theorem nG:∀ (k x e:Nat),e < 2^k->∃ l,l < 2^k/\it5 l x % 2^k=e
 | 0,x,e,h=>⟨0,by decide,by rw [Nat.pow_zero,Nat.mod_one];have:e < 1:=h;omega⟩
 | k+1,x,e,h=>by
  have e2:2^(k+1)=2*2^k:=by rw [Nat.pow_succ];omega
  have pos:0 < 2^k:=Nat.pow_pos (by decide)
  obtain ⟨l,hl,he⟩:=nG k x (e % 2^k) (Nat.mod_lt _ pos)
  obtain ⟨c,hc,hs⟩:=tX k
  rw [e2] at h
  have key:∀ y:Nat,y % 2^k=e % 2^k->y % (2*2^k)=e\/(y+2^k*(c*(4*y+1))) % (2*2^k)=e:=fun y hy=>by
   have hodd:(c*(4*y+1)) % 2=1:=by
    rw [Nat.mul_mod,hc,show (4*y+1) % 2=1 by omega]
   obtain ⟨q,hq⟩:∃ q,c*(4*y+1)=2*q+1:=⟨c*(4*y+1) / 2,by omega⟩
   rw [hq]
   have e3:y+2^k*(2*q+1)=(y+2^k)+(2*2^k)*q:=by rw [Nat.mul_add,Nat.mul_one,<- Nat.mul_assoc,Nat.mul_comm (2^k) 2];omega
   rw [e3,Nat.add_mul_mod_self_left]
   generalize 2^k=p at*
   have d1:=Nat.div_add_mod y p
   have d2:=Nat.div_add_mod e p
   rw [hy] at d1
   have hep:e / p < 2:=by
    rw [Nat.div_lt_iff_lt_mul pos];omega
   have hm:e % p < p:=Nat.mod_lt _ pos
   generalize y / p=a at*
   generalize e / p=b at*
   generalize e % p=r at*
   rcases Nat.mod_two_eq_zero_or_one (a+b) with z | z
   ·left
    obtain ⟨t,rfl⟩:∃ t,a=b+2*t:=⟨(a - b) / 2,by omega⟩
    have:y=e+(2*p)*t:=by
     rw [<- d1,<- d2,Nat.mul_add,<- Nat.mul_assoc,Nat.mul_comm p 2];omega
    rw [this,Nat.add_mul_mod_self_left,Nat.mod_eq_of_lt h]
   ·right
    obtain ⟨t,ht⟩:∃ t,a+1=b+2*t:=⟨(a+1 - b) / 2,by omega⟩
    have:y+p=e+(2*p)*t:=by
     have q1:y+p=p*(a+1)+r:=by rw [Nat.mul_add];omega
     rw [q1,ht,<- d2,Nat.mul_add,<- Nat.mul_assoc,Nat.mul_comm p 2];omega
    rw [this,Nat.add_mul_mod_self_left,Nat.mod_eq_of_lt h]
  rcases key (it5 l x) he with z | z
  ·exact ⟨l,by omega,by rw [e2];exact z⟩
  ·exact ⟨l+2^k,by omega,by rw [e2,kK,hs];exact z⟩
end L2
set_option autoImplicit false
set_option maxRecDepth 100000
namespace L2
open PySem PySem.SetTable
def adv (mask:Nat) (p:Probe):Probe:=if p.more > 0 then {p with j:=p.j+1,more:=p.more - 1} else {p with j:=(leap mask p.i p.perturb).1,more:=runEnd mask (leap mask p.i p.perturb).1 - (leap mask p.i p.perturb).1,i:=(leap mask p.i p.perturb).1,perturb:=(leap mask p.i p.perturb).2}
def run0 (mask:Nat) (q:Nat×Nat):Probe:={j:=q.1,more:=runEnd mask q.1 - q.1,i:=q.1,perturb:=q.2,dummy:=none}
def st (mask:Nat) (h:Int):Nat->Probe
 | 0=>run0 mask (bits h % (mask+1),bits h)
 | n+1=>adv mask (st mask h n)
def lp (mask:Nat) (h:Int):Nat->Nat×Nat
 | 0=>(bits h % (mask+1),bits h)
 | l+1=>leap mask (lp mask h l).1 (lp mask h l).2
section
variable {mask:Nat} {h:Int}
theorem gY (i:Nat):runEnd mask i - i<=9/\(i<=mask->i+(runEnd mask i - i)<=mask):=by
 unfold runEnd
 split<;>omega
theorem rV {N:Nat} {q:Nat×Nat} (e:st mask h N=run0 mask q):∀ m,m<=runEnd mask q.1 - q.1->st mask h (N+m)={j:=q.1+m,more:=runEnd mask q.1 - q.1 - m,i:=q.1,perturb:=q.2,dummy:=none}
 | 0,_=>e
 | m+1,hm=>by
  have ih:=rV e m (by omega)
  show adv mask (st mask h (N+m))=_
  rw [ih]
  unfold adv
  rw [if_pos (show runEnd mask q.1 - q.1 - m > 0 by omega)]
  simp only [Probe.mk.injEq,and_true]
  omega
theorem t9:∀ l,∃ N,N<=10*l/\st mask h N=run0 mask (lp mask h l)
 | 0=>⟨0,Qy _,rfl⟩
 | l+1=>by
  obtain ⟨N,hN,e⟩:=t9 l
  have hr:=(gY (mask:=mask) (lp mask h l).1).1
  refine ⟨N+(runEnd mask (lp mask h l).1 - (lp mask h l).1)+1,by omega,?_⟩
  show adv mask (st mask h (N+(runEnd mask (lp mask h l).1 - (lp mask h l).1)))=_
  rw [rV e _ (Qy _)]
  unfold adv
  rw [if_neg (by simp)]
  rfl
theorem a25:∀ l,(lp mask h l).1<=mask
 | 0=>Nat.le_of_lt_succ (Nat.mod_lt _ (Nat.succ_pos _))
 | l+1=>Nat.le_of_lt_succ (Nat.mod_lt _ (Nat.succ_pos _))
theorem uC:∀ l,(lp mask h l).2=bits h / 32^l
 | 0=>by rw [Nat.pow_zero,Nat.div_one];rfl
 | l+1=>by
  show (lp mask h l).2 / 32=_
  rw [uC l,Nat.div_div_eq_div_mul,Nat.pow_succ]
theorem a0A:bits h < 2^64:=by
 unfold bits
 have h1:=Int.emod_lt_of_pos h (show (0:Int) < 2^64 by decide)
 have h2:=Int.emod_nonneg h (show ((2:Int)^64)≠0 by decide)
 omega
theorem a0H (l:Nat):(lp mask h (13+l)).2=0:=by
 rw [uC]
 refine Nat.div_eq_of_lt (Nat.lt_of_lt_of_le a0A ?_)
 rw [Nat.pow_add]
 exact Nat.le_trans (show 2^64<=32^13*1 by decide) (Nat.mul_le_mul_left _ (Nat.pow_pos (by decide)))
theorem sG:∀ l,(lp mask h (13+l)).1=it5 l (lp mask h 13).1 % (mask+1)
 | 0=>(Nat.mod_eq_of_lt (Nat.lt_succ_of_le (a25 13))).symm
 | l+1=>by
  show ((lp mask h (13+l)).1*5+1+(lp mask h (13+l)).2 / 32) % (mask+1)=_
  rw [a0H,sG l,wW,Nat.zero_div,Nat.add_zero,Nat.add_mod,Nat.mod_mul_mod,<- Nat.add_mod,Nat.mul_comm]
theorem meets {k:Nat} (hk:mask+1=2^k) {e:Nat} (he:e<=mask):∃ n,n<=10*(mask+13)/\(st mask h n).j=e:=by
 obtain ⟨l,hl,hx⟩:=nG k (lp mask h 13).1 e (by omega)
 obtain ⟨N,hN,e1⟩:=t9 (mask:=mask) (h:=h) (13+l)
 refine ⟨N,by omega,?_⟩
 rw [e1]
 show (lp mask h (13+l)).1=e
 rw [sG,hk]
 exact hx
theorem pW:∀ n,(st mask h n).dummy=none
 | 0=>rfl
 | n+1=>by
  show (adv mask (st mask h n)).dummy=none
  unfold adv
  split<;>exact pW n
theorem n4:∀ n,(st mask h n).j+(st mask h n).more<=mask
 | 0=>(gY _).2 (Nat.le_of_lt_succ (Nat.mod_lt _ (Nat.succ_pos _)))
 | n+1=>by
  have ih:=n4 n
  show (adv mask (st mask h n)).j+(adv mask (st mask h n)).more<=mask
  unfold adv
  split
  ·simp only;omega
  ·exact (gY _).2 (Nat.le_of_lt_succ (Nat.mod_lt _ (Nat.succ_pos _)))
end
section
variable {xs:Array Nat} {j:Nat}
def Ris (xs:Array Nat):Prop:=∀ i k (h:i < k) (hk:k < xs.size),xs[i]'(Nat.lt_trans h hk) < xs[k]
theorem kS (ris:Ris xs):∀ (fuel lo hi:Nat),hi - lo<=fuel->lo<=hi->hi<=xs.size->(∀ i (h:i < xs.size),i < lo->xs[i] < j)->(∀ i (h:i < xs.size),hi<=i->j<=xs[i])->
  below.go xs j fuel lo hi<=xs.size/\(∀ i (h:i < xs.size),i < below.go xs j fuel lo hi->xs[i] < j)/\(∀ i (h:i < xs.size),below.go xs j fuel lo hi<=i->j<=xs[i])
 | 0,lo,hi,hf,hl,hs,h1,h2=>by
  have:lo=hi:=by omega
  subst this
  exact ⟨hs,h1,h2⟩
 | fuel+1,lo,hi,hf,hl,hs,h1,h2=>by
  unfold below.go
  by_cases c:lo < hi
  ·rw [if_pos c]
   have hm:(lo+hi) / 2 < xs.size:=by omega
   have eg:xs.getD ((lo+hi) / 2) j=xs[(lo+hi) / 2]:=by simp [Array.getD,hm]
   simp only [eg]
   by_cases d:xs[(lo+hi) / 2] < j
   ·rw [if_pos d]
    refine kS ris fuel _ _ (by omega) (by omega) hs (fun i h hi'=>?_) h2
    by_cases q:i=(lo+hi) / 2
    ·subst q;exact d
    ·have:=ris i ((lo+hi) / 2) (by omega) hm;omega
   ·rw [if_neg d]
    refine kS ris fuel _ _ (by omega) (by omega) (by omega) h1 (fun i h hi'=>?_)
    by_cases q:i=(lo+hi) / 2
    ·subst q;omega
    ·have:=ris ((lo+hi) / 2) i (by omega) h;omega
  ·rw [if_neg c]
   have:lo=hi:=by omega
   subst this
   exact ⟨hs,h1,h2⟩
theorem eA (ris:Ris xs):below xs j<=xs.size/\(∀ i (h:i < xs.size),i < below xs j->xs[i] < j)/\(∀ i (h:i < xs.size),below xs j<=i->j<=xs[i]):=
 kS ris xs.size 0 xs.size (by omega) (by omega) (by omega) (fun _ _ h=>absurd h (Nat.not_lt_zero _)) (fun i h hi=>absurd h (by omega))
theorem wR (ris:Ris xs) {i:Nat} (hi:i < xs.size):below xs xs[i]=i:=by
 obtain ⟨h1,h2,h3⟩:=eA (j:=xs[i]) ris
 by_cases c:i < below xs xs[i]
 ·exact absurd (h2 i hi c) (Nat.lt_irrefl _)
 ·by_cases d:below xs xs[i] < i
  ·have:=h3 (below xs xs[i]) (by omega) (Qy _)
   have:=ris (below xs xs[i]) i d hi
   omega
  ·omega
end
theorem gT {t:SetTable} (ris:Ris t.place) {i:Nat} (hi:i < t.place.size):t.slot t.place[i]=.live i:=by
 unfold slot
 rw [wR ris hi]
 simp [hi]
theorem vO {t:SetTable} (ris:Ris t.place) (nd:t.dummies=#[]) {j:Nat} (hj:∀ i (h:i < t.place.size),t.place[i]≠j):t.slot j=.empty:=by
 unfold slot
 have h1:(t.place[below t.place j]?==some j)=false:=by
  rw [beq_eq_false_iff_ne]
  intro e
  obtain ⟨h,e'⟩:=Array.getElem?_eq_some_iff.mp e
  exact hj _ h e'
 have h2:has t.dummies j=false:=by
  unfold has;rw [nd]
  simp
 simp only [h1,h2]
 rfl
end L2
set_option autoImplicit false
set_option maxRecDepth 100000
namespace L2
open PySem PySem.SetTable
def Occ (t:SetTable) (j:Nat):Prop:=∃ i,∃ h:i < t.place.size,t.place[i]=j
structure TabOk (t:SetTable) (es:Array (Int×Value)):Prop where
 pw:∃ k,t.mask+1=2^k/\3<=k
 nd:t.dummies=#[]
 sz:t.place.size=es.size
 ris:Ris t.place
 le:∀ i (h:i < t.place.size),t.place[i]<=t.mask
 room:es.size*5 < t.mask*3
 reach:∀ i (h:i < es.size) (h':i < t.place.size),∃ n,(st t.mask es[i].1 n).j=t.place[i]/\∀ m,m < n->Occ t (st t.mask es[i].1 m).j
section
variable {t:SetTable} {es:Array (Int×Value)} {h:Int}
theorem tH (ris:Ris t.place):∀ j,(∀ j',j'<=j->Occ t j')->∃ h:j < t.place.size,t.place[j]=j
 | 0,ha=>by
  obtain ⟨i,hi,e⟩:=ha 0 (Qy _)
  rcases Nat.eq_zero_or_pos i with rfl | hp
  ·exact ⟨hi,e⟩
  ·have:=ris 0 i hp hi;omega
 | j+1,ha=>by
  obtain ⟨hj,ej⟩:=tH ris j fun j' h=>ha j' (by omega)
  obtain ⟨i,hi,e⟩:=ha (j+1) (Qy _)
  have h1:j < i:=by
   rcases Nat.lt_trichotomy i j with c | c | c
   ·have:=ris i j c hj;omega
   ·subst c;omega
   ·exact c
  rcases Nat.lt_or_ge (j+1) i with c | c
  ·have:=ris j (j+1) (by omega) (by omega)
   have:=ris (j+1) i c hi
   omega
  ·have:i=j+1:=by omega
   subst this
   exact ⟨hi,e⟩
theorem TabOk.free (T:TabOk t es):∃ e,e<=t.mask/\¬Occ t e:=by
 refine Classical.byContradiction fun c=>?_
 have:∀ j',j'<=t.mask->Occ t j':=fun j' hj=>Classical.byContradiction fun q=>c ⟨j',hj,q⟩
 obtain ⟨hm,_⟩:=tH T.ris t.mask this
 have:=T.sz
 have:=T.room
 omega
theorem least {P:Nat->Prop}:∀ n,P n->∃ m,m<=n/\P m/\∀ k,k < m->¬P k:=by
 intro n
 induction n using Nat.strongRecOn with
 | _ n ih=>
  intro hn
  by_cases c:∃ k,k < n/\P k
  ·obtain ⟨k,hk,hp⟩:=c
   obtain ⟨m,h1,h2,h3⟩:=ih k hk hp
   exact ⟨m,by omega,h2,h3⟩
  ·exact ⟨n,Qy _,hn,fun k hk hp=>c ⟨k,hk,hp⟩⟩
structure FF (t:SetTable) (h:Int) (n0:Nat):Prop where
 free:¬Occ t (st t.mask h n0).j
 full:∀ m,m < n0->Occ t (st t.mask h m).j
 soon:n0 < 10*turns t.mask
theorem TabOk.ff (T:TabOk t es) (h:Int):∃ n0,FF t h n0:=by
 obtain ⟨e,he,hf⟩:=T.free
 obtain ⟨k,hk,_⟩:=T.pw
 obtain ⟨n,hn,ej⟩:=meets (h:=h) hk he
 obtain ⟨m,h1,h2,h3⟩:=least (P:=fun n=>¬Occ t (st t.mask h n).j) n (by rw [ej];exact hf)
 exact ⟨m,h2,fun k hk=>Classical.byContradiction (h3 k hk),by unfold turns;omega⟩
theorem Occ.slot (ris:Ris t.place) {j:Nat} (o:Occ t j):∃ i,∃ h:i < t.place.size,t.place[i]=j/\t.slot j=.live i:=by
 obtain ⟨i,hi,rfl⟩:=o
 exact ⟨i,hi,rfl,gT ris hi⟩
theorem pX {hashAt:Nat->Int} {n0:Nat} (ris:Ris t.place) (nd:t.dummies=#[]) (F:FF t h n0):∀ (fuel n:Nat),n<=n0->n0 - n < fuel->
  (∃ m i,∃ hi:i < t.place.size,n<=m/\m < n0/\t.place[i]=(st t.mask h m).j/\hashAt i=h/\(∀ m',n<=m'->m' < m->∀ i' (hi':i' < t.place.size),t.place[i']=(st t.mask h m').j->hashAt i'≠h)/\probe.go t hashAt h fuel (st t.mask h n)=some (.candidate (st t.mask h m).j i (st t.mask h (m+1))))\/
  ((∀ m',n<=m'->m' < n0->∀ i' (hi':i' < t.place.size),t.place[i']=(st t.mask h m').j->hashAt i'≠h)/\probe.go t hashAt h fuel (st t.mask h n)=some (.empty (st t.mask h n0).j none))
 | 0,n,_,hf=>absurd hf (Nat.not_lt_zero _)
 | fuel+1,n,hn,hf=>by
  rcases Nat.lt_or_ge n n0 with c | c
  ·obtain ⟨i,hi,ei,es⟩:=(F.full n c).slot ris
   unfold probe.go
   rw [es]
   dsimp only
   by_cases d:hashAt i=h
   ·rw [if_pos (by simpa using d)]
    exact .inl ⟨n,i,hi,Qy _,c,ei,d,fun m' h1 h2=>absurd h1 (by omega),rfl⟩
   ·rw [if_neg (by simpa using d)]
    have nxt:∀ m',n<=m'->n+1<=m'\/m'=n:=fun m' _=>by omega
    have un:∀ i' (hi':i' < t.place.size),t.place[i']=(st t.mask h n).j->hashAt i'≠h:=fun i' hi' e'=>by
     have:i'=i:=by
      have:=gT ris hi'
      rw [e',es] at this
      injection this with this
      exact this.symm
     subst this;exact d
    rcases pX ris nd F fuel (n+1) c (by omega) with ⟨m,i',hi',h1,h2,h3,h4,h5,h6⟩ | ⟨h1,h2⟩
    ·refine .inl ⟨m,i',hi',by omega,h2,h3,h4,fun m' q1 q2=>?_,h6⟩
     rcases nxt m' q1 with q | q
     ·exact h5 m' q q2
     ·rw [q];exact un
    ·refine .inr ⟨fun m' q1 q2=>?_,h2⟩
     rcases nxt m' q1 with q | q
     ·exact h1 m' q q2
     ·rw [q];exact un
  ·have:n=n0:=by omega
   subst this
   unfold probe.go
   rw [vO ris nd fun i hi e=>F.free ⟨i,hi,e⟩]
   dsimp only
   rw [pW]
   exact .inr ⟨fun m' h1 h2=>absurd h1 (by omega),rfl⟩
theorem TabOk.met {n0:Nat} (T:TabOk t es) (F:FF t h n0) {i:Nat} (hi:i < es.size) (hi':i < t.place.size) (eh:es[i].1=h):∃ m,m < n0/\(st t.mask h m).j=t.place[i]:=by
 obtain ⟨n,e1,e2⟩:=T.reach i hi hi'
 rw [eh] at e1 e2
 refine ⟨n,?_,e1⟩
 rcases Nat.lt_or_ge n n0 with c | c
 ·exact c
 ·rcases Nat.lt_or_ge n0 n with d | d
  ·exact absurd (e2 n0 d) F.free
  ·have:n=n0:=by omega
   subst this
   exact absurd ⟨i,hi',e1.symm⟩ F.free
end
section
variable {α:Type} {xs:Array α} {p:Nat} {x:α}
theorem dF (hp:p<=xs.size):(insertAt xs p x).toList=xs.toList.take p++x::xs.toList.drop p:=by
 unfold insertAt
 simp [Array.toList_extract,List.take_of_length_le]
theorem b7 (hp:p<=xs.size):(insertAt xs p x).size=xs.size+1:=by
 rw [<- Array.length_toList,dF hp]
 simp;omega
theorem bP (hp:p<=xs.size) (i:Nat) (hi:i < (insertAt xs p x).size):(insertAt xs p x)[i]=if h:i < p then xs[i]'(by omega) else if h2:i=p then x else xs[i - 1]'(by rw [b7 hp] at hi;omega):=by
 have hs:=b7 (x:=x) hp
 have e:(insertAt xs p x)[i]=(insertAt xs p x).toList[i]'(by simpa using hi):=by simp
 rw [e]
 simp only [dF hp]
 have hl:(xs.toList.take p).length=p:=by simp;omega
 by_cases h:i < p
 ·rw [dif_pos h,Qe (by omega)]
  simp
 ·rw [dif_neg h,Qf (by omega)]
  by_cases h2:i=p
  ·rw [dif_pos h2]
   have z:∀ (l:List α) (k:Nat) (hk:k < (x::l).length),k=0->(x::l)[k]=x:=fun l k hk e=>by subst e;rfl
   exact z _ _ _ (by omega)
  ·rw [dif_neg h2]
   obtain ⟨k,hk⟩:∃ k,i - (xs.toList.take p).length=k+1:=⟨i - p - 1,by omega⟩
   simp only [hk,List.getElem_cons_succ,List.getElem_drop]
   have:p+k=i - 1:=by omega
   simp [this]
end
theorem zT (j:Nat):has #[] j=false:=by
 unfold has;simp
section
variable {t:SetTable} {es:Array (Int×Value)} {h:Int} {x:Value} {n0:Nat}
theorem lJ (nd:t.dummies=#[]) (j:Nat):t.put j=({t with place:=insertAt t.place (below t.place j) j},below t.place j):=by
 unfold put
 rw [nd,zT]
 simp only [Bool.false_eq_true,if_false]
theorem zD (T:TabOk t es) (j:Nat) {j':Nat}:Occ (t.put j).1 j'↔j'=j\/Occ t j':=by
 rw [lJ T.nd]
 have hp:=(eA (j:=j) T.ris).1
 generalize below t.place j=p at hp
 constructor
 ·rintro ⟨i,hi,e⟩
  have hi':i < (insertAt t.place p j).size:=hi
  have e':(insertAt t.place p j)[i]=j':=e
  rw [bP hp] at e'
  split at e'
  ·exact .inr ⟨_,_,e'⟩
  ·split at e'
   ·exact .inl e'.symm
   ·exact .inr ⟨_,_,e'⟩
 ·rintro (rfl | ⟨i,hi,rfl⟩)
  ·refine ⟨p,(by show p < (insertAt t.place p j').size;rw [b7 hp];omega),?_⟩
   show (insertAt t.place p j')[p]'_=j'
   rw [bP hp];simp
  ·by_cases c:i < p
   ·refine ⟨i,(by show i < (insertAt t.place p j).size;rw [b7 hp];omega),?_⟩
    show (insertAt t.place p j)[i]'_=_
    rw [bP hp,dif_pos c]
   ·refine ⟨i+1,(by show i+1 < (insertAt t.place p j).size;rw [b7 hp];omega),?_⟩
    show (insertAt t.place p j)[i+1]'_=_
    rw [bP hp,dif_neg (by omega),dif_neg (by omega)]
    simp
theorem zO (T:TabOk t es) {j:Nat} (hj:¬Occ t j):Ris (t.put j).1.place:=by
 rw [lJ T.nd]
 obtain ⟨hp,h2,h3⟩:=eA (j:=j) T.ris
 generalize below t.place j=p at hp h2 h3
 intro i k hik hk
 have hk':k < (insertAt t.place p j).size:=hk
 have hs:=b7 (x:=j) hp
 show (insertAt t.place p j)[i]'_ < (insertAt t.place p j)[k]
 rw [bP hp,bP hp]
 by_cases c:k < p
 ·rw [dif_pos c,dif_pos (by omega)];exact T.ris i k hik (by omega)
 ·rw [dif_neg c]
  by_cases d:k=p
  ·rw [dif_pos d,dif_pos (by omega)]
   exact h2 i (by omega) (by omega)
  ·rw [dif_neg d]
   by_cases a:i < p
   ·rw [dif_pos a];exact T.ris i (k - 1) (by omega) (by omega)
   ·rw [dif_neg a]
    by_cases b:i=p
    ·rw [dif_pos b]
     have:=h3 (k - 1) (by omega) (by omega)
     have ne:t.place[k - 1]'(by omega)≠j:=fun e=>hj ⟨k - 1,by omega,e⟩
     omega
    ·rw [dif_neg b];exact T.ris (i - 1) (k - 1) (by omega) (by omega)
abbrev putT (t:SetTable) (j:Nat):SetTable:={t with place:=insertAt t.place (below t.place j) j}
theorem TabOk.put (T:TabOk t es) (F:FF t h n0) (hr:(es.size+1)*5 < t.mask*3):TabOk (putT t (st t.mask h n0).j) (insertAt es (below t.place (st t.mask h n0).j) (h,x)):=by
 have hocc:∀ j',Occ (putT t (st t.mask h n0).j) j'↔j'=(st t.mask h n0).j\/Occ t j':=fun j'=>by have:=zD T (st t.mask h n0).j (j':=j');rw [lJ T.nd] at this;exact this
 have hris:Ris (putT t (st t.mask h n0).j).place:=by have:=zO T F.free;rw [lJ T.nd] at this;exact this
 have hsz:=T.sz
 have hp:=(eA (j:=(st t.mask h n0).j) T.ris).1
 have hjle:(st t.mask h n0).j<=t.mask:=by have:=n4 (mask:=t.mask) (h:=h) n0;omega
 have grow:∀ {j'},Occ t j'->Occ (putT t (st t.mask h n0).j) j':=fun o=>(hocc _).mpr (.inr o)
 have hle:∀ i (h':i < (putT t (st t.mask h n0).j).place.size),(putT t (st t.mask h n0).j).place[i]<=t.mask:=fun i hi=>by
  rcases (hocc _).mp ⟨i,hi,rfl⟩ with e | ⟨i',hi',e⟩
  ·rw [e];exact hjle
  ·rw [<- e];exact T.le i' hi'
 have hp':below t.place (st t.mask h n0).j<=es.size:=by omega
 have s1:=b7 (x:=(h,x)) hp'
 have s2:(putT t (st t.mask h n0).j).place.size=t.place.size+1:=b7 hp
 refine ⟨T.pw,T.nd,by omega,hris,hle,by rw [s1];exact hr,fun i h1 h2=>?_⟩
 have e2:(putT t (st t.mask h n0).j).place[i]=(insertAt t.place (below t.place (st t.mask h n0).j) (st t.mask h n0).j)[i]:=rfl
 rw [e2]
 generalize Occ (putT t (st t.mask h n0).j)=O at grow
 show ∃ n,(st t.mask (insertAt es (below t.place (st t.mask h n0).j) (h,x))[i].1 n).j=_/\∀ m,m < n->O (st t.mask (insertAt es (below t.place (st t.mask h n0).j) (h,x))[i].1 m).j
 simp only [bP hp,bP hp']
 by_cases c:i < below t.place (st t.mask h n0).j
 ·simp only [dif_pos c]
  obtain ⟨n,e1,e2⟩:=T.reach i (by omega) (by omega)
  exact ⟨n,e1,fun m hm=>grow (e2 m hm)⟩
 ·simp only [dif_neg c]
  by_cases d:i=below t.place (st t.mask h n0).j
  ·simp only [dif_pos d]
   exact ⟨n0,rfl,fun m hm=>grow (F.full m hm)⟩
  ·simp only [dif_neg d]
   obtain ⟨n,e1,e2⟩:=T.reach (i - 1) (by omega) (by omega)
   exact ⟨n,e1,fun m hm=>grow (e2 m hm)⟩
end
end L2
set_option autoImplicit false
set_option maxRecDepth 100000
namespace L2
open PySem PySem.SetTable
theorem gW:∀ {l m:List Nat},l.Nodup->(∀ x∈l,x∈m)->l.length<=m.length
 | [],m,_,_=>Nat.zero_le _
 | a::l,m,nd,hs=>by
  obtain ⟨h1,h2⟩:=List.nodup_cons.mp nd
  have hm:=hs a (List.mem_cons_self ..)
  have:l.length<=(m.erase a).length:=gW h2 fun x hx=>(List.mem_erase_of_ne (show x≠a from fun e=>h1 (by rw [<- e];exact hx))).mpr (hs x (Qh _ hx))
  rw [List.length_erase_of_mem hm] at this
  have:=List.length_pos_of_mem hm
  simp only [List.length_cons];omega
def Ow (owner:Array (Option Nat)) (j:Nat):Prop:=(owner.getD j (some 0)).isNone=false
structure LInv (mask:Nat) (owner:Array (Option Nat)) (hs:List Int):Prop where
 sz:owner.size=mask+1
 lt:∀ j k:Nat,owner[j]? =some (some k)->k < hs.length
 inj:∀ j j' k:Nat,owner[j]? =some (some k)->owner[j']? =some (some k)->j=j'
 reach:∀ k (h:k < hs.length),∃ n,owner[(st mask hs[k] n).j]? =some (some k)/\∀ m,m < n->Ow owner (st mask hs[k] m).j
section
variable {mask:Nat} {owner:Array (Option Nat)} {hs:List Int} {h:Int}
theorem rL (hz:owner.size=mask+1) {j:Nat} (hj:j<=mask):Ow owner j↔∃ k,owner[j]? =some (some k):=by
 have hj':j < owner.size:=by omega
 unfold Ow
 have e:owner.getD j (some 0)=owner[j]:=by simp [Array.getD,hj']
 rw [e,Array.getElem?_eq_getElem hj']
 cases owner[j] with
 | none=>simp
 | some k=>simp
theorem LInv.freeAt (I:LInv mask owner hs) (hl:hs.length<=mask):∃ e,e<=mask/\¬Ow owner e:=by
 refine Classical.byContradiction fun c=>?_
 have ha:∀ j,j<=mask->∃ k,owner[j]? =some (some k):=fun j hj=>(rL I.sz hj).mp (Classical.byContradiction fun q=>c ⟨j,hj,q⟩)
 have hk:∀ j,∃ k,j<=mask->owner[j]? =some (some k):=fun j=>by
  by_cases q:j<=mask
  ·obtain ⟨k,e⟩:=ha j q;exact ⟨k,fun _=>e⟩
  ·exact ⟨0,fun z=>absurd z q⟩
 let f:=fun j=>Classical.choose (hk j)
 have hf:∀ j,j<=mask->owner[j]? =some (some (f j)):=fun j=>Classical.choose_spec (hk j)
 have nd:((List.range (mask+1)).map f).Nodup:=by
  refine List.Pairwise.map f (R:=fun a b=>a < b/\b<=mask) (S:=(· ≠·)) (fun a b hab e=>?_) ?_
  ·have:=I.inj a b (f a) (hf a (by omega)) (by rw [e];exact hf b hab.2)
   omega
  ·rw [List.pairwise_iff_getElem]
   intro i k hi hk hik
   simp at hi hk ⊢
   omega
 have:=gW nd (m:=List.range hs.length) fun x hx=>by
  obtain ⟨j,hj,rfl⟩:=List.mem_map.mp hx
  have:j<=mask:=by have:=List.mem_range.mp hj;omega
  exact List.mem_range.mpr (I.lt j _ (hf j this))
 simp at this
 omega
theorem uE (hz:owner.size=mask+1) {lm:Nat} (hlm:¬Ow owner (lp mask h lm).1):∀ (fuel l N:Nat),lm - l < fuel->l<=lm->st mask h N=run0 mask (lp mask h l)->(∀ m,m < N->Ow owner (st mask h m).j)->
  ∃ n,layClean.free mask owner fuel (lp mask h l).1 (lp mask h l).2=some (st mask h n).j/\¬Ow owner (st mask h n).j/\∀ m,m < n->Ow owner (st mask h m).j
 | 0,l,N,hf,_,_,_=>absurd hf (Nat.not_lt_zero _)
 | fuel+1,l,N,hf,hl,eN,ho=>by
  have hr:=gY (mask:=mask) (lp mask h l).1
  have hrun:=rV eN
  have er:runEnd mask (lp mask h l).1+1 - (lp mask h l).1=(runEnd mask (lp mask h l).1 - (lp mask h l).1)+1:=by
   unfold runEnd;split<;>omega
  unfold layClean.free
  cases hfd:(List.range (runEnd mask (lp mask h l).1+1 - (lp mask h l).1)).find? (fun k=>(owner.getD ((lp mask h l).1+k) (some 0)).isNone) with
  | some k=>
   have hk1:=List.find?_some hfd
   have hk2:=List.mem_of_find?_eq_some hfd
   have hk3:k<=runEnd mask (lp mask h l).1 - (lp mask h l).1:=by have:=List.mem_range.mp hk2;omega
   have hlt:∀ k',k' < k->Ow owner ((lp mask h l).1+k'):=fun k' hk'=>by
    obtain ⟨_,as,bs,e1,e2⟩:=List.find?_eq_some_iff_append.mp hfd
    have hlen:as.length=k:=by
     have e3:(List.range (runEnd mask (lp mask h l).1+1 - (lp mask h l).1))[as.length]? =some k:=by rw [e1];simp
     have e4:=(List.getElem?_eq_some_iff.mp e3)
     obtain ⟨q1,q2⟩:=e4
     simpa using q2
    have hmem:k'∈as:=by
     have e3:(List.range (runEnd mask (lp mask h l).1+1 - (lp mask h l).1))[k']? =some k':=by
      rw [List.getElem?_range];have:=List.mem_range.mp hk2;omega
     rw [e1,Qg (by omega)] at e3
     exact QC e3
    have:=e2 k' hmem
    simpa [Ow] using this
   refine ⟨N+k,by rw [hrun k hk3],?_,fun m hm=>?_⟩
   ·rw [hrun k hk3]
    show ¬Ow owner ((lp mask h l).1+k)
    unfold Ow
    have:(owner.getD ((lp mask h l).1+k) (some 0)).isNone=true:=hk1
    rw [this];simp
   ·rcases Nat.lt_or_ge m N with c | c
    ·exact ho m c
    ·obtain ⟨k',rfl⟩:∃ k',m=N+k':=⟨m - N,by omega⟩
     rw [hrun k' (by omega)]
     exact hlt k' (by omega)
  | none=>
   have hall:∀ k',k'<=runEnd mask (lp mask h l).1 - (lp mask h l).1->Ow owner ((lp mask h l).1+k'):=fun k' hk'=>by
    have:=List.find?_eq_none.mp hfd k' (List.mem_range.mpr (by omega))
    exact Bool.eq_false_iff.mpr this
   have hne:l≠lm:=fun e=>by subst e;exact hlm (by simpa using hall 0 (Nat.zero_le _))
   dsimp only
   have eN':st mask h (N+(runEnd mask (lp mask h l).1 - (lp mask h l).1)+1)=run0 mask (lp mask h (l+1)):=by
    show adv mask (st mask h (N+(runEnd mask (lp mask h l).1 - (lp mask h l).1)))=_
    rw [hrun _ (Qy _)]
    unfold adv
    rw [if_neg (by simp)]
    rfl
   refine uE hz hlm fuel (l+1) _ (by omega) (by omega) eN' fun m hm=>?_
   rcases Nat.lt_or_ge m N with c | c
   ·exact ho m c
   ·obtain ⟨k',rfl⟩:∃ k',m=N+k':=⟨m - N,by omega⟩
    rw [hrun k' (by omega)]
    exact hall k' (by omega)
theorem vF {k:Nat} (hk:mask+1=2^k) (I:LInv mask owner hs) (hl:hs.length<=mask) (h:Int):∃ n,layClean.free mask owner (turns mask) (bits h % (mask+1)) (bits h)=some (st mask h n).j/\¬Ow owner (st mask h n).j/\∀ m,m < n->Ow owner (st mask h m).j:=by
 obtain ⟨e,he,hf⟩:=I.freeAt hl
 obtain ⟨l,hl',hx⟩:=nG k (lp mask h 13).1 e (by omega)
 have e1:(lp mask h (13+l)).1=e:=by rw [sG,hk];exact hx
 exact uE (h:=h) I.sz (lm:=13+l) (by rw [e1];exact hf) (turns mask) 0 0 (by unfold turns;omega) (Nat.zero_le _) rfl fun m hm=>absurd hm (Nat.not_lt_zero _)
theorem LInv.more (I:LInv mask owner hs) {n:Nat} (hn:¬Ow owner (st mask h n).j) (ho:∀ m,m < n->Ow owner (st mask h m).j):LInv mask (owner.setIfInBounds (st mask h n).j (some hs.length)) (hs++[h]):=by
 have hj:(st mask h n).j<=mask:=by have:=n4 (mask:=mask) (h:=h) n;omega
 have hjs:(st mask h n).j < owner.size:=by rw [I.sz];omega
 have get:∀ j:Nat,(owner.setIfInBounds (st mask h n).j (some hs.length))[j]? =if (st mask h n).j=j then some (some hs.length) else owner[j]?:=fun j=>by
  rw [Array.getElem?_setIfInBounds]
  by_cases c:(st mask h n).j=j
  ·subst c;simp [hjs]
  ·simp [c]
 have keep:∀ j k:Nat,owner[j]? =some (some k)->(owner.setIfInBounds (st mask h n).j (some hs.length))[j]? =some (some k):=fun j k e=>by
  rw [get,if_neg];exact e
  intro c;subst c
  exact hn ((rL I.sz hj).mpr ⟨k,e⟩)
 have keepO:∀ j,Ow owner j->Ow (owner.setIfInBounds (st mask h n).j (some hs.length)) j:=fun j o=>by
  unfold Ow at o ⊢
  rw [Array.getD_eq_getD_getElem?] at o ⊢
  rw [get]
  split
  ·rfl
  ·exact o
 refine ⟨by simp [I.sz],fun j k e=>?_,fun j j' k e e'=>?_,fun k hk=>?_⟩
 ·rw [get] at e
  split at e
  ·cases e;simp
  ·have:=I.lt j k e;simp;omega
 ·rw [get] at e e'
  split at e<;>split at e'
  ·omega
  ·cases e;exact absurd (I.lt j' _ e') (Nat.lt_irrefl _)
  ·cases e';exact absurd (I.lt j _ e) (Nat.lt_irrefl _)
  ·exact I.inj j j' k e e'
 ·rcases Nat.lt_or_ge k hs.length with c | c
  ·obtain ⟨n',e1,e2⟩:=I.reach k c
   rw [Qe c]
   exact ⟨n',keep _ _ e1,fun m hm=>keepO _ (e2 m hm)⟩
  ·have:k=hs.length:=by simp at hk;omega
   subst this
   rw [Qf (Qy _)]
   simp only [Nat.sub_self,List.getElem_cons_zero]
   exact ⟨n,by rw [get,if_pos rfl],fun m hm=>keepO _ (ho m hm)⟩
theorem pL {k:Nat} (hk:mask+1=2^k):∀ (rest hs:List Int) (owner:Array (Option Nat)),LInv mask owner hs->hs.length+rest.length<=mask->
  ∃ owner',rest.foldl (fun acc h=>do
   let (owner,k) <- acc
   let j <- layClean.free mask owner (turns mask) (bits h % (mask+1)) (bits h)
   pure (owner.setIfInBounds j (some k),k+1)) (some (owner,hs.length))=some (owner',(hs++rest).length)/\LInv mask owner' (hs++rest)
 | [],hs,owner,I,_=>⟨owner,by simp,by simpa using I⟩
 | h::rest,hs,owner,I,hl=>by
  obtain ⟨n,e1,e2,e3⟩:=vF hk I (by omega) h
  have I':=I.more e2 e3
  obtain ⟨owner',f1,f2⟩:=pL hk rest (hs++[h]) _ I' (by simp at hl ⊢;omega)
  refine ⟨owner',?_,by simpa using f2⟩
  rw [List.foldl_cons]
  simp only [Qk,List.length_cons,List.length_nil,List.append_assoc,List.cons_append,List.nil_append] at f1 ⊢
  rw [<- f1]
  congr 1
  show (do let j <- layClean.free mask owner (turns mask) (bits h % (mask+1)) (bits h);pure (owner.setIfInBounds j (some hs.length),hs.length+1))=_
  rw [e1]
  rfl
theorem m5 {k:Nat} (hk:mask+1=2^k) (hashes:Array Int) (hl:hashes.size<=mask):∃ owner,layClean mask hashes=some owner/\LInv mask owner hashes.toList:=by
 have I0:LInv mask (Array.replicate (mask+1) none) []:=⟨by simp,fun j k e=>by simp [Array.getElem?_replicate] at e,fun j j' k e=>by simp [Array.getElem?_replicate] at e,fun k h=>absurd h (by simp)⟩
 obtain ⟨owner,e1,e2⟩:=pL hk hashes.toList [] _ I0 (by simpa using hl)
 refine ⟨owner,?_,by simpa using e2⟩
 unfold layClean
 rw [<- Array.foldl_toList]
 have e1':=e1
 simp only [List.length_nil,List.nil_append] at e1'
 rw [e1']
 rfl
end
end L2
set_option autoImplicit false
set_option maxRecDepth 100000
namespace L2
open PySem PySem.SetTable
def liveL (mask:Nat) (owner:Array (Option Nat)):List (Nat×Nat):=(List.range (mask+1)).filterMap fun j=>(owner.getD j none).map (j,·)
section
variable {mask:Nat} {owner:Array (Option Nat)} {hs:List Int}
theorem cU (hz:owner.size=mask+1) {p:Nat×Nat}:p∈liveL mask owner↔p.1<=mask/\owner[p.1]? =some (some p.2):=by
 unfold liveL
 rw [List.mem_filterMap]
 constructor
 ·rintro ⟨j,hj,e⟩
  have hj':j < owner.size:=by have:=List.mem_range.mp hj;omega
  have eg:owner.getD j none=owner[j]:=by simp [Array.getD,hj']
  rw [eg] at e
  cases hx:owner[j] with
  | none=>rw [hx] at e;cases e
  | some k=>
   rw [hx] at e
   cases e
   exact ⟨by show j<=mask;omega,by show owner[j]? =_;rw [Array.getElem?_eq_getElem hj',hx]⟩
 ·rintro ⟨h1,h2⟩
  obtain ⟨h3,h4⟩:=Array.getElem?_eq_some_iff.mp h2
  refine ⟨p.1,List.mem_range.mpr (by omega),?_⟩
  have eg:owner.getD p.1 none=owner[p.1]:=by simp [Array.getD,h3]
  rw [eg,h4];rfl
theorem yC {f:Nat->Option Nat}:∀ l:List Nat,l.Pairwise (· < ·)->((l.filterMap fun j=>(f j).map (j,·)).map (·.1)).Pairwise (· < ·)/\∀ x∈(l.filterMap fun j=>(f j).map (j,·)).map (·.1),x∈l
 | [],_=>⟨.nil,fun _ h=>nomatch h⟩
 | a::l,h=>by
  obtain ⟨h1,h2⟩:=List.pairwise_cons.mp h
  obtain ⟨i1,i2⟩:=yC (f:=f) l h2
  cases e:f a with
  | none=>
   simp only [List.filterMap_cons,e,Option.map_none]
   exact ⟨i1,fun x hx=>Qh _ (i2 x hx)⟩
  | some k=>
   simp only [List.filterMap_cons,e,Option.map_some,List.map_cons]
   refine ⟨List.pairwise_cons.mpr ⟨fun x hx=>h1 x (i2 x hx),i1⟩,fun x hx=>?_⟩
   rcases Qp.mp hx with rfl | hx
   ·exact List.mem_cons_self ..
   ·exact Qh _ (i2 x hx)
theorem oO:((liveL mask owner).map (·.1)).Pairwise (· < ·):=(yC (f:=fun j=>owner.getD j none) _ List.pairwise_lt_range).1
theorem LInv.len (I:LInv mask owner hs):(liveL mask owner).length=hs.length:=by
 have nd:((liveL mask owner).map (·.2)).Nodup:=by
  have h1:=oO (mask:=mask) (owner:=owner)
  rw [List.pairwise_map] at h1
  refine List.pairwise_map.mpr (h1.imp_of_mem fun {a b} ha hb hab e=>?_)
  have:=I.inj a.1 b.1 a.2 ((cU I.sz).mp ha).2 (by rw [e];exact ((cU I.sz).mp hb).2)
  omega
 have l1:=gW nd (m:=List.range hs.length) fun x hx=>by
  obtain ⟨p,hp,rfl⟩:=List.mem_map.mp hx
  exact List.mem_range.mpr (I.lt _ _ ((cU I.sz).mp hp).2)
 have l2:=gW (l:=List.range hs.length) (m:=(liveL mask owner).map (·.2)) List.nodup_range fun x hx=>by
  have hx':=List.mem_range.mp hx
  obtain ⟨n,e1,_⟩:=I.reach x hx'
  have hj:(st mask hs[x] n).j<=mask:=by have:=n4 (mask:=mask) (h:=hs[x]) n;omega
  exact List.mem_map.mpr ⟨((st mask hs[x] n).j,x),(cU I.sz).mpr ⟨hj,e1⟩,rfl⟩
 simp at l1 l2
 omega
end
theorem a1u {l : List Nat} (h : l.Pairwise (· < ·)) : Ris l.toArray := fun i k hik hk => by
  have := List.pairwise_iff_getElem.mp h i k (by have : k < l.length := by simpa using hk
                                                 omega) (by simpa using hk) hik
  simpa using this
theorem yS {es:Array (Int×Value)}:∀ {L:List (Nat×Nat)},(∀ p∈L,p.2 < es.size)->(L.map (·.2)).filterMap (es[·]?)=L.map fun p=>es.getD p.2 (0,.none)
 | [],_=>rfl
 | p::L,h=>by
  have hp:=h p (List.mem_cons_self ..)
  simp only [List.map_cons,List.filterMap_cons,Array.getElem?_eq_getElem hp]
  rw [yS fun q hq=>h q (Qh _ hq)]
  congr 1
  simp [Array.getD,hp]
theorem vP {mask k finger moves:Nat} {led plain:Bool} {es:Array (Int×Value)} (hk:mask+1=2^k) (k3:3<=k) (room:es.size*5 < mask*3):∃ t' order,laid mask finger moves led plain (es.map (·.1))=some (t',order)/\
  TabOk t' (order.filterMap (es[·]?))/\(∀ e,e∈(order.filterMap (es[·]?)).toList↔e∈es.toList)/\(order.filterMap (es[·]?)).size=es.size/\t'.mask=mask:=by
 obtain ⟨owner,e1,I⟩:=m5 hk (es.map (·.1)) (by simp;omega)
 have hlen:=I.len
 simp only [Array.toList_map,Ql,Array.length_toList] at hlen
 have hlt:∀ p∈liveL mask owner,p.2 < es.size:=fun p hp=>by
  have:=I.lt _ _ ((cU I.sz).mp hp).2
  simpa using this
 have hel:(((liveL mask owner).map (·.2)).toArray.filterMap (es[·]?)).toList=(liveL mask owner).map fun p=>es.getD p.2 (0,.none):=by
  rw [Array.toList_filterMap]
  exact yS hlt
 have hsz:(((liveL mask owner).map (·.2)).toArray.filterMap (es[·]?)).size=es.size:=by
  rw [<- Array.length_toList,hel,Ql,hlen]
 have hocc:∀ j,Occ ({mask,place:=((liveL mask owner).map (·.1)).toArray,dummies:=#[],finger,led,moves,plain}:SetTable) j↔∃ k,(j,k)∈liveL mask owner:=fun j=>by
  constructor
  ·rintro ⟨i,hi,e⟩
   have hi':i < (liveL mask owner).length:=by simpa using hi
   have e':(liveL mask owner)[i].1=j:=by simpa using e
   exact ⟨(liveL mask owner)[i].2,by rw [<- e'];exact Qj hi'⟩
  ·rintro ⟨k,hm⟩
   obtain ⟨i,hi,e⟩:=Qi hm
   refine ⟨i,by simpa using hi,?_⟩
   have:(liveL mask owner)[i].1=j:=by rw [e]
   simpa using this
 refine ⟨{mask,place:=((liveL mask owner).map (·.1)).toArray,dummies:=#[],finger,led,moves,plain},((liveL mask owner).map (·.2)).toArray,?_,⟨⟨k,hk,k3⟩,rfl,?_,a1u oO,fun i hi=>?_,?_,fun i h1 h2=>?_⟩,fun e=>?_,hsz,rfl⟩
 ·unfold laid
  rw [e1]
  rfl
 ·show ((liveL mask owner).map (·.1)).toArray.size=_
  rw [hsz];simpa using hlen
 ·have hi':i < (liveL mask owner).length:=by simpa using hi
  have:=((cU I.sz).mp (Qj hi')).1
  simpa using this
 ·rw [hsz];exact room
 ·have hi':i < (liveL mask owner).length:=by simpa using h2
  have hm:=Qj hi'
  have hp:=hlt _ hm
  have ee:(((liveL mask owner).map (·.2)).toArray.filterMap (es[·]?))[i]=es[(liveL mask owner)[i].2]:=by
   have:(((liveL mask owner).map (·.2)).toArray.filterMap (es[·]?))[i]=(((liveL mask owner).map (·.2)).toArray.filterMap (es[·]?)).toList[i]'(by simpa using h1):=by simp
   rw [this]
   simp only [hel,Qr]
   simp [Array.getD,hp]
  obtain ⟨n,q1,q2⟩:=I.reach (liveL mask owner)[i].2 (by simpa using hp)
  have eh:(es.map (·.1)).toList[(liveL mask owner)[i].2]'(by simpa using hp)=es[(liveL mask owner)[i].2].1:=by simp
  rw [eh] at q1 q2
  rw [ee]
  refine ⟨n,?_,fun m hm'=>?_⟩
  ·have:=I.inj _ _ _ q1 ((cU I.sz).mp hm).2
   simpa using this
  ·have hj:(st mask es[(liveL mask owner)[i].2].1 m).j<=mask:=by have:=n4 (mask:=mask) (h:=es[(liveL mask owner)[i].2].1) m;omega
   obtain ⟨k',hk'⟩:=(rL I.sz hj).mp (q2 m hm')
   exact (hocc _).mpr ⟨k',(cU I.sz).mpr ⟨hj,hk'⟩⟩
 ·rw [hel]
  constructor
  ·intro he
   obtain ⟨p,hp,rfl⟩:=List.mem_map.mp he
   have:=hlt p hp
   simp [Array.getD,this]
  ·intro he
   obtain ⟨x,hx,rfl⟩:=Qi he
   have hx':x < es.size:=by simpa using hx
   obtain ⟨n,q1,_⟩:=I.reach x (by simpa using hx')
   have eh:(es.map (·.1)).toList[x]'(by simpa using hx')=es[x].1:=by simp
   rw [eh] at q1
   have hj:(st mask es[x].1 n).j<=mask:=by have:=n4 (mask:=mask) (h:=es[x].1) n;omega
   refine List.mem_map.mpr ⟨((st mask es[x].1 n).j,x),(cU I.sz).mpr ⟨hj,q1⟩,?_⟩
   simp [Array.getD,hx']
theorem iL:∀ (fuel k n:Nat),n < 2^(k+fuel)->∃ k',k<=k'/\sizeAbove.go n fuel (2^k)=2^k'/\n < 2^k'
 | 0,k,n,h=>⟨k,Qy _,rfl,by simpa using h⟩
 | fuel+1,k,n,h=>by
  unfold sizeAbove.go
  by_cases c:2^k<=n
  ·rw [if_pos c,show 2^k*2=2^(k+1) by rw [Nat.pow_succ]]
   obtain ⟨k',h1,h2,h3⟩:=iL fuel (k+1) n (by rw [show k+1+fuel=k+(fuel+1) by omega];exact h)
   exact ⟨k',by omega,h2,h3⟩
  ·rw [if_neg c]
   exact ⟨k,Qy _,rfl,by omega⟩
theorem iQ:∀ (fuel size n:Nat),size<=2*n+8->sizeAbove.go n fuel size<=2*n+8
 | 0,size,n,h=>h
 | fuel+1,size,n,h=>by
  unfold sizeAbove.go
  by_cases c:size<=n
  ·rw [if_pos c];exact iQ fuel _ n (by omega)
  ·rw [if_neg c];exact h
theorem lY {n:Nat} (h:n < 2^60):∃ k,3<=k/\sizeAbove n=2^k/\n < 2^k/\sizeAbove n<=2*n+8:=by
 obtain ⟨k,h1,h2,h3⟩:=iL 64 3 n (Nat.lt_of_lt_of_le h (Nat.pow_le_pow_right (by decide) (by decide)))
 exact ⟨k,h1,h2,h3,iQ 64 8 n (by omega)⟩
end L2
set_option autoImplicit false
set_option maxRecDepth 100000
namespace L2
open PySem PySem.SetTable
section
variable {prog:Program} {w:World} {K:Type} [DecidableEq K] {knd:KeyKind prog w K} {A:Around} {E:Value->Shared->Prop} {s:Shared}
theorem qS (n:Nat) {v:Value} (h:carriedByValue v=true):ofAClassStatement n v=pure false:=by
 cases v<;>first | (cases n<;>rfl) | (unfold ofAClassStatement;rfl) | (cases h;done)
theorem uG {ks:List K} {a:Addr} {Q:Bool->Shared->Prop} (hk:IsTupleKey knd s.heap ks a) (h:Q false s):wpAny (model prog w) A (ofAClassStatement 8 (.ref a)) Q E s:=by
 have hT:=hk.typeIs
 obtain ⟨o,items,n,ho,_,hd,hi⟩:=hk
 unfold ofAClassStatement
 refine QT (wpAny_typeOf hT ?_)
 refine QT (QU ?_)
 dsimp only
 refine QT (wpAny_seqItems ho hd ?_)
 refine QT ?_
 show wpAny _ _ (forIn items _ _) _ _ s
 rw [<- Array.forIn_toList]
 refine wpAny_forIn_list _ (fun rest r s'=>r.1=none/\s'=s/\∀ v∈rest,carriedByValue v=true) _ ?_ ?_ _ _ ⟨rfl,rfl,hi.byValue⟩
 ·rintro v rest r s' ⟨hr,rfl,hall⟩
  rw [qS _ (hall v List.mem_cons_self)]
  refine QT (QU ?_)
  exact QU ⟨rfl,rfl,fun u hu'=>hall u (Qh _ hu')⟩
 ·rintro ⟨r1,r2⟩ s' ⟨hr,rfl,_⟩
  simp only at hr
  subst hr
  exact QU h
theorem lI {ks:List K} {b:Addr} {stored:List Value} {Q:Bool->Shared->Prop} (hk:IsTupleKey knd s.heap ks b) (hst:∀ y∈stored,∃ ks' b',y=.ref b'/\IsTupleKey knd s.heap ks' b') (h:Q false s):wpAny (model prog w) A (searchCouldBeSeen (.ref b) stored) Q E s:=by
 unfold searchCouldBeSeen
 refine QT ?_
 refine wpAny_forIn_list _ (fun rest r s'=>r.1=none/\s'=s/\∀ y∈rest,∃ ks' b',y=.ref b'/\IsTupleKey knd s.heap ks' b') _ ?_ ?_ _ _ ⟨rfl,rfl,hst⟩
 ·rintro y rest r s' ⟨hr,rfl,hall⟩
  obtain ⟨ks',b',rfl,hk'⟩:=hall y List.mem_cons_self
  have nx:∀ y∈rest,∃ ks' b',y=Value.ref b'/\IsTupleKey knd s'.heap ks' b':=fun u hu=>hall u (Qh _ hu)
  dsimp only
  split
  ·exact QU ⟨rfl,rfl,nx⟩
  ·refine QT (wpAny_eqIsQuiet_tuple hk ?_)
   simp only [Bool.not_true,Bool.false_eq_true,if_false]
   refine QT (wpAny_eqIsQuiet_tuple hk' ?_)
   simp only [Bool.not_true,Bool.false_eq_true,if_false]
   refine QT (uG hk ?_)
   simp only [Bool.false_eq_true,if_false]
   refine QT (uG hk' ?_)
   simp only [Bool.false_eq_true,if_false]
   exact QU ⟨rfl,rfl,nx⟩
 ·rintro ⟨r1,r2⟩ s' ⟨hr,rfl,_⟩
  simp only at hr
  subst hr
  exact QU h
theorem vJ (n:Nat) {v:Value} (h:carriedByValue v=true):∃ b,hashByValue n v=pure b:=by
 cases v<;>first | (cases n<;>exact ⟨_,rfl⟩) | exact ⟨_,by unfold hashByValue;rfl⟩ | (cases h;done)
theorem a1L {ks:List K} {a:Addr} {Q:Bool->Shared->Prop} (hk:IsTupleKey knd s.heap ks a) (h:∀ b,Q b s):wpAny (model prog w) A (hashByValue 8 (.ref a)) Q E s:=by
 have hT:=hk.typeIs
 obtain ⟨o,items,n,ho,_,hd,hi⟩:=hk
 unfold hashByValue
 refine QT (wpAny_specialOf hT F.slot_tuple_hash.lookup ?_)
 refine QT (wpAny_seqItems ho hd ?_)
 refine QT ?_
 show wpAny _ _ (forIn items _ _) _ _ s
 rw [<- Array.forIn_toList]
 refine wpAny_forIn_list _ (fun rest r s'=>r.1=none/\s'=s/\∀ v∈rest,carriedByValue v=true) _ ?_ ?_ _ _ ⟨rfl,rfl,hi.byValue⟩
 ·rintro v rest r s' ⟨hr,rfl,hall⟩
  obtain ⟨b,eb⟩:=vJ 7 (hall v List.mem_cons_self)
  rw [eb]
  refine QT (QU ?_)
  cases b with
  | true=>exact QU ⟨rfl,rfl,fun u hu'=>hall u (Qh _ hu')⟩
  | false=>exact QU (QU (h _))
 ·rintro ⟨r1,r2⟩ s' ⟨hr,rfl,_⟩
  simp only at hr
  subst hr
  exact QU (h _)
def Ents (knd:KeyKind prog w K) (h:Heap) (es:List (Int×Value)):Prop:=∀ e∈es,∃ ks b,e=(tupleKeyHash knd ks,.ref b)/\IsTupleKey knd h ks b
def Has (knd:KeyKind prog w K) (h:Heap) (es:List (Int×Value)) (ks:List K):Prop:=∃ b,(tupleKeyHash knd ks,Value.ref b)∈es/\IsTupleKey knd h ks b
theorem iJ {t:SetTable} {es:Array (Int×Value)} (T:TabOk t es):t.fits es.size=true:=by
 unfold SetTable.fits SetTable.fill
 rw [T.nd]
 have:=T.sz
 have:=T.room
 simp;omega
theorem a1x {t:SetTable} {es:Array (Int×Value)} (T:TabOk t es):t.gaveWay=false:=by
 obtain ⟨k,hk,h3⟩:=T.pw
 unfold SetTable.gaveWay
 have:2^k=2*2^(k - 1):=by rw [<- Nat.pow_succ'];congr 1;omega
 have:t.mask % 2=1:=by omega
 rw [this];rfl
theorem mP {t:SetTable} {es:Array (Int×Value)} {h:Int} {n0 n:Nat} {hashAt:Nat->Int} {r:Option Met} (T:TabOk t es) (F:FF t h n0) (hn:n<=n0) (e:t.probe hashAt h (st t.mask h n)=r) (hA:∀ i (h:i < es.size),hashAt i=es[i].1):
  (∃ m i,∃ (h1:i < es.size) (h2:i < t.place.size),n<=m/\m < n0/\t.place[i]=(st t.mask h m).j/\es[i].1=h/\(∀ m',n<=m'->m' < m->∀ i' (h1:i' < es.size) (h2:i' < t.place.size),t.place[i']=(st t.mask h m').j->es[i'].1≠h)/\r=some (.candidate (st t.mask h m).j i (st t.mask h (m+1))))\/
  ((∀ m',n<=m'->m' < n0->∀ i' (h1:i' < es.size) (h2:i' < t.place.size),t.place[i']=(st t.mask h m').j->es[i'].1≠h)/\r=some (.empty (st t.mask h n0).j none)):=by
 have hz:=T.sz
 rcases pX (hashAt:=hashAt) T.ris T.nd F (10*turns t.mask) n hn (by have:=F.soon;omega) with ⟨m,i,hi,h1,h2,h3,h4,h5,h6⟩ | ⟨h1,h2⟩
 ·refine .inl ⟨m,i,by omega,hi,h1,h2,h3,by rw [<- hA];exact h4,fun m' q1 q2 i' g1 g2 g3=>?_,e.symm.trans h6⟩
  rw [<- hA];exact h5 m' q1 q2 i' g2 g3
 ·refine .inr ⟨fun m' q1 q2 i' g1 g2 g3=>?_,e.symm.trans h2⟩
  rw [<- hA];exact h1 m' q1 q2 i' g2 g3
theorem g6 {a b:Addr} {o:Obj} {es:Array (Int×Value)} {ep:Nat} {t:SetTable} {ks:List K} {n0:Nat} {adding:Bool} {Q:SetFound->Shared->Prop} (hu:A.units < cLine)
  (ho:s.heap.get? a=some o) (hd:o.data=.set es ep t) (T:TabOk t es) (hE:Ents knd s.heap es.toList) (hk:IsTupleKey knd s.heap ks b) (F:FF t (tupleKeyHash knd ks) n0)
  (yes:Has knd s.heap es.toList ks->∀ io,(adding=false->io.isSome=true)->Q (.there io) s)
  (no:¬Has knd s.heap es.toList ks->Q (.free (st t.mask (tupleKeyHash knd ks) n0).j false) s):
  ∀ (fuel n:Nat) (stand:Option Probe),n<=n0->n0 - n < fuel->stand.getD (t.probeStart (tupleKeyHash knd ks))=st t.mask (tupleKeyHash knd ks) n->
   (∀ m,m < n->∀ i (h1:i < es.size) (h2:i < t.place.size),t.place[i]=(st t.mask (tupleKeyHash knd ks) m).j->¬∃ b',es[i]=(tupleKeyHash knd ks,Value.ref b')/\IsTupleKey knd s.heap ks b')->
   wpAny (model prog w) A (setSearchFrom a (.ref b) (tupleKeyHash knd ks) adding fuel stand) Q E s
 | 0,n,_,_,hf,_,_=>absurd hf (Nat.not_lt_zero _)
 | fuel+1,n,stand,hn,hf,es0,hne=>by
  unfold setSearchFrom
  refine QT (wpAny_setState_of ho hd (iJ T) ?_)
  dsimp only
  rw [a1x T]
  simp only [Bool.false_eq_true,if_false]
  refine QT (QU ?_)
  rw [es0]
  have hha:∀ hashAt:Nat->Int,(∀ i,hashAt i=((es[i]?).map (·.1)).getD 0)->∀ i (h:i < es.size),hashAt i=es[i].1:=fun hashAt e i h=>by rw [e,Array.getElem?_eq_getElem h];rfl
  have hz:=T.sz
  split
  ·rename_i met hmet
   rcases mP T F hn hmet (hha _ fun _=>rfl) with ⟨m,i,h1,h2,q1,q2,q3,q4,q5,q6⟩ | ⟨q1,q2⟩
   ·cases q6
    dsimp only
    obtain ⟨ks',b',e1,hk'⟩:=hE es[i] (by simp)
    have go:wpAny (model prog w) A (do
      let equal <- holding [Value.ref b'] (eqBool (Value.ref b') (Value.ref b))
      let __x <- setState a
      if (adding&&equal)=true then pure (SetFound.there none)
       else
        match __x.2.snd.sameMemory t.moves t.mask with
        | some same=>do
         let still <- match (if same then __x.2.snd.slot (st t.mask (tupleKeyHash knd ks) m).j else .empty) with
          | .live i'=>match __x.1[i']? with
           | some (_,y')=>do pure (if <- isSame y' (.ref b') then some i' else none)
           | none=>pure none
          | _=>pure none
         match still with
         | none=>rule "set.search.anew";setSearchFrom a (.ref b) (tupleKeyHash knd ks) adding fuel none
         | some i'=>if equal then return .there (some i') else setSearchFrom a (.ref b) (tupleKeyHash knd ks) adding fuel (some (st t.mask (tupleKeyHash knd ks) (m+1)))
        | x=>unsupported "set.changed-during-lookup:is-the-new-block-at-the-old-address") Q E s:=by
     refine QT (wpAny_holding (wpAny_eqBool_tuple hu hk' hk ?_))
     refine QT (wpAny_setState_of ho hd (iJ T) ?_)
     dsimp only
     have hsm:t.sameMemory t.moves t.mask=some true:=by unfold SetTable.sameMemory;simp
     have hsl:t.slot (st t.mask (tupleKeyHash knd ks) m).j=.live i:=by rw [<- q3];exact gT T.ris h2
     have hei:es[i]? =some (tupleKeyHash knd ks',Value.ref b'):=by rw [Array.getElem?_eq_getElem h1,e1]
     rw [hsm]
     dsimp only
     rw [if_pos rfl,hsl]
     dsimp only
     rw [hei]
     dsimp only
     by_cases c:ks'=ks
     ·subst c
      have hs:Has knd s.heap es.toList ks':=⟨b',by rw [<- e1];simp,hk'⟩
      rw [Qv rfl]
      cases adding with
      | true=>exact QU (yes hs none (fun z=>nomatch z))
      | false=>
       refine QT (wpAny_isSame_ref_self (QT (QU ?_)))
       exact QU (yes hs (some i) fun _=>rfl)
     ·rw [Qw c,Bool.and_false]
      refine QT (wpAny_isSame_ref_self (QT (QU ?_)))
      refine g6 hu ho hd T hE hk F yes no fuel (m+1) (some _) (by omega) (by omega) rfl fun m' hm' i' g1 g2 g3=>?_
      rintro ⟨b2,f1,f2⟩
      rcases Nat.lt_or_ge m' n with d | d
      ·exact hne m' d i' g1 g2 g3 ⟨b2,f1,f2⟩
      ·rcases Nat.lt_or_ge m' m with d' | d'
       ·exact q5 m' d d' i' g1 g2 g3 (by rw [f1])
       ·have:m'=m:=by omega
        subst this
        have ei:i'=i:=by
         have:=gT T.ris g2
         rw [g3,hsl] at this
         injection this with this
         exact this.symm
        subst ei
        rw [e1] at f1
        injection f1 with _ f3
        injection f3 with f3
        subst f3
        exact c (hk'.inj f2)
    split
    ·refine QT (lI hk (fun y hy=>?_) ?_)
     ·obtain ⟨e,he,rfl⟩:=List.mem_map.mp hy
      have:e∈es.toList:=by simp at he;simpa using he.1
      obtain ⟨k2,b2,e2,hk2⟩:=hE e this
      exact ⟨k2,b2,by rw [e2],hk2⟩
     ·simp only [Bool.false_eq_true,if_false]
      refine QT (QU ?_)
      rw [Array.getElem?_eq_getElem h1,e1]
      exact go
    ·refine QT (QU ?_)
     rw [Array.getElem?_eq_getElem h1,e1]
     exact go
   ·cases q2
    dsimp only
    refine QU (no ?_)
    rintro ⟨b',hm,hb⟩
    obtain ⟨i,hi,e⟩:=Qi hm
    have hi':i < es.size:=by simpa using hi
    have e':es[i]=(tupleKeyHash knd ks,Value.ref b'):=by simpa using e
    obtain ⟨m,hm1,hm2⟩:=T.met F hi' (by omega) (by rw [e'])
    rcases Nat.lt_or_ge m n with c | c
    ·exact hne m c i hi' (by omega) hm2.symm ⟨b',e',hb⟩
    ·exact q1 m c hm1 i hi' (by omega) hm2.symm (by rw [e'])
  ·rename_i hmet
   rcases mP T F hn rfl (hha _ fun _=>rfl) with ⟨_,_,_,_,_,_,_,_,_,q6⟩ | ⟨_,q2⟩
   ·exact (hmet _ q6).elim
   ·exact (hmet _ q2).elim
end
end L2
set_option autoImplicit false
set_option maxRecDepth 100000
namespace L2
open PySem PySem.SetTable
section
variable {prog:Program} {w:World} {K:Type} [DecidableEq K] {knd:KeyKind prog w K} {A:Around} {E:Value->Shared->Prop} {s:Shared}
def SetT (knd:KeyKind prog w K) (h:Heap) (a:Addr) (kas:List (List K×Addr)):Prop:=∃ (o:Obj) (es:Array (Int×Value)) (ep:Nat) (t:SetTable),h.get? a=some o/\o.ExactSet/\o.data=.set es ep t/\TabOk t es/\
 (∀ e,e∈es.toList↔∃ p∈kas,e=(tupleKeyHash knd p.1,Value.ref p.2))/\es.size=kas.length/\t.mask<=9000
def KeysIn (knd:KeyKind prog w K) (h:Heap) (kas:List (List K×Addr)):Prop:=∀ p∈kas,IsTupleKey knd h p.1 p.2
theorem mW {h:Heap} {kas:List (List K×Addr)} {es:Array (Int×Value)} (hk:KeysIn knd h kas) (he:∀ e,e∈es.toList↔∃ p∈kas,e=(tupleKeyHash knd p.1,Value.ref p.2)):Ents knd h es.toList:=fun e hm=>by
 obtain ⟨p,hp,rfl⟩:=(he e).mp hm
 exact ⟨p.1,p.2,rfl,hk p hp⟩
theorem qO {h:Heap} {kas:List (List K×Addr)} {es:Array (Int×Value)} {ks:List K} (hk:KeysIn knd h kas) (he:∀ e,e∈es.toList↔∃ p∈kas,e=(tupleKeyHash knd p.1,Value.ref p.2)):Has knd h es.toList ks↔ks∈kas.map (·.1):=by
 constructor
 ·rintro ⟨b,hm,hb⟩
  obtain ⟨p,hp,e⟩:=(he _).mp hm
  injection e with _ e2
  injection e2 with e2
  subst e2
  exact List.mem_map.mpr ⟨p,hp,(hk p hp).inj hb⟩
 ·intro hm
  obtain ⟨p,hp,rfl⟩:=List.mem_map.mp hm
  exact ⟨p.2,(he _).mpr ⟨p,hp,rfl⟩,hk p hp⟩
theorem oT (b:Addr) (es:Array (Int×Value)):byScan (.ref b) es=false:=rfl
theorem sI {a b:Addr} {kas:List (List K×Addr)} {ks:List K} {Q:Option Nat->Shared->Prop} (hu:A.units < cLine) (hS:SetT knd s.heap a kas) (hK:KeysIn knd s.heap kas) (hk:IsTupleKey knd s.heap ks b)
  (h:∀ io:Option Nat,io.isSome=decide (ks∈kas.map (·.1))->Q io s):wpAny (model prog w) A (setFind a (.ref b) (tupleKeyHash knd ks)) Q E s:=by
 obtain ⟨o,es,ep,t,ho,hex,hd,T,he,hsz,hm⟩:=hS
 obtain ⟨n0,F⟩:=T.ff (tupleKeyHash knd ks)
 have hh:=qO (ks:=ks) hK he
 unfold setFind setFindIn
 refine QT (wpAny_setState_of ho hd (iJ T) ?_)
 dsimp only
 rw [oT]
 simp only [Bool.false_eq_true,if_false]
 unfold setSearch
 refine QT (g6 hu ho hd T (mW hK he) hk F (fun hy io hio=>?_) (fun hn=>?_) 100000 0 none (Nat.zero_le _) (by have:=F.soon;unfold turns at this;omega) rfl fun m hm=>absurd hm (Nat.not_lt_zero _))
 ·exact QU (h io (by rw [hio rfl,Qv (hh.mp hy)]))
 ·exact QU (h none (by rw [Qw fun z=>hn (hh.mpr z)];rfl))
theorem kQ {a b:Addr} {kas:List (List K×Addr)} {ks:List K} {Q:Bool->Shared->Prop} (hu:A.units < cLine) (hS:SetT knd s.heap a kas) (hK:KeysIn knd s.heap kas) (hk:IsTupleKey knd s.heap ks b)
  (h:∀ r tk,(r=true↔ks∈kas.map (·.1))->Q r {s with toks:=tk}):wpAny (model prog w) A (setContains a (.ref b)) Q E s:=by
 unfold setContains
 refine wpAny_holding (QT ((tupleKind knd).pyHash hu hk ?_))
 refine QT (sI (s:={s with toks:=_}) hu hS hK hk fun io e=>QU ?_)
 rw [e]
 exact h _ _ decide_eq_true_iff
theorem nU {α:Type} {xs:Array α} {p:Nat} {x e:α} (hp:p<=xs.size):e∈(insertAt xs p x).toList↔e=x\/e∈xs.toList:=by
 rw [dF hp]
 rw [List.mem_append,Qp]
 conv=>rhs;rw [<- List.take_append_drop p xs.toList,List.mem_append]
 constructor
 ·rintro (h | h | h)
  ·exact .inr (.inl h)
  ·exact .inl h
  ·exact .inr (.inr h)
 ·rintro (h | h | h)
  ·exact .inr (.inl h)
  ·exact .inl h
  ·exact .inr (.inr h)
theorem mS {h:Heap} {a:Addr} {o:Obj} {es es':Array (Int×Value)} {ep:Nat} {t t':SetTable} (ho:h.get? a=some o) (hd:o.data=.set es ep t):(h.update a (Obj.putSet es' t')).get? a=some {o with data:=.set es' (ep+1) t'}:=by
 have:=Heap.get?_update_self (Obj.putSet es' t') ho (by rw [putSet_of es' t' hd];rfl)
 rw [putSet_of es' t' hd] at this;exact this
theorem a1B {X:Array (Int×Value)} {t':SetTable} {order:Array Nat} {Q:Array (Int×Value)×SetTable->Shared->Prop} (l4:(order.filterMap (X[·]?)).size=X.size) (h:Q (order.filterMap (X[·]?),t') s):wpAny (model prog w) A (do
  let some (t,od):=(some (t',order):Option (SetTable×Array Nat)) | unsupported "internal:set-table-without-room"
  let es':=od.filterMap (X[·]?)
  if es'.size !=X.size then unsupported "internal:set-table-lost-an-element"
  pure (es',t)) Q E s:=by
 dsimp only
 rw [if_neg (by rw [l4];simp)]
 exact QU h
theorem kC {a b:Addr} {kas:List (List K×Addr)} {ks:List K} {Q:Bool->Shared->Prop} (hu:A.units < cLine) (hS:SetT knd s.heap a kas) (hK:KeysIn knd s.heap kas) (hk:IsTupleKey knd s.heap ks b) (hl:kas.length < 1000)
  (hy:ks∈kas.map (·.1)->Q false s) (hn:ks ∉ kas.map (·.1)->∀ h',Heap.SameBut a s.heap h'->SetT knd h' a (kas++[(ks,b)])->Q true {s with heap:=h'}):wpAny (model prog w) A (setAddHashed a (.ref b) (tupleKeyHash knd ks)) Q E s:=by
 obtain ⟨o,es,ep,t,ho,hex,hd,T,he,hsz,hm⟩:=hS
 obtain ⟨n0,F⟩:=T.ff (tupleKeyHash knd ks)
 have hh:=qO (ks:=ks) hK he
 have hlz:sizeLine=16777216:=QL
 unfold setAddHashed setAddHashedIn
 refine wpAny_holding (QT (wpAny_setState_of ho hd (iJ T) ?_))
 dsimp only
 rw [oT]
 simp only [Bool.false_eq_true,if_false]
 unfold setSearch
 refine QT (g6 hu ho hd T (mW hK he) hk F (fun h io hio=>?_) (fun h=>?_) 100000 0 none (Nat.zero_le _) (by have:=F.soon;unfold turns at this;omega) rfl fun m hm=>absurd hm (Nat.not_lt_zero _))
 ·exact QU (hy (hh.mp h))
 ·dsimp only
  refine QT (wpAny_setState_of ho hd (iJ T) ?_)
  dsimp only
  rw [lJ T.nd]
  dsimp only
  have hnot:ks ∉ kas.map (·.1):=fun z=>h (hh.mpr z)
  have hp:=(eA (j:=(st t.mask (tupleKeyHash knd ks) n0).j) T.ris).1
  have hpe:below t.place (st t.mask (tupleKeyHash knd ks) n0).j<=es.size:=by have:=T.sz;omega
  have hsz':=b7 (x:=(tupleKeyHash knd ks,Value.ref b)) hpe
  have hmem:∀ e,e∈(insertAt es (below t.place (st t.mask (tupleKeyHash knd ks) n0).j) (tupleKeyHash knd ks,Value.ref b)).toList↔∃ p∈kas++[(ks,b)],e=(tupleKeyHash knd p.1,Value.ref p.2):=fun e=>by
   rw [nU hpe,he]
   constructor
   ·rintro (rfl | ⟨p,hp,rfl⟩)
    ·exact ⟨(ks,b),List.mem_append_right _ (List.mem_singleton.mpr rfl),rfl⟩
    ·exact ⟨p,List.mem_append_left _ hp,rfl⟩
   ·rintro ⟨p,hp,rfl⟩
    rcases List.mem_append.mp hp with hp | hp
    ·exact .inr ⟨p,hp,rfl⟩
    ·rw [List.mem_singleton] at hp;subst hp;exact .inl rfl
  -- the rest,whatever 'plain' is
  have rest:∀ (pl:Bool) (s1:Shared),s1=s->wpAny (model prog w) A (do
    storeSet a (insertAt es (below t.place (st t.mask (tupleKeyHash knd ks) n0).j) (tupleKeyHash knd ks,Value.ref b)) {putT t (st t.mask (tupleKeyHash knd ks) n0).j with plain:=pl}
    if (!false&&({putT t (st t.mask (tupleKeyHash knd ks) n0).j with plain:=pl}:SetTable).tooFull)=true then do setRelay a (SetTable.grown (es.size+1));pure true else pure true) Q E s1:=by
   rintro pl s1 rfl
   refine QT (wpAny_storeSet_of ho hd ?_ (by rw [hsz'];omega))
   have ho1:=mS (es':=insertAt es (below t.place (st t.mask (tupleKeyHash knd ks) n0).j) (tupleKeyHash knd ks,Value.ref b)) (t':={putT t (st t.mask (tupleKeyHash knd ks) n0).j with plain:=pl}) ho hd
   have hsb:=Heap.SameBut.update s1.heap a (Obj.putSet (insertAt es (below t.place (st t.mask (tupleKeyHash knd ks) n0).j) (tupleKeyHash knd ks,Value.ref b)) {putT t (st t.mask (tupleKeyHash knd ks) n0).j with plain:=pl})
   have hfill:({putT t (st t.mask (tupleKeyHash knd ks) n0).j with plain:=pl}:SetTable).fill=es.size+1:=by
    show (insertAt t.place _ _).size+t.dummies.size=_
    rw [b7 hp,T.nd,T.sz];rfl
   by_cases full:({putT t (st t.mask (tupleKeyHash knd ks) n0).j with plain:=pl}:SetTable).tooFull=true
   ·rw [if_pos (by simpa using full)]
    have hfits:({putT t (st t.mask (tupleKeyHash knd ks) n0).j with plain:=pl}:SetTable).fits (insertAt es (below t.place (st t.mask (tupleKeyHash knd ks) n0).j) (tupleKeyHash knd ks,Value.ref b)).size=true:=by
     unfold SetTable.fits
     rw [hfill,hsz']
     have h1:=T.room
     have h2:(insertAt t.place (below t.place (st t.mask (tupleKeyHash knd ks) n0).j) (st t.mask (tupleKeyHash knd ks) n0).j).size=es.size+1:=by rw [b7 hp,T.sz]
     have h3:es.size+1<=t.mask:=by
      obtain ⟨k,hk,k3⟩:=T.pw
      have:2^3<=2^k:=Nat.pow_le_pow_right (by decide) k3
      omega
     simp [h2,h3]
    have hgr:SetTable.grown (es.size+1)=4*(es.size+1):=by
     unfold SetTable.grown
     rw [if_neg (by omega)];omega
    obtain ⟨k,k3,e2,lt,le⟩:=lY (n:=SetTable.grown (es.size+1)) (by rw [hgr];omega)
    rw [hgr] at lt le
    have hmask:SetTable.sizeAbove (SetTable.grown (es.size+1)) - 1+1=2^k:=by rw [e2];have:0 < 2^k:=Nat.pow_pos (by decide);omega
    obtain ⟨t',order,l1,l2,l3,l4,l5⟩:=vP (mask:=SetTable.sizeAbove (SetTable.grown (es.size+1)) - 1) (finger:=t.finger) (moves:=({putT t (st t.mask (tupleKeyHash knd ks) n0).j with plain:=pl}:SetTable).movedTo (SetTable.sizeAbove (SetTable.grown (es.size+1)) - 1)) (led:=t.led) (plain:=pl) (es:=insertAt es (below t.place (st t.mask (tupleKeyHash knd ks) n0).j) (tupleKeyHash knd ks,Value.ref b)) hmask k3 (by rw [hsz',e2];omega)
    refine QT ?_
    unfold setRelay
    refine QT (wpAny_setState_of ho1 rfl hfits ?_)
    dsimp only
    rw [if_neg (by rw [hlz,hgr] at*;omega)]
    have er:({putT t (st t.mask (tupleKeyHash knd ks) n0).j with plain:=pl}:SetTable).relaid (Array.map (fun x=>x.fst) (insertAt es (below t.place (st t.mask (tupleKeyHash knd ks) n0).j) (tupleKeyHash knd ks,Value.ref b))) (SetTable.grown (es.size+1))=some (t',order):=l1
    rw [er]
    refine QT (a1B l4 ?_)
    refine wpAny_storeSet_of ho1 rfl ?_ (by rw [l4,hsz'];omega)
    have ho2:=mS (es':=order.filterMap ((insertAt es (below t.place (st t.mask (tupleKeyHash knd ks) n0).j) (tupleKeyHash knd ks,Value.ref b))[·]?)) (t':=t') ho1 rfl
    refine QU (hn hnot _ (hsb.trans (Heap.SameBut.update _ a _)) ⟨_,_,_,_,ho2,hex,rfl,l2,fun e=>(l3 e).trans (hmem e),by rw [l4,hsz',hsz];simp,by rw [l5];rw [hgr] at*;omega⟩)
   ·rw [if_neg (by simpa using full)]
    have hr:(es.size+1)*5 < t.mask*3:=by
     unfold SetTable.tooFull at full
     rw [hfill] at full
     simpa using full
    have T':=T.put (x:=Value.ref b) F hr
    refine QU (hn hnot _ hsb ⟨_,_,_,_,ho1,hex,rfl,⟨T'.pw,T'.nd,T'.sz,T'.ris,T'.le,T'.room,T'.reach⟩,hmem,by rw [hsz',hsz];simp,hm⟩)
  by_cases hp2:t.plain=true
  ·rw [if_pos hp2]
   refine QT (a1L hk fun bv=>?_)
   cases bv with
   | true=>exact rest t.plain s rfl
   | false=>exact rest false s rfl
  ·rw [if_neg hp2]
   exact QT (QU (rest t.plain s rfl))
theorem mB {a b:Addr} {kas:List (List K×Addr)} {ks:List K} {Q:Bool->Shared->Prop} (hu:A.units < cLine) (hS:SetT knd s.heap a kas) (hK:KeysIn knd s.heap kas) (hk:IsTupleKey knd s.heap ks b) (hl:kas.length < 1000)
  (hy:ks∈kas.map (·.1)->∀ tk,s.toks<=tk->Q false {s with toks:=tk}) (hn:ks ∉ kas.map (·.1)->∀ h' tk,s.toks<=tk->Heap.SameBut a s.heap h'->SetT knd h' a (kas++[(ks,b)])->Q true {s with heap:=h',toks:=tk}):wpAny (model prog w) A (setAdd a (.ref b)) Q E s:=by
 unfold setAdd
 refine wpAny_holding (QT ((tupleKind knd).pyHash hu hk ?_))
 exact kC (s:={s with toks:=_}) hu hS hK hk hl (fun h=>hy h _ (Nat.le_add_right _ _)) fun h h' sb st=>hn h h' _ (Nat.le_add_right _ _) sb st
end
end L2
set_option autoImplicit false
set_option maxRecDepth 100000
namespace L2
open PySem PySem.Spec PyProof.Rows
open Classical in
section
variable {prog:Program} {w:World}
theorem uW {h h':Heap} {a:Addr} {kas:List (List Key×Addr)} (q:SetT (mixKind prog w) h a kas) (k:∀ o,h.get? a=some o->h'.get? a=some o):SetT (mixKind prog w) h' a kas:=let ⟨o,es,ep,t,ho,r⟩:=q;⟨o,es,ep,t,k o ho,r⟩
theorem wH {h:Heap} {a:Addr} {led:Bool} (e:h.get? a=some {cls:=.type "set",dict:=none,data:=.set #[] 0 (.fresh 0 0 led)}):SetT (mixKind prog w) h a []:=
 ⟨_,#[],0,_,e,⟨rfl,rfl,rfl⟩,rfl,⟨⟨3,rfl,Qy _⟩,rfl,rfl,fun i k h hk=>absurd hk (by simp [SetTable.fresh]),fun i h=>absurd h (by simp [SetTable.fresh]),(show 0*5 < 7*3 by decide),fun i h=>absurd h (by simp)⟩,fun e=>by simp,rfl,by show 7<=9000;decide⟩
variable {A:Around} {R:Result->Shared->Prop} {I:Addr} {fp wr:List Addr} {G:Array GenState->Array GenState->Prop} {n:Nat} {P:Nat->Value->Prop} {St:Nat->Shared->Prop}
end
section
variable {prog:Program} {w:World} {A:Around} {E:Value->Shared->Prop} {s:Shared}
end
end L2
set_option autoImplicit false
set_option maxRecDepth 100000
namespace L2
open PySem PySem.Spec PyProof.Rows
section
variable {prog:Program} {w:World} {A:Around} {E:Value->Shared->Prop} {s:Shared} {a b:Addr} {kas:List (List Key×Addr)} {ks:List Key}
theorem SetT.typeIs (h:SetT (mixKind prog w) s.heap a kas):s.TypeIs (.ref a) "set":=let ⟨o,_,_,_,ho,hc,_⟩:=h;⟨o,ho,hc.1⟩
theorem SetT.noDict (h:SetT (mixKind prog w) s.heap a kas):∀ b,Value.ref a=.ref b->∃ ob,s.heap.get? b=some ob/\ob.dict=none:=
 fun b e=>by injection e with e;subst e;exact let ⟨o,_,_,_,ho,hc,_⟩:=h;⟨o,ho,hc.2.1⟩
theorem qM {Q:Bool->Shared->Prop} (hu:A.units+10 < cLine) (hS:SetT (mixKind prog w) s.heap a kas) (hK:KeysIn (mixKind prog w) s.heap kas) (hk:IsTupleKey (mixKind prog w) s.heap ks b)
  (h:∀ r tk,(r=true↔ks∈kas.map (·.1))->Q r {s with toks:=tk}):wpAny (model prog w) A (contains (.ref a) (.ref b)) Q E s:=by
 unfold contains
 try with_reducible refine wpAny_holding ?_
 refine QT (wpAny_specialOf hS.typeIs F.slot_set_contains.lookup ?_)
 show wpAny _ _ (if (some (Value.builtin "set.__contains__")==some Value.none)=true then _ else _) _ E s
 rw [if_neg (by rw [beq_builtin_none];exact Bool.false_ne_true)]
 refine QT (wpAny_callSpecialUnlessNone?_slot (name:=Str.ofString "__contains__") hS.typeIs F.slot_set_contains
  (wpAny_call_entry F.slot_set_contains hS.typeIs entry_set_contains ?_ (F.args_set_contains_2 _ _)))
 unfold Builtin.«frozenset.__contains__» Builtin.Frozenset.oneOther
 simp only [List.isEmpty_nil,bind_assoc]
 unfold Builtin.Frozenset.addrOf Builtin.Frozenset.withSetAsKey
 refine QT (QU ?_)
 try dsimp only
 refine QT (QU ?_)
 try dsimp only
 refine QT (wpAny_tryCatch ?_)
 refine kQ (by first | (show A.units+1 < cLine;omega) | (show A.units < cLine;omega) | (show A.units+2 < cLine;omega)) hS hK hk fun r tk hr=>?_
 show wpAny _ _ (ret (Value.bool _)) _ _ _
 exact QU ⟨_,rfl,wpAny_truthy_bool (h r tk hr)⟩
theorem qV {Q:Value->Shared->Prop} (hu:A.units+10 < cLine) (hS:SetT (mixKind prog w) s.heap a kas) (hK:KeysIn (mixKind prog w) s.heap kas) (hk:IsTupleKey (mixKind prog w) s.heap ks b) (hl:kas.length < 1000)
  (hy:ks∈kas.map (·.1)->∀ tk,Q .none {s with toks:=tk}) (hn:ks ∉ kas.map (·.1)->∀ h' tk,Heap.SameBut a s.heap h'->SetT (mixKind prog w) h' a (kas++[(ks,b)])->Q .none {s with heap:=h',toks:=tk}):wpAny (model prog w) A (call (.builtin "set.add") [.ref a,.ref b]) Q E s:=by
 refine wpAny_call_entry F.slot_set_add hS.typeIs F.entry_set_add ?_ (F.args_set_add_2 _ _)
 unfold Builtin.«set.add» Builtin.Frozenset.oneOther
 simp only [List.isEmpty_nil,bind_assoc]
 unfold Builtin.Frozenset.addrOf
 refine QT (QU ?_)
 try dsimp only
 refine QT (QU ?_)
 try dsimp only
 refine QT ?_
 refine mB (by first | (show A.units+1 < cLine;omega) | (show A.units < cLine;omega)) hS hK hk hl (fun h tk _=>?_) (fun h h' tk _ sb st=>?_)
 ·show wpAny _ _ (ret Value.none) _ _ _
  exact QU ⟨_,rfl,hy h tk⟩
 ·show wpAny _ _ (ret Value.none) _ _ _
  exact QU ⟨_,rfl,hn h h' tk sb st⟩
end
abbrev stO (P:Program) (w:World) (a:Addr) (kas:List (List Key×Addr)):HO:=.ext fun h=>SetT (mixKind P w) h a kas
structure StAt (P:Program) (w:World) (H:Hp) (a:Addr) (kas:List (List Key×Addr)):Prop where
 at_:H a=some (stO P w a kas)
 ks:∀ p∈kas,RdT H p.2 (p.1.map kV)
section
variable {P:Program} {w:World} {H H':Hp} {a:Addr} {kas:List (List Key×Addr)}
theorem StAt.same (h:StAt P w H a kas) (s:Same H H'):StAt P w H' a kas:=⟨s _ _ h.at_,fun p hp=>(h.ks p hp).same s⟩
theorem StAt.okE {h:Heap} (e:SetT (mixKind P w) h a kas):ObjOk P w H h a (stO P w a kas):=⟨e,(let ⟨o,_,_,_,ho,_⟩:=e;⟨o,ho⟩),fun h1 h2 x k=>uW x k⟩
variable {X:Cx}
theorem StAt.real {pins:List (Addr×Obj)} {σ:St} {s:Shared} (h:StAt X.prog X.w H a kas) (I:Inv X pins σ H s):SetT (mixKind X.prog X.w) s.heap a kas/\KeysIn (mixKind X.prog X.w) s.heap kas:=
 ⟨(show ObjOk X.prog X.w H s.heap a (stO X.prog X.w a kas) from I.hok a _ h.at_).1,fun p hp=>dG I.hok (h.ks p hp)⟩
def rInT (P:Program) (w:World) (ng:Bool):R2:=fun x y H Q=>∃ (b S:Addr) (ks:List Key) (kas:List (List Key×Addr)),x=.ref b/\y=.ref S/\RdT H b (ks.map kV)/\StAt P w H S kas/\∀ r:Bool,(r=true↔ks∈kas.map (·.1))->Q (.bl (ng^^r)) H
theorem yY (hu:X.A.units+10 < cLine):OpR X (compareOp .NotIn) (rInT X.prog X.w true):=by
 intro pins s σ H x y v u Q I rx ry h
 obtain ⟨b,S,ks,kas,rfl,rfl,hb,hS,q⟩:=h
 cases rx;cases ry
 obtain ⟨h1,h2⟩:=hS.real I
 show wpAny _ _ (do return Value.bool (!(<- contains (.ref S) (.ref b)))) _ _ s
 refine QT (qM hu h1 h2 (dG I.hok hb) fun r tk hr=>QU ?_)
 exact ⟨.bl _,H,I.tok tk,rfl,by have:=q r hr;rw [Bool.true_xor] at this;exact this⟩
def tSAdd (P:Program) (w:World) (to te:TE):TE:=fun σ H Q=>to σ H fun x H1=>∃ S,x=.ref S/\(∃ kas,StAt P w H1 S kas)/\te σ H1 fun y H2=>∃ (b:Addr) (ks:List Key) (kas:List (List Key×Addr)),y=.ref b/\RdT H2 b (ks.map kV)/\StAt P w H2 S kas/\kas.length < 1000/\
 (ks∈kas.map (·.1)->Q .non H2)/\(ks ∉ kas.map (·.1)->Q .non (upd H2 S (stO P w S (kas++[(ks,b)]))))
theorem a1K {o e:Expr} {to te:TE} {apos cpos:Pos} (hu:X.A.units+10 < cLine) (ho:SE X o to) (ha:SE X e te)
  (hbase:attributeBase o "add" X.env (eval o X.env)=eval o X.env:=by rfl)
  (hfew:((backTo cpos (starEach [e] X.env)).all (fun x=> !x.1)&&(backToKw cpos (keywordEach [] X.env)).all (fun x=>x.1.isSome)
   &&decide ([e].length+([]:List Keyword).length+(if ([]:List Keyword).isEmpty then 0 else 1) < 30))=true:=by rfl)
  (hline:(apos.endLine==cpos.line)=true:=by rfl) (hs:starEach [e] X.env=(false,eval e X.env)::starEach [] X.env:=by rfl):
  SE X (.Call (.Attribute o "add" apos) [e] [] cpos) (tSAdd X.prog X.w to te):=by
 constructor
 intro pins s σ H Q I h
 refine wpAny_Call_method_late hbase hfew hline rfl (thn (ho.h pins s σ H _ I h) ?_)
 rintro v s1 ⟨x,H1,I1,r1,S,ex,⟨kas0,hS0⟩,q1⟩
 subst ex
 cases r1
 have hr0:=(hS0.real I1).1
 refine ⟨"set","set.add",PySem.F.plainAttrs_set,PySem.F.slot_set_add,PySem.F.type_set_add,hr0.typeIs,hr0.noDict,?_⟩
 rw [hs]
 refine Calls.callWith_builtin rfl (Calls.evalArgs_plain ?_)
 show wpAny _ _ (spliced ((false,eval e X.env)::backTo cpos (starEach [] X.env))) _ _ s1
 refine Calls.spliced_cons (thn (ha.h pins s1 σ H1 _ I1 q1) fun u s2 ⟨y,H2,I2,r2,b,ks,kas,ey,hb,hS,hl,qy,qn⟩=>Calls.spliced_nil ?_)
 subst ey
 cases r2
 obtain ⟨h1,h2⟩:=hS.real I2
 refine qV hu h1 h2 (dG I2.hok hb) hl (fun hy tk=>⟨.non,H2,I2.tok tk,rfl,qy hy⟩) fun hn h' tk sb st=>⟨.non,_,I2.write (by rw [hS.at_];trivial) (.inl rfl) (fun b u n e=>by rw [sb.2 b n];exact e) (let ⟨o,_,_,_,ho,_⟩:=st;⟨o,ho⟩) (StAt.okE st),rfl,qn hn⟩
end
end L2
set_option autoImplicit false
set_option maxRecDepth 100000
namespace L2
open PySem PySem.Spec PyProof.Rows
theorem vD {P P':Program} {w w':World} {ks:List Key} {vs:List Value} (h:ItemsAre (mixKind P w) ks vs):ItemsAre (mixKind P' w') ks vs:=by
 induction h with
 | nil=>exact .nil
 | cons h _ ih=>exact .cons h ih
theorem mE {P P':Program} {w w':World} {h:Heap} {ks:List Key} {a:Addr} (x:IsTupleKey (mixKind P w) h ks a):IsTupleKey (mixKind P' w') h ks a:=let ⟨o,it,n,h1,h2,h3,h4⟩:=x;⟨o,it,n,h1,h2,h3,vD h4⟩
section
variable {X:Cx} {pins:List (Addr×Obj)} {σ:St} {H:Hp} {s:Shared}
theorem a1M (I:Inv X pins σ H s) {a b:Addr} {xs ys:List Key} (h1:RdT H a (xs.map kV)) (h2:RdT H b (ys.map kV)) {A:Around} (hu:A.units < cLine):SeqAt.EqAt A s (.ref a) (.ref b) (decide (xs=ys)):=
 fun prog w E Q q=>wpAny_eqBool_tuple (knd:=mixKind prog w) hu (mE (dG I.hok h1)) (mE (dG I.hok h2)) q
theorem p7:∀ {xs ys:List Key},xs.map kV=ys.map kV->xs=ys
 | [],[],_=>rfl
 | [],_::_,e=>by cases e
 | _::_,[],e=>by cases e
 | x::xs,y::ys,e=>by
  have e':=List.cons.inj (show kV x::xs.map kV=kV y::ys.map kV from e)
  rw [a1G e'.1,p7 e'.2]
def KsV (H:Hp) (xs:List V) (kss:List (List Key)):Prop:=xs.length=kss.length/\∀ i (h:i < xs.length) (h':i < kss.length),∃ b,xs[i]=.ref b/\RdT H b (kss[i].map kV)
theorem KsV.same {H':Hp} {xs:List V} {kss:List (List Key)} (h:KsV H xs kss) (t:Same H H'):KsV H' xs kss:=⟨h.1,fun i a b=>let ⟨c,e1,e2⟩:=h.2 i a b;⟨c,e1,e2.same t⟩⟩
theorem KsV.nil:KsV H [] []:=⟨rfl,fun i h=>absurd h (by simp)⟩
theorem KsV.snoc {xs:List V} {kss:List (List Key)} {b:Addr} {k:List Key} (h:KsV H xs kss) (e:RdT H b (k.map kV)):KsV H (xs++[.ref b]) (kss++[k]):=by
 obtain ⟨hl,hh⟩:=h
 refine ⟨by simp [hl],fun i a c=>?_⟩
 by_cases hi:i < xs.length
 ·rw [Qe hi,Qe (by omega)];exact hh i hi (by omega)
 ·obtain rfl:i=xs.length:=by simp at a;omega
  rw [Qf (by omega),Qf (by omega)]
  exact ⟨b,by simp,by simpa [hl] using e⟩
def rInKs (K:Q0) (ng:Bool):R2:=fun x y H Q=>∃ (b p:Addr) (ks:List Key) (xs:List V) (kss:List (List Key)),x=.ref b/\y=.ref p/\RdT H b (ks.map kV)/\(SqL K H p xs\/SqT K H p xs)/\KsV H xs kss/\∀ r:Bool,(r=true↔ks∈kss)->Q (.bl (ng^^r)) H
open Classical in
theorem tZ (I:Inv X pins σ H s) {b:Addr} {ks:List Key} {xs:List V} {kss:List (List Key)} {its:List Value} (hb:RdT H b (ks.map kV)) (hk:KsV H xs kss) (rv:Vals xs its) (hu:X.A.units+10 < cLine):
  ∃ e:Value->Bool,(∀ y,y∈its.toArray->SeqAt.EqAt X.A.in1 s y (.ref b) (e y))/\(its.toArray.any e=true↔ks∈kss):=by
 have hl:=rv.length
 have hl2:=hk.1
 have key:∀ i (h:i < its.length) (h':i < kss.length),∃ c,its[i]=.ref c/\RdT H c (kss[i].map kV):=fun i h h'=>by
  obtain ⟨c,e1,e2⟩:=hk.2 i (by omega) h'
  obtain ⟨w1,f1,q1⟩:=rv.get (Qa (show i < xs.length by omega))
  rw [e1] at q1
  cases q1
  rw [Qa h] at f1
  exact ⟨c,by simpa using f1,e2⟩
 let ev:Value->Bool:=fun y=>decide (∃ c zs,y=.ref c/\RdT H c (zs.map kV)/\zs=ks)
 have hev:∀ {c:Addr} {zs:List Key},RdT H c (zs.map kV)->(ev (.ref c)=true↔zs=ks):=fun {c zs} hc=>by
  constructor
  ·intro h
   obtain ⟨c',zs',e1,e2,e3⟩:=Qt h
   cases e1
   rw [<- e3]
   exact p7 (hc.inj e2)
  ·intro e
   exact Qv ⟨c,zs,rfl,hc,e⟩
 refine ⟨ev,fun y hy=>?_,?_⟩
 ·have hy':y∈its:=by simpa using hy
  obtain ⟨i,hi,rfl⟩:=Qi hy'
  obtain ⟨c,e1,e2⟩:=key i hi (by omega)
  rw [e1]
  have:=a1M I e2 hb (A:=X.A.in1) (by simp [Around.in1_units];omega)
  have eb:∀ {b:Bool},(b=true↔kss[i]'(by omega)=ks)->ev (.ref c)=b:=fun {b} hb'=>by
   rw [Bool.eq_iff_iff,hev e2];exact hb'.symm
  rw [eb decide_eq_true_iff]
  exact this
 ·rw [Array.any_eq_true]
  constructor
  ·rintro ⟨i,hi,h⟩
   have hi':i < its.length:=by simpa using hi
   obtain ⟨c,e1,e2⟩:=key i hi' (by omega)
   have:ev (.ref c)=true:=by rw [<- e1];simpa using h
   rw [<- (hev e2).mp this]
   exact Qj _
  ·intro hm
   obtain ⟨i,hi,e⟩:=Qi hm
   have hi':i < its.length:=by omega
   obtain ⟨c,e1,e2⟩:=key i hi' hi
   refine ⟨i,by simpa using hi',?_⟩
   have:its.toArray[i]'(by simpa using hi')=.ref c:=by simpa using e1
   rw [this]
   exact (hev e2).mpr e
theorem pM (K:Q0) (hu:X.A.units+10 < cLine) (hK:X.K=K:=by rfl):OpR X (compareOp .NotIn) (rInKs K true):=by
 subst hK
 intro pins s σ H x y v u Q I rx ry h
 obtain ⟨b,p,ks,xs,kss,rfl,rfl,hb,hq,hk,q⟩:=h
 cases rx;cases ry
 rcases hq with hq | hq
 ·obtain ⟨its,r,pl,hz⟩:=I.list hq
  obtain ⟨e,h1,h2⟩:=tZ I hb hk r hu
  exact SeqAt.notIn_listAt e pl.isList (fun w hw=>h1 w hw) ⟨.bl _,H,I,rfl,by have:=q _ h2;rw [Bool.true_xor] at this;exact this⟩
 ·obtain ⟨its,r,pl,hz⟩:=I.tuple hq
  obtain ⟨e,h1,h2⟩:=tZ I hb hk r hu
  exact SeqAt.notIn_tupleAt e pl (fun w hw=>h1 w hw) ⟨.bl _,H,I,rfl,by have:=q _ h2;rw [Bool.true_xor] at this;exact this⟩
end
end L2
set_option maxRecDepth 100000
namespace L2
open PySem PySem.Spec PyProof.Rows
theorem a2I {J:It} {ok:Hp->Prop} {n:Nat} {item:Nat->V} {g:TG} {tc:TC} {tk tw:TE} {τ0:St} {H0:Hp} {D:Addr} {Q:Hp->Prop} (hJ:ItN J ok n item) (Pv:Nat->St->Hp->Prop) (h0:Pv 0 τ0 H0)
  (hok:∀ i τ H,i<=n->Pv i τ H->ok H)
  (hs:∀ i τ H,i < n->Pv i τ H->g (item i) τ H fun τ2 H2=>tc τ2 H2 fun b H3=>if b=true then tk τ2 H3 fun x H4=>tw τ2 H4 fun y H5=>∃ kvs key,x=kV key/\H5 D=some (.dK kvs)/\kvs.length < sizeLine/\Pv (i+1) τ2 (upd H5 D (.dK (putK kvs key y))) else Pv (i+1) τ2 H3)
  (hd:∀ τ H,Pv n τ H->Q H):∃ W:Nat->Nat->St->Hp->Prop,(∃ m,W 0 m τ0 H0)/\∀ i m τ H,W i m τ H->
   (J.stop i H/\Q H)\/(J.go i H/\∃ N:St->Hp->Prop,(∀ τ' H',N τ' H'->∃ m',m' < m/\W (i+1) m' τ' H')/\∀ x H',J.yld i H x H'->g x τ H' fun τ2 H2=>tc τ2 H2 fun b H3=>
    if b=true then tk τ2 H3 fun x H4=>tw τ2 H4 fun y H5=>∃ kvs key,x=kV key/\H5 D=some (.dK kvs)/\kvs.length < sizeLine/\N τ2 (upd H5 D (.dK (putK kvs key y))) else N τ2 H3):=by
 refine ⟨fun i m τ H=>m=n - i/\i<=n/\Pv i τ H,⟨n,by simp,Nat.zero_le _,h0⟩,?_⟩
 rintro i m τ H ⟨rfl,hi,p⟩
 obtain ⟨k1,k2⟩:=hJ H (hok i τ H hi p)
 by_cases hlt:i < n
 ·refine .inr ⟨(k1 i hlt).1,Pv (i+1),fun σ' H' p'=>⟨n - (i+1),by omega,rfl,hlt,p'⟩,fun x H' y=>?_⟩
  obtain ⟨e,e2⟩:=(k1 i hlt).2 x H' y
  subst e e2
  exact hs i τ _ hlt p
 ·have e:i=n:=by omega
  subst e
  exact .inl ⟨k2,hd τ H p⟩
theorem uA {K:Q0} {J:It} {ok:Hp->Prop} {n:Nat} {f1 f2:Nat->V} {a b:Nat} {tc:TC} {tk tw:TE} {τ0:St} {H0:Hp} {D:Addr} {Q:Hp->Prop} (hJ:ItP J ok n f1 f2) (Pv:Nat->St->Hp->Prop) (h0:Pv 0 τ0 H0)
  (hok:∀ i τ H,i<=n->Pv i τ H->ok H)
  (hs:∀ i τ H T,i < n->Pv i τ H->H T=none->tc ((τ.set a (some (f1 i))).set b (some (f2 i))) (upd H T (.tup [f1 i,f2 i])) fun c H3=>if c=true then tk ((τ.set a (some (f1 i))).set b (some (f2 i))) H3 fun x H4=>tw ((τ.set a (some (f1 i))).set b (some (f2 i))) H4 fun y H5=>
   ∃ kvs key,x=kV key/\H5 D=some (.dK kvs)/\kvs.length < sizeLine/\Pv (i+1) ((τ.set a (some (f1 i))).set b (some (f2 i))) (upd H5 D (.dK (putK kvs key y))) else Pv (i+1) ((τ.set a (some (f1 i))).set b (some (f2 i))) H3)
  (hd:∀ τ H,Pv n τ H->Q H):∃ W:Nat->Nat->St->Hp->Prop,(∃ m,W 0 m τ0 H0)/\∀ i m τ H,W i m τ H->
   (J.stop i H/\Q H)\/(J.go i H/\∃ N:St->Hp->Prop,(∀ τ' H',N τ' H'->∃ m',m' < m/\W (i+1) m' τ' H')/\∀ x H',J.yld i H x H'->g2 K a b x τ H' fun τ2 H2=>tc τ2 H2 fun b H3=>
    if b=true then tk τ2 H3 fun x H4=>tw τ2 H4 fun y H5=>∃ kvs key,x=kV key/\H5 D=some (.dK kvs)/\kvs.length < sizeLine/\N τ2 (upd H5 D (.dK (putK kvs key y))) else N τ2 H3):=by
 refine ⟨fun i m σ H=>m=n - i/\i<=n/\Pv i σ H,⟨n,by simp,Nat.zero_le _,h0⟩,?_⟩
 rintro i m σ H ⟨rfl,hi,p⟩
 obtain ⟨k1,k2⟩:=hJ H (hok i σ H hi p)
 by_cases hlt:i < n
 ·refine .inr ⟨(k1 i hlt).1,Pv (i+1),fun σ' H' p'=>⟨n - (i+1),by omega,rfl,hlt,p'⟩,fun x H' y=>?_⟩
  obtain ⟨T,rfl,hT,rfl⟩:=(k1 i hlt).2 x H' y
  exact cX a7 (hs i σ _ T hlt p hT)
 ·have e:i=n:=by omega
  subst e
  exact .inl ⟨k2,hd σ H p⟩
theorem xD {K:Q0} {J:It} {ok:Hp->Prop} {n:Nat} {f1 f2:Nat->V} {a b:Nat} {tc:TC} {tk tw:TE} {τ0:St} {H0:Hp} {D:Addr} {Q:Hp->Prop} (hJ:ItP J ok n f1 f2) (Pv:Nat->St->Hp->Prop) (h0:Pv 0 τ0 H0)
  (hok:∀ i τ H,i<=n->Pv i τ H->ok H)
  (hs:∀ i τ H T,i < n->Pv i τ H->H T=none->tc ((τ.set a (some (f1 i))).set b (some (f2 i))) (upd H T (.tup [f1 i,f2 i])) fun c H3=>if c=true then tk ((τ.set a (some (f1 i))).set b (some (f2 i))) H3 fun x H4=>tw ((τ.set a (some (f1 i))).set b (some (f2 i))) H4 fun y H5=>
   ∃ kvs key b',x=.ref b'/\RdT H5 b' (key.map kV)/\H5 D=some (.dT kvs)/\kvs.length < sizeLine/\Pv (i+1) ((τ.set a (some (f1 i))).set b (some (f2 i))) (upd H5 D (.dT (putK kvs key y))) else Pv (i+1) ((τ.set a (some (f1 i))).set b (some (f2 i))) H3)
  (hd:∀ τ H,Pv n τ H->Q H):∃ W:Nat->Nat->St->Hp->Prop,(∃ m,W 0 m τ0 H0)/\∀ i m τ H,W i m τ H->
   (J.stop i H/\Q H)\/(J.go i H/\∃ N:St->Hp->Prop,(∀ τ' H',N τ' H'->∃ m',m' < m/\W (i+1) m' τ' H')/\∀ x H',J.yld i H x H'->g2 K a b x τ H' fun τ2 H2=>tc τ2 H2 fun b H3=>
    if b=true then tk τ2 H3 fun x H4=>tw τ2 H4 fun y H5=>∃ kvs key b,x=.ref b/\RdT H5 b (key.map kV)/\H5 D=some (.dT kvs)/\kvs.length < sizeLine/\N τ2 (upd H5 D (.dT (putK kvs key y))) else N τ2 H3):=by
 refine ⟨fun i m σ H=>m=n - i/\i<=n/\Pv i σ H,⟨n,by simp,Nat.zero_le _,h0⟩,?_⟩
 rintro i m σ H ⟨rfl,hi,p⟩
 obtain ⟨k1,k2⟩:=hJ H (hok i σ H hi p)
 by_cases hlt:i < n
 ·refine .inr ⟨(k1 i hlt).1,Pv (i+1),fun σ' H' p'=>⟨n - (i+1),by omega,rfl,hlt,p'⟩,fun x H' y=>?_⟩
  obtain ⟨T,rfl,hT,rfl⟩:=(k1 i hlt).2 x H' y
  exact cX a7 (hs i σ _ T hlt p hT)
 ·have e:i=n:=by omega
  subst e
  exact .inl ⟨k2,hd σ H p⟩
theorem a0K {κ:Type} [DecidableEq κ] {kvs:List (κ×V)} (nd:(kvs.map (·.1)).Nodup) {i:Nat} (h:i < kvs.length):putK (kvs.take i) kvs[i].1 kvs[i].2=kvs.take (i+1):=by
 rw [L2.cP _ (by
  cases e:valV (kvs.take i) kvs[i].1 with
  | none=>rfl
  | some v=>
   have:=kJ e
   obtain ⟨p,hp,q⟩:=List.mem_map.mp this
   obtain ⟨j,hj,rfl⟩:=Qi hp
   have hj':j < i:=by simp at hj;omega
   rw [List.getElem_take] at q
   have:=List.pairwise_iff_getElem.mp nd j i (by simp;omega) (by simpa using h) hj'
   simp only [Qr] at this
   exact absurd q this),Qs,Qa h]
 rfl
theorem tN {κ:Type} [DecidableEq κ] {kvs:List (κ×V)} (nd:(kvs.map (·.1)).Nodup) {k:κ} {v:V} (h:(k,v)∈kvs):valV kvs k=some v:=by
 induction kvs with
 | nil=>cases h
 | cons p r ih=>
  rw [List.map_cons,List.nodup_cons] at nd
  rcases Qp.mp h with e | h
  ·rw [<- e,bU rfl]
  ·have ne:¬p.1=k:=fun e=>nd.1 (List.mem_map.mpr ⟨_,h,e.symm⟩)
   rw [bT ne];exact ih nd.2 h
theorem RdT.put {H:Hp} {b D:Addr} {ys:List V} {o u:HO} (r:RdT H b ys) (hD:H D=some o) (n1:∀ xs,o≠.tup xs) (n2:∀ q xs,o≠.frz q (.tup xs)):RdT (L2.upd H D u) b ys:=r.upd fun v hv z=>by
 subst z
 rcases r with r | ⟨q,r⟩
 ·rw [hD] at r;cases r;exact n1 _ rfl
 ·rw [hD] at r;cases r;exact n2 _ _ rfl
def rowsE (rows:List Rw2):List (Key×V):=rows.map fun r=>(.inr r.1,.str (endOf rows r.1))
def nmsH:Hd->List Str
 | .as y=>[y]
 | .way x y=>[x,y]
 | .prs _ ps=>ps.map (·.2)
 | _=>[]
def movesE (rows:List Rw2) (h:Hd):List (List Key×V):=h.mvs.map fun m=>(m.1.map (Sum.inr:Str->Key),.str (endOf rows m.2))
theorem qA {xs ys:List Str} (h:xs.map (Sum.inr:Str->Key)=ys.map Sum.inr):xs=ys:=by
 induction xs generalizing ys with
 | nil=>cases ys with
  | nil=>rfl
  | cons y ys=>simp at h
 | cons x xs ih=>cases ys with
  | nil=>simp at h
  | cons y ys=>
   simp only [List.map_cons,List.cons.injEq,Sum.inr.injEq] at h
   rw [h.1,ih h.2]
theorem oC {rows:List Rw2} {h:Hd} (nd:(h.mvs.map (·.1)).Nodup):((movesE rows h).map (·.1)).Nodup:=by
 have e:(movesE rows h).map (·.1)=(h.mvs.map (·.1)).map fun m=>m.map (Sum.inr:Str->Key):=by simp [movesE,Qn,QB]
 rw [e]
 exact List.pairwise_map.mpr (nd.imp fun h e=>h (qA e))
theorem zQ {h:Hd} (i:Nat) (hi:i < h.mvs.length):(nmsH h)[i]? =some h.mvs[i].2:=by
 cases h with
 | one s=>cases hi
 | as y=>cases hi
 | way x y=>
  match i,hi with
  | 0,_=>rfl
  | 1,_=>rfl
 | prs s ps=>
  have hi':i < ps.length:=by simpa [Hd.mvs] using hi
  simp [nmsH,Hd.mvs,Qa hi']
theorem a1k {h:Hd}:h.mvs.length<=(nmsH h).length:=by
 cases h<;>simp [nmsH,Hd.mvs]
theorem gR {h:Hd} {ns:List Str} (ok:h.ok ns):h.mvs.length<=10:=by
 cases h with
 | one s=>simp [Hd.mvs]
 | as y=>simp [Hd.mvs]
 | way x y=>simp [Hd.mvs]
 | prs s ps=>simpa [Hd.mvs] using ok.2.2.2
theorem n6:∀ {ws:List Str},rising ws=true->ws.Pairwise (fun a b=>strLt a b=true)
 | [],_=>.nil
 | [_],_=>List.pairwise_singleton _ _
 | a::b::r,h=>by
  have h':strLt a b=true/\rising (b::r)=true:=by simpa [rising] using h
  have ih:=n6 h'.2
  refine List.pairwise_cons.mpr ⟨fun c hc=>?_,ih⟩
  rcases Qp.mp hc with rfl | hc
  ·exact h'.1
  ·exact oS h'.1 ((List.pairwise_cons.mp ih).1 c hc)
theorem nM {ws:List Str} (h:rising ws=true):ws.Nodup:=(n6 h).imp fun {x y} h e=>by rw [e,o9] at h;cases h
theorem xT {h:Hd} {ns:List Str} (ok:h.ok ns):(h.mvs.map (·.1)).Nodup:=by
 cases h with
 | one s=>exact List.nodup_nil
 | as y=>exact List.nodup_nil
 | way x y=>exact (by decide+kernel:(([["from"],["to"]]:List (List Str))).Nodup)
 | prs s ps=>
  have hr:=nM ok.2.2.1
  have e:(Hd.prs s ps).mvs.map (·.1)=(ps.map (·.1)).map fun w=>([if s="box" then "part" else "case",w]:List Str):=by simp [Hd.mvs,Qn,QB]
  rw [e]
  exact List.pairwise_map.mpr (hr.imp fun h e=>h (by simpa using e))
theorem mK {rows:List Rw2} (nd:(rows.map (·.1)).Nodup) {x:Str} (hx:x∈rows.map (·.1)):valV (rowsE rows) (.inr x)=some (.str (endOf rows x)):=by
 obtain ⟨r,hr,rfl⟩:=List.mem_map.mp hx
 refine tN ?_ (List.mem_map.mpr ⟨r,hr,rfl⟩)
 have e:(rowsE rows).map (·.1)=(rows.map (·.1)).map (Sum.inr:Str->Key):=by simp [rowsE,Qn,QB]
 rw [e]
 exact List.pairwise_map.mpr (nd.imp fun h e=>h (Sum.inr.inj e))
theorem kstr (m:List Str):(m.map (Sum.inr:Str->Key)).map kV=m.map V.str:=by simp [Qn,QB,kV]
def nonAs (rows:List Rw2):List Rw2:=rows.filter fun r=>r.2.nx.isNone
structure DV (R:Hp->V->Rw2->Prop) (H:Hp) (kvs:List (Key×V)) (rs:List Rw2):Prop where
 len:kvs.length=rs.length
 at_:∀ i (h:i < kvs.length) (h':i < rs.length),kvs[i].1=.inr rs[i].1/\R H kvs[i].2 rs[i]
theorem DV.keep {R:Hp->V->Rw2->Prop} {H H':Hp} {kvs:List (Key×V)} {rs:List Rw2} (h:DV R H kvs rs) (s:∀ v r,R H v r->R H' v r):DV R H' kvs rs:=⟨h.len,fun i a b=>⟨(h.at_ i a b).1,s _ _ (h.at_ i a b).2⟩⟩
theorem DV.nil {R:Hp->V->Rw2->Prop} {H:Hp}:DV R H [] []:=⟨rfl,fun i h=>absurd h (by simp)⟩
theorem DV.snoc {R:Hp->V->Rw2->Prop} {H:Hp} {kvs:List (Key×V)} {rs:List Rw2} (h:DV R H kvs rs) {v:V} {r:Rw2} (e:R H v r):DV R H (kvs++[((Sum.inr r.1:Key),v)]) (rs++[r]):=by
 have hl:=h.len
 refine ⟨by simp [hl],fun i h1 h2=>?_⟩
 by_cases hlt:i < kvs.length
 ·rw [Qe hlt,Qe (by omega)]
  exact h.at_ i hlt (by omega)
 ·have e':i=kvs.length:=by simp at h1;omega
  subst e'
  rw [Qf (Qy _),Qf (by omega)]
  simp only [Nat.sub_self,hl,List.getElem_cons_zero,true_and]
  exact e
theorem DV.keys {R:Hp->V->Rw2->Prop} {H:Hp} {kvs:List (Key×V)} {rs:List Rw2} (h:DV R H kvs rs):kvs.map (·.1)=rs.map fun r=>(.inr r.1:Key):=by
 have hl:=h.len
 refine List.ext_getElem (by simpa using hl) fun i h1 h2=>?_
 simp only [Qr]
 exact (h.at_ i (by simpa using h1) (by simpa using h2)).1
theorem DV.put {R:Hp->V->Rw2->Prop} {H:Hp} {kvs:List (Key×V)} {rs:List Rw2} (h:DV R H kvs rs) {r:Rw2} {v:V} (n:r.1 ∉ rs.map (·.1)):putK kvs (.inr r.1) v=kvs++[(.inr r.1,v)]:=by
 refine L2.cP _ ?_
 cases e:valV kvs (.inr r.1) with
 | none=>rfl
 | some u=>
  have:=kJ e
  rw [h.keys] at this
  obtain ⟨r',hr',e'⟩:=List.mem_map.mp this
  exact absurd (List.mem_map.mpr ⟨r',hr',Sum.inr.inj e'⟩) n
theorem DV.get {R:Hp->V->Rw2->Prop} {H:Hp} {kvs:List (Key×V)} {rs:List Rw2} (h:DV R H kvs rs) (nd:(rs.map (·.1)).Nodup) {r:Rw2} (hr:r∈rs):∃ v,valV kvs (.inr r.1)=some v/\R H v r:=by
 obtain ⟨i,hi,rfl⟩:=Qi hr
 have hl:=h.len
 obtain ⟨h1,h2⟩:=h.at_ i (by omega) hi
 refine ⟨kvs[i].2,tN ?_ (k:=(Sum.inr rs[i].1:Key)) (v:=kvs[i].2) ?_,h2⟩
 ·rw [h.keys]
  exact List.pairwise_map.mpr ((List.pairwise_map.mp nd).imp fun h e=>h (Sum.inr.inj e))
 ·rw [<- h1];exact Qj (by omega)
def Hd.srt:Hd->Str
 | .one s=>s
 | .as _=>"as"
 | .way _ _=>"way"
 | .prs s _=>s
theorem HV.srt {H:Hp} {v:V} {h:Hd} (q:HV H v h):∃ b ys,v=.ref b/\H b=some (.tup (.str h.srt::ys)):=by
 cases q with
 | one e=>exact ⟨_,_,rfl,e⟩
 | as e=>exact ⟨_,_,rfl,e⟩
 | way e=>exact ⟨_,_,rfl,e⟩
 | prs e _ _=>exact ⟨_,_,rfl,e⟩
theorem sJ {h:Hd} {ns:List Str} (ok:h.ok ns):(h.srt="as")=(h.nx.isNone=false):=by
 cases h with
 | one s=>rcases ok with rfl | rfl<;>simp [Hd.srt,Hd.nx]<;>decide+kernel
 | as y=>simp [Hd.srt,Hd.nx]
 | way x y=>simp [Hd.srt,Hd.nx];decide+kernel
 | prs s ps=>rcases ok.1 with rfl | rfl<;>simp [Hd.srt,Hd.nx]<;>decide+kernel
def RH:Hp->V->Rw2->Prop:=fun H v r=>HV H v r.2
def RM:Hp->V->Rw2->Prop:=fun H v r=>∃ b c us,v=.ref b/\H b=some (.tup [.str r.2.srt,.ref c])/\H c=some (.tup us)/\SV H us (r.2.mvs.map (·.1))
def RO (rows:List Rw2):Hp->V->Rw2->Prop:=fun H v r=>∃ m o,v=.ref m/\H m=some (.frz o (.dT (movesE rows r.2)))
structure NetF (H:Hp) (rows:List Rw2) (fs:List (Str×V)):Prop where
 rws:∃ d o,fs.lookup ("rows":Str)=some (V.ref d)/\H d=some (.frz o (.dK (rowsE rows)))
 hds:∃ d o k,fs.lookup ("heads":Str)=some (V.ref d)/\H d=some (.frz o (.dK k))/\DV RH H k (nonAs rows)
 mks:∃ d o k,fs.lookup ("marks":Str)=some (V.ref d)/\H d=some (.frz o (.dK k))/\DV RM H k (nonAs rows)
 mvs:∃ d o k,fs.lookup ("moves":Str)=some (V.ref d)/\H d=some (.frz o (.dK k))/\DV (RO rows) H k (nonAs rows)
def NetAt (H:Hp) (C x:Addr) (rows:List Rw2):Prop:=∃ dx fs,H x=some (.ins C dx fs)/\NetF H rows fs
def Sx (x:Addr) (H H':Hp):Prop:=∀ b o,b≠x->H b=some o->H' b=some o
theorem Sx.trans {x:Addr} {H H1 H2:Hp} (a:Sx x H H1) (b:Sx x H1 H2):Sx x H H2:=fun c o n h=>b c o n (a c o n h)
theorem Same.sx {x:Addr} {H H1:Hp} (a:Same H H1):Sx x H H1:=fun c o _ h=>a c o h
theorem Sx.upd {x:Addr} {H:Hp} {o:HO}:Sx x H (upd H x o):=fun c u n h=>by rw [aD n];exact h
theorem Sx.free {x D:Addr} {H H':Hp} (s:Sx x H H') (h:H' D=none) (n:D≠x):H D=none:=by
 cases e:H D with
 | none=>rfl
 | some o=>rw [s D o n e] at h;cases h
theorem Sx.tk {x:Addr} {H H':Hp} (s:Sx x H H') (n:∀ ys,H x≠some (.tup ys)):Tk H H':=fun b ys e=>s b _ (fun z=>n ys (by rw [<- z];exact e)) e
theorem Sx.frz {x b:Addr} {H H':Hp} {q:Obj} {u:HO} (s:Sx x H H') (n:∀ q u,H x≠some (.frz q u)) (e:H b=some (.frz q u)):H' b=some (.frz q u):=s b _ (fun z=>n q u (by rw [<- z];exact e)) e
theorem HV.same {H H':Hp} {v:V} {h:Hd} (q:HV H v h) (s:Same H H'):HV H' v h:=q.tk s.ts
theorem lK {K:Q0} {ta tv:TE} {f:Str} {v:TS} {D:Ends} {σ:St} {H:Hp} (h:tv σ H fun y H1=>ta σ H1 fun x H2=>∃ a C dx fs,x=.ref a/\H2 a=some (.ins C dx fs)/\Cls K C/\NoAttr K C f/\fs.length < 1000/\v D σ (upd H2 a (.ins C dx (putF f y fs)))):tSeq (sFld K ta tv f) v D σ H:=h
def mvAt (rows:List Rw2) (e:Str) (s:List Str):Option Str:=((onOf rows e).find? fun m=>decide (m.1=s)).map (·.2)
def EndN (rows:List Rw2) (ns:List Str) (e:Str):Prop:=e∈ns/\endOf rows e=e
def onE (rows:List Rw2) (e:Str):List (List Key×V):=(onOf rows e).map fun m=>(m.1.map Sum.inr,.str m.2)
theorem zN (rows:List Rw2) (e:Str) (s:List Str):valV (onE rows e) (s.map Sum.inr)=(mvAt rows e s).map V.str:=by
 unfold valV onE mvAt
 induction onOf rows e with
 | nil=>rfl
 | cons m ms ih=>
  simp only [List.map_cons,List.find?_cons]
  by_cases h:m.1=s
  ·rw [Qv h,Qv (congrArg _ h)];rfl
  ·rw [Qw h,Qw fun z=>h (qA z)];exact ih
section
variable {H:Hp} {a:Addr} {xs:List V} {rows:List Rw2} {ns ws:List Str}
theorem RT.stay (rt:RT H a xs rows ns ws) (hw:∀ z∈ws,Wd z) {x:Str} (hx:x∈ns):EndN rows ns (endOf rows x):=by
 obtain ⟨h1,h2,_⟩:=rt.endIn hw hx
 exact ⟨h1,d9 _ h2⟩
theorem RT.endRow (rt:RT H a xs rows ns ws) (hw:∀ z∈ws,Wd z) {e:Str} (h:EndN rows ns e):(e,hdOf rows e)∈nonAs rows/\(hdOf rows e).ok ns:=by
 obtain ⟨h1,h2,h3⟩:=rt.endIn hw h.1
 rw [h.2] at h1 h2 h3
 have h4:e∈rows.map (·.1):=rt.nm.mem_iff.mpr h1
 obtain ⟨r,hr,rfl⟩:=List.mem_map.mp h4
 have e':=cW rt.ndr hr
 refine ⟨List.mem_filter.mpr ⟨?_,?_⟩,h3⟩
 ·rw [e'];exact hr
 ·show (hdOf rows r.1).nx.isNone=true
  rw [h2];rfl
theorem RT.mvAt (rt:RT H a xs rows ns ws) (hw:∀ z∈ws,Wd z) {e e':Str} {s:List Str} (h:EndN rows ns e) (m:L2.mvAt rows e s=some e'):EndN rows ns e':=by
 unfold L2.mvAt at m
 obtain ⟨p,hp,rfl⟩:=Option.map_eq_some_iff.mp m
 have hm:=List.mem_of_find?_eq_some hp
 unfold onOf at hm
 obtain ⟨q,hq,rfl⟩:=List.mem_map.mp hm
 rw [h.2] at hq
 exact rt.stay hw (rE (rt.endRow hw h).2 _ hq)
theorem RT.ndn (rt:RT H a xs rows ns ws):((nonAs rows).map (·.1)).Nodup:=rt.ndr.sublist (List.filter_sublist.map _)
theorem RT.onFew (rt:RT H a xs rows ns ws) (hw:∀ z∈ws,Wd z) {x:Str} (h:x∈ns):(onOf rows x).length<=10:=by
 have:=gR (rt.endIn hw h).2.2
 unfold onOf
 simpa using this
end
section
variable {X:Cx}
def rCatA (K:Q0):R2:=fun x y H Q=>∃ a b xs ys,x=.ref a/\y=.ref b/\SqT K H a xs/\SqT K H b ys/\xs.length+ys.length<=sizeLine/\(xs=[]->Q (.ref b) H)/\
 (xs≠[]->ys=[]->Q (.ref a) H)/\(xs≠[]->ys≠[]->∀ p,H p=none->Q (.ref p) (upd H p (.tup (xs++ys))))
theorem nP (K:Q0) (h:X.K=K:=by rfl):OpR X (binaryOp .Add) (rCatA K):=by
 subst h
 intro pins s σ H x y v u Q I rx ry h
 obtain ⟨a,b,xs,ys,rfl,rfl,ha,hb,hz,q0,q1,q2⟩:=h
 by_cases hx:xs=[]
 ·cases rx
  cases ry
  obtain ⟨its,r1,p1,_⟩:=I.tuple ha
  obtain ⟨its2,r2,p2,_⟩:=I.tuple hb
  have hi:its=[]:=r1.nil_iff.mpr hx
  obtain ⟨⟨cls,dd,data,sl⟩,ho,hc,n,hd⟩:=id p1
  obtain ⟨⟨cls2,dd2,data2,sl2⟩,ho2,hc2,n2,hd2⟩:=id p2
  simp only at hc hd hc2 hd2
  subst hc hd hc2 hd2
  exact concat_meets ⟨_,ho,rfl⟩ ⟨_,ho2,rfl⟩ noFill_tuple_add seq_tuple_add PySem.F.slot_tuple_add PySem.F.entry_tuple_add (PySem.F.args_tuple_add_2 _ _)
   (tuple_addW0 a b its.toArray its2.toArray n n2 dd dd2 sl sl2 (by simp [hi])) ⟨ho,ho2,⟨.ref b,H,I,rfl,q0 hx⟩⟩
 ·exact yU pins s σ H _ _ v u Q I rx ry ⟨a,b,xs,ys,rfl,rfl,ha,hb,hx,hz,q1 hx,q2 hx⟩
theorem catA {K:Q0} {H:Hp} {a b:Addr} {xs ys:List V} {Q:VK} (ha:H a=some (.tup xs)) (hb:H b=some (.tup ys)) (hz:xs.length+ys.length<=sizeLine) (h:∀ p H',Same H H'->H' p=some (.tup (xs++ys))->Q (.ref p) H'):rCatA K (.ref a) (.ref b) H Q:=by
 refine ⟨a,b,xs,ys,rfl,rfl,SqT.of ha,SqT.of hb,hz,fun e=>?_,fun _ e=>?_,fun _ _ p hp=>?_⟩
 ·subst e;exact h b H (Same.refl _) hb
 ·subst e;exact h a H (Same.refl _) (by rw [List.append_nil];exact ha)
 ·exact h p _ (Same.upd hp _) a7
theorem SV.same {H H':Hp} {xs:List V} {ss:List (List Str)} (h:SV H xs ss) (s:Same H H'):SV H' xs ss:=h.keep fun _ _ r=>r.same s
end
theorem zV {A:Around} {k:Nat} (hr:Room k A):A.units+20 < cLine:=by have:=hr.un;omega
section
variable {P:Program} {w:World} {A:Around} {E:Value->Shared->Prop} {s:Shared} {it d:Addr} {i n ep:Nat} {od:Obj} {es:Array DictEntry} {ok ov:Value} {Q:Option Value->Shared->Prop}
theorem uY {en:DictEntry} (a0:IsItemIter s.heap it d i n ep ok ov) (hod:s.heap.get? d=some od) (hdd:od.data=.dict es ep) (hn:es.size=n) (hx:es[i]? =some en)
  (hQ:∀ h',IsItemIterOut h' it d (i+1) n ep en.key en.val s.heap.objs.size->h'.get? s.heap.objs.size=some {cls:=.type "tuple",data:=.seq #[en.key,en.val]}->
   (∀ b o,b≠it->s.heap.get? b=some o->h'.get? b=some o)->Q (some (.ref s.heap.objs.size)) {s with heap:=h'}):wpAny (model P w) A (pyNext (.ref it)) Q E s:=by
 obtain ⟨hp,g,dr,tk,os⟩:=s
 have ty:Shared.TypeIs ⟨hp,g,dr,tk,os⟩ (.ref it) "dict_itemiterator":=⟨_,a0,rfl⟩
 have hlt:i < es.size:=(Array.getElem?_eq_some_iff.mp hx).1
 have hen:es[i]=en:=(Array.getElem?_eq_some_iff.mp hx).2
 have own:Builtin.Dict_items.ownsTuple "dict_itemiterator"=true:=by decide
 have hdn:¬(Value.ref d==Value.none)=true:=fun hz=>Bool.false_ne_true hz
 unfold pyNext
 refine QT (wpAny_attempt (wpAny_callSpecial?_slot (name:=Str.ofString "__next__") ty F.slot_dict_itemiterator_next (wpAny_call_entry F.slot_dict_itemiterator_next ty F.entry_dict_itemiterator_next ?_ (F.args_dict_itemiterator_next_1 _))))
 refine QT (QU (QT (QT ?_)))
 first
  | refine QT (wpAny_typeNameOfWhole_itemiter ty (QU (QT (wpAny_fieldsOf a0 rfl ?_))))
  | refine QT (wpAny_typeNameOf_itemiter ty (QU (QT (wpAny_fieldsOf a0 rfl ?_))))
 simp only [own,if_true]
 show wpAny _ _ (if (Value.ref d==Value.none)=true then _ else _) _ _ _
 rw [if_neg hdn]
 refine QT (QU (QT (wpAny_dictEntries hod hdd ?_)))
 rw [if_neg (by rw [hn];simp)]
 refine QT (QU (QT (wpAny_dictEpoch hod hdd ?_)))
 rw [if_neg (by simp)]
 refine QU ?_
 simp only [show ¬((i:Int) < 0) by omega,if_false,Int.toNat_natCast,hx]
 refine QT ?_
 first
  | refine QT (wpAny_typeNameOfWhole_itemiter ty (QU (QT (wpAny_isOneOf_itemiter ty ?_))))
  | refine QT (wpAny_typeNameOf_itemiter ty (QU (QT (wpAny_isOneOf_itemiter ty ?_))))
 show wpAny _ _ (setField (.ref it) 3 (rawInt ((i:Int)+1)) >>=_) _ _ ⟨hp,g,dr,tk,os⟩
 refine QT (wpAny_setField_rec a0 (by simp) fun k1 b1 c1=>?_)
 have c1':Heap.SameBut it hp k1:=c1
 have b1':IsItemIter k1 it d (i+1) n ep ok ov:=by
  have e:((i+1:Nat):Int)=(i:Int)+1:=by omega
  unfold IsItemIter;rw [e];simpa [rawInt] using b1
 have ty1:Shared.TypeIs ⟨k1,g,dr,tk,os⟩ (.ref it) "dict_itemiterator":=⟨_,b1',rfl⟩
 refine QT (wpAny_holding (QT (wpAny_isOneOf_itemiter ty1 (QT (wpAny_isOneOf_itemiter ty1 ?_)))))
 show wpAny _ _ (Builtin.Dict_items.pairFromOwner (.ref it) 6 en.key en.val) _ _ ⟨k1,g,dr,tk,os⟩
 unfold Builtin.Dict_items.pairFromOwner
 refine QT (wpAny_newTuple ?_)
 have sz:k1.objs.size=hp.objs.size:=c1'.1
 have il:it < hp.objs.size:=Qz a0
 have b2:IsItemIter (k1.push {cls:=.type "tuple",data:=.seq #[en.key,en.val]}) it d (i+1) n ep ok ov:=Qc _ b1'
 have t2:(k1.push {cls:=.type "tuple",data:=.seq #[en.key,en.val]}).get? hp.objs.size=some {cls:=.type "tuple",data:=.seq #[en.key,en.val]}:=by rw [<- sz];exact Qd _ rfl
 have m2:∀ b o,b≠it->hp.get? b=some o->(k1.push {cls:=.type "tuple",data:=.seq #[en.key,en.val]}).get? b=some o:=fun b o hb e=>Qc _ (c1'.extBut b o hb e)
 show wpAny _ _ (Builtin.Dict_items.ownedTupleIsFree (.ref it) >>=_) _ _ ⟨k1.push {cls:=.type "tuple",data:=.seq #[en.key,en.val]},g,dr,tk,os⟩
 rw [sz]
 generalize k1.push {cls:=.type "tuple",data:=.seq #[en.key,en.val]}=k2 at b2 t2 m2
 refine QT ?_
 unfold Builtin.Dict_items.ownedTupleIsFree
 refine QT (wpAny_field b2 rfl (x:=.none) rfl (QU ?_))
 simp only [if_true]
 refine QT (wpAny_field b2 rfl (x:=ok) rfl (QT (wpAny_field b2 rfl (x:=ov) rfl (QT (wpAny_setField_rec b2 (by simp) fun k3 b3 c3=>?_)))))
 have b3':IsItemIter k3 it d (i+1) n ep en.key ov:=b3
 refine QT (wpAny_setField_rec b3' (by simp) fun k4 b4 c4=>?_)
 have b4':IsItemIter k4 it d (i+1) n ep en.key en.val:=b4
 refine QT (wpAny_setField_rec b4' (by simp) fun k5 b5 c5=>?_)
 have b5':IsItemIterOut k5 it d (i+1) n ep en.key en.val hp.objs.size:=b5
 refine QT (wpAny_setField_rec b5' (by simp) fun k6 b6 c6=>?_)
 have up:∀ b o,b≠it->k2.get? b=some o->k6.get? b=some o:=fun b o hb e=>c6.extBut b o hb (c5.extBut b o hb (c4.extBut b o hb (c3.extBut b o hb e)))
 exact QT (wpAny_letGo (QU (QU ⟨_,rfl,QU (hQ k6 b6 (up _ _ (Nat.ne_of_gt il) t2) fun b o hb e=>up b o hb (m2 b o hb e))⟩)))
theorem wA (hh:A.handled=none) (a0:IsItemIter s.heap it d i n ep ok ov) (hod:s.heap.get? d=some od) (hdd:od.data=.dict es ep) (hn:es.size=n) (hx:n<=i)
  (hQ:∀ h',Heap.ExtBut it s.heap h'->Q none {s with heap:=h'}):wpAny (model P w) A (pyNext (.ref it)) Q E s:=by
 have ty:s.TypeIs (.ref it) "dict_itemiterator":=⟨_,a0,rfl⟩
 have own:Builtin.Dict_items.ownsTuple "dict_itemiterator"=true:=by decide
 have hge:es.size<=i:=by omega
 have hdn:¬(Value.ref d==Value.none)=true:=fun hz=>Bool.false_ne_true hz
 unfold pyNext
 refine QT (wpAny_attempt (wpAny_callSpecial?_slot (name:=Str.ofString "__next__") ty F.slot_dict_itemiterator_next (wpAny_call_entry F.slot_dict_itemiterator_next ty F.entry_dict_itemiterator_next ?_ (F.args_dict_itemiterator_next_1 _))))
 refine QT (QU (QT (QT ?_)))
 first
  | refine QT (wpAny_typeNameOfWhole_itemiter ty (QU (QT (wpAny_fieldsOf a0 rfl ?_))))
  | refine QT (wpAny_typeNameOf_itemiter ty (QU (QT (wpAny_fieldsOf a0 rfl ?_))))
 simp only [own,if_true]
 show wpAny _ _ (if (Value.ref d==Value.none)=true then _ else _) _ _ _
 rw [if_neg hdn]
 refine QT (QU (QT (wpAny_dictEntries hod hdd ?_)))
 rw [if_neg (by rw [hn];simp)]
 refine QT (QU (QT (wpAny_dictEpoch hod hdd ?_)))
 rw [if_neg (by simp)]
 refine QU ?_
 simp only [show ¬((i:Int) < 0) by omega,if_false,Int.toNat_natCast,Array.getElem?_eq_none hge]
 refine QT ?_
 first
  | refine QT (wpAny_typeNameOfWhole_itemiter ty (QU ?_))
  | refine QT (wpAny_typeNameOf_itemiter ty (QU ?_))
 show wpAny _ _ (setField (.ref it) 2 .none >>=_) _ _ s
 refine QT (wpAny_setField a0 rfl (by simp) ?_)
 show wpAny _ _ (newExc (.type "StopIteration") [] >>=_) _ _ _
 refine QT ?_
 simp only [newExc,newTuple]
 refine QT (wpAny_newObj_type (QT (m:=firstArgMember _ _) (wpAny_of_eq (a:=Value.none) (by first | rfl | (simp only [firstArgMember];rfl)) (wpAny_newObj_type ?_ (by size_fits)))) (by size_fits))
 simp only [raiseNew]
 refine QT (wpAny_handled ?_)
 rw [show A.in1.handled=none from hh]
 refine QT (QU (wpAny_throw ?_))
 refine QT (wpAny_isInstance (T:="StopIteration") (b:=true) ⟨_,Qd _ rfl,rfl⟩ isSubtype_stop ?_)
 exact QU (hQ _ (((Heap.SameBut.update ..).extBut.push _).push _))
end
def ItiT (a:Addr) (o:Obj) (kvs:List (List Key×V)):It:=⟨fun i H=>H a=some (.frz o (.dT kvs))/\i < kvs.length,fun i H x H'=>∃ b kv,kvs[i]? =some kv/\RdT H b (kv.1.map kV)/\pairY (.ref b) kv.2 H x H',fun i H=>H a=some (.frz o (.dT kvs))/\kvs.length=i⟩
theorem yH {H:Hp} {kvs:List (List Key×V)} {xs:List (List Key×Addr×Value)} (r:KT H kvs xs):∀ {i:Nat} {p:List Key×V},kvs[i]? =some p->∃ q,xs[i]? =some q/\RdT H q.2.1 (p.1.map kV)/\RelV p.2 q.2.2:=by
 intro i
 induction r generalizing i with
 | nil=>intro p h;simp at h
 | cons a t ih=>
  intro p h
  cases i with
  | zero=>simp at h;subst h;exact ⟨_,by simp,a.2.1,a.2.2⟩
  | succ i=>simp at h;simpa using ih h
theorem pB {P:Program} {w:World} {K:Q0} {elts:List Expr} {k:Nat} {pos:Pos} {a it:Addr} {o:Obj} {kvs:List (List Key×V)} {ep:Nat} (hai:a≠it) (hep:∃ es,o.data=.dict es ep):
  Turn P w K (.Tuple elts k pos) (ItiT a o kvs) [it] it (fun i h=>∃ ok ov,IsItemIter h it a i kvs.length ep ok ov) where
 mem:=by simp
 obj:=fun i h st b hb=>by
  have e:b=it:=by simpa using hb
  subst e
  obtain ⟨ok,ov,he⟩:=st
  exact ⟨_,he,fun v z=>by
   have z':Data.fields _=Data.cell v:=z
   cases z'⟩
 keep:=fun i h h' st k=>let ⟨ok,ov,he⟩:=st;⟨ok,ov,k it (by simp) _ he⟩
 item:=by
  intro X hP hw hK hc i pins s σ H E I hf st hg
  subst hP hw hK
  obtain ⟨ok,ov,he⟩:=st
  obtain ⟨hq,hi⟩:=hg
  obtain ⟨e,z,hd,xs,rel,ob,es,ep',h1,h2,h3,h4,h5⟩:=(show ObjOk X.prog X.w H s.heap a (.frz o (.dT kvs)) from I.hok a _ hq)
  obtain ⟨es',he'⟩:=hep
  rw [e] at h1;cases h1
  rw [he'] at h3;injection h3 with h3a h3b
  subst h3a h3b
  obtain ⟨q,hq1,hq2,hq3⟩:=yH rel (Qa hi)
  have hl:=Paired.length rel
  have hsz:es'.size=kvs.length:=by rw [<- Array.length_toList,h4,Ql];exact hl.symm
  have hx:es'[i]? =some (entryOfKey (tupleKind (mixKind X.prog X.w)) q):=by rw [<- Array.getElem?_toList,h4,Qq,hq1];rfl
  refine uY (n:=kvs.length) he e he' hsz hx fun h' ho hT hkp=>?_
  have rk:RelV (.ref q.2.1) (entryOfKey (tupleKind (mixKind X.prog X.w)) q).key:=rfl
  have rv:RelV kvs[i].2 (entryOfKey (tupleKind (mixKind X.prog X.w)) q).val:=hq3
  have I1:Inv X pins σ (upd H s.heap.objs.size (.tup [.ref q.2.1,kvs[i].2])) {s with heap:=h'}:=I.turnedT (t':=s.toks) hf (fun b o hb e=>hkp b o (fun z=>hb (by simp [z])) e) (Qy _) (o7 rk rv hT)
  refine ⟨_,rfl,wpAny_letOwnedTupleGo_items (s:={s with heap:=h'}) ho fun h'' he'' sb=>?_⟩
  have hlt:it≠s.heap.objs.size:=Nat.ne_of_lt (Qz he)
  obtain ⟨f0,f1,f2,f3,f4,f5⟩:=hf it (by simp)
  have f0':upd H s.heap.objs.size (.tup [.ref q.2.1,kvs[i].2]) it=none:=by rw [aD hlt];exact f0
  refine ⟨.ref s.heap.objs.size,_,I1.turned (t':=s.toks) (fun b o hb q=>(sb.2 b hb).trans q) f0' f1 f3 f4 f5,rfl,⟨q.2.1,kvs[i],Qa hi,hq2,_,rfl,I.hok.fresh (Qy _),rfl⟩,⟨_,_,he''⟩,fun b hb=>?_⟩
  have e:b=it:=by simpa using hb
  subst e
  exact f0'
 done:=by
  intro X hP hw hK hc i pins s σ H E I hf st hg
  subst hP hw hK
  obtain ⟨ok,ov,he⟩:=st
  obtain ⟨hq,hi⟩:=hg
  obtain ⟨e,z,hd,xs,rel,ob,es,ep',h1,h2,h3,h4,h5⟩:=(show ObjOk X.prog X.w H s.heap a (.frz o (.dT kvs)) from I.hok a _ hq)
  obtain ⟨es',he'⟩:=hep
  rw [e] at h1;cases h1
  rw [he'] at h3;injection h3 with h3a h3b
  subst h3a h3b
  have hl:=Paired.length rel
  have hsz:es'.size=kvs.length:=by rw [<- Array.length_toList,h4,Ql];exact hl.symm
  obtain ⟨f0,f1,f2,f3,f4,f5⟩:=hf it (by simp)
  exact wA (n:=kvs.length) (I.ok.hd hc) he e he' hsz (by omega) fun h' eb=>⟨rfl,I.turned (t':=s.toks) (fun b o hb e=>eb b o hb e) f0 f1 f3 f4 f5⟩
 self:=fun _ _ _ _ _ st h=>let ⟨_,_,he⟩:=st;PySem.W.kcp_self he h
section
variable {X:Cx} {elts:List Expr} {k:Nat} {tpos apos cpos:Pos} {o:Expr} {to:TE}
theorem kG {P:Program} {w:World} {A:Around} {E:Value->Shared->Prop} {s:Shared} {v d:Addr} {od:Obj} {es:Array DictEntry} {ep:Nat} {Q:Value->Shared->Prop} (hv:s.heap.IsItemsView v d) (hod:s.heap.get? d=some od) (hdd:od.data=.dict es ep)
  (hQ:Q (.ref s.heap.objs.size) {s with heap:=s.heap.push {cls:=.type "dict_itemiterator",data:=.fields #[.none,.bool false,.ref d,.int 0 0,.int es.size 0,.int ep 0,.none,.none]}}):wpAny (model P w) A (pyIter (.ref v)) Q E s:=by
 obtain ⟨ov,hov,hcv,hdv⟩:=id hv
 have own:Builtin.Dict_items.ownsTuple "dict_itemiterator"=true:=by decide
 refine wpAny_pyIter_slot hv.typeIs F.slot_dict_items_iter (wpAny_call_entry F.slot_dict_items_iter hv.typeIs F.entry_dict_items_iter ?_ (F.args_dict_items_iter_1 _))
 unfold Builtin.«dict_items.__iter__»
 refine QT (QU (QT ?_))
 unfold Builtin.Dict_items.dictOf
 refine QT (wpAny_field hov hdv (x:=.ref d) rfl (QU (QT ?_)))
 unfold Builtin.Dict_items.newIterator
 refine QT (wpAny_dictEntries hod hdd (QT (wpAny_dictEpoch hod hdd ?_)))
 simp only [own,if_true]
 refine wpAny_newObj_type (QU ⟨_,rfl,"dict_itemiterator",_,⟨_,Qd _ rfl,rfl⟩,F.slot_dict_itemiterator_next.lookup,?_⟩) (by simp only [sizeOk,Builtin.Dict_items.ownedTupleFields,List.size_toArray,Qk,List.length_cons,List.length_nil,QL];omega)
 simpa [rawInt,Builtin.Dict_items.ownedTupleFields] using hQ
theorem lV {P:Program} {w:World} (d:Addr) (hd:(d==sysModules)=false):
  MeetsIn P w (Builtin.«dict.items» ⟨[.ref d],[]⟩) (fun _ R s=>s.TypeIs (.ref d) "dict"/\R (.ok (.ret (.ref s.heap.objs.size))) {s with heap:=s.heap.push {cls:=.type "dict_items",data:=.fields #[.ref d]}}):=
 .of_wp fun A R s ⟨hm,h⟩=>by
  unfold Builtin.«dict.items» Builtin.Dict.noArgs
  refine QT (QT (wpAny_notOrdered_dict hm ?_))
  show wpAny _ _ (pure d) _ _ s
  refine QU ?_
  show wpAny _ _ (Builtin.Dict.showsAll d >>=_) _ _ s
  unfold Builtin.Dict.showsAll
  rw [if_neg (fun hz=>Bool.false_ne_true (hd.symm.trans hz))]
  exact QT (QU (QT (wpAny_newObj_type (QU ⟨_,rfl,h⟩))))
def iItemsT (te:TE):TI:=fun σ H R=>te σ H fun x H1=>∃ a kvs o,x=.ref a/\H1 a=some (.frz o (.dT kvs))/\R (ItiT a o kvs) H1
theorem uS (ho:SE X o to) (hbase:attributeBase o "items" X.env (eval o X.env)=eval o X.env:=by rfl) (hline:(apos.endLine==cpos.line)=true:=by rfl):
  SI X (.Tuple elts k tpos) (.Call (.Attribute o "items" apos) [] [] cpos) (iItemsT to):=by
 constructor
 intro pins s σ H R I h
 refine wpAny_Call_method0_late hbase hline (thn (ho.h pins s σ H _ I h) ?_)
 rintro v s1 ⟨x,H1,I1,r1,a,kvs,o,ex,hH,q⟩
 subst ex
 cases r1
 obtain ⟨e,z,hdm,xs,rel,ob,es,ep,h1,h2,hd,h4,h5⟩:=(show ObjOk X.prog X.w _ s1.heap a (.frz o (.dT kvs)) from I1.hok a _ hH)
 rw [e] at h1;cases h1
 have hl:=Paired.length rel
 have hsz:es.size=kvs.length:=by rw [<- Array.length_toList,h4,Ql];exact hl.symm
 have hT:s1.TypeIs (.ref a) "dict":=⟨o,e,h2.1⟩
 refine ⟨"dict","dict.items",PySem.F.plainAttrs_dict,PySem.F.slot_dict_items,PySem.F.type_dict_items,hT,fun b hb=>by cases hb;exact ⟨o,e,h2.2.1⟩,Calls.callWith_builtin rfl (PySem.evalArgs_none ?_)⟩
 refine call_meetsIn PySem.F.slot_dict_items hT PySem.F.entry_dict_items (PySem.F.args_dict_items_1 _) (lV a hdm) ⟨hT,?_⟩
 have I3:Inv X pins σ H1 {s1 with heap:=s1.heap.push {cls:=.type "dict_items",data:=.fields #[.ref a]}}:=I1.kept (t':=s1.toks) fun b o e=>Qc _ e
 refine kG (es:=es) (ep:=ep) ⟨_,Qd _ rfl,rfl,rfl⟩ (Qc _ e) hd ?_
 have hne:a≠(s1.heap.push {cls:=.type "dict_items",data:=.fields #[.ref a]}).objs.size:=by
  rw [Heap.size_push];exact Nat.ne_of_lt (Nat.lt_succ_of_lt (Qz e))
 refine ⟨_,[(s1.heap.push {cls:=.type "dict_items",data:=.fields #[.ref a]}).objs.size],_,_,_,rfl,I3.kept (t':=s1.toks) fun b o e=>Qc _ e,pB (kvs:=kvs) (a:=a) (o:=o) hne ⟨es,hd⟩,⟨.none,.none,by rw [<- hsz];exact Qd _ rfl⟩,fun b hb=>?_,q⟩
 have e:b=(s1.heap.push {cls:=.type "dict_items",data:=.fields #[.ref a]}).objs.size:=by simpa using hb
 subst e
 exact I3.fpOk (Qy _) (I3.hok.fresh (Qy _))
end
section
variable {X:Cx} {tg:Expr} {apos cpos:Pos} {o:Expr} {to:TE}
end
section
variable {X:Cx}
end
abbrev CL:=List (Str×(Int×Int))
def getL (L:CL) (e:Str):Int×Int:=((L.find? fun x=>decide (x.1=e)).map (·.2)).getD (0,0)
def putL (L:CL) (e:Str) (p:Int×Int):CL:=if (L.any fun x=>decide (x.1=e))=true then L.map (fun x=>if x.1=e then (x.1,p) else x) else L++[(e,p)]
abbrev CVR (H:Hp) (kv:Key×V) (x:Str×(Int×Int)):Prop:=kv.1=.inr x.1/\∃ b,kv.2=.ref b/\H b=some (.tup [.int x.2.1,.int x.2.2])
abbrev CV (H:Hp):List (Key×V)->CL->Prop:=Paired (CVR H)
theorem CV.get {H:Hp} {kvs:List (Key×V)} {L:CL} (h:CV H kvs L) (e:Str):(valV kvs (.inr e)=none/\e ∉ L.map (·.1)/\getL L e=(0,0))\/∃ b,valV kvs (.inr e)=some (.ref b)/\e∈L.map (·.1)/\H b=some (.tup [.int (getL L e).1,.int (getL L e).2]):=by
 induction h with
 | nil=>exact .inl ⟨rfl,by simp,rfl⟩
 | @cons kv x ks xs a _ ih=>
  obtain ⟨e1,b,h1,h2⟩:=a
  by_cases hx:x.1=e
  ·refine .inr ⟨b,?_,by simp [hx],?_⟩
   ·rw [bU (by rw [e1,hx]),h1]
   ·have g:getL (x::xs) e=x.2:=by simp [getL,List.find?_cons,hx]
    rw [g];exact h2
  ·have g:getL (x::xs) e=getL xs e:=by simp [getL,List.find?_cons,hx]
   have ne:¬kv.1=Sum.inr e:=fun z=>hx (Sum.inr.inj (e1.symm.trans z))
   rw [g,bT ne]
   rcases ih with ⟨i1,i2,i3⟩ | ⟨b',i1,i2,i3⟩
   ·exact .inl ⟨i1,by simp only [List.map_cons,Qp,not_or];exact ⟨fun z=>hx z.symm,i2⟩,i3⟩
   ·exact .inr ⟨b',i1,by simp only [List.map_cons,Qp];exact .inr i2,i3⟩
theorem Paired.snoc {α β:Type} {R:α->β->Prop} {xs:List α} {ys:List β} (h:Paired R xs ys) {x:α} {y:β} (r:R x y):Paired R (xs++[x]) (ys++[y]):=by
 induction h with
 | nil=>exact .cons r .nil
 | cons a _ ih=>exact .cons a ih
theorem CV.put {H:Hp} {kvs:List (Key×V)} {L:CL} (h:CV H kvs L) (e:Str) {b:Addr} {p:Int×Int} (hb:H b=some (.tup [.int p.1,.int p.2])):CV H (putK kvs (.inr e) (.ref b)) (putL L e p):=by
 rcases h.get e with ⟨h1,h2,_⟩ | ⟨b',h1,h2,h3⟩
 ·rw [L2.cP _ h1]
  unfold putL
  rw [if_neg fun q=>by
   obtain ⟨x,hx,q⟩:=List.any_eq_true.mp q
   exact h2 (List.mem_map.mpr ⟨x,hx,Qt q⟩)]
  exact Paired.snoc h ⟨rfl,b,rfl,hb⟩
 ·have a1:(kvs.any fun kv=>decide (kv.1=(Sum.inr e:Key)))=true:=by rw [cA,h1];rfl
  have a2:(L.any fun x=>decide (x.1=e))=true:=by
   obtain ⟨x,hx,q⟩:=List.mem_map.mp h2
   exact List.any_eq_true.mpr ⟨x,hx,Qv q⟩
  unfold putK putL
  rw [if_pos a1,if_pos a2]
  clear h1 h2 h3 a1 a2
  induction h with
  | nil=>exact .nil
  | @cons kv x ks xs a _ ih=>
   rw [List.map_cons,List.map_cons]
   refine .cons ?_ ih
   obtain ⟨e1,b1,e2,e3⟩:=a
   by_cases hx:x.1=e
   ·rw [if_pos hx,if_pos (by rw [e1,hx])]
    exact ⟨e1,b,rfl,hb⟩
   ·rw [if_neg hx,if_neg fun z=>hx (Sum.inr.inj (e1.symm.trans z))]
    exact ⟨e1,b1,e2,e3⟩
theorem uR {rows:List Rw2} {e:Str} (h:endOf rows e=e):movesE rows (hdOf rows e)=onE rows e:=by
 unfold movesE onE onOf
 rw [h,Qn];rfl
theorem lX {K:Q0} {a b:Nat} {T:Addr} {v1 v2:V} {σ:St} {H:Hp} {Q:St->Hp->Prop} (h:SqT K H T [v1,v2]) (q:Q ((σ.set a (some v1)).set b (some v2)) H):g2 K a b (.ref T) σ H Q:=
 ⟨T,_,rfl,h,rfl,_,_,rfl,_,_,rfl,rfl,q⟩
theorem Paired.at {α β:Type} {R:α->β->Prop} {xs:List α} {ys:List β} (h:Paired R xs ys):∀ i (h1:i < xs.length) (h2:i < ys.length),R xs[i] ys[i]:=by
 induction h with
 | nil=>intro i h1;exact absurd h1 (by simp)
 | cons a _ ih=>
  intro i h1 h2
  cases i with
  | zero=>exact a
  | succ i=>exact ih i (by simpa using h1) (by simpa using h2)
theorem DGet.same {H H':Hp} {a:Addr} {y:V} {r:Option V} (g:DGet H a y r) (s:Same H H'):DGet H' a y r:=by
 rcases g with ⟨kvs,k,h1,h2,h3⟩ | ⟨kvs,k,b,h1,h2,h3,h4⟩
 ·exact .inl ⟨kvs,k,h1.same s,h2,h3⟩
 ·exact .inr ⟨kvs,k,b,h1.same s,h2,h3.same s,h4⟩
section
variable {prog:Program} {w:World} {A:Around} {R:Result->Shared->Prop} {s:Shared}
end
section
variable {X:Cx} {t1 i1 t2 i2 elt:Expr} {ifs:List Expr} {tc:TC} {sc:Scope} {pos:Pos} {own:List Str} {idx:List Nat} {N':List Str} {wi wi2:TI} {g g2:TG} {te:TE}
end
section
variable {X:Cx} {tg e:Expr} {te:TE}
end
section
variable {P:Program} {w:World} {A:Around} {E:Value->Shared->Prop} {s:Shared} {it d:Addr} {i n ep:Nat} {od:Obj} {es:Array DictEntry} {Q:Option Value->Shared->Prop}
end
section
variable {X:Cx} {tg:Expr} {apos cpos:Pos} {o:Expr} {to:TE}
end
section
variable {P:Program} {w:World} {A:Around} {E:Value->Shared->Prop} {s:Shared}
end
section
variable {X:Cx} {tg a:Expr} {ta:TA} {p p2 pos pos2:Pos}
end
section
variable {X:Cx}
end
abbrev Road:=List (List Str)
def allP (rows:List Rw2):Nat->Str->List (Road×Str)
 | 0,e=>[([],e)]
 | n+1,e=>(onOf rows e).flatMap fun m=>(allP rows n m.2).map fun q=>(m.1::q.1,q.2)
def allR (rows:List Rw2) (n:Nat) (e:Str):List Road:=(allP rows n e).map (·.1)
section
variable {H:Hp} {a:Addr} {xs:List V} {rows:List Rw2} {ns ws:List Str}
end
section
variable {X:Cx} {pos:Pos}
theorem a0c {i:Nat} {x:Str} {e:Expr} {te:TE} {op:Operator} {ti:TIp} {pos':Pos} (hN:X.N.Nodup) (hi:X.N[i]? =some x) (hx:Loc X.env.scope x) (he:SE X e te) (ho:PIp X op ti) (hf:X.fn x=true\/X.env.scope.names.lookup x=some .local:=by first | exact .inl rfl | exact .inr rfl | assumption):
  SS X (.AugAssign (.Name x pos') op e pos) (tAug i te ti):=⟨a0w hN hi hx he.h ho hf⟩
end
abbrev CBL:=List (Str×Option (Str×List Str))
def addOn (row:Str) (cb:CBL) (ms:List (List Str×Str)):CBL:=ms.foldl (fun cb m=>if m.2∈cb.map (·.1) then cb else cb++[(m.2,some (row,m.1))]) cb
def bfsN (rows:List Rw2) (f:Str):Nat->CBL
 | 0=>[(f,none)]
 | i+1=>match (bfsN rows f i)[i]? with
  | none=>bfsN rows f i
  | some c=>addOn c.1 (bfsN rows f i) (onOf rows c.1)
theorem mY:∀ {l m:List Str},l.Nodup->(∀ x∈l,x∈m)->l.length<=m.length
 | [],m,_,_=>Nat.zero_le _
 | a::l,m,nd,h=>by
  have ha:=h a List.mem_cons_self
  have h1:=mY (l:=l) (m:=m.erase a) (List.nodup_cons.mp nd).2 fun x hx=>(List.mem_erase_of_ne (show x≠a from fun z=>(List.nodup_cons.mp nd).1 (by rw [<- z];exact hx))).mpr (h x (Qh _ hx))
  rw [List.length_erase_of_mem ha] at h1
  have hp:=List.length_pos_of_mem ha
  rw [List.length_cons]
  omega
section
variable {X:Cx} {tg iter kx vx:Expr} {ifs:List Expr} {tc:TC} {sc:Scope} {pos:Pos} {own:List Str} {idx:List Nat} {N':List Str} {wi:TI} {g:TG} {tk tw:TE}
end
structure SL (H:Hp) (us:List V) (ss:List (List Str×Str)):Prop where
 len:us.length=ss.length
 at_:∀ i (h:i < us.length) (h':i < ss.length),∃ c b,us[i]=.ref c/\H c=some (.tup [.ref b,.str ss[i].2])/\RdT H b (ss[i].1.map V.str)
theorem SL.nil {H:Hp}:SL H [] []:=⟨rfl,fun i h=>absurd h (by simp)⟩
structure Srcs (H0 H:Hp) (kvs:List (Key×V)) (R:List Str) (f:Str->List (List Str×Str)):Prop where
 len:kvs.length=R.length
 at_:∀ i (h:i < kvs.length) (h':i < R.length),kvs[i].1=.inr R[i]/\∃ l us,kvs[i].2=.ref l/\H0 l=none/\H l=some (.lst us)/\SL H us (f R[i])
 inj:∀ i j (hi:i < kvs.length) (hj:j < kvs.length),kvs[i].2=kvs[j].2->i=j
theorem Srcs.put {H0 H:Hp} {kvs:List (Key×V)} {R:List Str} {f:Str->List (List Str×Str)} (h:Srcs H0 H kvs R f) {e:Str} {l:Addr} (hl0:H0 l=none) (hl:H l=some (.lst [])) (hne:∀ i (hi:i < kvs.length),kvs[i].2≠.ref l) (hf:f e=[]):Srcs H0 H (kvs++[(.inr e,.ref l)]) (R++[e]) f:=by
 have hlen:=h.len
 refine ⟨by simp [hlen],fun i h1 h2=>?_,fun i j hi hj he=>?_⟩
 ·by_cases hlt:i < kvs.length
  ·rw [Qe hlt,Qe (by omega)]
   exact h.at_ i hlt (by omega)
  ·have e':i=kvs.length:=by simp at h1;omega
   subst e'
   rw [Qf (Qy _),Qf (by omega)]
   simp only [Nat.sub_self,hlen,List.getElem_cons_zero]
   exact ⟨trivial,l,[],rfl,hl0,hl,by rw [hf];exact SL.nil⟩
 ·simp only [Qk,List.length_cons,List.length_nil] at hi hj
  by_cases hlt:i < kvs.length<;>by_cases hlj:j < kvs.length
  ·rw [Qe hlt,Qe hlj] at he
   exact h.inj i j hlt hlj he
  ·have ej:j=kvs.length:=by omega
   subst ej
   rw [Qe hlt,Qf (Qy _)] at he
   simp only [Nat.sub_self,List.getElem_cons_zero] at he
   exact absurd he (hne i hlt)
  ·have ei:i=kvs.length:=by omega
   subst ei
   rw [Qe hlj,Qf (Qy _)] at he
   simp only [Nat.sub_self,List.getElem_cons_zero] at he
   exact absurd he.symm (hne j hlj)
  ·omega
def Hgt (rows:List Rw2) (e:Str) (k:Nat):Prop:=allR rows k e≠[]/\allR rows (k+1) e=[]
def pb (hs:List (Str×Nat)) (wt:List Str) (y:Str):Bool:=decide (y∈hs.map (·.1))&& !decide (y∈wt)
structure HJ (rows:List Rw2) (R:List Str) (x:Str) (p:Str->Bool) (cnt:Str->Int) (S:List (List Str×Str)) (un:Str->Int) (hs:List (Str×Nat)) (wt:List Str):Prop where
 nd:(hs.map (·.1)).Nodup
 sub:∀ y∈hs.map (·.1),y∈R
 wn:wt.Nodup
 ws:∀ y∈wt,y∈hs.map (·.1)
 pp:∀ y,pb hs wt y=(p y||decide (y=x))
 un_:∀ r∈R,un r=cnt r - (S.countP (fun q=>decide (q.2=r)):Int)
 z:∀ r∈R,r∈hs.map (·.1)↔un r=0
 snd:∀ q∈hs,Hgt rows q.1 q.2
theorem HJ.put {rows:List Rw2} {R:List Str} {x:Str} {p:Str->Bool} {cnt un:Str->Int} {S:List (List Str×Str)} {hs:List (Str×Nat)} {wt:List Str} (h:HJ rows R x p cnt S un hs wt) {q:List Str×Str} (hq:q.2∈R) (h1:1<=un q.2) (h2:un q.2 - 1=0) {k:Nat} (hk:Hgt rows q.2 k):HJ rows R x p cnt (S++[q]) (fun y=>if y=q.2 then un y - 1 else un y) (hs++[(q.2,k)]) (wt++[q.2]):=by
 have hno:q.2 ∉ hs.map (·.1):=fun z=>by have:=(h.z _ hq).mp z;omega
 have hnw:q.2 ∉ wt:=fun z=>hno (h.ws _ z)
 refine ⟨?_,fun y hy=>?_,?_,fun y hy=>?_,fun y=>?_,fun r hr=>?_,fun r hr=>?_,fun q' hq'=>?_⟩
 ·rw [Qm,List.nodup_append]
  refine ⟨h.nd,by simp,fun a ha b hb=>?_⟩
  rw [List.map_cons,List.map_nil,List.mem_singleton] at hb
  exact fun z=>hno (by rw [z,hb] at ha;exact ha)
 ·rw [Qm] at hy
  rcases List.mem_append.mp hy with hy | hy
  ·exact h.sub y hy
  ·rw [List.map_cons,List.map_nil,List.mem_singleton] at hy
   rw [hy];exact hq
 ·rw [List.nodup_append]
  refine ⟨h.wn,by simp,fun a ha b hb=>?_⟩
  rw [List.mem_singleton] at hb
  subst hb
  exact fun z=>hnw (z▸ha)
 ·rw [Qm]
  rcases List.mem_append.mp hy with hy | hy
  ·exact List.mem_append.mpr (.inl (h.ws y hy))
  ·rw [List.mem_singleton.mp hy];exact List.mem_append.mpr (.inr (by simp))
 ·rw [<- h.pp y]
  unfold pb
  by_cases e:y=q.2
  ·subst e
   simp [hno]
  ·have e1:decide (y∈(hs++[(q.2,k)]).map (·.1))=decide (y∈hs.map (·.1)):=by
    rw [Qm]
    by_cases hh:y∈hs.map (·.1)
    ·rw [Qv hh,Qv (List.mem_append.mpr (.inl hh))]
    ·rw [Qw hh,Qw fun z=>?_]
     rcases List.mem_append.mp z with z | z
     ·exact hh z
     ·rw [List.map_cons,List.map_nil,List.mem_singleton] at z;exact e z
   have e2:decide (y∈wt++[q.2])=decide (y∈wt):=by
    by_cases hh:y∈wt<;>simp [hh,e]
   rw [e1,e2]
 ·have:=h.un_ r hr
  rw [List.countP_append]
  by_cases e:r=q.2
  ·subst e;simp;omega
  ·have e':q.2≠r:=fun z=>e z.symm
   simp [e,e'];omega
 ·have:=h.z r hr
  rw [Qm]
  by_cases e:r=q.2
  ·subst e
   simp only [if_true]
   exact ⟨fun _=>h2,fun _=>List.mem_append.mpr (.inr (by simp))⟩
  ·simp only [e,if_false]
   rw [<- this]
   constructor
   ·intro z
    rcases List.mem_append.mp z with z | z
    ·exact z
    ·rw [List.map_cons,List.map_nil,List.mem_singleton] at z;exact absurd z e
   ·exact fun z=>List.mem_append.mpr (.inl z)
 ·rcases List.mem_append.mp hq' with z | z
  ·exact h.snd q' z
  ·rw [List.mem_singleton.mp z];exact hk
def hv (hs:List (Str×Nat)) (y:Str):Nat:=((hs.find? fun q=>decide (q.1=y)).map (·.2)).getD 0
section
variable {P:Program} {w:World} {H:Hp} {h h':Heap}
theorem HOk.add {a:Addr} {o:HO} (x:HOk P w H h) (hn:H a=none) (new:ObjOk P w (upd H a o) h a o):HOk P w (upd H a o) h:=fun b u e=>by
 by_cases hb:b=a
 ·subst hb;rw [a7] at e;cases e;exact new
 ·rw [aD hb] at e
  exact (x b u e).stay (fun c v _ q=>q) (fun c q=>by rw [aD (aM q hn)];exact q) fun c xs q=>q.upd fun u hu=>aM hu hn
end
section
variable {X:Cx} {pins:List (Addr×Obj)} {σ:St} {H:Hp} {s:Shared} {h':Heap}
end
section
variable {X:Cx} {o:Expr} {to:TE} {p apos ipos cpos:Pos}
end
section
variable {X:Cx} {o e f:Expr} {td ty tx:TE} {apos cpos:Pos}
end
abbrev LR:=List (Str×Road)
def lrAt (acc:LR) (r:Str):Road:=((acc.find? fun q=>decide (q.1=r)).map (·.2)).getD []
def lrRoad (acc:LR):Option (Str×List Str)->Road
 | none=>[]
 | some q=>lrAt acc q.1++[q.2]
def lrN (cb:CBL):LR:=cb.foldl (fun acc c=>acc++[(c.1,lrRoad acc c.2)]) []
section
variable {X:Cx}
end
section
variable {A:Around} {s:Shared}
end
section
variable {X:Cx} {pins:List (Addr×Obj)} {σ:St} {H:Hp} {s:Shared}
end
end L2
set_option maxRecDepth 100000
namespace L2
open PySem PySem.Spec PyProof.Rows PySem.W
section
variable {prog:Program} {w:World} {A:Around} {E:Value->Shared->Prop} {s:Shared}
end
section
variable {X:Cx}
end
end L2
set_option maxRecDepth 100000
namespace L2
open PySem PySem.Spec PyProof.Rows
def dd (seen:List Str):List (Road×Str)->LR
 | []=>[]
 | q::P=>if q.2∈seen then dd seen P else (q.2,q.1)::dd (seen++[q.2]) P
structure QI (rows:List Rw2) (f:Str) (i:Nat) (found:LR) (P:List (Road×Str)):Prop where
 fd:found=(lrN (bfsN rows f i)).take i
 pd:dd (found.map (·.1)) P=(lrN (bfsN rows f i)).drop i
theorem QI.start (rows:List Rw2) (f:Str):QI rows f 0 [] [([],f)]:=⟨by simp,by simp [dd,bfsN,lrN,lrRoad]⟩
end L2
set_option maxRecDepth 100000
namespace L2
open PySem PySem.Spec PyProof.Rows PySem.W
section
variable {prog:Program} {w:World} {A:Around} {E:Value->Shared->Prop} {s:Shared}
end
section
variable {X:Cx} {o:Expr} {to:TE} {p apos ipos cpos:Pos}
end
end L2
set_option maxRecDepth 100000
namespace L2
open PySem PySem.Spec PyProof.Rows
section
variable {P:Program} {w:World} {A:Around} {E:Value->Shared->Prop} {s:Shared} {it d:Addr} {i n ep:Nat} {od:Obj} {es:Array DictEntry} {Q:Option Value->Shared->Prop}
theorem vU {en:DictEntry} (a0:s.heap.IsKeyIter it d i n ep) (hod:s.heap.get? d=some od) (hdd:od.data=.dict es ep) (hn:es.size=n) (hx:es[i]? =some en)
  (hQ:∀ h',h'.IsKeyIter it d (i+1) n ep->Heap.SameBut it s.heap h'->Q (some en.key) {s with heap:=h'}):wpAny (model P w) A (pyNext (.ref it)) Q E s:=by
 obtain ⟨o,ho,hc,hd⟩:=id a0
 have own:Builtin.Dict_items.ownsTuple "dict_keyiterator"=false:=by decide
 have hdn:¬(Value.ref d==Value.none)=true:=fun hz=>Bool.false_ne_true hz
 unfold pyNext
 refine QT (wpAny_attempt (wpAny_callSpecial?_slot (name:=Str.ofString "__next__") a0.typeIs F.slot_dict_keyiterator_next (wpAny_call_entry F.slot_dict_keyiterator_next a0.typeIs F.entry_dict_keyiterator_next ?_ (F.args_dict_keyiterator_next_1 _))))
 refine QT (QU (QT (QT ?_)))
 first
  | refine QT (wpAny_typeNameOfWhole_keyiter a0.typeIs (QU (QT (wpAny_fieldsOf ho hd ?_))))
  | refine QT (wpAny_typeNameOf_keyiter a0.typeIs (QU (QT (wpAny_fieldsOf ho hd ?_))))
 simp only [own,Bool.false_eq_true,if_false]
 show wpAny _ _ (if (Value.ref d==Value.none)=true then _ else _) _ _ s
 rw [if_neg hdn]
 refine QT (QU (QT (wpAny_dictEntries hod hdd ?_)))
 rw [if_neg (by rw [hn];simp)]
 refine QT (QU (QT (wpAny_dictEpoch hod hdd ?_)))
 rw [if_neg (by simp)]
 refine QU ?_
 simp only [show ¬((i:Int) < 0) by omega,if_false,Int.toNat_natCast,hx]
 refine QT ?_
 first
  | refine QT (wpAny_typeNameOfWhole_keyiter a0.typeIs (QU (QT (wpAny_isOneOf_keyiter a0.typeIs ?_))))
  | refine QT (wpAny_typeNameOf_keyiter a0.typeIs (QU (QT (wpAny_isOneOf_keyiter a0.typeIs ?_))))
 show wpAny _ _ (setField (.ref it) 1 (rawInt ((i:Int)+1)) >>=_) _ _ s
 refine QT (wpAny_setField ho hd (by simp) ?_)
 have b1:(s.heap.update it (Obj.mapFields (·.setIfInBounds 1 (rawInt ((i:Int)+1))))).IsKeyIter it d (i+1) n ep:=⟨_,Heap.get?_update_self _ ho (Obj.isFreed_of_fields (Obj.data_mapFields hd _)),(Obj.cls_mapFields ..).trans hc,by rw [Obj.data_mapFields hd];simp [rawInt]⟩
 have c1:Heap.SameBut it s.heap (s.heap.update it (Obj.mapFields (·.setIfInBounds 1 (rawInt ((i:Int)+1))))):=Heap.SameBut.update ..
 generalize s.heap.update it (Obj.mapFields (·.setIfInBounds 1 (rawInt ((i:Int)+1))))=k1 at b1 c1
 refine QT (wpAny_holding (QT (wpAny_isOneOf_keyiter (s:={s with heap:=k1}) b1.typeIs ?_)))
 show wpAny _ _ (pure en.key) _ _ _
 exact QU (QU ⟨_,rfl,QU (hQ _ b1 c1)⟩)
theorem yJ (hh:A.handled=none) (a0:s.heap.IsKeyIter it d i n ep) (hod:s.heap.get? d=some od) (hdd:od.data=.dict es ep) (hn:es.size=n) (hx:n<=i)
  (hQ:∀ h',Heap.ExtBut it s.heap h'->Q none {s with heap:=h'}):wpAny (model P w) A (pyNext (.ref it)) Q E s:=by
 obtain ⟨o,ho,hc,hd⟩:=id a0
 have own:Builtin.Dict_items.ownsTuple "dict_keyiterator"=false:=by decide
 have hdn:¬(Value.ref d==Value.none)=true:=fun hz=>Bool.false_ne_true hz
 have hge:es.size<=i:=by omega
 unfold pyNext
 refine QT (wpAny_attempt (wpAny_callSpecial?_slot (name:=Str.ofString "__next__") a0.typeIs F.slot_dict_keyiterator_next (wpAny_call_entry F.slot_dict_keyiterator_next a0.typeIs F.entry_dict_keyiterator_next ?_ (F.args_dict_keyiterator_next_1 _))))
 refine QT (QU (QT (QT ?_)))
 first
  | refine QT (wpAny_typeNameOfWhole_keyiter a0.typeIs (QU (QT (wpAny_fieldsOf ho hd ?_))))
  | refine QT (wpAny_typeNameOf_keyiter a0.typeIs (QU (QT (wpAny_fieldsOf ho hd ?_))))
 simp only [own,Bool.false_eq_true,if_false]
 show wpAny _ _ (if (Value.ref d==Value.none)=true then _ else _) _ _ s
 rw [if_neg hdn]
 refine QT (QU (QT (wpAny_dictEntries hod hdd ?_)))
 rw [if_neg (by rw [hn];simp)]
 refine QT (QU (QT (wpAny_dictEpoch hod hdd ?_)))
 rw [if_neg (by simp)]
 refine QU ?_
 simp only [show ¬((i:Int) < 0) by omega,if_false,Int.toNat_natCast,Array.getElem?_eq_none hge]
 refine QT ?_
 first
  | refine QT (wpAny_typeNameOfWhole_keyiter a0.typeIs (QU ?_))
  | refine QT (wpAny_typeNameOf_keyiter a0.typeIs (QU ?_))
 show wpAny _ _ (setField (.ref it) 0 .none >>=_) _ _ s
 refine QT (wpAny_setField ho hd (by simp) ?_)
 show wpAny _ _ (newExc (.type "StopIteration") [] >>=_) _ _ _
 refine QT ?_
 simp only [newExc,newTuple]
 refine QT (wpAny_newObj_type (QT (m:=firstArgMember _ _) (wpAny_of_eq (a:=Value.none) (by first | rfl | (simp only [firstArgMember];rfl)) (wpAny_newObj_type ?_ (by size_fits)))) (by size_fits))
 simp only [raiseNew]
 refine QT (wpAny_handled ?_)
 rw [show A.in1.handled=none from hh]
 refine QT (QU (wpAny_throw ?_))
 refine QT (wpAny_isInstance (T:="StopIteration") (b:=true) ⟨_,Qd _ rfl,rfl⟩ isSubtype_stop ?_)
 exact QU (hQ _ (((Heap.SameBut.update ..).extBut.push _).push _))
theorem lW {Q:Value->Shared->Prop} (hT:s.TypeIs (.ref d) "dict") (hd:(d==sysModules)=false) (hod:s.heap.get? d=some od) (hdd:od.data=.dict es ep)
  (hQ:Q (.ref s.heap.objs.size) {s with heap:=s.heap.push {cls:=.type "dict_keyiterator",data:=.fields #[.ref d,.int 0 0,.int es.size 0,.int ep 0]}}):wpAny (model P w) A (pyIter (.ref d)) Q E s:=by
 refine wpAny_pyIter_slot hT F.slot_dict_iter (wpAny_call_entry F.slot_dict_iter hT F.entry_dict_iter ?_ (F.args_dict_iter_1 _))
 unfold Builtin.«dict.__iter__»
 refine QT ?_
 unfold Builtin.Dict.dictSlotNone
 refine QT (wpAny_notOrdered_dict hT ?_)
 show wpAny _ _ (pure (Value.ref d)) _ _ s
 refine QU ?_
 show wpAny _ _ (Builtin.Dict.showsAll d >>=_) _ _ s
 unfold Builtin.Dict.showsAll
 rw [if_neg (fun hz=>Bool.false_ne_true (hd.symm.trans hz))]
 refine QT (QU (QT (wpAny_dictEntries hod hdd (QT (wpAny_dictEpoch hod hdd ?_)))))
 refine QT (wpAny_newObj_type (QU ⟨_,rfl,"dict_keyiterator",_,⟨_,Qd _ rfl,rfl⟩,F.slot_dict_keyiterator_next.lookup,?_⟩))
 simpa [rawInt] using hQ
end
def ItkT (a:Addr) (o:Obj) (kvs:List (List Key×V)):It:=⟨fun i H=>H a=some (.frz o (.dT kvs))/\i < kvs.length,fun i H x H'=>H'=H/\∃ b kv,kvs[i]? =some kv/\RdT H b (kv.1.map kV)/\x=.ref b,fun i H=>H a=some (.frz o (.dT kvs))/\kvs.length=i⟩
theorem rO {P:Program} {w:World} {K:Q0} {tg:Expr} {a it:Addr} {o:Obj} {kvs:List (List Key×V)} {ep:Nat} (hep:∃ es,o.data=.dict es ep):Turn P w K tg (ItkT a o kvs) [it] it (fun i h=>h.IsKeyIter it a i kvs.length ep) where
 mem:=by simp
 obj:=fun i h st b hb=>by
  have e:b=it:=by simpa using hb
  subst e
  obtain ⟨o,e,c,d⟩:=st
  exact ⟨o,e,fun v z=>by rw [d] at z;cases z⟩
 keep:=fun i h h' st k=>let ⟨o,e,r⟩:=st;⟨o,k it (by simp) o e,r⟩
 item:=by
  intro X hP hw hK hc i pins s σ H E I hf st hg
  subst hP hw hK
  obtain ⟨hq,hi⟩:=hg
  obtain ⟨e,z,hd,xs,rel,ob,es,ep',h1,h2,h3,h4,h5⟩:=(show ObjOk X.prog X.w H s.heap a (.frz o (.dT kvs)) from I.hok a _ hq)
  obtain ⟨es',he'⟩:=hep
  rw [e] at h1;cases h1
  rw [he'] at h3;injection h3 with h3a h3b
  subst h3a h3b
  obtain ⟨q,hq1,hq2,hq3⟩:=yH rel (Qa hi)
  have hl:=Paired.length rel
  have hsz:es'.size=kvs.length:=by rw [<- Array.length_toList,h4,Ql];exact hl.symm
  have hx:es'[i]? =some (entryOfKey (tupleKind (mixKind X.prog X.w)) q):=by rw [<- Array.getElem?_toList,h4,Qq,hq1];rfl
  obtain ⟨f0,f1,f2,f3,f4,f5⟩:=hf it (by simp)
  refine vU (n:=kvs.length) st e he' hsz hx fun h' st' sb=>?_
  have I1:Inv X pins σ H {s with heap:=h'}:=I.turned (t':=s.toks) (fun b o hb e=>(sb.2 b hb).trans e) f0 f1 f3 f4 f5
  obtain ⟨o3,e3,c3,d3⟩:=id st'
  exact ⟨_,rfl,mJ (s:={s with heap:=h'}) e3 c3 d3 (by decide) ⟨.ref q.2.1,H,I1,rfl,⟨rfl,q.2.1,kvs[i],Qa hi,hq2,rfl⟩,st',fun b hb=>(hf b hb).1⟩⟩
 done:=by
  intro X hP hw hK hc i pins s σ H E I hf st hg
  subst hP hw hK
  obtain ⟨hq,hi⟩:=hg
  obtain ⟨e,z,hd,xs,rel,ob,es,ep',h1,h2,h3,h4,h5⟩:=(show ObjOk X.prog X.w H s.heap a (.frz o (.dT kvs)) from I.hok a _ hq)
  obtain ⟨es',he'⟩:=hep
  rw [e] at h1;cases h1
  rw [he'] at h3;injection h3 with h3a h3b
  subst h3a h3b
  have hl:=Paired.length rel
  have hsz:es'.size=kvs.length:=by rw [<- Array.length_toList,h4,Ql];exact hl.symm
  obtain ⟨f0,f1,f2,f3,f4,f5⟩:=hf it (by simp)
  exact yJ (n:=kvs.length) (I.ok.hd hc) st e he' hsz (by omega) fun h' eb=>⟨rfl,I.turned (t':=s.toks) (fun b o hb e=>eb b o hb e) f0 f1 f3 f4 f5⟩
 self:=fun _ _ _ _ _ st h=>wpAny_pyIter_keyiter st h
section
variable {X:Cx} {tg e:Expr} {te:TE}
def iKeysT (te:TE):TI:=fun σ H R=>te σ H fun x H1=>∃ a kvs o,x=.ref a/\H1 a=some (.frz o (.dT kvs))/\R (ItkT a o kvs) H1
theorem yA (he:SE X e te):SI X tg e (iKeysT te):=by
 constructor
 intro pins s σ H R I h
 refine thn (he.h pins s σ H _ I h) ?_
 rintro v s1 ⟨x,H1,I1,r1,a,kvs,o,ex,hH,q⟩
 subst ex
 cases r1
 obtain ⟨e,z,hdm,xs,rel,ob,es,ep,h1,h2,hd,h4,h5⟩:=(show ObjOk X.prog X.w _ s1.heap a (.frz o (.dT kvs)) from I1.hok a _ hH)
 rw [e] at h1;cases h1
 have hl:=Paired.length rel
 have hsz:es.size=kvs.length:=by rw [<- Array.length_toList,h4,Ql];exact hl.symm
 refine lW (es:=es) (ep:=ep) ⟨o,e,h2.1⟩ hdm e hd ?_
 refine ⟨s1.heap.objs.size,[s1.heap.objs.size],_,_,_,rfl,I1.kept (t':=s1.toks) fun b o e=>Qc _ e,rO (kvs:=kvs) (a:=a) (o:=o) ⟨es,hd⟩,by rw [<- hsz];exact ⟨_,Qd _ rfl,rfl,rfl⟩,fun b hb=>?_,q⟩
 have e:b=s1.heap.objs.size:=by simpa using hb
 subst e
 exact I1.fpOk (Qy _) (I1.hok.fresh (Qy _))
end
theorem xQ {ad : Addr} {o : Obj} {kvs : List (List Key × V)} {g : TG} {tc : TC} {te : TE} {τ0 : St} {H0 : Hp} {D : Addr} {Q : Hp -> Prop} (Pv : Nat -> St -> Hp -> Prop) (h0 : Pv 0 τ0 H0)
    (hok : ∀ i τ H, i <= kvs.length -> Pv i τ H -> H ad = some (.frz o (.dT kvs)))
    (hs : ∀ i τ H b (hi : i < kvs.length), Pv i τ H -> RdT H b (kvs[i].1.map kV) -> g (.ref b) τ H fun τ2 H2 => tc τ2 H2 fun c H3 => if c = true then te τ2 H3 fun y H4 => ∃ xs, H4 D = some (.lst xs) /\ xs.length < sizeLine /\ Pv (i + 1) τ2 (upd H4 D (.lst (xs ++ [y]))) else Pv (i + 1) τ2 H3)
    (hd : ∀ τ H, Pv kvs.length τ H -> Q H) : ∃ W : Nat -> Nat -> St -> Hp -> Prop, (∃ m, W 0 m τ0 H0) /\ ∀ i m τ H, W i m τ H ->
      ((ItkT ad o kvs).stop i H /\ Q H) \/ ((ItkT ad o kvs).go i H /\ ∃ N : St -> Hp -> Prop, (∀ τ' H', N τ' H' -> ∃ m', m' < m /\ W (i + 1) m' τ' H') /\ ∀ x H', (ItkT ad o kvs).yld i H x H' -> g x τ H' fun τ2 H2 => tc τ2 H2 fun b H3 =>
        if b = true then te τ2 H3 fun y H4 => ∃ xs, H4 D = some (.lst xs) /\ xs.length < sizeLine /\ N τ2 (upd H4 D (.lst (xs ++ [y]))) else N τ2 H3) := by
  refine ⟨fun i m τ H => m = kvs.length - i /\ i <= kvs.length /\ Pv i τ H, ⟨kvs.length, by simp, Nat.zero_le _, h0⟩, ?_⟩
  rintro i m τ H ⟨rfl, hi, p⟩
  have hk := hok i τ H hi p
  by_cases hlt : i < kvs.length
  · refine .inr ⟨⟨hk, hlt⟩, Pv (i + 1), fun σ' H' p' => ⟨kvs.length - (i + 1), by omega, rfl, hlt, p'⟩, fun x H' y => ?_⟩
    obtain ⟨rfl, b, kv, hkv, rd, rfl⟩ := y
    have e : kv = kvs[i] := by rw [Qa hlt] at hkv; exact (QD hkv).symm
    subst e
    exact hs i τ _ b hlt p rd
  · have e : i = kvs.length := by omega
    subst e
    exact .inl ⟨⟨hk, rfl⟩, hd τ H p⟩
section
variable {X:Cx} {a b:Expr} {ta tb:TE} {pos:Pos}
end
inductive Th where
 | pick (w:Str) (t:Th)
 | box (ps:List (Str×Th))
section
variable {rows:List Rw2} {e:Str}
end
theorem a29 {s:Str} {A B:Prop} (h:A):if (false^^decide (V.str s=V.str s))=true then A else B:=by rw [QE,Qv rfl];exact h
theorem a2P {s z:Str} {A B:Prop} (n:(s==z)=false) (h:B):if (false^^decide (V.str s=V.str z))=true then A else B:=by rw [QE,cO,n];exact h
theorem zA {α β:Type} {ps:List (α×β)} (nd:(ps.map (·.1)).Nodup) {z:α} {t t':β} (h:(z,t)∈ps) (h':(z,t')∈ps):t=t':=by
 obtain ⟨i,hi,e⟩:=Qi h
 obtain ⟨j,hj,e'⟩:=Qi h'
 have hij:i=j:=by
  refine (List.getElem_inj (h₀:=by simpa using hi) (h₁:=by simpa using hj) nd).mp ?_
  simp [e,e']
 subst hij
 rw [e] at e'
 exact (Prod.mk.inj e').2
structure PD (R:V->Th->Prop) (ws:List Str) (kvs:List (Key×V)):Prop where
 all:∀ q∈kvs,∃ z t,q.1=.inr z/\z∈ws/\R q.2 t
 nd:(kvs.map (·.1)).Nodup
section
variable {R R':V->Th->Prop} {ws:List Str} {kvs kvs':List (Key×V)}
theorem PD.len (h:PD R ws kvs):kvs.length<=ws.length:=by
 have hc:∀ q:Key×V,∃ z:Str,q∈kvs->q.1=.inr z/\z∈ws:=fun q=>by
  by_cases hq:q∈kvs
  ·obtain ⟨z,t,h1,h2,_⟩:=h.all q hq;exact ⟨z,fun _=>⟨h1,h2⟩⟩
  ·exact ⟨"",fun z=>absurd z hq⟩
 obtain ⟨f,hf⟩:=Classical.axiomOfChoice hc
 have:=mY (l:=kvs.map f) (m:=ws) ?_ ?_
 ·simpa using this
 ·refine List.pairwise_map.mpr ((List.pairwise_map.mp h.nd).imp_of_mem fun {a b} ha hb hab e=>hab ?_)
  rw [(hf a ha).1,(hf b hb).1,e]
 ·intro z hz
  obtain ⟨q,hq,rfl⟩:=List.mem_map.mp hz
  exact (hf q hq).2
theorem PD.put (h:PD R ws kvs) {z:Str} {v:V} {t:Th} (hz:z∈ws) (hv:R v t):PD R ws (putK kvs (.inr z) v):=by
 cases e:valV kvs (.inr z) with
 | none=>
  refine ⟨fun q hq=>?_,tO _ h.nd e⟩
  rw [L2.cP _ e] at hq
  rcases List.mem_append.mp hq with hq | hq
  ·exact h.all q hq
  ·rw [List.mem_singleton.mp hq];exact ⟨z,t,rfl,hz,hv⟩
 | some u=>
  have ha:(kvs.any fun kv=>decide (kv.1=.inr z))=true:=by rw [cA,e];rfl
  unfold putK
  rw [if_pos ha]
  refine ⟨fun q hq=>?_,?_⟩
  ·obtain ⟨q',h1,rfl⟩:=List.mem_map.mp hq
   by_cases hk:q'.1=.inr z
   ·rw [if_pos hk];exact ⟨z,t,hk,hz,hv⟩
   ·rw [if_neg hk];exact h.all q' h1
  ·have ee:(kvs.map fun kv=>if kv.1=.inr z then (kv.1,v) else kv).map (·.1)=kvs.map (·.1):=by
    rw [Qn]
    refine List.map_congr_left fun q _=>?_
    show (if q.1=.inr z then (q.1,v) else q).1=q.1
    split<;>rfl
   rw [ee];exact h.nd
end
theorem a1W {J:It} {ok:Hp->Prop} {n:Nat} {item:Nat->V} {g:TG} {tc:TC} {tk tw:TE} {τ0:St} {H0:Hp} {D:Addr} {Q:Hp->Prop} (hJ:ItN J ok n item) (Pv:Nat->St->Hp->Prop) (h0:Pv 0 τ0 H0)
  (hok:∀ i τ H,i<=n->Pv i τ H->ok H)
  (hs:∀ i τ H,i < n->Pv i τ H->g (item i) τ H fun τ2 H2=>tc τ2 H2 fun b H3=>if b=true then tk τ2 H3 fun x H4=>tw τ2 H4 fun y H5=>∃ kvs key b',x=.ref b'/\RdT H5 b' (key.map kV)/\H5 D=some (.dT kvs)/\kvs.length < sizeLine/\Pv (i+1) τ2 (upd H5 D (.dT (putK kvs key y))) else Pv (i+1) τ2 H3)
  (hd:∀ τ H,Pv n τ H->Q H):∃ W:Nat->Nat->St->Hp->Prop,(∃ m,W 0 m τ0 H0)/\∀ i m τ H,W i m τ H->
   (J.stop i H/\Q H)\/(J.go i H/\∃ N:St->Hp->Prop,(∀ τ' H',N τ' H'->∃ m',m' < m/\W (i+1) m' τ' H')/\∀ x H',J.yld i H x H'->g x τ H' fun τ2 H2=>tc τ2 H2 fun b H3=>
    if b=true then tk τ2 H3 fun x H4=>tw τ2 H4 fun y H5=>∃ kvs key b,x=.ref b/\RdT H5 b (key.map kV)/\H5 D=some (.dT kvs)/\kvs.length < sizeLine/\N τ2 (upd H5 D (.dT (putK kvs key y))) else N τ2 H3):=by
 refine ⟨fun i m τ H=>m=n - i/\i<=n/\Pv i τ H,⟨n,by simp,Nat.zero_le _,h0⟩,?_⟩
 rintro i m τ H ⟨rfl,hi,p⟩
 obtain ⟨k1,k2⟩:=hJ H (hok i τ H hi p)
 by_cases hlt:i < n
 ·refine .inr ⟨(k1 i hlt).1,Pv (i+1),fun σ' H' p'=>⟨n - (i+1),by omega,rfl,hlt,p'⟩,fun x H' y=>?_⟩
  obtain ⟨e,e2⟩:=(k1 i hlt).2 x H' y
  subst e e2
  exact hs i τ _ hlt p
 ·have e:i=n:=by omega
  subst e
  exact .inl ⟨k2,hd τ H p⟩
end L2
set_option autoImplicit false
set_option maxRecDepth 100000
namespace L2
open PySem PySem.Spec PyProof.Rows
theorem tT {A:Around} {k:Nat} (hr:Room k A):A.units+10 < cLine:=by have:=hr.un;omega
theorem bfalse2 {p:Prop} (h:¬p):(false=true↔p):=⟨(fun z=>nomatch z),fun z=>absurd z h⟩
theorem iY {κ:Type} [DecidableEq κ] {kvs:List (κ×V)} {k:κ}:(valV kvs k).isSome=true↔k∈kvs.map (·.1):=by
 rw [<- cA,List.any_eq_true]
 constructor
 ·rintro ⟨p,hp,h⟩;exact List.mem_map.mpr ⟨p,hp,Qt h⟩
 ·intro h
  obtain ⟨p,hp,rfl⟩:=List.mem_map.mp h
  exact ⟨p,hp,Qv rfl⟩
theorem p9 {κ:Type} [DecidableEq κ] {kvs:List (κ×V)} {k k':κ} {v:V}:k'∈(putK kvs k v).map (·.1)↔k'∈kvs.map (·.1)\/k'=k:=by
 cases e:valV kvs k with
 | none=>
  rw [L2.cP _ e,Qm,List.mem_append]
  simp
 | some u=>
  have ha:(kvs.any fun kv=>decide (kv.1=k))=true:=by rw [cA,e];rfl
  unfold putK
  rw [if_pos ha]
  have ee:(kvs.map fun kv=>if kv.1=k then (kv.1,v) else kv).map (·.1)=kvs.map (·.1):=by
   rw [Qn]
   refine List.map_congr_left fun q _=>?_
   show (if q.1=k then (q.1,v) else q).1=q.1
   split<;>rfl
  rw [ee]
  constructor
  ·exact .inl
  ·rintro (h | h)
   ·exact h
   ·rw [h];exact kJ e
theorem yM {κ:Type} [DecidableEq κ] (kvs:List (κ×V)) (k:κ) (v:V):(putK kvs k v).length<=kvs.length+1:=by
 unfold putK
 split<;>simp
theorem SqT.ofR {K:Q0} {H:Hp} {a:Addr} {xs:List V} (h:RdT H a xs):SqT K H a xs:=.inl h
theorem eqS {s z:Str} {A B:Prop} (ht:s=z->A) (hf:s≠z->B):if (false^^decide (V.str s=V.str z))=true then A else B:=by
 by_cases h:s=z
 ·rw [Qv (congrArg V.str h)];exact ht h
 ·rw [Qw fun e=>h (V.str.inj e)];exact hf h
theorem neS {s z:Str} {A B:Prop} (ht:s≠z->A) (hf:s=z->B):if (true^^decide (V.str s=V.str z))=true then A else B:=by
 by_cases h:s=z
 ·rw [Qv (congrArg V.str h)];exact hf h
 ·rw [Qw fun e=>h (V.str.inj e)];exact ht h
theorem eqI {s z:Int} {A B:Prop} (ht:s=z->A) (hf:s≠z->B):if (false^^decide (V.int s=V.int z))=true then A else B:=by
 by_cases h:s=z
 ·rw [Qv (congrArg V.int h)];exact ht h
 ·rw [Qw fun e=>h (V.int.inj e)];exact hf h
section
variable {X:Cx}
theorem yL (P:Program) (w:World) (hu:X.A.units+10 < cLine) (hP:X.prog=P:=by rfl) (hw:X.w=w:=by rfl):OpR X (compareOp .NotIn) (rInT P w true):=by subst hP hw;exact yY hu
theorem a0D (P:Program) (w:World) {o e:Expr} {to te:TE} {apos cpos:Pos} (hu:X.A.units+10 < cLine) (ho:SE X o to) (ha:SE X e te) (hP:X.prog=P:=by rfl) (hw:X.w=w:=by rfl)
  (hbase:attributeBase o "add" X.env (eval o X.env)=eval o X.env:=by rfl)
  (hfew:((backTo cpos (starEach [e] X.env)).all (fun x=> !x.1)&&(backToKw cpos (keywordEach [] X.env)).all (fun x=>x.1.isSome)
   &&decide ([e].length+([]:List Keyword).length+(if ([]:List Keyword).isEmpty then 0 else 1) < 30))=true:=by rfl)
  (hline:(apos.endLine==cpos.line)=true:=by rfl) (hs:starEach [e] X.env=(false,eval e X.env)::starEach [] X.env:=by rfl):
  SE X (.Call (.Attribute o "add" apos) [e] [] cpos) (tSAdd P w to te):=by subst hP hw;exact a1K hu ho ha hbase hfew hline hs
end
section
variable {X:Cx}
def rNeLs (K:Q0):R2:=fun x y H Q=>∃ a b xs,x=.ref a/\y=.ref b/\SqL K H a xs/\SqL K H b xs/\(∀ v∈xs,∃ c,v=.ref c)/\Q (.bl false) H
theorem zZ (K:Q0) (hu:X.A.units+20 < cLine) (hK:X.K=K:=by rfl):OpR X (compareOp .NotEq) (rNeLs K):=by
 subst hK
 intro pins s σ H x y v u Q I rx ry h
 obtain ⟨a,b,xs,rfl,rfl,h1,h2,hr,q⟩:=h
 cases rx
 cases ry
 obtain ⟨i1,r1,p1,_⟩:=I.list h1
 obtain ⟨i2,r2,p2,_⟩:=I.list h2
 have l1:=r1.length
 have l2:=r2.length
 have:=SeqAt.RcNeAt.lists (A:=X.A) (e:=fun _=>true) p1.isList p2.isList (by simp;omega) (by omega) (fun j g1 g2=>by
  have k1:j < xs.length:=by simp at g1;omega
  obtain ⟨c,hc⟩:=hr _ (Qj k1)
  obtain ⟨w1,e1,q1⟩:=r1.get (i:=j) (x:=xs[j]) (Qa k1)
  obtain ⟨w2,e2,q2⟩:=r2.get (i:=j) (x:=xs[j]) (Qa k1)
  have m1:i1.toArray[j]=w1:=by rw [Qa (by simpa using g1)] at e1;simpa using e1
  have m2:i2.toArray[j]=w2:=by rw [Qa (by simpa using g2)] at e2;simpa using e2
  rw [m1,m2]
  rw [hc] at q1 q2
  cases q1
  cases q2
  exact SeqAt.EqAt.same _)
 refine this _ _ _ _ ⟨.bl false,H,I,?_,q⟩
 simp [RelV]
end
theorem KsV.refs {H:Hp} {xs:List V} {kss:List (List Key)} (h:KsV H xs kss):∀ v∈xs,∃ c,v=.ref c:=fun v hv=>by
 obtain ⟨i,hi,rfl⟩:=Qi hv
 obtain ⟨b,e,_⟩:=h.2 i hi (by have:=h.1;omega)
 exact ⟨b,e⟩
theorem KsV.append {H:Hp} {xs ys:List V} {ks ls:List (List Key)} (h:KsV H xs ks) (h':KsV H ys ls):KsV H (xs++ys) (ks++ls):=by
 obtain ⟨hl,hh⟩:=h
 obtain ⟨hl',hh'⟩:=h'
 refine ⟨by simp [hl,hl'],fun i h1 h2=>?_⟩
 by_cases hlt:i < xs.length
 ·rw [Qe hlt,Qe (by omega)]
  exact hh i hlt (by omega)
 ·rw [Qf (by omega),Qf (by omega)]
  have:=hh' (i - xs.length) (by simp at h1;omega) (by simp at h2;omega)
  simpa [hl] using this
theorem KsV.sub {H:Hp} {xs:List V} {ks:List (List Key)} (h:KsV H xs ks) (i:Nat):KsV H (xs.take i) (ks.take i)/\KsV H (xs.drop i) (ks.drop i):=by
 obtain ⟨hl,hh⟩:=h
 refine ⟨⟨by simp [hl],fun j h1 h2=>?_⟩,⟨by simp [hl],fun j h1 h2=>?_⟩⟩
 ·rw [List.getElem_take,List.getElem_take];exact hh j (by simp at h1;omega) (by simp at h2;omega)
 ·rw [List.getElem_drop,List.getElem_drop];exact hh (i+j) (by simp at h1;omega) (by simp at h2;omega)
theorem KsV.rev {H:Hp} {xs:List V} {ks:List (List Key)} (h:KsV H xs ks):KsV H xs.reverse ks.reverse:=by
 obtain ⟨hl,hh⟩:=h
 refine ⟨by simp [hl],fun i h1 h2=>?_⟩
 rw [List.getElem_reverse,List.getElem_reverse]
 have:=hh (xs.length - 1 - i) (by simp at h1;omega) (by simp at h2;omega)
 simpa [hl] using this
def Gd2 (rows:List Rw2) (ns:List Str):Prop:=∃ H a xs ws,RT H a xs rows ns ws/\∀ z∈ws,Wd z
section
variable {rows:List Rw2} {ns:List Str}
theorem RT.gd2 {H:Hp} {a:Addr} {xs:List V} {ws:List Str} (rt:RT H a xs rows ns ws) (hw:∀ z∈ws,Wd z):Gd2 rows ns:=⟨H,a,xs,ws,rt,hw⟩
theorem Gd2.stay (g:Gd2 rows ns) {x:Str} (hx:x∈ns):EndN rows ns (endOf rows x):=let ⟨_,_,_,_,rt,hw⟩:=g;rt.stay hw hx
theorem Gd2.endRow (g:Gd2 rows ns) {e:Str} (h:EndN rows ns e):(e,hdOf rows e)∈nonAs rows/\(hdOf rows e).ok ns:=let ⟨_,_,_,_,rt,hw⟩:=g;rt.endRow hw h
theorem Gd2.mvAt (g:Gd2 rows ns) {e e':Str} {s:List Str} (h:EndN rows ns e) (m:L2.mvAt rows e s=some e'):EndN rows ns e':=let ⟨_,_,_,_,rt,hw⟩:=g;rt.mvAt hw h m
theorem Gd2.few (g:Gd2 rows ns):ns.length<=10:=let ⟨_,_,_,_,rt,hw⟩:=g;rt.few
theorem Gd2.ndn (g:Gd2 rows ns):((nonAs rows).map (·.1)).Nodup:=let ⟨_,_,_,_,rt,hw⟩:=g;rt.ndn
theorem Gd2.ndr (g:Gd2 rows ns):(rows.map (·.1)).Nodup:=let ⟨_,_,_,_,rt,hw⟩:=g;rt.ndr
theorem Gd2.nm (g:Gd2 rows ns) (x:Str):x∈rows.map (·.1)↔x∈ns:=let ⟨_,_,_,_,rt,hw⟩:=g;rt.nm.mem_iff
theorem Gd2.non (g:Gd2 rows ns) (x:Str):x∈(nonAs rows).map (·.1)↔EndN rows ns x:=by
 constructor
 ·intro h
  obtain ⟨r,hr,rfl⟩:=List.mem_map.mp h
  obtain ⟨h1,h2⟩:=List.mem_filter.mp hr
  refine ⟨(g.nm _).mp (List.mem_map.mpr ⟨r,h1,rfl⟩),d9 _ ?_⟩
  show (hdOf rows r.1).nx=none
  rw [cW g.ndr h1]
  simpa using h2
 ·intro h
  exact List.mem_map.mpr ⟨_,(g.endRow h).1,rfl⟩
end
def stH (h:Hd):List (List Str):=h.mvs.map (·.1)
def MkV (H:Hp) (b:Addr) (h:Hd):Prop:=∃ c us,H b=some (.tup [.str h.srt,.ref c])/\H c=some (.tup us)/\SV H us (stH h)
theorem MkV.same {H H':Hp} {b:Addr} {h:Hd} (m:MkV H b h) (s:Same H H'):MkV H' b h:=let ⟨c,us,e1,e2,e3⟩:=m;⟨c,us,s _ _ e1,s _ _ e2,e3.same s⟩
structure NetV (K:Q0) (mg:Str->Option Value) (H:Hp) (n:Addr) (rows:List Rw2) (ns:List Str):Prop where
 at_:∃ dx fs d1 d3 d4,H n=some (.ins (adr mg "Net") dx fs)/\fs.lookup ("rows":Str)=some (V.ref d1)/\fs.lookup ("marks":Str)=some (V.ref d3)/\fs.lookup ("moves":Str)=some (V.ref d4)/\
  (∀ x,x∈ns->DGet H d1 (.str x) (some (.str (endOf rows x))))/\
  (∀ e,EndN rows ns e->∃ b,DGet H d3 (.str e) (some (.ref b))/\MkV H b (hdOf rows e))/\(∀ e,¬EndN rows ns e->DGet H d3 (.str e) none)/\
  (∀ e,EndN rows ns e->∃ m o,DGet H d4 (.str e) (some (.ref m))/\H m=some (.frz o (.dT (onE rows e))))
theorem NetV.same {K:Q0} {mg:Str->Option Value} {H H':Hp} {n:Addr} {rows:List Rw2} {ns:List Str} (h:NetV K mg H n rows ns) (s:Same H H'):NetV K mg H' n rows ns:=by
 obtain ⟨dx,fs,d1,d3,d4,h0,h1,h2,h3,h4,h5,h6,h7⟩:=h.at_
 exact ⟨dx,fs,d1,d3,d4,s _ _ h0,h1,h2,h3,fun x hx=>(h4 x hx).same s,fun e he=>let ⟨b,q1,q2⟩:=h5 e he;⟨b,q1.same s,q2.same s⟩,fun e he=>(h6 e he).same s,fun e he=>let ⟨m,o,q1,q2⟩:=h7 e he;⟨m,o,q1.same s,s _ _ q2⟩⟩
theorem NetAt.netV {K:Q0} {mg:Str->Option Value} {H:Hp} {n:Addr} {rows:List Rw2} {ns:List Str} (h:NetAt H (adr mg "Net") n rows) (g:Gd2 rows ns):NetV K mg H n rows ns:=by
 obtain ⟨dx,fs,en,⟨⟨d1,o1,a1,a2⟩,_,⟨d3,o3,k3,c1,c2,c3⟩,⟨d4,o4,k4,e1,e2,e3⟩⟩⟩:=h
 refine ⟨dx,fs,d1,d3,d4,en,a1,c1,e1,fun x hx=>?_,fun e he=>?_,fun e he=>?_,fun e he=>?_⟩
 ·rw [<- mK g.ndr ((g.nm x).mpr hx)]
  exact DGet.rd (k:=Sum.inr x) (.inr ⟨o1,a2⟩)
 ·obtain ⟨v,h1,b,c,us,rfl,h2,h3,h4⟩:=c3.get g.ndn (g.endRow he).1
  exact ⟨b,by rw [<- h1];exact DGet.rd (k:=Sum.inr e) (.inr ⟨o3,c2⟩),c,us,h2,h3,h4⟩
 ·have hn:valV k3 (.inr e)=none:=by
   cases hv:valV k3 (.inr e) with
   | none=>rfl
   | some u=>
    have:=kJ hv
    rw [c3.keys] at this
    obtain ⟨r,hr,e'⟩:=List.mem_map.mp this
    exact absurd ((g.non e).mp (List.mem_map.mpr ⟨r,hr,Sum.inr.inj e'⟩)) he
  rw [<- hn]
  exact DGet.rd (k:=Sum.inr e) (.inr ⟨o3,c2⟩)
 ·obtain ⟨v,h1,m,o,rfl,h2⟩:=e3.get g.ndn (g.endRow he).1
  refine ⟨m,o,by rw [<- h1];exact DGet.rd (k:=Sum.inr e) (.inr ⟨o4,e2⟩),?_⟩
  rw [uR he.2] at h2
  exact h2
theorem jQ {rows:List Rw2} {e:Str} {s:List Str} (he:endOf rows e=e) (hs:s∈stH (hdOf rows e)):∃ e',mvAt rows e s=some e':=by
 unfold mvAt onOf
 rw [he]
 obtain ⟨m,hm,rfl⟩:=List.mem_map.mp hs
 cases hf:List.find? (fun m':List Str×Str=>decide (m'.1=m.1)) ((hdOf rows e).mvs.map fun m=>(m.1,endOf rows m.2)) with
 | some q=>exact ⟨q.2,rfl⟩
 | none=>
  have:=List.find?_eq_none.mp hf (m.1,endOf rows m.2) (List.mem_map.mpr ⟨m,hm,rfl⟩)
  simp at this
theorem tS {rows:List Rw2} {e:Str} (he:endOf rows e=e):(onOf rows e).map (·.1)=stH (hdOf rows e):=by unfold onOf stH;rw [he];simp [Qn,QB]
theorem xW {rows:List Rw2} {e:Str} (nd:((onOf rows e).map (·.1)).Nodup) {m:List Str×Str} (hm:m∈onOf rows e):mvAt rows e m.1=some m.2:=by
 unfold mvAt
 cases hf:(onOf rows e).find? (fun m'=>decide (m'.1=m.1)) with
 | none=>
  have:=List.find?_eq_none.mp hf m hm
  simp at this
 | some q=>
  have h1:=List.mem_of_find?_eq_some hf
  have h2:q.1=m.1:=by simpa using List.find?_some hf
  have h3:(m.1,q.2)∈onOf rows e:=by rw [<- h2];exact h1
  exact congrArg some (zA nd h3 (show (m.1,m.2)∈onOf rows e from hm))
theorem Gd2.onNd {rows:List Rw2} {ns:List Str} (g:Gd2 rows ns) {e:Str} (he:EndN rows ns e):((onOf rows e).map (·.1)).Nodup:=by
 rw [tS he.2];exact xT (g.endRow he).2
theorem i5 {α:Type} [DecidableEq α]:∀ {l m:List α},l.Nodup->(∀ x∈l,x∈m)->l.length<=m.length
 | [],m,_,_=>Nat.zero_le _
 | a::l,m,nd,h=>by
  have ha:=h a List.mem_cons_self
  have h1:=i5 (l:=l) (m:=m.erase a) (List.nodup_cons.mp nd).2 fun x hx=>(List.mem_erase_of_ne (show x≠a from fun z=>(List.nodup_cons.mp nd).1 (by rw [<- z];exact hx))).mpr (h x (Qh _ hx))
  rw [List.length_erase_of_mem ha] at h1
  have hp:=List.length_pos_of_mem ha
  rw [List.length_cons]
  omega
theorem mZ {α:Type} (f:α->Nat) (c:Nat):∀ l:List α,(∀ x∈l,f x=c)->(l.map f).sum=l.length*c
 | [],_=>by simp
 | a::l,h=>by
  rw [List.map_cons,List.sum_cons,mZ f c l fun x hx=>h x (Qh _ hx),h a List.mem_cons_self,List.length_cons,Nat.add_mul]
  omega
theorem SV.rev {H:Hp} {xs:List V} {ss:List (List Str)} (h:SV H xs ss):SV H xs.reverse ss.reverse:=by
 have hl:=h.len
 refine ⟨by simp [hl],fun i h1 h2=>?_⟩
 rw [List.getElem_reverse,List.getElem_reverse]
 have:=h.at_ (xs.length - 1 - i) (by simp at h1;omega) (by simp at h2;omega)
 simpa [hl] using this
def rdB (tr:List (Option (Nat×List Str))):Nat->Nat->List (List Str)
 | 0,_=>[]
 | n+1,i=>match tr[i]? with
  | some (some (j,s))=>rdB tr n j++[s]
  | _=>[]
def TrOk (tr:List (Option (Nat×List Str))):Prop:=∀ (k j:Nat) (s:List Str),tr[k]? =some (some (j,s))->j < k
def TrE (H:Hp) (v:V):Option (Nat×List Str)->Prop
 | none=>v=.non
 | some q=>∃ b c,v=.ref b/\H b=some (.tup [.int (q.1:Int),.ref c])/\RdT H c (q.2.map V.str)
structure TrV (H:Hp) (vs:List V) (tr:List (Option (Nat×List Str))):Prop where
 len:vs.length=tr.length
 at_:∀ i (h:i < vs.length) (h':i < tr.length),TrE H vs[i] tr[i]
theorem TrE.keep {H H':Hp} {v:V} {o:Option (Nat×List Str)} (h:TrE H v o) (s:Tk H H') (s2:∀ b ys,RdT H b ys->RdT H' b ys):TrE H' v o:=by
 cases o with
 | none=>exact h
 | some q=>
  obtain ⟨t,b,h1,h2,h3⟩:=h
  exact ⟨t,b,h1,s _ _ h2,s2 _ _ h3⟩
theorem TrV.keep {H H':Hp} {vs:List V} {tr:List (Option (Nat×List Str))} (h:TrV H vs tr) (s:Tk H H') (s2:∀ b ys,RdT H b ys->RdT H' b ys):TrV H' vs tr:=⟨h.len,fun i a b=>(h.at_ i a b).keep s s2⟩
theorem TrV.same {H H':Hp} {vs:List V} {tr:List (Option (Nat×List Str))} (h:TrV H vs tr) (s:Same H H'):TrV H' vs tr:=h.keep s.ts fun b ys r=>r.same s
theorem TrV.snoc {H:Hp} {vs:List V} {tr:List (Option (Nat×List Str))} (h:TrV H vs tr) {v:V} {o:Option (Nat×List Str)} (e:TrE H v o):TrV H (vs++[v]) (tr++[o]):=by
 have hl:=h.len
 refine ⟨by simp [hl],fun i h1 h2=>?_⟩
 by_cases hlt:i < vs.length
 ·rw [Qe hlt,Qe (by omega)]
  exact h.at_ i hlt (by omega)
 ·have e':i=vs.length:=by simp at h1;omega
  subst e'
  rw [Qf (Qy _),Qf (by omega)]
  simp only [Nat.sub_self,hl,List.getElem_cons_zero]
  exact e
theorem KsV.keep {H H':Hp} {xs:List V} {kss:List (List Key)} (h:KsV H xs kss) (s:∀ b ys,RdT H b ys->RdT H' b ys):KsV H' xs kss:=⟨h.1,fun i a b=>let ⟨c,e1,e2⟩:=h.2 i a b;⟨c,e1,s _ _ e2⟩⟩
end L2
set_option autoImplicit false
set_option maxRecDepth 100000
namespace L2
open PySem PySem.Spec PyProof.Rows
inductive Tv where
 | s (z:Str)
 | i (n:Int)
 | t (l:List Tv)
def TD (H:Hp):Nat->V->Tv->Prop
 | _,.str z,.s z'=>z=z'
 | _,.int k,.i j=>k=j
 | n+1,.ref a,.t ds=>∃ xs,RdT H a xs/\xs.length=ds.length/\∀ j (h:j < xs.length) (h':j < ds.length),TD H n xs[j] ds[j]
 | _,_,_=>False
structure TDs (H:Hp) (n:Nat) (xs:List V) (ds:List Tv):Prop where
 len:xs.length=ds.length
 at_:∀ j (h:j < xs.length) (h':j < ds.length),TD H n xs[j] ds[j]
section
variable {H H':Hp}
theorem TD.str {n:Nat} {z:Str}:TD H n (.str z) (.s z):=by cases n<;>rfl
theorem TD.int {n:Nat} {z:Int}:TD H n (.int z) (.i z):=by cases n<;>rfl
theorem TD.tup {n:Nat} {a:Addr} {xs:List V} {ds:List Tv} (h:RdT H a xs) (t:TDs H n xs ds):TD H (n+1) (.ref a) (.t ds):=⟨xs,h,t.len,t.at_⟩
theorem TDs.nil {n:Nat}:TDs H n [] []:=⟨rfl,fun i h=>absurd h (by simp)⟩
theorem TDs.cons {n:Nat} {x:V} {d:Tv} {xs:List V} {ds:List Tv} (h:TD H n x d) (t:TDs H n xs ds):TDs H n (x::xs) (d::ds):=⟨by simp [t.len],fun i h1 h2=>by
 cases i with
 | zero=>exact h
 | succ i=>exact t.at_ i (by simpa using h1) (by simpa using h2)⟩
theorem TD.tupE {n:Nat} {a:Addr} {d:Tv} (h:TD H n (.ref a) d):∃ m ds xs,n=m+1/\d=.t ds/\RdT H a xs/\TDs H m xs ds:=by
 cases n with
 | zero=>cases d<;>exact h.elim
 | succ n=>
  cases d with
  | t ds=>obtain ⟨xs,h1,h2,h3⟩:=h;exact ⟨n,ds,xs,rfl,rfl,h1,h2,h3⟩
  | _=>exact h.elim
theorem TD.strE {n:Nat} {z:Str} {d:Tv} (h:TD H n (.str z) d):d=.s z:=by
 cases n<;>(cases d with
  | s z'=>exact congrArg Tv.s (show z=z' from h).symm
  | _=>exact h.elim)
theorem TD.intE {n:Nat} {z:Int} {d:Tv} (h:TD H n (.int z) d):d=.i z:=by
 cases n<;>(cases d with
  | i z'=>exact congrArg Tv.i (show z=z' from h).symm
  | _=>exact h.elim)
theorem TD.v {n:Nat} {v:V} {d:Tv} (h:TD H n v d):(∃ z,v=.str z)\/(∃ z,v=.int z)\/∃ a,v=.ref a:=by
 cases n<;>(cases v<;>first | exact .inl ⟨_,rfl⟩ | exact .inr (.inl ⟨_,rfl⟩) | exact .inr (.inr ⟨_,rfl⟩) | (cases d<;>exact h.elim))
theorem TD.det:∀ {n m:Nat} {v:V} {d e:Tv},TD H n v d->TD H m v e->d=e
 | 0,m,v,d,e,h,h'=>by
  rcases h.v with ⟨z,rfl⟩ | ⟨z,rfl⟩ | ⟨a,rfl⟩
  ·rw [h.strE,h'.strE]
  ·rw [h.intE,h'.intE]
  ·obtain ⟨_,_,_,z,_⟩:=h.tupE;cases z
 | n+1,m,v,d,e,h,h'=>by
  rcases h.v with ⟨z,rfl⟩ | ⟨z,rfl⟩ | ⟨a,rfl⟩
  ·rw [h.strE,h'.strE]
  ·rw [h.intE,h'.intE]
  ·obtain ⟨m1,ds,xs,e1,rfl,r1,t1⟩:=h.tupE
   obtain ⟨m2,es,ys,e2,rfl,r2,t2⟩:=h'.tupE
   cases e1
   have:=r1.inj r2
   subst this
   have l1:=t1.len
   have l2:=t2.len
   congr 1
   refine List.ext_getElem (by omega) fun i h1 h2=>?_
   exact TD.det (t1.at_ i (by omega) h1) (t2.at_ i (by omega) h2)
end
section
variable {X:Cx} {pins:List (Addr×Obj)} {σ:St} {H:Hp} {s:Shared}
theorem gU {ds es:List Tv} {e:Nat->Bool} (hl:ds.length=es.length) (h:∀ j (h1:j < ds.length) (h2:j < es.length),e j=true↔ds[j]=es[j]):(List.range ds.length).all e=true↔ds=es:=by
 rw [List.all_eq_true]
 constructor
 ·intro ha
  exact List.ext_getElem hl fun i h1 h2=>(h i h1 h2).mp (ha i (List.mem_range.mpr h1))
 ·rintro rfl j hj
  have:=List.mem_range.mp hj
  exact (h j this this).mpr rfl
theorem TD.eqAt (I:Inv X pins σ H s):∀ {n:Nat} {m:Nat} {x y:V} {d e:Tv},TD H n x d->TD H m y e->∃ bo:Bool,(bo=true↔d=e)/\∀ (A:Around) (u v:Value),A.units+n < cLine->RelV x u->RelV y v->SeqAt.EqAt A s u v bo:=by
 intro n
 induction n with
 | zero=>
  intro m x y d e h h'
  rcases h.v with ⟨z,rfl⟩ | ⟨z,rfl⟩ | ⟨a,rfl⟩
  ·obtain rfl:=h.strE
   rcases h'.v with ⟨z',rfl⟩ | ⟨z',rfl⟩ | ⟨b,rfl⟩
   ·obtain rfl:=h'.strE
    exact ⟨z==z',by simp,fun A u v hu ru rv=>by obtain ⟨t,rfl⟩:=ru;obtain ⟨t',rfl⟩:=rv;exact SeqAt.EqAt.str_str z t z' t'⟩
   ·obtain rfl:=h'.intE
    exact ⟨false,by simp,fun A u v hu ru rv=>by obtain ⟨t,rfl⟩:=ru;obtain ⟨t',rfl⟩:=rv;exact SeqAt.EqAt.str_int z t z' t'⟩
   ·obtain ⟨_,ds,xs,rfl,rfl,r1,_⟩:=h'.tupE
    refine ⟨false,by simp,fun A u v hu ru rv=>?_⟩
    obtain ⟨t,rfl⟩:=ru
    cases rv
    obtain ⟨i1,_,p1,_⟩:=I.tuple (SqT.ofR r1)
    exact SeqAt.EqAt.str_tuple z t p1 (by omega)
  ·obtain rfl:=h.intE
   rcases h'.v with ⟨z',rfl⟩ | ⟨z',rfl⟩ | ⟨b,rfl⟩
   ·obtain rfl:=h'.strE
    exact ⟨false,by simp,fun A u v hu ru rv=>by obtain ⟨t,rfl⟩:=ru;obtain ⟨t',rfl⟩:=rv;exact SeqAt.EqAt.int_str z t z' t'⟩
   ·obtain rfl:=h'.intE
    exact ⟨z==z',by simp,fun A u v hu ru rv=>by obtain ⟨t,rfl⟩:=ru;obtain ⟨t',rfl⟩:=rv;exact SeqAt.EqAt.int_int z t z' t'⟩
   ·obtain ⟨_,ds,xs,rfl,rfl,r1,_⟩:=h'.tupE
    refine ⟨false,by simp,fun A u v hu ru rv=>?_⟩
    obtain ⟨t,rfl⟩:=ru
    cases rv
    obtain ⟨i1,_,p1,_⟩:=I.tuple (SqT.ofR r1)
    exact SeqAt.EqAt.int_tuple z t p1 (by omega)
  ·obtain ⟨_,_,_,z,_⟩:=h.tupE;cases z
 | succ n ih=>
  intro m x y d e h h'
  rcases h.v with ⟨z,rfl⟩ | ⟨z,rfl⟩ | ⟨a,rfl⟩
  ·obtain ⟨bo,h1,h2⟩:=ih (m:=m) (TD.str (n:=n) (z:=z)) h'
   rw [h.strE]
   exact ⟨bo,h1,fun A u v hu=>h2 A u v (by omega)⟩
  ·obtain ⟨bo,h1,h2⟩:=ih (m:=m) (TD.int (n:=n) (z:=z)) h'
   rw [h.intE]
   exact ⟨bo,h1,fun A u v hu=>h2 A u v (by omega)⟩
  ·obtain ⟨n',ds,xs,e1,rfl,r1,t1⟩:=h.tupE
   cases e1
   rcases h'.v with ⟨z',rfl⟩ | ⟨z',rfl⟩ | ⟨b,rfl⟩
   ·obtain rfl:=h'.strE
    refine ⟨false,by simp,fun A u v hu ru rv=>?_⟩
    obtain ⟨t,rfl⟩:=rv
    cases ru
    obtain ⟨i1,_,p1,_⟩:=I.tuple (SqT.ofR r1)
    exact SeqAt.EqAt.tuple_str z' t p1 (by omega)
   ·obtain rfl:=h'.intE
    refine ⟨false,by simp,fun A u v hu ru rv=>?_⟩
    obtain ⟨t,rfl⟩:=rv
    cases ru
    obtain ⟨i1,_,p1,_⟩:=I.tuple (SqT.ofR r1)
    exact SeqAt.EqAt.tuple_int z' t p1 (by omega)
   ·obtain ⟨m',es,ys,rfl,rfl,r2,t2⟩:=h'.tupE
    by_cases hab:a=b
    ·subst hab
     refine ⟨true,⟨fun _=>TD.det h h',fun _=>rfl⟩,fun A u v hu ru rv=>?_⟩
     cases ru
     cases rv
     exact SeqAt.EqAt.same _
    ·obtain ⟨i1,v1,p1,_⟩:=I.tuple (SqT.ofR r1)
     obtain ⟨i2,v2,p2,_⟩:=I.tuple (SqT.ofR r2)
     have l1:=v1.length
     have l2:=v2.length
     have k1:=t1.len
     have k2:=t2.len
     have hc:∀ j:Nat,∃ bo:Bool,∀ (h1:j < ds.length) (h2:j < es.length),(bo=true↔ds[j]=es[j])/\∀ (A:Around) (u v:Value),A.units+n < cLine->RelV (xs[j]'(by omega)) u->RelV (ys[j]'(by omega)) v->SeqAt.EqAt A s u v bo:=fun j=>by
      by_cases hj:j < ds.length/\j < es.length
      ·obtain ⟨bo,q1,q2⟩:=ih (t1.at_ j (by omega) hj.1) (t2.at_ j (by omega) hj.2)
       exact ⟨bo,fun _ _=>⟨q1,q2⟩⟩
      ·exact ⟨false,fun h1 h2=>absurd ⟨h1,h2⟩ hj⟩
     obtain ⟨ev,hev⟩:=Classical.axiomOfChoice hc
     refine ⟨(List.range (min i1.toArray.size i2.toArray.size)).all ev&&i1.toArray.size==i2.toArray.size,?_,fun A u v hu ru rv=>?_⟩
     ·have s1:i1.toArray.size=ds.length:=by simp;omega
      have s2:i2.toArray.size=es.length:=by simp;omega
      rw [s1,s2,Bool.and_eq_true]
      constructor
      ·rintro ⟨q1,q2⟩
       have hl:ds.length=es.length:=by simpa using q2
       rw [<- hl,Nat.min_self] at q1
       exact congrArg Tv.t ((gU hl fun j h1 h2=>(hev j h1 h2).1).mp q1)
      ·intro q
       have hq:ds=es:=by injection q
       have hl:ds.length=es.length:=by rw [hq]
       refine ⟨?_,by simp [hl]⟩
       rw [<- hl,Nat.min_self]
       exact (gU hl fun j h1 h2=>(hev j h1 h2).1).mpr hq
     ·cases ru
      cases rv
      refine SeqAt.EqAt.of_refs hab (SeqAt.RcAt.tuples (A:=A) (e:=ev) p1 p2 (by omega) fun j g1 g2=>?_)
      have j1:j < ds.length:=by simp at g1;omega
      have j2:j < es.length:=by simp at g2;omega
      obtain ⟨w1,f1,q1⟩:=v1.get (Qa (show j < xs.length by omega))
      obtain ⟨w2,f2,q2⟩:=v2.get (Qa (show j < ys.length by omega))
      have n1:i1.toArray[j]=w1:=by rw [Qa (by simpa using g1)] at f1;simpa using f1
      have n2:i2.toArray[j]=w2:=by rw [Qa (by simpa using g2)] at f2;simpa using f2
      rw [n1,n2]
      exact (hev j j1 j2).2 A.in1 w1 w2 (by rw [Around.in1_units];omega) q1 q2
theorem TDs.eqs (I:Inv X pins σ H s) {n m:Nat} {xs ys:List V} {ds es:List Tv} (t1:TDs H n xs ds) (t2:TDs H m ys es):∃ ev:Nat->Bool,(∀ j (h1:j < ds.length) (h2:j < es.length),ev j=true↔ds[j]=es[j])/\∀ (i1 i2:List Value),Vals xs i1->Vals ys i2->∀ (A:Around),A.units+n+1 < cLine->∀ (j:Nat) (h1:j < i1.toArray.size) (h2:j < i2.toArray.size),SeqAt.EqAt A.in1 s i1.toArray[j] i2.toArray[j] (ev j):=by
 have k1:=t1.len
 have k2:=t2.len
 have hc:∀ j:Nat,∃ bo:Bool,∀ (h1:j < ds.length) (h2:j < es.length),(bo=true↔ds[j]=es[j])/\∀ (A:Around) (u v:Value),A.units+n < cLine->RelV (xs[j]'(by omega)) u->RelV (ys[j]'(by omega)) v->SeqAt.EqAt A s u v bo:=fun j=>by
  by_cases hj:j < ds.length/\j < es.length
  ·obtain ⟨bo,q1,q2⟩:=TD.eqAt I (t1.at_ j (by omega) hj.1) (t2.at_ j (by omega) hj.2)
   exact ⟨bo,fun _ _=>⟨q1,q2⟩⟩
  ·exact ⟨false,fun h1 h2=>absurd ⟨h1,h2⟩ hj⟩
 obtain ⟨ev,hev⟩:=Classical.axiomOfChoice hc
 refine ⟨ev,fun j h1 h2=>(hev j h1 h2).1,fun i1 i2 v1 v2 A hu j g1 g2=>?_⟩
 have l1:=v1.length
 have l2:=v2.length
 have j1:j < ds.length:=by simp at g1;omega
 have j2:j < es.length:=by simp at g2;omega
 obtain ⟨w1,f1,q1⟩:=v1.get (Qa (show j < xs.length by omega))
 obtain ⟨w2,f2,q2⟩:=v2.get (Qa (show j < ys.length by omega))
 have n1:i1.toArray[j]=w1:=by rw [Qa (by simpa using g1)] at f1;simpa using f1
 have n2:i2.toArray[j]=w2:=by rw [Qa (by simpa using g2)] at f2;simpa using f2
 rw [n1,n2]
 exact (hev j j1 j2).2 A.in1 w1 w2 (by rw [Around.in1_units];omega) q1 q2
def rEqTv (ng:Bool):R2:=fun x y H Q=>∃ n m d e a b,n<=60/\x=.ref a/\y=.ref b/\TD H n x d/\TD H m y e/\∀ bo:Bool,(bo=true↔d=e)->Q (.bl (ng^^bo)) H
theorem wB {ds es:List Tv} {s1 s2:Nat} {ev:Nat->Bool} (h1:s1=ds.length) (h2:s2=es.length) (hev:∀ j (h1:j < ds.length) (h2:j < es.length),ev j=true↔ds[j]=es[j]):((List.range (min s1 s2)).all ev&&s1==s2)=true↔Tv.t ds=.t es:=by
 subst h1 h2
 rw [Bool.and_eq_true]
 constructor
 ·rintro ⟨q1,q2⟩
  have hl:ds.length=es.length:=by simpa using q2
  rw [<- hl,Nat.min_self] at q1
  exact congrArg Tv.t ((gU hl hev).mp q1)
 ·intro q
  have hq:ds=es:=by injection q
  have hl:ds.length=es.length:=by rw [hq]
  refine ⟨?_,by simp [hl]⟩
  rw [<- hl,Nat.min_self]
  exact (gU hl hev).mpr hq
theorem zW (hu:X.A.units+100 < cLine):OpR X (compareOp .Eq) (rEqTv false):=by
 intro pins s σ H x y v u Q I rx ry h
 obtain ⟨n,m,d,e,a,b,hn,rfl,rfl,h1,h2,q⟩:=h
 cases rx
 cases ry
 obtain ⟨n',ds,xs,rfl,rfl,r1,t1⟩:=h1.tupE
 obtain ⟨m',es,ys,rfl,rfl,r2,t2⟩:=h2.tupE
 obtain ⟨i1,v1,p1,_⟩:=I.tuple (SqT.ofR r1)
 obtain ⟨i2,v2,p2,_⟩:=I.tuple (SqT.ofR r2)
 have l1:=v1.length
 have l2:=v2.length
 have k1:=t1.len
 have k2:=t2.len
 obtain ⟨ev,e1,e2⟩:=TDs.eqs I t1 t2
 refine SeqAt.RcAt.tuples (A:=X.A) (e:=ev) p1 p2 (by omega) (e2 i1 i2 v1 v2 X.A (by omega)) _ _ _ _ ?_
 refine ⟨.bl _,H,I,rfl,?_⟩
 have:=q _ (wB (s1:=i1.toArray.size) (s2:=i2.toArray.size) (by simp;omega) (by simp;omega) e1)
 rw [QE] at this
 exact this
theorem tI (hu:X.A.units+100 < cLine):OpR X (compareOp .NotEq) (rEqTv true):=by
 intro pins s σ H x y v u Q I rx ry h
 obtain ⟨n,m,d,e,a,b,hn,rfl,rfl,h1,h2,q⟩:=h
 cases rx
 cases ry
 obtain ⟨n',ds,xs,rfl,rfl,r1,t1⟩:=h1.tupE
 obtain ⟨m',es,ys,rfl,rfl,r2,t2⟩:=h2.tupE
 obtain ⟨i1,v1,p1,_⟩:=I.tuple (SqT.ofR r1)
 obtain ⟨i2,v2,p2,_⟩:=I.tuple (SqT.ofR r2)
 have l1:=v1.length
 have l2:=v2.length
 have k1:=t1.len
 have k2:=t2.len
 obtain ⟨ev,e1,e2⟩:=TDs.eqs I t1 t2
 refine SeqAt.RcNeAt.tuples (A:=X.A) (e:=ev) p1 p2 (by omega) (e2 i1 i2 v1 v2 X.A (by omega)) _ _ _ _ ?_
 refine ⟨.bl _,H,I,rfl,?_⟩
 have:=q _ (wB (s1:=i1.toArray.size) (s2:=i2.toArray.size) (by simp;omega) (by simp;omega) e1)
 rw [Bool.true_xor] at this
 exact this
def rEqLv (K:Q0) (ng:Bool):R2:=fun x y H Q=>∃ n m a b xs ys ds es,n<=60/\x=.ref a/\y=.ref b/\SqL K H a xs/\SqL K H b ys/\TDs H n xs ds/\TDs H m ys es/\∀ bo:Bool,(bo=true↔ds=es)->Q (.bl (ng^^bo)) H
theorem a05 (K:Q0) (hu:X.A.units+100 < cLine) (hK:X.K=K:=by rfl):OpR X (compareOp .Eq) (rEqLv K false):=by
 subst hK
 intro pins s σ H x y v u Q I rx ry h
 obtain ⟨n,m,a,b,xs,ys,ds,es,hn,rfl,rfl,h1,h2,t1,t2,q⟩:=h
 cases rx
 cases ry
 obtain ⟨i1,v1,p1,_⟩:=I.list h1
 obtain ⟨i2,v2,p2,_⟩:=I.list h2
 have l1:=v1.length
 have l2:=v2.length
 have k1:=t1.len
 have k2:=t2.len
 obtain ⟨ev,e1,e2⟩:=TDs.eqs I t1 t2
 have hs1:i1.toArray.size=ds.length:=by simp;omega
 have hs2:i2.toArray.size=es.length:=by simp;omega
 by_cases hl:ds.length=es.length
 ·refine SeqAt.RcAt.lists (A:=X.A) (e:=ev) p1.isList p2.isList (by omega) (by omega) (e2 i1 i2 v1 v2 X.A (by omega)) _ _ _ _ ?_
  rw [hs1]
  exact ⟨.bl _,H,I,rfl,by have:=q _ (gU hl e1);rw [QE] at this;exact this⟩
 ·refine SeqAt.RcAt.lists_lengths (A:=X.A) p1.isList p2.isList (by rw [hs1,hs2];simpa using hl) (by omega) _ _ _ _ ?_
  exact ⟨.bl _,H,I,rfl,by have:=q false ⟨(fun z=>nomatch z),fun z=>absurd (congrArg List.length z) hl⟩;rw [QE] at this;exact this⟩
theorem a01 (K:Q0) (hu:X.A.units+100 < cLine) (hK:X.K=K:=by rfl):OpR X (compareOp .NotEq) (rEqLv K true):=by
 subst hK
 intro pins s σ H x y v u Q I rx ry h
 obtain ⟨n,m,a,b,xs,ys,ds,es,hn,rfl,rfl,h1,h2,t1,t2,q⟩:=h
 cases rx
 cases ry
 obtain ⟨i1,v1,p1,_⟩:=I.list h1
 obtain ⟨i2,v2,p2,_⟩:=I.list h2
 have l1:=v1.length
 have l2:=v2.length
 have k1:=t1.len
 have k2:=t2.len
 obtain ⟨ev,e1,e2⟩:=TDs.eqs I t1 t2
 have hs1:i1.toArray.size=ds.length:=by simp;omega
 have hs2:i2.toArray.size=es.length:=by simp;omega
 by_cases hl:ds.length=es.length
 ·refine SeqAt.RcNeAt.lists (A:=X.A) (e:=ev) p1.isList p2.isList (by omega) (by omega) (e2 i1 i2 v1 v2 X.A (by omega)) _ _ _ _ ?_
  rw [hs1]
  exact ⟨.bl _,H,I,rfl,by have:=q _ (gU hl e1);rw [Bool.true_xor] at this;exact this⟩
 ·refine SeqAt.RcNeAt.lists_lengths (A:=X.A) p1.isList p2.isList (by rw [hs1,hs2];simpa using hl) (by omega) _ _ _ _ ?_
  exact ⟨.bl _,H,I,rfl,by have:=q false ⟨(fun z=>nomatch z),fun z=>absurd (congrArg List.length z) hl⟩;rw [Bool.true_xor] at this;exact this⟩
end
end L2
set_option autoImplicit false
set_option maxRecDepth 100000
namespace L2
open PySem PySem.Spec PyProof.Rows
theorem a11 {K:Q0} {cd:Value} {q:Str} (h:PySem.W.codeIn K cd q=true):PySem.W.kdsCode K cd=true:=by
 unfold PySem.W.codeIn at h
 unfold PySem.W.kdsCode
 split at h
 ·split at h
  ·rename_i hl;simp only [hl]
  ·cases h
 ·cases h
theorem FnT.okSC {P:Program} {w:World} {K:Q0} {mg:Str->Option Value} {base:Heap} {x:Str} {st:Stmt} {N ps:List Str} {k:Nat} {sp:Sp} (F:FnT K mg x st ps) (S:FnScope N ps (defScope st)) (len:∀ vs H Q E,sp vs H Q E->vs.length=ps.length)
  (hbody:∀ (f:Addr) (cdv:Value),PySem.W.kdsCode K cdv=true->∀ (A:Around) (outer:List Env) (s:Shared) (H:Hp) (vs:List V) (Q:VK) (E:XK),Room k (A.deeper (envOfC x (defScope st) s.heap.objs.size f cdv))->sp vs H Q E->
   ∃ t,SB (cxOf CX0 P w K mg base N x (defScope st) f cdv A outer s H E).nox (defBody st) t/\t {nx:=fun _ H'=>Q .non H',rt:=Q} (start N vs) H):FnK P w K mg base (k+1) x ps sp:=by
 obtain ⟨f,fd,Fu,m,b⟩:=F
 obtain ⟨oc,od,kV,doc,pm,an,cdv,ct,osl,rfl,lk,hcd⟩:=Fu.ex
 refine ⟨f,_,a0Z lk hcd S len fun A outer s H vs Q E hr hsp=>?_,m,Fu.kp,b,⟨oc,od,osl,lk⟩⟩
 obtain ⟨t,h,q⟩:=hbody f cdv (a11 hcd) A outer s H vs Q E hr hsp
 exact ⟨t,h.h.nox,q⟩
section
variable {X:Cx} {e:Expr} {te:TE} {pos:Pos}
theorem zH:SE X (.Dict [] [] pos) tDNewT:=⟨yD⟩
def tSet1 (P:Program) (w:World) (te:TE):TE:=fun σ H Q=>∀ S,H S=none->te σ (upd H S (stO P w S [])) fun x H1=>∃ b ks,x=.ref b/\RdT H1 b (ks.map kV)/\H1 S=some (stO P w S [])/\Q (.ref S) (upd H1 S (stO P w S [(ks,b)]))
theorem a1d (P:Program) (w:World) (hu:X.A.units+10 < cLine) (hk:PySem.W.kdsCode X.K X.env.code=true) (he:SE X e te) (hP:X.prog=P:=by rfl) (hw:X.w=w:=by rfl) (hs:starEach [e] X.env=[(false,eval e X.env)]:=by rfl):SE X (.Set [e] 0 pos) (tSet1 P w te):=by
 subst hP hw
 constructor
 intro pins s σ H Q I q
 rw [arm_eval_Set]
 refine QT (wpAny_standAt (QT (PySem.W.kds_main I.kIn hk fun b=>?_)))
 refine PySem.W.kds_core (by rfl) (by rw [hs];rfl) (by rw [hs];simp) rfl fun led=>?_
 rw [hs]
 have hn:=I.hok.fresh (Qy s.heap.objs.size)
 have I1:=I.laid (a:=s.heap.objs.size) (o:=stO X.prog X.w s.heap.objs.size []) (h':=s.heap.push {cls:=Value.type "set",data:=Data.set #[] 0 (SetTable.fresh 0 0 led)}) (t':=s.toks) (fun _ _ q=>Qc _ q) (Qy _) (StAt.okE (wH (Qd _ rfl)))
 show wpAny _ _ (evalAll [(do let v <- eval e X.env;standAt pos;pure v)]) _ _ _
 refine wpAny_evalAll_cons (QT (thn (he.h pins _ σ _ _ I1 (q _ hn)) fun u s1 ⟨x,H1,J1,r1,b',ks,ex,rd,hS,q1⟩=>QT (wpAny_standAt (QU (wpAny_evalAll_nil ?_)))))
 subst ex
 cases r1
 have hS':StAt X.prog X.w H1 s.heap.objs.size []:=⟨hS,fun p hp=>nomatch hp⟩
 obtain ⟨h1,h2⟩:=hS'.real J1
 refine PySem.W.kds_fill_cons (mB (by omega) h1 h2 (dG J1.hok rd) (by simp) (fun h tk _=>absurd h (by simp)) fun _ h' tk _ sb st=>PySem.W.kds_fill_nil rfl ?_)
 exact ⟨.ref s.heap.objs.size,_,J1.write (by rw [hS];trivial) (.inl rfl) (fun b u n e=>by rw [sb.2 b n];exact e) (let ⟨o,_,_,_,ho,_⟩:=st;⟨o,ho⟩) (StAt.okE st),rfl,q1⟩
end
end L2
set_option autoImplicit false
set_option maxRecDepth 100000
namespace L2
open PySem PySem.Spec PyProof.Rows
abbrev Tg:=Str×Str
def tgK (t:Tg):List Key:=[.inr t.1,.inr t.2]
theorem kL {t u:Tg} (h:tgK t=tgK u):t=u:=by
 obtain ⟨a,b⟩:=t
 obtain ⟨a',b'⟩:=u
 simp only [tgK,List.cons.injEq,Sum.inr.injEq,and_true] at h
 obtain ⟨rfl,rfl⟩:=h
 rfl
theorem gE {t:Tg} {ts:List Tg}:tgK t∈ts.map tgK↔t∈ts:=by
 constructor
 ·intro h
  obtain ⟨u,hu,e⟩:=List.mem_map.mp h
  rw [<- kL e];exact hu
 ·intro h;exact List.mem_map.mpr ⟨t,h,rfl⟩
abbrev AF:=Tg->Option Tg
def setF (f:AF) (x y:Tg):AF:=fun z=>if z=x then some y else f z
inductive Root (f:AF):Tg->Tg->Prop where
 | top {x:Tg} (h:f x=none):Root f x x
 | up {x u r:Tg} (h:f x=some u) (t:Root f u r):Root f x r
theorem Root.root {f:AF} {x r:Tg} (h:Root f x r):f r=none:=by
 induction h with
 | top h=>exact h
 | up _ _ ih=>exact ih
theorem Root.uniq {f:AF} {x r r':Tg} (h:Root f x r) (h':Root f x r'):r=r':=by
 induction h with
 | top h=>
  cases h' with
  | top _=>rfl
  | up h1 _=>rw [h] at h1;cases h1
 | up h1 _ ih=>
  cases h' with
  | top h=>rw [h] at h1;cases h1
  | up h2 t=>rw [h1] at h2;cases h2;exact ih t
def Acy (f:AF) (n:Nat):Prop:=∃ ρ:Tg->Nat,(∀ x y,f x=some y->ρ x < ρ y)/\∀ x,ρ x<=n
theorem Acy.short {f:AF} {n:Nat} (a:Acy f n) {x u v:Tg} (h1:f x=some u) (h2:f u=some v):Acy (setF f x v) n/\∀ z r,Root f z r->Root (setF f x v) z r:=by
 obtain ⟨ρ,p1,p2⟩:=a
 refine ⟨⟨ρ,fun z y h=>?_,p2⟩,fun z r h=>?_⟩
 ·unfold setF at h
  split at h
  ·rename_i hz
   cases h
   rw [hz]
   exact Nat.lt_trans (p1 _ _ h1) (p1 _ _ h2)
  ·exact p1 _ _ h
 ·have nux:u≠x:=fun e=>by have:=p1 _ _ h1;rw [e] at this;omega
  induction h with
  | @top z h=>
   refine .top ?_
   unfold setF
   rw [if_neg (fun e=>by rw [e,h1] at h;cases h)];exact h
  | @up z w r h t ih=>
   by_cases hz:z=x
   ·subst hz
    rw [h1] at h;cases h
    cases ih with
    | top h'=>unfold setF at h';rw [if_neg nux,h2] at h';cases h'
    | up h' t'=>
     unfold setF at h'
     rw [if_neg nux,h2] at h';cases h'
     exact .up (by unfold setF;rw [if_pos rfl]) t'
   ·exact .up (by unfold setF;rw [if_neg hz];exact h) ih
theorem Acy.join {f:AF} {n:Nat} (a:Acy f n) {x y:Tg} (hx:f x=none) (hy:f y=none) (ne:x≠y):Acy (setF f x y) (n+1)/\(∀ z r,Root f z r->Root (setF f x y) z (if r=x then y else r)):=by
 obtain ⟨ρ,p1,p2⟩:=a
 refine ⟨⟨fun z=>if z=y then n+1 else ρ z,fun z v h=>?_,fun z=>?_⟩,fun z r h=>?_⟩
 ·dsimp only
  unfold setF at h
  split at h
  ·rename_i hz
   cases h
   rw [if_pos rfl,if_neg (by rw [hz];exact ne)]
   have:=p2 z;omega
  ·have hzy:z≠y:=fun e=>by rw [e,hy] at h;cases h
   rw [if_neg hzy]
   have h1:=p1 _ _ h
   have h2:=p2 z
   split<;>omega
 ·dsimp only
  have:=p2 z
  split<;>omega
 ·induction h with
  | @top z h=>
   by_cases hz:z=x
   ·rw [if_pos hz]
    refine .up (u:=y) (by unfold setF;rw [if_pos hz]) (.top ?_)
    unfold setF;rw [if_neg ne.symm];exact hy
   ·rw [if_neg hz]
    exact .top (by unfold setF;rw [if_neg hz];exact h)
  | @up z w r h t ih=>
   have hz:z≠x:=fun e=>by rw [e,hx] at h;cases h
   exact .up (by unfold setF;rw [if_neg hz];exact h) ih
theorem gX {f:AF} {n:Nat} (a:Acy f n) (x:Tg):∃ r,Root f x r:=by
 obtain ⟨ρ,p1,p2⟩:=a
 have:∀ m x,n - ρ x<=m->∃ r,Root f x r:=by
  intro m
  induction m with
  | zero=>
   intro x hx
   cases h:f x with
   | none=>exact ⟨x,.top h⟩
   | some u=>have h1:=p1 _ _ h;have h2:=p2 u;omega
  | succ m ih=>
   intro x hx
   cases h:f x with
   | none=>exact ⟨x,.top h⟩
   | some u=>
    have h1:=p1 _ _ h
    have h2:=p2 u
    obtain ⟨r,hr⟩:=ih u (by omega)
    exact ⟨r,.up h hr⟩
 exact this _ x (Qy _)
structure AbH (H:Hp) (D:Addr) (U:List Tg) (f:AF) (n:Nat):Prop where
 ex:∃ kvs:List (List Key×V),H D=some (.dT kvs)/\kvs.length=n/\(kvs.map (·.1)).Nodup/\(∀ k∈kvs.map (·.1),k∈U.map tgK)/\∀ x,(valV kvs (tgK x)=none/\f x=none)\/∃ b y,valV kvs (tgK x)=some (.ref b)/\RdT H b ((tgK y).map kV)/\f x=some y/\y∈U
theorem rX {α:Type}:∀ {l m:List α},l.Nodup->(∀ x∈l,x∈m)->l.length<=m.length:=by
 classical
 intro l m h1 h2
 exact @i5 α (Classical.typeDecidableEq α) l m h1 h2
theorem AbH.few {H:Hp} {D:Addr} {U:List Tg} {f:AF} {n:Nat} (h:AbH H D U f n):n<=U.length:=by
 obtain ⟨kvs,_,h2,h3,h4,_⟩:=h.ex
 have:=rX h3 h4
 rw [Ql,Ql] at this
 omega
theorem AbH.keep {H H':Hp} {D:Addr} {U:List Tg} {f:AF} {n:Nat} (h:AbH H D U f n) (e:∀ o,H D=some o->H' D=some o) (k:∀ b ys,RdT H b ys->RdT H' b ys):AbH H' D U f n:=by
 obtain ⟨kvs,h1,h2,h3,h4,h5⟩:=h.ex
 exact ⟨kvs,e _ h1,h2,h3,h4,fun x=>(h5 x).imp id fun ⟨b,y,q1,q2,q3⟩=>⟨b,y,q1,k _ _ q2,q3⟩⟩
theorem AbH.same {H H':Hp} {D:Addr} {U:List Tg} {f:AF} {n:Nat} (h:AbH H D U f n) (s:Same H H'):AbH H' D U f n:=h.keep (fun o e=>s _ _ e) fun b ys r=>r.same s
theorem a08 {kvs:List (List Key×V)} {k:List Key} {v u:V} (hn:(kvs.map (·.1)).Nodup) (h:valV kvs k=some u):(putK kvs k v).map (·.1)=kvs.map (·.1):=by
 have ha:(kvs.any fun kv=>decide (kv.1=k))=true:=by rw [cA,h];rfl
 unfold putK
 rw [if_pos ha,Qn]
 refine List.map_congr_left fun q _=>?_
 show (if q.1=k then (q.1,v) else q).1=q.1
 split<;>rfl
theorem iK {H:Hp} {D:Addr} {kvs:List (List Key×V)} {o:HO} (e:H D=some (.dT kvs)):∀ b ys,RdT H b ys->RdT (upd H D o) b ys:=fun b ys h=>h.put e (fun _ z=>nomatch z) (fun _ _ z=>nomatch z)
theorem AbH.short {H:Hp} {D:Addr} {U:List Tg} {f:AF} {n:Nat} {kvs:List (List Key×V)} {x u v:Tg} {c:Addr} (e:H D=some (.dT kvs)) (h:AbH H D U f n) (h1:f x=some u) (hv:v∈U) (hc:RdT H c ((tgK v).map kV)):AbH (upd H D (.dT (putK kvs (tgK x) (.ref c)))) D U (setF f x v) n:=by
 obtain ⟨kvs',g1,g2,g3,g4,g5⟩:=h.ex
 rw [e] at g1;cases g1
 have hx:∃ w,valV kvs (tgK x)=some w:=by
  rcases g5 x with ⟨_,q⟩ | ⟨b,y,q,_⟩
  ·rw [h1] at q;cases q
  ·exact ⟨_,q⟩
 obtain ⟨w,hx⟩:=hx
 have ek:=a08 (v:=.ref c) g3 hx
 refine ⟨_,a7,?_,by rw [ek];exact g3,by rw [ek];exact g4,fun z=>?_⟩
 ·have:=congrArg List.length ek
  rw [Ql,Ql] at this
  omega
 ·rw [kP]
  unfold setF
  by_cases hz:z=x
  ·subst hz
   rw [if_pos rfl,if_pos rfl]
   exact .inr ⟨c,v,rfl,iK e _ _ hc,rfl,hv⟩
  ·rw [if_neg (fun q=>hz (kL q)),if_neg hz]
   exact (g5 z).imp id fun ⟨b,y,q1,q2,q3⟩=>⟨b,y,q1,iK e _ _ q2,q3⟩
theorem AbH.join {H:Hp} {D:Addr} {U:List Tg} {f:AF} {n:Nat} {kvs:List (List Key×V)} {x v:Tg} {c:Addr} (e:H D=some (.dT kvs)) (h:AbH H D U f n) (h1:f x=none) (hx:x∈U) (hv:v∈U) (hc:RdT H c ((tgK v).map kV)):AbH (upd H D (.dT (putK kvs (tgK x) (.ref c)))) D U (setF f x v) (n+1):=by
 obtain ⟨kvs',g1,g2,g3,g4,g5⟩:=h.ex
 rw [e] at g1;cases g1
 have hn:valV kvs (tgK x)=none:=by
  rcases g5 x with ⟨q,_⟩ | ⟨b,y,_,_,q,_⟩
  ·exact q
  ·rw [h1] at q;cases q
 refine ⟨_,a7,?_,tO _ g3 hn,fun k hk=>?_,fun z=>?_⟩
 ·rw [L2.cP _ hn];simp;omega
 ·rw [p9] at hk
  rcases hk with hk | hk
  ·exact g4 k hk
  ·rw [hk];exact List.mem_map.mpr ⟨x,hx,rfl⟩
 ·rw [kP]
  unfold setF
  by_cases hz:z=x
  ·subst hz
   rw [if_pos rfl,if_pos rfl]
   exact .inr ⟨c,v,rfl,iK e _ _ hc,rfl,hv⟩
  ·rw [if_neg (fun q=>hz (kL q)),if_neg hz]
   exact (g5 z).imp id fun ⟨b,y,q1,q2,q3⟩=>⟨b,y,q1,iK e _ _ q2,q3⟩
theorem RdT.sx {H H':Hp} {D b:Addr} {U:List Tg} {f:AF} {n:Nat} {ys:List V} (r:RdT H b ys) (s:Sx D H H') (a:AbH H D U f n):RdT H' b ys:=by
 obtain ⟨kvs,g1,_⟩:=a.ex
 rcases r with r | ⟨o,r⟩
 ·exact .inl (s _ _ (fun z=>by rw [z,g1] at r;cases r) r)
 ·exact .inr ⟨o,s _ _ (fun z=>by rw [z,g1] at r;cases r) r⟩
theorem a0a {H:Hp} {b:Addr} {t:Tg} (h:RdT H b ((tgK t).map kV)):TD H 1 (.ref b) (.t [.s t.1,.s t.2]):=TD.tup h (.cons TD.str (.cons TD.str .nil))
theorem a2F {t u:Tg}:(Tv.t [.s t.1,.s t.2]=.t [.s u.1,.s u.2])↔t=u:=by
 obtain ⟨a,b⟩:=t
 obtain ⟨a',b'⟩:=u
 simp
theorem vQ {K : Q0} {ad : Addr} {o : Obj} {kvs : List (List Key × V)} {a b : Nat} {tc : TC} {te : TE} {τ0 : St} {H0 : Hp} {D : Addr} {Q : Hp -> Prop} (Pv : Nat -> St -> Hp -> Prop) (h0 : Pv 0 τ0 H0)
    (hok : ∀ i τ H, i <= kvs.length -> Pv i τ H -> H ad = some (.frz o (.dT kvs)))
    (hs : ∀ i τ H T c, (hi : i < kvs.length) -> Pv i τ H -> H T = none -> RdT H c (kvs[i].1.map kV) -> tc ((τ.set a (some (.ref c))).set b (some kvs[i].2)) (upd H T (.tup [.ref c, kvs[i].2])) fun bo H3 => if bo = true then te ((τ.set a (some (.ref c))).set b (some kvs[i].2)) H3 fun y H4 => ∃ xs, H4 D = some (.lst xs) /\ xs.length < sizeLine /\ Pv (i + 1) ((τ.set a (some (.ref c))).set b (some kvs[i].2)) (upd H4 D (.lst (xs ++ [y]))) else Pv (i + 1) ((τ.set a (some (.ref c))).set b (some kvs[i].2)) H3)
    (hd : ∀ τ H, Pv kvs.length τ H -> Q H) : ∃ W : Nat -> Nat -> St -> Hp -> Prop, (∃ m, W 0 m τ0 H0) /\ ∀ i m τ H, W i m τ H ->
      ((ItiT ad o kvs).stop i H /\ Q H) \/ ((ItiT ad o kvs).go i H /\ ∃ N : St -> Hp -> Prop, (∀ τ' H', N τ' H' -> ∃ m', m' < m /\ W (i + 1) m' τ' H') /\ ∀ x H', (ItiT ad o kvs).yld i H x H' -> g2 K a b x τ H' fun τ2 H2 => tc τ2 H2 fun b H3 =>
        if b = true then te τ2 H3 fun y H4 => ∃ xs, H4 D = some (.lst xs) /\ xs.length < sizeLine /\ N τ2 (upd H4 D (.lst (xs ++ [y]))) else N τ2 H3) := by
  refine ⟨fun i m τ H => m = kvs.length - i /\ i <= kvs.length /\ Pv i τ H, ⟨kvs.length, by simp, Nat.zero_le _, h0⟩, ?_⟩
  rintro i m τ H ⟨rfl, hi, p⟩
  have hk := hok i τ H hi p
  by_cases hlt : i < kvs.length
  · refine .inr ⟨⟨hk, hlt⟩, Pv (i + 1), fun σ' H' p' => ⟨kvs.length - (i + 1), by omega, rfl, hlt, p'⟩, fun x H' y => ?_⟩
    obtain ⟨c, kv, hkv, rd, T, rfl, hT, rfl⟩ := y
    have e : kv = kvs[i] := by rw [Qa hlt] at hkv; exact (QD hkv).symm
    subst e
    exact cX a7 (hs i τ _ T c hlt p hT rd)
  · have e : i = kvs.length := by omega
    subst e
    exact .inl ⟨⟨hk, rfl⟩, hd τ H p⟩
theorem o6 {K : Q0} {M D : Addr} {us : List V} {ms : List (List Str × Str)} {H0 : Hp} {Q : Hp -> Prop} (eM : H0 M = some (.lst us)) (mv : MV H0 us ms) (hD : H0 D = none) (few : ms.length <= 1000)
    (hd : ∀ us' H', Same H0 H' -> H' D = some (.lst us') -> SV H' us' (ms.map (·.1)) -> Q H') : ∃ W : Nat -> Nat -> St -> Hp -> Prop, (∃ m, W 0 m [none] (upd H0 D (.lst []))) /\ ∀ i m τ H, W i m τ H ->
      ((Itl K M).stop i H /\ Q H) \/ ((Itl K M).go i H /\ ∃ N : St -> Hp -> Prop, (∀ τ' H', N τ' H' -> ∃ m', m' < m /\ W (i + 1) m' τ' H') /\ ∀ x H', (Itl K M).yld i H x H' -> gName 0 x τ H' fun τ2 H2 => tcNil τ2 H2 fun b H3 =>
        if b = true then tOp (rIxD K) (tV 0) (tC (V.int 0)) τ2 H3 fun y H4 => ∃ xs, H4 D = some (.lst xs) /\ xs.length < sizeLine /\ N τ2 (upd H4 D (.lst (xs ++ [y]))) else N τ2 H3) := by
  have hsz : sizeLine = 16777216 := QL
  have hl := mv.len
  refine fW (bZ us) (fun i τ H' => ∃ (v0 : Option V) (us' : List V), τ = [v0] /\ H' D = some (.lst us') /\ SV H' us' ((ms.take i).map (·.1)) /\ Same H0 H') ⟨none, [], rfl, a7, SV.nil, Same.upd hD _⟩ (by rintro i τ H' _ ⟨_, _, _, _, _, s⟩; exact SqL.of (s _ _ eM)) ?_ ?_
  · rintro i τ H1 hi ⟨v0, us', rfl, q1, q2, q3⟩
    have him : i < ms.length := by omega
    obtain ⟨c, b, e1, e2, e3⟩ := mv.at_ i hi him
    have eg : us.getD i .non = .ref c := by rw [Qb, Qa hi, e1]; rfl
    rw [eg]
    have tks : ms.take (i + 1) = ms.take i ++ [ms[i]] := by rw [Qs, Qa him]; rfl
    have hul : us'.length <= 1000 := by have := q2.len; rw [this, Ql, List.length_take]; omega
    refine ⟨_, _, .inr (SqT.of (q3 _ _ e2)), aI _ _, us', q1, by omega, _, us' ++ [.ref b], rfl, a7, ?_, q3.put hD⟩
    rw [tks, Qm]
    exact (q2.snoc (.inl (q3 _ _ e3))).keep fun b ys r => r.put q1 (fun _ z => nomatch z) (fun _ _ z => nomatch z)
  · rintro τ H1 ⟨v0, us', rfl, q1, q2, q3⟩
    rw [hl, Qo] at q2
    exact hd us' H1 q3 q1 q2
theorem tE {rs:List (Str×V)} (nd:(rs.map (·.1)).Nodup) (z:Str):(valV (dictOf (rowsK rs)) (.inr z)).isSome=true↔z∈rs.map (·.1):=by
 rw [fS _ (iZ nd),iY]
 constructor
 ·intro h
  obtain ⟨q,hq,e'⟩:=List.mem_map.mp h
  obtain ⟨r,hr,rfl⟩:=List.mem_map.mp hq
  rw [<- Sum.inr.inj e'];exact List.mem_map.mpr ⟨r,hr,rfl⟩
 ·intro h
  obtain ⟨r,hr,rfl⟩:=List.mem_map.mp h
  exact List.mem_map.mpr ⟨_,List.mem_map.mpr ⟨r,hr,rfl⟩,rfl⟩
def TupV (H:Hp) (xs:List V):Prop:=∀ v∈xs,∃ c us,v=.ref c/\H c=some (.tup us)
theorem TupV.tk {H H':Hp} {xs:List V} (h:TupV H xs) (s:Tk H H'):TupV H' xs:=fun v hv=>let ⟨c,us,e1,e2⟩:=h v hv;⟨c,us,e1,s _ _ e2⟩
theorem TupV.same {H H':Hp} {xs:List V} (h:TupV H xs) (s:Same H H'):TupV H' xs:=h.tk s.ts
theorem TupV.snoc {H:Hp} {xs:List V} (h:TupV H xs) {c:Addr} {us:List V} (e:H c=some (.tup us)):TupV H (xs++[.ref c]):=fun v hv=>by
 rcases List.mem_append.mp hv with hv | hv
 ·exact h v hv
 ·rw [List.mem_singleton.mp hv];exact ⟨c,us,rfl,e⟩
theorem TupV.nil {H:Hp}:TupV H []:=fun v hv=>nomatch hv
theorem TupV.sub {H:Hp} {xs ys:List V} (h:TupV H xs) (s:∀ v∈ys,v∈xs):TupV H ys:=fun v hv=>h v (s v hv)
theorem TupV.append {H:Hp} {xs ys:List V} (h:TupV H xs) (h':TupV H ys):TupV H (xs++ys):=fun v hv=>by
 rcases List.mem_append.mp hv with hv | hv
 ·exact h v hv
 ·exact h' v hv
abbrev Pr:=Str×Str
def pbh (r1 r2:List Rw2) (p:Pr) (s:List Str):Pr:=((mvAt r1 p.1 s).getD "",(mvAt r2 p.2 s).getD "")
def MkE (r1 r2:List Rw2) (p:Pr):Prop:=(hdOf r1 p.1).srt=(hdOf r2 p.2).srt/\stH (hdOf r1 p.1)=stH (hdOf r2 p.2)
structure PrOk (r1 r2:List Rw2) (n1 n2:List Str) (p:Pr):Prop where
 a:EndN r1 n1 p.1
 b:EndN r2 n2 p.2
def lf (a:Str):Tg:=("left",a)
def rg (a:Str):Tg:=("right",a)
def tgs (n1 n2:List Str):List Tg:=n1.map lf++n2.map rg
theorem PrOk.behind {r1 r2:List Rw2} {n1 n2:List Str} (g1:Gd2 r1 n1) (g2:Gd2 r2 n2) {p:Pr} (h:PrOk r1 r2 n1 n2 p) (m:MkE r1 r2 p) {s:List Str} (h1:s∈stH (hdOf r1 p.1)):PrOk r1 r2 n1 n2 (pbh r1 r2 p s):=by
 obtain ⟨e1,m1⟩:=jQ h.a.2 h1
 obtain ⟨e2,m2⟩:=jQ h.b.2 (by rw [<- m.2];exact h1)
 refine ⟨?_,?_⟩
 ·show EndN r1 n1 ((mvAt r1 p.1 s).getD "")
  rw [m1];exact g1.mvAt h.a m1
 ·show EndN r2 n2 ((mvAt r2 p.2 s).getD "")
  rw [m2];exact g2.mvAt h.b m2
structure PbV (H:Hp) (us:List V) (ps:List (List Str×Pr)):Prop where
 len:us.length=ps.length
 at_:∀ i (h:i < us.length) (h':i < ps.length),∃ c b e,us[i]=.ref c/\H c=some (.tup [.ref b,.ref e])/\RdT H b (ps[i].1.map V.str)/\H e=some (.tup ((tgK ps[i].2).map kV))
section
variable {H H':Hp} {us:List V} {ps:List (List Str×Pr)}
theorem PbV.keep (h:PbV H us ps) (s:Tk H H') (s2:∀ b ys,RdT H b ys->RdT H' b ys):PbV H' us ps:=⟨h.len,fun i a b=>let ⟨c,d,e,h1,h2,h3,h4⟩:=h.at_ i a b;⟨c,d,e,h1,s _ _ h2,s2 _ _ h3,s _ _ h4⟩⟩
theorem PbV.same (h:PbV H us ps) (s:Same H H'):PbV H' us ps:=h.keep s.ts fun b ys r=>r.same s
theorem PbV.nil:PbV H [] []:=⟨rfl,fun i h=>absurd h (by simp)⟩
theorem PbV.snoc (h:PbV H us ps) {c b e:Addr} {p:List Str×Pr} (g2:H c=some (.tup [.ref b,.ref e])) (h3:RdT H b (p.1.map V.str)) (h4:H e=some (.tup ((tgK p.2).map kV))):PbV H (us++[.ref c]) (ps++[p]):=by
 have hl:=h.len
 refine ⟨by simp [hl],fun i h1 h2=>?_⟩
 by_cases hlt:i < us.length
 ·rw [Qe hlt,Qe (by omega)]
  exact h.at_ i hlt (by omega)
 ·have e':i=us.length:=by simp at h1;omega
  subst e'
  rw [Qf (Qy _),Qf (by omega)]
  simp only [Nat.sub_self,hl,List.getElem_cons_zero]
  exact ⟨c,b,e,rfl,g2,h3,h4⟩
end
def pbL (r1 r2:List Rw2) (p:Pr):List (List Str×Pr):=(stH (hdOf r1 p.1)).map fun s=>(s,pbh r1 r2 p s)
def steptv (s:List Str):Tv:=.t (s.map Tv.s)
def mktv (h:Hd):Tv:=.t [.s h.srt,.t ((stH h).map steptv)]
theorem oR {H:Hp} {n:Nat}:∀ s:List Str,TDs H n (s.map V.str) (s.map Tv.s)
 | []=>.nil
 | z::s=>.cons TD.str (oR s)
theorem SV.tds {H:Hp} {us:List V} {ss:List (List Str)} (h:SV H us ss):TDs H 1 us (ss.map steptv):=by
 have hl:=h.len
 refine ⟨by simpa using hl,fun i h1 h2=>?_⟩
 obtain ⟨b,e1,e2⟩:=h.at_ i h1 (by omega)
 rw [e1,Qr]
 exact TD.tup e2 (oR _)
theorem MkV.td {H:Hp} {b:Addr} {h:Hd} (m:MkV H b h):TD H 3 (.ref b) (mktv h):=by
 obtain ⟨c,us,e1,e2,e3⟩:=m
 refine TD.tup (.inl e1) (.cons TD.str (.cons (TD.tup (.inl e2) e3.tds) .nil))
theorem yP {xs ys:List Str} (h:xs.map Tv.s=ys.map Tv.s):xs=ys:=by
 induction xs generalizing ys with
 | nil=>cases ys with
  | nil=>rfl
  | cons y ys=>simp at h
 | cons x xs ih=>cases ys with
  | nil=>simp at h
  | cons y ys=>
   simp only [List.map_cons,List.cons.injEq,Tv.s.injEq] at h
   rw [h.1,ih h.2]
theorem mX {xs ys:List (List Str)} (h:xs.map steptv=ys.map steptv):xs=ys:=by
 induction xs generalizing ys with
 | nil=>cases ys with
  | nil=>rfl
  | cons y ys=>simp at h
 | cons x xs ih=>cases ys with
  | nil=>simp at h
  | cons y ys=>
   simp only [List.map_cons,List.cons.injEq,steptv,Tv.t.injEq] at h
   rw [yP h.1,ih h.2]
theorem a0h {h h':Hd}:(mktv h=mktv h')↔h.srt=h'.srt/\stH h=stH h':=by
 unfold mktv
 constructor
 ·intro e
  have e':[Tv.s h.srt,Tv.t ((stH h).map steptv)]=[Tv.s h'.srt,Tv.t ((stH h').map steptv)]:=by injection e
  simp only [List.cons.injEq,Tv.s.injEq,Tv.t.injEq,and_true] at e'
  exact ⟨e'.1,mX e'.2⟩
 ·rintro ⟨e1,e2⟩
  rw [e1,e2]
inductive Cg (E:Tg->Tg->Prop):Tg->Tg->Prop where
 | refl (x:Tg):Cg E x x
 | base {x y:Tg} (h:E x y):Cg E x y
 | symm {x y:Tg} (h:Cg E x y):Cg E y x
 | trans {x y z:Tg} (h:Cg E x y) (h':Cg E y z):Cg E x z
theorem Cg.mono {E E':Tg->Tg->Prop} (k:∀ x y,E x y->E' x y) {x y:Tg} (h:Cg E x y):Cg E' x y:=by
 induction h with
 | refl x=>exact .refl x
 | base h=>exact .base (k _ _ h)
 | symm _ ih=>exact .symm ih
 | trans _ _ i1 i2=>exact .trans i1 i2
abbrev PkS:=List (Pr×Option (Nat×List Str))
def Unt (un:List Nat) (st:PkS) (i:Nat) (x y:Tg):Prop:=∃ k c,k∈un/\k < i/\st[k]? =some c/\x=lf c.1.1/\y=rg c.1.2
def Bef (r1:List Rw2) (st:PkS) (o o':Option (Nat×List Str)):Prop:=match o,o' with
 | none,_=>True
 | some (j,s),some (j',s')=>j < j'\/(j=j'/\∃ c,st[j]? =some c/\∃ a b:Nat,a < b/\(stH (hdOf r1 c.1.1))[a]? =some s/\(stH (hdOf r1 c.1.1))[b]? =some s')
 | some _,none=>False
structure PrI (r1 r2:List Rw2) (n1 n2:List Str) (i:Nat) (st:PkS) (un:List Nat) (f:AF) (n:Nat):Prop where
 ok:∀ c∈st,PrOk r1 r2 n1 n2 c.1
 tr:∀ (k:Nat) (c:Pr×Option (Nat×List Str)) (j:Nat) (s:List Str),st[k]? =some c->c.2=some (j,s)->j < k/\j < i/\j∈un/\∃ c',st[j]? =some c'/\s∈stH (hdOf r1 c'.1.1)/\pbh r1 r2 c'.1 s=c.1
 od:∀ (k k':Nat) (c c':Pr×Option (Nat×List Str)),k < k'->st[k]? =some c->st[k']? =some c'->Bef r1 st c.2 c'.2
 me:∀ j c,j < i->st[j]? =some c->MkE r1 r2 c.1/\(j∈un->∀ s∈stH (hdOf r1 c.1.1),∃ (k:Nat) (c':Pr×Option (Nat×List Str)),st[k]? =some c'/\c'.2=some (j,s))/\(j ∉ un->Cg (Unt un st j) (lf c.1.1) (rg c.1.2))
 cn:∀ x y r,Root f x r->Root f y r->Cg (Unt un st i) x y
 ul:∀ k∈un,k < i
 few:st.length<=1+10*n
 acy:Acy f n
end L2
namespace L2
open PySem PySem.Spec PyProof.Rows
theorem Unt.mono {un un':List Nat} {st st':PkS} {i i':Nat} (h1:∀ k∈un,k∈un') (h2:∀ (k:Nat) (c:Pr×Option (Nat×List Str)),st[k]? =some c->st'[k]? =some c) (h3:i<=i') {x y:Tg} (h:Unt un st i x y):Unt un' st' i' x y:=by
 obtain ⟨k,c,q1,q2,q3,q4⟩:=h
 exact ⟨k,c,h1 _ q1,by omega,h2 _ _ q3,q4⟩
theorem lP {f f':AF} {n:Nat} (a:Acy f n) (h:∀ z r,Root f z r->Root f' z r) {x r:Tg} (hr:Root f' x r):Root f x r:=by
 obtain ⟨r0,h0⟩:=gX a x
 rw [hr.uniq (h _ _ h0)];exact h0
theorem PrI.skip {r1 r2:List Rw2} {n1 n2:List Str} {i:Nat} {st:PkS} {un:List Nat} {f f':AF} {n:Nat} (h:PrI r1 r2 n1 n2 i st un f n) {c:Pr×Option (Nat×List Str)} (hc:st[i]? =some c) (me:MkE r1 r2 c.1) (ac:Acy f' n) (kp:∀ z r,Root f z r->Root f' z r) {r:Tg} (h1:Root f' (lf c.1.1) r) (h2:Root f' (rg c.1.2) r):PrI r1 r2 n1 n2 (i+1) st un f' n:=by
 have cn:∀ x y r,Root f' x r->Root f' y r->Cg (Unt un st i) x y:=fun x y r q1 q2=>h.cn x y r (lP h.acy kp q1) (lP h.acy kp q2)
 refine ⟨h.ok,fun k c' j s hk e=>?_,h.od,fun j c' hj hc'=>?_,fun x y r q1 q2=>?_,fun k hk=>by have:=h.ul k hk;omega,h.few,ac⟩
 ·obtain ⟨a1,a2,a3⟩:=h.tr k c' j s hk e
  exact ⟨a1,by omega,a3⟩
 ·by_cases hji:j=i
  ·subst hji
   rw [hc] at hc';cases hc'
   exact ⟨me,fun z=>by have:=h.ul _ z;omega,fun _=>cn _ _ _ h1 h2⟩
  ·exact h.me j c' (by omega) hc'
 ·exact (cn x y r q1 q2).mono fun x y q=>q.mono (fun _ h=>h) (fun _ _ h=>h) (by omega)
def kidsP (r1 r2:List Rw2) (i:Nat) (p:Pr):PkS:=(pbL r1 r2 p).map fun q=>(q.2,some (i,q.1))
theorem zB {r1 r2:List Rw2} {i:Nat} {p:Pr} {k:Nat} {c:Pr×Option (Nat×List Str)} (h:(kidsP r1 r2 i p)[k]? =some c):∃ s,(stH (hdOf r1 p.1))[k]? =some s/\c=(pbh r1 r2 p s,some (i,s)):=by
 unfold kidsP pbL at h
 rw [Qq,Qq] at h
 obtain ⟨q,h1,h2⟩:=Option.map_eq_some_iff.mp h
 obtain ⟨s,h3,h4⟩:=Option.map_eq_some_iff.mp h1
 exact ⟨s,h3,by rw [<- h2,<- h4]⟩
theorem PrI.join {r1 r2:List Rw2} {n1 n2:List Str} (g1:Gd2 r1 n1) (g2:Gd2 r2 n2) {i:Nat} {st:PkS} {un:List Nat} {f f':AF} {n:Nat} (h:PrI r1 r2 n1 n2 i st un f n) {c:Pr×Option (Nat×List Str)} (hc:st[i]? =some c) (me:MkE r1 r2 c.1) (ac:Acy f' (n+1)) {r r':Tg} (h1:Root f (lf c.1.1) r) (h2:Root f (rg c.1.2) r') (kp:∀ z q,Root f z q->Root f' z (if q=r then r' else q)):PrI r1 r2 n1 n2 (i+1) (st++kidsP r1 r2 i c.1) (un++[i]) f' (n+1):=by
 have hi:i < st.length:=(List.getElem?_eq_some_iff.mp hc).1
 have po:=h.ok c (QC hc)
 have up:∀ (k:Nat) (c':Pr×Option (Nat×List Str)),st[k]? =some c'->(st++kidsP r1 r2 i c.1)[k]? =some c':=fun k c' q=>by
  have hk:=(List.getElem?_eq_some_iff.mp q).1
  rw [Qg hk];exact q
 have dn:∀ (k:Nat) (c':Pr×Option (Nat×List Str)),(st++kidsP r1 r2 i c.1)[k]? =some c'->st[k]? =some c'\/(st.length<=k/\∃ s,(stH (hdOf r1 c.1.1))[k - st.length]? =some s/\c'=(pbh r1 r2 c.1 s,some (i,s))):=fun k c' q=>by
  by_cases hk:k < st.length
  ·rw [Qg hk] at q;exact .inl q
  ·rw [List.getElem?_append_right (by omega)] at q
   exact .inr ⟨by omega,zB q⟩
 have fl:(stH (hdOf r1 c.1.1)).length<=10:=by have:=gR (g1.endRow po.a).2;simpa [stH] using this
 refine ⟨fun c' hc'=>?_,fun k c' j s hk e=>?_,fun k k' c1 c2 hkk q1 q2=>?_,fun j c' hj hc'=>?_,fun x y q q1 q2=>?_,fun k hk=>?_,?_,ac⟩
 ·rcases List.mem_append.mp hc' with hc' | hc'
  ·exact h.ok c' hc'
  ·obtain ⟨q,hq,rfl⟩:=List.mem_map.mp hc'
   obtain ⟨s,hs,rfl⟩:=List.mem_map.mp hq
   exact po.behind g1 g2 me hs
 ·rcases dn k c' hk with q | ⟨q0,s',q1,q2⟩
  ·obtain ⟨a1,a2,a3,c2,a4,a5⟩:=h.tr k c' j s q e
   exact ⟨a1,by omega,List.mem_append.mpr (.inl a3),c2,up _ _ a4,a5⟩
  ·subst q2
   cases e
   exact ⟨by omega,by omega,by simp,c,up _ _ hc,QC q1,rfl⟩
 ·have bu:∀ o o',Bef r1 st o o'->Bef r1 (st++kidsP r1 r2 i c.1) o o':=fun o o' b=>by
   cases o with
   | none=>trivial
   | some p=>
    cases o' with
    | none=>exact b
    | some p'=>
     rcases b with b | ⟨b1,c3,b2,b3⟩
     ·exact .inl b
     ·exact .inr ⟨b1,c3,up _ _ b2,b3⟩
  rcases dn k c1 q1 with q | ⟨q0,s,q3,q4⟩
  ·rcases dn k' c2 q2 with q' | ⟨q0',s',q3',q4'⟩
   ·exact bu _ _ (h.od k k' c1 c2 hkk q q')
   ·subst q4'
    cases e:c1.2 with
    | none=>trivial
    | some p=>
     obtain ⟨j,s⟩:=p
     exact .inl (h.tr k c1 j s q e).2.1
  ·have hk':st.length<=k':=by omega
   rcases dn k' c2 q2 with q' | ⟨q0',s',q3',q4'⟩
   ·have:=(List.getElem?_eq_some_iff.mp q').1;omega
   ·subst q4 q4'
    exact .inr ⟨rfl,c,up _ _ hc,k - st.length,k' - st.length,by omega,q3,q3'⟩
 ·by_cases hji:j=i
  ·subst hji
   have:=up _ _ hc
   rw [this] at hc';cases hc'
   refine ⟨me,fun _ s hs=>?_,fun z=>absurd (List.mem_append.mpr (.inr (by simp))) z⟩
   obtain ⟨m,hm,em⟩:=Qi hs
   refine ⟨st.length+m,(pbh r1 r2 c.1 s,some (j,s)),?_,rfl⟩
   rw [List.getElem?_append_right (by omega),Nat.add_sub_cancel_left]
   unfold kidsP pbL
   rw [Qq,Qq,Qa hm,em];rfl
  ·rcases dn j c' hc' with q | ⟨q0,_⟩
   ·obtain ⟨m1,m2,m3⟩:=h.me j c' (by omega) q
    have hju:j∈un++[i]->j∈un:=fun z=>by
     rcases List.mem_append.mp z with z | z
     ·exact z
     ·exact absurd (List.mem_singleton.mp z) hji
    exact ⟨m1,fun z s hs=>let ⟨k,c2,b1,b2⟩:=m2 (hju z) s hs;⟨k,c2,up _ _ b1,b2⟩,fun z=>(m3 fun y=>z (List.mem_append.mpr (.inl y))).mono fun x y q=>q.mono (fun k hk=>List.mem_append.mpr (.inl hk)) up (Qy _)⟩
   ·omega
 ·have old:∀ {x y:Tg} {q:Tg},Root f x q->Root f y q->Cg (Unt (un++[i]) (st++kidsP r1 r2 i c.1) (i+1)) x y:=fun {x y q} a b=>(h.cn x y q a b).mono fun x y q=>q.mono (fun k hk=>List.mem_append.mpr (.inl hk)) up (by omega)
  have new:Cg (Unt (un++[i]) (st++kidsP r1 r2 i c.1) (i+1)) (lf c.1.1) (rg c.1.2):=.base ⟨i,c,by simp,by omega,up _ _ hc,rfl,rfl⟩
  obtain ⟨qx,hx⟩:=gX h.acy x
  obtain ⟨qy,hy⟩:=gX h.acy y
  have ex:=q1.uniq (kp _ _ hx)
  have ey:=q2.uniq (kp _ _ hy)
  by_cases cx:qx=r
  ·rw [if_pos cx] at ex
   have xa:=old hx (by rw [cx];exact h1)
   by_cases cy:qy=r
   ·exact old hx (by rw [cx,<- cy];exact hy)
   ·rw [if_neg cy] at ey
    have yb:=old hy (show Root f (rg c.1.2) qy by rw [<- ey,ex];exact h2)
    exact (xa.trans new).trans yb.symm
  ·rw [if_neg cx] at ex
   by_cases cy:qy=r
   ·rw [if_pos cy] at ey
    have ya:=old hy (by rw [cy];exact h1)
    have xb:=old hx (show Root f (rg c.1.2) qx by rw [<- ex,ey];exact h2)
    exact (xb.trans new.symm).trans ya.symm
   ·rw [if_neg cy] at ey
    exact old hx (by rw [<- ex,ey];exact hy)
 ·rcases List.mem_append.mp hk with hk | hk
  ·have:=h.ul k hk;omega
  ·rw [List.mem_singleton.mp hk];omega
 ·have:=h.few
  rw [Qk]
  have e:(kidsP r1 r2 i c.1).length=(stH (hdOf r1 c.1.1)).length:=by simp [kidsP,pbL]
  omega
theorem PrI.start {r1 r2:List Rw2} {n1 n2:List Str} {p:Pr} (po:PrOk r1 r2 n1 n2 p):PrI r1 r2 n1 n2 0 [(p,none)] [] (fun _=>none) 0:=by
 have one:∀ (k:Nat) (c:Pr×Option (Nat×List Str)),([(p,none)]:PkS)[k]? =some c->k=0/\c=(p,none):=fun k c hk=>by
  cases k with
  | zero=>exact ⟨rfl,by simpa using hk.symm⟩
  | succ k=>simp at hk
 refine ⟨fun c hc=>by rw [List.mem_singleton.mp hc];exact po,fun k c j s hk e=>?_,fun k k' c c' hkk h1 h2=>?_,fun j c hj=>absurd hj (by omega),fun x y r h1 h2=>?_,fun k hk=>absurd hk (by simp),by simp,⟨fun _=>0,fun x y h=>(nomatch h),fun _=>Qy _⟩⟩
 ·rw [(one k c hk).2] at e;cases e
 ·have a:=(one k c h1).1;have b:=(one k' c' h2).1;omega
 ·cases h1 with
  | top _=>cases h2 with
   | top _=>exact .refl _
   | up h _=>cases h
  | up h _=>cases h
theorem PrI.trOk {r1 r2:List Rw2} {n1 n2:List Str} {i:Nat} {st:PkS} {un:List Nat} {f:AF} {n:Nat} (h:PrI r1 r2 n1 n2 i st un f n):TrOk (st.map (·.2)):=fun k j s hk=>by
 rw [Qq] at hk
 obtain ⟨c,h1,h2⟩:=Option.map_eq_some_iff.mp hk
 exact (h.tr k c j s h1 h2).1
def hdT (r1 r2:List Rw2) (x:Tg):Hd:=if x.1="left" then hdOf r1 x.2 else hdOf r2 x.2
def chT (r1 r2:List Rw2) (x:Tg) (s:List Str):Tg:=(x.1,(if x.1="left" then mvAt r1 x.2 s else mvAt r2 x.2 s).getD "")
theorem a0X (r1 r2:List Rw2) (a:Str):hdT r1 r2 (lf a)=hdOf r1 a:=by unfold hdT lf;rw [if_pos rfl]
theorem a0g (r1 r2:List Rw2) (a:Str):hdT r1 r2 (rg a)=hdOf r2 a:=by unfold hdT rg;rw [if_neg (show ¬("right":Str)="left" by decide+kernel)]
theorem a0e (r1 r2:List Rw2) (a:Str) (s:List Str):chT r1 r2 (lf a) s=lf ((mvAt r1 a s).getD ""):=by unfold chT lf;rw [if_pos rfl]
theorem a0b (r1 r2:List Rw2) (a:Str) (s:List Str):chT r1 r2 (rg a) s=rg ((mvAt r2 a s).getD ""):=by unfold chT rg;rw [if_neg (show ¬("right":Str)="left" by decide+kernel)]
theorem PrI.done {r1 r2:List Rw2} {n1 n2:List Str} {i:Nat} {st:PkS} {un:List Nat} {f:AF} {n:Nat} (h:PrI r1 r2 n1 n2 i st un f n) (hl:st.length=i) {k:Nat} {c:Pr×Option (Nat×List Str)} (hc:st[k]? =some c):Cg (Unt un st i) (lf c.1.1) (rg c.1.2):=by
 have hk:k < i:=by have:=(List.getElem?_eq_some_iff.mp hc).1;omega
 by_cases hu:k∈un
 ·exact .base ⟨k,c,hu,hk,hc,rfl,rfl⟩
 ·exact ((h.me k c hk hc).2.2 hu).mono fun x y q=>q.mono (fun _ h=>h) (fun _ _ h=>h) (by omega)
theorem PrI.bis {r1 r2:List Rw2} {n1 n2:List Str} {i:Nat} {st:PkS} {un:List Nat} {f:AF} {n:Nat} (h:PrI r1 r2 n1 n2 i st un f n) (hl:st.length=i) {x y:Tg} (hc:Cg (Unt un st i) x y):(hdT r1 r2 x).srt=(hdT r1 r2 y).srt/\stH (hdT r1 r2 x)=stH (hdT r1 r2 y)/\∀ s∈stH (hdT r1 r2 x),Cg (Unt un st i) (chT r1 r2 x s) (chT r1 r2 y s):=by
 induction hc with
 | refl x=>exact ⟨rfl,rfl,fun s _=>.refl _⟩
 | base q=>
  obtain ⟨k,c,q1,q2,q3,rfl,rfl⟩:=q
  obtain ⟨me,m2,_⟩:=h.me k c q2 q3
  rw [a0X,a0g]
  refine ⟨me.1,me.2,fun s hs=>?_⟩
  obtain ⟨k',c',b1,b2⟩:=m2 q1 s hs
  obtain ⟨_,_,_,c2,a4,_,a6⟩:=h.tr k' c' k s b1 b2
  rw [q3] at a4;cases a4
  have:=h.done hl b1
  rw [<- a6] at this
  rw [a0e,a0b]
  exact this
 | symm _ ih=>exact ⟨ih.1.symm,ih.2.1.symm,fun s hs=>.symm (ih.2.2 s (by rw [ih.2.1];exact hs))⟩
 | trans _ _ i1 i2=>exact ⟨i1.1.trans i2.1,i1.2.1.trans i2.2.1,fun s hs=>.trans (i1.2.2 s hs) (i2.2.2 s (by rw [<- i1.2.1];exact hs))⟩
def Bis (r1 r2:List Rw2) (n1 n2:List Str) (G:Pr->Prop):Prop:=∀ p,G p->PrOk r1 r2 n1 n2 p/\MkE r1 r2 p/\∀ s∈stH (hdOf r1 p.1),G (pbh r1 r2 p s)
theorem PrI.isBis {r1 r2:List Rw2} {n1 n2:List Str} (g1:Gd2 r1 n1) (g2:Gd2 r2 n2) {i:Nat} {st:PkS} {un:List Nat} {f:AF} {n:Nat} (h:PrI r1 r2 n1 n2 i st un f n) (hl:st.length=i):Bis r1 r2 n1 n2 fun p=>PrOk r1 r2 n1 n2 p/\Cg (Unt un st i) (lf p.1) (rg p.2):=by
 rintro p ⟨po,hc⟩
 obtain ⟨b1,b2,b3⟩:=h.bis hl hc
 rw [a0X] at b1 b2 b3
 rw [a0g] at b1 b2
 refine ⟨po,⟨b1,b2⟩,fun s hs=>⟨po.behind g1 g2 ⟨b1,b2⟩ hs,?_⟩⟩
 have:=b3 s hs
 rw [a0e,a0b] at this
 exact this
end L2
set_option autoImplicit false
namespace L2
open PySem PySem.Spec PyProof.Rows
theorem cE (osc:Scope) (oN:List Str) {sc:Scope} {own:List Str} {idx:List Nat} {N':List Str} (h:sc.kind=.function/\(∀ y∈sc.names,y.2≠.cell)/\(∀ y∈sc.names,y.2=.local->sc.names.lookup y.1=some .local)/\(∀ y∈sc.names,y.2=.free->(osc.names.lookup y.1=some .cell\/osc.names.lookup y.1=some .free))/\(∀ j∈idx,sc.names.lookup (oN.getD j "")=some .free/\j < oN.length)/\N'=own++idx.map (fun j=>oN.getD j "")):CScope osc oN sc own idx N':=⟨h.1,h.2.1,h.2.2.1,h.2.2.2.1,h.2.2.2.2.1,h.2.2.2.2.2⟩
theorem bG {N P:List Str} {sc:Scope} (h:sc.kind=.function/\sc.isCoroutine=false/\sc.isGenerator=false/\N.Nodup/\N.take P.length=P/\(∀ x∈P,sc.names.lookup x=some .local\/sc.names.lookup x=some .cell)/\∀ y∈sc.names,y.2≠.free):FnScope N P sc:=⟨h.1,h.2.1,h.2.2.1,h.2.2.2.1,h.2.2.2.2.1,h.2.2.2.2.2.1,h.2.2.2.2.2.2⟩
end L2
set_option maxRecDepth 100000
namespace L2
open PySem PySem.Spec PyProof.Rows
theorem vH (xs:Array Value):slicePick xs none none (some (-1))=xs.toList.reverse.toArray:=by
 unfold slicePick
 congr 1
 rw [<- y8 xs]
 show (sliceRange ((xs.size:Int) - 1) (-1) (-1)).filterMap (xs[·]?)=_
 unfold sliceRange
 simp only [show ¬((-1:Int) > 0) by decide,if_false]
 rw [List.filterMap_map]
 have e:(if (xs.size:Int) - 1 > -1 then (((xs.size:Int) - 1) - (-1) - (-1) - 1) / (- -1) else 0).toNat=xs.size:=by
  have h1:(- -1:Int)=1:=rfl
  rw [h1,Int.ediv_one]
  split<;>omega
 rw [e]
 refine lR fun k hk=>?_
 show xs[((xs.size:Int) - 1+ -1*(k:Int)).toNat]? =_
 have h2:((xs.size:Int) - 1+ -1*(k:Int))=((xs.size:Int) - 1+(k:Int)* -1):=by omega
 rw [h2]
section
variable {X:Cx} {e st:Expr} {te ts:TE} {p2 pos:Pos}
def tRevL (K:Q0) (te ts:TE):TE:=fun σ H Q=>te σ H fun x H1=>ts σ H1 fun y H2=>y=.int (-1)/\∃ a xs,x=.ref a/\SqL K H2 a xs/\∀ p,H2 p=none->Q (.ref p) (upd H2 p (.lst xs.reverse))
theorem xK (K:Q0) (he:SE X e te) (hs:SE X st ts) (hK:X.K=K:=by rfl):SE X (.Subscript e (.Slice none none (some st) p2) pos) (tRevL K te ts):=by
 subst hK
 constructor
 intro pins s σ H Q I h
 refine Subscript_ (thn (he.h pins s σ H _ I h) ?_)
 rintro v s1 ⟨x,H1,I1,r1,q1⟩
 refine wpAny_Slice ?_
 rw [evalPart_none]
 refine QU ?_
 refine QU ?_
 rw [evalPart_some]
 refine thn (hs.h pins s1 σ H1 _ I1 q1) ?_
 rintro u s3 ⟨y,H3,I3,ry,ey,a,xs,ex,hq,q⟩
 subst ey ex
 obtain ⟨tk,rfl⟩:=(show ∃ t,u=Value.int (-1) t from ry)
 cases r1
 have I4:Inv X pins σ H3 {s3 with heap:=s3.heap.push {cls:=.type "slice",data:=.fields #[.none,.none,.int (-1) tk]}}:=I3.kept (t':=s3.toks) fun b ob q=>Qc _ q
 obtain ⟨its,r,pl,hz⟩:=I4.list hq
 have hl:=pl.isList
 show wpAny (model X.prog X.w) X.A (subscriptTail e (.Slice none none (some st) p2) (.ref a) (.ref s3.heap.objs.size)) (EP X pins σ Q) X.xe {s3 with heap:=s3.heap.push {cls:=.type "slice",data:=.fields #[.none,.none,.int (-1) tk]}}
 refine tail_any (ops:=[.ref a,.ref s3.heap.objs.size]) hl.typeIs list_getitem_lookup (wpAny_getItem_list_slice (lo:=none) (hi:=none) (st:=some (-1)) hl (Heap.IsSliceOf.new ..) .none .none (.int _ _) (by simp) ?_ (by have:=r.length;simp;omega)) (by with_unfolding_all rfl)
 rw [vH]
 refine ⟨.ref _,_,I4.laid (t':=s3.toks) (o:=.lst xs.reverse) (fun b ob q=>Qc _ q) (Qy _) ?_,rfl,q _ (I4.hok.fresh (Qy _))⟩
 exact ⟨by simpa using hz,its.reverse,0,Vals.rev r,Qd _ rfl⟩
end
section
variable {P:Program} {w:World} {A:Around}
variable {E:Value->Shared->Prop} {s:Shared} {t1 t2:Bool} {z TI TO c1 c2 l1 l2:Addr} {k1 k2:Nat} {xs ys:Array Value} {x y a b:Value}
end
section
variable {P:Program} {w:World} {A:Around} {E:Value->Shared->Prop}
end
section
variable {X:Cx} {pins:List (Addr×Obj)} {σ:St} {H:Hp} {s:Shared}
end
section
variable {X:Cx} {elts:List Expr} {k:Nat} {tpos p pos:Pos} {a b:Expr} {ta:TA}
end
end L2
set_option maxRecDepth 100000
namespace L2
open PySem PySem.Spec PyProof.Rows HT
section
variable {prog:Program} {w:World} {A:Around} {E:Value->Shared->Prop} {s:Shared}
end
section
variable {X:Cx}
end
end L2
set_option maxRecDepth 100000
namespace L2
open PySem PySem.Spec PyProof.Rows
open AutoSeq1 (wpAny_loadPart')
section
variable {A:Around} {s:Shared}
end
def Dt.is1 (z:Str):Dt->Bool
 | .tup [.str y]=>y==z
 | _=>false
section
variable {X:Cx} {pins:List (Addr×Obj)} {σ:St} {H:Hp} {s:Shared}
end
def hdF (h:Dt):Dt:=if h.is1 "hole" then .tup [.str "all"] else h
def rowF:Dt->Dt | .tup [a,h]=>.tup [a,hdF h] | d=>d
theorem DD.tup2 {H:Hp} {b:Addr} {x y:V} {dx dy:Dt} (e:H b=some (.tup [x,y])) (h1:DD H x dx) (h2:DD H y dy):DD H (.ref b) (.tup [dx,dy]):=.tup e rfl (by simp) fun i a b=>by
 match i,a with
 | 0,_=>exact h1
 | 1,_=>exact h2
theorem DD.tup1 {H:Hp} {b:Addr} {x:V} {dx:Dt} (e:H b=some (.tup [x])) (h1:DD H x dx):DD H (.ref b) (.tup [dx]):=.tup e rfl (by simp) fun i a b=>by
 match i,a with
 | 0,_=>exact h1
def FillAt (H3 H4:Hp) (ws:List V) (ds:List Dt):Prop:=∀ j (h:j < ws.length) (h':j < ds.length),∃ c x1 hv dx dy,ws[j]=.ref c/\H4 c=some (.tup [x1,hv])/\ds[j]=.tup [dx,dy]/\DD H3 x1 dx/\(DD H3 hv (hdF dy)\/∃ b,hv=.ref b/\H4 b=some (.tup [.str "all"])/\hdF dy=.tup [.str "all"])
theorem FillAt.add {H3 H4 H6:Hp} {ws:List V} {ds:List Dt} {c:Addr} {x1 hv:V} {dx dy:Dt} (f:FillAt H3 H4 ws ds) (tk:Tk H4 H6) (hl:ws.length < ds.length) (e:H6 c=some (.tup [x1,hv])) (ed:ds[ws.length]=.tup [dx,dy]) (h1:DD H3 x1 dx) (h2:DD H3 hv (hdF dy)\/∃ b,hv=.ref b/\H6 b=some (.tup [.str "all"])/\hdF dy=.tup [.str "all"]):FillAt H3 H6 (ws++[.ref c]) ds:=fun j h h'=>by
 by_cases hj:j < ws.length
 ·obtain ⟨c',x',hv',dx',dy',q1,q2,q3,q4,q5⟩:=f j hj h'
  refine ⟨c',x',hv',dx',dy',by rw [Qe hj];exact q1,tk _ _ q2,q3,q4,q5.imp id fun ⟨b,r1,r2,r3⟩=>⟨b,r1,tk _ _ r2,r3⟩⟩
 ·have:j=ws.length:=by simp at h;omega
  subst this
  exact ⟨c,x1,hv,dx,dy,by simp,e,ed,h1,h2⟩
theorem FillAt.dd {H3 H4:Hp} {ws:List V} {ds:List Dt} (f:FillAt H3 H4 ws ds) (s:Same H3 H4) (j:Nat) (h:j < ws.length) (h':j < ds.length):DD H4 ws[j] (rowF ds[j]):=by
 obtain ⟨c,x1,hv,dx,dy,q1,q2,q3,q4,q5⟩:=f j h h'
 rw [q1,q3]
 refine DD.tup2 q2 (q4.same s) ?_
 rcases q5 with q5 | ⟨b,rfl,q6,q7⟩
 ·exact q5.same s
 ·rw [q7];exact DD.tup1 q6 (.str (by decide))
def RowG (H H':Hp) (v:V) (d:Dt):Prop:=DD H v (rowF d)\/∃ c x1 b dx,v=.ref c/\H' c=some (.tup [x1,.ref b])/\H' b=some (.tup [.str "all"])/\DD H x1 dx/\rowF d=.tup [dx,.tup [.str "all"]]
theorem RowG.dd {H H':Hp} {v:V} {d:Dt} (h:RowG H H' v d) (s:Same H H'):DD H' v (rowF d):=by
 rcases h with h | ⟨c,x1,b,dx,rfl,h2,h3,h4,h5⟩
 ·exact h.same s
 ·rw [h5];exact DD.tup2 h2 (h4.same s) (DD.tup1 h3 (.str (by decide)))
def FillG (H H':Hp) (ws:List V) (ds:List Dt):Prop:=∀ j (h:j < ws.length) (h':j < ds.length),RowG H H' ws[j] ds[j]
theorem FillG.add {H H':Hp} {ws:List V} {ds:List Dt} {v:V} (f:FillG H H' ws ds) (hl:ws.length < ds.length) (h:RowG H H' v ds[ws.length]):FillG H H' (ws++[v]) ds:=fun j a b=>by
 by_cases hj:j < ws.length
 ·rw [Qe hj];exact f j hj b
 ·have:j=ws.length:=by simp at a;omega
  subst this
  simpa using h
def Hd.hol:Hd->Bool | .one s=>s=="hole" | _=>false
def Hd.isW:Hd->Bool | .way _ _=>true | _=>false
def Hd.fil (h:Hd):Hd:=if h.hol then .one "all" else h
def filR (r:Rw2):Rw2:=(r.1,r.2.fil)
structure TH (H:Hp) (a:Addr) (xs:List V) (rows:List Rw2) (ns ws:List Str):Prop where
 at_:H a=some (.tup xs)
 rv:RV H xs rows
 nm:(rows.map (·.1)).Perm ns
 nd:ns.Nodup
 ok:RowsK ns (rows.map filR)
 wd:∀ n∈ns,Wd n
 ah:∀ r∈rows,Ahd ns r.1 r.2.nx
 ww:∀ r∈rows,∀ z∈r.2.wds,z∈ws
 pos:1<=ns.length
 few:ns.length<=10
 nw:∀ r∈rows,r.2.isW=false
 hl:rows.countP (fun r=>r.2.hol)<=6
section
variable {H H':Hp} {a:Addr} {xs:List V} {rows:List Rw2} {ns ws:List Str}
theorem TH.rl (h:TH H a xs rows ns ws):rows.length=ns.length:=by have:=h.nm.length_eq;simpa using this
theorem HV.dd' {v:V} {h:Hd} (q:HV H v h) (ok:h.fil.ok ns):DD H v h.dt:=by
 cases e:h.hol with
 | false=>
  have:h.fil=h:=by unfold Hd.fil;rw [e];rfl
  rw [this] at ok
  exact (q.tx ok).dd
 | true=>
  cases q with
  | @one b s e1=>
   have:s="hole":=eq_of_beq e
   subst this
   exact DD.tup1 e1 (.str (by decide))
  | _=>cases e
theorem TH.dd (h:TH H a xs rows ns ws):DD H (.ref a) (.tup (rows.map rowDt)):=by
 have hrl:=h.rl
 have few:=h.few
 have hl:=h.rv.len
 refine .tup h.at_ (by simp [hl]) (by omega) fun i h1 h2=>?_
 have h3:i < rows.length:=by simpa using h2
 obtain ⟨b,v,q1,q2,q3⟩:=h.rv.at_ i h1 h3
 obtain ⟨m1,m2⟩:=h.ok (filR rows[i]) (List.mem_map.mpr ⟨_,Qj h3,rfl⟩)
 have m1':isName rows[i].1=true:=m1
 rw [q1]
 simp only [Qr]
 exact DD.tup2 q2 (.str (by have:=dY m1';omega)) (q3.dd' m2)
end
end L2
set_option maxRecDepth 100000
namespace L2
open PySem PySem.Spec PyProof.Rows
open AutoSeq1 (wpAny_loadPart')
section
variable {A:Around} {s:Shared} {l b:Addr} {o:Obj} {es:Array DictEntry} {ep:Nat} {items2:Array Value}
end
mutual
def Dt.oc:Dt->Nat
 | .str _=>0
 | .oth=>1
 | .tup ds=>ocs ds
def ocs:List Dt->Nat
 | []=>0
 | d::r=>d.oc+ocs r
end
mutual
def Dt.dep:Dt->Nat
 | .str _=>0
 | .oth=>0
 | .tup ds=>deps ds+1
def deps:List Dt->Nat
 | []=>0
 | d::r=>max d.dep (deps r)
end
open Classical in
section
variable {X:Cx} {pins:List (Addr×Obj)} {σ:St} {H:Hp} {s:Shared}
end
end L2
set_option maxRecDepth 100000
namespace L2
open PySem PySem.Spec PyProof.Rows
mutual
def Dt.cn:Dt->Nat
 | .str _=>1
 | .oth=>1
 | .tup ds=>cns ds+1
def cns:List Dt->Nat
 | []=>0
 | d::r=>d.cn+cns r
end
structure DX (P:Addr->Prop) (H:Hp) (m:Bool) (v:V) (d:Dt) (k c:Nat):Prop where
 ex:∃ p,DA P H m v p d/\p.depth<=k/\p.shown.length+2<=220*c/\p.showable=true/\d.cn<=c/\d.dep<=k
section
variable {P:Addr->Prop} {H H':Hp} {m:Bool} {v:V} {d:Dt} {k k' c c':Nat} {a:Addr}
theorem DX.dd (h:DX P H m v d k c):DD H v d:=let ⟨p,h1,_⟩:=h.ex;h1.dd
end
structure PX (H:Hp) (v:V) (d:Dt) (k c:Nat):Prop where
 ex:∃ p,TX H v d/\TDen H v p/\p.depth<=k/\p.shown.length+2<=220*c/\p.showable=true/\d.cn<=c/\d.dep<=k/\d.oc=0
section
variable {H H':Hp} {v:V} {d:Dt} {k k' c c':Nat} {a:Addr}
theorem PX.dd (h:PX H v d k c):DD H v d:=let ⟨_,h1,_⟩:=h.ex;h1.dd
inductive PXs (H:Hp) (k:Nat):List V->List Dt->Nat->Prop
 | nil:PXs H k [] [] 0
 | cons {v:V} {d:Dt} {c:Nat} {vs:List V} {ds:List Dt} {cs:Nat}:PX H v d k c->PXs H k vs ds cs->PXs H k (v::vs) (d::ds) (c+cs)
theorem PXs.len {vs:List V} {ds:List Dt} {cs:Nat} (h:PXs H k vs ds cs):vs.length=ds.length:=by
 induction h with
 | nil=>rfl
 | cons _ _ ih=>simp [ih]
end
theorem gI {A:Around} {k:Nat} (hr:Room k A):A.units+100 < cLine:=by have:=hr.un;omega
end L2
set_option autoImplicit false
set_option maxRecDepth 100000
set_option maxHeartbeats 400000
--LEVEL 14
--SEE
namespace T1
open PySem L2
def top (i:Nat):Stmt:=PySem.Challenge.pw_coilkind_k21_papers_of_alike_ones.main.body.getD i (.Pass ⟨0,0,0,0⟩)
abbrev fK:Stmt:=top 2
abbrev jR:Stmt:=top 3
abbrev fM:Stmt:=top 4
abbrev fG:Stmt:=top 10
abbrev fT:Stmt:=top 11
abbrev gG:Stmt:=top 12
abbrev oE:Stmt:=top 14
abbrev bR:Stmt:=top 15
abbrev dX:Stmt:=top 16
abbrev fH:Stmt:=top 17
abbrev lE:Stmt:=top 18
abbrev cT:Stmt:=top 19
abbrev gA:Stmt:=top 20
abbrev eK:Stmt:=top 21
abbrev iC:Stmt:=top 23
abbrev iI:Stmt:=top 24
abbrev fU:Stmt:=top 25
abbrev eW:Stmt:=top 26
abbrev fP:Stmt:=top 27
abbrev f9:Stmt:=top 28
abbrev jM:Stmt:=top 29
abbrev bY:Stmt:=top 30
abbrev i8:Stmt:=top 31
abbrev fI:Stmt:=top 32
abbrev j8:Stmt:=top 33
abbrev eB:Stmt:=top 34
abbrev dD:Stmt:=top 35
abbrev fB:Stmt:=top 36
abbrev cI:Stmt:=top 37
abbrev cC:Stmt:=top 38
abbrev cM:Stmt:=top 39
abbrev lD:Stmt:=top 40
abbrev d8:Stmt:=inClass (top 9) 0
structure Txt (K:Q0) (mg:Str->Option Value) (w:World):Prop where
 n_len:mg "len"=none
 fO:mg "isinstance"=none
 n_all:mg "all"=none
 tF:mg "range"=none
 a1t:mg "bool"=none
 nN:mg "list"=none
 eZ:mg "tuple"=none
 nQ:mg "dict"=none
 n_zip:mg "zip"=none
 xC:∃ a,mg "WORDED"=some (.ref a)/\∀ H,SqT K H a [.str "box",.str "pick"]
 sX:∃ u,mg "FROM"=some u/\RelV (.ref (adr mg "FROM")) u
 c_TO:∃ u,mg "TO"=some u/\RelV (.ref (adr mg "TO")) u
 iU:∃ a,mg "STEP_WORDS"=some (.ref a)/\KD w K a [(.inr "box",.str "part"),(.inr "pick",.str "case")]
 rK:FnT K mg "heads_of" fK ["T"]
 vR:FnT K mg "rows_of" jR ["T"]
 sY:FnT K mg "names_in" fM ["head"]
 sV:FnT K mg "steps_in" fG ["head"]
 sK:FnT K mg "moves_in" fT ["head","rows"]
 pT:FnT K mg "road_back" gG ["trail","at"]
 a06:FnT K mg "alike" oE ["T","x","S","y"]
 j5:FnT K mg "is_alike_paper" bR ["T","x","S","y","paper"]
 lG:FnT K mg "parting_road" dX ["left","right","first"]
 nH:FnT K mg "put_in_one" fH ["above","a","b"]
 wP:FnT K mg "top_of" lE ["above","thing"]
 kT:FnT K mg "pairs_behind" cT ["left","right","pair"]
 oX:FnT K mg "pairs_met" gA ["left","right","first"]
 pE:FnT K mg "is_upheld" eK ["left","right","pair","standing"]
 sP:FnT K mg "_law_fill" iC ["_law_cell","_law_at"]
 rQ:FnT K mg "_law_next" iI ["_law_pen","_law_many"]
 o5:FnT K mg "_law_turned" fU ["_law_pen","_law_some"]
 qK:FnT K mg "_law_words" eW ["_law_pen"]
 rB:FnT K mg "_law_head" fP ["_law_pen","_law_names","_law_ahead"]
 lZ:FnT K mg "_law_telling" f9 ["_law_pen","_law_most"]
 uV:FnT K mg "_law_any" jM ["_law_pen","_law_told"]
 kF:FnT K mg "_law_twin_head" bY ["_law_pen","_law_here"]
 rN:FnT K mg "_law_twin" i8 ["_law_pen","_law_told"]
 rM:FnT K mg "_law_bent" fI ["_law_pen","_law_told"]
 uH:FnT K mg "_law_two" j8 ["_law_pen","_law_most"]
 lQ:FnT K mg "_law_row_here" eB ["_law_told","_law_name"]
 k0:FnT K mg "_law_head_here" dD ["_law_told","_law_name"]
 wK:FnT K mg "_law_on" fB ["_law_told","_law_name"]
 lS:FnT K mg "_law_is_paper" cI ["_law_told","_law_name","_law_other","_law_twin_name","_law_paper"]
 kE:FnT K mg "_law_all_pairs" cC ["_law_told","_law_other"]
 jB:FnT K mg "_law_bent_paper" cM ["_law_pen","_law_told","_law_other","_law_paper"]
 t_law:FnT K mg "law" lD ["script"]
 k_Net:ClT K mg "Net" "Net.__init__" d8 ["self","T"] ["rows","heads","marks","moves"] (adr mg "Net")
theorem qL:FnScope ["self","T"] ["self","T"] (defScope d8):=bG (by decide+kernel)
theorem pK:FnScope ["T"] ["T"] (defScope fK):=bG (by decide+kernel)
theorem d7:FnScope ["T","heads","rows","name","row"] ["T"] (defScope jR):=bG (by decide+kernel)
theorem oW:FnScope ["head"] ["head"] (defScope fM):=bG (by decide+kernel)
theorem pS:FnScope ["head"] ["head"] (defScope fG):=bG (by decide+kernel)
theorem qE:FnScope ["head","rows"] ["head","rows"] (defScope fT):=bG (by decide+kernel)
theorem dP:FnScope ["trail","at","steps","step"] ["trail","at"] (defScope gG):=bG (by decide+kernel)
theorem iT:FnScope ["T","x","S","y","left","right","first","road"] ["T","x","S","y"] (defScope oE):=bG (by decide+kernel)
theorem cD:FnScope ["T","x","S","y","paper","left","right","standing"] ["T","x","S","y","paper"] (defScope bR):=bG (by decide+kernel)
theorem aX:FnScope ["left","right","first","pairs","trail","above","at","a","b","step","pair"] ["left","right","first"] (defScope dX):=bG (by decide+kernel)
theorem h9:FnScope ["above","a","b","top","other"] ["above","a","b"] (defScope fH):=bG (by decide+kernel)
theorem jN:FnScope ["above","thing","upper"] ["above","thing"] (defScope lE):=bG (by decide+kernel)
theorem dH:FnScope ["left","right","pair","a","b"] ["left","right","pair"] (defScope cT):=bG (by decide+kernel)
theorem bW:FnScope ["left","right","first","pairs","seen","at","step","pair"] ["left","right","first"] (defScope gA):=bG (by decide+kernel)
theorem fQ:FnScope ["left","right","pair","standing","a","b"] ["left","right","pair","standing"] (defScope eK):=bG (by decide+kernel)
theorem gJ:FnScope ["_law_cell","_law_at","_law_x"] ["_law_cell","_law_at"] (defScope iC):=bG (by decide+kernel)
theorem cQ:FnScope ["_law_pen","_law_many","_law_at","_law_cell","_law_found"] ["_law_pen","_law_many"] (defScope iI):=bG (by decide+kernel)
theorem fA:FnScope ["_law_pen","_law_some","_law_left","_law_found"] ["_law_pen","_law_some"] (defScope fU):=bG (by decide+kernel)
theorem nX:FnScope ["_law_pen"] ["_law_pen"] (defScope eW):=bG (by decide+kernel)
theorem gC:FnScope ["_law_pen","_law_names","_law_ahead","_law_way","_law_one"] ["_law_pen","_law_names","_law_ahead"] (defScope fP):=bG (by decide+kernel)
theorem cG:FnScope ["_law_pen","_law_most","_law_size","_law_names","_law_rows","_law_k"] ["_law_pen","_law_most"] (defScope f9):=bG (by decide+kernel)
theorem qR:FnScope ["_law_pen","_law_told"] ["_law_pen","_law_told"] (defScope jM):=bG (by decide+kernel)
theorem jI:FnScope ["_law_pen","_law_here"] ["_law_pen","_law_here"] (defScope bY):=bG (by decide+kernel)
theorem eO:FnScope ["_law_pen","_law_told","_law_rows","_law_name","_law_here"] ["_law_pen","_law_told"] (defScope i8):=bG (by decide+kernel)
theorem eX:FnScope ["_law_pen","_law_told","_law_at","_law_names","_law_row"] ["_law_pen","_law_told"] (defScope fI):=bG (by decide+kernel)
theorem eG:FnScope ["_law_pen","_law_most","_law_told","_law_name","_law_way","_law_other"] ["_law_pen","_law_most"] (defScope j8):=bG (by decide+kernel)
theorem dI:FnScope ["_law_told","_law_name","_law_rows"] ["_law_told","_law_name"] (defScope eB):=bG (by decide+kernel)
theorem jH:FnScope ["_law_told","_law_name"] ["_law_told","_law_name"] (defScope dD):=bG (by decide+kernel)
theorem dW:FnScope ["_law_told","_law_name","_law_here","_law_found"] ["_law_told","_law_name"] (defScope fB):=bG (by decide+kernel)
theorem bC:FnScope ["_law_told","_law_name","_law_other","_law_twin_name","_law_paper","_law_rows","_law_others","_law_pair","_law_a","_law_b","_law_ones","_law_twos","_law_one","_law_two_here"] ["_law_told","_law_name","_law_other","_law_twin_name","_law_paper"] (defScope cI):=bG (by decide+kernel)
theorem bF:FnScope ["_law_told","_law_other","_law_found","_law_a","_law_here","_law_b","_law_there","_law_ones","_law_twos"] ["_law_told","_law_other"] (defScope cC):=bG (by decide+kernel)
theorem cF:FnScope ["_law_pen","_law_told","_law_other","_law_paper","_law_way","_law_pair","_law_at"] ["_law_pen","_law_told","_law_other","_law_paper"] (defScope cM):=bG (by decide+kernel)
theorem d5:FnScope ["script","_law_pen","_law_k","_law_told","_law_name","_law_other","_law_twin_name","_law_found","_law_papers","_law_one","_law_paper","_law_handed","_law_said","_law_due"] ["script"] (defScope lD):=bG (by decide+kernel)
def TxtT (K:Q0) (mg:Str->Option Value) (w:World):Prop:=∃ ts:List (Addr×Obj×List V),(∀ t∈ts,KTup K t)/\(ts.map (·.1)).Nodup/\Txt (without K (ts.map (·.1))) mg w/\∀ H:Hp,(∀ t∈ts,H t.1=some (.frz t.2.1 (.tup t.2.2)))->Kn mg H "FROM" [.str "from"]/\Kn mg H "TO" [.str "to"]
section
variable {P:Program} {w:World} {K:Q0} {mg:Str->Option Value} {base:Heap}
def spFill:Sp:=fun vs H Q _=>∃ c t:Int,vs=[.int c,.int t]/\(0<=t/\t < 1000000000)/\∀ r:Int,Q (.int r) H
theorem qH (T:Txt K mg w):FnK P w K mg base 1 "_law_fill" ["_law_cell","_law_at"] spFill:=by
 refine T.sP.okS gJ (fun vs H Q E h=>?_) (fun f cdv A outer s H vs Q E hr h=>?_)
 ·obtain ⟨c,t,rfl,_⟩:=h
  rfl
 ·obtain ⟨c,t,rfl,⟨ht0,ht1⟩,k⟩:=h
  refine ⟨_,(aA (bN (aJ a1Q (zv 0) (bM zG aE aE) (nomark _)) (aC (aN (zv 0))) aP)
   (aA (aR (i:=2) gJ.nd rfl (Or.inl rfl) (bM eQ (bM bB (bM bB (bM dR (bM eQ (zv 0) aE) aE) (bM dR (zv 1) aE)) aE) aE))
   (aA (aR (i:=2) gJ.nd rfl (Or.inl rfl) (bM eQ (bM bB (bM bB (bM dR (zv 2) (zv 2)) (bM dR aE (zv 2))) (zv 1)) aE))
   (aC (aN (bM bB (bM dR (zv 2) aE) (bM eQ (bM bB (bM dR (zv 2) (zv 2)) (bM dR aE (zv 1))) aE))))))),?_⟩
  refine ⟨⟨by decide,by decide,by decide⟩,_,rfl,ite2 (fun hk=>k _) (fun hk=>?_)⟩
  refine ⟨by decide,.inl ⟨?_,?_⟩,.inl ⟨by omega,by omega⟩,by decide,?_⟩
  ·have:=Int.emod_nonneg c (show (2147483647:Int)≠0 by decide);omega
  ·have:=Int.emod_lt_of_pos c (show (0:Int) < 2147483647 by decide);omega
  generalize hx:(c % 2147483647*48271+t*69621+11) % 2147483629=x
  have hx0:0<=x:=by rw [<- hx];exact Int.emod_nonneg _ (by decide)
  have hx1:x < 2147483629:=by rw [<- hx];exact Int.emod_lt_of_pos _ (by decide)
  refine ⟨.inl ⟨by omega,by omega⟩,.inl ⟨by decide,by decide⟩,by decide,?_⟩
  generalize hy:(x*x+48271*x+t) % 2147483587=y
  have hy0:0<=y:=by rw [<- hy];exact Int.emod_nonneg _ (by decide)
  have hy1:y < 2147483587:=by rw [<- hy];exact Int.emod_lt_of_pos _ (by decide)
  exact ⟨.inl ⟨by omega,by omega⟩,.inl ⟨by omega,by omega⟩,.inl ⟨by decide,by decide⟩,by decide,k _⟩
def spNext (K:Q0):Sp:=fun vs H Q _=>∃ (p a:Addr) (ns:List Int) (m t x:Int),vs=[.ref p,.int m]/\H p=some (.lst [.ref a,.int t,.int x])/\(∀ o,SqL K (upd H p o) a (ns.map V.int))/\SqL K H a (ns.map V.int)/\(0<=t/\t < 1000000)/\(0 < m/\m < 1073741824)/\
 ∀ r t' x':Int,0<=r->r < m->0<=t'->t'<=t+1->Q (.int r) (upd H p (.lst [.ref a,.int t',.int x']))
theorem atI0 {α:Type} (x y z:α):atI [x,y,z] 0=some x:=rfl
theorem atI1 {α:Type} (x y z:α):atI [x,y,z] 1=some y:=rfl
theorem atI2 {α:Type} (x y z:α):atI [x,y,z] 2=some z:=rfl
theorem oZ (T:Txt K mg w):FnK P w K mg base 2 "_law_next" ["_law_pen","_law_many"] (spNext K):=by
 have rR:FnK P w K mg base 1 "_law_fill" ["_law_cell","_law_at"] spFill:=qH T
 refine T.rQ.okS cQ (fun vs H Q E h=>?_) (fun f cdv A outer s H vs Q E hr h=>?_)
 ·obtain ⟨p,a,ns,m,t,x,rfl,_⟩:=h
  rfl
 ·obtain ⟨p,a,ns,m,t,x,rfl,hp,hS',hS,⟨ht0,ht1⟩,⟨hm0,hm1⟩,k⟩:=h
  refine ⟨_,(aA (bN (aJ i6 (aZ (aY K) (zv 0) aE (fun _ _=>rfl)) (zv 1) (nomark _)) (aA (aR (i:=2) cQ.nd rfl (Or.inl rfl) (aZ (aY K) (zv 0) aE (fun _ _=>rfl)))
   (aA (aR (i:=3) cQ.nd rfl (Or.inl rfl) aE)
   (aA (bN (aJ i6 (zv 2) (bL (bJ K) (by rfl) T.n_len PySem.boot_len (aF (aZ (aY K) (zv 0) aE (fun _ _=>rfl)) sa_nil)) (nomark _)) (aC (aR (i:=3) cQ.nd rfl (Or.inl rfl) (aZ (aY K) (aZ (aY K) (zv 0) aE (fun _ _=>rfl)) (zv 2) (fun _ _=>rfl)))) (aC (bN (aJ yF (bL (bJ K) (by rfl) T.n_len PySem.boot_len (aF (aZ (aY K) (zv 0) aE (fun _ _=>rfl)) sa_nil)) aE (nomark _)) (aC (aR (i:=3) cQ.nd rfl (Or.inl rfl) (bM bB (bM eQ (aZ (aY K) (aZ (aY K) (zv 0) aE (fun _ _=>rfl)) (bM eQ (bM dR (zv 2) aE) (bL (bJ K) (by rfl) T.n_len PySem.boot_len (aF (aZ (aY K) (zv 0) aE (fun _ _=>rfl)) sa_nil))) (fun _ _=>rfl)) aE) (bM dR (zv 2) aE)))) aP)))
   (aA (hV (bM bB (zv 2) aE) (xO (zv 0) aE kZ))
   (aC (hV (bA rR (hr.mono (by decide)) (a9 (zv 3) (a9 (zv 2) sa_nil))) (xO (zv 0) aE kZ))))))) aP)
   (aA (aR (i:=4) cQ.nd rfl (Or.inl rfl) (bM eQ (aZ (aY K) (zv 0) aE (fun _ _=>rfl)) (zv 1)))
   (aA (hV (bM a00 (aZ (aY K) (zv 0) aE (fun _ _=>rfl)) (zv 1)) (xO (zv 0) aE kZ))
   (aC (aN (zv 4)))))),?_⟩
  refine aV (fun σ' H1=>∃ (v2 v3:Option V) (t' x':Int),σ'=[some (.ref p),some (.int m),v2,v3,none]/\H1 p=some (.lst [.ref a,.int t',.int x'])/\(H1=H\/∃ o,H1=upd H p o)/\0<=t'/\t'<=t+1) ?_ ?_
  ·intro nx hnx
   refine ⟨_,.int x,.inl (SqL.of hp),atI2 _ _ _,_,rfl,ite2 (fun hk=>?_) (fun hk=>?_)⟩
   ·refine aL ⟨_,.int t,.inl (SqL.of hp),atI1 _ _ _,?_⟩
    refine jK ?_
    refine aV (fun σ' H1=>H1=H/\∃ c:Int,σ'=[some (.ref p),some (.int m),some (.int t),some (.int c),none]) ?_ ?_
    ·intro nx' hnx'
     refine ⟨_,.ref a,.inl (SqL.of hp),atI0 _ _ _,.inl ⟨_,.inl hS,_,rfl,ite2 (fun hl=>?_) (fun hl=>?_)⟩⟩
     ·obtain ⟨c,hc1,hc2⟩:=kR (ns.map V.int) t ht0 (by have:=Qt hl;omega)
      have hl':t.toNat < ns.length:=by
       have:=Qt hl
       rw [Ql] at this;omega
      have hc:c=.int (ns[t.toNat]):=by
       rw [Qq,Qa hl'] at hc1
       exact (QD hc1).symm
      subst hc
      exact ⟨_,.ref a,.inl (SqL.of hp),atI0 _ _ _,_,_,.inl hS,hc2,hnx' _ _ ⟨rfl,_,rfl⟩⟩
     ·refine ⟨_,.ref a,.inl (SqL.of hp),atI0 _ _ _,.inl ⟨_,.inl hS,_,rfl,ite2 (fun hl2=>?_) (fun hl2=>?_)⟩⟩
      ·have hl2':=Qt hl2
       have hlp:0 < (ns.map V.int).length:=by omega
       have e0:=Int.emod_nonneg (t*7) (show ((ns.map V.int).length:Int)≠0 by omega)
       have e1:=Int.emod_lt_of_pos (t*7) (show (0:Int) < (ns.map V.int).length by omega)
       obtain ⟨c,hc1,hc2⟩:=kR (ns.map V.int) (t*7 % ((ns.map V.int).length:Int)) e0 e1
       have hl':(t*7 % ((ns.map V.int).length:Int)).toNat < ns.length:=by
        have e2:(ns.map V.int).length=ns.length:=Ql _
        omega
       have hc:c=.int (ns[(t*7 % ((ns.map V.int).length:Int)).toNat]):=by
        rw [Qq,Qa hl'] at hc1
        exact (QD hc1).symm
       subst hc
       refine ⟨_,.ref a,.inl (SqL.of hp),atI0 _ _ _,.inl ⟨by omega,by omega⟩,_,.ref a,.inl (SqL.of hp),atI0 _ _ _,.inl ⟨_,.inl hS,hl2',_,_,.inl hS,hc2,by decide,.inl ⟨by omega,by omega⟩,hnx' _ _ ⟨rfl,_,rfl⟩⟩⟩
      ·exact hnx' _ _ ⟨rfl,0,rfl⟩
    ·rintro σ' H1 ⟨rfl,c,rfl⟩
     refine ⟨p,_,1,1,rfl,rfl,hp,rfl,?_⟩
     refine ⟨c,t,rfl,⟨ht0,by omega⟩,fun r=>?_⟩
     refine ⟨p,_,2,2,rfl,rfl,a7,rfl,?_⟩
     rw [kN]
     exact hnx _ _ ⟨_,_,t+1,r,rfl,a7,.inr ⟨_,rfl⟩,by omega,by omega⟩
   ·exact hnx _ _ ⟨none,none,t,x,rfl,hp,.inl rfl,ht0,by omega⟩
  ·rintro σ' H1 ⟨v2,v3,t',x',rfl,h1,h2,h3,h4⟩
   refine ⟨_,.int x',.inl (SqL.of h1),atI2 _ _ _,hm0,?_⟩
   refine ⟨_,.int x',.inl (SqL.of h1),atI2 _ _ _,⟨hm0,hm1⟩,p,_,2,2,rfl,rfl,h1,rfl,?_⟩
   have e:∀ o,upd H1 p o=upd H p o:=fun o=>by
    rcases h2 with rfl | ⟨o',rfl⟩
    ·rfl
    ·exact kN
   rw [e]
   exact k _ t' _ (Int.emod_nonneg _ (by omega)) (Int.emod_lt_of_pos _ hm0) h3 h4
structure NxAt (K:Q0) (H0 H:Hp) (p:Addr) (t:Nat):Prop where
 ex:∃ (a:Addr) (ns:List Int) (u x:Int),H p=some (.lst [.ref a,.int u,.int x])/\(∀ H',Sm p p H0 H'->SqL K H' a (ns.map V.int))/\0<=u/\u<=(t:Int)
 sm:Sm p p H0 H
section
variable {H0 H H':Hp} {p D:Addr} {t u:Nat} {o:HO}
theorem NxAt.mono (h:NxAt K H0 H p t) (l:t<=u):NxAt K H0 H p u:=by
 obtain ⟨a,ns,y,x,h1,h2,h3,h4⟩:=h.ex
 exact ⟨⟨a,ns,y,x,h1,h2,h3,by omega⟩,h.sm⟩
theorem NxAt.same (h:NxAt K H0 H p t) (s:Same H H'):NxAt K H0 H' p t:=by
 obtain ⟨a,ns,y,x,h1,h2⟩:=h.ex
 exact ⟨⟨a,ns,y,x,s _ _ h1,h2⟩,h.sm.trans s.sm⟩
theorem NxAt.ne (h:NxAt K H0 H p t) (hD:H D=none):D≠p:=fun e=>by
 obtain ⟨_,_,_,_,z,_⟩:=h.ex
 rw [<- e,hD] at z;cases z
theorem NxAt.free (h:NxAt K H0 H p t) (hD:H D=none):H0 D=none:=h.sm.free hD (h.ne hD) (h.ne hD)
theorem NxAt.put (h:NxAt K H0 H p t) (h1:D≠p) (h2:H0 D=none):NxAt K H0 (upd H D o) p t:=by
 obtain ⟨a,ns,y,x,e1,e2⟩:=h.ex
 exact ⟨⟨a,ns,y,x,by rw [aD h1.symm];exact e1,e2⟩,h.sm.upd h2⟩
theorem NxAt.ts (h:NxAt K H0 H p t) (s:Sm p p H H'):Tk H H':=fun b xs e=>by
 obtain ⟨_,_,_,_,z,_⟩:=h.ex
 have n:b≠p:=fun q=>by rw [q,z] at e;cases e
 exact s _ _ e n n
theorem NxAt.noT (h:NxAt K H0 H p t) {b:Addr} {xs:List V} (e:H b=some (.tup xs)):b≠p:=fun q=>by
 obtain ⟨_,_,_,_,z,_⟩:=h.ex
 rw [q,z] at e;cases e
end
def spNx (K:Q0):Sp:=fun vs H Q _=>∃ (H0:Hp) (p:Addr) (m:Int) (t:Nat),vs=[.ref p,.int m]/\NxAt K H0 H p t/\(0 < m/\m < 1073741824)/\t < 900000/\
 ∀ (r:Int) (H':Hp),0<=r->r < m->NxAt K H0 H' p (t+1)->Sm p p H H'->Q (.int r) H'
theorem zC {n j:Nat} (h:j < n):ixN n (j:Int)=some j:=by
 unfold ixN
 rw [if_pos (by omega),if_pos (by omega)];simp
theorem lC {α:Type}:∀ {ls:List α} {i:Nat} (h:i < ls.length),(ls[i]::ls.eraseIdx i).Perm ls
 | x::r,0,_=>List.Perm.refl _
 | x::r,i+1,h=>by
  have ih:=lC (ls:=r) (i:=i) (by simpa using h)
  exact (List.Perm.swap _ _ _).trans (ih.cons x)
theorem bH (T:Txt K mg w):FnK P w K mg base 2 "_law_next" ["_law_pen","_law_many"] (spNx K):=(oZ T).imp fun vs H Q E h=>by
 obtain ⟨H0,p,m,t,rfl,hn,hm,ht,k⟩:=h
 obtain ⟨a,ns,u,x,h1,h2,h3,h4⟩:=hn.ex
 have sU:∀ o,Sm p p H (upd H p o):=fun o b u hb n _=>by rw [aD n];exact hb
 refine ⟨p,a,ns,m,u,x,rfl,h1,fun o=>h2 _ (hn.sm.trans (sU o)),h2 _ hn.sm,⟨h3,by omega⟩,hm,fun r t' x' r0 r1 t0 t1=>?_⟩
 exact k r _ r0 r1 ⟨⟨a,ns,t',x',a7,h2,t0,by push_cast;omega⟩,hn.sm.trans (sU _)⟩ (sU _)
def spTurn (K:Q0):Sp:=fun vs H Q _=>∃ (H0:Hp) (p a:Addr) (xs:List V) (t:Nat),vs=[.ref p,.ref a]/\NxAt K H0 H p t/\t+100 < 900000/\(SqL K H a xs\/SqT K H a xs)/\xs.length<=100/\
 ∀ (L:Addr) (ys:List V) (H':Hp),H L=none->H' L=some (.lst ys)->ys.Perm xs->NxAt K H0 H' p (t+100)->Sm p p H H'->Q (.ref L) H'
theorem gZ (T:Txt K mg w):FnK P w K mg base 3 "_law_turned" ["_law_pen","_law_some"] (spTurn K):=by
 have aO:FnK P w K mg base 2 "_law_next" ["_law_pen","_law_many"] (spNx K):=bH T
 refine T.o5.okS fA (fun vs H Q E h=>?_) (fun f cdv A outer s H vs Q E hr h=>?_)
 ·obtain ⟨H0,p,a,xs,t,rfl,_⟩:=h
  rfl
 ·obtain ⟨H0,p,a,xs,t,rfl,hn,ht,ha,hx,k⟩:=h
  have hu:=aQ hr
  have hu0:=Qx (aQ hr)
  have hsz:sizeLine=16777216:=QL
  refine ⟨_,(aA (aR (i:=2) fA.nd rfl (Or.inl rfl) (bO (jF K) (by rfl) T.nN PyProof.Rows.boot_list (a9 (zv 1) sa_nil)))
   (aA (aR (i:=3) fA.nd rfl (Or.inl rfl) (cB sa_nil))
   (aA (fL PassesOwn.never (aJ (iF hu0) (zv 2) (cB sa_nil) (nomark _)) (aC (eJ (lM K QH QJ QK bV (zv 3) (aK (lM K QH PySem.F.slot_list_pop PySem.F.type_list_pop wG (zv 2) (aK (bA aO (hr.mono (by decide)) (a9 (zv 0) (aK (bL (bJ K) (by rfl) T.n_len PySem.boot_len (a9 (zv 2) sa_nil)) sa_nil))) sa_nil)) sa_nil)))))
   (aC (aN (zv 3)))))),?_⟩
  refine aL ⟨a,xs,rfl,ha,fun l0 hl0=>?_⟩
  refine aL ⟨(show 0<=sizeLine by decide),fun l1 hl1=>?_⟩
  have s1:=Same.upd hl0 (.lst xs)
  have s2:=Same.upd hl1 (.lst [])
  have e0:l0≠p:=hn.ne hl0
  have e1:l1≠p:=(hn.same s1).ne hl1
  have n01:l0≠l1:=aM a7 hl1
  have f0:=hn.free hl0
  have f1:=(hn.same s1).free hl1
  have g0:upd (upd H l0 (.lst xs)) l1 (.lst []) l0=some (.lst xs):=s2 _ _ a7
  have g1:upd (upd H l0 (.lst xs)) l1 (.lst []) l1=some (.lst []):=a7
  have hn2:=(hn.same s1).same s2
  have sm2:Sm p p H (upd (upd H l0 (.lst xs)) l1 (.lst [])):=(s1.trans s2).sm
  dsimp only
  generalize upd (upd H l0 (.lst xs)) l1 (.lst [])=H2 at g0 g1 hn2 sm2
  have fl0:H l0=none:=hl0
  have fl1:H l1=none:=s1.free hl1
  refine aV (fun σ' H'=>∃ ys,σ'=[some (.ref p),some (.ref a),some (.ref l0),some (.ref l1)]/\H' l1=some (.lst ys)/\ys.Perm xs/\NxAt K H0 H' p (t+100)/\Sm p p H H') ?_ ?_
  ·intro nx hnx
   refine ⟨fun m σ' H'=>∃ (ls ys:List V),σ'=[some (.ref p),some (.ref a),some (.ref l0),some (.ref l1)]/\H' l0=some (.lst ls)/\H' l1=some (.lst ys)/\ls.length=m/\(ys++ls).Perm xs/\NxAt K H0 H' p (t+ys.length)/\Sm p p H H',⟨xs.length,xs,[],rfl,g0,g1,rfl,by simp,hn2,sm2⟩,?_⟩
   rintro m σ' H3 ⟨ls,ys,rfl,q0,q1,q2,q3,q4,q5⟩
   have hyl:ys.length+ls.length=xs.length:=by have:=q3.length_eq;rw [Qk] at this;exact this
   refine ⟨(show 0<=sizeLine by decide),fun b hb=>⟨aM q0 hb,ls,(Same.upd hb _) _ _ q0,a7,_,rfl,iteB (fun c=>?_) (fun c=>?_)⟩⟩
   ·have s3:=Same.upd hb (.lst [])
    have q4':=q4.same s3
    have q0':=s3 _ _ q0
    have q1':=s3 _ _ q1
    have q5':=q5.trans s3.sm
    generalize upd H3 b (.lst [])=H4 at q4' q0' q1' q5'
    have hpos:0 < ls.length:=by
     cases ls with
     | nil=>exact absurd c (by decide)
     | cons x r=>simp
    refine ⟨fun σ' H''=>∃ m',m' < m/\∃ (ls ys:List V),σ'=[some (.ref p),some (.ref a),some (.ref l0),some (.ref l1)]/\H'' l0=some (.lst ls)/\H'' l1=some (.lst ys)/\ls.length=m'/\(ys++ls).Perm xs/\NxAt K H0 H'' p (t+ys.length)/\Sm p p H H'',fun σ' H'' h=>h,?_⟩
    refine ⟨.inl ⟨rfl,ys,SqL.of q1'⟩,.inl ⟨rfl,ls,SqL.of q0'⟩,.inl ⟨ls,.inl (SqL.of q0'),H0,p,_,_,rfl,q4',⟨by omega,by omega⟩,by omega,fun r H5 r0 r1 hn5 sm5=>?_⟩⟩
    obtain ⟨i,rfl⟩:∃ i:Nat,r=(i:Int):=⟨r.toNat,by omega⟩
    have hi:i < ls.length:=by omega
    have p0:=sm5 _ _ q0' e0 e0
    have p1:=sm5 _ _ q1' e1 e1
    refine ⟨l0,ls,(i:Int),i,ls[i],rfl,rfl,p0,by omega,by omega,(o8 (zC hi)).1,Qa hi,l1,ys,ls[i],rfl,rfl,by rw [aD n01.symm];exact p1,by omega,ls.length - 1,by omega,ls.eraseIdx i,ys++[ls[i]],rfl,by rw [aD n01];exact a7,a7,?_,?_,?_,(q5'.trans sm5).upd fl0 |>.upd fl1⟩
    ·rw [List.length_eraseIdx,if_pos hi]
    ·rw [List.append_assoc]
     exact ((lC hi).append_left ys).trans q3
    ·rw [Qk]
     exact (hn5.put e0 f0).put e1 f1
   ·have hnil:ls=[]:=by
     cases ls with
     | nil=>rfl
     | cons x r=>exact absurd c (by simp)
    subst hnil
    rw [List.append_nil] at q3
    have s3:=Same.upd hb (.lst [])
    exact hnx _ _ ⟨ys,rfl,s3 _ _ q1,q3,(q4.same s3).mono (by have:=q3.length_eq;omega),q5.trans s3.sm⟩
  ·rintro σ' H' ⟨ys,rfl,q1,q2,q3,q4⟩
   exact k l1 ys H' fl1 q1 q2 q3 q4
def baseA:List Str:=["a","ab","b","ba"]
def baseB:List Str:=["case","from","part","to"]
def WW:List Str:=baseA++baseB
theorem a0j:∀ z∈WW,isName z=true/\Wd z:=fun z hz=>by
 simp only [WW,baseA,baseB,List.cons_append,List.nil_append,Qp,QA,or_false] at hz
 rcases hz with rfl | rfl | rfl | rfl | rfl | rfl | rfl | rfl<;>exact ⟨by decide+kernel,fE (by decide) (by decide)⟩
structure WN (os:List Str):Prop where
 ris:rising os=true
 len:os.length<=4
 ww:∀ z∈os,z∈WW
theorem pwA:baseA.Pairwise fun a b=>strLt a b=true:=by decide+kernel
theorem pwB:baseB.Pairwise fun a b=>strLt a b=true:=by decide+kernel
theorem WN.of {b os:List Str} (hb:b=baseA\/b=baseB) (s:os.Sublist b):WN os:=by
 rcases hb with rfl | rfl
 ·exact ⟨fJ (pwA.sublist s),s.length_le,fun z hz=>List.mem_append.mpr (.inl (s.subset hz))⟩
 ·exact ⟨fJ (pwB.sublist s),s.length_le,fun z hz=>List.mem_append.mpr (.inr (s.subset hz))⟩
def spWords (K:Q0):Sp:=fun vs H Q _=>∃ (H0:Hp) (p:Addr) (t:Nat),vs=[.ref p]/\NxAt K H0 H p t/\t+5 < 900000/\
 ∀ (L:Addr) (os:List Str) (H':Hp),H L=none->H' L=some (.lst (os.map V.str))->WN os->NxAt K H0 H' p (t+5)->Sm p p H H'->Q (.ref L) H'
theorem oF (T:Txt K mg w):FnK P w K mg base 3 "_law_words" ["_law_pen"] (spWords K):=by
 have aO:FnK P w K mg base 2 "_law_next" ["_law_pen","_law_many"] (spNx K):=bH T
 refine T.qK.okS nX (fun vs H Q E h=>?_) (fun f cdv A outer s H vs Q E hr h=>?_)
 ·obtain ⟨H0,p,t,rfl,_⟩:=h
  rfl
 ·obtain ⟨H0,p,t,rfl,hn,ht,k⟩:=h
  have hu:=aQ hr
  have hu0:=Qx (aQ hr)
  have hsz:sizeLine=16777216:=QL
  refine ⟨_,(aC (aN (i9 (own:=["_law_word"]) (idx:=[0]) (N':=["_law_word","_law_pen"]) (cE (defScope eW) (["_law_pen"]:List Str) (by decide+kernel)) rfl (j6 K (cB (aB aU (aB aU (aB aU (aB aU sa_nil)))))) (fun _ _ _ _ _ _=>(aG (i:=0) (show List.Nodup (["_law_word","_law_pen"]:List Str) by decide+kernel) rfl (Or.inl rfl))) (fun _ _ _ _ _ _=>(a0Y (aJ (bX hu0) (bA aO (hr.mono (by decide)) (a9 (zv 1) (aB aE sa_nil))) aE (nomark _)))) (fun _ _ _ _ _ _=>(zv 0))))),?_⟩
  refine ⟨(show 4<=sizeLine by decide),fun S hl1=>?_⟩
  have s1:=Same.upd hl1 (.lst [V.str "a",V.str "ab",V.str "b",V.str "ba"])
  have gS0:upd H S (.lst [V.str "a",V.str "ab",V.str "b",V.str "ba"]) S=some (.lst (baseA.map V.str)):=a7
  have hn4:=(hn.same s1).mono (u:=t+1) (by omega)
  have eS:S≠p:=hn.ne hl1
  generalize upd H S (.lst [V.str "a",V.str "ab",V.str "b",V.str "ba"])=H4 at s1 gS0 hn4 ⊢
  obtain ⟨bs,hb,gS⟩:∃ bs:List Str,(bs=baseA\/bs=baseB)/\H4 S=some (.lst (bs.map V.str)):=⟨baseA,.inl rfl,gS0⟩
  have hbl:bs.length=4:=by rcases hb with rfl | rfl<;>rfl
  have smA:Sm p p H H4:=s1.sm
  refine Or.inl ⟨⟨_,SqL.of gS⟩,fun D hD=>?_⟩
  have nDp:D≠p:=hn4.ne hD
  have nDS:D≠S:=fun e=>by rw [e,gS] at hD;cases hD
  have fD:H0 D=none:=hn4.free hD
  have hD0:H D=none:=smA.free hD nDp nDp
  refine fW (bZ (bs.map V.str)) (fun i τ H2=>∃ (v:Option V) (os:List Str),τ=[v,some (.ref p)]/\H2 D=some (.lst (os.map V.str))/\os.Sublist (bs.take i)/\H2 S=some (.lst (bs.map V.str))/\NxAt K H0 H2 p (t+1+i)/\Sm p p H H2)
   ⟨none,[],rfl,a7,List.Sublist.refl _,by rw [aD nDS.symm];exact gS,hn4.same (Same.upd hD _),smA.upd hD0⟩ (by rintro i τ H2 _ ⟨_,_,_,_,_,q,_⟩;exact SqL.of q) ?_ ?_
  ·rintro i τ H5 hi ⟨v,os,rfl,q1,q2,q4,q5,q6⟩
   rw [Ql] at hi
   rw [gM bs i hi]
   have hti:bs.take (i+1)=bs.take i++[bs.getD i ""]:=by
    rw [Qs,Qb,Qa hi];rfl
   generalize bs.getD i ""=z at hti
   have hol:os.length<=i:=by have:=q2.length_le;simp at this;omega
   refine ⟨H0,p,2,t+1+i,rfl,q5,⟨by decide,by decide⟩,by omega,fun r H6 r0 r1 hp3 sm3=>?_⟩
   refine ⟨rfl,_,rfl,?_⟩
   have g4:=sm3 _ _ q4 eS eS
   have g1:=sm3 _ _ q1 nDp nDp
   refine iteB (fun _=>?_) (fun _=>?_)
   ·exact ⟨_,g1,by rw [Ql];exact small1000 (by omega),_,os++[z],rfl,by rw [a7,Qm];rfl,by rw [hti];exact q2.append (List.Sublist.refl _),by rw [aD nDS.symm];exact g4,hp3.put nDp fD,(q6.trans sm3).upd hD0⟩
   ·exact ⟨_,os,rfl,g1,by rw [hti];exact q2.trans (List.sublist_append_left _ _),g4,hp3,q6.trans sm3⟩
  ·rintro τ H5 ⟨v,os,rfl,q1,q2,q4,q5,q6⟩
   rw [Ql] at q2 q5
   rw [Qo] at q2
   exact k D os H5 hD0 q1 (WN.of hb q2) (q5.mono (by omega)) q6
structure TxtsAt (H:Hp) (l:Addr) (ss:List Str):Prop where
 e:H l=some (.lst (ss.map V.str))
 ne:ss≠[]
 few:ss.length<=60
 wd:∀ z∈ss,Wd z
theorem xU {H0 H:Hp} {p l:Addr} {t:Nat} {ss:List Str} (h:TxtsAt H l ss) (hp:NxAt K H0 H p t):l≠p:=fun q=>by
 obtain ⟨_,_,_,_,z,_⟩:=hp.ex
 have e:=h.e
 have ne:=h.ne
 rw [q,z] at e
 cases ss with
 | nil=>exact ne rfl
 | cons a r=>cases e
theorem TxtsAt.nx {H0 H H':Hp} {p l:Addr} {t:Nat} {ss:List Str} (h:TxtsAt H l ss) (hp:NxAt K H0 H p t) (s:Sm p p H H'):TxtsAt H' l ss:=⟨s _ _ h.e (xU h hp) (xU h hp),h.ne,h.few,h.wd⟩
theorem TxtsAt.same {H H':Hp} {l:Addr} {ss:List Str} (h:TxtsAt H l ss) (s:Same H H'):TxtsAt H' l ss:=⟨s _ _ h.e,h.ne,h.few,h.wd⟩
theorem TxtsAt.at {H:Hp} {l:Addr} {ss:List Str} (h:TxtsAt H l ss) (r:Int) (h0:0<=r) (h1:r < ss.length):∃ z,atI (ss.map V.str) r=some (.str z)/\ss[r.toNat]? =some z/\Wd z:=by
 obtain ⟨c,hc1,hc2⟩:=kR (ss.map V.str) r h0 (by rw [Ql];exact h1)
 rw [Qq] at hc1
 cases e:ss[r.toNat]? with
 | none=>rw [e] at hc1;cases hc1
 | some z=>
  rw [e] at hc1
  cases hc1
  exact ⟨z,hc2,rfl,h.wd z (QC e)⟩
theorem TxtsAt.pos {H:Hp} {l:Addr} {ss:List Str} (h:TxtsAt H l ss):0 < ss.length:=List.length_pos_iff.mpr h.ne
def AhK (ns:List Str) (k:Nat) (o:Option Str):Prop:=∀ y,o=some y->∃ i,i < k/\ns[i]? =some y
def spHead5 (K:Q0):Sp:=fun vs H Q _=>∃ (H0:Hp) (p nm:Addr) (k t:Nat) (ns:List Str),vs=[.ref p,.ref nm,.int (k:Int)]/\NxAt K H0 H p t/\t+20 < 900000/\TxtsAt H nm ns/\(∀ z∈ns,isName z=true)/\k<=ns.length/\
 ∀ (v:V) (H':Hp),HG4 H' ns WW v (AhK ns k)->NxAt K H0 H' p (t+20)->Sm p p H H'->Q v H'
theorem jU (T:Txt K mg w):FnK P w K mg base 4 "_law_head" ["_law_pen","_law_names","_law_ahead"] (spHead5 K):=by
 have aO:FnK P w K mg base 2 "_law_next" ["_law_pen","_law_many"] (spNx K):=bH T
 have pO:FnK P w K mg base 3 "_law_words" ["_law_pen"] (spWords K):=oF T
 refine T.rB.okS gC (fun vs H Q E h=>?_) (fun f cdv A outer s H vs Q E hr h=>?_)
 ·obtain ⟨H0,p,nm,k,t,ns,rfl,_⟩:=h
  rfl
 ·obtain ⟨H0,p,nm,ka,t,ns,rfl,hn,ht,tn,hnn,hk,k⟩:=h
  have hu:=aQ hr
  have hu0:=Qx (aQ hr)
  have hsz:sizeLine=16777216:=QL
  have npos:=tn.pos
  have nfew:=tn.few
  refine ⟨_,(aA (aR (i:=3) gC.nd rfl (Or.inl rfl) (bA aO (hr.mono (by decide)) (a9 (zv 0) (aB aE sa_nil))))
   (aA (bN (aJ i6 (zv 3) aE (nomark _)) (aC (aN (aZ (aY K) (cB (bE (aT (aB aU sa_nil)) (bE (aT (aB aU sa_nil)) sa_nil))) (zv 3) (fun _ _=>rfl)))) aP)
   (aA (bN (xL (aJ (bX hu0) (zv 3) aE (nomark _)) (rH (aJ yF (zv 2) aE (nomark _)))).pt (aC (aN (aT (aB aU (aF (aZ (aY K) (zv 1) (bA aO (hr.mono (by decide)) (a9 (zv 0) (a9 (zv 2) sa_nil))) (fun _ _=>rfl)) sa_nil))))) aP)
   (aA (bN (aJ i6 (zv 3) aE (nomark _)) (aA (aR (i:=4) gC.nd rfl (Or.inl rfl) (aZ (aY K) (zv 1) (bA aO (hr.mono (by decide)) (a9 (zv 0) (aK (bL (bJ K) (by rfl) T.n_len PySem.boot_len (a9 (zv 1) sa_nil)) sa_nil))) (fun _ _=>rfl)))
   (aC (aN (aT (aB aU (a9 (zv 4) (aF (aZ (aY K) (zv 1) (bA aO (hr.mono (by decide)) (a9 (zv 0) (aK (bL (bJ K) (by rfl) T.n_len PySem.boot_len (a9 (zv 1) sa_nil)) sa_nil))) (fun _ _=>rfl)) sa_nil))))))) aP)
   (aC (aN (aT (aF (aZ (aY K) (cB (aB aU (aB aU sa_nil))) (bM eQ (zv 3) aE) (fun _ _=>rfl)) (aK (bO (d6 K) (by rfl) T.eZ QG (dC (i9 (own:=["_law_word"]) (idx:=[0,1]) (N':=["_law_word","_law_pen","_law_names"]) (cE (defScope fP) (["_law_pen","_law_names","_law_ahead","_law_way","_law_one"]:List Str) (by decide+kernel)) rfl (j6 K (bA pO (hr.mono (by decide)) (a9 (zv 0) sa_nil))) (fun _ _ _ _ _ _=>(aG (i:=0) (show List.Nodup (["_law_word","_law_pen","_law_names"]:List Str) by decide+kernel) rfl (Or.inl rfl))) (fun _ _ _ _ _ _=>cN) (fun _ _ _ _ _ _=>(aT (a9 (zv 0) (aF (aZ (aY K) (zv 2) (bA aO (hr.mono (by decide)) (a9 (zv 1) (aK (bL (bJ K) (by rfl) T.n_len PySem.boot_len (a9 (zv 2) sa_nil)) sa_nil))) (fun _ _=>rfl)) sa_nil))))) sa_nil)) sa_nil))))))))),?_⟩
  refine aL ⟨H0,p,10,t,rfl,hn,⟨by decide,by decide⟩,by omega,fun wy H1 w0 w1 hn1 sm1=>?_⟩
  have tn1:=tn.nx hn sm1
  refine aV (fun σ' H'=>σ'=[some (.ref p),some (.ref nm),some (.int (ka:Int)),some (.int wy),none]/\H1=H') ?_ ?_
  ·intro nx hnx
   refine ⟨_,rfl,iteB (fun c1=>?_) (fun c1=>hnx _ _ ⟨rfl,rfl⟩)⟩
   have c1':wy < 2:=Qt c1
   refine ⟨(show 1<=sizeLine by decide),fun q1 hq1=>⟨(show 1<=sizeLine by decide),fun q2 hq2=>⟨(show 2<=sizeLine by decide),fun O hO=>?_⟩⟩⟩
   have s1:=Same.upd hq1 (.tup [.str "all"])
   have s2:=Same.upd hq2 (.tup [.str "none"])
   have s3:=Same.upd hO (.lst [.ref q1,.ref q2])
   have sA:=(s1.trans s2).trans s3
   have g1:=s3 _ _ (s2 _ _ (a7:upd H1 q1 (.tup [.str "all"]) q1=some (.tup [.str "all"])))
   have g2:=s3 _ _ (a7:upd (upd H1 q1 (.tup [.str "all"])) q2 (.tup [.str "none"]) q2=some (.tup [.str "none"]))
   rcases (show wy=0\/wy=1 by omega) with rfl | rfl
   ·exact ⟨_,.ref q1,.inl (SqL.of a7),rfl,k _ _ (zI g1 (fun _ h=>nomatch h)) ((hn1.same sA).mono (by omega)) (sm1.trans sA.sm)⟩
   ·exact ⟨_,.ref q2,.inl (SqL.of a7),rfl,k _ _ (wT g2 (fun _ h=>nomatch h)) ((hn1.same sA).mono (by omega)) (sm1.trans sA.sm)⟩
  rintro σ' H' ⟨rfl,rfl⟩
  refine aV (fun σ' H'=>σ'=[some (.ref p),some (.ref nm),some (.int (ka:Int)),some (.int wy),none]/\H1=H') ?_ ?_
  ·intro nx hnx
   refine ⟨rfl,_,rfl,iteB (fun h2=>⟨_,rfl,iteB (fun h3=>?_) (fun _=>hnx _ _ ⟨rfl,rfl⟩)⟩) (fun h2=>iteB (fun c=>absurd c (by decide)) fun _=>hnx _ _ ⟨rfl,rfl⟩)⟩
   have h3':(0:Int) < (ka:Int):=Qt h3
   refine ⟨H0,p,(ka:Int),_,rfl,hn1,⟨by omega,by omega⟩,by omega,fun r H2 r0 r1 hn2 sm2=>?_⟩
   have tn2:=tn1.nx hn1 sm2
   obtain ⟨y,hya,hyi,hyw⟩:=tn2.at r r0 (by omega)
   refine ⟨_,_,.inl (SqL.of tn2.e),hya,(show 2<=sizeLine by decide),fun c hc=>?_⟩
   refine k _ _ (a1w a7 (hnn _ (QC hyi)) (QC hyi) (fun y' e=>?_)) ((hn2.same (Same.upd hc _)).mono (by omega)) ((sm1.trans sm2).trans (Same.upd hc _).sm)
   cases e
   exact ⟨r.toNat,by omega,hyi⟩
  rintro σ' H' ⟨rfl,rfl⟩
  refine aV (fun σ' H'=>σ'=[some (.ref p),some (.ref nm),some (.int (ka:Int)),some (.int wy),none]/\H1=H') ?_ ?_
  ·intro nx hnx
   refine ⟨_,rfl,iteB (fun c1=>?_) (fun c1=>hnx _ _ ⟨rfl,rfl⟩)⟩
   refine aL (.inl ⟨_,.inl (SqL.of tn1.e),H0,p,_,_,rfl,hn1,⟨by rw [Ql];omega,by rw [Ql];omega⟩,by omega,fun r H2 r0 r1 hn2 sm2=>?_⟩)
   rw [Ql] at r1
   have tn2:=tn1.nx hn1 sm2
   obtain ⟨x,hxa,hxi,hxw⟩:=tn2.at r r0 r1
   refine ⟨_,_,.inl (SqL.of tn2.e),hxa,.inl ⟨_,.inl (SqL.of tn2.e),H0,p,_,_,rfl,hn2,⟨by rw [Ql];omega,by rw [Ql];omega⟩,by omega,fun r2 H3 b0 b1 hn3 sm3=>?_⟩⟩
   rw [Ql] at b1
   have tn3:=tn2.nx hn2 sm3
   obtain ⟨y,hya,hyi,hyw⟩:=tn3.at r2 b0 b1
   refine ⟨_,_,.inl (SqL.of tn3.e),hya,(show 3<=sizeLine by decide),fun b hb=>?_⟩
   exact k _ _ (zM a7 (hnn _ (QC hxi)) (hnn _ (QC hyi)) (QC hxi) (QC hyi) (fun _ h=>nomatch h)) ((hn3.same (Same.upd hb _)).mono (by omega)) (((sm1.trans sm2).trans sm3).trans (Same.upd hb _).sm)
  rintro σ' H' ⟨rfl,rfl⟩
  refine ⟨(show 2<=sizeLine by decide),fun O hO=>?_⟩
  have sO:=Same.upd hO (.lst [.str "box",.str "pick"])
  have gO:upd H1 O (.lst [.str "box",.str "pick"]) O=some (.lst [.str "box",.str "pick"]):=a7
  have hnO:=hn1.same sO
  have tnO:=tn1.same sO
  have smO:=sm1.trans sO.sm
  dsimp only
  generalize upd H1 O (.lst [.str "box",.str "pick"])=H2 at sO gO hnO tnO smO
  obtain ⟨so,hat,hso⟩:∃ so:Str,atI [V.str "box",V.str "pick"] (wy % 2)=some (.str so)/\(so="box"\/so="pick"):=by
   rcases (show wy % 2=0\/wy % 2=1 by omega) with e | e
   ·rw [e];exact ⟨"box",rfl,.inl rfl⟩
   ·rw [e];exact ⟨"pick",rfl,.inr rfl⟩
  refine ⟨(show (0:Int) < 2 by decide),_,_,.inl (SqL.of gO),hat,H0,p,_,rfl,hnO,by omega,fun D os H3 hD0 q1 wn q5 sm3=>?_⟩
  have q6:Sm p p H H3:=smO.trans sm3
  have tn3:=tnO.nx hnO sm3
  have hol:=wn.len
  have nDp:D≠p:=hnO.ne hD0
  refine Or.inl ⟨⟨_,SqL.of q1⟩,fun D2 hD2=>?_⟩
  have n2p:D2≠p:=q5.ne hD2
  have n2D:D2≠D:=fun e=>by rw [e,q1] at hD2;cases hD2
  have hD20:H D2=none:=q6.free hD2 n2p n2p
  have f2:H0 D2=none:=q5.free hD2
  have n2n:D2≠nm:=fun e=>by rw [e,tn3.e] at hD2;cases hD2
  refine fW (bZ (os.map V.str)) (fun i τ H3=>∃ (v:Option V) (xs:List V) (rs:List (Str×V)),τ=[v,some (.ref p),some (.ref nm)]/\H3 D2=some (.lst xs)/\PairsAt H3 xs (rowsK rs)/\rs.map (·.1)=os.take i/\(∀ r∈rs,∃ y,r.2=.str y/\y∈ns/\Wd y)/\H3 D=some (.lst (os.map V.str))/\NxAt K H0 H3 p (t+1+5+i)/\Sm p p H H3/\TxtsAt H3 nm ns)
   ⟨none,[],[],rfl,a7,jG,rfl,(fun _ h=>nomatch h),by rw [aD n2D.symm];exact q1,(q5.same (Same.upd hD2 _)).mono (by omega),q6.upd hD20,tn3.same (Same.upd hD2 _)⟩ (by rintro i τ H2 _ ⟨_,_,_,_,_,_,_,_,q,_⟩;exact SqL.of q) ?_ ?_
  ·rintro i τ H4 hi ⟨v,xs,rs,rfl,r1,r2,r2n,r3,r4,r5,r6,tn4⟩
   rw [Ql] at hi
   rw [gM os i hi]
   have hti:os.take (i+1)=os.take i++[os.getD i ""]:=by
    rw [Qs,Qb,Qa hi];rfl
   generalize os.getD i ""=z at hti
   have hrl:rs.length=i:=by have:=congrArg List.length r2n;simp at this;omega
   have hxl:xs.length=i:=by have:=r2.1;simp at this;omega
   refine .inl ⟨_,.inl (SqL.of tn4.e),H0,p,_,t+1+5+i,rfl,r5,⟨by rw [Ql];omega,by rw [Ql];omega⟩,by omega,fun r H5 a0 a1 hp4 sm4=>?_⟩
   rw [Ql] at a1
   have tn5:=tn4.nx r5 sm4
   obtain ⟨n,hna,hni,hnw⟩:=tn5.at r a0 a1
   refine ⟨_,_,.inl (SqL.of tn5.e),hna,(show 2<=sizeLine by decide),fun b hb=>?_⟩
   have g1:=sm4 _ _ r1 n2p n2p
   have g4:=sm4 _ _ r4 nDp nDp
   have nbD:D2≠b:=aM g1 hb
   have nbD':D≠b:=aM g4 hb
   have tk4:Tk H4 H5:=r5.ts sm4
   have tk5:Tk H4 (upd (upd H5 b (.tup [.str z,.str n])) D2 (.lst (xs++[.ref b]))):=(tk4.trans (Same.upd hb _).ts).set (by rw [aD nbD];exact g1) (by intro _ z;cases z)
   have hb5:upd (upd H5 b (.tup [.str z,.str n])) D2 (.lst (xs++[.ref b])) b=some (.tup [.str z,.str n]):=by rw [aD nbD.symm];exact a7
   have tn6:TxtsAt (upd (upd H5 b (.tup [.str z,.str n])) D2 (.lst (xs++[.ref b]))) nm ns:=⟨by rw [aD n2n.symm];exact (Same.upd hb _) _ _ tn5.e,tn5.ne,tn5.few,tn5.wd⟩
   refine ⟨xs,by rw [aD nbD];exact g1,by omega,_,xs++[.ref b],rs++[(z,.str n)],rfl,a7,iH (r2.ts tk5) hb5,by rw [Qm,r2n,hti];rfl,fun r' hr'=>?_,by rw [aD n2D.symm,aD nbD'];exact g4,((hp4.same (Same.upd hb _)).put n2p f2),((r6.trans sm4).trans (Same.upd hb _).sm).upd hD20,tn6⟩
   rcases List.mem_append.mp hr' with hx | hx
   ·exact r3 r' hx
   ·rw [List.mem_singleton.mp hx]
    exact ⟨n,rfl,QC hni,hnw⟩
  ·rintro τ H4 ⟨v,xs,rs,rfl,r1,r2,r2n,r3,r4,r5,r6,tn4⟩
   rw [Ql] at r2n r5
   rw [Qo] at r2n
   have hrl:rs.length=os.length:=by rw [<- r2n,Ql]
   have hxl:xs.length=os.length:=by have:=r2.1;simp at this;omega
   refine ⟨D2,xs,rfl,.inl ⟨SqL.of r1,fun c hc=>⟨(show 2<=sizeLine by decide),fun b hb=>?_⟩⟩⟩
   have s5:=Same.upd hc (.tup xs)
   have s6:=Same.upd hb (.tup [.str so,.ref c])
   have gc:=s6 _ _ (a7:upd H4 c (.tup xs) c=some (.tup xs))
   have hmem:∀ r'∈rs,r'.1∈os:=fun r' hr'=>by rw [<- r2n];exact List.mem_map.mpr ⟨r',hr',rfl⟩
   have tk:=s5.ts.trans s6.ts
   have hprs:=a1N (r2.ts tk) (fun r' hr'=>(a0j _ (wn.ww _ (hmem r' hr'))).1) (fun r' hr'=>by obtain ⟨y,e1,e2,_⟩:=r3 r' hr';exact ⟨y,e1,e2,hnn y e2⟩) (by rw [r2n];exact wn.ris)
   exact k _ _ (qW hso a7 gc (by omega) hprs (fun q hq=>by obtain ⟨q',hq',rfl⟩:=List.mem_map.mp hq;exact wn.ww _ (hmem q' hq')) (fun _ h=>nomatch h)) ((r5.same (s5.trans s6)).mono (by omega)) (r6.trans (s5.trans s6).sm)
def N8:List Str:=["x","xa","xb","y","ya","z","ka","kb"]
theorem mF:∀ z∈N8,isName z=true/\Wd z:=fun z hz=>by
 simp only [N8,Qp,QA,or_false] at hz
 rcases hz with rfl | rfl | rfl | rfl | rfl | rfl | rfl | rfl<;>exact ⟨by decide+kernel,fE (by decide) (by decide)⟩
theorem a2L:N8.Nodup:=by decide+kernel
theorem uQ {ys:List V} {l:List Str} (h:ys.Perm (l.map V.str)):∃ zs:List Str,zs.Perm l/\ys=zs.map V.str:=by
 refine ⟨ys.map strV,?_,?_⟩
 ·have:=h.map strV
  rw [Qn] at this
  have e:(strV∘V.str)=(id:Str->Str):=rfl
  rw [e,List.map_id] at this
  exact this
 ·rw [Qn]
  have:∀ y∈ys,(V.str∘strV) y=y:=fun y hy=>by
   obtain ⟨z,_,rfl⟩:=List.mem_map.mp (h.mem_iff.mp hy)
   rfl
  rw [List.map_congr_left this,List.map_id']
theorem p8 {α β:Type} {R:α->β->Prop} {xs ys:List α} (p:ys.Perm xs):∀ {rs:List β},Paired R xs rs->∃ rs',rs'.Perm rs/\Paired R ys rs':=by
 induction p with
 | nil=>intro rs h;cases h;exact ⟨[],.refl _,.nil⟩
 | cons x p ih=>
  intro rs h
  cases h with
  | cons a b=>
   obtain ⟨rs',q1,q2⟩:=ih b
   exact ⟨_::rs',q1.cons _,.cons a q2⟩
 | swap x y l=>
  intro rs h
  cases h with
  | cons a h=>
   cases h with
   | cons b h=>exact ⟨_::_::_,.swap _ _ _,.cons b (.cons a h)⟩
 | trans p1 p2 ih1 ih2=>
  intro rs h
  obtain ⟨r1,a1,b1⟩:=ih2 h
  obtain ⟨r2,a2,b2⟩:=ih1 b1
  exact ⟨r2,a2.trans a1,b2⟩
theorem iW {α β γ:Type} {R:α->β->Prop} {g:γ->β}:∀ {xs:List α} {rs:List γ},Paired R xs (rs.map g)->Paired (fun x r=>R x (g r)) xs rs
 | [],[],.nil=>.nil
 | _::_,_::_,.cons a b=>.cons a (iW b)
theorem l9 {α β γ:Type} {R:α->β->Prop} {g:γ->β}:∀ {xs:List α} {rs:List γ},Paired (fun x r=>R x (g r)) xs rs->Paired R xs (rs.map g)
 | [],[],.nil=>.nil
 | _::_,_::_,.cons a b=>.cons a (l9 b)
theorem kU {H:Hp} {xs ys:List V} {rs:List (Str×V)} (h:PairsAt H xs (rowsK rs)) (p:ys.Perm xs):∃ rs',rs'.Perm rs/\PairsAt H ys (rowsK rs'):=by
 obtain ⟨rs',q1,q2⟩:=p8 p (iW (fC.mp h))
 exact ⟨rs',q1,fC.mpr (l9 q2)⟩
def spTelling5 (K:Q0):Sp:=fun vs H Q _=>∃ (H0:Hp) (p:Addr) (most:Int) (t:Nat),vs=[.ref p,.int most]/\NxAt K H0 H p t/\t+600 < 900000/\(1<=most/\most<=8)/\
 ∀ (a:Addr) (xs:List V) (rows:List Rw2) (ns:List Str) (H':Hp),RT H' a xs rows ns WW->(ns.length:Int)<=most->(∀ n∈ns,n∈N8)->NxAt K H0 H' p (t+600)->Sm p p H H'->Q (.ref a) H'
theorem lA (T:Txt K mg w):FnK P w K mg base 5 "_law_telling" ["_law_pen","_law_most"] (spTelling5 K):=by
 have aO:FnK P w K mg base 2 "_law_next" ["_law_pen","_law_many"] (spNx K):=bH T
 have dQ:FnK P w K mg base 3 "_law_turned" ["_law_pen","_law_some"] (spTurn K):=gZ T
 have iG:FnK P w K mg base 4 "_law_head" ["_law_pen","_law_names","_law_ahead"] (spHead5 K):=jU T
 refine T.lZ.okS cG (fun vs H Q E h=>?_) (fun f cdv A outer s H vs Q E hr h=>?_)
 ·obtain ⟨H0,p,most,t,rfl,_⟩:=h
  rfl
 ·obtain ⟨H0,p,most,t,rfl,hn,ht,⟨hm1,hm2⟩,k⟩:=h
  have hu:=aQ hr
  have hu0:=Qx (aQ hr)
  have hsz:sizeLine=16777216:=QL
  refine ⟨_,(aA (aR (i:=2) cG.nd rfl (Or.inl rfl) (bM bB aE (bA aO (hr.mono (by decide)) (a9 (zv 0) (a9 (zv 1) sa_nil)))))
   (aA (aR (i:=3) cG.nd rfl (Or.inl rfl) (dB (m9 K) (bA dQ (hr.mono (by decide)) (a9 (zv 0) (tP (cB (aB aU (aB aU (aB aU (aB aU (aB aU (aB aU (aB aU (aB aU sa_nil))))))))) sa_nil))) dM (cZ (zv 2))))
   (aA (aR (i:=4) cG.nd rfl (Or.inl rfl) (cB sa_nil))
   (aA (fY PassesOwn.never rfl (oV (by rfl) T.tF (a9 (zv 2) sa_nil)) (aG (i:=5) cG.nd rfl (Or.inl rfl)) (aC (eJ (lM K QH QJ QK bV (zv 4) (bE (aT (aF (aZ (aY K) (zv 3) (zv 5) (fun _ _=>rfl)) (aK (bA iG (hr.mono (by decide)) (a9 (zv 0) (a9 (zv 3) (a9 (zv 5) sa_nil)))) sa_nil))) sa_nil)))))
   (aC (aN (bO (d6 K) (by rfl) T.eZ QG (aK (bA dQ (hr.mono (by decide)) (a9 (zv 0) (a9 (zv 4) sa_nil))) sa_nil)))))))),?_⟩
  refine aL ⟨H0,p,most,t,rfl,hn,⟨by omega,by omega⟩,by omega,fun r H1 r0 r1 hn1 sm1=>?_⟩
  obtain ⟨i0,rfl⟩:∃ i:Nat,r=(i:Int):=⟨r.toNat,by omega⟩
  refine aL ⟨(show 8<=sizeLine by decide),fun l1 hl1=>?_⟩
  have s1:=Same.upd hl1 (.lst (N8.map V.str))
  have g1:upd H1 l1 (.lst (N8.map V.str)) l1=some (.lst (N8.map V.str)):=a7
  have hn2:=hn1.same s1
  have sm2:=sm1.trans s1.sm
  refine ⟨H0,p,l1,N8.map V.str,_,rfl,hn2,by omega,.inl (SqL.of g1),(by decide),fun L ys H2 hL gL pm hn3 sm3=>?_⟩
  obtain ⟨zs,zpm,rfl⟩:=uQ pm
  have smA:=sm2.trans sm3
  have hzl:zs.length=8:=zpm.length_eq
  refine ⟨1+(i0:Int),rfl,Or.inr (Or.inl ⟨L,zs.map V.str,rfl,SqL.of gL,fun N hN=>?_⟩)⟩
  have ecut:cutV (zs.map V.str) none (some (1+(i0:Int)))=(zs.take (1+i0)).map V.str:=by
   rw [show (1+(i0:Int))=((1+i0:Nat):Int) by omega,oH,List.map_take]
  rw [ecut]
  have sN:=Same.upd hN (.lst ((zs.take (1+i0)).map V.str))
  have gN:upd H2 N (.lst ((zs.take (1+i0)).map V.str)) N=some (.lst ((zs.take (1+i0)).map V.str)):=a7
  have hn4:=hn3.same sN
  have smB:=smA.trans sN.sm
  generalize upd H2 N (.lst ((zs.take (1+i0)).map V.str))=H3 at sN gN hn4 smB
  have nsl:(zs.take (1+i0)).length=1+i0:=by rw [List.length_take];omega
  have nok:∀ n∈zs.take (1+i0),n∈N8:=fun n hn=>zpm.mem_iff.mp (List.mem_of_mem_take hn)
  have nnd:(zs.take (1+i0)).Nodup:=(zpm.nodup_iff.mpr a2L).sublist (List.take_sublist _ _)
  generalize zs.take (1+i0)=ns at gN nsl nok nnd
  have tn:TxtsAt H3 N ns:=⟨gN,by intro e;rw [e] at nsl;simp at nsl;omega,by omega,fun n hn=>(mF n (nok n hn)).2⟩
  refine aL ⟨(show 0<=sizeLine by decide),fun R hR=>?_⟩
  have nRp:R≠p:=hn4.ne hR
  have nRN:R≠N:=fun e=>by rw [e,gN] at hR;cases hR
  have hR0:H R=none:=smB.free hR nRp nRp
  have fR:H0 R=none:=hn4.free hR
  have sR:=Same.upd hR (.lst [])
  refine aV (fun σ' H'=>∃ (v5:Option V) (xs:List V) (rs:List (Str×V)),σ'=[some (.ref p),some (.int most),some (.int (1+(i0:Int))),some (.ref N),some (.ref R),v5]/\H' R=some (.lst xs)/\PairsAt H' xs (rowsK rs)/\rs.map (·.1)=ns/\RowsG H' ns WW rs/\NxAt K H0 H' p (t+101+20*8)/\Sm p p H H') ?_ ?_
  ·intro nx hnx
   refine ⟨1+(i0:Int),rfl,by omega,by omega,dZ (mT 0 (1+(i0:Int)).toNat) (fun i σ' H'=>∃ (v5:Option V) (xs:List V) (rs:List (Str×V)),σ'=[some (.ref p),some (.int most),some (.int (1+(i0:Int))),some (.ref N),some (.ref R),v5]/\H' R=some (.lst xs)/\PairsAt H' xs (rowsK rs)/\rs.map (·.1)=ns.take i/\RowsG H' ns WW rs/\TxtsAt H' N ns/\NxAt K H0 H' p (t+101+20*i)/\Sm p p H H')
    ⟨none,[],[],rfl,a7,jG,rfl,⟨(fun _ h=>nomatch h),(fun _ h=>nomatch h)⟩,tn.same sR,(hn4.same sR).mono (by omega),smB.trans sR.sm⟩ (fun _ _ _ _ _=>True.intro) ?_ ?_⟩
   ·rintro i σ' H4 hi ⟨v5,xs,rs,rfl,q1,q2,q3,q4,tn4,q6,q7⟩
    have hi':i < ns.length:=by omega
    have e0:(0+(i:Int))=(i:Int):=by omega
    rw [e0]
    have hni:ns[i]? =some ns[i]:=Qa hi'
    have hnm:ns[i]∈ns:=Qj hi'
    generalize ns[i]=nm at hni hnm
    have hxl:xs.length=i:=by
     have h1:=q2.1
     have h2:=congrArg List.length q3
     simp at h1 h2
     omega
    refine ⟨.inl ⟨rfl,_,SqL.of q1⟩,_,.str nm,.inl (SqL.of tn4.e),dN (by rw [Qq,hni];rfl),H0,p,N,i,_,ns,rfl,q6,by omega,tn4,(fun z hz=>(mF z (nok z hz)).1),by omega,fun hv H5 hg hn5 sm5=>⟨(show 2<=sizeLine by decide),fun c hc=>?_⟩⟩
    have g4:H5 R=some (.lst xs):=sm5 _ _ q1 nRp nRp
    have tn5:=tn4.nx q6 sm5
    have ncR:R≠c:=aM g4 hc
    refine ⟨R,xs,.ref c,rfl,rfl,by rw [aD ncR];exact g4,by omega,?_⟩
    have tk8:Tk H5 (upd (upd H5 c (.tup [.str nm,hv])) R (.lst (xs++[.ref c]))):=((Same.upd hc _).ts).set (by rw [aD ncR];exact g4) (by intro _ z;cases z)
    have hc8:upd (upd H5 c (.tup [.str nm,hv])) R (.lst (xs++[.ref c])) c=some (.tup [.str nm,hv]):=by rw [aD ncR.symm];exact a7
    have tk38:=(q6.ts sm5).trans tk8
    refine ⟨_,xs++[.ref c],rs++[(nm,hv)],rfl,a7,iH (q2.ts tk38) hc8,?_,?_,⟨by rw [aD nRN.symm,aD (aM tn5.e hc)];exact tn5.e,tn5.ne,tn5.few,tn5.wd⟩,((hn5.same (Same.upd hc _)).put nRp fR).mono (by omega),((q7.trans sm5).trans (Same.upd hc _).sm).upd hR0⟩
    ·rw [Qm,q3,Qs,hni];rfl
    ·have:=((q4.tk tk38).add (n:=nm) (v:=hv) hnm ((hg.tk tk8).imp fun o h y e=>by obtain ⟨i',h1,h2⟩:=h y e;exact ⟨i',i,h1,h2,hni⟩))
     exact this.perm fun r hr=>by
      rcases List.mem_append.mp hr with hr | hr
      ·exact Qh _ hr
      ·rw [List.mem_singleton.mp hr];exact List.mem_cons_self
   ·rintro σ' H' ⟨v5,xs,rs,rfl,q1,q2,q3,q4,q5,q6,q7⟩
    have en:(1+(i0:Int)).toNat=ns.length:=by omega
    rw [en,Qo] at q3
    exact hnx _ _ ⟨v5,xs,rs,rfl,q1,q2,q3,q4,q6.mono (by omega),q7⟩
  ·rintro σ' H4 ⟨v5,xs,rs,rfl,q1,q2,q3,q4,q6,q7⟩
   have hrl:rs.length=ns.length:=by rw [<- q3,Ql]
   have hxl:xs.length=rs.length:=by have:=q2.1;simpa using this
   refine ⟨H0,p,R,xs,_,rfl,q6,by omega,.inl (SqL.of q1),by omega,fun L2 ys H5 hL2 gL2 pm2 hn5 sm5=>⟨L2,ys,rfl,.inl ⟨SqL.of gL2,fun a ha=>?_⟩⟩⟩
   have s6:=Same.upd ha (.tup ys)
   have tk5:=(q6.ts sm5).trans s6.ts
   obtain ⟨rs',pr,pa⟩:=kU (q2.ts tk5) pm2
   obtain ⟨rows,rt⟩:=RT.of a7 pa (by rw [<- q3];exact pr.map _) nnd (fun n hn=>mF n (nok n hn)) (by omega) (by omega) ((q4.tk tk5).perm fun r hr=>pr.mem_iff.mp hr)
   exact k a _ rows ns _ rt (by omega) nok ((hn5.same s6).mono (by omega)) ((q7.trans sm5).trans s6.sm)
theorem rowEq {rs:List (Str×V)} (i:Nat) (h:i < (rowsK rs).length) (h':i < rs.length):(rowsK rs)[i]=(Sum.inr rs[i].1,rs[i].2):=by simp [rowsK]
def TelAt (H:Hp) (a:Addr) (xs:List V) (rs:List (Str×V)):Prop:=H a=some (.tup xs)/\PairsAt H xs (rowsK rs)/\rs.length<=1000
def spHeads:Sp:=fun vs H Q _=>∃ (a:Addr) (xs:List V) (rs:List (Str×V)),vs=[.ref a]/\TelAt H a xs rs/\∀ d,H d=none->Q (.ref d) (upd H d (.dK (dictOf (rowsK rs))))
theorem q9 (T:Txt K mg w):FnK P w K mg base 1 "heads_of" ["T"] spHeads:=by
 refine T.rK.okS pK (fun vs H Q E h=>?_) (fun f cdv A outer s H vs Q E hr h=>?_)
 ·obtain ⟨a,xs,rs,rfl,_⟩:=h
  rfl
 ·obtain ⟨a,xs,rs,rfl,⟨hx,hp,hlen⟩,k⟩:=h
  refine ⟨_,(aC (aN (a0F (own:=["name","head"]) (idx:=[]) (N':=["name","head"]) (cE (defScope fK) (["T"]:List Str) (by decide+kernel)) rfl (j6 K (zv 0)) (fun _ _ _ _ _ _=>(bQ K (n:=2) rfl (aH (aG (i:=0) (show List.Nodup (["name","head"]:List Str) by decide+kernel) rfl (Or.inl rfl)) (aH (aG (i:=1) (show List.Nodup (["name","head"]:List Str) by decide+kernel) rfl (Or.inl rfl)) bD)))) (fun _ _ _ _ _ _=>cN) (fun _ _ _ _ _ _=>(zv 0)) (fun _ _ _ _ _ _=>(zv 1))))),?_⟩
  refine Or.inr ⟨⟨xs,SqT.of hx⟩,fun D hD=>?_⟩
  have J:=cV (K:=K) (a:=a) xs
  have hsz:sizeLine=16777216:=QL
  have hxl:xs.length=rs.length:=by have:=hp.1;simpa using this
  have sD:∀ o,Same H (upd H D o):=fun o=>Same.upd hD o
  refine ⟨fun i m τ H'=>m=xs.length - i/\i<=xs.length/\(∃ v1 v2,τ=[v1,v2])/\H'=upd H D (.dK (dictOf ((rowsK rs).take i))),⟨_,rfl,Nat.zero_le _,⟨none,none,rfl⟩,rfl⟩,?_⟩
  rintro i m τ H' ⟨rfl,hi,⟨v1,v2,rfl⟩,rfl⟩
  obtain ⟨k1,k2⟩:=J _ (show SqT K (upd H D _) a xs from SqT.of (sD _ _ _ hx))
  by_cases hlt:i < xs.length
  ·have hir:i < rs.length:=by omega
   have hik:i < (rowsK rs).length:=by simpa using hir
   refine .inr ⟨(k1 i hlt).1,fun τ' H'=>(∃ v1 v2,τ'=[v1,v2])/\H'=upd H D (.dK (dictOf ((rowsK rs).take (i+1)))),fun τ' H' ⟨h1,h2⟩=>⟨xs.length - (i+1),by omega,rfl,hlt,h1,h2⟩,fun x H' y=>?_⟩
   obtain ⟨e,e2⟩:=(k1 i hlt).2 x H' y
   subst e e2
   obtain ⟨b,hb1,hb2⟩:=hp.2 i hik
   rw [rowEq i hik hir] at hb2
   have eb:xs.getD i .non=.ref b:=by rw [Qb,hb1];rfl
   show gTup K 2 _ (xs.getD i .non) _ _ _
   rw [eb]
   refine ⟨b,_,rfl,SqT.of (sD _ _ _ hb2),rfl,_,_,rfl,_,_,rfl,rfl,?_⟩
   refine ⟨dictOf ((rowsK rs).take i),.inr rs[i].1,rfl,a7,?_,⟨_,_,rfl⟩,?_⟩
   ·have:=iA ((rowsK rs).take i)
    rw [List.length_take] at this
    omega
   ·rw [kN,jV (rowsK rs) i hik,rowEq i hik hir]
  ·have e:i=xs.length:=by omega
   subst e
   refine .inl ⟨k2,?_⟩
   rw [List.take_of_length_le (by simp;omega)]
   exact k D hD
theorem telOf {H:Hp} {a:Addr} {xs:List V} {rs:List (Str×V)} {nx:Str->Option Str} {ρ:Str->Nat} (g:GoodT H a xs rs nx ρ):TelAt H a xs rs:=⟨g.at_,g.ps,by have:=g.len;omega⟩
def spRowOf:Sp:=fun vs H Q _=>∃ (a:Addr) (xs:List V) (rs:List (Str×V)) (nx:Str->Option Str) (ρ:Str->Nat) (x:Str),vs=[.ref a,.str x]/\GoodT H a xs rs nx ρ/\x∈rs.map (·.1)/\∀ H',Same H H'->Q (.str (rowEnd nx rs.length x)) H'
def spHeadOf:Sp:=fun vs H Q _=>∃ (a:Addr) (xs:List V) (rs:List (Str×V)) (nx:Str->Option Str) (ρ:Str->Nat) (x:Str),vs=[.ref a,.str x]/\GoodT H a xs rs nx ρ/\x∈rs.map (·.1)/\
 ∀ v H',Same H H'->valV (dictOf (rowsK rs)) (.inr (rowEnd nx rs.length x))=some v->Q v H'
def spAny (K:Q0):Sp:=fun vs H Q _=>∃ (H0:Hp) (p a:Addr) (t:Nat) (xs:List V) (rows:List Rw2) (ns ws:List Str),vs=[.ref p,.ref a]/\NxAt K H0 H p t/\t < 900000/\RT H a xs rows ns ws/\
 ∀ (n:Str) (H':Hp),n∈ns->NxAt K H0 H' p (t+1)->Sm p p H H'->Q (.str n) H'
theorem lN (T:Txt K mg w):FnK P w K mg base 3 "_law_any" ["_law_pen","_law_told"] (spAny K):=by
 have aO:FnK P w K mg base 2 "_law_next" ["_law_pen","_law_many"] (spNx K):=bH T
 refine T.uV.okS qR (fun vs H Q E h=>?_) (fun f cdv A outer s H vs Q E hr h=>?_)
 ·obtain ⟨H0,p,a,t,xs,rows,ns,ws,rfl,_⟩:=h
  rfl
 ·obtain ⟨H0,p,a,t,xs,rows,ns,ws,rfl,hn,ht,rt,k⟩:=h
  have hu:=aQ hr
  have hu0:=Qx (aQ hr)
  have hsz:sizeLine=16777216:=QL
  have hrl:=rt.rl
  have hxl:=rt.rv.len
  have pos:=rt.pos
  have few:=rt.few
  refine ⟨_,(aC (aN (aZ (aY K) (aZ (aY K) (zv 1) (bA aO (hr.mono (by decide)) (a9 (zv 0) (aK (bL (bJ K) (by rfl) T.n_len PySem.boot_len (a9 (zv 1) sa_nil)) sa_nil))) (fun _ _=>rfl)) aE (fun _ _=>rfl)))),?_⟩
  refine .inl ⟨_,.inr (SqT.of rt.at_),H0,p,_,t,rfl,hn,⟨by omega,by omega⟩,by omega,fun r H1 r0 r1 hn1 sm1=>?_⟩
  obtain ⟨i,rfl⟩:∃ i:Nat,r=(i:Int):=⟨r.toNat,by omega⟩
  have rt1:=rt.tk (hn.ts sm1)
  obtain ⟨b,v,q1,q2,q3⟩:=rt1.rv.at_ i (by omega) (by omega)
  refine ⟨xs,.ref b,.inr (SqT.of rt1.at_),dN (by rw [Qa (by omega),q1]),_,_,.inr (SqT.of q2),aI _ _,k _ H1 (rt1.nm.mem_iff.mp (List.mem_map.mpr ⟨_,Qj (by omega),rfl⟩)) hn1 sm1⟩
theorem dJ (T:Txt K mg w):FnK P w K mg base 1 "_law_row_here" ["_law_told","_law_name"] spRowOf:=by
 refine T.lQ.okS dI (fun vs H Q E h=>?_) (fun f cdv A outer s H vs Q E hr h=>?_)
 ·obtain ⟨a,xs,rs,nx,ρ,x,rfl,_⟩:=h
  rfl
 ·obtain ⟨a,xs,rs,nx,ρ,x,rfl,g,hx,k⟩:=h
  have hu:=aQ hr
  have hu0:=Qx hu
  refine ⟨_,(aA (aR (i:=2) dI.nd rfl (Or.inl rfl) (bO (dO rfl) (by rfl) T.nQ PyProof.Rows.boot_dict (a9 (zv 0) sa_nil)))
   (aA (fL PassesOwn.never (aJ (bX hu0) (aZ (aY K) (bK hu (zv 2) (zv 1) (fun _ _=>rfl)) aE (fun _ _=>rfl)) aU (nomark _)) (aC (aR (i:=1) dI.nd rfl (Or.inl rfl) (aZ (aY K) (bK hu (zv 2) (zv 1) (fun _ _=>rfl)) aE (fun _ _=>rfl)))))
   (aC (aN (zv 1))))),?_⟩
  have hsz:sizeLine=16777216:=QL
  have hgl:=g.len
  refine aL ⟨a,xs,rowsK rs,rfl,g.at_,g.ps,(by simp;omega),fun d hd=>?_⟩
  have s1:Same H (upd H d (.dK (dictOf (rowsK rs)))):=Same.upd hd _
  have g1:=g.ts s1.ts
  refine ⟨fun m σ H'=>H'=upd H d (.dK (dictOf (rowsK rs)))/\∃ y,σ=[some (.ref a),some (.str y),some (.ref d)]/\y∈rs.map (·.1)/\rowEnd nx rs.length y=rowEnd nx rs.length x/\m=ρ y,⟨_,rfl,x,rfl,hx,rfl,rfl⟩,?_⟩
  rintro m σ H' ⟨rfl,y,rfl,hy,he,rfl⟩
  obtain ⟨v,hv,hval⟩:=g1.get hy
  have hdg:DGet (upd H d (.dK (dictOf (rowsK rs)))) d (.str y) (some v):=by
   rw [<- hval];exact DGet.k (k:=Sum.inr y) a7
  obtain ⟨b,rfl,hb⟩:=g1.as _ hv
  rcases hb with ⟨z,ys,h1,h2,h3⟩ | ⟨z,h1,h3⟩
  ·refine ⟨d,_,rfl,hdg,_,.str z,.inr (SqT.of h1),aI _ _,rfl,_,rfl,?_⟩
   rw [QE,Qw (fun e=>h2 (V.str.inj e))]
   refine iteF ?_
   have e2:rowEnd nx rs.length y=y:=d9 _ h3
   have:=k _ s1
   rw [<- he,e2] at this
   exact this
  ·refine ⟨d,_,rfl,hdg,_,.str "as",.inr (SqT.of h1),aI _ _,rfl,_,rfl,?_⟩
   refine iteT ?_
   obtain ⟨i1,i2⟩:=g1.inn _ hv z h3
   refine ⟨fun σ' H''=>∃ m',m' < ρ y/\H''=upd H d (.dK (dictOf (rowsK rs)))/\∃ y,σ'=[some (.ref a),some (.str y),some (.ref d)]/\y∈rs.map (·.1)/\rowEnd nx rs.length y=rowEnd nx rs.length x/\m'=ρ y,fun _ _ h=>h,?_⟩
   refine ⟨d,_,rfl,hdg,_,.str z,.inr (SqT.of h1),rfl,_,i2,rfl,z,rfl,i1,?_,rfl⟩
   rw [<- he]
   exact g1.endStep hy h3
theorem jD (T:Txt K mg w):FnK P w K mg base 2 "_law_head_here" ["_law_told","_law_name"] spHeadOf:=by
 have bS:FnK P w K mg base 1 "_law_row_here" ["_law_told","_law_name"] spRowOf:=dJ T
 refine T.k0.okS jH (fun vs H Q E h=>?_) (fun f cdv A outer s H vs Q E hr h=>?_)
 ·obtain ⟨a,xs,rs,nx,ρ,x,rfl,_⟩:=h
  rfl
 ·obtain ⟨a,xs,rs,nx,ρ,x,rfl,g,hx,k⟩:=h
  have hu:=aQ hr
  have hsz:sizeLine=16777216:=QL
  have hgl:=g.len
  refine ⟨_,(aC (aN (bK hu (bO (dO rfl) (by rfl) T.nQ PyProof.Rows.boot_dict (a9 (zv 0) sa_nil)) (bA bS (hr.mono (by decide)) (a9 (zv 0) (a9 (zv 1) sa_nil))) (fun _ _=>rfl)))),?_⟩
  refine ⟨a,xs,rowsK rs,rfl,g.at_,g.ps,(by simp;omega),fun d hd=>?_⟩
  have s1:Same H (upd H d (.dK (dictOf (rowsK rs)))):=Same.upd hd _
  refine ⟨a,xs,rs,nx,ρ,x,rfl,g.ts s1.ts,hx,fun H' s2=>?_⟩
  obtain ⟨v,hv,hval⟩:=g.get (g.endIn hx).1
  refine ⟨d,v,rfl,?_,k v _ (s1.trans s2) hval⟩
  rw [<- hval];exact DGet.k (k:=Sum.inr (rowEnd nx rs.length x)) (s2 _ _ a7)
def spOn:Sp:=fun vs H Q _=>∃ (a:Addr) (xs:List V) (rows:List Rw2) (ns ws:List Str) (x:Str),vs=[.ref a,.str x]/\RT H a xs rows ns ws/\(∀ z∈ws,Wd z)/\x∈ns/\
 ∀ (L:Addr) (us:List V) (H':Hp),H L=none->Same H H'->H' L=some (.lst us)->MV H' us (onOf rows x)->Q (.ref L) H'
theorem mR (T:Txt K mg w):FnK P w K mg base 3 "_law_on" ["_law_told","_law_name"] spOn:=by
 have bS:FnK P w K mg base 1 "_law_row_here" ["_law_told","_law_name"] spRowOf:=dJ T
 have kH:FnK P w K mg base 2 "_law_head_here" ["_law_told","_law_name"] spHeadOf:=jD T
 refine T.wK.okS dW (fun vs H Q E h=>?_) (fun f cdv A outer s H vs Q E hr h=>?_)
 ·obtain ⟨a,xs,rows,ns,ws,x,rfl,_⟩:=h
  rfl
 ·obtain ⟨a,xs,rows,ns,ws,x,rfl,rt,hw,hx,k⟩:=h
  have hu:=aQ hr
  have hu0:=Qx (aQ hr)
  have hsz:sizeLine=16777216:=QL
  obtain ⟨rs,g,nm,rl,hval⟩:=rt.good hw
  have hm:∀ z,z∈ns↔z∈rs.map (·.1):=fun z=>by rw [nm];exact rt.nm.mem_iff.symm
  obtain ⟨e1,e2,e3⟩:=rt.endIn hw hx
  have few:=rt.few
  refine ⟨_,(aA (aR (i:=2) dW.nd rfl (Or.inl rfl) (bA kH (hr.mono (by decide)) (a9 (zv 0) (a9 (zv 1) sa_nil))))
   (aA (bN (aJ (bX hu0) (aZ (aY K) (zv 2) aE (fun _ _=>rfl)) aU (nomark _)) (aC (aR (i:=3) dW.nd rfl (Or.inl rfl) (cB (bE (aT (bE (aT (aB aU sa_nil)) (aF (aZ (aY K) (zv 2) aE (fun _ _=>rfl)) sa_nil))) (bE (aT (bE (aT (aB aU sa_nil)) (aF (aZ (aY K) (zv 2) aE (fun _ _=>rfl)) sa_nil))) sa_nil))))) (aC (bN (aJ (bX hu0) (aZ (aY K) (zv 2) aE (fun _ _=>rfl)) aU (nomark _)) (aC (a1R (i:=3) (own:=["_law_word","_law_other"]) (idx:=[]) (N':=["_law_word","_law_other"]) (cE (defScope fB) (["_law_told","_law_name","_law_here","_law_found"]:List Str) (by decide+kernel)) rfl (j6 K (aZ (aY K) (zv 2) aE (fun _ _=>rfl))) (fun _ _ _ _ _ _=>(bQ K (n:=2) rfl (aH (aG (i:=0) (show List.Nodup (["_law_word","_law_other"]:List Str) by decide+kernel) rfl (Or.inl rfl)) (aH (aG (i:=1) (show List.Nodup (["_law_word","_law_other"]:List Str) by decide+kernel) rfl (Or.inl rfl)) bD)))) (fun _ _ _ _ _ _=>cN) (fun _ _ _ _ _ _=>(aT (bE (aT (aB aU (a9 (zv 0) sa_nil))) (a9 (zv 1) sa_nil)))) dW.nd rfl rfl)) (aC (bN (aJ (bX hu0) (aZ (aY K) (zv 2) aE (fun _ _=>rfl)) aU (nomark _)) (aC (a1R (i:=3) (own:=["_law_word","_law_other"]) (idx:=[]) (N':=["_law_word","_law_other"]) (cE (defScope fB) (["_law_told","_law_name","_law_here","_law_found"]:List Str) (by decide+kernel)) rfl (j6 K (aZ (aY K) (zv 2) aE (fun _ _=>rfl))) (fun _ _ _ _ _ _=>(bQ K (n:=2) rfl (aH (aG (i:=0) (show List.Nodup (["_law_word","_law_other"]:List Str) by decide+kernel) rfl (Or.inl rfl)) (aH (aG (i:=1) (show List.Nodup (["_law_word","_law_other"]:List Str) by decide+kernel) rfl (Or.inl rfl)) bD)))) (fun _ _ _ _ _ _=>cN) (fun _ _ _ _ _ _=>(aT (bE (aT (aB aU (a9 (zv 0) sa_nil))) (a9 (zv 1) sa_nil)))) dW.nd rfl rfl)) (aC (aR (i:=3) dW.nd rfl (Or.inl rfl) (cB sa_nil))))))))
   (aC (aN (i9 (own:=["_law_step","_law_other"]) (idx:=[0]) (N':=["_law_step","_law_other","_law_told"]) (cE (defScope fB) (["_law_told","_law_name","_law_here","_law_found"]:List Str) (by decide+kernel)) rfl (j6 K (zv 3)) (fun _ _ _ _ _ _=>(bQ K (n:=2) rfl (aH (aG (i:=0) (show List.Nodup (["_law_step","_law_other","_law_told"]:List Str) by decide+kernel) rfl (Or.inl rfl)) (aH (aG (i:=1) (show List.Nodup (["_law_step","_law_other","_law_told"]:List Str) by decide+kernel) rfl (Or.inl rfl)) bD)))) (fun _ _ _ _ _ _=>cN) (fun _ _ _ _ _ _=>(aT (a9 (zv 0) (aK (bA bS (hr.mono (by decide)) (a9 (zv 2) (a9 (zv 1) sa_nil))) sa_nil))))))))),?_⟩
  refine aL ⟨a,xs,rs,_,_,x,rfl,g,(hm x).mp hx,fun v H1 s1 hv=>?_⟩
  have hq0:HV H v (hdOf rows (endOf rows x)):=hval _ v e1 (by rw [rl] at hv;exact hv)
  have hq:=hq0.tk s1.ts
  have eo:onOf rows x=(hdOf rows (endOf rows x)).mvs.map fun m=>(m.1,endOf rows m.2):=rfl
  generalize hdOf rows (endOf rows x)=h at e2 e3 hq eo
  clear hq0 hval hv
  have inn:=rE e3
  refine aV (fun σ' H'=>∃ (F:Addr) (us:List V),σ'=[some (.ref a),some (.str x),some v,some (.ref F)]/\H' F=some (.lst us)/\MV H' us h.mvs/\Same H H'/\h.mvs.length<=10) ?_ ?_
  ·intro nx hnx
   cases hq with
   | @one b s e=>
    have nd:∀ z:Str,z∈(["way","box","pick"]:List Str)->(s==z)=false:=fun z hz=>by
     simp only [Qp,QA,or_false] at hz
     rcases e3 with rfl | rfl<;>rcases hz with rfl | rfl | rfl<;>decide+kernel
    refine ⟨_,.str s,.inr (SqT.of e),aI _ _,rfl,_,rfl,iteB (fun c=>?_) (fun _=>⟨_,.str s,.inr (SqT.of e),aI _ _,rfl,_,rfl,iteB (fun c=>?_) (fun _=>⟨_,.str s,.inr (SqT.of e),aI _ _,rfl,_,rfl,iteB (fun c=>?_) (fun _=>⟨(show 0<=sizeLine by decide),fun F hF=>hnx _ _ ⟨F,[],rfl,a7,MV.nil,s1.trans (Same.upd hF _),by show 0<=10;decide⟩⟩)⟩)⟩)⟩
    ·rw [QE,cO,nd "way" (by simp)] at c;cases c
    ·rw [QE,cO,nd "box" (by simp)] at c;cases c
    ·rw [QE,cO,nd "pick" (by simp)] at c;cases c
   | @as b y e=>cases e2
   | @way b y z e=>
    refine ⟨_,.str "way",.inr (SqT.of e),aI _ _,rfl,_,rfl,iteB (fun _=>?_) (fun c=>absurd c (by simp))⟩
    refine ⟨(show 1<=sizeLine by decide),fun c1 h1=>?_⟩
    have t1:=Same.upd h1 (.tup [.str "from"])
    refine ⟨_,.str y,.inr (SqT.of (t1 _ _ e)),rfl,(show 2<=sizeLine by decide),fun c2 h2=>?_⟩
    have t2:=Same.upd h2 (.tup [.ref c1,.str y])
    refine ⟨(show 1<=sizeLine by decide),fun c3 h3=>?_⟩
    have t3:=Same.upd h3 (.tup [.str "to"])
    refine ⟨_,.str z,.inr (SqT.of (t3 _ _ (t2 _ _ (t1 _ _ e)))),rfl,(show 2<=sizeLine by decide),fun c4 h4=>?_⟩
    have t4:=Same.upd h4 (.tup [.ref c3,.str z])
    refine ⟨(show 2<=sizeLine by decide),fun F hF=>?_⟩
    have t5:=Same.upd hF (.lst [.ref c2,.ref c4])
    have g1:=t5 _ _ (t4 _ _ (t3 _ _ (t2 _ _ (a7:upd H1 c1 (.tup [.str "from"]) c1=some (.tup [.str "from"])))))
    have g2:=t5 _ _ (t4 _ _ (t3 _ _ (a7:upd (upd H1 c1 (.tup [.str "from"])) c2 (.tup [.ref c1,.str y]) c2=_)))
    have g3:=t5 _ _ (t4 _ _ (a7:upd (upd (upd H1 c1 (.tup [.str "from"])) c2 (.tup [.ref c1,.str y])) c3 (.tup [.str "to"]) c3=_))
    have g4:=t5 _ _ (a7:upd (upd (upd (upd H1 c1 (.tup [.str "from"])) c2 (.tup [.ref c1,.str y])) c3 (.tup [.str "to"])) c4 (.tup [.ref c3,.str z]) c4=_)
    exact hnx _ _ ⟨F,[.ref c2,.ref c4],rfl,a7,(MV.nil.snoc (m:=(["from"],y)) g2 g1).snoc (m:=(["to"],z)) g4 g3,s1.trans (t1.trans (t2.trans (t3.trans (t4.trans t5)))),by show 2<=10;decide⟩
   | @prs b c s ys ps e ec hp=>
    have hpl:=hp.len
    have loop:∀ (wd:Str) (D:Ends),D.nx=nx->(wd=if s="box" then ("part":Str) else ("case":Str))->tAsg (tLC ["_law_word","_law_other"] [] (iD K (tOp (rIxD K) (tV 2) (tC (V.int 1)))) (gTup K 2 (gCons (gName 0) (gCons (gName 1) gNil))) tcNil (tTup (tCons (tTup (tCons (tC (V.str wd)) (tCons (tV 0) tNil))) (tCons (tV 1) tNil)))) (gName 3) D [some (.ref a),some (.str x),some (.ref b),none] H1:=by
     intro wd D hDn hwd
     refine ⟨_,.ref c,.inr (SqT.of e),rfl,Or.inr ⟨⟨ys,SqT.of ec⟩,fun L hL=>?_⟩⟩
     refine fW (cV ys) (fun i τ H'=>∃ (v0 v1:Option V) (zs:List V),τ=[v0,v1]/\H' L=some (.lst zs)/\MV H' zs ((ps.take i).map fun p=>([wd,p.1],p.2))/\Same H1 H') ⟨none,none,[],rfl,a7,MV.nil,Same.upd hL _⟩ (by rintro i τ H' _ ⟨_,_,_,_,_,_,s⟩;exact SqT.of (s _ _ ec)) ?_ ?_
     ·rintro i τ H3 hi ⟨v0,v1,zs,rfl,q1,q2,q3⟩
      have hip:i < ps.length:=by omega
      have ok10:=e3.2.2.2
      obtain ⟨d,r1,r2⟩:=hp.at_ i hi hip
      have eg:ys.getD i .non=.ref d:=by rw [Qb,Qa hi,r1];rfl
      rw [eg]
      refine cX (q3 _ _ r2) ?_
      have hzl:zs.length=i:=by have:=q2.len;simp at this;omega
      refine ⟨(show 2<=sizeLine by decide),fun c1 h1=>⟨(show 2<=sizeLine by decide),fun c2 h2=>?_⟩⟩
      have t1:=Same.upd h1 (.tup [.str wd,.str ps[i].1])
      have t2:=Same.upd h2 (.tup [.ref c1,.str ps[i].2])
      have g1:=t2 _ _ (a7:upd H3 c1 (.tup [.str wd,.str ps[i].1]) c1=some (.tup [.str wd,.str ps[i].1]))
      have g2:upd (upd H3 c1 (.tup [.str wd,.str ps[i].1])) c2 (.tup [.ref c1,.str ps[i].2]) c2=some (.tup [.ref c1,.str ps[i].2]):=a7
      dsimp only
      have sA:=t1.trans t2
      generalize upd (upd H3 c1 (.tup [.str wd,.str ps[i].1])) c2 (.tup [.ref c1,.str ps[i].2])=H5 at sA g1 g2
      have gD:=sA _ _ q1
      have tk:Tk H5 (upd H5 L (.lst (zs++[.ref c2]))):=(Tk.refl).set gD (by intro _ z;cases z)
      refine ⟨zs,gD,by omega,_,_,zs++[.ref c2],rfl,a7,?_,(q3.trans sA).put hL⟩
      have et:(ps.take (i+1)).map (fun p=>(([wd,p.1],p.2):List Str×Str))=(ps.take i).map (fun p=>(([wd,p.1],p.2):List Str×Str))++[([wd,ps[i].1],ps[i].2)]:=by
       rw [Qs,Qa hip,Qm];rfl
      rw [et]
      exact (q2.tk (sA.ts.trans tk)).snoc (m:=([wd,ps[i].1],ps[i].2)) (tk _ _ g2) (tk _ _ g1)
     ·rintro τ H3 ⟨v0,v1,zs,rfl,q1,q2,q3⟩
      rw [hpl,Qo] at q2
      show D.nx _ H3
      rw [hDn]
      refine hnx _ _ ⟨L,zs,rfl,q1,?_,s1.trans q3,by show (ps.map _).length<=10;rw [Ql];exact e3.2.2.2⟩
      rw [hwd] at q2
      exact q2
    rcases e3.1 with rfl | rfl
    ·refine ⟨_,.str "box",.inr (SqT.of e),aI _ _,rfl,_,rfl,iteB (fun c=>?_) (fun _=>⟨_,.str "box",.inr (SqT.of e),aI _ _,rfl,_,rfl,iteB (fun _=>loop "part" _ rfl rfl) (fun c=>absurd c (by simp))⟩)⟩
     rw [QE,cO] at c;exact absurd c (by decide+kernel)
    ·refine ⟨_,.str "pick",.inr (SqT.of e),aI _ _,rfl,_,rfl,iteB (fun c=>?_) (fun _=>⟨_,.str "pick",.inr (SqT.of e),aI _ _,rfl,_,rfl,iteB (fun c=>?_) (fun _=>⟨_,.str "pick",.inr (SqT.of e),aI _ _,rfl,_,rfl,iteB (fun _=>loop "case" _ rfl (by decide+kernel)) (fun c=>absurd c (by simp))⟩)⟩)⟩
     ·rw [QE,cO] at c;exact absurd c (by decide+kernel)
     ·rw [QE,cO] at c;exact absurd c (by decide+kernel)
  rintro σ' H2 ⟨F,us,rfl,gF,mv,s2,ml⟩
  have rt2:=rt.tk s2.ts
  have g2:=g.ts s2.ts
  have ul:=mv.len
  refine Or.inl ⟨⟨us,SqL.of gF⟩,fun D hD=>?_⟩
  refine fW (bZ us) (fun i τ H'=>∃ (v0 v1:Option V) (zs:List V),τ=[v0,v1,some (.ref a)]/\H' D=some (.lst zs)/\MV H' zs ((h.mvs.take i).map fun m=>(m.1,endOf rows m.2))/\Same H2 H') ⟨none,none,[],rfl,a7,MV.nil,Same.upd hD _⟩ (by rintro i τ H' _ ⟨_,_,_,_,_,_,s⟩;exact SqL.of (s _ _ gF)) ?_ ?_
  ·rintro i τ H3 hi ⟨v0,v1,zs,rfl,q1,q2,q3⟩
   have him:i < h.mvs.length:=by omega
   obtain ⟨c,b,r1,r2,r3⟩:=mv.at_ i hi him
   have eg:us.getD i .non=.ref c:=by rw [Qb,Qa hi,r1];rfl
   rw [eg]
   have hmm:h.mvs[i]∈h.mvs:=Qj him
   refine cX (q3 _ _ r2) ?_
   have hzl:zs.length=i:=by have:=q2.len;simp at this;omega
   refine ⟨a,xs,rs,_,_,h.mvs[i].2,rfl,g2.ts q3.ts,(hm _).mp (inn _ hmm),fun H4 s4=>⟨(show 2<=sizeLine by decide),fun d hd=>?_⟩⟩
   have s5:=Same.upd hd (.tup [.ref b,.str (rowEnd (nxOf rows) rs.length h.mvs[i].2)])
   have gd:upd H4 d (.tup [.ref b,.str (rowEnd (nxOf rows) rs.length h.mvs[i].2)]) d=some (.tup [.ref b,.str (rowEnd (nxOf rows) rs.length h.mvs[i].2)]):=a7
   dsimp only
   generalize upd H4 d (.tup [.ref b,.str (rowEnd (nxOf rows) rs.length h.mvs[i].2)])=H5 at s5 gd
   rw [rl] at gd
   have sA:=s4.trans s5
   have gD:=sA _ _ q1
   have tk:Tk H5 (upd H5 D (.lst (zs++[.ref d]))):=(Tk.refl).set gD (by intro _ z;cases z)
   refine ⟨zs,gD,by omega,_,_,zs++[.ref d],rfl,a7,?_,(q3.trans sA).put hD⟩
   have et:(h.mvs.take (i+1)).map (fun m=>(m.1,endOf rows m.2))=(h.mvs.take i).map (fun m=>(m.1,endOf rows m.2))++[(h.mvs[i].1,endOf rows h.mvs[i].2)]:=by
    rw [Qs,Qa him,Qm];rfl
   rw [et]
   exact (q2.tk (sA.ts.trans tk)).snoc (tk _ _ gd) (tk _ _ (sA _ _ (q3 _ _ r3)))
  ·rintro τ H3 ⟨v0,v1,zs,rfl,q1,q2,q3⟩
   rw [ul,Qo,<- eo] at q2
   exact k D zs H3 (s2.free hD) (s2.trans q3) q1 q2
theorem a2E {i:Nat} {σ:St} {H:Hp} {Q:VK} {v:V} (e:σ[i]? =some (some v)) (h:Q v H):tV i σ H Q:=by
 unfold tV
 rw [e]
 exact h
theorem cP {kvs:List (Key×V)} {k:Key} {v:V} (h:∀ kv∈kvs,kv.1≠k):putK kvs k v=kvs++[(k,v)]:=by
 unfold putK
 rw [if_neg]
 intro e
 rw [List.any_eq_true] at e
 obtain ⟨kv,hk,e⟩:=e
 exact h kv hk (Qt e)
def spRowsOf:Sp:=fun vs H Q _=>∃ (a:Addr) (xs:List V) (rows:List Rw2) (ns ws:List Str),vs=[.ref a]/\RT H a xs rows ns ws/\(∀ z∈ws,Wd z)/\
 ∀ (d:Addr) (H':Hp),H d=none->Same H H'->H' d=some (.dK (rowsE rows))->Q (.ref d) H'
theorem rA (T:Txt K mg w):FnK P w K mg base 2 "rows_of" ["T"] spRowsOf:=by
 have qU:FnK P w K mg base 1 "heads_of" ["T"] spHeads:=q9 T
 refine T.vR.okS d7 (fun vs H Q E h=>?_) (fun f cdv A outer s H vs Q E hr h=>?_)
 ·obtain ⟨a,xs,rows,ns,ws,rfl,_⟩:=h
  rfl
 ·obtain ⟨a,xs,rows,ns,ws,rfl,rt,hw,k⟩:=h
  have hu:=aQ hr
  have hu0:=Qx (aQ hr)
  have hsz:sizeLine=16777216:=QL
  obtain ⟨rs,g,nm,rl,hval⟩:=rt.good hw
  refine ⟨_,(aA (aR (i:=1) d7.nd rfl (Or.inl rfl) (bA qU (hr.mono (by decide)) (a9 (zv 0) sa_nil)))
   (aA (aR (i:=2) d7.nd rfl (Or.inl rfl) a17)
   (aA (fY PassesOwn.never rfl (z9 (zv 1)) (aG (i:=3) d7.nd rfl (Or.inl rfl)) (aA (aR (i:=4) d7.nd rfl (Or.inl rfl) (zv 3))
   (aA (fL PassesOwn.never (aJ (bX hu0) (aZ (aY K) (bK hu (zv 1) (zv 4) (fun _ _=>rfl)) aE (fun _ _=>rfl)) aU (nomark _)) (aC (aR (i:=4) d7.nd rfl (Or.inl rfl) (aZ (aY K) (bK hu (zv 1) (zv 4) (fun _ _=>rfl)) aE (fun _ _=>rfl)))))
   (aC (qX hu (zv 2) (zv 3) (zv 4) rfl)))))
   (aC (aN (zv 2)))))),?_⟩
  refine aL ⟨a,xs,rs,rfl,telOf g,fun d hd=>?_⟩
  have knd:((rowsK rs).map (·.1)).Nodup:=by
   have e:(rowsK rs).map (·.1)=(rs.map (·.1)).map (Sum.inr:Str->Key):=by simp [rowsK,Qn,QB]
   rw [e]
   exact List.pairwise_map.mpr (g.nd.imp fun h e=>h (Sum.inr.inj e))
  have hgl:=g.len
  have ed:=fS _ knd
  dsimp only
  have s1:Same H (upd H d (.dK (dictOf (rowsK rs)))):=Same.upd hd _
  refine aL fun R hR=>?_
  have nRd:R≠d:=fun e=>by rw [e,a7] at hR;cases hR
  have hR0:H R=none:=s1.free hR
  refine aV (fun σ' H'=>∃ v3 v4:Option V,σ'=[some (.ref a),some (.ref d),some (.ref R),v3,v4]/\H' R=some (.dK (rowsE rows))/\Same H H') ?_ ?_
  ·intro nx hnx
   refine ⟨d,dictOf (rowsK rs),rfl,.inl (by rw [aD nRd.symm];exact a7),fun o=>?_⟩
   refine dZ (xA (dictOf (rowsK rs))) (fun i σ' H'=>∃ v3 v4:Option V,σ'=[some (.ref a),some (.ref d),some (.ref R),v3,v4]/\H' d=some (.frz o (.dK (dictOf (rowsK rs))))/\H' R=some (.dK ((rowsE rows).take i))/\Same H H')
    ⟨none,none,rfl,a7,by rw [aD nRd,a7];rfl,(((s1.put hR0)).put hd)⟩ (by rintro i σ' H' _ ⟨_,_,_,h,_⟩;exact h) ?_ ?_
   ·rintro i σ' H3 hi ⟨v3,v4,rfl,q1,q2,q3⟩
    have hir:i < rs.length:=by have:=iA (rowsK rs);simp at this;omega
    have hirw:i < rows.length:=by omega
    have ek:keyAt (dictOf (rowsK rs)) i=.str rs[i].1:=by
     unfold keyAt
     rw [ed,Qa (by simpa using hir),rowEq i (by simpa using hir) hir];rfl
    have en:rs[i].1=rows[i].1:=by
     have:(rs.map (·.1))[i]'(by simpa using hir)=(rows.map (·.1))[i]'(by simpa using hirw):=by simp only [nm]
     simpa using this
    rw [ek]
    have hx:rs[i].1∈rs.map (·.1):=List.mem_map.mpr ⟨_,Qj hir,rfl⟩
    generalize rs[i].1=x at en hx
    have g3:=g.ts q3.ts
    refine aL (a2E (v:=.str x) rfl ?_)
    refine aV (fun σ' H'=>H'=H3/\σ'=[some (.ref a),some (.ref d),some (.ref R),some (.str x),some (.str (rowEnd (nxOf rows) rs.length x))]) ?_ ?_
    ·intro nx' hnx'
     refine ⟨fun m σ H'=>H'=H3/\∃ y,σ=[some (.ref a),some (.ref d),some (.ref R),some (.str x),some (.str y)]/\y∈rs.map (·.1)/\rowEnd (nxOf rows) rs.length y=rowEnd (nxOf rows) rs.length x/\m=ns.idxOf y,⟨_,rfl,x,rfl,hx,rfl,rfl⟩,?_⟩
     rintro m σ H' ⟨rfl,y,rfl,hy,he,rfl⟩
     obtain ⟨v,hv,hval⟩:=g3.get hy
     have hdg:DGet H' d (.str y) (some v):=by
      rw [<- hval];exact DGet.rd (k:=Sum.inr y) (.inr ⟨o,q1⟩)
     obtain ⟨b,rfl,hb⟩:=g3.as _ hv
     rcases hb with ⟨z,ys,h1,h2,h3⟩ | ⟨z,h1,h3⟩
     ·refine ⟨d,_,rfl,hdg,_,.str z,.inr (SqT.of h1),aI _ _,rfl,_,rfl,?_⟩
      rw [QE,Qw (fun e=>h2 (V.str.inj e))]
      refine iteF ?_
      have e2:rowEnd (nxOf rows) rs.length y=y:=d9 _ h3
      refine hnx' _ _ ⟨rfl,?_⟩
      rw [<- he,e2]
     ·refine ⟨d,_,rfl,hdg,_,.str "as",.inr (SqT.of h1),aI _ _,rfl,_,rfl,?_⟩
      refine iteT ?_
      obtain ⟨i1,i2⟩:=g3.inn _ hv z h3
      refine ⟨fun σ' H''=>∃ m',m' < ns.idxOf y/\H''=H'/\∃ y,σ'=[some (.ref a),some (.ref d),some (.ref R),some (.str x),some (.str y)]/\y∈rs.map (·.1)/\rowEnd (nxOf rows) rs.length y=rowEnd (nxOf rows) rs.length x/\m'=ns.idxOf y,fun _ _ h=>h,?_⟩
      refine ⟨d,_,rfl,hdg,_,.str z,.inr (SqT.of h1),rfl,_,i2,rfl,z,rfl,i1,?_,rfl⟩
      rw [<- he]
      exact g3.endStep hy h3
    ·rintro σ' H' ⟨rfl,rfl⟩
     have hlen:((rowsE rows).take i).length<=10:=by have:=rt.few;have:=rt.rl;simp [rowsE];omega
     have hput:putK ((rowsE rows).take i) (.inr x) (.str (rowEnd (nxOf rows) rs.length x))=(rowsE rows).take (i+1):=by
      rw [cP,Qs,Qa (by simpa [rowsE] using hirw)]
      ·simp [rowsE,en,endOf,rl]
      ·intro kv hkv e
       obtain ⟨j,hj,rfl⟩:=Qi hkv
       have hj':j < i:=by simp at hj;omega
       rw [List.getElem_take] at e
       simp only [rowsE,Qr] at e
       have e':rows[j].1=rows[i].1:=by rw [<- en];exact Sum.inr.inj e
       have nd:=rt.ndr
       have:=List.pairwise_iff_getElem.mp nd j i (by simp;omega) (by simpa using hirw) hj'
       simp at this
       exact this e'
     refine ⟨R,_,rfl,DPut.k (k:=Sum.inr x) q2 (by omega),?_⟩
     rw [hput]
     exact ⟨_,_,rfl,by rw [aD nRd.symm];exact q1,a7,q3.put hR0⟩
   ·rintro σ' H' ⟨v3,v4,rfl,q1,q2,q3⟩
    have e:(dictOf (rowsK rs)).length=(rowsE rows).length:=by rw [ed];simp [rowsE,rl]
    rw [e,Qo] at q2
    exact hnx _ _ ⟨v3,v4,rfl,q2,q3⟩
  ·rintro σ' H' ⟨v3,v4,rfl,q2,q3⟩
   exact k R H' hR0 q3 q2
def spNamesH:Sp:=fun vs H Q _=>∃ (x:V) (h:Hd) (ns:List Str),vs=[x]/\HV H x h/\h.ok ns/\∀ L H',H L=none->H' L=some (.lst ((nmsH h).map V.str))->Same H H'->Q (.ref L) H'
theorem nZ (T:Txt K mg w):FnK P w K mg base 1 "names_in" ["head"] spNamesH:=by
 refine T.sY.okS oW (fun vs H Q E h=>?_) (fun f cdv A outer s H vs Q E hr h=>?_)
 ·obtain ⟨x,h,ns,rfl,_⟩:=h
  rfl
 ·obtain ⟨x,h,ns,rfl,hv,hok,k⟩:=h
  have hsz:sizeLine=16777216:=QL
  refine ⟨_,(aA (bN (aJ (oA K) (aZ (aY K) (zv 0) aE (fun _ _=>rfl)) (a2T K T.xC) rfl) (aC (aN (i9 (own:=["word","x"]) (idx:=[]) (N':=["word","x"]) (cE (defScope fM) (["head"]:List Str) (by decide+kernel)) rfl (j6 K (aZ (aY K) (zv 0) aE (fun _ _=>rfl))) (fun _ _ _ _ _ _=>(bQ K (n:=2) rfl (aH (aG (i:=0) (show List.Nodup (["word","x"]:List Str) by decide+kernel) rfl (Or.inl rfl)) (aH (aG (i:=1) (show List.Nodup (["word","x"]:List Str) by decide+kernel) rfl (Or.inl rfl)) bD)))) (fun _ _ _ _ _ _=>cN) (fun _ _ _ _ _ _=>(zv 1))))) aP)
   (aC (aN (bO (jF K) (by rfl) T.nN PyProof.Rows.boot_list (aF (dB (m9 K) (zv 0) (cZ aE) dM) sa_nil))))),?_⟩
  have fin:∀ (b:Addr) (z:Str) (ys:List Str),H b=some (.tup (.str z::ys.map V.str))->nmsH h=ys->∀ D:Ends,D.rt=Q->tRet (tCB (rLstOf K) (tCons (tSl (fun x lo hi H Q=>rSlS x lo hi H Q\/rSlL K x lo hi H Q\/rSlT K x lo hi H Q) (tV 0) (tPart (tC (V.int 1))) tNoPart) tNil)) D [some (.ref b)] H:=by
   intro b z ys e en D hD
   refine ⟨1,rfl,Or.inr (Or.inr ⟨b,_,rfl,SqT.of e,?_,fun p1 hp1=>⟨p1,_,rfl,.inr (SqT.of a7),fun L hL=>?_⟩⟩)⟩
   ·intro ⟨h1,_⟩
    have:HT.sIx (V.str z::ys.map V.str).length 0 (some ((1:Nat):Int))=0:=h1
    rw [HT.j0] at this
    simp at this
   ·have s1:=(Same.upd hp1 (.tup (cutV (V.str z::ys.map V.str) (some 1) none))).trans (Same.upd hL (.lst (cutV (V.str z::ys.map V.str) (some 1) none)))
    rw [hD]
    refine k L _ ((Same.upd hp1 _).free hL) ?_ s1
    rw [a7]
    have ec:cutV (V.str z::ys.map V.str) (some 1) none=ys.map V.str:=by
     have:=g7 (V.str z::ys.map V.str) 1
     exact this
    rw [ec,en]
  have notw:∀ (b:Addr) (z:Str) (ys:List Str),H b=some (.tup (.str z::ys.map V.str))->(z=="box")=false->(z=="pick")=false->nmsH h=ys->tSeq (tIfS (tTest (tOp (rInD K false) (tOp (rIxD K) (tV 0) (tC (V.int 0))) (tGlT K [V.str "box",V.str "pick"]))) (tRet (tLC ["word","x"] [] (iD K (tOp (rIxD K) (tV 0) (tC (V.int 1)))) (gTup K 2 (gCons (gName 0) (gCons (gName 1) gNil))) tcNil (tV 1))) tNext) (tRet (tCB (rLstOf K) (tCons (tSl (fun x lo hi H Q=>rSlS x lo hi H Q\/rSlL K x lo hi H Q\/rSlT K x lo hi H Q) (tV 0) (tPart (tC (V.int 1))) tNoPart) tNil))) {nx:=fun x H'=>Q V.non H',rt:=Q} [some (.ref b)] H:=fun b z ys e n1 n2 en=>by
   refine ⟨_,.str z,.inr (SqT.of e),aI _ _,?_⟩
   intro aW hW
   refine ⟨_,.inr hW,rfl,rfl,_,rfl,?_⟩
   have ew:(false^^inV (.str z) [V.str "box",V.str "pick"])=false:=by
    rw [QE,show ([V.str "box",V.str "pick"]:List V)=(["box","pick"]:List Str).map V.str from rfl,iM]
    refine Qw fun hm=>?_
    simp only [Qp,QA,or_false] at hm
    rcases hm with rfl | rfl
    ·simp at n1
    ·simp at n2
   rw [ew]
   exact iteF (fin b z ys e en _ rfl)
  cases hv with
  | @one b s e=>exact notw b s [] e (by rcases hok with rfl | rfl<;>decide+kernel) (by rcases hok with rfl | rfl<;>decide+kernel) rfl
  | @as b y e=>exact notw b "as" [y] e (by decide+kernel) (by decide+kernel) rfl
  | @way b y z e=>exact notw b "way" [y,z] e (by decide+kernel) (by decide+kernel) rfl
  | @prs b c s ys ps e ec hp=>
   refine ⟨_,.str s,.inr (SqT.of e),aI _ _,?_⟩
   intro aW hW
   refine ⟨_,.inr hW,rfl,rfl,_,rfl,?_⟩
   have ew:(false^^inV (.str s) [V.str "box",V.str "pick"])=true:=by
    rw [QE,show ([V.str "box",V.str "pick"]:List V)=(["box","pick"]:List Str).map V.str from rfl,iM]
    refine Qv ?_
    rcases hok.1 with rfl | rfl<;>simp
   rw [ew]
   refine iteT ?_
   have hpl:=hp.len
   have h10:=hok.2.2.2
   refine ⟨_,.ref c,.inr (SqT.of e),rfl,Or.inr ⟨⟨ys,SqT.of ec⟩,fun D hD=>?_⟩⟩
   refine fW (cV ys) (fun i τ H3=>H3 D=some (.lst (((ps.take i).map (·.2)).map V.str))/\Same H H3/\∃ v1 v2,τ=[v1,v2]) ⟨a7,Same.upd hD _,none,none,rfl⟩ (fun i τ H3 _ h=>SqT.of (h.2.1 _ _ ec)) ?_ ?_
   ·rintro i τ H3 hi ⟨q1,q2,v1,v2,rfl⟩
    have hip:i < ps.length:=by omega
    obtain ⟨d,e1,e2⟩:=hp.at_ i hi hip
    have eg:ys.getD i .non=.ref d:=by rw [Qb,Qa hi,e1];rfl
    rw [eg]
    refine cX (q2 _ _ e2) ?_
    refine ⟨_,q1,by simp;omega,?_,(q2.put hD),_,_,rfl⟩
    rw [a7,Qs,Qa hip,Qm,Qm]
    rfl
   ·rintro τ H3 ⟨q1,q2,v1,v2,rfl⟩
    rw [hpl,Qo] at q1
    exact k D H3 hD q1 q2
def wdOf (s:Str):Str:=if s="box" then "part" else "case"
def spStepsIn (mg:Str->Option Value):Sp:=fun vs H Q _=>∃ (x:V) (h:Hd) (ns:List Str),vs=[x]/\HV H x h/\h.ok ns/\Kn mg H "FROM" [.str "from"]/\Kn mg H "TO" [.str "to"]/\
 ∀ (L:Addr) (us:List V) (H':Hp),H L=none->H' L=some (.lst us)->SV H' us (h.mvs.map (·.1))->Same H H'->Q (.ref L) H'
theorem jX (T:Txt K mg w):FnK P w K mg base 1 "steps_in" ["head"] (spStepsIn mg):=by
 refine T.sV.okS pS (fun vs H Q E h=>?_) (fun f cdv A outer s H vs Q E hr h=>?_)
 ·obtain ⟨x,h,ns,rfl,_⟩:=h
  rfl
 ·obtain ⟨x,h,ns,rfl,hv,hok,kf,kt,k⟩:=h
  have hu0:=Qx (aQ hr)
  have hsz:sizeLine=16777216:=QL
  refine ⟨_,(aA (bN (aJ (bX hu0) (aZ (aY K) (zv 0) aE (fun _ _=>rfl)) aU (nomark _)) (aC (aN (cB (a9 (a2N T.sX) (a9 (a2N T.c_TO) sa_nil))))) aP)
   (aA (bN (a2O T.iU (aZ (aY K) (zv 0) aE (fun _ _=>rfl))) (aC (aN (i9 (own:=["word","x"]) (idx:=[0]) (N':=["word","x","head"]) (cE (defScope fG) (["head"]:List Str) (by decide+kernel)) rfl (j6 K (aZ (aY K) (zv 0) aE (fun _ _=>rfl))) (fun _ _ _ _ _ _=>(bQ K (n:=2) rfl (aH (aG (i:=0) (show List.Nodup (["word","x","head"]:List Str) by decide+kernel) rfl (Or.inl rfl)) (aH (aG (i:=1) (show List.Nodup (["word","x","head"]:List Str) by decide+kernel) rfl (Or.inl rfl)) bD)))) (fun _ _ _ _ _ _=>cN) (fun _ _ _ _ _ _=>(aT (aF (a1m T.iU (aZ (aY K) (zv 2) aE (fun _ _=>rfl)) (fun _ _=>rfl)) (a9 (zv 0) sa_nil))))))) aP)
   (aC (aN (cB sa_nil))))),?_⟩
  cases hv with
  | @one b s e=>
   refine ⟨_,.str s,.inr (SqT.of e),aI _ _,rfl,_,rfl,iteB (fun c=>?_) (fun _=>⟨_,.str s,.inr (SqT.of e),aI _ _,Sum.inr s,rfl,_,rfl,iteB (fun c=>?_) (fun _=>⟨(show 0<=sizeLine by decide),fun L hL=>k L [] _ hL a7 SV.nil (Same.upd hL _)⟩)⟩)⟩
   ·rw [QE,cO] at c
    rcases hok with rfl | rfl<;>exact absurd c (by decide+kernel)
   ·rcases hok with rfl | rfl<;>exact absurd c (by decide+kernel)
  | @as b y e=>
   refine ⟨_,.str "as",.inr (SqT.of e),aI _ _,rfl,_,rfl,iteB (fun c=>?_) (fun _=>⟨_,.str "as",.inr (SqT.of e),aI _ _,Sum.inr "as",rfl,_,rfl,iteB (fun c=>?_) (fun _=>⟨(show 0<=sizeLine by decide),fun L hL=>k L [] _ hL a7 SV.nil (Same.upd hL _)⟩)⟩)⟩
   ·rw [QE,cO] at c
    exact absurd c (by decide+kernel)
   ·exact absurd c (by decide+kernel)
  | @way b y z e=>
   refine ⟨_,.str "way",.inr (SqT.of e),aI _ _,rfl,_,rfl,iteB (fun _=>?_) (fun c=>absurd c (by simp))⟩
   refine ⟨(show 2<=sizeLine by decide),fun L hL=>k L _ _ hL a7 ?_ (Same.upd hL _)⟩
   exact (SV.nil.snoc (m:=["from"]) (kf.same (Same.upd hL _)).rd).snoc (m:=["to"]) (kt.same (Same.upd hL _)).rd
  | @prs b c s ys ps e ec hp=>
   have hpl:=hp.len
   have h10:=hok.2.2.2
   obtain ⟨n1,n2,n3⟩:(s=="way")=false/\(valV [((Sum.inr "box":Key),V.str "part"),(Sum.inr "pick",V.str "case")] (Sum.inr s)).isSome=true/\valV [((Sum.inr "box":Key),V.str "part"),(Sum.inr "pick",V.str "case")] (Sum.inr s)=some (.str (wdOf s)):=by
    rcases hok.1 with rfl | rfl<;>exact ⟨by decide+kernel,by decide+kernel,by decide+kernel⟩
   refine ⟨_,.str s,.inr (SqT.of e),aI _ _,rfl,_,rfl,iteB (fun c=>?_) (fun _=>⟨_,.str s,.inr (SqT.of e),aI _ _,Sum.inr s,rfl,_,rfl,iteB (fun _=>?_) (fun c=>?_)⟩)⟩
   ·rw [QE,cO,n1] at c;cases c
   ·refine ⟨_,.ref c,.inr (SqT.of e),rfl,Or.inr ⟨⟨ys,SqT.of ec⟩,fun D hD=>?_⟩⟩
    refine fW (cV ys) (fun i τ H3=>∃ (v0 v1:Option V) (zs:List V),τ=[v0,v1,some (.ref b)]/\H3 D=some (.lst zs)/\SV H3 zs ((ps.take i).map fun p=>[wdOf s,p.1])/\Same H H3) ⟨none,none,[],rfl,a7,SV.nil,Same.upd hD _⟩ (by rintro i τ H3 _ ⟨_,_,_,_,_,_,s⟩;exact SqT.of (s _ _ ec)) ?_ ?_
    ·rintro i τ H3 hi ⟨v0,v1,zs,rfl,q1,q2,q3⟩
     have hip:i < ps.length:=by omega
     obtain ⟨d,r1,r2⟩:=hp.at_ i hi hip
     have eg:ys.getD i .non=.ref d:=by rw [Qb,Qa hi,r1];rfl
     rw [eg]
     refine cX (q3 _ _ r2) ?_
     have hzl:zs.length=i:=by have:=q2.len;simp at this;omega
     refine ⟨_,.str s,.inr (SqT.of (q3 _ _ e)),aI _ _,Sum.inr s,_,rfl,n3,(show 2<=sizeLine by decide),fun c1 h1=>?_⟩
     have t1:=Same.upd h1 (.tup [.str (wdOf s),.str ps[i].1])
     have g1:upd H3 c1 (.tup [.str (wdOf s),.str ps[i].1]) c1=some (.tup [.str (wdOf s),.str ps[i].1]):=a7
     dsimp only
     generalize upd H3 c1 (.tup [.str (wdOf s),.str ps[i].1])=H5 at t1 g1
     have gD:=t1 _ _ q1
     have kp:∀ b ys,RdT H5 b ys->RdT (upd H5 D (.lst (zs++[.ref c1]))) b ys:=fun b ys r=>r.upd fun u hu z=>by
      subst z
      rcases r with r | ⟨_,r⟩<;>(rw [gD] at r;cases r)
     refine ⟨zs,gD,by omega,_,_,zs++[.ref c1],rfl,a7,?_,(q3.trans t1).put hD⟩
     have et:(ps.take (i+1)).map (fun p=>([wdOf s,p.1]:List Str))=(ps.take i).map (fun p=>([wdOf s,p.1]:List Str))++[[wdOf s,ps[i].1]]:=by
      rw [Qs,Qa hip,Qm];rfl
     rw [et]
     exact ((q2.keep fun b ys r=>r.same t1).keep kp).snoc (m:=[wdOf s,ps[i].1]) (kp _ _ (.inl g1))
    ·rintro τ H3 ⟨v0,v1,zs,rfl,q1,q2,q3⟩
     rw [hpl,Qo] at q2
     refine k D zs H3 hD q1 ?_ q3
     have em:(Hd.prs s ps).mvs.map (·.1)=ps.map fun p=>([wdOf s,p.1]:List Str):=by
      simp [Hd.mvs,wdOf,Qn,QB]
     rw [em]
     exact q2
   ·rw [n2] at c;cases c
def spMovesIn (mg:Str->Option Value):Sp:=fun vs H Q _=>∃ (x:V) (h:Hd) (ns:List Str) (rows:List Rw2) (d:Addr),vs=[x,.ref d]/\HV H x h/\h.ok ns/\Kn mg H "FROM" [.str "from"]/\Kn mg H "TO" [.str "to"]/\Rd H d (.dK (rowsE rows))/\(∀ z∈ns,z∈rows.map (·.1))/\(rows.map (·.1)).Nodup/\
 ∀ (m:Addr) (H':Hp),H m=none->H' m=some (.dT (movesE rows h))->Same H H'->Q (.ref m) H'
theorem pU (T:Txt K mg w):FnK P w K mg base 2 "moves_in" ["head","rows"] (spMovesIn mg):=by
 have i4:FnK P w K mg base 1 "steps_in" ["head"] (spStepsIn mg):=jX T
 have sH:FnK P w K mg base 1 "names_in" ["head"] spNamesH:=nZ T
 refine T.sK.okS qE (fun vs H Q E h=>?_) (fun f cdv A outer s H vs Q E hr h=>?_)
 ·obtain ⟨x,h,ns,rows,d,rfl,_⟩:=h
  rfl
 ·obtain ⟨x,h,ns,rows,d,rfl,hv,hok,kf,kt,hd,hin,nd,k⟩:=h
  have hu:=aQ hr
  have hu0:=Qx (aQ hr)
  have hsz:sizeLine=16777216:=QL
  have few:=gR hok
  refine ⟨_,(aC (aN (a0i (own:=["step","x"]) (idx:=[1]) (N':=["step","x","rows"]) (cE (defScope fT) (["head","rows"]:List Str) (by decide+kernel)) rfl hu0 (tR K (by rfl) T.n_zip (aK (bA i4 (hr.mono (by decide)) (a9 (zv 0) sa_nil)) (aK (bA sH (hr.mono (by decide)) (a9 (zv 0) sa_nil)) sa_nil))) (fun _ _ _ _ _ _=>(bQ K (n:=2) rfl (aH (aG (i:=0) (show List.Nodup (["step","x","rows"]:List Str) by decide+kernel) rfl (Or.inl rfl)) (aH (aG (i:=1) (show List.Nodup (["step","x","rows"]:List Str) by decide+kernel) rfl (Or.inl rfl)) bD)))) (fun _ _ _ _ _ _=>cN) (fun _ _ _ _ _ _=>(zv 0)) (fun _ _ _ _ _ _=>(bK hu (zv 2) (zv 1) (fun _ _=>rfl)))))),?_⟩
  refine ⟨x,h,ns,rfl,hv,hok,kf,kt,fun L us H1 hL eL sv s1=>⟨x,h,ns,rfl,hv.tk s1.ts,hok,fun M H2 hM eM s2=>?_⟩⟩
  have hlu:=sv.len
  rw [Ql] at hlu
  refine ⟨L,M,us,(nmsH h).map V.str,rfl,SqL.of (s2 _ _ eL),SqL.of eM,fun D hD=>?_⟩
  have hD0:H D=none:=(s1.trans s2).free hD
  have mn:min us.length ((nmsH h).map V.str).length=h.mvs.length:=by have:=a1k (h:=h);simp;omega
  have mnd:=oC (rows:=rows) (xT hok)
  have ml:(movesE rows h).length=h.mvs.length:=by simp [movesE]
  refine xD (uB us ((nmsH h).map V.str)) (fun i τ H3=>∃ v0 v1:Option V,τ=[v0,v1,some (.ref d)]/\H3 D=some (.dT ((movesE rows h).take i))/\Same H2 H3) ⟨none,none,rfl,a7,Same.upd hD _⟩ (by rintro i τ H3 _ ⟨_,_,_,_,s⟩;exact ⟨SqL.of (s _ _ (s2 _ _ eL)),SqL.of (s _ _ eM)⟩) ?_ ?_
  ·rintro i τ H3 T hi ⟨v0,v1,rfl,q1,q2⟩ hT
   rw [mn] at hi
   have hiu:i < us.length:=by omega
   obtain ⟨b,e1,e2⟩:=sv.at_ i hiu (by simpa using hi)
   have g1:us.getD i .non=.ref b:=by rw [Qb,Qa hiu,e1];rfl
   have g2':((nmsH h).map V.str).getD i .non=.str h.mvs[i].2:=by rw [Qb,Qq,zQ i hi];rfl
   rw [g1,g2']
   have t1:=Same.upd hT (.tup [.ref b,.str h.mvs[i].2])
   generalize upd H3 T (.tup [.ref b,.str h.mvs[i].2])=H5 at t1
   have hz:h.mvs[i].2∈ns:=rE hok _ (Qj hi)
   have hd5:Rd H5 d (.dK (rowsE rows)):=hd.same (((s1.trans s2).trans q2).trans t1)
   refine ⟨d,.str (endOf rows h.mvs[i].2),rfl,by rw [<- mK nd (hin _ hz)];exact DGet.rd (k:=Sum.inr h.mvs[i].2) hd5,?_⟩
   have er:RdT H5 b (h.mvs[i].1.map V.str):=by
    have:=(e2.same ((s2.trans q2).trans t1))
    simpa using this
   have hil:i < (movesE rows h).length:=by omega
   have em:(movesE rows h)[i]=(h.mvs[i].1.map Sum.inr,.str (endOf rows h.mvs[i].2)):=by simp [movesE]
   refine ⟨(movesE rows h).take i,(movesE rows h)[i].1,b,rfl,by rw [em,kstr];exact er,t1 _ _ q1,by simp;omega,_,_,rfl,?_,?_⟩
   ·have:=a0K mnd hil
    rw [em] at this ⊢
    rw [this]
    exact a7
   ·exact (q2.trans t1).put hD
  ·rintro τ H3 ⟨v0,v1,rfl,q1,q2⟩
   rw [mn,<- ml,Qo] at q1
   exact k D H3 hD0 q1 ((s1.trans s2).trans q2)
def spNet (mg:Str->Option Value):Sp:=fun vs H Q _=>∃ (x dx a:Addr) (xs:List V) (rows:List Rw2) (ns ws:List Str),vs=[.ref x,.ref a]/\H x=some (.ins (adr mg "Net") dx [])/\RT H a xs rows ns ws/\(∀ z∈ws,Wd z)/\Kn mg H "FROM" [.str "from"]/\Kn mg H "TO" [.str "to"]/\
 ∀ H',NetAt H' (adr mg "Net") x rows->Sx x H H'->Q .non H'
theorem lenF {f g:Str} {u v:V} (n:Nat):(putF f u (putF g v [])).length < 1000:=by
 have h1:=cK f u (putF g v [])
 have h2:=cK g v []
 simp at h2
 omega
theorem vL {K:Q0} {ta tv:TE} {f:Str} {D:Ends} {σ:St} {H:Hp} (h:tv σ H fun y H1=>ta σ H1 fun x H2=>∃ a C dx fs,x=.ref a/\H2 a=some (.ins C dx fs)/\Cls K C/\NoAttr K C f/\fs.length < 1000/\D.nx σ (upd H2 a (.ins C dx (putF f y fs)))):sFld K ta tv f D σ H:=h
set_option maxHeartbeats 1000000 in
theorem x9 (T:Txt K mg w):ClK P w K mg base 4 "Net" (adr mg "Net") ["self","T"] (spNet mg):=by
 have uX:FnK P w K mg base 2 "rows_of" ["T"] spRowsOf:=rA T
 have i4:FnK P w K mg base 1 "steps_in" ["head"] (spStepsIn mg):=jX T
 have rD:FnK P w K mg base 2 "moves_in" ["head","rows"] (spMovesIn mg):=pU T
 have cl:=T.k_Net.2.1
 have na:=T.k_Net.2.2.1
 refine T.k_Net.okS qL (fun vs H Q E h=>?_) (fun f cdv A outer s H vs Q E hr h=>?_)
 ·obtain ⟨x,dx,a,xs,rows,ns,ws,rfl,_⟩:=h
  rfl
 ·obtain ⟨x,dx,a,xs,rows,ns,ws,rfl,hx,rt,hw,kf,kt,k⟩:=h
  have hu:=aQ hr
  have hu0:=Qx (aQ hr)
  have hsz:sizeLine=16777216:=QL
  have ndr:=rt.ndr
  have hrl:=rt.rl
  have few:=rt.few
  have nonL:(nonAs rows).length<=10:=by have:=List.length_filter_le (fun r:Rw2=>r.2.nx.isNone) rows;unfold nonAs;omega
  have ndn:((nonAs rows).map (·.1)).Nodup:=(ndr.sublist (List.filter_sublist.map _))
  refine ⟨_,(aA (tK K (zv 0) (mC (bA uX (hr.mono (by decide)) (a9 (zv 1) sa_nil))))
   (aA (tK K (zv 0) (mC (a0F (own:=["name","head"]) (idx:=[]) (N':=["name","head"]) (cE (defScope d8) (["self","T"]:List Str) (by decide+kernel)) rfl (j6 K (zv 1)) (fun _ _ _ _ _ _=>(bQ K (n:=2) rfl (aH (aG (i:=0) (show List.Nodup (["name","head"]:List Str) by decide+kernel) rfl (Or.inl rfl)) (aH (aG (i:=1) (show List.Nodup (["name","head"]:List Str) by decide+kernel) rfl (Or.inl rfl)) bD)))) (fun _ _ _ _ _ _=>(a0Y (aJ (iF hu0) (aZ (aY K) (zv 1) aE (fun _ _=>rfl)) aU (nomark _)))) (fun _ _ _ _ _ _=>(zv 0)) (fun _ _ _ _ _ _=>(zv 1)))))
   (aA (tK K (zv 0) (mC (a0F (own:=["row","head"]) (idx:=[]) (N':=["row","head"]) (cE (defScope d8) (["self","T"]:List Str) (by decide+kernel)) rfl (qJ (eE K (zv 0))) (fun _ _ _ _ _ _=>(bQ K (n:=2) rfl (aH (aG (i:=0) (show List.Nodup (["row","head"]:List Str) by decide+kernel) rfl (Or.inl rfl)) (aH (aG (i:=1) (show List.Nodup (["row","head"]:List Str) by decide+kernel) rfl (Or.inl rfl)) bD)))) (fun _ _ _ _ _ _=>cN) (fun _ _ _ _ _ _=>(zv 0)) (fun _ _ _ _ _ _=>(aT (aF (aZ (aY K) (zv 1) aE (fun _ _=>rfl)) (aK (bO (d6 K) (by rfl) T.eZ QG (aK (bA i4 (hr.mono (by decide)) (a9 (zv 1) sa_nil)) sa_nil)) sa_nil)))))))
   (aC (tK K (zv 0) (mC (a0F (own:=["row","head"]) (idx:=[0]) (N':=["row","head","self"]) (cE (defScope d8) (["self","T"]:List Str) (by decide+kernel)) rfl (qJ (eE K (zv 0))) (fun _ _ _ _ _ _=>(bQ K (n:=2) rfl (aH (aG (i:=0) (show List.Nodup (["row","head","self"]:List Str) by decide+kernel) rfl (Or.inl rfl)) (aH (aG (i:=1) (show List.Nodup (["row","head","self"]:List Str) by decide+kernel) rfl (Or.inl rfl)) bD)))) (fun _ _ _ _ _ _=>cN) (fun _ _ _ _ _ _=>(zv 0)) (fun _ _ _ _ _ _=>(mC (bA rD (hr.mono (by decide)) (a9 (zv 1) (oB (eE K (zv 2)) sa_nil)))))))))))),?_⟩
  generalize hC:adr mg "Net"=C at*
  refine lK ⟨a,xs,rows,ns,ws,rfl,rt,hw,fun d1 H1 hd1 s1 e1=>⟨d1,rfl,.inl ⟨_,.inl e1,fun o1=>?_⟩⟩⟩
  have nx1:d1≠x:=fun z=>by rw [z,hx] at hd1;cases hd1
  refine ⟨x,C,dx,[],rfl,by rw [aD nx1.symm];exact s1 _ _ hx,cl,na "rows" (by simp),by simp,?_⟩
  have sx1:Sx x H (upd (upd H1 d1 (.frz o1 (.dK (rowsE rows)))) x (.ins C dx (putF "rows" (.ref d1) []))):=((s1.put hd1).sx).trans Sx.upd
  have g1:upd (upd H1 d1 (.frz o1 (.dK (rowsE rows)))) x (.ins C dx (putF "rows" (.ref d1) [])) d1=some (.frz o1 (.dK (rowsE rows))):=by rw [aD nx1];exact a7
  have gx:upd (upd H1 d1 (.frz o1 (.dK (rowsE rows)))) x (.ins C dx (putF "rows" (.ref d1) [])) x=some (.ins C dx (putF "rows" (.ref d1) [])):=a7
  generalize upd (upd H1 d1 (.frz o1 (.dK (rowsE rows)))) x (.ins C dx (putF "rows" (.ref d1) []))=H2 at sx1 g1 gx ⊢
  have nt:∀ ys,H x≠some (.tup ys):=fun ys z=>by rw [hx] at z;cases z
  have nf:∀ q u,H x≠some (.frz q u):=fun q u z=>by rw [hx] at z;cases z
  have rt2:=rt.tk (sx1.tk nt)
  clear e1 s1 hd1 H1
  -- heads
  refine lK (Or.inr ⟨⟨xs,SqT.of rt2.at_⟩,fun D hD=>?_⟩)
  have nDx:D≠x:=fun z=>by rw [z,gx] at hD;cases hD
  refine a2I (cV xs) (fun i τ H3=>∃ (v0 v1:Option V) (kvs:List (Key×V)),τ=[v0,v1]/\H3 D=some (.dK kvs)/\DV RH H3 kvs (nonAs (rows.take i))/\Same H2 H3) ⟨none,none,[],rfl,a7,DV.nil,Same.upd hD _⟩ (by rintro i τ H3 _ ⟨_,_,_,_,_,_,s⟩;exact SqT.of (s _ _ rt2.at_)) ?_ ?_
  ·rintro i τ H3 hi ⟨v0,v1,kvs,rfl,q1,q2,q3⟩
   have hir:i < rows.length:=by have:=rt2.rv.len;omega
   obtain ⟨b,v,r1,r2,r3⟩:=rt2.rv.at_ i hi hir
   have eg:xs.getD i .non=.ref b:=by rw [Qb,Qa hi,r1];rfl
   rw [eg]
   refine cX (q3 _ _ r2) ?_
   have r3':=r3.same q3
   obtain ⟨c,ys,rfl,hc⟩:=r3'.srt
   have hok:=(rt2.ok rows[i] (Qj hir)).2
   have et:rows.take (i+1)=rows.take i++[rows[i]]:=by rw [Qs,Qa hir];rfl
   have kl:kvs.length < sizeLine:=by
    have h1:=q2.len
    have h2:=List.length_filter_le (fun r:Rw2=>r.2.nx.isNone) (rows.take i)
    unfold nonAs at h1
    simp at h2
    omega
   refine ⟨_,.str rows[i].2.srt,.inr (SqT.of hc),aI _ _,rfl,_,rfl,iteB (fun c1=>?_) (fun c1=>?_)⟩
   ·have hn:rows[i].2.nx.isNone=true:=by
     cases e:rows[i].2.nx.isNone with
     | true=>rfl
     | false=>
      have:=(sJ hok).symm▸e
      rw [this] at c1
      simp at c1
    have en:nonAs (rows.take (i+1))=nonAs (rows.take i)++[rows[i]]:=by
     rw [et];unfold nonAs;rw [List.filter_append,List.filter_cons,if_pos hn];rfl
    have hnot:rows[i].1 ∉ (nonAs (rows.take i)).map (·.1):=fun hm=>by
     obtain ⟨r,hr,e⟩:=List.mem_map.mp hm
     have hr':=(List.mem_filter.mp hr).1
     obtain ⟨j,hj,rfl⟩:=Qi hr'
     have hj':j < i:=by simp at hj;omega
     rw [List.getElem_take] at e
     have:=List.pairwise_iff_getElem.mp ndr j i (by simp;omega) (by simpa using hir) hj'
     simp only [Qr] at this
     exact this e
    refine ⟨kvs,.inr rows[i].1,rfl,q1,kl,_,_,kvs++[(.inr rows[i].1,.ref c)],rfl,?_,?_,q3.put hD⟩
    ·rw [q2.put hnot];exact a7
    ·rw [en]
     exact (q2.snoc (show RH H3 (.ref c) rows[i] from r3')).keep fun v r h=>HV.tk ((Tk.refl).set q1 fun xs z=>nomatch z) h
   ·have hn:rows[i].2.nx.isNone=false:=by
     have e:rows[i].2.srt="as":=by
      have:decide (V.str rows[i].2.srt=V.str "as")=true:=by simpa using c1
      exact V.str.inj (Qt this)
     exact (sJ hok)▸e
    have en:nonAs (rows.take (i+1))=nonAs (rows.take i):=by
     rw [et];unfold nonAs;rw [List.filter_append,List.filter_cons,if_neg (by rw [hn];decide)];simp
    exact ⟨_,_,kvs,rfl,q1,by rw [en];exact q2,q3⟩
  ·rintro τ H3 ⟨v0,v1,k2,rfl,q1,q2,q3⟩
   rw [rt2.rv.len,Qo] at q2
   refine ⟨D,rfl,.inl ⟨k2,.inl q1,fun o2=>?_⟩⟩
   refine ⟨x,C,dx,_,rfl,by rw [aD nDx.symm];exact q3 _ _ gx,cl,na "heads" (by simp),by simp [putF],?_⟩
   have nd1:d1≠D:=fun z=>by rw [z,hD] at g1;cases g1
   have sx2:Sx x H2 (upd (upd H3 D (.frz o2 (.dK k2))) x (.ins C dx (putF "heads" (.ref D) (putF "rows" (.ref d1) [])))):=((q3.put hD:Same _ _) |> Same.sx).trans Sx.upd
   have g2:upd (upd H3 D (.frz o2 (.dK k2))) x (.ins C dx (putF "heads" (.ref D) (putF "rows" (.ref d1) []))) D=some (.frz o2 (.dK k2)):=by rw [aD nDx];exact a7
   have gx2:upd (upd H3 D (.frz o2 (.dK k2))) x (.ins C dx (putF "heads" (.ref D) (putF "rows" (.ref d1) []))) x=some (.ins C dx (putF "heads" (.ref D) (putF "rows" (.ref d1) []))):=a7
   have dv2:DV RH (upd (upd H3 D (.frz o2 (.dK k2))) x (.ins C dx (putF "heads" (.ref D) (putF "rows" (.ref d1) [])))) k2 (nonAs rows):=q2.keep fun v r h=>HV.tk (((Tk.refl).set q1 fun xs z=>nomatch z).set (by rw [aD nDx.symm];exact q3 _ _ gx) fun xs z=>by cases z) h
   generalize upd (upd H3 D (.frz o2 (.dK k2))) x (.ins C dx (putF "heads" (.ref D) (putF "rows" (.ref d1) [])))=H4 at sx2 g2 gx2 dv2 ⊢
   have g1':H4 d1=some (.frz o1 (.dK (rowsE rows))):=sx2 _ _ nx1 g1
   have sx3:=sx1.trans sx2
   have kf4:Kn mg H4 "FROM" [.str "from"]:=let ⟨o,e⟩:=kf;⟨o,sx3.frz nf e⟩
   have kt4:Kn mg H4 "TO" [.str "to"]:=let ⟨o,e⟩:=kt;⟨o,sx3.frz nf e⟩
   have k2l:=dv2.len
   have nonOk:∀ i (h:i < (nonAs rows).length),((nonAs rows)[i]).2.ok ns:=fun i h=>(rt.ok _ (List.mem_filter.mp (Qj h)).1).2
   have keyE:∀ i (h:i < (nonAs rows).length),keyAt k2 i=.str (nonAs rows)[i].1:=fun i h=>by
    unfold keyAt
    rw [Qa (by omega)]
    show kV k2[i].1=_
    rw [(dv2.at_ i (by omega) h).1];rfl
   have valE:∀ i (h:i < (nonAs rows).length),HV H4 (valAt k2 i) (nonAs rows)[i].2:=fun i h=>by
    unfold valAt
    rw [Qa (by omega)]
    exact (dv2.at_ i (by omega) h).2
   have notin:∀ i (h:i < (nonAs rows).length),(nonAs rows)[i].1 ∉ ((nonAs rows).take i).map (·.1):=fun i h hm=>by
    obtain ⟨r,hr,e⟩:=List.mem_map.mp hm
    obtain ⟨j,hj,rfl⟩:=Qi hr
    have hj':j < i:=by simp at hj;omega
    rw [List.getElem_take] at e
    have:=List.pairwise_iff_getElem.mp ndn j i (by simp;omega) (by simpa using h) hj'
    simp only [Qr] at this
    exact this e
   have takeE:∀ i (h:i < (nonAs rows).length),(nonAs rows).take (i+1)=(nonAs rows).take i++[(nonAs rows)[i]]:=fun i h=>by rw [Qs,Qa h];rfl
   clear q1 q2 q3 hD rt2
   -- marks
   refine lK ⟨x,C,dx,_,.ref D,rfl,gx2,cl,na "heads" (by simp),by rw [cH,if_pos rfl],D,k2,rfl,.inl ⟨o2,g2,fun D3 hD3=>?_⟩⟩
   have nD3x:D3≠x:=fun z=>by rw [z,gx2] at hD3;cases hD3
   refine uA (n5 k2) (fun i τ H5=>∃ (v0 v1:Option V) (kvs:List (Key×V)),τ=[v0,v1]/\H5 D3=some (.dK kvs)/\DV RM H5 kvs ((nonAs rows).take i)/\Same H4 H5) ⟨none,none,[],rfl,a7,DV.nil,Same.upd hD3 _⟩ (by rintro i τ H5 _ ⟨_,_,_,_,_,_,s⟩;exact s _ _ g2) ?_ ?_
   ·rintro i τ H5 T5 hi ⟨v0,v1,kvs,rfl,q1,q2,q3⟩ hT
    have hin:i < (nonAs rows).length:=by omega
    rw [keyE i hin]
    have hv:=valE i hin
    generalize valAt k2 i=v at hv
    have t1:=Same.upd hT (.tup [.str (nonAs rows)[i].1,v])
    generalize upd H5 T5 (.tup [.str (nonAs rows)[i].1,v])=H6 at t1
    have hv6:=hv.same (q3.trans t1)
    obtain ⟨c,ys,rfl,hc⟩:=hv6.srt
    refine ⟨_,.str (nonAs rows)[i].2.srt,.inr (SqT.of hc),aI _ _,.ref c,(nonAs rows)[i].2,ns,rfl,hv6,nonOk i hin,kf4.same (q3.trans t1),kt4.same (q3.trans t1),fun L us H7 hL eL sv s7=>?_⟩
    refine ⟨L,us,rfl,.inl ⟨SqL.of eL,fun l hl=>⟨(show 2<=sizeLine by decide),fun t ht=>?_⟩⟩⟩
    have s8:=(s7.trans (Same.upd hl (.tup us))).trans (Same.upd ht (.tup [.str (nonAs rows)[i].2.srt,.ref l]))
    have el:upd (upd H7 l (.tup us)) t (.tup [.str (nonAs rows)[i].2.srt,.ref l]) l=some (.tup us):=Same.upd ht _ _ _ a7
    have et:upd (upd H7 l (.tup us)) t (.tup [.str (nonAs rows)[i].2.srt,.ref l]) t=some (.tup [.str (nonAs rows)[i].2.srt,.ref l]):=a7
    have sv8:SV (upd (upd H7 l (.tup us)) t (.tup [.str (nonAs rows)[i].2.srt,.ref l])) us ((nonAs rows)[i].2.mvs.map (·.1)):=sv.keep fun b ys r=>r.same ((Same.upd hl _).trans (Same.upd ht _))
    dsimp only
    generalize upd (upd H7 l (.tup us)) t (.tup [.str (nonAs rows)[i].2.srt,.ref l])=H8 at s8 el et sv8
    have g3:=(t1.trans s8) _ _ q1
    have kl:kvs.length < sizeLine:=by have h1:=q2.len;simp at h1;omega
    have kp:Tk H8 (upd H8 D3 (.dK (kvs++[(.inr (nonAs rows)[i].1,.ref t)]))):=(Tk.refl).set g3 fun xs z=>nomatch z
    refine ⟨kvs,.inr (nonAs rows)[i].1,rfl,g3,kl,_,_,kvs++[(.inr (nonAs rows)[i].1,.ref t)],rfl,?_,?_,((q3.trans t1).trans s8).put hD3⟩
    ·rw [q2.put (notin i hin)];exact a7
    ·rw [takeE i hin,q2.put (notin i hin)]
     have kr:∀ b ys,RdT H8 b ys->RdT (upd H8 D3 (.dK (kvs++[(.inr (nonAs rows)[i].1,.ref t)]))) b ys:=fun b ys r=>r.put g3 (fun _ z=>nomatch z) fun _ _ z=>nomatch z
     refine ((q2.keep fun v r ⟨b,c,us,e1,e2,e3,e4⟩=>⟨b,c,us,e1,(t1.trans s8) _ _ e2,(t1.trans s8) _ _ e3,e4.keep fun b ys r=>r.same (t1.trans s8)⟩:DV RM H8 kvs _).snoc (show RM H8 (.ref t) (nonAs rows)[i] from ⟨t,l,us,rfl,et,el,sv8⟩)).keep fun v r ⟨b,c,us,e1,e2,e3,e4⟩=>⟨b,c,us,e1,kp _ _ e2,kp _ _ e3,e4.keep kr⟩
   ·rintro τ H5 ⟨v0,v1,k3,rfl,q1,q2,q3⟩
    rw [k2l,Qo] at q2
    refine ⟨D3,rfl,.inl ⟨k3,.inl q1,fun o3=>?_⟩⟩
    refine ⟨x,C,dx,_,rfl,by rw [aD nD3x.symm];exact q3 _ _ gx2,cl,na "marks" (by simp),lenF 2,?_⟩
    have nd3:d1≠D3:=fun z=>by rw [z,hD3] at g1';cases g1'
    have nD2:D≠D3:=fun z=>by rw [z,hD3] at g2;cases g2
    generalize hF3:putF "marks" (.ref D3) (putF "heads" (.ref D) (putF "rows" (.ref d1) []))=fs3
    have lk:∀ y:Str,fs3.lookup y=if y="marks" then some (.ref D3) else if y="heads" then some (.ref D) else if y="rows" then some (.ref d1) else none:=fun y=>by rw [<- hF3,cH,cH,cH];rfl
    have fl:fs3.length<=3:=by rw [<- hF3];have h1:=cK "marks" (.ref D3) (putF "heads" (.ref D) (putF "rows" (.ref d1) []));have h2:=cK "heads" (.ref D) (putF "rows" (.ref d1) []);have h3:=cK "rows" (.ref d1) [];simp at h3;omega
    have sx4:Sx x H4 (upd (upd H5 D3 (.frz o3 (.dK k3))) x (.ins C dx fs3)):=((q3.put hD3:Same _ _) |> Same.sx).trans Sx.upd
    have g3:upd (upd H5 D3 (.frz o3 (.dK k3))) x (.ins C dx fs3) D3=some (.frz o3 (.dK k3)):=by rw [aD nD3x];exact a7
    have gx3:upd (upd H5 D3 (.frz o3 (.dK k3))) x (.ins C dx fs3) x=some (.ins C dx fs3):=a7
    have kt5:Tk H5 (upd (upd H5 D3 (.frz o3 (.dK k3))) x (.ins C dx fs3)):=((Tk.refl).set q1 fun xs z=>nomatch z).set (by rw [aD nD3x.symm];exact q3 _ _ gx2) fun xs z=>by cases z
    have kr5:∀ b ys,RdT H5 b ys->RdT (upd (upd H5 D3 (.frz o3 (.dK k3))) x (.ins C dx fs3)) b ys:=fun b ys r=>(r.put q1 (fun _ z=>nomatch z) fun _ _ z=>nomatch z).put (by rw [aD nD3x.symm];exact q3 _ _ gx2) (fun _ z=>by cases z) fun _ _ z=>by cases z
    have dv3:DV RM (upd (upd H5 D3 (.frz o3 (.dK k3))) x (.ins C dx fs3)) k3 (nonAs rows):=q2.keep fun v r ⟨b,c,us,e1,e2,e3,e4⟩=>⟨b,c,us,e1,kt5 _ _ e2,kt5 _ _ e3,e4.keep kr5⟩
    have dv2':DV RH (upd (upd H5 D3 (.frz o3 (.dK k3))) x (.ins C dx fs3)) k2 (nonAs rows):=dv2.keep fun v r h=>HV.tk ((q3.ts).trans kt5) h
    generalize upd (upd H5 D3 (.frz o3 (.dK k3))) x (.ins C dx fs3)=H6 at sx4 g3 gx3 dv3 dv2' ⊢
    have g16:H6 d1=some (.frz o1 (.dK (rowsE rows))):=sx4 _ _ nx1 g1'
    have g26:H6 D=some (.frz o2 (.dK k2)):=sx4 _ _ nDx g2
    have kf6:Kn mg H6 "FROM" [.str "from"]:=let ⟨o,e⟩:=kf4;⟨o,sx4.frz (fun q u z=>by rw [gx2] at z;cases z) e⟩
    have kt6:Kn mg H6 "TO" [.str "to"]:=let ⟨o,e⟩:=kt4;⟨o,sx4.frz (fun q u z=>by rw [gx2] at z;cases z) e⟩
    have valE6:∀ i (h:i < (nonAs rows).length),HV H6 (valAt k2 i) (nonAs rows)[i].2:=fun i h=>by
     unfold valAt
     rw [Qa (by omega)]
     exact (dv2'.at_ i (by omega) h).2
    have sx5:=sx3.trans sx4
    have hinn:∀ z∈ns,z∈rows.map (·.1):=fun z hz=>rt.nm.mem_iff.mpr hz
    clear q1 q2 q3 kt5 kr5 dv2 sx4
    -- moves
    refine vL ⟨x,C,dx,fs3,.ref D,rfl,gx3,cl,na "heads" (by simp),by rw [lk,if_neg (by decide+kernel),if_pos rfl],D,k2,rfl,.inl ⟨o2,g26,fun D4 hD4=>?_⟩⟩
    have nD4x:D4≠x:=fun z=>by rw [z,gx3] at hD4;cases hD4
    refine uA (n5 k2) (fun i τ H7=>∃ (v0 v1:Option V) (kvs:List (Key×V)),τ=[v0,v1,some (.ref x)]/\H7 D4=some (.dK kvs)/\DV (RO rows) H7 kvs ((nonAs rows).take i)/\Same H6 H7) ⟨none,none,[],rfl,a7,DV.nil,Same.upd hD4 _⟩ (by rintro i τ H5 _ ⟨_,_,_,_,_,_,s⟩;exact s _ _ g26) ?_ ?_
    ·rintro i τ H7 T7 hi ⟨v0,v1,kvs,rfl,q1,q2,q3⟩ hT
     have hin:i < (nonAs rows).length:=by omega
     rw [keyE i hin]
     have hv:=valE6 i hin
     generalize valAt k2 i=v at hv
     have t1:=Same.upd hT (.tup [.str (nonAs rows)[i].1,v])
     generalize upd H7 T7 (.tup [.str (nonAs rows)[i].1,v])=H8 at t1
     have q4:=q3.trans t1
     refine ⟨x,C,dx,fs3,.ref d1,rfl,q4 _ _ gx3,cl,na "rows" (by simp),by rw [lk,if_neg (by decide+kernel),if_neg (by decide+kernel),if_pos rfl],?_⟩
     refine ⟨v,(nonAs rows)[i].2,ns,rows,d1,rfl,hv.same q4,nonOk i hin,kf6.same q4,kt6.same q4,.inr ⟨o1,q4 _ _ g16⟩,hinn,ndr,fun m H9 hm em s9=>⟨m,rfl,.inr ⟨_,.inl em,fun o=>?_⟩⟩⟩
     have nmD:D4≠m:=fun z=>by
      have:=t1 _ _ q1
      rw [z,hm] at this;cases this
     have s10:Same H8 (upd H9 m (.frz o (.dT (movesE rows (nonAs rows)[i].2)))):=s9.put hm
     have em10:upd H9 m (.frz o (.dT (movesE rows (nonAs rows)[i].2))) m=some (.frz o (.dT (movesE rows (nonAs rows)[i].2))):=a7
     generalize upd H9 m (.frz o (.dT (movesE rows (nonAs rows)[i].2)))=H10 at s10 em10
     have g10:=(t1.trans s10) _ _ q1
     have kl:kvs.length < sizeLine:=by have h1:=q2.len;simp at h1;omega
     refine ⟨kvs,.inr (nonAs rows)[i].1,rfl,g10,kl,_,_,kvs++[(.inr (nonAs rows)[i].1,.ref m)],rfl,?_,?_,(q4.trans s10).put hD4⟩
     ·rw [q2.put (notin i hin)];exact a7
     ·rw [takeE i hin,q2.put (notin i hin)]
      refine ((q2.keep fun v r ⟨m',o',e1,e2⟩=>⟨m',o',e1,(t1.trans s10) _ _ e2⟩:DV (RO rows) H10 kvs _).snoc (show RO rows H10 (.ref m) (nonAs rows)[i] from ⟨m,o,rfl,em10⟩)).keep fun v r ⟨m',o',e1,e2⟩=>⟨m',o',e1,?_⟩
      rw [aD (fun z=>by rw [z,g10] at e2;cases e2)]
      exact e2
    ·rintro τ H7 ⟨v0,v1,k4,rfl,q1,q2,q3⟩
     rw [k2l,Qo] at q2
     refine ⟨D4,rfl,.inl ⟨k4,.inl q1,fun o4=>?_⟩⟩
     refine ⟨x,C,dx,fs3,rfl,by rw [aD nD4x.symm];exact q3 _ _ gx3,cl,na "moves" (by simp),by omega,?_⟩
     have nd41:d1≠D4:=fun z=>by rw [z,hD4] at g16;cases g16
     have nd42:D≠D4:=fun z=>by rw [z,hD4] at g26;cases g26
     have nd43:D3≠D4:=fun z=>by rw [z,hD4] at g3;cases g3
     have s7:Sx x H6 (upd (upd H7 D4 (.frz o4 (.dK k4))) x (.ins C dx (putF "moves" (.ref D4) fs3))):=((q3.put hD4:Same _ _) |> Same.sx).trans Sx.upd
     have kt7:Tk H7 (upd (upd H7 D4 (.frz o4 (.dK k4))) x (.ins C dx (putF "moves" (.ref D4) fs3))):=((Tk.refl).set q1 fun xs z=>nomatch z).set (by rw [aD nD4x.symm];exact q3 _ _ gx3) fun xs z=>by cases z
     have kr7:∀ b ys,RdT H7 b ys->RdT (upd (upd H7 D4 (.frz o4 (.dK k4))) x (.ins C dx (putF "moves" (.ref D4) fs3))) b ys:=fun b ys r=>(r.put q1 (fun _ z=>nomatch z) fun _ _ z=>nomatch z).put (by rw [aD nD4x.symm];exact q3 _ _ gx3) (fun _ z=>by cases z) fun _ _ z=>by cases z
     have kz7:∀ b q u,H7 b=some (.frz q u)->upd (upd H7 D4 (.frz o4 (.dK k4))) x (.ins C dx (putF "moves" (.ref D4) fs3)) b=some (.frz q u):=fun b q u e=>by
      rw [aD (fun z=>by rw [z,q3 _ _ gx3] at e;cases e),aD (fun z=>by rw [z,q1] at e;cases e)]
      exact e
     have l4:∀ y:Str,(putF "moves" (.ref D4) fs3).lookup y=if y="moves" then some (.ref D4) else fs3.lookup y:=fun y=>cH _ _ _ _
     refine k _ ⟨dx,putF "moves" (.ref D4) fs3,a7,⟨⟨d1,o1,?_,s7 _ _ nx1 g16⟩,⟨D,o2,k2,?_,s7 _ _ nDx g26,dv2'.keep fun v r h=>HV.tk (q3.ts.trans kt7) h⟩,⟨D3,o3,k3,?_,s7 _ _ nD3x g3,dv3.keep fun v r ⟨b,c,us,e1,e2,e3,e4⟩=>⟨b,c,us,e1,kt7 _ _ (q3 _ _ e2),kt7 _ _ (q3 _ _ e3),e4.keep fun b ys r=>kr7 _ _ (r.same q3)⟩⟩,⟨D4,o4,k4,?_,?_,q2.keep fun v r ⟨m,o,e1,e2⟩=>⟨m,o,e1,kz7 _ _ _ e2⟩⟩⟩⟩ (sx5.trans s7)
     ·rw [l4,if_neg (by decide+kernel),lk,if_neg (by decide+kernel),if_neg (by decide+kernel),if_pos rfl]
     ·rw [l4,if_neg (by decide+kernel),lk,if_neg (by decide+kernel),if_pos rfl]
     ·rw [l4,if_neg (by decide+kernel),lk,if_pos rfl]
     ·rw [l4,if_pos rfl]
     ·rw [aD nD4x];exact a7
def dbl (ns:List Str):List Str:=ns.flatMap fun n=>[n++"q",n++"r"]
theorem dA {ns:List Str} {z:Str}:z∈dbl ns↔∃ n∈ns,z=n++"q"\/z=n++"r":=by
 unfold dbl
 rw [List.mem_flatMap]
 constructor
 ·rintro ⟨n,hn,h⟩
  simp only [Qp,QA,or_false] at h
  exact ⟨n,hn,h⟩
 ·rintro ⟨n,hn,h⟩
  exact ⟨n,hn,by simpa using h⟩
theorem xF:∀ z∈dbl N8,isName z=true/\Wd z:=by
 have h1:(dbl N8).all (fun z=>isName z&&decide (z.length<=20)&&z.cps.toList.all (fun c=>decide (c < 128)))=true:=by decide+kernel
 intro z hz
 have h2:=List.all_eq_true.mp h1 z hz
 simp only [Bool.and_eq_true,decide_eq_true_eq] at h2
 exact ⟨h2.1.1,h2.1.2,fun c hc=>Qt (List.all_eq_true.mp h2.2 c hc)⟩
theorem nD (ns:List Str):(dbl ns).length=2*ns.length:=by
 unfold dbl
 induction ns with
 | nil=>rfl
 | cons n ns ih=>rw [List.flatMap_cons,Qk,ih];simp;omega
theorem wE (ns:List Str) (i:Nat) (h:i < ns.length):(dbl ns)[2*i]? =some (ns[i]++"q")/\(dbl ns)[2*i+1]? =some (ns[i]++"r"):=by
 unfold dbl
 induction ns generalizing i with
 | nil=>simp at h
 | cons n ns ih=>
  rw [List.flatMap_cons]
  cases i with
  | zero=>exact ⟨rfl,rfl⟩
  | succ i=>
   have:=ih i (by simpa using h)
   rw [show 2*(i+1)=2*i+2 by omega,show 2*i+2+1=2*i+1+2 by omega]
   simpa using this
theorem a14 {ns:List Str} (h:ns.Nodup) (h8:∀ n∈ns,n∈N8):(dbl ns).Nodup:=by
 have inj:∀ a∈N8,∀ b∈N8,∀ c∈(["q","r"]:List Str),∀ d∈(["q","r"]:List Str),a++c=b++d->a=b/\c=d:=by decide+kernel
 unfold dbl
 induction ns with
 | nil=>exact List.nodup_nil
 | cons n ns ih=>
  rw [List.nodup_cons] at h
  rw [List.flatMap_cons,List.nodup_append]
  refine ⟨?_,ih h.2 fun m hm=>h8 m (Qh _ hm),fun a ha b hb e=>?_⟩
  ·have:=inj n (h8 n List.mem_cons_self) n (h8 n List.mem_cons_self) "q" (by simp) "r" (by simp)
   simp only [List.nodup_cons,List.mem_singleton,List.not_mem_nil,not_false_eq_true,List.nodup_nil,and_true]
   exact fun z=>absurd (this z).2 (by decide+kernel)
  ·obtain ⟨m,hm,hb⟩:=List.mem_flatMap.mp hb
   subst e
   simp only [Qp,QA,or_false] at ha hb
   have key:∀ c∈(["q","r"]:List Str),∀ d∈(["q","r"]:List Str),n++c=m++d->False:=fun c hc d hd e=>by
    have:=(inj n (h8 n List.mem_cons_self) m (h8 m (Qh _ hm)) c hc d hd e).1
    rw [this] at h
    exact h.1 hm
   rcases ha with rfl | rfl<;>rcases hb with hb | hb
   ·exact key "q" (by simp) "q" (by simp) hb
   ·exact key "q" (by simp) "r" (by simp) hb
   ·exact key "r" (by simp) "q" (by simp) hb
   ·exact key "r" (by simp) "r" (by simp) hb
def spTwinH (K:Q0):Sp:=fun vs H Q _=>∃ (H0:Hp) (p:Addr) (v:V) (h:Hd) (t:Nat) (ns:List Str),vs=[.ref p,v]/\NxAt K H0 H p t/\t+20 < 900000/\HV H v h/\h.ok ns/\(∀ n∈ns,n∈N8)/\(∀ z∈h.wds,z∈WW)/\
 ∀ (v':V) (h':Hd) (H':Hp),HV H' v' h'->h'.ok (dbl ns)->(∀ y',h'.nx=some y'->∃ y,h.nx=some y/\(y'=y++"q"\/y'=y++"r"))->(∀ z∈h'.wds,z∈WW)->NxAt K H0 H' p (t+20)->Sm p p H H'->Q v' H'
theorem a0d (i:Nat) (h:i < 2):∃ c,atI (("qr":Str).cps.toList) (i:Int)=some c/\((⟨#[c]⟩:Str)="q"\/(⟨#[c]⟩:Str)="r"):=by
 match i,h with
 | 0,_=>exact ⟨113,rfl,.inl rfl⟩
 | 1,_=>exact ⟨114,rfl,.inr rfl⟩
set_option maxHeartbeats 2000000 in
theorem j7 (T:Txt K mg w):FnK P w K mg base 3 "_law_twin_head" ["_law_pen","_law_here"] (spTwinH K):=by
 have aO:FnK P w K mg base 2 "_law_next" ["_law_pen","_law_many"] (spNx K):=bH T
 refine T.kF.okS jI (fun vs H Q E h=>?_) (fun f cdv A outer s H vs Q E hr h=>?_)
 ·obtain ⟨H0,p,v,h,t,ns,rfl,_⟩:=h
  rfl
 ·obtain ⟨H0,p,v,h,t,ns,rfl,hn,ht,hv,hok,h8,hww,k⟩:=h
  have hu:=aQ hr
  have hu0:=Qx (aQ hr)
  have hsz:sizeLine=16777216:=QL
  have nlen:∀ z∈ns,z.length<=8:=fun z hz=>dY (mF z (h8 z hz)).1
  have dok:∀ z∈dbl ns,isName z=true:=fun z hz=>by
   obtain ⟨n,hn,h⟩:=dA.mp hz
   exact (xF z (dA.mpr ⟨n,h8 n hn,h⟩)).1
  refine ⟨_,(aA (bN (aJ (oA K) (aZ (aY K) (zv 1) aE (fun _ _=>rfl)) (aT (aB aU (aB aU sa_nil))) rfl) (aC (aN (zv 1))) aP)
   (aA (bN (aJ (oA K) (aZ (aY K) (zv 1) aE (fun _ _=>rfl)) (aT (aB aU (aB aU sa_nil))) rfl) (aC (aN (bM (nP K) (dB (m9 K) (zv 1) dM (cZ aE)) (bO (d6 K) (by rfl) T.eZ QG (dC (i9 (own:=["_law_name"]) (idx:=[0]) (N':=["_law_name","_law_pen"]) (cE (defScope bY) (["_law_pen","_law_here"]:List Str) (by decide+kernel)) rfl (j6 K (dB (m9 K) (zv 1) (cZ aE) dM)) (fun _ _ _ _ _ _=>(aG (i:=0) (show List.Nodup (["_law_name","_law_pen"]:List Str) by decide+kernel) rfl (Or.inl rfl))) (fun _ _ _ _ _ _=>cN) (fun _ _ _ _ _ _=>(bM bB (zv 0) (aZ (aY K) aU (bA aO (hr.mono (by decide)) (a9 (zv 1) (aB aE sa_nil))) (fun _ _=>rfl))))) sa_nil))))) aP)
   (aC (aN (aT (aF (aZ (aY K) (zv 1) aE (fun _ _=>rfl)) (aK (bO (d6 K) (by rfl) T.eZ QG (dC (i9 (own:=["_law_word","_law_name"]) (idx:=[0]) (N':=["_law_word","_law_name","_law_pen"]) (cE (defScope bY) (["_law_pen","_law_here"]:List Str) (by decide+kernel)) rfl (j6 K (aZ (aY K) (zv 1) aE (fun _ _=>rfl))) (fun _ _ _ _ _ _=>(bQ K (n:=2) rfl (aH (aG (i:=0) (show List.Nodup (["_law_word","_law_name","_law_pen"]:List Str) by decide+kernel) rfl (Or.inl rfl)) (aH (aG (i:=1) (show List.Nodup (["_law_word","_law_name","_law_pen"]:List Str) by decide+kernel) rfl (Or.inl rfl)) bD)))) (fun _ _ _ _ _ _=>cN) (fun _ _ _ _ _ _=>(aT (a9 (zv 0) (gK (bM bB (zv 1) (aZ (aY K) aU (bA aO (hr.mono (by decide)) (a9 (zv 2) (aB aE sa_nil))) (fun _ _=>rfl))) sa_nil))))) sa_nil)) sa_nil))))))),?_⟩
  /- the first two tests -/
  have tests:∀ (b:Addr) (z:Str) (ys:List V) (A B:TS) (D:Ends) (l1 l2:Str),H b=some (.tup (.str z::ys))->((z∈([l1,l2]:List Str))->∀ H1,Same H H1->A D [some (.ref p),some (.ref b)] H1)->((z ∉ ([l1,l2]:List Str))->∀ H1,Same H H1->B D [some (.ref p),some (.ref b)] H1)->
    ∀ H1,Same H H1->tIfS (tTest (tOp (rInD K false) (tOp (rIxD K) (tV 1) (tC (V.int 0))) (tTup (tCons (tC (V.str l1)) (tCons (tC (V.str l2)) tNil))))) A B D [some (.ref p),some (.ref b)] H1:=by
   intro b z ys A B D l1 l2 e hA hB H1 s1
   refine ⟨_,.str z,.inr (SqT.of (s1 _ _ e)),aI _ _,(show 2<=sizeLine by decide),fun T1 hT1=>⟨[.str l1,.str l2],.inr (SqT.of a7),rfl,rfl,_,rfl,?_⟩⟩
   show if (false^^inV (.str z) (([l1,l2]:List Str).map V.str))=true then _ else _
   rw [iM,QE]
   by_cases hz:z∈([l1,l2]:List Str)
   ·rw [Qv hz];exact iteT (hA hz _ (s1.trans (Same.upd hT1 _)))
   ·rw [Qw hz];exact iteF (hB hz _ (s1.trans (Same.upd hT1 _)))
  have plain:∀ (b:Addr) (z0:Str) (ys:List Str),H b=some (.tup (.str z0::ys.map V.str))->(ys.length=1\/ys.length=2)->(∀ y∈ys,y.length<=8)->(∀ (pp:Addr) (zs:List Str) (H':Hp),H' pp=some (.tup (.str z0::zs.map V.str))->zs.length=ys.length->(∀ i (h1:i < zs.length) (h2:i < ys.length),zs[i]=ys[i]++"q"\/zs[i]=ys[i]++"r")->NxAt K H0 H' p (t+20)->Sm p p H H'->Q (.ref pp) H')->
    ∀ H1,Same H H1->tRet (tOp (rCatA K) (tSl (fun x lo hi H Q=>rSlS x lo hi H Q\/(rSlL K x lo hi H Q\/rSlT K x lo hi H Q)) (tV 1) tNoPart (tPart (tC (V.int 1)))) (tCB (rTupOf K) (tCons (tLC ["_law_name"] [0] (iD K (tSl (fun x lo hi H Q=>rSlS x lo hi H Q\/(rSlL K x lo hi H Q\/rSlT K x lo hi H Q)) (tV 1) (tPart (tC (V.int 1))) tNoPart)) (gName 0) tcNil (tOp rAddD (tV 0) (tOp (rIxD K) (tC (V.str "qr")) (tCall (spNx K) [] E0 (tCons (tV 1) (tCons (tC (V.int 2)) tNil)))))) tNil))) {nx:=fun _ H'=>Q .non H',rt:=Q} [some (.ref p),some (.ref b)] H1:=by
   intro b z0 ys e hl hy8 kk H1 s1
   have e1:=s1 _ _ e
   have el:(V.str z0::ys.map V.str).length=ys.length+1:=by simp
   refine ⟨1,rfl,Or.inr (Or.inr ⟨b,_,rfl,SqT.of e1,?_,fun N hN=>?_⟩)⟩
   ·rw [el];rcases hl with h | h<;>(rw [h];decide)
   have ec:cutV (V.str z0::ys.map V.str) none (some 1)=[.str z0]:=(oH _ 1).trans rfl
   rw [ec]
   have s2:=s1.trans (Same.upd hN (.tup [.str z0]))
   have f2:upd H1 N (.tup [.str z0]) N=some (.tup [.str z0]):=a7
   dsimp only
   generalize upd H1 N (.tup [.str z0])=H2 at s2 f2 ⊢
   refine ⟨1,rfl,Or.inr (Or.inr ⟨b,_,rfl,SqT.of (s2 _ _ e),?_,fun M hM=>?_⟩)⟩
   ·rw [el];rcases hl with h | h<;>(rw [h];decide)
   have ec2:cutV (V.str z0::ys.map V.str) (some 1) none=ys.map V.str:=(g7 _ 1).trans rfl
   rw [ec2]
   have s3:=s2.trans (Same.upd hM (.tup (ys.map V.str)))
   have f3:upd H2 M (.tup (ys.map V.str)) M=some (.tup (ys.map V.str)):=a7
   have f23:=(Same.upd hM (.tup (ys.map V.str))) _ _ f2
   generalize upd H2 M (.tup (ys.map V.str))=H3 at s3 f3 f23 ⊢
   refine Or.inr ⟨⟨_,SqT.of f3⟩,fun D hD=>?_⟩
   have hn3:=hn.same s3
   have nDp:D≠p:=hn3.ne hD
   have fD:=hn3.free hD
   have hD0:H D=none:=s3.free hD
   refine fW (cV (ys.map V.str)) (fun i τ H'=>∃ (v0:Option V) (zs:List Str),τ=[v0,some (.ref p)]/\H' D=some (.lst (zs.map V.str))/\zs.length=i/\(∀ j (h1:j < zs.length) (h2:j < ys.length),zs[j]=ys[j]++"q"\/zs[j]=ys[j]++"r")/\NxAt K H0 H' p (t+i)/\Sm p p H H'/\Tk H3 H')
    ⟨none,[],rfl,a7,rfl,fun j h=>absurd h (by simp),hn3.same (Same.upd hD _),(s3.trans (Same.upd hD _)).sm,(Same.upd hD _).ts⟩ (by rintro i τ H' _ ⟨_,_,_,_,_,_,_,_,tk⟩;exact SqT.of (tk _ _ f3)) ?_ ?_
   ·rintro i τ H4 hi ⟨v0,zs,rfl,q1,q2,q3,q4,q5,q6⟩
    rw [Ql] at hi
    rw [gM ys i hi]
    have ey:ys.getD i ""=ys[i]:=by rw [Qb,Qa hi];rfl
    rw [ey]
    have hy:=hy8 _ (Qj hi)
    refine ⟨H0,p,2,t+i,rfl,q4,⟨by decide,by decide⟩,by omega,fun r H5 r0 r1 hn5 sm5=>?_⟩
    obtain ⟨j,rfl⟩:∃ j:Nat,r=(j:Int):=⟨r.toNat,by omega⟩
    obtain ⟨c,hc1,hc2⟩:=a0d j (by omega)
    refine ⟨(show 2<=sizeLine by decide),c,hc1,⟨by show ys[i].length+1<=sizeLine;omega,?_⟩⟩
    have g1:=sm5 _ _ q1 nDp nDp
    have tk6:Tk H4 (upd H5 D (.lst (zs.map V.str++[.str (ys[i]++⟨#[c]⟩)]))):=(q4.ts sm5).trans (Tk.refl.set g1 (fun _ z=>nomatch z))
    refine ⟨_,g1,by simp;omega,_,zs++[ys[i]++⟨#[c]⟩],rfl,by rw [a7,Qm];rfl,by simp [q2],fun j' h1 h2=>?_,hn5.put nDp fD,(q5.trans sm5).upd hD0,q6.trans tk6⟩
    by_cases hj:j' < zs.length
    ·rw [Qe hj];exact q3 j' hj h2
    ·have ej:j'=zs.length:=by simp at h1;omega
     subst ej
     rw [Qf (Qy _)]
     simp only [Nat.sub_self,List.getElem_cons_zero]
     subst q2
     rcases hc2 with h | h
     ·rw [h];exact .inl rfl
     ·rw [h];exact .inr rfl
   ·rintro τ H4 ⟨v0,zs,rfl,q1,q2,q3,q4,q5,q6⟩
    rw [Ql] at q2 q4
    refine ⟨D,_,rfl,.inl ⟨SqL.of q1,fun N2 hN2=>?_⟩⟩
    have s5:=Same.upd hN2 (.tup (zs.map V.str))
    have f5:upd H4 N2 (.tup (zs.map V.str)) N2=some (.tup (zs.map V.str)):=a7
    dsimp only
    generalize upd H4 N2 (.tup (zs.map V.str))=H5 at s5 f5 ⊢
    refine catA (s5 _ _ (q6 _ _ f23)) f5 (by simp;omega) fun pp H6 s6 e6=>?_
    exact kk pp zs H6 e6 q2 q3 (((q4.same s5).same s6).mono (by omega)) ((q5.trans s5.sm).trans s6.sm)
  cases hv with
  | @one b z e=>
   refine tests b z [] _ _ _ "all" "none" e (fun hz H1 s1=>?_) (fun hz H1 s1=>?_) H (Same.refl _)
   ·exact k (.ref b) (.one z) H1 (.one (s1 _ _ e)) hok (fun y h=>nomatch h) (fun _ h=>nomatch h) ((hn.same s1).mono (by omega)) s1.sm
   ·exact absurd (by rcases hok with rfl | rfl<;>simp) hz
  | @as b y e=>
   refine tests b "as" [.str y] _ _ _ "all" "none" e (fun hz H1 s1=>absurd hz (by decide+kernel)) (fun hz H1 s1=>?_) H (Same.refl _)
   refine tests b "as" [.str y] _ _ _ "way" "as" e (fun hz H1 s1=>?_) (fun hz H1 s1=>absurd (by simp) hz) H1 s1
   refine plain b "as" [y] e (.inl rfl) (fun z hz=>by rw [List.mem_singleton.mp hz];exact nlen _ hok.2) (fun pp zs H' e' hl hz hn' sm'=>?_) H1 s1
   match zs,hl with
   | [y'],_=>
    have h0:=hz 0 (by simp) (by simp)
    have hm:y'∈dbl ns:=dA.mpr ⟨y,hok.2,h0⟩
    exact k (.ref pp) (.as y') H' (.as e') ⟨dok _ hm,hm⟩ (fun y2 h2=>by cases h2;exact ⟨y,rfl,h0⟩) (fun _ h=>nomatch h) hn' sm'
  | @way b x y e=>
   refine tests b "way" [.str x,.str y] _ _ _ "all" "none" e (fun hz H1 s1=>absurd hz (by decide+kernel)) (fun hz H1 s1=>?_) H (Same.refl _)
   refine tests b "way" [.str x,.str y] _ _ _ "way" "as" e (fun hz H1 s1=>?_) (fun hz H1 s1=>absurd (by simp) hz) H1 s1
   refine plain b "way" [x,y] e (.inr rfl) (fun z hz=>?_) (fun pp zs H' e' hl hz hn' sm'=>?_) H1 s1
   ·simp only [Qp,QA,or_false] at hz
    rcases hz with rfl | rfl
    ·exact nlen _ hok.2.2.1
    ·exact nlen _ hok.2.2.2
   match zs,hl with
   | [x',y'],_=>
    have h0:=hz 0 (by simp) (by simp)
    have h1:=hz 1 (by simp) (by simp)
    have hm0:x'∈dbl ns:=dA.mpr ⟨x,hok.2.2.1,h0⟩
    have hm1:y'∈dbl ns:=dA.mpr ⟨y,hok.2.2.2,h1⟩
    exact k (.ref pp) (.way x' y') H' (.way e') ⟨dok _ hm0,dok _ hm1,hm0,hm1⟩ (fun y2 h2=>nomatch h2) (fun _ h=>nomatch h) hn' sm'
  | @prs b c s0 ys ps e ec hp=>
   have hs0:s0 ∉ (["all","none"]:List Str)/\s0 ∉ (["way","as"]:List Str):=by rcases hok.1 with rfl | rfl<;>decide+kernel
   refine tests b s0 [.ref c] _ _ _ "all" "none" e (fun hz H1 s1=>absurd hz hs0.1) (fun hz H1 s1=>?_) H (Same.refl _)
   refine tests b s0 [.ref c] _ _ _ "way" "as" e (fun hz H1 s1=>absurd hz hs0.2) (fun hz H1 s1=>?_) H1 s1
   have hpl:=hp.len
   obtain ⟨hs,hps,hris,h10⟩:=hok
   refine ⟨_,.str s0,.inr (SqT.of (s1 _ _ e)),aI _ _,_,.ref c,.inr (SqT.of (s1 _ _ e)),rfl,Or.inr ⟨⟨ys,SqT.of (s1 _ _ ec)⟩,fun D hD=>?_⟩⟩
   have hn3:=hn.same s1
   have nDp:D≠p:=hn3.ne hD
   have fD:=hn3.free hD
   have hD0:H D=none:=s1.free hD
   refine fW (cV ys) (fun i τ H'=>∃ (v0 v1:Option V) (us:List V) (qs:List (Str×Str)),τ=[v0,v1,some (.ref p)]/\H' D=some (.lst us)/\PrsV H' us qs/\qs.length=i/\(∀ j (h1:j < qs.length) (h2:j < ps.length),qs[j].1=ps[j].1/\(qs[j].2=ps[j].2++"q"\/qs[j].2=ps[j].2++"r"))/\NxAt K H0 H' p (t+i)/\Sm p p H H'/\Tk H1 H')
    ⟨none,none,[],[],rfl,a7,⟨rfl,fun i h=>absurd h (by simp)⟩,rfl,fun j h=>absurd h (by simp),hn3.same (Same.upd hD _),(s1.trans (Same.upd hD _)).sm,(Same.upd hD _).ts⟩ (by rintro i τ H' _ ⟨_,_,_,_,_,_,_,_,_,_,_,tk⟩;exact SqT.of (tk _ _ (s1 _ _ ec))) ?_ ?_
   ·rintro i τ H4 hi ⟨v0,v1,us,qs,rfl,q1,q2,q3,q4,q5,q6,q7⟩
    have hip:i < ps.length:=by omega
    obtain ⟨d0,r1,r2⟩:=hp.at_ i hi hip
    have eg:ys.getD i .non=.ref d0:=by rw [Qb,Qa hi,r1];rfl
    rw [eg]
    have hy:=nlen _ (hps _ (Qj hip)).2.2
    refine cX (q7 _ _ (s1 _ _ r2)) ?_
    refine ⟨H0,p,2,t+i,rfl,q5,⟨by decide,by decide⟩,by omega,fun r H5 r0 r1' hn5 sm5=>?_⟩
    obtain ⟨j,rfl⟩:∃ j:Nat,r=(j:Int):=⟨r.toNat,by omega⟩
    obtain ⟨c',hc1,hc2⟩:=a0d j (by omega)
    refine ⟨(show 2<=sizeLine by decide),c',hc1,⟨by show ps[i].2.length+1<=sizeLine;omega,(show 2<=sizeLine by decide),fun T8 hT8=>?_⟩⟩
    have g1:=sm5 _ _ q1 nDp nDp
    have s8:=Same.upd hT8 (.tup [.str ps[i].1,.str (ps[i].2++⟨#[c']⟩)])
    have f8:upd H5 T8 (.tup [.str ps[i].1,.str (ps[i].2++⟨#[c']⟩)]) T8=some (.tup [.str ps[i].1,.str (ps[i].2++⟨#[c']⟩)]):=a7
    have g8:=s8 _ _ g1
    have hn8:=hn5.same s8
    have sm8:=(q6.trans sm5).trans s8.sm (p:=p) (w:=p)
    have tk8:Tk H4 (upd H5 T8 (.tup [.str ps[i].1,.str (ps[i].2++⟨#[c']⟩)])):=(q5.ts sm5).trans s8.ts
    dsimp only
    generalize upd H5 T8 (.tup [.str ps[i].1,.str (ps[i].2++⟨#[c']⟩)])=H6 at s8 f8 g8 hn8 sm8 tk8 ⊢
    have tk9:Tk H6 (upd H6 D (.lst (us++[.ref T8]))):=Tk.refl.set g8 (fun _ z=>nomatch z)
    have ul:=q2.len
    refine ⟨us,g8,by omega,_,_,us++[.ref T8],qs++[(ps[i].1,ps[i].2++⟨#[c']⟩)],rfl,a7,?_,by simp [q3],fun j' h1 h2=>?_,hn8.put nDp fD,sm8.upd hD0,(q7.trans tk8).trans tk9⟩
    ·have q2':=q2.tk (tk8.trans tk9)
     refine ⟨by simp [ul],fun i' h1 h2=>?_⟩
     by_cases hi':i' < us.length
     ·rw [Qe hi',Qe (by omega)]
      exact q2'.at_ i' hi' (by omega)
     ·have ei:i'=us.length:=by simp at h1;omega
      subst ei
      rw [Qf (Qy _),Qf (by omega)]
      simp only [Nat.sub_self,ul,List.getElem_cons_zero]
      exact ⟨T8,rfl,tk9 _ _ f8⟩
    ·by_cases hj:j' < qs.length
     ·rw [Qe hj];exact q4 j' hj h2
     ·have ej:j'=qs.length:=by simp at h1;omega
      subst ej
      rw [Qf (Qy _)]
      simp only [Nat.sub_self,List.getElem_cons_zero]
      subst q3
      rcases hc2 with h | h
      ·rw [h];exact ⟨rfl,.inl rfl⟩
      ·rw [h];exact ⟨rfl,.inr rfl⟩
   ·rintro τ H4 ⟨v0,v1,us,qs,rfl,q1,q2,q3,q4,q5,q6,q7⟩
    rw [hpl] at q3 q5
    refine ⟨D,_,rfl,.inl ⟨SqL.of q1,fun N2 hN2=>⟨(show 2<=sizeLine by decide),fun N3 hN3=>?_⟩⟩⟩
    have s5:=Same.upd hN2 (.tup us)
    have f5:upd H4 N2 (.tup us) N2=some (.tup us):=a7
    have s6:=Same.upd hN3 (.tup [.str s0,.ref N2])
    have s56:=s5.trans s6
    have ekeys:qs.map (·.1)=ps.map (·.1):=by
     refine List.ext_getElem (by simp;omega) fun i h1 h2=>?_
     simp only [Qr]
     exact (q4 i (by simpa using h1) (by simpa using h2)).1
    refine k (.ref N3) (.prs s0 qs) _ (.prs a7 (s6 _ _ f5) (q2.tk s56.ts)) ⟨hs,fun q hq=>?_,by rw [ekeys];exact hris,by omega⟩ (fun y h=>nomatch h) (fun z hz=>?_) ((q5.same s56).mono (by omega)) (q6.trans s56.sm)
    ·obtain ⟨i,hi,rfl⟩:=Qi hq
     obtain ⟨g1,g2⟩:=q4 i hi (by omega)
     have hpm:=hps _ (Qj (show i < ps.length by omega))
     have hm:qs[i].2∈dbl ns:=dA.mpr ⟨_,hpm.2.2,g2⟩
     exact ⟨by rw [g1];exact hpm.1,dok _ hm,hm⟩
    ·have:z∈ps.map (·.1):=by rw [<- ekeys];exact hz
     exact hww z this
def spTwin (K:Q0):Sp:=fun vs H Q _=>∃ (H0:Hp) (p a:Addr) (t:Nat) (xs:List V) (rows:List Rw2) (ns:List Str),vs=[.ref p,.ref a]/\NxAt K H0 H p t/\t+600 < 900000/\RT H a xs rows ns WW/\(∀ n∈ns,n∈N8)/\ns.length<=5/\
 ∀ (b:Addr) (ys:List V) (rows2:List Rw2) (H':Hp),RT H' b ys rows2 (dbl ns) WW->NxAt K H0 H' p (t+600)->Sm p p H H'->Q (.ref b) H'
theorem yT {l m:List Str} (h:l.Perm m):(dbl l).Perm (dbl m):=h.flatMap_right _
theorem xN (l:List Str) (n:Str):dbl (l++[n])=dbl l++[n++"q",n++"r"]:=by simp [dbl]
theorem rF {H:Hp} {ns ws:List Str} {rs:List (Str×V)} (h:RowsG H ns ws rs) {n:Str} {v:V} (h1:n∈ns) (h2:HG4 H ns ws v (Ahd ns n)):RowsG H ns ws (rs++[(n,v)]):=
 (h.add h1 h2).perm fun r hr=>by
  rcases List.mem_append.mp hr with hr | hr
  ·exact Qh _ hr
  ·rw [List.mem_singleton.mp hr];exact List.mem_cons_self
set_option maxHeartbeats 2000000 in
theorem oM (T:Txt K mg w):FnK P w K mg base 4 "_law_twin" ["_law_pen","_law_told"] (spTwin K):=by
 have fX:FnK P w K mg base 3 "_law_twin_head" ["_law_pen","_law_here"] (spTwinH K):=j7 T
 have dQ:FnK P w K mg base 3 "_law_turned" ["_law_pen","_law_some"] (spTurn K):=gZ T
 refine T.rN.okS eO (fun vs H Q E h=>?_) (fun f cdv A outer s H vs Q E hr h=>?_)
 ·obtain ⟨H0,p,a,t,xs,rows,ns,rfl,_⟩:=h
  rfl
 ·obtain ⟨H0,p,a,t,xs,rows,ns,rfl,hn,ht,rt,h8,h5,k⟩:=h
  have hu:=aQ hr
  have hu0:=Qx (aQ hr)
  have hsz:sizeLine=16777216:=QL
  have hrl:=rt.rl
  have hxl:=rt.rv.len
  have dokn:∀ z∈dbl ns,isName z=true/\Wd z:=fun z hz=>by
   obtain ⟨n,hn,h⟩:=dA.mp hz
   exact xF z (dA.mpr ⟨n,h8 n hn,h⟩)
  refine ⟨_,(aA (aR (i:=2) eO.nd rfl (Or.inl rfl) (cB sa_nil))
   (aA (fY PassesOwn.never rfl (j6 K (zv 1)) (bQ K (n:=2) rfl (aH (aG (i:=3) eO.nd rfl (Or.inl rfl)) (aH (aG (i:=4) eO.nd rfl (Or.inl rfl)) bD))) (aA (eJ (lM K QH QJ QK bV (zv 2) (bE (aT (gK (bM bB (zv 3) aU) (aK (bA fX (hr.mono (by decide)) (a9 (zv 0) (a9 (zv 4) sa_nil))) sa_nil))) sa_nil)))
   (aC (eJ (lM K QH QJ QK bV (zv 2) (bE (aT (gK (bM bB (zv 3) aU) (aK (bA fX (hr.mono (by decide)) (a9 (zv 0) (a9 (zv 4) sa_nil))) sa_nil))) sa_nil))))))
   (aC (aN (bO (d6 K) (by rfl) T.eZ QG (aK (bA dQ (hr.mono (by decide)) (a9 (zv 0) (a9 (zv 2) sa_nil))) sa_nil)))))),?_⟩
  refine aL ⟨(show 0<=sizeLine by decide),fun R hR=>?_⟩
  have nRp:R≠p:=hn.ne hR
  have fR:=hn.free hR
  refine aV (fun σ' H'=>∃ (v3 v4:Option V) (us:List V) (rs:List (Str×V)),σ'=[some (.ref p),some (.ref a),some (.ref R),v3,v4]/\H' R=some (.lst us)/\PairsAt H' us (rowsK rs)/\rs.map (·.1)=dbl (rows.map (·.1))/\RowsG H' (dbl ns) WW rs/\NxAt K H0 H' p (t+200)/\Sm p p H H') ?_ ?_
  ·intro nx hnx
   refine .inr ⟨⟨xs,SqT.of (Same.upd hR _ _ _ rt.at_)⟩,?_⟩
   refine dZ (cV xs) (fun i σ' H'=>∃ (v3 v4:Option V) (us:List V) (rs:List (Str×V)),σ'=[some (.ref p),some (.ref a),some (.ref R),v3,v4]/\H' R=some (.lst us)/\PairsAt H' us (rowsK rs)/\rs.map (·.1)=dbl ((rows.map (·.1)).take i)/\RowsG H' (dbl ns) WW rs/\NxAt K H0 H' p (t+40*i)/\Sm p p H H')
    ⟨none,none,[],[],rfl,a7,jG,rfl,⟨(fun _ h=>nomatch h),(fun _ h=>nomatch h)⟩,hn.same (Same.upd hR _),(Same.upd hR _).sm⟩ (by rintro i σ' H' _ ⟨_,_,_,_,_,_,_,_,_,_,s⟩;exact SqT.of (hn.ts s _ _ rt.at_)) ?_ ?_
   ·rintro i σ' H1 hi ⟨v3,v4,us,rs,rfl,q1,q2,q3,q4,q5,q6⟩
    have hir:i < rows.length:=by omega
    obtain ⟨rb,hv,r1,r2,r3⟩:=rt.rv.at_ i hi hir
    have eg:xs.getD i .non=.ref rb:=by rw [Qb,Qa hi,r1];rfl
    rw [eg]
    have hmem:rows[i]∈rows:=Qj hir
    have hmn:rows[i].1∈ns:=rt.nm.mem_iff.mp (List.mem_map.mpr ⟨_,hmem,rfl⟩)
    have hok:=(rt.ok _ hmem).2
    have hww:=rt.ww _ hmem
    have hah:=rt.ah _ hmem
    have etk:(rows.map (·.1)).take (i+1)=(rows.map (·.1)).take i++[rows[i].1]:=by
     rw [Qs,Qq,Qa hir];rfl
    have hrsl:rs.length=2*i:=by
     have h1:=congrArg List.length q3
     rw [nD,Ql,List.length_take,Ql] at h1
     omega
    generalize rows[i]=row at r2 r3 hmn hok hww hah etk
    obtain ⟨nm,hd⟩:=row
    have nl:nm.length<=8:=dY (mF _ (h8 _ hmn)).1
    have tk1:=hn.ts q6
    refine cX (tk1 _ _ r2) ?_
    have hul:us.length=rs.length:=by have:=q2.1;simpa using this
    /- what holds of a new head -/
    have ahd:∀ (c:Str) (h':Hd),(c="q"\/c="r")->(∀ y',h'.nx=some y'->∃ y,hd.nx=some y/\(y'=y++"q"\/y'=y++"r"))->Ahd (dbl ns) (nm++c) h'.nx:=fun c h' hc hnx y' e'=>by
     obtain ⟨y,e1,e2⟩:=hnx y' e'
     obtain ⟨i1,j1,hij,g1,g2⟩:=hah y e1
     have hi1:i1 < ns.length:=(List.getElem?_eq_some_iff.mp g1).1
     have hj1:j1 < ns.length:=(List.getElem?_eq_some_iff.mp g2).1
     have ei:ns[i1]=y:=(List.getElem?_eq_some_iff.mp g1).2
     have ej:ns[j1]=nm:=(List.getElem?_eq_some_iff.mp g2).2
     obtain ⟨a1,a2⟩:=wE ns i1 hi1
     obtain ⟨b1,b2⟩:=wE ns j1 hj1
     rw [ei] at a1 a2
     rw [ej] at b1 b2
     rcases e2 with rfl | rfl<;>rcases hc with rfl | rfl
     ·exact ⟨2*i1,2*j1,by omega,a1,b1⟩
     ·exact ⟨2*i1,2*j1+1,by omega,a1,b2⟩
     ·exact ⟨2*i1+1,2*j1,by omega,a2,b1⟩
     ·exact ⟨2*i1+1,2*j1+1,by omega,a2,b2⟩
    have step:∀ (c:Str) (hc:c="q"\/c="r") (D:Ends) (H2:Hp) (us:List V) (rs:List (Str×V)) (tt:Nat),H2 R=some (.lst us)->PairsAt H2 us (rowsK rs)->RowsG H2 (dbl ns) WW rs->NxAt K H0 H2 p tt->Sm p p H H2->us.length<=30->tt+20 < 900000->
      (∀ (us':List V) (v':V) (H3:Hp),H3 R=some (.lst us')->PairsAt H3 us' (rowsK (rs++[(nm++c,v')]))->RowsG H3 (dbl ns) WW (rs++[(nm++c,v')])->us'.length=us.length+1->NxAt K H0 H3 p (tt+20)->Sm p p H H3->D.nx [some (.ref p),some (.ref a),some (.ref R),some (.str nm),some hv] H3)->
      tDrop (tBM K "list" rAppend (tV 2) (tCons (tTup (tCons (tOp rAddD (tV 3) (tC (V.str c))) (tCons (tCall (spTwinH K) [] E0 (tCons (tV 0) (tCons (tV 4) tNil))) tNil))) tNil)) D [some (.ref p),some (.ref a),some (.ref R),some (.str nm),some hv] H2:=by
     intro c hc D H2 us rs tt z1 z2 z3 z4 z5 z6 z7 kk
     have hcl:c.length=1:=by rcases hc with rfl | rfl<;>rfl
     refine ⟨.inl ⟨rfl,_,SqL.of z1⟩,⟨by omega,?_⟩⟩
     refine ⟨H0,p,hv,hd,tt,ns,rfl,z4,z7,r3.tk (hn.ts z5),hok,h8,hww,fun v' h' H3 hv' hok' hnx' hww' hn3 sm3=>⟨(show 2<=sizeLine by decide),fun cc hcc=>?_⟩⟩
     have g3:=sm3 _ _ z1 nRp nRp
     have s4:=Same.upd hcc (.tup [.str (nm++c),v'])
     have f4:upd H3 cc (.tup [.str (nm++c),v']) cc=some (.tup [.str (nm++c),v']):=a7
     have g4:=s4 _ _ g3
     have hn4:=hn3.same s4
     have sm4:=(z5.trans sm3).trans s4.sm (p:=p) (w:=p)
     have tk4:Tk H2 (upd H3 cc (.tup [.str (nm++c),v'])):=(z4.ts sm3).trans s4.ts
     have hv4:=hv'.tk s4.ts
     dsimp only
     generalize upd H3 cc (.tup [.str (nm++c),v'])=H4 at s4 f4 g4 hn4 sm4 tk4 hv4 ⊢
     have tk5:Tk H4 (upd H4 R (.lst (us++[.ref cc]))):=Tk.refl.set g4 (fun _ z=>nomatch z)
     refine ⟨R,us,.ref cc,rfl,rfl,g4,by omega,kk (us++[.ref cc]) v' _ a7 (iH (z2.ts (tk4.trans tk5)) (tk5 _ _ f4)) (rF (z3.tk (tk4.trans tk5)) (dA.mpr ⟨nm,hmn,by rcases hc with rfl | rfl<;>simp⟩) ⟨h',hv4.tk tk5,hok',ahd c h' hc hnx',hww'⟩) (by simp) (hn4.put nRp fR) (sm4.upd hR)⟩
    refine step "q" (.inl rfl) _ H1 us rs _ q1 q2 q4 q5 q6 (by omega) (by omega) (fun us1 v1 H2 a1 a2 a3 a4 a5 a6=>?_)
    refine step "r" (.inr rfl) _ H2 us1 _ _ a1 a2 a3 a5 a6 (by omega) (by omega) (fun us2 v2 H3 b1 b2 b3 b4 b5 b6=>?_)
    refine ⟨_,_,us2,rs++[(nm++"q",v1)]++[(nm++"r",v2)],rfl,b1,b2,?_,b3,b5.mono (by omega),b6⟩
    rw [etk,xN,Qm,Qm,q3]
    simp
   ·rintro σ' H1 ⟨v3,v4,us,rs,rfl,q1,q2,q3,q4,q5,q6⟩
    have e:(rows.map (·.1)).take xs.length=rows.map (·.1):=by rw [hxl,<- Ql (f:=fun r:Rw2=>r.1),Qo]
    rw [e] at q3
    exact hnx _ _ ⟨v3,v4,us,rs,rfl,q1,q2,q3,q4,q5.mono (by omega),q6⟩
  ·rintro σ' H1 ⟨v3,v4,us,rs,rfl,q1,q2,q3,q4,q5,q6⟩
   have hdl:=nD ns
   have hrsl:rs.length=2*ns.length:=by
    have h1:=congrArg List.length q3
    rw [nD,Ql,Ql] at h1
    omega
   have hul:us.length=rs.length:=by have:=q2.1;simpa using this
   have pos:=rt.pos
   refine ⟨H0,p,R,us,_,rfl,q5,by omega,.inl (SqL.of q1),by omega,fun L2 ys H5 hL2 gL2 pm2 hn5 sm5=>⟨L2,ys,rfl,.inl ⟨SqL.of gL2,fun b hb=>?_⟩⟩⟩
   have s6:=Same.upd hb (.tup ys)
   have tk5:=(q5.ts sm5).trans s6.ts
   obtain ⟨rs',pr,pa⟩:=kU (q2.ts tk5) pm2
   obtain ⟨rows2,rt2⟩:=RT.of a7 pa ((pr.map _).trans (by rw [q3];exact yT rt.nm)) (a14 rt.nd h8) dokn (by omega) (by omega) ((q4.tk tk5).perm fun r hr=>pr.mem_iff.mp hr)
   exact k b _ rows2 _ rt2 ((hn5.same s6).mono (by omega)) ((q6.trans sm5).trans s6.sm)
theorem a1J {H H':Hp} {a b rb:Addr} {xs:List V} {rows:List Rw2} {ns ws:List Str} {i:Nat} {v:V} {h':Hd} (rt:RT H a xs rows ns ws) (hi:i < rows.length) (tk:Tk H H') (e:H' b=some (.tup (xs.set i (.ref rb)))) (er:H' rb=some (.tup [.str rows[i].1,v])) (hv:HV H' v h') (ok:h'.ok ns) (ah:Ahd ns rows[i].1 h'.nx) (ww:∀ z∈h'.wds,z∈ws):
  RT H' b (xs.set i (.ref rb)) (rows.set i (rows[i].1,h')) ns ws:=by
 have hl:=rt.rv.len
 have nm:(rows.set i (rows[i].1,h')).map (·.1)=rows.map (·.1):=by
  rw [List.map_set]
  refine List.ext_getElem (by simp) fun j h1 h2=>?_
  rw [List.getElem_set]
  split
  ·next e=>subst e;simp
  ·rfl
 have mem:∀ r∈rows.set i (rows[i].1,h'),r∈rows\/r=(rows[i].1,h'):=fun r hr=>List.mem_or_eq_of_mem_set hr
 refine ⟨e,⟨by simp [hl],fun j h1 h2=>?_⟩,by rw [nm];exact rt.nm,rt.nd,fun r hr=>?_,rt.wd,fun r hr=>?_,fun r hr=>?_,rt.pos,rt.few⟩
 ·rw [List.length_set] at h1 h2
  rw [List.getElem_set,List.getElem_set]
  by_cases hij:i=j
  ·subst hij
   rw [if_pos rfl,if_pos rfl]
   exact ⟨rb,v,rfl,er,hv⟩
  ·rw [if_neg hij,if_neg hij]
   obtain ⟨b',v',q1,q2,q3⟩:=rt.rv.at_ j h1 h2
   exact ⟨b',v',q1,tk _ _ q2,q3.tk tk⟩
 ·rcases mem r hr with h | rfl
  ·exact rt.ok r h
  ·exact ⟨(rt.ok _ (Qj hi)).1,ok⟩
 ·rcases mem r hr with h | rfl
  ·exact rt.ah r h
  ·exact ah
 ·rcases mem r hr with h | rfl
  ·exact rt.ww r h
  ·exact ww
theorem a02 {xs:List V} {i:Nat} (h:i < xs.length) (v:V):(xs.take i++[v])++xs.drop (i+1)=xs.set i v:=by
 rw [List.append_assoc,List.set_eq_take_append_cons_drop,if_pos h];rfl
def spBent (K:Q0):Sp:=fun vs H Q _=>∃ (H0:Hp) (p a:Addr) (t:Nat) (xs:List V) (rows:List Rw2) (ns:List Str),vs=[.ref p,.ref a]/\NxAt K H0 H p t/\t+30 < 900000/\RT H a xs rows ns WW/\
 ∀ (b:Addr) (ys:List V) (rows2:List Rw2) (H':Hp),RT H' b ys rows2 ns WW->NxAt K H0 H' p (t+30)->Sm p p H H'->Q (.ref b) H'
set_option maxHeartbeats 2000000 in
theorem qD (T:Txt K mg w):FnK P w K mg base 5 "_law_bent" ["_law_pen","_law_told"] (spBent K):=by
 have aO:FnK P w K mg base 2 "_law_next" ["_law_pen","_law_many"] (spNx K):=bH T
 have iG:FnK P w K mg base 4 "_law_head" ["_law_pen","_law_names","_law_ahead"] (spHead5 K):=jU T
 refine T.rM.okS eX (fun vs H Q E h=>?_) (fun f cdv A outer s H vs Q E hr h=>?_)
 ·obtain ⟨H0,p,a,t,xs,rows,ns,rfl,_⟩:=h
  rfl
 ·obtain ⟨H0,p,a,t,xs,rows,ns,rfl,hn,ht,rt,k⟩:=h
  have hu:=aQ hr
  have hu0:=Qx (aQ hr)
  have hsz:sizeLine=16777216:=QL
  have hrl:=rt.rl
  have hxl:=rt.rv.len
  have pos:=rt.pos
  have few:=rt.few
  refine ⟨_,(aA (aR (i:=2) eX.nd rfl (Or.inl rfl) (bA aO (hr.mono (by decide)) (a9 (zv 0) (aK (bL (bJ K) (by rfl) T.n_len PySem.boot_len (a9 (zv 1) sa_nil)) sa_nil))))
   (aA (a1R (i:=3) (own:=["_law_name","_law_here"]) (idx:=[]) (N':=["_law_name","_law_here"]) (cE (defScope fI) (["_law_pen","_law_told","_law_at","_law_names","_law_row"]:List Str) (by decide+kernel)) rfl (j6 K (zv 1)) (fun _ _ _ _ _ _=>(bQ K (n:=2) rfl (aH (aG (i:=0) (show List.Nodup (["_law_name","_law_here"]:List Str) by decide+kernel) rfl (Or.inl rfl)) (aH (aG (i:=1) (show List.Nodup (["_law_name","_law_here"]:List Str) by decide+kernel) rfl (Or.inl rfl)) bD)))) (fun _ _ _ _ _ _=>cN) (fun _ _ _ _ _ _=>(zv 0)) eX.nd rfl rfl)
   (aA (aR (i:=4) eX.nd rfl (Or.inl rfl) (aT (aF (aZ (aY K) (zv 3) (zv 2) (fun _ _=>rfl)) (aK (bA iG (hr.mono (by decide)) (a9 (zv 0) (a9 (zv 3) (aB aE sa_nil)))) sa_nil))))
   (aC (aN (bM (nP K) (bM (nP K) (dB (m9 K) (zv 1) dM (cZ (zv 2))) (aT (a9 (zv 4) sa_nil))) (dB (m9 K) (zv 1) (cZ (bM bB (zv 2) aE)) dM))))))),?_⟩
  refine aL (.inl ⟨_,.inr (SqT.of rt.at_),H0,p,_,t,rfl,hn,⟨by omega,by omega⟩,by omega,fun r H1 r0 r1 hn1 sm1=>?_⟩)
  obtain ⟨i,rfl⟩:∃ i:Nat,r=(i:Int):=⟨r.toNat,by omega⟩
  have hir:i < rows.length:=by omega
  have rt1:=rt.tk (hn.ts sm1)
  refine .inr ⟨⟨xs,SqT.of rt1.at_⟩,fun N hN=>?_⟩
  have nNp:N≠p:=hn1.ne hN
  have fN:=hn1.free hN
  refine fW (cV xs) (fun j τ H'=>∃ (v0 v1:Option V),τ=[v0,v1]/\H' N=some (.lst (((rows.map (·.1)).take j).map V.str))/\Same H1 H')
   ⟨none,none,rfl,a7,Same.upd hN _⟩ (by rintro j τ H' _ ⟨_,_,_,_,s⟩;exact SqT.of (s _ _ rt1.at_)) ?_ ?_
  ·rintro j τ H2 hj ⟨v0,v1,rfl,q1,q2⟩
   have hjr:j < rows.length:=by omega
   obtain ⟨rb,hv,r1',r2,r3⟩:=rt1.rv.at_ j hj hjr
   have eg:xs.getD j .non=.ref rb:=by rw [Qb,Qa hj,r1'];rfl
   rw [eg]
   have etk:(rows.map (·.1)).take (j+1)=(rows.map (·.1)).take j++[rows[j].1]:=by
    rw [Qs,Qq,Qa hjr];rfl
   refine cX (q2 _ _ r2) ⟨_,q1,by simp;omega,_,_,rfl,by rw [a7,etk,Qm];rfl,q2.put hN⟩
  ·rintro τ H2 ⟨v0,v1,rfl,q1,q2⟩
   have e:(rows.map (·.1)).take xs.length=rows.map (·.1):=by rw [hxl,<- Ql (f:=fun r:Rw2=>r.1),Qo]
   rw [e] at q1
   have hn2:=hn1.same q2
   have hni:∀ n∈rows.map (·.1),n∈ns:=fun n hn=>rt.nm.mem_iff.mp hn
   have tn:TxtsAt H2 N (rows.map (·.1)):=⟨q1,by intro z;rw [List.map_eq_nil_iff] at z;rw [z] at hir;simp at hir,by simp;omega,fun z hz=>rt.wd z (hni z hz)⟩
   have hnm:(rows.map (·.1))[i]? =some rows[i].1:=by rw [Qq,Qa hir];rfl
   refine ⟨_,.str rows[i].1,.inl (SqL.of q1),dN (by rw [Qq,hnm];rfl),H0,p,N,0,_,_,rfl,hn2,by omega,tn,fun z hz=>?_,by omega,fun v H3 hg hn3 sm3=>⟨(show 2<=sizeLine by decide),fun rb hrb=>?_⟩⟩
   ·obtain ⟨r,hr,rfl⟩:=List.mem_map.mp hz
    exact (rt.ok r hr).1
   have s4:=Same.upd hrb (.tup [.str rows[i].1,v])
   have f4:upd H3 rb (.tup [.str rows[i].1,v]) rb=some (.tup [.str rows[i].1,v]):=a7
   have hn4:=hn3.same s4
   have tk4:Tk H1 (upd H3 rb (.tup [.str rows[i].1,v])):=(q2.ts.trans (hn2.ts sm3)).trans s4.ts
   have sm4:Sm p p H (upd H3 rb (.tup [.str rows[i].1,v])):=((sm1.trans q2.sm).trans sm3).trans s4.sm
   have hg4:=hg.tk s4.ts
   dsimp only
   generalize upd H3 rb (.tup [.str rows[i].1,v])=H4 at s4 f4 hn4 tk4 sm4 hg4 ⊢
   have rt4:=rt1.tk tk4
   have hix:i < xs.length:=by omega
   refine ⟨(i:Int),rfl,Or.inr (Or.inr ⟨a,xs,rfl,SqT.of rt4.at_,?_,fun N1 hN1=>?_⟩)⟩
   ·rw [HT.j0];rintro ⟨_,z⟩;omega
   rw [oH]
   have s5:=Same.upd hN1 (.tup (xs.take i))
   have f5:upd H4 N1 (.tup (xs.take i)) N1=some (.tup (xs.take i)):=a7
   generalize upd H4 N1 (.tup (xs.take i))=H5 at s5 f5 ⊢
   refine ⟨(show 1<=sizeLine by decide),fun N2 hN2=>?_⟩
   have s6:=Same.upd hN2 (.tup [.ref rb])
   have f6:upd H5 N2 (.tup [.ref rb]) N2=some (.tup [.ref rb]):=a7
   dsimp only
   generalize upd H5 N2 (.tup [.ref rb])=H6 at s6 f6 ⊢
   refine catA (s6 _ _ f5) f6 (by simp;omega) fun P1 H7 s7 e7=>?_
   have s47:=(s5.trans s6).trans s7
   refine ⟨(i:Int)+1,rfl,Or.inr (Or.inr ⟨a,xs,rfl,SqT.of (s47 _ _ rt4.at_),?_,fun N3 hN3=>?_⟩)⟩
   ·rw [show ((i:Int)+1)=((i+1:Nat):Int) by omega,HT.j0];rintro ⟨z,_⟩;omega
   rw [show ((i:Int)+1)=((i+1:Nat):Int) by omega,g7]
   have s8:=Same.upd hN3 (.tup (xs.drop (i+1)))
   have f8:upd H7 N3 (.tup (xs.drop (i+1))) N3=some (.tup (xs.drop (i+1))):=a7
   generalize upd H7 N3 (.tup (xs.drop (i+1)))=H8 at s8 f8 ⊢
   refine catA (s8 _ _ e7) f8 (by simp;omega) fun P2 H9 s9 e9=>?_
   rw [a02 hix] at e9
   have s49:=(s47.trans s8).trans s9
   obtain ⟨h',g1,g2,g3,g4⟩:=(hg4.tk s49.ts).ex
   have hnx:h'.nx=none:=by
    cases ez:h'.nx with
    | none=>rfl
    | some y=>obtain ⟨j,hj,_⟩:=g3 y ez;omega
   have hokn:h'.ok ns:=by
    cases h' with
    | one s=>exact g2
    | as y=>cases hnx
    | way x y=>exact ⟨g2.1,g2.2.1,hni _ g2.2.2.1,hni _ g2.2.2.2⟩
    | prs s ps=>exact ⟨g2.1,fun q hq=>⟨(g2.2.1 q hq).1,(g2.2.1 q hq).2.1,hni _ (g2.2.1 q hq).2.2⟩,g2.2.2.1,g2.2.2.2⟩
   exact k P2 _ _ H9 (a1J rt4 hir s49.ts e9 (s49 _ _ f4) g1 hokn (by rw [hnx];intro y z;cases z) g4) ((hn4.same s49).mono (by omega)) (sm4.trans s49.sm)
def spTwo (K:Q0):Sp:=fun vs H Q _=>∃ (H0:Hp) (p:Addr) (most:Int) (t:Nat),vs=[.ref p,.int most]/\NxAt K H0 H p t/\t+2000 < 900000/\(1<=most/\most<=5)/\
 ∀ (q a b:Addr) (xs ys:List V) (rows rows2:List Rw2) (ns ns2:List Str) (x y:Str) (H':Hp),H' q=some (.tup [.ref a,.str x,.ref b,.str y])->RT H' a xs rows ns WW->x∈ns->RT H' b ys rows2 ns2 WW->y∈ns2->NxAt K H0 H' p (t+2000)->Sm p p H H'->Q (.ref q) H'
set_option maxHeartbeats 2000000 in
theorem sL (T:Txt K mg w):FnK P w K mg base 6 "_law_two" ["_law_pen","_law_most"] (spTwo K):=by
 have aO:FnK P w K mg base 2 "_law_next" ["_law_pen","_law_many"] (spNx K):=bH T
 have hX:FnK P w K mg base 5 "_law_telling" ["_law_pen","_law_most"] (spTelling5 K):=lA T
 have dU:FnK P w K mg base 3 "_law_any" ["_law_pen","_law_told"] (spAny K):=lN T
 have kW:FnK P w K mg base 4 "_law_twin" ["_law_pen","_law_told"] (spTwin K):=oM T
 have qZ:FnK P w K mg base 5 "_law_bent" ["_law_pen","_law_told"] (spBent K):=qD T
 refine T.uH.okS eG (fun vs H Q E h=>?_) (fun f cdv A outer s H vs Q E hr h=>?_)
 ·obtain ⟨H0,p,most,t,rfl,_⟩:=h
  rfl
 ·obtain ⟨H0,p,most,t,rfl,hn,ht,⟨hm1,hm2⟩,k⟩:=h
  have hu:=aQ hr
  have hu0:=Qx (aQ hr)
  have hsz:sizeLine=16777216:=QL
  refine ⟨_,(aA (aR (i:=2) eG.nd rfl (Or.inl rfl) (bA hX (hr.mono (by decide)) (a9 (zv 0) (a9 (zv 1) sa_nil))))
   (aA (aR (i:=3) eG.nd rfl (Or.inl rfl) (bA dU (hr.mono (by decide)) (a9 (zv 0) (a9 (zv 2) sa_nil))))
   (aA (aR (i:=4) eG.nd rfl (Or.inl rfl) (bA aO (hr.mono (by decide)) (a9 (zv 0) (aB aE sa_nil))))
   (aA (bN (aJ (bX hu0) (zv 4) aE (nomark _)) (aC (aN (aT (a9 (zv 2) (a9 (zv 3) (a9 (zv 2) (aK (bA dU (hr.mono (by decide)) (a9 (zv 0) (a9 (zv 2) sa_nil))) sa_nil))))))) aP)
   (aA (bN (aJ (bX hu0) (zv 4) aE (nomark _)) (aC (aN (aT (a9 (zv 2) (a9 (zv 3) (aK (bA kW (hr.mono (by decide)) (a9 (zv 0) (a9 (zv 2) sa_nil))) (gK (bM bB (zv 3) aU) sa_nil))))))) aP)
   (aA (bN (aJ i6 (zv 4) aE (nomark _)) (aC (aN (aT (a9 (zv 2) (a9 (zv 3) (aK (bA qZ (hr.mono (by decide)) (a9 (zv 0) (aK (bA kW (hr.mono (by decide)) (a9 (zv 0) (a9 (zv 2) sa_nil))) sa_nil))) (gK (bM bB (zv 3) aU) sa_nil))))))) aP)
   (aA (aR (i:=5) eG.nd rfl (Or.inl rfl) (bA hX (hr.mono (by decide)) (a9 (zv 0) (a9 (zv 1) sa_nil))))
   (aC (aN (aT (a9 (zv 2) (a9 (zv 3) (a9 (zv 5) (aK (bA dU (hr.mono (by decide)) (a9 (zv 0) (a9 (zv 5) sa_nil))) sa_nil)))))))))))))),?_⟩
  refine aL ⟨H0,p,most,t,rfl,hn,by omega,⟨by omega,by omega⟩,fun a xs rows ns H1 rt hl h8 hn1 sm1=>?_⟩
  refine aL ⟨H0,p,a,_,xs,rows,ns,WW,rfl,hn1,by omega,rt,fun x H2 hx hn2 sm2=>?_⟩
  have rt2:=rt.tk (hn1.ts sm2)
  have xl:x.length<=8:=dY (mF _ (h8 _ hx)).1
  refine aL ⟨H0,p,5,_,rfl,hn2,⟨by decide,by decide⟩,by omega,fun wy H3 wy0 wy1 hn3 sm3=>?_⟩
  have rt3:=rt2.tk (hn2.ts sm3)
  have sm03:=(sm1.trans sm2).trans sm3
  have eq1:(x++("q":Str))∈dbl ns:=dA.mpr ⟨x,hx,.inl rfl⟩
  have ql:("q":Str).length=1:=rfl
  refine ⟨rfl,_,rfl,iteB (fun c=>?_) (fun c=>?_)⟩
  ·refine ⟨H0,p,a,_,xs,rows,ns,WW,rfl,hn3,by omega,rt3,fun y H4 hy hn4 sm4=>⟨(show 4<=sizeLine by decide),fun q hq=>?_⟩⟩
   have s5:=Same.upd hq (.tup [.ref a,.str x,.ref a,.str y])
   have rt5:=(rt3.tk (hn3.ts sm4)).tk s5.ts
   exact k q a a xs xs rows rows ns ns x y _ a7 rt5 hx rt5 hy ((hn4.same s5).mono (by omega)) ((sm03.trans sm4).trans s5.sm)
  refine ⟨rfl,_,rfl,iteB (fun c=>?_) (fun c=>?_)⟩
  ·refine ⟨H0,p,a,_,xs,rows,ns,rfl,hn3,by omega,rt3,h8,by omega,fun b ys rows2 H4 rt4 hn4 sm4=>⟨by omega,(show 4<=sizeLine by decide),fun q hq=>?_⟩⟩
   have s5:=Same.upd hq (.tup [.ref a,.str x,.ref b,.str (x++"q")])
   exact k q a b xs ys rows rows2 ns _ x _ _ a7 ((rt3.tk (hn3.ts sm4)).tk s5.ts) hx (rt4.tk s5.ts) eq1 ((hn4.same s5).mono (by omega)) ((sm03.trans sm4).trans s5.sm)
  refine ⟨_,rfl,iteB (fun c=>?_) (fun c=>?_)⟩
  ·refine ⟨H0,p,a,_,xs,rows,ns,rfl,hn3,by omega,rt3,h8,by omega,fun b ys rows2 H4 rt4 hn4 sm4=>⟨H0,p,b,_,ys,rows2,_,rfl,hn4,by omega,rt4,fun b2 ys2 rows3 H5 rt5 hn5 sm5=>⟨by omega,(show 4<=sizeLine by decide),fun q hq=>?_⟩⟩⟩
   have s6:=Same.upd hq (.tup [.ref a,.str x,.ref b2,.str (x++"q")])
   exact k q a b2 xs ys2 rows rows3 ns _ x _ _ a7 (((rt3.tk (hn3.ts sm4)).tk (hn4.ts sm5)).tk s6.ts) hx (rt5.tk s6.ts) eq1 ((hn5.same s6).mono (by omega)) (((sm03.trans sm4).trans sm5).trans s6.sm)
  refine ⟨H0,p,most,_,rfl,hn3,by omega,⟨by omega,by omega⟩,fun b ys rows2 ns2 H4 rt4 hl4 h84 hn4 sm4=>?_⟩
  refine ⟨H0,p,b,_,ys,rows2,ns2,WW,rfl,hn4,by omega,rt4,fun y H5 hy hn5 sm5=>⟨(show 4<=sizeLine by decide),fun q hq=>?_⟩⟩
  have s6:=Same.upd hq (.tup [.ref a,.str x,.ref b,.str y])
  exact k q a b xs ys rows rows2 ns ns2 x y _ a7 (((rt3.tk (hn3.ts sm4)).tk (hn4.ts sm5)).tk s6.ts) hx ((rt4.tk (hn4.ts sm5)).tk s6.ts) hy ((hn5.same s6).mono (by omega)) (((sm03.trans sm4).trans sm5).trans s6.sm)
structure Nt2 (K:Q0) (mg:Str->Option Value) (H:Hp) (n1 n2:Addr) (r1 r2:List Rw2) (m1 m2:List Str):Prop where
 v1:NetV K mg H n1 r1 m1
 v2:NetV K mg H n2 r2 m2
 g1:Gd2 r1 m1
 g2:Gd2 r2 m2
theorem Nt2.same {H H':Hp} {n1 n2:Addr} {r1 r2:List Rw2} {m1 m2:List Str} (h:Nt2 K mg H n1 n2 r1 r2 m1 m2) (s:Same H H'):Nt2 K mg H' n1 n2 r1 r2 m1 m2:=⟨h.v1.same s,h.v2.same s,h.g1,h.g2⟩
def spRdB:Sp:=fun vs H Q _=>∃ (W:Addr) (i:Nat) (ts:List V) (tr:List (Option (Nat×List Str))),vs=[.ref W,.int (i:Int)]/\H W=some (.lst ts)/\TrV H ts tr/\TrOk tr/\i < tr.length/\tr.length<=1000/\
 ∀ (r:Addr) (us:List V) (H':Hp),Same H H'->H' r=some (.tup us)->SV H' us (rdB tr i i)->Q (.ref r) H'
theorem nW (T:Txt K mg w):FnK P w K mg base 1 "road_back" ["trail","at"] spRdB:=by
 refine T.pT.okS dP (fun vs H Q E h=>?_) (fun f cdv A outer s H vs Q E hr h=>?_)
 ·obtain ⟨W,i,ts,tr,rfl,_⟩:=h
  rfl
 ·obtain ⟨W,i,ts,tr,rfl,hW,tv,tok,hi,hl,k⟩:=h
  have hu:=aQ hr
  have hu0:=Qx (aQ hr)
  have hsz:sizeLine=16777216:=QL
  have htl:=tv.len
  refine ⟨_,(aA (aR (i:=2) dP.nd rfl (Or.inl rfl) (cB sa_nil))
   (aA (fL PassesOwn.never (aJ yZ (aZ (aY K) (zv 0) (zv 1) (fun _ _=>rfl)) sZ (nomark _)) (aA (hV (aZ (aY K) (zv 0) (zv 1) (fun _ _=>rfl)) (bQ K (n:=2) rfl (aH (aG (i:=1) dP.nd rfl (Or.inl rfl)) (aH (aG (i:=3) dP.nd rfl (Or.inl rfl)) bD))))
   (aC (eJ (lM K QH QJ QK bV (zv 2) (a9 (zv 3) sa_nil))))))
   (aC (aN (bO (d6 K) (by rfl) T.eZ QG (aF (xK K (zv 2) (a27 xR aE)) sa_nil)))))),?_⟩
  refine aL ⟨(show 0<=sizeLine by decide),fun L hL=>?_⟩
  refine aV (fun σ' H'=>∃ (v3:Option V) (j:Nat) (us:List V) (ss:List (List Str)),σ'=[some (.ref W),some (.int (j:Int)),some (.ref L),v3]/\Same H H'/\H' L=some (.lst us)/\SV H' us ss/\ss.length<=1000/\rdB tr i i=ss.reverse) ?_ ?_
  ·intro nx hnx
   refine ⟨fun m σ' H'=>∃ (v3:Option V) (j:Nat) (us:List V) (ss:List (List Str)),σ'=[some (.ref W),some (.int (j:Int)),some (.ref L),v3]/\Same H H'/\H' L=some (.lst us)/\SV H' us ss/\j<=m/\m+ss.length<=i/\rdB tr i i=rdB tr m j++ss.reverse,⟨i,none,i,[],[],rfl,Same.upd hL _,a7,SV.nil,Qy _,by simp,by simp⟩,?_⟩
   rintro m σ' H1 ⟨v3,j,us,ss,rfl,s1,e1,sv,hj,hm,he⟩
   have hjt:j < tr.length:=by omega
   have hje:=tv.at_ j (by omega) hjt
   have hat:atI ts (j:Int)=some (ts[j]'(by omega)):=dN (Qa (by omega))
   refine ⟨_,_,.inl (SqL.of (s1 _ _ hW)),hat,?_⟩
   cases ho:tr[j] with
   | none=>
    rw [ho] at hje
    have hje:ts[j]'(by omega)=.non:=hje
    rw [hje]
    refine ⟨_,rfl,hnx _ _ ⟨v3,j,us,ss,rfl,s1,e1,sv,by omega,?_⟩⟩
    rw [he]
    have:rdB tr m j=[]:=by
     cases m with
     | zero=>rfl
     | succ m=>unfold rdB;rw [Qa hjt,ho]
    rw [this,List.nil_append]
   | some q=>
    rw [ho] at hje
    obtain ⟨b,c,q1,q2,q3⟩:=hje
    rw [q1]
    have hqj:=tok j q.1 q.2 (by rw [Qa hjt,ho])
    have hul:=sv.len
    refine ⟨_,rfl,iteT ?_⟩
    refine ⟨fun σ' H'=>∃ m',m' < m/\∃ (v3:Option V) (j:Nat) (us:List V) (ss:List (List Str)),σ'=[some (.ref W),some (.int (j:Int)),some (.ref L),v3]/\Same H H'/\H' L=some (.lst us)/\SV H' us ss/\j<=m'/\m'+ss.length<=i/\rdB tr i i=rdB tr m' j++ss.reverse,fun _ _ h=>h,?_⟩
    refine ⟨_,_,.inl (SqL.of (s1 _ _ hW)),hat,?_⟩
    rw [q1]
    refine cX (s1 _ _ q2) ?_
    refine ⟨.inl ⟨rfl,_,SqL.of e1⟩,L,us,.ref c,rfl,rfl,e1,by omega,m - 1,by omega,_,q.1,us++[.ref c],ss++[q.2],rfl,s1.put hL,a7,?_,by omega,by simp;omega,?_⟩
    ·exact (sv.snoc (q3.same s1)).keep fun b ys r=>r.put e1 (fun _ z=>nomatch z) (fun _ _ z=>nomatch z)
    ·rw [he]
     cases m with
     | zero=>omega
     | succ m=>
      have:rdB tr (m+1) j=rdB tr m q.1++[q.2]:=by
       show (match tr[j]? with | some (some (j,s))=>rdB tr m j++[s] | _=>[])=_
       rw [Qa hjt,ho]
      rw [this,Nat.add_sub_cancel,List.reverse_append,List.append_assoc]
      rfl
  ·rintro σ' H1 ⟨v3,j,us,ss,rfl,s1,e1,sv,hl,he⟩
   have hul:=sv.len
   refine ⟨_,rfl,rfl,L,us,rfl,SqL.of e1,fun p hp=>?_⟩
   refine ⟨p,us.reverse,rfl,.inl ⟨SqL.of a7,fun r hr=>?_⟩⟩
   have s2:=(Same.upd hp (.lst us.reverse)).trans (Same.upd hr (.tup us.reverse))
   refine k r _ _ (s1.trans s2) a7 ?_
   rw [he]
   exact (sv.same s2).rev
def spTop:Sp:=fun vs H Q _=>∃ (D b:Addr) (U:List Tg) (f:AF) (n:Nat) (x:Tg),vs=[.ref D,.ref b]/\AbH H D U f n/\Acy f n/\U.length<=100/\RdT H b ((tgK x).map kV)/\x∈U/\
 ∀ (b':Addr) (y:Tg) (f':AF) (H':Hp),Sx D H H'->AbH H' D U f' n->Acy f' n->RdT H' b' ((tgK y).map kV)->y∈U->Root f' x y->(∀ z r,Root f z r->Root f' z r)->Q (.ref b') H'
set_option maxHeartbeats 1000000 in
theorem uZ (T:Txt K mg w):FnK P w K mg base 1 "top_of" ["above","thing"] spTop:=by
 refine T.wP.okS jN (fun vs H Q E h=>?_) (fun f cdv A outer s H vs Q E hr h=>?_)
 ·obtain ⟨D,b,U,f,n,x,rfl,_⟩:=h
  rfl
 ·obtain ⟨D,b,U,f,n,x,rfl,ab,ac,hU,hb,hx,k⟩:=h
  have hu:=aQ hr
  have hsz:sizeLine=16777216:=QL
  refine ⟨_,(aA (fL PassesOwn.never (aJ (qY hu) (zv 1) (zv 0) rfl) (aA (aR (i:=2) jN.nd rfl (Or.inl rfl) (bK hu (zv 0) (zv 1) (fun _ _=>rfl)))
   (aA (bN (aJ (qY hu) (zv 2) (zv 0) rfl) (aC (qX hu (zv 0) (zv 1) (bK hu (zv 0) (zv 2) (fun _ _=>rfl)) rfl)) aP)
   (aC (aR (i:=1) jN.nd rfl (Or.inl rfl) (zv 2))))))
   (aC (aN (zv 1)))),?_⟩
  refine aV (fun σ' H'=>∃ (v2:Option V) (b':Addr) (y:Tg) (f':AF),σ'=[some (.ref D),some (.ref b'),v2]/\Sx D H H'/\AbH H' D U f' n/\Acy f' n/\RdT H' b' ((tgK y).map kV)/\y∈U/\Root f' x y/\∀ z r,Root f z r->Root f' z r) ?_ ?_
  ·intro nx hnx
   refine ⟨fun m σ' H'=>∃ (v2:Option V) (b':Addr) (y:Tg) (f':AF) (ρ:Tg->Nat),σ'=[some (.ref D),some (.ref b'),v2]/\Sx D H H'/\AbH H' D U f' n/\(∀ x y,f' x=some y->ρ x < ρ y)/\(∀ x,ρ x<=n)/\RdT H' b' ((tgK y).map kV)/\y∈U/\(∀ r,Root f' y r->Root f' x r)/\(∀ z r,Root f z r->Root f' z r)/\m=n - ρ y,?_,?_⟩
   ·obtain ⟨ρ,p1,p2⟩:=ac
    exact ⟨_,none,b,x,f,ρ,rfl,fun b o _ e=>e,ab,p1,p2,hb,hx,fun r h=>h,fun z r h=>h,rfl⟩
   rintro m σ' H1 ⟨v2,b1,y,f1,ρ,rfl,s1,ab1,p1,p2,hb1,hy,hr1,hr2,rfl⟩
   obtain ⟨kvs,g1,g2,g3,g4,g5⟩:=ab1.ex
   refine ⟨D,valV kvs (tgK y),rfl,.inr ⟨kvs,tgK y,b1,.inl g1,rfl,hb1,rfl⟩,_,rfl,?_⟩
   rcases g5 y with ⟨q1,q2⟩ | ⟨c,u,q1,q2,q3,q4⟩
   ·rw [q1]
    exact iteF (hnx _ _ ⟨v2,b1,y,f1,rfl,s1,ab1,⟨ρ,p1,p2⟩,hb1,hy,hr1 _ (.top q2),hr2⟩)
   ·rw [q1]
    refine iteT ?_
    have hlt:=p1 _ _ q3
    have hub:=p2 u
    refine ⟨fun σ' H'=>∃ m',m' < n - ρ y/\∃ (v2:Option V) (b':Addr) (y:Tg) (f':AF) (ρ:Tg->Nat),σ'=[some (.ref D),some (.ref b'),v2]/\Sx D H H'/\AbH H' D U f' n/\(∀ x y,f' x=some y->ρ x < ρ y)/\(∀ x,ρ x<=n)/\RdT H' b' ((tgK y).map kV)/\y∈U/\(∀ r,Root f' y r->Root f' x r)/\(∀ z r,Root f z r->Root f' z r)/\m'=n - ρ y,fun _ _ h=>h,?_⟩
    have lk:DGet H1 D (.ref b1) (some (.ref c)):=by rw [<- q1];exact .inr ⟨kvs,tgK y,b1,.inl g1,rfl,hb1,rfl⟩
    refine aL ⟨D,_,rfl,lk,?_⟩
    refine aV (fun σ' H'=>∃ (f':AF),σ'=[some (.ref D),some (.ref b1),some (.ref c)]/\Sx D H H'/\AbH H' D U f' n/\(∀ x y,f' x=some y->ρ x < ρ y)/\RdT H' c ((tgK u).map kV)/\(∀ r,Root f' u r->Root f' x r)/\(∀ z r,Root f z r->Root f' z r)) ?_ ?_
    ·intro nx2 hnx2
     refine ⟨D,valV kvs (tgK u),rfl,.inr ⟨kvs,tgK u,c,.inl g1,rfl,q2,rfl⟩,_,rfl,?_⟩
     rcases g5 u with ⟨w1,w2⟩ | ⟨d,v,w1,w2,w3,w4⟩
     ·rw [w1]
      exact iteF (hnx2 _ _ ⟨f1,rfl,s1,ab1,p1,q2,fun r h=>hr1 r (.up q3 h),hr2⟩)
     ·rw [w1]
      have hn:=ab1.few
      have lk2:DGet H1 D (.ref c) (some (.ref d)):=by rw [<- w1];exact .inr ⟨kvs,tgK u,c,.inl g1,rfl,q2,rfl⟩
      obtain ⟨a1,a2⟩:=Acy.short ⟨ρ,p1,p2⟩ q3 w3
      refine iteT ⟨D,_,rfl,lk2,D,_,rfl,.inr ⟨kvs,tgK y,b1,g1,rfl,hb1,by omega,rfl⟩,hnx2 _ _ ⟨setF f1 y v,rfl,s1.trans Sx.upd,ab1.short g1 q3 w4 w2,fun z z' h=>?_,iK g1 _ _ q2,fun r h=>?_,fun z r h=>a2 z r (hr2 z r h)⟩⟩
      ·unfold setF at h
       split at h
       ·rename_i hz
        cases h
        rw [hz]
        exact Nat.lt_trans (p1 _ _ q3) (p1 _ _ w3)
       ·exact p1 _ _ h
      ·obtain ⟨r0,h0⟩:=gX ⟨ρ,p1,p2⟩ u
       have:r=r0:=h.uniq (a2 _ _ h0)
       rw [this]
       exact a2 _ _ (hr1 _ (.up q3 h0))
    ·rintro σ' H2 ⟨f2,rfl,s2,ab2,p12,rd2,e1,e2⟩
     exact ⟨n - ρ u,by omega,_,c,u,f2,ρ,rfl,s2,ab2,p12,p2,rd2,q4,e1,e2,rfl⟩
  ·rintro σ' H1 ⟨v2,b',y,f',rfl,s1,ab1,ac1,rd,hy,h1,h2⟩
   exact k b' y f' H1 s1 ab1 ac1 rd hy h1 h2
def spPut:Sp:=fun vs H Q _=>∃ (D b c:Addr) (U:List Tg) (f:AF) (n:Nat) (x y:Tg),vs=[.ref D,.ref b,.ref c]/\AbH H D U f n/\Acy f n/\U.length<=100/\RdT H b ((tgK x).map kV)/\RdT H c ((tgK y).map kV)/\x∈U/\y∈U/\
 (∀ (r:Tg) (f':AF) (H':Hp),Sx D H H'->AbH H' D U f' n->Acy f' n->Root f' x r->Root f' y r->(∀ z r,Root f z r->Root f' z r)->Q (.bl false) H')/\
 ∀ (r r':Tg) (f':AF) (H':Hp),Sx D H H'->AbH H' D U f' (n+1)->Acy f' (n+1)->Root f x r->Root f y r'->r≠r'->(∀ z q,Root f z q->Root f' z (if q=r then r' else q))->Q (.bl true) H'
theorem m4 (T:Txt K mg w):FnK P w K mg base 2 "put_in_one" ["above","a","b"] spPut:=by
 have pG:FnK P w K mg base 1 "top_of" ["above","thing"] spTop:=uZ T
 refine T.nH.okS h9 (fun vs H Q E h=>?_) (fun f cdv A outer s H vs Q E hr h=>?_)
 ·obtain ⟨D,b,c,U,f,n,x,y,rfl,_⟩:=h
  rfl
 ·obtain ⟨D,b,c,U,f,n,x,y,rfl,ab,ac,hU,hb,hc,hx,hy,k1,k2⟩:=h
  have hu:=aQ hr
  have hu100:=gI hr
  have hsz:sizeLine=16777216:=QL
  refine ⟨_,(aA (pI (i:=3) (j:=4) rfl h9.nd rfl rfl (by decide) rfl rfl (aK (bA pG (hr.mono (by decide)) (a9 (zv 0) (a9 (zv 1) sa_nil))) (aK (bA pG (hr.mono (by decide)) (a9 (zv 0) (a9 (zv 2) sa_nil))) sa_nil)) rfl)
   (aA (bN (aJ (zW hu100) (zv 3) (zv 4) (nomark _)) (aC (aN iB)) aP)
   (aA (qX hu (zv 0) (zv 3) (zv 4) rfl)
   (aC (aN iB))))),?_⟩
  refine ⟨D,b,U,f,n,x,rfl,ab,ac,hU,hb,hx,fun b1 t1 f1 H1 s1 ab1 ac1 rd1 ht1 rt1 kp1=>?_⟩
  have hc1:RdT H1 c ((tgK y).map kV):=hc.sx s1 ab
  refine ⟨D,c,U,f1,n,y,rfl,ab1,ac1,hU,hc1,hy,fun b2 t2 f2 H2 s2 ab2 ac2 rd2 ht2 rt2 kp2=>⟨_,_,rfl,?_⟩⟩
  have rd12:RdT H2 b1 ((tgK t1).map kV):=rd1.sx s2 ab1
  have rt12:=kp2 _ _ rt1
  dsimp only
  refine ⟨1,1,_,_,b1,b2,by decide,rfl,rfl,a0a rd12,a0a rd2,fun bo hbo=>⟨_,rfl,?_⟩⟩
  rw [a2F] at hbo
  rw [QE]
  refine iteB (fun cc=>?_) (fun cc=>?_)
  ·have e:=hbo.mp cc
   exact k1 t1 f2 H2 (s1.trans s2) ab2 ac2 rt12 (by rw [e];exact rt2) fun z r h=>kp2 _ _ (kp1 _ _ h)
  ·have ne:t1≠t2:=fun e=>by rw [hbo.mpr e] at cc;cases cc
   obtain ⟨kvs,g1,g2,_⟩:=ab2.ex
   have hn:=ab2.few
   obtain ⟨a1,a2⟩:=ac2.join rt12.root rt2.root ne
   refine gQ ?_
   refine ⟨D,_,rfl,.inr ⟨kvs,tgK t1,b1,g1,rfl,rd12,by omega,rfl⟩,?_⟩
   obtain ⟨r0,h0⟩:=gX ac x
   obtain ⟨r0',h0'⟩:=gX ac y
   have e1:r0=t1:=(kp2 _ _ (kp1 _ _ h0)).uniq rt12
   have e2:r0'=t2:=(kp2 _ _ (kp1 _ _ h0')).uniq rt2
   refine k2 r0 r0' (setF f2 t1 t2) _ ((s1.trans s2).trans Sx.upd) (ab2.join g1 rt12.root ht1 ht2 rd2) a1 h0 h0' (by rw [e1,e2];exact ne) fun z q h=>?_
   rw [e1,e2]
   exact a2 z q (kp2 _ _ (kp1 _ _ h))
def spPbeh (K:Q0) (mg:Str->Option Value):Sp:=fun vs H Q _=>∃ (n1 n2 b:Addr) (r1 r2:List Rw2) (m1 m2:List Str) (p:Pr),vs=[.ref n1,.ref n2,.ref b]/\Nt2 K mg H n1 n2 r1 r2 m1 m2/\RdT H b ((tgK p).map kV)/\PrOk r1 r2 m1 m2 p/\MkE r1 r2 p/\
 ∀ (L:Addr) (us:List V) (H':Hp),H L=none->Same H H'->H' L=some (.lst us)->PbV H' us (pbL r1 r2 p)->Q (.ref L) H'
set_option maxHeartbeats 1000000 in
theorem dE (T:Txt K mg w):FnK P w K mg base 1 "pairs_behind" ["left","right","pair"] (spPbeh K mg):=by
 have cl:=T.k_Net.2.1
 have na:=T.k_Net.2.2.1
 refine T.kT.okS dH (fun vs H Q E h=>?_) (fun f cdv A outer s H vs Q E hr h=>?_)
 ·obtain ⟨n1,n2,b,r1,r2,m1,m2,p,rfl,_⟩:=h
  rfl
 ·obtain ⟨n1,n2,b,r1,r2,m1,m2,p,rfl,nt,hb,po,me,k⟩:=h
  have hu:=aQ hr
  have hu0:=Qx (aQ hr)
  have hsz:sizeLine=16777216:=QL
  obtain ⟨dx,fs,d1,d3,d4,x0,x1,x2,x3,x4,x5,x6,x7⟩:=nt.v1.at_
  obtain ⟨dx',fs',d1',d3',d4',y0,y1,y2,y3,y4,y5,y6,y7⟩:=nt.v2.at_
  obtain ⟨p1,o1,p2,p3⟩:=x7 _ po.a
  obtain ⟨q1,o2,q2,q3⟩:=y7 _ po.b
  have st1:=tS po.a.2
  have nd1:=nt.g1.onNd po.a
  have fw:(onOf r1 p.1).length<=10:=by
   have h1:=gR (nt.g1.endRow po.a).2
   have h2:=congrArg List.length st1
   rw [Ql] at h2
   rw [h2];simpa [stH] using h1
  generalize hC:adr mg "Net"=C at x0 y0 cl na
  refine ⟨_,(aA (hV (zv 2) (bQ K (n:=2) rfl (aH (aG (i:=3) dH.nd rfl (Or.inl rfl)) (aH (aG (i:=4) dH.nd rfl (Or.inr rfl)) bD))))
   (aC (aN (i9 (own:=["step","end"]) (idx:=[1,4]) (N':=["step","end","right","b"]) (cE (defScope cT) (["left","right","pair","a","b"]:List Str) (by decide+kernel)) rfl (uS (bK hu (eE K (zv 0)) (zv 3) (fun _ _=>rfl))) (fun _ _ _ _ _ _=>(bQ K (n:=2) rfl (aH (aG (i:=0) (show List.Nodup (["step","end","right","b"]:List Str) by decide+kernel) rfl (Or.inl rfl)) (aH (aG (i:=1) (show List.Nodup (["step","end","right","b"]:List Str) by decide+kernel) rfl (Or.inl rfl)) bD)))) (fun _ _ _ _ _ _=>cN) (fun _ _ _ _ _ _=>(aT (a9 (zv 0) (bE (aT (a9 (zv 1) (aF (bK hu (bK hu (eE K (zv 2)) (zv 3) (fun _ _=>rfl)) (zv 0) (fun _ _=>rfl)) sa_nil))) sa_nil)))))))),?_⟩
  refine lX (SqT.ofR hb) ?_
  refine ⟨n1,C,dx,fs,_,rfl,x0,cl,na "moves" (by simp),x3,d4,_,rfl,p2,p1,onE r1 p.1,o1,rfl,p3,fun L hL=>?_⟩
  have oe:(onE r1 p.1).length=(onOf r1 p.1).length:=by simp [onE]
  refine vQ (fun i τ H'=>∃ (v0 v1:Option V) (us:List V),τ=[v0,v1,some (.ref n2),some (.str p.2)]/\H' L=some (.lst us)/\us.length=i/\PbV H' us (((stH (hdOf r1 p.1)).take i).map fun s=>(s,pbh r1 r2 p s))/\Same H H') ⟨none,none,[],rfl,a7,rfl,PbV.nil,Same.upd hL _⟩ (by rintro i τ H' _ ⟨_,_,_,_,_,_,_,s⟩;exact s _ _ p3) ?_ ?_
  ·rintro i τ H1 TT cc hi ⟨v0,v1,us,rfl,z1,z2,z3,z4⟩ hTT rd
   have hio:i < (onOf r1 p.1).length:=by omega
   have his:i < (stH (hdOf r1 p.1)).length:=by rw [<- st1];simpa using hio
   have es1:(stH (hdOf r1 p.1))[i]=(onOf r1 p.1)[i].1:=by simp only [<- st1,Qr]
   have mv1e:=xW nd1 (Qj hio)
   have eo:(onE r1 p.1)[i]=((onOf r1 p.1)[i].1.map Sum.inr,.str (onOf r1 p.1)[i].2):=by simp [onE]
   rw [eo] at rd ⊢
   have tks:(stH (hdOf r1 p.1)).take (i+1)=(stH (hdOf r1 p.1)).take i++[(onOf r1 p.1)[i].1]:=by rw [Qs,Qa his,es1];rfl
   have hsm:(onOf r1 p.1)[i].1∈stH (hdOf r1 p.1):=by rw [<- es1];exact Qj his
   generalize (onOf r1 p.1)[i]=mm at rd mv1e tks hsm ⊢
   rw [kstr] at rd
   obtain ⟨e2,m2'⟩:=jQ po.b.2 (show mm.1∈stH (hdOf r2 p.2) by rw [<- me.2];exact hsm)
   have epb:pbh r1 r2 p mm.1=(mm.2,e2):=by unfold pbh;rw [mv1e,m2'];rfl
   dsimp only
   have s2:=Same.upd hTT (.tup [.ref cc,.str mm.2])
   generalize upd H1 TT (.tup [.ref cc,.str mm.2])=H2 at s2 ⊢
   have z42:=z4.trans s2
   have dg2:DGet H2 q1 (.ref cc) (some (.str e2)):=by
    have:=zN r2 p.2 mm.1
    rw [m2'] at this
    exact .inr ⟨_,mm.1.map Sum.inr,cc,.inr ⟨o2,z42 _ _ q3⟩,rfl,by rw [kstr];exact rd.same s2,this.symm⟩
   refine ⟨n2,C,dx',fs',_,rfl,z42 _ _ y0,cl,na "moves" (by simp),y3,d4',_,rfl,q2.same z42,q1,_,rfl,dg2,(show 2<=sizeLine by decide),fun te hte=>⟨(show 2<=sizeLine by decide),fun tc htc=>?_⟩⟩
   have s3:=Same.upd hte (.tup [.str mm.2,.str e2])
   have e3:upd H2 te (.tup [.str mm.2,.str e2]) te=some (.tup ((tgK (pbh r1 r2 p mm.1)).map kV)):=by rw [epb];exact a7
   generalize upd H2 te (.tup [.str mm.2,.str e2])=H3 at s3 e3 htc ⊢
   have s4:=Same.upd htc (.tup [.ref cc,.ref te])
   have e4:upd H3 tc (.tup [.ref cc,.ref te]) tc=some (.tup [.ref cc,.ref te]):=a7
   generalize upd H3 tc (.tup [.ref cc,.ref te])=H4 at s4 e4 ⊢
   have s24:=(s2.trans s3).trans s4
   have z14:=s24 _ _ z1
   have kr:∀ b ys,RdT H4 b ys->RdT (upd H4 L (.lst (us++[.ref tc]))) b ys:=fun b ys h=>h.put z14 (fun _ z=>nomatch z) (fun _ _ z=>nomatch z)
   have tk:Tk H4 (upd H4 L (.lst (us++[.ref tc]))):=(Tk.refl).set z14 fun _ z=>nomatch z
   refine ⟨us,z14,by omega,_,_,us++[.ref tc],rfl,a7,by simp [z2],?_,(z4.trans s24).put hL⟩
   rw [tks,Qm]
   exact ((z3.same s24).keep tk kr).snoc (tk _ _ e4) (kr _ _ (rd.same s24)) (tk _ _ (s4 _ _ e3))
  ·rintro τ H1 ⟨v0,v1,us,rfl,z1,z2,z3,z4⟩
   have:(onE r1 p.1).length=(stH (hdOf r1 p.1)).length:=by rw [oe,<- st1];simp
   rw [this,Qo] at z3
   exact k L us H1 hL z4 z1 z3
structure PkB (H0 H:Hp) (L W D:Addr) (st:PkS) (U:List Tg) (f:AF) (n:Nat):Prop where
 l:∃ xs,H L=some (.lst xs)/\KsV H xs (st.map fun c=>tgK c.1)
 w:∃ ts,H W=some (.lst ts)/\TrV H ts (st.map (·.2))
 d:AbH H D U f n
 sm:Same H0 H
theorem PkB.same {H0 H H':Hp} {L W D:Addr} {st:PkS} {U:List Tg} {f:AF} {n:Nat} (h:PkB H0 H L W D st U f n) (s:Same H H'):PkB H0 H' L W D st U f n:=by
 obtain ⟨⟨xs,a1,a2⟩,⟨ts,c1,c2⟩,d,e⟩:=h
 exact ⟨⟨xs,s _ _ a1,a2.same s⟩,⟨ts,s _ _ c1,c2.same s⟩,d.same s,e.trans s⟩
theorem AbH.sxk {H H':Hp} {D:Addr} {U:List Tg} {f:AF} {n:Nat} (a:AbH H D U f n) (s:Sx D H H'):(∀ b ys,RdT H b ys->RdT H' b ys)/\Tk H H':=by
 refine ⟨fun b ys r=>r.sx s a,?_⟩
 obtain ⟨kvs,g1,_⟩:=a.ex
 exact s.tk fun ys z=>by rw [g1] at z;cases z
theorem a1I {H0 H:Hp} {L W D T8 r sb:Addr} {st:PkS} {U:List Tg} {f:AF} {n:Nat} {xs ts:List V} {p:Pr} {i:Nat} {sp:List Str} (l1:H L=some (.lst xs)) (l2:KsV H xs (st.map fun c=>tgK c.1)) (w1:H W=some (.lst ts)) (w2:TrV H ts (st.map (·.2))) (d:AbH H D U f n) (sm:Same H0 H)
  (hL:H0 L=none) (hW:H0 W=none) (nLW:L≠W) (nLD:L≠D) (nWD:W≠D) (er:H r=some (.tup ((tgK p).map kV))) (g:RdT H sb (sp.map V.str)) (hT:upd H L (.lst (xs++[.ref r])) T8=none):
  PkB H0 (upd (upd (upd H L (.lst (xs++[.ref r]))) T8 (.tup [.int (i:Int),.ref sb])) W (.lst (ts++[.ref T8]))) L W D (st++[(p,some (i,sp))]) U f n/\
  Tk H (upd (upd (upd H L (.lst (xs++[.ref r]))) T8 (.tup [.int (i:Int),.ref sb])) W (.lst (ts++[.ref T8])))/\
  (∀ b ys,RdT H b ys->RdT (upd (upd (upd H L (.lst (xs++[.ref r]))) T8 (.tup [.int (i:Int),.ref sb])) W (.lst (ts++[.ref T8]))) b ys)/\
  ∀ b o,b≠L->b≠W->H b=some o->upd (upd (upd H L (.lst (xs++[.ref r]))) T8 (.tup [.int (i:Int),.ref sb])) W (.lst (ts++[.ref T8])) b=some o:=by
 have k2:∀ b ys,RdT H b ys->RdT (upd H L (.lst (xs++[.ref r]))) b ys:=fun b ys h=>h.put l1 (fun _ z=>nomatch z) (fun _ _ z=>nomatch z)
 have t2:Tk H (upd H L (.lst (xs++[.ref r]))):=(Tk.refl).set l1 fun _ z=>nomatch z
 have l2':upd H L (.lst (xs++[.ref r])) L=some (.lst (xs++[.ref r])):=a7
 have w2':upd H L (.lst (xs++[.ref r])) W=some (.lst ts):=by rw [aD nLW.symm];exact w1
 have m2:Same H0 (upd H L (.lst (xs++[.ref r]))):=sm.put hL
 have f2:∀ b o,b≠L->H b=some o->upd H L (.lst (xs++[.ref r])) b=some o:=fun b o n e=>by rw [aD n];exact e
 generalize upd H L (.lst (xs++[.ref r]))=H2 at*
 have sm3:=Same.upd hT (.tup [.int (i:Int),.ref sb])
 have e3:upd H2 T8 (.tup [.int (i:Int),.ref sb]) T8=some (.tup [.int (i:Int),.ref sb]):=a7
 generalize upd H2 T8 (.tup [.int (i:Int),.ref sb])=H3 at*
 have w3':=sm3 _ _ w2'
 have k4:∀ b ys,RdT H3 b ys->RdT (upd H3 W (.lst (ts++[.ref T8]))) b ys:=fun b ys h=>h.put w3' (fun _ z=>nomatch z) (fun _ _ z=>nomatch z)
 have t4:Tk H3 (upd H3 W (.lst (ts++[.ref T8]))):=(Tk.refl).set w3' fun _ z=>nomatch z
 have kk:∀ b ys,RdT H b ys->RdT (upd H3 W (.lst (ts++[.ref T8]))) b ys:=fun b ys h=>k4 _ _ ((k2 _ _ h).same sm3)
 have tt:Tk H (upd H3 W (.lst (ts++[.ref T8]))):=(t2.trans sm3.ts).trans t4
 have fin:∀ b o,b≠L->b≠W->H b=some o->upd H3 W (.lst (ts++[.ref T8])) b=some o:=fun b o n1 n2 e=>by rw [aD n2];exact sm3 _ _ (f2 b o n1 e)
 refine ⟨⟨⟨xs++[.ref r],by rw [aD nLW];exact sm3 _ _ l2',?_⟩,⟨ts++[.ref T8],a7,?_⟩,d.keep (fun o e=>fin D o nLD.symm nWD.symm e) kk,(m2.trans sm3).put hW⟩,tt,kk,fin⟩
 ·rw [Qm]
  exact (l2.keep kk).snoc (.inl (tt _ _ er))
 ·rw [Qm]
  exact (w2.keep tt kk).snoc ⟨T8,sb,rfl,t4 _ _ e3,kk _ _ g⟩
def spPart (K:Q0) (mg:Str->Option Value):Sp:=fun vs H Q _=>∃ (n1 n2 b:Addr) (r1 r2:List Rw2) (m1 m2:List Str) (p:Pr),vs=[.ref n1,.ref n2,.ref b]/\Nt2 K mg H n1 n2 r1 r2 m1 m2/\H b=some (.tup ((tgK p).map kV))/\PrOk r1 r2 m1 m2 p/\
 (∀ (i:Nat) (st:PkS) (un:List Nat) (f:AF) (n:Nat) (H':Hp),Same H H'->PrI r1 r2 m1 m2 i st un f n->st[0]? =some (p,none)->st.length=i->Q .non H')/\
 ∀ (r:Addr) (us:List V) (i:Nat) (st:PkS) (un:List Nat) (f:AF) (n:Nat) (c:Pr×Option (Nat×List Str)) (H':Hp),Same H H'->H' r=some (.tup us)->SV H' us (rdB (st.map (·.2)) i i)->PrI r1 r2 m1 m2 i st un f n->st[0]? =some (p,none)->st[i]? =some c->¬MkE r1 r2 c.1->Q (.ref r) H'
theorem zR {H0 H H':Hp} {D:Addr} (s:Same H0 H) (x:Sx D H H') (h:H0 D=none):Same H0 H':=fun b o e=>x b o (fun z=>by rw [z,h] at e;cases e) (s _ _ e)
set_option maxHeartbeats 4000000 in
theorem k8 (T:Txt K mg w):FnK P w K mg base 3 "parting_road" ["left","right","first"] (spPart K mg):=by
 have nV:FnK P w K mg base 2 "put_in_one" ["above","a","b"] spPut:=m4 T
 have cJ:FnK P w K mg base 1 "pairs_behind" ["left","right","pair"] (spPbeh K mg):=dE T
 have oU:FnK P w K mg base 1 "road_back" ["trail","at"] spRdB:=nW T
 have cl:=T.k_Net.2.1
 have na:=T.k_Net.2.2.1
 refine T.lG.okS aX (fun vs H Q E h=>?_) (fun f cdv A outer s H vs Q E hr h=>?_)
 ·obtain ⟨n1,n2,b,r1,r2,m1,m2,p,rfl,_⟩:=h
  rfl
 ·obtain ⟨n1,n2,b,r1,r2,m1,m2,p,rfl,nt,hb,po,kA,kB⟩:=h
  have hu:=aQ hr
  have hu0:=Qx (aQ hr)
  have hu100:=gI hr
  have hsz:sizeLine=16777216:=QL
  have few1:=nt.g1.few
  have few2:=nt.g2.few
  have hUl:(tgs m1 m2).length<=20:=by simp [tgs];omega
  refine ⟨_,(aA (aR (i:=3) aX.nd rfl (Or.inl rfl) (cB (a9 (zv 2) sa_nil)))
   (aA (aR (i:=4) aX.nd rfl (Or.inl rfl) (cB (aB sZ sa_nil)))
   (aA (aR (i:=5) aX.nd rfl (Or.inl rfl) zH)
   (aA (aR (i:=6) aX.nd rfl (Or.inl rfl) aE)
   (aA (fL PassesOwn.never (aJ i6 (zv 6) (bL (bJ K) (by rfl) T.n_len PySem.boot_len (a9 (zv 3) sa_nil)) (nomark _)) (aA (hV (aZ (aY K) (zv 3) (zv 6) (fun _ _=>rfl)) (bQ K (n:=2) rfl (aH (aG (i:=7) aX.nd rfl (Or.inl rfl)) (aH (aG (i:=8) aX.nd rfl (Or.inl rfl)) bD))))
   (aA (bN (aJ (tI hu100) (bK hu (eE K (zv 0)) (zv 7) (fun _ _=>rfl)) (bK hu (eE K (zv 1)) (zv 8) (fun _ _=>rfl)) (nomark _)) (aC (aN (bA oU (hr.mono (by decide)) (a9 (zv 4) (a9 (zv 6) sa_nil))))) aP)
   (aA (bN (uD (bA nV (hr.mono (by decide)) (a9 (zv 5) (bE (aT (aB aU (a9 (zv 7) sa_nil))) (bE (aT (aB aU (a9 (zv 8) sa_nil))) sa_nil))))) (aC (fY PassesOwn.never rfl (j6 K (bA cJ (hr.mono (by decide)) (a9 (zv 0) (a9 (zv 1) (aF (aZ (aY K) (zv 3) (zv 6) (fun _ _=>rfl)) sa_nil))))) (bQ K (n:=2) rfl (aH (aG (i:=9) aX.nd rfl (Or.inl rfl)) (aH (aG (i:=10) aX.nd rfl (Or.inl rfl)) bD))) (aA (eJ (lM K QH QJ QK bV (zv 3) (a9 (zv 10) sa_nil)))
   (aC (eJ (lM K QH QJ QK bV (zv 4) (bE (aT (a9 (zv 6) (a9 (zv 9) sa_nil))) sa_nil))))))) aP)
   (aC (a0c (i:=6) aX.nd rfl (Or.inl rfl) aE yG))))))
   (aC (aN sZ))))))),?_⟩
  refine aL ⟨(show 1<=sizeLine by decide),fun L hL=>?_⟩
  refine aL ⟨(show 1<=sizeLine by decide),fun W hW=>?_⟩
  refine aL fun D hD=>?_
  have s1:=Same.upd hL (.lst [V.ref b])
  have s2:=Same.upd hW (.lst [V.non])
  have s3:=Same.upd hD (.dT [])
  have hW0:H W=none:=s1.free hW
  have hD0:H D=none:=(s1.trans s2).free hD
  have nLW:L≠W:=fun z=>by rw [<- z,a7] at hW;cases hW
  have nLD:L≠D:=fun z=>by rw [<- z,s2 _ _ a7] at hD;cases hD
  have nWD:W≠D:=fun z=>by rw [<- z,a7] at hD;cases hD
  have b3:PkB H (upd (upd (upd H L (.lst [V.ref b])) W (.lst [V.non])) D (.dT [])) L W D [(p,none)] (tgs m1 m2) (fun _=>none) 0:=by
   refine ⟨⟨[.ref b],s3 _ _ (s2 _ _ a7),KsV.nil.snoc (.inl (s3 _ _ (s2 _ _ (s1 _ _ hb))))⟩,⟨[.non],s3 _ _ a7,⟨rfl,fun i h h'=>?_⟩⟩,⟨[],a7,rfl,by simp,fun k hk=>absurd hk (by simp),fun x=>.inl ⟨rfl,rfl⟩⟩,(s1.trans s2).trans s3⟩
   obtain rfl:i=0:=by simp at h;omega
   rfl
  dsimp only
  generalize upd (upd (upd H L (.lst [V.ref b])) W (.lst [V.non])) D (.dT [])=H3 at b3 ⊢
  clear s1 s2 s3 hW hD
  refine jK ?_
  refine aV (fun σ' H'=>∃ (v7 v8 v9 v10:Option V) (i:Nat) (st:PkS) (un:List Nat) (f:AF) (n:Nat),σ'=[some (.ref n1),some (.ref n2),some (.ref b),some (.ref L),some (.ref W),some (.ref D),some (.int (i:Int)),v7,v8,v9,v10]/\PkB H H' L W D st (tgs m1 m2) f n/\PrI r1 r2 m1 m2 i st un f n/\st[0]? =some (p,none)/\st.length=i) ?_ ?_
  ·intro nx hnx
   refine ⟨fun mm σ' H'=>∃ (v7 v8 v9 v10:Option V) (i:Nat) (st:PkS) (un:List Nat) (f:AF) (n:Nat),σ'=[some (.ref n1),some (.ref n2),some (.ref b),some (.ref L),some (.ref W),some (.ref D),some (.int (i:Int)),v7,v8,v9,v10]/\PkB H H' L W D st (tgs m1 m2) f n/\PrI r1 r2 m1 m2 i st un f n/\st[0]? =some (p,none)/\i<=st.length/\mm=300 - i,
    ⟨300,none,none,none,none,0,_,[],_,0,rfl,b3,PrI.start po,rfl,by simp,rfl⟩,?_⟩
   rintro mm σ' H4 ⟨v7,v8,v9,v10,i,st,un,f,n,rfl,bb,pi,h0,hil,rfl⟩
   obtain ⟨xs,l1,l2⟩:=bb.l
   have hxl:xs.length=st.length:=by have:=l2.1;simpa using this
   have nfew:=bb.d.few
   have sfew:=pi.few
   refine .inl ⟨_,.inl (SqL.of l1),_,rfl,iteB (fun c=>?_) (fun c=>?_)⟩
   ·have hi:i < st.length:=by have:=Qt c;omega
    refine ⟨fun σ' H'=>∃ (v7 v8 v9 v10:Option V) (st:PkS) (un:List Nat) (f:AF) (n:Nat),σ'=[some (.ref n1),some (.ref n2),some (.ref b),some (.ref L),some (.ref W),some (.ref D),some (.int ((i+1:Nat):Int)),v7,v8,v9,v10]/\PkB H H' L W D st (tgs m1 m2) f n/\PrI r1 r2 m1 m2 (i+1) st un f n/\st[0]? =some (p,none)/\i+1<=st.length,?_,?_⟩
    ·rintro σ' H' ⟨v7,v8,v9,v10,st,un,f,n,rfl,p1,p2,p3,p4⟩
     exact ⟨300 - (i+1),by omega,v7,v8,v9,v10,i+1,st,un,f,n,rfl,p1,p2,p3,p4,rfl⟩
    have hc0:st[i]? =some st[i]:=Qa hi
    have hok:=pi.ok _ (Qj hi)
    obtain ⟨q,xq,rq⟩:=l2.2 i (by omega) (by simpa using hi)
    rw [Qr] at rq
    have hat:xs[i]? =some (.ref q):=by rw [Qa (by omega),xq]
    generalize hcc:st[i]=c0 at hc0 hok rq
    have rq:RdT H4 q [.str c0.1.1,.str c0.1.2]:=rq
    have nt4:=nt.same bb.sm
    refine ⟨_,_,.inl (SqL.of l1),dN hat,lX (SqT.ofR rq) ?_⟩
    dsimp only
    obtain ⟨dx,fs,d1,d3,d4,x0,x1,x2,x3,x4,x5,x6,x7⟩:=nt4.v1.at_
    obtain ⟨dx',fs',d1',d3',d4',y0,y1,y2,y3,y4,y5,y6,y7⟩:=nt4.v2.at_
    obtain ⟨e1,e2,e3⟩:=x5 _ hok.a
    obtain ⟨g1,g2,g3⟩:=y5 _ hok.b
    generalize hC:adr mg "Net"=C at x0 y0 cl na
    refine ⟨n1,C,dx,fs,_,rfl,x0,cl,na "marks" (by simp),x2,d3,_,rfl,e2,n2,C,dx',fs',_,rfl,y0,cl,na "marks" (by simp),y2,d3',_,rfl,g2,3,3,_,_,e1,g1,by decide,rfl,rfl,e3.td,g3.td,fun bo hbo=>⟨_,rfl,?_⟩⟩
    rw [a0h] at hbo
    refine iteB (fun cc=>?_) (fun cc=>?_)
    ·have nme:¬MkE r1 r2 c0.1:=fun z=>by rw [hbo.mpr z] at cc;cases cc
     obtain ⟨ts5,w15,w25⟩:=bb.w
     exact ⟨W,i,ts5,st.map (·.2),rfl,w15,w25,pi.trOk,by simpa using hi,by simp;omega,fun R us H6 s6 eR sv=>kB R us i st un f n c0 H6 (bb.sm.trans s6) eR sv pi h0 hc0 nme⟩
    have me:MkE r1 r2 c0.1:=hbo.mp (by cases bo<;>first | rfl | cases cc)
    refine gQ ?_
    refine aV (fun σ' H'=>∃ (v9 v10:Option V) (st:PkS) (un:List Nat) (f:AF) (n:Nat),σ'=[some (.ref n1),some (.ref n2),some (.ref b),some (.ref L),some (.ref W),some (.ref D),some (.int (i:Int)),some (.str c0.1.1),some (.str c0.1.2),v9,v10]/\PkB H H' L W D st (tgs m1 m2) f n/\PrI r1 r2 m1 m2 (i+1) st un f n/\st[0]? =some (p,none)/\i+1<=st.length) ?_ ?_
    ·intro nx1 hnx1
     refine ⟨(show 2<=sizeLine by decide),fun ta hta=>⟨(show 2<=sizeLine by decide),fun tb htb=>?_⟩⟩
     have s5:=(Same.upd hta (.tup [.str "left",.str c0.1.1])).trans (Same.upd htb (.tup [.str "right",.str c0.1.2]))
     have ea:upd (upd H4 ta (.tup [.str "left",.str c0.1.1])) tb (.tup [.str "right",.str c0.1.2]) ta=some (.tup ((tgK (lf c0.1.1)).map kV)):=Same.upd htb _ _ _ a7
     have eb:upd (upd H4 ta (.tup [.str "left",.str c0.1.1])) tb (.tup [.str "right",.str c0.1.2]) tb=some (.tup ((tgK (rg c0.1.2)).map kV)):=a7
     generalize upd (upd H4 ta (.tup [.str "left",.str c0.1.1])) tb (.tup [.str "right",.str c0.1.2])=H5 at s5 ea eb ⊢
     have b5:=bb.same s5
     have ina:lf c0.1.1∈tgs m1 m2:=List.mem_append.mpr (.inl (List.mem_map.mpr ⟨_,hok.a.1,rfl⟩))
     have inb:rg c0.1.2∈tgs m1 m2:=List.mem_append.mpr (.inr (List.mem_map.mpr ⟨_,hok.b.1,rfl⟩))
     have toB:∀ {f':AF} {n':Nat} {H6:Hp},Sx D H5 H6->AbH H6 D (tgs m1 m2) f' n'->PkB H H6 L W D st (tgs m1 m2) f' n':=fun {f' n' H6} sx ab=>by
      obtain ⟨xs5,l15,l25⟩:=b5.l
      obtain ⟨ts5,w15,w25⟩:=b5.w
      obtain ⟨k1,k2⟩:=AbH.sxk b5.d sx
      exact ⟨⟨xs5,sx _ _ nLD l15,l25.keep k1⟩,⟨ts5,sx _ _ nWD w15,w25.keep k2 k1⟩,ab,zR b5.sm sx hD0⟩
     refine ⟨D,ta,tb,tgs m1 m2,f,n,lf c0.1.1,rg c0.1.2,rfl,b5.d,pi.acy,by omega,.inl ea,.inl eb,ina,inb,fun r f' H6 sx ab ac h1 h2 kp=>⟨_,rfl,iteF ?_⟩,fun r r' f' H6 sx ab ac h1 h2 ne kp=>⟨_,rfl,iteT ?_⟩⟩
     ·exact hnx1 _ _ ⟨_,_,st,un,f',n,rfl,toB sx ab,pi.skip hc0 me ac kp h1 h2,h0,hi⟩
     ·have b6:=toB sx ab
      obtain ⟨xs6,l16,l26⟩:=b6.l
      have hx6:xs6.length=st.length:=by have:=l26.1;simpa using this
      obtain ⟨q6,xq6,rq6⟩:=l26.2 i (by omega) (by simpa using hi)
      rw [Qr,hcc] at rq6
      have pj:=pi.join nt.g1 nt.g2 hc0 me ac h1 h2 kp
      refine ⟨_,_,.inl (SqL.of l16),dN (by rw [Qa (by omega),xq6]),n1,n2,q6,r1,r2,m1,m2,c0.1,rfl,nt.same b6.sm,rq6,hok,me,fun M us H7 hM s7 eM pv=>Or.inl ⟨⟨us,SqL.of eM⟩,?_⟩⟩
      have pvl:=pv.len
      have fl:(pbL r1 r2 c0.1).length<=10:=by have:=gR (nt.g1.endRow hok.a).2;simpa [pbL,stH] using this
      have nML:M≠L:=fun z=>by rw [z,l16] at hM;cases hM
      have nMW:M≠W:=fun z=>by obtain ⟨ts6,w16,_⟩:=b6.w;rw [z,w16] at hM;cases hM
      refine dZ (bZ us) (fun j σ' H'=>∃ (v9 v10:Option V),σ'=[some (.ref n1),some (.ref n2),some (.ref b),some (.ref L),some (.ref W),some (.ref D),some (.int (i:Int)),some (.str c0.1.1),some (.str c0.1.2),v9,v10]/\PkB H H' L W D (st++(kidsP r1 r2 i c0.1).take j) (tgs m1 m2) f' (n+1)/\H' M=some (.lst us)/\PbV H' us (pbL r1 r2 c0.1))
       ⟨_,_,rfl,by simpa using b6.same s7,eM,pv⟩ (by rintro j σ' H' _ ⟨_,_,_,_,e,_⟩;exact SqL.of e) ?_ ?_
      ·rintro j σ' H8 hj ⟨w9,w10,rfl,b8,eM8,pv8⟩
       have hjp:j < (pbL r1 r2 c0.1).length:=by omega
       obtain ⟨cu,sb,te,u1,u2,u3,u4⟩:=pv8.at_ j hj hjp
       have eg:us.getD j .non=.ref cu:=by rw [Qb,Qa hj,u1];rfl
       rw [eg]
       have tks:(kidsP r1 r2 i c0.1).take (j+1)=(kidsP r1 r2 i c0.1).take j++[((pbL r1 r2 c0.1)[j].2,some (i,(pbL r1 r2 c0.1)[j].1))]:=by
        unfold kidsP
        rw [Qs,Qq,Qa hjp];rfl
       generalize (pbL r1 r2 c0.1)[j]=pq at u3 u4 tks
       obtain ⟨xs8,l18,l28⟩:=b8.l
       obtain ⟨ts8,w18,w28⟩:=b8.w
       have tl:((kidsP r1 r2 i c0.1).take j).length<=10:=by
        have:(kidsP r1 r2 i c0.1).length=(pbL r1 r2 c0.1).length:=by simp [kidsP]
        rw [List.length_take];omega
       have hx8:xs8.length<=300:=by have:=l28.1;rw [Ql,Qk] at this;omega
       have ht8:ts8.length<=300:=by have:=w28.len;rw [Ql,Qk] at this;omega
       refine cX u2 ⟨.inl ⟨rfl,_,SqL.of l18⟩,L,xs8,.ref te,rfl,rfl,l18,by omega,?_⟩
       have w18':upd H8 L (.lst (xs8++[.ref te])) W=some (.lst ts8):=by rw [aD nLW.symm];exact w18
       refine ⟨.inl ⟨rfl,_,SqL.of w18'⟩,(show 2<=sizeLine by decide),fun T8 hT8=>?_⟩
       obtain ⟨z1,z2,z3,z4⟩:=a1I (i:=i) l18 l28 w18 w28 b8.d b8.sm hL hW0 nLW nLD nWD u4 u3 hT8
       refine ⟨W,ts8,.ref T8,rfl,rfl,Same.upd hT8 _ _ _ w18',by omega,_,_,rfl,?_,z4 _ _ nML nMW eM8,pv8.keep z2 z3⟩
       rw [tks,<- List.append_assoc]
       exact z1
      ·rintro σ' H8 ⟨w9,w10,rfl,b8,eM8,pv8⟩
       have el:us.length=(kidsP r1 r2 i c0.1).length:=by rw [pvl];simp [kidsP]
       rw [el,Qo] at b8
       refine hnx1 _ _ ⟨w9,w10,_,_,f',n+1,rfl,b8,pj,?_,by rw [Qk];omega⟩
       rw [Qg (by omega)];exact h0
    ·rintro σ' H6 ⟨w9,w10,st',un',f',n',rfl,p1,p2,p3,p4⟩
     exact ⟨.int (i:Int),rfl,(i:Int),1,rfl,rfl,_,_,w9,w10,st',un',f',n',rfl,p1,p2,p3,p4⟩
   ·have hi:st.length=i:=by have:=of_decide_eq_false c;omega
    exact hnx _ _ ⟨v7,v8,v9,v10,i,st,un,f,n,rfl,bb,pi,h0,hi⟩
  ·rintro σ' H4 ⟨v7,v8,v9,v10,i,st,un,f,n,rfl,bb,pi,h0,hi⟩
   exact kA i st un f n H4 bb.sm pi h0 hi
structure PmB (P:Program) (w:World) (H0 H:Hp) (L S:Addr) (ps:List Pr):Prop where
 l:∃ xs,H L=some (.lst xs)/\KsV H xs (ps.map tgK)/\TupV H xs
 s:∃ kas,StAt P w H S kas/\(∀ k,k∈kas.map (·.1)↔k∈ps.map tgK)/\kas.length<=ps.length
 sm:Same H0 H
theorem PmB.same {P:Program} {w:World} {H0 H H':Hp} {L S:Addr} {ps:List Pr} (h:PmB P w H0 H L S ps) (s:Same H H'):PmB P w H0 H' L S ps:=by
 obtain ⟨⟨xs,a1,a2,a3⟩,⟨kas,b1,b2,b3⟩,d⟩:=h
 exact ⟨⟨xs,s _ _ a1,a2.same s,a3.same s⟩,⟨kas,b1.same s,b2,b3⟩,d.trans s⟩
def spPMet (K:Q0) (mg:Str->Option Value):Sp:=fun vs H Q _=>∃ (n1 n2 b:Addr) (r1 r2:List Rw2) (m1 m2:List Str) (p:Pr) (G:Pr->Prop),vs=[.ref n1,.ref n2,.ref b]/\Nt2 K mg H n1 n2 r1 r2 m1 m2/\H b=some (.tup ((tgK p).map kV))/\Bis r1 r2 m1 m2 G/\G p/\
 ∀ (L:Addr) (xs:List V) (ps:List Pr) (H':Hp),H L=none->Same H H'->H' L=some (.lst xs)->KsV H' xs (ps.map tgK)->TupV H' xs->p∈ps->(∀ q∈ps,G q/\∀ s∈stH (hdOf r1 q.1),pbh r1 r2 q s∈ps)->ps.length<=100->Q (.ref L) H'
theorem sE {r1 r2:List Rw2} {m1 m2:List Str} (g1:Gd2 r1 m1) (g2:Gd2 r2 m2) {ps:List Pr} (nd:ps.Nodup) (h:∀ q∈ps,PrOk r1 r2 m1 m2 q):ps.length<=100:=by
 have f1:=g1.few
 have f2:=g2.few
 have:=i5 (m:=m1.flatMap fun a=>m2.map fun b=>((a,b):Pr)) nd fun x hx=>List.mem_flatMap.mpr ⟨x.1,(h x hx).a.1,List.mem_map.mpr ⟨x.2,(h x hx).b.1,rfl⟩⟩
 have e:(m1.flatMap fun a=>m2.map fun b=>((a,b):Pr)).length=m1.length*m2.length:=by
  rw [List.length_flatMap,mZ _ m2.length]
  intro a _
  simp
 rw [e] at this
 have h3:m1.length*m2.length<=10*10:=Nat.mul_le_mul f1 f2
 omega
set_option maxHeartbeats 4000000 in
theorem nL (T:Txt K mg w):FnK P w K mg base 2 "pairs_met" ["left","right","first"] (spPMet K mg):=by
 have cJ:FnK P w K mg base 1 "pairs_behind" ["left","right","pair"] (spPbeh K mg):=dE T
 refine T.oX.okSC bW (fun vs H Q E h=>?_) (fun f cdv hcd A outer s H vs Q E hr h=>?_)
 ·obtain ⟨n1,n2,b,r1,r2,m1,m2,p,G,rfl,_⟩:=h
  rfl
 ·obtain ⟨n1,n2,b,r1,r2,m1,m2,p,G,rfl,nt,hb,bis,gp,k⟩:=h
  have hu:=aQ hr
  have hu0:=Qx (aQ hr)
  have hu10:=tT hr
  have hsz:sizeLine=16777216:=QL
  refine ⟨_,(aA (aR (i:=3) bW.nd rfl (Or.inl rfl) (cB (a9 (zv 2) sa_nil)))
   (aA (aR (i:=4) bW.nd rfl (Or.inl rfl) (a1d P w hu10 hcd (zv 2)))
   (aA (aR (i:=5) bW.nd rfl (Or.inl rfl) aE)
   (aA (fL PassesOwn.never (aJ i6 (zv 5) (bL (bJ K) (by rfl) T.n_len PySem.boot_len (a9 (zv 3) sa_nil)) (nomark _)) (aA (fY PassesOwn.never rfl (j6 K (bA cJ (hr.mono (by decide)) (a9 (zv 0) (a9 (zv 1) (aF (aZ (aY K) (zv 3) (zv 5) (fun _ _=>rfl)) sa_nil))))) (bQ K (n:=2) rfl (aH (aG (i:=6) bW.nd rfl (Or.inl rfl)) (aH (aG (i:=7) bW.nd rfl (Or.inl rfl)) bD))) (aC (bN (aJ (yL P w hu10) (zv 7) (zv 4) rfl) (aA (eJ (a0D P w hu10 (zv 4) (zv 7)))
   (aC (eJ (lM K QH QJ QK bV (zv 3) (a9 (zv 7) sa_nil))))) aP)))
   (aC (a0c (i:=5) bW.nd rfl (Or.inl rfl) aE yG))))
   (aC (aN (zv 3))))))),?_⟩
  refine aL ⟨(show 1<=sizeLine by decide),fun L hL=>?_⟩
  have s1:=Same.upd hL (.lst [V.ref b])
  refine aL fun S hS=>?_
  have s2:=Same.upd hS (stO P w S [])
  have nLS:L≠S:=fun z=>by rw [<- z,a7] at hS;cases hS
  have hS0:H S=none:=s1.free hS
  refine ⟨b,tgK p,rfl,.inl (s2 _ _ (s1 _ _ hb)),a7,?_⟩
  have b3:PmB P w H (upd (upd (upd H L (.lst [V.ref b])) S (stO P w S [])) S (stO P w S [(tgK p,b)])) L S [p]:=by
   have sm:Same (upd H L (.lst [V.ref b])) (upd (upd (upd H L (.lst [V.ref b])) S (stO P w S [])) S (stO P w S [(tgK p,b)])):=s2.put hS
   refine ⟨⟨[.ref b],sm _ _ a7,KsV.nil.snoc (.inl (sm _ _ (s1 _ _ hb))),TupV.nil.snoc (sm _ _ (s1 _ _ hb))⟩,⟨[(tgK p,b)],⟨a7,fun q hq=>?_⟩,fun k=>by simp,by simp⟩,s1.trans sm⟩
   rw [List.mem_singleton.mp hq]
   exact .inl (sm _ _ (s1 _ _ hb))
  dsimp only
  generalize upd (upd (upd H L (.lst [V.ref b])) S (stO P w S [])) S (stO P w S [(tgK p,b)])=H3 at b3 ⊢
  clear s1 s2 hS
  refine jK ?_
  refine aV (fun σ' H'=>∃ (v6 v7:Option V) (i:Nat) (ps:List Pr),σ'=[some (.ref n1),some (.ref n2),some (.ref b),some (.ref L),some (.ref S),some (.int (i:Int)),v6,v7]/\PmB P w H H' L S ps/\ps.Nodup/\p∈ps/\(∀ q∈ps,G q)/\(∀ (j:Nat) (q:Pr),j < i->ps[j]? =some q->∀ s∈stH (hdOf r1 q.1),pbh r1 r2 q s∈ps)/\ps.length=i) ?_ ?_
  ·intro nx hnx
   refine ⟨fun mm σ' H'=>∃ (v6 v7:Option V) (i:Nat) (ps:List Pr),σ'=[some (.ref n1),some (.ref n2),some (.ref b),some (.ref L),some (.ref S),some (.int (i:Int)),v6,v7]/\PmB P w H H' L S ps/\ps.Nodup/\p∈ps/\(∀ q∈ps,G q)/\(∀ (j:Nat) (q:Pr),j < i->ps[j]? =some q->∀ s∈stH (hdOf r1 q.1),pbh r1 r2 q s∈ps)/\i<=ps.length/\mm=300 - i,
    ⟨300,none,none,0,_,rfl,b3,by simp,by simp,fun q hq=>by rw [List.mem_singleton.mp hq];exact gp,fun j q hj=>absurd hj (by omega),by simp,rfl⟩,?_⟩
   rintro mm σ' H4 ⟨v6,v7,i,ps,rfl,bb,nd,hp,hG,hcl,hil,rfl⟩
   obtain ⟨xs,l1,l2,l3⟩:=bb.l
   have hxl:xs.length=ps.length:=by have:=l2.1;simpa using this
   have few:=sE nt.g1 nt.g2 nd fun q hq=>(bis q (hG q hq)).1
   refine .inl ⟨_,.inl (SqL.of l1),_,rfl,iteB (fun c=>?_) (fun c=>?_)⟩
   ·have hi:i < ps.length:=by have:=Qt c;omega
    refine ⟨fun σ' H'=>∃ (v6 v7:Option V) (ps:List Pr),σ'=[some (.ref n1),some (.ref n2),some (.ref b),some (.ref L),some (.ref S),some (.int ((i+1:Nat):Int)),v6,v7]/\PmB P w H H' L S ps/\ps.Nodup/\p∈ps/\(∀ q∈ps,G q)/\(∀ (j:Nat) (q:Pr),j < i+1->ps[j]? =some q->∀ s∈stH (hdOf r1 q.1),pbh r1 r2 q s∈ps)/\i+1<=ps.length,?_,?_⟩
    ·rintro σ' H' ⟨v6,v7,ps,rfl,p1,p2,p3,p4,p5,p6⟩
     exact ⟨300 - (i+1),by omega,v6,v7,i+1,ps,rfl,p1,p2,p3,p4,p5,p6,rfl⟩
    have hc0:ps[i]? =some ps[i]:=Qa hi
    obtain ⟨hok,me,hbh⟩:=bis _ (hG _ (Qj hi))
    obtain ⟨q,xq,rq⟩:=l2.2 i (by omega) (by simpa using hi)
    rw [Qr] at rq
    have hat:xs[i]? =some (.ref q):=by rw [Qa (by omega),xq]
    generalize ps[i]=c0 at hc0 hok me hbh rq
    refine aV (fun σ' H'=>∃ (v6 v7:Option V) (ps':List Pr),σ'=[some (.ref n1),some (.ref n2),some (.ref b),some (.ref L),some (.ref S),some (.int (i:Int)),v6,v7]/\PmB P w H H' L S ps'/\ps'.Nodup/\p∈ps'/\(∀ q∈ps',G q)/\(∀ (j:Nat) (q:Pr),j < i+1->ps'[j]? =some q->∀ s∈stH (hdOf r1 q.1),pbh r1 r2 q s∈ps')/\i < ps'.length) ?_ ?_
    ·intro nx1 hnx1
     refine ⟨_,_,.inl (SqL.of l1),dN hat,n1,n2,q,r1,r2,m1,m2,c0,rfl,nt.same bb.sm,rq,hok,me,fun M us H5 hM s5 eM pv=>Or.inl ⟨⟨us,SqL.of eM⟩,?_⟩⟩
     have pvl:=pv.len
     have nML:M≠L:=fun z=>by rw [z,l1] at hM;cases hM
     have nMS:M≠S:=fun z=>by obtain ⟨kas,sa,_⟩:=bb.s;rw [z,sa.at_] at hM;cases hM
     refine dZ (bZ us) (fun j σ' H'=>∃ (v6 v7:Option V) (ps':List Pr),σ'=[some (.ref n1),some (.ref n2),some (.ref b),some (.ref L),some (.ref S),some (.int (i:Int)),v6,v7]/\PmB P w H H' L S ps'/\ps'.Nodup/\(∀ q∈ps',G q)/\(∀ (m:Nat) (q:Pr),ps[m]? =some q->ps'[m]? =some q)/\(∀ q∈((pbL r1 r2 c0).take j),q.2∈ps')/\H' M=some (.lst us)/\PbV H' us (pbL r1 r2 c0))
      ⟨_,_,ps,rfl,bb.same s5,nd,hG,fun m q h=>h,fun q hq=>absurd hq (by simp),eM,pv⟩ (by rintro j σ' H' _ ⟨_,_,_,_,_,_,_,_,_,e,_⟩;exact SqL.of e) ?_ ?_
     ·rintro j σ' H6 hj ⟨w6,w7,ps',rfl,b6,nd6,G6,up6,in6,eM6,pv6⟩
      have hjp:j < (pbL r1 r2 c0).length:=by omega
      obtain ⟨cu,sb,te,u1,u2,u3,u4⟩:=pv6.at_ j hj hjp
      have eg:us.getD j .non=.ref cu:=by rw [Qb,Qa hj,u1];rfl
      rw [eg]
      have tks:(pbL r1 r2 c0).take (j+1)=(pbL r1 r2 c0).take j++[(pbL r1 r2 c0)[j]]:=by rw [Qs,Qa hjp];rfl
      have hGj:G (pbL r1 r2 c0)[j].2:=by
       obtain ⟨s,hs,e⟩:=List.mem_map.mp (Qj hjp:(pbL r1 r2 c0)[j]∈pbL r1 r2 c0)
       rw [<- e];exact hbh s hs
      generalize (pbL r1 r2 c0)[j]=pq at u3 u4 tks hGj
      obtain ⟨xs6,l16,l26,l36⟩:=b6.l
      obtain ⟨kas,sa,sk,sl⟩:=b6.s
      have hx6:xs6.length=ps'.length:=by have:=l26.1;simpa using this
      have few':=sE nt.g1 nt.g2 nd6 fun q hq=>(bis q (G6 q hq)).1
      refine cX u2 ⟨te,S,tgK pq.2,kas,rfl,rfl,.inl u4,sa,fun bo hbo=>⟨_,rfl,iteB (fun c=>?_) (fun c=>?_)⟩⟩
      ·have hnotk:tgK pq.2 ∉ kas.map (·.1):=fun hm=>by rw [hbo.mpr hm] at c;cases c
       have hnot:pq.2 ∉ ps':=fun hm=>hnotk ((sk _).mpr (gE.mpr hm))
       refine ⟨S,rfl,⟨kas,sa⟩,te,_,kas,rfl,.inl u4,sa,by omega,fun h=>absurd h hnotk,fun _=>?_⟩
       have k1:∀ b ys,RdT H6 b ys->RdT (upd H6 S (stO P w S (kas++[(tgK pq.2,te)]))) b ys:=fun b ys h=>h.put sa.at_ (fun _ z=>nomatch z) (fun _ _ z=>nomatch z)
       have t1:Tk H6 (upd H6 S (stO P w S (kas++[(tgK pq.2,te)]))):=(Tk.refl).set sa.at_ fun _ z=>nomatch z
       have l16':upd H6 S (stO P w S (kas++[(tgK pq.2,te)])) L=some (.lst xs6):=by rw [aD nLS];exact l16
       have sS:upd H6 S (stO P w S (kas++[(tgK pq.2,te)])) S=some (stO P w S (kas++[(tgK pq.2,te)])):=a7
       have sm7:Same H (upd H6 S (stO P w S (kas++[(tgK pq.2,te)]))):=b6.sm.put hS0
       have eM7:upd H6 S (stO P w S (kas++[(tgK pq.2,te)])) M=some (.lst us):=by rw [aD nMS];exact eM6
       generalize upd H6 S (stO P w S (kas++[(tgK pq.2,te)]))=H7 at k1 t1 l16' sS sm7 eM7 ⊢
       have k2:∀ b ys,RdT H7 b ys->RdT (upd H7 L (.lst (xs6++[.ref te]))) b ys:=fun b ys h=>h.put l16' (fun _ z=>nomatch z) (fun _ _ z=>nomatch z)
       have t2:Tk H7 (upd H7 L (.lst (xs6++[.ref te]))):=(Tk.refl).set l16' fun _ z=>nomatch z
       have kk:∀ b ys,RdT H6 b ys->RdT (upd H7 L (.lst (xs6++[.ref te]))) b ys:=fun b ys h=>k2 _ _ (k1 _ _ h)
       refine ⟨.inl ⟨rfl,_,SqL.of l16'⟩,L,xs6,.ref te,rfl,rfl,l16',by omega,_,_,ps'++[pq.2],rfl,⟨⟨_,a7,?_,(l36.tk (t1.trans t2)).snoc ((t1.trans t2) _ _ u4)⟩,⟨kas++[(tgK pq.2,te)],⟨by rw [aD nLS.symm];exact sS,fun q hq=>?_⟩,fun kx=>?_,by simpa using sl⟩,sm7.put hL⟩,?_,fun q hq=>?_,fun m q h=>?_,fun q hq=>?_,by rw [aD nML];exact eM7,pv6.keep (t1.trans t2) kk⟩
       ·rw [Qm]
        exact (l26.keep kk).snoc (kk _ _ (.inl u4))
       ·rcases List.mem_append.mp hq with hq | hq
        ·exact kk _ _ (sa.ks q hq)
        ·rw [List.mem_singleton.mp hq];exact kk _ _ (.inl u4)
       ·rw [Qm,Qm,List.mem_append,List.mem_append,sk];rfl
       ·rw [List.nodup_append]
        exact ⟨nd6,by simp,fun a ha b hb e=>hnot (by rw [<- List.mem_singleton.mp hb,<- e];exact ha)⟩
       ·rcases List.mem_append.mp hq with hq | hq
        ·exact G6 q hq
        ·rw [List.mem_singleton.mp hq];exact hGj
       ·have:=up6 m q h
        have hm:=(List.getElem?_eq_some_iff.mp this).1
        rw [Qg hm];exact this
       ·rw [tks] at hq
        rcases List.mem_append.mp hq with hq | hq
        ·exact List.mem_append.mpr (.inl (in6 q hq))
        ·rw [List.mem_singleton.mp hq];exact List.mem_append.mpr (.inr (by simp))
      ·have hin:pq.2∈ps':=gE.mp ((sk _).mp (hbo.mp (by cases bo<;>first | rfl | cases c)))
       refine ⟨_,_,ps',rfl,b6,nd6,G6,up6,fun q hq=>?_,eM6,pv6⟩
       rw [tks] at hq
       rcases List.mem_append.mp hq with hq | hq
       ·exact in6 q hq
       ·rw [List.mem_singleton.mp hq];exact hin
     ·rintro σ' H6 ⟨w6,w7,ps',rfl,b6,nd6,G6,up6,in6,eM6,pv6⟩
      rw [pvl,Qo] at in6
      have sub:∀ q∈ps,q∈ps':=fun q hq=>by
       obtain ⟨m,hm,e⟩:=Qi hq
       exact QC (up6 m q (by rw [Qa hm,e]))
      have hi':i < ps'.length:=(List.getElem?_eq_some_iff.mp (up6 i c0 hc0)).1
      refine hnx1 _ _ ⟨w6,w7,ps',rfl,b6,nd6,sub p hp,G6,fun j q hj hq s hs=>?_,hi'⟩
      have hq0:ps[j]? =some q:=by
       have hjl:j < ps.length:=by omega
       have:=up6 j _ (Qa hjl)
       rw [hq] at this
       rw [Qa hjl];exact this.symm
      by_cases hji:j=i
      ·subst hji
       rw [hc0] at hq0;cases hq0
       exact in6 (s,pbh r1 r2 c0 s) (List.mem_map.mpr ⟨s,hs,rfl⟩)
      ·exact sub _ (hcl j q (by omega) hq0 s hs)
    ·rintro σ' H6 ⟨w6,w7,ps',rfl,p1,p2,p3,p4,p5,p6⟩
     exact ⟨.int (i:Int),rfl,(i:Int),1,rfl,rfl,w6,w7,ps',rfl,p1,p2,p3,p4,p5,p6⟩
   ·have hi:ps.length=i:=by have:=of_decide_eq_false c;omega
    exact hnx _ _ ⟨v6,v7,i,ps,rfl,bb,nd,hp,hG,hcl,hi⟩
  ·rintro σ' H4 ⟨v6,v7,i,ps,rfl,bb,nd,hp,hG,hcl,hi⟩
   obtain ⟨xs,l1,l2,l3⟩:=bb.l
   refine k L xs ps H4 hL bb.sm l1 l2 l3 hp (fun q hq=>⟨hG q hq,fun s hs=>?_⟩) (sE nt.g1 nt.g2 nd fun q hq=>(bis q (hG q hq)).1)
   obtain ⟨m,hm,e⟩:=Qi hq
   exact hcl m q (by omega) (by rw [Qa hm,e]) s hs
def spAlike (mg:Str->Option Value):Sp:=fun vs H Q _=>∃ (a b:Addr) (xs ys:List V) (r1 r2:List Rw2) (m1 m2 ws ws2:List Str) (x y:Str),vs=[.ref a,.str x,.ref b,.str y]/\RT H a xs r1 m1 ws/\RT H b ys r2 m2 ws2/\(∀ z∈ws,Wd z)/\(∀ z∈ws2,Wd z)/\Kn mg H "FROM" [.str "from"]/\Kn mg H "TO" [.str "to"]/\x∈m1/\y∈m2/\
 (∀ (r L:Addr) (xs:List V) (ps:List Pr) (i:Nat) (st:PkS) (un:List Nat) (f:AF) (n:Nat) (H':Hp),H L=none->Same H H'->H' r=some (.tup [.str "alike",.ref L])->H' L=some (.lst xs)->KsV H' xs (ps.map tgK)->TupV H' xs->(endOf r1 x,endOf r2 y)∈ps->(∀ q∈ps,PrOk r1 r2 m1 m2 q/\MkE r1 r2 q/\∀ s∈stH (hdOf r1 q.1),pbh r1 r2 q s∈ps)->ps.length<=100->PrI r1 r2 m1 m2 i st un f n->st[0]? =some ((endOf r1 x,endOf r2 y),none)->st.length=i->Q (.ref r) H')/\
 ∀ (r R:Addr) (us:List V) (i:Nat) (st:PkS) (un:List Nat) (f:AF) (n:Nat) (c:Pr×Option (Nat×List Str)) (H':Hp),Same H H'->H' r=some (.tup [.str "unlike",.ref R])->H' R=some (.tup us)->SV H' us (rdB (st.map (·.2)) i i)->PrI r1 r2 m1 m2 i st un f n->st[0]? =some ((endOf r1 x,endOf r2 y),none)->st[i]? =some c->¬MkE r1 r2 c.1->Q (.ref r) H'
set_option maxHeartbeats 1000000 in
theorem xP (T:Txt K mg w):FnK P w K mg base 6 "alike" ["T","x","S","y"] (spAlike mg):=by
 have F_Net:ClK P w K mg base 4 "Net" (adr mg "Net") ["self","T"] (spNet mg):=x9 T
 have kY:FnK P w K mg base 3 "parting_road" ["left","right","first"] (spPart K mg):=k8 T
 have qN:FnK P w K mg base 2 "pairs_met" ["left","right","first"] (spPMet K mg):=nL T
 have cl:=T.k_Net.2.1
 have na:=T.k_Net.2.2.1
 refine T.a06.okS iT (fun vs H Q E h=>?_) (fun f cdv A outer s H vs Q E hr h=>?_)
 ·obtain ⟨a,b,xs,ys,r1,r2,m1,m2,ws,ws2,x,y,rfl,_⟩:=h
  rfl
 ·obtain ⟨a,b,xs,ys,r1,r2,m1,m2,ws,ws2,x,y,rfl,rt,rt2,hw,hw2,kf,kt,hx,hy,kA,kB⟩:=h
  have hu:=aQ hr
  have hu0:=Qx (aQ hr)
  refine ⟨_,(aA (pI (i:=4) (j:=5) rfl iT.nd rfl rfl (by decide) rfl rfl (aK (oJ F_Net (hr.mono (by decide)) (a9 (zv 0) sa_nil)) (aK (oJ F_Net (hr.mono (by decide)) (a9 (zv 2) sa_nil)) sa_nil)) rfl)
   (aA (aR (i:=6) iT.nd rfl (Or.inl rfl) (aT (aF (bK hu (eE K (zv 4)) (zv 1) (fun _ _=>rfl)) (aF (bK hu (eE K (zv 5)) (zv 3) (fun _ _=>rfl)) sa_nil))))
   (aA (aR (i:=7) iT.nd rfl (Or.inl rfl) (bA kY (hr.mono (by decide)) (a9 (zv 4) (a9 (zv 5) (a9 (zv 6) sa_nil)))))
   (aA (bN (aJ a1a (zv 7) sZ (nomark _)) (aC (aN (aT (aB aU (aK (bA qN (hr.mono (by decide)) (a9 (zv 4) (a9 (zv 5) (a9 (zv 6) sa_nil)))) sa_nil))))) aP)
   (aC (aN (aT (aB aU (a9 (zv 7) sa_nil))))))))),?_⟩
  refine fun n dn hn hdn ne=>?_
  have s0:Same H (upd (upd H dn (.own n)) n (.ins (adr mg "Net") dn [])):=(Same.upd hdn _).trans (Same.upd (by rw [aD ne.symm];exact hn) _)
  refine ⟨n,dn,a,xs,r1,m1,ws,rfl,a7,rt.tk s0.ts,hw,kf.same s0,kt.same s0,fun H2 net sx=>⟨rfl,?_⟩⟩
  have s2:Same H H2:=fun b o e=>sx b o (fun z=>by rw [z,hn] at e;cases e) (s0 b o e)
  have nv:=net.netV (K:=K) (rt.gd2 hw)
  refine fun n' dn' hn' hdn' ne'=>?_
  have s0':Same H2 (upd (upd H2 dn' (.own n')) n' (.ins (adr mg "Net") dn' [])):=(Same.upd hdn' _).trans (Same.upd (by rw [aD ne'.symm];exact hn') _)
  refine ⟨n',dn',b,ys,r2,m2,ws2,rfl,a7,rt2.tk (s2.trans s0').ts,hw2,kf.same (s2.trans s0'),kt.same (s2.trans s0'),fun H3 net2 sx2=>⟨rfl,?_⟩⟩
  have s3:Same H2 H3:=fun b o e=>sx2 b o (fun z=>by rw [z,hn'] at e;cases e) (s0' b o e)
  have nv2:=net2.netV (K:=K) (rt2.gd2 hw2)
  have s03:=s2.trans s3
  have nt:Nt2 K mg H3 n n' r1 r2 m1 m2:=⟨nv.same s3,nv2,rt.gd2 hw,rt2.gd2 hw2⟩
  have po:PrOk r1 r2 m1 m2 (endOf r1 x,endOf r2 y):=⟨nt.g1.stay hx,nt.g2.stay hy⟩
  obtain ⟨dx,fs,d1,d3,d4,x0,x1,x2,x3,x4,x5,x6,x7⟩:=nt.v1.at_
  obtain ⟨dx',fs',d1',d3',d4',y0,y1,y2,y3,y4,y5,y6,y7⟩:=nt.v2.at_
  refine ⟨_,_,rfl,?_⟩
  dsimp only
  refine aL ⟨n,_,dx,fs,_,rfl,x0,cl,na "rows" (by simp),x1,d1,_,rfl,x4 x hx,n',_,dx',fs',_,rfl,y0,cl,na "rows" (by simp),y1,d1',_,rfl,y4 y hy,(show 2<=sizeLine by decide),fun q hq=>?_⟩
  have s4:=Same.upd hq (.tup [.str (endOf r1 x),.str (endOf r2 y)])
  have e4:upd H3 q (.tup [.str (endOf r1 x),.str (endOf r2 y)]) q=some (.tup ((tgK (endOf r1 x,endOf r2 y)).map kV)):=a7
  dsimp only
  generalize upd H3 q (.tup [.str (endOf r1 x),.str (endOf r2 y)])=H4 at s4 e4 ⊢
  have nt4:=nt.same s4
  have s04:=s03.trans s4
  refine aL ⟨n,n',q,r1,r2,m1,m2,_,rfl,nt4,e4,po,fun i st un f0 nn H5 s5 pi h0 hl=>?_,fun R us i st un f0 nn c H5 s5 eR sv pi h0 hc nme=>?_⟩
  ·refine ⟨_,rfl,iteT ?_⟩
   have bis:=pi.isBis nt.g1 nt.g2 hl
   refine ⟨n,n',q,r1,r2,m1,m2,_,_,rfl,nt4.same s5,s5 _ _ e4,bis,⟨po,pi.done hl h0⟩,fun L xs' ps H6 hL s6 eL ks tv hf hps hpl=>⟨(show 2<=sizeLine by decide),fun r hr=>?_⟩⟩
   have s7:=Same.upd hr (.tup [.str "alike",.ref L])
   have s57:=s04.trans (s5.trans (s6.trans s7))
   refine kA r L xs' ps i st un f0 nn _ ((s04.trans s5).free hL) s57 a7 (s7 _ _ eL) (ks.same s7) (tv.same s7) hf (fun p hp=>?_) hpl pi h0 hl
   obtain ⟨g1,g2⟩:=hps p hp
   exact ⟨(bis p g1).1,(bis p g1).2.1,g2⟩
  ·refine ⟨_,rfl,iteF ⟨(show 2<=sizeLine by decide),fun r hr=>?_⟩⟩
   have s7:=Same.upd hr (.tup [.str "unlike",.ref R])
   exact kB r R us i st un f0 nn c _ (s04.trans (s5.trans s7)) a7 (s7 _ _ eR) (sv.same s7) pi h0 hc nme
def UphP (r1 r2:List Rw2) (m1 m2:List Str) (kss:List (List Key)) (p:Pr):Prop:=PrOk r1 r2 m1 m2 p/\MkE r1 r2 p/\∀ s∈stH (hdOf r1 p.1),tgK (pbh r1 r2 p s)∈kss
def spUphP (K:Q0) (mg:Str->Option Value):Sp:=fun vs H Q _=>∃ (n1 n2 b D:Addr) (r1 r2:List Rw2) (m1 m2:List Str) (p:Pr) (o:Obj) (kvs:List (List Key×V)),vs=[.ref n1,.ref n2,.ref b,.ref D]/\Nt2 K mg H n1 n2 r1 r2 m1 m2/\RdT H b ((tgK p).map kV)/\H D=some (.frz o (.dT kvs))/\
 ∀ (bo:Bool) (H':Hp),Same H H'->(bo=true↔UphP r1 r2 m1 m2 (kvs.map (·.1)) p)->Q (.bl bo) H'
set_option maxHeartbeats 1000000 in
theorem nC (T:Txt K mg w):FnK P w K mg base 2 "is_upheld" ["left","right","pair","standing"] (spUphP K mg):=by
 have cJ:FnK P w K mg base 1 "pairs_behind" ["left","right","pair"] (spPbeh K mg):=dE T
 have cl:=T.k_Net.2.1
 have na:=T.k_Net.2.2.1
 refine T.pE.okS fQ (fun vs H Q E h=>?_) (fun f cdv A outer s H vs Q E hr h=>?_)
 ·obtain ⟨n1,n2,b,D,r1,r2,m1,m2,p,o,kvs,rfl,_⟩:=h
  rfl
 ·obtain ⟨n1,n2,b,D,r1,r2,m1,m2,p,o,kvs,rfl,nt,hb,hD,k⟩:=h
  have hu:=aQ hr
  have hu0:=Qx (aQ hr)
  have hu100:=gI hr
  have hsz:sizeLine=16777216:=QL
  refine ⟨_,(aA (hV (zv 2) (bQ K (n:=2) rfl (aH (aG (i:=4) fQ.nd rfl (Or.inl rfl)) (aH (aG (i:=5) fQ.nd rfl (Or.inl rfl)) bD))))
   (aA (bN (rS (aJ (fF hu) (zv 4) (eE K (zv 0)) rfl) (rS (aJ (fF hu) (zv 5) (eE K (zv 1)) rfl) (pZ (aJ (tI hu100) (bK hu (eE K (zv 0)) (zv 4) (fun _ _=>rfl)) (bK hu (eE K (zv 1)) (zv 5) (fun _ _=>rfl)) (nomark _))))).pt (aC (aN iB)) aP)
   (aC (aN (bL (nA K rfl) (by rfl) T.n_all PyProof.Rows.boot_all (dC (i9 (own:=["step","behind"]) (idx:=[3]) (N':=["step","behind","standing"]) (cE (defScope eK) (["left","right","pair","standing","a","b"]:List Str) (by decide+kernel)) rfl (j6 K (bA cJ (hr.mono (by decide)) (a9 (zv 0) (a9 (zv 1) (a9 (zv 2) sa_nil))))) (fun _ _ _ _ _ _=>(bQ K (n:=2) rfl (aH (aG (i:=0) (show List.Nodup (["step","behind","standing"]:List Str) by decide+kernel) rfl (Or.inl rfl)) (aH (aG (i:=1) (show List.Nodup (["step","behind","standing"]:List Str) by decide+kernel) rfl (Or.inl rfl)) bD)))) (fun _ _ _ _ _ _=>cN) (fun _ _ _ _ _ _=>(a1v (qY hu) (zv 1) (zv 2) rfl))) sa_nil)))))),?_⟩
  have nof:¬UphP r1 r2 m1 m2 (kvs.map (·.1)) p->Q (.bl false) H:=fun h=>k false H (Same.refl _) (bfalse2 h)
  have hb:RdT H b [.str p.1,.str p.2]:=hb
  refine lX (SqT.ofR hb) ?_
  dsimp only
  obtain ⟨dx,fs,d1,d3,d4,x0,x1,x2,x3,x4,x5,x6,x7⟩:=nt.v1.at_
  obtain ⟨dx',fs',d1',d3',d4',y0,y1,y2,y3,y4,y5,y6,y7⟩:=nt.v2.at_
  refine aV (fun σ' H'=>PrOk r1 r2 m1 m2 p/\MkE r1 r2 p/\H'=H/\σ'=[some (.ref n1),some (.ref n2),some (.ref b),some (.ref D),some (.str p.1),some (.str p.2)]) ?_ ?_
  ·intro nx hnx
   generalize adr mg "Net"=C at*
   by_cases ha:EndN r1 m1 p.1
   ·obtain ⟨p1,p2,p3⟩:=x5 _ ha
    refine ⟨n1,C,dx,fs,_,rfl,x0,cl,na "marks" (by simp),x2,d3,_,rfl,p2,_,rfl,iteF ?_⟩
    by_cases hb2:EndN r2 m2 p.2
    ·obtain ⟨q1,q2,q3⟩:=y5 _ hb2
     refine ⟨n2,C,dx',fs',_,rfl,y0,cl,na "marks" (by simp),y2,d3',_,rfl,q2,_,rfl,iteF ?_⟩
     refine ⟨n1,C,dx,fs,_,rfl,x0,cl,na "marks" (by simp),x2,d3,_,rfl,p2,n2,C,dx',fs',_,rfl,y0,cl,na "marks" (by simp),y2,d3',_,rfl,q2,3,3,_,_,p1,q1,by decide,rfl,rfl,p3.td,q3.td,fun bo hbo=>⟨_,rfl,?_⟩⟩
     rw [a0h] at hbo
     refine iteB (fun cc=>?_) (fun cc=>?_)
     ·exact nof fun u=>by rw [hbo.mpr u.2.1] at cc;cases cc
     ·exact hnx _ _ ⟨⟨ha,hb2⟩,hbo.mp (by cases bo<;>first | rfl | cases cc),rfl,rfl⟩
    ·exact ⟨n2,C,dx',fs',_,rfl,y0,cl,na "marks" (by simp),y2,d3',_,rfl,y6 _ hb2,_,rfl,iteT (nof fun u=>hb2 u.1.b)⟩
   ·exact ⟨n1,C,dx,fs,_,rfl,x0,cl,na "marks" (by simp),x2,d3,_,rfl,x6 _ ha,_,rfl,iteT (nof fun u=>ha u.1.a)⟩
  ·rintro σ' H1 ⟨po,me,rfl,rfl⟩
   refine ⟨n1,n2,b,r1,r2,m1,m2,p,rfl,nt,hb,po,me,fun M us H2 hM s2 eM pv=>.inl ⟨⟨us,SqL.of eM⟩,fun L hL=>?_⟩⟩
   have pvl:=pv.len
   have fl:(pbL r1 r2 p).length<=10:=by have:=gR (nt.g1.endRow po.a).2;simpa [pbL,stH] using this
   refine fW (bZ us) (fun i τ H'=>∃ (v0 v1:Option V) (bs:List Bool),τ=[v0,v1,some (.ref D)]/\H' L=some (.lst (bs.map V.bl))/\bs.length=i/\(bs.all id=true↔∀ q∈(pbL r1 r2 p).take i,tgK q.2∈kvs.map (·.1))/\Same H2 H') ⟨none,none,[],rfl,a7,rfl,by simp,Same.upd hL _⟩ (by rintro i τ H' _ ⟨_,_,_,_,_,_,_,s⟩;exact SqL.of (s _ _ eM)) ?_ ?_
   ·rintro i τ H4 hi ⟨v0,v1,bs,rfl,q1,q2,q3,q4⟩
    have hip:i < (pbL r1 r2 p).length:=by omega
    obtain ⟨cu,sb,te,u1,u2,u3,u4⟩:=pv.at_ i hi hip
    have eg:us.getD i .non=.ref cu:=by rw [Qb,Qa hi,u1];rfl
    rw [eg]
    have tks:(pbL r1 r2 p).take (i+1)=(pbL r1 r2 p).take i++[(pbL r1 r2 p)[i]]:=by rw [Qs,Qa hip];rfl
    generalize (pbL r1 r2 p)[i]=pq at u3 u4 tks
    refine cX (q4 _ _ u2) ⟨D,valV kvs (tgK pq.2),rfl,.inr ⟨kvs,_,te,.inr ⟨o,(s2.trans q4) _ _ hD⟩,rfl,.inl (q4 _ _ u4),rfl⟩,bs.map V.bl,q1,by simp;omega,_,_,bs++[(valV kvs (tgK pq.2)).isSome],rfl,?_,by simp [q2],?_,q4.put hL⟩
    ·rw [Qm,QE];exact a7
    ·rw [tks,List.all_append,Bool.and_eq_true,q3]
     have e1:([(valV kvs (tgK pq.2)).isSome].all id=true)↔tgK pq.2∈kvs.map (·.1):=by rw [<- iY];simp
     rw [e1]
     constructor
     ·rintro ⟨h1,h2⟩ q hq
      rcases List.mem_append.mp hq with h | h
      ·exact h1 q h
      ·rw [List.mem_singleton.mp h];exact h2
     ·intro h
      exact ⟨fun q hq=>h q (List.mem_append.mpr (.inl hq)),h _ (List.mem_append.mpr (.inr (by simp)))⟩
   ·rintro τ H4 ⟨v0,v1,bs,rfl,q1,q2,q3,q4⟩
    rw [pvl,Qo] at q3
    refine ⟨bs,SqL.of q1,k _ H4 (s2.trans q4) ?_⟩
    rw [q3]
    constructor
    ·intro h
     exact ⟨po,me,fun s hs=>h (s,pbh r1 r2 p s) (List.mem_map.mpr ⟨s,hs,rfl⟩)⟩
    ·rintro ⟨_,_,h⟩ q hq
     obtain ⟨s,hs,e⟩:=List.mem_map.mp hq
     rw [<- e];exact h s hs
def RightA (r1 r2:List Rw2) (m1 m2:List Str) (f:Pr) (ps:List Pr):Prop:=f∈ps/\∀ p∈ps,UphP r1 r2 m1 m2 (ps.map tgK) p
def spIsAP (mg:Str->Option Value) (K:Q0):Sp:=fun vs H Q _=>∃ (a b p:Addr) (xs ys ps:List V) (r1 r2:List Rw2) (m1 m2 ws ws2:List Str) (x y:Str) (ts:List Pr),vs=[.ref a,.str x,.ref b,.str y,.ref p]/\RT H a xs r1 m1 ws/\RT H b ys r2 m2 ws2/\(∀ z∈ws,Wd z)/\(∀ z∈ws2,Wd z)/\Kn mg H "FROM" [.str "from"]/\Kn mg H "TO" [.str "to"]/\x∈m1/\y∈m2/\H p=some (.lst ps)/\KsV H ps (ts.map tgK)/\ts.length<=2000/\
 ∀ (bo:Bool) (H':Hp),Same H H'->(bo=true↔RightA r1 r2 m1 m2 (endOf r1 x,endOf r2 y) ts)->Q (.bl bo) H'
set_option maxHeartbeats 2000000 in
theorem iO (T:Txt K mg w):FnK P w K mg base 6 "is_alike_paper" ["T","x","S","y","paper"] (spIsAP mg K):=by
 have F_Net:ClK P w K mg base 4 "Net" (adr mg "Net") ["self","T"] (spNet mg):=x9 T
 have oK:FnK P w K mg base 2 "is_upheld" ["left","right","pair","standing"] (spUphP K mg):=nC T
 have cl:=T.k_Net.2.1
 have na:=T.k_Net.2.2.1
 refine T.j5.okS cD (fun vs H Q E h=>?_) (fun f cdv A outer s H vs Q E hr h=>?_)
 ·obtain ⟨a,b,p,xs,ys,ps,r1,r2,m1,m2,ws,ws2,x,y,ts,rfl,_⟩:=h
  rfl
 ·obtain ⟨a,b,p,xs,ys,ps,r1,r2,m1,m2,ws,ws2,x,y,ts,rfl,rt,rt2,hw,hw2,kf,kt,hx,hy,hp,ks,htl,k⟩:=h
  have hu:=aQ hr
  have hu0:=Qx (aQ hr)
  have hsz:sizeLine=16777216:=QL
  have hpl:ps.length=ts.length:=by have:=ks.1;simpa using this
  refine ⟨_,(aA (hV (aT (aK (oJ F_Net (hr.mono (by decide)) (a9 (zv 0) sa_nil)) (aK (oJ F_Net (hr.mono (by decide)) (a9 (zv 2) sa_nil)) sa_nil))) (bQ K (n:=2) rfl (aH (aG (i:=5) cD.nd rfl (Or.inr rfl)) (aH (aG (i:=6) cD.nd rfl (Or.inr rfl)) bD))))
   (aA (aR (i:=7) cD.nd rfl (Or.inr rfl) (mC (a0i (own:=["pair"]) (idx:=[]) (N':=["pair"]) (cE (defScope bR) (["T","x","S","y","paper","left","right","standing"]:List Str) (by decide+kernel)) rfl hu0 (j6 K (zv 4)) (fun _ _ _ _ _ _=>(aG (i:=0) (show List.Nodup (["pair"]:List Str) by decide+kernel) rfl (Or.inl rfl))) (fun _ _ _ _ _ _=>cN) (fun _ _ _ _ _ _=>(zv 0)) (fun _ _ _ _ _ _=>iB))))
   (aA (bN (aJ (fF hu) (aT (aF (bK hu (eE K (zv 5)) (zv 1) (fun _ _=>rfl)) (aF (bK hu (eE K (zv 6)) (zv 3) (fun _ _=>rfl)) sa_nil))) (zv 7) rfl) (aC (aN iB)) aP)
   (aC (aN (bL (nA K rfl) (by rfl) T.n_all PyProof.Rows.boot_all (dC (i9 (own:=["pair"]) (idx:=[5,6,7]) (N':=["pair","left","right","standing"]) (cE (defScope bR) (["T","x","S","y","paper","left","right","standing"]:List Str) (by decide+kernel)) rfl (yA (zv 7)) (fun _ _ _ _ _ _=>(aG (i:=0) (show List.Nodup (["pair","left","right","standing"]:List Str) by decide+kernel) rfl (Or.inl rfl))) (fun _ _ _ _ _ _=>cN) (fun _ _ _ _ _ _=>(bA oK (hr.mono (by decide)) (a9 (zv 1) (a9 (zv 2) (a9 (zv 0) (a9 (zv 3) sa_nil))))))) sa_nil))))))),?_⟩
  refine fun n dn hn hdn ne=>?_
  have s0:Same H (upd (upd H dn (.own n)) n (.ins (adr mg "Net") dn [])):=(Same.upd hdn _).trans (Same.upd (by rw [aD ne.symm];exact hn) _)
  refine ⟨n,dn,a,xs,r1,m1,ws,rfl,a7,rt.tk s0.ts,hw,kf.same s0,kt.same s0,fun H2 net sx=>⟨rfl,?_⟩⟩
  have s2:Same H H2:=fun b o e=>sx b o (fun z=>by rw [z,hn] at e;cases e) (s0 b o e)
  have nv:=net.netV (K:=K) (rt.gd2 hw)
  refine fun n' dn' hn' hdn' ne'=>?_
  have s0':Same H2 (upd (upd H2 dn' (.own n')) n' (.ins (adr mg "Net") dn' [])):=(Same.upd hdn' _).trans (Same.upd (by rw [aD ne'.symm];exact hn') _)
  refine ⟨n',dn',b,ys,r2,m2,ws2,rfl,a7,rt2.tk (s2.trans s0').ts,hw2,kf.same (s2.trans s0'),kt.same (s2.trans s0'),fun H3 net2 sx2=>⟨rfl,?_⟩⟩
  have s3:Same H2 H3:=fun b o e=>sx2 b o (fun z=>by rw [z,hn'] at e;cases e) (s0' b o e)
  have nv2:=net2.netV (K:=K) (rt2.gd2 hw2)
  have s03:=s2.trans s3
  have nt:Nt2 K mg H3 n n' r1 r2 m1 m2:=⟨nv.same s3,nv2,rt.gd2 hw,rt2.gd2 hw2⟩
  have kf3:=kf.same s03
  have ks3:=ks.same s03
  have hp3:=s03 _ _ hp
  refine ⟨(show 2<=sizeLine by decide),fun tq htq=>cX a7 ?_⟩
  have sq:=Same.upd htq (.tup [.ref n,.ref n'])
  replace nt:=nt.same sq
  replace kf3:=kf3.same sq
  replace ks3:=ks3.same sq
  replace hp3:=sq _ _ hp3
  replace s03:=s03.trans sq
  dsimp only
  generalize upd H3 tq (.tup [.ref n,.ref n'])=H3 at nt kf3 ks3 hp3 s03 ⊢
  clear s3 nv2 sx2 net2
  refine aL (Or.inl ⟨⟨ps,SqL.of hp3⟩,fun D hD=>?_⟩)
  refine a1W (bZ ps) (fun i τ H'=>∃ (v0:Option V) (kvs:List (List Key×V)),τ=[v0]/\H' D=some (.dT kvs)/\kvs.length<=i/\(∀ k,k∈kvs.map (·.1)↔k∈(ts.take i).map tgK)/\Same H3 H') ⟨none,[],rfl,a7,by simp,by simp,Same.upd hD _⟩ (by rintro i τ H' _ ⟨_,_,_,_,_,_,s⟩;exact SqL.of (s _ _ hp3)) ?_ ?_
  ·rintro i τ H4 hi ⟨v0,kvs,rfl,q1,q2,q3,q4⟩
   have hit:i < ts.length:=by omega
   obtain ⟨c,e1,e2⟩:=ks3.2 i hi (by simpa using hit)
   rw [Qr] at e2
   have eg:ps.getD i .non=.ref c:=by rw [Qb,Qa hi,e1];rfl
   rw [eg]
   have tks:ts.take (i+1)=ts.take i++[ts[i]]:=by rw [Qs,Qa hit];rfl
   refine ⟨kvs,tgK ts[i],c,rfl,e2.same q4,q1,by omega,_,_,rfl,a7,?_,fun kk=>?_,q4.put hD⟩
   ·have:=yM kvs (tgK ts[i]) (.bl true);omega
   ·rw [p9,q3,tks,Qm,List.mem_append];simp
  ·rintro τ H4 ⟨v0,kvs,rfl,q1,q2,q3,q4⟩
   rw [hpl,Qo] at q3
   refine ⟨D,rfl,.inr ⟨kvs,.inl q1,fun oD=>?_⟩⟩
   have s4:Same H3 (upd H4 D (.frz oD (.dT kvs))):=q4.put hD
   have eD:upd H4 D (.frz oD (.dT kvs)) D=some (.frz oD (.dT kvs)):=a7
   dsimp only
   generalize upd H4 D (.frz oD (.dT kvs))=H5 at s4 eD ⊢
   have s05:=s03.trans s4
   obtain ⟨dx,fs,d1,d3,d4,x0,x1,x2,x3,x4,x5,x6,x7⟩:=(nt.same s4).v1.at_
   obtain ⟨dx',fs',d1',d3',d4',y0,y1,y2,y3,y4,y5,y6,y7⟩:=(nt.same s4).v2.at_
   have nt5:=nt.same s4
   have kf5:=kf3.same s4
   have cong:∀ t,UphP r1 r2 m1 m2 (kvs.map (·.1)) t↔UphP r1 r2 m1 m2 (ts.map tgK) t:=fun t=>by
    constructor
    ·rintro ⟨h1,h2,h3⟩;exact ⟨h1,h2,fun s hs=>(q3 _).mp (h3 s hs)⟩
    ·rintro ⟨h1,h2,h3⟩;exact ⟨h1,h2,fun s hs=>(q3 _).mpr (h3 s hs)⟩
   refine ⟨n,_,dx,fs,_,rfl,x0,cl,na "rows" (by simp),x1,d1,_,rfl,x4 x hx,n',_,dx',fs',_,rfl,y0,cl,na "rows" (by simp),y1,d1',_,rfl,y4 y hy,(show 2<=sizeLine by decide),fun q hq=>?_⟩
   have s6:=Same.upd hq (.tup [.str (endOf r1 x),.str (endOf r2 y)])
   have eq6:upd H5 q (.tup [.str (endOf r1 x),.str (endOf r2 y)]) q=some (.tup ((tgK (endOf r1 x,endOf r2 y)).map kV)):=a7
   generalize upd H5 q (.tup [.str (endOf r1 x),.str (endOf r2 y)])=H6 at s6 eq6 ⊢
   refine ⟨D,valV kvs (tgK (endOf r1 x,endOf r2 y)),rfl,.inr ⟨kvs,_,q,.inr ⟨oD,s6 _ _ eD⟩,rfl,.inl eq6,rfl⟩,_,rfl,iteB (fun c=>?_) (fun c=>?_)⟩
   ·refine k false H6 (s05.trans s6) (bfalse2 fun h=>?_)
    have:=iY.mpr ((q3 _).mpr (gE.mpr h.1))
    rw [this] at c;cases c
   have hfst:((endOf r1 x,endOf r2 y):Pr)∈ts:=by
    refine gE.mp ((q3 _).mp (iY.mp ?_))
    cases hz:(valV kvs (tgK (endOf r1 x,endOf r2 y))).isSome with
    | true=>rfl
    | false=>rw [hz] at c;cases c
   refine ⟨D,kvs,oD,rfl,s6 _ _ eD,fun L hL=>?_⟩
   refine xQ (fun i τ H'=>∃ (v0:Option V) (bs:List Bool),τ=[v0,some (.ref n),some (.ref n'),some (.ref D)]/\H' L=some (.lst (bs.map V.bl))/\bs.length=i/\(bs.all id=true↔∀ t,tgK t∈(kvs.take i).map (·.1)->UphP r1 r2 m1 m2 (kvs.map (·.1)) t)/\Same H6 H') ⟨none,[],rfl,a7,rfl,by simp,Same.upd hL _⟩ (by rintro i τ H' _ ⟨_,_,_,_,_,_,s⟩;exact s _ _ (s6 _ _ eD)) ?_ ?_
   ·rintro i τ H7 bb hi ⟨v0,bs,rfl,p1,p2,p3,p4⟩ rd
    have hmem:kvs[i].1∈kvs.map (·.1):=List.mem_map.mpr ⟨_,Qj hi,rfl⟩
    obtain ⟨t,ht,et⟩:=List.mem_map.mp ((q3 _).mp hmem)
    rw [<- et] at rd
    have tks:kvs.take (i+1)=kvs.take i++[kvs[i]]:=by rw [Qs,Qa hi];rfl
    have s57:=s6.trans p4
    refine ⟨n,n',bb,D,r1,r2,m1,m2,t,oD,kvs,rfl,nt5.same s57,rd,s57 _ _ eD,fun bo H8 s8 hbo=>?_⟩
    refine ⟨bs.map V.bl,s8 _ _ p1,by simp;omega,_,bs++[bo],rfl,by rw [Qm];exact a7,by simp [p2],?_,(p4.trans s8).put hL⟩
    rw [tks,List.all_append,Bool.and_eq_true,p3,Qm]
    have e1:([bo].all id=true)↔UphP r1 r2 m1 m2 (kvs.map (·.1)) t:=by rw [<- hbo];simp
    rw [e1]
    constructor
    ·rintro ⟨h1,h2⟩ t' ht'
     rcases List.mem_append.mp ht' with h | h
     ·exact h1 t' h
     ·have:tgK t'=kvs[i].1:=by simpa using h
      rw [<- et] at this
      rw [kL this];exact h2
    ·intro h
     exact ⟨fun t' ht'=>h t' (List.mem_append.mpr (.inl ht')),h t (List.mem_append.mpr (.inr (by simp [et])))⟩
   ·rintro τ H7 ⟨v0,bs,rfl,p1,p2,p3,p4⟩
    rw [Qo] at p3
    refine ⟨bs,SqL.of p1,k _ H7 ((s05.trans s6).trans p4) ?_⟩
    rw [p3]
    constructor
    ·intro h
     exact ⟨hfst,fun t ht=>(cong t).mp (h t ((q3 _).mpr (gE.mpr ht)))⟩
    ·rintro ⟨_,h⟩ t ht
     exact (cong t).mpr (h t (gE.mp ((q3 _).mp ht)))
theorem kM {rows:List Rw2} {ns:List Str} (g:Gd2 rows ns) {e:Str} (he:e∈ns):(hdOf rows e).srt="as"↔¬EndN rows ns e:=by
 have h0:=(g.nm e).mpr he
 obtain ⟨r,hr,rfl⟩:=List.mem_map.mp h0
 have hok:(hdOf rows r.1).ok ns:=by
  obtain ⟨_,_,_,_,rt,_⟩:=g
  rw [cW rt.ndr hr];exact (rt.ok r hr).2
 rw [sJ hok,<- g.non]
 constructor
 ·intro h hm
  obtain ⟨r',hr',e'⟩:=List.mem_map.mp hm
  obtain ⟨q1,q2⟩:=List.mem_filter.mp hr'
  have:=cW g.ndr q1
  rw [e'] at this
  rw [this,q2] at h;cases h
 ·intro h
  cases hx:(hdOf rows r.1).nx.isNone with
  | false=>rfl
  | true=>
   refine absurd (List.mem_map.mpr ⟨r,List.mem_filter.mpr ⟨hr,?_⟩,rfl⟩) h
   rw [<- cW g.ndr hr];exact hx
def spIsAP2:Sp:=fun vs H Q _=>∃ (a b p:Addr) (xs ys ps:List V) (r1 r2:List Rw2) (m1 m2 ws ws2:List Str) (x y:Str) (ts:List Pr),vs=[.ref a,.str x,.ref b,.str y,.ref p]/\RT H a xs r1 m1 ws/\RT H b ys r2 m2 ws2/\(∀ z∈ws,Wd z)/\(∀ z∈ws2,Wd z)/\x∈m1/\y∈m2/\H p=some (.lst ps)/\KsV H ps (ts.map tgK)/\TupV H ps/\
 ∀ (bo:Bool) (H':Hp),Same H H'->(bo=true↔RightA r1 r2 m1 m2 (endOf r1 x,endOf r2 y) ts)->Q (.bl bo) H'
set_option maxHeartbeats 4000000 in
theorem kI (T:Txt K mg w):FnK P w K mg base 4 "_law_is_paper" ["_law_told","_law_name","_law_other","_law_twin_name","_law_paper"] spIsAP2:=by
 have bS:FnK P w K mg base 1 "_law_row_here" ["_law_told","_law_name"] spRowOf:=dJ T
 have g9:FnK P w K mg base 3 "_law_on" ["_law_told","_law_name"] spOn:=mR T
 refine T.lS.okS bC (fun vs H Q E h=>?_) (fun f cdv A outer s H vs Q E hr h=>?_)
 ·obtain ⟨a,b,p,xs,ys,ps,r1,r2,m1,m2,ws,ws2,x,y,ts,rfl,_⟩:=h
  rfl
 ·obtain ⟨a,b,p,xs,ys,ps,r1,r2,m1,m2,ws,ws2,x,y,ts,rfl,rt,rt2,hw,hw2,hx,hy,hp,ks,htp,k⟩:=h
  have hu:=aQ hr
  have hu0:=Qx (aQ hr)
  have hu10:=tT hr
  have hu100:=gI hr
  have hsz:sizeLine=16777216:=QL
  have hpl:ps.length=ts.length:=by have:=ks.1;simpa using this
  have gd1:=rt.gd2 hw
  have gd2:=rt2.gd2 hw2
  obtain ⟨rs,g,nm,rl,hval⟩:=rt.good hw
  have hm:∀ z,z∈rs.map (·.1)↔z∈m1:=fun z=>by rw [nm];exact rt.nm.mem_iff
  obtain ⟨rs2,g2,nm2,rl2,hval2⟩:=rt2.good hw2
  have hm2:∀ z,z∈rs2.map (·.1)↔z∈m2:=fun z=>by rw [nm2];exact rt2.nm.mem_iff
  have gl:=g.len
  have gl2:=g2.len
  refine ⟨_,(aA (bN (xG (uD (bL jP (by rfl) T.fO PyProof.Rows.boot_isinstance (a9 (zv 4) (a9 (rY (v:=.ty "list") (by rfl) T.nN PyProof.Rows.boot_list rfl) sa_nil))))) (aC (aN iB)) aP)
   (aA (bN (aJ (pM K hu10) (aT (aK (bA bS (hr.mono (by decide)) (a9 (zv 0) (a9 (zv 1) sa_nil))) (aK (bA bS (hr.mono (by decide)) (a9 (zv 2) (a9 (zv 3) sa_nil))) sa_nil))) (zv 4) rfl) (aC (aN iB)) aP)
   (aA (pI (i:=5) (j:=6) rfl bC.nd rfl rfl (by decide) rfl rfl (aK (bO (dO rfl) (by rfl) T.nQ PyProof.Rows.boot_dict (a9 (zv 0) sa_nil)) (aK (bO (dO rfl) (by rfl) T.nQ PyProof.Rows.boot_dict (a9 (zv 2) sa_nil)) sa_nil)) rfl)
   (aA (fY PassesOwn.never rfl (j6 K (zv 4)) (aG (i:=7) bC.nd rfl (Or.inl rfl)) (aA (bN (rS (xG (uD (bL jP (by rfl) T.fO PyProof.Rows.boot_isinstance (a9 (zv 7) (a9 (rY (v:=.ty "tuple") (by rfl) T.eZ QG rfl) sa_nil))))) (pZ (aJ (iF hu0) (bL (bJ K) (by rfl) T.n_len PySem.boot_len (a9 (zv 7) sa_nil)) aE (nomark _)))).pt (aC (aN iB)) aP)
   (aA (hV (zv 7) (bQ K (n:=2) rfl (aH (aG (i:=8) bC.nd rfl (Or.inl rfl)) (aH (aG (i:=9) bC.nd rfl (Or.inl rfl)) bD))))
   (aA (bN (rS (aJ (fF hu) (zv 8) (zv 5) rfl) (pZ (aJ (fF hu) (zv 9) (zv 6) rfl))).pt (aC (aN iB)) aP)
   (aA (bN (rS (aJ (oA K) aU (aT (aF (aZ (aY K) (bK hu (zv 5) (zv 8) (fun _ _=>rfl)) aE (fun _ _=>rfl)) (aF (aZ (aY K) (bK hu (zv 6) (zv 9) (fun _ _=>rfl)) aE (fun _ _=>rfl)) sa_nil))) rfl) (pZ (aJ (iF hu0) (aZ (aY K) (bK hu (zv 5) (zv 8) (fun _ _=>rfl)) aE (fun _ _=>rfl)) (aZ (aY K) (bK hu (zv 6) (zv 9) (fun _ _=>rfl)) aE (fun _ _=>rfl)) (nomark _)))).pt (aC (aN iB)) aP)
   (aA (pI (i:=10) (j:=11) rfl bC.nd rfl rfl (by decide) rfl rfl (aK (bA g9 (hr.mono (by decide)) (a9 (zv 0) (a9 (zv 8) sa_nil))) (aK (bA g9 (hr.mono (by decide)) (a9 (zv 2) (a9 (zv 9) sa_nil))) sa_nil)) rfl)
   (aA (bN (aJ (a01 K hu100) (i9 (own:=["_law_one"]) (idx:=[]) (N':=["_law_one"]) (cE (defScope cI) (["_law_told","_law_name","_law_other","_law_twin_name","_law_paper","_law_rows","_law_others","_law_pair","_law_a","_law_b","_law_ones","_law_twos","_law_one","_law_two_here"]:List Str) (by decide+kernel)) rfl (j6 K (zv 10)) (fun _ _ _ _ _ _=>(aG (i:=0) (show List.Nodup (["_law_one"]:List Str) by decide+kernel) rfl (Or.inl rfl))) (fun _ _ _ _ _ _=>cN) (fun _ _ _ _ _ _=>(aZ (aY K) (zv 0) aE (fun _ _=>rfl)))) (i9 (own:=["_law_one"]) (idx:=[]) (N':=["_law_one"]) (cE (defScope cI) (["_law_told","_law_name","_law_other","_law_twin_name","_law_paper","_law_rows","_law_others","_law_pair","_law_a","_law_b","_law_ones","_law_twos","_law_one","_law_two_here"]:List Str) (by decide+kernel)) rfl (j6 K (zv 11)) (fun _ _ _ _ _ _=>(aG (i:=0) (show List.Nodup (["_law_one"]:List Str) by decide+kernel) rfl (Or.inl rfl))) (fun _ _ _ _ _ _=>cN) (fun _ _ _ _ _ _=>(aZ (aY K) (zv 0) aE (fun _ _=>rfl)))) (nomark _)) (aC (aN iB)) aP)
   (aC (fY PassesOwn.never rfl (tR K (by rfl) T.n_zip (a9 (zv 10) (a9 (zv 11) sa_nil))) (bQ K (n:=2) rfl (aH (aG (i:=12) bC.nd rfl (Or.inl rfl)) (aH (aG (i:=13) bC.nd rfl (Or.inl rfl)) bD))) (aC (bN (aJ (pM K hu10) (aT (aF (aZ (aY K) (zv 12) aE (fun _ _=>rfl)) (aF (aZ (aY K) (zv 13) aE (fun _ _=>rfl)) sa_nil))) (zv 4) rfl) (aC (aN iB)) aP)))))))))))
   (aC (aN iB)))))),?_⟩
  generalize hfst:((endOf r1 x,endOf r2 y):Pr)=fst at k
  have nof:∀ {H'},Same H H'->¬RightA r1 r2 m1 m2 fst ts->Q (.bl false) H':=fun {H'} s' h=>k false H' s' (bfalse2 h)
  have ty:∀ {H'},Same H H'->tyName H' (.ref p)=some "list":=fun {H'} s'=>by show (match H' p with | some (.lst _)=>some "list" | some (.tup _)=>some "tuple" | some (.dK _)=>some "dict" | _=>none)=_;rw [s' _ _ hp]
  refine ⟨by decide,"list",ty (Same.refl _),_,rfl,iteF ?_⟩
  refine ⟨a,xs,rs,_,_,x,rfl,g,(hm x).mpr hx,fun H1 s1=>?_⟩
  refine ⟨b,ys,rs2,_,_,y,rfl,g2.ts s1.ts,(hm2 y).mpr hy,fun H2 s2=>⟨(show 2<=sizeLine by decide),fun q hq=>?_⟩⟩
  have s3:=(s1.trans s2).trans (Same.upd hq (.tup [.str (rowEnd (nxOf r1) rs.length x),.str (rowEnd (nxOf r2) rs2.length y)]))
  have eq3:upd H2 q (.tup [.str (rowEnd (nxOf r1) rs.length x),.str (rowEnd (nxOf r2) rs2.length y)]) q=some (.tup ((tgK fst).map kV)):=by rw [<- hfst,rl,rl2];exact a7
  generalize upd H2 q (.tup [.str (rowEnd (nxOf r1) rs.length x),.str (rowEnd (nxOf r2) rs2.length y)])=H3 at s3 eq3 ⊢
  refine ⟨q,p,tgK fst,ps,_,rfl,rfl,.inl eq3,.inl (SqL.of (s3 _ _ hp)),ks.same s3,fun r hr=>⟨_,rfl,iteB (fun c=>?_) (fun c=>?_)⟩⟩
  ·refine nof s3 fun h=>?_
   have:=hr.mpr (gE.mpr h.1)
   rw [this] at c;cases c
  have hin:fst∈ts:=gE.mp (hr.mp (by cases r<;>first | rfl | cases c))
  refine gQ ?_
  refine ⟨a,xs,rowsK rs,rfl,(g.ts s3.ts).at_,(g.ts s3.ts).ps,(by simp;omega),fun d1 hd1=>?_⟩
  have s4:=s3.trans (Same.upd hd1 (.dK (dictOf (rowsK rs))))
  have e4:upd H3 d1 (.dK (dictOf (rowsK rs))) d1=some (.dK (dictOf (rowsK rs))):=a7
  generalize upd H3 d1 (.dK (dictOf (rowsK rs)))=H4 at s4 e4 ⊢
  refine ⟨b,ys,rowsK rs2,rfl,(g2.ts s4.ts).at_,(g2.ts s4.ts).ps,(by simp;omega),fun d2 hd2=>?_⟩
  have s5:=s4.trans (Same.upd hd2 (.dK (dictOf (rowsK rs2))))
  have e5:upd H4 d2 (.dK (dictOf (rowsK rs2))) d2=some (.dK (dictOf (rowsK rs2))):=a7
  have e45:=Same.upd hd2 (.dK (dictOf (rowsK rs2))) _ _ e4
  generalize upd H4 d2 (.dK (dictOf (rowsK rs2)))=H5 at s5 e5 e45 ⊢
  refine ⟨_,_,rfl,?_⟩
  dsimp only
  refine aV (fun σ' H'=>Same H H'/\∀ t∈ts,UphP r1 r2 m1 m2 (ts.map tgK) t) ?_ ?_
  ·intro nx hnx
   refine Or.inl ⟨⟨ps,SqL.of (s5 _ _ hp)⟩,?_⟩
   refine dZ (bZ ps) (fun i σ' H'=>∃ (v7 v8 v9 v10 v11 v12 v13:Option V),σ'=[some (.ref a),some (.str x),some (.ref b),some (.str y),some (.ref p),some (.ref d1),some (.ref d2),v7,v8,v9,v10,v11,v12,v13]/\Same H5 H'/\∀ t∈ts.take i,UphP r1 r2 m1 m2 (ts.map tgK) t)
    ⟨none,none,none,none,none,none,none,rfl,Same.refl _,fun t ht=>absurd ht (by simp)⟩ (by rintro i σ' H' _ ⟨_,_,_,_,_,_,_,_,s,_⟩;exact SqL.of (s _ _ (s5 _ _ hp))) ?_ ?_
   ·rintro i σ' H6 hi ⟨v7,v8,v9,v10,v11,v12,v13,rfl,q1,q2⟩
    have hit:i < ts.length:=by omega
    have s6:=s5.trans q1
    obtain ⟨c,f1,f2⟩:=(ks.same s6).2 i hi (by simpa using hit)
    rw [Qr] at f2
    have eg:ps.getD i .non=.ref c:=by rw [Qb,Qa hi,f1];rfl
    obtain ⟨cc,ucs,ec,hcc⟩:=htp _ (Qj hi)
    rw [f1] at ec;cases ec
    have hcc6:=s6 _ _ hcc
    rw [eg]
    have tks:ts.take (i+1)=ts.take i++[ts[i]]:=by rw [Qs,Qa hit];rfl
    have htm:ts[i]∈ts:=Qj hit
    generalize ts[i]=t at f2 tks htm
    have f2:RdT H6 c [.str t.1,.str t.2]:=f2
    have bad:¬UphP r1 r2 m1 m2 (ts.map tgK) t->¬RightA r1 r2 m1 m2 fst ts:=fun h z=>h (z.2 t htm)
    have tyc:tyName H6 (.ref c)=some "tuple":=by show (match H6 c with | some (.lst _)=>some "list" | some (.tup _)=>some "tuple" | some (.dK _)=>some "dict" | _=>none)=_;rw [hcc6]
    have hl2:((2:Nat):Int)=2:=rfl
    refine ⟨by decide,"tuple",tyc,_,rfl,iteF (.inl ⟨[.str t.1,.str t.2],.inr (SqT.ofR f2),rfl,_,rfl,iteF ?_⟩)⟩
    refine gQ ?_
    refine lX (SqT.ofR f2) ?_
    dsimp only
    have look1:∀ {H'},Same H5 H'->DGet H' d1 (.str t.1) (valV (dictOf (rowsK rs)) (.inr t.1)):=fun {H'} s'=>DGet.k (k:=Sum.inr t.1) (s' _ _ e45)
    have look2:∀ {H'},Same H5 H'->DGet H' d2 (.str t.2) (valV (dictOf (rowsK rs2)) (.inr t.2)):=fun {H'} s'=>DGet.k (k:=Sum.inr t.2) (s' _ _ e5)
    have in1:(valV (dictOf (rowsK rs)) (.inr t.1)).isSome=true↔t.1∈m1:=by rw [<- hm];exact tE g.nd t.1
    have in2':(valV (dictOf (rowsK rs2)) (.inr t.2)).isSome=true↔t.2∈m2:=by rw [<- hm2];exact tE g2.nd t.2
    refine aV (fun σ' H'=>t.1∈m1/\t.2∈m2/\H'=H6/\σ'=[some (.ref a),some (.str x),some (.ref b),some (.str y),some (.ref p),some (.ref d1),some (.ref d2),some (.ref c),some (.str t.1),some (.str t.2),v10,v11,v12,v13]) ?_ ?_
    ·intro nx1 hnx1
     refine ⟨d1,_,rfl,look1 q1,_,rfl,iteB (fun c=>?_) (fun c=>?_)⟩
     ·refine nof s6 (bad fun u=>?_)
      rw [in1.mpr u.1.a.1] at c;cases c
     have ha:t.1∈m1:=in1.mp (by cases hz:(valV (dictOf (rowsK rs)) (.inr t.1)).isSome with | true=>rfl | false=>rw [hz] at c;cases c)
     refine ⟨d2,_,rfl,look2 q1,_,rfl,iteB (fun c=>?_) (fun c=>?_)⟩
     ·refine nof s6 (bad fun u=>?_)
      rw [in2'.mpr u.1.b.1] at c;cases c
     have hb:t.2∈m2:=in2'.mp (by cases hz:(valV (dictOf (rowsK rs2)) (.inr t.2)).isSome with | true=>rfl | false=>rw [hz] at c;cases c)
     exact hnx1 _ _ ⟨ha,hb,rfl,rfl⟩
    ·rintro σ' H7 ⟨ha,hb,rfl,rfl⟩
     obtain ⟨va,_,hva⟩:=g.get ((hm _).mpr ha)
     obtain ⟨vb,_,hvb⟩:=g2.get ((hm2 _).mpr hb)
     have HA:=(hval _ va ha hva).same s6
     have HB:=(hval2 _ vb hb hvb).same s6
     obtain ⟨ba,ya,rfl,ea⟩:=HA.srt
     obtain ⟨bb,yb,rfl,eb⟩:=HB.srt
     refine aV (fun σ' H'=>EndN r1 m1 t.1/\EndN r2 m2 t.2/\(hdOf r1 t.1).srt=(hdOf r2 t.2).srt/\Same H7 H'/\σ'=[some (.ref a),some (.str x),some (.ref b),some (.str y),some (.ref p),some (.ref d1),some (.ref d2),some (.ref c),some (.str t.1),some (.str t.2),v10,v11,v12,v13]) ?_ ?_
     ·intro nx1 hnx1
      have l1:=look1 q1
      have l2:=look2 q1
      rw [hva] at l1
      rw [hvb] at l2
      refine ⟨d1,_,rfl,l1,_,_,.inr (SqT.of ea),aI _ _,d2,_,rfl,l2,_,_,.inr (SqT.of eb),aI _ _,(show 2<=sizeLine by decide),fun p2 hp2=>⟨_,.inr (SqT.of a7),rfl,rfl,_,rfl,?_⟩⟩
      have t2:=Same.upd hp2 (.tup [.str (hdOf r1 t.1).srt,.str (hdOf r2 t.2).srt])
      generalize upd H7 p2 (.tup [.str (hdOf r1 t.1).srt,.str (hdOf r2 t.2).srt])=H8 at t2 ⊢
      have ew:(false^^inV (.str "as") [V.str (hdOf r1 t.1).srt,V.str (hdOf r2 t.2).srt])=decide (("as":Str)∈([(hdOf r1 t.1).srt,(hdOf r2 t.2).srt]:List Str)):=by
       rw [QE,show ([V.str (hdOf r1 t.1).srt,V.str (hdOf r2 t.2).srt]:List V)=([(hdOf r1 t.1).srt,(hdOf r2 t.2).srt]:List Str).map V.str from rfl,iM]
      rw [ew]
      refine iteB (fun c=>?_) (fun c=>?_)
      ·refine nof (s6.trans t2) (bad fun u=>?_)
       have:=Qt c
       simp only [Qp,QA,or_false] at this
       rcases this with h | h
       ·exact (kM gd1 ha).mp h.symm u.1.a
       ·exact (kM gd2 hb).mp h.symm u.1.b
      ·have:=of_decide_eq_false c
       simp only [Qp,QA,or_false,not_or] at this
       have na:EndN r1 m1 t.1:=Classical.byContradiction fun z=>this.1 ((kM gd1 ha).mpr z).symm
       have nb:EndN r2 m2 t.2:=Classical.byContradiction fun z=>this.2 ((kM gd2 hb).mpr z).symm
       refine ⟨d1,_,rfl,l1.same t2,_,_,.inr (SqT.of (t2 _ _ ea)),aI _ _,d2,_,rfl,l2.same t2,_,_,.inr (SqT.of (t2 _ _ eb)),aI _ _,rfl,_,rfl,neS (fun c2=>?_) (fun c2=>?_)⟩
       ·exact nof (s6.trans t2) (bad fun u=>c2 u.2.1.1)
       ·exact hnx1 _ _ ⟨na,nb,c2,t2,rfl⟩
     ·rintro σ' H8 ⟨ea2,eb2,esr,t2,rfl⟩
      have s8:=s6.trans t2
      have st1:=tS ea2.2
      have st2:=tS eb2.2
      have nd1:=gd1.onNd ea2
      have nd2:=gd2.onNd eb2
      have fw1:=rt.onFew hw ea2.1
      have fw2:=rt2.onFew hw2 eb2.1
      refine ⟨a,xs,r1,m1,ws,t.1,rfl,rt.tk s8.ts,hw,ea2.1,fun M1 u1 H9 hM1 t3 eM1 mv1=>?_⟩
      have s9:=s8.trans t3
      refine ⟨b,ys,r2,m2,ws2,t.2,rfl,rt2.tk s9.ts,hw2,eb2.1,fun M2 u2 H10 hM2 t4 eM2 mv2=>⟨_,_,rfl,?_⟩⟩
      have s10:=s9.trans t4
      have eM1':=t4 _ _ eM1
      have mv1':=mv1.tk t4.ts
      dsimp only
      refine aV (fun σ' H'=>stH (hdOf r1 t.1)=stH (hdOf r2 t.2)/\Same H10 H'/\σ'=[some (.ref a),some (.str x),some (.ref b),some (.str y),some (.ref p),some (.ref d1),some (.ref d2),some (.ref c),some (.str t.1),some (.str t.2),some (.ref M1),some (.ref M2),v12,v13]) ?_ ?_
      ·intro nx1 hnx1
       refine .inl ⟨⟨u1,SqL.of eM1'⟩,fun D1 hD1=>o6 eM1' mv1' hD1 (by omega) fun w1 H11 t5 e11 sv1=>?_⟩
       refine .inl ⟨⟨u2,SqL.of (t5 _ _ eM2)⟩,fun D2 hD2=>o6 (t5 _ _ eM2) (mv2.tk t5.ts) hD2 (by omega) fun w2 H12 t6 e12 sv2=>?_⟩
       refine ⟨1,1,D1,D2,w1,w2,_,_,by decide,rfl,rfl,SqL.of (t6 _ _ e11),SqL.of e12,(sv1.same t6).tds,sv2.tds,fun bo hbo=>⟨_,rfl,?_⟩⟩
       rw [st1,st2] at hbo
       have hbo':bo=true↔stH (hdOf r1 t.1)=stH (hdOf r2 t.2):=by rw [hbo];exact ⟨mX,fun e=>by rw [e]⟩
       refine iteB (fun c=>?_) (fun c=>?_)
       ·exact nof (s10.trans (t5.trans t6)) (bad fun u=>by rw [hbo'.mpr u.2.1.2] at c;cases c)
       ·exact hnx1 _ _ ⟨hbo'.mp (by cases bo<;>first | rfl | cases c),t5.trans t6,rfl⟩
      ·rintro σ' H11 ⟨est,t5,rfl⟩
       have s11:=s10.trans t5
       have eM1'':=t5 _ _ eM1'
       have eM2'':=t5 _ _ eM2
       have mv1'':=mv1'.tk t5.ts
       have mv2'':=mv2.tk t5.ts
       have l1:=mv1.len
       have l2:=mv2.len
       have ll:(onOf r1 t.1).length=(onOf r2 t.2).length:=by
        have h1:=congrArg List.length st1
        have h2:=congrArg List.length st2
        rw [Ql] at h1 h2
        rw [h1,h2,est]
       have po:PrOk r1 r2 m1 m2 t:=⟨ea2,eb2⟩
       have me:MkE r1 r2 t:=⟨esr,est⟩
       refine ⟨M1,M2,u1,u2,rfl,SqL.of eM1'',SqL.of eM2'',?_⟩
       refine xJ (uB u1 u2) (fun j σ' H'=>∃ (v12 v13:Option V),σ'=[some (.ref a),some (.str x),some (.ref b),some (.str y),some (.ref p),some (.ref d1),some (.ref d2),some (.ref c),some (.str t.1),some (.str t.2),some (.ref M1),some (.ref M2),v12,v13]/\Same H11 H'/\∀ s∈(stH (hdOf r1 t.1)).take j,tgK (pbh r1 r2 t s)∈ts.map tgK)
        ⟨_,_,rfl,Same.refl _,fun s hs=>absurd hs (by simp)⟩ (by rintro j σ' H' _ ⟨_,_,_,s,_⟩;exact ⟨SqL.of (s _ _ eM1''),SqL.of (s _ _ eM2'')⟩) ?_ ?_
       ·rintro j σ' H12 TT hj ⟨w12,w13,rfl,t6,w3⟩ hTT
        have j1:j < u1.length:=by omega
        have j2:j < u2.length:=by omega
        have jo1:j < (onOf r1 t.1).length:=by omega
        have jo2:j < (onOf r2 t.2).length:=by omega
        obtain ⟨c1,b1,z1,z2,z3⟩:=mv1''.at_ j j1 jo1
        obtain ⟨c2,b2,y1,y2,y3⟩:=mv2''.at_ j j2 jo2
        have eg1:u1.getD j .non=.ref c1:=by rw [Qb,Qa j1,z1];rfl
        have eg2:u2.getD j .non=.ref c2:=by rw [Qb,Qa j2,y1];rfl
        rw [eg1,eg2]
        have js:j < (stH (hdOf r1 t.1)).length:=by rw [<- st1];simpa using jo1
        have js2:j < (stH (hdOf r2 t.2)).length:=by rw [<- st2];simpa using jo2
        have es1:(stH (hdOf r1 t.1))[j]=(onOf r1 t.1)[j].1:=by simp only [<- st1,Qr]
        have es2:(stH (hdOf r2 t.2))[j]=(onOf r2 t.2)[j].1:=by simp only [<- st2,Qr]
        have e12:(onOf r1 t.1)[j].1=(onOf r2 t.2)[j].1:=by rw [<- es1,<- es2];simp only [est]
        have mve1:=xW nd1 (Qj jo1)
        have mve2:=xW nd2 (Qj jo2)
        have tksj:(stH (hdOf r1 t.1)).take (j+1)=(stH (hdOf r1 t.1)).take j++[(onOf r1 t.1)[j].1]:=by rw [Qs,Qa js,es1];rfl
        have hsm:(onOf r1 t.1)[j].1∈stH (hdOf r1 t.1):=by rw [<- es1];exact Qj js
        generalize (onOf r1 t.1)[j]=mm at z2 z3 e12 mve1 tksj hsm
        generalize (onOf r2 t.2)[j]=mm2 at y2 y3 e12 mve2
        have epb:pbh r1 r2 t mm.1=(mm.2,mm2.2):=by
         unfold pbh
         rw [mve1,e12,mve2];rfl
        have t7:=t6.trans (Same.upd hTT (.tup [.ref c1,.ref c2]))
        generalize upd H12 TT (.tup [.ref c1,.ref c2])=H13 at t7 ⊢
        refine ⟨_,_,.inr (SqT.of (t7 _ _ z2)),rfl,_,_,.inr (SqT.of (t7 _ _ y2)),rfl,(show 2<=sizeLine by decide),fun tq htq=>?_⟩
        have t8:=t7.trans (Same.upd htq (.tup [.str mm.2,.str mm2.2]))
        have e14:upd H13 tq (.tup [.str mm.2,.str mm2.2]) tq=some (.tup ((tgK (pbh r1 r2 t mm.1)).map kV)):=by rw [epb];exact a7
        generalize upd H13 tq (.tup [.str mm.2,.str mm2.2])=H14 at t8 e14 ⊢
        have s14:=s11.trans t8
        refine ⟨tq,p,tgK (pbh r1 r2 t mm.1),ps,_,rfl,rfl,.inl e14,.inl (SqL.of (s14 _ _ hp)),ks.same s14,fun r hr=>⟨_,rfl,iteB (fun c3=>?_) (fun c3=>?_)⟩⟩
        ·refine nof s14 (bad fun u=>?_)
         rw [hr.mpr (u.2.2 _ hsm)] at c3;cases c3
        ·refine ⟨_,_,rfl,t8,fun s hs=>?_⟩
         rw [tksj] at hs
         rcases List.mem_append.mp hs with h' | h'
         ·exact w3 s h'
         ·rw [List.mem_singleton.mp h'];exact hr.mp (by cases r<;>first | rfl | cases c3)
       ·rintro σ' H12 ⟨w12,w13,rfl,t6,w3⟩
        have hml:min u1.length u2.length=(stH (hdOf r1 t.1)).length:=by
         have h1:=congrArg List.length st1
         rw [Ql] at h1
         omega
        rw [hml,Qo] at w3
        refine ⟨_,_,_,_,_,_,_,rfl,q1.trans (t2.trans (t3.trans (t4.trans (t5.trans t6)))),fun t' ht'=>?_⟩
        rw [tks] at ht'
        rcases List.mem_append.mp ht' with h' | h'
        ·exact q2 t' h'
        ·rw [List.mem_singleton.mp h'];exact ⟨po,me,w3⟩
   ·rintro σ' H6 ⟨v7,v8,v9,v10,v11,v12,v13,rfl,q1,q2⟩
    rw [hpl,Qo] at q2
    exact hnx _ _ ⟨s5.trans q1,q2⟩
  ·rintro σ' H6 ⟨s6,hall⟩
   exact k true H6 s6 ⟨fun _=>⟨hin,hall⟩,fun _=>rfl⟩
def spAllP:Sp:=fun vs H Q _=>∃ (a b:Addr) (xs ys:List V) (r1 r2:List Rw2) (m1 m2 ws ws2:List Str),vs=[.ref a,.ref b]/\RT H a xs r1 m1 ws/\RT H b ys r2 m2 ws2/\(∀ z∈ws,Wd z)/\(∀ z∈ws2,Wd z)/\
 ∀ (L:Addr) (us:List V) (ts:List Pr) (H':Hp),H L=none->Same H H'->H' L=some (.lst us)->KsV H' us (ts.map tgK)->TupV H' us->ts.length<=200->Q (.ref L) H'
set_option maxHeartbeats 2000000 in
theorem jJ (T:Txt K mg w):FnK P w K mg base 4 "_law_all_pairs" ["_law_told","_law_other"] spAllP:=by
 have g9:FnK P w K mg base 3 "_law_on" ["_law_told","_law_name"] spOn:=mR T
 refine T.kE.okS bF (fun vs H Q E h=>?_) (fun f cdv A outer s H vs Q E hr h=>?_)
 ·obtain ⟨a,b,xs,ys,r1,r2,m1,m2,ws,ws2,rfl,_⟩:=h
  rfl
 ·obtain ⟨a,b,xs,ys,r1,r2,m1,m2,ws,ws2,rfl,rt,rt2,hw,hw2,k⟩:=h
  have hu:=aQ hr
  have hu0:=Qx (aQ hr)
  have hu100:=gI hr
  have hsz:sizeLine=16777216:=QL
  have few1:=rt.few
  have few2:=rt2.few
  have rl1:=rt.rl
  have rl2:=rt2.rl
  have xl1:=rt.rv.len
  have xl2:=rt2.rv.len
  refine ⟨_,(aA (aR (i:=2) bF.nd rfl (Or.inl rfl) (cB sa_nil))
   (aA (fY PassesOwn.never rfl (j6 K (zv 0)) (bQ K (n:=2) rfl (aH (aG (i:=3) bF.nd rfl (Or.inl rfl)) (aH (aG (i:=4) bF.nd rfl (Or.inl rfl)) bD))) (aC (fY PassesOwn.never rfl (j6 K (zv 1)) (bQ K (n:=2) rfl (aH (aG (i:=5) bF.nd rfl (Or.inl rfl)) (aH (aG (i:=6) bF.nd rfl (Or.inl rfl)) bD))) (aC (bN (xL (aJ (bX hu0) (aZ (aY K) (zv 4) aE (fun _ _=>rfl)) (aZ (aY K) (zv 6) aE (fun _ _=>rfl)) (nomark _)) (rH (aJ (iF hu0) (aZ (aY K) (zv 4) aE (fun _ _=>rfl)) aU (nomark _)))).pt (aA (pI (i:=7) (j:=8) rfl bF.nd rfl rfl (by decide) rfl rfl (aK (bA g9 (hr.mono (by decide)) (a9 (zv 0) (a9 (zv 3) sa_nil))) (aK (bA g9 (hr.mono (by decide)) (a9 (zv 1) (a9 (zv 5) sa_nil))) sa_nil)) rfl)
   (aC (bN (aJ (a05 K hu100) (i9 (own:=["_law_one"]) (idx:=[]) (N':=["_law_one"]) (cE (defScope cC) (["_law_told","_law_other","_law_found","_law_a","_law_here","_law_b","_law_there","_law_ones","_law_twos"]:List Str) (by decide+kernel)) rfl (j6 K (zv 7)) (fun _ _ _ _ _ _=>(aG (i:=0) (show List.Nodup (["_law_one"]:List Str) by decide+kernel) rfl (Or.inl rfl))) (fun _ _ _ _ _ _=>cN) (fun _ _ _ _ _ _=>(aZ (aY K) (zv 0) aE (fun _ _=>rfl)))) (i9 (own:=["_law_one"]) (idx:=[]) (N':=["_law_one"]) (cE (defScope cC) (["_law_told","_law_other","_law_found","_law_a","_law_here","_law_b","_law_there","_law_ones","_law_twos"]:List Str) (by decide+kernel)) rfl (j6 K (zv 8)) (fun _ _ _ _ _ _=>(aG (i:=0) (show List.Nodup (["_law_one"]:List Str) by decide+kernel) rfl (Or.inl rfl))) (fun _ _ _ _ _ _=>cN) (fun _ _ _ _ _ _=>(aZ (aY K) (zv 0) aE (fun _ _=>rfl)))) (nomark _)) (aC (eJ (lM K QH QJ QK bV (zv 2) (bE (aT (a9 (zv 3) (a9 (zv 5) sa_nil))) sa_nil)))) aP))) aP)))))
   (aC (aN (zv 2))))),?_⟩
  refine aL ⟨(show 0<=sizeLine by decide),fun L hL=>?_⟩
  refine aV (fun σ' H'=>∃ (v3 v4 v5 v6 v7 v8:Option V) (us:List V) (ts:List Pr),σ'=[some (.ref a),some (.ref b),some (.ref L),v3,v4,v5,v6,v7,v8]/\H' L=some (.lst us)/\KsV H' us (ts.map tgK)/\TupV H' us/\ts.length<=200/\Same H H') ?_ ?_
  ·intro nx hnx
   refine Or.inr ⟨⟨xs,SqT.of (Same.upd hL _ _ _ rt.at_)⟩,?_⟩
   refine dZ (cV xs) (fun i σ' H'=>∃ (v3 v4 v5 v6 v7 v8:Option V) (us:List V) (ts:List Pr),σ'=[some (.ref a),some (.ref b),some (.ref L),v3,v4,v5,v6,v7,v8]/\H' L=some (.lst us)/\KsV H' us (ts.map tgK)/\TupV H' us/\ts.length<=20*i/\Same H H')
    ⟨none,none,none,none,none,none,[],[],rfl,a7,KsV.nil,TupV.nil,by simp,Same.upd hL _⟩ (by rintro i σ' H' _ ⟨_,_,_,_,_,_,_,_,_,_,_,_,_,s⟩;exact SqT.of (s _ _ rt.at_)) ?_ ?_
   ·rintro i σ' H1 hi ⟨v3,v4,v5,v6,v7,v8,us,ts,rfl,q1,q2,qt,q3,q4⟩
    have hir:i < r1.length:=by omega
    obtain ⟨rb,hv,w1,w2,w3⟩:=rt.rv.at_ i hi hir
    have eg:xs.getD i .non=.ref rb:=by rw [Qb,Qa hi,w1];rfl
    rw [eg]
    have hna:r1[i].1∈m1:=rt.nm.mem_iff.mp (List.mem_map.mpr ⟨_,Qj hir,rfl⟩)
    generalize r1[i]=ra at w2 w3 hna
    refine cX (q4 _ _ w2) ?_
    refine Or.inr ⟨⟨ys,SqT.of (q4 _ _ rt2.at_)⟩,?_⟩
    refine dZ (cV ys) (fun j σ' H'=>∃ (v5 v6 v7 v8:Option V) (us:List V) (ts:List Pr),σ'=[some (.ref a),some (.ref b),some (.ref L),some (.str ra.1),some hv,v5,v6,v7,v8]/\H' L=some (.lst us)/\KsV H' us (ts.map tgK)/\TupV H' us/\ts.length<=20*i+2*j/\Same H H')
     ⟨_,_,_,_,us,ts,rfl,q1,q2,qt,by omega,q4⟩ (by rintro i σ' H' _ ⟨_,_,_,_,_,_,_,_,_,_,_,s⟩;exact SqT.of (s _ _ rt2.at_)) ?_ ?_
    ·rintro j σ' H2 hj ⟨v5,v6,v7,v8,us,ts,rfl,p1,p2,pt,p3,p4⟩
     have hjr:j < r2.length:=by omega
     obtain ⟨rb2,hv2,x1,x2,x3⟩:=rt2.rv.at_ j hj hjr
     have eg2:ys.getD j .non=.ref rb2:=by rw [Qb,Qa hj,x1];rfl
     rw [eg2]
     have hnb:r2[j].1∈m2:=rt2.nm.mem_iff.mp (List.mem_map.mpr ⟨_,Qj hjr,rfl⟩)
     generalize r2[j]=rb' at x2 x3 hnb
     refine cX (p4 _ _ x2) ?_
     have HA:=w3.same p4
     have HB:=x3.same p4
     obtain ⟨ba,ya,rfl,ea⟩:=HA.srt
     obtain ⟨bb,yb,rfl,eb⟩:=HB.srt
     have hul:us.length=ts.length:=by have:=p2.1;simpa using this
     have skip:∀ {H3:Hp} {u5 u6 u7 u8:Option V},Same H2 H3->∃ (v5 v6 v7 v8:Option V) (us:List V) (ts:List Pr),[some (V.ref a),some (.ref b),some (.ref L),some (.str ra.1),some (.ref ba),u5,u6,u7,u8]=[some (.ref a),some (.ref b),some (.ref L),some (.str ra.1),some (.ref ba),v5,v6,v7,v8]/\H3 L=some (.lst us)/\KsV H3 us (ts.map tgK)/\TupV H3 us/\ts.length<=20*i+2*(j+1)/\Same H H3:=fun {H3 u5 u6 u7 u8} t=>⟨_,_,_,_,us,ts,rfl,t _ _ p1,p2.same t,pt.same t,by omega,p4.trans t⟩
     refine ⟨_,_,.inr (SqT.of ea),aI _ _,_,_,.inr (SqT.of eb),aI _ _,rfl,_,rfl,eqS (fun c1=>?_) (fun c1=>iteF (skip (Same.refl _)))⟩
     refine ⟨_,_,.inr (SqT.of ea),aI _ _,rfl,_,rfl,neS (fun c2=>?_) (fun c2=>skip (Same.refl _))⟩
     refine ⟨a,xs,r1,m1,ws,ra.1,rfl,rt.tk p4.ts,hw,hna,fun M1 u1 H3 hM1 t3 eM1 mv1=>?_⟩
     have s3:=p4.trans t3
     refine ⟨b,ys,r2,m2,ws2,rb'.1,rfl,rt2.tk s3.ts,hw2,hnb,fun M2 u2 H4 hM2 t4 eM2 mv2=>⟨_,_,rfl,?_⟩⟩
     have fw1:=rt.onFew hw hna
     have fw2:=rt2.onFew hw2 hnb
     have eM1':=t4 _ _ eM1
     have mv1':=mv1.tk t4.ts
     dsimp only
     refine .inl ⟨⟨u1,SqL.of eM1'⟩,fun D1 hD1=>o6 eM1' mv1' hD1 (by omega) fun w1' H5 t5 e5 sv1=>?_⟩
     refine .inl ⟨⟨u2,SqL.of (t5 _ _ eM2)⟩,fun D2 hD2=>o6 (t5 _ _ eM2) (mv2.tk t5.ts) hD2 (by omega) fun w2' H6 t6 e6 sv2=>?_⟩
     refine ⟨1,1,D1,D2,w1',w2',_,_,by decide,rfl,rfl,SqL.of (t6 _ _ e5),SqL.of e6,(sv1.same t6).tds,sv2.tds,fun bo hbo=>⟨_,rfl,?_⟩⟩
     have t26:=t3.trans (t4.trans (t5.trans t6))
     refine iteB (fun c=>?_) (fun c=>skip t26)
     have p16:=t26 _ _ p1
     refine ⟨.inl ⟨rfl,_,SqL.of p16⟩,(show 2<=sizeLine by decide),fun tp htp=>?_⟩
     have t7:=t26.trans (Same.upd htp (.tup [.str ra.1,.str rb'.1]))
     have e7:upd H6 tp (.tup [.str ra.1,.str rb'.1]) tp=some (.tup ((tgK (ra.1,rb'.1)).map kV)):=a7
     generalize upd H6 tp (.tup [.str ra.1,.str rb'.1])=H7 at t7 e7 ⊢
     have tk:Tk H7 (upd H7 L (.lst (us++[.ref tp]))):=(Tk.refl).set (t7 _ _ p1) fun _ z=>nomatch z
     refine ⟨L,us,_,rfl,rfl,t7 _ _ p1,by omega,_,_,_,_,_,ts++[(ra.1,rb'.1)],rfl,a7,?_,((pt.same t7).tk tk).snoc (tk _ _ e7),by simp;omega,(p4.trans t7).put hL⟩
     rw [Qm]
     exact ((p2.same t7).snoc (.inl e7)).keep fun b ys r=>r.put (t7 _ _ p1) (fun _ z=>nomatch z) (fun _ _ z=>nomatch z)
    ·rintro σ' H2 ⟨v5,v6,v7,v8,us,ts,rfl,p1,p2,pt,p3,p4⟩
     exact ⟨_,_,_,_,_,_,us,ts,rfl,p1,p2,pt,by omega,p4⟩
   ·rintro σ' H1 ⟨v3,v4,v5,v6,v7,v8,us,ts,rfl,q1,q2,qt,q3,q4⟩
    exact hnx _ _ ⟨_,_,_,_,_,_,us,ts,rfl,q1,q2,qt,by omega,q4⟩
  ·rintro σ' H1 ⟨v3,v4,v5,v6,v7,v8,us,ts,rfl,q1,q2,qt,q3,q4⟩
   exact k L us ts H1 hL q4 q1 q2 qt q3
theorem NxAt.rd {H0 H H':Hp} {p:Addr} {t:Nat} (h:NxAt K H0 H p t) (s:Sm p p H H'):∀ b ys,RdT H b ys->RdT H' b ys:=fun b ys r=>by
 obtain ⟨_,_,_,_,z,_⟩:=h.ex
 have n:b≠p:=fun q=>by
  rcases r with r | ⟨_,r⟩<;>(rw [q,z] at r;cases r)
 rcases r with r | ⟨o,r⟩
 ·exact .inl (s _ _ r n n)
 ·exact .inr ⟨o,s _ _ r n n⟩
theorem iP (ts:List Pr) (i:Nat):(ts.map tgK).take i=(ts.take i).map tgK/\(ts.map tgK).drop i=(ts.drop i).map tgK:=⟨by rw [List.map_take],by rw [List.map_drop]⟩
def spBentA (K:Q0):Sp:=fun vs H Q _=>∃ (H0:Hp) (p a b q:Addr) (t:Nat) (xs ys ps:List V) (r1 r2:List Rw2) (m1 m2:List Str) (ts:List Pr),vs=[.ref p,.ref a,.ref b,.ref q]/\NxAt K H0 H p t/\t+10 < 900000/\RT H a xs r1 m1 WW/\RT H b ys r2 m2 WW/\q≠p/\H q=some (.lst ps)/\KsV H ps (ts.map tgK)/\TupV H ps/\ts.length<=200/\
 ∀ (L:Addr) (us:List V) (ts':List Pr) (H':Hp),L≠p->H' L=some (.lst us)->KsV H' us (ts'.map tgK)->TupV H' us->ts'.length<=500->NxAt K H0 H' p (t+10)->Sm p p H H'->Q (.ref L) H'
set_option maxHeartbeats 2000000 in
theorem iS (T:Txt K mg w):FnK P w K mg base 4 "_law_bent_paper" ["_law_pen","_law_told","_law_other","_law_paper"] (spBentA K):=by
 have aO:FnK P w K mg base 2 "_law_next" ["_law_pen","_law_many"] (spNx K):=bH T
 have dU:FnK P w K mg base 3 "_law_any" ["_law_pen","_law_told"] (spAny K):=lN T
 refine T.jB.okS cF (fun vs H Q E h=>?_) (fun f cdv A outer s H vs Q E hr h=>?_)
 ·obtain ⟨H0,p,a,b,q,t,xs,ys,ps,r1,r2,m1,m2,ts,rfl,_⟩:=h
  rfl
 ·obtain ⟨H0,p,a,b,q,t,xs,ys,ps,r1,r2,m1,m2,ts,rfl,hn,ht,rt,rt2,nqp,hq,ks,tp,htl,k⟩:=h
  have hu:=aQ hr
  have hu0:=Qx (aQ hr)
  have hsz:sizeLine=16777216:=QL
  have hpl:ps.length=ts.length:=by have:=ks.1;simpa using this
  refine ⟨_,(aA (aR (i:=4) cF.nd rfl (Or.inl rfl) (bA aO (hr.mono (by decide)) (a9 (zv 0) (aB aE sa_nil))))
   (aA (aR (i:=5) cF.nd rfl (Or.inl rfl) (aT (aK (bA dU (hr.mono (by decide)) (a9 (zv 0) (a9 (zv 1) sa_nil))) (aK (bA dU (hr.mono (by decide)) (a9 (zv 0) (a9 (zv 2) sa_nil))) sa_nil))))
   (aA (bN (xL (aJ (bX hu0) (zv 4) aE (nomark _)) (rH (aJ (iF hu0) (zv 3) (cB sa_nil) (nomark _)))).pt (aA (aR (i:=6) cF.nd rfl (Or.inl rfl) (bA aO (hr.mono (by decide)) (a9 (zv 0) (aK (bL (bJ K) (by rfl) T.n_len PySem.boot_len (a9 (zv 3) sa_nil)) sa_nil))))
   (aC (aN (bM bB (dB (m9 K) (zv 3) dM (cZ (zv 6))) (dB (m9 K) (zv 3) (cZ (bM bB (zv 6) aE)) dM))))) aP)
   (aA (bN (aJ (bX hu0) (zv 4) aE (nomark _)) (aC (aN (bM bB (zv 3) (cB (a9 (zv 5) sa_nil))))) aP)
   (aA (bN (aJ (bX hu0) (zv 4) aE (nomark _)) (aC (aN (i9 (own:=["_law_a","_law_b"]) (idx:=[]) (N':=["_law_a","_law_b"]) (cE (defScope cM) (["_law_pen","_law_told","_law_other","_law_paper","_law_way","_law_pair","_law_at"]:List Str) (by decide+kernel)) rfl (j6 K (zv 3)) (fun _ _ _ _ _ _=>(bQ K (n:=2) rfl (aH (aG (i:=0) (show List.Nodup (["_law_a","_law_b"]:List Str) by decide+kernel) rfl (Or.inl rfl)) (aH (aG (i:=1) (show List.Nodup (["_law_a","_law_b"]:List Str) by decide+kernel) rfl (Or.inl rfl)) bD)))) (fun _ _ _ _ _ _=>cN) (fun _ _ _ _ _ _=>(aT (a9 (zv 1) (a9 (zv 0) sa_nil))))))) aP)
   (aA (bN (aJ (bX hu0) (zv 4) aE (nomark _)) (aC (aN (bM bB (zv 3) (cB (bE (aT (aF (aZ (aY K) (zv 5) aE (fun _ _=>rfl)) (aB aU sa_nil))) sa_nil))))) aP)
   (aA (bN (aJ (bX hu0) (zv 4) aE (nomark _)) (aC (aN (bM bB (cB (bE (aT (aB aU (aF (aZ (aY K) (zv 5) aE (fun _ _=>rfl)) sa_nil))) sa_nil)) (zv 3)))) aP)
   (aA (bN (aJ (bX hu0) (zv 4) aE (nomark _)) (aC (aN (bM bB (xK K (zv 3) (a27 xR aE)) (zv 3)))) aP)
   (aA (bN (aJ (bX hu0) (zv 4) aE (nomark _)) (aC (aN (bM bB (dB (m9 K) (zv 3) (cZ aE) dM) (dB (m9 K) (zv 3) (cZ aE) (cZ aE))))) aP)
   (aC (aN (zv 3)))))))))))),?_⟩
  refine aL ⟨H0,p,8,t,rfl,hn,⟨by decide,by decide⟩,by omega,fun wy H1 y0 y1 hn1 sm1=>?_⟩
  refine aL ⟨H0,p,a,_,xs,r1,m1,WW,rfl,hn1,by omega,rt.tk (hn.ts sm1),fun n1 H3 hn1' hn3 sm3=>?_⟩
  have sm13:=sm1.trans sm3
  refine ⟨H0,p,b,_,ys,r2,m2,WW,rfl,hn3,by omega,rt2.tk (hn.ts sm13),fun n2 H4 hn2' hn4 sm4=>⟨(show 2<=sizeLine by decide),fun te hte=>?_⟩⟩
  have s5:=Same.upd hte (.tup [.str n1,.str n2])
  have e5:upd H4 te (.tup [.str n1,.str n2]) te=some (.tup [.str n1,.str n2]):=a7
  have hn5:=hn4.same s5
  have sm5:Sm p p H (upd H4 te (.tup [.str n1,.str n2])):=(sm13.trans sm4).trans s5.sm
  dsimp only
  generalize upd H4 te (.tup [.str n1,.str n2])=H5 at e5 hn5 sm5 ⊢
  clear s5 hte sm13 sm3 sm1 sm4 hn1 hn3 hn4
  have nep:te≠p:=hn5.noT e5
  have q5:=sm5 _ _ hq nqp nqp
  have ks5:=ks.keep (hn.rd sm5)
  have tp5:=tp.tk (hn.ts sm5)
  have fin:∀ (L:Addr) (us:List V) (ts':List Pr) (H':Hp) (u:Nat),H5 L=none->H' L=some (.lst us)->KsV H' us (ts'.map tgK)->TupV H' us->ts'.length<=500->NxAt K H0 H' p u->u<=t+10->Sm p p H5 H'->Q (.ref L) H':=fun L us ts' H' u h1 h2 h3 h3' h4 h5 h6 h7=>k L us ts' H' (hn5.ne h1) h2 h3 h3' h4 (h5.mono h6) (sm5.trans h7)
  refine aV (fun σ' H'=>∃ v6,σ'=[some (.ref p),some (.ref a),some (.ref b),some (.ref q),some (.int wy),some (.ref te),v6]/\Same H5 H') ?_ ?_
  ·intro nx hnx
   refine ⟨rfl,_,rfl,eqI (fun c=>?_) (fun c=>iteF (hnx _ _ ⟨_,rfl,Same.refl _⟩))⟩
   refine ⟨(show 0<=sizeLine by decide),fun z hz=>⟨aM q5 hz,ps,Same.upd hz _ _ _ q5,a7,_,rfl,iteB (fun c2=>?_) (fun c2=>hnx _ _ ⟨_,rfl,Same.upd hz _⟩)⟩⟩
   have s6:=Same.upd hz (.lst [])
   generalize upd H5 z (.lst [])=H6 at s6 ⊢
   have hpos:0 < ps.length:=by
    cases ps with
    | nil=>exact absurd c2 (by decide)
    | cons x r=>simp
   refine aL (.inl ⟨_,.inl (SqL.of (s6 _ _ q5)),H0,p,_,_,rfl,hn5.same s6,⟨by omega,by omega⟩,by omega,fun ix H7 x0 x1 hn7 sm7=>?_⟩)
   obtain ⟨i,rfl⟩:∃ i:Nat,ix=(i:Int):=⟨ix.toNat,by omega⟩
   have sm57:=s6.sm.trans sm7
   have q7:=sm57 _ _ q5 nqp nqp
   have ks7:=ks5.keep (hn5.rd sm57)
   have tp7:=tp5.tk (hn5.ts sm57)
   refine ⟨(i:Int),rfl,Or.inr (Or.inl ⟨q,ps,rfl,SqL.of q7,fun l1 hl1=>?_⟩)⟩
   rw [oH]
   have s8:=Same.upd hl1 (.lst (ps.take i))
   have e8:upd H7 l1 (.lst (ps.take i)) l1=some (.lst (ps.take i)):=a7
   generalize upd H7 l1 (.lst (ps.take i))=H8 at s8 e8 ⊢
   refine ⟨(i:Int)+1,rfl,Or.inr (Or.inl ⟨q,ps,rfl,SqL.of (s8 _ _ q7),fun l2 hl2=>?_⟩)⟩
   rw [show ((i:Int)+1)=((i+1:Nat):Int) by omega,g7]
   have s9:=Same.upd hl2 (.lst (ps.drop (i+1)))
   have e9:upd H8 l2 (.lst (ps.drop (i+1))) l2=some (.lst (ps.drop (i+1))):=a7
   generalize upd H8 l2 (.lst (ps.drop (i+1)))=H9 at s9 e9 ⊢
   refine ⟨ps.take i,ps.drop (i+1),s9 _ _ e8,e9,by simp;omega,fun l3 hl3=>?_⟩
   have s10:=(s8.trans s9).trans (Same.upd hl3 (.lst (ps.take i++ps.drop (i+1))))
   have hf:H5 l3=none:=sm57.free ((s8.trans s9).free hl3) (by have:=(hn7.same (s8.trans s9)).ne hl3;exact this) (by have:=(hn7.same (s8.trans s9)).ne hl3;exact this)
   refine fin l3 _ (ts.take i++ts.drop (i+1)) _ _ hf a7 ?_ ((tp7.same s10).sub fun v hv=>(List.mem_append.mp hv).elim List.mem_of_mem_take List.mem_of_mem_drop) (by simp;omega) (hn7.same s10) (by omega) (sm57.trans s10.sm)
   rw [Qm,<- (iP ts i).1,<- (iP ts (i+1)).2]
   exact ((ks7.same s10).sub i).1.append ((ks7.same s10).sub (i+1)).2
  ·rintro σ' H6 ⟨v6,rfl,s6⟩
   have hn6:=hn5.same s6
   have q6:=s6 _ _ q5
   have ks6:=ks5.same s6
   have tp6:=tp5.same s6
   have e6:=s6 _ _ e5
   replace fin:∀ (L:Addr) (us:List V) (ts':List Pr) (H':Hp),H6 L=none->H' L=some (.lst us)->KsV H' us (ts'.map tgK)->TupV H' us->ts'.length<=500->Same H6 H'->Q (.ref L) H':=fun L us ts' H' h1 h2 h3 h3' h4 h7=>fin L us ts' H' _ (s6.free h1) h2 h3 h3' h4 (hn6.same h7) (by omega) (s6.sm.trans h7.sm)
   replace sm5:=sm5.trans s6.sm
   clear hn5 q5 ks5 e5 s6 tp5
   refine ⟨rfl,_,rfl,eqI (fun c=>?_) (fun c=>?_)⟩
   ·refine ⟨(show 1<=sizeLine by decide),fun l1 hl1=>?_⟩
    have s7:=Same.upd hl1 (.lst [V.ref te])
    refine ⟨ps,[.ref te],s7 _ _ q6,a7,by simp;omega,fun l2 hl2=>?_⟩
    have s8:=s7.trans (Same.upd hl2 (.lst (ps++[.ref te])))
    refine fin l2 _ (ts++[(n1,n2)]) _ (s7.free hl2) a7 ?_ ((tp6.same s8).snoc (s8 _ _ e6)) (by simp;omega) s8
    rw [Qm]
    exact (ks6.same s8).snoc (.inl (s8 _ _ e6))
   refine ⟨rfl,_,rfl,eqI (fun c=>?_) (fun c=>?_)⟩
   ·refine Or.inl ⟨⟨ps,SqL.of q6⟩,fun D hD=>?_⟩
    refine fW (bZ ps) (fun i τ H'=>∃ (v0 v1:Option V) (us:List V),τ=[v0,v1]/\H' D=some (.lst us)/\KsV H' us (((ts.take i).map fun t=>((t.2,t.1):Pr)).map tgK)/\TupV H' us/\us.length=i/\Same H6 H') ⟨none,none,[],rfl,a7,KsV.nil,TupV.nil,rfl,Same.upd hD _⟩ (by rintro i τ H' _ ⟨_,_,_,_,_,_,_,_,s⟩;exact SqL.of (s _ _ q6)) ?_ ?_
    ·rintro i τ H7 hi ⟨v0,v1,us,rfl,z1,z2,zt,z3,z4⟩
     have hit:i < ts.length:=by omega
     obtain ⟨cc,f1,f2⟩:=(ks6.same z4).2 i hi (by simpa using hit)
     rw [Qr] at f2
     have eg:ps.getD i .non=.ref cc:=by rw [Qb,Qa hi,f1];rfl
     rw [eg]
     have tks:ts.take (i+1)=ts.take i++[ts[i]]:=by rw [Qs,Qa hit];rfl
     have f2:RdT H7 cc [.str ts[i].1,.str ts[i].2]:=f2
     refine lX (SqT.ofR f2) ⟨(show 2<=sizeLine by decide),fun tn htn=>?_⟩
     have s8:=Same.upd htn (.tup [.str ts[i].2,.str ts[i].1])
     have e8:upd H7 tn (.tup [.str ts[i].2,.str ts[i].1]) tn=some (.tup ((tgK (ts[i].2,ts[i].1)).map kV)):=a7
     generalize upd H7 tn (.tup [.str ts[i].2,.str ts[i].1])=H8 at s8 e8 ⊢
     have tk:Tk H8 (upd H8 D (.lst (us++[.ref tn]))):=(Tk.refl).set (s8 _ _ z1) fun _ z=>nomatch z
     refine ⟨us,s8 _ _ z1,by omega,_,_,us++[.ref tn],rfl,a7,?_,((zt.same s8).tk tk).snoc (tk _ _ e8),by simp [z3],(z4.trans s8).put hD⟩
     rw [tks,Qm,Qm]
     exact ((z2.same s8).snoc (.inl e8)).keep fun b ys r=>r.put (s8 _ _ z1) (fun _ z=>nomatch z) (fun _ _ z=>nomatch z)
    ·rintro τ H7 ⟨v0,v1,us,rfl,z1,z2,zt,z3,z4⟩
     rw [hpl,Qo] at z2
     exact fin D us _ H7 hD z1 z2 zt (by simp;omega) z4
   refine ⟨rfl,_,rfl,eqI (fun c=>?_) (fun c=>?_)⟩
   ·refine ⟨_,_,.inr (SqT.of e6),aI _ _,(show 2<=sizeLine by decide),fun t1 ht1=>⟨(show 1<=sizeLine by decide),fun l1 hl1=>?_⟩⟩
    have s7:=(Same.upd ht1 (.tup [.str n1,.str "nobody"])).trans (Same.upd hl1 (.lst [V.ref t1]))
    have e7:upd (upd H6 t1 (.tup [.str n1,.str "nobody"])) l1 (.lst [V.ref t1]) t1=some (.tup ((tgK (n1,"nobody")).map kV)):=Same.upd hl1 _ _ _ a7
    have f7:upd (upd H6 t1 (.tup [.str n1,.str "nobody"])) l1 (.lst [V.ref t1]) l1=some (.lst [V.ref t1]):=a7
    generalize upd (upd H6 t1 (.tup [.str n1,.str "nobody"])) l1 (.lst [V.ref t1])=H7 at s7 e7 f7 ⊢
    refine ⟨ps,[.ref t1],s7 _ _ q6,f7,by simp;omega,fun l2 hl2=>?_⟩
    have s8:=Same.upd hl2 (.lst (ps++[.ref t1]))
    refine fin l2 _ (ts++([(n1,"nobody")]:List Pr)) _ (s7.free hl2) a7 ?_ ((tp6.same (s7.trans s8)).snoc (s8 _ _ e7)) (by simp;omega) (s7.trans s8)
    rw [Qm]
    exact (ks6.same (s7.trans s8)).snoc (.inl (s8 _ _ e7))
   refine ⟨rfl,_,rfl,eqI (fun c=>?_) (fun c=>?_)⟩
   ·refine ⟨_,_,.inr (SqT.of e6),rfl,(show 2<=sizeLine by decide),fun t1 ht1=>⟨(show 1<=sizeLine by decide),fun l1 hl1=>?_⟩⟩
    have s7:=(Same.upd ht1 (.tup [.str "",.str n2])).trans (Same.upd hl1 (.lst [V.ref t1]))
    have e7:upd (upd H6 t1 (.tup [.str "",.str n2])) l1 (.lst [V.ref t1]) t1=some (.tup ((tgK ("",n2)).map kV)):=Same.upd hl1 _ _ _ a7
    have f7:upd (upd H6 t1 (.tup [.str "",.str n2])) l1 (.lst [V.ref t1]) l1=some (.lst [V.ref t1]):=a7
    generalize upd (upd H6 t1 (.tup [.str "",.str n2])) l1 (.lst [V.ref t1])=H7 at s7 e7 f7 ⊢
    refine ⟨[.ref t1],ps,f7,s7 _ _ q6,by simp;omega,fun l2 hl2=>?_⟩
    have s8:=Same.upd hl2 (.lst ([V.ref t1]++ps))
    refine fin l2 _ (([("",n2)]:List Pr)++ts) _ (s7.free hl2) a7 ?_ ((TupV.nil.snoc (s8 _ _ e7)).append (tp6.same (s7.trans s8))) (by simp;omega) (s7.trans s8)
    rw [Qm]
    exact (KsV.nil.snoc (k:=tgK ("",n2)) (.inl (s8 _ _ e7))).append (ks6.same (s7.trans s8))
   refine ⟨rfl,_,rfl,eqI (fun c=>?_) (fun c=>?_)⟩
   ·refine ⟨_,rfl,rfl,q,ps,rfl,SqL.of q6,fun l1 hl1=>?_⟩
    have s7:=Same.upd hl1 (.lst ps.reverse)
    refine ⟨ps.reverse,ps,a7,s7 _ _ q6,by simp;omega,fun l2 hl2=>?_⟩
    have s8:=s7.trans (Same.upd hl2 (.lst (ps.reverse++ps)))
    refine fin l2 _ (ts.reverse++ts) _ (s7.free hl2) a7 ?_ ((tp6.same s8).sub fun v hv=>(List.mem_append.mp hv).elim (fun h=>List.mem_reverse.mp h) id) (by simp;omega) s8
    rw [Qm,List.map_reverse]
    exact (ks6.same s8).rev.append (ks6.same s8)
   refine ⟨rfl,_,rfl,eqI (fun c=>?_) (fun c=>?_)⟩
   ·refine ⟨1,rfl,Or.inr (Or.inl ⟨q,ps,rfl,SqL.of q6,fun l1 hl1=>?_⟩)⟩
    rw [show cutV ps (some 1) none=ps.drop 1 from g7 ps 1]
    have s7:=Same.upd hl1 (.lst (ps.drop 1))
    have f7:upd H6 l1 (.lst (ps.drop 1)) l1=some (.lst (ps.drop 1)):=a7
    generalize upd H6 l1 (.lst (ps.drop 1))=H7 at s7 f7 ⊢
    refine ⟨1,rfl,2,rfl,Or.inr (Or.inl ⟨q,ps,rfl,SqL.of (s7 _ _ q6),fun l2 hl2=>?_⟩)⟩
    have ec:∃ i j,cutV ps (some 1) (some 2)=(ps.drop i).take j:=⟨_,_,rfl⟩
    obtain ⟨i,j,ec⟩:=ec
    rw [ec]
    have s8:=s7.trans (Same.upd hl2 (.lst ((ps.drop i).take j)))
    have f8:upd H7 l2 (.lst ((ps.drop i).take j)) l2=some (.lst ((ps.drop i).take j)):=a7
    have f78:=Same.upd hl2 (.lst ((ps.drop i).take j)) _ _ f7
    generalize upd H7 l2 (.lst ((ps.drop i).take j))=H8 at s8 f8 f78 ⊢
    refine ⟨_,_,f78,f8,by simp;omega,fun l3 hl3=>?_⟩
    have s9:=s8.trans (Same.upd hl3 (.lst (ps.drop 1++(ps.drop i).take j)))
    refine fin l3 _ (ts.drop 1++(ts.drop i).take j) _ (s8.free hl3) a7 ?_ ((tp6.same s9).sub fun v hv=>(List.mem_append.mp hv).elim List.mem_of_mem_drop fun h=>List.mem_of_mem_drop (List.mem_of_mem_take h)) (by simp;omega) s9
    rw [Qm,<- (iP ts 1).2,<- (iP (ts.drop i) j).1,<- (iP ts i).2]
    exact ((ks6.same s9).sub 1).2.append (((ks6.same s9).sub i).2.sub j).1
   exact k q ps ts H6 nqp q6 ks6 tp6 (by omega) (hn6.mono (by omega)) sm5
theorem a2A {K:Q0} {i j k l:Nat} {T:Addr} {v1 v2 v3 v4:V} {σ:St} {H:Hp} {Q:St->Hp->Prop} (h:H T=some (.tup [v1,v2,v3,v4])) (q:Q ((((σ.set i (some v1)).set j (some v2)).set k (some v3)).set l (some v4)) H):gTup K 4 (gCons (gName i) (gCons (gName j) (gCons (gName k) (gCons (gName l) gNil)))) (.ref T) σ H Q:=
 ⟨T,_,rfl,SqT.of h,rfl,_,_,rfl,_,_,rfl,_,_,rfl,_,_,rfl,rfl,q⟩
def spLaw (K:Q0) (mg:Str->Option Value):Sp:=fun vs H Q _=>∃ (a:Addr) (ns:List Int),vs=[.ref a]/\SqL K H a (ns.map V.int)/\ns.length<=63/\(Kn mg H "FROM" [.str "from"]/\Kn mg H "TO" [.str "to"])/\∀ H',Q (.bl true) H'
theorem xZ {H:Hp} {a p:Addr} {ns:List Int} (hs:SqL K H a (ns.map V.int)) (hp:H p=none):NxAt K H (upd H p (.lst [.ref a,.int 0,.int 0])) p 0:=by
 refine ⟨⟨a,ns,0,0,a7,fun H' sm=>?_,by omega,by omega⟩,(Same.upd hp _).sm⟩
 rcases hs with h | h
 ·refine .inl ?_
  have n:a≠p:=fun z=>by rcases h with h | ⟨o,h⟩<;>(rw [z,hp] at h;cases h)
  exact h.imp (fun e=>sm _ _ e n n) fun ⟨o,e⟩=>⟨o,sm _ _ e n n⟩
 ·exact .inr h
theorem Kn.ofNx {H0 H:Hp} {p:Addr} {t:Nat} {x:Str} {ys:List V} (h:Kn mg H0 x ys) (hp:H0 p=none) (hn:NxAt K H0 H p t):Kn mg H x ys:=by
 obtain ⟨o,e⟩:=h
 have n:adr mg x≠p:=fun z=>by rw [z,hp] at e;cases e
 exact ⟨o,hn.sm _ _ e n n⟩
def PapV (H:Hp) (p:Addr) (v:V):Prop:=∃ q ps ts,v=.ref q/\q≠p/\H q=some (.lst ps)/\KsV H ps ((ts:List Pr).map tgK)/\TupV H ps/\ts.length<=200
theorem PapV.same {H H':Hp} {p:Addr} {v:V} (h:PapV H p v) (s:Same H H'):PapV H' p v:=let ⟨q,ps,ts,h1,h2,h3,h4,ht,h5⟩:=h;⟨q,ps,ts,h1,h2,s _ _ h3,h4.same s,ht.same s,h5⟩
theorem PapV.nx {H0 H H':Hp} {p:Addr} {t:Nat} {v:V} (h:PapV H p v) (hn:NxAt K H0 H p t) (s:Sm p p H H'):PapV H' p v:=let ⟨q,ps,ts,h1,h2,h3,h4,ht,h5⟩:=h;⟨q,ps,ts,h1,h2,s _ _ h3 h2 h2,h4.keep (hn.rd s),ht.tk (hn.ts s),h5⟩
set_option maxHeartbeats 4000000 in
theorem a10 (T:Txt K mg w):FnK P w K mg base 14 "law" ["script"] (spLaw K mg):=by
 have vV:FnK P w K mg base 6 "_law_two" ["_law_pen","_law_most"] (spTwo K):=sL T
 have a09:FnK P w K mg base 6 "alike" ["T","x","S","y"] (spAlike mg):=xP T
 have k7:FnK P w K mg base 4 "_law_all_pairs" ["_law_told","_law_other"] spAllP:=jJ T
 have jL:FnK P w K mg base 4 "_law_bent_paper" ["_law_pen","_law_told","_law_other","_law_paper"] (spBentA K):=iS T
 have jO:FnK P w K mg base 6 "is_alike_paper" ["T","x","S","y","paper"] (spIsAP mg K):=iO T
 have l8:FnK P w K mg base 4 "_law_is_paper" ["_law_told","_law_name","_law_other","_law_twin_name","_law_paper"] spIsAP2:=kI T
 refine T.t_law.okS d5 (fun vs H Q E h=>?_) (fun f cdv A outer s H vs Q E hr h=>?_)
 ·obtain ⟨a,ns,rfl,_⟩:=h
  rfl
 ·obtain ⟨sc,cells,rfl,hsc,hl63,⟨kf,kt⟩,k⟩:=h
  have hu:=aQ hr
  have hu0:=Qx (aQ hr)
  have hu20:=zV hr
  have hsz:sizeLine=16777216:=QL
  have hw:∀ z∈WW,Wd z:=fun z hz=>(a0j z hz).2
  refine ⟨_,(aA (aR (i:=1) d5.nd rfl (Or.inl rfl) (cB (a9 (zv 0) (aB aE (aB aE sa_nil)))))
   (aA (fY PassesOwn.never rfl (oV (by rfl) T.tF (aB aE sa_nil)) (aG (i:=2) d5.nd rfl (Or.inl rfl)) (aA (hV (bA vV (hr.mono (by decide)) (a9 (zv 1) (aB aE sa_nil))) (bQ K (n:=4) rfl (aH (aG (i:=3) d5.nd rfl (Or.inl rfl)) (aH (aG (i:=4) d5.nd rfl (Or.inl rfl)) (aH (aG (i:=5) d5.nd rfl (Or.inl rfl)) (aH (aG (i:=6) d5.nd rfl (Or.inl rfl)) bD))))))
   (aA (aR (i:=7) d5.nd rfl (Or.inl rfl) (bA a09 (hr.mono (by decide)) (a9 (zv 3) (a9 (zv 4) (a9 (zv 5) (a9 (zv 6) sa_nil))))))
   (aA (aR (i:=8) d5.nd rfl (Or.inl rfl) (cB (aK (bA k7 (hr.mono (by decide)) (a9 (zv 3) (a9 (zv 5) sa_nil))) (tP (cB sa_nil) sa_nil))))
   (aA (bN (aJ (bX hu0) (aZ (aY K) (zv 7) aE (fun _ _=>rfl)) aU (nomark _)) (aC (eJ (lM K QH QJ QK bV (zv 8) (aF (aZ (aY K) (zv 7) aE (fun _ _=>rfl)) sa_nil)))) aP)
   (aC (fY PassesOwn.never rfl (j6 K (zv 8)) (aG (i:=9) d5.nd rfl (Or.inl rfl)) (aC (fY PassesOwn.never rfl (j6 K (cB (a9 (zv 9) (aK (bA jL (hr.mono (by decide)) (a9 (zv 1) (a9 (zv 3) (a9 (zv 5) (a9 (zv 9) sa_nil))))) sa_nil)))) (aG (i:=10) d5.nd rfl (Or.inl rfl)) (aA (aR (i:=11) d5.nd rfl (Or.inl rfl) (bO (jF K) (by rfl) T.nN PyProof.Rows.boot_list (a9 (zv 10) sa_nil)))
   (aA (aR (i:=12) d5.nd rfl (Or.inl rfl) (bA jO (hr.mono (by decide)) (a9 (zv 3) (a9 (zv 4) (a9 (zv 5) (a9 (zv 6) (a9 (zv 11) sa_nil)))))))
   (aA (aR (i:=13) d5.nd rfl (Or.inl rfl) (bA l8 (hr.mono (by decide)) (a9 (zv 3) (a9 (zv 4) (a9 (zv 5) (a9 (zv 6) (a9 (zv 10) sa_nil)))))))
   (aC (bN (rS (xG (uD (bL jP (by rfl) T.fO PyProof.Rows.boot_isinstance (a9 (zv 12) (a9 (rY (v:=.ty "bool") (by rfl) T.a1t PyProof.Rows.boot_bool rfl) sa_nil))))) (rS (aJ (iF hu0) (zv 12) (zv 13) (nomark _)) (pZ (aJ (zZ K hu20) (zv 11) (zv 10) (nomark _))))).pt (aC (aN iB)) aP))))))))))))))
   (aC (aN iB)))),?_⟩
  refine aL ⟨(show 3<=sizeLine by decide),fun p hp=>?_⟩
  have hn0:=xZ hsc hp
  dsimp only
  generalize upd H p (.lst [.ref sc,.int 0,.int 0])=H1 at hn0
  refine aV (fun σ' H'=>True) ?_ (fun σ' H' _=>k H')
  intro nx hnx
  refine ⟨4,rfl,by decide,by decide,?_⟩
  refine dZ (mT 0 4) (fun i σ' H'=>∃ v2 v3 v4 v5 v6 v7 v8 v9 v10 v11 v12 v13,σ'=[some (.ref sc),some (.ref p),v2,v3,v4,v5,v6,v7,v8,v9,v10,v11,v12,v13]/\NxAt K H H' p (i*2200))
   ⟨none,none,none,none,none,none,none,none,none,none,none,none,rfl,hn0⟩ (fun _ _ _ _ _=>trivial) ?_ (fun σ' H' _=>hnx _ _ trivial)
  rintro i σ' H2 hi ⟨v2,v3,v4,v5,v6,v7,v8,v9,v10,v11,v12,v13,rfl,hn2⟩
  have hi4:i < 4:=hi
  refine ⟨H,p,5,i*2200,rfl,hn2,by omega,⟨by decide,by decide⟩,fun q a b xs ys rows rows2 ns ns2 x y H3 eq rt hx rt2 hy hn3 sm3=>a2A eq ?_⟩
  dsimp only
  have kf3:=Kn.ofNx kf hp hn3
  have kt3:=Kn.ofNx kt hp hn3
  refine aV (fun σ' H'=>∃ (F:Addr),σ'=[some (.ref sc),some (.ref p),some (.int (0+(i:Int))),some (.ref a),some (.str x),some (.ref b),some (.str y),some (.ref F),v8,v9,v10,v11,v12,v13]/\Same H3 H'/\((∃ v,H' F=some (.tup [.str "alike",v])/\PapV H' p v)\/∃ v,H' F=some (.tup [.str "unlike",v]))) ?_ ?_
  ·intro nx1 hnx1
   refine ⟨a,b,xs,ys,rows,rows2,ns,ns2,WW,WW,x,y,rfl,rt,rt2,hw,hw,kf3,kt3,hx,hy,fun r L xs' ps i st un f n H4 hL s4 e1 e2 ks tv hf hps hpl pi h0 hl=>?_,fun r R us i st un f n c H4 s4 e1 e2 sv pi h0 hc nme=>?_⟩
   ·exact hnx1 _ _ ⟨r,rfl,s4,.inl ⟨_,e1,L,xs',ps,rfl,hn3.ne hL,e2,ks,tv,by omega⟩⟩
   ·exact hnx1 _ _ ⟨r,rfl,s4,.inr ⟨_,e1⟩⟩
  rintro σ' H4 ⟨F,rfl,s4,hF⟩
  have hn4:=hn3.same s4
  refine aL ⟨a,b,xs,ys,rows,rows2,ns,ns2,WW,WW,rfl,rt.tk s4.ts,rt2.tk s4.ts,hw,hw,fun L1 us1 ts1 H5 hL1 s5 e5 ks5 tv5 hl5=>⟨(show 0<=sizeLine by decide),fun L2 hL2=>⟨(show 2<=sizeLine by decide),fun PL hPL=>?_⟩⟩⟩
  have s6:=(Same.upd hL2 (.lst [])).trans (Same.upd hPL (.lst [V.ref L1,.ref L2]))
  have eP6:upd (upd H5 L2 (.lst [])) PL (.lst [V.ref L1,.ref L2]) PL=some (.lst [V.ref L1,.ref L2]):=a7
  have e26:upd (upd H5 L2 (.lst [])) PL (.lst [V.ref L1,.ref L2]) L2=some (.lst []):=Same.upd hPL _ _ _ a7
  have hn5:=hn4.same s5
  have nL1:L1≠p:=hn4.ne hL1
  have nL2:L2≠p:=hn5.ne hL2
  have nPL:PL≠p:=(hn5.same (Same.upd hL2 _)).ne hPL
  have sPut:∀ o,Same H5 (upd (upd (upd H5 L2 (.lst [])) PL (.lst [V.ref L1,.ref L2])) PL o):=fun o=>(Same.upd hL2 _).trans ((Same.upd hPL _).put hPL)
  have sPut2:∀ o,upd (upd (upd H5 L2 (.lst [])) PL (.lst [V.ref L1,.ref L2])) PL o L2=some (.lst []):=fun o=>((Same.upd hPL _).put hPL) _ _ a7
  dsimp only
  generalize upd (upd H5 L2 (.lst [])) PL (.lst [V.ref L1,.ref L2])=H6 at s6 eP6 e26 sPut sPut2 ⊢
  have s46:=s5.trans s6
  have pap1:PapV H6 p (.ref L1):=⟨L1,us1,ts1,rfl,nL1,s6 _ _ e5,ks5.same s6,tv5.same s6,hl5⟩
  have pap2:PapV H6 p (.ref L2):=⟨L2,[],[],rfl,nL2,e26,KsV.nil,TupV.nil,by simp⟩
  refine aV (fun σ' H'=>∃ pv,σ'=[some (.ref sc),some (.ref p),some (.int (0+(i:Int))),some (.ref a),some (.str x),some (.ref b),some (.str y),some (.ref F),some (.ref PL),v9,v10,v11,v12,v13]/\H' PL=some (.lst pv)/\(∀ v∈pv,PapV H' p v)/\pv.length<=3/\RT H' a xs rows ns WW/\RT H' b ys rows2 ns2 WW/\NxAt K H H' p (i*2200+2000)) ?_ ?_
  ·intro nx1 hnx1
   have rtA:=(rt.tk s4.ts).tk s46.ts
   have rtB:=(rt2.tk s4.ts).tk s46.ts
   have hn6:=hn4.same s46
   rcases hF with ⟨v,eF,pF⟩ | ⟨v,eF⟩
   ·refine ⟨_,_,.inr (SqT.of (s46 _ _ eF)),aI _ _,rfl,_,rfl,a29 ⟨.inl ⟨rfl,_,SqL.of eP6⟩,_,_,.inr (SqT.of (s46 _ _ eF)),rfl,PL,_,v,rfl,rfl,eP6,by simp;omega,?_⟩⟩
    have s7:=sPut (.lst ([V.ref L1,.ref L2]++[v]))
    have f7:=sPut2 (.lst ([V.ref L1,.ref L2]++[v]))
    refine hnx1 _ _ ⟨_,rfl,a7,fun u hu=>?_,by simp,(rt.tk s4.ts).tk (s5.trans s7).ts,(rt2.tk s4.ts).tk (s5.trans s7).ts,hn4.same (s5.trans s7)⟩
    simp only [List.cons_append,List.nil_append,Qp,QA,or_false] at hu
    rcases hu with rfl | rfl | rfl
    ·exact ⟨L1,us1,ts1,rfl,nL1,s7 _ _ e5,ks5.same s7,tv5.same s7,hl5⟩
    ·exact ⟨L2,[],[],rfl,nL2,f7,KsV.nil,TupV.nil,by simp⟩
    ·exact pF.same (s5.trans s7)
   ·refine ⟨_,_,.inr (SqT.of (s46 _ _ eF)),aI _ _,rfl,_,rfl,a2P (by decide+kernel) ?_⟩
    exact hnx1 _ _ ⟨_,rfl,eP6,fun v hv=>by
     simp only [Qp,QA,or_false] at hv
     rcases hv with rfl | rfl
     ·exact pap1
     ·exact pap2,by simp,rtA,rtB,hn6⟩
  clear hF s4 hn4 s46 sPut sPut2 s5 s6 eP6 e26 pap1 pap2 hn5 hPL hL2 hL1 rt rt2 hn3 sm3 eq kf3 kt3
  rintro σ' H7 ⟨pv,rfl,eP,hpv,hpl,rt,rt2,hn7⟩
  refine Or.inl ⟨⟨pv,SqL.of eP⟩,?_⟩
  refine dZ (bZ pv) (fun j σ' H'=>∃ v9 v10 v11 v12 v13,σ'=[some (.ref sc),some (.ref p),some (.int (0+(i:Int))),some (.ref a),some (.str x),some (.ref b),some (.str y),some (.ref F),some (.ref PL),v9,v10,v11,v12,v13]/\Sm p p H7 H'/\NxAt K H H' p (i*2200+2000+10*j))
   ⟨_,_,_,_,_,rfl,fun b o e _ _=>e,hn7⟩ (by rintro j σ' H' _ ⟨_,_,_,_,_,_,s,_⟩;exact SqL.of (s _ _ eP nPL nPL)) ?_ ?_
  ·rintro j σ' H8 hj ⟨v9,v10,v11,v12,v13,rfl,sm8,hn8⟩
   have eg:pv.getD j .non=pv[j]:=by rw [Qb,Qa hj];rfl
   rw [eg]
   have pp:=(hpv _ (Qj hj)).nx hn7 sm8
   generalize pv[j]=vo at pp
   obtain ⟨q1,ps1,ts1,rfl,nq1,eq1,ks1,tv1,hl1⟩:=pp
   have rt8:=rt.tk (hn7.ts sm8)
   have rt28:=rt2.tk (hn7.ts sm8)
   refine ⟨H,p,a,b,q1,_,xs,ys,ps1,rows,rows2,ns,ns2,ts1,rfl,hn8,by omega,rt8,rt28,nq1,eq1,ks1,tv1,hl1,fun L2 us2 ts2 H9 nL2 e9 ks9 tv9 hl9 hn9 sm9=>⟨(show 2<=sizeLine by decide),fun l hl=>Or.inl ⟨⟨_,SqL.of a7⟩,?_⟩⟩⟩
   have s10:=Same.upd hl (.lst [V.ref q1,.ref L2])
   have e10:upd H9 l (.lst [V.ref q1,.ref L2]) l=some (.lst [V.ref q1,.ref L2]):=a7
   have sm10:Sm p p H7 (upd H9 l (.lst [V.ref q1,.ref L2])):=(sm8.trans sm9).trans s10.sm
   have hn10:=hn9.same s10
   have g1:=s10 _ _ (sm9 _ _ eq1 nq1 nq1)
   have k1:=(ks1.keep (hn8.rd sm9)).same s10
   have g2:=s10 _ _ e9
   have k2:=ks9.same s10
   have v1':=(tv1.tk (hn8.ts sm9)).same s10
   have v2':=tv9.same s10
   generalize upd H9 l (.lst [V.ref q1,.ref L2])=H10 at s10 e10 sm10 hn10 g1 k1 g2 k2 v1' v2'
   have rtX:=rt.tk (hn7.ts sm10)
   have rtY:=rt2.tk (hn7.ts sm10)
   have kf10:=Kn.ofNx kf hp hn10
   have kt10:=Kn.ofNx kt hp hn10
   refine dZ (bZ _) (fun j σ' H'=>∃ v10 v11 v12 v13,σ'=[some (.ref sc),some (.ref p),some (.int (0+(i:Int))),some (.ref a),some (.str x),some (.ref b),some (.str y),some (.ref F),some (.ref PL),some (.ref q1),v10,v11,v12,v13]/\Same H10 H')
    ⟨_,_,_,_,rfl,Same.refl _⟩ (by rintro j σ' H' _ ⟨_,_,_,_,_,s⟩;exact SqL.of (s _ _ e10)) ?_ ?_
   ·rintro m σ' H11 hm ⟨v10,v11,v12,v13,rfl,s11⟩
    obtain ⟨q2,ps2,ts2',eg2,eq2,ks2,tv2,hl2⟩:∃ q2 ps2 ts2',([V.ref q1,.ref L2]:List V).getD m .non=.ref q2/\H11 q2=some (.lst ps2)/\KsV H11 ps2 ((ts2':List Pr).map tgK)/\TupV H11 ps2/\ts2'.length<=500:=by
     have:m=0\/m=1:=by simp at hm;omega
     rcases this with rfl | rfl
     ·exact ⟨q1,ps1,ts1,rfl,s11 _ _ g1,k1.same s11,v1'.same s11,by omega⟩
     ·exact ⟨L2,us2,ts2,rfl,s11 _ _ g2,k2.same s11,v2'.same s11,hl9⟩
    rw [eg2]
    refine aL ⟨q2,ps2,rfl,.inl (SqL.of eq2),fun l3 hl3=>?_⟩
    have s12:=Same.upd hl3 (.lst ps2)
    have e12:upd H11 l3 (.lst ps2) l3=some (.lst ps2):=a7
    dsimp only
    generalize upd H11 l3 (.lst ps2)=H12 at s12 e12 ⊢
    have t12:=s11.trans s12
    refine aL ⟨a,b,l3,xs,ys,ps2,rows,rows2,ns,ns2,WW,WW,x,y,ts2',rfl,rtX.tk t12.ts,rtY.tk t12.ts,hw,hw,kf10.same t12,kt10.same t12,hx,hy,e12,ks2.same s12,by omega,fun bo H13 s13 hbo=>?_⟩
    have t13:=t12.trans s13
    refine aL ⟨a,b,q2,xs,ys,ps2,rows,rows2,ns,ns2,WW,WW,x,y,ts2',rfl,rtX.tk t13.ts,rtY.tk t13.ts,hw,hw,hx,hy,(s12.trans s13) _ _ eq2,ks2.same (s12.trans s13),tv2.same (s12.trans s13),fun bo2 H14 s14 hbo2=>?_⟩
    have ebo:bo=bo2:=by rw [Bool.eq_iff_iff,hbo,hbo2]
    subst ebo
    have s1214:=s13.trans s14
    dsimp only
    refine ⟨by decide,"bool",rfl,_,rfl,iteF ⟨rfl,_,rfl,?_⟩⟩
    rw [Qv (show V.bl bo=V.bl bo from rfl)]
    refine iteF ⟨l3,q2,ps2,rfl,rfl,SqL.of (s1214 _ _ e12),SqL.of (s1214 _ _ (s12 _ _ eq2)),ks2.refs,_,rfl,iteF ?_⟩
    exact ⟨_,_,_,_,rfl,t13.trans s14⟩
   ·rintro σ' H11 ⟨v10,v11,v12,v13,rfl,s11⟩
    exact ⟨_,_,_,_,_,rfl,sm10.trans s11.sm,(hn10.same s11).mono (by omega)⟩
  ·rintro σ' H8 ⟨v9,v10,v11,v12,v13,rfl,sm8,hn8⟩
   exact ⟨_,_,_,_,_,_,_,_,_,_,_,_,rfl,hn8.mono (by omega)⟩
end
abbrev pw:=PySem.Challenge.pw_coilkind_k21_papers_of_alike_ones
abbrev rwl:=PySem.Challenge.rw_coilkind_k21_papers_of_alike_ones
def view:Program:={pw with main:={pw.main with body:=([1,2,3,4,6,7,8,9,10,11,12,14,15,16,17,18,19,20,21,23,24,25,26,27,28,29,30,31,32,33,34,35,36,37,38,39,40]:List Nat).filterMap fun i=>pw.main.body[i]?}}
def fns:List (Str×Stmt):=[⟨"heads_of",fK⟩,⟨"rows_of",jR⟩,⟨"names_in",fM⟩,⟨"steps_in",fG⟩,⟨"moves_in",fT⟩,⟨"road_back",gG⟩,⟨"alike",oE⟩,⟨"is_alike_paper",bR⟩,⟨"parting_road",dX⟩,⟨"put_in_one",fH⟩,⟨"top_of",lE⟩,⟨"pairs_behind",cT⟩,⟨"pairs_met",gA⟩,⟨"is_upheld",eK⟩,⟨"_law_fill",iC⟩,⟨"_law_next",iI⟩,⟨"_law_turned",fU⟩,⟨"_law_words",eW⟩,⟨"_law_head",fP⟩,⟨"_law_telling",f9⟩,⟨"_law_any",jM⟩,⟨"_law_twin_head",bY⟩,⟨"_law_twin",i8⟩,⟨"_law_bent",fI⟩,⟨"_law_two",j8⟩,⟨"_law_row_here",eB⟩,⟨"_law_head_here",dD⟩,⟨"_law_on",fB⟩,⟨"_law_is_paper",cI⟩,⟨"_law_all_pairs",cC⟩,⟨"_law_bent_paper",cM⟩,⟨"law",lD⟩]
def vals:List (Str×V):=[]
def tups:List (Str×List V):=[⟨"WORDED",[.str "box",.str "pick"]⟩]
def dcts:List (Str×List DEnt):=[⟨"STEP_WORDS",[⟨"box",.inl (.str "part")⟩,⟨"pick",.inl (.str "case")⟩]⟩]
def nons:List Str:=["len","isinstance","all","range","bool","list","tuple","dict","zip"]
def trk:List (Str×List V):=[⟨"FROM",[.str "from"]⟩,⟨"TO",[.str "to"]⟩]
def clss:List ClsS:=[⟨"Net","Net.__init__",d8,["rows","heads","marks","moves"]⟩]
def look (K:Q0):=(fnsLook (without K (trkAs K trk)) fns,valsLook (without K (trkAs K trk)) vals,tupsLook (without K (trkAs K trk)) tups,dctsLook (without K (trkAs K trk)) dcts,noneLook (without K (trkAs K trk)) nons,tupsLook K trk,decide (trkAs K trk).Nodup,clsLook (without K (trkAs K trk)) clss)
def want (w:World):=(fnsWant fns,valsWant vals,tupsWant tups,dctsWant w dcts,true,tupsWant trk,true,clsWant clss)
theorem leftF (w:World):(PySem.W.openEnds treeTable pw (w.withFollow "special-get-raises" false) 2708).map (fun s=>(PySem.W.openSeen view ["STEP_WORDS"] (PySem.importedModules pw.main.body) (fun s=>PySem.W.xlAt view [] s&&PySem.W.recOk [] s) true s,(seeHook look want).obs s))=some (PySem.W.openGood view ["STEP_WORDS"],(seeHook look want).val (w.withFollow "special-get-raises" false)):=by kernel_rfl
theorem leftT (w:World):(PySem.W.openEnds treeTable pw (w.withFollow "special-get-raises" true) 2708).map (fun s=>(PySem.W.openSeen view ["STEP_WORDS"] (PySem.importedModules pw.main.body) (fun s=>PySem.W.xlAt view [] s&&PySem.W.recOk [] s) true s,(seeHook look want).obs s))=some (PySem.W.openGood view ["STEP_WORDS"],(seeHook look want).val (w.withFollow "special-get-raises" true)):=by kernel_rfl
theorem zY {K:Q0} {h:Heap} {mg:Str->Option Value} {w:World} (X:K.In h) (G:h.Ns mainGlobals mg) (e:look K=want w):TxtT K mg w:=by
 obtain ⟨eF,e⟩:=Prod.mk.inj e
 obtain ⟨eV,e⟩:=Prod.mk.inj e
 obtain ⟨eT,e⟩:=Prod.mk.inj e
 obtain ⟨eD,e⟩:=Prod.mk.inj e
 obtain ⟨eN,e⟩:=Prod.mk.inj e
 obtain ⟨eR,e⟩:=Prod.mk.inj e
 obtain ⟨eU,eC⟩:=Prod.mk.inj e
 obtain ⟨ts,r1,r2,r3⟩:=yB X G eR rfl
 have X':=sC (as:=trkAs K trk) X
 have sX:=tY X G eR 0 (x:="FROM") rfl
 have c_TO:=tY X G eR 1 (x:="TO") rfl
 obtain ⟨d_STEP_WORDS,u_STEP_WORDS,m_STEP_WORDS,z0_STEP_WORDS,nJ⟩:=a0t X' G (oY eD 0 (x:="STEP_WORDS") rfl) rfl (by decide+kernel)
 obtain ⟨v0_STEP_WORDS,rfl,z1_STEP_WORDS⟩:=a2B z0_STEP_WORDS
 obtain ⟨v1_STEP_WORDS,rfl,z2_STEP_WORDS⟩:=a2B z1_STEP_WORDS
 obtain rfl:=a2U z2_STEP_WORDS
 refine ⟨ts,r2,by rw [r1];exact Qt eU,?_,fun H hH=>⟨xE (r3 0 "FROM" _ rfl) hH,xE (r3 1 "TO" _ rfl) hH⟩⟩
 rw [r1]
 exact ⟨nn X' G eN 0,
  nn X' G eN 1,
  nn X' G eN 2,
  nn X' G eN 3,
  nn X' G eN 4,
  nn X' G eN 5,
  nn X' G eN 6,
  nn X' G eN 7,
  nn X' G eN 8,
  tu X' G eT 0,
  sX,
  c_TO,
  ⟨d_STEP_WORDS,m_STEP_WORDS,nJ⟩,
  fn1 X' G eF 0,
  fn1 X' G eF 1,
  fn1 X' G eF 2,
  fn1 X' G eF 3,
  fn2 X' G eF 4,
  fn2 X' G eF 5,
  fn4 X' G eF 6,
  fn5 X' G eF 7,
  fn3 X' G eF 8,
  fn3 X' G eF 9,
  fn2 X' G eF 10,
  fn3 X' G eF 11,
  fn3 X' G eF 12,
  fn4 X' G eF 13,
  fn2 X' G eF 14,
  fn2 X' G eF 15,
  fn2 X' G eF 16,
  fn1 X' G eF 17,
  fn3 X' G eF 18,
  fn2 X' G eF 19,
  fn2 X' G eF 20,
  fn2 X' G eF 21,
  fn2 X' G eF 22,
  fn2 X' G eF 23,
  fn2 X' G eF 24,
  fn2 X' G eF 25,
  fn2 X' G eF 26,
  fn2 X' G eF 27,
  fn5 X' G eF 28,
  fn2 X' G eF 29,
  fn4 X' G eF 30,
  fn1 X' G eF 31,
  clT2 X' G eC 0⟩
def dlaw:DefRec:=⟨"law",defArgs lD,defBody lD,defScope lD,(match lD with | .FunctionDef _ _ _ _ _ _ _ _ _ p=>p | _=>⟨0,0,0,0⟩)⟩
theorem walk {XP:(Str->Option Value)->Heap->Prop}:PySem.W.WalkO view ["STEP_WORDS"] XP (seeHook look want).says rwl.row.toRowW dlaw [] (fun f vs=>PySem.call f vs):=
 wL (l:=rwl) (n:=63) (k:=14) (x:="script") rfl (by decide) rfl ⟨rfl,by decide,by decide,rfl⟩ fun w mg fa h K X e G hmg=>by
  obtain ⟨ts,hts,nd,T,hk⟩:=zY X G e
  obtain ⟨f,fd,Fu,m,b⟩:=T.t_law
  rw [show dlaw.name="law" from rfl,m] at hmg
  cases hmg
  refine ⟨ts,fd,spLaw (without K (ts.map (·.1))) mg,hts,nd,fun s u=>?_,fun base kb nb=>?_,fun H a ns hl ht hS=>⟨a,ns,rfl,hS,hl,hk H ht,fun _=>rfl⟩⟩
  ·obtain ⟨oc,od,kV,doc,pm,an,cdv,ct,osl,rfl,lk,hcd⟩:=Fu.ex
   exact .of_eq rfl
  ·obtain ⟨f',fd',G',m',k',b',oc',od',osl',lk'⟩:=(a10 T:FnK rwl.prog w (without K (ts.map (·.1))) mg base 14 "law" ["script"] (spLaw (without K (ts.map (·.1))) mg))
   rw [m] at m'
   cases m'
   have e:fd=fd':=by
    obtain ⟨oc,od,kV,doc,pm,an,cdv,ct,osl,e1,lk,hcd⟩:=Fu.ex
    rw [lk] at lk'
    have:=QD lk'
    injection this with _ _ h3 _
    injection h3
   rw [e];exact G'
theorem hdef:PySem.W.defOf view rwl.row.name=some (dlaw,[]):=by kernel_rfl
theorem hprog:rwl.row.prog.theDef rwl.row.name=some (dlaw.params,dlaw.body,dlaw.scope):=by kernel_rfl
theorem hkw:PySem.W.kwWritten? dlaw.params.kwonlyargs dlaw.params.kw_defaults=some []:=by kernel_rfl
theorem hok:(PySem.W.chainsOk view&&PySem.W.opensWell rwl.row.prog&&(PySem.W.frees rwl.row.toRowW&&rwl.row.within.isEmpty))=true:=by kernel_rfl
theorem hbare:rwl.row.prog.bare:=⟨rfl,rfl,rfl,rfl,rfl,by decide+kernel⟩
theorem hprom:rwl.row.toRowW.promised:=by w_witness2
end T1
open PySem PySem.W PyProof.Rows L2
set_option maxRecDepth 100000 in
set_option maxHeartbeats 0 in
theorem PySem.Challenge.cw_coilkind_k21_papers_of_alike_ones_holds : PySem.Challenge.rw_coilkind_k21_papers_of_alike_ones.Holds := by
 o_law
 exact PySem.W.holds_open (q:=T1.view) (loose:=["STEP_WORDS"]) (Xt:=fun s=>xlAt T1.view [] s&&recOk [] s) (XP:=XL T1.view []) (Yf:=(seeHook T1.look T1.want).obs) (Ya:=(seeHook T1.look T1.want).val) (YP:=(seeHook T1.look T1.want).says) (N:=2708)
  (wC "special-get-raises" T1.leftF T1.leftT) (seeHook T1.look T1.want).of (seeHook T1.look T1.want).keeps (fun s e=>xl_of s (Bool.and_eq_true_iff.mp e).1) XL.keeps T1.hdef T1.hprog T1.hkw (fun s e=>recFacts_of (Bool.and_eq_true_iff.mp e).2) rfl (by assumption) T1.hok T1.hbare T1.hprom T1.walk

