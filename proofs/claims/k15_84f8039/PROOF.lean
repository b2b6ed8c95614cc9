import PyProof.Rows.All
import Wide.All
import OpenK.AllK
import Wide.FinOn
import Lean
import PyProof.EqAt
import PyProof.EqKinds
import PyProof.TupleCall
import PyProof.DictCompW
import PyProof.AutoListH
import PyProof.EnumMake
import PyProof.ZipIter
import PyProof.AttrMissSeq
import KE.KDictOf
import PyProof.ReprLen
import PyProof.StrLawsRepr
import KE.KUnpackStar
import PyProof.DictWalks
import PyProof.Rows.DictUnroll
import PyProof.Rows.Range3
import PyProof.Rows.ChunkEnd
import PyProof.Rows.ChunkLeaf
import PyProof.StrCalls2
import PyProof.StrLawsTight
import PyProof.StrLawsChain
import PyProof.Rows.StrSplitJoin
import PyProof.Conv_int_bool
import PyProof.Rows.TupMore
import PyProof.StrLawsIn
import PyProof.Rows.StrCut
import PyProof.StrCalls
import PyProof.CallFns
import PyProof.FString5
import PyProof.NsCount
import PyProof.Rows.SetFrom
import PyProof.SetRoads
import KE.KRevIter
import PyProof.CollectIter
import PyProof.TupleOfGen
import KE.KItemsList
import PyProof.NeKinds
import PyProof.DictItems
import KE.KPairComp
import PyProof.DictValues
import PyProof.SumWalk
import PyProof.ConsumeWalk
import PyProof.SumAny
import PyProof.FactsAll.range_2
import PyProof.WalksMore
import PyProof.MinMaxWalk
import PyProof.SeqI3
import PyProof.ExcClass3
import PyProof.ExcInit
import OpenK.KMake
import OpenK.KCls
import PyProof.InstStoreFacts
import PyProof.StationsW
import PyProof.RulesAs
import PyProof.NsDelKeeps
import PyProof.ExcAttrAll.ValueError
import KE.KDictList
import KE.KDictLaws
import PyProof.Rows.FStr
import KE.KIsAll
import KE.KStrOpen
import KE.KSortTup
import PyProof.SetKind
import PyProof.TupleKey
import PyProof.IsRules
import PySem.Challenge.RW_coilkind_k15_roads_of_so_many_steps
set_option Elab.async false
set_option linter.all false
set_option maxRecDepth 100000
section
open PySem PySem.Spec PyProof.Rows
abbrev Qa := @List.getElem?_eq_getElem
abbrev Qb := @List.getD_eq_getElem?_getD
abbrev Qc := @Heap.get?_push_of_some
abbrev Qd := @Heap.get?_push_size
abbrev Qe := @List.getElem_append_left
abbrev Qf := @List.getElem_append_right
abbrev Qh := @List.mem_cons_of_mem
abbrev Qi := @List.getElem_of_mem
abbrev Qj := @List.getElem_mem
abbrev Qk := @List.length_append
abbrev Ql := @List.length_map
abbrev Qm := @List.map_append
abbrev Qn := @List.map_map
abbrev Qo := @List.take_length
abbrev Qp := @List.mem_cons
abbrev Qq := @List.getElem?_map
abbrev Qr := @List.getElem_map
abbrev Qs := @List.take_add_one
abbrev Qt := @of_decide_eq_true
abbrev Qv := @decide_eq_true
abbrev Qw := @decide_eq_false
abbrev Qx := @Nat.lt_of_succ_lt
abbrev Qy := @Nat.le_refl
abbrev Qz := @Heap.lt_size
abbrev QA := @List.mem_nil_iff
abbrev QB := @Function.comp_def
abbrev QC := @List.mem_of_getElem?
abbrev QD := @Option.some.inj
abbrev QE := @Bool.false_xor
abbrev QG := @PyProof.Rows.boot_tuple
abbrev QH := @PySem.F.plainAttrs_list
abbrev QJ := @PySem.F.slot_list_append
abbrev QK := @PySem.F.type_list_append
abbrev QL := @sizeLine_eq
abbrev QM := @List.drop_eq_getElem_cons
abbrev QR := @List.eq_nil_of_length_eq_zero
abbrev QS := @wpAny_bind
abbrev QT := @wpAny_pure
abbrev QZ := PySem.W.Frag
end
variable {us:List PySem.Value} {u v:PySem.Value} {a b it p f C l:PySem.Addr} {o:PySem.Obj} {h h' base:PySem.Heap} {P prog:PySem.Program} {w:PySem.World} {α:Type} {x name qual y:PySem.Str} {e tg:PySem.Expr} {pins:List (PySem.Addr×PySem.Obj)} {s:PySem.Shared} {t' i j n ep:Nat} {ch fp:List PySem.Addr} {N ns ps own N' ws ss:List PySem.Str} {M:PySem.Model} {A:PySem.Around} {E Q:PySem.Value->PySem.Shared->Prop} {op:PySem.CmpOp} {rest es ifs Ah:List PySem.Expr} {body:List PySem.Stmt} {mA mg:PySem.Str->Option PySem.Value} {R:PySem.Result->PySem.Shared->Prop} {kw:List (PySem.Str×PySem.Value)} {env:PySem.Env} {fd:PySem.FuncData} {outer:List PySem.Env} {apos cpos:PySem.Pos} {sc scope:PySem.Scope} {T:String} {XP:(PySem.Str->Option PySem.Value)->PySem.Heap->Prop} {idx:List Nat} {cl:List (PySem.Str×PySem.Addr)} {G:Array PySem.GenState->Array PySem.GenState->Prop} {rs:List (List (List PySem.Str))} {dct:Option PySem.Addr}
theorem hdn {p:Prop} (h:∀ G:Prop,(p->G)->G):p:=h p id
namespace L2
open PySem PySem.Spec PyProof.Rows
abbrev Key:=Sum Int Str
end L2
variable {vs:List (L2.Key×PySem.Value)} {xs:List (List L2.Key×PySem.Addr×PySem.Value)}
namespace L2
open PySem PySem.Spec PyProof.Rows
def A8:Key->Value->Bool
 | .inl k,v=>Value.isInt k v
 | .inr x,v=>Value.isStrOf x v
def Ca (w:World):Key->Int
 | .inl k=>hashInt k
 | .inr x=>hashStr w x
theorem bI:∀ {k:Key} {v:Value},A8 k v=true->(∃ i t,k=Sum.inl i/\v=Value.int i t)\/(∃ x t,k=Sum.inr x/\v=Value.str x t)
 | .inl i,v,h=>by
  obtain ⟨t,e⟩:=Value.isInt_shape (k:=i) (v:=v) h
  exact .inl ⟨i,t,rfl,e⟩
 | .inr x,v,h=>by
  obtain ⟨t,e⟩:=Value.isStrOf_shape (x:=x) (v:=v) h
  exact .inr ⟨x,t,rfl,e⟩
theorem vT (i:Int) (t:Tok):A8 (.inl i) (.int i t)=true:=by simp [A8,Value.isInt]
theorem vF (x:Str) (t:Tok):A8 (.inr x) (.str x t)=true:=by simp [A8,Value.isStrOf]
theorem NH (a b:Int):decide ((Sum.inl a:Key)=Sum.inl b)=(a==b):=by
 by_cases e:a=b
 ·subst e;simp
 ·have h:¬(Sum.inl a:Key)=Sum.inl b:=fun q=>e (Sum.inl.inj q)
  rw [Qw h]
  exact (beq_eq_false_iff_ne.mpr e).symm
theorem NI (a b:Str):decide ((Sum.inr a:Key)=Sum.inr b)=decide (a=b):=by
 by_cases e:a=b
 ·subst e;simp
 ·have h:¬(Sum.inr a:Key)=Sum.inr b:=fun q=>e (Sum.inr.inj q)
  rw [Qw h,Qw e]
theorem NJ (a:Int) (b:Str):decide ((Sum.inl a:Key)=Sum.inr b)=false:=Qw (fun q=>nomatch q)
theorem NK (a:Str) (b:Int):decide ((Sum.inr a:Key)=Sum.inl b)=false:=Qw (fun q=>nomatch q)
def cj (prog:Program) (w:World):PySem.KeyKind prog w Key where
 is:=A8
 hash:=Ca w
 inj:=fun v a b ha hb=>by
  rcases bI ha with ⟨i,t,rfl,rfl⟩ | ⟨x,t,rfl,rfl⟩
  ·rcases bI hb with ⟨j,u,rfl,e⟩ | ⟨y,u,rfl,e⟩
   ·injection e with e1 _;rw [e1]
   ·exact nomatch e
  ·rcases bI hb with ⟨j,u,rfl,e⟩ | ⟨y,u,rfl,e⟩
   ·exact nomatch e
   ·injection e with e1 _;rw [e1]
 byValue:=fun k v h=>by
  rcases bI h with ⟨i,t,rfl,rfl⟩ | ⟨x,t,rfl,rfl⟩<;>rfl
 pyHash:=fun hv h=>by
  rcases bI hv with ⟨i,t,rfl,rfl⟩ | ⟨x,t,rfl,rfl⟩
  ·exact wpAny_pyHash_int h
  ·exact wpAny_pyHash_str h
 eqBool:=fun hu hv h=>by
  rcases bI hu with ⟨i,t,rfl,rfl⟩ | ⟨x,t,rfl,rfl⟩
  ·rcases bI hv with ⟨j,u,rfl,rfl⟩ | ⟨y,u,rfl,rfl⟩
   ·rw [NH] at h;exact wpAny_eqBool_int h
   ·rw [NJ] at h;exact SeqAt.EqAt.int_str i t y u _ _ _ _ h
  ·rcases bI hv with ⟨j,u,rfl,rfl⟩ | ⟨y,u,rfl,rfl⟩
   ·rw [NK] at h;exact SeqAt.EqAt.str_int x t j u _ _ _ _ h
   ·rw [NI] at h;exact wpAny_eqBool_str h
 «strs»:=fun k x t v h=>by
  rcases bI h with ⟨i,u,rfl,e⟩ | ⟨y,u,rfl,e⟩
  ·exact nomatch e
  ·injection e with e1 _
   subst e1
   cases v<;>rfl
theorem qF (prog:Program) (w:World) (i:Int) (t:Tok):(cj prog w).is (.inl i) (.int i t)=true:=vT i t
theorem g9 (prog:Program) (w:World) (x:Str) (t:Tok):(cj prog w).is (.inr x) (.str x t)=true:=vF x t
inductive V where
 | ao | bl (b:Bool) | int (i:Int) | str (x:Str) | mq (b:Array UInt8) | Ai (b:UInt64) | ref (a:Addr) | ty (n:String)
 deriving DecidableEq
def RelV:V->Value->Prop
 | .ao,u=>u=Value.none
 | .bl b,u=>u=Value.bool b
 | .int i,u=>∃ t,u=Value.int i t
 | .str x,u=>∃ t,u=Value.str x t
 | .mq b,u=>∃ t,u=Value.bytes b t
 | .Ai b,u=>∃ t,u=Value.float b t
 | .ref a,u=>u=Value.ref a
 | .ty n,u=>u=Value.type n
abbrev a_:List V->List Value->Prop:=Paired RelV
theorem a_.length {xs:List V} {us:List Value} (r:a_ xs us):xs.length=us.length:=Paired.length r
theorem a_.get:∀ {xs:List V} {us:List Value} {i:Nat} {x:V},a_ xs us->xs[i]? =some x->∃ u,us[i]? =some u/\RelV x u
 | _,_,_,_,.nil,e=>by simp at e
 | _,_,0,_,.cons r _,e=>by simp at e;subst e;exact ⟨_,rfl,r⟩
 | _,_,i+1,x,.cons _ t,e=>by
  obtain ⟨u,h1,h2⟩:=a_.get (i:=i) (x:=x) t (by simpa using e)
  exact ⟨u,by simpa using h1,h2⟩
theorem a_.set {x:V} {u:Value} (r:RelV x u):∀ {xs:List V} {us:List Value} (i:Nat),a_ xs us->a_ (xs.set i x) (us.set i u)
 | _,_,_,.nil=>.nil
 | _,_,0,.cons _ t=>.cons r t
 | _,_,i+1,.cons q t=>.cons q (a_.set r i t)
theorem a_.append:∀ {xs ys:List V} {us ws:List Value},a_ xs us->a_ ys ws->a_ (xs++ys) (us++ws)
 | _,_,_,_,.nil,s=>s
 | _,_,_,_,.cons r t,s=>.cons r (a_.append t s)
theorem a_.take:∀ {xs:List V} {us:List Value} (n:Nat),a_ xs us->a_ (xs.take n) (us.take n)
 | _,_,0,_=>.nil
 | _,_,_+1,.nil=>.nil
 | _,_,n+1,.cons r t=>.cons r (a_.take n t)
theorem a_.drop:∀ {xs:List V} {us:List Value} (n:Nat),a_ xs us->a_ (xs.drop n) (us.drop n)
 | _,_,0,r=>r
 | _,_,_+1,.nil=>.nil
 | _,_,n+1,.cons _ t=>a_.drop n t
def jh:Option V->Option Value->Prop
 | some v,some u=>RelV v u
 | none,none=>True
 | _,_=>False
def KV {κ:Type}:List (κ×V)->List (κ×Value)->Prop:=Paired fun (p:κ×V) (q:κ×Value)=>p.1=q.1/\RelV p.2 q.2
def kV:Key->V
 | .inl i=>.int i
 | .inr x=>.str x
inductive HO where
  | lst (xs:List V)
  | tup (xs:List V)
  | dK (kvs:List (Key×V)) | dT (kvs:List (List Key×V))
  | set (S:Int->Bool) (n:Nat)
  | ins (C dx:Addr) (fs:List (Str×V))
  | own (x:Addr)
  | xd (fs:List (Str×V))
  | met (f x:Addr)
  | DR (lo hi:Int)
  | af (o:Obj) (u:HO)
  | yq (ps:Array Value)
  | ext (φ:Heap->Prop)
abbrev Hp:=Addr->Option HO
end L2
variable {H H' H0:L2.Hp}
namespace L2
open PySem PySem.Spec PyProof.Rows
def upd (H:Hp) (a:Addr) (o:HO):Hp:=fun b=>if b=a then some o else H b
theorem aA {o:HO}:upd H a o a=some o:=by unfold upd;rw [if_pos rfl]
theorem aF {o:HO} (h:b≠a):upd H a o b=H b:=by unfold upd;rw [if_neg h]
theorem kK {o u:HO}:upd (upd H a o) a u=upd H a u:=by
 funext b;unfold upd;split<;>rfl
theorem aP {o:HO} (h:H a=some o) (h':H b=none):a≠b:=by
 intro e;subst e;rw [h] at h';cases h'
def Aj (h:Heap) (a:Addr):Prop:=∀ o,h.get? a=some o->o.dict=none
theorem Aj.new {ob:Obj} (h0:ob.isFreed=false) (hd:ob.dict=none):Aj (h.push ob) h.objs.size:=fun o q=>by rw [Qd _ h0] at q;cases q;exact hd
def bj (H:Hp) (b:Addr) (ys:List V):Prop:=H b=some (.tup ys)\/∃ o,H b=some (.af o (.tup ys))
theorem bj.upd {H:Hp} {b a:Addr} {ys:List V} {o:HO} (r:bj H b ys) (ne:∀ u,H b=some u->b≠a):bj (L2.upd H a o) b ys:=by
 rcases r with r | ⟨ob,r⟩
 ·exact .inl (by rw [aF (ne _ r)];exact r)
 ·exact .inr ⟨ob,by rw [aF (ne _ r)];exact r⟩
section
variable (P:Program) (w:World)
def bf (H:Hp) (h:Heap) (a:Addr):HO->Prop
 | .lst xs=>xs.length<=sizeLine/\∃ (its:List Value) (n:Nat),a_ xs its/\h.get? a=some {cls:=.type "list",data:=.seq its.toArray n}
 | .tup xs=>(xs.length<=sizeLine/\Aj h a)/\∃ its:List Value,a_ xs its/\IsTup h a its.toArray
 | .dK kvs=>kvs.length<=sizeLine/\(a==sysModules)=false/\∃ vs,KV kvs vs/\h.DictOf (cj P w) a vs
 | .dT kvs=>kvs.length<=sizeLine/\(a==sysModules)=false/\∃ xs:List (List Key×Addr×Value),
   Paired (fun (p:List Key×V) (q:List Key×Addr×Value)=>p.1=q.1/\bj H q.2.1 (p.1.map kV)/\RelV p.2 q.2.2) kvs xs/\
   ∃ o es ep,h.get? a=some o/\o.ExactDict/\o.data=.dict es ep/\es.toList=xs.map (entryOfKey (tupleKind (cj P w)))/\(xs.map (·.1)).Nodup
 | .set S n=>h.SetOf (intKind P w) a S n
 | .ins C dx fs=>H dx=some (.own a)/\fs.length<=1000/\dx≠a/\h.get? a=some (PySem.W.instObj C dx)/\
   ∃ mA,h.Ns1 dx mA/\(∀ f,jh (fs.lookup f) (mA f))/\PySem.Within mA (fs.map (·.1))
 | .own _=>∃ o,h.get? a=some o
 | .xd fs=>∃ mA,h.Ns1 a mA/\∀ f,jh (fs.lookup f) (mA f)
 | .DR lo hi=>∃ t u v,h.get? a=some {cls:=.type "range",data:=.fields #[.int lo t,.int hi u,.int 1 v]}
 | .af o u=>h.get? a=some o/\bf H h a u
 | .yq ps=>h.get? a=some {cls:=.none,data:=.fields ps}
 | .met f x=>h.get? a=some (PySem.W.methodObj (.ref f) (.ref x))
 | .ext φ=>φ h/\(∃ o,h.get? a=some o)/\∀ h1 h2:Heap,φ h1->(∀ o,h1.get? a=some o->h2.get? a=some o)->φ h2
def b_ (H:Hp) (h:Heap):Prop:=∀ a o,H a=some o->bf P w H h a o
end
section
variable {o:HO}
theorem bf.lt (x:bf P w H h a o):a < h.objs.size:=by
 cases o with
 | lst xs=>obtain ⟨_,_,_,_,e⟩:=x;exact Qz e
 | tup xs=>obtain ⟨_,_,_,p⟩:=x;exact p.lt
 | dK kvs=>obtain ⟨_,_,_,_,o,_,_,e,_⟩:=x;exact Qz e
 | dT kvs=>obtain ⟨_,_,_,_,o,_,_,e,_⟩:=x;exact Qz e
 | set S n=>obtain ⟨o,_,_,_,e,_⟩:=x;exact Qz e
 | ins C dx fs=>obtain ⟨_,_,_,e,_⟩:=x;exact Qz e
 | own y=>obtain ⟨_,e⟩:=x;exact Qz e
 | xd fs=>obtain ⟨_,⟨_,_,_,e,_⟩,_⟩:=x;exact Qz e
 | DR lo hi=>obtain ⟨_,_,_,e⟩:=x;exact Qz e
 | af ob u=>obtain ⟨e,_⟩:=x;exact Qz e
 | yq ps=>exact Qz (show h.get? a=some _ from x)
 | met f y=>exact Qz (show h.get? a=some _ from x)
 | ext φ=>obtain ⟨_,⟨_,e⟩,_⟩:=x;exact Qz e
theorem Paired.FQ {α β:Type} {F G:α->β->Prop}:∀ {l₁:List α} {l₂:List β},Paired F l₁ l₂->(∀ a b,F a b->G a b)->Paired G l₁ l₂
 | _,_,.nil,_=>.nil
 | _,_,.cons r t,f=>.cons (f _ _ r) (Paired.FQ t f)
theorem bf.stay (x:bf P w H h a o) (k:∀ b u,(b=a\/H b=some (.own a))->h.get? b=some u->h'.get? b=some u)
  (ho:∀ b,H b=some (.own a)->H' b=some (.own a)) (ht:∀ b xs,bj H b xs->bj H' b xs):bf P w H' h' a o:=by
 induction o with
 | lst xs=>obtain ⟨z,its,n,r,e⟩:=x;exact ⟨z,its,n,r,k _ _ (.inl rfl) e⟩
 | tup xs=>obtain ⟨⟨z,nd⟩,its,r,ob,e,c⟩:=x;exact ⟨⟨z,fun o q=>by rw [k _ _ (.inl rfl) e] at q;cases q;exact nd _ e⟩,its,r,ob,k _ _ (.inl rfl) e,c⟩
 | dK kvs=>obtain ⟨z,y,vs,r,ob,es,ep,e,c⟩:=x;exact ⟨z,y,vs,r,ob,es,ep,k _ _ (.inl rfl) e,c⟩
 | dT kvs=>
  obtain ⟨z,y,xs,r,ob,es,ep,e,c⟩:=x
  exact ⟨z,y,xs,Paired.FQ r fun p q z=>⟨z.1,ht _ _ z.2.1,z.2.2⟩,ob,es,ep,k _ _ (.inl rfl) e,c⟩
 | set S n=>obtain ⟨ob,es,ep,t,e,c⟩:=x;exact ⟨ob,es,ep,t,k _ _ (.inl rfl) e,c⟩
 | ins C dx fs=>
  obtain ⟨d,z,ne,e,mA,⟨od,es,ep,e2,c⟩,r⟩:=x
  exact ⟨ho _ d,z,ne,k _ _ (.inl rfl) e,mA,⟨od,es,ep,k _ _ (.inr d) e2,c⟩,r⟩
 | own y=>obtain ⟨ob,e⟩:=x;exact ⟨ob,k _ _ (.inl rfl) e⟩
 | xd fs=>obtain ⟨mA,⟨od,es,ep,e,c⟩,r⟩:=x;exact ⟨mA,⟨od,es,ep,k _ _ (.inl rfl) e,c⟩,r⟩
 | DR lo hi=>obtain ⟨t,u,v,e⟩:=x;exact ⟨t,u,v,k _ _ (.inl rfl) e⟩
 | af ob u ih=>obtain ⟨e,q⟩:=x;exact ⟨k _ _ (.inl rfl) e,ih q⟩
 | yq ps=>
  have e:h.get? a=some {cls:=.none,data:=.fields ps}:=x
  show h'.get? a=some {cls:=.none,data:=.fields ps}
  exact k a _ (.inl rfl) e
 | met f y=>
  have e:h.get? a=some (PySem.W.methodObj (.ref f) (.ref y)):=x
  show h'.get? a=some (PySem.W.methodObj (.ref f) (.ref y))
  exact k a _ (.inl rfl) e
 | ext φ=>obtain ⟨p,⟨o,e⟩,st⟩:=x;exact ⟨st _ _ p fun o q=>k _ _ (.inl rfl) q,⟨o,k _ _ (.inl rfl) e⟩,st⟩
theorem b_.lt (x:b_ P w H h) (e:H a=some o):a < h.objs.size:=(x a o e).lt
theorem b_.fresh (x:b_ P w H h) (e:h.objs.size<=a):H a=none:=by
 cases q:H a with
 | none=>rfl
 | some u=>exact absurd (Nat.lt_of_lt_of_le (x.lt q) e) (Nat.lt_irrefl _)
theorem b_.kept (x:b_ P w H h) (k:∀ b u,h.get? b=some u->h'.get? b=some u):b_ P w H h':=fun a o e=>
 (x a o e).stay (fun b u _ q=>k b u q) (fun _ q=>q) fun _ _ q=>q
theorem b_.laid (x:b_ P w H h) (k:∀ b u,h.get? b=some u->h'.get? b=some u) (hp:h.objs.size<=a) (new:bf P w (upd H a o) h' a o):b_ P w (upd H a o) h':=fun b u e=>by
 have hn:=x.fresh hp
 by_cases hb:b=a
 ·subst hb;rw [aA] at e;cases e;exact new
 ·rw [aF hb] at e
  exact (x b u e).stay (fun c v _ q=>k c v q) (fun c q=>by rw [aF (aP q hn)];exact q) fun c xs q=>q.upd fun u hu=>aP hu hn
end
def Rd (H:Hp) (a:Addr) (u:HO):Prop:=H a=some u\/∃ o,H a=some (.af o u)
theorem Rd.ok {u:HO} (r:Rd H a u) (x:b_ P w H h):bf P w H h a u:=by
 rcases r with r | ⟨o,r⟩
 ·exact x a u r
 ·obtain ⟨_,q⟩:=x a _ r
  exact q
def A9:Option HO->Prop
 | some (.lst _)=>True
 | some (.dK _)=>True
 | some (.dT _)=>True
 | some (.set _ _)=>True
 | some (.ins _ _ _)=>True
 | some (.ext _)=>True
 | _=>False
section
variable {x e:Addr} {o':HO}
theorem b_.write (ok:b_ P w H h) (mu:A9 (H x)) (he:e=x\/H e=some (.own x)) (k:∀ b u,b≠e->h.get? b=some u->h'.get? b=some u) (xm:∃ u,h'.get? e=some u)
  (new:bf P w (upd H x o') h' x o'):b_ P w (upd H x o') h':=fun b u q=>by
 have Jk:∀ c y,H c=some (.own y)->c≠x:=fun c y r z=>by subst z;rw [r] at mu;exact mu
 have XM:∀ c xs,H c=some (.tup xs)->c≠x:=fun c xs r z=>by subst z;rw [r] at mu;exact mu
 by_cases hb:b=x
 ·subst hb;rw [aA] at q;cases q;exact new
 ·rw [aF hb] at q
  by_cases Ak:b=e
  ·have q':H b=some (.own x):=by
    rcases he with z | z
    ·exact absurd (Ak.trans z) hb
    ·rw [Ak];exact z
   rw [q] at q';cases q'
   obtain ⟨v,hv⟩:=xm
   exact ⟨v,by rw [Ak];exact hv⟩
  ·refine (ok b u q).stay (fun c v hc r=>k c v ?_ r) (fun c r=>by rw [aF (Jk c b r)];exact r) fun c xs r=>r.upd fun _ _ z=>by
    subst z
    rcases r with r | ⟨_,r⟩<;>(rw [r] at mu;exact mu)
   rcases hc with rfl | hc
   ·exact Ak
   ·rintro rfl
    rcases he with z | z
    ·exact Jk c b hc z
    ·rw [hc] at z;cases z;exact hb rfl
end
structure Un (fs ex:List Addr) (H H':Hp) (h h':Heap):Prop where
 keep:∀ b o,h.get? b=some o->H b=none->b ∉ fs->b ∉ ex->h'.get? b=some o
 slot:∀ b o,h.get? b=some o->H b=none->b∈fs->b ∉ ex->∃ sl,h'.get? b=some {o with slots:=sl}
 free:∀ b o,h.get? b=some o->H b=none->b ∉ ex->H' b=none
 there:∀ b o,h.get? b=some o->b ∉ ex->∃ o',h'.get? b=some o'
 tups:∀ b xs,H b=some (.tup xs)->H' b=some (.tup xs)
 jy:∀ b o u,H b=some (.af o u)->H' b=some (.af o u)
 ky:∀ b ps,H b=some (.yq ps)->∃ more,H' b=some (.yq (ps++more))
section
variable {fs NL ex XN:List Addr} {H1 H2:Hp} {h1 h2:Heap} {x e:Addr} {o:HO}
theorem Un.any (u:Un fs ex H H1 h h1) {ob:Obj} (q:h.get? b=some ob) (n:H b=none) (hx:b ∉ ex):∃ sl,h1.get? b=some {ob with slots:=sl}:=by
 by_cases hb:b∈fs
 ·exact u.slot b ob q n hb hx
 ·exact ⟨ob.slots,u.keep b ob q n hb hx⟩
theorem Un.trans (a:Un fs ex H H1 h h1) (b:Un fs ex H1 H2 h1 h2):Un fs ex H H2 h h2 where
 keep:=fun c ob q n hc hx=>b.keep c ob (a.keep c ob q n hc hx) (a.free c ob q n hx) hc hx
 slot:=fun c ob q n hc hx=>by
  obtain ⟨sl,e1⟩:=a.slot c ob q n hc hx
  obtain ⟨Cb,e2⟩:=b.slot c _ e1 (a.free c ob q n hx) hc hx
  exact ⟨Cb,e2⟩
 free:=fun c ob q n hx=>by
  obtain ⟨o',e1⟩:=a.there c ob q hx
  exact b.free c o' e1 (a.free c ob q n hx) hx
 there:=fun c ob q hx=>by
  obtain ⟨o',e1⟩:=a.there c ob q hx
  exact b.there c o' e1 hx
 tups:=fun c xs q=>b.tups c xs (a.tups c xs q)
 jy:=fun c ob xs q=>b.jy c ob xs (a.jy c ob xs q)
 ky:=fun c ps q=>by
  obtain ⟨m1,e1⟩:=a.ky c ps q
  obtain ⟨m2,e2⟩:=b.ky c _ e1
  exact ⟨m1++m2,by rw [e2,Array.append_assoc]⟩
theorem Un.kept (k:∀ b u,h.get? b=some u->h'.get? b=some u):Un fs ex H H h h':=
 ⟨fun b ob q _ _ _=>k b ob q,fun b ob q _ _ _=>⟨ob.slots,k b ob q⟩,fun _ _ _ n _=>n,fun b ob q _=>⟨ob,k b ob q⟩,fun _ _ q=>q,fun _ _ _ q=>q,fun _ ps q=>⟨#[],by rw [q];simp⟩⟩
theorem Un.refl:Un fs ex H H h h:=Un.kept fun _ _ q=>q
theorem Un.laid (k:∀ b u,h.get? b=some u->h'.get? b=some u) (hp:h.objs.size<=a) (hn:H a=none):Un fs ex H (upd H a o) h h' where
 keep:=fun b u q _ _ _=>k b u q
 slot:=fun b u q _ _ _=>⟨u.slots,k b u q⟩
 free:=fun b u q n _=>by rw [aF (Nat.ne_of_lt (Nat.lt_of_lt_of_le (Qz q) hp))];exact n
 there:=fun b u q _=>⟨u,k b u q⟩
 tups:=fun b xs q=>by rw [aF (aP q hn)];exact q
 jy:=fun b u xs q=>by rw [aF (aP q hn)];exact q
 ky:=fun b ps q=>⟨#[],by rw [aF (aP q hn),q];simp⟩
theorem Un.write (mu:A9 (H x)) (he:e=x\/H e=some (.own x)) (k:∀ b u,b≠e->h.get? b=some u->h'.get? b=some u) (xm:∃ u,h'.get? e=some u):Un fs ex H (upd H x o) h h':=by
 have hx:∀ b,H b=none->b≠x:=fun b n z=>by subst z;rw [n] at mu;exact mu
 have hb:∀ b,H b=none->b≠e:=fun b n z=>by
  subst z
  rcases he with r | r
  ·exact hx b n r
  ·rw [n] at r;cases r
 have hm:∀ b u,H b=some u->¬A9 (some u)->b≠x:=fun b u q nm z=>by subst z;rw [q] at mu;exact nm mu
 refine ⟨fun b u q n _ _=>k b u (hb b n) q,fun b u q n _ _=>⟨u.slots,k b u (hb b n) q⟩,fun b u q n _=>by rw [aF (hx b n)];exact n,fun b u q _=>?_,
  fun b xs q=>by rw [aF (hm b _ q fun z=>z)];exact q,fun b u xs q=>by rw [aF (hm b _ q fun z=>z)];exact q,fun b ps q=>⟨#[],by rw [aF (hm b _ q fun z=>z),q];simp⟩⟩
 by_cases Ak:b=e
 ·subst Ak;exact xm
 ·exact ⟨u,k b u Ak q⟩
end
def jb (h:Heap) (H:Hp):List Addr:=(List.range h.objs.size).filter fun a=>(H a).isSome
def xn (h:Heap) (H:Hp):Heap:=PySem.W.hideAll h (jb h H)
theorem vJ (h:Heap) (H:Hp):(xn h H).objs.size=h.objs.size:=PySem.W.hideAll_size _ _
theorem xJ (e:h.get? b=some o) (n:H b=none):(xn h H).get? b=some o:=
 PySem.W.hideAll_get _ e fun hm=>by
  have q:(H b).isSome=true:=(List.mem_filter.mp hm).2
  rw [n] at q;simp at q
theorem NN (e:(xn h H).get? b=some o):h.get? b=some o/\H b=none:=by
 have e':h.get? b=some o:=PySem.W.of_hideAll (jb h H) e
 refine ⟨e',?_⟩
 cases q:H b with
 | none=>rfl
 | some x=>
  have hm:b∈jb h H:=List.mem_filter.mpr ⟨List.mem_range.mpr (Qz e'),by simp [q]⟩
  have z:(xn h H).get? b=none:=PySem.W.hideAll_none (jb h H) hm
  rw [z] at e;cases e
structure Mod (K:QZ) (mg:Str->Option Value) (base:Heap):Prop where
 A_:K.In base
 glob:base.Ns mainGlobals mg
 blt:∃ mb,base.Ns builtinsNs mb/\∀ x:Str,x≠"__name__"->mb x=bootBuiltins x
 nolimit:base.NoLimit
structure Cx where
 prog:Program
 w:World
 K:QZ
 mg:Str->Option Value
 base:Heap
 A:Around
 N:List Str
 s₀:Shared
 H₀:Hp
 env:Env
 outer:List Env
 stack:List Env
 ex:List Addr
 fn:Str->Bool
 calm:Bool
 pn:List (Addr×Obj)
 xe:Value->Shared->Prop
end L2
variable {X:L2.Cx}
namespace L2
open PySem PySem.Spec PyProof.Rows
def fm (l:List Env):List Addr:=l.filterMap (·.frame)
abbrev Cx.fs (X:Cx):List Addr:=fm X.outer
def Cc (sc:Scope) (x:Str):Prop:=sc.names.lookup x=some .local\/sc.names.lookup x=some .cell\/sc.names.lookup x=some .free
def Loc (sc:Scope) (x:Str):Prop:=sc.names.lookup x=some .local\/sc.names.lookup x=some .cell
def Look (env:Env) (h:Heap) (m:Str->Option Value) (x:Str) (u:Value):Prop:=
 (env.kindOf x=some .local/\m x=some u)\/((env.kindOf x=some .cell\/env.kindOf x=some .free)/\∃ c,env.cells.lookup x=some c/\h.IsCell c (some u))
structure Cx.Ok (X:Cx):Prop where
 mod:Mod X.K X.mg X.base
 kind:X.env.scope.kind=.function
 glob:X.env.globals=mainGlobals
 blt:X.env.builtins=builtinsNs
 above:X.s₀.heap.objs.size<=X.env.locals
 inj:∀ x y c,X.env.cells.lookup x=some c->X.env.cells.lookup y=some c->x=y
 has:∀ x,(X.env.kindOf x=some .cell\/X.env.kindOf x=some .free)->∃ c,X.env.cells.lookup x=some c
 Al:∀ x c,X.fn x=true->X.env.cells.lookup x=some c->X.s₀.heap.objs.size<=c
 hd:X.calm=true->X.A.handled=none
 frames:X.A.frames=some X.stack
 Ba:X.stack=X.outer\/(X.stack=X.env::X.outer/\X.env.frame=some X.env.locals)
 DS:∀ b∈X.ex,b≠X.env.locals/\∀ x c,X.env.cells.lookup x=some c->c≠b
 bs:∀ b o,X.base.get? b=some o->X.s₀.heap.get? b=some o/\X.H₀ b=none
 ue:X.base.objs.size<=X.s₀.heap.objs.size
 Am:∀ b o,X.base.get? b=some o->b ∉ X.ex
 Bb:∀ b∈X.ex,b ∉ X.fs
 mw:X.s₀.heap.FunFrames X.base X.outer
 xo:∀ b∈X.fs,X.H₀ b=none
structure Inv (X:Cx) (pins:List (Addr×Obj)) (σ:List (Option V)) (H:Hp) (s:Shared):Prop where
 ok:X.Ok
 os:s.os=X.s₀.os
 bare:AllBare s.gens
 base:Un X.fs X.ex X.H₀ H X.s₀.heap s.heap
 loc:∃ m,s.heap.Ns X.env.locals m/\∀ (i:Nat) (x:Str) (v:V),X.N[i]? =some x->σ[i]? =some (some v)->Cc X.env.scope x->∃ u,RelV v u/\Look X.env s.heap m x u
 cell:∀ x c,X.env.cells.lookup x=some c->∃ v,s.heap.IsCell c v
 free:H X.env.locals=none
 k_:∀ x c,X.env.cells.lookup x=some c->H c=none
 pin:∀ p∈X.pn++pins,s.heap.get? p.1=some p.2/\H p.1=none/\p.1≠X.env.locals/\p.1 ∉ X.fs/\∀ v,p.2.data≠.cell v
 hok:b_ X.prog X.w H s.heap
 len:σ.length=X.N.length
section
variable {σ:List (Option V)}
theorem Cx.Ok.NO (ok:X.Ok) (e:X.base.get? b=some o):b ∉ X.fs:=fun hb=>by
 have:=(ok.mw.mem hb).1
 rw [e] at this;cases this
theorem Inv.bs (I:Inv X pins σ H s):∀ b o,X.base.get? b=some o->s.heap.get? b=some o/\H b=none:=fun b o e=>
 ⟨I.base.keep b o (I.ok.bs b o e).1 (I.ok.bs b o e).2 (I.ok.NO e) (I.ok.Am b o e),I.base.free b o (I.ok.bs b o e).1 (I.ok.bs b o e).2 (I.ok.Am b o e)⟩
theorem Inv.bk (I:Inv X pins σ H s):∀ b o,X.base.get? b=some o->s.heap.get? b=some o:=fun b o e=>(I.bs b o e).1
theorem Inv.mod (I:Inv X pins σ H s):Mod X.K X.mg X.base:=I.ok.mod
theorem Inv.cu (I:Inv X pins σ H s):X.K.In s.heap:=I.ok.mod.A_.keeps I.bk
theorem Inv.lt (I:Inv X pins σ H s):X.env.locals < s.heap.objs.size:=let ⟨_,hn,_⟩:=I.loc;hn.lt
theorem Inv.sz (I:Inv X pins σ H s):X.s₀.heap.objs.size<=s.heap.objs.size:=Nat.le_trans I.ok.above (Nat.le_of_lt I.lt)
theorem Inv.NP (I:Inv X pins σ H s) (h:s.heap.objs.size<=a):a ∉ X.fs:=fun hb=>by
 obtain ⟨_,o,ho,_⟩:=I.ok.mw.mem hb
 exact absurd (Nat.lt_of_lt_of_le (Qz ho) (Nat.le_trans I.sz h)) (Nat.lt_irrefl _)
theorem Inv.xq (I:Inv X pins σ H s):∀ x c,X.env.cells.lookup x=some c->c≠X.env.locals:=fun x c e z=>by
 obtain ⟨v,o,ho,hd⟩:=I.cell x c e
 obtain ⟨m,⟨o',es,ep,uf,FS,_⟩,_⟩:=I.loc
 rw [z,uf] at ho;cases ho;rw [FS] at hd;cases hd
theorem Inv.mw (I:Inv X pins σ H s):s.heap.FunFrames X.base X.outer:=by
 have all:∀ (l:List Env),(∀ b∈fm l,b∈X.fs)->X.s₀.heap.FunFrames X.base l->s.heap.FunFrames X.base l:=by
  intro l
  induction l with
  | nil=>intro _ _;trivial
  | cons env r ih=>
   intro hs hl
   obtain ⟨hk,⟨L,o,hf,hn,ho,hd⟩,hr⟩:=hl
   have hL:L∈X.fs:=hs L (by unfold fm;rw [List.filterMap_cons,hf];exact List.mem_cons_self)
   obtain ⟨sl,e⟩:=I.base.slot L o ho (I.ok.xo L hL) hL fun z=>I.ok.Bb L z hL
   exact ⟨hk,⟨L,_,hf,hn,e,hd⟩,ih (fun b hb=>hs b (by unfold fm;rw [List.filterMap_cons,hf];exact Qh _ hb)) hr⟩
 exact all X.outer (fun _ hb=>hb) I.ok.mw
theorem Inv.stack (I:Inv X pins σ H s):s.heap.FunFrames X.base X.stack:=by
 rcases I.ok.Ba with e | ⟨e,hf⟩
 ·rw [e];exact I.mw
 ·rw [e]
  obtain ⟨m,hn,_⟩:=I.loc
  refine .cons (by rw [I.ok.kind];decide) hf hn ?_ I.mw
  exact Heap.get?_none_of_le (Nat.le_trans I.ok.ue I.ok.above)
theorem Inv.Bc (I:Inv X pins σ H s):∀ b∈fm X.stack,b∈X.env.locals::X.fs:=fun b hb=>by
 rcases I.ok.Ba with e | ⟨e,hf⟩
 ·rw [e] at hb;exact Qh _ hb
 ·rw [e] at hb
  unfold fm at hb
  rw [List.filterMap_cons,hf] at hb
  exact hb
theorem Inv.DT (I:Inv X pins σ H s):∀ b∈fm X.stack,H b=none:=fun b hb=>by
 rcases Qp.mp (I.Bc b hb) with e | hb
 ·rw [e];exact I.free
 ·obtain ⟨_,o,ho,_⟩:=I.ok.mw.mem hb
  exact I.base.free b o ho (I.ok.xo b hb) fun z=>I.ok.Bb b z hb
theorem Inv.step {g':Array GenState} {d':Drawn} (I:Inv X pins σ H s)
  (v_:∀ b∈ch,(b∈X.ex\/X.s₀.heap.objs.size<=b)/\b≠X.env.locals/\(∀ x c,X.env.cells.lookup x=some c->c≠b)/\∀ p∈X.pn++pins,p.1≠b)
  (keep:∀ b o,b≠X.env.locals->b ∉ X.fs->b ∉ ch->s.heap.get? b=some o->H b=none->h'.get? b=some o)
  (slot:∀ b o,b≠X.env.locals->b∈X.fs->b ∉ ch->s.heap.get? b=some o->H b=none->∃ sl,h'.get? b=some {o with slots:=sl}) (free:∀ b o,b ∉ ch->s.heap.get? b=some o->H b=none->H' b=none)
  (there:∀ b o,b ∉ ch->s.heap.get? b=some o->∃ o',h'.get? b=some o')
  (tups:∀ b xs,H b=some (.tup xs)->H' b=some (.tup xs)) (jy:∀ b o u,H b=some (.af o u)->H' b=some (.af o u)) (ky:∀ b ps,H b=some (.yq ps)->∃ more,H' b=some (.yq (ps++more)))
  (ns:∀ m,s.heap.Ns X.env.locals m->h'.Ns X.env.locals m) (hok:b_ X.prog X.w H' h') (hg:AllBare g'):
  Inv X pins σ H' {s with heap:=h',gens:=g',drawn:=d',toks:=t'}:=by
 have An:∀ b o,X.s₀.heap.get? b=some o->b≠X.env.locals:=fun b o e=>Nat.ne_of_lt (Nat.lt_of_lt_of_le (Qz e) I.ok.above)
 have DU:∀ b o,X.s₀.heap.get? b=some o->b ∉ X.ex->b ∉ ch:=fun b o e hx hb=>by
  rcases (v_ b hb).1 with z | z
  ·exact hx z
  ·exact absurd (Nat.lt_of_lt_of_le (Qz e) z) (Nat.lt_irrefl _)
 have cellK:∀ x c,X.env.cells.lookup x=some c->∀ v,s.heap.IsCell c v->h'.IsCell c v:=fun x c e v ⟨o,ho,hd⟩=>by
  have ug:c ∉ ch:=fun z=>(v_ c z).2.2.1 x c e rfl
  by_cases hc:c∈X.fs
  ·obtain ⟨sl,q⟩:=slot c o (I.xq x c e) hc ug ho (I.k_ x c e)
   exact ⟨_,q,hd⟩
  ·exact ⟨o,keep c o (I.xq x c e) hc ug ho (I.k_ x c e),hd⟩
 refine ⟨I.ok,I.os,hg,⟨fun b o e n hb hx=>?_,fun b o e n hb hx=>?_,fun b o e n hx=>?_,fun b o e hx=>?_,fun b xs e=>tups b xs (I.base.tups b xs e),fun b o xs e=>jy b o xs (I.base.jy b o xs e),fun b ps e=>?_⟩,?_,fun x c e=>?_,?_,fun x c e=>?_,fun p hp=>?_,hok,I.len⟩
 ·exact keep b o (An b o e) hb (DU b o e hx) (I.base.keep b o e n hb hx) (I.base.free b o e n hx)
 ·obtain ⟨sl,e1⟩:=I.base.slot b o e n hb hx
  obtain ⟨Cb,e2⟩:=slot b _ (An b o e) hb (DU b o e hx) e1 (I.base.free b o e n hx)
  exact ⟨Cb,e2⟩
 ·obtain ⟨o',e1⟩:=I.base.there b o e hx
  exact free b o' (DU b o e hx) e1 (I.base.free b o e n hx)
 ·obtain ⟨o',e1⟩:=I.base.there b o e hx
  exact there b o' (DU b o e hx) e1
 ·obtain ⟨m1,e1⟩:=I.base.ky b ps e
  obtain ⟨m2,e2⟩:=ky b _ e1
  exact ⟨m1++m2,by rw [e2,Array.append_assoc]⟩
 ·obtain ⟨m,hn,hl⟩:=I.loc
  refine ⟨m,ns m hn,fun i x v e1 e2 e3=>?_⟩
  obtain ⟨u,r,l⟩:=hl i x v e1 e2 e3
  refine ⟨u,r,?_⟩
  rcases l with l | ⟨k,c,e,z⟩
  ·exact .inl l
  ·exact .inr ⟨k,c,e,cellK x c e _ z⟩
 ·obtain ⟨v,z⟩:=I.cell x c e
  exact ⟨v,cellK x c e v z⟩
 ·obtain ⟨m,⟨o,_,_,ho,_⟩,_⟩:=I.loc
  exact free _ o (fun z=>(v_ _ z).2.1 rfl) ho I.free
 ·obtain ⟨v,o,ho,hd⟩:=I.cell x c e
  exact free c o (fun z=>(v_ c z).2.2.1 x c e rfl) ho (I.k_ x c e)
 ·obtain ⟨e,n,ne,nf,d⟩:=I.pin p hp
  have ug:p.1 ∉ ch:=fun z=>(v_ p.1 z).2.2.2 p hp rfl
  exact ⟨keep p.1 p.2 ne nf ug e n,free p.1 p.2 ug e n,ne,nf,d⟩
theorem Inv.un (I:Inv X pins σ H s) (u:Un X.fs [] H H' s.heap h') (hok:b_ X.prog X.w H' h'):Inv X pins σ H' {s with heap:=h',toks:=t'}:=by
 obtain ⟨m,⟨o,es,ep,ho,r⟩,_⟩:=id I.loc
 obtain ⟨sl,hL⟩:=u.any ho I.free (by simp)
 exact I.step (g':=s.gens) (d':=s.drawn) (ch:=[]) (fun _ z=>nomatch z) (fun b o _ hb _ e n=>u.keep b o e n hb (by simp)) (fun b o _ hb _ e n=>u.slot b o e n hb (by simp)) (fun b o _ e n=>u.free b o e n (by simp)) (fun b o _ e=>u.there b o e (by simp)) u.tups u.jy u.ky (fun m' hm=>by
  obtain ⟨o',es',mz,uf,r'⟩:=hm
  rw [ho] at uf;cases uf
  exact ⟨_,es',mz,hL,r'⟩) hok I.bare
theorem Inv.call {g':Array GenState} {d':Drawn} (I:Inv X pins σ H s) (u:Un (fm X.stack) ch H H' s.heap h') (hok:b_ X.prog X.w H' h') (hg:AllBare g')
  (v_:∀ b∈ch,(b∈X.ex\/X.s₀.heap.objs.size<=b)/\b≠X.env.locals/\(∀ x c,X.env.cells.lookup x=some c->c≠b)/\∀ p∈X.pn++pins,p.1≠b):
  Inv X pins σ H' {s with heap:=h',gens:=g',drawn:=d',toks:=t'}:=by
 obtain ⟨m,⟨o,es,ep,ho,r⟩,_⟩:=id I.loc
 obtain ⟨sl,hL⟩:=u.any ho I.free fun z=>(v_ _ z).2.1 rfl
 exact I.step (ch:=ch) v_ (fun b o hL hb hc e n=>u.keep b o e n (fun z=>(Qp.mp (I.Bc b z)).elim hL hb) hc) (fun b o _ _ hc e n=>u.any e n hc) (fun b o hc e n=>u.free b o e n hc) (fun b o hc e=>u.there b o e hc) u.tups u.jy u.ky (fun m' hm=>by
  obtain ⟨o',es',mz,uf,r'⟩:=hm
  rw [ho] at uf;cases uf
  exact ⟨_,es',mz,hL,r'⟩) hok hg
theorem Inv.turned (I:Inv X pins σ H s) (k:∀ b o,b≠it->s.heap.get? b=some o->h'.get? b=some o) (hn:H it=none) (hL:it≠X.env.locals)
  (h1:it∈X.ex\/X.s₀.heap.objs.size<=it) (h2:∀ x c,X.env.cells.lookup x=some c->c≠it) (h3:∀ p∈X.pn++pins,p.1≠it):Inv X pins σ H {s with heap:=h',toks:=t'}:=by
 have Jl:∀ b u,H b=some u->b≠it:=fun b u e z=>by rw [z,hn] at e;cases e
 refine I.step (g':=s.gens) (d':=s.drawn) (ch:=[it]) (fun b hb=>?_) (fun b o _ _ hc e _=>k b o (fun z=>hc (by simp [z])) e) (fun b o _ _ hc e _=>⟨o.slots,k b o (fun z=>hc (by simp [z])) e⟩) (fun _ _ _ _ n=>n)
  (fun b o hc e=>⟨o,k b o (fun z=>hc (by simp [z])) e⟩) (fun _ _ e=>e) (fun _ _ _ e=>e) (fun b ps e=>⟨#[],by rw [e];simp⟩) (fun m hm=>?_) (fun b u e=>?_) I.bare
 ·have e:b=it:=by simpa using hb
  subst e
  exact ⟨h1,hL,h2,h3⟩
 ·obtain ⟨o,es,ep,ho,r⟩:=hm
  exact ⟨o,es,ep,k _ o (Ne.symm hL) ho,r⟩
 ·refine (I.hok b u e).stay (fun c v hc q=>k c v ?_ q) (fun _ q=>q) fun _ _ q=>q
  rcases hc with z | z
  ·rw [z];exact Jl b u e
  ·exact Jl c _ z
theorem Inv.tok (I:Inv X pins σ H s) (t:Nat):Inv X pins σ H {s with toks:=t}:=I.un (h':=s.heap) (t':=t) Un.refl I.hok
theorem Inv.kept {t':Nat} (I:Inv X pins σ H s) (k:∀ b u,s.heap.get? b=some u->h'.get? b=some u):Inv X pins σ H {s with heap:=h',toks:=t'}:=I.un (Un.kept k) (I.hok.kept k)
theorem Inv.laid {a:Addr} {o:HO} {t':Nat} (I:Inv X pins σ H s) (k:∀ b u,s.heap.get? b=some u->h'.get? b=some u) (hp:s.heap.objs.size<=a) (new:bf X.prog X.w (upd H a o) h' a o):
  Inv X pins σ (upd H a o) {s with heap:=h',toks:=t'}:=I.un (Un.laid k hp (I.hok.fresh hp)) (I.hok.laid k hp new)
theorem Inv.write {x e:Addr} {o:HO} {t':Nat} (I:Inv X pins σ H s) (mu:A9 (H x)) (he:e=x\/H e=some (.own x)) (k:∀ b u,b≠e->s.heap.get? b=some u->h'.get? b=some u) (xm:∃ u,h'.get? e=some u)
  (new:bf X.prog X.w (upd H x o) h' x o):Inv X pins σ (upd H x o) {s with heap:=h',toks:=t'}:=I.un (Un.write mu he k xm) (I.hok.write mu he k xm new)
theorem Inv.Jm {Jo:List (Addr×Obj)} (I:Inv X pins σ H s) (h:∀ p∈Jo,s.heap.get? p.1=some p.2/\H p.1=none/\p.1≠X.env.locals/\p.1 ∉ X.fs/\∀ v,p.2.data≠.cell v):Inv X Jo σ H s:=
 ⟨I.ok,I.os,I.bare,I.base,I.loc,I.cell,I.free,I.k_,fun p hp=>(List.mem_append.mp hp).elim (fun z=>I.pin p (List.mem_append_left _ z)) (h p),I.hok,I.len⟩
theorem kR (hN:N.Nodup) (a:N[i]? =some x) (b:N[j]? =some x):i=j:=by
 obtain ⟨h1,e1⟩:=List.getElem?_eq_some_iff.mp a
 obtain ⟨h2,e2⟩:=List.getElem?_eq_some_iff.mp b
 exact (List.getElem_inj hN).mp (e1.trans e2.symm)
theorem gU {v:V} {Q:Unit->Shared->Prop} (I:Inv X pins σ H s) (hN:X.N.Nodup) (hi:X.N[i]? =some x) (hx:Loc X.env.scope x) (r:RelV v u)
  (h:∀ s',Inv X pins (σ.set i (some v)) H s'->(∃ a,Heap.SameBut a s.heap s'.heap/\(a=X.env.locals\/X.env.cells.lookup x=some a))->Q () s') (hf:X.fn x=true\/X.env.scope.names.lookup x=some .local:=by first | exact .inl rfl | exact .inr rfl | assumption):wpAny M A (storeName X.env x u) Q E s:=by
 obtain ⟨m,hn,hl⟩:=id I.loc
 have NQ:(X.env.scope.kind==.class||(X.env.scope.kind==.module&&X.env.locals !=X.env.globals))=false:=by rw [I.ok.kind];rfl
 have Jp:i < σ.length:=by rw [I.len];exact (List.getElem?_eq_some_iff.mp hi).1
 have xq:=I.xq
 have tracked:∀ {a:Addr} {h':Heap},(∃ o,s.heap.get? a=some o/\H a=none)->Heap.SameBut a s.heap h'->b_ X.prog X.w H h':=fun {a h'} ha hs b ob e=>by
  obtain ⟨_,_,Jq⟩:=ha
  refine (I.hok b ob e).stay (fun c w' hc q=>(hs.2 c ?_).trans q) (fun _ q=>q) fun _ _ q=>q
  rintro rfl
  rcases hc with rfl | hc
  ·rw [Jq] at e;cases e
  ·rw [Jq] at hc;cases hc
 rcases hx with hk | hk
 ·refine wpAny_storeName_local hk hn (fun h' hn' hs=>?_) NQ
  obtain ⟨oL,_,_,DW,_⟩:=id hn
  refine h _ ⟨I.ok,I.os,I.bare,⟨fun b o e n hb hx=>?_,fun b o e n hb hx=>?_,I.base.free,fun b o e hx=>?_,I.base.tups,I.base.jy,I.base.ky⟩,⟨_,hn',fun j y v' e1 e2 e3=>?_⟩,fun y c e=>?_,I.free,I.k_,fun p hp=>?_,tracked ⟨oL,DW,I.free⟩ hs,by simpa using I.len⟩ ⟨_,hs,.inl rfl⟩
  ·exact (hs.2 b (Nat.ne_of_lt (Nat.lt_of_lt_of_le (Qz e) I.ok.above))).trans (I.base.keep b o e n hb hx)
  ·obtain ⟨sl,e1⟩:=I.base.slot b o e n hb hx
   exact ⟨sl,(hs.2 b (Nat.ne_of_lt (Nat.lt_of_lt_of_le (Qz e) I.ok.above))).trans e1⟩
  ·obtain ⟨o',e1⟩:=I.base.there b o e hx
   exact ⟨o',(hs.2 b (Nat.ne_of_lt (Nat.lt_of_lt_of_le (Qz e) I.ok.above))).trans e1⟩
  ·by_cases hj:j=i
   ·subst hj
    rw [hi] at e1;cases e1
    rw [List.getElem?_set_self Jp] at e2
    cases e2
    exact ⟨u,r,.inl ⟨hk,by simp⟩⟩
   ·rw [List.getElem?_set_ne (Ne.symm hj)] at e2
    obtain ⟨u',r',q⟩:=hl j y v' e1 e2 e3
    refine ⟨u',r',?_⟩
    rcases q with ⟨k,e⟩ | ⟨k,c,e,z⟩
    ·refine .inl ⟨k,?_⟩
     have:y≠x:=fun e=>hj (kR hN e1 (e▸hi))
     simp [this,e]
    ·exact .inr ⟨k,c,e,z.sameBut hs (xq y c e)⟩
  ·obtain ⟨w',z⟩:=I.cell y c e
   exact ⟨w',z.sameBut hs (xq y c e)⟩
  ·obtain ⟨e,n,ne,nf,d⟩:=I.pin p hp
   exact ⟨(hs.2 p.1 ne).trans e,n,ne,nf,d⟩
 ·have FT:X.fn x=true:=by
   rcases hf with z | z
   ·exact z
   ·rw [z] at hk;cases hk
  obtain ⟨c,hc⟩:=I.ok.has x (.inl hk)
  obtain ⟨w',z⟩:=I.cell x c hc
  refine wpAny_storeName_cell I.ok.kind hk hc z (fun h' Ao hs=>?_)
  obtain ⟨oc,Jr,NR⟩:=id z
  refine h {s with heap:=h'} ⟨I.ok,I.os,I.bare,⟨fun b o e n hb hx=>?_,fun b o e n hb hx=>?_,I.base.free,fun b o e hx=>?_,I.base.tups,I.base.jy,I.base.ky⟩,⟨m,hn.sameBut hs (Ne.symm (xq x c hc)),fun j y v' e1 e2 e3=>?_⟩,fun y c' e=>?_,I.free,I.k_,fun p hp=>?_,tracked ⟨oc,Jr,I.k_ x c hc⟩ hs,by simpa using I.len⟩ ⟨c,hs,.inr hc⟩
  ·exact (hs.2 b (Nat.ne_of_lt (Nat.lt_of_lt_of_le (Qz e) (I.ok.Al x c FT hc)))).trans (I.base.keep b o e n hb hx)
  ·obtain ⟨sl,e1⟩:=I.base.slot b o e n hb hx
   exact ⟨sl,(hs.2 b (Nat.ne_of_lt (Nat.lt_of_lt_of_le (Qz e) (I.ok.Al x c FT hc)))).trans e1⟩
  ·obtain ⟨o',e1⟩:=I.base.there b o e hx
   exact ⟨o',(hs.2 b (Nat.ne_of_lt (Nat.lt_of_lt_of_le (Qz e) (I.ok.Al x c FT hc)))).trans e1⟩
  ·by_cases hj:j=i
   ·subst hj
    rw [hi] at e1;cases e1
    rw [List.getElem?_set_self Jp] at e2
    cases e2
    exact ⟨u,r,.inr ⟨.inl hk,c,hc,Ao⟩⟩
   ·rw [List.getElem?_set_ne (Ne.symm hj)] at e2
    obtain ⟨u',r',q⟩:=hl j y v' e1 e2 e3
    refine ⟨u',r',?_⟩
    rcases q with q | ⟨k,c',e,z'⟩
    ·exact .inl q
    ·refine .inr ⟨k,c',e,z'.sameBut hs ?_⟩
     rintro rfl
     exact hj (kR hN e1 (I.ok.inj _ _ _ e hc▸hi))
  ·by_cases Js:c'=c
   ·subst Js;exact ⟨_,Ao⟩
   ·obtain ⟨w2,z2⟩:=I.cell y c' e
    exact ⟨w2,z2.sameBut hs Js⟩
  ·obtain ⟨e,n,ne,nf,d⟩:=I.pin p hp
   refine ⟨(hs.2 p.1 ?_).trans e,n,ne,nf,d⟩
   intro q
   rw [q,Jr] at e
   have q':oc=p.2:=QD e
   exact d w' (by rw [<- q'];exact NR)
theorem qN {v:V} {Q:Unit->Shared->Prop} (I:Inv X pins σ H s) (hN:X.N.Nodup) (hi:X.N[i]? =some x) (hx:Loc X.env.scope x) (r:RelV v u)
  (h:∀ s',Inv X pins (σ.set i (some v)) H s'->Q () s') (hf:X.fn x=true\/X.env.scope.names.lookup x=some .local:=by first | exact .inl rfl | exact .inr rfl | assumption):wpAny M A (storeName X.env x u) Q E s:=
 gU I hN hi hx r (fun s' I' _=>h s' I') hf
theorem Inv.Jt {s':Shared} (I:Inv X pins σ H s) (ho:s'.os=s.os) (u:Un (fm X.stack) ch H H' s.heap s'.heap) (hok:b_ X.prog X.w H' s'.heap) (hg:AllBare s'.gens)
  (v_:∀ b∈ch,(b∈X.ex\/X.s₀.heap.objs.size<=b)/\b≠X.env.locals/\(∀ x c,X.env.cells.lookup x=some c->c≠b)/\∀ p∈X.pn++pins,p.1≠b):Inv X pins σ H' s':=by
 obtain ⟨h',g',d',t',o'⟩:=s'
 have e:o'=s.os:=ho
 subst e
 exact I.call (g':=g') (t':=t') (d':=d') u hok hg v_
end
abbrev XK:=Value->Option Addr->Hp->Prop
abbrev St:=List (Option V)
end L2
variable {σ:L2.St}
namespace L2
open PySem PySem.Spec PyProof.Rows
abbrev VK:=V->Hp->Prop
abbrev TE:=St->Hp->VK->Prop
end L2
variable {ta te to:L2.TE} {nc:List (L2.TE×L2.TE)}
namespace L2
open PySem PySem.Spec PyProof.Rows
abbrev TT:=St->Hp->(Bool->Hp->Prop)->Prop
abbrev TA:=St->Hp->(List V->Hp->Prop)->Prop
structure Ends where
 nx:St->Hp->Prop
 rt:VK
 bk:St->Hp->Prop:=fun _ _=>False
 ct:St->Hp->Prop:=fun _ _=>False
abbrev TS:=Ends->St->Hp->Prop
def EP (X:Cx) (pins:List (Addr×Obj)) (σ:St) (Q:VK) (u:Value) (s':Shared):Prop:=∃ v H',Inv X pins σ H' s'/\RelV v u/\Q v H'
def TP (X:Cx) (pins:List (Addr×Obj)) (σ:St) (Q:Bool->Hp->Prop) (b:Bool) (s':Shared):Prop:=∃ H',Inv X pins σ H' s'/\Q b H'
def AP (X:Cx) (pins:List (Addr×Obj)) (σ:St) (Q:List V->Hp->Prop) (us:List Value) (s':Shared):Prop:=∃ vs H',Inv X pins σ H' s'/\a_ vs us/\Q vs H'
def SP (X:Cx) (pins:List (Addr×Obj)) (D:Ends) (f:Flow) (s':Shared):Prop:=
 match f with
 | .next=>∃ σ' H',Inv X pins σ' H' s'/\D.nx σ' H'
 | .brk=>∃ σ' H',Inv X pins σ' H' s'/\D.bk σ' H'
 | .cont=>∃ σ' H',Inv X pins σ' H' s'/\D.ct σ' H'
 | .ret u=>∃ v σ' H',Inv X pins σ' H' s'/\RelV v u/\D.rt v H'
def PE (X:Cx) (e:Expr) (t:TE):Prop:=
 ∀ (pins:List (Addr×Obj)) (s:Shared) (σ:St) (H:Hp) (Q:VK),Inv X pins σ H s->t σ H Q->wpAny (model X.prog X.w) X.A (eval e X.env) (EP X pins σ Q) X.xe s
def PT (X:Cx) (e:Expr) (t:TT):Prop:=
 ∀ (pins:List (Addr×Obj)) (s:Shared) (σ:St) (H:Hp) (Q:Bool->Hp->Prop),Inv X pins σ H s->t σ H Q->wpAny (model X.prog X.w) X.A (isTrue e X.env (eval e X.env)) (TP X pins σ Q) X.xe s
def PW (X:Cx) (e:Expr) (t:TT):Prop:=
 ∀ (whole:Sem Value) (pins:List (Addr×Obj)) (s:Shared) (σ:St) (H:Hp) (Q:Bool->Hp->Prop),Inv X pins σ H s->t σ H Q->wpAny (model X.prog X.w) X.A (isTrue e X.env whole) (TP X pins σ Q) X.xe s
theorem PW.pt {t:TT} (h:PW X e t):PT X e t:=h _
def PA (X:Cx) (es:List Expr) (t:TA):Prop:=
 ∀ (pos:Pos) (pins:List (Addr×Obj)) (s:Shared) (σ:St) (H:Hp) (Q:List V->Hp->Prop),Inv X pins σ H s->t σ H Q->wpAny (model X.prog X.w) X.A (spliced (backTo pos (starEach es X.env))) (AP X pins σ Q) X.xe s
def PS (X:Cx) (st:Stmt) (t:TS):Prop:=
 ∀ (pins:List (Addr×Obj)) (s:Shared) (σ:St) (H:Hp) (D:Ends),Inv X pins σ H s->t D σ H->wpAny (model X.prog X.w) X.A (exec st X.env) (SP X pins D) X.xe s
def jz (X:Cx) (st:List Stmt) (t:TS):Prop:=
 ∀ (pins:List (Addr×Obj)) (s:Shared) (σ:St) (H:Hp) (D:Ends),Inv X pins σ H s->t D σ H->wpAny (model X.prog X.w) X.A (execs st X.env) (SP X pins D) X.xe s
theorem aj {t:Sem α} {Q Q':α->Shared->Prop} (h:wpAny M A t Q E s) (hQ:∀ a s,Q a s->Q' a s):wpAny M A t Q' E s:=wpAny_mono h hQ fun _ _ x=>x
section
def NS (i:Nat):TE:=fun σ H Q=>∃ v,σ[i]? =some (some v)/\Q v H
def tC (v:V):TE:=fun _ H Q=>Q v H
theorem NT {pos:Pos} (hN:X.N[i]? =some x) (hv:Cc X.env.scope x) (hd:(x==("__debug__":Str))=false:=by decide) (jp:(x==("__classdict__":Str))=false:=by decide):PE X (.Name x pos) (NS i):=by
 intro pins s σ H Q I h
 obtain ⟨v,e,h⟩:=h
 obtain ⟨m,hn,hl⟩:=I.loc
 obtain ⟨u,r,l⟩:=hl i x v hN e hv
 have fin:EP X pins σ Q u s:=⟨v,H,I,r,h⟩
 rcases l with ⟨hk,hm⟩ | ⟨hk,c,hc,Ju⟩
 ·exact wpAny_Name (wpAny_loadName_local I.ok.kind hk hn hm fin) hd
 ·rcases hk with hk | hk
  ·exact wpAny_Name (wpAny_loadName_cell I.ok.kind hk hc Ju fin) hd
  ·exact wpAny_Name (wpAny_loadName_free I.ok.kind hk hc Ju fin jp) hd
theorem NU {i j pos}:PE X (.Constant (.int i) j pos) (tC (.int i)):=fun _ _ _ H _ I h=>wpAny_Constant_int ⟨.int i,H,I.tok _,⟨_,rfl⟩,h⟩
theorem NV {b j pos}:PE X (.Constant (.bool b) j pos) (tC (.bl b)):=fun _ _ _ H _ I h=>Constant_bool ⟨.bl b,H,I,rfl,h⟩
theorem NW {j pos}:PE X (.Constant .none j pos) (tC .ao):=fun _ _ _ H _ I h=>Constant_none ⟨.ao,H,I,rfl,h⟩
theorem NX {x j pos}:PE X (.Constant (.str x) j pos) (tC (.str x)):=fun _ _ _ H _ I h=>Calls.Constant_str ⟨.str x,H,I.tok _,⟨_,rfl⟩,h⟩
def Gl (X:Cx) (x:Str):Prop:=X.env.kindOf x=some .globalImplicit
theorem fJ {pos:Pos} (I:Inv X pins σ H s) (hg:Gl X x) (hm:X.mg x=some u) (h:Q u s)
  (hd:(x==("__debug__":Str))=false:=by decide):wpAny (model X.prog X.w) X.A (eval (.Name x pos) X.env) Q E s:=
 Calls.Name_function_global I.ok.kind hg (Calls.loadGlobal_global (by rw [I.ok.glob];exact I.mod.glob.keeps I.bk) hm h) hd
theorem hX {pos:Pos} (I:Inv X pins σ H s) (hg:Gl X x) (hm:X.mg x=none) (hv:bootBuiltins x=some u) (h:Q u s)
  (hn:x≠"__name__":=by decide) (hd:(x==("__debug__":Str))=false:=by decide):wpAny (model X.prog X.w) X.A (eval (.Name x pos) X.env) Q E s:=by
 obtain ⟨mb,h1,h2⟩:=I.mod.blt
 exact Calls.Name_function_global I.ok.kind hg (Calls.loadGlobal_builtin (by rw [I.ok.glob];exact I.mod.glob.keeps I.bk) hm (by rw [I.ok.blt];exact h1.keeps I.bk) ((h2 x hn).trans hv) h) hd
theorem kL {v:V} {pos:Pos} (hg:Gl X x) (hm:X.mg x=some u) (r:RelV v u) (hd:(x==("__debug__":Str))=false:=by decide):PE X (.Name x pos) (tC v):=
 fun _ _ _ H _ I h=>fJ I hg hm ⟨v,H,I,r,h⟩ hd
theorem NY {v:V} {pos:Pos} (hg:Gl X x) (hm:X.mg x=none) (hv:bootBuiltins x=some u) (r:RelV v u) (hn:x≠"__name__":=by decide) (hd:(x==("__debug__":Str))=false:=by decide):PE X (.Name x pos) (tC v):=
 fun _ _ _ H _ I h=>hX I hg hm hv ⟨v,H,I,r,h⟩ hn hd
variable {a b:Expr} {tb:TE} {pos:Pos}
def PC (X:Cx) (op:CmpOp) (a b:Expr) (t:TE):Prop:=
 ∀ (pins:List (Addr×Obj)) (s:Shared) (σ:St) (H:Hp) (Q:VK),Inv X pins σ H s->t σ H Q->
  wpAny (model X.prog X.w) X.A (eval a X.env) (fun v s₁=>wpAny (model X.prog X.w) X.A (eval b X.env) (fun u s₂=>wpAny (model X.prog X.w) X.A (compareOp op v u) (EP X pins σ Q) X.xe s₂) X.xe s₁) X.xe s
def tB (t:TE):TT:=fun σ H Q=>t σ H fun x H1=>∃ c,x=.bl c/\Q c H1
theorem NZ {t:TE} (h:PC X op a b t) (h1:behindInMarks op b=false:=by first | exact XO _ (by decide) (by decide) | rfl):PT X (.Compare a [op] [b] pos) (tB t):=by
 intro pins s σ H Q I hw
 refine wpAny_isTrue_Compare1 (aj (h pins s σ H _ I hw) fun v s1 h1=>aj h1 fun u s2 h2=>aj h2 fun c s3 ⟨x,H1,I1,r1,q1⟩=>?_) h1
 obtain ⟨d,rfl,q⟩:=q1
 cases r1
 exact wpAny_truthy_bool ⟨H1,I1,q⟩
theorem N1 {t:TE} (h:PE X e t) (he:∀ whole,isTrue e X.env whole=(do let v <- whole;standAt e.pos;holding [v] (truthy v)):=by intro _;rfl):PT X e (tB t):=by
 intro pins s σ H Q I hw
 refine isTrue_plain (aj (h pins s σ H _ I hw) fun v s1 ⟨x,H1,I1,r1,q1⟩=>?_) (he _)
 obtain ⟨d,rfl,q⟩:=q1
 cases r1
 exact wpAny_truthy_bool ⟨H1,I1,q⟩
variable {tA wc:TT}
def Jv (t u:TT):TT:=fun σ H Q=>t σ H fun c H1=>if c=true then u σ H1 Q else Q false H1
def Jw (t u:TT):TT:=fun σ H Q=>t σ H fun c H1=>if c=true then Q true H1 else u σ H1 Q
def Jx (t:TT):TT:=fun σ H Q=>t σ H fun c H1=>Q (!c) H1
theorem N3 (ha:PT X a tA):PW X (.BoolOp .And [a] pos) tA:=by
 intro wh pins s σ H Q I h
 refine isTrue_and (aj (ha pins s σ H Q I h) fun c s1 e=>?_)
 cases c with
 | true=>exact isTrue_and_nil e
 | false=>exact e
theorem N4 (ha:PT X a tA):PW X (.BoolOp .Or [a] pos) tA:=by
 intro wh pins s σ H Q I h
 refine isTrue_or (aj (ha pins s σ H Q I h) fun c s1 e=>?_)
 cases c with
 | false=>exact isTrue_or_nil e
 | true=>exact e
theorem N5 (ha:PT X a tA) (hb:PW X (.BoolOp .And (b::rest) pos) wc):PW X (.BoolOp .And (a::b::rest) pos) (Jv tA wc):=by
 intro wh pins s σ H Q I h
 refine isTrue_and (aj (ha pins s σ H _ I h) ?_)
 rintro c s1 ⟨H1,I1,q1⟩
 cases c with
 | true=>exact hb wh pins s1 σ H1 Q I1 q1
 | false=>exact ⟨H1,I1,q1⟩
theorem N6 (ha:PT X a tA) (hb:PW X (.BoolOp .Or (b::rest) pos) wc):PW X (.BoolOp .Or (a::b::rest) pos) (Jw tA wc):=by
 intro wh pins s σ H Q I h
 refine isTrue_or (aj (ha pins s σ H _ I h) ?_)
 rintro c s1 ⟨H1,I1,q1⟩
 cases c with
 | true=>exact ⟨H1,I1,q1⟩
 | false=>exact hb wh pins s1 σ H1 Q I1 q1
theorem N7 (ha:PT X a tA):PT X (.UnaryOp .Not a pos) (Jx tA):=by
 intro pins s σ H Q I h
 exact isTrue_not (ha pins s σ H (fun c H1=>Q (!c) H1) I h)
def Jy (ta tb:TE):TE:=fun σ H Q=>ta σ H fun x H1=>∃ c,x=.bl c/\if c=true then tb σ H1 Q else Q (.bl false) H1
def Jz (ta:TE):TE:=fun σ H Q=>ta σ H fun x H1=>∃ c,x=.bl c/\Q (.bl (!c)) H1
theorem N9 {op} {t:TE} (h:PE X a t):PE X (.BoolOp op [a] pos) t:=fun pins s σ H Q I hw=>BoolOp_one (h pins s σ H Q I hw)
theorem N_ (ha:PE X a ta) (hb:PE X (.BoolOp .And (b::rest) pos) tb):PE X (.BoolOp .And (a::b::rest) pos) (Jy ta tb):=by
 intro pins s σ H Q I h
 refine BoolOp_and (aj (ha pins s σ H _ I h) ?_)
 rintro v s1 ⟨x,H1,I1,r1,q1⟩
 obtain ⟨c,rfl,q1⟩:=q1
 cases r1
 refine wpAny_truthy_bool ?_
 cases c with
 | true=>exact hb pins s1 σ H1 Q I1 q1
 | false=>exact ⟨.bl false,H1,I1,rfl,q1⟩
theorem Oa (ha:PE X a ta):PE X (.UnaryOp .Not a pos) (Jz ta):=by
 intro pins s σ H Q I h
 refine UnaryOp_ (aj (ha pins s σ H _ I h) ?_)
 rintro v s1 ⟨x,H1,I1,r1,q1⟩
 obtain ⟨c,rfl,q1⟩:=q1
 cases r1
 exact not_of (wpAny_truthy_bool ⟨.bl (!c),H1,I1,rfl,q1⟩)
def JA (t:TT) (ta tb:TE):TE:=fun σ H Q=>t σ H fun c H1=>if c=true then ta σ H1 Q else tb σ H1 Q
theorem yK {c:Expr} (hc:PT X c tA) (ha:PE X a ta) (hb:PE X b tb):PE X (.IfExp c a b pos) (JA tA ta tb):=by
 intro pins s σ H Q I h
 refine wpAny_IfExp (aj (hc pins s σ H _ I h) ?_)
 rintro d s1 ⟨H1,I1,q1⟩
 cases d with
 | true=>exact ha pins s1 σ H1 Q I1 q1
 | false=>exact hb pins s1 σ H1 Q I1 q1
end
def ak (K:QZ) (H:Hp) (a:Addr) (xs:List V):Prop:=
 Rd H a (.lst xs)\/
  ∃ (o:Obj) (its:Array Value) (n:Nat),K.lookup a=some o/\o.cls=.type "list"/\o.dict=none/\o.data=.seq its n/\its.size<=sizeLine/\a_ xs its.toList
def au (K:QZ) (H:Hp) (a:Addr) (xs:List V):Prop:=
 Rd H a (.tup xs)\/
  ∃ (o:Obj) (its:Array Value) (n:Nat),K.lookup a=some o/\o.cls=.type "tuple"/\o.data=.seq its n/\its.size<=sizeLine/\a_ xs its.toList
def xr:Value->Option V
 | .none=>some .ao
 | .bool b=>some (.bl b)
 | .int i _=>some (.int i)
 | .str x _=>some (.str x)
 | .bytes b _=>some (.mq b)
 | .float b _=>some (.Ai b)
 | .ref a=>some (.ref a)
 | .type n=>some (.ty n)
 | _=>none
theorem RelV.abs {x:V} (r:RelV x u):xr u=some x:=by
 cases x with
 | ao=>cases r;rfl
 | bl _=>cases r;rfl
 | int _=>obtain ⟨t,rfl⟩:=r;rfl
 | str _=>obtain ⟨t,rfl⟩:=r;rfl
 | mq _=>obtain ⟨t,rfl⟩:=r;rfl
 | Ai _=>obtain ⟨t,rfl⟩:=r;rfl
 | ref _=>cases r;rfl
 | ty _=>cases r;rfl
theorem RelV.inj {x y:V} (r:RelV x u) (q:RelV y u):x=y:=QD (r.abs.symm.trans q.abs)
theorem a_.inj:∀ {xs ys:List V} {us:List Value},a_ xs us->a_ ys us->xs=ys
 | _,_,_,.nil,.nil=>rfl
 | _,_,_,.cons r t,.cons r' t'=>by rw [r.inj r',a_.inj t t']
section
variable {xs ys:List V}
theorem ak.of {K:QZ} (h:H a=some (.lst xs)):ak K H a xs:=.inl (.inl h)
theorem au.of {K:QZ} (h:H a=some (.tup xs)):au K H a xs:=.inl (.inl h)
theorem Inv.list (I:Inv X pins σ H s) (h:ak X.K H a xs):∃ its:List Value,a_ xs its/\PlainL s.heap a its.toArray/\xs.length<=sizeLine:=by
 rcases h with h | ⟨o,its,n,hk,hc,hd,hs,hz,r⟩
 ·obtain ⟨z,its,n,r,e⟩:=h.ok I.hok
  exact ⟨its,r,⟨_,n,e,rfl,rfl,rfl⟩,z⟩
 ·refine ⟨its.toList,r,⟨o,n,I.cu a o hk,hc,hd,by simpa using hs⟩,?_⟩
  have e:=r.length
  simp only [Array.length_toList] at e
  omega
theorem Inv.tuple (I:Inv X pins σ H s) (h:au X.K H a xs):∃ its:List Value,a_ xs its/\IsTup s.heap a its.toArray/\xs.length<=sizeLine:=by
 rcases h with h | ⟨o,its,n,hk,hc,hs,hz,r⟩
 ·obtain ⟨⟨z,_⟩,its,r,p⟩:=h.ok I.hok
  exact ⟨its,r,p,z⟩
 ·refine ⟨its.toList,r,⟨o,I.cu a o hk,hc,n,by simpa using hs⟩,?_⟩
  have e:=r.length
  simp only [Array.length_toList] at e
  omega
theorem Inv.FU (I:Inv X pins σ H s) (h:ak X.K H a xs) (h':ak X.K H a ys):xs=ys:=by
 obtain ⟨its,r,⟨o,n,e,_,_,d⟩,_⟩:=I.list h
 obtain ⟨its',r',⟨o',n',e',_,_,d'⟩,_⟩:=I.list h'
 rw [e] at e';cases e'
 rw [d] at d'
 injection d' with d1 _
 have:its=its':=by simpa using congrArg Array.toList d1
 subst this
 exact r.inj r'
theorem Inv.Ob (I:Inv X pins σ H s) (h:au X.K H a xs) (h':au X.K H a ys):xs=ys:=by
 obtain ⟨its,r,⟨o,e,_,n,d⟩,_⟩:=I.tuple h
 obtain ⟨its',r',⟨o',e',_,n',d'⟩,_⟩:=I.tuple h'
 rw [e] at e';cases e'
 rw [d] at d'
 injection d' with d1 _
 have:its=its':=by simpa using congrArg Array.toList d1
 subst this
 exact r.inj r'
end
abbrev Cx.we (X:Cx) (E:Value->Shared->Prop):Cx:={X with xe:=E}
abbrev Cx.qx (X:Cx):Cx:=X.we fun _ _=>False
theorem Cx.Ok.we {X:Cx} (ok:X.Ok) (E:Value->Shared->Prop):(X.we E).Ok:=
 ⟨ok.mod,ok.kind,ok.glob,ok.blt,ok.above,ok.inj,ok.has,ok.Al,ok.hd,ok.frames,ok.Ba,ok.DS,ok.bs,ok.ue,ok.Am,ok.Bb,ok.mw,ok.xo⟩
theorem Cx.Ok.yr (ok:(X.we E).Ok):X.Ok:=
 ⟨ok.mod,ok.kind,ok.glob,ok.blt,ok.above,ok.inj,ok.has,ok.Al,ok.hd,ok.frames,ok.Ba,ok.DS,ok.bs,ok.ue,ok.Am,ok.Bb,ok.mw,ok.xo⟩
theorem Inv.we (I:Inv X pins σ H s) (E:Value->Shared->Prop):Inv (X.we E) pins σ H s:=⟨I.ok.we E,I.os,I.bare,I.base,I.loc,I.cell,I.free,I.k_,I.pin,I.hok,I.len⟩
theorem Inv.yr (I:Inv (X.we E) pins σ H s):Inv X pins σ H s:=⟨I.ok.yr,I.os,I.bare,I.base,I.loc,I.cell,I.free,I.k_,I.pin,I.hok,I.len⟩
theorem SP.yr {D:Ends} {f:Flow} {s':Shared} (h:SP (X.we E) pins D f s'):SP X pins D f s':=by
 cases f with
 | next=>obtain ⟨σ',H',I,q⟩:=h;exact ⟨σ',H',I.yr,q⟩
 | brk=>obtain ⟨σ',H',I,q⟩:=h;exact ⟨σ',H',I.yr,q⟩
 | cont=>obtain ⟨σ',H',I,q⟩:=h;exact ⟨σ',H',I.yr,q⟩
 | ret u=>obtain ⟨v,σ',H',I,r,q⟩:=h;exact ⟨v,σ',H',I.yr,r,q⟩
theorem jz.qx {st:List Stmt} {t:TS} (h:jz X.qx st t):jz X st t:=fun pins s σ H D I hw=>
 wpAny_mono (h pins s σ H D (I.we _) hw) (fun _ _ q=>q.yr) fun _ _ z=>False.elim z
section
variable {st:Stmt} {rest:List Stmt} {t u:TS} {pos:Pos}
def DX:TS:=fun D σ H=>D.nx σ H
def xu (t u:TS):TS:=fun D σ H=>t {D with nx:=u D} σ H
theorem zK:jz X [] DX:=fun _ _ σ H _ I h=>wpAny_execs_nil ⟨σ,H,I,h⟩
theorem xK (h1:PS X st t) (h2:jz X rest u):jz X (st::rest) (xu t u):=by
 intro pins s σ H D I h
 refine wpAny_execs_cons (aj (h1 pins s σ H {D with nx:=u D} I h) fun f s1 q=>?_)
 cases f with
 | next=>
  obtain ⟨σ',H',I',q⟩:=q
  exact h2 pins s1 σ' H' D I' q
 | ret v=>exact q
 | brk=>exact q
 | cont=>exact q
theorem Oc (h1:PS X st t):jz X [st] t:=by
 intro pins s σ H D I h
 refine wpAny_execs_cons (aj (h1 pins s σ H D I h) fun f s1 q=>?_)
 cases f with
 | next=>exact wpAny_execs_nil q
 | ret v=>exact q
 | brk=>exact q
 | cont=>exact q
theorem Inv.quiet (I:Inv X pins σ H s):interactive X.env=false:=by simp [interactive,I.ok.kind]
def JB (te:TE):TS:=fun D σ H=>te σ H fun _ H1=>D.nx σ H1
theorem zJ (he:PE X e te) (hs:swapsWith e none pos.line X.env=pure false:=by rfl):PS X (.Expr e pos) (JB te):=by
 intro pins s σ H D I h
 exact wpAny_Expr_any (aj (he pins s σ H _ I h) fun v s1 ⟨x,H1,I1,r1,q1⟩=>⟨σ,H1,I1,q1⟩) I.quiet hs
def Cd (te:TE):TS:=fun D σ H=>te σ H D.rt
theorem Od (he:PE X e te):PS X (.Return (some e) pos) (Cd te):=by
 intro pins s σ H D I h
 exact wpAny_Return_some (aj (he pins s σ H _ I h) fun v s1 ⟨x,H1,I1,r1,q1⟩=>⟨x,σ,H1,I1,r1,q1⟩)
def FW (c:TT) (t u:TS):TS:=fun D σ H=>c σ H fun b H1=>if b=true then t D σ H1 else u D σ H1
theorem Oe {c:Expr} {a b:List Stmt} {tc:TT} (hc:PT X c tc) (ha:jz X a t) (hb:jz X b u):PS X (.If c a b pos) (FW tc t u):=by
 intro pins s σ H D I h
 refine wpAny_If (aj (hc pins s σ H _ I h) ?_)
 rintro d s1 ⟨H1,I1,q1⟩
 cases d with
 | true=>exact ha pins s1 σ H1 D I1 q1
 | false=>exact hb pins s1 σ H1 D I1 q1
end
abbrev TG:=V->St->Hp->(St->Hp->Prop)->Prop
abbrev uh:=List V->St->Hp->(St->Hp->Prop)->Prop
def PG (X:Cx) (target:Expr) (t:TG):Prop:=
 ∀ (pins:List (Addr×Obj)) (s:Shared) (σ:St) (H:Hp) (v:V) (u:Value) (Q:St->Hp->Prop),Inv X pins σ H s->RelV v u->t v σ H Q->
  wpAny (model X.prog X.w) X.A (assign target X.env u) (fun _ s'=>∃ σ' H',Inv X pins σ' H' s'/\Q σ' H') X.xe s
def Bd (X:Cx) (ts:List Expr) (t:uh):Prop:=
 ∀ (pins:List (Addr×Obj)) (s:Shared) (σ:St) (H:Hp) (vs:List V) (us:List Value) (Q:St->Hp->Prop),Inv X pins σ H s->a_ vs us->t vs σ H Q->
  wpAny (model X.prog X.w) X.A (assignInOrder ((assignEach ts X.env).map (·.2)) us) (fun _ s'=>∃ σ' H',Inv X pins σ' H' s'/\Q σ' H') X.xe s
abbrev DY:=V->V->V->Hp->(Hp->Prop)->Prop
def FY (X:Cx) (t:DY):Prop:=
 ∀ (pins:List (Addr×Obj)) (s:Shared) (σ:St) (H:Hp) (o i v:V) (ov iv u:Value) (Q:Hp->Prop),Inv X pins σ H s->RelV o ov->RelV i iv->RelV v u->t o i v H Q->
  wpAny (model X.prog X.w) X.A (setItem ov iv u) (fun _ s'=>∃ H',Inv X pins σ H' s'/\Q H') X.xe s
section
variable {pos:Pos}
def jc (i:Nat):TG:=fun v σ H Q=>Q (σ.set i (some v)) H
theorem Of (hN:X.N.Nodup) (hi:X.N[i]? =some x) (hx:Loc X.env.scope x) (hf:X.fn x=true\/X.env.scope.names.lookup x=some .local:=by first | exact .inl rfl | exact .inr rfl | assumption):PG X (.Name x pos) (jc i):=by
 intro pins s σ H v u Q I r h
 exact wpAny_assign_Name (qN I hN hi hx r (fun s' I'=>⟨_,H,I',h⟩) hf)
def Be:uh:=fun vs σ H Q=>vs=[]/\Q σ H
def wg (t:TG) (u:uh):uh:=fun vs σ H Q=>∃ v r,vs=v::r/\t v σ H fun σ' H'=>u r σ' H' Q
theorem Og:Bd X [] Be:=by
 intro pins s σ H vs us Q I r h
 obtain ⟨e,h⟩:=h
 subst e
 cases r
 exact assignInOrder_nil ⟨σ,H,I,h⟩
theorem wP {t:TG} {u:uh} (h1:PG X e t) (h2:Bd X es u)
  (hs:(assignEach (e::es) X.env).map (·.2)=assign e X.env::(assignEach es X.env).map (·.2):=by rfl):Bd X (e::es) (wg t u):=by
 intro pins s σ H vs us Q I r h
 obtain ⟨v,vr,e1,h⟩:=h
 subst e1
 cases r with
 | cons r rr=>
  rw [hs]
  refine assignInOrder_cons (aj (h1 pins s σ H _ _ _ I r h) ?_)
  rintro _ s1 ⟨σ1,H1,I1,q1⟩
  exact h2 pins s1 σ1 H1 _ _ Q I1 rr q1
def yt (K:QZ) (n:Nat) (t:uh):TG:=fun v σ H Q=>∃ a xs,v=.ref a/\au K H a xs/\xs.length=n/\t xs σ H Q
theorem Oh {k:Nat} {t:uh} (hc:X.calm=true) (h:Bd X es t)
  (hn:(assignEach es X.env).length=n:=by rfl) (ef:(assignEach es X.env).findIdx? (·.1)=none:=by rfl):PG X (.Tuple es k pos) (yt X.K n t):=by
 intro pins s σ H v u Q I r hw
 obtain ⟨a,xs,e1,hq,hl,hw⟩:=hw
 subst e1
 cases r
 obtain ⟨its,rv,ht,hz⟩:=I.tuple hq
 refine assign_Tuple_tuple (I.ok.hd hc) ht (by simp [hn,<- hl,rv.length]) ef fun h' hx=>?_
 have I1:Inv X pins σ H {s with heap:=h'}:=I.kept (t':=s.toks) fun b o e=>hx b o (Nat.ne_of_lt (Qz e)) e
 exact h pins _ σ H xs _ Q I1 (by simpa using rv) hw
def JC (to ti:TE) (t:DY):TG:=fun v σ H Q=>to σ H fun o H1=>ti σ H1 fun i H2=>t o i v H2 fun H3=>Q σ H3
theorem Oi {o i:Expr} {ti:TE} {t:DY} (ho:PE X o to) (hi:PE X i ti) (hs:FY X t)
  (ha:∀ v,assign (.Subscript o i pos) X.env v=(do
   let ov <- holding [v] (eval o X.env)
   let iv <- holding [v,ov] (eval i X.env)
   standAt pos
   holding [v,ov,iv] (setItem ov iv v)
   release [v,ov,iv] []):=by intro _;rfl):PG X (.Subscript o i pos) (JC to ti t):=by
 intro pins s σ H v u Q I r h
 rw [ha]
 refine QS (wpAny_holding (aj (ho pins s σ H _ I h) ?_))
 rintro ov s1 ⟨x,H1,I1,r1,q1⟩
 refine QS (wpAny_holding (aj (hi pins s1 σ H1 _ I1 q1) ?_))
 rintro iv s2 ⟨y,H2,I2,r2,q2⟩
 refine QS (wpAny_standAt (QS (wpAny_holding (aj (hs pins s2 σ H2 x y v ov iv u _ I2 r1 r2 r q2) ?_))))
 rintro _ s3 ⟨H3,I3,q3⟩
 exact wpAny_release ⟨σ,H3,I3,q3⟩
def wj (te:TE) (g:TG):TS:=fun D σ H=>te σ H fun x H1=>g x σ H1 D.nx
theorem Oj {g:TG} (he:PE X e te) (hg:PG X tg g) (hs:swapsWithSole [tg] e pos.line X.env=pure false:=by rfl) (hw:swappedStores [tg] e X.env=pure none:=by rfl)
  (h1:(assignEach [tg] X.env).map (·.2)=[assign tg X.env]:=by rfl):PS X (.Assign [tg] e pos) (wj te g):=by
 intro pins s σ H D I h
 refine wpAny_Assign_stores (aj (he pins s σ H _ I h) fun v s1 ⟨x,H1,I1,r1,q1⟩=>?_) hs hw
 rw [h1]
 exact aj (hg pins s1 σ H1 x v _ I1 r1 q1) fun _ s2 q=>q
theorem Ol {pos':Pos} (hN:X.N.Nodup) (hi:X.N[i]? =some x) (hx:Loc X.env.scope x) (he:PE X e te) (hs:swapsWith e (some (.Name x pos')) pos.line X.env=pure false:=by rfl) (hf:X.fn x=true\/X.env.scope.names.lookup x=some .local:=by first | exact .inl rfl | exact .inr rfl | assumption):
  PS X (.Assign [.Name x pos'] e pos) (wj te (jc i)):=by
 intro pins s σ H D I h
 refine wpAny_Assign_Name (aj (he pins s σ H _ I h) fun v s1 ⟨y,H1,I1,r1,q1⟩=>?_) hs
 exact qN I1 hN hi hx r1 (fun s2 I2=>⟨_,H1,I2,q1⟩) hf
def JD (c:TT) (tb:TS):TS:=fun D σ H=>∃ W:Nat->St->Hp->Prop,(∃ m,W m σ H)/\∀ m σ H,W m σ H->
 c σ H fun b H1=>if b=true then ∃ N:St->Hp->Prop,(∀ σ' H',N σ' H'->∃ m',m' < m/\W m' σ' H')/\tb {D with nx:=N,ct:=N,bk:=D.nx} σ H1 else D.nx σ H1
theorem xR {c:Expr} {tc:TT} {tb:TS} (hp:PassesOwn (model X.prog X.w) X.A X.env X.xe) (hc:PT X c tc) (hb:jz X body tb):PS X (.While c body [] pos) (JD tc tb):=by
 intro pins s σ H D I h
 obtain ⟨W,⟨m0,w0⟩,turn⟩:=h
 refine wpAny_While (codeAny_whileLoop (fun n s'=>∃ σ' H',Inv X pins σ' H' s'/\W n σ' H') ?_ m0 ⟨σ,H,I,w0⟩)
 rintro n s1 ⟨σ1,H1,I1,w1⟩
 refine wpAny_passesOwn hp (aj (hc pins s1 σ1 H1 _ I1 (turn n σ1 H1 w1)) ?_)
 rintro b s2 ⟨H2,I2,q2⟩
 cases b with
 | true=>
  obtain ⟨N,hN,q2⟩:=q2
  rw [if_pos rfl]
  refine wpAny_passesOwn hp (aj (hb pins s2 σ1 H2 _ I2 q2) fun f s3 q3=>?_)
  cases f with
  | next=>
   obtain ⟨σ3,H3,I3,n3⟩:=q3
   obtain ⟨m',hm,w3⟩:=hN σ3 H3 n3
   exact ⟨m',hm,σ3,H3,I3,w3⟩
  | cont=>
   obtain ⟨σ3,H3,I3,n3⟩:=q3
   obtain ⟨m',hm,w3⟩:=hN σ3 H3 n3
   exact ⟨m',hm,σ3,H3,I3,w3⟩
  | brk=>exact q3
  | ret v=>exact q3
 | false=>
  rw [if_neg Bool.false_ne_true]
  exact wpAny_execs_nil ⟨σ1,H2,I2,q2⟩
end
structure It where
 go:Nat->Hp->Prop
 h_:Nat->Hp->V->Hp->Prop
 stop:Nat->Hp->Prop
def lg (X:Cx) (pins:List (Addr×Obj)) (H:Hp) (b:Addr):Prop:=
 H b=none/\b≠X.env.locals/\b ∉ X.fs/\(b∈X.ex\/X.s₀.heap.objs.size<=b)/\(∀ x c,X.env.cells.lookup x=some c->c≠b)/\∀ p∈X.pn++pins,p.1≠b
theorem Inv.pq (I:Inv X pins σ H s) (hb:s.heap.objs.size<=b) (hn:H' b=none):lg X pins H' b:=by
 refine ⟨hn,Nat.ne_of_gt (Nat.lt_of_lt_of_le I.lt hb),I.NP hb,.inr (Nat.le_trans I.sz hb),fun x c e z=>?_,fun p hp z=>?_⟩
 ·obtain ⟨v,q⟩:=I.cell x c e
  exact absurd (Nat.lt_of_lt_of_le q.lt (by rw [z];exact hb)) (Nat.lt_irrefl _)
 ·exact absurd (Nat.lt_of_lt_of_le (Qz (I.pin p hp).1) (by rw [z];exact hb)) (Nat.lt_irrefl _)
structure Turn (P:Program) (w:World) (K:QZ) (tg:Expr) (J:It) (fp:List Addr) (it:Addr) (tn:Nat->Heap->Prop):Prop where
 mem:it∈fp
 obj:∀ i h,tn i h->∀ b∈fp,∃ o,h.get? b=some o/\∀ v,o.data≠.cell v
 keep:∀ i h h',tn i h->(∀ b∈fp,∀ o,h.get? b=some o->h'.get? b=some o)->tn i h'
 item:∀ (X:Cx),X.prog=P->X.w=w->X.K=K->X.calm=true->∀ (i:Nat) (pins:List (Addr×Obj)) (s:Shared) (σ:St) (H:Hp) (E:Value->Shared->Prop),Inv X pins σ H s->(∀ b∈fp,lg X pins H b)->tn i s.heap->J.go i H->
  wpAny (model P w) X.A (pyNext (.ref it)) (fun r s1=>∃ u,r=some u/\
   wpAny (model P w) X.A (letOwnedTupleGo tg (.ref it) u) (fun _ s2=>∃ x H',Inv X pins σ H' s2/\RelV x u/\J.h_ i H x H'/\tn (i+1) s2.heap/\∀ b∈fp,H' b=none) E s1) E s
 done:∀ (X:Cx),X.prog=P->X.w=w->X.K=K->X.calm=true->∀ (i:Nat) (pins:List (Addr×Obj)) (s:Shared) (σ:St) (H:Hp) (E:Value->Shared->Prop),Inv X pins σ H s->(∀ b∈fp,lg X pins H b)->tn i s.heap->J.stop i H->
  wpAny (model P w) X.A (pyNext (.ref it)) (fun r s1=>r=none/\Inv X pins σ H s1) E s
 self:∀ (A:Around) (i:Nat) (s:Shared) (Q:Value->Shared->Prop) (E:Value->Shared->Prop),tn i s.heap->Q (.ref it) s->wpAny (model P w) A (pyIter (.ref it)) Q E s
abbrev TI:=St->Hp->(It->Hp->Prop)->Prop
def yu (X:Cx) (pins:List (Addr×Obj)) (σ:St) (tg:Expr) (R:It->Hp->Prop) (gh:Value) (s2:Shared):Prop:=
 ∃ (it:Addr) (fp:List Addr) (tn:Nat->Heap->Prop) (J:It) (H':Hp),gh=.ref it/\Inv X pins σ H' s2/\Turn X.prog X.w X.K tg J fp it tn/\tn 0 s2.heap/\(∀ b∈fp,lg X pins H' b)/\R J H'
def PI (X:Cx) (tg iter:Expr) (wi:TI):Prop:=
 ∀ (pins:List (Addr×Obj)) (s:Shared) (σ:St) (H:Hp) (R:It->Hp->Prop),Inv X pins σ H s->wi σ H R->
  wpAny (model X.prog X.w) X.A (eval iter X.env) (fun v s1=>wpAny (model X.prog X.w) X.A (pyIter v) (yu X pins σ tg R) X.xe s1) X.xe s
theorem jX {M : Model} {A : Around} {E : Value -> Shared -> Prop} {s : Shared} {tg : Expr} {it : Addr} {u : Value} {o : Obj} {n : String} {vs : Array Value} {Q : Unit -> Shared -> Prop} (ho : s.heap.get? it = some o) (hc : o.cls = .type n) (hd : o.data = .fields vs)
    (hn : ["enumerate", "zip", "dict_itemiterator", "dict_reverseitemiterator", "odict_iterator", "itertools.zip_longest", "itertools.pairwise"].contains n = false) (hQ : Q () s) : wpAny M A (letOwnedTupleGo tg (.ref it) u) Q E s := by
  unfold letOwnedTupleGo
  cases tg <;> first
    | exact QT hQ
    | (cases u <;> first
        | exact QT hQ
        | (refine QS (wpAny_load ho ?_)
           rw [hc, hd]
           show wpAny M A (if (["enumerate", "zip", "dict_itemiterator", "dict_reverseitemiterator", "odict_iterator", "itertools.zip_longest", "itertools.pairwise"].contains n && vs[0]? == some (rawInt _)) = true then _ else _) Q E s
           rw [if_neg (by intro h; rw [hn, Bool.false_and] at h; cases h)]
           exact QT hQ))
def FZ (K:QZ) (a:Addr):It:=
 ⟨fun i H=>∃ xs x,ak K H a xs/\xs[i]? =some x,fun i H x H'=>H'=H/\∀ xs,ak K H a xs->xs[i]? =some x,fun i H=>∃ xs,ak K H a xs/\xs.length<=i⟩
def F0 (K:QZ) (a:Addr):It:=
 ⟨fun i H=>∃ xs x,au K H a xs/\xs[i]? =some x,fun i H x H'=>H'=H/\∀ xs,au K H a xs->xs[i]? =some x,fun i H=>∃ xs,au K H a xs/\xs.length<=i⟩
def DZ (lo:Int) (n:Nat):It:=⟨fun i _=>i < n,fun i H x H'=>H'=H/\x=.int (lo+i),fun i _=>n<=i⟩
theorem uY {K:QZ} (a it:Addr):Turn P w K tg (FZ K a) [it] it (fun i h=>h.IsListIter it a i) where
 mem:=by simp
 obj:=fun i h st b hb=>by
  have e:b=it:=by simpa using hb
  subst e
  obtain ⟨o,e,c,d⟩:=st
  exact ⟨o,e,fun v z=>by rw [d] at z;cases z⟩
 keep:=fun i h h' st k=>st.at fun o e=>k it (by simp) o e
 item:=by
  intro X hP hw hK hc i pins s σ H E I hf st hg
  subst hP hw hK
  obtain ⟨xs,x,hq,hx⟩:=hg
  obtain ⟨its,rv,p,hz⟩:=I.list hq
  obtain ⟨u,hu,ru⟩:=rv.get hx
  obtain ⟨f0,f1,f2,f3,f4,f5⟩:=hf it (by simp)
  refine wpAny_pyNext_list_item st p.isList (x:=u) (by simpa using hu) fun h' st' sb=>?_
  have I1:Inv X pins σ H {s with heap:=h'}:=I.turned (t':=s.toks) (fun b o hb e=>(sb.2 b hb).trans e) f0 f1 f3 f4 f5
  obtain ⟨o,e,c,d⟩:=id st'
  exact ⟨u,rfl,jX (s:={s with heap:=h'}) e c d (by decide) ⟨x,H,I1,ru,⟨rfl,fun ys hy=>by rw [I.FU hy hq];exact hx⟩,st',fun b hb=>(hf b hb).1⟩⟩
 done:=by
  intro X hP hw hK hc i pins s σ H E I hf st hg
  subst hP hw hK
  obtain ⟨xs,hq,hx⟩:=hg
  obtain ⟨its,rv,p,hz⟩:=I.list hq
  obtain ⟨f0,f1,f2,f3,f4,f5⟩:=hf it (by simp)
  have hl:=rv.length
  exact wpAny_pyNext_list_end (I.ok.hd hc) st p.isList (by simp;omega) fun h' eb=>⟨rfl,I.turned (t':=s.toks) (fun b o hb e=>eb b o hb e) f0 f1 f3 f4 f5⟩
 self:=fun _ _ _ _ _ st h=>wpAny_pyIter_listiter st h
theorem tQ {K:QZ} (a it:Addr):Turn P w K tg (F0 K a) [it] it (fun i h=>h.IsTupleIter it a i) where
 mem:=by simp
 obj:=fun i h st b hb=>by
  have e:b=it:=by simpa using hb
  subst e
  obtain ⟨o,e,c,d⟩:=st
  exact ⟨o,e,fun v z=>by rw [d] at z;cases z⟩
 keep:=fun i h h' st k=>st.at fun o e=>k it (by simp) o e
 item:=by
  intro X hP hw hK hc i pins s σ H E I hf st hg
  subst hP hw hK
  obtain ⟨xs,x,hq,hx⟩:=hg
  obtain ⟨its,rv,p,hz⟩:=I.tuple hq
  obtain ⟨u,hu,ru⟩:=rv.get hx
  obtain ⟨f0,f1,f2,f3,f4,f5⟩:=hf it (by simp)
  refine wpAny_pyNext_tuple_item st (show s.heap.IsTuple a its.toArray from p) (x:=u) (by simpa using hu) fun h' st' sb=>?_
  have I1:Inv X pins σ H {s with heap:=h'}:=I.turned (t':=s.toks) (fun b o hb e=>(sb.2 b hb).trans e) f0 f1 f3 f4 f5
  obtain ⟨o,e,c,d⟩:=id st'
  exact ⟨u,rfl,jX (s:={s with heap:=h'}) e c d (by decide) ⟨x,H,I1,ru,⟨rfl,fun ys hy=>by rw [I.Ob hy hq];exact hx⟩,st',fun b hb=>(hf b hb).1⟩⟩
 done:=by
  intro X hP hw hK hc i pins s σ H E I hf st hg
  subst hP hw hK
  obtain ⟨xs,hq,hx⟩:=hg
  obtain ⟨its,rv,p,hz⟩:=I.tuple hq
  obtain ⟨f0,f1,f2,f3,f4,f5⟩:=hf it (by simp)
  have hl:=rv.length
  exact wpAny_pyNext_tuple_end (I.ok.hd hc) st (show s.heap.IsTuple a its.toArray from p) (by simp;omega) fun h' eb=>⟨rfl,I.turned (t':=s.toks) (fun b o hb e=>eb b o hb e) f0 f1 f3 f4 f5⟩
 self:=fun _ _ _ _ _ st h=>wpAny_pyIter_tupleiter st h
theorem tI {K:QZ} (it:Addr) (lo:Int) (n:Nat):Turn P w K tg (DZ lo n) [it] it (fun i h=>IsRangeIter h it (lo+(i:Nat)*1) ((n:Int) - (i:Nat)) 1) where
 mem:=by simp
 obj:=fun i h st b hb=>by
  have e:b=it:=by simpa using hb
  subst e
  exact ⟨_,st,fun v z=>by
   have z':Data.fields _=Data.cell v:=z
   cases z'⟩
 keep:=fun i h h' st k=>k it (by simp) _ st
 item:=by
  intro X hP hw hK hc i pins s σ H E I hf st hg
  subst hP hw hK
  obtain ⟨f0,f1,f2,f3,f4,f5⟩:=hf it (by simp)
  have W:=Walks.range (prog:=X.prog) (w:=X.w) (I.ok.hd hc) it lo 1 n
  refine W.item i s _ _ hg st fun v h' tk hv st' kk=>?_
  obtain ⟨t,rfl⟩:=hv
  have I1:Inv X pins σ H {s with heap:=h',toks:=tk}:=I.turned (fun b o hb e=>kk b o (by simpa using hb) e) f0 f1 f3 f4 f5
  refine ⟨_,rfl,jX (s:={s with heap:=h',toks:=tk}) (n:="range_iterator") st' rfl rfl (by decide) ⟨.int (lo+i),H,I1,⟨t,?_⟩,⟨rfl,rfl⟩,st',fun b hb=>(hf b hb).1⟩⟩
  rw [Int.mul_one]
 done:=by
  intro X hP hw hK hc i pins s σ H E I hf st hg
  subst hP hw hK
  obtain ⟨f0,f1,f2,f3,f4,f5⟩:=hf it (by simp)
  exact wpAny_pyNext_range_end (I.ok.hd hc) st (by have:n<=i:=hg;omega) fun h' eb=>⟨rfl,I.turned (t':=s.toks) (fun b o hb e=>eb b o hb e) f0 f1 f3 f4 f5⟩
 self:=fun _ _ _ _ _ st h=>wpAny_pyIter_rangeiter st h
theorem y0 {R:It->Hp->Prop} {lo hi:Int} {t u v:Tok} {tk:Nat} (I:Inv X pins σ H s) (h1: -(2^62)<=lo) (h2:lo < 2^62) (h3: -(2^62)<=hi) (h4:hi < 2^62)
  (q:R (DZ lo (hi - lo).toNat) H):wpAny (model X.prog X.w) X.A (pyIter (.ref s.heap.objs.size)) (yu X pins σ tg R) E {s with heap:=s.heap.push {cls:=.type "range",data:=.fields #[.int lo t,.int hi u,.int 1 v]},toks:=tk}:=by
 refine wpAny_pyIter_range (IsRange.new ..) (small_one h1 h2 h3 h4) ?_
 have I1:Inv X pins σ H {s with heap:=s.heap.push {cls:=.type "range",data:=.fields #[.int lo t,.int hi u,.int 1 v]},toks:=tk}:=I.kept fun b o e=>Qc _ e
 refine ⟨(s.heap.push {cls:=.type "range",data:=.fields #[.int lo t,.int hi u,.int 1 v]}).objs.size,[(s.heap.push {cls:=.type "range",data:=.fields #[.int lo t,.int hi u,.int 1 v]}).objs.size],_,_,H,rfl,
  I1.kept (t':=tk) fun b o e=>Qc _ e,tI _ lo (hi - lo).toNat,?_,fun b hb=>?_,q⟩
 ·have e1:lo+((0:Nat):Int)*1=lo:=by simp
  have e2:(((hi - lo).toNat:Nat):Int) - ((0:Nat):Int)=Builtin.Range.rangeSize lo hi 1:=by rw [rangeSize_one];split<;>omega
  show IsRangeIter _ _ (lo+((0:Nat):Int)*1) ((((hi - lo).toNat:Nat):Int) - ((0:Nat):Int)) 1
  rw [e1,e2]
  exact Qd _ rfl
 ·have e:b=(s.heap.push {cls:=.type "range",data:=.fields #[.int lo t,.int hi u,.int 1 v]}).objs.size:=by simpa using hb
  subst e
  exact I1.pq (Qy _) (I1.hok.fresh (Qy _))
def JE (ta:TA):TI:=fun σ H R=>ta σ H fun vs H1=>∃ j:Int,vs=[.int j]/\ -(2^62)<=j/\j < 2^62/\R (DZ 0 j.toNat) H1
theorem vH {a:Expr} {ta:TA} {p pos:Pos} (hg:Gl X "range") (hm:X.mg "range"=none) (ha:PA X [a] ta) (hs:starEach [a] X.env=[(false,eval a X.env)]:=by rfl):PI X tg (.Call (.Name "range" p) [a] [] pos) (JE ta):=by
 intro pins s σ H R I h
 refine Call_ (hX I hg hm boot_range (PyProof.Rows.callWith_type1 (aj (ha pos pins s σ H _ I h) fun us s1 ⟨vs,H1,I1,r1,q1⟩=>?_) hs rfl))
 obtain ⟨j,e,q1,q2,q⟩:=q1
 subst e
 cases r1 with
 | cons r rr=>
  cases rr
  obtain ⟨t,rfl⟩:=r
  exact call_range_1 (y0 I1 (by omega) (by omega) q1 q2 (by simpa using q))
def JF (wi:TI) (g:TG) (tb:TS):TS:=fun D σ H=>wi σ H fun J H1=>∃ W:Nat->Nat->St->Hp->Prop,(∃ m,W 0 m σ H1)/\∀ i m σ H,W i m σ H->
 (J.stop i H/\D.nx σ H)\/(J.go i H/\∃ N:St->Hp->Prop,(∀ σ' H',N σ' H'->∃ m',m' < m/\W (i+1) m' σ' H')/\∀ x H',J.h_ i H x H'->g x σ H' fun σ2 H2=>tb {D with nx:=N,ct:=N,bk:=D.nx} σ2 H2)
def Bf (fp:List Addr) (h:Heap):List (Addr×Obj):=fp.filterMap fun b=>(h.get? b).map fun o=>(b,o)
theorem bX (hb:b∈fp) (e:h.get? b=some o):(b,o)∈Bf fp h:=List.mem_filterMap.mpr ⟨b,hb,by rw [e];rfl⟩
theorem uZ {p:Addr×Obj} (hp:p∈Bf fp h):p.1∈fp/\h.get? p.1=some p.2:=by
 obtain ⟨b,hb,e⟩:=List.mem_filterMap.mp hp
 cases q:h.get? b with
 | none=>rw [q] at e;cases e
 | some o=>
  rw [q] at e
  have e':(b,o)=p:=QD e
  subst e'
  exact ⟨hb,q⟩
theorem Inv.pinned (I:Inv X pins σ H s) (hf:∀ b∈fp,lg X pins H b) (ho:∀ b∈fp,∃ o,s.heap.get? b=some o/\∀ v,o.data≠.cell v):Inv X (pins++Bf fp s.heap) σ H s:=
 I.Jm fun p hp=>(List.mem_append.mp hp).elim (fun z=>I.pin p (List.mem_append_right _ z)) fun z=>by
  obtain ⟨hb,e⟩:=uZ z
  obtain ⟨f0,f1,f2,_⟩:=hf p.1 hb
  obtain ⟨o,e',d⟩:=ho p.1 hb
  rw [e] at e';cases e'
  exact ⟨e,f0,f1,f2,d⟩
theorem Inv.Bg {pl:List (Addr×Obj)} (I:Inv X (pins++pl) σ H s):Inv X pins σ H s:=I.Jm fun p hp=>I.pin p (List.mem_append_right _ (List.mem_append_left _ hp))
theorem Om {iter:Expr} {wi:TI} {g:TG} {tb:TS} {pos:Pos} (hp:PassesOwn (model X.prog X.w) X.A X.env X.xe) (hc:X.calm=true) (hi:PI X tg iter wi) (hg:PG X tg g) (hb:jz X body tb)
  (hs:∀ x,foldedSetIterable iter X.env x=pure x:=by intro _;rfl):PS X (.For tg iter body [] pos) (JF wi g tb):=by
 intro pins s σ H D I h
 refine wpAny_For (aj (hi pins s σ H _ I h) fun v s1 h1=>aj h1 fun gh s2 h2=>?_) hs
 obtain ⟨it,fp,tn,J,H2,e,I2,T,j_,f2,W,⟨m0,w0⟩,turn⟩:=h2
 subst e
 -- XQ stays true of JG XR objects through JG loop
 have lh:∀ {H':Hp},(∀ b∈fp,H' b=none)->∀ b∈fp,lg X pins H' b:=fun hn b hb=>⟨hn b hb,(f2 b hb).2⟩
 refine codeAny_forLoop_any (fun n s'=>∃ i σ' H',Inv X pins σ' H' s'/\tn i s'.heap/\(∀ b∈fp,H' b=none)/\W i n σ' H') ?_ m0 ⟨0,σ,H2,I2,j_,fun b hb=>(f2 b hb).1,w0⟩
 rintro n s3 ⟨i,σ3,H3,I3,um,uo,w3⟩
 rcases turn i n σ3 H3 w3 with ⟨stop,qn⟩ | ⟨go,N,hN,step⟩
 ·refine wpAny_passesOwn hp (aj (T.done X rfl rfl rfl hc i pins s3 σ3 H3 X.xe I3 (lh uo) um stop) ?_)
  rintro r s4 ⟨hr,I4⟩
  subst hr
  exact wpAny_execs_nil ⟨σ3,H3,I4,qn⟩
 ·refine wpAny_passesOwn hp (aj (T.item X rfl rfl rfl hc i pins s3 σ3 H3 X.xe I3 (lh uo) um go) ?_)
  rintro r s4 ⟨u,hr,h4⟩
  subst hr
  refine wpAny_passesOwn hp (aj h4 ?_)
  rintro _ s5 ⟨x,H5,I5,r5,y5,lj,Aq⟩
  have Ar:=I5.pinned (lh Aq) (T.obj _ _ lj)
  refine wpAny_passesOwn hp (aj (hg _ s5 σ3 H5 x u _ Ar r5 (step x H5 y5)) ?_)
  rintro _ s6 ⟨σ6,H6,I6,q6⟩
  refine wpAny_passesOwn hp (aj (hb _ s6 σ6 H6 _ I6 q6) fun f s7 q7=>?_)
  have again:∀ {σ7:St} {H7:Hp},Inv X (pins++Bf fp s5.heap) σ7 H7 s7->N σ7 H7->∃ m,m < n/\∃ i σ' H',Inv X pins σ' H' s7/\tn i s7.heap/\(∀ b∈fp,H' b=none)/\W i m σ' H':=fun {σ7 H7} I7 n7=>by
   obtain ⟨m',hm,w7⟩:=hN σ7 H7 n7
   refine ⟨m',hm,i+1,σ7,H7,I7.Bg,T.keep _ _ _ lj fun b hb o e=>(I7.pin (b,o) (List.mem_append_right _ (List.mem_append_right _ (bX hb e)))).1,fun b hb=>?_,w7⟩
   obtain ⟨o,e,d⟩:=T.obj _ _ lj b hb
   exact (I7.pin (b,o) (List.mem_append_right _ (List.mem_append_right _ (bX hb e)))).2.1
  cases f with
  | next=>obtain ⟨σ7,H7,I7,n7⟩:=q7;exact again I7 n7
  | cont=>obtain ⟨σ7,H7,I7,n7⟩:=q7;exact again I7 n7
  | brk=>obtain ⟨σ7,H7,I7,q7⟩:=q7;exact ⟨σ7,H7,I7.Bg,q7⟩
  | ret v=>obtain ⟨x7,σ7,H7,I7,r7,q7⟩:=q7;exact ⟨x7,σ7,H7,I7.Bg,r7,q7⟩
abbrev R2:=V->V->Hp->VK->Prop
def cg (X:Cx) (f:Value->Value->Sem Value) (r:R2):Prop:=
 ∀ (pins:List (Addr×Obj)) (s:Shared) (σ:St) (H:Hp) (x y:V) (v u:Value) (Q:VK),Inv X pins σ H s->RelV x v->RelV y u->r x y H Q->
  wpAny (model X.prog X.w) X.A (f v u) (EP X pins σ Q) X.xe s
def D0 (X:Cx) (f:Value->Sem Value) (r:V->Hp->VK->Prop):Prop:=
 ∀ (pins:List (Addr×Obj)) (s:Shared) (σ:St) (H:Hp) (x:V) (v:Value) (Q:VK),Inv X pins σ H s->RelV x v->r x H Q->
  wpAny (model X.prog X.w) X.A (f v) (EP X pins σ Q) X.xe s
def iu (X:Cx) (f:Value) (r:List V->Hp->VK->Prop):Prop:=
 ∀ (pins:List (Addr×Obj)) (s:Shared) (σ:St) (H:Hp) (xs:List V) (us:List Value) (Q:VK),Inv X pins σ H s->a_ xs us->r xs H Q->
  wpAny (model X.prog X.w) X.A (call f us) (EP X pins σ Q) X.xe s
def qy (r:R2) (ta tb:TE):TE:=fun σ H Q=>ta σ H fun x H1=>tb σ H1 fun y H2=>r x y H2 Q
def JH (r:V->Hp->VK->Prop) (ta:TE):TE:=fun σ H Q=>ta σ H fun x H1=>r x H1 Q
def rI (C:Int->Int->Prop) (g:Int->Int->V):R2:=fun x y H Q=>∃ i j,x=.int i/\y=.int j/\C i j/\Q (g i j) H
def As (g:Int->Int->V):R2:=fun x y H Q=>∃ i j,x=.int i/\y=.int j/\Q (g i j) H
def rU (g:Int->V):V->Hp->VK->Prop:=fun x H Q=>∃ i,x=.int i/\Q (g i) H
section
variable {a b c:Expr} {tb tc:TE} {pos:Pos}
theorem F1 (ha:PE X a ta) (hb:PE X b tb) {R:V->V->Hp->Prop} (I:Inv X pins σ H s)
  (h:ta σ H fun x H1=>tb σ H1 fun y H2=>R x y H2) {Q:Value->Shared->Prop} {f:Value->Value->Sem Value}
  (hf:∀ v u s2 x y H2,Inv X pins σ H2 s2->RelV x v->RelV y u->R x y H2->wpAny (model X.prog X.w) X.A (f v u) Q X.xe s2):
  wpAny (model X.prog X.w) X.A (eval a X.env) (fun v s₁=>wpAny (model X.prog X.w) X.A (eval b X.env) (fun u s₂=>wpAny (model X.prog X.w) X.A (f v u) Q X.xe s₂) X.xe s₁) X.xe s:=by
 refine aj (ha pins s σ H _ I h) ?_
 rintro v s1 ⟨x,H1,I1,r1,q1⟩
 refine aj (hb pins s1 σ H1 _ I1 q1) ?_
 rintro u s2 ⟨y,H2,I2,r2,q2⟩
 exact hf v u s2 x y H2 I2 r1 r2 q2
theorem Oo {op:Operator} {r:R2} (ho:cg X (binaryOp op) r) (ha:PE X a ta) (hb:PE X b tb):PE X (.BinOp a op b pos) (qy r ta tb):=by
 intro pins s σ H Q I h
 exact wpAny_BinOp (F1 ha hb I h fun v u s2 x y H2 I2 rx ry q=>ho pins s2 σ H2 x y v u Q I2 rx ry q)
theorem Oq {op:UnaryOp} {r:V->Hp->VK->Prop} (ho:D0 X (unaryOp op) r) (ha:PE X a ta):PE X (.UnaryOp op a pos) (JH r ta):=by
 intro pins s σ H Q I h
 exact UnaryOp_ (aj (ha pins s σ H _ I h) fun v s1 ⟨x,H1,I1,r1,q1⟩=>ho pins s1 σ H1 x v Q I1 r1 q1)
theorem D5 {f:Value->Value->Sem Value} {C:Int->Int->Prop} {g:Int->Int->Int}
  (rule:∀ (i j:Int) (t u:Tok) (s:Shared) (Q:Value->Shared->Prop) (E:Value->Shared->Prop),C i j->Q (.int (g i j) s.toks) {s with toks:=s.toks+1}->wpAny (model X.prog X.w) X.A (f (.int i t) (.int j u)) Q E s):
  cg X f (rI C fun i j=>.int (g i j)):=by
 intro pins s σ H x y v u Q I rx ry h
 obtain ⟨i,j,rfl,rfl,hc,q⟩:=h
 obtain ⟨t,rfl⟩:=rx
 obtain ⟨t',rfl⟩:=ry
 exact rule i j t t' s _ _ hc ⟨.int (g i j),H,I.tok _,⟨_,rfl⟩,q⟩
theorem Ot {f:Value->Value->Sem Value} {g:Int->Int->Int}
  (rule:∀ (i j:Int) (t u:Tok) (s:Shared) (Q:Value->Shared->Prop) (E:Value->Shared->Prop),Q (.int (g i j) s.toks) {s with toks:=s.toks+1}->wpAny (model X.prog X.w) X.A (f (.int i t) (.int j u)) Q E s):
  cg X f (As fun i j=>.int (g i j)):=by
 intro pins s σ H x y v u Q I rx ry h
 obtain ⟨i,j,rfl,rfl,q⟩:=h
 obtain ⟨t,rfl⟩:=rx
 obtain ⟨t',rfl⟩:=ry
 exact rule i j t t' s _ _ ⟨.int (g i j),H,I.tok _,⟨_,rfl⟩,q⟩
theorem D6 {f:Value->Value->Sem Value} {g:Int->Int->Bool}
  (rule:∀ (i j:Int) (t u:Tok) (s:Shared) (Q:Value->Shared->Prop) (E:Value->Shared->Prop),Q (.bool (g i j)) s->wpAny (model X.prog X.w) X.A (f (.int i t) (.int j u)) Q E s):
  cg X f (As fun i j=>.bl (g i j)):=by
 intro pins s σ H x y v u Q I rx ry h
 obtain ⟨i,j,rfl,rfl,q⟩:=h
 obtain ⟨t,rfl⟩:=rx
 obtain ⟨t',rfl⟩:=ry
 exact rule i j t t' s _ _ ⟨.bl (g i j),H,I,rfl,q⟩
def Ou (i j:Int):Prop:=0 < j/\j < 1073741824
def JI (i j:Int):Prop:=0<=j/\j<=1000000/\i.natAbs < 2^64
def D7 (i j:Int):Prop:=(-(2^64) < i/\i < 2^64)\/(-(2^64) < j/\j < 2^64)
theorem D7.ok {i j:Int} (h:D7 i j):IntMulOk i j:=by
 rcases h with ⟨h1,h2⟩ | ⟨h1,h2⟩
 ·exact .of_left (intBits_le_64 h1 h2)
 ·exact .of_right (intBits_le_64 h1 h2)
theorem Ov:cg X (binaryOp .Add) (As fun i j=>.int (i+j)):=Ot fun _ _ _ _ _ _ _ q=>add_int q
theorem Ox:cg X (binaryOp .Mult) (rI D7 fun i j=>.int (i*j)):=D5 fun _ _ _ _ _ _ _ hc q=>mul_int q hc.ok
theorem zZ:cg X (binaryOp .FloorDiv) (rI Ou fun i j=>.int (i / j)):=D5 fun i j _ _ _ _ _ hc q=>by
 have h1:(0:Int) < j:=hc.1
 have h2:j < 1073741824:=hc.2
 exact floordiv_int (by omega) (by rw [Int.fdiv_eq_ediv_of_nonneg i (by omega)];exact q) (.inl (PyProof.noPylong_small (by omega)))
theorem Oz:cg X (binaryOp .Mod) (rI (fun _ j=>0 < j) fun i j=>.int (i % j)):=D5 fun i j _ _ _ _ _ hc q=>by
 have h1:(0:Int) < j:=hc
 exact mod_int' (by omega) (by rw [Int.fmod_eq_emod_of_nonneg i (by omega)];exact q)
theorem OA:cg X (binaryOp .Pow) (rI JI fun i j=>.int (i^j.toNat)):=D5 fun _ _ _ _ _ _ _ hc q=>pow_int_small hc.1 hc.2.1 hc.2.2 q
theorem OB {f:Value->Sem Value} {g:Int->Int}
  (rule:∀ (i:Int) (t:Tok) (s:Shared) (Q:Value->Shared->Prop) (E:Value->Shared->Prop),Q (.int (g i) s.toks) {s with toks:=s.toks+1}->wpAny (model X.prog X.w) X.A (f (.int i t)) Q E s):
  D0 X f (rU fun i=>.int (g i)):=by
 intro pins s σ H x v Q I rx h
 obtain ⟨i,rfl,q⟩:=h
 obtain ⟨t,rfl⟩:=rx
 exact rule i t s _ _ ⟨.int (g i),H,I.tok _,⟨_,rfl⟩,q⟩
theorem x9:D0 X (unaryOp .USub) (rU fun i=>.int (-i)):=OB fun _ _ _ _ _ q=>neg_int q
end
def Ce:V->V->Bool
 | .ao,.ao=>true | .ao,.int _=>true | .int _,.ao=>true | .ao,.bl _=>true | .bl _,.ao=>true | .ao,.str _=>true | .str _,.ao=>true
 | .int _,.int _=>true | .bl _,.bl _=>true | .str _,.str _=>true | .mq _,.mq _=>true
 | .int _,.str _=>true | .str _,.int _=>true | .bl _,.str _=>true | .str _,.bl _=>true
 | _,_=>false
def OC:R2:=fun x y H Q=>Ce x y=true/\Q (.bl (decide (x=y))) H
def OD:R2:=fun x y H Q=>Ce x y=true/\Q (.bl (!decide (x=y))) H
theorem uN {i j:Int}:decide (V.int i=V.int j)=(i==j):=by
 rw [Bool.eq_iff_iff]
 simp
theorem yD {i j:Bool}:decide (V.bl i=V.bl j)=(i==j):=by
 rw [Bool.eq_iff_iff]
 simp
theorem uP {i j:Str}:decide (V.str i=V.str j)=(i==j):=by
 rw [Bool.eq_iff_iff]
 simp
theorem uL {i j:Array UInt8}:decide (V.mq i=V.mq j)=(i.toList==j.toList):=by
 rw [Bool.eq_iff_iff]
 cases i
 cases j
 simp
section
variable {a b c:Expr} {tb tc:TE} {pos:Pos}
theorem aV {Q:VK} {k k':Bool} (I:Inv X pins σ H s) (q:Q (.bl k) H) (e:k=k'):EP X pins σ Q (.bool k') s:=by
 subst e
 exact ⟨.bl k,H,I,rfl,q⟩
theorem OE:cg X (compareOp .Eq) OC:=by
 intro pins s σ H x y v u Q I rx ry h
 obtain ⟨hs,q⟩:=h
 cases x with
 | ao=>
  cases rx
  cases y with
  | ao=>cases ry;exact PySem.EqNone.eq_none_none (aV I q (by simp))
  | bl j=>cases ry;exact PySem.EqNone.eq_none_bool (aV I q (by simp))
  | int j=>obtain ⟨t',rfl⟩:=ry;exact PySem.EqNone.eq_none_int (aV I q (by simp))
  | str j=>obtain ⟨t',rfl⟩:=ry;exact PySem.EqNone.eq_none_str (aV I q (by simp))
  | _=>exact absurd (show false=true from hs) Bool.false_ne_true
 | bl i=>
  cases rx
  cases y with
  | ao=>cases ry;exact PySem.EqNone.eq_bool_none (aV I q (by simp))
  | bl j=>cases ry;exact eq_bool (aV I q yD)
  | str j=>obtain ⟨t',rfl⟩:=ry;exact PySem.EqMixed.eq_bool_str (aV I q (by simp))
  | _=>exact absurd (show false=true from hs) Bool.false_ne_true
 | int i=>
  obtain ⟨t,rfl⟩:=rx
  cases y with
  | ao=>cases ry;exact PySem.EqNone.eq_int_none (aV I q (by simp))
  | int j=>obtain ⟨t',rfl⟩:=ry;exact eq_int (aV I q uN)
  | str j=>obtain ⟨t',rfl⟩:=ry;exact PySem.EqMixed.eq_int_str (aV I q (by simp))
  | _=>exact absurd (show false=true from hs) Bool.false_ne_true
 | str i=>
  obtain ⟨t,rfl⟩:=rx
  cases y with
  | ao=>cases ry;exact PySem.EqNone.eq_str_none (aV I q (by simp))
  | bl j=>cases ry;exact PySem.EqMixed.eq_str_bool (aV I q (by simp))
  | int j=>obtain ⟨t',rfl⟩:=ry;exact PySem.EqMixed.eq_str_int (aV I q (by simp))
  | str j=>obtain ⟨t',rfl⟩:=ry;exact eq_str (aV I q uP)
  | _=>exact absurd (show false=true from hs) Bool.false_ne_true
 | mq i=>
  obtain ⟨t,rfl⟩:=rx
  cases y with
  | mq j=>obtain ⟨t',rfl⟩:=ry;exact PySem.W.eq_bytes (aV I q uL)
  | _=>exact absurd (show false=true from hs) Bool.false_ne_true
 | _=>cases y<;>exact absurd (show false=true from hs) Bool.false_ne_true
theorem OF:cg X (compareOp .NotEq) OD:=by
 intro pins s σ H x y v u Q I rx ry h
 obtain ⟨hs,q⟩:=h
 cases x with
 | ao=>
  cases rx
  cases y with
  | ao=>cases ry;exact PySem.EqNone.ne_none_none (aV I q (by simp))
  | bl j=>cases ry;exact PySem.EqNone.ne_none_bool (aV I q (by simp))
  | int j=>obtain ⟨t',rfl⟩:=ry;exact PySem.EqNone.ne_none_int (aV I q (by simp))
  | str j=>obtain ⟨t',rfl⟩:=ry;exact PySem.EqNone.ne_none_str (aV I q (by simp))
  | _=>exact absurd (show false=true from hs) Bool.false_ne_true
 | bl i=>
  cases rx
  cases y with
  | ao=>cases ry;exact PySem.EqNone.ne_bool_none (aV I q (by simp))
  | bl j=>cases ry;exact ne_bool (aV I q (congrArg not yD))
  | str j=>obtain ⟨t',rfl⟩:=ry;exact PySem.EqMixed.ne_bool_str (aV I q (by simp))
  | _=>exact absurd (show false=true from hs) Bool.false_ne_true
 | int i=>
  obtain ⟨t,rfl⟩:=rx
  cases y with
  | ao=>cases ry;exact PySem.EqNone.ne_int_none (aV I q (by simp))
  | int j=>obtain ⟨t',rfl⟩:=ry;exact ne_int (aV I q (congrArg not uN))
  | str j=>obtain ⟨t',rfl⟩:=ry;exact PySem.EqMixed.ne_int_str (aV I q (by simp))
  | _=>exact absurd (show false=true from hs) Bool.false_ne_true
 | str i=>
  obtain ⟨t,rfl⟩:=rx
  cases y with
  | ao=>cases ry;exact PySem.EqNone.ne_str_none (aV I q (by simp))
  | bl j=>cases ry;exact PySem.EqMixed.ne_str_bool (aV I q (by simp))
  | int j=>obtain ⟨t',rfl⟩:=ry;exact PySem.EqMixed.ne_str_int (aV I q (by simp))
  | str j=>obtain ⟨t',rfl⟩:=ry;exact ne_str (aV I q (congrArg not uP))
  | _=>exact absurd (show false=true from hs) Bool.false_ne_true
 | mq i=>
  obtain ⟨t,rfl⟩:=rx
  cases y with
  | mq j=>obtain ⟨t',rfl⟩:=ry;exact PySem.W.ne_bytes (aV I q (congrArg not uL))
  | _=>exact absurd (show false=true from hs) Bool.false_ne_true
 | _=>cases y<;>exact absurd (show false=true from hs) Bool.false_ne_true
theorem OG:cg X (compareOp .Lt) (As fun i j=>.bl (decide (i < j))):=D6 fun _ _ _ _ _ _ _ q=>lt_int q
theorem OH:cg X (compareOp .LtE) (As fun i j=>.bl (decide (i<=j))):=D6 fun _ _ _ _ _ _ _ q=>le_int q
theorem OI:cg X (compareOp .Gt) (As fun i j=>.bl (decide (j < i))):=D6 fun _ _ _ _ _ _ _ q=>gt_int q
theorem OJ:cg X (compareOp .GtE) (As fun i j=>.bl (decide (j<=i))):=D6 fun _ _ _ _ _ _ _ q=>ge_int q
theorem vK:cg X (compareOp .Lt) (fun x y H Q=>∃ i j,x=.str i/\y=.str j/\Q (.bl (decide (i.cps.toList < j.cps.toList))) H):=by
 intro pins s σ H x y v u Q I rx ry h
 obtain ⟨i,j,rfl,rfl,q⟩:=h
 obtain ⟨t,rfl⟩:=rx
 obtain ⟨t',rfl⟩:=ry
 exact lt_str (aV I q rfl)
theorem vR:cg X (compareOp .In) (fun x y H Q=>∃ i j,x=.str i/\y=.str j/\Q (.bl (!(Builtin.Str.occurrences j i 0 j.length 1).isEmpty)) H):=by
 intro pins s σ H x y v u Q I rx ry h
 obtain ⟨i,j,rfl,rfl,q⟩:=h
 obtain ⟨t,rfl⟩:=rx
 obtain ⟨t',rfl⟩:=ry
 exact in_str (aV I q rfl)
theorem OL:cg X (compareOp .Is) (fun x y H Q=>y=.ao/\Q (.bl (decide (x=.ao))) H):=by
 intro pins s σ H x y v u Q I rx ry h
 obtain ⟨rfl,q⟩:=h
 cases ry
 refine is_none_gen (aV I q ?_)
 cases x<;>first
  | (cases rx;rfl)
  | (obtain ⟨t,rfl⟩:=rx;rfl)
theorem eu (b:Expr) (h:op≠.In:=by decide) (h2:op≠.NotIn:=by decide):behindInMarks op b=false:=by
 have e1:(op==CmpOp.In)=false:=by cases op<;>first | rfl | exact absurd rfl h
 have e2:(op==CmpOp.NotIn)=false:=by cases op<;>first | rfl | exact absurd rfl h2
 cases b<;>simp [behindInMarks,e1,e2]
theorem zP {r:R2} (ho:cg X (compareOp op) r) (ha:PE X a ta) (hb:PE X b tb) (hm:behindInMarks op b=false):PE X (.Compare a [op] [b] pos) (qy r ta tb):=by
 intro pins s σ H Q I h
 exact wpAny_Compare1 (F1 ha hb I h fun v u s2 x y H2 I2 rx ry q=>ho pins s2 σ H2 x y v u Q I2 rx ry q) hm
def F2 (t:TE):TT:=fun σ H Q=>t σ H fun x H'=>∃ k,x=.bl k/\Q k H'
theorem OM {r:R2} (ho:cg X (compareOp op) r) (ha:PE X a ta) (hb:PE X b tb) (hm:behindInMarks op b=false):PT X (.Compare a [op] [b] pos) (F2 (qy r ta tb)):=by
 intro pins s σ H Q I h
 refine wpAny_isTrue_Compare1 (aj (ha pins s σ H _ I h) fun v s1 ⟨x,H1,I1,r1,q1⟩=>aj (hb pins s1 σ H1 _ I1 q1) fun u s2 ⟨y,H2,I2,r2,q2⟩=>
  aj (ho pins s2 σ H2 x y v u _ I2 r1 r2 q2) fun c s3 ⟨z,H3,I3,r3,k,e,q3⟩=>?_) hm
 subst e
 cases r3
 exact wpAny_truthy_bool ⟨H3,I3,q3⟩
theorem Cf:(sizeLine:Nat) < 2^63:=by rw [QL];decide
theorem rV:cg X (binaryOp .Add) (fun x y H Q=>∃ i j,x=.str i/\y=.str j/\i.length+j.length<=sizeLine/\Q (.str (i++j)) H):=by
 intro pins s σ H x y v u Q I rx ry h
 obtain ⟨i,j,rfl,rfl,hz,q⟩:=h
 obtain ⟨t,rfl⟩:=rx
 obtain ⟨t',rfl⟩:=ry
 exact add_str (fun t' tk=>⟨.str (i++j),H,I.tok _,⟨_,rfl⟩,q⟩) hz
theorem vals1 {x:V} (r:a_ [x] us):∃ u,us=[u]/\RelV x u:=by
 cases r with
 | cons r1 r2=>cases r2;exact ⟨_,rfl,r1⟩
def ON (K:QZ) (x:V) (H:Hp) (n:Nat):Prop:=
 match x with
 | .str y=>y.length<=sizeLine/\n=y.length
 | .mq y=>y.size<=sizeLine/\n=y.size
 | .ref p=>(∃ xs,ak K H p xs/\n=xs.length)\/∃ xs,au K H p xs/\n=xs.length
 | _=>False
theorem lK:iu X (.builtin "len") (fun xs H Q=>∃ x n,xs=[x]/\ON X.K x H n/\Q (.int n) H):=by
 intro pins s σ H xs us Q I r h
 obtain ⟨x,n,rfl,e,q⟩:=h
 obtain ⟨u,rfl,rx⟩:=vals1 r
 have hl:=Cf
 have hs:sizeLine=16777216:=QL
 cases x with
 | str y=>
  obtain ⟨t,rfl⟩:=rx
  obtain ⟨hy,e'⟩:y.length<=sizeLine/\n=y.length:=e
  subst e'
  exact len_str (by omega) ⟨.int _,H,I.tok _,⟨_,rfl⟩,q⟩
 | mq y=>
  obtain ⟨t,rfl⟩:=rx
  obtain ⟨hy,e'⟩:y.size<=sizeLine/\n=y.size:=e
  subst e'
  exact PySem.W.len_bytes (by omega) ⟨.int _,H,I.tok _,⟨_,rfl⟩,q⟩
 | ref p=>
  cases rx
  have e':(∃ xs,ak X.K H p xs/\n=xs.length)\/∃ xs,au X.K H p xs/\n=xs.length:=e
  rcases e' with ⟨xs,hx,e'⟩ | ⟨xs,hx,e'⟩
  ·subst e'
   obtain ⟨its,r',pl,hz⟩:=I.list hx
   have fq:=r'.length
   exact Calls.call_len_list pl.isList (by simp only [List.size_toArray];omega) ⟨.int xs.length,H,I.tok _,⟨_,by simp only [List.size_toArray];rw [fq]⟩,q⟩
  ·subst e'
   obtain ⟨its,r',pl,hz⟩:=I.tuple hx
   have fq:=r'.length
   exact len_tuple pl (by simp only [List.size_toArray];omega) ⟨.int xs.length,H,I.tok _,⟨_,by simp only [List.size_toArray];rw [fq]⟩,q⟩
 | _=>exact (show False from e).elim
end
structure Bh (h:Heap) (x dx C:Addr) (mA:Str->Option Value):Prop where
 obj:h.get? x=some (PySem.W.instObj C dx)
 ns:h.Ns1 dx mA
 ne:dx≠x
theorem jG {dx:Addr} (n:h.Ns1 dx mA):∃ od,h.get? dx=some od/\∀ name,PySem.W.lookIn name od=some (mA name):=by
 obtain ⟨o,es,ep,ho,hd,hk,_,hm⟩:=n
 refine ⟨o,ho,fun name=>?_⟩
 have e:=hm name
 unfold nsFind findBy at e
 rw [<- Array.find?_toList] at e
 unfold PySem.W.lookIn
 rw [hd]
 dsimp only
 split
 ·rename_i y q
  rw [q] at e
  exact congrArg some e
 ·rename_i q
  rw [q] at e
  have a:es.toList.any (·.refKey)=false:=by
   rw [List.any_eq_false]
   intro y hy
   obtain ⟨z,t,OO⟩:=hk y (Array.mem_toList_iff.mp hy)
   simp [DictEntry.refKey,OO]
  have a':¬es.toList.any (·.refKey)=true:=by rw [a];exact Bool.false_ne_true
  rw [if_neg a']
  exact congrArg some e
theorem Bh.look {x dx:Addr} (I:Bh h x dx C mA):∃ od,PySem.W.InstAt h x (PySem.W.instObj C dx) C (some od)/\∀ name,PySem.W.lookIn name od=some (mA name):=
 let ⟨od,ho,hl⟩:=jG I.ns
 ⟨od,⟨I.obj,rfl,rfl,ho⟩,hl⟩
section
variable {K:QZ} {x dx:Addr}
theorem OP {expr:Bool} (X:K.In s.heap) (I:Bh s.heap x dx C mA) (hg:PySem.W.plainGet K C name=true) (hh:PySem.W.hasDictIn K C=true)
  (ha:PySem.W.findIn K (.ref C) name=some none) (hv:mA name=some v) (OQ:PySem.W.handedIn v=true) (h:Q v {s with toks:=s.toks+1}):
  wpAny (model prog w) A (getAttr (.ref x) name expr) Q E s:=by
 obtain ⟨od,J,hl⟩:=I.look
 exact PySem.W.get_value X J (PySem.W.plainGet_of hg).1 (PySem.W.findObj_own hh ha rfl (by rw [hl,hv])) OQ h
theorem zG {Q:Unit->Shared->Prop} (X:K.In s.heap) (I:Bh s.heap x dx C mA)
  (hs:PySem.W.findIn K (.ref C) "__setattr__"=some (some (.builtin "object.__setattr__"))) (hp:PySem.W.plainOver K C=true) (ht:PySem.W.takerIn K C name=some none) (hh:PySem.W.hasDictIn K C=true)
  (hw:PySem.Within mA ns) (hsz:ns.length<=sizeLine)
  (h:∀ h',Bh h' x dx C (fun y=>if y=name then some v else mA y)->Heap.SameBut dx s.heap h'->Q () {s with heap:=h',toks:=s.toks+2}):
  wpAny (model prog w) A (setAttr (.ref x) name v) Q E s:=by
 obtain ⟨od,J,hl⟩:=I.look
 refine PySem.W.set_plain X J hs (PySem.W.osa_open (s:={s with toks:=s.toks+1}) (r:=none) X J hp ht fun b=>?_)
 obtain ⟨cd,hc,FS⟩:=PySem.W.any_some hh
 have hx:s.heap.get? x=some ⟨.ref C,some dx,.plain,#[]⟩:=I.obj
 refine QS (QT (QS (QS (wpAny_loadPart hx (QS (PySem.W.Looks.here (s:={s with toks:=s.toks+1}) (PySem.W.looks_clsIn X hc) ?_))))))
 rw [FS]
 refine QT (a:=some dx) (QS (QT (QS ?_)))
 refine wpAny_nsSet1 (s:={s with toks:=s.toks+1}) I.ns fun h' hn2 p_=>?_
 obtain ⟨oD,OR,OS,F3,F4,F5⟩:=hn2.count (PySem.Within.cons name v hw)
 refine QS (wpAny_lookBehind F3 (by rw [F4];exact pastItsLine_dict (Nat.le_trans F5 (by rw [List.length_cons];omega))) ?_)
 exact QT (h _ ⟨(p_.2 _ (Ne.symm I.ne)).trans I.obj,hn2,I.ne⟩ p_)
theorem xP {vs:List Value} (X:K.In s.heap) (hm:PySem.W.makesIn K C=true)
  (hi:PySem.W.findIn K (.ref C) "__init__"=some (some (.ref f))) (hf:PySem.W.typeIn K (.ref f)=some (.type "function"))
  (h:codeAny (model prog w) (A.under (.builtin "type.__call__" ⟨.ref C::vs,kw⟩)) (.call (.ref f) ⟨.ref (s.heap.objs.size+1)::vs,kw⟩) (PySem.W.InitBack (s.heap.objs.size+1) R)
   {s with heap:=(s.heap.push PySem.W.emptyDict).push (PySem.W.instObj C s.heap.objs.size)}):
  codeAny (model prog w) A (.call (.ref C) ⟨vs,kw⟩) R s:=by
 obtain ⟨hh,g,d,t,os⟩:=s
 exact PySem.W.make_core (PySem.W.makes_of X hm) (PySem.W.looks_findIn X hi) (fun self=>PySem.W.bind_fn X self hf) (.inl rfl) h
end
def bz (f:Str) (v:V):List (Str×V)->List (Str×V)
 | []=>[(f,v)]
 | (g,x)::r=>if g=f then (g,v)::r else (g,x)::bz f v r
theorem cF (f g:Str) (v:V):∀ fs:List (Str×V),(bz f v fs).lookup g=if g=f then some v else fs.lookup g
 | []=>by
  show List.lookup g [(f,v)]=_
  by_cases h:g=f
  ·have hb:(g==f)=true:=beq_iff_eq.mpr h
   simp only [List.lookup,hb,if_pos h]
  ·have hb:(g==f)=false:=beq_eq_false_iff_ne.mpr h
   simp only [List.lookup,hb,if_neg h]
 | (k,x)::r=>by
  have ih:=cF f g v r
  rw [show bz f v ((k,x)::r)=(if k=f then (k,v)::r else (k,x)::bz f v r) from rfl]
  by_cases hk:k=f
  ·rw [if_pos hk]
   by_cases h:g=k
   ·have hb:(g==k)=true:=beq_iff_eq.mpr h
    simp only [List.lookup,hb,if_pos (h.trans hk)]
   ·have hb:(g==k)=false:=beq_eq_false_iff_ne.mpr h
    simp only [List.lookup,hb,if_neg (fun e:g=f=>h (e.trans hk.symm))]
  ·rw [if_neg hk]
   by_cases h:g=k
   ·have hb:(g==k)=true:=beq_iff_eq.mpr h
    simp only [List.lookup,hb,if_neg (fun e:g=f=>hk (h.symm.trans e))]
   ·have hb:(g==k)=false:=beq_eq_false_iff_ne.mpr h
    simp only [List.lookup,hb]
    exact ih
theorem j4 (f:Str) (v:V):∀ fs:List (Str×V),f∈(bz f v fs).map (·.1)/\∀ g,g∈fs.map (·.1)->g∈(bz f v fs).map (·.1)
 | []=>⟨by simp [bz],fun g h=>by simp at h⟩
 | (k,x)::r=>by
  obtain ⟨i1,i2⟩:=j4 f v r
  rw [show bz f v ((k,x)::r)=(if k=f then (k,v)::r else (k,x)::bz f v r) from rfl]
  by_cases hk:k=f
  ·rw [if_pos hk]
   subst hk
   exact ⟨by simp,fun g h=>by simpa using h⟩
  ·rw [if_neg hk]
   refine ⟨?_,fun g h=>?_⟩
   ·rw [List.map_cons]
    exact Qh _ i1
   ·rw [List.map_cons] at h ⊢
    rcases Qp.mp h with e | e
    ·exact Qp.mpr (.inl e)
    ·exact Qh _ (i2 g e)
theorem cB (f:Str) (v:V):∀ fs:List (Str×V),(bz f v fs).length<=fs.length+1
 | []=>by simp [bz]
 | (k,x)::r=>by
  have ih:=cB f v r
  rw [show bz f v ((k,x)::r)=(if k=f then (k,v)::r else (k,x)::bz f v r) from rfl]
  by_cases hk:k=f
  ·rw [if_pos hk,List.length_cons,List.length_cons];omega
  ·rw [if_neg hk,List.length_cons,List.length_cons];omega
theorem jh.some_of {v:V} {o:Option Value} (r:jh (some v) o):∃ u,o=some u/\RelV v u:=by
 cases o with
 | none=>exact (show False from r).elim
 | some u=>exact ⟨u,rfl,r⟩
theorem nC {v:V} (r:RelV v u):PySem.W.handedIn u=true:=by
 cases v with
 | ao=>cases (show u=Value.none from r);rfl
 | bl b=>cases (show u=Value.bool b from r);rfl
 | int i=>obtain ⟨t,e⟩:=(show ∃ t,u=Value.int i t from r);cases e;rfl
 | str x=>obtain ⟨t,e⟩:=(show ∃ t,u=Value.str x t from r);cases e;rfl
 | mq b=>obtain ⟨t,e⟩:=(show ∃ t,u=Value.bytes b t from r);cases e;rfl
 | Ai b=>obtain ⟨t,e⟩:=(show ∃ t,u=Value.float b t from r);cases e;rfl
 | ref a=>cases (show u=Value.ref a from r);rfl
 | ty n=>cases (show u=Value.type n from r);rfl
section
variable {dx:Addr} {fs NL:List (Str×V)}
theorem oM (hok:b_ P w H h) (e:H a=some (.ins C dx fs)):∃ mA,Bh h a dx C mA/\(∀ f,jh (fs.lookup f) (mA f))/\PySem.Within mA (fs.map (·.1))/\fs.length<=1000/\H dx=some (.own a):=by
 obtain ⟨d,z,ne,ob,mA,n,r,q⟩:=(show bf P w H h a (.ins C dx fs) from hok a _ e)
 exact ⟨mA,⟨ob,n,ne⟩,r,q,z,d⟩
end
structure wk (K:QZ) (C:Addr):Prop where
 pg:PySem.W.plainGet K C Str.empty=true
 hd:PySem.W.hasDictIn K C=true
 po:PySem.W.plainOver K C=true
 sa:PySem.W.findIn K (.ref C) "__setattr__"=some (some (.builtin "object.__setattr__"))
theorem wk.get {K:QZ} (c:wk K C) (f:Str):PySem.W.plainGet K C f=true:=c.pg
def uq (K:QZ) (C:Addr) (f:Str):Prop:=PySem.W.findIn K (.ref C) f=some none
theorem uq.OT {K:QZ} {f:Str} (n:uq K C f):PySem.W.takerIn K C f=some none:=by
 unfold PySem.W.takerIn
 rw [show PySem.W.findIn K (.ref C) f=some none from n]
 rfl
section
variable {dx:Addr} {fs:List (Str×V)} {f:Str} {v:V}
theorem u5 {b:Bool} (I:Inv X pins σ H s) (e:H a=some (.ins C dx fs)) (c:wk X.K C) (n:uq X.K C f) (l:fs.lookup f=some v)
  (h:∀ u s',Inv X pins σ H s'->RelV v u->Q u s'):wpAny (model X.prog X.w) A (getAttr (.ref a) f b) Q E s:=by
 obtain ⟨mA,O,r,_,_,_⟩:=oM I.hok e
 obtain ⟨u,hu,ru⟩:=jh.some_of (v:=v) (o:=mA f) (by rw [<- l];exact r f)
 exact OP I.cu O (c.get f) c.hd n hu (nC ru) (h u _ (I.tok _) ru)
theorem tK {y:V} {Q:Unit->Shared->Prop} (I:Inv X pins σ H s) (e:H a=some (.ins C dx fs)) (c:wk X.K C) (n:uq X.K C f) (hl:fs.length < 1000) (ry:RelV y u)
  (h:∀ s',Inv X pins σ (upd H a (.ins C dx (bz f y fs))) s'->Q () s'):wpAny (model X.prog X.w) A (setAttr (.ref a) f u) Q E s:=by
 obtain ⟨mA,O,r,wi,_,ho⟩:=oM I.hok e
 have hz:(fs.map (·.1)).length<=sizeLine:=by rw [Ql,QL];omega
 refine zG I.cu O c.sa c.po n.OT c.hd wi hz fun h' O' sb=>h _ ?_
 have hd:∃ o,h'.get? dx=some o:=let ⟨o,_,_,e',_⟩:=O'.ns;⟨o,e'⟩
 refine I.write (x:=a) (e:=dx) (by rw [e];exact True.intro) (.inr ho) (fun b q hb z=>(sb.2 b hb).trans z) hd ?_
 refine ⟨by rw [aF O.ne];exact ho,?_,O.ne,O'.obj,_,O'.ns,fun g=>?_,fun g hg=>?_⟩
 ·have:=cB f y fs;omega
 ·show jh ((bz f y fs).lookup g) (if g=f then some u else mA g)
  rw [cF]
  by_cases q:g=f
  ·rw [if_pos q,if_pos q];exact ry
  ·rw [if_neg q,if_neg q];exact r g
 ·by_cases q:g=f
  ·rw [q];exact (j4 f y fs).1
  ·refine (j4 f y fs).2 g (wi g fun z=>hg ?_)
   show (if g=f then some u else mA g)=none
   rw [if_neg q];exact z
theorem Inv.made (I:Inv X pins σ H s):Inv X pins σ (upd (upd H s.heap.objs.size (.own (s.heap.objs.size+1))) (s.heap.objs.size+1) (.ins C s.heap.objs.size []))
  {s with heap:=(s.heap.push PySem.W.emptyDict).push (PySem.W.instObj C s.heap.objs.size)}:=by
 have e1:(s.heap.push PySem.W.emptyDict).get? s.heap.objs.size=some PySem.W.emptyDict:=Qd s.heap rfl
 have e2:((s.heap.push PySem.W.emptyDict).push (PySem.W.instObj C s.heap.objs.size)).get? (s.heap.objs.size+1)=some (PySem.W.instObj C s.heap.objs.size):=by
  have:=Qd (s.heap.push PySem.W.emptyDict) (o:=PySem.W.instObj C s.heap.objs.size) rfl
  rwa [Heap.size_push] at this
 have e3:(s.heap.push PySem.W.emptyDict).Ns s.heap.objs.size (fun _=>none):=⟨PySem.W.emptyDict,#[],_,e1,rfl,(fun e he=>absurd he (by simp)),fun _=>rfl⟩
 have I1:=I.laid (a:=s.heap.objs.size) (o:=.own (s.heap.objs.size+1)) (h':=s.heap.push PySem.W.emptyDict) (t':=s.toks) (fun b u q=>Qc _ q) (Qy _) ⟨_,e1⟩
 refine I1.laid (a:=s.heap.objs.size+1) (o:=.ins C s.heap.objs.size []) (t':=s.toks) (fun b u q=>Qc _ q) (Nat.le_of_eq (Heap.size_push _ _)) ?_
 have ne:s.heap.objs.size≠s.heap.objs.size+1:=Nat.ne_of_lt (Nat.lt_succ_self _)
 refine ⟨by rw [aF ne,aA],Nat.zero_le _,ne,e2,fun _=>none,(Heap.Ns1.of_empty e3).at fun o q=>Qc _ q,fun _=>True.intro,fun y hy=>absurd rfl hy⟩
theorem uH {f:Str} {pos:Pos} (hb:attributeBase e f env (eval e env)=eval e env)
  (h:wpAny (model prog w) A (eval e env) (fun o s₁=>wpAny (model prog w) A (getAttr o f true) Q E s₁) E s):wpAny (model prog w) A (eval (.Attribute e f pos) env) Q E s:=
 Attribute_any_ h (by rw [arm_eval_Attribute,hb])
end
def JJ (K:QZ) (ta:TE) (f:Str):TE:=fun σ H Q=>ta σ H fun x H1=>∃ a C dx fs v,x=.ref a/\H1 a=some (.ins C dx fs)/\wk K C/\uq K C f/\fs.lookup f=some v/\Q v H1
def D8 (K:QZ) (ta tv:TE) (f:Str):TS:=fun D σ H=>tv σ H fun y H1=>ta σ H1 fun x H2=>∃ a C dx fs,x=.ref a/\H2 a=some (.ins C dx fs)/\wk K C/\uq K C f/\fs.length < 1000/\
 D.nx σ (upd H2 a (.ins C dx (bz f y fs)))
section
variable {o value:Expr} {f:Str} {pos pos' yw:Pos} {tv:TE}
theorem OU (he:PE X e ta) (hb:attributeBase e f X.env (eval e X.env)=eval e X.env):PE X (.Attribute e f pos) (JJ X.K ta f):=by
 intro pins s σ H Q I h
 refine uH hb (aj (he pins s σ H _ I h) ?_)
 rintro u s1 ⟨x,H1,I1,rx,a,C,dx,fs,v,ex,ea,c,n,l,q⟩
 subst ex
 obtain rfl:u=Value.ref a:=rx
 exact u5 I1 ea c n l fun u' s2 I2 ru=>⟨v,H1,I2,ru,q⟩
theorem OV (ha:PE X o ta) (hv:PE X value tv) (hs:swapsWith value (some (.Attribute o f pos')) pos.line X.env=pure false):PS X (.Assign [.Attribute o f pos'] value pos) (D8 X.K ta tv f):=by
 intro pins s σ H D I h
 refine plainObj_wpAny_Assign_Attribute (aj (hv pins s σ H _ I h) fun u s1 ⟨y,H1,I1,ry,q⟩=>aj (ha pins s1 σ H1 _ I1 q) fun ov s2 ⟨x,H2,I2,rx,a,C,dx,fs,ex,ea,c,n,l,q2⟩=>?_) hs
 subst ex
 obtain rfl:ov=Value.ref a:=rx
 exact tK I2 ea c n l ry fun s3 I3=>⟨σ,_,I3,q2⟩
end
section
variable {c:Value} {b:Bool}
inductive qa (K:QZ) (H:Hp):V->Value->Prop where
 | ao:qa K H .ao (.type "NoneType")
 | bl (x:Bool):qa K H (.bl x) (.type "bool")
 | int (i:Int):qa K H (.int i) (.type "int")
 | str (x:Str):qa K H (.str x) (.type "str")
 | Ai (x:UInt64):qa K H (.Ai x) (.type "float")
 | lst {a:Addr} {xs:List V} (e:H a=some (.lst xs)):qa K H (.ref a) (.type "list")
 | af {a:Addr} {o:Obj} {xs:List V} (e:H a=some (.af o (.lst xs))):qa K H (.ref a) (.type "list")
 | tup {a:Addr} {xs:List V} (e:H a=some (.tup xs)):qa K H (.ref a) (.type "tuple")
 | dK {a:Addr} {kvs:List (Key×V)} (e:H a=some (.dK kvs)):qa K H (.ref a) (.type "dict")
 | dT {a:Addr} {kvs:List (List Key×V)} (e:H a=some (.dT kvs)):qa K H (.ref a) (.type "dict")
 | ins {a C dx:Addr} {fs:List (Str×V)} (e:H a=some (.ins C dx fs)) (cl:wk K C) (ha:PySem.W.findIn K (.ref C) "__class__"=some (some (.builtin "object.__class__")))
   (hn:PySem.W.specialIn K (.builtin "object.__class__") "__get__"=some (some (.builtin "getset_descriptor.__get__"))) (JK:PySem.W.takesIn K (.builtin "object.__class__")=some true)
   (hm:PySem.W.mroIn K C (.type "object")=some true):qa K H (.ref a) (.ref C)
theorem wG {x:V} {t:Value} (I:Inv X pins σ H s) (rx:RelV x u) (ty:qa X.K H x t) (e:PySem.W.kitOne X.K t c=some b) (h:∀ tk,Q (.bool b) {s with toks:=tk}):
  wpAny (model X.prog X.w) A (call (.builtin "isinstance") [u,c]) Q E s:=by
 cases ty with
 | ao=>cases (show u=Value.none from rx);exact PySem.W.kia_one PySem.W.kitx_none I.cu True.intro e (fun z=>nomatch z) h
 | bl y=>cases (show u=Value.bool y from rx);exact PySem.W.kia_one PySem.W.kitx_bool I.cu True.intro e (fun z=>nomatch z) h
 | int i=>obtain ⟨t,q⟩:=(show ∃ t,u=Value.int i t from rx);cases q;exact PySem.W.kia_one PySem.W.kitx_int I.cu True.intro e (fun z=>nomatch z) h
 | str y=>obtain ⟨t,q⟩:=(show ∃ t,u=Value.str y t from rx);cases q;exact PySem.W.kia_one PySem.W.kitx_str I.cu True.intro e (fun z=>nomatch z) h
 | Ai y=>obtain ⟨t,q⟩:=(show ∃ t,u=Value.float y t from rx);cases q;exact PySem.W.kia_one PySem.W.kitx_float I.cu True.intro e (fun z=>nomatch z) h
 | @lst a xs ea=>
  cases (show u=Value.ref a from rx)
  obtain ⟨_,_,n,_,h1⟩:=(show bf X.prog X.w H s.heap a (.lst xs) from I.hok a _ ea)
  exact PySem.W.kia_one PySem.W.kitx_list I.cu ⟨_,h1,rfl⟩ e (fun z=>nomatch z) h
 | @af a ob xs ea=>
  cases (show u=Value.ref a from rx)
  obtain ⟨_,_,_,n,_,h1⟩:=(show bf X.prog X.w H s.heap a (.af ob (.lst xs)) from I.hok a _ ea)
  exact PySem.W.kia_one PySem.W.kitx_list I.cu ⟨_,h1,rfl⟩ e (fun z=>nomatch z) h
 | @tup a xs ea=>
  cases (show u=Value.ref a from rx)
  obtain ⟨_,_,_,p⟩:=(show bf X.prog X.w H s.heap a (.tup xs) from I.hok a _ ea)
  obtain ⟨o,h1,h2,_⟩:=p
  exact PySem.W.kia_one PySem.W.kitx_tuple I.cu ⟨o,h1,h2⟩ e (fun z=>nomatch z) h
 | @dK a kvs ea=>
  cases (show u=Value.ref a from rx)
  obtain ⟨_,_,vs,_,p⟩:=(show bf X.prog X.w H s.heap a (.dK kvs) from I.hok a _ ea)
  obtain ⟨o,es,ep,h1,h2,_⟩:=p
  exact PySem.W.kia_one PySem.W.kitx_dict I.cu ⟨o,h1,h2.1⟩ e (fun z=>nomatch z) h
 | @dT a kvs ea=>
  cases (show u=Value.ref a from rx)
  obtain ⟨_,_,xs,_,o,es,ep,h1,h2,_⟩:=(show bf X.prog X.w H s.heap a (.dT kvs) from I.hok a _ ea)
  exact PySem.W.kia_one PySem.W.kitx_dict I.cu ⟨o,h1,h2.1⟩ e (fun z=>nomatch z) h
 | @ins a C dx fs ea cl ha hn JK hm=>
  cases (show u=Value.ref a from rx)
  obtain ⟨mA,O,_⟩:=oM I.hok ea
  obtain ⟨od,J,_⟩:=O.look
  exact PySem.W.kia_one (PySem.W.kitx_own (cl.get _) cl.hd ha hn JK hm) I.cu J e (fun z=>nomatch z) h
end
structure c_ (k:Nat) (A:Around):Prop where
 hd:A.handled=none
 dp:A.depth+3*k+5 < recursionLimit
 un:A.units+16*k+200 < cLine
 gd:A.guards=some []
theorem c_.mono {k:Nat} (r:c_ k A) (h:j<=k):c_ j A:=⟨r.hd,by have:=r.dp;omega,by have:=r.un;omega,r.gd⟩
theorem c_.deeper {k:Nat} {A:Around} (r:c_ (k+1) A) (env:Env):c_ k (A.deeper env):=
 ⟨r.hd,by have:=r.dp;show A.depth+1+3*k+5 < _;omega,by have:=r.un;show A.units+3+16*k+200 < _;omega,r.gd⟩
theorem rX:(A.under (.builtin "type.__call__" ⟨.ref C::us,kw⟩)).depth=A.depth+1:=by
 first | rfl | simp [Around.under,Code.weight,Code.isCreation,Code.isGuard,Code.isCaller,Code.frames,Code.isFrame,guardIds]
theorem u4:(A.under (.builtin "type.__call__" ⟨.ref C::us,kw⟩)).units=A.units+1:=by
 first | rfl | simp [Around.under,Code.cUnits,Code.frames,Code.isFrame]
theorem qU (h:A.guards=some []):(A.under (.builtin "type.__call__" ⟨.ref C::us,kw⟩)).guards=some []:=by
 first | exact h | (simp [Around.under,pushGuards,Code.guards,Code.isGuard,guardIds,h])
theorem c_.make {k:Nat} (r:c_ (k+1) A) (C:Addr) (us:List Value) (kw:List (Str×Value)):c_ k (A.under (.builtin "type.__call__" ⟨.ref C::us,kw⟩)):=
 ⟨r.hd,by have:=r.dp;rw [rX];omega,by have:=r.un;rw [u4];omega,qU r.gd⟩
theorem c_.depth {k:Nat} {A:Around} (r:c_ k A):A.depth < recursionLimit:=by have:=r.dp;omega
theorem c_.units {k:Nat} {A:Around} (r:c_ k A):A.units+64 < cLine:=by have:=r.un;omega
def kc:TA:=fun _ H Q=>Q [] H
def dw (ta:TE) (tr:TA):TA:=fun σ H Q=>ta σ H fun x H1=>tr σ H1 fun xs H2=>Q (x::xs) H2
section
variable {t:TA} {pos:Pos}
theorem OW:PA X [] kc:=fun _ _ _ _ H Q I h=>Calls.spliced_nil ⟨[],H,I,.nil,h⟩
theorem cX (ha:PE X e te) (hr:PA X es t) (hs:starEach (e::es) X.env=(false,eval e X.env)::starEach es X.env:=by rfl):PA X (e::es) (dw te t):=by
 intro pos pins s σ H Q I h
 rw [hs]
 show wpAny _ _ (spliced ((false,eval e X.env)::backTo pos (starEach es X.env))) _ _ s
 refine Calls.spliced_cons (aj (ha pins s σ H _ I h) ?_)
 rintro u s1 ⟨x,H1,I1,r1,q1⟩
 exact aj (hr pos pins s1 σ H1 _ I1 q1) fun us s2 ⟨xs,H2,I2,r2,q2⟩=>⟨x::xs,H2,I2,.cons r1 r2,q2⟩
def ng (t:TA):TE:=fun σ H Q=>t σ H fun xs H1=>xs.length<=sizeLine/\∀ p,H1 p=none->Q (.ref p) (upd H1 p (.tup xs))
def JL (t:TA):TE:=fun σ H Q=>t σ H fun xs H1=>xs.length<=sizeLine/\∀ p,H1 p=none->Q (.ref p) (upd H1 p (.lst xs))
theorem OX {x1} (h:PA X es t):PE X (.Tuple es x1 pos) (ng t):=by
 intro pins s σ H Q I hq
 refine wpAny_Tuple_spliced (aj (h pos pins s σ H _ I hq) fun us s1 ⟨xs,H1,I1,r,z,q⟩=>⟨by rw [<- r.length];exact z,?_⟩)
 have hf:H1 s1.heap.objs.size=none:=I1.hok.fresh (Qy _)
 refine ⟨.ref s1.heap.objs.size,upd H1 s1.heap.objs.size (.tup xs),I1.laid (t':=s1.toks) (fun b u e=>Qc _ e) (Qy _) ?_,rfl,q _ hf⟩
 exact ⟨⟨z,Aj.new rfl rfl⟩,us,r,⟨_,Qd _ rfl,rfl,_,rfl⟩⟩
theorem OY (h:PA X es t):PE X (.List es pos) (JL t):=by
 intro pins s σ H Q I hq
 refine wpAny_List_spliced (aj (h pos pins s σ H _ I hq) fun us s1 ⟨xs,H1,I1,r,z,q⟩=>⟨by rw [<- r.length];exact z,?_⟩)
 have hf:H1 s1.heap.objs.size=none:=I1.hok.fresh (Qy _)
 refine ⟨.ref s1.heap.objs.size,upd H1 s1.heap.objs.size (.lst xs),I1.laid (t':=s1.toks) (fun b u e=>Qc _ e) (Qy _) ?_,rfl,q _ hf⟩
 exact ⟨z,us,0,r,Qd _ rfl⟩
end
abbrev Sp:=List V->Hp->VK->XK->Prop
abbrev qz:=List Env->Hp->Shared->XK->Value->Shared->Prop
structure Au (P:Program) (w:World) (K:QZ) (mg:Str->Option Value) (base:Heap) (A:Around) (outer:List Env) (s:Shared) (H:Hp):Prop where
 frames:A.frames=some outer
 mod:Mod K mg base
 bs:∀ b o,base.get? b=some o->s.heap.get? b=some o/\H b=none
 ue:base.objs.size<=s.heap.objs.size
 mw:s.heap.FunFrames base outer
 xo:∀ b∈fm outer,H b=none
 hok:b_ P w H s.heap
 bare:AllBare s.gens
def CE (outer:List Env) (P:Program) (w:World) (H:Hp) (s:Shared) (Q:VK) (u:Value) (s':Shared):Prop:=
 ∃ v H',s'.os=s.os/\AllBare s'.gens/\Un (fm outer) [] H H' s.heap s'.heap/\b_ P w H' s'.heap/\RelV v u/\Q v H'
def CR (CX:qz) (outer:List Env) (P:Program) (w:World) (H:Hp) (s:Shared) (Q:VK) (E:XK) (r:Result) (s':Shared):Prop:=
 match r with
 | .ok (.ret u)=>CE outer P w H s Q u s'
 | .ok _=>False
 | .error e=>CX outer H s E e s'
structure kg (P:Program) (w:World) (K:QZ) (mg:Str->Option Value) (base:Heap) (CX:qz) (k:Nat) (f:Addr) (fd:FuncData) (ps:List Str) (sp:Sp):Prop where
 len:∀ vs H Q E,sp vs H Q E->vs.length=ps.length
 run:∀ (A:Around) (outer:List Env) (s:Shared) (H:Hp) (args:Args) (us:List Value) (vs:List V) (Q:VK) (E:XK),c_ k A->Au P w K mg base A outer s H->BindsTo s fd args (ps.zip us)->a_ vs us->sp vs H Q E->
  codeAny (model P w) A (.call (.ref f) args) (CR CX outer P w H s Q E) s
theorem kg.imp {K:QZ} {CX:qz} {k:Nat} {sp Cg:Sp} (F:kg P w K mg base CX k f fd ps sp)
  (h:∀ vs H Q E,Cg vs H Q E->sp vs H Q E):kg P w K mg base CX k f fd ps Cg:=
 ⟨fun vs H Q E q=>F.len vs H Q E (h _ _ _ _ q),fun A outer s H args us vs Q E hr he hb hv hs=>F.run A outer s H args us vs Q E hr he hb hv (h _ _ _ _ hs)⟩
theorem Au.make {K:QZ} (e:Au P w K mg base A outer s H) (C:Addr) (us:List Value) (kw:List (Str×Value)):
  Au P w K mg base (A.under (.builtin "type.__call__" ⟨.ref C::us,kw⟩)) outer s H:=⟨by first | exact e.frames | (simpa [Around.under,Code.envs,Code.isFrame,pushEnvs] using e.frames),e.mod,e.bs,e.ue,e.mw,e.xo,e.hok,e.bare⟩
section
variable {s':Shared}
theorem Inv.D9 (I:Inv X pins σ H s):Au X.prog X.w X.K X.mg X.base X.A X.stack s H:=
 ⟨I.ok.frames,I.ok.mod,I.bs,Nat.le_trans I.ok.ue I.sz,I.stack,I.DT,I.hok,I.bare⟩
theorem Inv.after {Q:VK} (I:Inv X pins σ H s) (h:CE X.stack X.prog X.w H s Q u s'):EP X pins σ Q u s':=by
 obtain ⟨v,H',os,bare,un,hok,r,q⟩:=h
 obtain ⟨hh,g,d,t,F6⟩:=s'
 obtain rfl:F6=s.os:=os
 exact ⟨v,H',I.call (h':=hh) (g':=g) (d':=d) (t':=t) (ch:=[]) un hok bare (fun b z=>absurd z (by simp)),r,q⟩
end
def D_ (sp:Sp) (lq:List V) (E:XK) (t:TA):TE:=fun σ H Q=>t σ H fun vs H1=>sp (vs++lq) H1 Q E
def JM (C:Addr) (sp:Sp) (lq:List V) (E:XK) (t:TA):TE:=fun σ H Q=>t σ H fun vs H1=>∀ x dx,H1 x=none->H1 dx=none->dx≠x->
 sp (.ref x::(vs++lq)) (upd (upd H1 dx (.own x)) x (.ins C dx [])) (fun v H2=>v=.ao/\Q (.ref x) H2) E
def Binds (K:QZ) (fd:FuncData) (ps:List Str) (ds:List Value):Prop:=
 ∀ (s:Shared) (us:List Value),K.In s.heap->(us++ds).length=ps.length->BindsTo s fd ⟨us,[]⟩ (ps.zip (us++ds))
theorem Binds.all {K:QZ} (h:∀ us:List Value,us.length=ps.length->bindArgs fd ⟨us,[]⟩=pure (ps.zip us)):Binds K fd ps []:=fun s us _ hl=>by
 rw [List.append_nil] at hl ⊢
 exact .of_eq (h us hl)
def Ci (CX:qz) (X:Cx) (E:XK):Prop:=∀ (pins:List (Addr×Obj)) (σ:St) (H:Hp) (s:Shared) (e:Value) (s':Shared),Inv X pins σ H s->CX X.stack H s E e s'->X.xe e s'
section
variable {CX:qz} {k:Nat} {sp:Sp} {lq:List V} {ds:List Value} {E:XK} {m:Str} {p pos:Pos} {o:Expr} {t:TA}
theorem OZ {Q:VK} {vs:List V} (F:kg X.prog X.w X.K X.mg X.base CX k f fd ps sp) (hr:c_ k X.A) (hb:Binds X.K fd ps ds) (hd:a_ lq ds) (hx:Ci CX X E)
  (I:Inv X pins σ H s) (r:a_ vs us) (h:sp (vs++lq) H Q E):wpAny (model X.prog X.w) X.A (call (.ref f) us) (EP X pins σ Q) X.xe s:=by
 have r2:a_ (vs++lq) (us++ds):=r.append hd
 have hl:(us++ds).length=ps.length:=by rw [<- r2.length];exact F.len _ _ _ _ h
 refine wpAny_call (codeAny_mono (F.run X.A X.stack s H ⟨us,[]⟩ (us++ds) (vs++lq) Q E hr I.D9 (hb s us I.cu hl) r2 h) fun r s' hq=>?_)
 cases r with
 | error e=>exact hx pins σ H s e s' I hq
 | ok fl=>
  cases fl with
  | ret u=>exact I.after hq
  | next=>exact False.elim hq
  | brk=>exact False.elim hq
  | cont=>exact False.elim hq
theorem zH (F:kg X.prog X.w X.K X.mg X.base CX k f fd ps sp) (hr:c_ k X.A) (hg:Gl X x) (hm:X.mg x=some (.ref f)) (hk:PySem.W.keepIn X.K (.ref f)=true) (hb:Binds X.K fd ps ds) (hd:a_ lq ds) (hx:Ci CX X E)
  (ha:PA X (e::es) t) (e_:(x==("__debug__":Str))=false:=by decide) (he:starEach (e::es) X.env=(false,eval e X.env)::starEach es X.env:=by rfl) (hpl:(backTo pos (starEach es X.env)).any (·.1)=false:=by rfl):
  PE X (.Call (.Name x p) (e::es) [] pos) (D_ sp lq E t):=by
 intro pins s σ H Q I h
 refine wpAny_Call_Name_kw (fJ I hg hm ?_ e_)
 refine PySem.W.callWith_K (h₀:=X.base) I.ok.mod.A_ hk (aj (ha pos pins s σ H _ I h) fun us s1 ⟨vs,H1,I1,r,q⟩=>⟨I1.cu,?_⟩) he hpl
 exact OZ F hr hb hd hx I1 r q
structure Mk (K:QZ) (C f:Addr):Prop where
 makes:PySem.W.makesIn K C=true
 init:PySem.W.findIn K (.ref C) "__init__"=some (some (.ref f))
 fn:PySem.W.isFn K (.ref f)=true
 kp:PySem.W.keepIn K (.ref C)=true
theorem xE {Q:VK} {vs:List V} (M:Mk X.K C f) (F:kg X.prog X.w X.K X.mg X.base CX k f fd ps sp) (hr:c_ (k+1) X.A) (hb:Binds X.K fd ps ds) (hd:a_ lq ds)
  (hx:Ci CX X E) (I:Inv X pins σ H s) (r:a_ vs us)
  (h:∀ x dx,H x=none->H dx=none->dx≠x->sp (.ref x::(vs++lq)) (upd (upd H dx (.own x)) x (.ins C dx [])) (fun v H2=>v=.ao/\Q (.ref x) H2) E):
  wpAny (model X.prog X.w) X.A (call (.ref C) us) (EP X pins σ Q) X.xe s:=by
 have hq:=h (s.heap.objs.size+1) s.heap.objs.size (I.hok.fresh (Nat.le_succ _)) (I.hok.fresh (Qy _)) (Nat.ne_of_lt (Nat.lt_succ_self _))
 have I2:=Inv.made (C:=C) I
 have r2:a_ (V.ref (s.heap.objs.size+1)::(vs++lq)) (Value.ref (s.heap.objs.size+1)::(us++ds)):=.cons rfl (r.append hd)
 have hl:(Value.ref (s.heap.objs.size+1)::us++ds).length=ps.length:=by
  have e:=r2.length
  rw [F.len _ _ _ _ hq] at e
  exact e.symm
 refine wpAny_call (xP (f:=f) I.cu M.makes M.init (beq_iff_eq.mp M.fn) (codeAny_mono (F.run _ X.stack _ _ ⟨Value.ref (s.heap.objs.size+1)::us,[]⟩ (Value.ref (s.heap.objs.size+1)::(us++ds)) _ _ E (hr.make C us [])
  (I2.D9.make C us []) (hb _ (Value.ref (s.heap.objs.size+1)::us) I2.cu hl) r2 hq) fun r s' wm=>?_))
 cases r with
 | error e=>exact hx pins σ _ _ e s' I2 wm
 | ok fl=>
  cases fl with
  | ret u=>
   obtain ⟨v,H',I3,rv,ev,q3⟩:=I2.after wm
   subst ev
   exact ⟨rv,⟨V.ref (s.heap.objs.size+1),H',I3,rfl,q3⟩⟩
  | next=>exact False.elim wm
  | brk=>exact False.elim wm
  | cont=>exact False.elim wm
theorem O0 (M:Mk X.K C f) (F:kg X.prog X.w X.K X.mg X.base CX k f fd ps sp) (hr:c_ (k+1) X.A) (hg:Gl X x) (hm:X.mg x=some (.ref C)) (hb:Binds X.K fd ps ds) (hd:a_ lq ds) (hx:Ci CX X E)
  (ha:PA X (e::es) t) (e_:(x==("__debug__":Str))=false:=by decide) (he:starEach (e::es) X.env=(false,eval e X.env)::starEach es X.env:=by rfl) (hpl:(backTo pos (starEach es X.env)).any (·.1)=false:=by rfl):
  PE X (.Call (.Name x p) (e::es) [] pos) (JM C sp lq E t):=by
 intro pins s σ H Q I h
 refine wpAny_Call_Name_kw (fJ I hg hm ?_ e_)
 refine PySem.W.callWith_K (h₀:=X.base) I.ok.mod.A_ M.kp (aj (ha pos pins s σ H _ I h) fun us s1 ⟨vs,H1,I1,r,q⟩=>⟨I1.cu,?_⟩) he hpl
 exact xE M F hr hb hd hx I1 r q
end
section
variable {CX:qz} {k:Nat} {ks:List Str} {sp:Sp} {E:XK} {m:Str} {p pos XS:Pos} {o:Expr} {XT:List Keyword} {t tk:TA} {nm:Option Str}
variable {g:List Value->List Value->List Value} {gV:List V->List V->List V}
end
structure dc (N P:List Str) (sc:Scope):Prop where
 kind:sc.kind=.function
 co:sc.isCoroutine=false
 gen:sc.isGenerator=false
 nd:N.Nodup
 pre:N.take P.length=P
 JN:∀ x∈P,sc.names.lookup x=some .local\/sc.names.lookup x=some .cell
 O1:∀ y∈sc.names,y.2≠.free
theorem mI {kindOf:Str->Option NameKind} {x:Str}:∀ {binds:List (Str×Value)} {m:Str->Option Value},(∀ v,(x,v) ∉ binds)->bindL kindOf binds m x=m x
 | [],_,_=>rfl
 | (n,v)::r,m,h=>by
  unfold bindL
  rw [mI fun w hw=>h w (Qh _ hw)]
  split
  ·have:x≠n:=by rintro rfl;exact h v List.mem_cons_self
   simp [this]
  ·rfl
theorem nK {kindOf:Str->Option NameKind} {x:Str}:∀ {binds:List (Str×Value)} {m:Str->Option Value},(∀ v,(x,v) ∉ binds)->bindC kindOf binds m x=m x
 | [],_,_=>rfl
 | (n,v)::r,m,h=>by
  unfold bindC
  rw [nK fun w hw=>h w (Qh _ hw)]
  split
  ·rfl
  ·have:x≠n:=by rintro rfl;exact h v List.mem_cons_self
   simp [this]
theorem mR {kindOf:Str->Option NameKind} {x:Str} {v:Value}:∀ {P:List Str} {vs:List Value} {i:Nat} {m:Str->Option Value},P.Nodup->P[i]? =some x->vs[i]? =some v->kindOf x=some .local->
  bindL kindOf (P.zip vs) m x=some v
 | [],_,_,_,_,h,_,_=>by simp at h
 | _::_,[],_,_,_,_,h,_=>by simp at h
 | p::P,w::vs,0,m,nd,h1,h2,hk=>by
  simp at h1 h2;subst h1;subst h2
  show bindL kindOf ((p,w)::P.zip vs) m p=_
  unfold bindL
  rw [mI fun v hv=>(List.nodup_cons.mp nd).1 (List.of_mem_zip hv).1,if_pos hk]
  simp
 | p::P,w::vs,i+1,m,nd,h1,h2,hk=>by
  show bindL kindOf ((p,w)::P.zip vs) m x=_
  unfold bindL
  exact mR (i:=i) (List.nodup_cons.mp nd).2 (by simpa using h1) (by simpa using h2) hk
theorem mZ {kindOf:Str->Option NameKind} {x:Str} {v:Value}:∀ {P:List Str} {vs:List Value} {i:Nat} {m:Str->Option Value},P.Nodup->P[i]? =some x->vs[i]? =some v->kindOf x≠some .local->
  bindC kindOf (P.zip vs) m x=some v
 | [],_,_,_,_,h,_,_=>by simp at h
 | _::_,[],_,_,_,_,h,_=>by simp at h
 | p::P,w::vs,0,m,nd,h1,h2,hk=>by
  simp at h1 h2;subst h1;subst h2
  show bindC kindOf ((p,w)::P.zip vs) m p=_
  unfold bindC
  rw [nK fun v hv=>(List.nodup_cons.mp nd).1 (List.of_mem_zip hv).1,if_neg hk]
  simp
 | p::P,w::vs,i+1,m,nd,h1,h2,hk=>by
  show bindC kindOf ((p,w)::P.zip vs) m x=_
  unfold bindC
  exact mZ (i:=i) (List.nodup_cons.mp nd).2 (by simpa using h1) (by simpa using h2) hk
def start (N:List Str) (vs:List V):St:=vs.map some++List.replicate (N.length - vs.length) none
def jd (CX:qz) (P:Program) (w:World) (K:QZ) (mg:Str->Option Value) (base:Heap) (N:List Str) (qual:Str) (scope:Scope) (f:Addr) (cd:Value) (A:Around) (outer:List Env) (s:Shared) (H:Hp) (E:XK):Cx where
 prog:=P
 w:=w
 K:=K
 mg:=mg
 base:=base
 A:=A.deeper (envOfC qual scope s.heap.objs.size f cd)
 N:=N
 s₀:=s
 H₀:=H
 env:=envOfC qual scope s.heap.objs.size f cd
 outer:=outer
 stack:=envOfC qual scope s.heap.objs.size f cd::outer
 ex:=[]
 calm:=true
 fn:=fun _=>true
 pn:=[]
 xe:=fun e s'=>wpAny (model P w) (A.deeper (envOfC qual scope s.heap.objs.size f cd)) (leaving (envOfC qual scope s.heap.objs.size f cd) e) (fun _ s''=>CX outer H s E e s'') (fun e' s''=>CX outer H s E e' s'') s'
theorem qE (h:sc.names.lookup x=some .cell):∃ c,(cellsFrom n sc.names []).lookup x=some c:=by
 have q:=PySem.W.cellsFrom_some sc.names n [] (.inl h)
 exact Option.isSome_iff_exists.mp q
theorem vY {CX:qz} {K:QZ} {cd:Value} {s1:Shared} {E:XK} {vs:List V}
  (S:dc N ps scope) (hd:A.handled=none) (e0:Au P w K mg base A outer s H) (hl:vs.length=ps.length) (r:a_ vs us)
  (x:InCallC s s.heap.objs.size (bindL (envOfC qual scope s.heap.objs.size f cd).kindOf (ps.zip us) fun _=>none) (cellsFrom (s.heap.objs.size+1) scope.names []) (bindC (envOfC qual scope s.heap.objs.size f cd).kindOf (ps.zip us) fun _=>none) s1):
  Inv (jd CX P w K mg base N qual scope f cd A outer s H E) [] (start N vs) H s1:=by
 have hpl:ps.length<=N.length:=by have:=congrArg List.length S.pre;rw [List.length_take] at this;omega
 obtain ⟨h1,tk,rfl,hk⟩:=x.done
 have Cj:∀ b:Addr,b ∉ (jd CX P w K mg base N qual scope f cd A outer s H E).ex:=fun b z=>absurd (show b∈([]:List Addr) from z) (by simp)
 refine ⟨⟨e0.mod,S.kind,rfl,rfl,Qy _,fun y z c h1 h2=>?_,fun y hy=>?_,fun y c _ h=>?_,fun _=>hd,Around.frames_deeper e0.frames,.inr ⟨rfl,rfl⟩,fun b z=>absurd z (Cj b),e0.bs,e0.ue,fun b _ _=>Cj b,fun b z=>absurd z (Cj b),e0.mw,e0.xo⟩,
  rfl,e0.bare,Un.kept hk,⟨_,x.toInCall.ns,fun i y v h1 h2 h3=>?_⟩,fun y c h=>⟨_,x.cell y c h⟩,e0.hok.fresh (Qy _),fun y c h=>?_,fun p hp=>absurd (show p∈([]:List (Addr×Obj)) from hp) (by simp),e0.hok.kept hk,?_⟩
 ·exact name_of_addr x.apart (PySem.mem_of_lookup h1) (PySem.mem_of_lookup h2)
 ·have hy:scope.names.lookup y=some .cell\/scope.names.lookup y=some .free:=hy
  rcases hy with hy | hy
  ·exact qE hy
  ·exact absurd rfl (S.O1 _ (PySem.mem_of_lookup hy))
 ·exact Nat.le_of_lt (x.above y c (PySem.mem_of_lookup h))
 ·have hi:i < vs.length:=by
   unfold start at h2
   by_cases hi:i < vs.length
   ·exact hi
   ·rw [List.getElem?_append_right (by simpa using hi)] at h2
    rw [List.getElem?_replicate] at h2
    split at h2<;>cases h2
  have ha:vs[i]? =some v:=by
   unfold start at h2
   rw [List.getElem?_append_left (by simpa using hi),Qq] at h2
   cases e:vs[i]? with
   | none=>rw [e] at h2;cases h2
   | some a=>rw [e] at h2;cases h2;rfl
  obtain ⟨u,hu,rv⟩:=r.get ha
  have hp:ps[i]? =some y:=by
   rw [<- S.pre,List.getElem?_take_of_lt (by omega)];exact h1
  have JO:ps.Nodup:=by rw [<- S.pre];exact S.nd.sublist (List.take_sublist _ _)
  refine ⟨u,rv,?_⟩
  rcases S.JN y (QC hp) with k | k
  ·exact .inl ⟨k,mR JO hp hu k⟩
  ·obtain ⟨c,e⟩:=qE (n:=s.heap.objs.size+1) k
   refine .inr ⟨.inl k,c,e,?_⟩
   have q:=x.cell y c e
   rw [mZ JO hp hu (by show scope.names.lookup y≠_;rw [k];decide)] at q
   exact q
 ·exact e0.hok.fresh (Nat.le_of_lt (x.above y c (PySem.mem_of_lookup h)))
 ·unfold start
  show _=N.length
  rw [Qk,Ql,List.length_replicate]
  omega
theorem JP {CX:qz} {K:QZ} {k:Nat} {params:Arguments} {dV kV doc pm av ct oc:Value} {an od:Option Addr}
  {ia:Array (Option Value)} {N ps:List Str} {sp:Sp} (lk:K.lookup f=some ⟨oc,od,.func (PySem.W.fnOf name qual params body scope dV kV doc pm an av ct),ia⟩) (jp:PySem.W.codeIn K av qual=true) (S:dc N ps scope)
  (len:∀ vs H Q E,sp vs H Q E->vs.length=ps.length)
  (qb:∀ (A:Around) (outer:List Env) (s:Shared) (H:Hp) (vs:List V) (Q:VK) (E:XK),c_ k (A.deeper (envOfC qual scope s.heap.objs.size f av))->sp vs H Q E->
   ∃ t,jz (jd CX P w K mg base N qual scope f av A outer s H E) body t/\t {nx:=fun _ H'=>Q .ao H',rt:=Q} (start N vs) H):
  kg P w K mg base CX (k+1) f (PySem.W.fnOf name qual params body scope dV kV doc pm an av ct) ps sp:=by
 refine ⟨len,fun A outer s H args us vs Q E hr e0 hb r wo=>?_⟩
 have hl:=len _ _ _ _ wo
 have KX:K.In s.heap:=e0.mod.A_.keeps fun b o e=>(e0.bs b o e).1
 have lim:s.heap.NoLimit:=e0.mod.nolimit.keeps fun b o e=>(e0.bs b o e).1
 have O2:∀ y∈ps.zip us,scope.names.lookup y.1=some .local\/(scope.names.lookup y.1=some .cell/\((cellsFrom (s.heap.objs.size+1) scope.names []).lookup y.1).isSome=true):=fun ⟨n,v⟩ hy=>by
  rcases S.JN n (List.of_mem_zip hy).1 with q | q
  ·exact .inl q
  ·exact .inr ⟨q,PySem.W.cellsFrom_some _ _ _ (.inl q)⟩
 refine codeAny_call_function hr.depth (KX _ _ lk) rfl S.co S.gen rfl (PySem.W.codeRec_of KX jp) (hb _ _ _ _ ?_)
 refine wpAny_newFunctionEnv_cells S.kind O2 fun env he s1 x=>?_
 subst he
 refine ⟨lim.keeps x.toInCall.keep,codeAny_func ?_⟩
 obtain ⟨t,ht,hq⟩:=qb A outer s H vs Q E (hr.deeper _) wo
 have I:Inv (jd CX P w K mg base N qual scope f av A outer s H E) [] (start N vs) H s1:=vY S hr.hd e0 hl r x
 refine wpAny_mono (ht [] s1 (start N vs) H _ I hq) (fun fl s' hs=>?_) fun e s' hs=>hs
 have fin:∀ {σ':St} {H':Hp} {v:V} {u:Value},Inv (jd CX P w K mg base N qual scope f av A outer s H E) [] σ' H' s'->RelV v u->Q v H'->CE outer P w H s Q u s':=
  fun {σ' H' v u} J rv q=>⟨v,H',J.os,J.bare,J.base,J.hok,rv,q⟩
 cases fl with
 | ret u=>
  obtain ⟨v,σ',H',J,rv,q⟩:=hs
  exact fin J rv q
 | next=>
  obtain ⟨σ',H',J,q⟩:=hs
  exact fin (v:=V.ao) (u:=Value.none) J rfl q
 | brk=>
  obtain ⟨_,_,_,q⟩:=hs
  exact False.elim q
 | cont=>
  obtain ⟨_,_,_,q⟩:=hs
  exact False.elim q
section
variable {p pos:Pos} {t:TA} {id:String} {r:List V->Hp->VK->Prop}
def Bj (r:List V->Hp->VK->Prop) (t:TA):TE:=fun σ H Q=>t σ H fun vs H1=>r vs H1 Q
theorem zA (hc:iu X (.builtin id) r) (hg:Gl X x) (hm:X.mg x=none) (hv:bootBuiltins x=some (.builtin id)) (ha:PA X (e::es) t) (hn:x≠"__name__":=by decide) (e_:(x==("__debug__":Str))=false:=by decide)
  (he:starEach (e::es) X.env=(false,eval e X.env)::starEach es X.env:=by rfl) (hpl:(backTo pos (starEach es X.env)).any (·.1)=false:=by rfl):PE X (.Call (.Name x p) (e::es) [] pos) (Bj r t):=by
 intro pins s σ H Q I h
 refine wpAny_Call_Name_kw (hX I hg hm hv ?_ hn e_)
 exact PyProof.Rows.callWith_builtin1 (aj (ha pos pins s σ H _ I h) fun us s1 ⟨vs,H1,I1,r1,q1⟩=>hc pins s1 σ H1 vs us Q I1 r1 q1) he hpl
theorem wK (hc:iu X (.type T) r) (hg:Gl X x) (hm:X.mg x=none) (hv:bootBuiltins x=some (.type T)) (ha:PA X (e::es) t) (hn:x≠"__name__":=by decide) (e_:(x==("__debug__":Str))=false:=by decide)
  (he:starEach (e::es) X.env=(false,eval e X.env)::starEach es X.env:=by rfl) (hpl:(backTo pos (starEach es X.env)).any (·.1)=false:=by rfl):PE X (.Call (.Name x p) (e::es) [] pos) (Bj r t):=by
 intro pins s σ H Q I h
 refine wpAny_Call_Name_kw (hX I hg hm hv ?_ hn e_)
 exact PyProof.Rows.callWith_type1 (aj (ha pos pins s σ H _ I h) fun us s1 ⟨vs,H1,I1,r1,q1⟩=>hc pins s1 σ H1 vs us Q I1 r1 q1) he hpl
end
end L2
namespace HT
open PySem PyProof.Rows
section
open PySem.SeqAt
open PySem.AutoSeq1 (wpAny_loadPart')
open PySem.MeetsSeq PySem.MeetsSeq2 PySem.MeetsSeq3
end
theorem O3 {t:Addr} {vs ws:List Value} (ht:IsTup s.heap t vs.toArray) (hb:IsTup s.heap b ws.toArray) (hv:vs≠[])
  (h1:ws=[]->Q (.ref t) s) (h2:ws≠[]->Q (.ref s.heap.objs.size) {s with heap:=s.heap.push {cls:=.type "tuple",data:=.seq (vs++ws).toArray}})
  (hsz:vs.length+ws.length<=sizeLine):wpAny (model prog w) A (binaryOp .Add (.ref t) (.ref b)) Q E s:=by
 obtain ⟨⟨cls,dd,data,sl⟩,ho,hc,n,hd⟩:=id ht
 obtain ⟨⟨JQ,yx,data2,yy⟩,wq,nj,n2,hd2⟩:=id hb
 simp only at hc hd nj hd2
 subst hc hd nj hd2
 have e:vs.toArray++ws.toArray=(vs++ws).toArray:=by simp
 by_cases hw:ws=[]
 ·exact concat_meets ⟨_,ho,rfl⟩ ⟨_,wq,rfl⟩ noFill_tuple_add seq_tuple_add PySem.F.slot_tuple_add PySem.F.entry_tuple_add (PySem.F.args_tuple_add_2 _ _)
   (tuple_addW1 t b vs.toArray ws.toArray n n2 dd yx sl yy (by simpa using hv) (by simp [hw])) ⟨ho,wq,h1 hw⟩
 ·refine concat_meets ⟨_,ho,rfl⟩ ⟨_,wq,rfl⟩ noFill_tuple_add seq_tuple_add PySem.F.slot_tuple_add PySem.F.entry_tuple_add (PySem.F.args_tuple_add_2 _ _)
   (tuple_addW2 t b vs.toArray ws.toArray n n2 dd yx sl yy (by simpa using hv) (by simpa using hw) (by rw [List.size_toArray,List.size_toArray];exact hsz)) ⟨ho,wq,?_⟩
  rw [e]
  exact h2 hw
def br (n d:Nat):Option Int->Nat
 | none=>d
 | some v=>if v < 0 then (v+(n:Int)).toNat else min v.toNat n
theorem qB (n d:Nat):br n d none=d:=rfl
theorem pF (n d k:Nat):br n d (some (k:Int))=min k n:=by
 show (if (k:Int) < 0 then ((k:Int)+(n:Int)).toNat else min (k:Int).toNat n)=min k n
 rw [if_neg (by omega),Int.toNat_natCast]
theorem O4 (n d:Nat) (hd:d<=n) (o:Option Int):br n d o<=n:=by
 cases o with
 | none=>exact hd
 | some v=>
  show (if v < 0 then (v+(n:Int)).toNat else min v.toNat n)<=n
  by_cases hv:v < 0
  ·rw [if_pos hv];omega
  ·rw [if_neg hv];exact Nat.min_le_right _ _
theorem uS (v:Int) (n d:Nat):(if v < 0 then max (v+(n:Int)) 0 else min v (n:Int))=((br n d (some v):Nat):Int):=by
 show (if v < 0 then max (v+(n:Int)) 0 else min v (n:Int))=(((if v < 0 then (v+(n:Int)).toNat else min v.toNat n):Nat):Int)
 by_cases hv:v < 0
 ·simp only [if_pos hv];omega
 ·simp only [if_neg hv];omega
theorem tO (lo hi:Option Int) (n:Nat):Builtin.Slice.sliceAdjust lo hi 1 (n:Int)=(((br n 0 lo:Nat):Int),((br n n hi:Nat):Int)):=by
 have h1:¬((1:Int) < 0):=by omega
 unfold Builtin.Slice.sliceAdjust
 simp only [h1,if_false]
 refine Prod.ext ?_ ?_
 ·cases lo with
  | none=>rfl
  | some v=>exact uS v n 0
 ·cases hi with
  | none=>rfl
  | some v=>exact uS v n n
theorem sG (i j:Nat):Builtin.Slice.slicePlaces (i:Int) (j:Int) 1=j - i:=by
 unfold Builtin.Slice.slicePlaces
 have h1:(1:Int) > 0:=by omega
 simp only [h1,if_true,Int.ediv_one]
 split<;>omega
theorem lN {o:Option Int} {Q:Option Int->Shared->Prop} (p:IsPart v o) (h:Q o s):wpAny (model prog w) A (Builtin.Slice.slicePartIndex v) Q E s:=by
 cases p with
 | none=>exact slicePart_none h
 | int i t=>exact slicePart_int h
theorem jH {sl:Addr} {vl vu:Value} {lo hi:Option Int} {Q:Int×Int×Nat->Shared->Prop} (hs:s.heap.IsSliceOf sl vl vu .none) (pl:IsPart vl lo) (pu:IsPart vu hi)
  (h:Q (((br n 0 lo:Nat):Int),1,br n n hi - br n 0 lo) s):wpAny (model prog w) A (Builtin.Slice.sliceApplied (.ref sl) (pure (n:Int))) Q E s:=by
 obtain ⟨os,Av,JR,ji⟩:=id hs
 unfold Builtin.Slice.sliceApplied Builtin.Slice.sliceFields
 refine QS (QS (wpAny_field Av ji (x:=vl) rfl (QS (wpAny_field Av ji (x:=vu) rfl (QS (wpAny_field Av ji (x:=.none) rfl (QT ?_)))))))
 refine QS (slicePart_none ?_)
 show wpAny _ _ (if ((1:Int)==0)=true then _ else _) _ _ s
 rw [if_neg (by decide)]
 refine QS (lN pl (QS (lN pu (QS (QT ?_)))))
 show wpAny _ _ (match Builtin.Slice.sliceAdjust lo hi 1 (n:Int) with | (lo,hi)=>pure (lo,(1:Int),Builtin.Slice.slicePlaces lo hi 1)) _ _ s
 rw [tO lo hi n]
 show wpAny _ _ (pure (((br n 0 lo:Nat):Int),(1:Int),Builtin.Slice.slicePlaces ((br n 0 lo:Nat):Int) ((br n n hi:Nat):Int) 1)) _ _ s
 rw [sG]
 exact QT h
theorem xF (xs:Array Value) (i k:Nat):((List.range k).filterMap fun (m:Nat)=>xs[((i:Int)+(m:Int)*1).toNat]?).toArray=((xs.toList.drop i).take k).toArray:=by
 have e:(fun (m:Nat)=>xs[((i:Int)+(m:Int)*1).toNat]?)=fun m=>xs[i+m]?:=by
  funext m
  have:((i:Int)+(m:Int)*1).toNat=i+m:=by omega
  rw [this]
 rw [e]
 have:=pick_run xs i k
 rw [List.filterMap_map] at this
 have e2:((fun x=>xs[x]?)∘fun x=>i+x)=fun m=>xs[i+m]?:=rfl
 rw [e2] at this
 rw [this]
theorem iF {t sl:Addr} {items:Array Value} {vl vu:Value} {lo hi:Option Int} (ht:IsTup s.heap t items) (hs:s.heap.IsSliceOf sl vl vu .none) (pl:IsPart vl lo) (pu:IsPart vu hi)
  (hw:¬(br items.size 0 lo=0/\br items.size items.size hi=items.size))
  (h:Q (.ref s.heap.objs.size) {s with heap:=s.heap.push {cls:=.type "tuple",data:=.seq ((items.toList.drop (br items.size 0 lo)).take (br items.size items.size hi - br items.size 0 lo)).toArray}})
  (hsz:items.size<=sizeLine):wpAny (model prog w) A (getItem (.ref t) (.ref sl)) Q E s:=by
 have Ea:sizeOk (.seq ((items.toList.drop (br items.size 0 lo)).take (br items.size items.size hi - br items.size 0 lo)).toArray):=by
  show ((items.toList.drop (br items.size 0 lo)).take (br items.size items.size hi - br items.size 0 lo)).toArray.size<=sizeLine
  rw [List.size_toArray,List.length_take,List.length_drop,Array.length_toList]
  omega
 have hj:br items.size items.size hi<=items.size:=O4 _ _ (Qy _) hi
 obtain ⟨os,Av,JR,ji⟩:=id hs
 have O5:s.TypeIs (.ref sl) "slice":=⟨os,Av,JR⟩
 unfold getItem
 try with_reducible refine wpAny_holding ?_
 first | refine QS (QT ?_) | skip
 refine QS (wpAny_sequenceKey ht.typeIs (by decide) ?_)
 refine QS (wpAny_callSpecial?_slot (name:=Str.ofString "__getitem__") ht.typeIs PyProof.Rows.slot_tuple_getitem
  (wpAny_call_entry PyProof.Rows.slot_tuple_getitem ht.typeIs entry_tuple_getitem ?_ (args_tuple_getitem _ _)))
 show wpAny _ _ (Builtin.Tuple.tupleItemsOf (.ref t) >>=_) _ _ s
 refine QS (tupleItemsOf_ ht ?_)
 refine QS (wpAny_typeOf O5 ?_)
 rw [if_pos (by decide)]
 refine QS (jH hs pl pu ?_)
 have Bk:¬((((br items.size 0 lo:Nat):Int)==0&&(1:Int)==1&&(br items.size items.size hi - br items.size 0 lo)==items.size)=true):=by
  intro q
  rw [Bool.and_eq_true,Bool.and_eq_true] at q
  have q1:((br items.size 0 lo:Nat):Int)=0:=eq_of_beq q.1.1
  have q2:br items.size items.size hi - br items.size 0 lo=items.size:=eq_of_beq q.2
  exact hw ⟨by omega,by omega⟩
 show wpAny _ _ (if (((br items.size 0 lo:Nat):Int)==0&&(1:Int)==1&&(br items.size items.size hi - br items.size 0 lo)==items.size)=true then _ else _) _ _ s
 rw [if_neg Bk,xF]
 first
  | exact QS (m:=Builtin.Tuple.tupleExact _) (wpAny_newObj_type (QT ⟨_,rfl,QT h⟩) Ea)
  | exact QS (m:=Builtin.Tuple.tupleExact _) (wpAny_newObj_type (QS (QT (QT ⟨_,rfl,QT h⟩))) Ea)
  | exact QS (QS (m:=Builtin.Tuple.tupleExact _) (wpAny_newObj_type (QT (QT ⟨_,rfl,QT h⟩)) Ea))
  | exact QS (QS (m:=Builtin.Tuple.tupleExact _) (wpAny_newObj_type (QT ⟨_,rfl,QT h⟩) Ea))
end HT
namespace L2
open PySem PySem.Spec PyProof.Rows
abbrev TO:=St->Hp->(Option Int->Hp->Prop)->Prop
def PO (X:Cx) (e:Option Expr) (t:TO):Prop:=
 ∀ (pins:List (Addr×Obj)) (s:Shared) (σ:St) (H:Hp) (Q:Option Int->Hp->Prop),Inv X pins σ H s->t σ H Q->
  wpAny (model X.prog X.w) X.A (evalPart e X.env) (fun u s'=>∃ o H',Inv X pins σ H' s'/\IsPart u o/\Q o H') X.xe s
def Eb:TO:=fun _ H Q=>Q none H
def Ec (t:TE):TO:=fun σ H Q=>t σ H fun x H1=>∃ i,x=.int i/\Q (some i) H1
section
variable {lo hi:Option Expr} {tl th:TO} {pos p2:Pos}
theorem zM:PO X none Eb:=by
 intro pins s σ H Q I h
 rw [evalPart_none]
 exact QT ⟨none,H,I,.none,h⟩
theorem O6 (h:PE X e te):PO X (some e) (Ec te):=by
 intro pins s σ H Q I hw
 rw [evalPart_some]
 refine aj (h pins s σ H _ I hw) ?_
 rintro u s1 ⟨x,H1,I1,r1,q1⟩
 obtain ⟨i,rfl,q⟩:=q1
 obtain ⟨t,rfl⟩:=r1
 exact ⟨some i,H1,I1,.int i t,q⟩
def ur (X:Cx) (r:V->Option Int->Option Int->Hp->VK->Prop):Prop:=
 ∀ (pins:List (Addr×Obj)) (s:Shared) (σ:St) (H:Hp) (x:V) (v vl vu:Value) (lo hi:Option Int) (sl:Addr) (Q:VK),Inv X pins σ H s->RelV x v->s.heap.IsSliceOf sl vl vu .none->IsPart vl lo->IsPart vu hi->r x lo hi H Q->
  ∃ T id,typeLookup (.type T) "__getitem__"=pure (some (.builtin id))/\s.TypeIs v T/\wpAny (model X.prog X.w) X.A (getItem v (.ref sl)) (EP X pins σ Q) X.xe s
theorem ur.or {r r':V->Option Int->Option Int->Hp->VK->Prop} (h:ur X r) (h':ur X r'):ur X (fun x lo hi H Q=>r x lo hi H Q\/r' x lo hi H Q):=by
 intro pins s σ H x v vl vu lo hi sl Q I rx hs pl pu q
 rcases q with q | q
 ·exact h pins s σ H x v vl vu lo hi sl Q I rx hs pl pu q
 ·exact h' pins s σ H x v vl vu lo hi sl Q I rx hs pl pu q
def Ed (r:V->Option Int->Option Int->Hp->VK->Prop) (te:TE) (tl th:TO):TE:=fun σ H Q=>te σ H fun x H1=>tl σ H1 fun l H2=>th σ H2 fun u H3=>r x l u H3 Q
theorem z9 {r:V->Option Int->Option Int->Hp->VK->Prop} (hr:ur X r) (he:PE X e te) (hl:PO X lo tl) (hu:PO X hi th):PE X (.Subscript e (.Slice lo hi none p2) pos) (Ed r te tl th):=by
 intro pins s σ H Q I h
 refine Subscript_ (aj (he pins s σ H _ I h) ?_)
 rintro v s1 ⟨x,H1,I1,r1,q1⟩
 refine wpAny_Slice (aj (hl pins s1 σ H1 _ I1 q1) fun vl s2 ⟨l,H2,I2,pl,q2⟩=>aj (hu pins s2 σ H2 _ I2 q2) fun vu s3 ⟨u,H3,I3,pu,q3⟩=>?_)
 rw [evalPart_none]
 refine QT ?_
 have I4:Inv X pins σ H3 {s3 with heap:=s3.heap.push {cls:=.type "slice",data:=.fields #[vl,vu,.none]}}:=I3.kept (t':=s3.toks) fun b ob q=>Qc _ q
 obtain ⟨T,id,hT,ht,hg⟩:=hr pins {s3 with heap:=s3.heap.push {cls:=.type "slice",data:=.fields #[vl,vu,.none]}} σ H3 x v vl vu l u s3.heap.objs.size Q I4 r1 (Heap.IsSliceOf.new ..) pl pu q3
 show wpAny (model X.prog X.w) X.A (subscriptTail e (.Slice lo hi none p2) v (.ref s3.heap.objs.size)) (EP X pins σ Q) X.xe {s3 with heap:=s3.heap.push {cls:=.type "slice",data:=.fields #[vl,vu,.none]}}
 exact tail_any (ops:=[.ref s3.heap.objs.size,v]) ht hT hg (by with_unfolding_all rfl)
def kh (xs:List V) (lo hi:Option Int):List V:=(xs.drop (HT.br xs.length 0 lo)).take (HT.br xs.length xs.length hi - HT.br xs.length 0 lo)
theorem jS (xs:List V) (lo hi:Option Int):(kh xs lo hi).length<=xs.length:=by
 unfold kh
 rw [List.length_take,List.length_drop]
 omega
def Ck (K:QZ):V->Option Int->Option Int->Hp->VK->Prop:=fun x lo hi H Q=>∃ a xs,x=.ref a/\au K H a xs/\
 ¬(HT.br xs.length 0 lo=0/\HT.br xs.length xs.length hi=xs.length)/\∀ p,H p=none->Q (.ref p) (upd H p (.tup (kh xs lo hi)))
theorem O7:ur X (Ck X.K):=by
 intro pins s σ H x v vl vu lo hi sl Q I rx hs pl pu h
 obtain ⟨a,xs,rfl,hx,hw,q⟩:=h
 cases rx
 obtain ⟨its,r,ht,hz⟩:=I.tuple hx
 have fq:its.toArray.size=xs.length:=by rw [List.size_toArray];exact r.length.symm
 refine ⟨"tuple",_,PyProof.Rows.slot_tuple_getitem.lookup,ht.typeIs,?_⟩
 refine HT.iF ht hs pl pu (by rw [fq];exact hw) ?_ (by rw [fq];exact hz)
 rw [fq]
 refine ⟨.ref s.heap.objs.size,_,I.laid (t':=s.toks) (o:=.tup (kh xs lo hi)) (fun b ob q=>Qc _ q) (Qy _) ?_,rfl,q _ (I.hok.fresh (Qy _))⟩
 exact ⟨⟨Nat.le_trans (jS xs lo hi) hz,Aj.new rfl rfl⟩,_,(r.drop (HT.br xs.length 0 lo)).take (HT.br xs.length xs.length hi - HT.br xs.length 0 lo),IsTup.new _ _⟩
def O8 (K:QZ):R2:=fun x y H Q=>∃ a b xs ys,x=.ref a/\y=.ref b/\au K H a xs/\au K H b ys/\xs≠[]/\xs.length+ys.length<=sizeLine/\
 (ys=[]->Q (.ref a) H)/\(ys≠[]->∀ p,H p=none->Q (.ref p) (upd H p (.tup (xs++ys))))
theorem a_.Ef {xs:List V} (r:a_ xs us):us=[]↔xs=[]:=by
 cases r with
 | nil=>simp
 | cons _ _=>simp
theorem O9:cg X (binaryOp .Add) (O8 X.K):=by
 intro pins s σ H x y v u Q I rx ry h
 obtain ⟨a,b,xs,ys,rfl,rfl,ha,hb,hx,hz,q1,q2⟩:=h
 cases rx
 cases ry
 obtain ⟨its,r1,p1,_⟩:=I.tuple ha
 obtain ⟨its2,r2,p2,_⟩:=I.tuple hb
 refine HT.O3 p1 p2 (fun z=>hx (r1.Ef.mp z)) (fun z=>⟨.ref a,H,I,rfl,q1 (r2.Ef.mp z)⟩) (fun z=>?_) (by rw [<- r1.length,<- r2.length];exact hz)
 refine ⟨.ref s.heap.objs.size,_,I.laid (t':=s.toks) (o:=.tup (xs++ys)) (fun b ob q=>Qc _ q) (Qy _) ?_,rfl,q2 (fun w=>z (r2.Ef.mpr w)) _ (I.hok.fresh (Qy _))⟩
 exact ⟨⟨by rw [Qk];exact hz,Aj.new rfl rfl⟩,_,r1.append r2,IsTup.new _ _⟩
end
def uu (n:Nat) (i:Int):Option Nat:=if 0<=i then (if i < n then some i.toNat else none) else if -(n:Int)<=i then some (i+n).toNat else none
def ie {α:Type} (xs:List α) (i:Int):Option α:=(uu xs.length i).bind fun j=>xs[j]?
theorem oR {i:Int} (h:uu n i=some j):seqIndex? i n=some j/\j < n/\ -(n:Int)<=i/\i < n:=by
 unfold uu at h
 by_cases h0:0<=i
 ·rw [if_pos h0] at h
  by_cases h1:i < n
  ·rw [if_pos h1] at h
   have e:i.toNat=j:=QD h
   exact ⟨by rw [seqIndex_of h0 h1,e],by omega,by omega,h1⟩
  ·rw [if_neg h1] at h;cases h
 ·rw [if_neg h0] at h
  by_cases h1: -(n:Int)<=i
  ·rw [if_pos h1] at h
   have e:(i+n).toNat=j:=QD h
   exact ⟨by rw [seqIndex_neg (by omega) h1,e],by omega,h1,by omega⟩
  ·rw [if_neg h1] at h;cases h
theorem oJ {xs:List α} {i:Int} {v:α} (h:ie xs i=some v):∃ j,seqIndex? i xs.length=some j/\xs[j]? =some v/\j < xs.length/\ -(xs.length:Int)<=i/\i < xs.length:=by
 unfold ie at h
 cases e:uu xs.length i with
 | none=>rw [e] at h;cases h
 | some j=>
  rw [e] at h
  obtain ⟨h1,h2,h3,h4⟩:=oR e
  exact ⟨j,h1,h,h2,h3,h4⟩
theorem gH {xs:List α} {v:α} (h:xs[j]? =some v):ie xs (j:Int)=some v:=by
 have hj:j < xs.length:=(List.getElem?_eq_some_iff.mp h).1
 have e:uu xs.length (j:Int)=some j:=by
  unfold uu
  rw [if_pos (by omega),if_pos (by omega)];simp
 unfold ie;rw [e];exact h
theorem y3 (xs:List α) (v:α):ie (xs++[v]) (-1)=some v:=by
 have hl:(xs++[v]).length=xs.length+1:=by simp
 have e:uu (xs++[v]).length (-1)=some xs.length:=by
  unfold uu
  rw [hl,if_neg (by decide),if_pos (by omega)]
  congr 1
  omega
 unfold ie
 rw [e]
 show (xs++[v])[xs.length]? =some v
 simp
def JS (b:Expr):Prop:=∀ o i,subscripted b false o i=operate [o,i] (getItem o i)
def Aw (X:Cx) (r:R2):Prop:=
 ∀ (value slice:Expr) (pins:List (Addr×Obj)) (s:Shared) (σ:St) (H:Hp) (x y:V) (v u:Value) (Q:VK),Inv X pins σ H s->RelV x v->RelV y u->r x y H Q->
  subscripted slice false v u=operate [v,u] (getItem v u)->wpAny (model X.prog X.w) X.A (subscriptTail value slice v u) (EP X pins σ Q) X.xe s
def JT (X:Cx) (id:String) (r:V->List V->Hp->VK->Prop):Prop:=
 ∀ (pins:List (Addr×Obj)) (s:Shared) (σ:St) (H:Hp) (x:V) (xs:List V) (v:Value) (us:List Value) (Q:VK),Inv X pins σ H s->RelV x v->a_ xs us->r x xs H Q->
  wpAny (model X.prog X.w) X.A (call (.builtin id) (v::us)) (EP X pins σ Q) X.xe s
section
variable {a b:Expr} {tb:TE} {pos:Pos}
theorem O_ {r:R2} (hr:Aw X r) (ha:PE X a ta) (hb:PE X b tb) (hs:JS b):PE X (.Subscript a b pos) (qy r ta tb):=by
 intro pins s σ H Q I h
 exact Subscript_ (F1 ha hb I h fun v u s2 x y H2 I2 rx ry q=>hr a b pins s2 σ H2 x y v u Q I2 rx ry q (hs _ _))
def Pa (K:QZ):R2:=fun x y H Q=>∃ p xs i v,x=.ref p/\y=.int i/\ak K H p xs/\ie xs i=some v/\Q v H
def Pb (K:QZ):R2:=fun x y H Q=>∃ p xs i v,x=.ref p/\y=.int i/\au K H p xs/\ie xs i=some v/\Q v H
def Pc:R2:=fun x y H Q=>∃ z i c,x=.str z/\y=.int i/\z.length<=sizeLine/\ie z.cps.toList i=some c/\Q (.str ⟨#[c]⟩) H
theorem Pd:Aw X (Pa X.K):=by
 intro value slice pins s σ H x y v u Q I rx ry h hs
 obtain ⟨p,xs,i,z,rfl,rfl,hq,he,q⟩:=h
 cases rx
 obtain ⟨t,rfl⟩:=ry
 obtain ⟨its,r,pl,hz⟩:=I.list hq
 obtain ⟨j,h1,h2,h3,h4,h5⟩:=oJ he
 obtain ⟨w,ew,lu⟩:=r.get h2
 have hl:=r.length
 have hn:=Cf
 have fin:EP X pins σ Q w s:=⟨z,H,I,lu,q⟩
 by_cases h0:0<=i
 ·have hj:i.toNat=j:=by
   rw [seqIndex_of h0 h5] at h1
   exact QD h1
  exact item_listR pl.isList h0 (by omega) (by rw [hj];simpa using ew) fin hs
 ·have hj:(i+(its.toArray.size:Int)).toNat=j:=by
   rw [seqIndex_neg (by omega) h4] at h1
   rw [List.size_toArray,<- hl]
   exact QD h1
  exact subscriptTail_builtinR (x:=w) pl.isList.typeIs slot_list_getitem.lookup
   (wpAny_getItem_list_neg (Q:=fun r s'=>r=w/\EP X pins σ Q r s') pl.isList (by omega) (by rw [List.size_toArray]<;>omega) (by omega) (by rw [hj];simpa using ew) ⟨rfl,fin⟩) hs
theorem Pe:Aw X (Pb X.K):=by
 intro value slice pins s σ H x y v u Q I rx ry h hs
 obtain ⟨p,xs,i,z,rfl,rfl,hq,he,q⟩:=h
 cases rx
 obtain ⟨t,rfl⟩:=ry
 obtain ⟨its,r,pl,hz⟩:=I.tuple hq
 obtain ⟨j,h1,h2,h3,h4,h5⟩:=oJ he
 obtain ⟨w,ew,lu⟩:=r.get h2
 have hl:=r.length
 have hn:=Cf
 have fin:EP X pins σ Q w s:=⟨z,H,I,lu,q⟩
 exact subscriptTail_builtinR (x:=w) pl.typeIs slot_tuple_getitem.lookup
  (getItem_tuple (j:=j) (Q:=fun r s'=>r=w/\EP X pins σ Q r s') pl (by omega) (by omega) (by rw [List.size_toArray,<- hl];exact h1) (by simpa using ew) ⟨rfl,fin⟩) hs
theorem Pf:Aw X Pc:=by
 intro value slice pins s σ H x y v u Q I rx ry h hs
 obtain ⟨z,i,c,rfl,rfl,hz,he,q⟩:=h
 obtain ⟨t,rfl⟩:=rx
 obtain ⟨t',rfl⟩:=ry
 obtain ⟨j,h1,h2,h3,h4,h5⟩:=oJ he
 have hl:z.cps.toList.length=z.length:=by simp [Str.length]
 rw [hl] at h1 h4 h5
 have hn:=Cf
 exact tail_any (typeIs_str s z t) slot_str_getitem.lookup (getItem_str (c:=c) (by
  have e1:decide (i < -(2^63:Int))=false:=Qw (by omega)
  have e2:decide (i≥2^63)=false:=Qw (by omega)
  rw [e1,e2,Bool.or_false]) (by rw [h1];simpa using h2) ⟨.str ⟨#[c]⟩,H,I.tok _,⟨_,rfl⟩,q⟩) hs
theorem sZ (its:List Value) (n j:Nat) (u:Value):Obj.mapSeq (·.setIfInBounds j u) {cls:=.type "list",data:=.seq its.toArray n}={cls:=.type "list",data:=.seq (its.set j u).toArray n}:=by
 simp [Obj.mapSeq]
theorem Inv.lst {pins:List (Addr×Obj)} {σ:St} {H:Hp} {s:Shared} {p:Addr} {xs:List V} (I:Inv X pins σ H s) (h:H p=some (.lst xs)):
  ∃ (its:List Value) (n:Nat),a_ xs its/\s.heap.get? p=some {cls:=.type "list",data:=.seq its.toArray n}/\xs.length<=sizeLine:=by
 obtain ⟨z,its,n,r,e⟩:=I.hok p _ h
 exact ⟨its,n,r,e,z⟩
theorem Inv.Pg {xs ys:List V} {its its':List Value} {n':Nat} {f:Obj->Obj} (I:Inv X pins σ H s) (h:H p=some (.lst xs))
  (ho:s.heap.get? p=some {cls:=.type "list",data:=.seq its.toArray n}) (hf:f {cls:=.type "list",data:=.seq its.toArray n}={cls:=.type "list",data:=.seq its'.toArray n'}) (r:a_ ys its') (hz:ys.length<=sizeLine) (t:Nat):
  Inv X pins σ (upd H p (.lst ys)) {s with heap:=s.heap.update p f,toks:=t}:=by
 have e:(s.heap.update p f).get? p=some {cls:=.type "list",data:=.seq its'.toArray n'}:=by
  rw [Heap.get?_update_self f ho (by rw [hf]<;>rfl),hf]
 refine I.write (x:=p) (e:=p) (by rw [h];trivial) (.inl rfl) (fun b u hb q=>(Heap.get?_update_other _ _ (Ne.symm hb)).trans q) ⟨_,e⟩ ?_
 exact ⟨hz,its',n',r,e⟩
def Ph:V->V->V->Hp->(Hp->Prop)->Prop:=fun o i v H Q=>∃ p xs k j,o=.ref p/\i=.int k/\H p=some (.lst xs)/\uu xs.length k=some j/\Q (upd H p (.lst (xs.set j v)))
theorem lL:FY X Ph:=by
 intro pins s σ H o i v ov iv u Q I ro ri rv h
 obtain ⟨p,xs,k,j,rfl,rfl,hp,hj,q⟩:=h
 cases ro
 obtain ⟨t,rfl⟩:=ri
 obtain ⟨its,n,r,ho,hz⟩:=I.lst hp
 obtain ⟨h1,h2,h3,h4⟩:=oR hj
 have hl:=r.length
 have hn:=Cf
 have I':Inv X pins σ (upd H p (.lst (xs.set j v))) {s with heap:=s.heap.update p (Obj.mapSeq (·.setIfInBounds j u))}:=
  I.Pg hp ho (sZ its n j u) (r.set rv j) (by rw [List.length_set];exact hz) s.toks
 by_cases h0:0<=k
 ·have hk:k.toNat=j:=by
   rw [seqIndex_of h0 h4] at h1
   exact QD h1
  exact PySem.W.ki_setAt ho h0 (by omega) (by rw [List.size_toArray,<- hl];exact h4) (by rw [hk];exact ⟨_,I',q⟩)
 ·have hk:(k+(its.toArray.size:Int)).toNat=j:=by
   rw [seqIndex_neg (by omega) h3] at h1
   rw [List.size_toArray,<- hl]
   exact QD h1
  exact PySem.W.ki_setBack ho (by omega) (by rw [List.size_toArray,<- hl];exact h3) (by omega) (by rw [hk];exact ⟨_,I',q⟩)
theorem pN (lo hi:Option Int) (n:Nat):(sliceBounds lo hi none n).1=((HT.br n 0 lo:Nat):Int)/\(sliceBounds lo hi none n).2.1=((HT.br n n hi:Nat):Int)/\(sliceBounds lo hi none n).2.2=1:=by
 refine ⟨?_,?_,rfl⟩
 ·cases lo with
  | none=>simp [sliceBounds,HT.br]
  | some i=>
   simp only [sliceBounds,HT.br,Option.getD_none,show (1:Int) > 0 by decide,if_true]
   by_cases h:i < 0
   ·simp only [h,if_true]<;>omega
   ·simp only [h,if_false]<;>omega
 ·cases hi with
  | none=>simp [sliceBounds,HT.br]
  | some i=>
   simp only [sliceBounds,HT.br,Option.getD_none,show (1:Int) > 0 by decide,if_true]
   by_cases h:i < 0
   ·simp only [h,if_true]<;>omega
   ·simp only [h,if_false]<;>omega
theorem m7 (its:List Value) (lo hi:Option Int):slicePick its.toArray lo hi none=((its.drop (HT.br its.length 0 lo)).take (HT.br its.length its.length hi - HT.br its.length 0 lo)).toArray:=by
 obtain ⟨h1,h2,h3⟩:=pN lo hi its.toArray.size
 unfold slicePick
 rw [h1,h2,h3]
 simp only [sliceRange_one,pick_run,List.size_toArray]<;>rfl
def Cm (K:QZ):V->Option Int->Option Int->Hp->VK->Prop:=fun x lo hi H Q=>∃ a xs,x=.ref a/\ak K H a xs/\∀ p,H p=none->Q (.ref p) (upd H p (.lst (kh xs lo hi)))
theorem Pj:ur X (Cm X.K):=by
 intro pins s σ H x v vl vu lo hi sl Q I rx hs pl pu h
 obtain ⟨a,xs,rfl,hx,q⟩:=h
 cases rx
 obtain ⟨its,r,ht,hz⟩:=I.list hx
 have fq:=r.length
 refine ⟨"list",_,slot_list_getitem.lookup,ht.isList.typeIs,?_⟩
 refine wpAny_getItem_list_slice ht.isList hs pl pu .none (by simp) ?_ (by rw [List.size_toArray]<;>omega)
 rw [m7,<- fq]
 refine ⟨.ref s.heap.objs.size,_,I.laid (t':=s.toks) (o:=.lst (kh xs lo hi)) (fun b ob q=>Qc _ q) (Qy _) ?_,rfl,q _ (I.hok.fresh (Qy _))⟩
 exact ⟨Nat.le_trans (jS xs lo hi) hz,_,0,(r.drop (HT.br xs.length 0 lo)).take (HT.br xs.length xs.length hi - HT.br xs.length 0 lo),Qd _ rfl⟩
def wu:V->Bool
 | .ao=>true
 | .bl _=>true
 | .int _=>true
 | .str _=>true
 | _=>false
def yz:V->V->Bool
 | .ao,.ao=>true
 | .bl a,.bl b=>a==b
 | .bl a,.int b=>(if a then 1 else 0)==b
 | .int a,.bl b=>a==(if b then 1 else 0)
 | .int a,.int b=>a==b
 | .str a,.str b=>a==b
 | _,_=>false
theorem Pk {y x:V} (ry:RelV y u) (rx:RelV x v) (fy:wu y=true) (fx:wu x=true):SeqAt.EqAt A s u v (yz y x):=by
 cases y with
 | ao=>
  cases ry
  cases x with
  | ao=>cases rx;exact SeqAt.EqAt.same _
  | bl b=>cases rx;exact SeqAt.EqAt.none_bool b
  | int b=>obtain ⟨t,rfl⟩:=rx;exact SeqAt.EqAt.none_int b t
  | str b=>obtain ⟨t,rfl⟩:=rx;exact SeqAt.EqAt.none_str b t
  | _=>exact absurd (show false=true from fx) Bool.false_ne_true
 | bl a=>
  cases ry
  cases x with
  | ao=>cases rx;exact SeqAt.EqAt.bool_none a
  | bl b=>cases rx;exact SeqAt.EqAt.bool_bool a b
  | int b=>obtain ⟨t,rfl⟩:=rx;exact SeqAt.EqAt.bool_int a b t
  | str b=>obtain ⟨t,rfl⟩:=rx;exact SeqAt.EqAt.bool_str a b t
  | _=>exact absurd (show false=true from fx) Bool.false_ne_true
 | int a=>
  obtain ⟨t',rfl⟩:=ry
  cases x with
  | ao=>cases rx;exact SeqAt.EqAt.int_none a t'
  | bl b=>cases rx;exact SeqAt.EqAt.int_bool a t' b
  | int b=>obtain ⟨t,rfl⟩:=rx;exact SeqAt.EqAt.int_int a t' b t
  | str b=>obtain ⟨t,rfl⟩:=rx;exact SeqAt.EqAt.int_str a t' b t
  | _=>exact absurd (show false=true from fx) Bool.false_ne_true
 | str a=>
  obtain ⟨t',rfl⟩:=ry
  cases x with
  | ao=>cases rx;exact SeqAt.EqAt.str_none a t'
  | bl b=>cases rx;exact SeqAt.EqAt.str_bool a t' b
  | int b=>obtain ⟨t,rfl⟩:=rx;exact SeqAt.EqAt.str_int a t' b t
  | str b=>obtain ⟨t,rfl⟩:=rx;exact SeqAt.EqAt.str_str a t' b t
  | _=>exact absurd (show false=true from fx) Bool.false_ne_true
 | _=>exact absurd (show false=true from fy) Bool.false_ne_true
def xw (x:V) (u:Value):Bool:=match u with
 | .none=>yz .ao x
 | .bool b=>yz (.bl b) x
 | .int i _=>yz (.int i) x
 | .str z _=>yz (.str z) x
 | _=>false
theorem xQ {x y:V} (r:RelV y u) (f:wu y=true):xw x u=yz y x:=by
 cases y with
 | ao=>cases r;rfl
 | bl b=>cases r;rfl
 | int i=>obtain ⟨t,rfl⟩:=r;rfl
 | str z=>obtain ⟨t,rfl⟩:=r;rfl
 | _=>exact absurd (show false=true from f) Bool.false_ne_true
theorem oO {x:V}:∀ {xs:List V} {us:List Value},a_ xs us->xs.all wu=true->us.any (xw x)=xs.any fun y=>yz y x
 | _,_,.nil,_=>rfl
 | y::xs,u::us,.cons r t,f=>by
  rw [List.all_cons,Bool.and_eq_true] at f
  rw [List.any_cons,List.any_cons,xQ r f.1,oO t f.2]
theorem kN {A:Around} {s:Shared} {x:V} {v:Value} (rx:RelV x v) (fx:wu x=true):∀ {xs:List V} {us:List Value},a_ xs us->xs.all wu=true->∀ u∈us,SeqAt.EqAt A s u v (xw x u)
 | _,_,.nil,_=>fun u hu=>by cases hu
 | y::xs,u::us,.cons r t,f=>fun u' hu=>by
  rw [List.all_cons,Bool.and_eq_true] at f
  rcases Qp.mp hu with rfl | hu
  ·rw [xQ r f.1];exact Pk r rx f.1 fx
  ·exact kN rx fx t f.2 u' hu
def Ax (x:V) (xs:List V):Bool:=xs.any fun y=>yz y x
def Pn (K:QZ) (neg:Bool):R2:=fun x y H Q=>∃ p xs,y=.ref p/\(ak K H p xs\/au K H p xs)/\wu x=true/\xs.all wu=true/\Q (.bl (if neg then !Ax x xs else Ax x xs)) H
theorem wH:cg X (compareOp .In) (Pn X.K false):=by
 intro pins s σ H x y v u Q I rx ry h
 obtain ⟨p,xs,rfl,hq,fx,fs,q⟩:=h
 cases ry
 rcases hq with hq | hq
 ·obtain ⟨its,r,pl,hz⟩:=I.list hq
  refine SeqAt.in_listAt (xw x) pl.isList (fun w hw=>kN rx fx r fs w (by simpa using hw)) ⟨.bl _,H,I,rfl,?_⟩
  rw [show its.toArray.any (xw x)=its.any (xw x) by simp,oO r fs]
  exact q
 ·obtain ⟨its,r,pl,hz⟩:=I.tuple hq
  refine SeqAt.in_tupleAt (xw x) pl (fun w hw=>kN rx fx r fs w (by simpa using hw)) ⟨.bl _,H,I,rfl,?_⟩
  rw [show its.toArray.any (xw x)=its.any (xw x) by simp,oO r fs]
  exact q
theorem pI:iu X (.type "list") (fun xs H Q=>∃ p ys,xs=[.ref p]/\(ak X.K H p ys\/au X.K H p ys)/\∀ l,H l=none->Q (.ref l) (upd H l (.lst ys))):=by
 intro pins s σ H xs us Q I r h
 obtain ⟨p,ys,rfl,hq,q⟩:=h
 obtain ⟨u,rfl,rx⟩:=vals1 r
 cases rx
 have fin:∀ (its:List Value),a_ ys its->ys.length<=sizeLine->∀ (h':Heap) (c':Nat),(∀ b o',s.heap.get? b=some o'->h'.get? b=some o')->
   h'.get? s.heap.objs.size=some {cls:=.type "list",dict:=none,data:=.seq its.toArray c',slots:=#[]}->EP X pins σ Q (.ref s.heap.objs.size) {s with heap:=h'}:=fun its r' hz h' c' kp e=>
  ⟨.ref s.heap.objs.size,_,I.laid (t':=s.toks) kp (Qy _) (show bf X.prog X.w _ h' _ (.lst ys) from ⟨hz,its,c',r',e⟩),rfl,q _ (I.hok.fresh (Qy _))⟩
 rcases hq with hq | hq
 ·obtain ⟨its,r',pl,hz⟩:=I.list hq
  have fq:=r'.length
  obtain ⟨o,ho,hc,n,hd⟩:=pl.isList
  exact call_list_seq p (.inl rfl) ho hc hd (fun h' c' kp e=>fin its r' hz h' c' kp e) (by simp only [List.size_toArray]<;>omega)
 ·obtain ⟨its,r',pl,hz⟩:=I.tuple hq
  have fq:=r'.length
  obtain ⟨o,ho,hc,n,hd⟩:=pl
  exact call_list_seq p (.inr rfl) ho hc hd (fun h' c' kp e=>fin its r' hz h' c' kp e) (by simp only [List.size_toArray]<;>omega)
theorem lU:iu X (.type "tuple") (fun xs H Q=>∃ p ys,xs=[.ref p]/\((ak X.K H p ys/\∀ l,H l=none->Q (.ref l) (upd H l (.tup ys)))\/(au X.K H p ys/\Q (.ref p) H))):=by
 intro pins s σ H xs us Q I r h
 obtain ⟨p,ys,rfl,h⟩:=h
 obtain ⟨u,rfl,rx⟩:=vals1 r
 cases rx
 rcases h with ⟨hq,q⟩ | ⟨hq,q⟩
 ·obtain ⟨its,r',pl,hz⟩:=I.list hq
  have fq:=r'.length
  refine call_tuple_list pl.isList (fun h' kp=>?_) (by simp only [List.size_toArray]<;>omega)
  have I1:Inv X pins σ H {s with heap:=h'}:=I.kept (t':=s.toks) kp
  have I2:Inv X pins σ (upd H h'.objs.size (.tup ys)) {s with heap:=h'.push {cls:=.type "tuple",data:=.seq its.toArray}}:=
   I1.laid (t':=s.toks) (fun b o e=>Qc _ e) (Qy _) (show bf X.prog X.w _ _ _ (.tup ys) from ⟨⟨hz,Aj.new rfl rfl⟩,its,r',IsTup.new _ _⟩)
  exact ⟨.ref h'.objs.size,_,I2,rfl,q _ (I1.hok.fresh (Qy _))⟩
 ·obtain ⟨its,r',pl,hz⟩:=I.tuple hq
  exact call_tuple_same pl ⟨.ref p,H,I,rfl,q⟩
def JU (K:QZ) (T:String) (x:V) (H:Hp):Prop:=match x with
 | .str _=>T="str"
 | .int _=>T="int"
 | .ref p=>(T="list"/\∃ xs,ak K H p xs)\/(T="tuple"/\∃ o,K.lookup p=some o/\o.cls=.type "tuple"/\o.dict=none)\/
   (T="dict"/\((∃ kvs,H p=some (.dK kvs))\/∃ kvs,H p=some (.dT kvs)))\/(T="set"/\∃ S n,H p=some (.set S n))
 | _=>False
theorem Po {x:V} (I:Inv X pins σ H s) (r:RelV x v) (ty:JU X.K T x H):
  s.TypeIs v T/\∀ a,v=.ref a->∃ ob,s.heap.get? a=some ob/\ob.dict=none:=by
 cases x with
 | str z=>
  obtain ⟨t,rfl⟩:=r
  cases (show T="str" from ty)
  exact ⟨typeIs_str s z t,fun _ e=>nomatch e⟩
 | int i=>
  obtain ⟨t,rfl⟩:=r
  cases (show T="int" from ty)
  exact ⟨typeIs_int s i t,fun _ e=>nomatch e⟩
 | ref p=>
  cases r
  rcases ty with ⟨rfl,xs,hq⟩ | ⟨rfl,o,hk,hc,hd⟩ | ⟨rfl,hk⟩ | ⟨rfl,S,n,hk⟩
  ·obtain ⟨its,_,pl,_⟩:=I.list hq
   refine ⟨pl.isList.typeIs,fun a e=>?_⟩
   cases e
   obtain ⟨o,n,e,c,hd,_⟩:=pl
   exact ⟨o,e,hd⟩
  ·refine ⟨⟨o,I.cu p o hk,hc⟩,fun a e=>?_⟩
   cases e
   exact ⟨o,I.cu _ o hk,hd⟩
  ·have z:∃ o,s.heap.get? p=some o/\o.ExactDict:=by
    rcases hk with ⟨kvs,hk⟩ | ⟨kvs,hk⟩
    ·obtain ⟨_,_,_,_,o,_,_,e,ex,_⟩:=I.hok p _ hk
     exact ⟨o,e,ex⟩
    ·obtain ⟨_,_,_,_,o,_,_,e,ex,_⟩:=I.hok p _ hk
     exact ⟨o,e,ex⟩
   obtain ⟨o,e,ex⟩:=z
   refine ⟨⟨o,e,ex.1⟩,fun a e2=>?_⟩
   cases e2
   exact ⟨o,e,ex.2.1⟩
  ·obtain ⟨o,_,_,_,e,ex,_⟩:=I.hok p _ hk
   refine ⟨⟨o,e,ex.1⟩,fun a e2=>?_⟩
   cases e2
   exact ⟨o,e,ex.2.1⟩
 | _=>exact False.elim ty
def F7 (K:QZ) (T:String) (r:V->List V->Hp->VK->Prop) (to:TE) (t:TA):TE:=fun σ H Q=>to σ H fun x H1=>JU K T x H1/\t σ H1 fun xs H2=>r x xs H2 Q
variable {o:Expr} {t:TA} {id:String} {r:V->List V->Hp->VK->Prop}
theorem Pp (pa:PlainAttrs T) (slot:Slot T name id) (Cn:typeOf (.builtin id)=pure (.type "method_descriptor")) (hm:JT X id r) (ho:PE X o to) (ha:PA X (e::es) t)
  (qc:attributeBase o name X.env (eval o X.env)=eval o X.env:=by rfl)
  (Co:((backTo cpos (starEach (e::es) X.env)).all (fun x=> !x.1)&&(backToKw cpos (keywordEach [] X.env)).all (fun x=>x.1.isSome)
   &&decide ((e::es).length+([]:List Keyword).length+(if ([]:List Keyword).isEmpty then 0 else 1) < 30))=true:=by rfl)
  (qd:(apos.endLine==cpos.line)=true:=by rfl) (hs:starEach (e::es) X.env=(false,eval e X.env)::starEach es X.env:=by rfl) (Cp:(backTo cpos (starEach es X.env)).any (·.1)=false:=by rfl):
  PE X (.Call (.Attribute o name apos) (e::es) [] cpos) (F7 X.K T r to t):=by
 intro pins s σ H Q I h
 refine wpAny_Call_method_late qc Co qd rfl (aj (ho pins s σ H _ I h) ?_)
 rintro v s1 ⟨x,H1,I1,r1,ty,q1⟩
 obtain ⟨h1,h2⟩:=Po I1 r1 ty
 refine ⟨T,id,pa,slot,Cn,h1,h2,?_⟩
 have hA:=ha cpos pins s1 σ H1 _ I1 q1
 rw [hs] at hA ⊢
 refine Calls.callWith_builtin (by show (false||(backTo cpos (starEach es X.env)).any (·.1))=false;rw [Cp]<;>rfl) (Calls.evalArgs_plain ?_)
 exact aj hA fun us s2 ⟨vs,H2,I2,r2,q2⟩=>hm pins s2 σ H2 x vs v us Q I2 r1 r2 q2
/- xs.append(e),list.index on a XU tuple .. are JT facts of 06m -/
end
def Eg (X:Cx) (id:String) (r:V->List V->Hp->VK->Prop):Prop:=
 ∀ (pins:List (Addr×Obj)) (s:Shared) (σ:St) (H:Hp) (x:V) (xs:List V) (v:Value) (us:List Value) (Q:VK),Inv X pins σ H s->RelV x v->a_ xs us->r x xs H Q->
  wpAny (model X.prog X.w) X.A (call (.builtin id) (v::us)) (EP X pins σ Q) X.xe s
theorem a_.one {x:V} {us:List Value} (h:a_ [x] us):∃ u,us=[u]/\RelV x u:=by
 cases h with
 | cons r t=>
  cases t
  exact ⟨_,rfl,r⟩
theorem a_.two {x y:V} (h:a_ [x,y] us):∃ u v,us=[u,v]/\RelV x u/\RelV y v:=by
 cases h with
 | cons r t=>
  cases t with
  | cons q t=>
   cases t
   exact ⟨_,_,rfl,r,q⟩
theorem a_.eraseIdx:∀ {xs:List V} {us:List Value} (i:Nat),a_ xs us->a_ (xs.eraseIdx i) (us.eraseIdx i)
 | _,_,_,.nil=>.nil
 | _,_,0,.cons _ t=>t
 | _,_,i+1,.cons r t=>.cons r (a_.eraseIdx i t)
theorem mV {α:Type}:∀ (l:List α) (i:Nat),(l.eraseIdx i).length<=l.length
 | [],_=>Qy _
 | _::_,0=>Nat.le_succ _
 | _::r,i+1=>Nat.succ_le_succ (mV r i)
section
variable {xs ys zs:List V}
theorem Inv.JV {its its':List Value} {f:Array Value->Array Value} (I:Inv X pins σ H s) (hH:H l=some (.lst xs))
  (e:s.heap.get? l=some {cls:=.type "list",data:=.seq its.toArray n}) (hf:f its.toArray=its'.toArray) (hv:a_ ys its') (hz:ys.length<=sizeLine):
  Inv X pins σ (upd H l (.lst ys)) {s with heap:=s.heap.update l (Obj.mapSeq f),toks:=t'}:=by
 have q:=PySem.IsL.update e f
 rw [hf] at q
 refine I.write (x:=l) (e:=l) (by rw [hH];exact trivial) (.inl rfl) (fun b' u hb hu=>(Heap.get?_update_other s.heap (Obj.mapSeq f) (Ne.symm hb)).trans hu) ⟨_,q⟩ ?_
 exact ⟨hz,its',_,hv,q⟩
theorem Inv.Pq {its:List Value} (I:Inv X pins σ H s) (hv:a_ ys its) (hz:ys.length<=sizeLine):
  Inv X pins σ (upd H s.heap.objs.size (.lst ys)) {s with heap:=s.heap.push {cls:=.type "list",data:=.seq its.toArray},toks:=t'}:=
 I.laid (fun _ _ q=>Qc _ q) (Qy _) ⟨hz,its,0,hv,Qd _ rfl⟩
theorem Inv.fresh (I:Inv X pins σ H s):H s.heap.objs.size=none:=I.hok.fresh (Qy _)
theorem Inv.Eh (I:Inv X pins σ H s) (hH:H l=some (.lst xs)):xs.length<=sizeLine/\∃ (its:List Value) (n:Nat),a_ xs its/\xs.length=its.length/\s.heap.get? l=some {cls:=.type "list",data:=.seq its.toArray n}:=by
 obtain ⟨z,its,n,r,e⟩:=I.hok l _ hH
 exact ⟨z,its,n,r,r.length,e⟩
end
def Pr:V->List V->Hp->VK->Prop:=fun x vs H Q=>∃ l xs y,x=.ref l/\vs=[y]/\H l=some (.lst xs)/\xs.length < sizeLine/\Q .ao (upd H l (.lst (xs++[y])))
theorem cP:Eg X "list.append" Pr:=by
 intro pins s σ H x vs v us Q I rx rv h
 obtain ⟨l,xs,y,rfl,rfl,hH,hz,q⟩:=h
 cases rx
 obtain ⟨u,rfl,ru⟩:=rv.one
 obtain ⟨z,its,n,r,hl,e⟩:=I.Eh hH
 refine call_meets F.slot_list_append ⟨_,e,rfl⟩ F.entry_list_append (F.args_list_append_2 _ _) (PySem.list_append l its.toArray n u (by rw [List.size_toArray];omega)) ⟨e,?_⟩
 refine ⟨.ao,_,I.JV (its':=its++[u]) hH e (by simp) (r.append (.cons ru .nil)) ?_,rfl,q⟩
 rw [Qk,List.length_singleton]
 omega
def Pu:V->List V->Hp->VK->Prop:=fun x vs H Q=>∃ l xs i k y,x=.ref l/\vs=[.int i]/\H l=some (.lst xs)/\ -(2^63)<=i/\i < 2^63/\seqIndex? i xs.length=some k/\xs[k]? =some y/\Q y (upd H l (.lst (xs.eraseIdx k)))
theorem xW:Eg X "list.pop" Pu:=by
 intro pins s σ H x vs v us Q I rx rv h
 obtain ⟨l,xs,i,k,y,rfl,rfl,hH,h1,h2,hk,hy,q⟩:=h
 cases rx
 obtain ⟨u,rfl,ru⟩:=rv.one
 obtain ⟨t,rfl⟩:=ru
 obtain ⟨z,its,n,r,hl,e⟩:=I.Eh hH
 obtain ⟨w,hw,lu⟩:=r.get hy
 refine call_meets F.slot_list_pop ⟨_,e,rfl⟩ F.entry_list_pop (F.args_list_pop_2 _ _)
  (MeetsSeq.list_pop_at l its.toArray n i t k w (fitsIndex_both h1 h2) (by rw [List.size_toArray,<- hl];exact hk) (by rw [<- Array.getElem?_toList];exact hw) (by rw [List.size_toArray];omega)) ⟨e,?_⟩
 refine ⟨y,_,I.JV (its':=its.eraseIdx k) hH e ?_ (r.eraseIdx k) ?_,lu,q⟩
 ·show its.toArray.eraseIdxIfInBounds k=(its.eraseIdx k).toArray
  rw [List.eraseIdxIfInBounds_toArray]
 ·have:=mV xs k
  omega
def Pw:R2:=fun x y H Q=>∃ l b xs zs,x=.ref l/\y=.ref b/\H l=some (.lst xs)/\H b=some (.lst zs)/\xs.length+zs.length<=sizeLine/\∀ p,H p=none->Q (.ref p) (upd H p (.lst (xs++zs)))
theorem Px:cg X (binaryOp .Add) Pw:=by
 intro pins s σ H x y v u Q I rx ry h
 obtain ⟨l,b,xs,zs,rfl,rfl,hH,hB,hz,q⟩:=h
 cases rx
 cases ry
 obtain ⟨z,its,n,r,hl,e⟩:=I.Eh hH
 obtain ⟨z2,its2,n2,r2,ly,e2⟩:=I.Eh hB
 refine PySem.P.add_list e e2 ?_ (by rw [List.size_toArray,List.size_toArray];omega)
 have ea:its.toArray++its2.toArray=(its++its2).toArray:=by simp
 rw [ea]
 exact ⟨.ref _,_,I.Pq (t':=s.toks) (r.append r2) (by rw [Qk];omega),rfl,q _ I.fresh⟩
section
variable {κ:Type} [DecidableEq κ]
def bx (kvs:List (κ×V)) (k:κ):Option V:=(kvs.find? fun kv=>decide (kv.1=k)).map (·.2)
def putK (kvs:List (κ×V)) (k:κ) (v:V):List (κ×V):=
 if (kvs.any fun kv=>decide (kv.1=k))=true then kvs.map (fun kv=>if kv.1=k then (kv.1,v) else kv) else kvs++[(k,v)]
theorem bO {p:κ×V} {r:List (κ×V)} {k:κ} (e:p.1=k):bx (p::r) k=some p.2:=by simp [bx,List.find?_cons,e]
theorem bP {p:κ×V} {r:List (κ×V)} {k:κ} (e:¬p.1=k):bx (p::r) k=bx r k:=by simp [bx,List.find?_cons,e]
theorem d8 (k:κ):∀ kvs:List (κ×V),(kvs.any fun kv=>decide (kv.1=k))=(bx kvs k).isSome
 | []=>rfl
 | p::r=>by
  rw [List.any_cons]
  by_cases e:p.1=k
  ·simp only [bO e,Qv e,Bool.true_or,Option.isSome_some]
  ·rw [bP e,Qw e,Bool.false_or];exact d8 k r
theorem qL (k j:κ) (y:V):∀ kvs:List (κ×V),bx (kvs.map fun kv=>if kv.1=k then (kv.1,y) else kv) j=(bx kvs j).map fun x=>if j=k then y else x
 | []=>rfl
 | p::r=>by
  have ih:=qL k j y r
  rw [List.map_cons]
  by_cases h:p.1=k
  ·rw [if_pos h]
   by_cases e:p.1=j
   ·rw [bO (p:=(p.1,y)) e,bO e,Option.map_some,if_pos (e.symm.trans h)]
   ·rw [bP (p:=(p.1,y)) e,bP e,ih]
  ·rw [if_neg h]
   by_cases e:p.1=j
   ·rw [bO (p:=p) e,bO e,Option.map_some,if_neg (fun z=>h (e.trans z))]
   ·rw [bP (p:=p) e,bP e,ih]
theorem j3 (k j:κ) (y:V):∀ kvs:List (κ×V),bx kvs k=none->bx (kvs++[(k,y)]) j=if j=k then some y else bx kvs j
 | [],_=>by
  by_cases e:k=j
  ·rw [if_pos e.symm];exact bO (p:=(k,y)) e
  ·rw [if_neg (fun z=>e z.symm)];exact bP (p:=(k,y)) e
 | p::r,hn=>by
  rw [List.cons_append]
  have hk:¬p.1=k:=fun z=>by rw [bO z] at hn;cases hn
  rw [bP hk] at hn
  have ih:=j3 k j y r hn
  by_cases e:p.1=j
  ·rw [bO e,bO e,if_neg (fun z=>hk (e.trans z))]
  ·rw [bP e,bP e,ih]
theorem yH (kvs:List (κ×V)) (k j:κ) (y:V):bx (putK kvs k y) j=if j=k then some y else bx kvs j:=by
 unfold putK
 by_cases a:(kvs.any fun kv=>decide (kv.1=k))=true
 ·rw [if_pos a,qL]
  rw [d8] at a
  by_cases e:j=k
  ·obtain ⟨x,hx⟩:=Option.isSome_iff_exists.mp a
   rw [if_pos e,e,hx,Option.map_some,if_pos rfl]
  ·rw [if_neg e]
   cases bx kvs j with
   | none=>rfl
   | some x=>rw [Option.map_some,if_neg e]
 ·rw [if_neg a]
  refine j3 k j y kvs ?_
  rw [d8] at a
  cases q:bx kvs k with
  | none=>rfl
  | some x=>rw [q] at a;exact (a rfl).elim
theorem bY (kvs:List (κ×V)) (k:κ) (v:V):(putK kvs k v).length<=kvs.length+1:=by
 unfold putK
 split
 ·rw [Ql];omega
 ·rw [Qk,List.length_cons,List.length_nil];omega
theorem dZ {kvs:List (κ×V)} {k:κ} (v:V) (h:bx kvs k=none):putK kvs k v=kvs++[(k,v)]:=by
 unfold putK
 rw [d8,h]
 exact if_neg (by decide)
theorem jh.Bl {o:Option V} {u:Option Value} (r:jh o u):o.isSome=u.isSome:=by
 cases o with
 | none=>cases u with
  | none=>rfl
  | some _=>exact (show False from r).elim
 | some _=>cases u with
  | none=>exact (show False from r).elim
  | some _=>rfl
theorem jh.getD {o:Option V} {u:Option Value} {d:V} {d':Value} (r:jh o u) (rd:RelV d d'):RelV (o.getD d) (u.getD d'):=by
 cases o with
 | none=>cases u with
  | none=>exact rd
  | some _=>exact (show False from r).elim
 | some _=>cases u with
  | none=>exact (show False from r).elim
  | some _=>exact r
theorem KV.val {kvs:List (κ×V)} {vs:List (κ×Value)} (r:KV kvs vs) (k:κ):jh (bx kvs k) (valueAt vs k):=by
 unfold KV at r
 induction r with
 | nil=>exact True.intro
 | @cons p q ps qs h t ih=>
  obtain ⟨h1,h2⟩:=h
  by_cases e:p.1=k
  ·have e':q.1=k:=h1.symm.trans e
   have b:valueAt (q::qs) k=some q.2:=by simp [valueAt,List.find?_cons,e']
   rw [bO e,b];exact h2
  ·have e':¬q.1=k:=fun z=>e (h1.trans z)
   have b:valueAt (q::qs) k=valueAt qs k:=by simp [valueAt,List.find?_cons,e']
   rw [bP e,b];exact ih
theorem KV.any {kvs:List (κ×V)} {vs:List (κ×Value)} (r:KV kvs vs) (k:κ):(kvs.any fun kv=>decide (kv.1=k))=vs.any fun kv=>decide (kv.1=k):=by
 unfold KV at r
 induction r with
 | nil=>rfl
 | cons h t ih=>rw [List.any_cons,List.any_cons,ih,h.1]
theorem KV.repl {kvs:List (κ×V)} {vs:List (κ×Value)} (r:KV kvs vs) (k:κ) {y:V} (ry:RelV y u):
  KV (kvs.map fun kv=>if kv.1=k then (kv.1,y) else kv) (vs.map fun kv=>if kv.1=k then (kv.1,u) else kv):=by
 unfold KV at r ⊢
 induction r with
 | nil=>exact .nil
 | @cons p q ps qs h t ih=>
  rw [List.map_cons,List.map_cons]
  refine .cons ?_ ih
  obtain ⟨h1,h2⟩:=h
  by_cases e:p.1=k
  ·rw [if_pos e,if_pos (h1.symm.trans e)];exact ⟨h1,ry⟩
  ·rw [if_neg e,if_neg (fun z=>e (h1.trans z))];exact ⟨h1,h2⟩
theorem KV.put {kvs:List (κ×V)} {vs:List (κ×Value)} (r:KV kvs vs) (k:κ) {y:V} (ry:RelV y u):KV (putK kvs k y) (stored vs k u):=by
 unfold putK stored
 rw [r.any k]
 by_cases e:(vs.any fun kv=>decide (kv.1=k))=true
 ·rw [if_pos e,if_pos e];exact r.repl k ry
 ·rw [if_neg e,if_neg e];exact Paired.snoc r ⟨rfl,ry⟩
theorem KV.length {kvs:List (κ×V)} {vs:List (κ×Value)} (r:KV kvs vs):kvs.length=vs.length:=Paired.length r
end
theorem gG {k:Key} (r:RelV (kV k) u):(cj P w).is k u=true:=by
 cases k with
 | inl i=>obtain ⟨t,e⟩:=(show ∃ t,u=Value.int i t from r);subst e;exact qF P w i t
 | inr x=>obtain ⟨t,e⟩:=(show ∃ t,u=Value.str x t from r);subst e;exact g9 P w x t
theorem nG {P:Program} {w:World}:∀ {ks:List Key} {us:List Value},a_ (ks.map kV) us->ItemsAre (cj P w) ks us
 | [],_,r=>by rw [List.map_nil] at r;cases r;exact .nil
 | k::ks,_,r=>by
  rw [List.map_cons] at r
  cases r with
  | cons h t=>exact .cons (gG h) (nG t)
abbrev KT (H:Hp):List (List Key×V)->List (List Key×Addr×Value)->Prop:=Paired fun p q=>p.1=q.1/\bj H q.2.1 (p.1.map kV)/\RelV p.2 q.2.2
theorem KT.val {kvs:List (List Key×V)} (r:KT H kvs xs) (k:List Key):jh (bx kvs k) ((atKey xs k).map (·.2)):=by
 induction r with
 | nil=>exact True.intro
 | @cons p q ps qs h t ih=>
  obtain ⟨h1,_,h2⟩:=h
  by_cases e:p.1=k
  ·have e':q.1=k:=h1.symm.trans e
   have b:atKey (q::qs) k=some q.2:=by simp [atKey,List.find?_cons,e']
   rw [bO e,b];exact h2
  ·have e':¬q.1=k:=fun z=>e (h1.trans z)
   have b:atKey (q::qs) k=atKey qs k:=by simp [atKey,List.find?_cons,e']
   rw [bP e,b];exact ih
theorem KT.repl {kvs:List (List Key×V)} (r:KT H kvs xs) (k:List Key) {y:V} (ry:RelV y u):
  KT H (kvs.map fun kv=>if kv.1=k then (kv.1,y) else kv) (xs.map (putAt k u)):=by
 induction r with
 | nil=>exact .nil
 | @cons p q ps qs h t ih=>
  rw [List.map_cons,List.map_cons]
  refine .cons ?_ ih
  obtain ⟨h1,h2,h3⟩:=h
  unfold putAt
  by_cases e:p.1=k
  ·rw [if_pos e,if_pos (h1.symm.trans e)];exact ⟨h1,h2,ry⟩
  ·rw [if_neg e,if_neg (fun z=>e (h1.trans z))];exact ⟨h1,h2,h3⟩
theorem KT.put {kvs:List (List Key×V)} (r:KT H kvs xs) (k:List Key) {y:V} (hb:bj H b (k.map kV)) (ry:RelV y u):
  KT H (putK kvs k y) (storedH xs k b u):=by
 have e:(kvs.any fun kv=>decide (kv.1=k))=(atKey xs k).isSome:=by
  rw [d8,(r.val k).Bl,Option.isSome_map]
 unfold putK storedH
 rw [e]
 by_cases q:(atKey xs k).isSome=true
 ·rw [if_pos q,if_pos q];exact r.repl k ry
 ·rw [if_neg q,if_neg q];exact Paired.snoc r ⟨rfl,hb,ry⟩
theorem KT.keeps {kvs:List (List Key×V)} (r:KT H kvs xs) (ht:∀ b ys,bj H b ys->bj H' b ys):KT H' kvs xs:=
 Paired.FQ r fun _ _ z=>⟨z.1,ht _ _ z.2.1,z.2.2⟩
theorem JW {u:HO} (ok:b_ P w H h) (e:Rd H a u):bf P w H h a u:=e.ok ok
theorem jN {kvs:List (Key×V)} (ok:b_ P w H h) (e:Rd H a (.dK kvs)):kvs.length<=sizeLine/\(a==sysModules)=false/\∃ vs,KV kvs vs/\h.DictOf (cj P w) a vs:=
 show bf P w H h a (.dK kvs) from JW ok e
theorem uK {kvs:List (Key×V)} (ok:b_ P w H h) (e:H a=some (.dK kvs)):kvs.length<=sizeLine/\(a==sysModules)=false/\∃ vs,KV kvs vs/\h.DictOf (cj P w) a vs:=jN ok (.inl e)
theorem i8 {ks:List Key} (ok:b_ P w H h) (e:bj H a (ks.map kV)):(tupleKind (cj P w)).is h ks a:=by
 have qq:bf P w H h a (.tup (ks.map kV)):=by
  rcases e with e | ⟨_,e⟩
  ·exact ok a _ e
  ·exact (ok a _ e).2
 obtain ⟨_,its,r,o,h1,h2,n,h3⟩:=qq
 exact ⟨o,its.toArray,n,h1,h2,h3,by simpa using nG r⟩
theorem lM {kvs:List (List Key×V)} (ok:b_ P w H h) (e:Rd H a (.dT kvs)):kvs.length<=sizeLine/\(a==sysModules)=false/\
  ∃ xs,KT H kvs xs/\h.DictOfH (tupleKind (cj P w)) a xs:=by
 obtain ⟨z,y,xs,r,o,es,ep,h1,h2,h3,h4,h5⟩:=(show bf P w H h a (.dT kvs) from JW ok e)
 refine ⟨z,y,xs,r,o,es,ep,h1,h2,h3,h4,fun x hx=>?_,h5⟩
 have all:∀ {l:List (List Key×V)} {m:List (List Key×Addr×Value)},KT H l m->∀ x∈m,(tupleKind (cj P w)).is h x.1 x.2.1:=by
  intro l m q
  induction q with
  | nil=>intro x hx;exact nomatch hx
  | @cons p q ps qs hq t ih=>
   intro x hx
   rcases Qp.mp hx with e | hx
   ·subst e
    exact i8 ok (by rw [<- hq.1];exact hq.2.1)
   ·exact ih x hx
 exact all r x hx
theorem JX {kvs:List (List Key×V)} (ok:b_ P w H h) (e:H a=some (.dT kvs)):kvs.length<=sizeLine/\(a==sysModules)=false/\
  ∃ xs,KT H kvs xs/\h.DictOfH (tupleKind (cj P w)) a xs:=lM ok (.inl e)
def dh (H:Hp) (a:Addr) (y:V) (r:Option V):Prop:=
 (∃ kvs k,Rd H a (.dK kvs)/\y=kV k/\r=bx kvs k)\/∃ kvs k b,Rd H a (.dT kvs)/\y=.ref b/\bj H b (k.map kV)/\r=bx kvs k
def Bm (H:Hp) (a:Addr) (y v:V) (H':Hp):Prop:=
 (∃ kvs k,H a=some (.dK kvs)/\y=kV k/\kvs.length < sizeLine/\H'=upd H a (.dK (putK kvs k v)))\/
 ∃ kvs k b,H a=some (.dT kvs)/\y=.ref b/\bj H b (k.map kV)/\kvs.length < sizeLine/\H'=upd H a (.dT (putK kvs k v))
theorem dh.k {H:Hp} {a:Addr} {kvs:List (Key×V)} {k:Key} (e:H a=some (.dK kvs)):dh H a (kV k) (bx kvs k):=.inl ⟨kvs,k,.inl e,rfl,rfl⟩
theorem Bm.k {H:Hp} {a:Addr} {kvs:List (Key×V)} {k:Key} {v:V} (e:H a=some (.dK kvs)) (hl:kvs.length < sizeLine):Bm H a (kV k) v (upd H a (.dK (putK kvs k v))):=.inl ⟨kvs,k,e,rfl,hl,rfl⟩
section
variable {y v:V} {r:Value} {o:Option V}
theorem Inv.big (I:Inv X pins σ H s):sysModules < s.heap.objs.size:=by
 have h:mainGlobals < s.heap.objs.size:=(I.mod.glob.keeps I.bk).lt
 exact Nat.lt_trans (by decide) h
theorem w5 (hu:A.units+1 < cLine) (I:Inv X pins σ H s) (g:dh H a y (some v)) (ry:RelV y u) (h:∀ w' s',Inv X pins σ H s'->RelV v w'->Q w' s'):
  wpAny (model X.prog X.w) A (getItem (.ref a) u) Q E s:=by
 rcases g with ⟨kvs,k,e,ey,l⟩ | ⟨kvs,k,b,e,ey,eb,l⟩
 ·subst ey
  obtain ⟨z,hd,vs,rel,dd⟩:=jN I.hok e
  obtain ⟨w',hw,lu⟩:=jh.some_of (v:=v) (o:=valueAt vs k) (by rw [l];exact rel.val k)
  exact wpAny_getItem_of (gG ry) dd.mapOf hw (h w' _ (I.tok _) lu)
 ·subst ey
  cases (show u=Value.ref b from ry)
  obtain ⟨z,hd,xs,rel,dd⟩:=lM I.hok e
  obtain ⟨w',hw,lu⟩:=jh.some_of (v:=v) (o:=(atKey xs k).map (·.2)) (by rw [l];exact rel.val k)
  obtain ⟨p,hp,Py⟩:=Option.map_eq_some_iff.mp hw
  refine wpAny_getItem_heap (tupleKind_room_in1 hu) (i8 I.hok eb) dd hp ?_
  rw [Py]
  exact h w' _ (I.tok _) lu
theorem Pz (hu:A.units+1 < cLine) (I:Inv X pins σ H s) (g:dh H a y o) (ry:RelV y u) (h:∀ s',Inv X pins σ H s'->Q (.bool o.isSome) s'):
  wpAny (model X.prog X.w) A (compareOp .In u (.ref a)) Q E s:=by
 rcases g with ⟨kvs,k,e,ey,l⟩ | ⟨kvs,k,b,e,ey,eb,l⟩
 ·subst ey
  obtain ⟨z,hd,vs,rel,dd⟩:=jN I.hok e
  refine wpAny_in_of (gG ry) hd dd.mapOf ?_
  rw [<- (rel.val k).Bl,<- l]
  exact h _ (I.tok _)
 ·subst ey
  cases (show u=Value.ref b from ry)
  obtain ⟨z,hd,xs,rel,dd⟩:=lM I.hok e
  refine wpAny_in_heap (tupleKind_room_in1 hu) (i8 I.hok eb) hd dd ?_
  have q:=(rel.val k).Bl
  rw [Option.isSome_map] at q
  rw [<- q,<- l]
  exact h _ (I.tok _)
theorem PB (hu:A.units+1 < cLine) (I:Inv X pins σ H s) (g:dh H a y o) (ry:RelV y u) (h:∀ s',Inv X pins σ H s'->Q (.bool (!o.isSome)) s'):
  wpAny (model X.prog X.w) A (compareOp .NotIn u (.ref a)) Q E s:=by
 rcases g with ⟨kvs,k,e,ey,l⟩ | ⟨kvs,k,b,e,ey,eb,l⟩
 ·subst ey
  obtain ⟨z,hd,vs,rel,dd⟩:=jN I.hok e
  refine wpAny_notIn_of (gG ry) hd dd.mapOf ?_
  rw [<- (rel.val k).Bl,<- l]
  exact h _ (I.tok _)
 ·subst ey
  cases (show u=Value.ref b from ry)
  obtain ⟨z,hd,xs,rel,dd⟩:=lM I.hok e
  refine wpAny_notIn_heap (tupleKind_room_in1 hu) (i8 I.hok eb) hd dd ?_
  have q:=(rel.val k).Bl
  rw [Option.isSome_map] at q
  rw [<- q,<- l]
  exact h _ (I.tok _)
theorem gT {ob:HO} (I:Inv X pins σ H s) (mu:A9 (H a)) (hs:Heap.SameBut a s.heap h') (he:∃ q,h'.get? a=some q) (new:bf X.prog X.w (upd H a ob) h' a ob):
  Inv X pins σ (upd H a ob) {s with heap:=h',toks:=t'}:=
 I.write (x:=a) (e:=a) mu (.inl rfl) (fun b q hb z=>(hs.2 b hb).trans z) he new
theorem oQ {kvs:List (Key×V)} (z:kvs.length<=sizeLine) (hd:(a==sysModules)=false) (rel:KV kvs vs) (dd:h'.DictOf (cj P w) a vs):
  bf P w H' h' a (.dK kvs):=⟨z,hd,vs,rel,dd⟩
theorem wA {Q:Unit->Shared->Prop} (hu:A.units+1 < cLine) (I:Inv X pins σ H s) (g:Bm H a y v H') (ry:RelV y u) (rv:RelV v r) (h:∀ s',Inv X pins σ H' s'->Q () s'):
  wpAny (model X.prog X.w) A (setItem (.ref a) u r) Q E s:=by
 rcases g with ⟨kvs,k,e,ey,l,eH⟩ | ⟨kvs,k,b,e,ey,eb,l,eH⟩
 ·subst ey eH
  obtain ⟨z,hd,vs,rel,dd⟩:=uK I.hok e
  have hz:vs.length<=sizeLine:=by rw [<- rel.length];exact z
  have hl:(putK kvs k v).length<=sizeLine:=by have:=bY kvs k v;omega
  refine wpAny_setItem_pairs (hsz:=hz) (gG ry) dd fun h' jq hs=>h _ ?_
  have he:∃ q,h'.get? a=some q:=let ⟨q,_,_,hq,_⟩:=jq;⟨q,hq⟩
  exact gT I (by rw [e];exact True.intro) hs he (oQ hl hd (rel.put k rv) jq)
 ·subst ey eH
  cases (show u=Value.ref b from ry)
  obtain ⟨z,hd,xs,rel,dd⟩:=JX I.hok e
  have hz:xs.length<=sizeLine:=by rw [<- Paired.length rel];exact z
  have hl:(putK kvs k v).length<=sizeLine:=by have:=bY kvs k v;omega
  refine wpAny_setItem_heap (hsz:=hz) (tupleKind_room_in1 hu) (i8 I.hok eb) dd fun h' jq hs=>h _ ?_
  obtain ⟨q,es,ep,hq,h2,h3,h4,_,h5⟩:=jq
  refine gT I (by rw [e];exact True.intro) hs ⟨q,hq⟩ ⟨hl,hd,_,(rel.put k eb rv).keeps fun c ys ec=>?_,q,es,ep,hq,h2,h3,h4,h5⟩
  refine ec.upd fun u hu z=>?_
  subst z
  rcases ec with ec | ⟨_,ec⟩<;>(rw [e] at ec;cases ec)
end
section
variable {kvs:List (Key×V)} {k:Key}
theorem PF (I:Inv X pins σ H s) (e:Rd H a (.dK kvs)) (h:∀ t s',Inv X pins σ H s'->Q (.int kvs.length t) s'):wpAny (model X.prog X.w) A (call (.builtin "len") [.ref a]) Q E s:=by
 obtain ⟨z,hd,vs,rel,dd⟩:=jN I.hok e
 refine call_len_dict hd dd (by rw [<- rel.length];rw [QL] at z;omega) ?_
 rw [<- rel.length]
 exact h _ _ (I.tok _)
end
def Ei (i:Expr):Prop:=∀ ov iv,subscripted i false ov iv=operate [ov,iv] (getItem ov iv)
theorem uO {value slice:Expr} {pos:Pos} {id:String}
  (hl:typeLookup (.type T) "__getitem__"=pure (some (.builtin id))) (hs:Ei slice)
  (h:wpAny (model prog w) A (eval value env) (fun o s₁=>wpAny (model prog w) A (eval slice env) (fun i s₂=>s₂.TypeIs o T/\wpAny (model prog w) A (getItem o i) Q E s₂) E s₁) E s):
  wpAny (model prog w) A (eval (.Subscript value slice pos) env) Q E s:=by
 refine Subscript_ (wpAny_mono h (fun o s₁ h₁=>wpAny_mono h₁ (fun i s₂ h₂=>?_) fun _ _ x=>x) fun _ _ x=>x)
 obtain ⟨hT,h₂⟩:=h₂
 unfold subscriptTail
 refine QS ?_
 rw [getitemInPython_of_ne hT.not_modules]
 refine QS (wpAny_specialOf hT hl ?_)
 have fin:wpAny (model prog w) A (subscripted slice false o i) (fun r s₃=>wpAny (model prog w) A (letTemporaryGo value o r >>=fun _=>pure r) Q E s₃) E s₂:=by
  rw [hs o i]
  exact wpAny_operating (wpAny_mono h₂ (fun r s₃ h₃=>QS (wpAny_letTemporaryGo (QT h₃))) fun _ _ x=>x)
 first
  | exact QT (QS fin)
  | exact QS (QT (QS fin))
  | exact QS fin
theorem qK {y:V} {o:Option V} (I:Inv X pins σ H s) (g:dh H a y o):s.TypeIs (.ref a) "dict":=by
 rcases g with ⟨kvs,k,e,_,_⟩ | ⟨kvs,k,b,e,_,_,_⟩
 ·obtain ⟨_,_,vs,_,dd⟩:=jN I.hok e
  exact dd.typeIs
 ·obtain ⟨_,_,xs,_,dd⟩:=lM I.hok e
  exact dd.typeIs
def JY (td ty:TE):TE:=fun σ H Q=>td σ H fun x H1=>ty σ H1 fun y H2=>∃ a v,x=.ref a/\dh H2 a y (some v)/\Q v H2
def JZ (td ty tv:TE):TS:=fun D σ H=>tv σ H fun v H1=>td σ H1 fun x H2=>ty σ H2 fun y H3=>∃ a H4,x=.ref a/\Bm H3 a y v H4/\D.nx σ H4
section
variable {o i value:Expr} {pos pos' yw:Pos} {td ty tv:TE}
theorem PJ (hu:X.A.units+1 < cLine) (ho:PE X o td) (hi:PE X i ty) (hs:Ei i):PE X (.Subscript o i pos) (JY td ty):=by
 intro pins s σ H Q I h
 refine uO PySem.F.slot_dict_getitem.lookup hs (aj (ho pins s σ H _ I h) fun u s1 ⟨x,H1,I1,rx,q1⟩=>aj (hi pins s1 σ H1 _ I1 q1) fun iv s2 ⟨y,H2,I2,ry,a,v,ex,g,q2⟩=>?_)
 subst ex
 obtain rfl:u=Value.ref a:=rx
 exact ⟨qK I2 g,w5 hu I2 g ry fun w' s3 I3 lu=>⟨v,H2,I3,lu,q2⟩⟩
theorem PK (hu:X.A.units+1 < cLine) (ho:PE X o td) (hi:PE X i ty) (hv:PE X value tv) (hs:swapsWith value (some (.Subscript o i pos')) pos.line X.env=pure false):
  PS X (.Assign [.Subscript o i pos'] value pos) (JZ td ty tv):=by
 intro pins s σ H D I h
 refine wpAny_Assign_Subscript (aj (hv pins s σ H _ I h) fun r s1 ⟨v,H1,I1,rv,q1⟩=>aj (ho pins s1 σ H1 _ I1 q1) fun u s2 ⟨x,H2,I2,rx,q2⟩=>aj (hi pins s2 σ H2 _ I2 q2) fun iv s3 ⟨y,H3,I3,ry,a,H4,ex,g,q3⟩=>?_) hs
 subst ex
 obtain rfl:u=Value.ref a:=rx
 exact wA hu I3 g ry rv fun s4 I4=>⟨σ,H4,I4,q3⟩
end
theorem qX (h:Heap) (hb:sysModules < h.objs.size):bf P w H (h.push {cls:=.type "dict",data:=.dict #[]}) h.objs.size (.dK []):=
 ⟨Nat.zero_le _,beq_eq_false_iff_ne.mpr (Ne.symm (Nat.ne_of_lt hb)),[],.nil,Heap.DictOf.new h⟩
def J0:TE:=fun _ H Q=>∀ p,H p=none->Q (.ref p) (upd H p (.dK []))
section
variable {pos:Pos}
theorem xC:PE X (.Dict [] [] pos) J0:=fun pins s σ H Q I h=>
 wpAny_Dict_empty ⟨.ref s.heap.objs.size,_,I.laid (a:=s.heap.objs.size) (o:=.dK []) (t':=s.toks) (fun _ _ q=>Qc _ q) (Qy _) (qX s.heap I.big),rfl,h _ (I.hok.fresh (Qy _))⟩
end
def F8:List (TE×TE)->St->Hp->(List (V×V)->Hp->Prop)->Prop
 | [],_,H,Q=>Q [] H
 | (tk,tv)::r,σ,H,Q=>tk σ H fun x H1=>tv σ H1 fun y H2=>F8 r σ H2 fun ps H3=>Q ((x,y)::ps) H3
abbrev VV:List (V×V)->List (Value×Value)->Prop:=Paired fun p q=>RelV p.1 q.1/\RelV p.2 q.2
def Cq (X:Cx) (pos:Pos) (keys:List (Option Expr)) (values:List Expr) (nc:List (TE×TE)):Prop:=
 ∀ (pins:List (Addr×Obj)) (s:Shared) (σ:St) (H:Hp) (Q:List (V×V)->Hp->Prop),Inv X pins σ H s->F8 nc σ H Q->
  wpAny (model X.prog X.w) X.A (evalPairs (pairTrees keys values X.env pos)) (fun vs s'=>∃ ps H',Inv X pins σ H' s'/\VV ps vs/\Q ps H') X.xe s
theorem zU {pos:Pos}:Cq X pos [] [] []:=fun pins s σ H Q I h=>pairTrees_nil_walk ⟨[],H,I,.nil,h⟩
theorem zB {pos:Pos} {k v:Expr} {ks:List (Option Expr)} {vs:List Expr} {tk tv:TE} (hk:PE X k tk) (hv:PE X v tv) (hr:Cq X pos ks vs nc):
  Cq X pos (some k::ks) (v::vs) ((tk,tv)::nc):=fun pins s σ H Q I h=>
 pairTrees_cons_walk (aj (hk pins s σ H _ I h) fun u s1 ⟨x,H1,I1,rx,q1⟩=>aj (hv pins s1 σ H1 _ I1 q1) fun w2 s2 ⟨y,H2,I2,ry,q2⟩=>
  aj (hr pins s2 σ H2 _ I2 q2) fun ws s3 ⟨ps,H3,I3,rel,q3⟩=>⟨(x,y)::ps,H3,I3,.cons ⟨rx,ry⟩ rel,q3⟩)
def qf (kvs more:List (Key×V)):List (Key×V):=more.foldl (fun acc kv=>putK acc kv.1 kv.2) kvs
theorem KV.merge:∀ {more:List (Key×V)} {rs:List (Key×Value)} {kvs:List (Key×V)} {vs:List (Key×Value)},KV more rs->KV kvs vs->KV (qf kvs more) (merged vs rs):=by
 intro more rs kvs vs r
 unfold KV at r
 induction r generalizing kvs vs with
 | nil=>intro q;exact q
 | @cons p q ps qs h t ih=>
  intro r0
  have e:KV (putK kvs p.1 p.2) (stored vs q.1 q.2):=by
   have:=r0.put p.1 h.2
   rw [<- h.1];exact this
  exact ih e
theorem gZ:∀ (more kvs:List (Key×V)),(qf kvs more).length<=kvs.length+more.length
 | [],kvs=>by show kvs.length<=kvs.length+0;omega
 | p::r,kvs=>by
  have h1:=gZ r (putK kvs p.1 p.2)
  have h2:=bY kvs p.1 p.2
  show (qf (putK kvs p.1 p.2) r).length<=_
  rw [List.length_cons];omega
theorem lB {P:Program} {w:World}:∀ {kvs:List (Key×V)} {ws:List (Value×Value)},VV (kvs.map fun kv=>(kV kv.1,kv.2)) ws->∃ rs,Carries (cj P w) ws rs/\KV kvs rs
 | [],_,r=>by rw [List.map_nil] at r;cases r;exact ⟨[],True.intro,.nil⟩
 | p::kvs,_,r=>by
  rw [List.map_cons] at r
  cases r with
  | @cons a b as bs h t=>
   obtain ⟨rs,c,q⟩:=lB (P:=P) (w:=w) t
   obtain ⟨b1,b2⟩:=b
   exact ⟨(p.1,b2)::rs,⟨gG h.1,rfl,c⟩,.cons ⟨rfl,h.2⟩ q⟩
def J1 (nc:List (TE×TE)):TE:=fun σ H Q=>∀ p,H p=none->F8 nc σ (upd H p (.dK [])) fun ps H2=>H2 p=some (.dK [])/\∃ kvs:List (Key×V),ps=kvs.map (fun kv=>(kV kv.1,kv.2))/\kvs.length<=15/\Q (.ref p) (upd H2 p (.dK (qf [] kvs)))
theorem PL {pos:Pos} {keys:List (Option Expr)} {values:List Expr} (h:Cq X pos keys values nc) (jr:keys.all (·.isSome)=true) (hl:keys.length=values.length) (h0:keys≠[])
  (F9:keys.length<=15):PE X (.Dict keys values pos) (J1 nc):=by
 intro pins s σ H Q I q
 have hn:=I.hok.fresh (Qy s.heap.objs.size)
 have I1:=I.laid (a:=s.heap.objs.size) (o:=.dK []) (h':=s.heap.push {cls:=.type "dict",data:=.dict #[]}) (t':=s.toks) (fun _ _ q=>Qc _ q) (Qy _) (qX s.heap I.big)
 refine wpAny_Dict_walk (knd:=cj X.prog X.w) jr hl h0 F9 (aj (h pins _ σ _ _ I1 (q _ hn)) ?_)
 rintro ws s2 ⟨ps,H2,I2,rel,e,kvs,ep,lk,q2⟩
 subst ep
 obtain ⟨rs,c,rk⟩:=lB (P:=X.prog) (w:=X.w) rel
 obtain ⟨z,hd,XW,r0,dd⟩:=uK I2.hok e
 cases r0
 refine ⟨rs,c,dd,fun h' jq hs=>⟨.ref s.heap.objs.size,_,?_,rfl,q2⟩⟩
 have hz:(qf [] kvs).length<=sizeLine:=by
  have h1:=gZ kvs []
  rw [List.length_nil] at h1
  rw [QL];omega
 have he:∃ q,h'.get? s.heap.objs.size=some q:=let ⟨q,_,_,hq,_⟩:=jq;⟨q,hq⟩
 exact gT I2 (by rw [e];exact True.intro) hs he (oQ hz hd (rk.merge .nil) jq)
structure M2 (X:Cx) (o:Expr) (m:Str) (apos:Pos) (e f:Expr) (cpos:Pos):Prop where
 base:attributeBase o m X.env (eval o X.env)=eval o X.env
 few:((backTo cpos (starEach [e,f] X.env)).all (fun x=> !x.1)&&(backToKw cpos (keywordEach [] X.env)).all (fun x=>x.1.isSome)
  &&decide (([e,f]:List Expr).length+([]:List Keyword).length+(if ([]:List Keyword).isEmpty then 0 else 1) < 30))=true
 line:(apos.endLine==cpos.line)=true
 trees:backTo cpos (starEach [e,f] X.env)=[(false,eval e X.env),(false,eval f X.env)]
def J2 (H:Hp) (a:Addr):Prop:=(∃ kvs,Rd H a (.dK kvs))\/∃ kvs,Rd H a (.dT kvs)
theorem PM (I:Inv X pins σ H s) (d:J2 H a):
  s.TypeIs (.ref a) "dict"/\(∀ b,Value.ref a=.ref b->∃ ob,s.heap.get? b=some ob/\ob.dict=none)/\(a==sysModules)=false:=by
 rcases d with ⟨kvs,e⟩ | ⟨kvs,e⟩
 ·obtain ⟨_,hd,vs,_,dd⟩:=jN I.hok e
  refine ⟨dd.typeIs,fun b q=>?_,hd⟩
  cases q
  obtain ⟨ob,_,_,h1,h2,_⟩:=dd
  exact ⟨ob,h1,h2.2.1⟩
 ·obtain ⟨_,hd,xs,_,dd⟩:=lM I.hok e
  refine ⟨dd.typeIs,fun b q=>?_,hd⟩
  cases q
  obtain ⟨ob,_,_,h1,h2,_⟩:=dd
  exact ⟨ob,h1,h2.2.1⟩
section
variable {y d:V} {r:Value} {o:Option V}
theorem PN (hu:A.units+1 < cLine) (I:Inv X pins σ H s) (g:dh H a y o) (ry:RelV y u) (rd:RelV d r) (h:∀ w' s',Inv X pins σ H s'->RelV (o.getD d) w'->Q w' s'):
  wpAny (model X.prog X.w) A (call (.builtin "dict.get") [.ref a,u,r]) Q E s:=by
 rcases g with ⟨kvs,k,e,ey,l⟩ | ⟨kvs,k,b,e,ey,eb,l⟩
 ·subst ey
  obtain ⟨z,hd,vs,rel,dd⟩:=jN I.hok e
  refine call_meetsIn PySem.F.slot_dict_get dd.typeIs PySem.F.entry_dict_get (PySem.F.args_dict_get_3 _ _ _) (meets_dict_get_default (cj X.prog X.w) a (gG ry) hd r) ⟨_,dd.mapOf,h _ _ (I.tok _) ?_⟩
  rw [l]
  exact (rel.val k).getD rd
 ·subst ey
  cases (show u=Value.ref b from ry)
  obtain ⟨z,hd,xs,rel,dd⟩:=lM I.hok e
  refine call_meetsIn PySem.F.slot_dict_get dd.typeIs PySem.F.entry_dict_get (PySem.F.args_dict_get_3 _ _ _) (meetsH_dict_get_default (tupleKind (cj X.prog X.w)) a b hd r) ⟨tupleKind_room_in1 hu,k,xs,i8 I.hok eb,dd,h _ _ (I.tok _) ?_⟩
  rw [l]
  exact (rel.val k).getD rd
end
def J3 (td ty tx:TE):TE:=fun σ H Q=>td σ H fun x H1=>∃ a,x=.ref a/\J2 H1 a/\ty σ H1 fun y H2=>tx σ H2 fun z H3=>∃ o,dh H3 a y o/\Q (o.getD z) H3
section
variable {o f:Expr} {td ty tx:TE}
theorem xI (hu:X.A.units+1 < cLine) (ho:PE X o td) (he:PE X e ty) (hf:PE X f tx) (m:M2 X o "get" apos e f cpos):PE X (.Call (.Attribute o "get" apos) [e,f] [] cpos) (J3 td ty tx):=by
 intro pins s σ H Q I h
 refine wpAny_Call_method m.base m.few m.line PySem.F.plainAttrs_dict PySem.F.slot_dict_get PySem.F.type_dict_get (aj (ho pins s σ H _ I h) ?_)
 rintro u s1 ⟨x,H1,I1,rx,a,ex,d,q1⟩
 subst ex
 obtain rfl:u=Value.ref a:=rx
 obtain ⟨t1,t2,_⟩:=PM I1 d
 refine ⟨t1,t2,?_⟩
 rw [m.trees]
 refine Calls.callWith_builtin rfl (Calls.evalArgs_plain (Calls.spliced_cons (aj (he pins s1 σ H1 _ I1 q1) fun iv s2 ⟨y,H2,I2,ry,q2⟩=>
  Calls.spliced_cons (aj (hf pins s2 σ H2 _ I2 q2) fun fv s3 ⟨z,H3,I3,rz,ov,g,q3⟩=>Calls.spliced_nil ?_))))
 exact PN hu I3 g ry rz fun w' s4 I4 lu=>⟨_,H3,I4,lu,q3⟩
end
section
variable {kvs:List (Key×V)}
end
section
variable {y:V}
end
end L2
namespace J5
open PySem PySem.W PySem.Calls PyProof.Rows
theorem jZ {P:Params}:∀ (ns:List Int) (vs:List Value),WellAll P h vs (ns.map WData.int)->IntsAre vs ns:=by
 intro ns
 induction ns with
 | nil=>
  intro vs w
  rw [List.map_nil] at w
  cases w
  exact .nil
 | cons n ns ih=>
  intro vs w
  rw [List.map_cons] at w
  cases w with
  | cons a b=>
   cases a
   exact .cons _ _ (ih _ b)
theorem uX {l:OpenLaw} (hn:l.most=some n) {P:Params} {args:List WData} {vals:List Value}
  (y_:l.row.toRowW.claim.pre args=true) (F_:WellAll P h vals args):
  ∃ a vs ns,vals=[Value.ref a]/\args=[WData.list (ns.map WData.int)]/\h.get? a=some {cls:=.type "list",data:=.seq vs.toArray}/\IntsAre vs ns/\ns.length<=n:=by
 have PP:WShape.hasAll [] args [.list .int]=true:=(pre_splitW y_).1
 have hc:l.pre.holds [] {args:=args}=true:=(pre_splitW y_).2
 obtain ⟨d,r,rfl,h1,h2⟩:=hasAllW_cons PP
 obtain rfl:=hasAllW_nil h2
 obtain ⟨xs,rfl,h3⟩:=hasW_list h1
 obtain ⟨ns,rfl⟩:=items_int h3
 have fq:ns.length<=n:=by
  unfold OpenLaw.pre at hc
  have h4:(WTm.not (.lt (.lit (.int (n:Int))) (.len (.arg 0)))).holds [] {args:=[.list (ns.map .int)]}=true:=by
   have h4:=(holds_andW hc).1
   rw [hn] at h4
   exact h4
  have h5:=condW_of h4 (w_not (w_lt w_lit (w_len_list (w_arg rfl))))
  rw [Ql] at h5
  refine Nat.le_of_not_lt fun q=>?_
  have q':(n:Int) < ((ns.length:Nat):Int):=by omega
  first
   | (rw [Qv q'] at h5;exact absurd h5 (by decide))
   | (simp at h5;omega)
 cases F_ with
 | cons w1 w2=>
  cases w2
  cases w1 with
  | list ho jr=>exact ⟨_,_,ns,rfl,rfl,ho,jZ ns _ jr,fq⟩
theorem vD (l:OpenLaw) (args:List WData):l.row.toRowW.claim.post args (.bool true) args=true:=
 postW_of (r:=l.row.toRowW) (X:=(true==true))
  (show WShape.has [] (.bool true) .bool=true by first | rfl | decide | simp [WShape.has,WShape.arms,WShape.armsAll])
  (show (WTm.eq .res (.lit (.bool true))).value [] {args:=args,res:=some (.bool true),after:=args}=some (.bool (true==true)) from w_eq_bool (w_res rfl) w_lit) rfl
theorem pR {l:OpenLaw} {q:Program} {loose:List Str} {YP:World->Heap->Prop} {d:DefRec}
  (hn:l.most=some n) (Ga:d.params.defaults=[])
  (call:∀ (w:World) (s₀ s₁:Shared) (mg mb:Str->Option Value) (fa:Addr) (o:Obj) (pm cd doc:Value) (a:Addr) (vs:List Value) (ns:List Int),
   Ground q loose [] XP w s₀ mg mb s₁.heap->YP w s₁.heap->
   s₁.heap.get? fa=some o->o.data=.func (docDef d.name d.params d.body d.scope pm cd doc)->s₁.heap.CodeRec cd d.name->mg d.name=some (.ref fa)->
   s₁.heap.get? a=some {cls:=.type "list",data:=.seq vs.toArray}->IntsAre vs ns->ns.length<=n->s₁.gens=#[]->
   codeAny (model l.prog w) callerA (.call (.ref fa) ⟨[.ref a],[]⟩) (fun r s'=>r=.ok (.ret (.bool true))/\OldK s₁.heap s'.heap/\s'.os=s₁.os/\AllBare s'.gens) s₁):
  WalkO q loose XP YP l.row.toRowW d [] (fun f vs=>PySem.call f vs):=by
 intro w s₀ s₁ mg mb G Y fa o pm cd doc dV kV ho hd jp hD Bo hg args vals as y_ XX Gb F_ XY
 obtain rfl:dV=.none:=Dflts.none hD Ga
 obtain rfl:kV=.none:=Dflts.noKw hD
 obtain ⟨a,vs,ns,rfl,rfl,Gc,Gd,fq⟩:=uX hn y_ F_
 refine enter_call (codeAny_mono (call w s₀ s₁ mg mb fa o pm cd doc a vs ns G Y ho (fd_plain hd) jp Bo Gc Gd fq hg) fun r s' hq=>?_)
 obtain ⟨rfl,h2,h3,h4⟩:=hq
 exact ⟨.inl ⟨.bool true,.bool true,[],rfl,fun _=>rfl,.bool true,vD l _,fun _=>⟨List.Pairwise.nil,fun _ hm=>(nomatch hm)⟩⟩,h2,h3,h4⟩
section
variable {K:Frag}
end
end J5
namespace L2
open PySem PySem.Spec PyProof.Rows
theorem nI:∀ {vs:List Value} {ns:List Int},IntsAre vs ns->a_ (ns.map V.int) vs
 | _,_,.nil=>.nil
 | _,_,.cons n t h=>.cons ⟨t,rfl⟩ (nI h)
def inClass (s:Stmt) (j:Nat):Stmt:=match s with
 | .ClassDef _ _ _ body _ _ _ _ _ _ _=>body.getD j (.Pass ⟨0,0,0,0⟩)
 | _=>.Pass ⟨0,0,0,0⟩
def lz (s:Stmt):Arguments:=match s with
 | .FunctionDef _ a _ _ _ _ _ _ _ _=>a
 | _=>{posonlyargs:=[],args:=[],vararg:=none,kwonlyargs:=[],kw_defaults:=[],kwarg:=none,defaults:=[]}
def ig (s:Stmt):List Stmt:=match s with
 | .FunctionDef _ _ b _ _ _ _ _ _ _=>b
 | _=>[]
def az (s:Stmt):Scope:=match s with
 | .FunctionDef _ _ _ _ _ _ sc _ _ _=>sc
 | _=>{kind:=.function,names:=[],isGenerator:=false,isCoroutine:=false}
abbrev q_:qz:=fun _ _ _ _ _ _=>False
abbrev E0:XK:=fun _ _ _=>False
theorem J6:Ci q_ X E0:=fun _ _ _ _ _ _ _ h=>h.elim
structure xx (K:QZ) (x qual:Str) (st:Stmt) (f:Addr) (fd:FuncData):Prop where
 ex:∃ (oc:Value) (od:Option Addr) (kV doc pm:Value) (an:Option Addr) (av ct:Value) (ia:Array (Option Value)),
  fd=PySem.W.fnOf x qual (lz st) (ig st) (az st) .none kV doc pm an av ct/\K.lookup f=some ⟨oc,od,.func fd,ia⟩/\PySem.W.codeIn K av qual=true
 kp:PySem.W.keepIn K (.ref f)=true
section
variable {K:QZ}
theorem xx.ok {st:Stmt} {k:Nat} {sp:Sp} (F:xx K x qual st f fd) (S:dc N ps (az st)) (len:∀ vs H Q E,sp vs H Q E->vs.length=ps.length)
  (qb:∀ (av:Value) (A:Around) (outer:List Env) (s:Shared) (H:Hp) (vs:List V) (Q:VK) (E:XK),c_ k (A.deeper (envOfC qual (az st) s.heap.objs.size f av))->sp vs H Q E->
   ∃ t,jz (jd q_ P w K mg base N qual (az st) f av A outer s H E).qx (ig st) t/\t {nx:=fun _ H'=>Q .ao H',rt:=Q} (start N vs) H):kg P w K mg base q_ (k+1) f fd ps sp:=by
 obtain ⟨oc,od,kV,doc,pm,an,av,ct,ia,rfl,lk,jp⟩:=F.ex
 refine JP lk jp S len fun A outer s H vs Q E hr wo=>?_
 obtain ⟨t,h,q⟩:=qb av A outer s H vs Q E hr wo
 exact ⟨t,h.qx,q⟩
theorem xx.binds {st:Stmt} (F:xx K x qual st f fd)
  (h:∀ (kV doc pm:Value) (an:Option Addr) (av ct:Value) (us:List Value),us.length=ps.length->bindArgs (PySem.W.fnOf x qual (lz st) (ig st) (az st) .none kV doc pm an av ct) ⟨us,[]⟩=pure (ps.zip us)):Binds K fd ps []:=by
 obtain ⟨oc,od,kV,doc,pm,an,av,ct,ia,rfl,lk,jp⟩:=F.ex
 exact .all (h kV doc pm an av ct)
theorem PU {st:Stmt} {oc:Value} {od an:Option Addr} {ia:Array (Option Value)} {kV doc pm av ct:Value} (l:K.lookup f=some ⟨oc,od,.func (PySem.W.fnOf x qual (lz st) (ig st) (az st) .none kV doc pm an av ct),ia⟩)
  (c:PySem.W.codeIn K av qual=true) (k:PySem.W.keepIn K (.ref f)=true):xx K x qual st f (PySem.W.fnOf x qual (lz st) (ig st) (az st) .none kV doc pm an av ct):=⟨⟨oc,od,kV,doc,pm,an,av,ct,ia,rfl,l,c⟩,k⟩
end
theorem bB {k:Nat} (hr:c_ k A):A.units+1 < cLine:=Nat.lt_of_le_of_lt (Nat.add_le_add_left (by decide:1<=64) _) hr.units
theorem PV (h:n<=1000):n < sizeLine:=Nat.lt_of_le_of_lt h (by decide)
theorem jt {A B:Prop} (h:B):if false=true then A else B:=by
 rw [if_neg Bool.false_ne_true]
 exact h
theorem Cr {A B:Prop} (h:A):if true=true then A else B:=by
 rw [if_pos rfl]
 exact h
theorem Ej {c A B:Prop} [Decidable c] (h1:c->A) (h2:¬c->B):if c then A else B:=by
 by_cases h:c
 ·rw [if_pos h]
  exact h1 h
 ·rw [if_neg h]
  exact h2 h
def aa (H H':Hp):Prop:=∀ b o,H b=some o->H' b=some o
theorem aa.refl (H:Hp):aa H H:=fun _ _ h=>h
theorem aa.trans {H1 H2:Hp} (a:aa H H1) (b:aa H1 H2):aa H H2:=fun c o h=>b c o (a c o h)
theorem aa.free (e:aa H H') (h:H' l=Option.none):H l=Option.none:=by
 cases q:H l with
 | none=>rfl
 | some o=>
  rw [e l o q] at h
  cases h
section
variable {κ:Type} [DecidableEq κ]
theorem oS {kvs:List (κ×V)} {k:κ} {v:V} (h:bx kvs k=some v):k∈kvs.map (·.1):=by
 have q:(kvs.any fun kv=>decide (kv.1=k))=true:=by
  rw [d8,h]
  all_goals rfl
 obtain ⟨p,hp,e⟩:=List.any_eq_true.mp q
 exact List.mem_map.mpr ⟨p,hp,Qt e⟩
end
theorem i7 {env:Env}:∀ (names:List (Str×NameKind)) (acc:List (Str×Addr)),
  (∀ y∈names,y.2=.free->∃ c,env.cells.lookup y.1=some c)->(∀ x c,acc.lookup x=some c->env.cells.lookup x=some c)->
  ∃ cl,(forIn names acc fun (x:Str×NameKind) cs=>(if (x.2==NameKind.free)=true then (do let c <- cellOf env x.1;pure (ForInStep.yield ((x.1,c)::cs))) else pure (ForInStep.yield cs):Sem (ForInStep (List (Str×Addr)))))=pure cl/\
   (∀ x c,cl.lookup x=some c->env.cells.lookup x=some c)/\(∀ y∈names,y.2=.free->∃ c,cl.lookup y.1=some c)/\(∀ x c,acc.lookup x=some c->∃ c,cl.lookup x=some c)
 | [],acc,_,ha=>⟨acc,rfl,ha,(fun _ h=>nomatch h),fun x c h=>⟨c,h⟩⟩
 | (n,k)::r,acc,h,ha=>by
  rw [List.forIn_cons]
  by_cases hk:k=.free
  ·obtain ⟨c,hc⟩:=h (n,k) List.mem_cons_self hk
   have Ao:cellOf env n=pure c:=by unfold cellOf;rw [show env.cells.lookup n=some c from hc]
   have PX:∀ x d,((n,c)::acc).lookup x=some d->env.cells.lookup x=some d:=fun x d hx=>by
    rw [List.lookup_cons] at hx
    cases e:x==n with
    | true=>rw [e] at hx;cases hx;rw [eq_of_beq e];exact hc
    | false=>rw [e] at hx;exact ha x d hx
   obtain ⟨cl,e,h1,h2,h3⟩:=i7 r ((n,c)::acc) (fun y hy=>h y (Qh _ hy)) PX
   refine ⟨cl,?_,h1,fun y hy hf=>?_,fun x d hx=>?_⟩
   ·have Ge:(k==NameKind.free)=true:=by rw [hk];rfl
    simp only [Ge,if_true,Ao,pure_bind]
    exact e
   ·rcases Qp.mp hy with z | hy
    ·rw [z];exact h3 n c (by simp [List.lookup_cons])
    ·exact h2 y hy hf
   ·cases e2:x==n with
    | true=>exact h3 x c (by simp [List.lookup_cons,e2])
    | false=>exact h3 x d (by simp [List.lookup_cons,e2,hx])
  ·have Ge:(k==NameKind.free)=false:=by simpa using hk
   obtain ⟨cl,e,h1,h2,h3⟩:=i7 r acc (fun y hy=>h y (Qh _ hy)) ha
   refine ⟨cl,?_,h1,fun y hy hf=>?_,h3⟩
   ·simp only [Ge,Bool.false_eq_true,if_false,pure_bind]
    exact e
   ·rcases Qp.mp hy with z | hy
    ·rw [z] at hf;exact absurd hf hk
    ·exact h2 y hy hf
theorem tX (h:∀ y∈sc.names,y.2=.free->∃ c,env.cells.lookup y.1=some c):
  ∃ cl,closureFor sc env=pure cl/\(∀ x c,cl.lookup x=some c->env.cells.lookup x=some c)/\(∀ y∈sc.names,y.2=.free->∃ c,cl.lookup y.1=some c):=by
 obtain ⟨cl,e,h1,h2,_⟩:=i7 (env:=env) sc.names [] h (fun _ _ h=>nomatch h)
 refine ⟨cl,?_,h1,h2⟩
 unfold closureFor
 have e':(forIn sc.names ([]:List (Str×Addr)) fun (x:Str×NameKind) cs=>(if (x.2==NameKind.free)=true then (do let c <- cellOf env x.1;pure (ForInStep.yield ((x.1,c)::cs))) else pure (ForInStep.yield cs):Sem (ForInStep (List (Str×Addr))))) >>=(fun cs=>(pure cs:Sem _))=pure cl:=by rw [e];rfl
 exact e'
theorem dG {env:Env}:∀ {names:List (Str×NameKind)} {x:Str},names.lookup x=some .free->
  (names.map fun (n,k)=>if (k==NameKind.free&&env.scope.kind==.function&&env.kindOf n==some .cell) then (n,NameKind.cell) else (n,k)).lookup x=some .cell\/
  (names.map fun (n,k)=>if (k==NameKind.free&&env.scope.kind==.function&&env.kindOf n==some .cell) then (n,NameKind.cell) else (n,k)).lookup x=some .free
 | [],_,h=>by simp at h
 | (n,k)::r,x,h=>by
  have ih:=@dG env r x
  show List.lookup x ((if (k==NameKind.free&&env.scope.kind==.function&&env.kindOf n==some .cell)=true then (n,NameKind.cell) else (n,k))::_)=_\/List.lookup x ((if (k==NameKind.free&&env.scope.kind==.function&&env.kindOf n==some .cell)=true then (n,NameKind.cell) else (n,k))::_)=_
  cases hx:x==n with
  | true=>
   simp only [List.lookup_cons,hx] at h
   cases h
   by_cases hc:(NameKind.free==NameKind.free&&env.scope.kind==.function&&env.kindOf n==some .cell)=true
   ·rw [if_pos hc];simp [List.lookup_cons,hx]
   ·rw [if_neg hc];simp [List.lookup_cons,hx]
  | false=>
   simp only [List.lookup_cons,hx] at h
   by_cases hc:(k==NameKind.free&&env.scope.kind==.function&&env.kindOf n==some .cell)=true
   ·rw [if_pos hc];simp only [List.lookup_cons,hx];exact ih h
   ·rw [if_neg hc];simp only [List.lookup_cons,hx];exact ih h
theorem jQ {names:List (Str×NameKind)} {k:NameKind}
  (h:(names.map fun (n,k)=>if (k==NameKind.free&&env.scope.kind==.function&&env.kindOf n==some .cell) then (n,NameKind.cell) else (n,k)).lookup x=some k) (hk:k=.cell\/k=.free) (hc:∀ y∈names,y.2≠.cell):(x,NameKind.free)∈names:=by
 have hm:=PySem.mem_of_lookup h
 obtain ⟨⟨n,k'⟩,h1,h2⟩:=List.mem_map.mp hm
 dsimp only at h2
 split at h2
 ·next hh=>
  cases h2
  have:k'=.free:=by
   simp only [Bool.and_eq_true,beq_iff_eq] at hh
   exact hh.1.1
  rw [<- this];exact h1
 ·cases h2
  rcases hk with z | z
  ·exact absurd z (hc _ h1)
  ·rw [<- z];exact h1
abbrev bu (X:Cx) (N':List Str) (sc:Scope) (cl:List (Str×Addr)) (C:Addr) (s3:Shared) (H0:Hp) (fp:List Addr) (pn:List (Addr×Obj)):Cx where
 prog:=X.prog
 w:=X.w
 K:=X.K
 mg:=X.mg
 base:=X.base
 A:=X.A
 N:=N'
 s₀:=s3
 H₀:=H0
 env:=compEnvC sc cl C X.env
 outer:=X.stack
 stack:=X.stack
 ex:=fp
 fn:=fun _=>false
 calm:=X.calm
 pn:=pn
 xe:=fun _ _=>False
structure ju (Bp:Scope) (oN:List Str) (sc:Scope) (own:List Str) (idx:List Nat) (N':List Str):Prop where
 kind:sc.kind=.function
 cell:∀ y∈sc.names,y.2≠.cell
 names:∀ y∈sc.names,y.2=.local->sc.names.lookup y.1=some .local
 free:∀ y∈sc.names,y.2=.free->(Bp.names.lookup y.1=some .cell\/Bp.names.lookup y.1=some .free)
 seen:∀ j∈idx,sc.names.lookup (oN.getD j "")=some .free/\j < oN.length
 nn:N'=own++idx.map (fun j=>oN.getD j "")
def nk (own:List Str) (idx:List Nat) (σ:St):St:=List.replicate own.length none++idx.map fun j=>(σ[j]?).join
section
variable {H2:Hp} {s2:Shared}
theorem qD {h4:Heap} {ob:Obj} {ho:HO} {t4:Nat} (S:ju X.env.scope X.N sc own idx N') (I:Inv X pins σ H2 s2) (hf:∀ b∈fp,lg X pins H2 b) (xy:∀ b∈fp,∃ o,s2.heap.get? b=some o)
  (c1:∀ x c,cl.lookup x=some c->X.env.cells.lookup x=some c) (c2:∀ y∈sc.names,y.2=.free->∃ c,cl.lookup y.1=some c) (hob:ob.isFreed=false)
  (hD:∀ (H:Hp) (h:Heap),h.get? s2.heap.objs.size=some ob->bf X.prog X.w H h s2.heap.objs.size ho)
  (ns:h4.Ns (s2.heap.push ob).objs.size (fun x=>([]:List (Str×Value)).reverse.lookup x)) (sb:∀ b o,(s2.heap.push ob).get? b=some o->h4.get? b=some o):
  Inv (bu X N' sc cl (s2.heap.push ob).objs.size {s2 with heap:=s2.heap.push ob} (upd H2 s2.heap.objs.size ho) fp (X.pn++pins)) [] (nk own idx σ) (upd H2 s2.heap.objs.size ho) {s2 with heap:=h4,toks:=t4}:=by
 have hsz:(s2.heap.push ob).objs.size=s2.heap.objs.size+1:=Heap.size_push _ _
 have XZ:H2 s2.heap.objs.size=none:=I.hok.fresh (Qy _)
 have up:∀ b o,s2.heap.get? b=some o->(s2.heap.push ob).get? b=some o:=fun b o e=>Qc _ e
 have Ek:∀ b o,s2.heap.get? b=some o->h4.get? b=some o:=fun b o e=>sb b o (up b o e)
 have PY:∀ b o,s2.heap.get? b=some o->b≠s2.heap.objs.size:=fun b o e=>Nat.ne_of_lt (Qz e)
 have nh:∀ b o,s2.heap.get? b=some o->H2 b=none->upd H2 s2.heap.objs.size ho b=none:=fun b o e n=>by rw [aF (PY b o e)];exact n
 have PZ:∀ b∈fm X.stack,∃ o,s2.heap.get? b=some o:=fun b hb=>by
  obtain ⟨_,o,ho,_⟩:=I.stack.mem hb
  exact ⟨o,ho⟩
 have P0:∀ x c,cl.lookup x=some c->∃ o,s2.heap.get? c=some o:=fun x c e=>by
  obtain ⟨v,o,ho,_⟩:=I.cell x c (c1 x c e)
  exact ⟨o,ho⟩
 have eD:(s2.heap.push ob).get? s2.heap.objs.size=some ob:=Qd s2.heap hob
 have P4:b_ X.prog X.w (upd H2 s2.heap.objs.size ho) h4:=I.hok.laid Ek (Qy _) (hD _ _ (sb _ _ eD))
 refine ⟨⟨I.ok.mod,S.kind,I.ok.glob,I.ok.blt,Qy _,fun x y c h1 h2=>I.ok.inj x y c (c1 x c h1) (c1 y c h2),fun x hx=>?_,(fun x c hx _=>nomatch hx),I.ok.hd,I.ok.frames,.inl rfl,fun b hb=>⟨?_,fun x c e=>?_⟩,fun b o e=>⟨?_,?_⟩,?_,fun b o e hb=>?_,fun b hb=>?_,?_,fun b hb=>?_⟩,
  rfl,I.bare,Un.kept sb,⟨_,ns,fun i x v h1 h2 h3=>?_⟩,fun x c e=>?_,?_,fun x c e=>?_,fun p hp=>?_,P4,?_⟩
 ·rcases hx with hx | hx
  ·exact c2 (x,.free) (jQ hx (.inl rfl) S.cell) rfl
  ·exact c2 (x,.free) (jQ hx (.inr rfl) S.cell) rfl
 ·obtain ⟨o,e⟩:=xy b hb
  have:=Qz e
  show b≠(s2.heap.push ob).objs.size
  rw [hsz];exact Nat.ne_of_lt (Nat.lt_succ_of_lt this)
 ·exact (hf b hb).2.2.2.2.1 x c (c1 x c e)
 ·exact up b o (I.bk b o e)
 ·exact nh b o (I.bk b o e) (I.bs b o e).2
 ·show X.base.objs.size<=(s2.heap.push ob).objs.size
  have:=Nat.le_trans I.ok.ue I.sz
  rw [hsz];omega
 ·obtain ⟨f0,f1,f2,f3,f4,f5⟩:=hf b hb
  rcases f3 with z | z
  ·exact I.ok.Am b o e z
  ·exact absurd (Qz e) (Nat.not_lt.mpr (Nat.le_trans I.ok.ue z))
 ·obtain ⟨f0,f1,f2,f3,f4,f5⟩:=hf b hb
  intro z
  rcases Qp.mp (I.Bc b z) with z | z
  ·exact f1 z
  ·exact f2 z
 ·exact Heap.FunFrames.of_keeps (fun b o e _=>⟨o,up b o e,rfl⟩) I.stack
 ·obtain ⟨o,e⟩:=PZ b hb
  exact nh b o e (I.DT b hb)
 ·unfold nk at h2
  by_cases hi:i < own.length
  ·rw [List.getElem?_append_left (by simpa using hi),List.getElem?_replicate,if_pos hi] at h2
   cases h2
  ·rw [List.getElem?_append_right (by simpa using hi),List.length_replicate,Qq] at h2
   have Bq:N'[i]? =some x:=h1
   rw [S.nn,List.getElem?_append_right (by simpa using hi),Qq] at Bq
   cases ej:idx[i - own.length]? with
   | none=>rw [ej] at Bq;cases Bq
   | some j=>
    rw [ej] at Bq h2
    obtain ⟨P5,p_⟩:=S.seen j (QC ej)
    have hx:X.N[j]? =some x:=by
     have:X.N.getD j ""=x:=QD Bq
     rw [<- this,Qb,Qa p_];rfl
    have hv:σ[j]? =some (some v):=by
     have x_:(σ[j]?).join=some v:=QD h2
     cases q:σ[j]? with
     | none=>rw [q] at x_;cases x_
     | some w=>rw [q] at x_;exact congrArg some x_
    have J7:sc.names.lookup x=some .free:=by
     have:X.N.getD j ""=x:=QD Bq
     rw [<- this];exact P5
    have qg:(x,NameKind.free)∈sc.names:=PySem.mem_of_lookup J7
    obtain ⟨m,hn,hl⟩:=I.loc
    have P6:Cc X.env.scope x:=by
     rcases S.free _ qg rfl with z | z
     ·exact .inr (.inl z)
     ·exact .inr (.inr z)
    obtain ⟨u,r,lk⟩:=hl j x v hx hv P6
    refine ⟨u,r,?_⟩
    rcases lk with ⟨k,_⟩ | ⟨k,c,e,z⟩
    ·rcases S.free _ qg rfl with q | q
     ·have q':X.env.kindOf x=some .cell:=q
      rw [q'] at k;cases k
     ·have q':X.env.kindOf x=some .free:=q
      rw [q'] at k;cases k
    ·obtain ⟨c',Ao⟩:=c2 (x,.free) qg rfl
     have e':=c1 x c' Ao
     rw [e] at e'
     cases e'
     refine .inr ⟨?_,c,Ao,?_⟩
     ·rcases dG (env:=X.env) J7 with q | q
      ·exact .inl q
      ·exact .inr q
     ·obtain ⟨o,uf,hd⟩:=z
      exact ⟨o,Ek c o uf,hd⟩
 ·obtain ⟨v,o,uf,hd⟩:=I.cell x c (c1 x c e)
  exact ⟨v,o,Ek c o uf,hd⟩
 ·show upd H2 s2.heap.objs.size ho (s2.heap.push ob).objs.size=none
  rw [aF (by rw [hsz];exact Nat.ne_of_gt (Nat.lt_succ_self _))]
  exact I.hok.fresh (by rw [hsz];omega)
 ·obtain ⟨o,e1⟩:=P0 x c e
  exact nh c o e1 (I.k_ x c (c1 x c e))
 ·have Gf:p∈X.pn++pins:=by simpa using hp
  obtain ⟨e,n,ne,nf,d⟩:=I.pin p Gf
  refine ⟨Ek _ _ e,nh _ _ e n,?_,fun z=>?_,d⟩
  ·have:=Qz e
   show p.1≠(s2.heap.push ob).objs.size
   rw [hsz];exact Nat.ne_of_lt (Nat.lt_succ_of_lt this)
  ·rcases Qp.mp (I.Bc p.1 z) with z | z
   ·exact ne z
   ·exact nf z
 ·show (nk own idx σ).length=N'.length
  rw [S.nn];unfold nk
  simp
theorem nD {ob:Obj} {ho:HO} {τ:St} {s':Shared} (I:Inv X pins σ H2 s2) (hf:∀ b∈fp,lg X pins H2 b) (hob:ob.isFreed=false)
  (J:Inv (bu X N' sc cl (s2.heap.push ob).objs.size {s2 with heap:=s2.heap.push ob} (upd H2 s2.heap.objs.size ho) fp (X.pn++pins)) [] τ H' s'):
  Inv X pins σ H' s'/\H' (s2.heap.push ob).objs.size=none/\(s2.heap.push ob).objs.size≠X.env.locals/\X.s₀.heap.objs.size<=(s2.heap.push ob).objs.size/\
   (∀ x c,X.env.cells.lookup x=some c->c≠(s2.heap.push ob).objs.size)/\(∀ p∈X.pn++pins,p.1≠(s2.heap.push ob).objs.size)/\∃ m,s'.heap.Ns (s2.heap.push ob).objs.size m:=by
 have hsz:(s2.heap.push ob).objs.size=s2.heap.objs.size+1:=Heap.size_push _ _
 have u1:Un (fm X.stack) fp H2 (upd H2 s2.heap.objs.size ho) s2.heap (s2.heap.push ob):=Un.laid (fun b o e=>Qc _ e) (Qy _) (I.hok.fresh (Qy _))
 have u2:Un (fm X.stack) fp (upd H2 s2.heap.objs.size ho) H' (s2.heap.push ob) s'.heap:=J.base
 have Av:s'.os=s2.os:=J.os
 refine ⟨I.Jt Av (u1.trans u2) J.hok J.bare fun b hb=>?_,J.free,?_,?_,fun x c e z=>?_,fun p hp z=>?_,let ⟨m,hn,_⟩:=J.loc;⟨m,hn⟩⟩
 ·obtain ⟨f0,f1,f2,f3,f4,f5⟩:=hf b hb
  exact ⟨f3,f1,f4,f5⟩
 ·rw [hsz];exact Nat.ne_of_gt (Nat.lt_succ_of_lt I.lt)
 ·have:=I.sz;rw [hsz];omega
 ·obtain ⟨v,q⟩:=I.cell x c e
  have:=q.lt
  rw [z,hsz] at this;exact absurd this (Nat.not_lt.mpr (Nat.le_succ _))
 ·have:=Qz (I.pin p hp).1
  rw [z,hsz] at this;exact absurd this (Nat.not_lt.mpr (Nat.le_succ _))
end
abbrev ck:Value->Shared->Prop:=fun _ _=>False
theorem P7 {elt target iter:Expr} {pos:Pos} {it acc:Value} (I:Nat->Shared->Prop)
  (turn:∀ n s,I n s->wpAny (model prog w) A (pyNext it) (fun r s₁=>match r with
   | none=>R (.ok .next) s₁
   | some v=>wpAny (model prog w) A (letOwnedTupleGo target it v) (fun _ qh=>wpAny (model prog w) A (assign target env v) (fun _ s₂=>
     wpAny (model prog w) A (forIn ifs true fun c r=>if r=true then do let ok <- isTrue c env (eval c env);pure (ForInStep.yield ok) else pure (ForInStep.yield r)) (fun ok s₃=>
      if ok=true then wpAny (model prog w) A (eval elt env) (fun x s₄=>
       wpAny (model prog w) A (call (.builtin "list.append") [acc,x]) (fun _ s₅=>∃ m,m < n/\I m s₅) ck s₄) ck s₃
      else ∃ m,m < n/\I m s₃) ck s₂) ck qh) ck s₁) ck s)
  (n:Nat) (h:I n s):
  codeAny (model prog w) A (.compLoop (.ListComp elt [⟨target,iter,ifs,0⟩] scope pos) 0 it acc env) R s:=by
 refine codeAny_loop rfl I (fun n s hI=>?_) n h
 show wpAny _ A ((compTurn (.ListComp elt [⟨target,iter,ifs,0⟩] scope pos) 0 it acc env).onRaise (fun x=>do noteFrame x env;theTreesLotGoes x)) _ _ s
 refine wpAny_noted ?_
 rw [compTurn_list]
 refine QS (wpAny_standAt (QS (wpAny_mono (turn n s hI) (fun r s₁ h₁=>?_) fun _ _ h'=>h'.elim)))
 cases r with
 | none=>exact QT h₁
 | some v=>
  refine QS (wpAny_mono h₁ (fun _ qh Ay=>?_) fun _ _ h'=>h'.elim)
  refine QS (wpAny_mono Ay (fun _ s₂ h₂=>QS (wpAny_mono h₂ (fun ok s₃ h₃=>?_) fun _ _ h'=>h'.elim)) fun _ _ h'=>h'.elim)
  cases ok with
  | false=>exact QT ⟨rfl,h₃⟩
  | true=>
   exact QS (QS (wpAny_mono h₃ (fun x s₄ h₄=>QS (wpAny_mono h₄ (fun _ s₅ h₅=>QT (QT ⟨rfl,h₅⟩)) fun _ _ h'=>h'.elim)) fun _ _ h'=>h'.elim))
abbrev TC:=St->Hp->(Bool->Hp->Prop)->Prop
def nq (X:Cx) (ifs:List Expr) (t:TC):Prop:=
 ∀ (pins:List (Addr×Obj)) (s:Shared) (σ:St) (H:Hp) (Q:Bool->Hp->Prop),Inv X pins σ H s->t σ H Q->
  wpAny (model X.prog X.w) X.A (forIn ifs true fun c r=>if r=true then do let ok <- isTrue c X.env (eval c X.env);pure (ForInStep.yield ok) else pure (ForInStep.yield r)) (TP X pins σ Q) X.xe s
def El:TC:=fun _ H Q=>Q true H
theorem P8:nq X [] El:=fun pins s σ H Q I h=>QT ⟨H,I,h⟩
theorem P9 {c:Expr} {t:TT} (h:PT X c t):nq X [c] t:=fun pins s σ H Q I hq=>wpAny_tests_one (h pins s σ H Q I hq)
def Br (own:List Str) (idx:List Nat) (wi:TI) (g:TG) (tc:TC) (te:TE):TE:=fun σ H Q=>wi σ H fun J H1=>∀ D,H1 D=none->∃ W:Nat->Nat->St->Hp->Prop,(∃ m,W 0 m (nk own idx σ) (upd H1 D (.lst [])))/\∀ i m τ H,W i m τ H->
 (J.stop i H/\Q (.ref D) H)\/(J.go i H/\∃ N:St->Hp->Prop,(∀ τ' H',N τ' H'->∃ m',m' < m/\W (i+1) m' τ' H')/\∀ x H',J.h_ i H x H'->g x τ H' fun τ2 H2=>tc τ2 H2 fun b H3=>
  if b=true then te τ2 H3 fun y H4=>∃ xs,H4 D=some (.lst xs)/\xs.length < sizeLine/\N τ2 (upd H4 D (.lst (xs++[y]))) else N τ2 H3)
section
variable {iter elt:Expr} {pos:Pos} {wi:TI} {g:TG} {tc:TC}
abbrev rf:Obj:={cls:=.type "list",dict:=none,data:=.seq ([]:List Value).toArray}
def P_ (X:Cx) (cmp tg:Expr) (ifs:List Expr) (sel:Env->Addr->Shared->(Shared->Prop)->Prop):Prop:=
 ∀ (it:Value) (D:Addr) (env:Env) (R:Result->Shared->Prop) (s:Shared) (I:Nat->Shared->Prop),
  (∀ n s,I n s->wpAny (model X.prog X.w) X.A (pyNext it) (fun r s₁=>match r with
   | none=>R (.ok .next) s₁
   | some v=>wpAny (model X.prog X.w) X.A (letOwnedTupleGo tg it v) (fun _ qh=>wpAny (model X.prog X.w) X.A (assign tg env v) (fun _ s₂=>
     wpAny (model X.prog X.w) X.A (forIn ifs true fun c r=>if r=true then do let ok <- isTrue c env (eval c env);pure (ForInStep.yield ok) else pure (ForInStep.yield r)) (fun ok s₃=>
      if ok=true then sel env D s₃ (fun s₅=>∃ m,m < n/\I m s₅) else ∃ m,m < n/\I m s₃) ck s₂) ck qh) ck s₁) ck s)->
  ∀ n,I n s->codeAny (model X.prog X.w) X.A (.compLoop cmp 0 it (.ref D) env) R s
theorem kW (S:ju X.env.scope X.N sc own idx N') (c1:∀ x c,cl.lookup x=some c->X.env.cells.lookup x=some c) (c2:∀ y∈sc.names,y.2=.free->∃ c,cl.lookup y.1=some c) (hc:X.calm=true)
  {cmp:Expr} {ob:Obj} {o0:HO} {mk:Sem Value} {sel:Env->Addr->Shared->(Shared->Prop)->Prop} (el:Addr->St->Hp->(Hp->Prop)->Prop) (hob:ob.isFreed=false) (L:P_ X cmp tg ifs sel)
  (mono:∀ {env D s} {K K':Shared->Prop},sel env D s K->(∀ s',K s'->K' s')->sel env D s K')
  (ef:∀ it acc env R s,codeAny (model X.prog X.w) X.A (.compLoop cmp 0 it acc env) R s->wpAny (model X.prog X.w) X.A (pyIter it) (fun Em s'=>codeAny (model X.prog X.w) X.A (.compLoop cmp 0 Em acc env) R s') (notedBy (model X.prog X.w) X.A env fun x s'=>R (.error x) s') s->
   codeAny (model X.prog X.w) X.A (.compStart cmp 0 it acc env) R s)
  (hg:∀ cl C s3 H0 fp pn,PG (bu X N' sc cl C s3 H0 fp pn) tg g) (ht:∀ cl C s3 H0 fp pn,nq (bu X N' sc cl C s3 H0 fp pn) ifs tc)
  (he:∀ cl C s3 H0 fp pn pins s τ H D N,Inv (bu X N' sc cl C s3 H0 fp pn) pins τ H s->el D τ H N->sel (bu X N' sc cl C s3 H0 fp pn).env D s fun s'=>∃ H',Inv (bu X N' sc cl C s3 H0 fp pn) pins τ H' s'/\N H')
  {pins:List (Addr×Obj)} {σ:St} {Q:VK} {gh:Value} {s2:Shared} {RR:Value->Addr->Result->Shared->Prop} {E:Value->Shared->Prop}
  (Gg:∀ Q E,Q (.ref s2.heap.objs.size) {s2 with heap:=s2.heap.push ob}->wpAny (model X.prog X.w) X.A mk Q E s2)
  (Qg:∀ H',Inv X pins σ H' s2->∀ (H:Hp) (h:Heap),h.get? s2.heap.objs.size=some ob->bf X.prog X.w H h s2.heap.objs.size o0)
  (hI:yu X pins σ tg (fun J H1=>∀ D,H1 D=none->∃ W:Nat->Nat->St->Hp->Prop,(∃ m,W 0 m (nk own idx σ) (upd H1 D o0))/\∀ i m τ H,W i m τ H->
   (J.stop i H/\Q (.ref D) H)\/(J.go i H/\∃ N:St->Hp->Prop,(∀ τ' H',N τ' H'->∃ m',m' < m/\W (i+1) m' τ' H')/\∀ x H',J.h_ i H x H'->g x τ H' fun τ2 H2=>tc τ2 H2 fun b H3=>if b=true then el D τ2 H3 (N τ2) else N τ2 H3)) gh s2)
  (Az:∀ D C H' s',Inv X pins σ H' s'->Q (.ref D) H'->(H' C=none/\C≠X.env.locals/\X.s₀.heap.objs.size<=C/\(∀ x c,X.env.cells.lookup x=some c->c≠C)/\(∀ p∈X.pn++pins,p.1≠C)/\∃ m,s'.heap.Ns C m)->RR (.ref D) C (.ok .next) s'):
  wpAny (model X.prog X.w) X.A mk (fun acc s₃=>wpAny (model X.prog X.w) X.A (newFunctionEnv sc X.env.globals cl [] X.env.qual none .none (some X.env)) (fun cenv s₄=>
   codeAny (model X.prog X.w) X.A (.compStart cmp 0 gh acc {cenv with scope:=relabel sc X.env}) (RR acc cenv.locals) s₄) E s₃) E s2:=by
 obtain ⟨it,fp,tn,J,H2,rfl,I,T,j_,f2,body⟩:=hI
 refine Gg _ _ (wpAny_newFunctionEnv S.cell (by intro y hy;simp at hy) (fun h4 ns sb=>?_) S.kind)
 dsimp only at ns sb ⊢
 have fr:H2 s2.heap.objs.size=none:=I.hok.fresh (Qy _)
 obtain ⟨W,⟨m0,w0⟩,turn⟩:=body _ fr
 have xy:∀ b∈fp,∃ o,s2.heap.get? b=some o:=fun b hb=>let ⟨o,e,_⟩:=T.obj _ _ j_ b hb;⟨o,e⟩
 have ya:∀ b o,(s2.heap.push ob).get? b=some o->h4.get? b=some o:=fun b o e=>(sb.2 b (Nat.ne_of_lt (Qz e))).trans (Qc _ e)
 have Gh:=Qg _ I
 have I4:Inv (bu X N' sc cl (s2.heap.push ob).objs.size {s2 with heap:=s2.heap.push ob} (upd H2 s2.heap.objs.size o0) fp (X.pn++pins)) [] (nk own idx σ) (upd H2 s2.heap.objs.size o0) {s2 with heap:=h4,toks:=s2.toks+([]:List (Str×Value)).length}:=
  qD S I f2 xy c1 c2 hob Gh ns ya
 -- JG X0 own context
 generalize hY:bu X N' sc cl (s2.heap.push ob).objs.size {s2 with heap:=s2.heap.push ob} (upd H2 s2.heap.objs.size o0) fp (X.pn++pins)=Y at I4
 have Gi:PG Y tg g:=by rw [<- hY];exact hg _ _ _ _ _ _
 have Gj:nq Y ifs tc:=by rw [<- hY];exact ht _ _ _ _ _ _
 have Gk:∀ pins s τ H D N,Inv Y pins τ H s->el D τ H N->sel Y.env D s fun s'=>∃ H',Inv Y pins τ H' s'/\N H':=by rw [<- hY];exact he _ _ _ _ _ _
 have pY:Y.prog=X.prog:=by rw [<- hY]
 have wY:Y.w=X.w:=by rw [<- hY]
 have KY:Y.K=X.K:=by rw [<- hY]
 have AY:Y.A=X.A:=by rw [<- hY]
 have cY:Y.calm=true:=by rw [<- hY];exact hc
 have xY:Y.xe=fun _ _=>False:=by rw [<- hY]
 have eY:Y.env=compEnvC sc cl (s2.heap.push ob).objs.size X.env:=by rw [<- hY]
 have Gm:Y.ex=fp:=by rw [<- hY]
 have Gn:Y.fs=fm X.stack:=by rw [<- hY]
 have Gp:Y.pn=X.pn++pins:=by rw [<- hY]
 have lh:∀ {H':Hp},(∀ b∈fp,H' b=none)->∀ b∈fp,lg Y [] H' b:=fun hn b hb=>by
  obtain ⟨f0,f1,f3,f4,f5,f6⟩:=f2 b hb
  refine ⟨hn b hb,?_,?_,.inl (by rw [Gm];exact hb),fun x c e=>?_,fun p hp=>?_⟩
  ·obtain ⟨o,e⟩:=xy b hb
   have:=Qz e
   rw [eY]
   show b≠(s2.heap.push ob).objs.size
   rw [Heap.size_push];exact Nat.ne_of_lt (Nat.lt_succ_of_lt this)
  ·rw [Gn]
   intro z
   rcases Qp.mp (I.Bc b z) with z | z
   ·exact f1 z
   ·exact f3 z
  ·rw [eY] at e
   exact f5 x c (c1 x c e)
  ·rw [Gp,List.append_nil] at hp
   exact f6 p hp
 have Cs:tn 0 h4:=T.keep _ _ _ j_ fun b hb o e=>ya b o (Qc _ e)
 have Gq:∀ b∈fp,upd H2 s2.heap.objs.size o0 b=none:=fun b hb=>by
  obtain ⟨o,e⟩:=xy b hb
  rw [aF (Nat.ne_of_lt (Qz e))]
  exact (f2 b hb).1
 have loop:codeAny (model X.prog X.w) X.A (.compLoop cmp 0 (.ref it) (.ref s2.heap.objs.size) (compEnvC sc cl (s2.heap.push ob).objs.size X.env))
   (RR (.ref s2.heap.objs.size) (s2.heap.push ob).objs.size) {s2 with heap:=h4,toks:=s2.toks+([]:List (Str×Value)).length}:=by
  refine L _ _ _ _ _ (fun n s'=>∃ i τ H',Inv Y [] τ H' s'/\tn i s'.heap/\(∀ b∈fp,H' b=none)/\W i n τ H') ?_ m0 ⟨0,_,_,I4,Cs,Gq,w0⟩
  rintro n s3 ⟨i,τ3,H3,I3,um,uo,w3⟩
  rcases turn i n τ3 H3 w3 with ⟨stop,qn⟩ | ⟨go,N,hN,step⟩
  ·have h:=T.done Y pY wY KY cY i [] s3 τ3 H3 ck I3 (lh uo) um stop
   rw [AY] at h
   refine aj h ?_
   rintro r s4 ⟨hr,Gr⟩
   subst hr
   have J4:=Gr
   rw [<- hY] at J4
   obtain ⟨b1,b2⟩:=nD I f2 hob J4
   exact Az _ _ _ _ b1 qn b2
  ·have h:=T.item Y pY wY KY cY i [] s3 τ3 H3 ck I3 (lh uo) um go
   rw [AY] at h
   refine aj h ?_
   rintro r s4 ⟨u,hr,Gs⟩
   subst hr
   refine aj Gs ?_
   rintro _ s5 ⟨x,H5,I5,r5,y5,lj,Aq⟩
   have Ar:=I5.pinned (lh Aq) (T.obj _ _ lj)
   have g5:=Gi _ s5 τ3 H5 x u _ Ar r5 (step x H5 y5)
   rw [pY,wY,AY,xY,eY] at g5
   refine aj g5 ?_
   rintro _ s6 ⟨τ6,H6,I6,q6⟩
   have t6:=Gj _ s6 τ6 H6 _ I6 q6
   rw [pY,wY,AY,xY,eY] at t6
   refine aj t6 ?_
   rintro ok s7 ⟨H7,I7,q7⟩
   have again:∀ {τ8:St} {H8:Hp} {s8:Shared},Inv Y ([]++Bf fp s5.heap) τ8 H8 s8->N τ8 H8->∃ m,m < n/\∃ i τ' H',Inv Y [] τ' H' s8/\tn i s8.heap/\(∀ b∈fp,H' b=none)/\W i m τ' H':=fun {τ8 H8 s8} I8 n8=>by
    obtain ⟨m',hm,w8⟩:=hN τ8 H8 n8
    refine ⟨m',hm,i+1,τ8,H8,I8.Bg,T.keep _ _ _ lj fun b hb o e=>(I8.pin (b,o) (List.mem_append_right _ (List.mem_append_right _ (bX hb e)))).1,fun b hb=>?_,w8⟩
    obtain ⟨o,e,d⟩:=T.obj _ _ lj b hb
    exact (I8.pin (b,o) (List.mem_append_right _ (List.mem_append_right _ (bX hb e)))).2.1
   cases ok with
   | false=>
    rw [if_neg (by decide)] at q7 ⊢
    exact again I7 q7
   | true=>
    rw [if_pos rfl] at q7 ⊢
    have e7:=Gk _ s7 τ6 H7 s2.heap.objs.size _ I7 q7
    rw [eY] at e7
    exact mono e7 fun s8 ⟨H8,I8,n8⟩=>again I8 n8
 exact ef _ _ _ _ _ loop (T.self _ 0 _ _ _ Cs loop)
theorem kQ (S:ju X.env.scope X.N sc own idx N') (c1:∀ x c,cl.lookup x=some c->X.env.cells.lookup x=some c) (c2:∀ y∈sc.names,y.2=.free->∃ c,cl.lookup y.1=some c) (hc:X.calm=true)
  (hg:∀ cl C s3 H0 fp pn,PG (bu X N' sc cl C s3 H0 fp pn) tg g) (ht:∀ cl C s3 H0 fp pn,nq (bu X N' sc cl C s3 H0 fp pn) ifs tc) (he:∀ cl C s3 H0 fp pn,PE (bu X N' sc cl C s3 H0 fp pn) elt te)
  {pins:List (Addr×Obj)} {σ:St} {Q:VK} {gh:Value} {s2:Shared} {RR:Value->Addr->Result->Shared->Prop} {E:Value->Shared->Prop}
  (hI:yu X pins σ tg (fun J H1=>∀ D,H1 D=none->∃ W:Nat->Nat->St->Hp->Prop,(∃ m,W 0 m (nk own idx σ) (upd H1 D (.lst [])))/\∀ i m τ H,W i m τ H->
   (J.stop i H/\Q (.ref D) H)\/(J.go i H/\∃ N:St->Hp->Prop,(∀ τ' H',N τ' H'->∃ m',m' < m/\W (i+1) m' τ' H')/\∀ x H',J.h_ i H x H'->g x τ H' fun τ2 H2=>tc τ2 H2 fun b H3=>
    if b=true then te τ2 H3 fun y H4=>∃ xs,H4 D=some (.lst xs)/\xs.length < sizeLine/\N τ2 (upd H4 D (.lst (xs++[y]))) else N τ2 H3)) gh s2)
  (Az:∀ D C H' s',Inv X pins σ H' s'->Q (.ref D) H'->(H' C=none/\C≠X.env.locals/\X.s₀.heap.objs.size<=C/\(∀ x c,X.env.cells.lookup x=some c->c≠C)/\(∀ p∈X.pn++pins,p.1≠C)/\∃ m,s'.heap.Ns C m)->RR (.ref D) C (.ok .next) s'):
  wpAny (model X.prog X.w) X.A (newList []) (fun acc s₃=>wpAny (model X.prog X.w) X.A (newFunctionEnv sc X.env.globals cl [] X.env.qual none .none (some X.env)) (fun cenv s₄=>
   codeAny (model X.prog X.w) X.A (.compStart (.ListComp elt [⟨tg,iter,ifs,0⟩] sc pos) 0 gh acc {cenv with scope:=relabel sc X.env}) (RR acc cenv.locals) s₄) E s₃) E s2:=by
 refine kW (ob:=rf) (sel:=fun env D s K=>wpAny (model X.prog X.w) X.A (eval elt env) (fun x s₄=>wpAny (model X.prog X.w) X.A (call (.builtin "list.append") [.ref D,x]) (fun _ s₅=>K s₅) ck s₄) ck s) (o0:=.lst []) (el:=fun D τ H K=>te τ H fun y H4=>∃ xs,H4 D=some (.lst xs)/\xs.length < sizeLine/\K (upd H4 D (.lst (xs++[y])))) S c1 c2 hc (hob:=rfl)
  (fun it D env R s I turn n h=>P7 I turn n h) (fun h k=>aj h fun _ _ h=>aj h fun _ _ h=>k _ h) (fun _ _ _ _ _=>codeAny_compStart_list) hg ht (fun cl C s3 H0 fp pn pins s τ H D N I q=>?_) (fun Q E h=>wpAny_newObj_type h) (fun H' I H h e=>⟨Nat.zero_le _,[],_,.nil,e⟩) hI Az
 refine aj (he cl C s3 H0 fp pn _ s τ H _ I q) ?_
 rintro yv s8 ⟨y,H8,I8,r8,xs,Gu,hz,n8⟩
 exact aj (cP (X:=bu X N' sc cl C s3 H0 fp pn) _ s8 τ H8 (.ref D) [y] (.ref D) [yv] (fun v H'=>N H') I8 rfl (.cons r8 .nil) ⟨_,xs,y,rfl,rfl,Gu,hz,n8⟩) fun _ s9 ⟨_,H9,I9,_,n9⟩=>⟨H9,I9,n9⟩
theorem ju.closure (S:ju X.env.scope X.N sc own idx N') (ok:X.Ok):∃ cl,closureFor sc X.env=pure cl/\(∀ x c,cl.lookup x=some c->X.env.cells.lookup x=some c)/\(∀ y∈sc.names,y.2=.free->∃ c,cl.lookup y.1=some c):=
 tX fun y hy hf=>ok.has _ (S.free y hy hf)
theorem Qu (S:ju X.env.scope X.N sc own idx N') (hc:X.calm=true) (hi:PI X tg iter wi)
  (hg:∀ cl C s3 H0 fp pn,PG (bu X N' sc cl C s3 H0 fp pn) tg g) (ht:∀ cl C s3 H0 fp pn,nq (bu X N' sc cl C s3 H0 fp pn) ifs tc) (he:∀ cl C s3 H0 fp pn,PE (bu X N' sc cl C s3 H0 fp pn) elt te)
  (hs:∀ x,foldedSetIterable iter X.env x=pure x:=by intro _;rfl):PE X (.ListComp elt [⟨tg,iter,ifs,0⟩] sc pos) (Br own idx wi g tc te):=by
 intro pins s σ H Q I h
 obtain ⟨cl,jj,c1,c2⟩:=S.closure I.ok
 rw [eval_ListComp]
 refine wpAny_comprehension_free (use:=none) rfl hs jj S.kind S.names (aj (hi pins s σ H _ I h) fun v s1 h1=>aj h1 fun gh s2 h2=>?_)
 refine kQ (Q:=Q) (pins:=pins) (σ:=σ) (RR:=fun acc C=>compPost (model X.prog X.w) X.A X.xe none (EP X pins σ Q) acc C) S c1 c2 hc hg ht he h2 ?_
 intro D C H' s' I' q ⟨a1,a2,a3,a4,a5,m,a6⟩
 exact ⟨m,a6,fun h' sb=>⟨.ref D,H',I'.turned (t':=s'.toks) (fun b o hb e=>(sb.2 b hb).trans e) a1 (Ne.symm (Ne.symm a2)) (.inr a3) a4 a5,rfl,q⟩⟩
theorem QF {py spos:Pos} (S:ju X.env.scope X.N sc own idx N') (hc:X.calm=true) (hi:PI X tg iter wi)
  (hg:∀ cl C s3 H0 fp pn,PG (bu X N' sc cl C s3 H0 fp pn) tg g) (ht:∀ cl C s3 H0 fp pn,nq (bu X N' sc cl C s3 H0 fp pn) ifs tc) (he:∀ cl C s3 H0 fp pn,PE (bu X N' sc cl C s3 H0 fp pn) elt te)
  (hN:X.N.Nodup) (Ct:X.N[i]? =some y) (hy:X.env.scope.names.lookup y=some .local)
  (yb:swapsWith (.ListComp elt [⟨tg,iter,ifs,0⟩] sc pos) (some (.Name y py)) spos.line X.env=pure true:=by rfl)
  (hs:∀ x,foldedSetIterable iter X.env x=pure x:=by intro _;rfl):PS X (.Assign [.Name y py] (.ListComp elt [⟨tg,iter,ifs,0⟩] sc pos) spos) (wj (Br own idx wi g tc te) (jc i)):=by
 intro pins s σ H D I h
 obtain ⟨cl,jj,c1,c2⟩:=S.closure I.ok
 rw [exec_Assign_Name_used _ _ _ _ yb]
 refine QS (wpAny_standAt (QS ?_))
 show wpAny _ X.A (do let _ <- comprehension (.ListComp elt [⟨tg,iter,ifs,0⟩] sc pos) sc X.env _ (newList []) false (eval iter X.env) (some (assign (.Name y py) X.env))) _ _ s
 refine QS (wpAny_mono (wpAny_comprehension_free (use:=some (assign (.Name y py) X.env)) (Q:=fun _ s'=>SP X pins D .next s') rfl hs jj S.kind S.names
  (aj (hi pins s σ H _ I h) fun v s1 h1=>aj h1 fun gh s2 h2=>?_)) (fun _ s' hq=>QT (QT hq)) fun _ _ e=>e)
 refine kQ (Q:=fun x H1=>jc i x σ H1 D.nx) (pins:=pins) (σ:=σ) (RR:=fun acc C=>compPost (model X.prog X.w) X.A X.xe (some (assign (.Name y py) X.env)) (fun _ s'=>SP X pins D .next s') acc C) S c1 c2 hc hg ht he h2 ?_
 intro D' C H' s' I' q ⟨a1,a2,a3,a4,a5,m,a6⟩
 show wpAny _ X.A (assign (.Name y py) X.env (.ref D')) _ _ _
 refine wpAny_assign_Name (gU (v:=.ref D') I' hN Ct (.inl hy) rfl (fun s'' Gv ⟨a,sb,ha⟩=>?_) (.inr hy))
 have Gw:C≠a:=by
  rcases ha with z | z
  ·rw [z];exact a2
  ·exact Ne.symm (a4 _ _ z)
 refine ⟨m,a6.sameBut sb Gw,fun h' ya=>⟨_,H',Gv.turned (t':=s''.toks) (fun b o hb e=>(ya.2 b hb).trans e) a1 a2 (.inr a3) a4 a5,q⟩⟩
end
def tV (i:Nat):TE:=fun σ H Q=>match σ[i]? with | some (some v)=>Q v H | _=>False
theorem QN (i:Nat) {pos:Pos} (hN:X.N[i]? =some x:=by rfl) (hv:Cc X.env.scope x:=by first | exact Or.inl rfl | exact Or.inr (Or.inl rfl) | exact Or.inr (Or.inr rfl)) (hd:(x==("__debug__":Str))=false:=by decide) (jp:(x==("__classdict__":Str))=false:=by decide):PE X (.Name x pos) (tV i):=by
 intro pins s σ H Q I h
 refine NT hN hv hd jp pins s σ H Q I ?_
 unfold tV at h
 split at h
 ·next v e=>exact ⟨v,e,h⟩
 ·exact h.elim
def QO:R2:=fun x y H Q=>match x,y with
 | .int i,.int j=>Q (.int (i+j)) H
 | .str i,.str j=>i.length+j.length<=sizeLine/\Q (.str (i++j)) H
 | .ref l,.ref b=>(∃ xs zs,H l=some (.lst xs)/\H b=some (.lst zs)/\xs.length+zs.length<=sizeLine/\∀ p,H p=none->Q (.ref p) (upd H p (.lst (xs++zs))))
 | _,_=>False
theorem cH:cg X (binaryOp .Add) QO:=by
 intro pins s σ H x y v u Q I rx ry h
 cases x<;>cases y<;>first
  | exact (show False from h).elim
  | exact Ov pins s σ H _ _ v u Q I rx ry ⟨_,_,rfl,rfl,h⟩
  | exact rV pins s σ H _ _ v u Q I rx ry ⟨_,_,rfl,rfl,h.1,h.2⟩
  | (obtain ⟨xs,zs,h1,h2,h3,h4⟩:=h;exact Px pins s σ H _ _ v u Q I rx ry ⟨_,_,xs,zs,rfl,rfl,h1,h2,h3,h4⟩)
def QU:R2:=fun x y H Q=>match x,y with | .int i,.int j=>D7 i j/\Q (.int (i*j)) H | _,_=>False
theorem dH:cg X (binaryOp .Mult) QU:=by
 intro pins s σ H x y v u Q I rx ry h
 cases x<;>cases y<;>first
  | exact (show False from h).elim
  | exact Ox pins s σ H _ _ v u Q I rx ry ⟨_,_,rfl,rfl,h.1,h.2⟩
def QV:R2:=fun x y H Q=>match x,y with | .int i,.int j=>0 < j/\Q (.int (i % j)) H | _,_=>False
theorem eA:cg X (binaryOp .Mod) QV:=by
 intro pins s σ H x y v u Q I rx ry h
 cases x<;>cases y<;>first
  | exact (show False from h).elim
  | exact Oz pins s σ H _ _ v u Q I rx ry ⟨_,_,rfl,rfl,h.1,h.2⟩
def QW:R2:=fun x y H Q=>match x,y with | .int i,.int j=>(0 < j/\j < 1073741824)/\Q (.int (i / j)) H | _,_=>False
theorem zL:cg X (binaryOp .FloorDiv) QW:=by
 intro pins s σ H x y v u Q I rx ry h
 cases x<;>cases y<;>first
  | exact (show False from h).elim
  | exact zZ pins s σ H _ _ v u Q I rx ry ⟨_,_,rfl,rfl,h.1,h.2⟩
def QX:R2:=fun x y H Q=>match x,y with | .int i,.int j=>JI i j/\Q (.int (i^j.toNat)) H | _,_=>False
theorem QY:cg X (binaryOp .Pow) QX:=by
 intro pins s σ H x y v u Q I rx ry h
 cases x<;>cases y<;>first
  | exact (show False from h).elim
  | exact OA pins s σ H _ _ v u Q I rx ry ⟨_,_,rfl,rfl,h.1,h.2⟩
def Gx (p:Int->Int->Bool):R2:=fun x y H Q=>match x,y with | .int i,.int j=>Q (.bl (p i j)) H | _,_=>False
theorem j8:cg X (compareOp .Gt) (Gx fun i j=>decide (j < i)):=by
 intro pins s σ H x y v u Q I rx ry h
 cases x<;>cases y<;>first
  | exact (show False from h).elim
  | exact OI pins s σ H _ _ v u Q I rx ry ⟨_,_,rfl,rfl,h⟩
theorem Q0:cg X (compareOp .GtE) (Gx fun i j=>decide (j<=i)):=by
 intro pins s σ H x y v u Q I rx ry h
 cases x<;>cases y<;>first
  | exact (show False from h).elim
  | exact OJ pins s σ H _ _ v u Q I rx ry ⟨_,_,rfl,rfl,h⟩
theorem Q2:cg X (compareOp .LtE) (Gx fun i j=>decide (i<=j)):=by
 intro pins s σ H x y v u Q I rx ry h
 cases x<;>cases y<;>first
  | exact (show False from h).elim
  | exact OH pins s σ H _ _ v u Q I rx ry ⟨_,_,rfl,rfl,h⟩
def Q3:R2:=fun x y H Q=>match x,y with
 | .int i,.int j=>Q (.bl (decide (i < j))) H
 | .str i,.str j=>Q (.bl (decide (i.cps.toList < j.cps.toList))) H
 | _,_=>False
theorem o8:cg X (compareOp .Lt) Q3:=by
 intro pins s σ H x y v u Q I rx ry h
 cases x<;>cases y<;>first
  | exact (show False from h).elim
  | exact OG pins s σ H _ _ v u Q I rx ry ⟨_,_,rfl,rfl,h⟩
  | exact vK pins s σ H _ _ v u Q I rx ry ⟨_,_,rfl,rfl,h⟩
def J8 (n:Bool):R2:=fun x y H Q=>match x,y with
 | .ref a,.ref b=>a≠b/\∃ xs,H a=some (.lst xs)/\H b=some (.lst [])/\Q (.bl (n^^xs.isEmpty)) H
 | x,y=>Ce x y=true/\Q (.bl (n^^decide (x=y))) H
theorem xB {xs:List V} (hu:A.units < cLine) (I:Inv X pins σ H s) (ha:H a=some (.lst xs)) (hb:H b=some (.lst [])) (nu:a≠b)
  (q:∀ tk,Q (.bool xs.isEmpty) {s with toks:=tk}) (q0:Q (.bool xs.isEmpty) s):wpAny (model X.prog X.w) A (compareOp .Eq (.ref a) (.ref b)) Q E s:=by
 obtain ⟨_,its,n,r1,e1⟩:=(show bf X.prog X.w H s.heap a (.lst xs) from I.hok a _ ha)
 obtain ⟨_,its2,n2,r2,e2⟩:=(show bf X.prog X.w H s.heap b (.lst []) from I.hok b _ hb)
 cases r2
 have l1:s.heap.IsList a its.toArray:=⟨_,e1,rfl,_,rfl⟩
 have l2:s.heap.IsList b (#[]:Array Value):=⟨_,e2,rfl,_,rfl⟩
 cases r1 with
 | nil=>
  exact SeqAt.eq_listAt (e:=fun _=>true) l1 l2 rfl hu (fun i hi=>absurd hi (by simp)) (by simpa using q0)
 | cons z t=>
  exact SeqAt.eq_list_lengthsAt l1 l2 (by simp) hu (by simpa using q0)
theorem dS (hu:X.A.units < cLine):cg X (compareOp .Eq) (J8 false):=by
 intro pins s σ H x y v u Q I rx ry h
 have hs:(∀ a b,x=.ref a->y=.ref b->False)->Ce x y=true/\Q (.bl (false^^decide (x=y))) H:=fun hn=>by
  cases x<;>cases y<;>first
   | exact (hn _ _ rfl rfl).elim
   | exact h
 by_cases hr:∃ a b,x=.ref a/\y=.ref b
 ·obtain ⟨a,b,rfl,rfl⟩:=hr
  obtain ⟨nu,xs,h1,h2,q⟩:=h
  cases rx;cases ry
  exact xB hu I h1 h2 nu (fun tk=>⟨.bl xs.isEmpty,H,I.tok tk,rfl,by simpa using q⟩) ⟨.bl xs.isEmpty,H,I,rfl,by simpa using q⟩
 ·obtain ⟨h1,h2⟩:=hs fun a b e1 e2=>hr ⟨a,b,e1,e2⟩
  exact OE pins s σ H x y v u Q I rx ry ⟨h1,by simpa using h2⟩
theorem yW {xs:List V} (hu:A.units < cLine) (I:Inv X pins σ H s) (ha:H a=some (.lst xs)) (hb:H b=some (.lst []))
  (q0:Q (.bool (!xs.isEmpty)) s):wpAny (model X.prog X.w) A (compareOp .NotEq (.ref a) (.ref b)) Q E s:=by
 obtain ⟨_,its,n,r1,e1⟩:=(show bf X.prog X.w H s.heap a (.lst xs) from I.hok a _ ha)
 obtain ⟨_,its2,n2,r2,e2⟩:=(show bf X.prog X.w H s.heap b (.lst []) from I.hok b _ hb)
 cases r2
 have l1:s.heap.IsList a its.toArray:=⟨_,e1,rfl,_,rfl⟩
 have l2:s.heap.IsList b (#[]:Array Value):=⟨_,e2,rfl,_,rfl⟩
 cases r1 with
 | nil=>
  exact SeqAt.RcNeAt.lists (e:=fun _=>true) l1 l2 rfl hu (fun i hi=>absurd hi (by simp)) _ _ _ _ (by simpa using q0)
 | cons z t=>
  exact SeqAt.RcNeAt.lists_lengths l1 l2 (by simp) hu _ _ _ _ (by simpa using q0)
theorem oY (hu:X.A.units < cLine):cg X (compareOp .NotEq) (J8 true):=by
 intro pins s σ H x y v u Q I rx ry h
 have hs:(∀ a b,x=.ref a->y=.ref b->False)->Ce x y=true/\Q (.bl (true^^decide (x=y))) H:=fun hn=>by
  cases x<;>cases y<;>first
   | exact (hn _ _ rfl rfl).elim
   | exact h
 by_cases hr:∃ a b,x=.ref a/\y=.ref b
 ·obtain ⟨a,b,rfl,rfl⟩:=hr
  obtain ⟨nu,xs,h1,h2,q⟩:=h
  cases rx;cases ry
  exact yW hu I h1 h2 ⟨.bl (!xs.isEmpty),H,I,rfl,by simpa using q⟩
 ·obtain ⟨h1,h2⟩:=hs fun a b e1 e2=>hr ⟨a,b,e1,e2⟩
  exact OF pins s σ H x y v u Q I rx ry ⟨h1,by simpa using h2⟩
def Cu (K:QZ):R2:=fun x y H Q=>match x,y with
 | .ref p,.int i=>∃ xs v,(ak K H p xs\/au K H p xs)/\ie xs i=some v/\Q v H
 | .str z,.int i=>z.length<=sizeLine/\∃ c,ie z.cps.toList i=some c/\Q (.str ⟨#[c]⟩) H
 | _,_=>False
theorem Q4 : Aw X (Cu X.K) := by
  intro e1 e2 pins s σ H x y v u Q I rx ry h hs
  cases x <;> cases y <;> first
    | exact (show False from h).elim
    | (obtain ⟨xs, w, h1 | h1, h2, h3⟩ := h
       · exact Pd e1 e2 pins s σ H _ _ v u Q I rx ry ⟨_, xs, _, w, rfl, rfl, h1, h2, h3⟩ hs
       · exact Pe e1 e2 pins s σ H _ _ v u Q I rx ry ⟨_, xs, _, w, rfl, rfl, h1, h2, h3⟩ hs)
    | (obtain ⟨h1, c, h2, h3⟩ := h; exact Pf e1 e2 pins s σ H _ _ v u Q I rx ry ⟨_, _, c, rfl, rfl, h1, h2, h3⟩ hs)
def Gy (K:QZ) (n:Bool):R2:=fun x y H Q=>match y with
 | .str j=>∃ i,x=.str i/\Q (.bl (n^^(!(Builtin.Str.occurrences j i 0 j.length 1).isEmpty))) H
 | .ref p=>∃ xs,(ak K H p xs\/au K H p xs)/\wu x=true/\xs.all wu=true/\Q (.bl (n^^Ax x xs)) H
 | _=>False
theorem Q5:cg X (compareOp .In) (Gy X.K false):=by
 intro pins s σ H x y v u Q I rx ry h
 cases y<;>first
  | exact (show False from h).elim
  | (obtain ⟨i,rfl,h2⟩:=h;exact vR pins s σ H _ _ v u Q I rx ry ⟨i,_,rfl,rfl,by simpa using h2⟩)
  | (obtain ⟨xs,h1,h2,h3,h4⟩:=h;exact wH pins s σ H _ _ v u Q I rx ry ⟨_,xs,rfl,h1,h2,h3,by simpa using h4⟩)
def Gz (K:QZ):List V->Hp->VK->Prop:=fun xs H Q=>match xs with
 | [.str y]=>y.length<=sizeLine/\Q (.int y.length) H
 | [.ref p]=>(∃ ys,(ak K H p ys\/au K H p ys)/\Q (.int ys.length) H)\/(∃ kvs,Rd H p (.dK kvs)/\Q (.int kvs.length) H)
 | _=>False
theorem vZ:iu X (.builtin "len") (Gz X.K):=by
 intro pins s σ H xs us Q I r h
 unfold Gz at h
 split at h
 ·exact lK pins s σ H _ us Q I r ⟨_,_,rfl,⟨h.1,rfl⟩,h.2⟩
 ·rcases h with ⟨ys,h1 | h1,q⟩ | ⟨kvs,h1,q⟩
  ·exact lK pins s σ H _ us Q I r ⟨_,_,rfl,.inl ⟨ys,h1,rfl⟩,q⟩
  ·exact lK pins s σ H _ us Q I r ⟨_,_,rfl,.inr ⟨ys,h1,rfl⟩,q⟩
  ·obtain ⟨u,rfl,ru⟩:=vals1 r
   cases ru
   exact PF I h1 fun t s' I'=>⟨.int kvs.length,H,I',⟨t,rfl⟩,q⟩
 ·exact h.elim
def GA (H:Hp):V->Option String
 | .ao=>some "NoneType"
 | .bl _=>some "bool"
 | .int _=>some "int"
 | .str _=>some "str"
 | .ref a=>match H a with
  | some (.lst _)=>some "list"
  | some (.tup _)=>some "tuple"
  | some (.dK _)=>some "dict"
  | _=>none
 | _=>none
def Eo (t T:String):Bool:=t==T||(t=="bool"&&T=="int")
theorem zN:∀ (K:QZ) (t T:String),t∈["NoneType","bool","int","str","list","tuple","dict"]->T∈["bool","int","str","list","tuple","dict"]->PySem.W.kitOne K (.type t) (.type T)=some (Eo t T):=by
 intro K t T h1 h2
 simp only [Qp,QA,or_false] at h1 h2
 rcases h1 with rfl | rfl | rfl | rfl | rfl | rfl | rfl<;>rcases h2 with rfl | rfl | rfl | rfl | rfl | rfl<;>rfl
def J9:List V->Hp->VK->Prop:=fun xs H Q=>match xs with
 | [x,.ty T]=>T∈["bool","int","str","list","tuple","dict"]/\∃ t,GA H x=some t/\Q (.bl (Eo t T)) H
 | _=>False
theorem vM:iu X (.builtin "isinstance") J9:=by
 intro pins s σ H xs us Q I r h
 unfold J9 at h
 split at h
 ·next x T=>
  obtain ⟨hT,t,ht,q⟩:=h
  obtain ⟨u,c,rfl,ru,rc⟩:=r.two
  cases rc
  have fin:∀ tk,EP X pins σ Q (.bool (Eo t T)) {s with toks:=tk}:=fun tk=>⟨.bl (Eo t T),H,I.tok tk,rfl,q⟩
  have tm:t∈["NoneType","bool","int","str","list","tuple","dict"]/\qa X.K H x (.type t):=by
   cases x with
   | ao=>cases ht;exact ⟨by simp,.ao⟩
   | bl b=>cases ht;exact ⟨by simp,.bl b⟩
   | int b=>cases ht;exact ⟨by simp,.int b⟩
   | str b=>cases ht;exact ⟨by simp,.str b⟩
   | ref a=>
    unfold GA at ht
    dsimp only at ht
    split at ht
    ·next e=>cases ht;exact ⟨by simp,.lst e⟩
    ·next e=>cases ht;exact ⟨by simp,.tup e⟩
    ·next e=>cases ht;exact ⟨by simp,.dK e⟩
    ·cases ht
   | _=>cases ht
  exact wG I ru tm.2 (zN _ t T tm.1 hT) fin
 ·exact h.elim
theorem rF:∀ {bs:List Bool} {us:List Value},a_ (bs.map V.bl) us->us=bs.map Value.bool
 | [],_,.nil=>rfl
 | b::bs,_,.cons r t=>by
  cases (show _=Value.bool b from r)
  rw [rF t];rfl
def Cv:V->Option Int->Option Int->Hp->VK->Prop:=fun x lo hi H Q=>∃ z,x=.str z/\z.length<=sizeLine/\Q (.str (Txt.slice z lo hi)) H
theorem Q6:ur X Cv:=by
 intro pins s σ H x v vl vu lo hi sl Q I rx hs pl pu h
 obtain ⟨z,rfl,hz,q⟩:=h
 obtain ⟨t,rfl⟩:=(show ∃ t,v=Value.str z t from rx)
 refine ⟨"str",_,F.slot_str_getitem.lookup,typeIs_str _ _ _,?_⟩
 have J_:∀ {w:Value} {o:Option Int},IsPart w o->∃ l:Option (Int×Tok),w=partValue l/\l.map (·.1)=o:=fun {w o} p=>by
  cases p with
  | none=>exact ⟨none,rfl,rfl⟩
  | int k t=>exact ⟨some (k,t),rfl,rfl⟩
 obtain ⟨l,e1,e2⟩:=J_ pl
 obtain ⟨u,e3,e4⟩:=J_ pu
 subst e1 e3
 obtain ⟨o,ho,hc,hd⟩:=hs
 refine wpAny_getItem_str_slice (l:=l) (u:=u) (st:=none) ⟨o,ho,hc,hd⟩ rfl ?_
 refine post_val_or_str ⟨Nat.le_trans (Txt.slice_le z _ _) hz,fun t' k=>?_⟩
 show EP X pins σ Q (.str (Txt.slice z (l.map (·.1)) (u.map (·.1))) t') _
 rw [e2,e4]
 exact ⟨.str (Txt.slice z lo hi),H,I.tok k,⟨t',rfl⟩,q⟩
def Ep (z:Str):It:=⟨fun i _=>i < z.cps.size,fun i H x H'=>H'=H/\∃ c,z.cps[i]? =some c/\x=.str ⟨#[c]⟩,fun i _=>z.cps.size=i⟩
theorem sM {K:QZ} {z:Str} {St:Nat->Heap->Prop} (W:∀ A':Around,A'.handled=none->Walks P w A' it [it] [it] z.cps.size (SignAt z) St)
  (GB:∀ (A:Around) (i:Nat) (s:Shared) (Q:Value->Shared->Prop) (E:Value->Shared->Prop),St i s.heap->Q (.ref it) s->wpAny (model P w) A (pyIter (.ref it)) Q E s)
  (hg:∀ i h,St i h->∃ o n vs,h.get? it=some o/\o.cls=.type n/\o.data=.fields vs/\["enumerate","zip","dict_itemiterator","dict_reverseitemiterator","odict_iterator","itertools.zip_longest","itertools.pairwise"].contains n=false):Turn P w K tg (Ep z) [it] it St where
 mem:=by simp
 obj:=fun i h st b hb=>by
  have e:b=it:=by simpa using hb
  subst e
  obtain ⟨o,n,vs,e,c,d,_⟩:=hg i h st
  exact ⟨o,e,fun v z=>by rw [d] at z;cases z⟩
 keep:=fun i h h' st k=>(W {} rfl).frame _ _ _ st k
 item:=by
  intro X hP hw hK hc i pins s σ H E I hf st GC
  subst hP hw hK
  obtain ⟨f0,f1,f2,f3,f4,f5⟩:=hf it (by simp)
  refine (W X.A (I.ok.hd hc)).item i s _ _ GC st fun v h' tk hv st' kk=>?_
  obtain ⟨c,t,qi,rfl⟩:=hv
  have I1:Inv X pins σ H {s with heap:=h',toks:=tk}:=I.turned (fun b o hb e=>kk b o (by simpa using hb) e) f0 f1 f3 f4 f5
  obtain ⟨o,n,vs,e,c',d,nn⟩:=hg _ _ st'
  exact ⟨_,rfl,jX (s:={s with heap:=h',toks:=tk}) e c' d nn ⟨.str ⟨#[c]⟩,H,I1,⟨t,rfl⟩,⟨rfl,c,qi,rfl⟩,st',fun b hb=>(hf b hb).1⟩⟩
 done:=by
  intro X hP hw hK hc i pins s σ H E I hf st GC
  subst hP hw hK
  obtain ⟨f0,f1,f2,f3,f4,f5⟩:=hf it (by simp)
  have e:z.cps.size=i:=GC
  subst e
  exact (W X.A (I.ok.hd hc)).done s _ _ st fun h' tk kk=>⟨rfl,I.turned (fun b o hb e=>kk b o (by simpa using hb) e) f0 f1 f3 f4 f5⟩
 self:=GB
def be (P:Program) (w:World) (K:QZ) (mg:Str->Option Value) (base:Heap) (k:Nat) (x:Str) (ps:List Str) (sp:Sp):Prop:=
 ∃ (f:Addr) (fd:FuncData),kg P w K mg base q_ k f fd ps sp/\mg x=some (.ref f)/\PySem.W.keepIn K (.ref f)=true/\Binds K fd ps []/\∃ (oc:Value) (od:Option Addr) (ia:Array (Option Value)),K.lookup f=some ⟨oc,od,.func fd,ia⟩
section
variable {k:Nat} {sp:Sp} {p pos:Pos} {t:TA}
theorem Q7 (F:be X.prog X.w X.K X.mg X.base k x ps sp) (hr:c_ k X.A) (ha:PA X (e::es) t) (hg:Gl X x:=by rfl) (e_:(x==("__debug__":Str))=false:=by decide)
  (he:starEach (e::es) X.env=(false,eval e X.env)::starEach es X.env:=by rfl) (hpl:(backTo pos (starEach es X.env)).any (·.1)=false:=by rfl):
  PE X (.Call (.Name x p) (e::es) [] pos) (D_ sp [] E0 t):=by
 obtain ⟨f,fd,G,Q8,kp,b,_⟩:=F
 exact zH G hr hg Q8 kp b .nil J6 ha e_ he hpl
end
def iD (K:QZ) (tl:TE):TI:=fun σ H R=>tl σ H fun x H1=>match x with
 | .ref a=>((∃ xs,ak K H1 a xs)/\R (FZ K a) H1)\/((∃ xs,au K H1 a xs)/\R (F0 K a) H1)
 | .str z=>R (Ep z) H1
 | _=>False
theorem Q9 {l:Expr} {tl:TE} (hl:PE X l tl):PI X tg l (iD X.K tl):=by
 intro pins s σ H R I h
 refine aj (hl pins s σ H _ I h) ?_
 rintro v s1 ⟨x,H1,I1,r1,q1⟩
 cases x with
 | ref a=>
  cases r1
  rcases q1 with ⟨⟨xs,hq⟩,q⟩ | ⟨⟨xs,hq⟩,q⟩
  ·obtain ⟨its,rv,p,hz⟩:=I1.list hq
   refine wpAny_pyIter_list p.isList ?_
   refine ⟨s1.heap.objs.size,[s1.heap.objs.size],_,_,H1,rfl,I1.kept (t':=s1.toks) fun b o e=>Qc _ e,uY a _,⟨_,Qd _ rfl,rfl,rfl⟩,fun b hb=>?_,q⟩
   have e:b=s1.heap.objs.size:=by simpa using hb
   subst e
   exact I1.pq (Qy _) (I1.hok.fresh (Qy _))
  ·obtain ⟨its,rv,p,hz⟩:=I1.tuple hq
   refine wpAny_pyIter_tuple (show s1.heap.IsTuple a its.toArray from p) ?_
   refine ⟨s1.heap.objs.size,[s1.heap.objs.size],_,_,H1,rfl,I1.kept (t':=s1.toks) fun b o e=>Qc _ e,tQ a _,⟨_,Qd _ rfl,rfl,rfl⟩,fun b hb=>?_,q⟩
   have e:b=s1.heap.objs.size:=by simpa using hb
   subst e
   exact I1.pq (Qy _) (I1.hok.fresh (Qy _))
 | str z=>
  obtain ⟨t,rfl⟩:=(show ∃ t,v=Value.str z t from r1)
  have q:R (Ep z) H1:=q1
  have fin:∀ (o:Obj) (n:String) (W:∀ A':Around,A'.handled=none->Walks X.prog X.w A' s1.heap.objs.size [s1.heap.objs.size] [s1.heap.objs.size] z.cps.size (SignAt z) (fun i h=>h.IsStrIter s1.heap.objs.size n z t i)),
    (∀ (A:Around) (i:Nat) (s:Shared) (Q:Value->Shared->Prop) (E:Value->Shared->Prop),s.heap.IsStrIter s1.heap.objs.size n z t i->Q (.ref s1.heap.objs.size) s->wpAny (model X.prog X.w) A (pyIter (.ref s1.heap.objs.size)) Q E s)->
    ["enumerate","zip","dict_itemiterator","dict_reverseitemiterator","odict_iterator","itertools.zip_longest","itertools.pairwise"].contains n=false->
    (s1.heap.push o).IsStrIter s1.heap.objs.size n z t 0->yu X pins σ tg R (.ref s1.heap.objs.size) {s1 with heap:=s1.heap.push o}:=by
   intro o n W GB hn st
   refine ⟨s1.heap.objs.size,[s1.heap.objs.size],_,_,H1,rfl,I1.kept (t':=s1.toks) fun b o e=>Qc _ e,sM W GB (fun i h st=>?_),st,fun b hb=>?_,q⟩
   ·obtain ⟨o,e,c,d⟩:=st
    exact ⟨o,n,_,e,c,d,hn⟩
   ·have e:b=s1.heap.objs.size:=by simpa using hb
    subst e
    exact I1.pq (Qy _) (I1.hok.fresh (Qy _))
  cases ha:z.cps.all (· < 128)
  ·exact wpAny_pyIter_wide ha (fin _ _ (fun A' hA=>Walks.strWide hA _ z t) (fun A i s Q E st h=>wpAny_pyIter_striter_wide st h) (by decide) ⟨_,Qd _ rfl,rfl,rfl⟩)
  ·exact wpAny_pyIter_ascii ha (fin _ _ (fun A' hA=>Walks.strAscii hA _ z t) (fun A i s Q E st h=>wpAny_pyIter_striter_ascii st h) (by decide) ⟨_,Qd _ rfl,rfl,rfl⟩)
 | _=>exact (show False from q1).elim
def rg (J:It) (ok:Hp->Prop) (n:Nat) (item:Nat->V):Prop:=
 ∀ H,ok H->(∀ i,i < n->J.go i H/\∀ x H',J.h_ i H x H'->H'=H/\x=item i)/\J.stop n H
theorem cK {K:QZ} (xs:List V):rg (FZ K a) (fun H=>ak K H a xs) xs.length (fun i=>xs.getD i .ao):=fun H ok=>
 ⟨fun i hi=>⟨⟨xs,xs[i],ok,by simp [hi]⟩,fun x H' ⟨e,y⟩=>⟨e,by
  have:=y xs ok
  show x=xs.getD i V.ao
  rw [Qb,this];rfl⟩⟩,⟨xs,ok,Qy _⟩⟩
theorem gI {K:QZ} (xs:List V):rg (F0 K a) (fun H=>au K H a xs) xs.length (fun i=>xs.getD i .ao):=fun H ok=>
 ⟨fun i hi=>⟨⟨xs,xs[i],ok,by simp [hi]⟩,fun x H' ⟨e,y⟩=>⟨e,by
  have:=y xs ok
  show x=xs.getD i V.ao
  rw [Qb,this];rfl⟩⟩,⟨xs,ok,Qy _⟩⟩
theorem cQ (lo:Int) (n:Nat):rg (DZ lo n) (fun _=>True) n (fun i=>.int (lo+i)):=fun H _=>
 ⟨fun i hi=>⟨hi,fun x H' ⟨e,y⟩=>⟨e,y⟩⟩,Qy _⟩
theorem Q_ (z:Str):rg (Ep z) (fun _=>True) z.cps.size (fun i=>.str ⟨#[z.cps.getD i 0]⟩):=fun H _=>
 ⟨fun i hi=>⟨hi,fun x H' ⟨e,c,h1,h2⟩=>⟨e,by show x=V.str ⟨#[z.cps.getD i 0]⟩;rw [h2,Array.getD_eq_getD_getElem?,h1];rfl⟩⟩,rfl⟩
theorem eW {J:It} {ok:Hp->Prop} {item:Nat->V} {g:TG} {tc:TC} {τ0:St} {D:Addr} {Q:Hp->Prop} (hJ:rg J ok n item) (Pv:Nat->St->Hp->Prop) (h0:Pv 0 τ0 H0)
  (hok:∀ i τ H,i<=n->Pv i τ H->ok H)
  (hs:∀ i τ H,i < n->Pv i τ H->g (item i) τ H fun τ2 H2=>tc τ2 H2 fun b H3=>if b=true then te τ2 H3 fun y H4=>∃ xs,H4 D=some (.lst xs)/\xs.length < sizeLine/\Pv (i+1) τ2 (upd H4 D (.lst (xs++[y]))) else Pv (i+1) τ2 H3)
  (hd:∀ τ H,Pv n τ H->Q H):∃ W:Nat->Nat->St->Hp->Prop,(∃ m,W 0 m τ0 H0)/\∀ i m τ H,W i m τ H->
   (J.stop i H/\Q H)\/(J.go i H/\∃ N:St->Hp->Prop,(∀ τ' H',N τ' H'->∃ m',m' < m/\W (i+1) m' τ' H')/\∀ x H',J.h_ i H x H'->g x τ H' fun τ2 H2=>tc τ2 H2 fun b H3=>
    if b=true then te τ2 H3 fun y H4=>∃ xs,H4 D=some (.lst xs)/\xs.length < sizeLine/\N τ2 (upd H4 D (.lst (xs++[y]))) else N τ2 H3):=by
 refine ⟨fun i m τ H=>m=n - i/\i<=n/\Pv i τ H,⟨n,by simp,Nat.zero_le _,h0⟩,?_⟩
 rintro i m τ H ⟨rfl,hi,p⟩
 obtain ⟨k1,k2⟩:=hJ H (hok i τ H hi p)
 by_cases aq:i < n
 ·refine .inr ⟨(k1 i aq).1,Pv (i+1),fun σ' H' p'=>⟨n - (i+1),by omega,rfl,aq,p'⟩,fun x H' y=>?_⟩
  obtain ⟨e,e2⟩:=(k1 i aq).2 x H' y
  subst e e2
  exact hs i τ _ aq p
 ·have e:i=n:=by omega
  subst e
  exact .inl ⟨k2,hd τ H p⟩
theorem cT {J:It} {ok:Hp->Prop} {item:Nat->V} {g:TG} {tb:TS} {D:Ends} (hJ:rg J ok n item) (Pv:Nat->St->Hp->Prop) (h0:Pv 0 σ H) (hok:∀ i τ H,i<=n->Pv i τ H->ok H)
  (hs:∀ i σ H,i < n->Pv i σ H->g (item i) σ H fun σ2 H2=>tb {D with nx:=Pv (i+1),ct:=Pv (i+1),bk:=D.nx} σ2 H2) (hd:∀ σ H,Pv n σ H->D.nx σ H):
  ∃ W:Nat->Nat->St->Hp->Prop,(∃ m,W 0 m σ H)/\∀ i m σ H,W i m σ H->
   (J.stop i H/\D.nx σ H)\/(J.go i H/\∃ N:St->Hp->Prop,(∀ σ' H',N σ' H'->∃ m',m' < m/\W (i+1) m' σ' H')/\∀ x H',J.h_ i H x H'->g x σ H' fun σ2 H2=>tb {D with nx:=N,ct:=N,bk:=D.nx} σ2 H2):=by
 refine ⟨fun i m σ H=>m=n - i/\i<=n/\Pv i σ H,⟨n,by simp,Nat.zero_le _,h0⟩,?_⟩
 rintro i m σ H ⟨rfl,hi,p⟩
 obtain ⟨k1,k2⟩:=hJ H (hok i σ H hi p)
 by_cases aq:i < n
 ·refine .inr ⟨(k1 i aq).1,Pv (i+1),fun σ' H' p'=>⟨n - (i+1),by omega,rfl,aq,p'⟩,fun x H' y=>?_⟩
  obtain ⟨e,e2⟩:=(k1 i aq).2 x H' y
  subst e e2
  exact hs i σ _ aq p
 ·have e:i=n:=by omega
  subst e
  exact .inl ⟨k2,hd σ H p⟩
def di (K:QZ) (mg:Str->Option Value) (x:Str) (st:Stmt) (ps:List Str):Prop:=∃ (f:Addr) (fd:FuncData),xx K x x st f fd/\mg x=some (.ref f)/\Binds K fd ps []
theorem di.ok {P:Program} {w:World} {K:QZ} {mg:Str->Option Value} {base:Heap} {x:Str} {st:Stmt} {N ps:List Str} {k:Nat} {sp:Sp} (F:di K mg x st ps) (S:dc N ps (az st)) (len:∀ vs H Q E,sp vs H Q E->vs.length=ps.length)
  (qb:∀ (f:Addr) (av:Value) (A:Around) (outer:List Env) (s:Shared) (H:Hp) (vs:List V) (Q:VK) (E:XK),c_ k (A.deeper (envOfC x (az st) s.heap.objs.size f av))->sp vs H Q E->
   ∃ t,jz (jd q_ P w K mg base N x (az st) f av A outer s H E).qx (ig st) t/\t {nx:=fun _ H'=>Q .ao H',rt:=Q} (start N vs) H):be P w K mg base (k+1) x ps sp:=by
 obtain ⟨f,fd,Fu,m,b⟩:=F
 exact ⟨f,fd,Fu.ok S len (qb f),m,Fu.kp,b,let ⟨oc,od,_,_,_,_,_,_,ia,_,lk,_⟩:=Fu.ex;⟨oc,od,ia,lk⟩⟩
section
variable {pos:Pos}
theorem Ra {v:V} (h:∃ u,X.mg x=some u/\RelV v u) (hg:Gl X x:=by rfl) (hd:(x==("__debug__":Str))=false:=by decide):PE X (.Name x pos) (tC v):=by
 obtain ⟨u,h1,h2⟩:=h
 exact kL hg h1 h2 hd
def Er (K:QZ) (xs:List V):TE:=fun _ H Q=>∀ a,au K H a xs->Q (.ref a) H
theorem Rb {xs:List V} (h:∃ a,X.mg x=some (.ref a)/\∀ H,au X.K H a xs) (hg:Gl X x:=by rfl) (hd:(x==("__debug__":Str))=false:=by decide):PE X (.Name x pos) (Er X.K xs):=by
 obtain ⟨a,h1,h2⟩:=h
 intro pins s σ H Q I q
 exact kL (v:=.ref a) hg h1 rfl hd pins s σ H Q I (q a (h2 H))
theorem Rc:ur X (fun x lo hi H Q=>Cv x lo hi H Q\/(Cm X.K x lo hi H Q\/Ck X.K x lo hi H Q)):=Q6.or (Pj.or O7)
end
section
variable (K:QZ)
theorem bG (h:X.K=K:=by rfl):Aw X (Cu K):=by rw [<- h];exact Q4
theorem Rf (h:X.K=K:=by rfl):cg X (compareOp .In) (Gy K false):=by rw [<- h];exact Q5
theorem cR (h:X.K=K:=by rfl):iu X (.builtin "len") (Gz K):=by rw [<- h];exact vZ
theorem GD (h:X.K=K:=by rfl):ur X (fun x lo hi H Q=>Cv x lo hi H Q\/(Cm K x lo hi H Q\/Ck K x lo hi H Q)):=by rw [<- h];exact Rc
theorem Rg {l:Expr} {tl:TE} (hl:PE X l tl) (h:X.K=K:=by rfl):PI X tg l (iD K tl):=by rw [<- h];exact Q9 hl
theorem Rh {pos:Pos} {xs:List V} (hx:∃ a,X.mg x=some (.ref a)/\∀ H,au K H a xs) (h:X.K=K:=by rfl) (hg:Gl X x:=by rfl) (hd:(x==("__debug__":Str))=false:=by decide):PE X (.Name x pos) (Er K xs):=by
 subst h;exact Rb hx hg hd
theorem Ri {k:Nat} {t:uh} {pos:Pos} (hc:X.calm=true) (hh:Bd X es t) (h:X.K=K:=by rfl)
  (hn:(assignEach es X.env).length=n:=by rfl) (ef:(assignEach es X.env).findIdx? (·.1)=none:=by rfl):PG X (.Tuple es k pos) (yt K n t):=by
 subst h;exact Oh hc hh hn ef
theorem Rj {id:String} {r:V->List V->Hp->VK->Prop} {o:Expr} {t:TA} (pa:PlainAttrs T) (slot:Slot T name id) (Cn:typeOf (.builtin id)=pure (.type "method_descriptor")) (hm:Eg X id r) (ho:PE X o to) (ha:PA X (e::es) t) (h:X.K=K:=by rfl)
  (qc:attributeBase o name X.env (eval o X.env)=eval o X.env:=by rfl)
  (Co:((backTo cpos (starEach (e::es) X.env)).all (fun x=> !x.1)&&(backToKw cpos (keywordEach [] X.env)).all (fun x=>x.1.isSome)
   &&decide ((e::es).length+([]:List Keyword).length+(if ([]:List Keyword).isEmpty then 0 else 1) < 30))=true:=by rfl)
  (qd:(apos.endLine==cpos.line)=true:=by rfl) (hs:starEach (e::es) X.env=(false,eval e X.env)::starEach es X.env:=by rfl) (Cp:(backTo cpos (starEach es X.env)).any (·.1)=false:=by rfl):
  PE X (.Call (.Attribute o name apos) (e::es) [] cpos) (F7 K T r to t):=by
 subst h;exact Pp pa slot Cn hm ho ha qc Co qd hs Cp
end
structure SE (X:Cx) (e:Expr) (t:TE):Prop where
 h:PE X e t
structure ST (X:Cx) (e:Expr) (t:TT):Prop where
 h:PT X e t
structure SW (X:Cx) (e:Expr) (t:TT):Prop where
 h:PW X e t
structure SA (X:Cx) (es:List Expr) (t:TA):Prop where
 h:PA X es t
structure SS (X:Cx) (s:Stmt) (t:TS):Prop where
 h:PS X s t
structure SB (X:Cx) (s:List Stmt) (t:TS):Prop where
 h:jz X s t
structure SG (X:Cx) (e:Expr) (t:TG):Prop where
 h:PG X e t
structure Es (X:Cx) (e:List Expr) (t:uh):Prop where
 h:Bd X e t
structure SI (X:Cx) (tg e:Expr) (t:TI):Prop where
 h:PI X tg e t
structure SC (X:Cx) (e:List Expr) (t:TC):Prop where
 h:nq X e t
structure SO (X:Cx) (e:Option Expr) (t:TO):Prop where
 h:PO X e t
structure Et (X:Cx) (pos:Pos) (keys:List (Option Expr)) (values:List Expr) (nc:List (TE×TE)):Prop where
 h:Cq X pos keys values nc
section
variable {t:TA} {c:Const} {gq:Pos} {n:Str} {l_:List Expr} {f0 a0 b0 c0:Expr} {J':List Keyword} {o0:Operator} {X3:List (Option Expr)} {Eu:List Comprehension} {Ew:Scope} {u0:UnaryOp} {X4:BoolOp} {Ka:List CmpOp}
theorem aC:SA X [] kc:=⟨OW⟩
theorem aB (ha:SE X (.Constant c j gq) te) (hr:SA X es t):SA X (.Constant c j gq::es) (dw te t):=⟨cX ha.h hr.h⟩
theorem aD (ha:SE X (.Name n gq) te) (hr:SA X es t):SA X (.Name n gq::es) (dw te t):=⟨cX ha.h hr.h⟩
theorem iW (ha:SE X (.List l_ gq) te) (hr:SA X es t):SA X (.List l_ gq::es) (dw te t):=⟨cX ha.h hr.h⟩
theorem aG (ha:SE X (.Tuple l_ j gq) te) (hr:SA X es t):SA X (.Tuple l_ j gq::es) (dw te t):=⟨cX ha.h hr.h⟩
theorem aY (ha:SE X (.Call f0 l_ J' gq) te) (hr:SA X es t):SA X (.Call f0 l_ J' gq::es) (dw te t):=⟨cX ha.h hr.h⟩
theorem dW (ha:SE X (.BinOp a0 o0 b0 gq) te) (hr:SA X es t):SA X (.BinOp a0 o0 b0 gq::es) (dw te t):=⟨cX ha.h hr.h⟩
theorem aQ (ha:SE X (.Subscript a0 b0 gq) te) (hr:SA X es t):SA X (.Subscript a0 b0 gq::es) (dw te t):=⟨cX ha.h hr.h⟩
theorem cC (ha:SE X (.ListComp a0 Eu Ew gq) te) (hr:SA X es t):SA X (.ListComp a0 Eu Ew gq::es) (dw te t):=⟨cX ha.h hr.h⟩
theorem tF (ha:SE X (.Compare a0 Ka l_ gq) te) (hr:SA X es t):SA X (.Compare a0 Ka l_ gq::es) (dw te t):=⟨cX ha.h hr.h⟩
theorem jV (ha:SE X (.DictComp a0 b0 Eu Ew gq) te) (hr:SA X es t):SA X (.DictComp a0 b0 Eu Ew gq::es) (dw te t):=⟨cX ha.h hr.h⟩
end
section
variable {a b c o i value lo hi iter elt:Expr} {tb tc td ty tv:TE} {t:TA} {pos p p2 pos' gq:Pos}
theorem zv (i:Nat) {pos:Pos} (hN:X.N[i]? =some x:=by rfl) (hv:Cc X.env.scope x:=by first | exact Or.inl rfl | exact Or.inr (Or.inl rfl) | exact Or.inr (Or.inr rfl)) (hd:(x==("__debug__":Str))=false:=by decide) (jp:(x==("__classdict__":Str))=false:=by decide):SE X (.Name x pos) (tV i):=⟨QN i hN hv hd jp⟩
theorem pJ {v:V} (h:∃ u,X.mg x=some u/\RelV v u) (hg:Gl X x:=by rfl) (hd:(x==("__debug__":Str))=false:=by decide):SE X (.Name x pos) (tC v):=⟨Ra h hg hd⟩
theorem Rk (K:QZ) {xs:List V} (hx:∃ a,X.mg x=some (.ref a)/\∀ H,au K H a xs) (h:X.K=K:=by rfl) (hg:Gl X x:=by rfl) (hd:(x==("__debug__":Str))=false:=by decide):SE X (.Name x pos) (Er K xs):=⟨Rh K hx h hg hd⟩
theorem z5 {v:V} (hg:Gl X x) (hm:X.mg x=none) (hv:bootBuiltins x=some u) (r:RelV v u) (hn:x≠"__name__":=by decide) (hd:(x==("__debug__":Str))=false:=by decide):SE X (.Name x pos) (tC v):=⟨NY hg hm hv r hn hd⟩
theorem x4 {j}:SE X (.Constant .none j pos) (tC .ao):=⟨NW⟩
theorem iX {b:Bool} {j}:SE X (.Constant (.bool b) j pos) (tC (.bl b)):=⟨NV⟩
theorem aK {i:Int} {j}:SE X (.Constant (.int i) j pos) (tC (.int i)):=⟨NU⟩
theorem aI {j}:SE X (.Constant (.str x) j pos) (tC (.str x)):=⟨NX⟩
theorem bQ {op:Operator} {r:R2} (ho:cg X (binaryOp op) r) (ha:SE X a ta) (hb:SE X b tb):SE X (.BinOp a op b pos) (qy r ta tb):=⟨Oo ho ha.h hb.h⟩
theorem Kc {op:UnaryOp} {r:V->Hp->VK->Prop} (ho:D0 X (unaryOp op) r) (ha:SE X a ta):SE X (.UnaryOp op a pos) (JH r ta):=⟨Oq ho ha.h⟩
theorem Rl (ha:SE X a ta):SE X (.UnaryOp .Not a pos) (Jz ta):=⟨Oa ha.h⟩
theorem Rm {op} (h:SE X a ta):SE X (.BoolOp op [a] pos) ta:=⟨N9 h.h⟩
theorem Rn (ha:SE X a ta) (hb:SE X (.BoolOp .And (b::rest) pos) tb):SE X (.BoolOp .And (a::b::rest) pos) (Jy ta tb):=⟨N_ ha.h hb.h⟩
theorem rW {r:R2} (ho:cg X (compareOp op) r) (ha:SE X a ta) (hb:SE X b tb) (hm:behindInMarks op b=false):SE X (.Compare a [op] [b] pos) (qy r ta tb):=⟨zP ho ha.h hb.h hm⟩
theorem aX {r:R2} (ho:cg X (compareOp op) r) (ha:SE X a ta) (hb:SE X b tb) (hm:behindInMarks op b=false):ST X (.Compare a [op] [b] pos) (F2 (qy r ta tb)):=⟨OM ho ha.h hb.h hm⟩
theorem jW (h:SE X e te) (he:∀ whole,isTrue e X.env whole=(do let v <- whole;standAt e.pos;holding [v] (truthy v)):=by intro _;rfl):ST X e (tB te):=⟨N1 h.h he⟩
theorem lQ {tA:TT} (ha:ST X a tA):ST X (.UnaryOp .Not a pos) (Jx tA):=⟨N7 ha.h⟩
theorem tE {tA:TT} (ha:ST X a tA):SW X (.BoolOp .And [a] pos) tA:=⟨N3 ha.h⟩
theorem Kd {tA:TT} (ha:ST X a tA):SW X (.BoolOp .Or [a] pos) tA:=⟨N4 ha.h⟩
theorem wW {tA wc:TT} (ha:ST X a tA) (hb:SW X (.BoolOp .And (b::rest) pos) wc):SW X (.BoolOp .And (a::b::rest) pos) (Jv tA wc):=⟨N5 ha.h hb.h⟩
theorem GF {tA wc:TT} (ha:ST X a tA) (hb:SW X (.BoolOp .Or (b::rest) pos) wc):SW X (.BoolOp .Or (a::b::rest) pos) (Jw tA wc):=⟨N6 ha.h hb.h⟩
theorem SW.pt {tA:TT} (h:SW X e tA):ST X e tA:=⟨h.h.pt⟩
theorem bL (h:SA X es t):SE X (.List es pos) (JL t):=⟨OY h.h⟩
theorem aO {x1} (h:SA X es t):SE X (.Tuple es x1 pos) (ng t):=⟨OX h.h⟩
theorem x3:SE X (.Dict [] [] pos) J0:=⟨xC⟩
theorem Ro:Et X pos [] [] []:=⟨zU⟩
theorem zI {ks:List (Option Expr)} {vs:List Expr} {tk tw:TE} (hk:SE X a tk) (hv:SE X b tw) (hr:Et X pos ks vs nc):Et X pos (some a::ks) (b::vs) ((tk,tw)::nc):=⟨zB hk.h hv.h hr.h⟩
theorem Rp {keys:List (Option Expr)} {values:List Expr} (h:Et X pos keys values nc) (jr:keys.all (·.isSome)=true) (hl:keys.length=values.length) (h0:keys≠[]) (F9:keys.length<=15):SE X (.Dict keys values pos) (J1 nc):=⟨PL h.h jr hl h0 F9⟩
theorem Rq {tA:TT} (hc:ST X c tA) (ha:SE X a ta) (hb:SE X b tb):SE X (.IfExp c a b pos) (JA tA ta tb):=⟨yK hc.h ha.h hb.h⟩
theorem nX:SO X none Eb:=⟨zM⟩
theorem oX (h:SE X e te):SO X (some e) (Ec te):=⟨O6 h.h⟩
theorem nU {r:V->Option Int->Option Int->Hp->VK->Prop} {l u:Option Expr} {tl th:TO} (hr:ur X r) (he:SE X e te) (hl:SO X l tl) (hu:SO X u th):SE X (.Subscript e (.Slice l u none p2) pos) (Ed r te tl th):=⟨z9 hr he.h hl.h hu.h⟩
theorem cE (hu:X.A.units+1 < cLine) (ho:SE X o td) (hi:SE X i ty) (hs:Ei i):SE X (.Subscript o i pos) (JY td ty):=⟨PJ hu ho.h hi.h hs⟩
theorem bH {r:R2} (hr:Aw X r) (ha:SE X a ta) (hb:SE X b tb) (hs:JS b):SE X (.Subscript a b pos) (qy r ta tb):=⟨O_ hr ha.h hb.h hs⟩
theorem bF {k:Nat} {sp:Sp} (F:be X.prog X.w X.K X.mg X.base k x ps sp) (hr:c_ k X.A) (ha:SA X (e::es) t) (hg:Gl X x:=by rfl) (e_:(x==("__debug__":Str))=false:=by decide)
  (he:starEach (e::es) X.env=(false,eval e X.env)::starEach es X.env:=by rfl) (hpl:(backTo pos (starEach es X.env)).any (·.1)=false:=by rfl):
  SE X (.Call (.Name x p) (e::es) [] pos) (D_ sp [] E0 t):=⟨Q7 F hr ha.h hg e_ he hpl⟩
theorem bC {id:String} {r:List V->Hp->VK->Prop} (hc:iu X (.builtin id) r) (hg:Gl X x) (hm:X.mg x=none) (hv:bootBuiltins x=some (.builtin id)) (ha:SA X (e::es) t) (hn:x≠"__name__":=by decide) (e_:(x==("__debug__":Str))=false:=by decide)
  (he:starEach (e::es) X.env=(false,eval e X.env)::starEach es X.env:=by rfl) (hpl:(backTo pos (starEach es X.env)).any (·.1)=false:=by rfl):SE X (.Call (.Name x p) (e::es) [] pos) (Bj r t):=⟨zA hc hg hm hv ha.h hn e_ he hpl⟩
theorem rT (K:QZ) {id:String} {r:V->List V->Hp->VK->Prop} (pa:PlainAttrs T) (slot:Slot T name id) (Cn:typeOf (.builtin id)=pure (.type "method_descriptor")) (hm:Eg X id r) (ho:SE X o to) (ha:SA X (e::es) t) (h:X.K=K:=by rfl)
  (qc:attributeBase o name X.env (eval o X.env)=eval o X.env:=by rfl)
  (Co:((backTo cpos (starEach (e::es) X.env)).all (fun x=> !x.1)&&(backToKw cpos (keywordEach [] X.env)).all (fun x=>x.1.isSome)
   &&decide ((e::es).length+([]:List Keyword).length+(if ([]:List Keyword).isEmpty then 0 else 1) < 30))=true:=by rfl)
  (qd:(apos.endLine==cpos.line)=true:=by rfl) (hs:starEach (e::es) X.env=(false,eval e X.env)::starEach es X.env:=by rfl) (Cp:(backTo cpos (starEach es X.env)).any (·.1)=false:=by rfl):
  SE X (.Call (.Attribute o name apos) (e::es) [] cpos) (F7 K T r to t):=⟨Rj K pa slot Cn hm ho.h ha.h h qc Co qd hs Cp⟩
theorem bJ:SB X [] DX:=⟨zK⟩
theorem aH {st:Stmt} {u:TS} (h1:SS X st u):SB X [st] u:=⟨Oc h1.h⟩
theorem aE {st:Stmt} {rest:List Stmt} {u v:TS} (h1:SS X st u) (h2:SB X rest v):SB X (st::rest) (xu u v):=⟨xK h1.h h2.h⟩
theorem aZ (he:SE X e te):SS X (.Return (some e) pos) (Cd te):=⟨Od he.h⟩
theorem iB (he:SE X e te) (hs:swapsWith e none pos.line X.env=pure false:=by rfl):SS X (.Expr e pos) (JB te):=⟨zJ he.h hs⟩
theorem cZ {a b:List Stmt} {tA:TT} {u v:TS} (hc:ST X c tA) (ha:SB X a u) (hb:SB X b v):SS X (.If c a b pos) (FW tA u v):=⟨Oe hc.h ha.h hb.h⟩
theorem d9 {wi:TI} {g:TG} {u:TS} (hp:PassesOwn (model X.prog X.w) X.A X.env X.xe) (hc:X.calm=true) (hi:SI X tg iter wi) (hg:SG X tg g) (hb:SB X body u) (hs:∀ x,foldedSetIterable iter X.env x=pure x:=by intro _;rfl):SS X (.For tg iter body [] pos) (JF wi g u):=⟨Om hp hc hi.h hg.h hb.h hs⟩
theorem pB {tA:TT} {u:TS} (hp:PassesOwn (model X.prog X.w) X.A X.env X.xe) (hc:ST X c tA) (hb:SB X body u):SS X (.While c body [] pos) (JD tA u):=⟨xR hp hc.h hb.h⟩
theorem aR {i:Nat} (hN:X.N.Nodup) (hi:X.N[i]? =some x) (hx:Loc X.env.scope x) (he:SE X e te) (hs:swapsWith e (some (.Name x pos')) pos.line X.env=pure false:=by rfl) (hf:X.fn x=true\/X.env.scope.names.lookup x=some .local:=by first | exact .inl rfl | exact .inr rfl | assumption):
  SS X (.Assign [.Name x pos'] e pos) (wj te (jc i)):=⟨Ol hN hi hx he.h hs hf⟩
theorem zE (hu:X.A.units+1 < cLine) (ho:SE X o td) (hi:SE X i ty) (hv:SE X value tv) (hs:swapsWith value (some (.Subscript o i pos')) pos.line X.env=pure false):SS X (.Assign [.Subscript o i pos'] value pos) (JZ td ty tv):=⟨PK hu ho.h hi.h hv.h hs⟩
theorem pS {g:TG} (he:SE X e te) (hg:SG X tg g) (hs:swapsWithSole [tg] e pos.line X.env=pure false:=by rfl) (hw:swappedStores [tg] e X.env=pure none:=by rfl)
  (h1:(assignEach [tg] X.env).map (·.2)=[assign tg X.env]:=by rfl):SS X (.Assign [tg] e pos) (wj te g):=⟨Oj he.h hg.h hs hw h1⟩
theorem aJ {i:Nat} (hN:X.N.Nodup) (hi:X.N[i]? =some x) (hx:Loc X.env.scope x) (hf:X.fn x=true\/X.env.scope.names.lookup x=some .local:=by first | exact .inl rfl | exact .inr rfl | assumption):SG X (.Name x pos) (jc i):=⟨Of hN hi hx hf⟩
theorem bD:Es X [] Be:=⟨Og⟩
theorem aL {g:TG} {u:uh} (h1:SG X e g) (h2:Es X es u) (hs:(assignEach (e::es) X.env).map (·.2)=assign e X.env::(assignEach es X.env).map (·.2):=by rfl):Es X (e::es) (wg g u):=⟨wP h1.h h2.h hs⟩
theorem bM (K:QZ) {k:Nat} {u:uh} (hc:X.calm=true) (hh:Es X es u) (h:X.K=K:=by rfl)
  (hn:(assignEach es X.env).length=n:=by rfl) (ef:(assignEach es X.env).findIdx? (·.1)=none:=by rfl):SG X (.Tuple es k pos) (yt K n u):=⟨Ri K hc hh.h h hn ef⟩
theorem yP {u:DY} (ho:SE X o td) (hi:SE X i ty) (hs:FY X u)
  (ha:∀ v,assign (.Subscript o i pos) X.env v=(do
   let ov <- holding [v] (eval o X.env)
   let iv <- holding [v,ov] (eval i X.env)
   standAt pos
   holding [v,ov,iv] (setItem ov iv v)
   release [v,ov,iv] []):=by intro _;rfl):SG X (.Subscript o i pos) (JC td ty u):=⟨Oi ho.h hi.h hs ha⟩
theorem dA (hg:Gl X "range") (hm:X.mg "range"=none) (ha:SA X [a] t) (hs:starEach [a] X.env=[(false,eval a X.env)]:=by rfl):SI X tg (.Call (.Name "range" p) [a] [] pos) (JE t):=⟨vH hg hm ha.h hs⟩
theorem nM (K:QZ) (hl:SE X e te) (h:X.K=K:=by rfl):SI X tg e (iD K te):=⟨Rg K hl.h h⟩
theorem cS:SC X [] El:=⟨P8⟩
theorem pX {tA:TT} (h:ST X c tA):SC X [c] tA:=⟨P9 h.h⟩
theorem jJ {wi:TI} {g:TG} {tt:TC} (S:ju X.env.scope X.N sc own idx N') (hc:X.calm=true) (hi:SI X tg iter wi)
  (hg:∀ cl C s3 H0 fp pn,SG (bu X N' sc cl C s3 H0 fp pn) tg g) (ht:∀ cl C s3 H0 fp pn,SC (bu X N' sc cl C s3 H0 fp pn) ifs tt) (he:∀ cl C s3 H0 fp pn,SE (bu X N' sc cl C s3 H0 fp pn) elt te)
  (hs:∀ x,foldedSetIterable iter X.env x=pure x:=by intro _;rfl):SE X (.ListComp elt [⟨tg,iter,ifs,0⟩] sc pos) (Br own idx wi g tt te):=
 ⟨Qu S hc hi.h (fun q r s t u v=>(hg q r s t u v).h) (fun q r s t u v=>(ht q r s t u v).h) (fun q r s t u v=>(he q r s t u v).h) hs⟩
theorem Ke {wi:TI} {g:TG} {tt:TC} {i:Nat} {py spos:Pos} (S:ju X.env.scope X.N sc own idx N') (hc:X.calm=true) (hi:SI X tg iter wi)
  (hg:∀ cl C s3 H0 fp pn,SG (bu X N' sc cl C s3 H0 fp pn) tg g) (ht:∀ cl C s3 H0 fp pn,SC (bu X N' sc cl C s3 H0 fp pn) ifs tt) (he:∀ cl C s3 H0 fp pn,SE (bu X N' sc cl C s3 H0 fp pn) elt te)
  (hN:X.N.Nodup) (Ct:X.N[i]? =some y) (hy:X.env.scope.names.lookup y=some .local)
  (yb:swapsWith (.ListComp elt [⟨tg,iter,ifs,0⟩] sc pos) (some (.Name y py)) spos.line X.env=pure true:=by rfl)
  (hs:∀ x,foldedSetIterable iter X.env x=pure x:=by intro _;rfl):SS X (.Assign [.Name y py] (.ListComp elt [⟨tg,iter,ifs,0⟩] sc pos) spos) (wj (Br own idx wi g tt te) (jc i)):=
 ⟨QF S hc hi.h (fun q r s t u v=>(hg q r s t u v).h) (fun q r s t u v=>(ht q r s t u v).h) (fun q r s t u v=>(he q r s t u v).h) hN Ct hy yb hs⟩
end
theorem di.fg {K:QZ} {st:Stmt} {k:Nat} {sp:Sp} (F:di K mg x st ps) (S:dc N ps (az st)) (len:∀ vs H Q E,sp vs H Q E->vs.length=ps.length)
  (qb:∀ (f:Addr) (av:Value) (A:Around) (outer:List Env) (s:Shared) (H:Hp) (vs:List V) (Q:VK) (E:XK),c_ k (A.deeper (envOfC x (az st) s.heap.objs.size f av))->sp vs H Q E->
   ∃ t,SB (jd q_ P w K mg base N x (az st) f av A outer s H E).qx (ig st) t/\t {nx:=fun _ H'=>Q .ao H',rt:=Q} (start N vs) H):be P w K mg base (k+1) x ps sp:=
 F.ok S len fun f av A outer s H vs Q E hr h=>let ⟨t,h1,h2⟩:=qb f av A outer s H vs Q E hr h;⟨t,h1.h,h2⟩
theorem Kf {kx vx target iter:Expr} {pos:Pos} {it:Value} {D:Addr} (I:Nat->Shared->Prop)
  (turn:∀ n s,I n s->wpAny (model prog w) A (pyNext it) (fun r s₁=>match r with
   | none=>R (.ok .next) s₁
   | some v=>wpAny (model prog w) A (letOwnedTupleGo target it v) (fun _ qh=>wpAny (model prog w) A (assign target env v) (fun _ s₂=>
     wpAny (model prog w) A (forIn ifs true fun c r=>if r=true then do let ok <- isTrue c env (eval c env);pure (ForInStep.yield ok) else pure (ForInStep.yield r)) (fun ok s₃=>
      if ok=true then wpAny (model prog w) A (eval kx env) (fun kv s₄=>wpAny (model prog w) A (eval vx env) (fun vv s₅=>
       wpAny (model prog w) A (dictSet D kv vv) (fun _ s₆=>∃ m,m < n/\I m s₆) ck s₅) ck s₄) ck s₃
      else ∃ m,m < n/\I m s₃) ck s₂) ck qh) ck s₁) ck s)
  (n:Nat) (h:I n s):
  codeAny (model prog w) A (.compLoop (.DictComp kx vx [⟨target,iter,ifs,0⟩] scope pos) 0 it (.ref D) env) R s:=by
 refine codeAny_loop rfl I (fun n s hI=>?_) n h
 show wpAny _ A ((compTurn (.DictComp kx vx [⟨target,iter,ifs,0⟩] scope pos) 0 it (.ref D) env).onRaise (fun x=>do noteFrame x env;theTreesLotGoes x)) _ _ s
 refine wpAny_noted ?_
 rw [compTurn_dict]
 refine QS (wpAny_standAt (QS (wpAny_mono (turn n s hI) (fun r s₁ h₁=>?_) fun _ _ h'=>h'.elim)))
 cases r with
 | none=>exact QT h₁
 | some v=>
  refine QS (wpAny_mono h₁ (fun _ qh Ay=>?_) fun _ _ h'=>h'.elim)
  refine QS (wpAny_mono Ay (fun _ s₂ h₂=>QS (wpAny_mono h₂ (fun ok s₃ h₃=>?_) fun _ _ h'=>h'.elim)) fun _ _ h'=>h'.elim)
  cases ok with
  | false=>exact QT ⟨rfl,h₃⟩
  | true=>
   exact QS (QS (wpAny_mono h₃ (fun kv s₄ h₄=>QS (wpAny_holding (wpAny_mono h₄ (fun vv s₅ h₅=>QS (wpAny_standAt (wpAny_holding (wpAny_mono h₅ (fun _ s₆ h₆=>QT ⟨rfl,h₆⟩) fun _ _ h'=>h'.elim)))) fun _ _ h'=>h'.elim))) fun _ _ h'=>h'.elim))
section
variable {iter kx vx:Expr} {pos:Pos} {wi:TI} {g:TG} {tc:TC} {tk tw:TE}
abbrev Kg:Obj:={cls:=.type "dict",data:=.dict #[]}
def Kh (own:List Str) (idx:List Nat) (wi:TI) (g:TG) (tc:TC) (tk tw:TE):TE:=fun σ H Q=>wi σ H fun J H1=>∀ D,H1 D=none->∃ W:Nat->Nat->St->Hp->Prop,(∃ m,W 0 m (nk own idx σ) (upd H1 D (.dK [])))/\∀ i m τ H,W i m τ H->
 (J.stop i H/\Q (.ref D) H)\/(J.go i H/\∃ N:St->Hp->Prop,(∀ τ' H',N τ' H'->∃ m',m' < m/\W (i+1) m' τ' H')/\∀ x H',J.h_ i H x H'->g x τ H' fun τ2 H2=>tc τ2 H2 fun b H3=>
  if b=true then tk τ2 H3 fun x H4=>tw τ2 H4 fun y H5=>∃ kvs key,x=kV key/\H5 D=some (.dK kvs)/\kvs.length < sizeLine/\N τ2 (upd H5 D (.dK (putK kvs key y))) else N τ2 H3)
theorem pP (S:ju X.env.scope X.N sc own idx N') (c1:∀ x c,cl.lookup x=some c->X.env.cells.lookup x=some c) (c2:∀ y∈sc.names,y.2=.free->∃ c,cl.lookup y.1=some c) (hc:X.calm=true)
  (hg:∀ cl C s3 H0 fp pn,PG (bu X N' sc cl C s3 H0 fp pn) tg g) (ht:∀ cl C s3 H0 fp pn,nq (bu X N' sc cl C s3 H0 fp pn) ifs tc) (he:∀ cl C s3 H0 fp pn,PE (bu X N' sc cl C s3 H0 fp pn) kx tk) (hv:∀ cl C s3 H0 fp pn,PE (bu X N' sc cl C s3 H0 fp pn) vx tw)
  {pins:List (Addr×Obj)} {σ:St} {Q:VK} {gh:Value} {s2:Shared} {RR:Value->Addr->Result->Shared->Prop} {E:Value->Shared->Prop}
  (hI:yu X pins σ tg (fun J H1=>∀ D,H1 D=none->∃ W:Nat->Nat->St->Hp->Prop,(∃ m,W 0 m (nk own idx σ) (upd H1 D (.dK [])))/\∀ i m τ H,W i m τ H->
   (J.stop i H/\Q (.ref D) H)\/(J.go i H/\∃ N:St->Hp->Prop,(∀ τ' H',N τ' H'->∃ m',m' < m/\W (i+1) m' τ' H')/\∀ x H',J.h_ i H x H'->g x τ H' fun τ2 H2=>tc τ2 H2 fun b H3=>
    if b=true then tk τ2 H3 fun x H4=>tw τ2 H4 fun y H5=>∃ kvs key,x=kV key/\H5 D=some (.dK kvs)/\kvs.length < sizeLine/\N τ2 (upd H5 D (.dK (putK kvs key y))) else N τ2 H3)) gh s2)
  (Az:∀ D C H' s',Inv X pins σ H' s'->Q (.ref D) H'->(H' C=none/\C≠X.env.locals/\X.s₀.heap.objs.size<=C/\(∀ x c,X.env.cells.lookup x=some c->c≠C)/\(∀ p∈X.pn++pins,p.1≠C)/\∃ m,s'.heap.Ns C m)->RR (.ref D) C (.ok .next) s'):
  wpAny (model X.prog X.w) X.A newDict (fun acc s₃=>wpAny (model X.prog X.w) X.A (newFunctionEnv sc X.env.globals cl [] X.env.qual none .none (some X.env)) (fun cenv s₄=>
   codeAny (model X.prog X.w) X.A (.compStart (.DictComp kx vx [⟨tg,iter,ifs,0⟩] sc pos) 0 gh acc {cenv with scope:=relabel sc X.env}) (RR acc cenv.locals) s₄) E s₃) E s2:=by
 refine kW (ob:=Kg) (sel:=fun env D s K=>wpAny (model X.prog X.w) X.A (eval kx env) (fun kv s₄=>wpAny (model X.prog X.w) X.A (eval vx env) (fun vv s₅=>wpAny (model X.prog X.w) X.A (dictSet D kv vv) (fun _ s₆=>K s₆) ck s₅) ck s₄) ck s) (o0:=.dK []) (el:=fun D τ H K=>tk τ H fun x H4=>tw τ H4 fun y H5=>∃ kvs key,x=kV key/\H5 D=some (.dK kvs)/\kvs.length < sizeLine/\K (upd H5 D (.dK (putK kvs key y)))) S c1 c2 hc (hob:=rfl)
  (fun it D env R s I turn n h=>Kf I turn n h) (fun h k=>aj h fun _ _ h=>aj h fun _ _ h=>aj h fun _ _ h=>k _ h) (fun _ _ _ _ _=>codeAny_compStart_dict) hg ht (fun cl C s3 H0 fp pn pins s τ H D N I q=>?_) (fun Q E h=>wpAny_newObj_type h)
  (fun H' I H h e=>⟨Nat.zero_le _,beq_eq_false_iff_ne.mpr (Ne.symm (Nat.ne_of_lt I.big)),[],.nil,(Heap.DictOf.new s2.heap).at fun o eo=>by rw [Qd _ rfl] at eo;cases eo;exact e⟩) hI Az
 refine aj (he cl C s3 H0 fp pn _ s τ H _ I q) fun kv s8 ⟨x8,H8,I8,r8,q8⟩=>aj (hv cl C s3 H0 fp pn _ s8 τ H8 _ I8 q8) fun yv s9 ⟨y9,H9,I9,r9,kvs,key,ek,Bs,hz,n9⟩=>?_
 subst ek
 obtain ⟨z,hd,vs,rel,dd⟩:=uK I9.hok Bs
 have AA:vs.length<=sizeLine:=by rw [<- rel.length];exact z
 have fq:(putK kvs key y9).length<=sizeLine:=by have:=bY kvs key y9;omega
 refine wpAny_dictSet_pairs (hsz:=AA) (gG r8) dd fun h' jq hs=>?_
 have GG:∃ q,h'.get? D=some q:=let ⟨q,_,_,hq,_⟩:=jq;⟨q,hq⟩
 exact ⟨_,gT (t':=s9.toks+1) (ob:=.dK (putK kvs key y9)) I9 (by rw [Bs];exact True.intro) hs GG (oQ fq hd (rel.put key r9) jq),n9⟩
theorem Rr (S:ju X.env.scope X.N sc own idx N') (hc:X.calm=true) (hi:PI X tg iter wi)
  (hg:∀ cl C s3 H0 fp pn,PG (bu X N' sc cl C s3 H0 fp pn) tg g) (ht:∀ cl C s3 H0 fp pn,nq (bu X N' sc cl C s3 H0 fp pn) ifs tc) (he:∀ cl C s3 H0 fp pn,PE (bu X N' sc cl C s3 H0 fp pn) kx tk) (hv:∀ cl C s3 H0 fp pn,PE (bu X N' sc cl C s3 H0 fp pn) vx tw)
  (hs:∀ x,foldedSetIterable iter X.env x=pure x:=by intro _;rfl):PE X (.DictComp kx vx [⟨tg,iter,ifs,0⟩] sc pos) (Kh own idx wi g tc tk tw):=by
 intro pins s σ H Q I h
 obtain ⟨cl,jj,c1,c2⟩:=S.closure I.ok
 show wpAny _ X.A (comprehension (.DictComp kx vx [⟨tg,iter,ifs,0⟩] sc pos) sc X.env _ newDict false (eval iter X.env)) _ _ s
 refine wpAny_comprehension_free (use:=none) rfl hs jj S.kind S.names (aj (hi pins s σ H _ I h) fun v s1 h1=>aj h1 fun gh s2 h2=>?_)
 refine pP (Q:=Q) (pins:=pins) (σ:=σ) (RR:=fun acc C=>compPost (model X.prog X.w) X.A X.xe none (EP X pins σ Q) acc C) S c1 c2 hc hg ht he hv h2 ?_
 intro D C H' s' I' q ⟨a1,a2,a3,a4,a5,m,a6⟩
 exact ⟨m,a6,fun h' sb=>⟨.ref D,H',I'.turned (t':=s'.toks) (fun b o hb e=>(sb.2 b hb).trans e) a1 (Ne.symm (Ne.symm a2)) (.inr a3) a4 a5,rfl,q⟩⟩
theorem wB (S:ju X.env.scope X.N sc own idx N') (hc:X.calm=true) (hi:SI X tg iter wi)
  (hg:∀ cl C s3 H0 fp pn,SG (bu X N' sc cl C s3 H0 fp pn) tg g) (ht:∀ cl C s3 H0 fp pn,SC (bu X N' sc cl C s3 H0 fp pn) ifs tc) (he:∀ cl C s3 H0 fp pn,SE (bu X N' sc cl C s3 H0 fp pn) kx tk) (hv:∀ cl C s3 H0 fp pn,SE (bu X N' sc cl C s3 H0 fp pn) vx tw)
  (hs:∀ x,foldedSetIterable iter X.env x=pure x:=by intro _;rfl):SE X (.DictComp kx vx [⟨tg,iter,ifs,0⟩] sc pos) (Kh own idx wi g tc tk tw):=
 ⟨Rr S hc hi.h (fun q r s t u v=>(hg q r s t u v).h) (fun q r s t u v=>(ht q r s t u v).h) (fun q r s t u v=>(he q r s t u v).h) (fun q r s t u v=>(hv q r s t u v).h) hs⟩
end
theorem aa.upd {H:Hp} {a:Addr} (h:H a=none) (o:HO):aa H (upd H a o):=fun b u q=>by rw [aF (aP q h)];exact q
theorem dz {c:Bool} {A B:Prop} (h1:c=true->A) (h2:c=false->B):if c=true then A else B:=by
 cases c with
 | true=>exact Cr (h1 rfl)
 | false=>exact jt (h2 rfl)
theorem aU {t u:TS} {D:Ends} (mid:St->Hp->Prop) (h1:∀ nx:St->Hp->Prop,(∀ σ' H',mid σ' H'->nx σ' H')->t {D with nx:=nx} σ H) (h2:∀ σ' H',mid σ' H'->u D σ' H'):xu t u D σ H:=h1 (u D) h2
theorem aS (x:α) (xs:List α):ie (x::xs) 0=some x:=gH (j:=0) rfl
theorem kO (xs:List α) (i:Int) (h0:0<=i) (h1:i < xs.length):∃ c,xs[i.toNat]? =some c/\ie xs i=some c:=by
 have hl:i.toNat < xs.length:=by omega
 refine ⟨xs[i.toNat],by simp [hl],?_⟩
 have:=gH (xs:=xs) (j:=i.toNat) (v:=xs[i.toNat]) (by simp [hl])
 rw [<- this]
 congr 1
 omega
theorem jU (ns:List Str) (i:Nat) (h:i < ns.length):(ns.map V.str).getD i .ao=.str (ns.getD i ""):=by
 simp [Qb,h]
abbrev Rt (w:Addr) (m t:Int):List (Key×V):=[(.inr "mixed",.int m),(.inr "turn",.int t),(.inr "wide",.ref w)]
structure za (H:Hp) (p w:Addr) (t:Nat):Prop where
 ex:∃ (m c:Int) (ws:List Int),H p=some (.dK (Rt w m c))/\H w=some (.lst (ws.map V.int))/\(0<=m/\m < 2147483629)/\0<=c/\c<=(t:Int)
def Sm (p w:Addr) (H H':Hp):Prop:=∀ b o,H b=some o->b≠p->b≠w->H' b=some o
theorem Sm.refl {w:Addr}:Sm p w H H:=fun _ _ h _ _=>h
theorem Sm.trans {w:Addr} {H1 H2:Hp} (a:Sm p w H H1) (b:Sm p w H1 H2):Sm p w H H2:=fun c o h h1 h2=>b c o (a c o h h1 h2) h1 h2
theorem aa.sm {w:Addr} {H1:Hp} (a:aa H H1):Sm p w H H1:=fun c o h _ _=>a c o h
theorem za.same {w:Addr} {t:Nat} (h:za H p w t) (s:aa H H'):za H' p w t:=by
 obtain ⟨m,c,ws,h1,h2,r⟩:=h.ex
 exact ⟨m,c,ws,s _ _ h1,s _ _ h2,r⟩
theorem Sm.free {w:Addr} (s:Sm p w H H') (h:H' l=none) (hp:l≠p) (hw:l≠w):H l=none:=by
 cases q:H l with
 | none=>rfl
 | some o=>rw [s l o q hp hw] at h;cases h
theorem za.upd {H:Hp} {p w D:Addr} {t:Nat} {o:HO} (h:za H p w t) (h1:D≠p) (h2:D≠w):za (upd H D o) p w t:=by
 obtain ⟨m,c,ws,e1,e2,r⟩:=h.ex
 exact ⟨m,c,ws,by rw [aF h1.symm];exact e1,by rw [aF h2.symm];exact e2,r⟩
theorem Sm.upd {p w D:Addr} {H H':Hp} {o:HO} (s:Sm p w H H') (h:H D=none):Sm p w H (upd H' D o):=fun b u hb h1 h2=>by rw [aF (aP hb h)];exact s b u hb h1 h2
def Ex (p w:Addr) (H:Hp):V->Prop
 | .ao=>True
 | .bl _=>True
 | .int _=>True
 | .str z=>z.length<=100000
 | .ref a=>a≠p/\a≠w/\((∃ xs,H a=some (.lst xs))\/(∃ xs,H a=some (.tup xs))\/∃ kvs,H a=some (.dK kvs))
 | _=>False
theorem Ex.sm {w:Addr} {x:V} (h:Ex p w H x) (s:Sm p w H H'):Ex p w H' x:=by
 cases x with
 | ref a=>
  obtain ⟨h1,h2,h3⟩:=h
  refine ⟨h1,h2,?_⟩
  rcases h3 with ⟨xs,e⟩ | ⟨xs,e⟩ | ⟨xs,e⟩
  ·exact .inl ⟨xs,s _ _ e h1 h2⟩
  ·exact .inr (.inl ⟨xs,s _ _ e h1 h2⟩)
  ·exact .inr (.inr ⟨xs,s _ _ e h1 h2⟩)
 | _=>exact h
structure Bt (p w:Addr) (t:Nat) (H:Hp) (xs:List V):Prop where
 Ru:za H p w t
 all:∀ x∈xs,Ex p w H x
section
variable {w:Addr} {t u:Nat} {xs ys:List V}
theorem Bt.sm (g:Bt p w t H xs) (hp:za H' p w u) (s:Sm p w H H'):Bt p w u H' xs:=⟨hp,fun x hx=>(g.all x hx).sm s⟩
theorem Bt.upd {q:Addr} {o:HO} (g:Bt p w t H xs) (h:H q=none):Bt p w t (upd H q o) xs:=g.sm (g.Ru.same (aa.upd h o)) (aa.upd h o).sm
end
section
variable {p pos:Pos} {t:TA}
theorem cL {r:List V->Hp->VK->Prop} (hc:iu X (.type T) r) (hg:Gl X x) (hm:X.mg x=none) (hv:bootBuiltins x=some (.type T)) (ha:SA X (e::es) t) (hn:x≠"__name__":=by decide) (e_:(x==("__debug__":Str))=false:=by decide)
  (he:starEach (e::es) X.env=(false,eval e X.env)::starEach es X.env:=by rfl) (hpl:(backTo pos (starEach es X.env)).any (·.1)=false:=by rfl):SE X (.Call (.Name x p) (e::es) [] pos) (Bj r t):=⟨wK hc hg hm hv ha.h hn e_ he hpl⟩
def Rv (K:QZ):List V->Hp->VK->Prop:=fun xs H Q=>∃ p ys,xs=[.ref p]/\((ak K H p ys/\∀ l,H l=none->Q (.ref l) (upd H l (.tup ys)))\/(au K H p ys/\Q (.ref p) H))
def GH (K:QZ):List V->Hp->VK->Prop:=fun xs H Q=>∃ p ys,xs=[.ref p]/\(ak K H p ys\/au K H p ys)/\∀ l,H l=none->Q (.ref l) (upd H l (.lst ys))
theorem f9 (K:QZ) (h:X.K=K:=by rfl):iu X (.type "tuple") (Rv K):=by subst h;exact lU
theorem mU (K:QZ) (h:X.K=K:=by rfl):iu X (.type "list") (GH K):=by subst h;exact pI
end
mutual
inductive rh (H:Hp):V->PyData->Prop
 | ao:rh H .ao .none
 | bl (b:Bool):rh H (.bl b) (.bool b)
 | int (i:Int):rh H (.int i) (.int i)
 | str (z:Str):rh H (.str z) (.str z)
 | tup {a:Addr} {xs:List V} {ds:List PyData}:H a=some (.tup xs)->rj H xs ds->rh H (.ref a) (.tuple ds)
 | lst {a:Addr} {xs:List V} {ds:List PyData}:H a=some (.lst xs)->rj H xs ds->rh H (.ref a) (.list ds)
inductive rj (H:Hp):List V->List PyData->Prop
 | nil:rj H [] []
 | cons {x:V} {d:PyData} {xs:List V} {ds:List PyData}:rh H x d->rj H xs ds->rj H (x::xs) (d::ds)
end
mutual
theorem rh.same {H H':Hp} (s:aa H H'):∀ {x:V} {d:PyData},rh H x d->rh H' x d
 | _,_,.ao=>.ao
 | _,_,.bl b=>.bl b
 | _,_,.int i=>.int i
 | _,_,.str z=>.str z
 | _,_,.tup e r=>.tup (s _ _ e) (rj.same s r)
 | _,_,.lst e r=>.lst (s _ _ e) (rj.same s r)
theorem rj.same {H H':Hp} (s:aa H H'):∀ {xs:List V} {ds:List PyData},rj H xs ds->rj H' xs ds
 | _,_,.nil=>.nil
 | _,_,.cons a r=>.cons (rh.same s a) (rj.same s r)
end
mutual
theorem yQ {P:Program} {w:World} {H:Hp} {h:Heap} (ok:b_ P w H h):∀ {x:V} {d:PyData} {u:Value},rh H x d->RelV x u->∃ as,Reads h u d as
 | _,_,_,.ao,r=>by cases (show _=Value.none from r);exact ⟨[],.none⟩
 | _,_,_,.bl b,r=>by cases (show _=Value.bool b from r);exact ⟨[],.bool b⟩
 | _,_,_,.int i,r=>by obtain ⟨t,rfl⟩:=(show ∃ t,_=Value.int i t from r);exact ⟨[],.int i t⟩
 | _,_,_,.str z,r=>by obtain ⟨t,rfl⟩:=(show ∃ t,_=Value.str z t from r);exact ⟨[],.str z t⟩
 | _,_,_,.tup (a:=a) (xs:=xs) e l,r=>by
  cases (show _=Value.ref a from r)
  obtain ⟨_,its,rv,o,ho,hc,n,hd⟩:=(show bf P w H h a (.tup xs) from ok a _ e)
  obtain ⟨as,ra⟩:=g7 ok l rv
  exact ⟨as,.tuple ho hc hd (by simpa using ra)⟩
 | _,_,_,.lst (a:=a) (xs:=xs) e l,r=>by
  cases (show _=Value.ref a from r)
  obtain ⟨_,its,n,rv,ho⟩:=(show bf P w H h a (.lst xs) from ok a _ e)
  obtain ⟨as,ra⟩:=g7 ok l rv
  exact ⟨a::as,.list ho rfl rfl (by simpa using ra)⟩
theorem g7 {P:Program} {w:World} {H:Hp} {h:Heap} (ok:b_ P w H h):∀ {xs:List V} {ds:List PyData} {us:List Value},rj H xs ds->a_ xs us->∃ as,ReadsAll h us ds as
 | _,_,_,.nil,.nil=>⟨[],.nil⟩
 | _,_,_,.cons a l,.cons r rs=>by
  obtain ⟨as,ra⟩:=yQ ok a r
  obtain ⟨bs,rb⟩:=g7 ok l rs
  exact ⟨as++bs,.cons ra rb⟩
end
def Kl (n:Bool):R2:=fun x y H Q=>match x,y with
 | .bl a,.bl b=>Q (.bl (n^^(a==b))) H
 | x,.ao=>Q (.bl (n^^decide (x=.ao))) H
 | _,_=>False
theorem Rw:cg X (compareOp .Is) (Kl false):=by
 intro pins s σ H x y v u Q I rx ry h
 cases y with
 | ao=>exact OL pins s σ H _ _ v u Q I rx ry ⟨rfl,by cases x<;>simpa [Kl] using h⟩
 | bl b=>
  cases x with
  | bl a=>
   cases rx;cases ry
   exact is_bool (aV I h (by cases a<;>cases b<;>rfl))
  | _=>exact (show False from h).elim
 | _=>cases x<;>exact (show False from h).elim
abbrev Km:Str:="abcdefghijklmnopqrstuvwxyz"
abbrev Rx:List Str:=["all","none","way","box","pick"]
def Ry (c:Nat):Bool:= !(Builtin.Str.occurrences Km ⟨#[c]⟩ 0 Km.length 1).isEmpty
def isName (z:Str):Bool:=decide (1<=z.length)&&decide (z.length<=8)&& !(Rx.any fun y=>y==z)&&z.cps.toList.all Ry
theorem pW {i j:Int}:(decide (V.int i=V.int j))=decide (i=j):=by
 by_cases h:i=j
 ·subst h;simp
 ·rw [Qw h,Qw (fun e=>h (V.int.inj e))]
theorem cW {i j:Str}:(decide (V.str i=V.str j))=(i==j):=by
 by_cases h:i=j
 ·subst h;simp
 ·rw [Qw (fun e=>h (V.str.inj e))]
  exact (beq_eq_false_iff_ne.mpr h).symm
theorem aa.put {o:HO} (s:aa H0 H') (h:H0 p=none):aa H0 (L2.upd H' p o):=fun b u q=>by rw [aF (aP q h)];exact s b u q
theorem aN {u:TS} {D:Ends} (h:te σ H fun x H1=>u D (σ.set i (some x)) H1):xu (wj te (jc i)) u D σ H:=h
theorem wI {v:V} {u:TS} {D:Ends} (h:u D (σ.set i (some v)) H):xu (wj (tC v) (jc i)) u D σ H:=h
theorem Inv.GI {T:Addr} {o:HO} (I:Inv X pins σ H s) (hf:∀ b∈ch,lg X pins H b) (k:∀ b o,b ∉ ch->s.heap.get? b=some o->h'.get? b=some o)
  (hT:s.heap.objs.size<=T) (new:bf X.prog X.w (upd H T o) h' T o):Inv X pins σ (upd H T o) {s with heap:=h',toks:=t'}:=by
 have ki:H T=none:=I.hok.fresh hT
 have nT:∀ b ob,s.heap.get? b=some ob->b≠T:=fun b ob e=>Nat.ne_of_lt (Nat.lt_of_lt_of_le (Qz e) hT)
 have ug:∀ b u,H b=some u->b ∉ ch:=fun b u e hb=>by rw [(hf b hb).1] at e;cases e
 refine I.step (g':=s.gens) (d':=s.drawn) (ch:=ch) (fun b hb=>?_) (fun b o _ _ hc e _=>k b o hc e) (fun b o _ _ hc e _=>⟨o.slots,k b o hc e⟩) (fun b o hc e n=>by rw [aF (nT b o e)];exact n)
  (fun b o hc e=>⟨o,k b o hc e⟩) (fun b xs e=>by rw [aF (aP e ki)];exact e) (fun b o u e=>by rw [aF (aP e ki)];exact e) (fun b ps e=>⟨#[],by rw [aF (aP e ki),e];simp⟩) (fun m hm=>?_) (fun b u e=>?_) I.bare
 ·obtain ⟨f0,f1,f2,f3,f4,f5⟩:=hf b hb
  exact ⟨f3,f1,f4,f5⟩
 ·obtain ⟨o,es,ep,ho,r⟩:=hm
  exact ⟨o,es,ep,k _ o (fun z=>(hf _ z).2.1 rfl) ho,r⟩
 ·by_cases hb:b=T
  ·subst hb
   rw [aA] at e;cases e
   exact new
  ·rw [aF hb] at e
   refine (I.hok b u e).stay (fun c v hc q=>k c v ?_ q) (fun c q=>by rw [aF (aP q ki)];exact q) fun c xs q=>q.upd fun u' hu=>aP hu ki
   rcases hc with z | z
   ·rw [z];exact ug b u e
   ·exact ug c _ z
theorem Inv.Rz (I:Inv X pins σ H s) (hf:∀ b∈ch,lg X pins H b) (k:∀ b o,b ∉ ch->s.heap.get? b=some o->h'.get? b=some o):Inv X pins σ H {s with heap:=h',toks:=t'}:=by
 have ug:∀ b u,H b=some u->b ∉ ch:=fun b u e hb=>by rw [(hf b hb).1] at e;cases e
 refine I.step (g':=s.gens) (d':=s.drawn) (ch:=ch) (fun b hb=>?_) (fun b o _ _ hc e _=>k b o hc e) (fun b o _ _ hc e _=>⟨o.slots,k b o hc e⟩) (fun b o hc e n=>n)
  (fun b o hc e=>⟨o,k b o hc e⟩) (fun b xs e=>e) (fun b o u e=>e) (fun b ps e=>⟨#[],by rw [e];simp⟩) (fun m hm=>?_) (fun b u e=>?_) I.bare
 ·obtain ⟨f0,f1,f2,f3,f4,f5⟩:=hf b hb
  exact ⟨f3,f1,f4,f5⟩
 ·obtain ⟨o,es,ep,ho,r⟩:=hm
  exact ⟨o,es,ep,k _ o (fun z=>(hf _ z).2.1 rfl) ho,r⟩
 ·refine (I.hok b u e).stay (fun c v hc q=>k c v ?_ q) (fun c q=>q) fun c xs q=>q
  rcases hc with z | z
  ·rw [z];exact ug b u e
  ·exact ug c _ z
abbrev Cw (v1 v2:V):Hp->V->Hp->Prop:=fun H x H'=>∃ T,x=.ref T/\H T=none/\H'=upd H T (.tup [v1,v2])
theorem pK {T:Addr} {v1 v2:V} {u1 u2:Value} (r1:RelV v1 u1) (r2:RelV v2 u2) (e:h.get? T=some {cls:=.type "tuple",data:=.seq #[u1,u2]}):bf P w H h T (.tup [v1,v2]):=
 ⟨⟨show 2<=sizeLine by decide,fun o q=>by rw [e] at q;cases q;rfl⟩,[u1,u2],.cons r1 (.cons r2 .nil),_,e,rfl,_,rfl⟩
theorem pZ {l m:Nat} (h1:l < n) (h2:m < n):ZipApart (n+4) (n+2) (n+3) n (n+1) l m:=by
 constructor<;>(show (_:Nat)≠_)<;>omega
def GJ (K : QZ) (a b : Addr) : It :=
  ⟨fun i H => ∃ xs ys x y, ak K H a xs /\ ak K H b ys /\ xs[i]? = some x /\ ys[i]? = some y, fun i H x H' => ∃ v1 v2, (∀ xs, ak K H a xs -> xs[i]? = some v1) /\ (∀ ys, ak K H b ys -> ys[i]? = some v2) /\ Cw v1 v2 H x H',
   fun i H => ∃ xs ys, ak K H a xs /\ ak K H b ys /\ (xs.length <= i \/ ys.length <= i)⟩
abbrev RA (z TI TO i1 i2 a b:Addr) (i:Nat) (h:Heap):Prop:=IsZip h z TI TO .none/\IsPair h TI (.ref i1) (.ref i2)/\(∃ u v,IsPair h TO u v)/\h.IsListIter i1 a i/\h.IsListIter i2 b i
theorem xX {K:QZ} {k:Nat} {pos:Pos} (z TI TO i1 i2 a b:Addr) (D:ZipApart z TI TO i1 i2 a b):Turn P w K (.Tuple Ah k pos) (GJ K a b) [z,TI,TO,i1,i2] z (RA z TI TO i1 i2 a b) where
 mem:=by simp
 obj:=fun i h st c hc=>by
  obtain ⟨hz,uv,⟨u,v,wx⟩,⟨o1,e1,c1,d1⟩,o2,e2,c2,d2⟩:=st
  simp only [Qp,QA,or_false] at hc
  rcases hc with rfl | rfl | rfl | rfl | rfl
  ·exact ⟨_,hz,fun v z=>by have z':Data.fields _=Data.cell v:=z;cases z'⟩
  ·exact ⟨_,uv,fun v z=>by have z':Data.seq _ _=Data.cell v:=z;cases z'⟩
  ·exact ⟨_,wx,fun v z=>by have z':Data.seq _ _=Data.cell v:=z;cases z'⟩
  ·exact ⟨_,e1,fun v z=>by rw [d1] at z;cases z⟩
  ·exact ⟨_,e2,fun v z=>by rw [d2] at z;cases z⟩
 keep:=fun i h h' st k=>by
  obtain ⟨hz,uv,⟨u,v,wx⟩,h1,h2⟩:=st
  exact ⟨k z (by simp) _ hz,k TI (by simp) _ uv,⟨u,v,k TO (by simp) _ wx⟩,h1.at fun o x=>k i1 (by simp) o x,h2.at fun o x=>k i2 (by simp) o x⟩
 item:=by
  intro X hP hw hK hc i pins s σ H E I hf st hg
  subst hP hw hK
  obtain ⟨hz,uv,⟨u0,v0,wx⟩,h1,h2⟩:=st
  obtain ⟨xs,ys,x,y,jk,kj,hx,hy⟩:=hg
  obtain ⟨its,rv,p,AA⟩:=I.list jk
  obtain ⟨its2,uw,p2,Ey⟩:=I.list kj
  obtain ⟨u,hu,ru⟩:=rv.get hx
  obtain ⟨u2,RB,RC⟩:=uw.get hy
  refine wpAny_pyNext_zip_item D hz uv wx h1 h2 p.isList p2.isList (x:=u) (y:=u2) (by simpa using hu) (by simpa using RB) fun h' a1 a2 a3 a4 a5 a6 hk=>?_
  have I1:Inv X pins σ (upd H s.heap.objs.size (.tup [x,y])) {s with heap:=h',toks:=s.toks}:=I.GI (t':=s.toks) hf (fun b o hb e=>hk b o (fun z=>hb (by simp [z])) (fun z=>hb (by simp [z])) (fun z=>hb (by simp [z])) (fun z=>hb (by simp [z])) e) (Qy _) (pK ru RC a5)
  refine ⟨_,rfl,wpAny_letOwnedTupleGo_zip (s:={s with heap:=h'}) a1 fun Bu RD sb=>?_⟩
  have aq:∀ b∈[z,TI,TO,i1,i2],b≠s.heap.objs.size:=fun c hc z'=>by
   simp only [Qp,QA,or_false] at hc
   obtain ⟨o1,e1,_⟩:=h1
   obtain ⟨o2,e2,_⟩:=h2
   rcases hc with rfl | rfl | rfl | rfl | rfl
   ·exact Nat.ne_of_lt (Qz hz) z'
   ·exact Nat.ne_of_lt (Qz uv) z'
   ·exact Nat.ne_of_lt (Qz wx) z'
   ·exact Nat.ne_of_lt (Qz e1) z'
   ·exact Nat.ne_of_lt (Qz e2) z'
  have Ko:∀ b∈[z,TI,TO,i1,i2],lg X pins (upd H s.heap.objs.size (.tup [x,y])) b:=fun b hb=>by
   obtain ⟨f0,f⟩:=hf b hb
   exact ⟨by rw [aF (aq b hb)];exact f0,f⟩
  obtain ⟨f0,f1,f2,f3,f4,f5⟩:=Ko z (by simp)
  refine ⟨.ref s.heap.objs.size,_,I1.turned (t':=s.toks) (fun b o hb q=>(sb.2 b hb).trans q) f0 f1 f3 f4 f5,rfl,⟨x,y,fun ys hy=>by rw [I.FU hy jk];exact hx,fun ys RE=>by rw [I.FU RE kj];exact hy,_,rfl,I.hok.fresh (Qy _),rfl⟩,?_,fun b hb=>(Ko b hb).1⟩
  refine ⟨RD,(sb.2 _ D.TIz).trans (hk _ _ D.TIz D.TITO D.TIi1 D.TIi2 uv),⟨_,_,(sb.2 _ D.TOz).trans a2⟩,a3.at fun o q=>(sb.2 _ D.i1z).trans q,a4.at fun o q=>(sb.2 _ D.i2z).trans q⟩
 done:=by
  intro X hP hw hK hc i pins s σ H E I hf st hg
  subst hP hw hK
  obtain ⟨hz,uv,⟨u0,v0,wx⟩,h1,h2⟩:=st
  obtain ⟨xs,ys,jk,kj,hx⟩:=hg
  obtain ⟨its,rv,p,AA⟩:=I.list jk
  obtain ⟨its2,uw,p2,Ey⟩:=I.list kj
  have hl:=rv.length
  have ly:=uw.length
  refine wpAny_pyNext_zip_end (I.ok.hd hc) D hz uv wx h1 h2 p.isList p2.isList ?_ fun h' hk=>⟨rfl,I.Rz (t':=s.toks) hf fun b o hb q=>hk b o (fun z=>hb (by simp [z])) (fun z=>hb (by simp [z])) (fun z=>hb (by simp [z])) (fun z=>hb (by simp [z])) q⟩
  rcases hx with hx | hx
  ·exact .inl (by simp;omega)
  ·exact .inr (by simp;omega)
 self:=fun _ _ _ _ _ st h=>wpAny_pyIter_zip st.1 h
section
variable {k:Nat} {yw p pos:Pos} {a b:Expr} {ta:TA}
def Kp (K:QZ) (ta:TA):TI:=fun σ H R=>ta σ H fun vs H1=>∃ l m xs ys,vs=[.ref l,.ref m]/\ak K H1 l xs/\ak K H1 m ys/\R (GJ K l m) H1
theorem RG (hg:Gl X "zip") (hm:X.mg "zip"=none) (ha:PA X [a,b] ta) (hs:starEach [a,b] X.env=[(false,eval a X.env),(false,eval b X.env)]:=by rfl) (p_:starEach [b] X.env=[(false,eval b X.env)]:=by rfl):
  PI X (.Tuple Ah k yw) (.Call (.Name "zip" p) [a,b] [] pos) (Kp X.K ta):=by
 intro pins s σ H R I h
 refine Call_ (hX I hg hm boot_zip (PyProof.Rows.callWith_type1 (aj (ha pos pins s σ H _ I h) fun us s1 ⟨vs,H1,I1,r1,q1⟩=>?_) (by rw [hs,p_]) (by rw [p_];rfl)))
 obtain ⟨l,m,xs,ys,e,jk,kj,q⟩:=q1
 subst e
 obtain ⟨u1,u2,rfl,RI,RJ⟩:=r1.two
 cases RI
 cases RJ
 obtain ⟨its,rv,pl,hz⟩:=I1.list jk
 obtain ⟨its2,uw,Kq,Ey⟩:=I1.list kj
 have l1:l < s1.heap.objs.size:=by obtain ⟨_,e,_⟩:=pl.isList;exact Qz e
 have l2:m < s1.heap.objs.size:=by obtain ⟨_,e,_⟩:=Kq.isList;exact Qz e
 refine call_zip_2 pl.isList Kq.isList fun h' hz uv wx h1 h2 hsz hk=>wpAny_pyIter_zip hz ?_
 have I2:Inv X pins σ H1 {s1 with heap:=h'}:=I1.kept (t':=s1.toks) hk
 have ne:∀ {x y:Nat},x < y->x≠y:=fun h=>Nat.ne_of_lt h
 have ne':∀ {x y:Nat},y < x->x≠y:=fun h=>Nat.ne_of_gt h
 refine ⟨s1.heap.objs.size+4,[s1.heap.objs.size+4,s1.heap.objs.size+2,s1.heap.objs.size+3,s1.heap.objs.size,s1.heap.objs.size+1],_,_,H1,rfl,I2,xX _ _ _ _ _ l m ?_,⟨hz,uv,⟨_,_,wx⟩,h1,h2⟩,fun b hb=>?_,q⟩
 ·exact pZ l1 l2
 ·simp only [Qp,QA,or_false] at hb
  rcases hb with rfl | rfl | rfl | rfl | rfl<;>exact I1.pq (by simp) (I1.hok.fresh (by simp))
theorem RK (K:QZ) (hg:Gl X "zip") (hm:X.mg "zip"=none) (ha:SA X [a,b] ta) (h:X.K=K:=by rfl) (hs:starEach [a,b] X.env=[(false,eval a X.env),(false,eval b X.env)]:=by rfl) (p_:starEach [b] X.env=[(false,eval b X.env)]:=by rfl):
  SI X (.Tuple Ah k yw) (.Call (.Name "zip" p) [a,b] [] pos) (Kp K ta):=by subst h;exact ⟨RG hg hm ha.h hs p_⟩
end
def Cy (J:It) (ok:Hp->Prop) (n:Nat) (f1 f2:Nat->V):Prop:=
 ∀ H,ok H->(∀ i,i < n->J.go i H/\∀ x H',J.h_ i H x H'->Cw (f1 i) (f2 i) H x H')/\J.stop n H
theorem zY {K:QZ} (xs ys:List V):Cy (GJ K a b) (fun H=>ak K H a xs/\ak K H b ys) (min xs.length ys.length) (fun i=>xs.getD i .ao) (fun i=>ys.getD i .ao):=fun H ok=>
 ⟨fun i hi=>⟨⟨xs,ys,xs[i]'(by omega),ys[i]'(by omega),ok.1,ok.2,by simp,by simp⟩,fun x H' ⟨v1,v2,RN,RP,y⟩=>by
  have e1:xs.getD i V.ao=v1:=by rw [Qb,RN xs ok.1];rfl
  have e2:ys.getD i V.ao=v2:=by rw [Qb,RP ys ok.2];rfl
  show Cw (xs.getD i .ao) (ys.getD i .ao) H x H'
  rw [e1,e2];exact y⟩,⟨xs,ys,ok.1,ok.2,by omega⟩⟩
abbrev g2 (K:QZ) (a b:Nat):TG:=yt K 2 (wg (jc a) (wg (jc b) Be))
theorem cI {K:QZ} {a b:Nat} {T:Addr} {v1 v2:V} {Q:St->Hp->Prop} (h:H T=some (.tup [v1,v2])) (q:Q ((σ.set a (some v1)).set b (some v2)) H):g2 K a b (.ref T) σ H Q:=
 ⟨T,_,rfl,au.of h,rfl,_,_,rfl,_,_,rfl,rfl,q⟩
end L2
namespace PySem
theorem lI {xs:Array Value} {k:Nat} {Q:Option Value->Shared->Prop}
  (hx:s.heap.get? a=some o) (hc:o.cls=.type "tuple") (Kr:o.data=.seq xs k) (hd:o.dict=none) (hA:A.handled=none)
  (h:∀ h' tk,(∀ b ob,s.heap.get? b=some ob->h'.get? b=some ob)->Q none {s with heap:=h',toks:=tk}):
  wpAny (model prog w) A (getAttr? (.ref a) "keys") Q E s:=by
 obtain ⟨c,dct,dat,sl⟩:=o
 simp only at hc Kr hd
 subst hc Kr hd
 obtain ⟨hp,g,d,tk,os⟩:=s
 have hT:∀ Bv,(⟨hp,g,d,Bv,os⟩:Shared).TypeIs (.ref a) "tuple":=fun _=>⟨_,hx,rfl⟩
 have RQ:typeLookup (.type "tuple") "keys"=pure none:=am_miss_of_fast (by kernel_rfl)
 have f1:=sub_AttributeError
 have f3:=F.slot_tuple_getattribute.lookup
 have f4:=F.slot_tuple_getattribute.bind (.ref a)
 have f5:=am_tuple_getattr_none
 unfold getAttr? getAttrBy? getAttrBy
 repeat (any_goals (first | assumption | exact hT _ | ((with_reducible show wpAny _ _ (call (Value.builtin "tuple.__getattribute__") _ _) _ _ _);refine call_meets F.slot_tuple_getattribute (hT _) am_entry_tuple_getattribute (F.args_tuple_getattribute_2 _ _) (meets_getattribute_miss_tuple a xs k sl _ _ RQ (by decide) (by decide)) ⟨hx,hA,fun h' Bv e hx'=>?_⟩) | wp_step))
 obtain ⟨t',u',he⟩:=hx'.there
 show wpAny _ _ (getattributeRaised _ _ _ _ _ _ _) _ _ _
 unfold getattributeRaised
 repeat (any_goals (first | assumption | wp_step))
 exact h _ _ hx'.keeps
end PySem
namespace PySem.F
theorem Ks:entryFor table "dict.update.loop"=some Builtin.«dict.update.loop»:=entryFor_of_tree (by kernel_rfl)
theorem Ez:plainId "dict.update.loop"=true:=by decide+kernel
end PySem.F
namespace L2
open PySem PySem.Spec PyProof.Rows
def iw (H:Hp) (ys:List V) (rs:List (Key×V)):Prop:=ys.length=rs.length/\∀ i (h:i < rs.length),∃ b,ys[i]? =some (.ref b)/\H b=some (.tup [kV rs[i].1,rs[i].2])
def dictOf (rs:List (Key×V)):List (Key×V):=rs.foldl (fun kvs r=>putK kvs r.1 r.2) []
theorem qH (rs:List (Key×V)):∀ kvs:List (Key×V),(rs.foldl (fun kvs r=>putK kvs r.1 r.2) kvs).length<=kvs.length+rs.length:=by
 induction rs with
 | nil=>intro kvs;exact Qy _
 | cons r rs ih=>
  intro kvs
  have h1:=ih (putK kvs r.1 r.2)
  have h2:=bY kvs r.1 r.2
  rw [List.foldl_cons,List.length_cons]
  omega
theorem iA (rs:List (Key×V)):(dictOf rs).length<=rs.length:=by have:=qH rs [];simpa [dictOf] using this
theorem jO (rs:List (Key×V)) (i:Nat) (h:i < rs.length):dictOf (rs.take (i+1))=putK (dictOf (rs.take i)) rs[i].1 rs[i].2:=by
 unfold dictOf
 rw [Qs,Qa h,Option.toList_some,List.foldl_append];rfl
theorem tH {d:Addr} {ys:List V} {rs:List (Key×V)} (hA:A.handled=none) (hH:H d=none) (fq:rs.length<=sizeLine) (hp:iw H ys rs) (ha:H a=some (.tup ys)) (hit:it≠d)
  (hR:∀ s,Inv X pins σ (upd H d (.dK (dictOf rs))) s->R (.ok (.ret .none)) s):
  ∀ (k i:Nat) (s:Shared),rs.length - i=k->i<=rs.length->Inv X pins σ (upd H d (.dK (dictOf (rs.take i)))) s->s.heap.IsTupleIter it a i->lg X pins (upd H d (.dK (dictOf (rs.take i)))) it->
   codeAny (model X.prog X.w) A (.builtin "dict.update.loop" ⟨[.ref d,.ref it,rawInt i,.none],[]⟩) R s:=by
 have Cz:a≠d:=aP ha hH
 intro k
 induction k with
 | zero=>
  intro i s hk hi I st f
  have iy:i=rs.length:=by omega
  subst iy
  refine codeAny_builtin F.Ks ?_
  rw [Around.under_plainId F.Ez _]
  show wpAny _ A.in1 (pyNext (.ref it) >>=_) _ _ s
  obtain ⟨its,rv,p,hz⟩:=I.tuple (au.of (by rw [aF Cz];exact ha))
  have hl:=rv.length
  have ly:=hp.1
  obtain ⟨f0,f1,f2,f3,f4,f5⟩:=f
  refine QS (wpAny_pyNext_tuple_end (by simp [hA]) st (show s.heap.IsTuple a its.toArray from p) (by simp;omega) fun h' eb=>?_)
  have I1:=I.turned (t':=s.toks) (h':=h') (fun b o hb e=>eb b o hb e) f0 f1 f3 f4 f5
  rw [Qo] at I1
  show wpAny _ _ (Builtin.Dict.addKeywords d [] >>=fun _=>ret .none) _ _ _
  exact QS (QT (QT (hR _ I1)))
 | succ k ih=>
  intro i s hk hi I st f
  have aq:i < rs.length:=by omega
  refine codeAny_builtin F.Ks ?_
  rw [Around.under_plainId F.Ez _]
  show wpAny _ A.in1 (pyNext (.ref it) >>=_) _ _ s
  obtain ⟨its,rv,p,hz⟩:=I.tuple (au.of (by rw [aF Cz];exact ha))
  obtain ⟨b,GK,CA⟩:=hp.2 i aq
  obtain ⟨u,hu,ru⟩:=rv.get GK
  cases ru
  obtain ⟨f0,f1,f2,f3,f4,f5⟩:=id f
  refine QS (wpAny_pyNext_tuple_item st (show s.heap.IsTuple a its.toArray from p) (x:=.ref b) (by simpa using hu) fun h' st' sb=>?_)
  have I1:Inv X pins σ (upd H d (.dK (dictOf (rs.take i)))) {s with heap:=h'}:=I.turned (t':=s.toks) (fun b o hb e=>(sb.2 b hb).trans e) f0 f1 f3 f4 f5
  have RS:b≠d:=aP CA hH
  obtain ⟨its2,uw,⟨ob,ho,hc,n,hd2⟩,Ey⟩:=I1.tuple (au.of (a:=b) (by rw [aF RS];exact CA))
  obtain ⟨u1,u2,rfl,r1,r2⟩:=uw.two
  show wpAny _ A.in1 (holding [Value.ref b] _ >>=_) _ _ _
  refine QS (wpAny_holding (QS (wpAny_tryCatch ?_)))
  unfold Builtin.Dict.pairItems
  refine QS (wpAny_typeOf (T:="tuple") ⟨ob,ho,hc⟩ ?_)
  rw [if_pos (by decide)]
  refine QS (wpAny_seqItems ho hd2 (QT ?_))
  show wpAny _ A.in1 (holding [u1,u2] (dictSet d u1 u2)) _ _ _
  refine wpAny_holding ?_
  obtain ⟨z,hd,vs,rel,dd⟩:=uK I1.hok (aA:upd H d (.dK (dictOf (rs.take i))) d=_)
  have ko:=iA (rs.take i)
  rw [List.length_take] at ko
  have gy:(dictOf (rs.take i)).length < sizeLine:=by omega
  have AA:vs.length<=sizeLine:=by rw [<- rel.length];exact z
  have RU:(putK (dictOf (rs.take i)) rs[i].1 rs[i].2).length<=sizeLine:=by have:=bY (dictOf (rs.take i)) rs[i].1 rs[i].2;omega
  refine wpAny_dictSet_pairs (hsz:=AA) (gG r1) dd fun h2 jq hs=>?_
  have GG:∃ q,h2.get? d=some q:=let ⟨q,_,_,hq,_⟩:=jq;⟨q,hq⟩
  have Ku:=gT (t':=s.toks+1) (ob:=.dK (putK (dictOf (rs.take i)) rs[i].1 rs[i].2)) I1 (by rw [aA];exact True.intro) hs GG (oQ RU hd (rel.put _ r2) jq)
  rw [kK,<- jO rs i aq] at Ku
  refine QT ⟨plainId_quiet F.Ez _,?_⟩
  exact ih (i+1) _ (by omega) aq Ku (st'.at fun o q=>(hs.2 it hit).trans q) ⟨by rw [aF hit] at f0 ⊢;exact f0,f1,f2,f3,f4,f5⟩
def RW:List V->Hp->VK->Prop:=fun xs H Q=>∃ a ys rs,xs=[.ref a]/\H a=some (.tup ys)/\iw H ys rs/\rs.length<=sizeLine/\∀ d,H d=none->Q (.ref d) (upd H d (.dK (dictOf rs)))
theorem iG (hc:X.calm=true):iu X (.type "dict") RW:=by
 intro pins s σ H xs us Q I r h
 obtain ⟨a,ys,rs,rfl,ha,hp,hl,q⟩:=h
 obtain ⟨u,rfl,ru⟩:=r.one
 cases ru
 refine callType_codes (Q₁:=fun obj s₁=>obj=.ref s.heap.objs.size/\s₁={s with heap:=s.heap.push {cls:=.type "dict",data:=.dict #[]}}) F.kt_called_dict (F.kt_typeCall_dict_1 _) F.entry_dict_init (kt_code_dict_new _ ⟨rfl,rfl⟩) ?_
 rintro obj s₁ ⟨rfl,rfl⟩
 have fr:H s.heap.objs.size=none:=I.hok.fresh (Qy _)
 have hnew:(s.heap.push {cls:=.type "dict",data:=.dict #[]}).DictOf (cj X.prog X.w) s.heap.objs.size []:=Heap.DictOf.new s.heap
 have I1:Inv X pins σ (upd H s.heap.objs.size (.dK [])) {s with heap:=s.heap.push {cls:=.type "dict",data:=.dict #[]}}:=I.laid (t':=s.toks) (fun b u e=>Qc _ e) (Qy _)
  ⟨Nat.zero_le _,beq_eq_false_iff_ne.mpr (Ne.symm (Nat.ne_of_lt I.big)),[],.nil,hnew⟩
 have Cz:a≠s.heap.objs.size:=aP ha fr
 obtain ⟨⟨z,nd⟩,its,rv,o,ho,jj,n,hd⟩:=(show bf X.prog X.w _ _ a (.tup ys) from I1.hok a _ (by rw [aF Cz];exact ha))
 refine ⟨hnew.typeIs,F.args_dict_init_2 _ _,?_⟩
 unfold Builtin.«dict.__init__»
 refine QS ?_
 unfold Builtin.Dict.selfAndRest
 refine QS (wpAny_notOrdered_dict hnew.typeIs ?_)
 show wpAny _ _ (pure (s.heap.objs.size,[Value.ref a])) _ _ _
 refine QT ?_
 show wpAny _ _ (Builtin.Dict.updateFrom "dict.__init__" s.heap.objs.size (.ref a) [] .none) _ _ _
 unfold Builtin.Dict.updateFrom
 refine QS (wpAny_typeOf (T:="tuple") ⟨o,ho,jj⟩ ?_)
 rw [if_pos (by decide)]
 have hh:X.A.handled=none:=I.ok.hd hc
 refine QS (lI ho jj hd (nd _ ho) (by simp [hh]) fun h' tk hk=>?_)
 rw [if_pos (by rfl)]
 refine QS (wpAny_rule ?_)
 have I2:Inv X pins σ (upd H s.heap.objs.size (.dK [])) {s with heap:=h',toks:=tk}:=I1.kept (t':=tk) hk
 obtain ⟨its2,uw,p2,Ey⟩:=I2.tuple (au.of (a:=a) (xs:=ys) (by rw [aF Cz];exact ha))
 refine QS (wpAny_pyIter_tuple (show Heap.IsTuple h' a its2.toArray from p2) ?_)
 have hsz:s.heap.objs.size < h'.objs.size:=by
  obtain ⟨_,_,_,e,_⟩:=hnew
  exact Qz (hk _ _ e)
 refine QT ⟨plainId_quiet F.Ez _,?_⟩
 refine tH (X:=X) (pins:=pins) (σ:=σ) (by simp [hh]) fr hl hp ha (Nat.ne_of_gt hsz) (fun s' I'=>⟨rfl,.ref s.heap.objs.size,_,I',rfl,q _ fr⟩) rs.length 0 _ rfl (Nat.zero_le _) (I2.kept (t':=tk) fun b o e=>Qc _ e) ⟨_,Qd _ rfl,rfl,rfl⟩ (I2.pq (Qy _) (I2.hok.fresh (Qy _)))
def Tk (H H':Hp):Prop:=∀ b xs,H b=some (.tup xs)->H' b=some (.tup xs)
theorem Tk.refl:Tk H H:=fun _ _ h=>h
theorem Tk.trans {H1 H2:Hp} (a:Tk H H1) (b:Tk H1 H2):Tk H H2:=fun c xs h=>b c xs (a c xs h)
theorem aa.ts (s:aa H H'):Tk H H':=fun b xs h=>s b _ h
theorem Tk.upd {H H':Hp} {a:Addr} {o:HO} (s:Tk H H') (h:H' a=none):Tk H (L2.upd H' a o):=fun b xs e=>by rw [aF (aP (s b xs e) h)];exact s b xs e
theorem Tk.set {o o':HO} (s:Tk H H') (h:H' a=some o) (hn:∀ xs,o≠.tup xs):Tk H (L2.upd H' a o'):=fun b xs e=>by
 rw [aF (fun z=>by rw [z] at e;have:=s a xs e;rw [h] at this;cases this;exact hn _ rfl)];exact s b xs e
inductive zc (H:Hp):V->PyData->Prop
 | str (z:Str):zc H (.str z) (.str z)
 | tup {a:Addr} {xs:List V} {ds:List PyData}:H a=some (.tup xs)->xs.length=ds.length->(∀ i (h:i < xs.length) (h':i < ds.length),zc H xs[i] ds[i])->zc H (.ref a) (.tuple ds)
theorem zc.ts (s:Tk H H') {v:V} {d:PyData} (h:zc H v d):zc H' v d:=by
 induction h with
 | str z=>exact .str z
 | tup e hl _ ih=>exact .tup (s _ _ e) hl ih
theorem fZ:∀ {ds:List PyData},(∀ d∈ds,d.showable=true)->PyData.showableAll ds=true
 | [],_=>by simp [PyData.showableAll]
 | d::ds,h=>by simp [PyData.showableAll,h d List.mem_cons_self,fZ fun x hx=>h x (Qh _ hx)]
theorem gX:∀ {ds:List PyData},(∀ d∈ds,d.hasDict=false)->PyData.hasDictAll ds=false
 | [],_=>by simp [PyData.hasDictAll]
 | d::ds,h=>by simp [PyData.hasDictAll,h d List.mem_cons_self,gX fun x hx=>h x (Qh _ hx)]
theorem jT {k:Nat}:∀ {ds:List PyData},(∀ d∈ds,d.depth<=k)->PyData.depthAll ds<=k
 | [],_=>by simp [PyData.depthAll]
 | d::ds,h=>by
  have h1:=h d List.mem_cons_self
  have h2:=jT (ds:=ds) fun x hx=>h x (Qh _ hx)
  simp [PyData.depthAll];omega
theorem z6 {n:Nat}:∀ {ts:List Str},(∀ t∈ts,t.length<=n)->(ts.map (·.length)).sum<=ts.length*n
 | [],_=>by simp
 | t::ts,h=>by
  have h1:=h t List.mem_cons_self
  have h2:=z6 (ts:=ts) fun x hx=>h x (Qh _ hx)
  rw [List.map_cons,List.sum_cons,List.length_cons,Nat.add_mul];omega
def TB (H:Hp) (v:V) (k n:Nat):Prop:=∃ d,zc H v d/\d.depth<=k/\d.shown.length<=n/\d.showable=true/\d.hasDict=false
def Wd (z:Str):Prop:=z.length<=20/\∀ c∈z.cps.toList,c < 128
theorem TB.mono {v:V} {k k' n':Nat} (h:TB H v k n) (hk:k<=k') (hn:n<=n'):TB H v k' n':=by
 obtain ⟨d,h1,h2,h3,h4,h5⟩:=h
 exact ⟨d,h1,by omega,by omega,h4,h5⟩
theorem TB.ts {H H':Hp} (s:Tk H H') {v:V} {k n:Nat} (h:TB H v k n):TB H' v k n:=by
 obtain ⟨d,h1,h2⟩:=h
 exact ⟨d,h1.ts s,h2⟩
theorem TB.str {H:Hp} {z:Str} (h:Wd z):TB H (.str z) 0 202:=by
 refine ⟨.str z,.str z,by simp [PyData.depth],?_,by simp [PyData.showable],by simp [PyData.hasDict]⟩
 show (PyData.str z).shown.length<=202
 simp only [PyData.shown]
 have:=StrLaws.reprText_len z (fun c hc=>Nat.lt_of_lt_of_le (h.2 c hc) (by decide))
 have:=h.1
 omega
theorem TB.tup {H:Hp} {a:Addr} {xs:List V} {k n:Nat} (e:H a=some (.tup xs)) (h:∀ x∈xs,TB H x k n):TB H (.ref a) (k+1) (xs.length*(n+2)+3):=by
 have hc:∀ i:Fin xs.length,∃ d,zc H xs[i.val] d/\d.depth<=k/\d.shown.length<=n/\d.showable=true/\d.hasDict=false:=fun i=>h _ (Qj i.isLt)
 obtain ⟨f,hf⟩:=Classical.axiomOfChoice hc
 have hm:∀ d∈List.ofFn f,d.depth<=k/\d.shown.length<=n/\d.showable=true/\d.hasDict=false:=fun d hd=>by
  obtain ⟨i,rfl⟩:=List.mem_ofFn.mp hd
  exact (hf i).2
 refine ⟨.tuple (List.ofFn f),.tup e (by simp) fun i h1 h2=>?_,?_,?_,?_,?_⟩
 ·have:=(hf ⟨i,h1⟩).1
  simpa using this
 ·simp only [PyData.depth]
  have:=jT (fun d hd=>(hm d hd).1)
  omega
 ·simp only [PyData.shown]
  have h1:=tupleText_len_le (PyData.shownAll (List.ofFn f))
  have e2:PyData.shownAll (List.ofFn f)=(List.ofFn f).map PyData.shown:=shownAll_eq_map _
  have h2:((PyData.shownAll (List.ofFn f)).map (·.length)).sum<=(PyData.shownAll (List.ofFn f)).length*n:=z6 fun t ht=>by
   rw [e2] at ht
   obtain ⟨d,hd,rfl⟩:=List.mem_map.mp ht
   exact (hm d hd).2.1
  have h3:(PyData.shownAll (List.ofFn f)).length=xs.length:=by rw [e2];simp
  rw [h3] at h1 h2
  rw [Nat.mul_add];omega
 ·simp only [PyData.showable]
  exact fZ fun d hd=>(hm d hd).2.2.1
 ·simp only [PyData.hasDict]
  exact gX fun d hd=>(hm d hd).2.2.2
theorem jR (rs:List (Key×V)):(rs.map (·.1)).Nodup->∀ i (h:i < rs.length),bx (dictOf rs) rs[i].1=some rs[i].2:=by
 have gen:∀ (rs:List (Key×V)) (kvs:List (Key×V)),(rs.map (·.1)).Nodup->∀ k,bx (rs.foldl (fun kvs r=>putK kvs r.1 r.2) kvs) k=((rs.find? fun r=>decide (r.1=k)).map (·.2)).or (bx kvs k):=by
  intro rs
  induction rs with
  | nil=>intro kvs _ k;simp
  | cons r rs ih=>
   intro kvs hn k
   rw [List.map_cons,List.nodup_cons] at hn
   rw [List.foldl_cons,ih _ hn.2,yH]
   by_cases e:r.1=k
   ·have:rs.find? (fun r=>decide (r.1=k))=none:=by
     rw [List.find?_eq_none]
     intro x hx z
     have z':=Qt z
     exact hn.1 (List.mem_map.mpr ⟨x,hx,by rw [z',e]⟩)
    rw [this,List.find?_cons,if_pos e.symm]
    simp [e]
   ·rw [if_neg (fun z=>e z.symm),List.find?_cons]
    simp [e]
 intro hn i h
 unfold dictOf
 rw [gen rs [] hn]
 have:rs.find? (fun r=>decide (r.1=rs[i].1))=some rs[i]:=by
  rw [List.find?_eq_some_iff_getElem]
  refine ⟨by simp,i,h,rfl,fun j hj=>?_⟩
  have jl:(rs.map (·.1))[j]'(by simp;omega)≠(rs.map (·.1))[i]'(by simpa using h):=fun z=>by
   exact (List.pairwise_iff_getElem.mp hn j i (by simp;omega) (by simpa using h) hj) z
  simpa using jl
 rw [this];rfl
abbrev bq (rs:List (Str×V)):List (Key×V):=rs.map fun r=>(Sum.inr r.1,r.2)
def AB (H:Hp) (v:V) (o:Option Str):Prop:=∃ b,v=.ref b/\((∃ s ys,H b=some (.tup (.str s::ys))/\s≠"as"/\o=none)\/∃ x,H b=some (.tup [.str "as",.str x])/\o=some x)
theorem AB.ts (s:Tk H H') {v:V} {o:Option Str} (h:AB H v o):AB H' v o:=by
 obtain ⟨b,e,h⟩:=h
 refine ⟨b,e,?_⟩
 rcases h with ⟨z,ys,h1,h2⟩ | ⟨x,h1,h2⟩
 ·exact .inl ⟨z,ys,s _ _ h1,h2⟩
 ·exact .inr ⟨x,s _ _ h1,h2⟩
structure kq (H:Hp) (a:Addr) (xs:List V) (rs:List (Str×V)) (nx:Str->Option Str) (ρ:Str->Nat):Prop where
 at_:H a=some (.tup xs)
 ps:iw H xs (bq rs)
 nd:(rs.map (·.1)).Nodup
 len:rs.length<=300
 pos:0 < rs.length
 as:∀ r∈rs,AB H r.2 (nx r.1)
 AD:∀ r∈rs,∀ y,nx r.1=some y->y∈rs.map (·.1)/\ρ y < ρ r.1
 rk:∀ r∈rs,ρ r.1<=rs.length
 tb:∀ r∈rs,Wd r.1/\TB H r.2 3 8273
theorem iw.ts {ys:List V} {rs:List (Key×V)} (p:iw H ys rs) (s:Tk H H'):iw H' ys rs:=⟨p.1,fun i h=>let ⟨b,e1,e2⟩:=p.2 i h;⟨b,e1,s _ _ e2⟩⟩
section
variable {xs:List V} {rs:List (Str×V)} {nx:Str->Option Str} {ρ:Str->Nat}
theorem kq.ts (g:kq H a xs rs nx ρ) (s:Tk H H'):kq H' a xs rs nx ρ:=
 ⟨s _ _ g.at_,g.ps.ts s,g.nd,g.len,g.pos,fun r hr=>(g.as r hr).ts s,g.AD,g.rk,fun r hr=>⟨(g.tb r hr).1,(g.tb r hr).2.ts s⟩⟩
theorem lS (h:(rs.map (·.1)).Nodup):((bq rs).map (·.1)).Nodup:=by
 have e:(bq rs).map (·.1)=(rs.map (·.1)).map (Sum.inr:Str->Key):=by simp [bq,Qn,QB]
 rw [e]
 exact List.Pairwise.map _ (fun a b nu z=>nu (Sum.inr.inj z)) h
theorem kq.get (g:kq H a xs rs nx ρ) (hx:x∈rs.map (·.1)):∃ v,(x,v)∈rs/\bx (dictOf (bq rs)) (.inr x)=some v:=by
 obtain ⟨r,hr,rfl⟩:=List.mem_map.mp hx
 obtain ⟨i,hi,rfl⟩:=Qi hr
 refine ⟨rs[i].2,hr,?_⟩
 have:=jR (bq rs) (lS g.nd) i (by simpa using hi)
 simpa using this
def AE (nx:Str->Option Str) (x:Str):Str:=(nx x).getD x
def ux (nx:Str->Option Str):Nat->Str->Str
 | 0,x=>x
 | n+1,x=>ux nx n (AE nx x)
theorem cO (n:Nat) (h:nx x=none):ux nx n x=x:=by
 induction n with
 | zero=>rfl
 | succ n ih=>rw [ux];rw [show AE nx x=x by simp [AE,h]];exact ih
theorem kq.run (g:kq H a xs rs nx ρ):∀ (n:Nat) (x:Str),x∈rs.map (·.1)->ρ x<=n->ux nx n x∈rs.map (·.1)/\nx (ux nx n x)=none/\ux nx (n+1) x=ux nx n x:=by
 intro n
 induction n with
 | zero=>
  intro x hx hr
  obtain ⟨r,fb,rfl⟩:=List.mem_map.mp hx
  cases e:nx r.1 with
  | none=>exact ⟨hx,e,cO 1 e⟩
  | some y=>have:=(g.AD r fb y e).2;omega
 | succ n ih=>
  intro x hx hr
  obtain ⟨r,fb,rfl⟩:=List.mem_map.mp hx
  cases e:nx r.1 with
  | none=>
   rw [cO _ e,cO _ e]
   exact ⟨hx,e,rfl⟩
  | some y=>
   have e2:AE nx r.1=y:=by simp [AE,e]
   obtain ⟨h1,h2⟩:=g.AD r fb y e
   have:=ih y h1 (by omega)
   rw [ux,ux,e2]
   exact this
def gi (nx:Str->Option Str) (n:Nat) (x:Str):Str:=ux nx n x
theorem kq.yc (g:kq H a xs rs nx ρ) (hx:x∈rs.map (·.1)):gi nx rs.length x∈rs.map (·.1)/\nx (gi nx rs.length x)=none:=by
 obtain ⟨r,hr,rfl⟩:=List.mem_map.mp hx
 obtain ⟨h1,h2,_⟩:=g.run rs.length r.1 hx (g.rk r hr)
 exact ⟨h1,h2⟩
theorem kq.Kv (g:kq H a xs rs nx ρ) (hx:x∈rs.map (·.1)) (e:nx x=some y):gi nx rs.length y=gi nx rs.length x:=by
 obtain ⟨r,hr,rfl⟩:=List.mem_map.mp hx
 obtain ⟨h1,h2,h3⟩:=g.run rs.length r.1 hx (g.rk r hr)
 have e2:AE nx r.1=y:=by simp [AE,e]
 rw [ux,e2] at h3
 exact h3
end
theorem wU (xs:List V) (k:Nat):kh xs (some (k:Int)) none=xs.drop k:=by
 unfold kh
 rw [HT.pF,HT.qB]
 by_cases h:k<=xs.length
 ·rw [Nat.min_eq_left h]
  exact List.take_of_length_le (by simp)
 ·rw [Nat.min_eq_right (by omega)]
  simp [List.drop_eq_nil_of_le (show xs.length<=k by omega)]
theorem RX (xs:List V) (k:Nat):kh xs none (some (k:Int))=xs.take k:=by
 unfold kh
 rw [HT.pF,HT.qB]
 simp
theorem vV {l:List α} (h:l.Nodup) {x:α} (hi:l[i]? =some x) (hj:l[j]? =some x):i=j:=by
 obtain ⟨a,e1⟩:=List.getElem?_eq_some_iff.mp hi
 obtain ⟨b,e2⟩:=List.getElem?_eq_some_iff.mp hj
 rcases Nat.lt_trichotomy i j with z | z | z
 ·exact ((List.pairwise_iff_getElem.mp h i j a b z) (e1.trans e2.symm)).elim
 ·exact z
 ·exact ((List.pairwise_iff_getElem.mp h j i b a z) (e2.trans e1.symm)).elim
theorem nJ [BEq α] [LawfulBEq α] {l:List α} (h:l.Nodup) {x:α} (hi:l[i]? =some x):l.idxOf x=i:=by
 have hm:x∈l:=QC hi
 have h1:l.idxOf x < l.length:=List.idxOf_lt_length_of_mem hm
 have h2:l[l.idxOf x]? =some x:=by rw [Qa h1,List.getElem_idxOf]
 exact vV h h2 hi
open Classical in
theorem f7 {z:Str} (h1:z.length<=20) (h2:∀ c∈z.cps.toList,c < 128):Wd z:=⟨h1,h2⟩
section
variable {β:Type} {R:α->β->Prop}
theorem lC:∀ {xs GL:List α} {ys GN:List β},Paired R xs ys->Paired R GL GN->Paired R (xs++GL) (ys++GN)
 | _,_,_,_,.nil,h=>h
 | _,_,_,_,.cons a r,h=>.cons a (lC r h)
theorem yN:∀ {xs:List α} {ys:List β},xs.length=ys.length->(∀ i (h:i < xs.length) (h':i < ys.length),R xs[i] ys[i])->Paired R xs ys
 | [],[],_,_=>.nil
 | x::xs,y::ys,hl,h=>.cons (h 0 (by simp) (by simp)) (yN (by simpa using hl) fun i a b=>h (i+1) (by simpa using a) (by simpa using b))
theorem uR:∀ {xs:List α} {ys:List β},Paired R xs ys->xs.length=ys.length/\∀ i (h:i < xs.length) (h':i < ys.length),R xs[i] ys[i]
 | _,_,.nil=>⟨rfl,fun i h=>absurd h (by simp)⟩
 | _,_,.cons a r=>by
  obtain ⟨h1,h2⟩:=uR r
  refine ⟨by simp [h1],fun i h h'=>?_⟩
  cases i with
  | zero=>exact a
  | succ i=>exact h2 i (by simpa using h) (by simpa using h')
end
def PR (H:Hp) (x:V) (r:Key×V):Prop:=∃ b,x=.ref b/\H b=some (.tup [kV r.1,r.2])
theorem eZ {xs:List V} {rs:List (Key×V)}:iw H xs rs↔Paired (PR H) xs rs:=by
 constructor
 ·rintro ⟨hl,h⟩
  refine yN hl fun i h1 h2=>?_
  obtain ⟨b,e1,e2⟩:=h i h2
  rw [Qa h1] at e1
  exact ⟨b,QD e1,e2⟩
 ·intro h
  obtain ⟨hl,h'⟩:=uR h
  refine ⟨hl,fun i h2=>?_⟩
  obtain ⟨b,e1,e2⟩:=h' i (by omega) h2
  exact ⟨b,by rw [Qa (by omega),e1],e2⟩
section
variable {xs:List V} {rs:List (Str×V)}
theorem nW (a b:List (Str×V)):bq (a++b)=bq a++bq b:=by simp [bq]
theorem n4:iw H [] (bq []):=eZ.mpr .nil
theorem kY (h:iw H xs (bq rs)) {n:Str} {v:V} (e:H b=some (.tup [.str n,v])):iw H (xs++[.ref b]) (bq (rs++[(n,v)])):=by
 rw [nW]
 exact eZ.mpr (lC (eZ.mp h) (.cons ⟨b,rfl,e⟩ .nil))
end
section
variable {e1 e2:Expr} {p pos:Pos} {k:Nat} {g1 g2:TG}
end
def KD (w:World) (K:QZ) (a:Addr) (kvs:List (Key×V)):Prop:=∀ P:Program,∃ (o:Obj) (es:Array DictEntry) (ep:Nat) (vs:List (Key×Value)),K.lookup a=some o/\(a==sysModules)=false/\o.ExactDict/\o.data=.dict es ep/\KeysOf (cj P w) es/\Pairs (cj P w) es.toList vs/\(vs.map (·.1)).Nodup/\KV kvs vs
section
variable {kvs:List (Key×V)}
theorem KD.of (h:KD X.w X.K a kvs) (I:Inv X pins σ H s):(a==sysModules)=false/\∃ vs,KV kvs vs/\s.heap.DictOf (cj X.prog X.w) a vs:=by
 obtain ⟨o,es,ep,vs,h1,h2,h3,h4,h5,h6,h7,h8⟩:=h X.prog
 exact ⟨h2,vs,h8,o,es,ep,I.cu a o h1,h3,h4,h5,h6,h7⟩
variable {pos p:Pos}
def Kw (kvs:List (Key×V)) (te:TE):TE:=fun σ H Q=>te σ H fun y H1=>∃ k,y=kV k/\Q (.bl (bx kvs k).isSome) H1
theorem RY {K:QZ} (hx:∃ a,X.mg x=some (.ref a)/\KD w K a kvs) (he:PE X e te) (hw:X.w=w) (hK:X.K=K) (hg:Gl X x) (hd:(x==("__debug__":Str))=false):PC X .In e (.Name x p) (Kw kvs te):=by
 subst hw hK
 obtain ⟨a,hm,kd⟩:=hx
 intro pins s σ H Q I h
 refine aj (he pins s σ H _ I h) ?_
 rintro iv s1 ⟨y,H1,I1,ry,k,ey,q1⟩
 subst ey
 refine aj (kL (v:=.ref a) hg hm rfl hd pins s1 σ H1 (fun v H'=>v=.ref a/\H'=H1) I1 ⟨rfl,rfl⟩) fun u s2 ⟨z,H2,I2,rz,ez,eH⟩=>?_
 subst ez eH
 cases rz
 obtain ⟨h1,vs,rel,dd⟩:=kd.of I2
 refine wpAny_in_of (gG ry) h1 dd.mapOf ?_
 rw [<- (rel.val k).Bl]
 exact ⟨.bl _,_,I2.tok _,rfl,q1⟩
theorem RZ {K:QZ} (hx:∃ a,X.mg x=some (.ref a)/\KD w K a kvs) (he:SE X e te) (hw:X.w=w:=by rfl) (hK:X.K=K:=by rfl) (hg:Gl X x:=by rfl) (hd:(x==("__debug__":Str))=false:=by decide):ST X (.Compare e [.In] [.Name x p] pos) (tB (Kw kvs te)):=⟨NZ (RY hx he.h hw hK hg hd) rfl⟩
def R0 (kvs:List (Key×V)) (te:TE):TE:=fun σ H Q=>te σ H fun y H1=>∃ k v,y=kV k/\bx kvs k=some v/\Q v H1
theorem R1 {K:QZ} (hx:∃ a,X.mg x=some (.ref a)/\KD w K a kvs) (he:SE X e te) (hs:Ei e) (hw:X.w=w:=by rfl) (hK:X.K=K:=by rfl) (hg:Gl X x:=by rfl) (hd:(x==("__debug__":Str))=false:=by decide):SE X (.Subscript (.Name x p) e pos) (R0 kvs te):=by
 subst hw hK
 obtain ⟨a,hm,kd⟩:=hx
 constructor
 intro pins s σ H Q I h
 refine uO PySem.F.slot_dict_getitem.lookup hs (aj (kL (v:=.ref a) hg hm rfl hd pins s σ H (fun v H'=>v=.ref a/\H'=H) I ⟨rfl,rfl⟩) fun u s2 ⟨z,H2,I2,rz,ez,eH⟩=>?_)
 subst ez eH
 cases rz
 refine aj (he.h pins s2 σ _ _ I2 h) ?_
 rintro iv s3 ⟨y,H3,I3,ry,k,v,ey,ev,q⟩
 subst ey
 obtain ⟨h1,vs,rel,dd⟩:=kd.of I3
 obtain ⟨w',hw,lu⟩:=jh.some_of (v:=v) (o:=valueAt vs k) (by rw [<- ev];exact rel.val k)
 exact ⟨dd.typeIs,wpAny_getItem_of (gG ry) dd.mapOf hw ⟨v,_,I3.tok _,lu,q⟩⟩
end
def iz (kvs:List (Key×V)) (i:Nat):V:=((kvs[i]?).map fun kv=>kV kv.1).getD .ao
def EA (a:Addr) (o:Obj) (kvs:List (Key×V)):It:=⟨fun i H=>H a=some (.af o (.dK kvs))/\i < kvs.length,fun i H x H'=>H'=H/\x=iz kvs i,fun i H=>H a=some (.af o (.dK kvs))/\kvs.length=i⟩
theorem kU (kvs:List (Key×V)):rg (EA a o kvs) (fun H=>H a=some (.af o (.dK kvs))) kvs.length (iz kvs):=fun H ok=>⟨fun i hi=>⟨⟨ok,hi⟩,fun x H' h=>h⟩,ok,rfl⟩
theorem R3 {kvs:List (Key×V)} (r:KV kvs vs):∀ {i:Nat} {p:Key×V},kvs[i]? =some p->∃ q,vs[i]? =some q/\q.1=p.1:=by
 intro i
 induction r generalizing i with
 | nil=>intro p h;simp at h
 | cons a t ih=>
  intro p h
  cases i with
  | zero=>simp at h;subst h;exact ⟨_,by simp,a.1.symm⟩
  | succ i=>simp at h;simpa using ih h
theorem rL {k:Key} (h:(cj P w).is k u=true):RelV (kV k) u:=by
 rcases bI h with ⟨i,t,rfl,rfl⟩ | ⟨x,t,rfl,rfl⟩
 ·exact ⟨t,rfl⟩
 ·exact ⟨t,rfl⟩
theorem KV.len {kvs:List (Key×V)} (r:KV kvs vs):kvs.length=vs.length:=Paired.length r
theorem mT {K:QZ} {kvs:List (Key×V)} (nv:∃ es,o.data=.dict es ep):Turn P w K tg (EA a o kvs) [it] it (fun i h=>h.IsKeyIter it a i kvs.length ep) where
 mem:=by simp
 obj:=fun i h st b hb=>by
  have e:b=it:=by simpa using hb
  subst e
  obtain ⟨o,e,c,d⟩:=st
  exact ⟨o,e,fun v z=>by rw [d] at z;cases z⟩
 keep:=fun i h h' st k=>st.at fun o e=>k it (by simp) o e
 item:=by
  intro X hP hw hK hc i pins s σ H E I hf st hg
  subst hP hw hK
  obtain ⟨hq,hi⟩:=hg
  obtain ⟨e,z,hd,vs,rel,ob,es,mz,h1,h2,h3,h4⟩:=(show bf X.prog X.w H s.heap a (.af o (.dK kvs)) from I.hok a _ hq)
  obtain ⟨es',cz⟩:=nv
  rw [e] at h1;cases h1
  rw [cz] at h3;injection h3 with ii ik
  subst ii ik
  obtain ⟨q,jk,kj⟩:=R3 rel (Qa hi)
  have hl:=rel.len
  obtain ⟨f0,f1,f2,f3,f4,f5⟩:=hf it (by simp)
  obtain ⟨qk,qv⟩:=q
  refine wpAny_pyNext_dict_item (knd:=cj X.prog X.w) (kvs:=vs) (ep:=ep) (by rw [<- hl];exact st) ⟨o,es',e,h2,cz,h4⟩ jk fun key h' hk st' sb=>?_
  have I1:Inv X pins σ H {s with heap:=h'}:=I.turned (t':=s.toks) (fun b o hb e=>(sb.2 b hb).trans e) f0 f1 f3 f4 f5
  have j_:h'.IsKeyIter it a (i+1) kvs.length ep:=by rw [hl];exact st'
  obtain ⟨o3,e3,c3,d3⟩:=id j_
  refine ⟨key,rfl,jX (s:={s with heap:=h'}) e3 c3 d3 (by decide) ⟨iz kvs i,H,I1,?_,⟨rfl,rfl⟩,j_,fun b hb=>(hf b hb).1⟩⟩
  unfold iz
  rw [Qa hi]
  show RelV (kV kvs[i].1) key
  have GO:qk=kvs[i].1:=kj
  rw [<- GO]
  exact rL hk
 done:=by
  intro X hP hw hK hc i pins s σ H E I hf st hg
  subst hP hw hK
  obtain ⟨hq,hi⟩:=hg
  obtain ⟨e,z,hd,vs,rel,ob,es,mz,h1,h2,h3,h4⟩:=(show bf X.prog X.w H s.heap a (.af o (.dK kvs)) from I.hok a _ hq)
  obtain ⟨es',cz⟩:=nv
  rw [e] at h1;cases h1
  rw [cz] at h3;injection h3 with ii ik
  subst ii ik
  have hl:=rel.len
  obtain ⟨f0,f1,f2,f3,f4,f5⟩:=hf it (by simp)
  exact wpAny_pyNext_dict_end (knd:=cj X.prog X.w) (kvs:=vs) (ep:=ep) (I.ok.hd hc) (by rw [<- hl];exact st) ⟨o,es',e,h2,cz,h4⟩ (by simp;omega) fun h' eb=>⟨rfl,I.turned (t':=s.toks) (fun b o hb e=>eb b o hb e) f0 f1 f3 f4 f5⟩
 self:=fun _ _ _ _ _ st h=>wpAny_pyIter_keyiter st h
theorem iN {o:HO} (h:H a=some o):upd H a o=H:=by
 funext b
 unfold upd
 by_cases e:b=a
 ·rw [if_pos e,e,h]
 ·rw [if_neg e]
theorem Inv.freeze {kvs:List (Key×V)} (I:Inv X pins σ H s) (h:Rd H a (.dK kvs)):∃ o es ep,o.data=.dict es ep/\Inv X pins σ (upd H a (.af o (.dK kvs))) s/\s.heap.get? a=some o:=by
 rcases h with h | ⟨o,h⟩
 ·have ok:=(show bf X.prog X.w H s.heap a (.dK kvs) from I.hok a _ h)
  obtain ⟨z,hd,vs,rel,o,es,ep,h1,h2,h3,h4⟩:=ok
  have I2:=I.write (x:=a) (e:=a) (h':=s.heap) (t':=s.toks) (o:=.af o (.dK kvs)) (by rw [h];exact True.intro) (.inl rfl) (fun b u _ q=>q) ⟨o,h1⟩ ⟨h1,z,hd,vs,rel,o,es,ep,h1,h2,h3,h4⟩
  exact ⟨o,es,ep,h3,I2,h1⟩
 ·obtain ⟨e,z,hd,vs,rel,ob,es,ep,h1,h2,h3,h4⟩:=(show bf X.prog X.w H s.heap a (.af o (.dK kvs)) from I.hok a _ h)
  rw [e] at h1;cases h1
  exact ⟨o,es,ep,h3,by rw [iN h];exact I,e⟩
def R4 (te:TE):TI:=fun σ H R=>te σ H fun x H1=>∃ a kvs,x=.ref a/\Rd H1 a (.dK kvs)/\∀ o,R (EA a o kvs) (upd H1 a (.af o (.dK kvs)))
theorem R5 (he:SE X e te):SI X tg e (R4 te):=by
 constructor
 intro pins s σ H R I h
 refine aj (he.h pins s σ H _ I h) ?_
 rintro v s1 ⟨x,H1,I1,r1,a,kvs,ex,hr,q⟩
 subst ex
 cases r1
 obtain ⟨o,es,ep,hd,I2,ho⟩:=I1.freeze hr
 obtain ⟨e,z,uy,vs,rel,ob,es',mz,h1,h2,h3,h4⟩:=(show bf X.prog X.w _ s1.heap a (.af o (.dK kvs)) from I2.hok a _ aA)
 rw [e] at h1;cases h1
 rw [hd] at h3;injection h3 with ii ik
 subst ii ik
 refine wpAny_pyIter_dict (knd:=cj X.prog X.w) (kvs:=vs) (ep:=ep) uy ⟨o,es,e,h2,hd,h4⟩ ?_
 have hl:=rel.len
 refine ⟨s1.heap.objs.size,[s1.heap.objs.size],_,_,_,rfl,I2.kept (t':=s1.toks) fun b o e=>Qc _ e,mT (kvs:=kvs) (a:=a) (o:=o) ⟨es,hd⟩,by rw [hl];exact ⟨_,Qd _ rfl,rfl,rfl⟩,fun b hb=>?_,q o⟩
 have e:b=s1.heap.objs.size:=by simpa using hb
 subst e
 exact I2.pq (Qy _) (I2.hok.fresh (Qy _))
def Kx (n:Bool):R2:=fun y x H Q=>∃ a o,x=.ref a/\dh H a y o/\Q (.bl (n^^o.isSome)) H
theorem sX (hu:X.A.units+1 < cLine):cg X (compareOp .In) (Kx false):=by
 intro pins s σ H x y v u Q I rx ry h
 obtain ⟨a,o,rfl,g,q⟩:=h
 cases ry
 exact Pz hu I g rx fun s' I'=>⟨.bl o.isSome,H,I',rfl,by simpa using q⟩
theorem w4 (hu:X.A.units+1 < cLine):cg X (compareOp .NotIn) (Kx true):=by
 intro pins s σ H x y v u Q I rx ry h
 obtain ⟨a,o,rfl,g,q⟩:=h
 cases ry
 exact PB hu I g rx fun s' I'=>⟨.bl (!o.isSome),H,I',rfl,by simpa using q⟩
theorem dh.rd {kvs:List (Key×V)} {k:Key} (e:Rd H a (.dK kvs)):dh H a (kV k) (bx kvs k):=.inl ⟨kvs,k,e,rfl,rfl⟩
section
variable {a b c:Expr} {ta:TA} {p pos:Pos}
end
inductive Dt where
 | str (z:Str)
 | tup (ds:List Dt)
 | qj
inductive DD (H:Hp):V->Dt->Prop
 | str {z:Str} (h:z.length<=100000):DD H (.str z) (.str z)
 | tup {a:Addr} {xs:List V} {ds:List Dt}:H a=some (.tup xs)->xs.length=ds.length->xs.length<=1000->(∀ i (h:i < xs.length) (h':i < ds.length),DD H xs[i] ds[i])->DD H (.ref a) (.tup ds)
 | ao:DD H .ao .qj
 | bl (b:Bool):DD H (.bl b) .qj
 | int (i:Int):DD H (.int i) .qj
 | lst {a:Addr} {xs:List V}:H a=some (.lst xs)->DD H (.ref a) .qj
 | dct {a:Addr} {kvs:List (Key×V)}:H a=some (.dK kvs)->DD H (.ref a) .qj
theorem DD.same (s:aa H H') {v:V} {d:Dt} (h:DD H v d):DD H' v d:=by
 induction h with
 | str h=>exact .str h
 | tup e hl hn _ ih=>exact .tup (s _ _ e) hl hn ih
 | ao=>exact .ao
 | bl b=>exact .bl b
 | int i=>exact .int i
 | lst e=>exact .lst (s _ _ e)
 | dct e=>exact .dct (s _ _ e)
def Bw:Dt->Bool | .str z=>isName z | _=>false
def pairD:Dt->Bool | .tup [a,b]=>Bw a&&Bw b | _=>false
def Ky:Dt->Str | .tup (.str z::_)=>z | _=>""
def mh (a b:Str):Bool:=decide (a.cps.toList < b.cps.toList)
def rising:List Str->Bool
 | a::b::r=>mh a b&&rising (b::r)
 | _=>true
def GP:Dt->Bool | .tup ps=>ps.all pairD&&rising (ps.map Ky) | _=>false
def Bx (s:Str):Bool:=s=="box"||s=="pick"
def CB (s:Str):Option Nat:=if s=="all" then some 0 else if s=="none" then some 0 else if s=="way" then some 2 else if s=="as" then some 1 else none
def headD:Dt->Bool
 | .tup (.str s::rest)=>if Bx s then (match rest with | [p]=>GP p | _=>false) else match CB s with | some n=>decide (rest.length=n)&&rest.all Bw | none=>false
 | _=>false
theorem be.imp {P:Program} {w:World} {K:QZ} {mg:Str->Option Value} {base:Heap} {k:Nat} {x:Str} {ps:List Str} {sp Cg:Sp} (F:be P w K mg base k x ps sp) (h:∀ vs H Q E,Cg vs H Q E->sp vs H Q E):be P w K mg base k x ps Cg:=by
 obtain ⟨f,fd,G,r⟩:=F
 exact ⟨f,fd,G.imp h,r⟩
theorem iQ (rs:List (Key×V)):(rs.map (·.1)).Nodup->dictOf rs=rs:=by
 have gen:∀ (rs kvs:List (Key×V)),(rs.map (·.1)).Nodup->(∀ r∈rs,bx kvs r.1=none)->rs.foldl (fun kvs r=>putK kvs r.1 r.2) kvs=kvs++rs:=by
  intro rs
  induction rs with
  | nil=>intro kvs _ _;simp
  | cons r rs ih=>
   intro kvs hn hk
   rw [List.map_cons,List.nodup_cons] at hn
   rw [List.foldl_cons,dZ _ (hk r List.mem_cons_self),ih _ hn.2 fun x hx=>?_]
   ·simp
   ·rw [j3 _ _ _ _ (hk r List.mem_cons_self),if_neg (fun e=>hn.1 (List.mem_map.mpr ⟨x,hx,e⟩))]
    exact hk x (Qh _ hx)
 intro hn
 have:=gen rs [] hn (fun _ _=>rfl)
 simpa [dictOf] using this
theorem wC {v:V} {d:Dt} (h:DD H v d) (hn:Bw d=true):∃ z,v=.str z/\d=.str z/\isName z=true:=by
 cases h with
 | str _=>exact ⟨_,rfl,rfl,hn⟩
 | tup _ _ _ _=>exact Bool.noConfusion hn
 | ao=>exact Bool.noConfusion hn
 | bl _=>exact Bool.noConfusion hn
 | int _=>exact Bool.noConfusion hn
 | lst _=>exact Bool.noConfusion hn
 | dct _=>exact Bool.noConfusion hn
def R6:Dt->Dt | .tup (_::h::_)=>h | _=>.qj
def CD:Dt->Option Str | .tup [.str s,.str x]=>if s=="as" then some x else none | _=>none
def AF (ds:List Dt):List (Str×Dt):=ds.map fun d=>(Ky d,R6 d)
def GQ (rs:List (Str×Dt)) (n:Str):Option Str:=(rs.find? fun r=>decide (r.1=n)).bind fun r=>CD r.2
theorem Rd.same {u:HO} (r:Rd H a u) (s:aa H H'):Rd H' a u:=by
 rcases r with r | ⟨o,r⟩
 ·exact .inl (s _ _ r)
 ·exact .inr ⟨o,s _ _ r⟩
theorem yO (z:Str) (ds:List Dt):headD (.tup (.str z::ds))=if Bx z then (match ds with | [p]=>GP p | _=>false) else match CB z with | some n=>decide (ds.length=n)&&ds.all Bw | none=>false:=rfl
theorem yY {v:V} {d:Dt} (h:DD H v d) (hh:headD d=true):∃ a z xs ds,v=.ref a/\d=.tup (.str z::ds)/\H a=some (.tup (.str z::xs))/\xs.length=ds.length/\xs.length < 1000/\(∀ i (h:i < xs.length) (h':i < ds.length),DD H xs[i] ds[i])/\
  ((Bx z=true/\∃ p,ds=[p]/\GP p=true)\/(Bx z=false/\∃ n,CB z=some n/\ds.length=n/\ds.all Bw=true)):=by
 cases h with
 | @tup a xs ds e hl hn ji=>
  match ds,hl,hh,ji with
  | .str z::ds,hl,hh,ji=>
   match xs,hl,e,hn,ji with
   | x0::xs,hl,e,hn,ji=>
    have h0:=ji 0 (by simp) (by simp)
    simp only [List.getElem_cons_zero] at h0
    cases h0
    refine ⟨a,z,xs,ds,rfl,rfl,e,by simpa using hl,by simp at hn;omega,fun i h h'=>ji (i+1) (by simpa using h) (by simpa using h'),?_⟩
    rw [yO] at hh
    cases hw:Bx z with
    | true=>
     rw [hw] at hh
     simp only [if_true] at hh
     match ds,hh with
     | [p],hh=>exact .inl ⟨rfl,p,rfl,hh⟩
    | false=>
     rw [hw] at hh
     simp only [Bool.false_eq_true,if_false] at hh
     cases hb:CB z with
     | none=>rw [hb] at hh;exact Bool.noConfusion hh
     | some n=>
      rw [hb] at hh
      simp only [Bool.and_eq_true,decide_eq_true_eq] at hh
      exact .inr ⟨rfl,n,rfl,hh.1,hh.2⟩
  | .tup _::_,_,hh,_=>exact Bool.noConfusion hh
  | .qj::_,_,hh,_=>exact Bool.noConfusion hh
  | [],_,hh,_=>exact Bool.noConfusion hh
 | str _=>exact Bool.noConfusion hh
 | ao=>exact Bool.noConfusion hh
 | bl _=>exact Bool.noConfusion hh
 | int _=>exact Bool.noConfusion hh
 | lst _=>exact Bool.noConfusion hh
 | dct _=>exact Bool.noConfusion hh
theorem vQ:Bx "as"=false:=by decide
theorem R7 {v:V} {d:Dt} (h:DD H v d) (hh:headD d=true):AB H v (CD d):=by
 obtain ⟨a,z,xs,ds,rfl,rfl,e,hl,hn,ji,hc⟩:=yY h hh
 refine ⟨a,rfl,?_⟩
 by_cases hz:z="as"
 ·subst hz
  rcases hc with ⟨hw,_⟩ | ⟨_,n,hb,R8,EB⟩
  ·rw [vQ] at hw;cases hw
  ·have hn1:n=1:=by
    have:CB "as"=some 1:=by decide
    rw [this] at hb;cases hb;rfl
   subst hn1
   match ds,R8,hl,EB,ji with
   | [d1],_,hl,EB,ji=>
    match xs,hl,e,ji with
    | [x1],_,e,ji=>
     simp only [List.all_cons,List.all_nil,Bool.and_true] at EB
     obtain ⟨y,q1,q2,_⟩:=wC (ji 0 (by simp) (by simp)) EB
     simp only [List.getElem_cons_zero] at q1
     subst q1 q2
     exact .inr ⟨y,e,by simp [CD]⟩
 ·refine .inl ⟨z,xs,e,hz,?_⟩
  have GR:(z==Str.ofString "as")=false:=by simpa using hz
  unfold CD
  split
  ·next s x GS=>
   injection GS with GS
   injection GS with h1 _
   injection h1 with h1
   rw [<- h1,if_neg (by rw [GR];exact Bool.false_ne_true)]
  ·rfl
theorem lF {t:TS} {D:Ends} {rt:VK} {bk ct:St->Hp->Prop} (h:t D σ H):DX {nx:=t D,rt:=rt,bk:=bk,ct:=ct} σ H:=h
structure By (H:Hp) (xs:List V) (ds:List Dt) (rs:List (Str×V)) (hs:List Dt):Prop where
 l1:rs.length=ds.length
 l2:hs.length=ds.length
 ps:iw H xs (bq rs)
 dd:∀ i (h:i < ds.length) (h1:i < rs.length) (h2:i < hs.length),ds[i]=.tup [.str rs[i].1,hs[i]]/\DD H rs[i].2 hs[i]/\headD hs[i]=true/\isName rs[i].1=true
section
variable {xs:List V} {ds:List Dt} {rs:List (Str×V)} {hs:List Dt}
theorem By.rows (R:By H xs ds rs hs) (h:i < ds.length) (h1:i < rs.length) (h2:i < hs.length):(AF ds)[i]? =some (rs[i].1,hs[i]):=by
 unfold AF
 rw [Qq,Qa h,(R.dd i h h1 h2).1];rfl
theorem kE (n:Str) (h:n ∉ rs.map (·.1)):bx (bq rs) (.inr n)=none:=by
 unfold bx
 rw [List.find?_eq_none.mpr]
 ·rfl
 ·intro p hp e
  obtain ⟨r,hr,rfl⟩:=List.mem_map.mp hp
  exact h (List.mem_map.mpr ⟨r,hr,Sum.inr.inj (Qt e)⟩)
theorem mF (nd:(rs.map (·.1)).Nodup) (h:i < rs.length):bx (bq rs) (.inr rs[i].1)=some rs[i].2:=by
 have:=jR (bq rs) (lS nd) i (by simpa using h)
 rw [iQ _ (lS nd)] at this
 simpa using this
theorem By.nx (R:By H xs ds rs hs) (nd:(rs.map (·.1)).Nodup) (h1:i < rs.length) (h2:i < hs.length):GQ (AF ds) rs[i].1=CD hs[i]:=by
 have h:i < ds.length:=by have:=R.l1;omega
 unfold GQ
 have:(AF ds).find? (fun r=>decide (r.1=rs[i].1))=some (rs[i].1,hs[i]):=by
  rw [List.find?_eq_some_iff_getElem]
  have hl:(AF ds).length=ds.length:=by unfold AF;simp
  refine ⟨by simp,i,by omega,?_,fun j hj=>?_⟩
  ·have:=R.rows h h1 h2
   rw [Qa (by omega)] at this
   exact QD this
  ·have Kz:j < rs.length:=by omega
   have:=R.rows (i:=j) (by omega) Kz (by omega)
   rw [Qa (by omega)] at this
   rw [QD this]
   have jl:(rs.map (·.1))[j]'(by simp;omega)≠(rs.map (·.1))[i]'(by simpa using h1):=fun z=>(List.pairwise_iff_getElem.mp nd j i (by simp;omega) (by simpa using h1) hj) z
   simpa using jl
 rw [this];rfl
theorem By.has (R:By H xs ds rs hs) (nd:(rs.map (·.1)).Nodup) (n:Str) (v:V) (hv:bx (bq rs) (.inr n)=some v):AB H v (GQ (AF ds) n):=by
 by_cases h:n∈rs.map (·.1)
 ·obtain ⟨r,hr,rfl⟩:=List.mem_map.mp h
  obtain ⟨i,hi,rfl⟩:=Qi hr
  rw [mF nd hi] at hv
  cases hv
  have h2:i < hs.length:=by have:=R.l1;have:=R.l2;omega
  rw [R.nx nd hi h2]
  obtain ⟨_,q1,q2,_⟩:=R.dd i (by have:=R.l1;omega) hi h2
  exact R7 q1 q2
 ·rw [kE n h] at hv;cases hv
end
inductive TX (H:Hp):V->Dt->Prop
 | str {z:Str} (h:z.length<=100000):TX H (.str z) (.str z)
 | tup {a:Addr} {xs:List V} {ds:List Dt}:H a=some (.tup xs)->xs.length=ds.length->xs.length<=1000->(∀ i (h:i < xs.length) (h':i < ds.length),TX H xs[i] ds[i])->TX H (.ref a) (.tup ds)
theorem TX.dd {v:V} {d:Dt} (h:TX H v d):DD H v d:=by
 induction h with
 | str h=>exact .str h
 | tup e hl hn _ ih=>exact .tup e hl hn ih
theorem zQ {x:V} {d:Dt} (e:H a=some (.tup [x])) (h:TX H x d):TX H (.ref a) (.tup [d]):=.tup e rfl (by simp) fun i h1 h2=>by
 match i,h1 with
 | 0,_=>exact h
theorem pH {x y:V} {d d':Dt} (e:H a=some (.tup [x,y])) (h:TX H x d) (h':TX H y d'):TX H (.ref a) (.tup [d,d']):=.tup e rfl (by simp) fun i h1 h2=>by
 match i,h1 with
 | 0,_=>exact h
 | 1,_=>exact h'
theorem R9 {x y z:V} {d d' KA:Dt} (e:H a=some (.tup [x,y,z])) (h:TX H x d) (h':TX H y d') (Bu:TX H z KA):TX H (.ref a) (.tup [d,d',KA]):=.tup e rfl (by simp) fun i h1 h2=>by
 match i,h1 with
 | 0,_=>exact h
 | 1,_=>exact h'
 | 2,_=>exact Bu
theorem l5 {z:Str} (h:isName z=true):z.length<=8:=by
 unfold isName at h
 simp only [Bool.and_eq_true,decide_eq_true_eq] at h
 exact h.1.1.2
theorem iJ {z:Str} (h:isName z=true):TX H (.str z) (.str z):=.str (by have:=l5 h;omega)
theorem pC {z:Str} (h:z.length<=100):TX H (.str z) (.str z):=.str (by omega)
section
variable {P:Option Str->Prop}
structure KC (H:Hp) (ns:List Str) (xs:List V) (ps:List (Str×Str)):Prop where
 len:xs.length=ps.length
 at_:∀ i (h:i < xs.length) (h':i < ps.length),∃ c,xs[i]=.ref c/\H c=some (.tup [.str ps[i].1,.str ps[i].2])
 nm:∀ p∈ps,isName p.1=true/\isName p.2=true/\p.2∈ns
 yd:rising (ps.map (·.1))=true
end
theorem rA {a b c:Str} (h1:mh a b=true) (h2:mh b c=true):mh a c=true:=by
 unfold mh at*
 exact Qv (List.lt_trans (Qt h1) (Qt h2))
theorem fF:∀ {ws:List Str},ws.Pairwise (fun a b=>mh a b=true)->rising ws=true
 | [],_=>rfl
 | [_],_=>rfl
 | a::b::r,h=>by
  rw [List.pairwise_cons] at h
  rw [rising,h.1 b List.mem_cons_self,fF h.2];rfl
def AG:V->Str
 | .str z=>z
 | _=>""
theorem R_ {xs:List V} {rs:List (Str×V)} (q2:iw H xs (bq rs)) (hn:∀ r∈rs,isName r.1=true) (q4:∀ r∈rs,∃ y,r.2=.str y/\y∈ns/\isName y=true) (hr:rising (rs.map (·.1))=true):KC H ns xs (rs.map fun q=>(q.1,AG q.2)):=by
 have hl:xs.length=rs.length:=by have:=q2.1;simpa using this
 refine ⟨by simp;omega,fun i h1 h2=>?_,fun q hq=>?_,?_⟩
 ·have h3:i < rs.length:=by omega
  obtain ⟨c',e1,e2⟩:=q2.2 i (by simpa using h3)
  rw [Qa h1] at e1
  refine ⟨c',QD e1,?_⟩
  obtain ⟨y,ey,_⟩:=q4 _ (Qj h3)
  simp only [Qr]
  rw [ey]
  have:H c'=some (.tup [.str rs[i].1,rs[i].2]):=by simpa [bq,kV] using e2
  rw [ey] at this
  exact this
 ·obtain ⟨q',wm,rfl⟩:=List.mem_map.mp hq
  obtain ⟨y,ey,my,ny⟩:=q4 q' wm
  refine ⟨hn q' wm,?_,?_⟩
  ·show isName (AG q'.2)=true
   rw [ey];exact ny
  ·show AG q'.2∈ns
   rw [ey];exact my
 ·rw [Qn];exact hr
section
variable {e1 e2:Expr} {p pos:Pos} {k:Nat} {g1 g2:TG}
def Sa:TS:=fun _ _ _=>False
theorem zO {st:Stmt}:SS X st Sa:=⟨fun _ _ _ _ _ _ h=>h.elim⟩
def Sb:List V->Hp->VK->Prop:=fun xs H Q=>∃ b,xs=[.bl b]/\Q (.int (if b then 1 else 0)) H
theorem vE:iu X (.type "int") Sb:=by
 intro pins s σ H xs us Q I r h
 obtain ⟨b,rfl,q⟩:=h
 obtain ⟨u,rfl,ru⟩:=r.one
 cases ru
 exact call_int_bool ⟨.int (if b then 1 else 0),H,I.tok _,⟨_,rfl⟩,q⟩
end
section
variable {t1 i1 t2 i2 elt:Expr} {pos:Pos} {wi uz:TI} {g g2:TG}
end
section
variable {st:Expr} {ts:TE} {p2 pos:Pos}
end
inductive Hd where
 | one (s:Str)
 | as (y:Str)
 | way (x y:Str)
 | prs (s:Str) (ps:List (Str×Str))
def Hd.nx:Hd->Option Str
 | .as y=>some y
 | _=>none
def Hd.ok (ns:List Str):Hd->Prop
 | .one s=>s="all"\/s="none"
 | .as y=>isName y=true/\y∈ns
 | .way x y=>isName x=true/\isName y=true/\x∈ns/\y∈ns
 | .prs s ps=>(s="box"\/s="pick")/\(∀ p∈ps,isName p.1=true/\isName p.2=true/\p.2∈ns)/\rising (ps.map (·.1))=true/\ps.length<=10
structure n_ (H:Hp) (xs:List V) (ps:List (Str×Str)):Prop where
 len:xs.length=ps.length
 at_:∀ i (h:i < xs.length) (h':i < ps.length),∃ c,xs[i]=.ref c/\H c=some (.tup [.str ps[i].1,.str ps[i].2])
theorem n_.tk {xs:List V} {ps:List (Str×Str)} (h:n_ H xs ps) (s:Tk H H'):n_ H' xs ps:=⟨h.len,fun i a b=>let ⟨c,h1,h2⟩:=h.at_ i a b;⟨c,h1,s _ _ h2⟩⟩
inductive HV (H:Hp):V->Hd->Prop
 | one {b:Addr} {s:Str}:H b=some (.tup [.str s])->HV H (.ref b) (.one s)
 | as {b:Addr} {y:Str}:H b=some (.tup [.str "as",.str y])->HV H (.ref b) (.as y)
 | way {b:Addr} {x y:Str}:H b=some (.tup [.str "way",.str x,.str y])->HV H (.ref b) (.way x y)
 | prs {b c:Addr} {s:Str} {xs:List V} {ps:List (Str×Str)}:H b=some (.tup [.str s,.ref c])->H c=some (.tup xs)->n_ H xs ps->HV H (.ref b) (.prs s ps)
theorem HV.tk {H H':Hp} (s:Tk H H') {v:V} {h:Hd} (q:HV H v h):HV H' v h:=by
 cases q with
 | one e=>exact .one (s _ _ e)
 | as e=>exact .as (s _ _ e)
 | way e=>exact .way (s _ _ e)
 | prs e e' p=>exact .prs (s _ _ e) (s _ _ e') (p.tk s)
section
variable {v:V} {P:Option Str->Prop}
end
def Hd.dt:Hd->Dt
 | .one s=>.tup [.str s]
 | .as y=>.tup [.str "as",.str y]
 | .way x y=>.tup [.str "way",.str x,.str y]
 | .prs s ps=>.tup [.str s,.tup (ps.map fun p=>.tup [.str p.1,.str p.2])]
theorem HV.tx {v:V} {h:Hd} (q:HV H v h) (ok:h.ok ns):TX H v h.dt:=by
 cases q with
 | one e=>exact zQ e (pC (by rcases ok with rfl | rfl<;>decide))
 | as e=>exact pH e (pC (by decide)) (iJ ok.1)
 | way e=>exact R9 e (pC (by decide)) (iJ ok.1) (iJ ok.2.1)
 | @prs b c s xs ps e e' p=>
  have GU:=ok.2.2.2
  have hl:=p.len
  refine pH e (pC (by rcases ok.1 with rfl | rfl<;>decide)) (.tup e' (by simp [p.len]) (by omega) fun i h1 h2=>?_)
  have h3:i < ps.length:=by simpa using h2
  obtain ⟨c',q1,q2⟩:=p.at_ i h1 h3
  obtain ⟨m1,m2,_⟩:=ok.2.1 _ (Qj h3)
  rw [q1]
  simp only [Qr]
  exact pH q2 (iJ m1) (iJ m2)
abbrev ae:=Str×Hd
structure RV (H:Hp) (xs:List V) (rows:List ae):Prop where
 len:xs.length=rows.length
 at_:∀ i (h:i < xs.length) (h':i < rows.length),∃ b v,xs[i]=.ref b/\H b=some (.tup [.str rows[i].1,v])/\HV H v rows[i].2
theorem RV.tk {H H':Hp} {xs:List V} {rows:List ae} (h:RV H xs rows) (s:Tk H H'):RV H' xs rows:=⟨h.len,fun i a b=>let ⟨c,v,h1,h2,h3⟩:=h.at_ i a b;⟨c,v,h1,s _ _ h2,h3.tk s⟩⟩
theorem RV.nil:RV H [] []:=⟨rfl,fun i h=>absurd h (by simp)⟩
theorem RV.snoc {xs:List V} {rows:List ae} (h:RV H xs rows) {v:V} {r:ae} (e:H b=some (.tup [.str r.1,v])) (hv:HV H v r.2):RV H (xs++[.ref b]) (rows++[r]):=by
 have hl:=h.len
 refine ⟨by simp [hl],fun i h1 h2=>?_⟩
 by_cases aq:i < xs.length
 ·rw [Qe aq,Qe (by omega)]
  exact h.at_ i aq (by omega)
 ·have e1:i=xs.length:=by simp at h1;omega
  subst e1
  rw [Qf (Qy _),Qf (by omega)]
  simp only [Nat.sub_self,List.getElem_cons_zero,hl]
  exact ⟨b,v,rfl,e,hv⟩
def Sd (r:ae):Dt:=.tup [.str r.1,r.2.dt]
def KG (ns:List Str) (rows:List ae):Prop:=∀ r∈rows,isName r.1=true/\r.2.ok ns
def Hd.pre:Hd->List Str
 | .one s=>[s]
 | .as _=>[]
 | .way _ _=>["way"]
 | .prs s _=>[s]
inductive DA (P:Addr->Prop) (H:Hp):Bool->V->PyData->Dt->Prop
 | str {m:Bool} {z:Str} (h:z.length<=100000):DA P H m (.str z) (.str z) (.str z)
 | ao {m:Bool}:DA P H m .ao .none .qj
 | bl {m:Bool} (b:Bool):DA P H m (.bl b) (.bool b) .qj
 | int {m:Bool} (i:Int):DA P H m (.int i) (.int i) .qj
 | tup {m:Bool} {a:Addr} {xs:List V} {ps:List PyData} {ds:List Dt}:P a->H a=some (.tup xs)->xs.length=ps.length->xs.length=ds.length->xs.length<=1000->(∀ i (h:i < xs.length) (h':i < ps.length) (Bu:i < ds.length),DA P H m xs[i] ps[i] ds[i])->DA P H m (.ref a) (.tuple ps) (.tup ds)
 | lst {a:Addr} {xs:List V} {ps:List PyData} {ds:List Dt}:P a->H a=some (.lst xs)->xs.length=ps.length->xs.length=ds.length->(∀ i (h:i < xs.length) (h':i < ps.length) (Bu:i < ds.length),DA P H true xs[i] ps[i] ds[i])->DA P H true (.ref a) (.list ps) .qj
 | Se {a:Addr}:P a->H a=some (.dK [])->DA P H false (.ref a) (.dict []) .qj
 | Sf {a:Addr} {z:Str} {x:V} {p:PyData} {d:Dt}:P a->H a=some (.dK [(.inr z,x)])->DA P H false x p d->DA P H false (.ref a) (.dict [(.str z,p)]) .qj
theorem DA.dd {P:Addr->Prop} {m:Bool} {v:V} {p:PyData} {d:Dt} (h:DA P H m v p d):DD H v d:=by
 induction h with
 | str h=>exact .str h
 | ao=>exact .ao
 | bl b=>exact .bl b
 | int i=>exact .int i
 | tup _ e h1 h2 h3 _ ih=>exact .tup e h2 h3 fun i a b=>ih i a (by omega) b
 | lst _ e h1 h2 _ ih=>exact .lst e
 | Se _ e=>exact .dct e
 | Sf _ e _ ih=>exact .dct e
section
variable {P P':Addr->Prop} {m:Bool} {v:V} {k k' n':Nat} {xs:List V}
end
section
variable {P:Addr->Prop} {m:Bool} {ta:TA} {k c:Nat}
end
section
variable {pos:Pos}
end
theorem rM (y:Str) (zs:List Str):Ax (.str y) (zs.map V.str)=decide (y∈zs):=by
 rw [Bool.eq_iff_iff,decide_eq_true_iff]
 unfold Ax
 rw [List.any_map,List.any_eq_true]
 constructor
 ·rintro ⟨a,ha,e⟩
  have e':(a==y)=true:=e
  rw [<- eq_of_beq e'];exact ha
 ·intro h
  exact ⟨y,h,(beq_self_eq_true y:(y==y)=true)⟩
section
variable {I:Addr} {wr:List Addr} {P:Nat->Value->Prop} {St:Nat->Shared->Prop}
end
def GV (st c:Int) (n:Nat):It:=⟨fun i _=>i < n,fun i H x H'=>H'=H/\x=.int (st+i*c),fun i _=>n<=i⟩
theorem oE {K:QZ} (it:Addr) (st c:Int) (n:Nat):Turn P w K tg (GV st c n) [it] it (fun i h=>IsRangeIter h it (st+(i:Nat)*c) ((n:Int) - (i:Nat)) c) where
 mem:=by simp
 obj:=fun i h q b hb=>by
  have e:b=it:=by simpa using hb
  subst e
  exact ⟨_,q,fun v z=>by
   have z':Data.fields _=Data.cell v:=z
   cases z'⟩
 keep:=fun i h h' q k=>k it (by simp) _ q
 item:=by
  intro X hP hw hK hc i pins s σ H E I hf q hg
  subst hP hw hK
  obtain ⟨f0,f1,f2,f3,f4,f5⟩:=hf it (by simp)
  have W:=Walks.range (prog:=X.prog) (w:=X.w) (I.ok.hd hc) it st c n
  refine W.item i s _ _ hg q fun v h' tk hv q' kk=>?_
  obtain ⟨t,rfl⟩:=hv
  have I1:Inv X pins σ H {s with heap:=h',toks:=tk}:=I.turned (fun b o hb e=>kk b o (by simpa using hb) e) f0 f1 f3 f4 f5
  exact ⟨_,rfl,jX (s:={s with heap:=h',toks:=tk}) (n:="range_iterator") q' rfl rfl (by decide) ⟨.int (st+i*c),H,I1,⟨t,rfl⟩,⟨rfl,rfl⟩,q',fun b hb=>(hf b hb).1⟩⟩
 done:=by
  intro X hP hw hK hc i pins s σ H E I hf q hg
  subst hP hw hK
  obtain ⟨f0,f1,f2,f3,f4,f5⟩:=hf it (by simp)
  exact wpAny_pyNext_range_end (I.ok.hd hc) q (by have:n<=i:=hg;omega) fun h' eb=>⟨rfl,I.turned (t':=s.toks) (fun b o hb e=>eb b o hb e) f0 f1 f3 f4 f5⟩
 self:=fun _ _ _ _ _ q h=>wpAny_pyIter_rangeiter q h
theorem rK (st c:Int) (n:Nat):rg (GV st c n) (fun _=>True) n (fun i=>.int (st+i*c)):=fun H _=>⟨fun i hi=>⟨hi,fun x H' ⟨e,y⟩=>⟨e,y⟩⟩,Qy _⟩
section
variable {a b c:Expr} {ta:TA} {p pos:Pos}
theorem Sg {o f:Expr} {td ty tx:TE} (hu:X.A.units+1 < cLine) (ho:SE X o td) (he:SE X e ty) (hf:SE X f tx) (m:M2 X o "get" apos e f cpos):SE X (.Call (.Attribute o "get" apos) [e,f] [] cpos) (J3 td ty tx):=⟨xI hu ho.h he.h hf.h m⟩
end
def Hd.BA:Hd->List Str
 | .prs _ ps=>ps.map (·.1)
 | _=>[]
structure oh (H:Hp) (ns ws:List Str) (v:V) (P:Option Str->Prop):Prop where
 ex:∃ h,HV H v h/\h.ok ns/\P h.nx/\∀ z∈h.BA,z∈ws
section
variable {v:V} {P:Option Str->Prop}
theorem oh.tk {H':Hp} (h:oh H ns ws v P) (s:Tk H H'):oh H' ns ws v P:=let ⟨d,h1,h2⟩:=h.ex;⟨d,h1.tk s,h2⟩
theorem oh.imp {P':Option Str->Prop} (h:oh H ns ws v P) (f:∀ o,P o->P' o):oh H ns ws v P':=let ⟨d,h1,h2,h3,h4⟩:=h.ex;⟨d,h1,h2,f _ h3,h4⟩
theorem Sh (e:H b=some (.tup [.str "as",.str y])) (hy:isName y=true) (hm:y∈ns) (hP:P (some y)):oh H ns ws (.ref b) P:=⟨.as y,.as e,⟨hy,hm⟩,hP,(fun _ h=>nomatch h)⟩
theorem z8 (e:H b=some (.tup [.str "none"])) (hP:P none):oh H ns ws (.ref b) P:=⟨.one "none",.one e,.inr rfl,hP,(fun _ h=>nomatch h)⟩
theorem zT (e:H b=some (.tup [.str "all"])) (hP:P none):oh H ns ws (.ref b) P:=⟨.one "all",.one e,.inl rfl,hP,(fun _ h=>nomatch h)⟩
theorem Si (e:H b=some (.tup [.str "way",.str x,.str y])) (hx:isName x=true) (hy:isName y=true) (mx:x∈ns) (my:y∈ns) (hP:P none):oh H ns ws (.ref b) P:=⟨.way x y,.way e,⟨hx,hy,mx,my⟩,hP,(fun _ h=>nomatch h)⟩
theorem tW {s:Str} {c:Addr} {xs:List V} {ps:List (Str×Str)} (hs:s="box"\/s="pick") (e:H b=some (.tup [.str s,.ref c])) (ec:H c=some (.tup xs)) (hn:xs.length<=10) (h:KC H ns xs ps) (hw:∀ q∈ps,q.1∈ws) (hP:P none):oh H ns ws (.ref b) P:=
 ⟨.prs s ps,.prs e ec ⟨h.len,h.at_⟩,⟨hs,h.nm,h.yd,by rw [<- h.len];exact hn⟩,hP,fun z hz=>by obtain ⟨q,hq,rfl⟩:=List.mem_map.mp hz;exact hw q hq⟩
end
theorem yJ (e:H b=some (.tup [.str x,.str y])) (hx:Wd x) (hy:Wd y):TB H (.ref b) 1 411:=
 (TB.tup (k:=0) (n:=202) e fun v hv=>by
  simp only [Qp,QA,or_false] at hv
  rcases hv with rfl | rfl
  ·exact TB.str hx
  ·exact TB.str hy).mono (by omega) (by simp)
theorem HV.tb {ws:List Str} {v:V} {h:Hd} (q:HV H v h) (ok:h.ok ns) (hn:∀ n∈ns,Wd n) (hw:∀ z∈h.BA,Wd z):TB H v 3 8273:=by
 cases q with
 | one e=>
  refine (TB.tup (k:=0) (n:=202) e fun v hv=>?_).mono (by omega) (by simp)
  rw [List.mem_singleton.mp hv]
  rcases ok with rfl | rfl<;>exact TB.str (f7 (by decide) (by decide))
 | as e=>exact (yJ e (f7 (by decide) (by decide)) (hn _ ok.2)).mono (by omega) (by omega)
 | way e=>
  refine (TB.tup (k:=0) (n:=202) e fun v hv=>?_).mono (by omega) (by simp)
  simp only [Qp,QA,or_false] at hv
  rcases hv with rfl | rfl | rfl
  ·exact TB.str (f7 (by decide) (by decide))
  ·exact TB.str (hn _ ok.2.2.1)
  ·exact TB.str (hn _ ok.2.2.2)
 | @prs b c s xs ps e e' p=>
  have GU:=ok.2.2.2
  have hl:=p.len
  refine (TB.tup (k:=2) (n:=4133) e fun v hv=>?_).mono (by omega) (by simp)
  simp only [Qp,QA,or_false] at hv
  rcases hv with rfl | rfl
  ·rcases ok.1 with rfl | rfl<;>exact (TB.str (f7 (by decide) (by decide))).mono (by omega) (by omega)
  ·refine (TB.tup (k:=1) (n:=411) e' fun x hx=>?_).mono (by omega) (by omega)
   obtain ⟨i,hi,rfl⟩:=Qi hx
   have h3:i < ps.length:=by omega
   obtain ⟨c',q1,q2⟩:=p.at_ i hi h3
   rw [q1]
   have hm:ps[i]∈ps:=Qj h3
   exact yJ q2 (hw _ (List.mem_map.mpr ⟨_,hm,rfl⟩)) (hn _ (ok.2.1 _ hm).2.2)
theorem nZ (a:Str):mh a a=false:=by
 unfold mh
 exact Qw (List.lt_irrefl _)
def CF (ns:List Str) (n:Str) (o:Option Str):Prop:=∀ y,o=some y->∃ (i j:Nat),i < j/\ns[i]? =some y/\ns[j]? =some n
structure rm (H:Hp) (ns ws:List Str) (rs:List (Str×V)):Prop where
 sub:∀ r∈rs,r.1∈ns
 hd:∀ r∈rs,oh H ns ws r.2 (CF ns r.1)
theorem rm.tk {H H':Hp} {ns ws:List Str} {rs:List (Str×V)} (h:rm H ns ws rs) (s:Tk H H'):rm H' ns ws rs:=⟨h.sub,fun r hr=>(h.hd r hr).tk s⟩
theorem rm.perm {rs rs':List (Str×V)} (h:rm H ns ws rs) (p:∀ r∈rs',r∈rs):rm H ns ws rs':=⟨fun r hr=>h.sub r (p r hr),fun r hr=>h.hd r (p r hr)⟩
theorem rm.add {rs:List (Str×V)} (h:rm H ns ws rs) {n:Str} {v:V} (h1:n∈ns) (h2:oh H ns ws v (CF ns n)):rm H ns ws ((n,v)::rs):=by
 refine ⟨fun r hr=>?_,fun r hr=>?_⟩<;>rcases Qp.mp hr with rfl | hr
 ·exact h1
 ·exact h.sub r hr
 ·exact h2
 ·exact h.hd r hr
structure RT (H:Hp) (a:Addr) (xs:List V) (rows:List ae) (ns ws:List Str):Prop where
 at_:H a=some (.tup xs)
 rv:RV H xs rows
 nm:(rows.map (·.1)).Perm ns
 nd:ns.Nodup
 ok:KG ns rows
 wd:∀ n∈ns,Wd n
 ah:∀ r∈rows,CF ns r.1 r.2.nx
 ww:∀ r∈rows,∀ z∈r.2.BA,z∈ws
 pos:1<=ns.length
 few:ns.length<=14
section
variable {xs:List V} {rows:List ae}
theorem RT.tk (h:RT H a xs rows ns ws) (s:Tk H H'):RT H' a xs rows ns ws:=⟨s _ _ h.at_,h.rv.tk s,h.nm,h.nd,h.ok,h.wd,h.ah,h.ww,h.pos,h.few⟩
theorem RT.rl (h:RT H a xs rows ns ws):rows.length=ns.length:=by have:=h.nm.length_eq;simpa using this
theorem RT.jv (h:RT H a xs rows ns ws):(rows.map (·.1)).Nodup:=by rw [h.nm.nodup_iff];exact h.nd
theorem RT.of {rs:List (Str×V)} (e:H a=some (.tup xs)) (ps:iw H xs (bq rs)) (nm:(rs.map (·.1)).Perm ns) (nd:ns.Nodup) (KH:∀ n∈ns,isName n=true/\Wd n) (pos:1<=ns.length) (few:ns.length<=14) (g:rm H ns ws rs):∃ rows,RT H a xs rows ns ws:=by
 have hc:∀ i:Fin rs.length,∃ hd:Hd,HV H rs[i.val].2 hd/\hd.ok ns/\CF ns rs[i.val].1 hd.nx/\∀ z∈hd.BA,z∈ws:=fun i=>(g.hd _ (Qj i.isLt)).ex
 obtain ⟨f,hf⟩:=Classical.axiomOfChoice hc
 have AH:xs.length=rs.length:=by have:=ps.1;simpa using this
 have en:(List.ofFn fun i:Fin rs.length=>((rs[i.val].1,f i):ae)).map (·.1)=rs.map (·.1):=by
  apply List.ext_getElem
  ·simp
  ·intro i h1 h2;simp
 have mem:∀ r∈(List.ofFn fun i:Fin rs.length=>((rs[i.val].1,f i):ae)),∃ i:Fin rs.length,r=(rs[i.val].1,f i):=fun r hr=>by
  obtain ⟨i,hi,rfl⟩:=Qi hr
  exact ⟨⟨i,by simpa using hi⟩,by simp⟩
 refine ⟨List.ofFn fun i=>(rs[i.val].1,f i),e,⟨by simp [AH],fun i h1 h2=>?_⟩,by rw [en];exact nm,nd,fun r hr=>?_,fun n hn=>(KH n hn).2,fun r hr=>?_,fun r hr=>?_,pos,few⟩
 ·have h3:i < rs.length:=by omega
  obtain ⟨b,e1,e2⟩:=ps.2 i (by simpa using h3)
  rw [Qa h1] at e1
  refine ⟨b,rs[i].2,QD e1,?_,?_⟩
  ·simpa [bq,kV] using e2
  ·simpa using (hf ⟨i,h3⟩).1
 ·obtain ⟨i,rfl⟩:=mem r hr
  exact ⟨(KH _ (g.sub _ (Qj i.isLt))).1,(hf i).2.1⟩
 ·obtain ⟨i,rfl⟩:=mem r hr
  exact (hf i).2.2.1
 ·obtain ⟨i,rfl⟩:=mem r hr
  exact (hf i).2.2.2
end
section
variable {xs ys:List V} {rows X5:List ae} {X6:List Str} {f g:Str->Str}
theorem RT.pairs (h:RT H a xs rows ns ws):∃ rs:List (Str×V),iw H xs (bq rs)/\rs.map (·.1)=rows.map (·.1)/\rs.length=rows.length/\∀ i (h1:i < rs.length) (h2:i < rows.length),HV H rs[i].2 rows[i].2:=by
 have hl:=h.rv.len
 have hc:∀ i:Fin rows.length,∃ v:V,(∃ b,xs[i.val]? =some (.ref b)/\H b=some (.tup [.str rows[i.val].1,v]))/\HV H v rows[i.val].2:=fun i=>by
  obtain ⟨b,v,q1,q2,q3⟩:=h.rv.at_ i.val (by have:=i.isLt;omega) i.isLt
  exact ⟨v,⟨b,by rw [Qa (by have:=i.isLt;omega),q1],q2⟩,q3⟩
 obtain ⟨f,hf⟩:=Classical.axiomOfChoice hc
 refine ⟨List.ofFn fun i=>(rows[i.val].1,f i),⟨by simp [hl],fun i hi=>?_⟩,?_,by simp,fun i h1 h2=>?_⟩
 ·have oi:i < rows.length:=by simpa using hi
  obtain ⟨b,q1,q2⟩:=(hf ⟨i,oi⟩).1
  exact ⟨b,q1,by simpa [bq,kV] using q2⟩
 ·apply List.ext_getElem
  ·simp
  ·intro i h1 h2;simp
 ·simpa using (hf ⟨i,h2⟩).2
def gr (rows:List ae) (x:Str):Hd:=((rows.find? fun r=>decide (r.1=x)).map (·.2)).getD (.one "")
def je (rows:List ae) (x:Str):Option Str:=(gr rows x).nx
theorem dP (nd:(rows.map (·.1)).Nodup) {r:ae} (hr:r∈rows):gr rows r.1=r.2:=by
 obtain ⟨i,hi,rfl⟩:=Qi hr
 have:rows.find? (fun r=>decide (r.1=rows[i].1))=some rows[i]:=by
  rw [List.find?_eq_some_iff_getElem]
  refine ⟨by simp,i,hi,rfl,fun j hj=>?_⟩
  have jl:(rows.map (·.1))[j]'(by simp;omega)≠(rows.map (·.1))[i]'(by simpa using hi):=List.pairwise_iff_getElem.mp nd j i (by simp;omega) (by simpa using hi) hj
  simpa using jl
 unfold gr
 rw [this];rfl
theorem HV.Sj {v:V} {h:Hd} (q:HV H v h) (ok:h.ok ns):AB H v h.nx:=by
 cases q with
 | one e=>exact ⟨_,rfl,.inl ⟨_,_,e,by rcases ok with rfl | rfl<;>decide,rfl⟩⟩
 | as e=>exact ⟨_,rfl,.inr ⟨_,e,rfl⟩⟩
 | way e=>exact ⟨_,rfl,.inl ⟨_,_,e,by decide,rfl⟩⟩
 | prs e e' p=>exact ⟨_,rfl,.inl ⟨_,_,e,by rcases ok.1 with rfl | rfl<;>decide,rfl⟩⟩
theorem RT.good (h:RT H a xs rows ns ws) (hw:∀ z∈ws,Wd z):∃ rs,kq H a xs rs (je rows) (fun n=>ns.idxOf n)/\rs.map (·.1)=rows.map (·.1)/\rs.length=rows.length/\∀ x v,x∈ns->bx (dictOf (bq rs)) (.inr x)=some v->HV H v (gr rows x):=by
 obtain ⟨rs,ps,nm,rl,hv⟩:=h.pairs
 have AI:=h.rl
 have hf:=h.few
 have hp:=h.pos
 have nd:(rs.map (·.1)).Nodup:=by rw [nm];exact h.jv
 have qg:∀ n,n∈ns↔n∈rs.map (·.1):=fun n=>by rw [nm];exact h.nm.mem_iff.symm
 have at':∀ r∈rs,∃ r'∈rows,r.1=r'.1/\HV H r.2 r'.2:=fun r hr=>by
  obtain ⟨i,hi,rfl⟩:=Qi hr
  have oi:i < rows.length:=by omega
  refine ⟨rows[i],Qj oi,?_,hv i hi oi⟩
  have:(rs.map (·.1))[i]'(by simpa using hi)=(rows.map (·.1))[i]'(by simpa using oi):=by simp only [nm]
  simpa using this
 have g:kq H a xs rs (je rows) (fun n=>ns.idxOf n):=by
  refine ⟨h.at_,ps,nd,by omega,by omega,fun r hr=>?_,fun r hr y hy=>?_,fun r hr=>?_,fun r hr=>?_⟩
  ·obtain ⟨r',fb,e,v⟩:=at' r hr
   unfold je
   rw [e,dP h.jv fb]
   exact v.Sj (h.ok r' fb).2
  ·obtain ⟨r',fb,e,v⟩:=at' r hr
   unfold je at hy
   rw [e,dP h.jv fb] at hy
   obtain ⟨i,j,AJ,h1,h2⟩:=h.ah r' fb y hy
   refine ⟨(qg y).mp (QC h1),?_⟩
   show ns.idxOf y < ns.idxOf r.1
   rw [e,nJ h.nd h1,nJ h.nd h2]
   exact AJ
  ·have:=List.idxOf_lt_length_of_mem ((qg r.1).mpr (List.mem_map.mpr ⟨r,hr,rfl⟩))
   show ns.idxOf r.1<=_
   omega
  ·obtain ⟨r',fb,e,v⟩:=at' r hr
   refine ⟨h.wd _ ((qg r.1).mpr (List.mem_map.mpr ⟨r,hr,rfl⟩)),v.tb (ws:=ws) (h.ok r' fb).2 h.wd fun z hz=>hw z (h.ww r' fb z hz)⟩
 refine ⟨rs,g,nm,rl,fun x v hx ql=>?_⟩
 obtain ⟨v',m,e⟩:=g.get ((qg x).mp hx)
 rw [ql] at e
 cases e
 obtain ⟨r',fb,e,q⟩:=at' _ m
 have e':x=r'.1:=e
 rw [e',dP h.jv fb]
 exact q
end
theorem n_.snoc {xs:List V} {ps:List (Str×Str)} (h:n_ H xs ps) {c:Addr} (e:H c=some (.tup [.str x,.str y])):n_ H (xs++[.ref c]) (ps++[(x,y)]):=by
 have hl:=h.len
 refine ⟨by simp [hl],fun i h1 h2=>?_⟩
 by_cases aq:i < xs.length
 ·rw [Qe aq,Qe (by omega)]
  exact h.at_ i aq (by omega)
 ·have e1:i=xs.length:=by simp at h1;omega
  subst e1
  rw [Qf (Qy _),Qf (by omega)]
  simp only [Nat.sub_self,List.getElem_cons_zero,hl]
  exact ⟨c,rfl,e⟩
def Hd.bg:Hd->List (List Str×Str)
 | .way x y=>[(["from"],x),(["to"],y)]
 | .prs s ps=>ps.map fun p=>([if s="box" then "part" else "case",p.1],p.2)
 | _=>[]
theorem oB:∀ {h:Hd},h.ok ns->∀ m∈h.bg,m.2∈ns
 | .one _,_,_,hm=>nomatch hm
 | .as _,_,_,hm=>nomatch hm
 | .way x y,ok,m,hm=>by
  simp only [Hd.bg,Qp,QA,or_false] at hm
  rcases hm with rfl | rfl
  ·exact ok.2.2.1
  ·exact ok.2.2.2
 | .prs s ps,ok,m,hm=>by
  obtain ⟨p,hp,rfl⟩:=List.mem_map.mp hm
  exact (ok.2.1 p hp).2.2
structure MV (H:Hp) (xs:List V) (ms:List (List Str×Str)):Prop where
 len:xs.length=ms.length
 at_:∀ i (h:i < xs.length) (h':i < ms.length),∃ c b,xs[i]=.ref c/\H c=some (.tup [.ref b,.str ms[i].2])/\H b=some (.tup (ms[i].1.map V.str))
theorem MV.tk {xs:List V} {ms:List (List Str×Str)} (h:MV H xs ms) (s:Tk H H'):MV H' xs ms:=⟨h.len,fun i a b=>let ⟨c,d,h1,h2,h3⟩:=h.at_ i a b;⟨c,d,h1,s _ _ h2,s _ _ h3⟩⟩
theorem MV.nil:MV H [] []:=⟨rfl,fun i h=>absurd h (by simp)⟩
theorem MV.snoc {xs:List V} {ms:List (List Str×Str)} (h:MV H xs ms) {c:Addr} {m:List Str×Str} (e1:H c=some (.tup [.ref b,.str m.2])) (e2:H b=some (.tup (m.1.map V.str))):MV H (xs++[.ref c]) (ms++[m]):=by
 have hl:=h.len
 refine ⟨by simp [hl],fun i h1 h2=>?_⟩
 by_cases aq:i < xs.length
 ·rw [Qe aq,Qe (by omega)]
  exact h.at_ i aq (by omega)
 ·have e:i=xs.length:=by simp at h1;omega
  subst e
  rw [Qf (Qy _),Qf (by omega)]
  simp only [Nat.sub_self,hl,List.getElem_cons_zero]
  exact ⟨c,b,rfl,e1,e2⟩
def endOf (rows:List ae) (x:Str):Str:=gi (je rows) rows.length x
def bh (rows:List ae) (x:Str):List (List Str×Str):=(gr rows (endOf rows x)).bg.map fun m=>(m.1,endOf rows m.2)
theorem RT.yc {H:Hp} {a:Addr} {xs:List V} {rows:List ae} {ns ws:List Str} (rt:RT H a xs rows ns ws) (hw:∀ z∈ws,Wd z) {x:Str} (hx:x∈ns):endOf rows x∈ns/\(gr rows (endOf rows x)).nx=none/\(gr rows (endOf rows x)).ok ns:=by
 obtain ⟨rs,g,nm,rl,hv⟩:=rt.good hw
 have hm:∀ z,z∈ns↔z∈rs.map (·.1):=fun z=>by rw [nm];exact rt.nm.mem_iff.symm
 obtain ⟨h1,h2⟩:=g.yc ((hm x).mp hx)
 rw [rl] at h1 h2
 refine ⟨(hm _).mpr h1,h2,?_⟩
 have h3:endOf rows x∈rows.map (·.1):=by rw [<- nm];exact h1
 obtain ⟨r,hr,e⟩:=List.mem_map.mp h3
 rw [<- e,dP rt.jv hr]
 exact (rt.ok r hr).2
structure CG (K:QZ) (t:Addr×Obj×List V):Prop where
 lk:K.lookup t.1=some t.2.1
 ok:∃ (its:List Value) (n:Nat),t.2.1.cls=.type "tuple"/\t.2.1.dict=none/\t.2.1.data=.seq its.toArray n/\a_ t.2.2 its/\t.2.2.length<=sizeLine
def without (K:QZ) (as:List Addr):QZ:=K.filter fun p=> !as.contains p.1
theorem cU {as:List Addr} {b:Addr}:∀ {K:QZ},(without K as).lookup b=if as.contains b=true then none else K.lookup b
 | []=>by unfold without;simp
 | (c,o)::K=>by
  have ih:=cU (as:=as) (b:=b) (K:=K)
  unfold without at ih ⊢
  rw [List.filter_cons]
  by_cases hc:as.contains c=true
  ·have h0:¬(!as.contains (c,o).1)=true:=by show ¬(!as.contains c)=true;rw [hc];decide
   rw [if_neg h0,ih]
   by_cases hb:as.contains b=true
   ·rw [if_pos hb,if_pos hb]
   ·have n:(b==c)=false:=by
     cases e:b==c with
     | false=>rfl
     | true=>rw [eq_of_beq e] at hb;exact absurd hc hb
    rw [if_neg hb,if_neg hb,List.lookup_cons,n]
  ·have h0:(!as.contains (c,o).1)=true:=by
    show (!as.contains c)=true
    cases q:as.contains c with
    | true=>exact absurd q hc
    | false=>rfl
   rw [if_pos h0,List.lookup_cons,List.lookup_cons,ih]
   cases e:b==c with
   | true=>
    have:¬as.contains b=true:=by rw [eq_of_beq e];exact hc
    show some o=if as.contains b=true then none else some o
    rw [if_neg this]
   | false=>rfl
def KI (H:Hp):Prop:=∀ b,H b=none\/∃ o u,H b=some (.af o u)
def gu (ts:List (Addr×Obj×List V)) (G:Hp):Hp:=fun b=>match ts.find? fun t=>decide (t.1=b) with
 | some t=>some (.af t.2.1 (.tup t.2.2))
 | none=>G b
theorem yT {ts:List (Addr×Obj×List V)} {G:Hp} {t:Addr×Obj×List V} (h:t∈ts) (nd:(ts.map (·.1)).Nodup):gu ts G t.1=some (.af t.2.1 (.tup t.2.2)):=by
 induction ts with
 | nil=>cases h
 | cons a ts ih=>
  unfold gu
  rw [List.find?_cons]
  rw [List.map_cons,List.nodup_cons] at nd
  by_cases e:a.1=t.1
  ·rw [Qv e]
   rcases Qp.mp h with rfl | h
   ·rfl
   ·exact absurd (List.mem_map.mpr ⟨t,h,e.symm⟩) nd.1
  ·rw [Qw e]
   rcases Qp.mp h with rfl | h
   ·exact absurd rfl e
   ·exact ih h nd.2
theorem dR {ts:List (Addr×Obj×List V)} {G:Hp}:(∃ t∈ts,t.1=b/\gu ts G b=some (.af t.2.1 (.tup t.2.2)))\/((∀ t∈ts,t.1≠b)/\gu ts G b=G b):=by
 unfold gu
 cases q:ts.find? fun t=>decide (t.1=b) with
 | some t=>
  have h1:=List.mem_of_find?_eq_some q
  have h2:=List.find?_some q
  exact .inl ⟨t,h1,Qt h2,rfl⟩
 | none=>
  refine .inr ⟨fun t ht e=>?_,rfl⟩
  have:=List.find?_eq_none.mp q t ht
  simp [e] at this
theorem vB {K:QZ} {mb:Str->Option Value} {CX:qz} {k:Nat} {fa:Addr} {sp:Sp} {s₁:Shared} {vs:List Value} {ns:List Int} {ts:List (Addr×Obj×List V)}
  (u_:∀ t∈ts,CG K t) (nd:(ts.map (·.1)).Nodup)
  (KX:K.In s₁.heap) (BB:s₁.heap.Ns mainGlobals mg) (hb:s₁.heap.Ns builtinsNs mb) (Sk:∀ x:Str,x≠"__name__"->mb x=bootBuiltins x) (Sl:s₁.heap.NoLimit) (hg:s₁.gens=#[])
  (ha:s₁.heap.get? a=some {cls:=.type "list",data:=.seq vs.toArray}) (hi:IntsAre vs ns) (hl:ns.length<=sizeLine) (hr:c_ k callerA)
  (F:∀ base:Heap,(without K (ts.map (·.1))).In base->base.Ns mainGlobals mg->kg P w (without K (ts.map (·.1))) mg base CX k fa fd [x] sp) (Sn:∀ (s:Shared) (u:Value),BindsTo s fd ⟨[u],[]⟩ [(x,u)])
  (wo:∀ H:Hp,KI H->(∀ t∈ts,H t.1=some (.af t.2.1 (.tup t.2.2)))->ak (without K (ts.map (·.1))) H a (ns.map V.int)->sp [.ref a] H (fun v _=>v=.bl true) fun _ _ _=>False)
  (So:∀ H e s',CX [] H s₁ (fun _ _ _=>False) e s'->False):
  codeAny (model P w) callerA (.call (.ref fa) ⟨[.ref a],[]⟩) (fun r s'=>r=.ok (.ret (.bool true))/\OldK s₁.heap s'.heap/\s'.os=s₁.os/\AllBare s'.gens) s₁:=by
 have rv:=nI hi
 have Sq:=hi.length
 have GX:∀ t∈ts,s₁.heap.get? t.1=some t.2.1:=fun t ht=>KX _ _ (u_ t ht).lk
 have KJ:∀ t∈ts,t.1≠a:=fun t ht e=>by
  obtain ⟨its,n,h1,_⟩:=(u_ t ht).ok
  have:=GX t ht
  rw [e,ha] at this
  rw [<- QD this] at h1
  injection h1 with h2
  exact absurd h2 (by decide)
 have core:∀ G:Hp,(∀ b,G b≠none->b=a)->(G a≠none->K.lookup a=none)->(∀ b,G b=none\/∃ o u,G b=some (.af o u))->ak (without K (ts.map (·.1))) (gu ts G) a (ns.map V.int)->(∀ u,G a=some u->∀ H,bf P w H s₁.heap a u)->
   codeAny (model P w) callerA (.call (.ref fa) ⟨[.ref a],[]⟩) (fun r s'=>r=.ok (.ret (.bool true))/\OldK s₁.heap s'.heap/\s'.os=s₁.os/\AllBare s'.gens) s₁:=by
  intro G hG hK hF hS hO
  have jb:∀ b,gu ts G b≠none->b=a\/∃ t∈ts,t.1=b:=fun b q=>by
   rcases dR (ts:=ts) (G:=G) (b:=b) with ⟨t,ht,e,_⟩ | ⟨_,e⟩
   ·exact .inr ⟨t,ht,e⟩
   ·rw [e] at q;exact .inl (hG b q)
  have af:KI (gu ts G):=fun b=>by
   rcases dR (ts:=ts) (G:=G) (b:=b) with ⟨t,ht,e,q⟩ | ⟨_,q⟩
   ·exact .inr ⟨_,_,q⟩
   ·rw [q];exact hF b
  have hok:b_ P w (gu ts G) s₁.heap:=fun b u q=>by
   rcases dR (ts:=ts) (G:=G) (b:=b) with ⟨t,ht,e,q'⟩ | ⟨_,q'⟩
   ·rw [q'] at q
    cases q
    obtain ⟨its,n,h1,h2,h3,h4,h5⟩:=(u_ t ht).ok
    have o1:=GX t ht
    rw [e] at o1
    exact ⟨o1,⟨h5,fun o z=>by rw [o1] at z;cases z;exact h2⟩,its,h4,t.2.1,o1,h1,n,h3⟩
   ·rw [q'] at q
    have e:=hG b (by rw [q];simp)
    subst e
    exact hO u q _
  have KL:∀ {b:Addr} {o:Obj},s₁.heap.get? b=some o->gu ts G b=none->(xn s₁.heap (gu ts G)).get? b=some o:=fun e n=>xJ e n
  have Cj:∀ {b:Addr} {o:Obj} {es:Array DictEntry} {ep:Nat},s₁.heap.get? b=some o->o.data=.dict es ep->gu ts G b=none:=fun {b o es ep} e d=>by
   cases q:gu ts G b with
   | none=>rfl
   | some u=>
    rcases jb b (by rw [q];simp) with z | ⟨t,ht,z⟩
    ·subst z
     rw [ha] at e;cases e
     cases d
    ·have o1:=GX t ht
     rw [z,e] at o1
     cases o1
     obtain ⟨its,n,h1,h2,h3,_⟩:=(u_ t ht).ok
     rw [d] at h3;cases h3
  have EC:∀ {b:Addr} {m:Str->Option Value},s₁.heap.Ns b m->(xn s₁.heap (gu ts G)).Ns b m:=fun {b m} ⟨o,es,ep,e,d,r⟩=>⟨o,es,ep,KL e (Cj e d),d,r⟩
  have KN:(without K (ts.map (·.1))).In (xn s₁.heap (gu ts G)):=fun b o e=>by
   rw [cU] at e
   by_cases hc:(ts.map (·.1)).contains b=true
   ·rw [if_pos hc] at e;cases e
   ·rw [if_neg hc] at e
    refine KL (KX b o e) ?_
    cases q:gu ts G b with
    | none=>rfl
    | some u=>
     rcases dR (ts:=ts) (G:=G) (b:=b) with ⟨t,ht,z,_⟩ | ⟨_,q'⟩
     ·exact absurd (by rw [List.contains_iff_mem];exact List.mem_map.mpr ⟨t,ht,z⟩) hc
     ·rw [q'] at q
      have z:=hG b (by rw [q];simp)
      subst z
      rw [hK (by rw [q];simp)] at e;cases e
  have hM:Mod (without K (ts.map (·.1))) mg (xn s₁.heap (gu ts G)):=⟨KN,EC BB,⟨mb,EC hb,Sk⟩,let ⟨mc,h1,h2⟩:=Sl;⟨mc,EC h1,h2⟩⟩
  have e0:Au P w (without K (ts.map (·.1))) mg (xn s₁.heap (gu ts G)) callerA [] s₁ (gu ts G):=⟨rfl,hM,fun b o e=>NN e,Nat.le_of_eq (vJ _ _),trivial,fun b hb=>absurd (show b∈([]:List Addr) from hb) (by simp),hok,.of_eq hg⟩
  refine codeAny_mono ((F _ KN (EC BB)).run callerA [] s₁ (gu ts G) ⟨[.ref a],[]⟩ [.ref a] [.ref a] _ _ hr e0 (Sn s₁ (.ref a)) (.cons rfl .nil) (wo (gu ts G) af (fun t ht=>yT ht nd) hS)) fun r s' h=>?_
  cases r with
  | error e=>exact (So _ e s' h).elim
  | ok fl=>
   cases fl with
   | next=>exact False.elim h
   | brk=>exact False.elim h
   | cont=>exact False.elim h
   | ret u=>
    obtain ⟨v,H',os,bare,un,ED,r',q⟩:=h
    have q':v=.bl true:=q
    subst q'
    obtain rfl:u=Value.bool true:=r'
    refine ⟨rfl,OldK.of_keep fun b o e=>?_,os,bare⟩
    cases q:gu ts G b with
    | none=>exact un.keep b o e q (by intro z;exact absurd (show b∈([]:List Addr) from z) (by simp)) (by simp)
    | some u=>
     rcases af b with z | ⟨ob,u',z⟩
     ·rw [q] at z;cases z
     ·have z2:=un.jy b ob _ z
      obtain ⟨e1,_⟩:=hok b _ z
      obtain ⟨e2,_⟩:=ED b _ z2
      rw [e] at e1;cases e1
      exact e2
 have Ss:¬(ts.map (·.1)).contains a=true:=fun h=>by
  rw [List.contains_iff_mem] at h
  obtain ⟨t,ht,e⟩:=List.mem_map.mp h
  exact KJ t ht e
 have GY:∀ G:Hp,gu ts G a=G a:=fun G=>by
  rcases dR (ts:=ts) (G:=G) (b:=a) with ⟨t,ht,e,_⟩ | ⟨_,q⟩
  ·exact absurd e (KJ t ht)
  ·exact q
 cases hk:K.lookup a with
 | some o=>
  have e:=KX a o hk
  rw [ha] at e
  cases e
  exact core (fun _=>none) (fun b z=>absurd rfl z) (fun z=>absurd rfl z) (fun _=>.inl rfl) (.inr ⟨_,vs.toArray,_,by rw [cU,if_neg Ss];exact hk,rfl,rfl,rfl,by rw [List.size_toArray,Sq];exact hl,by simpa using rv⟩) fun u z=>by cases z
 | none=>
  refine core (fun b=>if b=a then some (.af {cls:=.type "list",data:=.seq vs.toArray} (.lst (ns.map V.int))) else none) (fun b z=>?_) (fun _=>hk) (fun b=>?_) (.inl (.inr ⟨{cls:=.type "list",data:=.seq vs.toArray},by rw [GY];exact if_pos rfl⟩)) fun u z H=>?_
  ·by_cases hb:b=a
   ·exact hb
   ·exact absurd (if_neg hb) z
  ·by_cases hb:b=a
   ·exact .inr ⟨_,_,if_pos hb⟩
   ·exact .inl (if_neg hb)
  ·have z':=(if_pos rfl).symm.trans z
   cases z'
   exact ⟨ha,by rw [Ql];exact hl,vs,_,rv,ha⟩
def adr (mg:Str->Option Value) (x:Str):Addr:=match mg x with
 | some (.ref a)=>a
 | _=>0
theorem Su (h:mg x=some (.ref a)):RelV (.ref (adr mg x)) (.ref a):=by
 unfold adr
 rw [h]
 exact rfl
def Kn (mg:Str->Option Value) (H:Hp) (x:Str) (ys:List V):Prop:=∃ o,H (adr mg x)=some (.af o (.tup ys))
theorem Kn.same {ys:List V} (h:Kn mg H x ys) (s:aa H H'):Kn mg H' x ys:=let ⟨o,e⟩:=h;⟨o,s _ _ e⟩
theorem Kn.rd {ys:List V} (h:Kn mg H x ys):bj H (adr mg x) ys:=.inr h
theorem bj.same {ys:List V} (h:bj H b ys) (s:aa H H'):bj H' b ys:=h.imp (fun e=>s _ _ e) fun ⟨o,e⟩=>⟨o,s _ _ e⟩
structure SV (H:Hp) (xs:List V) (ss:List (List Str)):Prop where
 len:xs.length=ss.length
 at_:∀ i (h:i < xs.length) (h':i < ss.length),∃ b,xs[i]=.ref b/\bj H b (ss[i].map V.str)
theorem SV.keep {xs:List V} {ss:List (List Str)} (h:SV H xs ss) (s:∀ b ys,bj H b ys->bj H' b ys):SV H' xs ss:=⟨h.len,fun i a b=>let ⟨c,h1,h2⟩:=h.at_ i a b;⟨c,h1,s _ _ h2⟩⟩
theorem SV.nil:SV H [] []:=⟨rfl,fun i h=>absurd h (by simp)⟩
theorem SV.snoc {xs:List V} {ss:List (List Str)} (h:SV H xs ss) {m:List Str} (e:bj H b (m.map V.str)):SV H (xs++[.ref b]) (ss++[m]):=by
 have hl:=h.len
 refine ⟨by simp [hl],fun i h1 h2=>?_⟩
 by_cases aq:i < xs.length
 ·rw [Qe aq,Qe (by omega)]
  exact h.at_ i aq (by omega)
 ·have e':i=xs.length:=by simp at h1;omega
  subst e'
  rw [Qf (Qy _),Qf (by omega)]
  simp only [Nat.sub_self,hl,List.getElem_cons_zero]
  exact ⟨b,rfl,e⟩
section
variable {iter kx vx:Expr} {pos:Pos} {wi:TI} {g:TG} {tc:TC} {tk tw:TE}
def KO (own:List Str) (idx:List Nat) (wi:TI) (g:TG) (tc:TC) (tk tw:TE):TE:=fun σ H Q=>wi σ H fun J H1=>∀ D,H1 D=none->∃ W:Nat->Nat->St->Hp->Prop,(∃ m,W 0 m (nk own idx σ) (upd H1 D (.dT [])))/\∀ i m τ H,W i m τ H->
 (J.stop i H/\Q (.ref D) H)\/(J.go i H/\∃ N:St->Hp->Prop,(∀ τ' H',N τ' H'->∃ m',m' < m/\W (i+1) m' τ' H')/\∀ x H',J.h_ i H x H'->g x τ H' fun τ2 H2=>tc τ2 H2 fun b H3=>
  if b=true then tk τ2 H3 fun x H4=>tw τ2 H4 fun y H5=>∃ kvs key b,x=.ref b/\bj H5 b (key.map kV)/\H5 D=some (.dT kvs)/\kvs.length < sizeLine/\N τ2 (upd H5 D (.dT (putK kvs key y))) else N τ2 H3)
theorem Sv (S:ju X.env.scope X.N sc own idx N') (hc:X.calm=true) (hu:X.A.units < cLine) (hi:PI X tg iter wi)
  (hg:∀ cl C s3 H0 fp pn,PG (bu X N' sc cl C s3 H0 fp pn) tg g) (ht:∀ cl C s3 H0 fp pn,nq (bu X N' sc cl C s3 H0 fp pn) ifs tc) (he:∀ cl C s3 H0 fp pn,PE (bu X N' sc cl C s3 H0 fp pn) kx tk) (hv:∀ cl C s3 H0 fp pn,PE (bu X N' sc cl C s3 H0 fp pn) vx tw)
  (hs:∀ x,foldedSetIterable iter X.env x=pure x:=by intro _;rfl):PE X (.DictComp kx vx [⟨tg,iter,ifs,0⟩] sc pos) (KO own idx wi g tc tk tw):=by
 intro pins s σ H Q I h
 obtain ⟨cl,jj,c1,c2⟩:=S.closure I.ok
 show wpAny _ X.A (comprehension (.DictComp kx vx [⟨tg,iter,ifs,0⟩] sc pos) sc X.env _ newDict false (eval iter X.env)) _ _ s
 refine wpAny_comprehension_free (use:=none) rfl hs jj S.kind S.names (aj (hi pins s σ H _ I h) fun v s1 h1=>aj h1 fun gh s2 h2=>?_)
 refine kW (Q:=Q) (pins:=pins) (σ:=σ) (RR:=fun acc C=>compPost (model X.prog X.w) X.A X.xe none (EP X pins σ Q) acc C) (ob:=Kg) (sel:=fun env D s K=>wpAny (model X.prog X.w) X.A (eval kx env) (fun kv s₄=>wpAny (model X.prog X.w) X.A (eval vx env) (fun vv s₅=>wpAny (model X.prog X.w) X.A (dictSet D kv vv) (fun _ s₆=>K s₆) ck s₅) ck s₄) ck s) (o0:=.dT []) (el:=fun D τ H K=>tk τ H fun x H4=>tw τ H4 fun y H5=>∃ kvs key b,x=.ref b/\bj H5 b (key.map kV)/\H5 D=some (.dT kvs)/\kvs.length < sizeLine/\K (upd H5 D (.dT (putK kvs key y)))) S c1 c2 hc (hob:=rfl)
  (fun it D env R s I turn n h=>Kf I turn n h) (fun h k=>aj h fun _ _ h=>aj h fun _ _ h=>aj h fun _ _ h=>k _ h) (fun _ _ _ _ _=>codeAny_compStart_dict) hg ht (fun cl C s3 H0 fp pn pins s τ H D N I q=>?_) (fun Q E h=>wpAny_newObj_type h)
  (fun H' I H h e=>⟨Nat.zero_le _,beq_eq_false_iff_ne.mpr (Ne.symm (Nat.ne_of_lt I.big)),[],.nil,_,#[],0,e,⟨rfl,rfl,rfl⟩,rfl,rfl,List.nodup_nil⟩) h2 ?_
 ·refine aj (he cl C s3 H0 fp pn _ s τ H _ I q) fun kv s8 ⟨x8,H8,I8,r8,q8⟩=>aj (hv cl C s3 H0 fp pn _ s8 τ H8 _ I8 q8) fun yv s9 ⟨y9,H9,I9,r9,kvs,key,b9,ek,eb,Bs,hz,n9⟩=>?_
  subst ek
  cases (show kv=Value.ref b9 from r8)
  obtain ⟨z,hd,xs,rel,dd⟩:=JX I9.hok Bs
  have AA:xs.length<=sizeLine:=by rw [<- Paired.length rel];exact z
  have fq:(putK kvs key y9).length<=sizeLine:=by have:=bY kvs key y9;omega
  refine wpAny_dictSet_heap (hsz:=AA) hu (i8 I9.hok eb) dd fun h' jq hs=>?_
  obtain ⟨q,es,ep,hq,h2,h3,h4,_,h5⟩:=jq
  exact ⟨_,gT (t':=s9.toks+(tupleKind (cj X.prog X.w)).draws key) (ob:=.dT (putK kvs key y9)) I9 (by rw [Bs];exact True.intro) hs ⟨q,hq⟩ ⟨fq,hd,_,(rel.put key eb r9).keeps fun c ys ec=>ec.upd fun u hu z=>by subst z;rcases ec with ec | ⟨_,ec⟩<;>(rw [Bs] at ec;cases ec),q,es,ep,hq,h2,h3,h4,h5⟩,n9⟩
 ·intro D C H' s' I' q ⟨a1,a2,a3,a4,a5,m,a6⟩
  exact ⟨m,a6,fun h' sb=>⟨.ref D,H',I'.turned (t':=s'.toks) (fun b o hb e=>(sb.2 b hb).trans e) a1 (Ne.symm (Ne.symm a2)) (.inr a3) a4 a5,rfl,q⟩⟩
theorem Sw (S:ju X.env.scope X.N sc own idx N') (hc:X.calm=true) (hu:X.A.units < cLine) (hi:SI X tg iter wi)
  (hg:∀ cl C s3 H0 fp pn,SG (bu X N' sc cl C s3 H0 fp pn) tg g) (ht:∀ cl C s3 H0 fp pn,SC (bu X N' sc cl C s3 H0 fp pn) ifs tc) (he:∀ cl C s3 H0 fp pn,SE (bu X N' sc cl C s3 H0 fp pn) kx tk) (hv:∀ cl C s3 H0 fp pn,SE (bu X N' sc cl C s3 H0 fp pn) vx tw)
  (hs:∀ x,foldedSetIterable iter X.env x=pure x:=by intro _;rfl):SE X (.DictComp kx vx [⟨tg,iter,ifs,0⟩] sc pos) (KO own idx wi g tc tk tw):=
 ⟨Sv S hc hu hi.h (fun q r s t u v=>(hg q r s t u v).h) (fun q r s t u v=>(ht q r s t u v).h) (fun q r s t u v=>(he q r s t u v).h) (fun q r s t u v=>(hv q r s t u v).h) hs⟩
end
def CH (K:QZ) (mg:Str->Option Value) (x q:Str) (st:Stmt) (ps fs:List Str) (C:Addr):Prop:=
 mg x=some (.ref C)/\wk K C/\(∀ f∈fs,uq K C f)/\∃ (f:Addr) (fd:FuncData),Mk K C f/\xx K "__init__" q st f fd/\Binds K fd ps []
def AK (P:Program) (w:World) (K:QZ) (mg:Str->Option Value) (base:Heap) (k:Nat) (x:Str) (C:Addr) (ps:List Str) (sp:Sp):Prop:=
 mg x=some (.ref C)/\∃ (f:Addr) (fd:FuncData),Mk K C f/\kg P w K mg base q_ k f fd ps sp/\Binds K fd ps []
section
variable {o value:Expr} {tv:TE} {t:TA} {f:Str} {pos pos' p:Pos} {k:Nat} {sp:Sp}
theorem e9 (K:QZ) (he:SE X e te) (h:X.K=K:=by rfl) (hb:attributeBase e f X.env (eval e X.env)=eval e X.env:=by rfl):SE X (.Attribute e f pos) (JJ K te f):=by subst h;exact ⟨OU he.h hb⟩
theorem u9 (K:QZ) (ha:SE X o ta) (hv:SE X value tv) (h:X.K=K:=by rfl) (hs:swapsWith value (some (.Attribute o f pos')) pos.line X.env=pure false:=by rfl):SS X (.Assign [.Attribute o f pos'] value pos) (D8 K ta tv f):=by subst h;exact ⟨OV ha.h hv.h hs⟩
theorem pE (F:AK X.prog X.w X.K X.mg X.base k x C ps sp) (hr:c_ (k+1) X.A) (ha:SA X (e::es) t) (hg:Gl X x:=by rfl) (e_:(x==("__debug__":Str))=false:=by decide)
  (he:starEach (e::es) X.env=(false,eval e X.env)::starEach es X.env:=by rfl) (hpl:(backTo pos (starEach es X.env)).any (·.1)=false:=by rfl):
  SE X (.Call (.Name x p) (e::es) [] pos) (JM C sp [] E0 t):=by
 obtain ⟨m,f,fd,M,G,b⟩:=F
 exact ⟨O0 M G hr hg m b .nil J6 ha.h e_ he hpl⟩
end
theorem CH.fg {K:QZ} {q:Str} {st:Stmt} {fs:List Str} {k:Nat} {sp:Sp} (F:CH K mg x q st ps fs C) (S:dc N ps (az st)) (len:∀ vs H Q E,sp vs H Q E->vs.length=ps.length)
  (qb:∀ (f:Addr) (av:Value) (A:Around) (outer:List Env) (s:Shared) (H:Hp) (vs:List V) (Q:VK) (E:XK),c_ k (A.deeper (envOfC q (az st) s.heap.objs.size f av))->sp vs H Q E->
   ∃ t,SB (jd q_ P w K mg base N q (az st) f av A outer s H E).qx (ig st) t/\t {nx:=fun _ H'=>Q .ao H',rt:=Q} (start N vs) H):AK P w K mg base (k+1) x C ps sp:=by
 obtain ⟨m,_,_,f,fd,M,Fu,b⟩:=F
 exact ⟨m,f,fd,M,Fu.ok S len fun av A outer s H vs Q E hr h=>let ⟨t,h1,h2⟩:=qb f av A outer s H vs Q E hr h;⟨t,h1.h,h2⟩,b⟩
theorem Inv.Sy {kvs:List (List Key×V)} (I:Inv X pins σ H s) (h:Rd H a (.dT kvs)):∃ o,Inv X pins σ (upd H a (.af o (.dT kvs))) s:=by
 rcases h with h | ⟨o,h⟩
 ·have ok:=(show bf X.prog X.w H s.heap a (.dT kvs) from I.hok a _ h)
  obtain ⟨z,hd,xs,rel,o,es,ep,h1,h2,h3,h4,h5⟩:=ok
  refine ⟨o,I.write (x:=a) (e:=a) (h':=s.heap) (t':=s.toks) (o:=.af o (.dT kvs)) (by rw [h];exact True.intro) (.inl rfl) (fun b u _ q=>q) ⟨o,h1⟩ ⟨h1,z,hd,xs,?_,o,es,ep,h1,h2,h3,h4,h5⟩⟩
  exact (show KT H kvs xs from rel).keeps fun c ys ec=>ec.upd fun u hu z=>by subst z;rcases ec with ec | ⟨_,ec⟩<;>(rw [h] at ec;cases ec)
 ·exact ⟨o,by rw [iN h];exact I⟩
def Sz (te:TE):TE:=fun σ H Q=>te σ H fun x H1=>∃ a,x=.ref a/\((∃ kvs,Rd H1 a (.dK kvs)/\∀ o,Q x (upd H1 a (.af o (.dK kvs))))\/∃ kvs,Rd H1 a (.dT kvs)/\∀ o,Q x (upd H1 a (.af o (.dT kvs))))
theorem iO (he:SE X e te):SE X e (Sz te):=by
 constructor
 intro pins s σ H Q I h
 refine aj (he.h pins s σ H _ I h) ?_
 rintro v s1 ⟨x,H1,I1,r1,a,ex,q⟩
 rcases q with ⟨kvs,hr,q⟩ | ⟨kvs,hr,q⟩
 ·obtain ⟨o,es,ep,hd,I2,ho⟩:=I1.freeze hr
  exact ⟨x,_,I2,r1,q o⟩
 ·obtain ⟨o,I2⟩:=I1.Sy hr
  exact ⟨x,_,I2,r1,q o⟩
def valAt (kvs:List (Key×V)) (i:Nat):V:=((kvs[i]?).map fun kv=>kv.2).getD .ao
def CI (a:Addr) (o:Obj) (kvs:List (Key×V)):It:=⟨fun i H=>H a=some (.af o (.dK kvs))/\i < kvs.length,fun i H x H'=>Cw (iz kvs i) (valAt kvs i) H x H',fun i H=>H a=some (.af o (.dK kvs))/\kvs.length=i⟩
theorem j7 (kvs:List (Key×V)):Cy (CI a o kvs) (fun H=>H a=some (.af o (.dK kvs))) kvs.length (iz kvs) (valAt kvs):=fun H ok=>⟨fun i hi=>⟨⟨ok,hi⟩,fun x H' h=>h⟩,ok,rfl⟩
theorem uJ {kvs:List (Key×V)} (r:KV kvs vs):∀ {i:Nat} {p:Key×V},kvs[i]? =some p->∃ q,vs[i]? =some q/\q.1=p.1/\RelV p.2 q.2:=by
 intro i
 induction r generalizing i with
 | nil=>intro p h;simp at h
 | cons a t ih=>
  intro p h
  cases i with
  | zero=>simp at h;subst h;exact ⟨_,by simp,a.1.symm,a.2⟩
  | succ i=>simp at h;simpa using ih h
theorem sT {K:QZ} {k:Nat} {pos:Pos} {kvs:List (Key×V)} (SD:a≠it) (nv:∃ es,o.data=.dict es ep):
  Turn P w K (.Tuple Ah k pos) (CI a o kvs) [it] it (fun i h=>∃ ok ov,IsItemIter h it a i kvs.length ep ok ov) where
 mem:=by simp
 obj:=fun i h st b hb=>by
  have e:b=it:=by simpa using hb
  subst e
  obtain ⟨ok,ov,he⟩:=st
  exact ⟨_,he,fun v z=>by
   have z':Data.fields _=Data.cell v:=z
   cases z'⟩
 keep:=fun i h h' st k=>let ⟨ok,ov,he⟩:=st;⟨ok,ov,k it (by simp) _ he⟩
 item:=by
  intro X hP hw hK hc i pins s σ H E I hf st hg
  subst hP hw hK
  obtain ⟨ok,ov,he⟩:=st
  obtain ⟨hq,hi⟩:=hg
  obtain ⟨e,z,hd,vs,rel,ob,es,mz,h1,h2,h3,h4⟩:=(show bf X.prog X.w H s.heap a (.af o (.dK kvs)) from I.hok a _ hq)
  obtain ⟨es',cz⟩:=nv
  rw [e] at h1;cases h1
  rw [cz] at h3;injection h3 with ii ik
  subst ii ik
  obtain ⟨q,jk,kj,AL⟩:=uJ rel (Qa hi)
  have hl:=rel.len
  obtain ⟨qk,qv⟩:=q
  refine wpAny_pyNext_items_item (knd:=cj X.prog X.w) (kvs:=vs) (ep:=ep) (ok:=ok) (ov:=ov) (by rw [<- hl];exact he) ⟨o,es',e,h2,cz,h4⟩ jk fun key h' hk ho hT hsz GZ=>?_
  have rk:RelV (iz kvs i) key:=by
   unfold iz
   rw [Qa hi]
   show RelV (kV kvs[i].1) key
   have GO:qk=kvs[i].1:=kj
   rw [<- GO]
   exact rL hk
  have rv:RelV (valAt kvs i) qv:=by
   unfold valAt
   rw [Qa hi]
   exact AL
  have I1:Inv X pins σ (upd H s.heap.objs.size (.tup [iz kvs i,valAt kvs i])) {s with heap:=h'}:=I.GI (t':=s.toks) hf (fun b o hb e=>GZ b o (fun z=>hb (by simp [z])) e) (Qy _) (pK rk rv hT)
  refine ⟨_,rfl,wpAny_letOwnedTupleGo_items (s:={s with heap:=h'}) ho fun Bu G0 sb=>?_⟩
  have aq:it≠s.heap.objs.size:=Nat.ne_of_lt (Qz he)
  obtain ⟨f0,f1,f2,f3,f4,f5⟩:=hf it (by simp)
  have CJ:upd H s.heap.objs.size (.tup [iz kvs i,valAt kvs i]) it=none:=by rw [aF aq];exact f0
  refine ⟨.ref s.heap.objs.size,_,I1.turned (t':=s.toks) (fun b o hb q=>(sb.2 b hb).trans q) CJ f1 f3 f4 f5,rfl,⟨_,rfl,I.hok.fresh (Qy _),rfl⟩,⟨_,_,by rw [hl];exact G0⟩,fun b hb=>?_⟩
  have e:b=it:=by simpa using hb
  subst e
  exact CJ
 done:=by
  intro X hP hw hK hc i pins s σ H E I hf st hg
  subst hP hw hK
  obtain ⟨ok,ov,he⟩:=st
  obtain ⟨hq,hi⟩:=hg
  obtain ⟨e,z,hd,vs,rel,ob,es,mz,h1,h2,h3,h4⟩:=(show bf X.prog X.w H s.heap a (.af o (.dK kvs)) from I.hok a _ hq)
  obtain ⟨es',cz⟩:=nv
  rw [e] at h1;cases h1
  rw [cz] at h3;injection h3 with ii ik
  subst ii ik
  have hl:=rel.len
  obtain ⟨f0,f1,f2,f3,f4,f5⟩:=hf it (by simp)
  exact wpAny_pyNext_items_end (knd:=cj X.prog X.w) (kvs:=vs) (ep:=ep) (ok:=ok) (ov:=ov) (I.ok.hd hc) (by rw [<- hl];exact he) ⟨o,es',e,h2,cz,h4⟩ (by simp;omega) fun h' eb=>⟨rfl,I.turned (t':=s.toks) (fun b o hb e=>eb b o hb e) f0 f1 f3 f4 f5⟩
 self:=fun _ _ _ _ _ st h=>let ⟨_,_,he⟩:=st;PySem.W.kcp_self he h
section
variable {k:Nat} {yw:Pos} {o:Expr}
def SJ (te:TE):TI:=fun σ H R=>te σ H fun x H1=>∃ a kvs,x=.ref a/\((∃ o,H1 a=some (.af o (.dK kvs))/\R (CI a o kvs) H1)\/(H1 a=some (.dK kvs)/\∀ o,R (CI a o kvs) (upd H1 a (.af o (.dK kvs)))))
theorem kZ (ho:SE X o to) (qc:attributeBase o "items" X.env (eval o X.env)=eval o X.env:=by rfl) (qd:(apos.endLine==cpos.line)=true:=by rfl):
  SI X (.Tuple Ah k yw) (.Call (.Attribute o "items" apos) [] [] cpos) (SJ to):=by
 constructor
 intro pins s σ H R I h
 refine wpAny_Call_method0_late qc qd (aj (ho.h pins s σ H _ I h) ?_)
 rintro v s1 ⟨x,H1,I1,r1,a,kvs,ex,hr⟩
 subst ex
 cases r1
 obtain ⟨o,H2,I2,G1,q⟩:∃ (o:Obj) (H2:Hp),Inv X pins σ H2 s1/\H2 a=some (.af o (.dK kvs))/\R (CI a o kvs) H2:=by
  rcases hr with ⟨o,e,q⟩ | ⟨e,q⟩
  ·exact ⟨o,H1,I1,e,q⟩
  ·obtain ⟨o,_,_,_,I2,_⟩:=I1.freeze (.inl e)
   exact ⟨o,_,I2,aA,q o⟩
 obtain ⟨e,z,uy,vs,rel,ob,es,ep,h1,h2,hd,h4⟩:=(show bf X.prog X.w _ s1.heap a (.af o (.dK kvs)) from I2.hok a _ G1)
 rw [e] at h1;cases h1
 have hl:=rel.len
 have hT:s1.TypeIs (.ref a) "dict":=⟨o,e,h2.1⟩
 refine ⟨"dict","dict.items",PySem.F.plainAttrs_dict,PySem.F.slot_dict_items,PySem.F.type_dict_items,hT,fun b hb=>by cases hb;exact ⟨o,e,h2.2.1⟩,Calls.callWith_builtin rfl (PySem.evalArgs_none ?_)⟩
 refine call_meetsIn PySem.F.slot_dict_items hT PySem.F.entry_dict_items (PySem.F.args_dict_items_1 _) (meets_dict_items (cj X.prog X.w) a uy) ⟨⟨vs,o,es,ep,e,h2,hd,h4⟩,?_⟩
 have I3:Inv X pins σ H2 {s1 with heap:=s1.heap.push {cls:=.type "dict_items",data:=.fields #[.ref a]}}:=I2.kept (t':=s1.toks) fun b o e=>Qc _ e
 refine wpAny_pyIter_items (knd:=cj X.prog X.w) (kvs:=vs) (ep:=ep) ⟨_,Qd _ rfl,rfl,rfl⟩ ⟨o,es,Qc _ e,h2,hd,h4⟩ ?_
 have jl:a≠(s1.heap.push {cls:=.type "dict_items",data:=.fields #[.ref a]}).objs.size:=by
  rw [Heap.size_push];exact Nat.ne_of_lt (Nat.lt_succ_of_lt (Qz e))
 refine ⟨_,[(s1.heap.push {cls:=.type "dict_items",data:=.fields #[.ref a]}).objs.size],_,_,_,rfl,I3.kept (t':=s1.toks) fun b o e=>Qc _ e,sT (kvs:=kvs) (a:=a) (o:=o) jl ⟨es,hd⟩,⟨.none,.none,by rw [hl];exact Qd _ rfl⟩,fun b hb=>?_,q⟩
 have e:b=(s1.heap.push {cls:=.type "dict_items",data:=.fields #[.ref a]}).objs.size:=by simpa using hb
 subst e
 exact I3.pq (Qy _) (I3.hok.fresh (Qy _))
end
end L2
namespace PySem
end PySem
namespace L2
open PySem PySem.Spec PyProof.Rows
theorem bj.inj {xs ys:List V} (h:bj H a xs) (h':bj H a ys):xs=ys:=by
 rcases h with h | ⟨o,h⟩<;>rcases h' with h' | ⟨o',h'⟩<;>(rw [h] at h';cases h')<;>rfl
theorem sV {xs ys:List Str} (h:xs.map V.str=ys.map V.str):xs=ys:=by
 induction xs generalizing ys with
 | nil=>cases ys with
  | nil=>rfl
  | cons y ys=>simp at h
 | cons x xs ih=>cases ys with
  | nil=>simp at h
  | cons y ys=>
   simp only [List.map_cons,List.cons.injEq,V.str.injEq] at h
   rw [h.1,ih h.2]
theorem lE (xs ys:List Str):((List.range (min xs.length ys.length)).all (fun j=>xs.getD j ""==ys.getD j "")&&xs.length==ys.length)=decide (xs=ys):=by
 by_cases h:xs=ys
 ·subst h;simp
 ·rw [Qw h,Bool.and_eq_false_iff]
  by_cases hl:xs.length=ys.length
  ·left
   rw [Bool.eq_false_iff]
   intro jr
   apply h
   refine List.ext_getElem hl fun i h1 h2=>?_
   have:=List.all_eq_true.mp jr i (by simp;omega)
   simpa [Qb,Qa h1,Qa h2] using this
  ·right;simpa using hl
theorem oK (I:Inv X pins σ H s) {xs ys:List Str} (h1:bj H a (xs.map V.str)) (h2:bj H b (ys.map V.str)) (hu:A.units+2 < cLine):SeqAt.EqAt A s (.ref a) (.ref b) (decide (xs=ys)):=by
 by_cases nu:a=b
 ·subst nu
  have e:xs=ys:=sV (h1.inj h2)
  rw [Qv e]
  exact SeqAt.EqAt.same _
 ·obtain ⟨i1,r1,p1,_⟩:=I.tuple (.inl h1)
  obtain ⟨i2,r2,p2,_⟩:=I.tuple (.inl h2)
  have l1:=r1.length
  have l2:=r2.length
  rw [Ql] at l1 l2
  have:=SeqAt.RcAt.tuples (A:=A) (e:=fun j=>xs.getD j ""==ys.getD j "") p1 p2 (by omega) fun j g1 g2=>by
   have k1:j < xs.length:=by simp at g1;omega
   have k2:j < ys.length:=by simp at g2;omega
   obtain ⟨w1,e1,q1⟩:=r1.get (i:=j) (x:=.str xs[j]) (by simp [k1])
   obtain ⟨w2,e2,q2⟩:=r2.get (i:=j) (x:=.str ys[j]) (by simp [k2])
   have m1:i1.toArray[j]=w1:=by rw [Qa (by simpa using g1)] at e1;simpa using e1
   have m2:i2.toArray[j]=w2:=by rw [Qa (by simpa using g2)] at e2;simpa using e2
   rw [m1,m2]
   obtain ⟨t,rfl⟩:=q1
   obtain ⟨t',rfl⟩:=q2
   have:=SeqAt.EqAt.str_str (A:=A.in1) (s:=s) xs[j] t ys[j] t'
   simpa [Qb,Qa k1,Qa k2] using this
  have e:((List.range (min i1.toArray.size i2.toArray.size)).all (fun j=>xs.getD j ""==ys.getD j "")&&i1.toArray.size==i2.toArray.size)=decide (xs=ys):=by
   rw [<- lE xs ys];simp only [List.size_toArray,<- l1,<- l2]
  rw [e] at this
  exact SeqAt.EqAt.of_refs nu this
section
variable {o:Expr} {t:TA}
end
theorem oV {a0:Expr} {n:Str} {gq:Pos} {t:TA} (ha:SE X (.Attribute a0 n gq) te) (hr:SA X es t):SA X (.Attribute a0 n gq::es) (dw te t):=⟨cX ha.h hr.h⟩
theorem SK {K:QZ} {it:Array Value} {sq:Array (Option Value)} {xs:List V} (gl:K.lookup a=some ⟨.type "tuple",none,.seq it n,sq⟩) (gv:a_ xs it.toList) (gz:xs.length<=sizeLine):CG K (a,⟨.type "tuple",none,.seq it n,sq⟩,xs):=
 ⟨gl,it.toList,n,rfl,rfl,by simp,gv,gz⟩
theorem tP {K:QZ} {as:List Addr} (x:K.In h):(without K as).In h:=fun a o e=>by
 rw [cU] at e
 by_cases hc:as.contains a=true
 ·rw [if_pos hc] at e;cases e
 ·rw [if_neg hc] at e;exact x a o e
theorem yB {J:It} {ok:Hp->Prop} {item:Nat->V} {g:TG} {tc:TC} {tk tw:TE} {τ0:St} {D:Addr} {Q:Hp->Prop} (hJ:rg J ok n item) (Pv:Nat->St->Hp->Prop) (h0:Pv 0 τ0 H0)
  (hok:∀ i τ H,i<=n->Pv i τ H->ok H)
  (hs:∀ i τ H,i < n->Pv i τ H->g (item i) τ H fun τ2 H2=>tc τ2 H2 fun b H3=>if b=true then tk τ2 H3 fun x H4=>tw τ2 H4 fun y H5=>∃ kvs key,x=kV key/\H5 D=some (.dK kvs)/\kvs.length < sizeLine/\Pv (i+1) τ2 (upd H5 D (.dK (putK kvs key y))) else Pv (i+1) τ2 H3)
  (hd:∀ τ H,Pv n τ H->Q H):∃ W:Nat->Nat->St->Hp->Prop,(∃ m,W 0 m τ0 H0)/\∀ i m τ H,W i m τ H->
   (J.stop i H/\Q H)\/(J.go i H/\∃ N:St->Hp->Prop,(∀ τ' H',N τ' H'->∃ m',m' < m/\W (i+1) m' τ' H')/\∀ x H',J.h_ i H x H'->g x τ H' fun τ2 H2=>tc τ2 H2 fun b H3=>
    if b=true then tk τ2 H3 fun x H4=>tw τ2 H4 fun y H5=>∃ kvs key,x=kV key/\H5 D=some (.dK kvs)/\kvs.length < sizeLine/\N τ2 (upd H5 D (.dK (putK kvs key y))) else N τ2 H3):=by
 refine ⟨fun i m τ H=>m=n - i/\i<=n/\Pv i τ H,⟨n,by simp,Nat.zero_le _,h0⟩,?_⟩
 rintro i m τ H ⟨rfl,hi,p⟩
 obtain ⟨k1,k2⟩:=hJ H (hok i τ H hi p)
 by_cases aq:i < n
 ·refine .inr ⟨(k1 i aq).1,Pv (i+1),fun σ' H' p'=>⟨n - (i+1),by omega,rfl,aq,p'⟩,fun x H' y=>?_⟩
  obtain ⟨e,e2⟩:=(k1 i aq).2 x H' y
  subst e e2
  exact hs i τ _ aq p
 ·have e:i=n:=by omega
  subst e
  exact .inl ⟨k2,hd τ H p⟩
theorem uB {K:QZ} {J:It} {ok:Hp->Prop} {f1 f2:Nat->V} {a b:Nat} {tc:TC} {tk tw:TE} {τ0:St} {D:Addr} {Q:Hp->Prop} (hJ:Cy J ok n f1 f2) (Pv:Nat->St->Hp->Prop) (h0:Pv 0 τ0 H0)
  (hok:∀ i τ H,i<=n->Pv i τ H->ok H)
  (hs:∀ i τ H T,i < n->Pv i τ H->H T=none->tc ((τ.set a (some (f1 i))).set b (some (f2 i))) (upd H T (.tup [f1 i,f2 i])) fun c H3=>if c=true then tk ((τ.set a (some (f1 i))).set b (some (f2 i))) H3 fun x H4=>tw ((τ.set a (some (f1 i))).set b (some (f2 i))) H4 fun y H5=>
   ∃ kvs key,x=kV key/\H5 D=some (.dK kvs)/\kvs.length < sizeLine/\Pv (i+1) ((τ.set a (some (f1 i))).set b (some (f2 i))) (upd H5 D (.dK (putK kvs key y))) else Pv (i+1) ((τ.set a (some (f1 i))).set b (some (f2 i))) H3)
  (hd:∀ τ H,Pv n τ H->Q H):∃ W:Nat->Nat->St->Hp->Prop,(∃ m,W 0 m τ0 H0)/\∀ i m τ H,W i m τ H->
   (J.stop i H/\Q H)\/(J.go i H/\∃ N:St->Hp->Prop,(∀ τ' H',N τ' H'->∃ m',m' < m/\W (i+1) m' τ' H')/\∀ x H',J.h_ i H x H'->g2 K a b x τ H' fun τ2 H2=>tc τ2 H2 fun b H3=>
    if b=true then tk τ2 H3 fun x H4=>tw τ2 H4 fun y H5=>∃ kvs key,x=kV key/\H5 D=some (.dK kvs)/\kvs.length < sizeLine/\N τ2 (upd H5 D (.dK (putK kvs key y))) else N τ2 H3):=by
 refine ⟨fun i m σ H=>m=n - i/\i<=n/\Pv i σ H,⟨n,by simp,Nat.zero_le _,h0⟩,?_⟩
 rintro i m σ H ⟨rfl,hi,p⟩
 obtain ⟨k1,k2⟩:=hJ H (hok i σ H hi p)
 by_cases aq:i < n
 ·refine .inr ⟨(k1 i aq).1,Pv (i+1),fun σ' H' p'=>⟨n - (i+1),by omega,rfl,aq,p'⟩,fun x H' y=>?_⟩
  obtain ⟨T,rfl,hT,rfl⟩:=(k1 i aq).2 x H' y
  exact cI aA (hs i σ _ T aq p hT)
 ·have e:i=n:=by omega
  subst e
  exact .inl ⟨k2,hd σ H p⟩
theorem z3 {K:QZ} {J:It} {ok:Hp->Prop} {f1 f2:Nat->V} {a b:Nat} {tc:TC} {tk tw:TE} {τ0:St} {D:Addr} {Q:Hp->Prop} (hJ:Cy J ok n f1 f2) (Pv:Nat->St->Hp->Prop) (h0:Pv 0 τ0 H0)
  (hok:∀ i τ H,i<=n->Pv i τ H->ok H)
  (hs:∀ i τ H T,i < n->Pv i τ H->H T=none->tc ((τ.set a (some (f1 i))).set b (some (f2 i))) (upd H T (.tup [f1 i,f2 i])) fun c H3=>if c=true then tk ((τ.set a (some (f1 i))).set b (some (f2 i))) H3 fun x H4=>tw ((τ.set a (some (f1 i))).set b (some (f2 i))) H4 fun y H5=>
   ∃ kvs key b',x=.ref b'/\bj H5 b' (key.map kV)/\H5 D=some (.dT kvs)/\kvs.length < sizeLine/\Pv (i+1) ((τ.set a (some (f1 i))).set b (some (f2 i))) (upd H5 D (.dT (putK kvs key y))) else Pv (i+1) ((τ.set a (some (f1 i))).set b (some (f2 i))) H3)
  (hd:∀ τ H,Pv n τ H->Q H):∃ W:Nat->Nat->St->Hp->Prop,(∃ m,W 0 m τ0 H0)/\∀ i m τ H,W i m τ H->
   (J.stop i H/\Q H)\/(J.go i H/\∃ N:St->Hp->Prop,(∀ τ' H',N τ' H'->∃ m',m' < m/\W (i+1) m' τ' H')/\∀ x H',J.h_ i H x H'->g2 K a b x τ H' fun τ2 H2=>tc τ2 H2 fun b H3=>
    if b=true then tk τ2 H3 fun x H4=>tw τ2 H4 fun y H5=>∃ kvs key b,x=.ref b/\bj H5 b (key.map kV)/\H5 D=some (.dT kvs)/\kvs.length < sizeLine/\N τ2 (upd H5 D (.dT (putK kvs key y))) else N τ2 H3):=by
 refine ⟨fun i m σ H=>m=n - i/\i<=n/\Pv i σ H,⟨n,by simp,Nat.zero_le _,h0⟩,?_⟩
 rintro i m σ H ⟨rfl,hi,p⟩
 obtain ⟨k1,k2⟩:=hJ H (hok i σ H hi p)
 by_cases aq:i < n
 ·refine .inr ⟨(k1 i aq).1,Pv (i+1),fun σ' H' p'=>⟨n - (i+1),by omega,rfl,aq,p'⟩,fun x H' y=>?_⟩
  obtain ⟨T,rfl,hT,rfl⟩:=(k1 i aq).2 x H' y
  exact cI aA (hs i σ _ T aq p hT)
 ·have e:i=n:=by omega
  subst e
  exact .inl ⟨k2,hd σ H p⟩
theorem uC {κ:Type} [DecidableEq κ] {kvs:List (κ×V)} (nd:(kvs.map (·.1)).Nodup) (h:i < kvs.length):putK (kvs.take i) kvs[i].1 kvs[i].2=kvs.take (i+1):=by
 rw [L2.dZ _ (by
  cases e:bx (kvs.take i) kvs[i].1 with
  | none=>rfl
  | some v=>
   have:=oS e
   obtain ⟨p,hp,q⟩:=List.mem_map.mp this
   obtain ⟨j,hj,rfl⟩:=Qi hp
   have oq:j < i:=by simp at hj;omega
   rw [List.getElem_take] at q
   have:=List.pairwise_iff_getElem.mp nd j i (by simp;omega) (by simpa using h) oq
   simp only [Qr] at this
   exact absurd q this),Qs,Qa h]
 rfl
theorem uD {κ:Type} [DecidableEq κ] {kvs:List (κ×V)} (nd:(kvs.map (·.1)).Nodup) {k:κ} {v:V} (h:(k,v)∈kvs):bx kvs k=some v:=by
 induction kvs with
 | nil=>cases h
 | cons p r ih=>
  rw [List.map_cons,List.nodup_cons] at nd
  rcases Qp.mp h with e | h
  ·rw [<- e,bO rfl]
  ·have ne:¬p.1=k:=fun e=>nd.1 (List.mem_map.mpr ⟨_,h,e.symm⟩)
   rw [bP ne];exact ih nd.2 h
theorem bj.put {D:Addr} {ys:List V} {o u:HO} (r:bj H b ys) (hD:H D=some o) (n1:∀ xs,o≠.tup xs) (n2:∀ q xs,o≠.af q (.tup xs)):bj (L2.upd H D u) b ys:=r.upd fun v hv z=>by
 subst z
 rcases r with r | ⟨q,r⟩
 ·rw [hD] at r;cases r;exact n1 _ rfl
 ·rw [hD] at r;cases r;exact n2 _ _ rfl
def gj (rows:List ae):List (Key×V):=rows.map fun r=>(.inr r.1,.str (endOf rows r.1))
def vc:Hd->List Str
 | .as y=>[y]
 | .way x y=>[x,y]
 | .prs _ ps=>ps.map (·.2)
 | _=>[]
def g_ (rows:List ae) (h:Hd):List (List Key×V):=h.bg.map fun m=>(m.1.map (Sum.inr:Str->Key),.str (endOf rows m.2))
theorem lR {xs ys:List Str} (h:xs.map (Sum.inr:Str->Key)=ys.map Sum.inr):xs=ys:=by
 induction xs generalizing ys with
 | nil=>cases ys with
  | nil=>rfl
  | cons y ys=>simp at h
 | cons x xs ih=>cases ys with
  | nil=>simp at h
  | cons y ys=>
   simp only [List.map_cons,List.cons.injEq,Sum.inr.injEq] at h
   rw [h.1,ih h.2]
theorem pG {rows:List ae} {h:Hd} (nd:(h.bg.map (·.1)).Nodup):((g_ rows h).map (·.1)).Nodup:=by
 have e:(g_ rows h).map (·.1)=(h.bg.map (·.1)).map fun m=>m.map (Sum.inr:Str->Key):=by simp [g_,Qn,QB]
 rw [e]
 exact List.pairwise_map.mpr (nd.imp fun h e=>h (lR e))
theorem SM {h:Hd} (i:Nat) (hi:i < h.bg.length):(vc h)[i]? =some h.bg[i].2:=by
 cases h with
 | one s=>cases hi
 | as y=>cases hi
 | way x y=>
  match i,hi with
  | 0,_=>rfl
  | 1,_=>rfl
 | prs s ps=>
  have oi:i < ps.length:=by simpa [Hd.bg] using hi
  simp [vc,Hd.bg,Qa oi]
theorem SN {h:Hd}:h.bg.length<=(vc h).length:=by
 cases h<;>simp [vc,Hd.bg]
theorem uF {h:Hd} (ok:h.ok ns):h.bg.length<=10:=by
 cases h with
 | one s=>simp [Hd.bg]
 | as y=>simp [Hd.bg]
 | way x y=>simp [Hd.bg]
 | prs s ps=>simpa [Hd.bg] using ok.2.2.2
theorem jA:∀ {ws:List Str},rising ws=true->ws.Pairwise (fun a b=>mh a b=true)
 | [],_=>.nil
 | [_],_=>List.pairwise_singleton _ _
 | a::b::r,h=>by
  have h':mh a b=true/\rising (b::r)=true:=by simpa [rising] using h
  have ih:=jA h'.2
  refine List.pairwise_cons.mpr ⟨fun c hc=>?_,ih⟩
  rcases Qp.mp hc with rfl | hc
  ·exact h'.1
  ·exact rA h'.1 ((List.pairwise_cons.mp ih).1 c hc)
theorem o5 (h:rising ws=true):ws.Nodup:=(jA h).imp fun {x y} h e=>by rw [e,nZ] at h;cases h
theorem wZ {h:Hd} (ok:h.ok ns):(h.bg.map (·.1)).Nodup:=by
 cases h with
 | one s=>exact List.nodup_nil
 | as y=>exact List.nodup_nil
 | way x y=>exact (by decide+kernel:(([["from"],["to"]]:List (List Str))).Nodup)
 | prs s ps=>
  have hr:=o5 ok.2.2.1
  have e:(Hd.prs s ps).bg.map (·.1)=(ps.map (·.1)).map fun w=>([if s="box" then "part" else "case",w]:List Str):=by simp [Hd.bg,Qn,QB]
  rw [e]
  exact List.pairwise_map.mpr (hr.imp fun h e=>h (by simpa using e))
theorem gQ {rows:List ae} (nd:(rows.map (·.1)).Nodup) (hx:x∈rows.map (·.1)):bx (gj rows) (.inr x)=some (.str (endOf rows x)):=by
 obtain ⟨r,hr,rfl⟩:=List.mem_map.mp hx
 refine uD ?_ (List.mem_map.mpr ⟨r,hr,rfl⟩)
 have e:(gj rows).map (·.1)=(rows.map (·.1)).map (Sum.inr:Str->Key):=by simp [gj,Qn,QB]
 rw [e]
 exact List.pairwise_map.mpr (nd.imp fun h e=>h (Sum.inr.inj e))
theorem EE (m:List Str):(m.map (Sum.inr:Str->Key)).map kV=m.map V.str:=by simp [Qn,QB,kV]
def bc (rows:List ae):List ae:=rows.filter fun r=>r.2.nx.isNone
structure DV (R:Hp->V->ae->Prop) (H:Hp) (kvs:List (Key×V)) (rs:List ae):Prop where
 len:kvs.length=rs.length
 at_:∀ i (h:i < kvs.length) (h':i < rs.length),kvs[i].1=.inr rs[i].1/\R H kvs[i].2 rs[i]
theorem DV.keep {R:Hp->V->ae->Prop} {kvs:List (Key×V)} {rs:List ae} (h:DV R H kvs rs) (s:∀ v r,R H v r->R H' v r):DV R H' kvs rs:=⟨h.len,fun i a b=>⟨(h.at_ i a b).1,s _ _ (h.at_ i a b).2⟩⟩
theorem DV.nil {R:Hp->V->ae->Prop}:DV R H [] []:=⟨rfl,fun i h=>absurd h (by simp)⟩
theorem DV.snoc {R:Hp->V->ae->Prop} {kvs:List (Key×V)} {rs:List ae} (h:DV R H kvs rs) {v:V} {r:ae} (e:R H v r):DV R H (kvs++[((Sum.inr r.1:Key),v)]) (rs++[r]):=by
 have hl:=h.len
 refine ⟨by simp [hl],fun i h1 h2=>?_⟩
 by_cases aq:i < kvs.length
 ·rw [Qe aq,Qe (by omega)]
  exact h.at_ i aq (by omega)
 ·have e':i=kvs.length:=by simp at h1;omega
  subst e'
  rw [Qf (Qy _),Qf (by omega)]
  simp only [Nat.sub_self,hl,List.getElem_cons_zero,true_and]
  exact e
theorem DV.keys {R:Hp->V->ae->Prop} {kvs:List (Key×V)} {rs:List ae} (h:DV R H kvs rs):kvs.map (·.1)=rs.map fun r=>(.inr r.1:Key):=by
 have hl:=h.len
 refine List.ext_getElem (by simpa using hl) fun i h1 h2=>?_
 simp only [Qr]
 exact (h.at_ i (by simpa using h1) (by simpa using h2)).1
theorem DV.put {R:Hp->V->ae->Prop} {kvs:List (Key×V)} {rs:List ae} (h:DV R H kvs rs) {r:ae} {v:V} (n:r.1 ∉ rs.map (·.1)):putK kvs (.inr r.1) v=kvs++[(.inr r.1,v)]:=by
 refine L2.dZ _ ?_
 cases e:bx kvs (.inr r.1) with
 | none=>rfl
 | some u=>
  have:=oS e
  rw [h.keys] at this
  obtain ⟨r',fb,e'⟩:=List.mem_map.mp this
  exact absurd (List.mem_map.mpr ⟨r',fb,Sum.inr.inj e'⟩) n
theorem DV.get {R:Hp->V->ae->Prop} {kvs:List (Key×V)} {rs:List ae} (h:DV R H kvs rs) (nd:(rs.map (·.1)).Nodup) {r:ae} (hr:r∈rs):∃ v,bx kvs (.inr r.1)=some v/\R H v r:=by
 obtain ⟨i,hi,rfl⟩:=Qi hr
 have hl:=h.len
 obtain ⟨h1,h2⟩:=h.at_ i (by omega) hi
 refine ⟨kvs[i].2,uD ?_ (k:=(Sum.inr rs[i].1:Key)) (v:=kvs[i].2) ?_,h2⟩
 ·rw [h.keys]
  exact List.pairwise_map.mpr ((List.pairwise_map.mp nd).imp fun h e=>h (Sum.inr.inj e))
 ·rw [<- h1];exact Qj (by omega)
def Hd.i_:Hd->Str
 | .one s=>s
 | .as _=>"as"
 | .way _ _=>"way"
 | .prs s _=>s
theorem HV.i_ {H:Hp} {v:V} {h:Hd} (q:HV H v h):∃ b ys,v=.ref b/\H b=some (.tup (.str h.i_::ys)):=by
 cases q with
 | one e=>exact ⟨_,_,rfl,e⟩
 | as e=>exact ⟨_,_,rfl,e⟩
 | way e=>exact ⟨_,_,rfl,e⟩
 | prs e _ _=>exact ⟨_,_,rfl,e⟩
theorem yE {h:Hd} (ok:h.ok ns):(h.i_="as")=(h.nx.isNone=false):=by
 cases h with
 | one s=>rcases ok with rfl | rfl<;>simp [Hd.i_,Hd.nx]<;>decide+kernel
 | as y=>simp [Hd.i_,Hd.nx]
 | way x y=>simp [Hd.i_,Hd.nx];decide+kernel
 | prs s ps=>rcases ok.1 with rfl | rfl<;>simp [Hd.i_,Hd.nx]<;>decide+kernel
def RH:Hp->V->ae->Prop:=fun H v r=>HV H v r.2
def RM:Hp->V->ae->Prop:=fun H v r=>∃ b c us,v=.ref b/\H b=some (.tup [.str r.2.i_,.ref c])/\H c=some (.tup us)/\SV H us (r.2.bg.map (·.1))
def RO (rows:List ae):Hp->V->ae->Prop:=fun H v r=>∃ m o,v=.ref m/\H m=some (.af o (.dT (g_ rows r.2)))
structure EF (H:Hp) (rows:List ae) (fs:List (Str×V)):Prop where
 rws:∃ d o,fs.lookup ("rows":Str)=some (V.ref d)/\H d=some (.af o (.dK (gj rows)))
 ji:∃ d o k,fs.lookup ("heads":Str)=some (V.ref d)/\H d=some (.af o (.dK k))/\DV RH H k (bc rows)
 X7:∃ d o k,fs.lookup ("marks":Str)=some (V.ref d)/\H d=some (.af o (.dK k))/\DV RM H k (bc rows)
 bg:∃ d o k,fs.lookup ("moves":Str)=some (V.ref d)/\H d=some (.af o (.dK k))/\DV (RO rows) H k (bc rows)
def BC (H:Hp) (C x:Addr) (rows:List ae):Prop:=∃ dx fs,H x=some (.ins C dx fs)/\EF H rows fs
def Sx (x:Addr) (H H':Hp):Prop:=∀ b o,b≠x->H b=some o->H' b=some o
theorem Sx.trans {x:Addr} {H1 H2:Hp} (a:Sx x H H1) (b:Sx x H1 H2):Sx x H H2:=fun c o n h=>b c o n (a c o n h)
theorem aa.sx {x:Addr} {H1:Hp} (a:aa H H1):Sx x H H1:=fun c o _ h=>a c o h
theorem Sx.upd {x:Addr} {H:Hp} {o:HO}:Sx x H (upd H x o):=fun c u n h=>by rw [aF n];exact h
theorem Sx.tk {x:Addr} (s:Sx x H H') (n:∀ ys,H x≠some (.tup ys)):Tk H H':=fun b ys e=>s b _ (fun z=>n ys (by rw [<- z];exact e)) e
theorem Sx.af {x b:Addr} {H H':Hp} {q:Obj} {u:HO} (s:Sx x H H') (n:∀ q u,H x≠some (.af q u)) (e:H b=some (.af q u)):H' b=some (.af q u):=s b _ (fun z=>n q u (by rw [<- z];exact e)) e
theorem HV.same {v:V} {h:Hd} (q:HV H v h) (s:aa H H'):HV H' v h:=q.tk s.ts
theorem lD {K:QZ} {tv:TE} {f:Str} {v:TS} {D:Ends} (h:tv σ H fun y H1=>ta σ H1 fun x H2=>∃ a C dx fs,x=.ref a/\H2 a=some (.ins C dx fs)/\wk K C/\uq K C f/\fs.length < 1000/\v D σ (upd H2 a (.ins C dx (bz f y fs)))):xu (D8 K ta tv f) v D σ H:=h
def ja (rows:List ae) (e:Str) (s:List Str):Option Str:=((bh rows e).find? fun m=>decide (m.1=s)).map (·.2)
def vd (rows:List ae):Str->List (List Str)->Option Str
 | e,[]=>some e
 | e,s::r=>match ja rows e s with
  | some e'=>vd rows e' r
  | none=>none
def G2:Option Str->V
 | some z=>.str z
 | none=>.ao
def fu (rows:List ae) (ns:List Str) (e:Str):Prop:=e∈ns/\endOf rows e=e
theorem rZ (rows:List ae) (e:Str) (s:List Str) (he:endOf rows e=e):bx (g_ rows (gr rows e)) (s.map Sum.inr)=(ja rows e s).map V.str:=by
 unfold bx g_ ja bh
 rw [he]
 induction (gr rows e).bg with
 | nil=>rfl
 | cons m ms ih=>
  simp only [List.map_cons,List.find?_cons]
  by_cases h:m.1=s
  ·rw [Qv h,Qv (congrArg _ h)];rfl
  ·rw [Qw h,Qw fun z=>h (lR z)];exact ih
def f_ (rows:List ae) (e:Str):List (List Key×V):=(bh rows e).map fun m=>(m.1.map Sum.inr,.str m.2)
section
variable {xs:List V} {rows:List ae}
theorem RT.stay (rt:RT H a xs rows ns ws) (hw:∀ z∈ws,Wd z) (hx:x∈ns):fu rows ns (endOf rows x):=by
 obtain ⟨h1,h2,_⟩:=rt.yc hw hx
 exact ⟨h1,cO _ h2⟩
theorem RT.zd (rt:RT H a xs rows ns ws) (hw:∀ z∈ws,Wd z) {e:Str} (h:fu rows ns e):(e,gr rows e)∈bc rows/\(gr rows e).ok ns:=by
 obtain ⟨h1,h2,h3⟩:=rt.yc hw h.1
 rw [h.2] at h1 h2 h3
 have h4:e∈rows.map (·.1):=rt.nm.mem_iff.mpr h1
 obtain ⟨r,hr,rfl⟩:=List.mem_map.mp h4
 have e':=dP rt.jv hr
 refine ⟨List.mem_filter.mpr ⟨?_,?_⟩,h3⟩
 ·rw [e'];exact hr
 ·show (gr rows r.1).nx.isNone=true
  rw [h2];rfl
theorem RT.ja (rt:RT H a xs rows ns ws) (hw:∀ z∈ws,Wd z) {e e':Str} {s:List Str} (h:fu rows ns e) (m:L2.ja rows e s=some e'):fu rows ns e':=by
 unfold L2.ja at m
 obtain ⟨p,hp,rfl⟩:=Option.map_eq_some_iff.mp m
 have hm:=List.mem_of_find?_eq_some hp
 unfold bh at hm
 obtain ⟨q,hq,rfl⟩:=List.mem_map.mp hm
 rw [h.2] at hq
 exact rt.stay hw (oB (rt.zd hw h).2 _ hq)
theorem RT.wz (rt:RT H a xs rows ns ws):((bc rows).map (·.1)).Nodup:=rt.jv.sublist (List.filter_sublist.map _)
theorem RT.SQ (rt:RT H a xs rows ns ws) (hw:∀ z∈ws,Wd z) (h:x∈ns):((f_ rows x).map (·.1)).Nodup:=by
 have h3:=(rt.yc hw h).2.2
 have e:(f_ rows x).map (·.1)=((gr rows (endOf rows x)).bg.map (·.1)).map fun m=>m.map (Sum.inr:Str->Key):=by simp [f_,bh,Qn,QB]
 rw [e]
 exact List.pairwise_map.mpr ((wZ h3).imp fun h e=>h (lR e))
theorem RT.KP (rt:RT H a xs rows ns ws) (hw:∀ z∈ws,Wd z) (h:x∈ns):(bh rows x).length<=10:=by
 have:=uF (rt.yc hw h).2.2
 unfold bh
 simpa using this
end
theorem EF.same {H H':Hp} {rows:List ae} {fs:List (Str×V)} (n:EF H rows fs) (s:aa H H'):EF H' rows fs:=by
 obtain ⟨⟨d1,o1,a1,a2⟩,⟨d2,o2,k2,b1,b2,b3⟩,⟨d3,o3,k3,c1,c2,c3⟩,⟨d4,o4,k4,e1,e2,e3⟩⟩:=n
 exact ⟨⟨d1,o1,a1,s _ _ a2⟩,⟨d2,o2,k2,b1,s _ _ b2,b3.keep fun v r h=>HV.tk s.ts h⟩,⟨d3,o3,k3,c1,s _ _ c2,c3.keep fun v r ⟨b,c,us,h1,h2,h3,h4⟩=>⟨b,c,us,h1,s _ _ h2,s _ _ h3,h4.keep fun b ys r=>r.same s⟩⟩,⟨d4,o4,k4,e1,s _ _ e2,e3.keep fun v r ⟨m,o,h1,h2⟩=>⟨m,o,h1,s _ _ h2⟩⟩⟩
theorem BC.same {H H':Hp} {C x:Addr} {rows:List ae} (n:BC H C x rows) (s:aa H H'):BC H' C x rows:=let ⟨dx,fs,e,f⟩:=n;⟨dx,fs,s _ _ e,f.same s⟩
def EG (K:QZ):R2:=fun x y H Q=>∃ a b xs ys,x=.ref a/\y=.ref b/\au K H a xs/\au K H b ys/\xs.length+ys.length<=sizeLine/\(xs=[]->Q (.ref b) H)/\
 (xs≠[]->ys=[]->Q (.ref a) H)/\(xs≠[]->ys≠[]->∀ p,H p=none->Q (.ref p) (upd H p (.tup (xs++ys))))
theorem eE (K:QZ) (h:X.K=K:=by rfl):cg X (binaryOp .Add) (EG K):=by
 subst h
 intro pins s σ H x y v u Q I rx ry h
 obtain ⟨a,b,xs,ys,rfl,rfl,ha,hb,hz,q0,q1,q2⟩:=h
 by_cases hx:xs=[]
 ·cases rx
  cases ry
  obtain ⟨its,r1,p1,_⟩:=I.tuple ha
  obtain ⟨its2,r2,p2,_⟩:=I.tuple hb
  have hi:its=[]:=r1.Ef.mpr hx
  obtain ⟨⟨cls,dd,data,sl⟩,ho,hc,n,hd⟩:=id p1
  obtain ⟨⟨JQ,yx,data2,yy⟩,wq,nj,n2,hd2⟩:=id p2
  simp only at hc hd nj hd2
  subst hc hd nj hd2
  exact concat_meets ⟨_,ho,rfl⟩ ⟨_,wq,rfl⟩ noFill_tuple_add seq_tuple_add PySem.F.slot_tuple_add PySem.F.entry_tuple_add (PySem.F.args_tuple_add_2 _ _)
   (tuple_addW0 a b its.toArray its2.toArray n n2 dd yx sl yy (by simp [hi])) ⟨ho,wq,⟨.ref b,H,I,rfl,q0 hx⟩⟩
 ·exact O9 pins s σ H _ _ v u Q I rx ry ⟨a,b,xs,ys,rfl,rfl,ha,hb,hx,hz,q1 hx,q2 hx⟩
theorem EH {K:QZ} {xs ys:List V} {Q:VK} (ha:H a=some (.tup xs)) (hb:H b=some (.tup ys)) (hz:xs.length+ys.length<=sizeLine) (h:∀ p H',aa H H'->H' p=some (.tup (xs++ys))->Q (.ref p) H'):EG K (.ref a) (.ref b) H Q:=by
 refine ⟨a,b,xs,ys,rfl,rfl,au.of ha,au.of hb,hz,fun e=>?_,fun _ e=>?_,fun _ _ p hp=>?_⟩
 ·subst e;exact h b H (aa.refl _) hb
 ·subst e;exact h a H (aa.refl _) (by rw [List.append_nil];exact ha)
 ·exact h p _ (aa.upd hp _) aA
theorem SV.append {xs ys:List V} {ss ts:List (List Str)} (h:SV H xs ss) (h':SV H ys ts):SV H (xs++ys) (ss++ts):=by
 have hl:=h.len
 have BD:=h'.len
 refine ⟨by simp [hl,BD],fun i h1 h2=>?_⟩
 by_cases aq:i < xs.length
 ·rw [Qe aq,Qe (by omega)]
  exact h.at_ i aq (by omega)
 ·rw [Qf (by omega),Qf (by omega)]
  have:=h'.at_ (i - xs.length) (by simp at h1;omega) (by simp at h2;omega)
  simpa [hl] using this
theorem SV.one {H:Hp} {b:Addr} {m:List Str} (e:bj H b (m.map V.str)):SV H [.ref b] [m]:=SV.nil.snoc e
theorem SV.same {H H':Hp} {xs:List V} {ss:List (List Str)} (h:SV H xs ss) (s:aa H H'):SV H' xs ss:=h.keep fun _ _ r=>r.same s
theorem kJ {k:Nat} (hr:c_ k A):A.units+20 < cLine:=by have:=hr.un;omega
section
variable {d:Addr} {od:Obj} {es:Array DictEntry} {ok ov:Value} {Q:Option Value->Shared->Prop}
theorem wJ {en:DictEntry} (a0:IsItemIter s.heap it d i n ep ok ov) (ip:s.heap.get? d=some od) (jw:od.data=.dict es ep) (hn:es.size=n) (hx:es[i]? =some en)
  (hQ:∀ h',IsItemIterOut h' it d (i+1) n ep en.key en.val s.heap.objs.size->h'.get? s.heap.objs.size=some {cls:=.type "tuple",data:=.seq #[en.key,en.val]}->
   (∀ b o,b≠it->s.heap.get? b=some o->h'.get? b=some o)->Q (some (.ref s.heap.objs.size)) {s with heap:=h'}):wpAny (model P w) A (pyNext (.ref it)) Q E s:=by
 obtain ⟨hp,g,dr,tk,os⟩:=s
 have ty:Shared.TypeIs ⟨hp,g,dr,tk,os⟩ (.ref it) "dict_itemiterator":=⟨_,a0,rfl⟩
 have aq:i < es.size:=(Array.getElem?_eq_some_iff.mp hx).1
 have X8:es[i]=en:=(Array.getElem?_eq_some_iff.mp hx).2
 have own:Builtin.Dict_items.ownsTuple "dict_itemiterator"=true:=by decide
 have jm:¬(Value.ref d==Value.none)=true:=fun hz=>Bool.false_ne_true hz
 unfold pyNext
 refine QS (wpAny_attempt (wpAny_callSpecial?_slot (name:=Str.ofString "__next__") ty F.slot_dict_itemiterator_next (wpAny_call_entry F.slot_dict_itemiterator_next ty F.entry_dict_itemiterator_next ?_ (F.args_dict_itemiterator_next_1 _))))
 refine QS (QT (QS (QS ?_)))
 first
  | refine QS (wpAny_typeNameOfWhole_itemiter ty (QT (QS (wpAny_fieldsOf a0 rfl ?_))))
  | refine QS (wpAny_typeNameOf_itemiter ty (QT (QS (wpAny_fieldsOf a0 rfl ?_))))
 simp only [own,if_true]
 show wpAny _ _ (if (Value.ref d==Value.none)=true then _ else _) _ _ _
 rw [if_neg jm]
 refine QS (QT (QS (wpAny_dictEntries ip jw ?_)))
 rw [if_neg (by rw [hn];simp)]
 refine QS (QT (QS (wpAny_dictEpoch ip jw ?_)))
 rw [if_neg (by simp)]
 refine QT ?_
 simp only [show ¬((i:Int) < 0) by omega,if_false,Int.toNat_natCast,hx]
 refine QS ?_
 first
  | refine QS (wpAny_typeNameOfWhole_itemiter ty (QT (QS (wpAny_isOneOf_itemiter ty ?_))))
  | refine QS (wpAny_typeNameOf_itemiter ty (QT (QS (wpAny_isOneOf_itemiter ty ?_))))
 show wpAny _ _ (setField (.ref it) 3 (rawInt ((i:Int)+1)) >>=_) _ _ ⟨hp,g,dr,tk,os⟩
 refine QS (wpAny_setField_rec a0 (by simp) fun k1 b1 c1=>?_)
 have G3:Heap.SameBut it hp k1:=c1
 have KQ:IsItemIter k1 it d (i+1) n ep ok ov:=by
  have e:((i+1:Nat):Int)=(i:Int)+1:=by omega
  unfold IsItemIter;rw [e];simpa [rawInt] using b1
 have KR:Shared.TypeIs ⟨k1,g,dr,tk,os⟩ (.ref it) "dict_itemiterator":=⟨_,KQ,rfl⟩
 refine QS (wpAny_holding (QS (wpAny_isOneOf_itemiter KR (QS (wpAny_isOneOf_itemiter KR ?_)))))
 show wpAny _ _ (Builtin.Dict_items.pairFromOwner (.ref it) 6 en.key en.val) _ _ ⟨k1,g,dr,tk,os⟩
 unfold Builtin.Dict_items.pairFromOwner
 refine QS (wpAny_newTuple ?_)
 have sz:k1.objs.size=hp.objs.size:=G3.1
 have il:it < hp.objs.size:=Qz a0
 have b2:IsItemIter (k1.push {cls:=.type "tuple",data:=.seq #[en.key,en.val]}) it d (i+1) n ep ok ov:=Qc _ KQ
 have t2:(k1.push {cls:=.type "tuple",data:=.seq #[en.key,en.val]}).get? hp.objs.size=some {cls:=.type "tuple",data:=.seq #[en.key,en.val]}:=by rw [<- sz];exact Qd _ rfl
 have m2:∀ b o,b≠it->hp.get? b=some o->(k1.push {cls:=.type "tuple",data:=.seq #[en.key,en.val]}).get? b=some o:=fun b o hb e=>Qc _ (G3.extBut b o hb e)
 show wpAny _ _ (Builtin.Dict_items.ownedTupleIsFree (.ref it) >>=_) _ _ ⟨k1.push {cls:=.type "tuple",data:=.seq #[en.key,en.val]},g,dr,tk,os⟩
 rw [sz]
 generalize k1.push {cls:=.type "tuple",data:=.seq #[en.key,en.val]}=k2 at b2 t2 m2
 refine QS ?_
 unfold Builtin.Dict_items.ownedTupleIsFree
 refine QS (wpAny_field b2 rfl (x:=.none) rfl (QT ?_))
 simp only [if_true]
 refine QS (wpAny_field b2 rfl (x:=ok) rfl (QS (wpAny_field b2 rfl (x:=ov) rfl (QS (wpAny_setField_rec b2 (by simp) fun k3 b3 c3=>?_)))))
 have SR:IsItemIter k3 it d (i+1) n ep en.key ov:=b3
 refine QS (wpAny_setField_rec SR (by simp) fun k4 b4 c4=>?_)
 have SX:IsItemIter k4 it d (i+1) n ep en.key en.val:=b4
 refine QS (wpAny_setField_rec SX (by simp) fun k5 b5 c5=>?_)
 have SY:IsItemIterOut k5 it d (i+1) n ep en.key en.val hp.objs.size:=b5
 refine QS (wpAny_setField_rec SY (by simp) fun k6 b6 c6=>?_)
 have up:∀ b o,b≠it->k2.get? b=some o->k6.get? b=some o:=fun b o hb e=>c6.extBut b o hb (c5.extBut b o hb (c4.extBut b o hb (c3.extBut b o hb e)))
 exact QS (wpAny_letGo (QT (QT ⟨_,rfl,QT (hQ k6 b6 (up _ _ (Nat.ne_of_gt il) t2) fun b o hb e=>up b o hb (m2 b o hb e))⟩)))
theorem y6 (hh:A.handled=none) (a0:IsItemIter s.heap it d i n ep ok ov) (ip:s.heap.get? d=some od) (jw:od.data=.dict es ep) (hn:es.size=n) (hx:n<=i)
  (hQ:∀ h',Heap.ExtBut it s.heap h'->Q none {s with heap:=h'}):wpAny (model P w) A (pyNext (.ref it)) Q E s:=by
 have ty:s.TypeIs (.ref it) "dict_itemiterator":=⟨_,a0,rfl⟩
 have own:Builtin.Dict_items.ownsTuple "dict_itemiterator"=true:=by decide
 have G4:es.size<=i:=by omega
 have jm:¬(Value.ref d==Value.none)=true:=fun hz=>Bool.false_ne_true hz
 unfold pyNext
 refine QS (wpAny_attempt (wpAny_callSpecial?_slot (name:=Str.ofString "__next__") ty F.slot_dict_itemiterator_next (wpAny_call_entry F.slot_dict_itemiterator_next ty F.entry_dict_itemiterator_next ?_ (F.args_dict_itemiterator_next_1 _))))
 refine QS (QT (QS (QS ?_)))
 first
  | refine QS (wpAny_typeNameOfWhole_itemiter ty (QT (QS (wpAny_fieldsOf a0 rfl ?_))))
  | refine QS (wpAny_typeNameOf_itemiter ty (QT (QS (wpAny_fieldsOf a0 rfl ?_))))
 simp only [own,if_true]
 show wpAny _ _ (if (Value.ref d==Value.none)=true then _ else _) _ _ _
 rw [if_neg jm]
 refine QS (QT (QS (wpAny_dictEntries ip jw ?_)))
 rw [if_neg (by rw [hn];simp)]
 refine QS (QT (QS (wpAny_dictEpoch ip jw ?_)))
 rw [if_neg (by simp)]
 refine QT ?_
 simp only [show ¬((i:Int) < 0) by omega,if_false,Int.toNat_natCast,Array.getElem?_eq_none G4]
 refine QS ?_
 first
  | refine QS (wpAny_typeNameOfWhole_itemiter ty (QT ?_))
  | refine QS (wpAny_typeNameOf_itemiter ty (QT ?_))
 show wpAny _ _ (setField (.ref it) 2 .none >>=_) _ _ s
 refine QS (wpAny_setField a0 rfl (by simp) ?_)
 show wpAny _ _ (newExc (.type "StopIteration") [] >>=_) _ _ _
 refine QS ?_
 simp only [newExc,newTuple]
 refine QS (wpAny_newObj_type (QS (m:=firstArgMember _ _) (wpAny_of_eq (a:=Value.none) (by first | rfl | (simp only [firstArgMember];rfl)) (wpAny_newObj_type ?_ (by size_fits)))) (by size_fits))
 simp only [raiseNew]
 refine QS (wpAny_handled ?_)
 rw [show A.in1.handled=none from hh]
 refine QS (QT (wpAny_throw ?_))
 refine QS (wpAny_isInstance (T:="StopIteration") (b:=true) ⟨_,Qd _ rfl,rfl⟩ isSubtype_stop ?_)
 exact QT (hQ _ (((Heap.SameBut.update ..).extBut.push _).push _))
end
def BE (a:Addr) (o:Obj) (kvs:List (List Key×V)):It:=⟨fun i H=>H a=some (.af o (.dT kvs))/\i < kvs.length,fun i H x H'=>∃ b kv,kvs[i]? =some kv/\bj H b (kv.1.map kV)/\Cw (.ref b) kv.2 H x H',fun i H=>H a=some (.af o (.dT kvs))/\kvs.length=i⟩
theorem xA {kvs:List (List Key×V)} (r:KT H kvs xs):∀ {i:Nat} {p:List Key×V},kvs[i]? =some p->∃ q,xs[i]? =some q/\bj H q.2.1 (p.1.map kV)/\RelV p.2 q.2.2:=by
 intro i
 induction r generalizing i with
 | nil=>intro p h;simp at h
 | cons a t ih=>
  intro p h
  cases i with
  | zero=>simp at h;subst h;exact ⟨_,by simp,a.2.1,a.2.2⟩
  | succ i=>simp at h;simpa using ih h
theorem qM {K:QZ} {k:Nat} {pos:Pos} {kvs:List (List Key×V)} (SD:a≠it) (nv:∃ es,o.data=.dict es ep):
  Turn P w K (.Tuple Ah k pos) (BE a o kvs) [it] it (fun i h=>∃ ok ov,IsItemIter h it a i kvs.length ep ok ov) where
 mem:=by simp
 obj:=fun i h st b hb=>by
  have e:b=it:=by simpa using hb
  subst e
  obtain ⟨ok,ov,he⟩:=st
  exact ⟨_,he,fun v z=>by
   have z':Data.fields _=Data.cell v:=z
   cases z'⟩
 keep:=fun i h h' st k=>let ⟨ok,ov,he⟩:=st;⟨ok,ov,k it (by simp) _ he⟩
 item:=by
  intro X hP hw hK hc i pins s σ H E I hf st hg
  subst hP hw hK
  obtain ⟨ok,ov,he⟩:=st
  obtain ⟨hq,hi⟩:=hg
  obtain ⟨e,z,hd,xs,rel,ob,es,mz,h1,h2,h3,h4,h5⟩:=(show bf X.prog X.w H s.heap a (.af o (.dT kvs)) from I.hok a _ hq)
  obtain ⟨es',cz⟩:=nv
  rw [e] at h1;cases h1
  rw [cz] at h3;injection h3 with ii ik
  subst ii ik
  obtain ⟨q,jk,kj,AL⟩:=xA rel (Qa hi)
  have hl:=Paired.length rel
  have hsz:es'.size=kvs.length:=by rw [<- Array.length_toList,h4,Ql];exact hl.symm
  have hx:es'[i]? =some (entryOfKey (tupleKind (cj X.prog X.w)) q):=by rw [<- Array.getElem?_toList,h4,Qq,jk];rfl
  refine wJ (n:=kvs.length) he e cz hsz hx fun h' ho hT GZ=>?_
  have rk:RelV (.ref q.2.1) (entryOfKey (tupleKind (cj X.prog X.w)) q).key:=rfl
  have rv:RelV kvs[i].2 (entryOfKey (tupleKind (cj X.prog X.w)) q).val:=AL
  have I1:Inv X pins σ (upd H s.heap.objs.size (.tup [.ref q.2.1,kvs[i].2])) {s with heap:=h'}:=I.GI (t':=s.toks) hf (fun b o hb e=>GZ b o (fun z=>hb (by simp [z])) e) (Qy _) (pK rk rv hT)
  refine ⟨_,rfl,wpAny_letOwnedTupleGo_items (s:={s with heap:=h'}) ho fun Bu G0 sb=>?_⟩
  have aq:it≠s.heap.objs.size:=Nat.ne_of_lt (Qz he)
  obtain ⟨f0,f1,f2,f3,f4,f5⟩:=hf it (by simp)
  have CJ:upd H s.heap.objs.size (.tup [.ref q.2.1,kvs[i].2]) it=none:=by rw [aF aq];exact f0
  refine ⟨.ref s.heap.objs.size,_,I1.turned (t':=s.toks) (fun b o hb q=>(sb.2 b hb).trans q) CJ f1 f3 f4 f5,rfl,⟨q.2.1,kvs[i],Qa hi,kj,_,rfl,I.hok.fresh (Qy _),rfl⟩,⟨_,_,G0⟩,fun b hb=>?_⟩
  have e:b=it:=by simpa using hb
  subst e
  exact CJ
 done:=by
  intro X hP hw hK hc i pins s σ H E I hf st hg
  subst hP hw hK
  obtain ⟨ok,ov,he⟩:=st
  obtain ⟨hq,hi⟩:=hg
  obtain ⟨e,z,hd,xs,rel,ob,es,mz,h1,h2,h3,h4,h5⟩:=(show bf X.prog X.w H s.heap a (.af o (.dT kvs)) from I.hok a _ hq)
  obtain ⟨es',cz⟩:=nv
  rw [e] at h1;cases h1
  rw [cz] at h3;injection h3 with ii ik
  subst ii ik
  have hl:=Paired.length rel
  have hsz:es'.size=kvs.length:=by rw [<- Array.length_toList,h4,Ql];exact hl.symm
  obtain ⟨f0,f1,f2,f3,f4,f5⟩:=hf it (by simp)
  exact y6 (n:=kvs.length) (I.ok.hd hc) he e cz hsz (by omega) fun h' eb=>⟨rfl,I.turned (t':=s.toks) (fun b o hb e=>eb b o hb e) f0 f1 f3 f4 f5⟩
 self:=fun _ _ _ _ _ st h=>let ⟨_,_,he⟩:=st;PySem.W.kcp_self he h
section
variable {k:Nat} {yw:Pos} {o:Expr}
theorem kD {v d:Addr} {od:Obj} {es:Array DictEntry} (hv:s.heap.IsItemsView v d) (ip:s.heap.get? d=some od) (jw:od.data=.dict es ep)
  (hQ:Q (.ref s.heap.objs.size) {s with heap:=s.heap.push {cls:=.type "dict_itemiterator",data:=.fields #[.none,.bool false,.ref d,.int 0 0,.int es.size 0,.int ep 0,.none,.none]}}):wpAny (model P w) A (pyIter (.ref v)) Q E s:=by
 obtain ⟨ov,BF,S0,G5⟩:=id hv
 have own:Builtin.Dict_items.ownsTuple "dict_itemiterator"=true:=by decide
 refine wpAny_pyIter_slot hv.typeIs F.slot_dict_items_iter (wpAny_call_entry F.slot_dict_items_iter hv.typeIs F.entry_dict_items_iter ?_ (F.args_dict_items_iter_1 _))
 unfold Builtin.«dict_items.__iter__»
 refine QS (QT (QS ?_))
 unfold Builtin.Dict_items.dictOf
 refine QS (wpAny_field BF G5 (x:=.ref d) rfl (QT (QS ?_)))
 unfold Builtin.Dict_items.newIterator
 refine QS (wpAny_dictEntries ip jw (QS (wpAny_dictEpoch ip jw ?_)))
 simp only [own,if_true]
 refine wpAny_newObj_type (QT ⟨_,rfl,"dict_itemiterator",_,⟨_,Qd _ rfl,rfl⟩,F.slot_dict_itemiterator_next.lookup,?_⟩) (by simp only [sizeOk,Builtin.Dict_items.ownedTupleFields,List.size_toArray,Qk,List.length_cons,List.length_nil,QL];omega)
 simpa [rawInt,Builtin.Dict_items.ownedTupleFields] using hQ
theorem kX (d:Addr) (hd:(d==sysModules)=false):
  MeetsIn P w (Builtin.«dict.items» ⟨[.ref d],[]⟩) (fun _ R s=>s.TypeIs (.ref d) "dict"/\R (.ok (.ret (.ref s.heap.objs.size))) {s with heap:=s.heap.push {cls:=.type "dict_items",data:=.fields #[.ref d]}}):=
 .of_wp fun A R s ⟨hm,h⟩=>by
  unfold Builtin.«dict.items» Builtin.Dict.noArgs
  refine QS (QS (wpAny_notOrdered_dict hm ?_))
  show wpAny _ _ (pure d) _ _ s
  refine QT ?_
  show wpAny _ _ (Builtin.Dict.showsAll d >>=_) _ _ s
  unfold Builtin.Dict.showsAll
  rw [if_neg (fun hz=>Bool.false_ne_true (hd.symm.trans hz))]
  exact QS (QT (QS (wpAny_newObj_type (QT ⟨_,rfl,h⟩))))
def S1 (te:TE):TI:=fun σ H R=>te σ H fun x H1=>∃ a kvs o,x=.ref a/\H1 a=some (.af o (.dT kvs))/\R (BE a o kvs) H1
theorem jC (ho:SE X o to) (qc:attributeBase o "items" X.env (eval o X.env)=eval o X.env:=by rfl) (qd:(apos.endLine==cpos.line)=true:=by rfl):
  SI X (.Tuple Ah k yw) (.Call (.Attribute o "items" apos) [] [] cpos) (S1 to):=by
 constructor
 intro pins s σ H R I h
 refine wpAny_Call_method0_late qc qd (aj (ho.h pins s σ H _ I h) ?_)
 rintro v s1 ⟨x,H1,I1,r1,a,kvs,o,ex,hH,q⟩
 subst ex
 cases r1
 obtain ⟨e,z,uy,xs,rel,ob,es,ep,h1,h2,hd,h4,h5⟩:=(show bf X.prog X.w _ s1.heap a (.af o (.dT kvs)) from I1.hok a _ hH)
 rw [e] at h1;cases h1
 have hl:=Paired.length rel
 have hsz:es.size=kvs.length:=by rw [<- Array.length_toList,h4,Ql];exact hl.symm
 have hT:s1.TypeIs (.ref a) "dict":=⟨o,e,h2.1⟩
 refine ⟨"dict","dict.items",PySem.F.plainAttrs_dict,PySem.F.slot_dict_items,PySem.F.type_dict_items,hT,fun b hb=>by cases hb;exact ⟨o,e,h2.2.1⟩,Calls.callWith_builtin rfl (PySem.evalArgs_none ?_)⟩
 refine call_meetsIn PySem.F.slot_dict_items hT PySem.F.entry_dict_items (PySem.F.args_dict_items_1 _) (kX a uy) ⟨hT,?_⟩
 have I3:Inv X pins σ H1 {s1 with heap:=s1.heap.push {cls:=.type "dict_items",data:=.fields #[.ref a]}}:=I1.kept (t':=s1.toks) fun b o e=>Qc _ e
 refine kD (es:=es) (ep:=ep) ⟨_,Qd _ rfl,rfl,rfl⟩ (Qc _ e) hd ?_
 have jl:a≠(s1.heap.push {cls:=.type "dict_items",data:=.fields #[.ref a]}).objs.size:=by
  rw [Heap.size_push];exact Nat.ne_of_lt (Nat.lt_succ_of_lt (Qz e))
 refine ⟨_,[(s1.heap.push {cls:=.type "dict_items",data:=.fields #[.ref a]}).objs.size],_,_,_,rfl,I3.kept (t':=s1.toks) fun b o e=>Qc _ e,qM (kvs:=kvs) (a:=a) (o:=o) jl ⟨es,hd⟩,⟨.none,.none,by rw [<- hsz];exact Qd _ rfl⟩,fun b hb=>?_,q⟩
 have e:b=(s1.heap.push {cls:=.type "dict_items",data:=.fields #[.ref a]}).objs.size:=by simpa using hb
 subst e
 exact I3.pq (Qy _) (I3.hok.fresh (Qy _))
end
def CK (a:Addr) (o:Obj) (kvs:List (Key×V)):It:=⟨fun i H=>H a=some (.af o (.dK kvs))/\i < kvs.length,fun i H x H'=>H'=H/\x=valAt kvs i,fun i H=>H a=some (.af o (.dK kvs))/\kvs.length=i⟩
theorem rE (kvs:List (Key×V)):rg (CK a o kvs) (fun H=>H a=some (.af o (.dK kvs))) kvs.length (valAt kvs):=fun H ok=>⟨fun i hi=>⟨⟨ok,hi⟩,fun x H' h=>h⟩,ok,rfl⟩
theorem uV {K:QZ} {kvs:List (Key×V)} (nv:∃ es,o.data=.dict es ep):Turn P w K tg (CK a o kvs) [it] it (fun i h=>h.IsValIter it a i kvs.length ep) where
 mem:=by simp
 obj:=fun i h st b hb=>by
  have e:b=it:=by simpa using hb
  subst e
  obtain ⟨o,e,c,d⟩:=st
  exact ⟨o,e,fun v z=>by rw [d] at z;cases z⟩
 keep:=fun i h h' st k=>let ⟨o,e,r⟩:=st;⟨o,k it (by simp) o e,r⟩
 item:=by
  intro X hP hw hK hc i pins s σ H E I hf st hg
  subst hP hw hK
  obtain ⟨hq,hi⟩:=hg
  obtain ⟨e,z,hd,vs,rel,ob,es,mz,h1,h2,h3,h4⟩:=(show bf X.prog X.w H s.heap a (.af o (.dK kvs)) from I.hok a _ hq)
  obtain ⟨es',cz⟩:=nv
  rw [e] at h1;cases h1
  rw [cz] at h3;injection h3 with ii ik
  subst ii ik
  obtain ⟨q,jk,kj,AL⟩:=uJ rel (Qa hi)
  have hl:=rel.len
  obtain ⟨f0,f1,f2,f3,f4,f5⟩:=hf it (by simp)
  obtain ⟨qk,qv⟩:=q
  refine wpAny_pyNext_values_item (knd:=cj X.prog X.w) (kvs:=vs) (ep:=ep) (by rw [<- hl];exact st) ⟨o,es',e,h2,cz,h4⟩ jk fun h' st' sb=>?_
  have I1:Inv X pins σ H {s with heap:=h'}:=I.turned (t':=s.toks) (fun b o hb e=>(sb.2 b hb).trans e) f0 f1 f3 f4 f5
  have j_:h'.IsValIter it a (i+1) kvs.length ep:=by rw [hl];exact st'
  obtain ⟨o3,e3,c3,d3⟩:=id j_
  refine ⟨qv,rfl,jX (s:={s with heap:=h'}) e3 c3 d3 (by decide) ⟨valAt kvs i,H,I1,?_,⟨rfl,rfl⟩,j_,fun b hb=>(hf b hb).1⟩⟩
  unfold valAt
  rw [Qa hi]
  exact AL
 done:=by
  intro X hP hw hK hc i pins s σ H E I hf st hg
  subst hP hw hK
  obtain ⟨hq,hi⟩:=hg
  obtain ⟨e,z,hd,vs,rel,ob,es,mz,h1,h2,h3,h4⟩:=(show bf X.prog X.w H s.heap a (.af o (.dK kvs)) from I.hok a _ hq)
  obtain ⟨es',cz⟩:=nv
  rw [e] at h1;cases h1
  rw [cz] at h3;injection h3 with ii ik
  subst ii ik
  have hl:=rel.len
  obtain ⟨f0,f1,f2,f3,f4,f5⟩:=hf it (by simp)
  exact wpAny_pyNext_values_end (knd:=cj X.prog X.w) (kvs:=vs) (ep:=ep) (I.ok.hd hc) (by rw [<- hl];exact st) ⟨o,es',e,h2,cz,h4⟩ (by simp;omega) fun h' eb=>⟨rfl,I.turned (t':=s.toks) (fun b o hb e=>eb b o hb e) f0 f1 f3 f4 f5⟩
 self:=fun _ _ _ _ _ st h=>wpAny_pyIter_valiter st h
section
variable {o:Expr}
def S2 (te:TE):TI:=fun σ H R=>te σ H fun x H1=>∃ a kvs,x=.ref a/\((∃ o,H1 a=some (.af o (.dK kvs))/\R (CK a o kvs) H1)\/(H1 a=some (.dK kvs)/\∀ o,R (CK a o kvs) (upd H1 a (.af o (.dK kvs)))))
theorem uI (ho:SE X o to) (qc:attributeBase o "values" X.env (eval o X.env)=eval o X.env:=by rfl) (qd:(apos.endLine==cpos.line)=true:=by rfl):
  SI X tg (.Call (.Attribute o "values" apos) [] [] cpos) (S2 to):=by
 constructor
 intro pins s σ H R I h
 refine wpAny_Call_method0_late qc qd (aj (ho.h pins s σ H _ I h) ?_)
 rintro v s1 ⟨x,H1,I1,r1,a,kvs,ex,hr⟩
 subst ex
 cases r1
 obtain ⟨o,H2,I2,G1,q⟩:∃ (o:Obj) (H2:Hp),Inv X pins σ H2 s1/\H2 a=some (.af o (.dK kvs))/\R (CK a o kvs) H2:=by
  rcases hr with ⟨o,e,q⟩ | ⟨e,q⟩
  ·exact ⟨o,H1,I1,e,q⟩
  ·obtain ⟨o,_,_,_,I2,_⟩:=I1.freeze (.inl e)
   exact ⟨o,_,I2,aA,q o⟩
 obtain ⟨e,z,uy,vs,rel,ob,es,ep,h1,h2,hd,h4⟩:=(show bf X.prog X.w _ s1.heap a (.af o (.dK kvs)) from I2.hok a _ G1)
 rw [e] at h1;cases h1
 have hl:=rel.len
 have hT:s1.TypeIs (.ref a) "dict":=⟨o,e,h2.1⟩
 refine ⟨"dict","dict.values",PySem.F.plainAttrs_dict,PySem.F.slot_dict_values,PySem.F.type_dict_values,hT,fun b hb=>by cases hb;exact ⟨o,e,h2.2.1⟩,Calls.callWith_builtin rfl (PySem.evalArgs_none ?_)⟩
 refine call_meetsIn PySem.F.slot_dict_values hT PySem.F.entry_dict_values (PySem.F.args_dict_values_1 _) (meets_dict_values (cj X.prog X.w) a uy) ⟨⟨vs,o,es,ep,e,h2,hd,h4⟩,?_⟩
 have I3:Inv X pins σ H2 {s1 with heap:=s1.heap.push {cls:=.type "dict_values",data:=.fields #[.ref a]}}:=I2.kept (t':=s1.toks) fun b o e=>Qc _ e
 refine wpAny_pyIter_values (knd:=cj X.prog X.w) (kvs:=vs) (ep:=ep) ⟨_,Qd _ rfl,rfl,rfl⟩ ⟨o,es,Qc _ e,h2,hd,h4⟩ ?_
 refine ⟨_,[(s1.heap.push {cls:=.type "dict_values",data:=.fields #[.ref a]}).objs.size],_,_,_,rfl,I3.kept (t':=s1.toks) fun b o e=>Qc _ e,uV (kvs:=kvs) (a:=a) (o:=o) ⟨es,hd⟩,by rw [hl];exact ⟨_,Qd _ rfl,rfl,rfl⟩,fun b hb=>?_,q⟩
 have e:b=(s1.heap.push {cls:=.type "dict_values",data:=.fields #[.ref a]}).objs.size:=by simpa using hb
 subst e
 exact I3.pq (Qy _) (I3.hok.fresh (Qy _))
end
def KS (K:QZ):List V->Hp->VK->Prop:=fun xs H Q=>match xs with
 | [.ref p]=>∃ ns:List Int,ak K H p (ns.map V.int)/\Q (.int ns.sum) H
 | _=>False
theorem fU (ns:List Int):∀ k,k<=ns.length->PySem.preSum (fun i=>ns.getD i 0) k=(ns.take k).sum
 | 0,_=>rfl
 | k+1,h=>by
  have ih:=fU ns k (by omega)
  show PySem.preSum _ k+ns.getD k 0=_
  rw [ih,Qs,Qa h,List.sum_append,Qb,Qa h]
  simp
theorem mW (K:QZ) (hc:X.calm=true) (h:X.K=K:=by rfl):iu X (.builtin "sum") (KS K):=by
 subst h
 intro pins s σ H xs us Q I r h
 unfold KS at h
 split at h
 ·next p=>
  obtain ⟨ns,hq,q⟩:=h
  obtain ⟨u,rfl,ru⟩:=r.one
  cases ru
  obtain ⟨its,rv,pl,hz⟩:=I.list hq
  have hl:=rv.length
  rw [Ql] at hl
  have aq:p < s.heap.objs.size:=by obtain ⟨_,e,_⟩:=pl.isList;exact Qz e
  refine call_sum_walkAnyS (wpAny_pyIter_list pl.isList ?_)
  refine ⟨s.heap.objs.size,[s.heap.objs.size,p],[s.heap.objs.size],_,its.toArray.size,_,_,fun i=>ns.getD i 0,rfl,(Walks.list (A:=X.A.in1) (I.ok.hd hc) _ p (Nat.ne_of_lt aq) _).toS,
   ⟨⟨_,Qd _ rfl,rfl,rfl⟩,pl.isList.push _⟩,fun b hb=>?_,fun i v hP=>?_,fun s' t' mv=>?_⟩
  ·simp only [Qp,QA,or_false] at hb
   show b < (s.heap.push _).objs.size
   rw [Heap.size_push]
   rcases hb with rfl | rfl
   ·exact Nat.lt_succ_self _
   ·exact Nat.lt_succ_of_lt aq
  ·have ou:its[i]? =some v:=by simpa using hP
   have hi:i < its.length:=(List.getElem?_eq_some_iff.mp ou).1
   obtain ⟨u,h1,h2⟩:=rv.get (i:=i) (x:=.int (ns.getD i 0)) (by rw [Qq,Qa (by omega),Qb,Qa (by omega)];rfl)
   rw [ou] at h1
   cases h1
   exact h2
  ·have e:PySem.preSum (fun i=>ns.getD i 0) its.toArray.size=ns.sum:=by
    rw [List.size_toArray,<- hl,fU ns ns.length (Qy _),Qo]
   rw [e]
   obtain ⟨Gf,g',d',Bv,F6⟩:=s'
   obtain ⟨m1,m2,m3,m4,m5⟩:=mv
   simp only at m1 m2 m3 m4 m5
   subst m2 m3 m4
   refine ⟨.int ns.sum,H,I.kept (t':=Bv) fun b o e=>m1 b o (fun hm=>?_) (Qc _ e),⟨_,rfl⟩,q⟩
   rw [List.mem_singleton.mp hm] at e
   exact Nat.lt_irrefl _ (Qz e)
 ·exact h.elim
def KU (K:QZ):List V->Hp->VK->Prop:=fun xs H Q=>match xs with
 | [.ref p]=>∃ bs:List Bool,ak K H p (bs.map V.bl)/\Q (.bl (bs.any id)) H
 | _=>False
theorem vN (K:QZ) (hc:X.calm=true) (h:X.K=K:=by rfl):iu X (.builtin "any") (KU K):=by
 subst h
 intro pins s σ H xs us Q I r h
 unfold KU at h
 split at h
 ·next p=>
  obtain ⟨bs,hq,q⟩:=h
  obtain ⟨u,rfl,ru⟩:=r.one
  cases ru
  obtain ⟨its,rv,pl,hz⟩:=I.list hq
  have e:=rF rv
  subst e
  have aq:p < s.heap.objs.size:=by obtain ⟨_,e,_⟩:=pl.isList;exact Qz e
  refine call_any_walk (wpAny_pyIter_list pl.isList ?_)
  refine ⟨s.heap.objs.size,[s.heap.objs.size,p],[s.heap.objs.size],(bs.map Value.bool).toArray.size,_,_,fun i=>(bs[i]?).getD false,rfl,Walks.list (A:=X.A.in1) (I.ok.hd hc) _ p (Nat.ne_of_lt aq) _,
   ⟨⟨_,Qd _ rfl,rfl,rfl⟩,pl.isList.push _⟩,fun i v s' Q' E' hP hQ=>?_,fun h' tk hk=>?_⟩
  ·have ou:(bs.map Value.bool)[i]? =some v:=by simpa using hP
   rw [Qq] at ou
   cases eb:bs[i]? with
   | none=>rw [eb] at ou;cases ou
   | some b=>
    rw [eb] at ou
    cases ou
    simp only [eb,Option.getD_some] at hQ
    exact wpAny_truthy_bool hQ
  ·have e:((List.range (bs.map Value.bool).toArray.size).any fun i=>(bs[i]?).getD false)=bs.any id:=by
    rw [List.size_toArray,Ql]
    rw [Bool.eq_iff_iff,List.any_eq_true,List.any_eq_true]
    constructor
    ·rintro ⟨i,hi,h⟩
     have oi:=List.mem_range.mp hi
     exact ⟨_,Qj oi,by simpa [Qa oi] using h⟩
    ·rintro ⟨b,hb,h⟩
     obtain ⟨i,hi,rfl⟩:=Qi hb
     exact ⟨i,List.mem_range.mpr hi,by simpa [Qa hi] using h⟩
   rw [e]
   refine ⟨.bl (bs.any id),H,I.kept (t':=tk) fun b o e=>hk b o (fun hm=>?_) (Qc _ e),rfl,q⟩
   rw [List.mem_singleton.mp hm] at e
   exact Nat.lt_irrefl _ (Qz e)
 ·exact h.elim
def S3:R2:=fun x y H Q=>∃ (a b:Addr) (xs ys:List Str),x=.ref a/\y=.ref b/\bj H a (xs.map V.str)/\bj H b (ys.map V.str)/\Q (.bl (decide (xs=ys))) H
theorem vA (hu:X.A.units+20 < cLine):cg X (compareOp .Eq) S3:=by
 intro pins s σ H x y v u Q I rx ry h
 obtain ⟨a,b,xs,ys,rfl,rfl,h1,h2,q⟩:=h
 cases rx
 cases ry
 obtain ⟨i1,r1,p1,_⟩:=I.tuple (.inl h1)
 obtain ⟨i2,r2,p2,_⟩:=I.tuple (.inl h2)
 have l1:=r1.length
 have l2:=r2.length
 rw [Ql] at l1 l2
 have:=SeqAt.RcAt.tuples (A:=X.A) (e:=fun j=>xs.getD j ""==ys.getD j "") p1 p2 (by omega) fun j g1 g2=>by
  have k1:j < xs.length:=by simp at g1;omega
  have k2:j < ys.length:=by simp at g2;omega
  obtain ⟨w1,e1,q1⟩:=r1.get (i:=j) (x:=.str xs[j]) (by simp [k1])
  obtain ⟨w2,e2,q2⟩:=r2.get (i:=j) (x:=.str ys[j]) (by simp [k2])
  have m1:i1.toArray[j]=w1:=by rw [Qa (by simpa using g1)] at e1;simpa using e1
  have m2:i2.toArray[j]=w2:=by rw [Qa (by simpa using g2)] at e2;simpa using e2
  rw [m1,m2]
  obtain ⟨t,rfl⟩:=q1
  obtain ⟨t',rfl⟩:=q2
  have:=SeqAt.EqAt.str_str (A:=X.A.in1) (s:=s) xs[j] t ys[j] t'
  simpa [Qb,Qa k1,Qa k2] using this
 have e:((List.range (min i1.toArray.size i2.toArray.size)).all (fun j=>xs.getD j ""==ys.getD j "")&&i1.toArray.size==i2.toArray.size)=decide (xs=ys):=by
  rw [<- lE xs ys];simp only [List.size_toArray,<- l1,<- l2]
 rw [e] at this
 exact this _ _ _ _ ⟨.bl (decide (xs=ys)),H,I,rfl,q⟩
def d_ (m:List Str) (p:Int×Int):Int×Int:=if m=(["from"]:List Str) then (p.2,p.1) else p
def Bn (rows:List ae):Nat->Str->Int×Int
 | 0,_=>(1,0)
 | n+1,e=>(((bh rows e).map fun m=>(d_ m.1 (Bn rows n m.2)).1).sum,((bh rows e).map fun m=>(d_ m.1 (Bn rows n m.2)).2).sum)
abbrev CL:=List (Str×(Int×Int))
def gb (φ:Str->Int×Int->Int) (L:CL):Int:=(L.map fun x=>φ x.1 x.2).sum
def ze (φ:Str->Int×Int->Int):Prop:=∀ e a b c d,φ e (a+c,b+d)=φ e (a,b)+φ e (c,d)
def getL (L:CL) (e:Str):Int×Int:=((L.find? fun x=>decide (x.1=e)).map (·.2)).getD (0,0)
def putL (L:CL) (e:Str) (p:Int×Int):CL:=if (L.any fun x=>decide (x.1=e))=true then L.map (fun x=>if x.1=e then (x.1,p) else x) else L++[(e,p)]
theorem n6 (L:CL) (e:Str) (p:Int×Int):(putL L e p).map (·.1)=if e∈L.map (·.1) then L.map (·.1) else L.map (·.1)++[e]:=by
 unfold putL
 by_cases h:e∈L.map (·.1)
 ·have h':(L.any fun x=>decide (x.1=e))=true:=by
   obtain ⟨x,hx,rfl⟩:=List.mem_map.mp h
   exact List.any_eq_true.mpr ⟨x,hx,Qv rfl⟩
  rw [if_pos h',if_pos h,Qn]
  refine List.map_congr_left fun x _=>?_
  by_cases hx:x.1=e<;>simp [hx]
 ·have h':¬(L.any fun x=>decide (x.1=e))=true:=fun q=>by
   obtain ⟨x,hx,q⟩:=List.any_eq_true.mp q
   exact h (List.mem_map.mpr ⟨x,hx,Qt q⟩)
  rw [if_neg h',if_neg h];simp
theorem u7 {L:CL} (nd:(L.map (·.1)).Nodup) (e:Str) (p:Int×Int):((putL L e p).map (·.1)).Nodup:=by
 rw [n6]
 split
 ·exact nd
 ·next h=>exact List.nodup_append.mpr ⟨nd,List.nodup_cons.mpr ⟨by simp,List.nodup_nil⟩,fun a ha b hb e=>by
   have:b=_:=List.mem_singleton.mp hb
   subst this;subst e;exact h ha⟩
theorem iS (φ:Str->Int×Int->Int) (x:Str×(Int×Int)) (L:CL):gb φ (x::L)=φ x.1 x.2+gb φ L:=by simp [gb]
theorem qC {φ:Str->Int×Int->Int} {e:Str} {p:Int×Int}:∀ {L:CL},e ∉ L.map (·.1)->L.map (fun x=>if x.1=e then (x.1,p) else x)=L
 | [],_=>rfl
 | x::L,h=>by
  simp only [List.map_cons,Qp,not_or] at h
  rw [List.map_cons,if_neg (Ne.symm h.1),qC (φ:=φ) h.2]
theorem zF {φ:Str->Int×Int->Int} (hφ:ze φ) {L:CL} (nd:(L.map (·.1)).Nodup) (e:Str) (a b:Int):gb φ (putL L e ((getL L e).1+a,(getL L e).2+b))=gb φ L+φ e (a,b):=by
 by_cases h:e∈L.map (·.1)
 ·have h':(L.any fun x=>decide (x.1=e))=true:=by
   obtain ⟨x,hx,rfl⟩:=List.mem_map.mp h
   exact List.any_eq_true.mpr ⟨x,hx,Qv rfl⟩
  unfold putL
  rw [if_pos h']
  clear h'
  induction L with
  | nil=>cases h
  | cons x L ih=>
   rw [List.map_cons,List.nodup_cons] at nd
   by_cases hx:x.1=e
   ·subst hx
    have g:getL (x::L) x.1=x.2:=by simp [getL,List.find?_cons]
    rw [g,List.map_cons,if_pos rfl,qC (φ:=φ) nd.1,iS,iS]
    have:=hφ x.1 x.2.1 x.2.2 a b
    rw [this]
    show φ x.1 (x.2.1,x.2.2)+_+_=φ x.1 x.2+_+_
    show φ x.1 x.2+_+_=φ x.1 x.2+_+_
    omega
   ·have g:getL (x::L) e=getL L e:=by simp [getL,List.find?_cons,hx]
    have h2:e∈L.map (·.1):=by
     rcases Qp.mp h with z | z
     ·exact absurd z.symm hx
     ·exact z
    rw [g,List.map_cons,if_neg hx,iS,iS,ih nd.2 h2]
    omega
 ·have h':¬(L.any fun x=>decide (x.1=e))=true:=fun q=>by
   obtain ⟨x,hx,q⟩:=List.any_eq_true.mp q
   exact h (List.mem_map.mpr ⟨x,hx,Qt q⟩)
  have g:getL L e=(0,0):=by
   unfold getL
   have:L.find? (fun x=>decide (x.1=e))=none:=List.find?_eq_none.mpr fun x hx q=>h (List.mem_map.mpr ⟨x,hx,Qt q⟩)
   rw [this];rfl
  unfold putL
  rw [if_neg h',g]
  simp [gb,List.sum_append]
def En (rows:List ae) (n:Nat):Str->Int×Int->Int:=fun e p=>p.1*(Bn rows n e).1+p.2*(Bn rows n e).2
def On (rows:List ae) (n:Nat):Str->Int×Int->Int:=fun e p=>p.1*(Bn rows n e).2+p.2*(Bn rows n e).1
theorem S4 (rows:List ae) (n:Nat):ze (En rows n):=fun e a b c d=>by unfold En;simp only [Int.add_mul];omega
theorem S5 (rows:List ae) (n:Nat):ze (On rows n):=fun e a b c d=>by unfold On;simp only [Int.add_mul];omega
theorem kI (a:Int) (l:List Int):a*l.sum=(l.map fun x=>a*x).sum:=by
 induction l with
 | nil=>simp
 | cons x l ih=>rw [List.sum_cons,List.map_cons,List.sum_cons,Int.mul_add,ih]
theorem oP (f g:List Str×Str->Int) (l:List (List Str×Str)):(l.map f).sum+(l.map g).sum=(l.map fun m=>f m+g m).sum:=by
 induction l with
 | nil=>simp
 | cons x l ih=>simp only [List.map_cons,List.sum_cons];omega
theorem S6 (rows:List ae) (n:Nat) (e:Str) (p:Int×Int):En rows (n+1) e p=((bh rows e).map fun m=>En rows n m.2 (d_ m.1 p)).sum:=by
 unfold En
 show p.1*(List.map _ _).sum+p.2*(List.map _ _).sum=_
 rw [kI,kI,Qn,Qn,oP]
 congr 1
 refine List.map_congr_left fun m _=>?_
 unfold d_
 by_cases h:m.1=(["from"]:List Str)
 ·simp only [Function.comp,if_pos h];omega
 ·simp only [Function.comp,if_neg h]
theorem S7 (rows:List ae) (n:Nat) (e:Str) (p:Int×Int):On rows (n+1) e p=((bh rows e).map fun m=>On rows n m.2 (d_ m.1 p)).sum:=by
 unfold On
 show p.1*(List.map _ _).sum+p.2*(List.map _ _).sum=_
 rw [kI,kI,Qn,Qn,oP]
 congr 1
 refine List.map_congr_left fun m _=>?_
 unfold d_
 by_cases h:m.1=(["from"]:List Str)
 ·simp only [Function.comp,if_pos h];omega
 ·simp only [Function.comp,if_neg h]
theorem S8 (rows:List ae) (L:CL):gb (En rows 0) L=(L.map fun x=>x.2.1).sum:=by unfold gb En Bn;simp
theorem S9 (rows:List ae) (L:CL):gb (On rows 0) L=(L.map fun x=>x.2.2).sum:=by unfold gb On Bn;simp
abbrev S_ (H:Hp) (kv:Key×V) (x:Str×(Int×Int)):Prop:=kv.1=.inr x.1/\∃ b,kv.2=.ref b/\H b=some (.tup [.int x.2.1,.int x.2.2])
abbrev CV (H:Hp):List (Key×V)->CL->Prop:=Paired (S_ H)
theorem CV.tk {kvs:List (Key×V)} {L:CL} (h:CV H kvs L) (s:Tk H H'):CV H' kvs L:=by
 induction h with
 | nil=>exact .nil
 | cons a _ ih=>obtain ⟨e,b,h1,h2⟩:=a;exact .cons ⟨e,b,h1,s _ _ h2⟩ ih
theorem CV.get {kvs:List (Key×V)} {L:CL} (h:CV H kvs L) (e:Str):(bx kvs (.inr e)=none/\e ∉ L.map (·.1)/\getL L e=(0,0))\/∃ b,bx kvs (.inr e)=some (.ref b)/\e∈L.map (·.1)/\H b=some (.tup [.int (getL L e).1,.int (getL L e).2]):=by
 induction h with
 | nil=>exact .inl ⟨rfl,by simp,rfl⟩
 | @cons kv x ks xs a _ ih=>
  obtain ⟨e1,b,h1,h2⟩:=a
  by_cases hx:x.1=e
  ·refine .inr ⟨b,?_,by simp [hx],?_⟩
   ·rw [bO (by rw [e1,hx]),h1]
   ·have g:getL (x::xs) e=x.2:=by simp [getL,List.find?_cons,hx]
    rw [g];exact h2
  ·have g:getL (x::xs) e=getL xs e:=by simp [getL,List.find?_cons,hx]
   have ne:¬kv.1=Sum.inr e:=fun z=>hx (Sum.inr.inj (e1.symm.trans z))
   rw [g,bP ne]
   rcases ih with ⟨i1,i2,i3⟩ | ⟨b',i1,i2,i3⟩
   ·exact .inl ⟨i1,by simp only [List.map_cons,Qp,not_or];exact ⟨fun z=>hx z.symm,i2⟩,i3⟩
   ·exact .inr ⟨b',i1,by simp only [List.map_cons,Qp];exact .inr i2,i3⟩
theorem Paired.snoc {β:Type} {R:α->β->Prop} {xs:List α} {ys:List β} (h:Paired R xs ys) {x:α} {y:β} (r:R x y):Paired R (xs++[x]) (ys++[y]):=by
 induction h with
 | nil=>exact .cons r .nil
 | cons a _ ih=>exact .cons a ih
theorem CV.put {kvs:List (Key×V)} {L:CL} (h:CV H kvs L) (e:Str) {p:Int×Int} (hb:H b=some (.tup [.int p.1,.int p.2])):CV H (putK kvs (.inr e) (.ref b)) (putL L e p):=by
 rcases h.get e with ⟨h1,h2,_⟩ | ⟨b',h1,h2,h3⟩
 ·rw [L2.dZ _ h1]
  unfold putL
  rw [if_neg fun q=>by
   obtain ⟨x,hx,q⟩:=List.any_eq_true.mp q
   exact h2 (List.mem_map.mpr ⟨x,hx,Qt q⟩)]
  exact Paired.snoc h ⟨rfl,b,rfl,hb⟩
 ·have a1:(kvs.any fun kv=>decide (kv.1=(Sum.inr e:Key)))=true:=by rw [d8,h1];rfl
  have a2:(L.any fun x=>decide (x.1=e))=true:=by
   obtain ⟨x,hx,q⟩:=List.mem_map.mp h2
   exact List.any_eq_true.mpr ⟨x,hx,Qv q⟩
  unfold putK putL
  rw [if_pos a1,if_pos a2]
  clear h1 h2 h3 a1 a2
  induction h with
  | nil=>exact .nil
  | @cons kv x ks xs a _ ih=>
   rw [List.map_cons,List.map_cons]
   refine .cons ?_ ih
   obtain ⟨e1,b1,e2,e3⟩:=a
   by_cases hx:x.1=e
   ·rw [if_pos hx,if_pos (by rw [e1,hx])]
    exact ⟨e1,b,rfl,hb⟩
   ·rw [if_neg hx,if_neg fun z=>hx (Sum.inr.inj (e1.symm.trans z))]
    exact ⟨e1,b1,e2,e3⟩
theorem vG {J:It} {ok:Hp->Prop} {f1 f2:Nat->V} {g:TG} {tb:TS} {D:Ends} (hJ:Cy J ok n f1 f2) (Pv:Nat->St->Hp->Prop) (h0:Pv 0 σ H) (hok:∀ i τ H,i<=n->Pv i τ H->ok H)
  (hs:∀ i σ H T,i < n->Pv i σ H->H T=none->g (.ref T) σ (upd H T (.tup [f1 i,f2 i])) fun σ2 H2=>tb {D with nx:=Pv (i+1),ct:=Pv (i+1),bk:=D.nx} σ2 H2) (hd:∀ σ H,Pv n σ H->D.nx σ H):
  ∃ W:Nat->Nat->St->Hp->Prop,(∃ m,W 0 m σ H)/\∀ i m σ H,W i m σ H->
   (J.stop i H/\D.nx σ H)\/(J.go i H/\∃ N:St->Hp->Prop,(∀ σ' H',N σ' H'->∃ m',m' < m/\W (i+1) m' σ' H')/\∀ x H',J.h_ i H x H'->g x σ H' fun σ2 H2=>tb {D with nx:=N,ct:=N,bk:=D.nx} σ2 H2):=by
 refine ⟨fun i m σ H=>m=n - i/\i<=n/\Pv i σ H,⟨n,by simp,Nat.zero_le _,h0⟩,?_⟩
 rintro i m σ H ⟨rfl,hi,p⟩
 obtain ⟨k1,k2⟩:=hJ H (hok i σ H hi p)
 by_cases aq:i < n
 ·refine .inr ⟨(k1 i aq).1,Pv (i+1),fun σ' H' p'=>⟨n - (i+1),by omega,rfl,aq,p'⟩,fun x H' y=>?_⟩
  obtain ⟨T,rfl,hT,rfl⟩:=(k1 i aq).2 x H' y
  exact hs i σ _ T aq p hT
 ·have e:i=n:=by omega
  subst e
  exact .inl ⟨k2,hd σ H p⟩
theorem tU {K:QZ} {ad:Addr} {kvs:List (List Key×V)} {a b:Nat} {tb:TS} {D:Ends} (Pv:Nat->St->Hp->Prop) (h0:Pv 0 σ H) (hok:∀ i τ H,i<=kvs.length->Pv i τ H->H ad=some (.af o (.dT kvs)))
  (hs:∀ i σ H T c,(h:i < kvs.length)->Pv i σ H->H T=none->bj H c (kvs[i].1.map kV)->tb {D with nx:=Pv (i+1),ct:=Pv (i+1),bk:=D.nx} ((σ.set a (some (.ref c))).set b (some kvs[i].2)) (upd H T (.tup [.ref c,kvs[i].2]))) (hd:∀ σ H,Pv kvs.length σ H->D.nx σ H):
  ∃ W:Nat->Nat->St->Hp->Prop,(∃ m,W 0 m σ H)/\∀ i m σ H,W i m σ H->
   ((BE ad o kvs).stop i H/\D.nx σ H)\/((BE ad o kvs).go i H/\∃ N:St->Hp->Prop,(∀ σ' H',N σ' H'->∃ m',m' < m/\W (i+1) m' σ' H')/\∀ x H',(BE ad o kvs).h_ i H x H'->g2 K a b x σ H' fun σ2 H2=>tb {D with nx:=N,ct:=N,bk:=D.nx} σ2 H2):=by
 refine ⟨fun i m σ H=>m=kvs.length - i/\i<=kvs.length/\Pv i σ H,⟨kvs.length,by simp,Nat.zero_le _,h0⟩,?_⟩
 rintro i m σ H ⟨rfl,hi,p⟩
 have hk:=hok i σ H hi p
 by_cases aq:i < kvs.length
 ·refine .inr ⟨⟨hk,aq⟩,Pv (i+1),fun σ' H' p'=>⟨kvs.length - (i+1),by omega,rfl,aq,p'⟩,fun x H' y=>?_⟩
  obtain ⟨c,kv,ve,rd,T,rfl,hT,rfl⟩:=y
  have e:kv=kvs[i]:=by rw [Qa aq] at ve;exact (QD ve).symm
  subst e
  exact cI aA (hs i σ _ T c aq p hT rd)
 ·have e:i=kvs.length:=by omega
  subst e
  exact .inl ⟨⟨hk,rfl⟩,hd σ H p⟩
theorem jI {rows:List ae} {e:Str} (h:endOf rows e=e):g_ rows (gr rows e)=f_ rows e:=by
 unfold g_ f_ bh
 rw [h,Qn];rfl
theorem Tc {K:QZ} {a b c:Nat} {T U:Addr} {v1 v2 v3:V} {Q:St->Hp->Prop} (h:H T=some (.tup [v1,.ref U])) (h2:H U=some (.tup [v2,v3])) (q:Q (((σ.set a (some v1)).set b (some v2)).set c (some v3)) H):
  yt K 2 (wg (jc a) (wg (g2 K b c) Be)) (.ref T) σ H Q:=
 ⟨T,_,rfl,au.of h,rfl,_,_,rfl,_,_,rfl,cI h2 ⟨rfl,q⟩⟩
theorem Paired.at {β:Type} {R:α->β->Prop} {xs:List α} {ys:List β} (h:Paired R xs ys):∀ i (h1:i < xs.length) (h2:i < ys.length),R xs[i] ys[i]:=by
 induction h with
 | nil=>intro i h1;exact absurd h1 (by simp)
 | cons a _ ih=>
  intro i h1 h2
  cases i with
  | zero=>exact a
  | succ i=>exact ih i (by simpa using h1) (by simpa using h2)
theorem dh.same {H H':Hp} {a:Addr} {y:V} {r:Option V} (g:dh H a y r) (s:aa H H'):dh H' a y r:=by
 rcases g with ⟨kvs,k,h1,h2,h3⟩ | ⟨kvs,k,b,h1,h2,h3,h4⟩
 ·exact .inl ⟨kvs,k,h1.same s,h2,h3⟩
 ·exact .inr ⟨kvs,k,b,h1.same s,h2,h3.same s,h4⟩
theorem mG (elt t1 i1 t2 i2:Expr) (ifs:List Expr) (scope:Scope) (pos:Pos) (it acc:Value) (env:Env):
  compTurn (.ListComp elt [⟨t1,i1,[],0⟩,⟨t2,i2,ifs,0⟩] scope pos) 0 it acc env=(do
   standAt i1.pos
   match <- pyNext it with
   | none=>pure (.done .next)
   | some v=>
    letOwnedTupleGo t1 it v
    assign t1 env v
    let x <- eval i2 env
    standAt i2.pos
    let x <- foldedSetIterable i2 env x
    let _ <- runOwn (.compStart (.ListComp elt [⟨t1,i1,[],0⟩,⟨t2,i2,ifs,0⟩] scope pos) 1 (<- holding [x] (pyIter x)) acc env) env
    again (.compLoop (.ListComp elt [⟨t1,i1,[],0⟩,⟨t2,i2,ifs,0⟩] scope pos) 0 it acc env)):=by rfl
theorem lZ (elt t1 i1 t2 i2:Expr) (ifs:List Expr) (scope:Scope) (pos:Pos) (it acc:Value) (env:Env):
  compTurn (.ListComp elt [⟨t1,i1,[],0⟩,⟨t2,i2,ifs,0⟩] scope pos) 1 it acc env=(do
   standAt i2.pos
   match <- pyNext it with
   | none=>pure (.done .next)
   | some v=>
    letOwnedTupleGo t2 it v
    assign t2 env v
    let mut ok:=true
    for c in ifs do
     if ok then ok <- isTrue c env (eval c env)
    if ok then
     (do let _ <- call (.builtin "list.append") [acc,<- eval elt env])
    again (.compLoop (.ListComp elt [⟨t1,i1,[],0⟩,⟨t2,i2,ifs,0⟩] scope pos) 1 it acc env)):=by rfl
theorem l7 {elt t1 i1 t2 i2:Expr} {pos:Pos} {it acc:Value}
  (h0:codeAny (model prog w) A (.compLoop (.ListComp elt [⟨t1,i1,[],0⟩,⟨t2,i2,ifs,0⟩] scope pos) 1 it acc env) R s)
  (h:wpAny (model prog w) A (pyIter it) (fun Em s'=>codeAny (model prog w) A (.compLoop (.ListComp elt [⟨t1,i1,[],0⟩,⟨t2,i2,ifs,0⟩] scope pos) 1 Em acc env) R s') (notedBy (model prog w) A env fun x s'=>R (.error x) s') s):
  codeAny (model prog w) A (.compStart (.ListComp elt [⟨t1,i1,[],0⟩,⟨t2,i2,ifs,0⟩] scope pos) 1 it acc env) R s:=by
 refine codeAny_of_tree ?_
 show wpAny _ _ ((compStart (.ListComp elt [⟨t1,i1,[],0⟩,⟨t2,i2,ifs,0⟩] scope pos) 1 it acc env).onRaise (fun x=>do noteFrame x env;standAt theWindowsPlace)) _ _ s
 refine wpAny_notedAt ?_
 unfold compStart
 show wpAny _ _ (ask >>=_) _ _ s
 refine QS (wpAny_askSetting (wpAny_ite ?_))
 split
 ·exact QS (QT (QT (And.intro rfl h0)))
 ·refine QS (wpAny_rule ?_)
  show wpAny _ _ (standAt i2.pos >>=_) _ _ s
  exact QS (wpAny_standAt (QS (wpAny_mono h (fun Em s' h'=>QT (And.intro rfl h')) fun _ _ x=>x)))
theorem mC {elt t1 i1 t2 i2:Expr} {pos:Pos} {it acc:Value} (I:Nat->Shared->Prop)
  (turn:∀ n s,I n s->wpAny (model prog w) A (pyNext it) (fun r s₁=>match r with
   | none=>R (.ok .next) s₁
   | some v=>wpAny (model prog w) A (letOwnedTupleGo t2 it v) (fun _ qh=>wpAny (model prog w) A (assign t2 env v) (fun _ s₂=>
     wpAny (model prog w) A (forIn ifs true fun c r=>if r=true then do let ok <- isTrue c env (eval c env);pure (ForInStep.yield ok) else pure (ForInStep.yield r)) (fun ok s₃=>
      if ok=true then wpAny (model prog w) A (eval elt env) (fun x s₄=>
       wpAny (model prog w) A (call (.builtin "list.append") [acc,x]) (fun _ s₅=>∃ m,m < n/\I m s₅) ck s₄) ck s₃
      else ∃ m,m < n/\I m s₃) ck s₂) ck qh) ck s₁) ck s)
  (n:Nat) (h:I n s):
  codeAny (model prog w) A (.compLoop (.ListComp elt [⟨t1,i1,[],0⟩,⟨t2,i2,ifs,0⟩] scope pos) 1 it acc env) R s:=by
 refine codeAny_loop rfl I (fun n s hI=>?_) n h
 show wpAny _ A ((compTurn (.ListComp elt [⟨t1,i1,[],0⟩,⟨t2,i2,ifs,0⟩] scope pos) 1 it acc env).onRaise (fun x=>do noteFrame x env;theTreesLotGoes x)) _ _ s
 refine wpAny_noted ?_
 rw [lZ]
 refine QS (wpAny_standAt (QS (wpAny_mono (turn n s hI) (fun r s₁ h₁=>?_) fun _ _ h'=>h'.elim)))
 cases r with
 | none=>exact QT h₁
 | some v=>
  refine QS (wpAny_mono h₁ (fun _ qh Ay=>?_) fun _ _ h'=>h'.elim)
  refine QS (wpAny_mono Ay (fun _ s₂ h₂=>QS (wpAny_mono h₂ (fun ok s₃ h₃=>?_) fun _ _ h'=>h'.elim)) fun _ _ h'=>h'.elim)
  cases ok with
  | false=>exact QT ⟨rfl,h₃⟩
  | true=>
   exact QS (QS (wpAny_mono h₃ (fun x s₄ h₄=>QS (wpAny_mono h₄ (fun _ s₅ h₅=>QT (QT ⟨rfl,h₅⟩)) fun _ _ h'=>h'.elim)) fun _ _ h'=>h'.elim))
theorem lW {elt t1 i1 t2 i2:Expr} {pos:Pos} {it acc:Value} (I:Nat->Shared->Prop) (hs:∀ x,foldedSetIterable i2 env x=pure x)
  (turn:∀ n s,I n s->wpAny (model prog w) A (pyNext it) (fun r s₁=>match r with
   | none=>R (.ok .next) s₁
   | some v=>wpAny (model prog w) A (letOwnedTupleGo t1 it v) (fun _ qh=>wpAny (model prog w) A (assign t1 env v) (fun _ s₂=>
     wpAny (model prog w) A (eval i2 env) (fun x s₃=>wpAny (model prog w) A (pyIter x) (fun gh s₄=>
      codeAny (model prog w) A (.compStart (.ListComp elt [⟨t1,i1,[],0⟩,⟨t2,i2,ifs,0⟩] scope pos) 1 gh acc env) (fun r s₅=>r=.ok .next/\∃ m,m < n/\I m s₅) s₄) ck s₃) ck s₂) ck qh) ck s₁) ck s)
  (n:Nat) (h:I n s):
  codeAny (model prog w) A (.compLoop (.ListComp elt [⟨t1,i1,[],0⟩,⟨t2,i2,ifs,0⟩] scope pos) 0 it acc env) R s:=by
 refine codeAny_loop rfl I (fun n s hI=>?_) n h
 show wpAny _ A ((compTurn (.ListComp elt [⟨t1,i1,[],0⟩,⟨t2,i2,ifs,0⟩] scope pos) 0 it acc env).onRaise (fun x=>do noteFrame x env;theTreesLotGoes x)) _ _ s
 refine wpAny_noted ?_
 rw [mG]
 refine QS (wpAny_standAt (QS (wpAny_mono (turn n s hI) (fun r s₁ h₁=>?_) fun _ _ h'=>h'.elim)))
 cases r with
 | none=>exact QT h₁
 | some v=>
  refine QS (wpAny_mono h₁ (fun _ qh Ay=>?_) fun _ _ h'=>h'.elim)
  refine QS (wpAny_mono Ay (fun _ s₂ h₂=>?_) fun _ _ h'=>h'.elim)
  refine QS (wpAny_mono h₂ (fun x s₃ h₃=>?_) fun _ _ h'=>h'.elim)
  refine QS (wpAny_standAt ?_)
  rw [hs x]
  refine QS (QT ?_)
  refine QS (wpAny_holding (wpAny_mono h₃ (fun gh s₄ h₄=>?_) fun _ _ h'=>h'.elim))
  refine QS (wpAny_runOwn (codeAny_mono h₄ fun r s₅ hr=>?_))
  obtain ⟨rfl,h₅⟩:=hr
  exact QT ⟨rfl,h₅⟩
def BG (g2:TG) (tc:TC) (te:TE) (D:Addr) (N:St->Hp->Prop) (τ:St):It->Hp->Prop:=fun J H3=>∃ W:Nat->Nat->St->Hp->Prop,(∃ m,W 0 m τ H3)/\∀ i m τ3 H4,W i m τ3 H4->
 (J.stop i H4/\N τ3 H4)\/(J.go i H4/\∃ N2:St->Hp->Prop,(∀ τ' H',N2 τ' H'->∃ m',m' < m/\W (i+1) m' τ' H')/\∀ y H5,J.h_ i H4 y H5->g2 y τ3 H5 fun τ4 H6=>tc τ4 H6 fun b KW=>if b=true then te τ4 KW fun z H7=>∃ xs,H7 D=some (.lst xs)/\xs.length < sizeLine/\N2 τ4 (upd H7 D (.lst (xs++[z]))) else N2 τ4 KW)
theorem qY {Y:Cx} (hc:Y.calm=true) (hx:Y.xe=fun _ _=>False) {elt t1 i1 t2 i2:Expr} {pos:Pos} {g2:TG} {tc:TC} (hg:PG Y t2 g2) (ht:nq Y ifs tc) (he:PE Y elt te)
  {pins:List (Addr×Obj)} {τ:St} {D:Addr} {N:St->Hp->Prop} {gh:Value} {s2:Shared} (hI:yu Y pins τ t2 (BG g2 tc te D N τ) gh s2) {R:Result->Shared->Prop}
  (hR:∀ τ' H' s',Inv Y pins τ' H' s'->N τ' H'->R (.ok .next) s'):
  codeAny (model Y.prog Y.w) Y.A (.compStart (.ListComp elt [⟨t1,i1,[],0⟩,⟨t2,i2,ifs,0⟩] sc pos) 1 gh (.ref D) Y.env) R s2:=by
 obtain ⟨it,fp,tn,J,H2,rfl,I,T,j_,f2,W,⟨m0,w0⟩,turn⟩:=hI
 have lh:∀ {H':Hp},(∀ b∈fp,H' b=none)->∀ b∈fp,lg Y pins H' b:=fun hn b hb=>⟨hn b hb,(f2 b hb).2⟩
 have loop:codeAny (model Y.prog Y.w) Y.A (.compLoop (.ListComp elt [⟨t1,i1,[],0⟩,⟨t2,i2,ifs,0⟩] sc pos) 1 (.ref it) (.ref D) Y.env) R s2:=by
  refine mC (fun n s'=>∃ i τ H',Inv Y pins τ H' s'/\tn i s'.heap/\(∀ b∈fp,H' b=none)/\W i n τ H') ?_ m0 ⟨0,_,_,I,j_,fun b hb=>(f2 b hb).1,w0⟩
  rintro n s3 ⟨i,τ3,H3,I3,um,uo,w3⟩
  rcases turn i n τ3 H3 w3 with ⟨stop,qn⟩ | ⟨go,N2,hN,step⟩
  ·refine aj (T.done Y rfl rfl rfl hc i pins s3 τ3 H3 ck I3 (lh uo) um stop) ?_
   rintro r s4 ⟨hr,I4⟩
   subst hr
   exact hR _ _ _ I4 qn
  ·refine aj (T.item Y rfl rfl rfl hc i pins s3 τ3 H3 ck I3 (lh uo) um go) ?_
   rintro r s4 ⟨u,hr,h4⟩
   subst hr
   refine aj h4 ?_
   rintro _ s5 ⟨x,H5,I5,r5,y5,lj,Aq⟩
   have Ar:=I5.pinned (lh Aq) (T.obj _ _ lj)
   have g5:=hg _ s5 τ3 H5 x u _ Ar r5 (step x H5 y5)
   rw [hx] at g5
   refine aj g5 ?_
   rintro _ s6 ⟨τ6,H6,I6,q6⟩
   have t6:=ht _ s6 τ6 H6 _ I6 q6
   rw [hx] at t6
   refine aj t6 ?_
   rintro ok s7 ⟨H7,I7,q7⟩
   have fin:∀ (s9:Shared) (H9:Hp),Inv Y (pins++Bf fp s5.heap) τ6 H9 s9->N2 τ6 H9->∃ m,m < n/\∃ i τ H',Inv Y pins τ H' s9/\tn i s9.heap/\(∀ b∈fp,H' b=none)/\W i m τ H':=fun s9 H9 I9 n9=>by
    obtain ⟨m',hm,w8⟩:=hN τ6 H9 n9
    refine ⟨m',hm,i+1,τ6,H9,I9.Bg,T.keep _ _ _ lj fun b hb o e=>(I9.pin (b,o) (List.mem_append_right _ (List.mem_append_right _ (bX hb e)))).1,fun b hb=>?_,w8⟩
    obtain ⟨o,e,d⟩:=T.obj _ _ lj b hb
    exact (I9.pin (b,o) (List.mem_append_right _ (List.mem_append_right _ (bX hb e)))).2.1
   cases ok with
   | false=>
    rw [if_neg (by decide)] at q7 ⊢
    exact fin _ _ I7 q7
   | true=>
    rw [if_pos rfl] at q7 ⊢
    have e7:=he _ s7 τ6 H7 _ I7 q7
    rw [hx] at e7
    refine aj e7 ?_
    rintro yv s8 ⟨y,H8,I8,r8,xs,Gu,hz,n8⟩
    have a8:=cP (X:=Y) _ s8 τ6 H8 (.ref D) [y] (.ref D) [yv] (fun v H'=>N2 τ6 H') I8 rfl (.cons r8 .nil) ⟨_,xs,y,rfl,rfl,Gu,hz,n8⟩
    rw [hx] at a8
    exact aj a8 fun _ s9 ⟨_,H9,I9,_,n9⟩=>fin _ _ I9 n9
 exact l7 loop (T.self _ 0 _ _ _ j_ loop)
def Td (own:List Str) (idx:List Nat) (wi:TI) (g:TG) (uz:TI) (g2:TG) (tc:TC) (te:TE):TE:=fun σ H Q=>wi σ H fun J H1=>∀ D,H1 D=none->∃ W:Nat->Nat->St->Hp->Prop,(∃ m,W 0 m (nk own idx σ) (upd H1 D (.lst [])))/\∀ i m τ H,W i m τ H->
 (J.stop i H/\Q (.ref D) H)\/(J.go i H/\∃ N:St->Hp->Prop,(∀ τ' H',N τ' H'->∃ m',m' < m/\W (i+1) m' τ' H')/\∀ x H',J.h_ i H x H'->g x τ H' fun τ2 H2=>uz τ2 H2 (BG g2 tc te D N τ2))
section
variable {t1 i1 t2 i2 elt:Expr} {tc:TC} {pos:Pos} {wi uz:TI} {g g2:TG}
theorem rJ (S:ju X.env.scope X.N sc own idx N') (c1:∀ x c,cl.lookup x=some c->X.env.cells.lookup x=some c) (c2:∀ y∈sc.names,y.2=.free->∃ c,cl.lookup y.1=some c) (hc:X.calm=true)
  (hg:∀ cl C s3 H0 fp pn,PG (bu X N' sc cl C s3 H0 fp pn) t1 g) (EI:∀ cl C s3 H0 fp pn,PI (bu X N' sc cl C s3 H0 fp pn) t2 i2 uz) (CM:∀ cl C s3 H0 fp pn,PG (bu X N' sc cl C s3 H0 fp pn) t2 g2) (G6:∀ cl C s3 H0 fp pn,nq (bu X N' sc cl C s3 H0 fp pn) ifs tc) (he:∀ cl C s3 H0 fp pn,PE (bu X N' sc cl C s3 H0 fp pn) elt te)
  (p_:∀ env x,foldedSetIterable i2 env x=pure x)
  {pins:List (Addr×Obj)} {σ:St} {Q:VK} {gh:Value} {s2:Shared} {RR:Value->Addr->Result->Shared->Prop} {E:Value->Shared->Prop}
  (hI:yu X pins σ t1 (fun J H1=>∀ D,H1 D=none->∃ W:Nat->Nat->St->Hp->Prop,(∃ m,W 0 m (nk own idx σ) (upd H1 D (.lst [])))/\∀ i m τ H,W i m τ H->
   (J.stop i H/\Q (.ref D) H)\/(J.go i H/\∃ N:St->Hp->Prop,(∀ τ' H',N τ' H'->∃ m',m' < m/\W (i+1) m' τ' H')/\∀ x H',J.h_ i H x H'->g x τ H' fun τ2 H2=>uz τ2 H2 (BG g2 tc te D N τ2))) gh s2)
  (Az:∀ D C H' s',Inv X pins σ H' s'->Q (.ref D) H'->(H' C=none/\C≠X.env.locals/\X.s₀.heap.objs.size<=C/\(∀ x c,X.env.cells.lookup x=some c->c≠C)/\(∀ p∈X.pn++pins,p.1≠C)/\∃ m,s'.heap.Ns C m)->RR (.ref D) C (.ok .next) s'):
  wpAny (model X.prog X.w) X.A (newList []) (fun acc s₃=>wpAny (model X.prog X.w) X.A (newFunctionEnv sc X.env.globals cl [] X.env.qual none .none (some X.env)) (fun cenv s₄=>
   codeAny (model X.prog X.w) X.A (.compStart (.ListComp elt [⟨t1,i1,[],0⟩,⟨t2,i2,ifs,0⟩] sc pos) 0 gh acc {cenv with scope:=relabel sc X.env}) (RR acc cenv.locals) s₄) E s₃) E s2:=by
 obtain ⟨it,fp,tn,J,H2,rfl,I,T,j_,f2,body⟩:=hI
 refine wpAny_newObj_type (wpAny_newFunctionEnv S.cell (by intro y hy;simp at hy) (fun h4 ns sb=>?_) S.kind)
 dsimp only at ns sb ⊢
 have hob:rf.isFreed=false:=rfl
 have fr:H2 s2.heap.objs.size=none:=I.hok.fresh (Qy _)
 obtain ⟨W,⟨m0,w0⟩,turn⟩:=body _ fr
 have xy:∀ b∈fp,∃ o,s2.heap.get? b=some o:=fun b hb=>let ⟨o,e,_⟩:=T.obj _ _ j_ b hb;⟨o,e⟩
 have ya:∀ b o,(s2.heap.push rf).get? b=some o->h4.get? b=some o:=fun b o e=>(sb.2 b (Nat.ne_of_lt (Qz e))).trans (Qc _ e)
 have Gh:∀ (H:Hp) (h:Heap),h.get? s2.heap.objs.size=some rf->bf X.prog X.w H h s2.heap.objs.size (.lst []):=fun H h e=>⟨Nat.zero_le _,[],_,.nil,e⟩
 have I4:Inv (bu X N' sc cl (s2.heap.push rf).objs.size {s2 with heap:=s2.heap.push rf} (upd H2 s2.heap.objs.size (.lst [])) fp (X.pn++pins)) [] (nk own idx σ) (upd H2 s2.heap.objs.size (.lst [])) {s2 with heap:=h4,toks:=s2.toks+([]:List (Str×Value)).length}:=
  qD S I f2 xy c1 c2 hob Gh ns ya
 generalize hY:bu X N' sc cl (s2.heap.push rf).objs.size {s2 with heap:=s2.heap.push rf} (upd H2 s2.heap.objs.size (.lst [])) fp (X.pn++pins)=Y at I4
 have Gi:PG Y t1 g:=by rw [<- hY];exact hg _ _ _ _ _ _
 have Te:PI Y t2 i2 uz:=by rw [<- hY];exact EI _ _ _ _ _ _
 have Tf:PG Y t2 g2:=by rw [<- hY];exact CM _ _ _ _ _ _
 have Gk:PE Y elt te:=by rw [<- hY];exact he _ _ _ _ _ _
 have Gj:nq Y ifs tc:=by rw [<- hY];exact G6 _ _ _ _ _ _
 have pY:Y.prog=X.prog:=by rw [<- hY]
 have wY:Y.w=X.w:=by rw [<- hY]
 have KY:Y.K=X.K:=by rw [<- hY]
 have AY:Y.A=X.A:=by rw [<- hY]
 have cY:Y.calm=true:=by rw [<- hY];exact hc
 have xY:Y.xe=fun _ _=>False:=by rw [<- hY]
 have eY:Y.env=compEnvC sc cl (s2.heap.push rf).objs.size X.env:=by rw [<- hY]
 have Gm:Y.ex=fp:=by rw [<- hY]
 have Gn:Y.fs=fm X.stack:=by rw [<- hY]
 have Gp:Y.pn=X.pn++pins:=by rw [<- hY]
 have lh:∀ {H':Hp},(∀ b∈fp,H' b=none)->∀ b∈fp,lg Y [] H' b:=fun hn b hb=>by
  obtain ⟨f0,f1,f3,f4,f5,f6⟩:=f2 b hb
  refine ⟨hn b hb,?_,?_,.inl (by rw [Gm];exact hb),fun x c e=>?_,fun p hp=>?_⟩
  ·obtain ⟨o,e⟩:=xy b hb
   have:=Qz e
   rw [eY]
   show b≠(s2.heap.push rf).objs.size
   rw [Heap.size_push];exact Nat.ne_of_lt (Nat.lt_succ_of_lt this)
  ·rw [Gn]
   intro z
   rcases Qp.mp (I.Bc b z) with z | z
   ·exact f1 z
   ·exact f3 z
  ·rw [eY] at e
   exact f5 x c (c1 x c e)
  ·rw [Gp,List.append_nil] at hp
   exact f6 p hp
 have Cs:tn 0 h4:=T.keep _ _ _ j_ fun b hb o e=>ya b o (Qc _ e)
 have Gq:∀ b∈fp,upd H2 s2.heap.objs.size (.lst []) b=none:=fun b hb=>by
  obtain ⟨o,e⟩:=xy b hb
  rw [aF (Nat.ne_of_lt (Qz e))]
  exact (f2 b hb).1
 have loop:codeAny (model X.prog X.w) X.A (.compLoop (.ListComp elt [⟨t1,i1,[],0⟩,⟨t2,i2,ifs,0⟩] sc pos) 0 (.ref it) (.ref s2.heap.objs.size) (compEnvC sc cl (s2.heap.push rf).objs.size X.env))
   (RR (.ref s2.heap.objs.size) (s2.heap.push rf).objs.size) {s2 with heap:=h4,toks:=s2.toks+([]:List (Str×Value)).length}:=by
  refine lW (fun n s'=>∃ i τ H',Inv Y [] τ H' s'/\tn i s'.heap/\(∀ b∈fp,H' b=none)/\W i n τ H') (p_ _) ?_ m0 ⟨0,_,_,I4,Cs,Gq,w0⟩
  rintro n s3 ⟨i,τ3,H3,I3,um,uo,w3⟩
  rcases turn i n τ3 H3 w3 with ⟨stop,qn⟩ | ⟨go,N,hN,step⟩
  ·have h:=T.done Y pY wY KY cY i [] s3 τ3 H3 ck I3 (lh uo) um stop
   rw [AY] at h
   refine aj h ?_
   rintro r s4 ⟨hr,Gr⟩
   subst hr
   have J4:=Gr
   rw [<- hY] at J4
   obtain ⟨b1,b2⟩:=nD I f2 hob J4
   exact Az _ _ _ _ b1 qn b2
  ·have h:=T.item Y pY wY KY cY i [] s3 τ3 H3 ck I3 (lh uo) um go
   rw [AY] at h
   refine aj h ?_
   rintro r s4 ⟨u,hr,Gs⟩
   subst hr
   refine aj Gs ?_
   rintro _ s5 ⟨x,H5,I5,r5,y5,lj,Aq⟩
   have Ar:=I5.pinned (lh Aq) (T.obj _ _ lj)
   have g5:=Gi _ s5 τ3 H5 x u _ Ar r5 (step x H5 y5)
   rw [pY,wY,AY,xY,eY] at g5
   refine aj g5 ?_
   rintro _ s6 ⟨τ6,H6,I6,q6⟩
   have t6:=Te _ s6 τ6 H6 _ I6 q6
   rw [pY,wY,AY,xY,eY] at t6
   refine aj t6 fun v7 s7 h7=>aj h7 fun gh s8 h8=>?_
   have c8:=qY (t1:=t1) (i1:=i1) (i2:=i2) (sc:=sc) (pos:=pos) cY xY Tf Gj Gk h8 (R:=fun r KZ=>r=.ok .next/\∃ m,m < n/\∃ i τ H',Inv Y [] τ H' KZ/\tn i KZ.heap/\(∀ b∈fp,H' b=none)/\W i m τ H') (fun τ8 H8 s9 I8 n8=>by
    obtain ⟨m',hm,w8⟩:=hN τ8 H8 n8
    refine ⟨rfl,m',hm,i+1,τ8,H8,I8.Bg,T.keep _ _ _ lj fun b hb o e=>(I8.pin (b,o) (List.mem_append_right _ (List.mem_append_right _ (bX hb e)))).1,fun b hb=>?_,w8⟩
    obtain ⟨o,e,d⟩:=T.obj _ _ lj b hb
    exact (I8.pin (b,o) (List.mem_append_right _ (List.mem_append_right _ (bX hb e)))).2.1)
   rw [pY,wY,AY,eY] at c8
   exact c8
 exact codeAny_compStart_list loop (T.self _ 0 _ _ _ Cs loop)
theorem K0 {py spos:Pos} (S:ju X.env.scope X.N sc own idx N') (hc:X.calm=true) (hi:SI X t1 i1 wi)
  (hg:∀ cl C s3 H0 fp pn,SG (bu X N' sc cl C s3 H0 fp pn) t1 g) (EI:∀ cl C s3 H0 fp pn,SI (bu X N' sc cl C s3 H0 fp pn) t2 i2 uz) (CM:∀ cl C s3 H0 fp pn,SG (bu X N' sc cl C s3 H0 fp pn) t2 g2) (G6:∀ cl C s3 H0 fp pn,SC (bu X N' sc cl C s3 H0 fp pn) ifs tc) (he:∀ cl C s3 H0 fp pn,SE (bu X N' sc cl C s3 H0 fp pn) elt te)
  (hN:X.N.Nodup) (Ct:X.N[i]? =some y) (hy:X.env.scope.names.lookup y=some .local)
  (yb:swapsWith (.ListComp elt [⟨t1,i1,[],0⟩,⟨t2,i2,ifs,0⟩] sc pos) (some (.Name y py)) spos.line X.env=pure true:=by rfl)
  (p_:∀ env x,foldedSetIterable i2 env x=pure x:=by intro _ _;rfl) (hs:∀ x,foldedSetIterable i1 X.env x=pure x:=by intro _;rfl):SS X (.Assign [.Name y py] (.ListComp elt [⟨t1,i1,[],0⟩,⟨t2,i2,ifs,0⟩] sc pos) spos) (wj (Td own idx wi g uz g2 tc te) (jc i)):=by
 constructor
 intro pins s σ H D I h
 obtain ⟨cl,jj,c1,c2⟩:=S.closure I.ok
 rw [exec_Assign_Name_used _ _ _ _ yb]
 refine QS (wpAny_standAt (QS ?_))
 show wpAny _ X.A (do let _ <- comprehension (.ListComp elt [⟨t1,i1,[],0⟩,⟨t2,i2,ifs,0⟩] sc pos) sc X.env _ (newList []) false (eval i1 X.env) (some (assign (.Name y py) X.env))) _ _ s
 refine QS (wpAny_mono (wpAny_comprehension_free (use:=some (assign (.Name y py) X.env)) (Q:=fun _ s'=>SP X pins D .next s') rfl hs jj S.kind S.names
  (aj (hi.h pins s σ H _ I h) fun v s1 h1=>aj h1 fun gh s2 h2=>?_)) (fun _ s' hq=>QT (QT hq)) fun _ _ e=>e)
 refine rJ (Q:=fun x H1=>jc i x σ H1 D.nx) (pins:=pins) (σ:=σ) (RR:=fun acc C=>compPost (model X.prog X.w) X.A X.xe (some (assign (.Name y py) X.env)) (fun _ s'=>SP X pins D .next s') acc C) S c1 c2 hc (fun q r s t u v=>(hg q r s t u v).h) (fun q r s t u v=>(EI q r s t u v).h) (fun q r s t u v=>(CM q r s t u v).h) (fun q r s t u v=>(G6 q r s t u v).h) (fun q r s t u v=>(he q r s t u v).h) p_ h2 ?_
 intro D' C H' s' I' q ⟨a1,a2,a3,a4,a5,m,a6⟩
 show wpAny _ X.A (assign (.Name y py) X.env (.ref D')) _ _ _
 refine wpAny_assign_Name (gU (v:=.ref D') I' hN Ct (.inl hy) rfl (fun s'' Gv ⟨a,sb,ha⟩=>?_) (.inr hy))
 have Gw:C≠a:=by
  rcases ha with z | z
  ·rw [z];exact a2
  ·exact Ne.symm (a4 _ _ z)
 refine ⟨m,a6.sameBut sb Gw,fun h' ya=>⟨_,H',Gv.turned (t':=s''.toks) (fun b o hb e=>(ya.2 b hb).trans e) a1 a2 (.inr a3) a4 a5,q⟩⟩
end
def Tg (te:TE):TI:=fun σ H R=>te σ H fun x H1=>∃ a kvs o,x=.ref a/\H1 a=some (.af o (.dK kvs))/\R (EA a o kvs) H1
theorem qO (he:SE X e te):SI X tg e (Tg te):=by
 constructor
 intro pins s σ H R I h
 refine aj (he.h pins s σ H _ I h) ?_
 rintro v s1 ⟨x,H1,I1,r1,a,kvs,o,ex,hH,q⟩
 subst ex
 cases r1
 obtain ⟨e,z,uy,vs,rel,ob,es,ep,h1,h2,hd,h4⟩:=(show bf X.prog X.w _ s1.heap a (.af o (.dK kvs)) from I1.hok a _ hH)
 rw [e] at h1;cases h1
 refine wpAny_pyIter_dict (knd:=cj X.prog X.w) (kvs:=vs) (ep:=ep) uy ⟨o,es,e,h2,hd,h4⟩ ?_
 have hl:=rel.len
 refine ⟨s1.heap.objs.size,[s1.heap.objs.size],_,_,_,rfl,I1.kept (t':=s1.toks) fun b o e=>Qc _ e,mT (kvs:=kvs) (a:=a) (o:=o) ⟨es,hd⟩,by rw [hl];exact ⟨_,Qd _ rfl,rfl,rfl⟩,fun b hb=>?_,q⟩
 have e:b=s1.heap.objs.size:=by simpa using hb
 subst e
 exact I1.pq (Qy _) (I1.hok.fresh (Qy _))
section
variable {d:Addr} {od:Obj} {es:Array DictEntry} {Q:Option Value->Shared->Prop}
theorem vS {en:DictEntry} (a0:s.heap.IsValIter it d i n ep) (ip:s.heap.get? d=some od) (jw:od.data=.dict es ep) (hn:es.size=n) (hx:es[i]? =some en)
  (hQ:∀ h',h'.IsValIter it d (i+1) n ep->Heap.SameBut it s.heap h'->Q (some en.val) {s with heap:=h'}):wpAny (model P w) A (pyNext (.ref it)) Q E s:=by
 obtain ⟨o,ho,hc,hd⟩:=id a0
 have own:Builtin.Dict_items.ownsTuple "dict_valueiterator"=false:=by decide
 have jm:¬(Value.ref d==Value.none)=true:=fun hz=>Bool.false_ne_true hz
 unfold pyNext
 refine QS (wpAny_attempt (wpAny_callSpecial?_slot (name:=Str.ofString "__next__") a0.typeIs F.slot_dict_valueiterator_next (wpAny_call_entry F.slot_dict_valueiterator_next a0.typeIs F.entry_dict_valueiterator_next ?_ (F.args_dict_valueiterator_next_1 _))))
 refine QS (QT (QS (QS ?_)))
 first
  | refine QS (wpAny_typeNameOfWhole_valiter a0.typeIs (QT (QS (wpAny_fieldsOf ho hd ?_))))
  | refine QS (wpAny_typeNameOf_valiter a0.typeIs (QT (QS (wpAny_fieldsOf ho hd ?_))))
 simp only [own,Bool.false_eq_true,if_false]
 show wpAny _ _ (if (Value.ref d==Value.none)=true then _ else _) _ _ s
 rw [if_neg jm]
 refine QS (QT (QS (wpAny_dictEntries ip jw ?_)))
 rw [if_neg (by rw [hn];simp)]
 refine QS (QT (QS (wpAny_dictEpoch ip jw ?_)))
 rw [if_neg (by simp)]
 refine QT ?_
 simp only [show ¬((i:Int) < 0) by omega,if_false,Int.toNat_natCast,hx]
 refine QS ?_
 first
  | refine QS (wpAny_typeNameOfWhole_valiter a0.typeIs (QT (QS (wpAny_isOneOf_valiter a0.typeIs ?_))))
  | refine QS (wpAny_typeNameOf_valiter a0.typeIs (QT (QS (wpAny_isOneOf_valiter a0.typeIs ?_))))
 show wpAny _ _ (setField (.ref it) 1 (rawInt ((i:Int)+1)) >>=_) _ _ s
 refine QS (wpAny_setField ho hd (by simp) ?_)
 have b1:(s.heap.update it (Obj.mapFields (·.setIfInBounds 1 (rawInt ((i:Int)+1))))).IsValIter it d (i+1) n ep:=⟨_,Heap.get?_update_self _ ho (Obj.isFreed_of_fields (Obj.data_mapFields hd _)),(Obj.cls_mapFields ..).trans hc,by rw [Obj.data_mapFields hd];simp [rawInt]⟩
 have c1:Heap.SameBut it s.heap (s.heap.update it (Obj.mapFields (·.setIfInBounds 1 (rawInt ((i:Int)+1))))):=Heap.SameBut.update ..
 generalize s.heap.update it (Obj.mapFields (·.setIfInBounds 1 (rawInt ((i:Int)+1))))=k1 at b1 c1
 refine QS (wpAny_holding (QS (wpAny_isOneOf_valiter (s:={s with heap:=k1}) b1.typeIs (QS (wpAny_isOneOf_valiter (s:={s with heap:=k1}) b1.typeIs ?_)))))
 show wpAny _ _ (pure en.val) _ _ _
 exact QT (QT ⟨_,rfl,QT (hQ _ b1 c1)⟩)
theorem y8 (hh:A.handled=none) (a0:s.heap.IsValIter it d i n ep) (ip:s.heap.get? d=some od) (jw:od.data=.dict es ep) (hn:es.size=n) (hx:n<=i)
  (hQ:∀ h',Heap.ExtBut it s.heap h'->Q none {s with heap:=h'}):wpAny (model P w) A (pyNext (.ref it)) Q E s:=by
 obtain ⟨o,ho,hc,hd⟩:=id a0
 have own:Builtin.Dict_items.ownsTuple "dict_valueiterator"=false:=by decide
 have jm:¬(Value.ref d==Value.none)=true:=fun hz=>Bool.false_ne_true hz
 have G4:es.size<=i:=by omega
 unfold pyNext
 refine QS (wpAny_attempt (wpAny_callSpecial?_slot (name:=Str.ofString "__next__") a0.typeIs F.slot_dict_valueiterator_next (wpAny_call_entry F.slot_dict_valueiterator_next a0.typeIs F.entry_dict_valueiterator_next ?_ (F.args_dict_valueiterator_next_1 _))))
 refine QS (QT (QS (QS ?_)))
 first
  | refine QS (wpAny_typeNameOfWhole_valiter a0.typeIs (QT (QS (wpAny_fieldsOf ho hd ?_))))
  | refine QS (wpAny_typeNameOf_valiter a0.typeIs (QT (QS (wpAny_fieldsOf ho hd ?_))))
 simp only [own,Bool.false_eq_true,if_false]
 show wpAny _ _ (if (Value.ref d==Value.none)=true then _ else _) _ _ s
 rw [if_neg jm]
 refine QS (QT (QS (wpAny_dictEntries ip jw ?_)))
 rw [if_neg (by rw [hn];simp)]
 refine QS (QT (QS (wpAny_dictEpoch ip jw ?_)))
 rw [if_neg (by simp)]
 refine QT ?_
 simp only [show ¬((i:Int) < 0) by omega,if_false,Int.toNat_natCast,Array.getElem?_eq_none G4]
 refine QS ?_
 first
  | refine QS (wpAny_typeNameOfWhole_valiter a0.typeIs (QT ?_))
  | refine QS (wpAny_typeNameOf_valiter a0.typeIs (QT ?_))
 show wpAny _ _ (setField (.ref it) 0 .none >>=_) _ _ s
 refine QS (wpAny_setField ho hd (by simp) ?_)
 show wpAny _ _ (newExc (.type "StopIteration") [] >>=_) _ _ _
 refine QS ?_
 simp only [newExc,newTuple]
 refine QS (wpAny_newObj_type (QS (m:=firstArgMember _ _) (wpAny_of_eq (a:=Value.none) (by first | rfl | (simp only [firstArgMember];rfl)) (wpAny_newObj_type ?_ (by size_fits)))) (by size_fits))
 simp only [raiseNew]
 refine QS (wpAny_handled ?_)
 rw [show A.in1.handled=none from hh]
 refine QS (QT (wpAny_throw ?_))
 refine QS (wpAny_isInstance (T:="StopIteration") (b:=true) ⟨_,Qd _ rfl,rfl⟩ isSubtype_stop ?_)
 exact QT (hQ _ (((Heap.SameBut.update ..).extBut.push _).push _))
end
def BH (kvs:List (List Key×V)) (i:Nat):V:=((kvs[i]?).map fun kv=>kv.2).getD .ao
def G7 (a:Addr) (o:Obj) (kvs:List (List Key×V)):It:=⟨fun i H=>H a=some (.af o (.dT kvs))/\i < kvs.length,fun i H x H'=>H'=H/\x=BH kvs i,fun i H=>H a=some (.af o (.dT kvs))/\kvs.length=i⟩
theorem wD (kvs:List (List Key×V)):rg (G7 a o kvs) (fun H=>H a=some (.af o (.dT kvs))) kvs.length (BH kvs):=fun H ok=>⟨fun i hi=>⟨⟨ok,hi⟩,fun x H' h=>h⟩,ok,rfl⟩
theorem tR {K:QZ} {kvs:List (List Key×V)} (nv:∃ es,o.data=.dict es ep):Turn P w K tg (G7 a o kvs) [it] it (fun i h=>h.IsValIter it a i kvs.length ep) where
 mem:=by simp
 obj:=fun i h st b hb=>by
  have e:b=it:=by simpa using hb
  subst e
  obtain ⟨o,e,c,d⟩:=st
  exact ⟨o,e,fun v z=>by rw [d] at z;cases z⟩
 keep:=fun i h h' st k=>let ⟨o,e,r⟩:=st;⟨o,k it (by simp) o e,r⟩
 item:=by
  intro X hP hw hK hc i pins s σ H E I hf st hg
  subst hP hw hK
  obtain ⟨hq,hi⟩:=hg
  obtain ⟨e,z,hd,xs,rel,ob,es,mz,h1,h2,h3,h4,h5⟩:=(show bf X.prog X.w H s.heap a (.af o (.dT kvs)) from I.hok a _ hq)
  obtain ⟨es',cz⟩:=nv
  rw [e] at h1;cases h1
  rw [cz] at h3;injection h3 with ii ik
  subst ii ik
  obtain ⟨q,jk,kj,AL⟩:=xA rel (Qa hi)
  have hl:=Paired.length rel
  have hsz:es'.size=kvs.length:=by rw [<- Array.length_toList,h4,Ql];exact hl.symm
  have hx:es'[i]? =some (entryOfKey (tupleKind (cj X.prog X.w)) q):=by rw [<- Array.getElem?_toList,h4,Qq,jk];rfl
  obtain ⟨f0,f1,f2,f3,f4,f5⟩:=hf it (by simp)
  refine vS (n:=kvs.length) st e cz hsz hx fun h' st' sb=>?_
  have I1:Inv X pins σ H {s with heap:=h'}:=I.turned (t':=s.toks) (fun b o hb e=>(sb.2 b hb).trans e) f0 f1 f3 f4 f5
  obtain ⟨o3,e3,c3,d3⟩:=id st'
  refine ⟨_,rfl,jX (s:={s with heap:=h'}) e3 c3 d3 (by decide) ⟨BH kvs i,H,I1,?_,⟨rfl,rfl⟩,st',fun b hb=>(hf b hb).1⟩⟩
  unfold BH
  rw [Qa hi]
  exact AL
 done:=by
  intro X hP hw hK hc i pins s σ H E I hf st hg
  subst hP hw hK
  obtain ⟨hq,hi⟩:=hg
  obtain ⟨e,z,hd,xs,rel,ob,es,mz,h1,h2,h3,h4,h5⟩:=(show bf X.prog X.w H s.heap a (.af o (.dT kvs)) from I.hok a _ hq)
  obtain ⟨es',cz⟩:=nv
  rw [e] at h1;cases h1
  rw [cz] at h3;injection h3 with ii ik
  subst ii ik
  have hl:=Paired.length rel
  have hsz:es'.size=kvs.length:=by rw [<- Array.length_toList,h4,Ql];exact hl.symm
  obtain ⟨f0,f1,f2,f3,f4,f5⟩:=hf it (by simp)
  exact y8 (n:=kvs.length) (I.ok.hd hc) st e cz hsz (by omega) fun h' eb=>⟨rfl,I.turned (t':=s.toks) (fun b o hb e=>eb b o hb e) f0 f1 f3 f4 f5⟩
 self:=fun _ _ _ _ _ st h=>wpAny_pyIter_valiter st h
section
variable {o:Expr}
theorem lA {v d:Addr} {od:Obj} {es:Array DictEntry} (hv:s.heap.IsValuesView v d) (ip:s.heap.get? d=some od) (jw:od.data=.dict es ep)
  (hQ:Q (.ref s.heap.objs.size) {s with heap:=s.heap.push {cls:=.type "dict_valueiterator",data:=.fields #[.ref d,.int 0 0,.int es.size 0,.int ep 0]}}):wpAny (model P w) A (pyIter (.ref v)) Q E s:=by
 obtain ⟨ov,BF,S0,G5⟩:=id hv
 have own:Builtin.Dict_items.ownsTuple "dict_valueiterator"=false:=by decide
 refine wpAny_pyIter_slot hv.typeIs F.slot_dict_values_iter (wpAny_call_entry F.slot_dict_values_iter hv.typeIs F.entry_dict_values_iter ?_ (F.args_dict_values_iter_1 _))
 unfold Builtin.«dict_values.__iter__»
 refine QS (QT (QS ?_))
 unfold Builtin.Dict_items.dictOf
 refine QS (wpAny_field BF G5 (x:=.ref d) rfl (QT (QS ?_)))
 unfold Builtin.Dict_items.newIterator
 refine QS (wpAny_dictEntries ip jw (QS (wpAny_dictEpoch ip jw ?_)))
 simp only [own,Bool.false_eq_true,if_false]
 refine wpAny_newObj_type (QT ⟨_,rfl,"dict_valueiterator",_,⟨_,Qd _ rfl,rfl⟩,F.slot_dict_valueiterator_next.lookup,?_⟩)
 simpa [rawInt] using hQ
theorem lV (d:Addr) (hd:(d==sysModules)=false):
  MeetsIn P w (Builtin.«dict.values» ⟨[.ref d],[]⟩) (fun _ R s=>s.TypeIs (.ref d) "dict"/\R (.ok (.ret (.ref s.heap.objs.size))) {s with heap:=s.heap.push {cls:=.type "dict_values",data:=.fields #[.ref d]}}):=
 .of_wp fun A R s ⟨hm,h⟩=>by
  refine QS ?_
  unfold Builtin.Dict.noArgs
  refine QS (wpAny_notOrdered_dict hm ?_)
  show wpAny _ _ (pure d) _ _ s
  refine QT ?_
  show wpAny _ _ (Builtin.Dict.showsAll d >>=_) _ _ s
  unfold Builtin.Dict.showsAll
  rw [if_neg (fun hz=>Bool.false_ne_true (hd.symm.trans hz))]
  exact QS (QT (QS (wpAny_newObj_type (QT ⟨_,rfl,h⟩))))
def Ti (te:TE):TI:=fun σ H R=>te σ H fun x H1=>∃ a kvs o,x=.ref a/\H1 a=some (.af o (.dT kvs))/\R (G7 a o kvs) H1
theorem xN (ho:SE X o to) (qc:attributeBase o "values" X.env (eval o X.env)=eval o X.env:=by rfl) (qd:(apos.endLine==cpos.line)=true:=by rfl):
  SI X tg (.Call (.Attribute o "values" apos) [] [] cpos) (Ti to):=by
 constructor
 intro pins s σ H R I h
 refine wpAny_Call_method0_late qc qd (aj (ho.h pins s σ H _ I h) ?_)
 rintro v s1 ⟨x,H1,I1,r1,a,kvs,o,ex,hH,q⟩
 subst ex
 cases r1
 obtain ⟨e,z,uy,xs,rel,ob,es,ep,h1,h2,hd,h4,h5⟩:=(show bf X.prog X.w _ s1.heap a (.af o (.dT kvs)) from I1.hok a _ hH)
 rw [e] at h1;cases h1
 have hl:=Paired.length rel
 have hsz:es.size=kvs.length:=by rw [<- Array.length_toList,h4,Ql];exact hl.symm
 have hT:s1.TypeIs (.ref a) "dict":=⟨o,e,h2.1⟩
 refine ⟨"dict","dict.values",PySem.F.plainAttrs_dict,PySem.F.slot_dict_values,PySem.F.type_dict_values,hT,fun b hb=>by cases hb;exact ⟨o,e,h2.2.1⟩,Calls.callWith_builtin rfl (PySem.evalArgs_none ?_)⟩
 refine call_meetsIn PySem.F.slot_dict_values hT PySem.F.entry_dict_values (PySem.F.args_dict_values_1 _) (lV a uy) ⟨hT,?_⟩
 have I3:Inv X pins σ H1 {s1 with heap:=s1.heap.push {cls:=.type "dict_values",data:=.fields #[.ref a]}}:=I1.kept (t':=s1.toks) fun b o e=>Qc _ e
 refine lA (es:=es) (ep:=ep) ⟨_,Qd _ rfl,rfl,rfl⟩ (Qc _ e) hd ?_
 refine ⟨_,[(s1.heap.push {cls:=.type "dict_values",data:=.fields #[.ref a]}).objs.size],_,_,_,rfl,I3.kept (t':=s1.toks) fun b o e=>Qc _ e,tR (kvs:=kvs) (a:=a) (o:=o) ⟨es,hd⟩,by rw [<- hsz];exact ⟨_,Qd _ rfl,rfl,rfl⟩,fun b hb=>?_,q⟩
 have e:b=(s1.heap.push {cls:=.type "dict_values",data:=.fields #[.ref a]}).objs.size:=by simpa using hb
 subst e
 exact I3.pq (Qy _) (I3.hok.fresh (Qy _))
end
theorem kH:isSubtype (.type "range_iterator") (.type "reversed")=pure false:=by rw [isSubtype_type];kernel_rfl
abbrev BI (n:Int):Obj:={cls:=.type "range_iterator",data:=.fields #[rawInt (n - 1),rawInt n,rawInt (-1)]}
theorem l8 {r:Addr} {m:Int} {t u v:Tok} (hr:IsRange s.heap r 0 m 1 t u v) (hm:0<=m) (hn:m < 2^62) (h:Q (.ref s.heap.objs.size) {s with heap:=s.heap.push (BI m)}):
  wpAny (model P w) A (call (.builtin "range.__reversed__") [.ref r]) Q E s:=by
 have hT:s.TypeIs (.ref r) "range":=⟨_,hr,rfl⟩
 have hsz:Builtin.Range.rangeSize 0 m 1=m:=by
  unfold Builtin.Range.rangeSize
  rw [if_pos (by omega)]
  split<;>omega
 refine wpAny_call_entry F.slot_range_reversed hT F.entry_range_reversed ?_ (F.args_range_reversed_1 _)
 unfold Builtin.«range.__reversed__»
 refine QS (wpAny_of_eq (a:=Value.ref r) rfl ?_)
 refine QS ?_
 unfold Builtin.Range.rangeFields
 have ai:∀ (i:Int) (t:Tok),asInt? (.int i t)=pure (some i):=fun i t=>by unfold asInt?;first | rfl | kernel_rfl
 refine QS (wpAny_field hr rfl (x:=.int 0 t) rfl (QS (wpAny_of_eq (ai _ _) ?_)))
 refine QS (wpAny_field hr rfl (x:=.int m u) rfl (QS (wpAny_of_eq (ai _ _) ?_)))
 refine QS (wpAny_field hr rfl (x:=.int 1 v) rfl (QS (wpAny_of_eq (ai _ _) (QT ?_))))
 have sm:(Builtin.Range.rangeFitsLong 0&&Builtin.Range.rangeFitsLong m&&Builtin.Range.rangeFitsLong 1&&Builtin.Range.rangeFitsLong (-1)&&Builtin.Range.rangeFitsLong (0 - 1)&&Builtin.Range.rangeFitsLong m)=true:=by
  have e:Builtin.Range.rangeFitsLong m=true:=by
   unfold Builtin.Range.rangeFitsLong
   simp only [Bool.and_eq_true,decide_eq_true_eq]
   omega
  rw [e];decide
 simp only [hsz,sm,Bool.not_true,Bool.false_eq_true,if_false,if_true]
 refine QS (wpAny_newObj_type (QT ⟨_,rfl,?_⟩))
 have e1:(0:Int)+(m - 1)*1=m - 1:=by omega
 rw [e1]
 exact h
theorem iK {r:Addr} {t u v:Tok} {Q₁:Value->Shared->Prop} (hr:IsRange s.heap r 0 (n:Int) 1 t u v) (hn:(n:Int) < 2^62) (h:Q₁ (.ref s.heap.objs.size) {s with heap:=s.heap.push (BI n)}):
  codeAny (model P w) A (.call (.builtin "reversed.__new__") ⟨[.type "reversed",.ref r],[]⟩) (wants Q₁ E) s:=by
 have hT:s.TypeIs (.ref r) "range":=⟨_,hr,rfl⟩
 have Bk:¬(Value.builtin "range.__reversed__"==Value.none)=true:=fun hz=>Bool.false_ne_true hz
 refine codeAny_of_tree ?_
 show wpAny _ A.in1 (do checkBuiltinCall "reversed.__new__" ⟨[.type "reversed",.ref r],[]⟩;again (.builtin "reversed.__new__" ⟨[.type "reversed",.ref r],[]⟩)) _ _ s
 refine QS (wpAny_of_eq (F.newCall_reversed_1 _) (QT ⟨plainId_quiet F.plain_reversed_new _,codeAny_builtin F.entry_reversed_new ?_⟩))
 rw [Around.under_plainId F.plain_reversed_new _]
 unfold Builtin.«reversed.__new__»
 refine QS (wpAny_of_eq (newClass_reversed _) ?_)
 try dsimp only
 refine QS (wpAny_of_eq (a:=()) (by first | rfl | kernel_rfl) (QS (wpAny_of_eq (a:=()) (by first | rfl | kernel_rfl) ?_)))
 try dsimp only
 refine QS (wpAny_specialOf hT F.slot_range_reversed.lookup ?_)
 try dsimp only
 refine QS (wpAny_of_eq (F.slot_range_reversed.bind _) ?_)
 show wpAny _ _ (if (Value.builtin "range.__reversed__"==Value.none)=true then _ else _) _ _ _
 rw [if_neg Bk]
 refine QS (wpAny_rule ?_)
 refine QS (m:=runValue (.call (.builtin "range.__reversed__") ⟨[.ref r],[]⟩)) (show wpAny _ _ (call (.builtin "range.__reversed__") [.ref r]) _ _ _ from l8 hr (by omega) hn ?_)
 first
  | exact QT h
  | exact QS (QT (QT h))
theorem iR {r:Addr} {t u v:Tok} (hr:IsRange s.heap r 0 (n:Int) 1 t u v) (hn:(n:Int) < 2^62) (h:Q (.ref s.heap.objs.size) {s with heap:=s.heap.push (BI n)}):
  wpAny (model P w) A (call (.type "reversed") [.ref r]) Q E s:=by
 refine callType_other (U:="range_iterator") (Q₁:=fun obj s₁=>obj=.ref s.heap.objs.size/\s₁={s with heap:=s.heap.push (BI n)}) (by decide+kernel) F.create_reversed ⟨_,_,F.mro_reversed⟩ F.made_reversed kH (F.typeCall_reversed_1 _) (iK hr hn ⟨rfl,rfl⟩) ?_
 rintro obj s₁ ⟨rfl,rfl⟩
 exact ⟨⟨_,Qd _ rfl,rfl⟩,h⟩
section
variable {a:Expr} {ta:TA} {p p2 pos Tj:Pos}
def To (ta:TA):TI:=fun σ H R=>ta σ H fun vs H1=>∃ n:Nat,vs=[.int (n:Int)]/\(n:Int) < 2^62/\R (GV ((n:Int) - 1) (-1) n) H1
theorem mS (CM:Gl X "reversed") (K1:X.mg "reversed"=none) (hg:Gl X "range") (hm:X.mg "range"=none) (ha:SA X [a] ta) (hs:starEach [a] X.env=[(false,eval a X.env)]:=by rfl)
  (K2:starEach [Expr.Call (.Name "range" p) [a] [] pos] X.env=[(false,eval (.Call (.Name "range" p) [a] [] pos) X.env)]:=by rfl):SI X tg (.Call (.Name "reversed" p2) [.Call (.Name "range" p) [a] [] pos] [] Tj) (To ta):=by
 constructor
 intro pins s σ H R I h
 refine Call_ (hX I CM K1 boot_reversed (PyProof.Rows.callWith_type1 ?_ K2 rfl))
 rw [K2]
 refine Calls.spliced_cons (Call_ (hX I hg hm boot_range (PyProof.Rows.callWith_type1 (aj (ha.h pos pins s σ H _ I h) fun us s1 ⟨vs,H1,I1,r1,n,ev,hn,q⟩=>?_) hs rfl)))
 subst ev
 obtain ⟨u,rfl,ru⟩:=r1.one
 obtain ⟨t,rfl⟩:=ru
 refine call_range_1 (Calls.spliced_nil ?_)
 refine iR (n:=n) (IsRange.new ..) hn ?_
 have I2:Inv X pins σ H1 {s1 with heap:=s1.heap.push {cls:=.type "range",data:=.fields #[.int 0 s1.toks,.int (n:Int) t,.int 1 (s1.toks+1)]},toks:=s1.toks+1+1}:=I1.kept fun b o e=>Qc _ e
 have I3:Inv X pins σ H1 {s1 with heap:=(s1.heap.push {cls:=.type "range",data:=.fields #[.int 0 s1.toks,.int (n:Int) t,.int 1 (s1.toks+1)]}).push (BI n),toks:=s1.toks+1+1}:=I2.kept (t':=s1.toks+1+1) fun b o e=>Qc _ e
 have st:IsRangeIter ((s1.heap.push {cls:=.type "range",data:=.fields #[.int 0 s1.toks,.int (n:Int) t,.int 1 (s1.toks+1)]}).push (BI n)) (s1.heap.push {cls:=.type "range",data:=.fields #[.int 0 s1.toks,.int (n:Int) t,.int 1 (s1.toks+1)]}).objs.size ((n:Int) - 1+((0:Nat):Int)*(-1)) ((n:Int) - ((0:Nat):Int)) (-1):=by
  have e1:(n:Int) - 1+((0:Nat):Int)*(-1)=(n:Int) - 1:=by simp
  have e2:(n:Int) - ((0:Nat):Int)=n:=by simp
  unfold IsRangeIter
  rw [e1,e2]
  exact Qd _ rfl
 refine wpAny_pyIter_rangeiter st ?_
 refine ⟨_,[(s1.heap.push {cls:=.type "range",data:=.fields #[.int 0 s1.toks,.int (n:Int) t,.int 1 (s1.toks+1)]}).objs.size],_,_,H1,rfl,I3,oE _ ((n:Int) - 1) (-1) n,st,fun b hb=>?_,q⟩
 have e:b=(s1.heap.push {cls:=.type "range",data:=.fields #[.int 0 s1.toks,.int (n:Int) t,.int 1 (s1.toks+1)]}).objs.size:=by simpa using hb
 subst e
 exact I2.pq (Qy _) (I2.hok.fresh (Qy _))
end
def K3 (K:QZ):List V->Hp->VK->Prop:=fun xs H Q=>match xs with
 | [.ref p]=>∃ ns:List Int,au K H p (ns.map V.int)/\Q (.int ns.sum) H
 | _=>False
theorem eQ (K:QZ) (hc:X.calm=true) (h:X.K=K:=by rfl):iu X (.builtin "sum") (K3 K):=by
 subst h
 intro pins s σ H xs us Q I r h
 unfold K3 at h
 split at h
 ·next p=>
  obtain ⟨ns,hq,q⟩:=h
  obtain ⟨u,rfl,ru⟩:=r.one
  cases ru
  obtain ⟨its,rv,pl,hz⟩:=I.tuple hq
  have hl:=rv.length
  rw [Ql] at hl
  have aq:p < s.heap.objs.size:=by obtain ⟨_,e,_⟩:=pl;exact Qz e
  have pt:s.heap.IsTuple p its.toArray:=pl
  refine call_sum_walkAnyS (wpAny_pyIter_tuple pt ?_)
  refine ⟨s.heap.objs.size,[s.heap.objs.size,p],[s.heap.objs.size],_,its.toArray.size,_,_,fun i=>ns.getD i 0,rfl,(Walks.tuple (A:=X.A.in1) (I.ok.hd hc) _ p (Nat.ne_of_lt aq) _).toS,
   ⟨⟨_,Qd _ rfl,rfl,rfl⟩,pt.push _⟩,fun b hb=>?_,fun i v hP=>?_,fun s' t' mv=>?_⟩
  ·simp only [Qp,QA,or_false] at hb
   show b < (s.heap.push _).objs.size
   rw [Heap.size_push]
   rcases hb with rfl | rfl
   ·exact Nat.lt_succ_self _
   ·exact Nat.lt_succ_of_lt aq
  ·have ou:its[i]? =some v:=by simpa using hP
   have hi:i < its.length:=(List.getElem?_eq_some_iff.mp ou).1
   obtain ⟨u,h1,h2⟩:=rv.get (i:=i) (x:=.int (ns.getD i 0)) (by rw [Qq,Qa (by omega),Qb,Qa (by omega)];rfl)
   rw [ou] at h1
   cases h1
   exact h2
  ·have e:PySem.preSum (fun i=>ns.getD i 0) its.toArray.size=ns.sum:=by
    rw [List.size_toArray,<- hl,fU ns ns.length (Qy _),Qo]
   rw [e]
   obtain ⟨Gf,g',d',Bv,F6⟩:=s'
   obtain ⟨m1,m2,m3,m4,m5⟩:=mv
   simp only at m1 m2 m3 m4 m5
   subst m2 m3 m4
   refine ⟨.int ns.sum,H,I.kept (t':=Bv) fun b o e=>m1 b o (fun hm=>?_) (Qc _ e),⟨_,rfl⟩,q⟩
   rw [List.mem_singleton.mp hm] at e
   exact Nat.lt_irrefl _ (Qz e)
 ·exact h.elim
def K4 (K:QZ):List V->Hp->VK->Prop:=fun xs H Q=>match xs with
 | [.ref p]=>∃ ns:List Int,ak K H p (ns.map V.int)/\ns≠[]/\∀ m,m∈ns->(∀ x∈ns,x<=m)->Q (.int m) H
 | _=>False
theorem vU (K:QZ) (hc:X.calm=true) (h:X.K=K:=by rfl):iu X (.builtin "max") (K4 K):=by
 subst h
 intro pins s σ H xs us Q I r h
 unfold K4 at h
 split at h
 ·next p=>
  obtain ⟨ns,hq,jl,q⟩:=h
  obtain ⟨u,rfl,ru⟩:=r.one
  cases ru
  obtain ⟨its,rv,pl,hz⟩:=I.list hq
  have hl:=rv.length
  rw [Ql] at hl
  have Tp:0 < ns.length:=List.length_pos_iff.mpr jl
  have aq:p < s.heap.objs.size:=by obtain ⟨_,e,_⟩:=pl.isList;exact Qz e
  have get:∀ (i:Nat) (v:Value),its.toArray[i]? =some v->∃ t,v=.int (ns.getD i 0) t:=fun i v hP=>by
   have ou:its[i]? =some v:=by simpa using hP
   have hi:i < its.length:=(List.getElem?_eq_some_iff.mp ou).1
   obtain ⟨u,h1,h2⟩:=rv.get (i:=i) (x:=.int (ns.getD i 0)) (by rw [Qq,Qa (by omega),Qb,Qa (by omega)];rfl)
   rw [ou] at h1
   cases h1
   exact h2
  refine call_max_walk (wpAny_pyIter_list pl.isList ?_)
  refine ⟨s.heap.objs.size,[s.heap.objs.size,p],[s.heap.objs.size],its.toArray.size,_,_,fun i j=>decide (ns.getD i 0 > ns.getD j 0),rfl,Walks.list (A:=X.A.in1) (I.ok.hd hc) _ p (Nat.ne_of_lt aq) _,
   ⟨⟨_,Qd _ rfl,rfl,rfl⟩,pl.isList.push _⟩,fun b hb=>?_,by simp;omega,fun i j vi vj s' Q' E' hi hj hQ=>?_,fun v h' tk hP hk=>?_⟩
  ·simp only [Qp,QA,or_false] at hb
   show b < (s.heap.push _).objs.size
   rw [Heap.size_push]
   rcases hb with rfl | rfl
   ·exact Nat.lt_succ_self _
   ·exact Nat.lt_succ_of_lt aq
  ·obtain ⟨t,rfl⟩:=get i vi hi
   obtain ⟨t',rfl⟩:=get j vj hj
   exact PySem.P.gt_int hQ
  ·obtain ⟨t,rfl⟩:=get _ v hP
   obtain ⟨g1,g2⟩:=argBest_gt (fun i=>ns.getD i 0) (its.toArray.size - 1)
   have hm:argBest (fun i j=>decide (ns.getD i 0 > ns.getD j 0)) (its.toArray.size - 1) < ns.length:=by simp at g1 ⊢;omega
   refine ⟨.int _,H,I.kept (t':=tk) fun b o e=>hk b o (fun hm=>?_) (Qc _ e),⟨_,rfl⟩,q _ ?_ fun x hx=>?_⟩
   ·rw [List.mem_singleton.mp hm] at e
    exact Nat.lt_irrefl _ (Qz e)
   ·rw [Qb,Qa hm];exact Qj hm
   ·obtain ⟨i,hi,rfl⟩:=Qi hx
    have:=g2 i (by simp;omega)
    simp only [Qb,Qa hi,Option.getD_some] at this
    simpa [Qb] using this
 ·exact h.elim
structure RL (H:Hp) (us:List V) (rs:List (List (List Str))):Prop where
 len:us.length=rs.length
 at_:∀ i (h:i < us.length) (h':i < rs.length),∃ c xs,us[i]=.ref c/\H c=some (.tup xs)/\SV H xs rs[i]
theorem RL.same {H H':Hp} {us:List V} {rs:List (List (List Str))} (h:RL H us rs) (s:aa H H'):RL H' us rs:=⟨h.len,fun i a b=>let ⟨c,xs,h1,h2,h3⟩:=h.at_ i a b;⟨c,xs,h1,s _ _ h2,h3.same s⟩⟩
theorem RL.nil:RL H [] []:=⟨rfl,fun i h=>absurd h (by simp)⟩
theorem RL.snoc {us:List V} (h:RL H us rs) {c:Addr} {xs:List V} {r:List (List Str)} (e:H c=some (.tup xs)) (sv:SV H xs r):RL H (us++[.ref c]) (rs++[r]):=by
 have hl:=h.len
 refine ⟨by simp [hl],fun i h1 h2=>?_⟩
 by_cases aq:i < us.length
 ·rw [Qe aq,Qe (by omega)]
  exact h.at_ i aq (by omega)
 ·have e':i=us.length:=by simp at h1;omega
  subst e'
  rw [Qf (Qy _),Qf (by omega)]
  simp only [Nat.sub_self,hl,List.getElem_cons_zero]
  exact ⟨c,xs,rfl,e,sv⟩
theorem RL.keep {H H':Hp} {us:List V} {rs:List (List (List Str))} (h:RL H us rs) (s:Tk H H') (s2:∀ b ys,bj H b ys->bj H' b ys):RL H' us rs:=⟨h.len,fun i a b=>let ⟨c,xs,h1,h2,h3⟩:=h.at_ i a b;⟨c,xs,h1,s _ _ h2,h3.keep s2⟩⟩
theorem zS (I:Inv X pins σ H s) {xs ys:List V} {r:List (List Str)} (h1:H a=some (.tup xs)) (h2:H b=some (.tup ys)) (v1:SV H xs r) (v2:SV H ys r) (hu:A.units+4 < cLine):SeqAt.EqAt A s (.ref a) (.ref b) true:=by
 by_cases nu:a=b
 ·subst nu;exact SeqAt.EqAt.same _
 ·obtain ⟨i1,r1,p1,_⟩:=I.tuple (au.of h1)
  obtain ⟨i2,r2,p2,_⟩:=I.tuple (au.of h2)
  have l1:=r1.length
  have l2:=r2.length
  have k1:=v1.len
  have k2:=v2.len
  have:=SeqAt.RcAt.tuples (A:=A) (e:=fun _=>true) p1 p2 (by omega) fun j g1 g2=>by
   have j1:j < xs.length:=by simp at g1;omega
   have j2:j < ys.length:=by simp at g2;omega
   obtain ⟨c,e1,m1⟩:=v1.at_ j j1 (by omega)
   obtain ⟨c',e2,m2⟩:=v2.at_ j j2 (by omega)
   obtain ⟨w1,f1,q1⟩:=r1.get (Qa j1)
   obtain ⟨w2,f2,q2⟩:=r2.get (Qa j2)
   have n1:i1.toArray[j]=w1:=by rw [Qa (by simpa using g1)] at f1;simpa using f1
   have n2:i2.toArray[j]=w2:=by rw [Qa (by simpa using g2)] at f2;simpa using f2
   rw [n1,n2]
   rw [e1] at q1
   rw [e2] at q2
   cases q1
   cases q2
   have:=oK I m1 m2 (A:=A.in1) (by rw [Around.in1_units];omega)
   simpa using this
  have e:((List.range (min i1.toArray.size i2.toArray.size)).all (fun _=>true)&&i1.toArray.size==i2.toArray.size)=true:=by simp;omega
  rw [e] at this
  exact SeqAt.EqAt.of_refs nu this
def Tq:R2:=fun x y H Q=>∃ a b us vs rs,x=.ref a/\y=.ref b/\H a=some (.lst us)/\H b=some (.lst vs)/\RL H us rs/\RL H vs rs/\Q (.bl false) H
theorem i4 (hu:X.A.units+20 < cLine):cg X (compareOp .NotEq) Tq:=by
 intro pins s σ H x y v u Q I rx ry h
 obtain ⟨a,b,us,vs,rs,rfl,rfl,ha,hb,s1,s2,q⟩:=h
 cases rx
 cases ry
 obtain ⟨i1,r1,p1,_⟩:=I.list (ak.of ha)
 obtain ⟨i2,r2,p2,_⟩:=I.list (ak.of hb)
 have l1:=r1.length
 have l2:=r2.length
 have h1:=s1.len
 have h2:=s2.len
 have:=SeqAt.RcNeAt.lists (A:=X.A) (e:=fun _=>true) p1.isList p2.isList (by simp;omega) (by omega) (fun j g1 g2=>by
   have k1:j < us.length:=by simp at g1;omega
   have k2:j < vs.length:=by simp at g2;omega
   obtain ⟨c,xs,e1,m1,t1⟩:=s1.at_ j k1 (by omega)
   obtain ⟨c',GL,e2,m2,t2⟩:=s2.at_ j k2 (by omega)
   obtain ⟨w1,f1,q1⟩:=r1.get (Qa k1)
   obtain ⟨w2,f2,q2⟩:=r2.get (Qa k2)
   have n1:i1.toArray[j]=w1:=by rw [Qa (by simpa using g1)] at f1;simpa using f1
   have n2:i2.toArray[j]=w2:=by rw [Qa (by simpa using g2)] at f2;simpa using f2
   rw [n1,n2]
   rw [e1] at q1
   rw [e2] at q2
   cases q1
   cases q2
   exact zS I m1 m2 t1 t2 (A:=X.A.in1) (by rw [Around.in1_units];omega))
 refine this _ _ _ _ ⟨.bl false,H,I,?_,q⟩
 simp [RelV]
abbrev Road:=List (List Str)
def gm (rows:List ae):Nat->Str->List (Road×Str)
 | 0,e=>[([],e)]
 | n+1,e=>(bh rows e).flatMap fun m=>(gm rows n m.2).map fun q=>(m.1::q.1,q.2)
def allR (rows:List ae) (n:Nat) (e:Str):List Road:=(gm rows n e).map (·.1)
theorem bK (rows:List ae) (e:Str):allR rows 0 e=[[]]:=rfl
theorem mY (rows:List ae) (n:Nat) (e:Str):gm rows (n+1) e=(bh rows e).flatMap fun m=>(gm rows n m.2).map fun q=>(m.1::q.1,q.2):=rfl
theorem bU (rows:List ae) (n:Nat) (e:Str):allR rows (n+1) e=(bh rows e).flatMap fun m=>(allR rows n m.2).map (m.1::·):=by
 unfold allR
 rw [mY,List.map_flatMap]
 congr 1
 funext m
 simp [Qn,QB]
theorem fW {α β:Type} (f:α->List β):∀ l:List α,(l.flatMap f).length=(l.map fun x=>(f x).length).sum
 | []=>rfl
 | x::l=>by rw [List.flatMap_cons,Qk,List.map_cons,List.sum_cons,fW f l]
theorem kP (rows:List ae):∀ (n:Nat) (e:Str),(Bn rows n e).1+(Bn rows n e).2=((allR rows n e).length:Int)
 | 0,e=>rfl
 | n+1,e=>by
  rw [bU,fW]
  show (List.map _ _).sum+(List.map _ _).sum=_
  rw [oP]
  induction bh rows e with
  | nil=>rfl
  | cons m ms ih=>
   simp only [List.map_cons,List.sum_cons,Ql] at ih ⊢
   have h:=kP rows n m.2
   have h2:(d_ m.1 (Bn rows n m.2)).1+(d_ m.1 (Bn rows n m.2)).2=(Bn rows n m.2).1+(Bn rows n m.2).2:=by
    unfold d_;split<;>(try omega)
   rw [ih,h2,h]
   omega
theorem pO (rows:List ae) (m:Nat):∀ (n:Nat) (e:Str),gm rows (n+m) e=(gm rows n e).flatMap fun q=>(gm rows m q.2).map fun r=>(q.1++r.1,r.2)
 | 0,e=>by simp [gm]
 | n+1,e=>by
  rw [show n+1+m=(n+m)+1 by omega]
  show (bh rows e).flatMap _=((bh rows e).flatMap _).flatMap _
  rw [List.flatMap_assoc]
  congr 1
  funext s
  rw [pO rows m n s.2,List.map_flatMap,List.flatMap_map]
  congr 1
  funext q
  simp [Qn,QB]
section
variable {xs:List V} {rows:List ae}
theorem RT.CN (rt:RT H a xs rows ns ws) (hw:∀ z∈ws,Wd z) {e:Str} (he:fu rows ns e) {m:List Str×Str} (hm:m∈bh rows e):L2.ja rows e m.1=some m.2/\fu rows ns m.2:=by
 have nd:=rt.SQ hw he.1
 have h1:L2.ja rows e m.1=some m.2:=by
  unfold L2.ja
  have e1:(f_ rows e).map (·.1)=((bh rows e).map (·.1)).map fun m=>m.map (Sum.inr:Str->Key):=by simp [f_,Qn,QB]
  rw [e1] at nd
  have CO:((bh rows e).map (·.1)).Nodup:=(List.pairwise_map.mp nd).imp fun h z=>h (congrArg _ z)
  clear e1 nd
  revert hm CO
  generalize bh rows e=L
  intro hm CO
  induction L with
  | nil=>cases hm
  | cons x l ih=>
   rw [List.map_cons,List.nodup_cons] at CO
   rcases Qp.mp hm with rfl | hm
   ·simp [List.find?_cons]
   ·have ne:¬x.1=m.1:=fun z=>CO.1 (by rw [z];exact List.mem_map.mpr ⟨m,hm,rfl⟩)
    rw [List.find?_cons,Qw ne]
    exact ih hm CO.2
 exact ⟨h1,rt.ja hw he h1⟩
theorem RT.G8 (rt:RT H a xs rows ns ws) (hw:∀ z∈ws,Wd z):∀ (n:Nat) (e:Str),fu rows ns e->∀ q∈gm rows n e,vd rows e q.1=some q.2/\fu rows ns q.2
 | 0,e,he,q,hq=>by
  rw [List.mem_singleton.mp hq];exact ⟨rfl,he⟩
 | n+1,e,he,q,hq=>by
  obtain ⟨m,hm,hq⟩:=List.mem_flatMap.mp hq
  obtain ⟨r,hr,rfl⟩:=List.mem_map.mp hq
  obtain ⟨h1,h2⟩:=rt.CN hw he hm
  obtain ⟨h3,h4⟩:=RT.G8 rt hw n m.2 h2 r hr
  refine ⟨?_,h4⟩
  show (match L2.ja rows e m.1 with | some e'=>vd rows e' r.1 | none=>none)=_
  rw [h1];exact h3
end
theorem mL (rows:List ae):∀ (n:Nat) (e:Str),allR rows (n+1) e≠[]->allR rows n e≠[]
 | 0,e,_=>by rw [bK];simp
 | n+1,e,h=>by
  rw [bU] at h ⊢
  intro h2
  apply h
  rw [List.flatMap_eq_nil_iff] at h2 ⊢
  intro m hm
  have:=h2 m hm
  rw [List.map_eq_nil_iff] at this ⊢
  by_cases hz:allR rows (n+1) m.2=[]
  ·exact hz
  ·exact absurd this (mL rows n m.2 hz)
theorem wX (rows:List ae) (n:Nat) (e:Str):decide (allR rows (n+1) e≠[])=(bh rows e).any fun m=>decide (allR rows n m.2≠[]):=by
 rw [bU,Bool.eq_iff_iff,List.any_eq_true]
 simp only [decide_eq_true_eq]
 constructor
 ·intro h
  have:∃ m∈bh rows e,(allR rows n m.2).map (m.1::·)≠[]:=Classical.byContradiction fun hc=>h (List.flatMap_eq_nil_iff.mpr fun m hm=>Classical.byContradiction fun hz=>hc ⟨m,hm,hz⟩)
  obtain ⟨m,hm,hz⟩:=this
  exact ⟨m,hm,fun z=>hz (by rw [z];rfl)⟩
 ·rintro ⟨m,hm,hz⟩ h
  have:=List.flatMap_eq_nil_iff.mp h m hm
  rw [List.map_eq_nil_iff] at this
  exact hz this
def rq (rows:List ae) (j:Nat) (q:Road×Str):List (Road×Str):=((bh rows q.2).filter fun m=>decide (allR rows j m.2≠[])).map fun m=>(q.1++[m.1],m.2)
def spread (rows:List ae) (j:Nat) (F:List (Road×Str)):List Road:=F.flatMap fun q=>(allR rows j q.2).map (q.1++·)
theorem qQ (rows:List ae) (j:Nat) (F:List (Road×Str)):spread rows j (F.flatMap (rq rows j))=spread rows (j+1) F:=by
 unfold spread
 rw [List.flatMap_assoc]
 congr 1
 funext q
 unfold rq
 rw [bU,List.map_flatMap,List.flatMap_map]
 induction bh rows q.2 with
 | nil=>rfl
 | cons m l ih=>
  rw [List.filter_cons,List.flatMap_cons]
  by_cases h:allR rows j m.2=[]
  ·rw [if_neg (by simp [h]),ih,h];rfl
  ·rw [if_pos (by simp [h]),List.flatMap_cons,ih]
   congr 1
   simp [Qn,QB]
theorem pV (rows:List ae) (F:List (Road×Str)):spread rows 0 F=F.map (·.1):=by
 unfold spread
 induction F with
 | nil=>rfl
 | cons q F ih=>rw [List.flatMap_cons,List.map_cons,ih,bK];simp
theorem lJ (rows:List ae) (j:Nat):∀ (F:List (Road×Str)),(∀ q∈F,allR rows j q.2≠[])->F.length<=(spread rows j F).length
 | [],_=>Nat.zero_le _
 | q::F,h=>by
  have ih:=lJ rows j F fun x hx=>h x (Qh _ hx)
  have h1:=h q List.mem_cons_self
  have h2:0 < (allR rows j q.2).length:=List.length_pos_iff.mpr h1
  unfold spread at ih ⊢
  rw [List.flatMap_cons,Qk,Ql,List.length_cons]
  omega
theorem wN (rows:List ae) (j:Nat) (F:List (Road×Str)):∀ q∈F.flatMap (rq rows j),allR rows j q.2≠[]:=fun q hq=>by
 obtain ⟨p,hp,hq⟩:=List.mem_flatMap.mp hq
 obtain ⟨m,hm,rfl⟩:=List.mem_map.mp hq
 exact Qt (List.mem_filter.mp hm).2
theorem Tr {J:It} {ok:Hp->Prop} {item:Nat->V} {g:TG} {uz:TI} {g2:TG} {tc:TC} {τ0:St} {D:Addr} {Q:Hp->Prop} (hJ:rg J ok n item) (Pv:Nat->St->Hp->Prop) (h0:Pv 0 τ0 H0)
  (hok:∀ i τ H,i<=n->Pv i τ H->ok H)
  (hs:∀ i τ H,i < n->Pv i τ H->g (item i) τ H fun τ2 H2=>uz τ2 H2 (BG g2 tc te D (Pv (i+1)) τ2))
  (hd:∀ τ H,Pv n τ H->Q H):∃ W:Nat->Nat->St->Hp->Prop,(∃ m,W 0 m τ0 H0)/\∀ i m τ H,W i m τ H->
   (J.stop i H/\Q H)\/(J.go i H/\∃ N:St->Hp->Prop,(∀ τ' H',N τ' H'->∃ m',m' < m/\W (i+1) m' τ' H')/\∀ x H',J.h_ i H x H'->g x τ H' fun τ2 H2=>uz τ2 H2 (BG g2 tc te D N τ2)):=by
 refine ⟨fun i m τ H=>m=n - i/\i<=n/\Pv i τ H,⟨n,by simp,Nat.zero_le _,h0⟩,?_⟩
 rintro i m τ H ⟨rfl,hi,p⟩
 obtain ⟨k1,k2⟩:=hJ H (hok i τ H hi p)
 by_cases aq:i < n
 ·refine .inr ⟨(k1 i aq).1,Pv (i+1),fun σ' H' p'=>⟨n - (i+1),by omega,rfl,aq,p'⟩,fun x H' y=>?_⟩
  obtain ⟨rfl,rfl⟩:=(k1 i aq).2 x H' y
  exact hs i τ _ aq p
 ·have e:i=n:=by omega
  subst e
  exact .inl ⟨k2,hd τ H p⟩
theorem u3 {K:QZ} {ad:Addr} {kvs:List (List Key×V)} {a b:Nat} {tc:TC} {τ0:St} {D:Addr} {N:St->Hp->Prop} (Pv:Nat->St->Hp->Prop) (h0:Pv 0 τ0 H0) (hok:∀ i τ H,i<=kvs.length->Pv i τ H->H ad=some (.af o (.dT kvs)))
  (hs:∀ i τ H T c,(h:i < kvs.length)->Pv i τ H->H T=none->bj H c (kvs[i].1.map kV)->tc ((τ.set a (some (.ref c))).set b (some kvs[i].2)) (upd H T (.tup [.ref c,kvs[i].2])) fun q H3=>if q=true then te ((τ.set a (some (.ref c))).set b (some kvs[i].2)) H3 fun z H7=>∃ xs,H7 D=some (.lst xs)/\xs.length < sizeLine/\Pv (i+1) ((τ.set a (some (.ref c))).set b (some kvs[i].2)) (upd H7 D (.lst (xs++[z]))) else Pv (i+1) ((τ.set a (some (.ref c))).set b (some kvs[i].2)) H3)
  (hd:∀ τ H,Pv kvs.length τ H->N τ H):BG (g2 K a b) tc te D N τ0 (BE ad o kvs) H0:=by
 refine ⟨fun i m τ H=>m=kvs.length - i/\i<=kvs.length/\Pv i τ H,⟨kvs.length,by simp,Nat.zero_le _,h0⟩,?_⟩
 rintro i m τ H ⟨rfl,hi,p⟩
 have hk:=hok i τ H hi p
 by_cases aq:i < kvs.length
 ·refine .inr ⟨⟨hk,aq⟩,Pv (i+1),fun σ' H' p'=>⟨kvs.length - (i+1),by omega,rfl,aq,p'⟩,fun x H' y=>?_⟩
  obtain ⟨c,kv,ve,rd,T,rfl,hT,rfl⟩:=y
  have e:kv=kvs[i]:=by rw [Qa aq] at ve;exact (QD ve).symm
  subst e
  exact cI aA (hs i τ _ T c aq p hT rd)
 ·have e:i=kvs.length:=by omega
  subst e
  exact .inl ⟨⟨hk,rfl⟩,hd τ H p⟩
structure FL (H:Hp) (us:List V) (F:List (Road×Str)):Prop where
 len:us.length=F.length
 at_:∀ i (h:i < us.length) (h':i < F.length),∃ c b xs,us[i]=.ref c/\H c=some (.tup [.ref b,.str F[i].2])/\H b=some (.tup xs)/\SV H xs F[i].1
theorem FL.keep {H H':Hp} {us:List V} {F:List (Road×Str)} (h:FL H us F) (s:Tk H H') (s2:∀ b ys,bj H b ys->bj H' b ys):FL H' us F:=⟨h.len,fun i a b=>let ⟨c,d,xs,h1,h2,h3,h4⟩:=h.at_ i a b;⟨c,d,xs,h1,s _ _ h2,s _ _ h3,h4.keep s2⟩⟩
theorem FL.same {H H':Hp} {us:List V} {F:List (Road×Str)} (h:FL H us F) (s:aa H H'):FL H' us F:=h.keep s.ts fun _ _ r=>r.same s
theorem FL.nil:FL H [] []:=⟨rfl,fun i h=>absurd h (by simp)⟩
theorem FL.snoc {us:List V} {F:List (Road×Str)} (h:FL H us F) {c:Addr} {xs:List V} {q:Road×Str} (e1:H c=some (.tup [.ref b,.str q.2])) (e2:H b=some (.tup xs)) (sv:SV H xs q.1):FL H (us++[.ref c]) (F++[q]):=by
 have hl:=h.len
 refine ⟨by simp [hl],fun i h1 h2=>?_⟩
 by_cases aq:i < us.length
 ·rw [Qe aq,Qe (by omega)]
  exact h.at_ i aq (by omega)
 ·have e':i=us.length:=by simp at h1;omega
  subst e'
  rw [Qf (Qy _),Qf (by omega)]
  simp only [Nat.sub_self,hl,List.getElem_cons_zero]
  exact ⟨c,b,xs,rfl,e1,e2,sv⟩
theorem gJ {β:Type} (f:α->List β) (l:List α) (i:Nat) (h:i < l.length):(l.take (i+1)).flatMap f=(l.take i).flatMap f++f l[i]:=by
 rw [Qs,Qa h,Option.toList_some,List.flatMap_append]
 simp only [List.flatMap_cons,List.flatMap_nil,List.append_nil]
theorem nQ {α β:Type} (f:α->List β):∀ (l:List α) (i:Nat),((l.take i).flatMap f).length<=(l.flatMap f).length
 | [],i=>by simp
 | x::l,0=>by simp
 | x::l,i+1=>by
  have:=nQ f l i
  rw [List.take_succ_cons,List.flatMap_cons,List.flatMap_cons,Qk,Qk]
  omega
end L2
set_option autoImplicit false
namespace L2
open PySem PySem.Spec PySem.W PyProof.Rows
def G9:Data->Bool
 | .freed=>false
 | _=>true
def AM:Nat->List Obj->Frag
 | _,[]=>[]
 | n,o::os=>if G9 o.data then (n,o)::AM (n+1) os else AM (n+1) os
def G_ (h:Heap):Frag:=AM 0 h.objs.toList
theorem fS:∀ {os:List Obj} {n a:Nat} {o:Obj},(AM n os).lookup a=some o->n<=a/\os[a - n]? =some o/\G9 o.data=true
 | [],n,a,o,h=>by simp [AM] at h
 | x::os,n,a,o,h=>by
  unfold AM at h
  have next:(AM (n+1) os).lookup a=some o->n<=a/\(x::os)[a - n]? =some o/\G9 o.data=true:=fun h=>by
   obtain ⟨h1,h2,h3⟩:=fS h
   refine ⟨by omega,?_,h3⟩
   obtain ⟨k,hk⟩:∃ k,a - n=k+1:=⟨a - n - 1,by omega⟩
   rw [hk,List.getElem?_cons_succ,<- h2]
   congr 1;omega
  split at h
  ·rename_i hf
   rw [List.lookup_cons] at h
   split at h
   ·rename_i e
    obtain rfl:a=n:=by simpa using e
    cases h
    exact ⟨Qy _,by simp,hf⟩
   ·exact next h
  ·exact next h
theorem tJ (h:Heap):(G_ h).In h:=fun a o e=>by
 obtain ⟨_,h2,h3⟩:=fS e
 have x_:h.objs[a]? =some o:=by rw [<- Array.getElem?_toList];simpa using h2
 unfold Heap.get?
 rw [x_]
 obtain ⟨c,d,dt,sl⟩:=o
 cases dt<;>first | rfl | cases h3
def vf {α:Type} (look:Frag->α) (want:World->α):Hook where
 α:=α
 obs s:=look (G_ s.heap)
 val:=want
 says w h:=∃ K:Frag,K.In h/\look K=want w
 of:=fun w s e=>⟨G_ s.heap,tJ _,e⟩
 keeps:=fun w h h' ⟨K,x,e⟩ k=>⟨K,fun a o l=>k a o (x a o l),e⟩
theorem yG {p q:Program} {loose:List Str} {Xt:Shared->Bool} {Yf:Shared->α} {Ya:World->α} {N:Nat} {g0:Bool} (row:String)
  (hF:∀ w:World,(openEnds treeTable p (w.withFollow row false) N).map (fun s=>(openSeen q loose (importedModules p.main.body) Xt g0 s,Yf s))=some (openGood q loose,Ya (w.withFollow row false)))
  (hT:∀ w:World,(openEnds treeTable p (w.withFollow row true) N).map (fun s=>(openSeen q loose (importedModules p.main.body) Xt g0 s,Yf s))=some (openGood q loose,Ya (w.withFollow row true))):LeftO p q loose Xt Yf Ya N g0:=fun w=>by
 have e:=World.withFollow_self w row
 cases hb:w.params.followText row<;>rw [hb] at e
 ·have:=hF w;rw [e] at this;exact this
 ·have:=hT w;rw [e] at this;exact this
abbrev zf:=Str×Str×Arguments×FuncBody×Scope×Addr×List (Str×Addr)×Value×Addr×Bool
def fnAt (K:Frag) (q:Str):Option (Option Value)->Option zf
 | some (some (.ref f))=>(match K.lookup f with
  | some ⟨_,_,.func fd,_⟩=>some (fd.name,fd.qualname,fd.params,fd.body,fd.scope,fd.globals,fd.closure,fd.defaults,fd.builtins,codeIn K fd.code q)
  | _=>none)
 | _=>none
def ye (x q:Str) (st:Stmt):zf:=(x,q,lz st,.stmts (ig st),az st,mainGlobals,[],.none,builtinsNs,true)
def zh (K:Frag):List (Str×Stmt)->List (Option zf)
 | []=>[]
 | x::l=>fnAt K x.1 (nsIn K mainGlobals x.1)::zh K l
def zj:List (Str×Stmt)->List (Option zf)
 | []=>[]
 | x::l=>some (ye x.1 x.1 x.2)::zj l
def EJ (K:Frag) (x:Str):Option V:=match nsIn K mainGlobals x with
 | some (some v)=>xr v
 | _=>none
def EK (K:Frag):List (Str×V)->List (Option V)
 | []=>[]
 | x::l=>EJ K x.1::EK K l
def EL:List (Str×V)->List (Option V)
 | []=>[]
 | x::l=>some x.2::EL l
abbrev BJ:=Value×Option Addr×List (Option V)
def EM:List Value->List (Option V)
 | []=>[]
 | v::l=>xr v::EM l
def EN:List V->List (Option V)
 | []=>[]
 | v::l=>some v::EN l
def CP (K:Frag):Value->Option BJ
 | .ref a=>(match K.lookup a with
  | some ⟨c,d,.seq it _,_⟩=>some (c,d,EM it.toList)
  | _=>none)
 | _=>none
def yf (xs:List V):BJ:=(.type "tuple",none,EN xs)
def CQ (K:Frag) (x:Str):Option BJ:=match nsIn K mainGlobals x with
 | some (some v)=>CP K v
 | _=>none
def zk (K:Frag):List (Str×List V)->List (Option BJ)
 | []=>[]
 | x::l=>CQ K x.1::zk K l
def zm:List (Str×List V)->List (Option BJ)
 | []=>[]
 | x::l=>some (yf x.2)::zm l
def BK (K:Frag):List Str->Bool
 | []=>true
 | x::l=>(match nsIn K mainGlobals x with | some none=>true | _=>false)&&BK K l
section
variable {K:Frag}
theorem gC {x:V} (e:xr v=some x):RelV x v:=by
 cases v<;>first | (cases e;first | rfl | exact ⟨_,rfl⟩) | cases e
theorem mM:∀ {us:List Value} {xs:List V},EM us=EN xs->a_ xs us
 | [],[],_=>.nil
 | [],_::_,e=>by cases e
 | _::_,[],e=>by cases e
 | u::us,x::xs,e=>by
  have e':=List.cons.inj (show xr u::EM us=some x::EN xs from e)
  exact .cons (gC e'.1) (mM e'.2)
theorem pA {q:Str} {st:Stmt} {v:Option (Option Value)} (e:fnAt K q v=some (ye x q st)):∃ f fd,v=some (some (.ref f))/\xx K x q st f fd:=by
 unfold fnAt at e
 split at e
 ·rename_i f
  split at e
  ·rename_i oc od fd ia hl
   have e:=QD e
   unfold ye at e
   obtain ⟨n,qn,ps,b,sc,gl,cl,df,kd,doc,pm,an,cd,ct,bt⟩:=fd
   simp only [Prod.mk.injEq] at e
   obtain ⟨rfl,rfl,rfl,rfl,rfl,rfl,rfl,rfl,rfl,hc⟩:=e
   refine ⟨f,_,rfl,PU hl hc ?_⟩
   unfold keepIn
   simp only [hl]
  ·cases e
 ·cases e
theorem uU:∀ {l:List (Str×Stmt)},zh K l=zj l->∀ (i:Nat) {x:Str} {st:Stmt},l[i]? =some (x,st)->fnAt K x (nsIn K mainGlobals x)=some (ye x x st)
 | y::l,e,0,x,st,h=>by cases h;exact (List.cons.inj e).1
 | y::l,e,i+1,x,st,h=>uU (List.cons.inj e).2 i (by simpa using h)
theorem oC (X:K.In h) (G:h.Ns mainGlobals mg) {l:List (Str×Stmt)} (e:zh K l=zj l) (i:Nat) {st:Stmt} (hi:l[i]? =some (x,st))
  (hb:∀ (kV doc pm:Value) (an:Option Addr) (av ct:Value) (us:List Value),us.length=ps.length->bindArgs (fnOf x x (lz st) (ig st) (az st) .none kV doc pm an av ct) ⟨us,[]⟩=pure (ps.zip us)):di K mg x st ps:=by
 obtain ⟨f,fd,e1,F⟩:=pA (uU e i hi)
 exact ⟨f,fd,F,mg_of X G e1,F.binds hb⟩
variable {st:Stmt} {l:List (Str×Stmt)} {p0 p1 p2 p3 p4 p5 p6:Str}
theorem r_ (h:us.length=n+1):∃ a t,us=a::t/\t.length=n:=by
 cases us with
 | nil=>cases h
 | cons a t=>exact ⟨a,t,rfl,by simpa using h⟩
theorem AN (X:K.In h) (G:h.Ns mainGlobals mg) (e:zh K l=zj l) (i:Nat) (hi:l[i]? =some (x,st):=by rfl)
  (hb:∀ (kV doc pm:Value) (an:Option Addr) (av ct a0:Value),bindArgs (fnOf x x (lz st) (ig st) (az st) .none kV doc pm an av ct) ⟨[a0],[]⟩=pure [(p0,a0)]:=by intros;rfl):di K mg x st [p0]:=
 oC X G e i hi fun a b c d f g us hl=>by
  obtain ⟨a0,yg,rfl,ko⟩:=r_ (n:=0) hl
  obtain rfl:=QR ko
  exact hb ..
theorem vg (X:K.In h) (G:h.Ns mainGlobals mg) (e:zh K l=zj l) (i:Nat) (hi:l[i]? =some (x,st):=by rfl)
  (hb:∀ (kV doc pm:Value) (an:Option Addr) (av ct a0 a1:Value),bindArgs (fnOf x x (lz st) (ig st) (az st) .none kV doc pm an av ct) ⟨[a0,a1],[]⟩=pure [(p0,a0),(p1,a1)]:=by intros;rfl):di K mg x st [p0,p1]:=
 oC X G e i hi fun a b c d f g us hl=>by
  obtain ⟨a0,yg,rfl,ko⟩:=r_ (n:=1) hl
  obtain ⟨a1,AO,rfl,gy⟩:=r_ (n:=0) ko
  obtain rfl:=QR gy
  exact hb ..
theorem BL (X:K.In h) (G:h.Ns mainGlobals mg) (e:zh K l=zj l) (i:Nat) (hi:l[i]? =some (x,st):=by rfl)
  (hb:∀ (kV doc pm:Value) (an:Option Addr) (av ct a0 a1 a2:Value),bindArgs (fnOf x x (lz st) (ig st) (az st) .none kV doc pm an av ct) ⟨[a0,a1,a2],[]⟩=pure [(p0,a0),(p1,a1),(p2,a2)]:=by intros;rfl):di K mg x st [p0,p1,p2]:=
 oC X G e i hi fun a b c d f g us hl=>by
  obtain ⟨a0,yg,rfl,ko⟩:=r_ (n:=2) hl
  obtain ⟨a1,AO,rfl,gy⟩:=r_ (n:=1) ko
  obtain ⟨a2,CS,rfl,ly⟩:=r_ (n:=0) gy
  obtain rfl:=QR ly
  exact hb ..
theorem Tt (X:K.In h) (G:h.Ns mainGlobals mg) (e:zh K l=zj l) (i:Nat) (hi:l[i]? =some (x,st):=by rfl)
  (hb:∀ (kV doc pm:Value) (an:Option Addr) (av ct a0 a1 a2 a3:Value),bindArgs (fnOf x x (lz st) (ig st) (az st) .none kV doc pm an av ct) ⟨[a0,a1,a2,a3],[]⟩=pure [(p0,a0),(p1,a1),(p2,a2),(p3,a3)]:=by intros;rfl):di K mg x st [p0,p1,p2,p3]:=
 oC X G e i hi fun a b c d f g us hl=>by
  obtain ⟨a0,yg,rfl,ko⟩:=r_ (n:=3) hl
  obtain ⟨a1,AO,rfl,gy⟩:=r_ (n:=2) ko
  obtain ⟨a2,CS,rfl,ly⟩:=r_ (n:=1) gy
  obtain ⟨a3,X9,rfl,Tu⟩:=r_ (n:=0) ly
  obtain rfl:=QR Tu
  exact hb ..
theorem Tv (X:K.In h) (G:h.Ns mainGlobals mg) {v:V} (e:EJ K x=some v):∃ u,mg x=some u/\RelV v u:=by
 unfold EJ at e
 split at e
 ·rename_i u hn;exact ⟨u,mg_of X G hn,gC e⟩
 ·cases e
theorem rR:∀ {l:List (Str×V)},EK K l=EL l->∀ (i:Nat) {x:Str} {v:V},l[i]? =some (x,v)->EJ K x=some v
 | y::l,e,0,x,st,h=>by cases h;exact (List.cons.inj e).1
 | y::l,e,i+1,x,st,h=>rR (List.cons.inj e).2 i (by simpa using h)
theorem vl (X:K.In h) (G:h.Ns mainGlobals mg) {l:List (Str×V)} (e:EK K l=EL l) (i:Nat) {v:V} (hi:l[i]? =some (x,v):=by rfl):∃ u,mg x=some u/\RelV v u:=Tv X G (rR e i hi)
theorem pU {xs:List V} (e:CP K v=some (yf xs)):∃ (a:Addr) (it:Array Value) (n:Nat) (sq:Array (Option Value)),v=.ref a/\K.lookup a=some ⟨.type "tuple",none,.seq it n,sq⟩/\a_ xs it.toList:=by
 unfold CP at e
 split at e
 ·rename_i a
  split at e
  ·rename_i c d it n sl hl
   have e:=QD e
   unfold yf at e
   simp only [Prod.mk.injEq] at e
   obtain ⟨rfl,rfl,e3⟩:=e
   exact ⟨a,it,n,sl,rfl,hl,mM e3⟩
  ·cases e
 ·cases e
theorem i5 {xs:List V} (e:CQ K x=some (yf xs)):∃ (a:Addr) (it:Array Value) (n:Nat) (sq:Array (Option Value)),nsIn K mainGlobals x=some (some (.ref a))/\K.lookup a=some ⟨.type "tuple",none,.seq it n,sq⟩/\a_ xs it.toList:=by
 unfold CQ at e
 split at e
 ·rename_i u hn
  obtain ⟨a,it,n,sq,rfl,h1,h2⟩:=pU e
  exact ⟨a,it,n,sq,hn,h1,h2⟩
 ·cases e
theorem lH:∀ {l:List (Str×List V)},zk K l=zm l->∀ (i:Nat) {x:Str} {v:List V},l[i]? =some (x,v)->CQ K x=some (yf v)
 | y::l,e,0,x,st,h=>by cases h;exact (List.cons.inj e).1
 | y::l,e,i+1,x,st,h=>lH (List.cons.inj e).2 i (by simpa using h)
theorem xD {it:Array Value} {d:Option Addr} {sq:Array (Option Value)} {xs:List V} (hl:K.lookup a=some ⟨.type "tuple",d,.seq it n,sq⟩) (hv:a_ xs it.toList) (hz:xs.length<=sizeLine) (H:Hp):au K H a xs:=
 .inr ⟨_,it,n,hl,rfl,rfl,by have:=hv.length;simp at this;omega,hv⟩
theorem tu (X:K.In h) (G:h.Ns mainGlobals mg) {l:List (Str×List V)} (e:zk K l=zm l) (i:Nat) {v:List V} (hi:l[i]? =some (x,v):=by rfl) (hz:v.length<=sizeLine:=by decide):∃ a,mg x=some (.ref a)/\∀ H,au K H a v:=by
 obtain ⟨a,it,n,sq,h1,h2,h3⟩:=i5 (lH e i hi)
 exact ⟨a,mg_of X G h1,xD h2 h3 hz⟩
theorem rC:∀ {l:List Str},BK K l=true->∀ (i:Nat) {x:Str},l[i]? =some x->nsIn K mainGlobals x=some none
 | y::l,e,0,x,h=>by
  cases h
  unfold BK at e
  rw [Bool.and_eq_true_iff] at e
  have e:=e.1
  split at e
  ·assumption
  ·cases e
 | y::l,e,i+1,x,h=>by
  unfold BK at e
  rw [Bool.and_eq_true_iff] at e
  exact rC e.2 i (by simpa using h)
theorem nn (X:K.In h) (G:h.Ns mainGlobals mg) {l:List Str} (e:BK K l=true) (i:Nat) (hi:l[i]? =some x:=by rfl):mg x=none:=mg_none_of X G (rC e i hi)
end
inductive BN where
 | v (x:Option V)
 | t (x:Option BJ)
abbrev EO:=Value×Option Addr×Nat×Bool×List (Int×Option V×BN)
def CT (K:Frag) (v:Value):BN:=match v with
 | .ref _=>.t (CP K v)
 | _=>.v (xr v)
def CU (K:Frag):List DictEntry->List (Int×Option V×BN)
 | []=>[]
 | e::l=>(e.hash,xr e.key,CT K e.val)::CU K l
def EQ (K:Frag) (x:Str):Option EO:=match nsIn K mainGlobals x with
 | some (some (.ref a))=>(match K.lookup a with
  | some ⟨c,d,.dict es _,sl⟩=>some (c,d,sl.size,a==sysModules,CU K es.toList)
  | _=>none)
 | _=>none
abbrev ow:=Str×(V ⊕ List V)
def BO (w:World):List ow->List (Int×Option V×BN)
 | []=>[]
 | (k,.inl v)::l=>(Ca w (.inr k),some (.str k),.v (some v))::BO w l
 | (k,.inr v)::l=>(Ca w (.inr k),some (.str k),.t (some (yf v)))::BO w l
def ER (w:World) (l:List ow):EO:=(.type "dict",none,0,false,BO w l)
def Hf (K:Frag):List (Str×List ow)->List (Option EO)
 | []=>[]
 | x::l=>EQ K x.1::Hf K l
def Hg (w:World):List (Str×List ow)->List (Option EO)
 | []=>[]
 | x::l=>some (ER w x.2)::Hg w l
def zo (K:Frag):List ow->List V->Prop
 | [],[]=>True
 | (_,.inl v)::l,u::us=>u=v/\zo K l us
 | (_,.inr xs)::l,u::us=>(∃ a,u=.ref a/\∀ H,au K H a xs)/\zo K l us
 | _,_=>False
def Hh:List ow->List V->List (Key×V)
 | e::l,u::us=>(.inr e.1,u)::Hh l us
 | _,_=>[]
def CW:List ow->Bool
 | []=>true
 | (_,.inl _)::l=>CW l
 | (_,.inr xs)::l=>decide (xs.length<=1000)&&CW l
section
variable {K:Frag}
theorem iZ:∀ {l:List ow},CW l=true->∀ e∈l,∀ xs,e.2=.inr xs->xs.length<=sizeLine
 | (_,.inl _)::l,h,e,he,xs,hx=>by
  rcases Qp.mp he with rfl | he
  ·cases hx
  ·exact iZ (l:=l) h e he xs hx
 | (_,.inr ys)::l,h,e,he,xs,hx=>by
  unfold CW at h
  rw [Bool.and_eq_true_iff,decide_eq_true_iff] at h
  rcases Qp.mp he with rfl | he
  ·cases hx;exact Nat.le_trans h.1 (by decide)
  ·exact iZ (l:=l) h.2 e he xs hx
theorem K5 {k:Str} {v:V} {l:List ow} {us:List V} (e:zo K ((k,.inl v)::l) us):∃ vs,us=v::vs/\zo K l vs:=by
 cases us with
 | nil=>exact False.elim e
 | cons u vs=>obtain ⟨rfl,r⟩:=(show u=v/\zo K l vs from e);exact ⟨vs,rfl,r⟩
theorem Tw {us:List V} (e:zo K [] us):us=[]:=by
 cases us with
 | nil=>rfl
 | cons u vs=>exact False.elim e
theorem o9:∀ {l:List ow} {es:List DictEntry},CU K es=BO w l->(∀ e∈l,∀ xs,e.2=.inr xs->xs.length<=sizeLine)->∃ (us:List V) (vs:List (Key×Value)),zo K l us/\(∀ P,Pairs (cj P w) es vs)/\(∀ P,∀ e∈es,∃ k,(cj P w).is k e.key=true/\e.hash=(cj P w).hash k)/\KV (Hh l us) vs/\vs.map (·.1)=l.map (fun e=>.inr e.1)
 | [],[],_,_=>⟨[],[],trivial,fun _=>.nil,(fun _ _ h=>nomatch h),.nil,rfl⟩
 | [],_::_,e,_=>by cases e
 | (_,.inl _)::_,[],e,_=>by cases e
 | (_,.inr _)::_,[],e,_=>by cases e
 | (k,.inl v)::l,d::es,e,hz=>by
  have e':=List.cons.inj (show (d.hash,xr d.key,CT K d.val)::CU K es=(Ca w (.inr k),some (.str k),.v (some v))::BO w l from e)
  obtain ⟨us,vs,h1,h2,h3,h4,h5⟩:=o9 e'.2 fun x hx=>hz x (Qh _ hx)
  have e1:=e'.1
  simp only [Prod.mk.injEq] at e1
  obtain ⟨q1,q2,q3⟩:=e1
  obtain ⟨t,q2⟩:=gC q2
  have q4:RelV v d.val:=by
   unfold CT at q3
   split at q3
   ·cases q3
   ·exact gC (BN.v.inj q3)
  have hk:∀ P,(cj P w).is (.inr k) d.key=true:=fun P=>by rw [q2];exact g9 P w k t
  refine ⟨v::us,(.inr k,d.val)::vs,⟨rfl,h1⟩,fun P=>.cons (kv:=((Sum.inr k,d.val):Key×Value)) (hk P) rfl (h2 P),fun P y hy=>?_,.cons ⟨rfl,q4⟩ h4,by simp [h5]⟩
  rcases Qp.mp hy with rfl | hy
  ·exact ⟨.inr k,hk P,q1⟩
  ·exact h3 P y hy
 | (k,.inr xs)::l,d::es,e,hz=>by
  have e':=List.cons.inj (show (d.hash,xr d.key,CT K d.val)::CU K es=(Ca w (.inr k),some (.str k),.t (some (yf xs)))::BO w l from e)
  obtain ⟨us,vs,h1,h2,h3,h4,h5⟩:=o9 e'.2 fun x hx=>hz x (Qh _ hx)
  have e1:=e'.1
  simp only [Prod.mk.injEq] at e1
  obtain ⟨q1,q2,q3⟩:=e1
  obtain ⟨t,q2⟩:=gC q2
  have q4:CP K d.val=some (yf xs):=by
   unfold CT at q3
   split at q3
   ·exact BN.t.inj q3
   ·cases q3
  obtain ⟨a,it,n,sq,q5,q6,q7⟩:=pU q4
  have hk:∀ P,(cj P w).is (.inr k) d.key=true:=fun P=>by rw [q2];exact g9 P w k t
  refine ⟨.ref a::us,(.inr k,d.val)::vs,⟨⟨a,rfl,xD q6 q7 (hz _ (List.mem_cons_self ..) xs rfl)⟩,h1⟩,fun P=>.cons (kv:=((Sum.inr k,d.val):Key×Value)) (hk P) rfl (h2 P),fun P y hy=>?_,.cons ⟨rfl,by rw [q5];rfl⟩ h4,by simp [h5]⟩
  rcases Qp.mp hy with rfl | hy
  ·exact ⟨.inr k,hk P,q1⟩
  ·exact h3 P y hy
theorem Tz {l:List ow} (X:K.In h) (G:h.Ns mainGlobals mg) (e:EQ K x=some (ER w l)) (GR:CW l=true) (nd:(l.map (·.1)).Nodup):∃ (a:Addr) (us:List V),mg x=some (.ref a)/\zo K l us/\KD w K a (Hh l us):=by
 have hz:=iZ GR
 unfold EQ at e
 split at e
 ·rename_i a hn
  split at e
  ·rename_i c d es ep sl hl
   have e:=QD e
   unfold ER at e
   simp only [Prod.mk.injEq] at e
   obtain ⟨rfl,rfl,e3,e4,e5⟩:=e
   obtain ⟨us,vs,h1,h2,h3,h4,h5⟩:=o9 e5 hz
   refine ⟨a,us,mg_of X G hn,h1,fun P=>⟨_,es,ep,vs,hl,e4,⟨rfl,rfl,Array.eq_empty_of_size_eq_zero e3⟩,rfl,fun y hy=>h3 P y (by simpa using hy),h2 P,?_,h4⟩⟩
   rw [h5]
   have:l.map (fun e=>(Sum.inr e.1:Key))=(l.map (·.1)).map Sum.inr:=by simp
   rw [this]
   exact List.Pairwise.map _ (fun a b q c=>q (Sum.inr.inj c)) nd
  ·cases e
 ·cases e
theorem rQ:∀ {l:List (Str×List ow)},Hf K l=Hg w l->∀ (i:Nat) {x:Str} {v:List ow},l[i]? =some (x,v)->EQ K x=some (ER w v)
 | y::l,e,0,x,st,h=>by cases h;exact (List.cons.inj e).1
 | y::l,e,i+1,x,st,h=>rQ (List.cons.inj e).2 i (by simpa using h)
end
abbrev K6:List Str:=["type","isinstance","issubclass","getattr","hasattr"]
theorem zW {l:OpenLaw} {p:Program} (hp:l.prog=p)
 (a0:sreFenced p.main=true) (a1:((moduleNames p.main.body).isEmpty||lookedIntoSs (moduleNames p.main.body) p.main.body)=true)
 (a2:namesResolve p=true) (a3:p.boundNames.all (fun n=> !worldNames.contains n)=true)
 (a4:noRoadLSs {strict:= !(importedModules p.main.body).all cThrough.contains,foot:=none,bare:=(["vars","dir","locals"]:List Str).filter (readsOut p p.main.body)} p.main.body=true)
 (a5:(namesMeet p p.main.body fun _ n=>attrL n)=true)
 (a6:l.row.toRowW.solid=true) (TF:l.row.pre.litsOk=true)
 (a7:p.boundNames.contains l.name=true) (a8:(!startupNames.contains l.name)=true)
 (a9:decide (l.foot<=(behindTheImports p).length)=true)
 (b0:l.footing.all footLine=true) (b1:noClassBlock p l.footing=true)
 (b2:l.most.all (fun n=>decide (63<=n))=true) (b3:l.bound.all (fun n=>decide (2^63<=n))=true)
 (b4:noRoadLSs {strict:=true,foot:=some l.bound',writes:=l.writes,may:=l.may} l.footing=true)
 (b5:defStands l.about l.above=true) (b6:l.namesIt=true) (b7:K6.all (fun n=>l.about !=[n])=true)
 (b8:l.bound'.all (fun n=> !builtinNamed n||l.about==[n]|| !l.reads n)=true)
 (b9:(!l.writes||(p.main.body.flatMap importedNames).all fun n=> !l.reads n)=true)
 (c0:(p.main.body.flatMap importedNames).all (fun n=> !l.reads n||(drawsOf n p.main.body).all fun mn=>mn.2 !=("attrgetter":Str)&&mn.2 !=("methodcaller":Str))=true)
 (c1:namesMeet p l.footing (fun sc n=>(!K6.contains n||sc.names.lookup n==some .globalImplicit)&&(l.may !=some n||sc.kind==.module||sc.names.lookup n==some .globalImplicit))=true)
 (c2:l.own.contains l.name=true) (c3:(l.own.eraseDups.length==l.own.length)=true) (c4:l.own.all (fun n=> !builtinNamed n)=true)
 (c5:namesMeet p l.above (fun _ n=> !l.own.contains n)=true) (c6:(namesMeet p l.footing fun sc n=>sc.kind==.module||sc.names.lookup n !=some .globalExplicit)=true):l.wellSaid=true:=by
 subst hp
 have q:l.row.wellSaid=true:=by
  unfold OpenRow.wellSaid OpenRow.partSaid looksOpen
  exact look_both (look_both (look_both (look_both (look_both (look_both (look_both (look_both (look_both (look_both (look_both (look_both (look_both (look_both (look_both (look_both (look_both (look_both (look_both (look_both a0 a1) a2) a3) a4) a5) rfl) rfl) rfl) rfl) rfl) rfl) a6) TF) rfl) rfl) rfl) rfl) rfl) a7) a8
 unfold OpenLaw.wellSaid
 rw [q,a9,b0,b1,b2,b3,b4,b5,b6,b7,b8,b9,c0,c1,c2,c3,c4,c5,c6];rfl
theorem yX {l:OpenLaw} {k:Nat} {q:Program} {loose:List Str} {d:DefRec} {look:Frag->α} {want:World->α}
  (hn:l.most=some n) (hn2:n<=sizeLine) (Ga:d.params.defaults=[]) (hr:c_ k callerA)
  (F:∀ (w:World) (mg:Str->Option Value) (fa:Addr) (h:Heap) (K:Frag),K.In h->look K=want w->h.Ns mainGlobals mg->mg d.name=some (.ref fa)->
   ∃ (ts:List (Addr×Obj×List V)) (fd:FuncData) (sp:Sp),(∀ t∈ts,CG K t)/\(ts.map (·.1)).Nodup/\(∀ (s:Shared) (u:Value),BindsTo s fd ⟨[u],[]⟩ [(x,u)])/\
    (∀ base:Heap,(without K (ts.map (·.1))).In base->base.Ns mainGlobals mg->kg l.prog w (without K (ts.map (·.1))) mg base q_ k fa fd [x] sp)/\
    (∀ (H:Hp) (a:Addr) (ns:List Int),ns.length<=n->(∀ t∈ts,H t.1=some (.af t.2.1 (.tup t.2.2)))->ak (without K (ts.map (·.1))) H a (ns.map V.int)->sp [.ref a] H (fun v _=>v=.bl true) fun _ _ _=>False)):
  WalkO q loose XP (vf look want).says l.row.toRowW d [] (fun f vs=>PySem.call f vs):=by
 refine J5.pR hn Ga fun w s₀ s₁ mg mb fa o pm cd doc a vs ns G Y ho hd jp Bo Gc Gd fq hg=>?_
 obtain ⟨K,KX,hl⟩:=Y
 obtain ⟨ts,fd,sp,u_,nd,hb,hF,wo⟩:=F w mg fa _ K KX hl G.T.g Bo
 exact vB u_ nd KX G.T.g G.T.b G.T.builtins G.T.nolimit hg Gc Gd (Nat.le_trans fq hn2) hr hF hb (fun H _ ht hS=>wo H a ns fq ht hS) fun _ _ _ z=>z
def qm (K:Frag):List (Str×List V)->List Addr
 | []=>[]
 | x::l=>(match nsIn K mainGlobals x.1 with | some (some (.ref a))=>a | _=>0)::qm K l
def Hi:List (Str×List V)->Bool
 | []=>true
 | x::l=>decide (x.2.length<=1000)&&Hi l
section
variable {K:Frag}
theorem zD (X:K.In h) (G:h.Ns mainGlobals mg):∀ {l:List (Str×List V)},zk K l=zm l->Hi l=true->∃ ts:List (Addr×Obj×List V),ts.map (·.1)=qm K l/\(∀ t∈ts,CG K t)/\∀ (i:Nat) (x:Str) (xs:List V),l[i]? =some (x,xs)->∃ t∈ts,t.1=adr mg x/\t.2.2=xs
 | [],_,_=>⟨[],rfl,(fun t ht=>nomatch ht),fun i x xs e=>by simp at e⟩
 | y::l,e,hs=>by
  have e':=List.cons.inj (show CQ K y.1::zk K l=some (yf y.2)::zm l from e)
  unfold Hi at hs
  rw [Bool.and_eq_true_iff,decide_eq_true_iff] at hs
  obtain ⟨ts,h1,h2,h3⟩:=zD X G e'.2 hs.2
  obtain ⟨a,it,n,sq,g1,g2,g3⟩:=i5 e'.1
  have hm:=mg_of X G g1
  refine ⟨(a,⟨.type "tuple",none,.seq it n,sq⟩,y.2)::ts,?_,fun t ht=>?_,fun i x xs ei=>?_⟩
  ·unfold qm
   rw [g1,List.map_cons,h1]
  ·rcases Qp.mp ht with rfl | ht
   ·exact SK g2 g3 (Nat.le_trans hs.1 (by decide))
   ·exact h2 t ht
  ·cases i with
   | zero=>
    cases ei
    refine ⟨_,List.mem_cons_self ..,?_,rfl⟩
    show a=adr mg _
    unfold adr;rw [hm]
   | succ i=>
    obtain ⟨t,ht,r⟩:=h3 i x xs (by simpa using ei)
    exact ⟨t,Qh _ ht,r⟩
theorem yA {ts:List (Addr×Obj×List V)} {xs:List V} (h:∃ t∈ts,t.1=adr mg x/\t.2.2=xs) (hH:∀ t∈ts,H t.1=some (.af t.2.1 (.tup t.2.2))):Kn mg H x xs:=by
 obtain ⟨t,ht,e1,e2⟩:=h
 exact ⟨t.2.1,by rw [<- e1,<- e2];exact hH t ht⟩
theorem uE (X:K.In h) (G:h.Ns mainGlobals mg) {l:List (Str×List V)} (e:zk K l=zm l) (i:Nat) {xs:List V} (hi:l[i]? =some (x,xs):=by rfl):∃ u,mg x=some u/\RelV (.ref (adr mg x)) u:=by
 obtain ⟨a,it,n,sq,h1,h2,h3⟩:=i5 (lH e i hi)
 exact ⟨.ref a,mg_of X G h1,Su (mg_of X G h1)⟩
end
structure zp where
 x:Str
 q:Str
 st:Stmt
 fs:List Str
abbrev Hj:=Option zf×Option (Option Value)×Bool
def CY (K:Frag) (C:Addr):List Str->Bool
 | []=>true
 | f::l=>(match findIn K (.ref C) f with | some none=>true | _=>false)&&CY K C l
def clsAt (K:Frag) (c:zp) (C:Addr):Hj:=(fnAt K c.q (findIn K (.ref C) "__init__"),findIn K (.ref C) "__setattr__",
 plainGet K C Str.empty&&(hasDictIn K C&&(plainOver K C&&(makesIn K C&&(keepIn K (.ref C)&&((match findIn K (.ref C) "__init__" with | some (some v)=>isFn K v | _=>false)&&CY K C c.fs))))))
def CZ (K:Frag):List zp->List (Option Hj)
 | []=>[]
 | c::l=>(match nsIn K mainGlobals c.x with | some (some (.ref C))=>some (clsAt K c C) | _=>none)::CZ K l
def C0:List zp->List (Option Hj)
 | []=>[]
 | c::l=>some (some (ye "__init__" c.q c.st),some (some (.builtin "object.__setattr__")),true)::C0 l
section
variable {K:Frag}
theorem fY:∀ {C:Addr} {l:List Str},CY K C l=true->∀ f∈l,uq K C f
 | C,f::l,e,g,hg=>by
  unfold CY at e
  rw [Bool.and_eq_true_iff] at e
  rcases Qp.mp hg with rfl | hg
  ·have e1:=e.1
   split at e1
   ·assumption
   ·cases e1
  ·exact fY e.2 g hg
theorem uA:∀ {l:List zp},CZ K l=C0 l->∀ (i:Nat) {c:zp},l[i]? =some c->∃ C,nsIn K mainGlobals c.x=some (some (.ref C))/\clsAt K c C=(some (ye "__init__" c.q c.st),some (some (.builtin "object.__setattr__")),true)
 | y::l,e,0,c,h=>by
  cases h
  have e1:=(List.cons.inj e).1
  split at e1
  ·rename_i C hC
   exact ⟨C,hC,QD e1⟩
  ·cases e1
 | y::l,e,i+1,c,h=>uA (List.cons.inj e).2 i (by simpa using h)
theorem TJ (X:K.In h) (G:h.Ns mainGlobals mg) {l:List zp} (e:CZ K l=C0 l) (i:Nat) {q:Str} {st:Stmt} {fs:List Str} (hi:l[i]? =some ⟨x,q,st,fs⟩)
  (hb:∀ (kV doc pm:Value) (an:Option Addr) (av ct:Value) (us:List Value),us.length=ps.length->bindArgs (fnOf "__init__" q (lz st) (ig st) (az st) .none kV doc pm an av ct) ⟨us,[]⟩=pure (ps.zip us)):CH K mg x q st ps fs (adr mg x):=by
 obtain ⟨C,hn,hc⟩:=uA e i hi
 have hm:=mg_of X G hn
 have ea:adr mg x=C:=by unfold adr;rw [hm]
 unfold clsAt at hc
 simp only [Prod.mk.injEq,Bool.and_eq_true_iff] at hc
 obtain ⟨c1,c2,c3,c4,c5,c6,c7,c8,c9⟩:=hc
 obtain ⟨f,fd,e1,F⟩:=pA c1
 rw [e1] at c8
 rw [ea]
 exact ⟨hm,⟨c3,c4,c5,c2⟩,fY c9,f,fd,⟨c6,e1,c8,c7⟩,F,F.binds hb⟩
theorem TL (X:K.In h) (G:h.Ns mainGlobals mg) {l:List zp} (e:CZ K l=C0 l) (i:Nat) {q p0 p1:Str} {st:Stmt} {fs:List Str} (hi:l[i]? =some ⟨x,q,st,fs⟩:=by rfl)
  (hb:∀ (kV doc pm:Value) (an:Option Addr) (av ct a0 a1:Value),bindArgs (fnOf "__init__" q (lz st) (ig st) (az st) .none kV doc pm an av ct) ⟨[a0,a1],[]⟩=pure [(p0,a0),(p1,a1)]:=by intros;rfl):CH K mg x q st [p0,p1] fs (adr mg x):=
 TJ X G e i hi fun a b c d f g us hl=>by
  match us,hl with
  | [a0,a1],_=>exact hb ..
end
end L2
namespace L2
open PySem PySem.Spec PyProof.Rows
theorem bZ (Bp:Scope) (oN:List Str) (h:sc.kind=.function/\(∀ y∈sc.names,y.2≠.cell)/\(∀ y∈sc.names,y.2=.local->sc.names.lookup y.1=some .local)/\(∀ y∈sc.names,y.2=.free->(Bp.names.lookup y.1=some .cell\/Bp.names.lookup y.1=some .free))/\(∀ j∈idx,sc.names.lookup (oN.getD j "")=some .free/\j < oN.length)/\N'=own++idx.map (fun j=>oN.getD j "")):ju Bp oN sc own idx N':=⟨h.1,h.2.1,h.2.2.1,h.2.2.2.1,h.2.2.2.2.1,h.2.2.2.2.2⟩
theorem bN {P:List Str} (h:sc.kind=.function/\sc.isCoroutine=false/\sc.isGenerator=false/\N.Nodup/\N.take P.length=P/\(∀ x∈P,sc.names.lookup x=some .local\/sc.names.lookup x=some .cell)/\∀ y∈sc.names,y.2≠.free):dc N P sc:=⟨h.1,h.2.1,h.2.2.1,h.2.2.2.1,h.2.2.2.2.1,h.2.2.2.2.2.1,h.2.2.2.2.2.2⟩
section
variable {g:Array GenState} {d:Drawn} {t:Nat} {os:OsState}
variable {nm q:Str} {N:Addr} {bs bm bmB:List Value} {hdct:Bool} {sn:List Str} {sub:List Value} {ab:Bool} {col:Option Bool} {dd:Option Addr} {k0 k1 k2 k3 k5:Option Value} {B Bn newId ES C1 K7:String} {K8:List Value}
theorem TM (Fn:ExcBaseFacts Bn newId K7 K8) (ET:bmB.contains (.type Bn)=true) (F:ExcBaseFacts B ES C1 bmB) (T:OwnTail h bmB bm) {mN:Str->Option Value} {rest:List Value} {fI:Addr} {oI:Obj} {Q:Fin->Shared->Prop}
  (hC:h.get? C=some (excClassObj nm q C N bs bm hdct sn sub ab col dd k0 k1 k2 k3 k5 newId)) (hn:h.Ns N mN) (hi:mN "__init__"=some (.ref fI)) (Hl:h.get? fI=some oI) (Ho:oI.cls=.type "function") (hl:rest.length<=sizeLine)
  (hq:∀ h' e,Heap.MadeExcOf h h' e (.ref C) rest->wpAny (model P w) A (call (.ref fI) (.ref e::rest)) (fun r s'=>r=.none/\Q (.done (.ret (.ref e))) s') E ⟨h',g,d,t,os⟩):
  wpAny (model P w) A (Builtin.«type.__call__» ⟨.ref C::rest,[]⟩) Q E ⟨h,g,d,t,os⟩:=by
 repeat (first | with_reducible refine wpAny_loadPart_at hC ?_ | with_reducible refine wpAny_madeBy_exc hC ?_ | wp_step)
 refine codeAny_call_builtin_code (Code.quiet_builtin _ Fn.quiet) (wpAny_check_new_subU Fn ET T hC (codeAny_exc_new_subU Fn ET F T hC ?_ hl))
 let h2:=(h.push {cls:=.type "tuple",data:=.seq rest.toArray}).push {cls:=.ref C,data:=.fields #[.ref h.objs.size,.none,.none,.none,.bool false,.none]}
 have up:∀ b o,h.get? b=some o->h2.get? b=some o:=fun b o e=>Qc _ (Qc _ e)
 have K9:=up _ _ hC
 have hn2:h2.Ns N mN:=let ⟨o,es,ep,e,r⟩:=hn;⟨o,es,ep,up _ _ e,r⟩
 have ge:h2.get? (h.objs.size+1)=some {cls:=.ref C,data:=.fields #[.ref h.objs.size,.none,.none,.none,.bool false,.none]}:=by
  show (Heap.push _ _).get? _=_
  have:=Qd (h.push {cls:=.type "tuple",data:=.seq rest.toArray}) (o:={cls:=.ref C,data:=.fields #[.ref h.objs.size,.none,.none,.none,.bool false,.none]}) rfl
  rw [Heap.size_push] at this;exact this
 have TN:(Value.ref C::bm).contains (.ref C)=true:=by simp
 show wpAny _ _ _ _ _ ⟨h2,g,d,t,os⟩
 unfold isInstance
 repeat (first | with_reducible refine wpAny_loadPart_at ge ?_ | (with_reducible refine wpAny_isSubtype_exc K9 ?_;rw [TN]) | wp_step)
 show wpAny _ _ (typeLookup (.ref C) _) _ _ _
 refine wpAny_typeLookup_tail K9 hn2 (T.keeps up) F.mroIs F.init.lookup ?_
 rw [hi]
 refine wpAny_holding (QS ?_)
 unfold bindSpecial
 refine QS (wpAny_typeOf (T:="function") ⟨_,up _ _ Hl,Ho⟩ ?_)
 rw [if_pos (by decide)]
 refine QT (QS (wpAny_mono (hq h2 (h.objs.size+1) ⟨up,Heap.get?_none_of_le (Nat.le_succ _),h.objs.size,ge,Heap.get?_none_of_le (Qy _),Qc _ (Qd _ rfl)⟩) (fun r s' hr=>?_) fun _ _ x=>x))
 obtain ⟨rfl,hQ⟩:=hr
 wp_walk
 exact hQ
theorem TQ (Fn:ExcBaseFacts Bn newId K7 K8) (ET:bmB.contains (.type Bn)=true) (F:ExcBaseFacts B ES C1 bmB) (T:OwnTail h bmB bm) {mN:Str->Option Value} {rest:List Value} {fI:Addr} {oI:Obj}
  (hC:h.get? C=some (excClassObj nm q C N bs bm hdct sn sub ab col dd k0 k1 k2 k3 k5 newId)) (hn:h.Ns N mN) (hi:mN "__init__"=some (.ref fI)) (Hl:h.get? fI=some oI) (Ho:oI.cls=.type "function") (hl:rest.length<=sizeLine)
  (hq:∀ h' e,Heap.MadeExcOf h h' e (.ref C) rest->wpAny (model P w) (A.under (.builtin "type.__call__" ⟨.ref C::rest,[]⟩)) (call (.ref fI) (.ref e::rest)) (fun r s'=>r=.none/\Q (.ref e) s') E ⟨h',g,d,t,os⟩):
  wpAny (model P w) A (call (.ref C) rest) Q E ⟨h,g,d,t,os⟩:=by
 have f1:=tc_lookup
 have f2:=tc_bind (.ref C)
 have hT:(⟨h,g,d,t,os⟩:Shared).TypeIs (.ref C) "type":=⟨_,hC,rfl⟩
 refine wpAny_call (codeAny_of_tree ?_)
 show wpAny _ _ (callAny (.ref C) _) _ _ _
 repeat (any_goals (first | assumption | with_reducible refine wpAny_loadPart_at hC ?_ | wp_step))
 exact ⟨rfl,codeAny_call_builtin_at (Code.quiet_builtin _ (by decide+kernel)) entry_typeCall (wpAny_check_type_call_sub hC (TM Fn ET F T hC hn hi Hl Ho hl hq))⟩
end
section
variable {nm q:Str} {N:Addr} {bs bm:List Value} {hdct:Bool} {sn:List Str} {sub:List Value} {ab:Bool} {col:Option Bool} {dd:Option Addr} {k0 k1 k2 k3 k5:Option Value} {newId:String}
theorem xT {x:Sem Value} {Q:Flow->Shared->Prop} (hb:bm.contains (.type "BaseException")=true) (hh:A.handled=none)
  (h:wpAny M A x (fun v s1=>∃ e t dct,v=.ref e/\s1.heap.get? C=some (excClassObj nm q C N bs bm hdct sn sub ab col dd k0 k1 k2 k3 k5 newId)/\s1.heap.get? e=some {cls:=.ref C,dict:=dct,data:=.fields #[.ref t,.none,.none,.none,.bool false,.none]}/\E (.ref e) s1) E s):
  wpAny M A (raiseStmt env (some x) none) Q E s:=by
 have hB:(Value.ref C::bm).contains (.type "BaseException")=true:=by rw [List.contains_cons,hb,Bool.or_true]
 unfold raiseStmt
 refine QS (wpAny_mono h (fun v s1 ⟨e,t,dct,ev,hC,he,hE⟩=>?_) fun _ _ x=>x)
 subst ev
 obtain ⟨hp,g,d,tk,os⟩:=s1
 repeat (first | with_reducible refine wpAny_loadPart_at he ?_ | with_reducible refine wpAny_loadPart_at hC ?_ | (with_reducible refine wpAny_isSubtype_exc hC ?_;rw [hB]) | wp_step)
 exact wpAny_raiseNew_none hh hE
end
def qo (h:Heap) (e C:Addr) (dct:Option Addr):Prop:=∃ t,h.get? e=some {cls:=.ref C,dict:=dct,data:=.fields #[.ref t,.none,.none,.none,.bool false,.none]}
section
variable {g:Array GenState} {d:Drawn} {t:Nat} {os:OsState}
variable {nm q:Str} {N e:Addr} {bs bm bmB:List Value} {hdct:Bool} {sn:List Str} {sub:List Value} {ab:Bool} {col:Option Bool} {dd:Option Addr} {k0 k1 k2 k3 k5:Option Value} {B newId ES C1:String}
theorem TU (F:ExcBaseFacts B ES C1 bmB) (T:OwnTail h bmB bm) (hC:h.get? C=some (excClassObj nm q C N bs bm hdct sn sub ab col dd k0 k1 k2 k3 k5 newId)) (he:qo h e C dct) {args:List Value} (hl:args.length<=sizeLine)
  (hq:∀ h',(∀ b o,b≠e->h.get? b=some o->h'.get? b=some o)->qo h' e C dct->Q .none ⟨h',g,d,t,os⟩):
  wpAny (model P w) A (call (.builtin C1) (.ref e::args)) Q E ⟨h,g,d,t,os⟩:=by
 obtain ⟨t0,he⟩:=he
 refine wpAny_call (codeAny_call_builtin F.init.plain F.initEntry (wpAny_check_init_subU F T hC he rfl ?_))
 wp_walk
 have h1:=Qc {cls:=.type "tuple",data:=.seq args.toArray} he
 refine hq _ (fun b o n q=>?_) ⟨h.objs.size,?_⟩
 ·rw [Heap.get?_update_other _ _ n.symm];exact Qc _ q
 ·exact Heap.get?_update_self _ h1 rfl
end
end L2
namespace L2
open PySem PySem.Spec PyProof.Rows PySem.W Builtin.ObjectAttr
abbrev EU:List Value:=[.type "ValueError",.type "Exception",.type "BaseException",.type "object"]
def sd (own:List Addr):List Value:=own.map Value.ref++EU
theorem fT (self:Value):∀ own:List Addr,refuseLoop self "__setattr__" (sd own)=pure ()
 | []=>PySem.F.store_ValueError.passes self
 | c::r=>by
  show refuseLoop self "__setattr__" (.ref c::sd r)=_
  rw [refuseLoop_ref];exact fT self r
theorem g6 (h:v∈EU) (own:List Addr):(sd own).contains v=true:=by
 rw [List.contains_iff_mem];exact List.mem_append.mpr (.inr h)
section
variable {K:QZ} {e:Addr} {cd:ClassData} {own:List Addr}
theorem TV {Q:Unit->Shared->Prop} (X:K.In s.heap) (he:qo s.heap e C none) (hc:clsIn K C=some cd) (hm:cd.mro=sd own) (hd:cd.hasDict=true) (hs:findIn K (.ref C) "__setattr__"=some (some (.builtin "object.__setattr__"))) (ha:findIn K (.ref C) name=some none)
  (hq:∀ h' dx tk,s.heap.get? dx=none->(∀ b o,b≠e->s.heap.get? b=some o->h'.get? b=some o)->qo h' e C (some dx)->h'.Ns1 dx (fun y=>if y=name then some v else none)->Q () {s with heap:=h',toks:=tk}):
  wpAny (model P w) A (setAttr (.ref e) name v) Q E s:=by
 obtain ⟨t,he⟩:=he
 have I:InstAt s.heap e _ C none:=⟨he,rfl,rfl,trivial⟩
 have SF:=PySem.F.store_object
 refine set_plain X I hs ?_
 have X1:K.In ({s with toks:=s.toks+1}:Shared).heap:=X
 have I1:InstAt ({s with toks:=s.toks+1}:Shared).heap e _ C none:=I
 have ne:cd.mro.isEmpty=false:=by rw [hm];cases own<;>rfl
 have sub:Looks (model P w) s.heap (isInstance (.ref e) (.type "object")) true:=I.type.andThen (looks_mroIn X (by unfold mroIn;rw [hc,Option.bind_some,if_neg (by rw [ne];decide),hm,g6 (by decide)]))
 refine codeAny_call_builtin SF.slot.plain SF.entry (@check_slot (model P w) _ _ _ "object.__setattr__" "object" "__setattr__" (.ref e) [.str name s.toks,v] [] _ SF.kind SF.split sub (SF.args (.ref e) (.str name s.toks) v) ?_)
 have Hq:Looks (model P w) ({s with toks:=s.toks+1}:Shared).heap (mroOf (.ref C)) cd.mro:=(looks_clsIn X hc).andThen .now
 rw [osa_eq,refuse_eq]
 refine QS (QS (I1.type.here (QS (Hq.here ?_))))
 rw [hm,fT]
 refine QT (QS (I1.type.here (QS ((looks_findIn X1 ha).here (QS (Looks.here (.now:Looks (model P w) ({s with toks:=s.toks+1}:Shared).heap (storeTaker? none) none) ?_))))))
 dsimp only
 obtain ⟨hp,gn,dr,tk,os⟩:=s
 dsimp only at he X hq
 have hes:e≠hp.objs.size:=Nat.ne_of_lt (Qz he)
 let ox:Obj:={cls:=.ref C,data:=.fields #[.ref t,.none,.none,.none,.bool false,.none]}
 have EV:(hp.push {cls:=.type "dict",data:=.dict #[]}).get? e=some ox:=Qc _ he
 let h2:Heap:=(hp.push {cls:=.type "dict",data:=.dict #[]}).update e fun o=>{o with dict:=some hp.objs.size}
 have TY:h2.get? e=some {ox with dict:=some hp.objs.size}:=Heap.get?_update_self _ EV rfl
 have hd2:h2.get? hp.objs.size=some {cls:=.type "dict",data:=.dict #[]}:=(Heap.get?_update_ne _ _ _ _ hes.symm).trans (Qd _ rfl)
 have n2:h2.Ns hp.objs.size (fun _=>none):=⟨_,#[],_,hd2,rfl,fun e he=>absurd he (by simp),fun _=>rfl⟩
 unfold storeInOwnDict ownDictForStores instanceDict
 refine QS (QT (QS (QS (wpAny_loadPart (s:=⟨hp,gn,dr,tk+1,os⟩) he (QS ((looks_clsIn (M:=model P w) X hc).here (s:=⟨hp,gn,dr,tk+1,os⟩) ?_))))))
 rw [hd,if_neg (by decide)]
 dsimp only
 rw [if_neg (by simp [typeHasDict])]
 refine QS (wpAny_alloc' (QS (wpAny_update' EV (QT ?_))))
 show wpAny _ _ (storeInDict hp.objs.size (.str name tk) name v) _ _ ⟨h2,gn,dr,tk+1,os⟩
 unfold storeInDict newKeyGuard
 refine QS (QT (QS (wpAny_nsSet1 (Heap.Ns1.of_empty n2) fun h' hn' K_=>?_)))
 obtain ⟨oD,OR,OS,F3,F4,F5⟩:=hn'.count (Within.cons name v Within.nil)
 refine QS (wpAny_lookBehind F3 (by rw [F4];exact pastItsLine_dict (Nat.le_trans F5 (by rw [List.length_cons,List.length_nil,QL];omega))) (QT ?_))
 refine hq h' hp.objs.size _ (Heap.get?_none_of_le (Qy _)) (fun b o n q=>?_) ⟨t,(K_.2 e hes).trans TY⟩ hn'
 exact (K_.2 b (Nat.ne_of_lt (Qz q))).trans ((Heap.get?_update_ne _ _ _ _ n).trans (Qc _ q))
end
end L2
namespace L2
open PySem PySem.Spec PyProof.Rows
def w_ (h:Heap) (e C:Addr) (dct:Option Addr):Prop:=∃ vs:Array Value,h.get? e=some {cls:=.ref C,dict:=dct,data:=.fields vs}/\1 < vs.size/\
 (vs[1]? =some .none\/∃ T oT ts,vs[1]? =some (.ref T)/\T≠e/\h.get? T=some oT/\oT.data=.fields ts/\ts[3]? =some .none)
theorem qo.TZ {e:Addr} (x:qo h e C dct):w_ h e C dct:=let ⟨_,q⟩:=x;⟨_,q,Nat.succ_lt_succ (Nat.succ_pos _),.inl rfl⟩
section
variable {L e:Addr} {Q:Unit->Shared->Prop}
structure Hr (fr:List Addr) (e:Addr) (h h':Heap):Prop where
 keep:∀ b o,b ∉ fr->b≠e->h.get? b=some o->h'.get? b=some o
 slot:∀ b o,b≠e->h.get? b=some o->∃ sl,h'.get? b=some {o with slots:=sl}
 Hs:∀ b o,h.get? b=some o->∃ o',h'.get? b=some o'
theorem mQ (ki:A.frames=some (env::outer)) (hl:s.heap.FunFrames base (env::outer)) (hf:env.frame=some L) (he:w_ s.heap e C dct) (BP:e ∉ (env::outer).filterMap (·.frame))
  (h:∀ h' tb,s.heap.get? tb=none->Hr ((env::outer).filterMap (·.frame)) e s.heap h'->w_ h' e C dct->Q () {s with heap:=h'}):
  wpAny M A (noteFrame (.ref e) env) (fun _ s1=>wpAny M A (setFlight (.ref e) none) Q E s1) E s:=by
 obtain ⟨vs,g1,g2,g3⟩:=he
 have core:∀ (s1:Shared) (hd:Value) (b:Bool),s1.heap.FunFrames base (env::outer)->s1.heap.get? e=some {cls:=.ref C,dict:=dct,data:=.fields vs}->
   (∀ h' tb,s1.heap.get? tb=none->Hr ((env::outer).filterMap (·.frame)) e s1.heap h'->w_ h' e C dct->Q () {s1 with heap:=h'})->
   wpAny M A (do let a <- frameOf env;let pl <- entryPlaceOf L b;let t <- EntryCells.newEntry hd a .none (rawInt L) .none pl;setField (.ref e) 1 t) (fun _ s2=>wpAny M A (setFlight (.ref e) none) Q E s2) E s1:=by
  intro s1 hd b gy EV k
  refine QS (wpAny_frameOf_fun ki gy hf fun h1 so=>?_)
  refine QS (wpAny_entryPlaceOf fun pl hpl=>?_)
  unfold EntryCells.newEntry newFields
  refine QS (wpAny_newObj_type ?_ (hpl.sizeOk5 _ _ _ _ _))
  have e1:h1.get? e=some {cls:=.ref C,dict:=dct,data:=.fields vs}:=(so.2.1 e BP).trans EV
  generalize BF:({cls:=.type "traceback",data:=.fields ([hd,Value.ref L,Value.none,rawInt L,Value.none]++if pl.isEmpty=true then List.replicate 6 Value.none else pl).toArray}:Obj)=ob
  have hob:ob.isFreed=false:=by rw [<- BF];rfl
  have e2:(h1.push ob).get? e=some {cls:=.ref C,dict:=dct,data:=.fields vs}:=Qc _ e1
  refine wpAny_setField e2 rfl g2 ?_
  have nT:h1.objs.size≠e:=Nat.ne_of_gt (Qz e1)
  have e3:((h1.push ob).update e (Obj.mapFields (·.setIfInBounds 1 (.ref h1.objs.size)))).get? e=some {cls:=.ref C,dict:=dct,data:=.fields (vs.setIfInBounds 1 (.ref h1.objs.size))}:=Heap.get?_update_self _ e2 rfl
  have t3:((h1.push ob).update e (Obj.mapFields (·.setIfInBounds 1 (.ref h1.objs.size)))).get? h1.objs.size=some ob:=(Heap.get?_update_other _ _ nT.symm).trans (Qd _ hob)
  generalize T3:(h1.push ob).update e (Obj.mapFields (·.setIfInBounds 1 (.ref h1.objs.size)))=h2 at e3 t3
  unfold setFlight
  refine QS (wpAny_field (s:={s1 with heap:=h2}) e3 rfl (x:=.ref h1.objs.size) (by simp [g2]) ?_)
  rw [if_pos (show (Value.ref h1.objs.size !=Value.none)=true from by simp)]
  obtain ⟨ts,ht,u_⟩:∃ ts:Array Value,ob.data=.fields ts/\3 < ts.size:=⟨_,by rw [<- BF],by simp only [List.size_toArray,Qk,List.length_cons,List.length_nil];omega⟩
  refine wpAny_setField (s:={s1 with heap:=h2}) t3 ht u_ ?_
  have kp:∀ b o,b≠e->h1.get? b=some o->(h2.update h1.objs.size (Obj.mapFields (·.setIfInBounds 3 ((none:Option Addr).elim Value.none fun f=>rawInt f)))).get? b=some o:=fun b o n q=>by
   rw [Heap.get?_update_other _ _ (Nat.ne_of_gt (Qz q)),<- T3,Heap.get?_update_other _ _ n.symm]
   exact Qc _ q
  have e4:(h2.update h1.objs.size (Obj.mapFields (·.setIfInBounds 3 ((none:Option Addr).elim Value.none fun f=>rawInt f)))).get? e=some {cls:=.ref C,dict:=dct,data:=.fields (vs.setIfInBounds 1 (.ref h1.objs.size))}:=(Heap.get?_update_other _ _ nT).trans e3
  have t4:=Heap.get?_update_self (Obj.mapFields (·.setIfInBounds 3 ((none:Option Addr).elim Value.none fun f=>rawInt f))) t3 (Obj.isFreed_of_fields (Obj.data_mapFields ht _))
  refine k _ h1.objs.size (Heap.get?_none_of_le (by rw [so.1];exact Qy _)) ⟨fun b o n1 n2 q=>kp b o n2 ((so.2.1 b n1).trans q),fun b o n q=>?_,fun b o q=>?_⟩ ⟨_,e4,by simpa using g2,.inr ⟨h1.objs.size,_,_,by simp [g2],nT,t4,Obj.data_mapFields ht _,by simp [u_]⟩⟩
  ·obtain ⟨sl,q'⟩:=so.2.2 b o q
   exact ⟨sl,kp b _ n q'⟩
  ·by_cases n:b=e
   ·subst n;exact ⟨_,e4⟩
   ·obtain ⟨sl,q'⟩:=so.2.2 b o q
    exact ⟨_,kp b _ n q'⟩
 unfold noteFrame
 simp only [hf]
 rcases g3 with v1 | ⟨T,oT,ts,v1,ne,hT,ht,h3⟩
 ·refine QS (wpAny_field g1 rfl v1 ?_)
  rw [if_neg (by decide)]
  exact core s _ _ hl g1 h
 ·refine QS (wpAny_field g1 rfl v1 ?_)
  rw [if_pos (show (Value.ref T !=Value.none)=true from by simp)]
  refine QS (wpAny_field hT ht h3 ?_)
  rw [if_neg (show ¬((Value.none==rawInt L)=true) from by simp [rawInt])]
  refine QS (wpAny_setField hT ht (Array.getElem?_eq_some_iff.mp h3).1 ?_)
  have same:Obj.mapFields (·.setIfInBounds 3 Value.none) oT=oT:=by
   obtain ⟨oc,od,EW,ia⟩:=oT
   have ht:EW=.fields ts:=ht
   subst ht
   have:ts.setIfInBounds 3 Value.none=ts:=by
    obtain ⟨h4,h5⟩:=Array.getElem?_eq_some_iff.mp h3
    rw [<- h5,Array.setIfInBounds_def,dif_pos h4]
    exact Array.set_getElem_self h4
   show Obj.mk oc od (.fields (ts.setIfInBounds 3 Value.none)) ia=_
   rw [this]
  have tT:=Heap.get?_update_self (Obj.mapFields (·.setIfInBounds 3 Value.none)) hT (Obj.isFreed_of_fields (Obj.data_mapFields ht _))
  rw [same] at tT
  have ot:∀ b,(s.heap.update T (Obj.mapFields (·.setIfInBounds 3 Value.none))).get? b=s.heap.get? b:=fun b=>by
   by_cases z:b=T
   ·rw [z,tT,hT]
   ·exact Heap.get?_update_other _ _ (Ne.symm z)
  refine core {s with heap:=s.heap.update T (Obj.mapFields (·.setIfInBounds 3 Value.none))} _ _ (hl.of_keeps fun b o hb X_=>⟨o,(ot b).trans hb,rfl⟩) ((ot e).trans g1) fun h' tb q n f=>h h' tb ((ot tb).symm.trans q) ⟨fun b o x y hb=>n.keep b o x y ((ot b).trans hb),fun b o x hb=>n.slot b o x ((ot b).trans hb),fun b o hb=>n.Hs b o ((ot b).trans hb)⟩ f
end
def jf (C:Addr) (dct:Option Addr) (e:Addr):HO:=.ext fun h=>qo h e C dct
def jx (C:Addr) (dct:Option Addr) (e:Addr):HO:=.ext fun h=>∃ vs:Array Value,h.get? e=some {cls:=.ref C,dict:=dct,data:=.fields vs}
theorem sH {e:Addr} (x:qo h e C dct):bf P w H h e (jf C dct e):=⟨x,let ⟨_,q⟩:=x;⟨_,q⟩,fun h1 h2 ⟨t,q⟩ k=>⟨t,k _ q⟩⟩
theorem T9 {e:Addr} (x:w_ h e C dct):bf P w H h e (jx C dct e):=let ⟨_,q,_⟩:=x;⟨⟨_,q⟩,⟨_,q⟩,fun h1 h2 ⟨t,q⟩ k=>⟨t,k _ q⟩⟩
def vh (P:Program) (w:World):qz:=fun outer H s E ev s'=>∃ (e C:Addr) (dct:Option Addr) (H':Hp),ev=.ref e/\s'.os=s.os/\AllBare s'.gens/\Un (fm outer) [] H H' s.heap s'.heap/\b_ P w H' s'.heap/\H' e=some (jx C dct e)/\w_ s'.heap e C dct/\E (.ref e) dct H'
section
variable {e:Addr}
theorem b_.noted {fr:List Addr} {u:HO} (x:b_ P w H h) (n:Hr fr e h h') (hf:∀ b∈fr,H b=none) (he:H e=some u) (nt:∀ xs,H e≠some (.tup xs)) (nz:∀ o v,H e≠some (.af o v)) (no:∀ y,H e≠some (.own y)) (f:w_ h' e C dct):b_ P w (upd H e (jx C dct e)) h':=by
 intro b o q
 by_cases z:b=e
 ·subst z;rw [aA] at q;cases q;exact T9 f
 ·rw [aF z] at q
  refine (x b o q).stay (fun c v hc g=>?_) (fun c g=>?_) fun c xs g=>g.upd fun u hu z=>?_
  ·have hn:∃ k,H c=some k:=by
    rcases hc with rfl | hc
    ·exact ⟨_,q⟩
    ·exact ⟨_,hc⟩
   obtain ⟨k,hk⟩:=hn
   refine n.keep c v (fun w=>by rw [hf c w] at hk;cases hk) (fun w=>?_) g
   rcases hc with rfl | hc
   ·exact z w
   ·rw [w] at hc;exact no _ hc
  ·rw [aF fun w=>no _ (by rw [<- w];exact g)];exact g
  ·subst z
   rcases g with g | ⟨o',g⟩
   ·exact nt _ g
   ·exact nz _ _ g
theorem y4 {K:QZ} {cd:Value} {s0:Shared} {E:XK}
  (I:Inv (jd (vh P w) P w K mg base N qual scope f cd A outer s0 H0 E) pins σ H s) (he:H e=some (jf C dct e)) (q:E (.ref e) dct (upd H e (jx C dct e))):
  (jd (vh P w) P w K mg base N qual scope f cd A outer s0 H0 E).xe (.ref e) s:=by
 have hx:qo s.heap e C dct:=(show bf P w H s.heap e (jf C dct e) from I.hok e _ he).1
 have fr:∀ b∈fm (envOfC qual scope s0.heap.objs.size f cd::outer),H b=none:=I.DT
 have BP:e ∉ fm (envOfC qual scope s0.heap.objs.size f cd::outer):=fun z=>by rw [fr e z] at he;cases he
 show wpAny _ _ (leaving _ _) _ _ s
 unfold leaving
 refine QS (mQ (base:=base) (outer:=outer) (L:=s0.heap.objs.size) I.ok.frames I.stack rfl hx.TZ BP fun h' tb _ n fl=>?_)
 refine ⟨e,C,dct,upd H e (jx C dct e),rfl,I.os,I.bare,?_,b_.noted I.hok n fr he (fun xs z=>by rw [he] at z;cases z) (fun o v z=>by rw [he] at z;cases z) (fun y z=>by rw [he] at z;cases z) fl,aA,fl,q⟩
 have B:Un (fm outer) [] H0 H s0.heap s.heap:=I.base
 have nL:∀ b o,s0.heap.get? b=some o->b ∉ fm outer->b ∉ fm (envOfC qual scope s0.heap.objs.size f cd::outer):=fun b o q hb z=>by
  have z':b∈s0.heap.objs.size::fm outer:=z
  rcases Qp.mp z' with z' | z'
  ·exact absurd (Qz q) (by rw [z'];exact Nat.lt_irrefl _)
  ·exact hb z'
 have ne:∀ {b},H b=none->b≠e:=fun hb z=>by rw [z,he] at hb;cases hb
 refine ⟨fun b o q hn hb hx=>n.keep b o (nL b o q hb) (ne (B.free b o q hn hx)) (B.keep b o q hn hb hx),fun b o q hn hb hx=>?_,fun b o q hn hx=>by rw [aF (ne (B.free b o q hn hx))];exact B.free b o q hn hx,fun b o q hx=>?_,fun b xs q=>?_,fun b o u q=>?_,fun b ps q=>?_⟩
 ·obtain ⟨sl,q'⟩:=B.slot b o q hn hb hx
  obtain ⟨Cb,T_⟩:=n.slot b _ (ne (B.free b o q hn hx)) q'
  exact ⟨Cb,T_⟩
 ·obtain ⟨o',q'⟩:=B.there b o q hx
  exact n.Hs b o' q'
 ·have:=B.tups b xs q
  rw [aF fun z=>by rw [z,he] at this;cases this];exact this
 ·have:=B.jy b o u q
  rw [aF fun z=>by rw [z,he] at this;cases this];exact this
 ·obtain ⟨mo,this⟩:=B.ky b ps q
  exact ⟨mo,by rw [aF fun z=>by rw [z,he] at this;cases this];exact this⟩
theorem vm {Q:Unit->Shared->Prop} {E':Value->Shared->Prop} {E:XK} {s':Shared} {ev:Value} (I:Inv X pins σ H s) (ef:X.stack=X.env::X.outer) (ki:X.env.frame=some X.env.locals) (c:vh X.prog X.w X.stack H s E ev s')
  (k:∀ (e C:Addr) (dct:Option Addr) (H':Hp) (s2:Shared),ev=.ref e->Inv X pins σ H' s2->H' e=some (jx C dct e)->E (.ref e) dct H'->w_ s2.heap e C dct->Q () s2):
  wpAny (model X.prog X.w) X.A (noteFrame ev X.env) (fun _ s1=>wpAny (model X.prog X.w) X.A (setFlight ev none) Q E' s1) E' s':=by
 obtain ⟨e,C,dct,H',rfl,os,bare,un,hok,he,fl,q⟩:=c
 have I1:=I.Jt os un hok bare (fun b z=>absurd z (by simp))
 have fr:∀ b∈fm X.stack,H' b=none:=I1.DT
 have BP:e ∉ fm X.stack:=fun z=>by rw [fr e z] at he;cases he
 have fk:=I1.ok.frames
 have sk:=I1.stack
 rw [ef] at fr BP fk sk
 refine mQ fk sk ki fl BP fun h' tb _ n La=>?_
 have ED:=b_.noted hok n fr he (fun xs z=>by rw [he] at z;cases z) (fun o v z=>by rw [he] at z;cases z) (fun y z=>by rw [he] at z;cases z) La
 rw [iN he] at ED
 have ne:∀ {b},H' b=none->b≠e:=fun hb z=>by rw [z,he] at hb;cases hb
 have Ua:fm (X.env::X.outer)=X.env.locals::X.fs:=by unfold fm;rw [List.filterMap_cons,ki];rfl
 have I2:Inv X pins σ H' {s' with heap:=h',gens:=s'.gens,drawn:=s'.drawn,toks:=s'.toks}:=by
  refine I1.step (ch:=[]) (fun _ z=>nomatch z) (fun b o h1 h2 _ g hn=>n.keep b o (fun z=>?_) (ne hn) g) (fun b o _ _ _ g hn=>n.slot b o (ne hn) g) (fun b o _ g hn=>hn) (fun b o _ g=>n.Hs b o g) (fun _ _ g=>g) (fun _ _ _ g=>g) (fun b ps g=>⟨#[],by rw [g];simp⟩) (fun m hm=>?_) ED I1.bare
  ·rw [show (X.env::X.outer).filterMap (·.frame)=X.env.locals::X.fs from Ua] at z
   rcases Qp.mp z with z | z
   ·exact h1 z
   ·exact h2 z
  ·obtain ⟨o,es,ep,ho,hd,r⟩:=hm
   obtain ⟨sl,q'⟩:=n.slot _ o (ne I1.free) ho
   exact ⟨_,es,ep,q',hd,r⟩
 exact k e C dct H' _ rfl I2 he q La
end
end L2
namespace L2
open PySem PySem.Spec PyProof.Rows PySem.W
abbrev Cx.vm (X:Cx) (e:Addr):Cx:={X with A:=X.A.mark (some (.ref e)),calm:=false,xe:=fun _ _=>False}
section
variable {e CC:Addr}
theorem Inv.vm (I:Inv X pins σ H s) (e:Addr):Inv (X.vm e) pins σ H s:=
 ⟨⟨I.ok.mod,I.ok.kind,I.ok.glob,I.ok.blt,I.ok.above,I.ok.inj,I.ok.has,I.ok.Al,(fun z=>nomatch z),I.ok.frames,I.ok.Ba,I.ok.DS,I.ok.bs,I.ok.ue,I.ok.Am,I.ok.Bb,I.ok.mw,I.ok.xo⟩,I.os,I.bare,I.base,I.loc,I.cell,I.free,I.k_,I.pin,I.hok,I.len⟩
theorem Inv.uncaught (I:Inv (X.vm e) pins σ H s) (ok:X.Ok):Inv X pins σ H s:=⟨ok,I.os,I.bare,I.base,I.loc,I.cell,I.free,I.k_,I.pin,I.hok,I.len⟩
structure EX (K:Frag) (CC:Addr):Prop where
 ty:typeIn K (.ref CC)=some (.type "type")
 tu:subIn K (.type "type") (.type "tuple")=some false
 cl:∃ cd,clsIn K CC=some cd
 ex:subIn K (.ref CC) (.type "BaseException")=some true
theorem Ub (x:b_ P w H s.heap) (he:H e=some (jx C dct e)):∃ vs:Array Value,s.heap.get? e=some {cls:=.ref C,dict:=dct,data:=.fields vs}:=(show bf P w H s.heap e (jx C dct e) from x e _ he).1
theorem tD (q:h.get? e=some o):Looks M h (typeOf (.ref e)) o.cls:=(Looks.ld q).andThen .now
theorem yM {K:Frag} {b:Bool} {Q:Bool->Shared->Prop} (X:K.In s.heap) (N:EX K CC) (hs:subIn K (.ref C) (.ref CC)=some b) (ho:s.heap.get? e=some o) (hc:o.cls=.ref C) (q:Q b s):
  wpAny M A (excMatches (.ref e) (.ref CC)) Q E s:=by
 have t1:Looks M s.heap (isInstance (.ref CC) (.type "tuple")) false:=(looks_typeIn X N.ty).andThen (looks_subIn X N.tu)
 have t2:Looks M s.heap (isType (.ref CC)) true:=by
  obtain ⟨cd,hc⟩:=N.cl
  unfold clsIn at hc
  split at hc
  ·rename_i ho;cases hc;exact (Looks.ld (part:=some headPart) (X _ _ ho)).andThen .now
  ·cases hc
 have t3:Looks M s.heap (isExcClass (.ref CC)) true:=t2.andThen (by rw [if_pos rfl];exact looks_subIn X N.ex)
 have t4:Looks M s.heap (typeOf (.ref e)) (.ref C):=by rw [<- hc];exact tD ho
 unfold excMatches
 refine QS (t1.here ?_)
 dsimp only
 rw [if_neg (by decide)]
 refine QS (QT ?_)
 simp only [List.forIn_cons,List.forIn_nil]
 refine QS (QS (QS (t3.here ?_)))
 refine QT (QT (QS (t4.here ?_)))
 refine QS (QS (QS ((looks_subIn X hs).here ?_)))
 cases b with
 | true=>exact QT (QT (QT q))
 | false=>exact QT (QT (QT q))
def PH (X:Cx) (hs:List ExceptHandler) (th:Addr->Addr->Option Addr->TS):Prop:=
 ∀ (pins:List (Addr×Obj)) (s:Shared) (σ:St) (H:Hp) (D:Ends) (e C:Addr) (dct:Option Addr),Inv X pins σ H s->H e=some (jx C dct e)->w_ s.heap e C dct->th e C dct D σ H->wpAny (model X.prog X.w) X.A (handleBy (.ref e) X.env hs) (SP X pins D) X.xe s
def Lb:Addr->Addr->Option Addr->TS:=fun _ _ _ _ _ _=>False
def Lc (K:Frag) (CC:Addr) (j:Nat) (ts:TS) (th:Addr->Addr->Option Addr->TS):Addr->Addr->Option Addr->TS:=fun e C dct D σ H=>∃ b,subIn K (.ref C) (.ref CC)=some b/\
 if b=true then ts {nx:=fun σ' H'=>D.nx (σ'.set j none) H',rt:=D.rt,bk:=fun σ' H'=>D.bk (σ'.set j none) H',ct:=fun σ' H'=>D.ct (σ'.set j none) H'} (σ.set j (some (.ref e))) H else th e C dct D σ H
theorem Uc:PH X [] Lb:=fun _ _ _ _ _ _ _ _ _ _ _ h=>h.elim
theorem kA {Q:Unit->Shared->Prop} (f:w_ s.heap e C dct) (h:∀ h',(∀ b,h'.get? b=s.heap.get? b)->Q () {s with heap:=h'}):wpAny M A (setFlight (.ref e) none) Q E s:=by
 obtain ⟨vs,g1,g2,g3⟩:=f
 unfold setFlight
 rcases g3 with v1 | ⟨T,oT,ts,v1,ne,hT,ht,h3⟩
 ·refine QS (wpAny_field g1 rfl v1 ?_)
  rw [if_neg (by decide)]
  exact QT (h s.heap fun _=>rfl)
 ·refine QS (wpAny_field g1 rfl v1 ?_)
  rw [if_pos (show (Value.ref T !=Value.none)=true from by simp)]
  refine wpAny_setField hT ht (Array.getElem?_eq_some_iff.mp h3).1 (h _ fun b=>?_)
  have same:Obj.mapFields (·.setIfInBounds 3 Value.none) oT=oT:=by
   obtain ⟨oc,od,EW,ia⟩:=oT
   have ht:EW=.fields ts:=ht
   subst ht
   have:ts.setIfInBounds 3 Value.none=ts:=by
    obtain ⟨h4,h5⟩:=Array.getElem?_eq_some_iff.mp h3
    rw [<- h5,Array.setIfInBounds_def,dif_pos h4]
    exact Array.set_getElem_self h4
   show Obj.mk oc od (.fields (ts.setIfInBounds 3 Value.none)) ia=_
   rw [this]
  by_cases z:b=T
  ·subst z
   have tT:=Heap.get?_update_self (Obj.mapFields (·.setIfInBounds 3 Value.none)) hT (Obj.isFreed_of_fields (Obj.data_mapFields ht _))
   rw [same] at tT
   exact tT.trans hT.symm
  ·exact Heap.get?_update_other _ _ (Ne.symm z)
theorem Ud {c:Str} {cp pos:Pos} {b0:Stmt} {C2:List Stmt} {rest:List ExceptHandler} {ts:TS} {th:Addr->Addr->Option Addr->TS} (hg:Gl X c) (hm:X.mg c=some (.ref CC)) (N:EX X.K CC) (hN:X.N.Nodup) (hj:X.N[j]? =some y) (hy:X.env.scope.names.lookup y=some .local)
  (hs:∀ e,jz (X.vm e) (b0::C2) ts) (hr:PH X rest th) (hd:(c==("__debug__":Str))=false:=by decide):PH X (.ExceptHandler (some (.Name c cp)) (some y) (b0::C2) pos::rest) (Lc X.K CC j ts th):=by
 intro pins s σ H D e C dct I he fl h
 obtain ⟨b,hb,h⟩:=h
 have Ic:=I.vm e
 refine wpAny_handleBy_cons (codeAny_handlers_test (fJ (X:=X.vm e) Ic hg hm ?_ hd)) (by intro q;cases q)
 obtain ⟨vs,ho⟩:=Ub I.hok he
 refine yM I.cu N hb ho rfl ?_
 cases b with
 | false=>exact hr pins s σ H D e C dct I he fl h
 | true=>
  refine codeAny_handlers_suite_as (kA fl fun h' same=>?_)
  have I2:Inv X pins σ H {s with heap:=h'}:=I.kept (t':=s.toks) fun b o q=>(same b).trans q
  refine gU (v:=.ref e) I2 hN hj (.inl hy) rfl (fun s3 I3 _=>?_) (.inr hy)
  rw [if_pos rfl] at h
  refine wpAny_mono (hs e pins s3 _ H _ (I3.vm e) h) (fun f s4 q4=>?_) fun _ _ z=>z.elim
  have gone:∀ {σ':St} {H':Hp} {R:Unit->Shared->Prop},Inv (X.vm e) pins σ' H' s4->(∀ s5,Inv X pins (σ'.set j none) H' s5->R () s5)->wpAny (model X.prog X.w) X.A (do bindName X.env y .none;unbindBehindTheSuite X.env y pos) R X.xe s4:=by
   intro σ' H' R J k
   have J:=J.uncaught I.ok
   obtain ⟨m,hn,hl⟩:=id J.loc
   refine wpAny_nameGoes_keeps (by show X.env.scope.names.lookup y=some .local;exact hy) hn (by rw [I.ok.kind];rfl) fun h5 v n5 sb=>k _ ?_
   have kp:∀ b o,b≠X.env.locals->s4.heap.get? b=some o->h5.get? b=some o:=fun b o n q=>(sb.2 b n).trans q
   have nL:∀ {b o},X.s₀.heap.get? b=some o->b≠X.env.locals:=fun q=>Nat.ne_of_lt (Nat.lt_of_lt_of_le (Qz q) I.ok.above)
   have nT:∀ {b u},H' b=some u->b≠X.env.locals:=fun q z=>by rw [z,J.free] at q;cases q
   refine ⟨J.ok,J.os,J.bare,⟨fun b o e n hb hx=>kp b o (nL e) (J.base.keep b o e n hb hx),fun b o e n hb hx=>?_,J.base.free,fun b o e hx=>?_,J.base.tups,J.base.jy,J.base.ky⟩,⟨_,n5,fun i x v' e1 e2 e3=>?_⟩,fun x c q=>?_,J.free,J.k_,fun p hp=>?_,fun b u q=>?_,by rw [List.length_set];exact J.len⟩
   ·obtain ⟨sl,q⟩:=J.base.slot b o e n hb hx
    exact ⟨sl,kp b _ (nL e) q⟩
   ·obtain ⟨o',q⟩:=J.base.there b o e hx
    exact ⟨o',kp b _ (nL e) q⟩
   ·by_cases AJ:i=j
    ·subst AJ
     have aq:i < σ'.length:=by rw [J.len];exact (List.getElem?_eq_some_iff.mp hj).1
     rw [List.getElem?_set_self aq] at e2;cases e2
    ·rw [List.getElem?_set_ne (Ne.symm AJ)] at e2
     obtain ⟨u,r,q⟩:=hl i x v' e1 e2 e3
     refine ⟨u,r,?_⟩
     rcases q with ⟨k1,q⟩ | ⟨k1,c,q,z⟩
     ·have:x≠y:=fun z=>AJ (kR hN e1 (z▸hj))
      exact .inl ⟨k1,by simp [this,q]⟩
     ·exact .inr ⟨k1,c,q,z.sameBut sb (J.xq x c q)⟩
   ·obtain ⟨w',z⟩:=J.cell x c q
    exact ⟨w',z.sameBut sb (J.xq x c q)⟩
   ·obtain ⟨q,n,ne,nf,d⟩:=J.pin p hp
    exact ⟨kp _ _ ne q,n,ne,nf,d⟩
   ·refine (J.hok b u q).stay (fun c w' hc g=>kp c w' ?_ g) (fun _ g=>g) fun _ _ g=>g
    rcases hc with rfl | hc
    ·exact nT q
    ·exact nT hc
  cases f with
  | next=>
   obtain ⟨σ',H',J,q⟩:=q4
   exact gone J fun s5 I5=>⟨_,_,I5,q⟩
  | brk=>
   obtain ⟨σ',H',J,q⟩:=q4
   exact gone J fun s5 I5=>⟨_,_,I5,q⟩
  | cont=>
   obtain ⟨σ',H',J,q⟩:=q4
   exact gone J fun s5 I5=>⟨_,_,I5,q⟩
  | ret u=>
   obtain ⟨v,σ',H',J,rv,q⟩:=q4
   exact gone J fun s5 I5=>⟨v,_,_,I5,rv,q⟩
end
theorem Ue {C' e:Addr} {d d':Option Addr} (h:jx C d e=jx C' d' e):C=C'/\d=d':=by
 have h1:=HO.ext.inj h
 let hp:Heap:={objs:=Array.replicate (e+1) {cls:=.ref C,dict:=d,data:=.fields #[]}}
 have g:hp.get? e=some {cls:=.ref C,dict:=d,data:=.fields #[]}:=by
  rw [Heap.get?_some_iff]
  exact ⟨by simp [hp],rfl⟩
 have h2:∃ vs:Array Value,hp.get? e=some {cls:=.ref C',dict:=d',data:=.fields vs}:=(congrFun h1 hp)▸⟨_,g⟩
 obtain ⟨vs,q⟩:=h2
 rw [g] at q
 injection q with q
 injection q with a b
 injection a with a
 exact ⟨a,b⟩
def C3 (P:Program) (w:World) (K:Frag) (mg:Str->Option Value) (base:Heap) (k:Nat) (x:Str) (ps:List Str) (sp:Sp):Prop:=
 ∃ (f:Addr) (fd:FuncData),kg P w K mg base (vh P w) k f fd ps sp/\mg x=some (.ref f)/\keepIn K (.ref f)=true/\Binds K fd ps []
section
variable {k:Nat} {sp:Sp} {p epos pos yp:Pos} {ta:TA} {h0:ExceptHandler} {hs:List ExceptHandler} {th:Addr->Addr->Option Addr->TS}
abbrev Ht (th:Addr->Addr->Option Addr->TS) (D:Ends) (σ:St):XK:=fun ev dct H2=>∀ e C,ev=.ref e->H2 e=some (jx C dct e)->th e C dct D σ H2
theorem x5 {D:Ends} {Q:VK} {R:Value->Shared->Prop} (F:C3 X.prog X.w X.K X.mg X.base k x ps sp) (hr:c_ k X.A) (hg:Gl X x) (ha:PA X.qx (e::es) ta) (hh:PH X (h0::hs) th) (ef:X.stack=X.env::X.outer) (ki:X.env.frame=some X.env.locals)
  (I:Inv X pins σ H s) (h:ta σ H fun vs H1=>sp vs H1 Q (Ht th D σ)) (k1:∀ v u H2 s2,Inv X pins σ H2 s2->RelV v u->Q v H2->R u s2)
  (e_:(x==("__debug__":Str))=false) (he:starEach (e::es) X.env=(false,eval e X.env)::starEach es X.env) (hpl:(backTo cpos (starEach es X.env)).any (·.1)=false):
  wpAny (model X.prog X.w) X.A (eval (.Call (.Name x p) (e::es) [] cpos) X.env) R (fun ev s1=>wpAny (model X.prog X.w) X.A (noteFrame ev X.env) (fun _ s₂=>wpAny (model X.prog X.w) X.A (setFlight ev none) (fun _ s₃=>wpAny (model X.prog X.w) X.A (handleBy ev X.env (h0::hs)) (SP X pins D) X.xe s₃) X.xe s₂) X.xe s1) s:=by
 obtain ⟨f,fd,F,hm,hk,hb⟩:=F
 refine wpAny_Call_Name_kw (fJ I hg hm ?_ e_)
 have In:Inv X.qx pins σ H s:=⟨⟨I.ok.mod,I.ok.kind,I.ok.glob,I.ok.blt,I.ok.above,I.ok.inj,I.ok.has,I.ok.Al,I.ok.hd,I.ok.frames,I.ok.Ba,I.ok.DS,I.ok.bs,I.ok.ue,I.ok.Am,I.ok.Bb,I.ok.mw,I.ok.xo⟩,I.os,I.bare,I.base,I.loc,I.cell,I.free,I.k_,I.pin,I.hok,I.len⟩
 refine callWith_K (h₀:=X.base) I.ok.mod.A_ hk (wpAny_mono (ha cpos pins s σ H _ In h) (fun us s1 q=>?_) fun _ _ z=>z.elim) he hpl
 obtain ⟨vs,H1,I1,r,q⟩:=q
 have I1:Inv X pins σ H1 s1:=⟨I.ok,I1.os,I1.bare,I1.base,I1.loc,I1.cell,I1.free,I1.k_,I1.pin,I1.hok,I1.len⟩
 refine ⟨I1.cu,?_⟩
 have hl:us.length=ps.length:=by rw [<- r.length];exact F.len _ _ _ _ q
 refine wpAny_call (codeAny_mono (F.run X.A X.stack s1 H1 ⟨us,[]⟩ us vs Q (Ht th D σ) hr I1.D9 (by have:=hb s1 us I1.cu (by simpa using hl);simpa using this) r q) fun r s' hq=>?_)
 cases r with
 | error ev=>exact vm I1 ef ki hq fun e C dct H' s2 ee I2 cz q' fl=>by subst ee;exact hh pins s2 σ H' D e C dct I2 cz fl (q' e C rfl cz)
 | ok fl=>
  cases fl with
  | ret u=>
   obtain ⟨v,H2,I2,rv,q2⟩:=I1.after hq
   exact k1 v u H2 s' I2 rv q2
  | next=>exact hq.elim
  | brk=>exact hq.elim
  | cont=>exact hq.elim
def Ld (sp:Sp) (ta:TA) (th:Addr->Addr->Option Addr->TS):TS:=fun D σ H=>ta σ H fun vs H1=>sp vs H1 (fun _ H2=>D.nx σ H2) (Ht th D σ)
theorem zX (F:C3 X.prog X.w X.K X.mg X.base k x ps sp) (hr:c_ k X.A) (hg:Gl X x) (ha:PA X.qx (e::es) ta) (hh:PH X (h0::hs) th) (ef:X.stack=X.env::X.outer) (ki:X.env.frame=some X.env.locals)
  (e_:(x==("__debug__":Str))=false:=by decide) (he:starEach (e::es) X.env=(false,eval e X.env)::starEach es X.env:=by rfl) (hpl:(backTo cpos (starEach es X.env)).any (·.1)=false:=by rfl)
  (yb:swapsWith (.Call (.Name x p) (e::es) [] cpos) none epos.line X.env=pure false:=by rfl):PS X (.Try [.Expr (.Call (.Name x p) (e::es) [] cpos) epos] (h0::hs) [] [] pos) (Ld sp ta th):=by
 intro pins s σ H D I h
 refine wpAny_Try_except (wpAny_execs_cons (wpAny_Expr_any (x5 (Q:=fun _ H2=>D.nx σ H2) F hr hg ha hh ef ki I h (fun v u H2 s2 I2 _ q=>?_) e_ he hpl) I.quiet yb))
 exact wpAny_execs_nil (wpAny_execs_nil ⟨σ,H2,I2,q⟩)
end
end L2
namespace L2
open PySem PySem.Spec PySem.W PyProof.Rows
section
variable {H1:Hp} {o:HO} {fs ex:List Addr}
theorem bf.there (x:bf P w H h a o):∃ ob,h.get? a=some ob:=by
 cases o with
 | lst xs=>obtain ⟨_,_,_,_,e⟩:=x;exact ⟨_,e⟩
 | tup xs=>obtain ⟨_,_,_,o,e,_⟩:=x;exact ⟨_,e⟩
 | dK kvs=>obtain ⟨_,_,_,_,o,_,_,e,_⟩:=x;exact ⟨_,e⟩
 | dT kvs=>obtain ⟨_,_,_,_,o,_,_,e,_⟩:=x;exact ⟨_,e⟩
 | set S n=>obtain ⟨o,_,_,_,e,_⟩:=x;exact ⟨_,e⟩
 | ins C dx fs=>obtain ⟨_,_,_,e,_⟩:=x;exact ⟨_,e⟩
 | own y=>exact x
 | xd fs=>obtain ⟨_,⟨_,_,_,e,_⟩,_⟩:=x;exact ⟨_,e⟩
 | DR lo hi=>obtain ⟨_,_,_,e⟩:=x;exact ⟨_,e⟩
 | af ob u=>obtain ⟨e,_⟩:=x;exact ⟨_,e⟩
 | yq ps=>exact ⟨_,x⟩
 | met f y=>exact ⟨_,x⟩
 | ext φ=>exact x.2.1
theorem b_.free (x:b_ P w H h) (e:h.get? a=none):H a=none:=by
 cases q:H a with
 | none=>rfl
 | some u=>obtain ⟨ob,z⟩:=(x a u q).there;rw [e] at z;cases z
theorem b_.more (x:b_ P w H h) (k:∀ b u,h.get? b=some u->h'.get? b=some u) (hn:H a=none) (new:bf P w (upd H a o) h' a o):b_ P w (upd H a o) h':=fun b u e=>by
 by_cases hb:b=a
 ·subst hb;rw [aA] at e;cases e;exact new
 ·rw [aF hb] at e
  exact (x b u e).stay (fun c v _ q=>k c v q) (fun c q=>by rw [aF (aP q hn)];exact q) fun c xs q=>q.upd fun u hu=>aP hu hn
theorem Un.more (u:Un fs ex H H1 h h') (e:h.get? a=none) (hn:H1 a=none):Un fs ex H (upd H1 a o) h h' where
 keep:=u.keep
 slot:=u.slot
 free:=fun b ob q n hx=>by rw [aF fun z=>by rw [z,e] at q;cases q];exact u.free b ob q n hx
 there:=u.there
 tups:=fun b xs q=>by have:=u.tups b xs q;rw [aF (aP this hn)];exact this
 jy:=fun b ob xs q=>by have:=u.jy b ob xs q;rw [aF (aP this hn)];exact this
 ky:=fun b ps q=>by obtain ⟨m,this⟩:=u.ky b ps q;exact ⟨m,by rw [aF (aP this hn)];exact this⟩
end
def C4 (K:Frag) (N:Addr):Option (Option Value):=match K.lookup N with
 | some ⟨_,_,.dict es _,_⟩=>if es.all (fun e=>match e.key with | .str _ _=>true | _=>false) then some (nsFind es "__init__") else none
 | _=>none
def C5 (K:Frag):List Addr->Bool
 | []=>true
 | A::l=>(match K.lookup A with | some ⟨_,_,.cls cd,_⟩=>C4 K cd.ns==some none | _=>false)&&C5 K l
def se (K:Frag) (C:Addr) (own:List Addr) (jn:Option Value):Bool:=match K.lookup C with
 | some ⟨c,_,.cls cd,sl⟩=>c==.type "type"&&(cd.mro==.ref C::sd own&&(!cd.hasDel&&(cd.hasDict&&(sl.size==6&&(sl[4]?==some (some (.builtin "ValueError.__new__"))&&(C4 K cd.ns==some jn&&(C5 K own&&keepIn K (.ref C))))))))
 | _=>false
section
variable {K:Frag} {N:Addr} {own:List Addr} {jn:Option Value}
theorem rO (X:K.In h) (e:C4 K N=some jn):h.Ns N (h.nsMap N)/\h.nsMap N "__init__"=jn:=by
 unfold C4 at e
 split at e
 ·rename_i c d es ep sl lk
  split at e
  ·rename_i hs
   have g:=X _ _ lk
   refine ⟨.of_isNs ?_,?_⟩
   ·unfold Heap.isNs;rw [g];exact hs
   ·unfold Heap.nsMap;rw [g];exact QD e
  ·cases e
 ·cases e
theorem oH (X:K.In h):∀ {own:List Addr},C5 K own=true->OwnTail h EU (sd own)
 | [],_=>.base
 | A::l,e=>by
  unfold C5 at e
  rw [Bool.and_eq_true_iff] at e
  obtain ⟨e1,e2⟩:=e
  split at e1
  ·rename_i c d cd sl lk
   obtain ⟨n1,n2⟩:=rO X (beq_iff_eq.mp e1)
   exact .own (X _ _ lk) n1 n2 (oH X e2)
  ·cases e1
theorem iL (e:se K C own jn=true):∃ nm q N bs sn sub ab col dd k0 k1 k2 k3 k5,K.lookup C=some (excClassObj nm q C N bs (sd own) true sn sub ab col dd k0 k1 k2 k3 k5 "ValueError.__new__")/\C4 K N=some jn/\C5 K own=true/\keepIn K (.ref C)=true:=by
 unfold se at e
 split at e
 ·rename_i c d cd sl lk
  obtain ⟨nm,bs,mro,N,q,hdct,sn,sub,ab,col,Yb⟩:=cd
  simp only [Bool.and_eq_true,beq_iff_eq,Bool.not_eq_true'] at e
  obtain ⟨rfl,rfl,rfl,rfl,hsz,Gg,hn,hu,hk⟩:=e
  obtain ⟨l⟩:=sl
  obtain ⟨k0,k1,k2,k3,k5,rfl⟩:=six_places (l:=l) (by simpa using hsz) (by simpa using Gg)
  exact ⟨nm,q,N,bs,sn,sub,ab,col,d,k0,k1,k2,k3,k5,lk,hn,hu,hk⟩
 ·cases e
theorem j6 (e:se K C own jn=true):∃ cd,clsIn K C=some cd/\cd.mro=sd (C::own)/\cd.hasDict=true:=by
 obtain ⟨nm,q,N,bs,sn,sub,ab,col,dd,k0,k1,k2,k3,k5,lk,_⟩:=iL e
 exact ⟨_,by unfold clsIn;rw [lk],rfl,rfl⟩
theorem lP (e:se K C own jn=true) (h:v∈EU):subIn K (.ref C) v=some true:=by
 obtain ⟨cd,h1,h2,_⟩:=j6 e
 show mroIn K C v=_
 unfold mroIn
 rw [h1,Option.bind_some,h2,if_neg (by simp [sd]),g6 h]
theorem Ug (e:se K C own jn=true):EX K C:=by
 obtain ⟨cd,h1,_⟩:=j6 e
 obtain ⟨nm,q,N,bs,sn,sub,ab,col,dd,k0,k1,k2,k3,k5,lk,_⟩:=iL e
 exact ⟨by show (K.lookup C).map _=_;rw [lk];rfl,by show (fastBuiltinMro "type").map _=_;decide+kernel,⟨cd,h1⟩,lP e (by decide)⟩
end
section
variable {K:Frag} {e:Addr} {ox:Obj} {od:Option Obj} {expr:Bool}
theorem Uh (X:K.In s.heap) (I:InstAt s.heap e ox C od) (GY:findIn K (.ref C) "__getattribute__"=some (some (.builtin "BaseException.__getattribute__"))) (hk:findIn K (.ref C) "__getattr__"=some none)
  (sub:subIn K (.ref C) (.type "BaseException")=some true) (hf:findObj K C od name=some (.value v)) (hh:handedIn v=true) (h:Q v {s with toks:=s.toks+1}):wpAny (model P w) A (getAttr (.ref e) name expr) Q E s:=by
 have ht:Looks (model P w) s.heap (typeOf (.ref e)) (.ref C):=I.type
 refine QS (wpAny_mkText (wpAny_holding (QS (ht _ _ _ _ (fun _ _ e=>e) (QS (looks_findIn X GY _ _ _ _ (fun _ _ e=>e) ?_))))))
 dsimp only
 rw [show (onTheHeap (.ref C)&&Value.builtin "BaseException.__getattribute__"==Value.builtin "object.__getattribute__")=false from by rw [show (Value.builtin "BaseException.__getattribute__"==Value.builtin "object.__getattribute__")=false from by decide+kernel,Bool.and_false],if_neg (by decide)]
 have hb:Looks (model P w) s.heap (hookBefore (.ref C)) none:=by
  unfold hookBefore;rw [if_pos (by rfl)];exact looks_findIn X hk
 refine QS (hb _ _ _ _ (fun _ _ e=>e) (QS (wpAny_attempt (wpAny_holding ?_))))
 unfold callGetattribute
 rw [show (expr&&onTheHeap (Value.builtin "BaseException.__getattribute__"))=false from Bool.and_false _,if_neg (by decide)]
 unfold boundAndCalled
 rw [PySem.F.attr_ValueError.ga.bind]
 refine QS (QT ?_)
 show wpAny _ _ (call (.builtin "BaseException.__getattribute__") [.ref e,.str name s.toks]) _ _ _
 refine wpAny_call ?_
 refine codeAny_call_builtin PySem.F.attr_ValueError.ga.plain PySem.F.entry_bexc_ga ?_
 refine @check_slot (model P w) _ _ {s with toks:=s.toks+1} "BaseException.__getattribute__" "BaseException" "__getattribute__" (.ref e) [.str name s.toks] [] _ (by decide+kernel) (by decide+kernel) (ht.andThen (looks_subIn X sub)) (PySem.F.args_bexc_ga (.ref e) (.str name s.toks)) ?_
 have L1:=looks_find (M:=model P w) X I hf
 unfold Builtin.«object.__getattribute__»
 refine QS (QT (QS (QT (QS (ht _ _ _ _ (fun _ _ e=>e) (QS (L1 _ _ _ _ (fun _ _ e=>e) ?_)))))))
 refine QT ?_
 show wpAny _ _ (handedOut v) _ _ _
 rw [handedOut_of hh];exact QT h
end
def Le (C:Addr) (sp:Sp) (ta:TA) (E:XK):TS:=fun _ σ H=>ta σ H fun vs H1=>vs.length<=1000/\∀ e,H1 e=none->sp (.ref e::vs) (upd H1 e (jf C none e)) (fun v H2=>v=.ao/\∃ dct,H2 e=some (jf C dct e)/\E (.ref e) dct (upd H2 e (jx C dct e))) E0
section
variable {K:Frag} {cd:Value} {s0:Shared} {E:XK} {own:List Addr} {np pos:Pos} {e1:Expr} {ta:TA}
theorem Inv.Ui {e:Addr} (I:Inv X pins σ H s) (m:Heap.MadeExcOf s.heap h' e (.ref C) us):H e=none/\Inv X pins σ (upd H e (jf C none e)) {s with heap:=h'}:=by
 have hn:=I.hok.free m.new
 obtain ⟨t,ht,_,_⟩:=m.there
 exact ⟨hn,I.un (t':=s.toks) (Un.more (Un.kept m.keeps) m.new hn) (I.hok.more m.keeps hn (sH ⟨t,ht⟩))⟩
theorem wM {k:Nat} {fI:Addr} {sp:Sp} (hx:se K C own (some (.ref fI))=true) (hf:isFn K (.ref fI)=true) (F:kg P w K mg base q_ k fI fd ps sp) (hb:Binds K fd ps []) (hr:c_ (k+1) (A.deeper (envOfC qual scope s0.heap.objs.size f cd))) (hm:mg x=some (.ref C)) (hg:Gl (jd (vh P w) P w K mg base N qual scope f cd A outer s0 H0 E) x) (ha:PA (jd (vh P w) P w K mg base N qual scope f cd A outer s0 H0 E) (e1::es) ta)
  (e_:(x==("__debug__":Str))=false:=by decide) (he:starEach (e1::es) (envOfC qual scope s0.heap.objs.size f cd)=(false,eval e1 (envOfC qual scope s0.heap.objs.size f cd))::starEach es (envOfC qual scope s0.heap.objs.size f cd):=by rfl)
  (hpl:(backTo cpos (starEach es (envOfC qual scope s0.heap.objs.size f cd))).any (·.1)=false:=by rfl):PS (jd (vh P w) P w K mg base N qual scope f cd A outer s0 H0 E) (.Raise (some (.Call (.Name x np) (e1::es) [] cpos)) none pos) (Le C sp ta E):=by
 intro pins s σ H D I h
 obtain ⟨nm,q,N',bs,sn,sub,ab,col,dd,k0,k1,k2,k3,k5,lk,hn,hu,hk⟩:=iL hx
 rw [arm_exec_Raise]
 refine QS (wpAny_standAt (xT (C:=C) (nm:=nm) (q:=q) (N:=N') (bs:=bs) (bm:=sd own) (hdct:=true) (sn:=sn) (sub:=sub) (ab:=ab) (col:=col) (dd:=dd) (k0:=k0) (k1:=k1) (k2:=k2) (k3:=k3) (k5:=k5) (newId:="ValueError.__new__") (g6 (by decide) _) (I.ok.hd rfl) (QS (aj (t:=eval (.Call (.Name x np) (e1::es) [] cpos) _) ?_ fun v s3 h3=>QS (wpAny_standAt (QT h3))))))
 refine wpAny_Call_Name_kw (fJ I hg hm ?_ e_)
 refine callWith_K (h₀:=base) I.ok.mod.A_ hk (aj (ha cpos pins s σ H _ I h) fun us s1 ⟨vs,H1,I1,r,hl,qe⟩=>⟨I1.cu,?_⟩) he hpl
 obtain ⟨n1,n2⟩:=rO I1.cu hn
 have T:=oH I1.cu hu
 have hC:=I1.cu _ _ lk
 have FV:=PySem.F.excBase_ValueError
 obtain ⟨oI,Uj,Uk⟩:∃ o,K.lookup fI=some o/\o.cls=.type "function":=by
  have e:=beq_iff_eq.mp hf
  exact Option.map_eq_some_iff.mp (show (K.lookup fI).map (·.cls)=some (.type "function") from e)
 obtain ⟨hp,g,d,tk,os⟩:=s1
 refine TQ FV FV.hasB FV T hC n1 n2 (I1.cu _ _ Uj) Uk (by show us.length<=_;rw [<- r.length,QL];omega) fun h' e m=>?_
 obtain ⟨jl,I2⟩:=I1.Ui m
 have q:=qe e jl
 have r2:a_ (V.ref e::vs) (Value.ref e::us):=.cons rfl r
 have ly:(Value.ref e::us).length=ps.length:=by rw [<- r2.length];exact F.len _ _ _ _ q
 refine wpAny_call (codeAny_mono (F.run _ _ _ _ ⟨Value.ref e::us,[]⟩ (Value.ref e::us) _ _ E0 (hr.make C us []) (I2.D9.make C us []) (by have:=hb _ (Value.ref e::us) I2.cu (by simpa using ly);simpa using this) r2 q) fun r s' hq=>?_)
 cases r with
 | error e=>exact hq.elim
 | ok fl=>
  cases fl with
  | ret u=>
   obtain ⟨v,H',I3,rv,ev,dct,cz,q3⟩:=I2.after hq
   subst ev
   obtain ⟨t,ht⟩:qo s'.heap e C dct:=(show bf P w H' s'.heap e (jf C dct e) from I3.hok e _ cz).1
   exact ⟨rv,e,t,dct,rfl,I3.cu _ _ lk,ht,y4 I3 cz q3⟩
  | next=>exact hq.elim
  | brk=>exact hq.elim
  | cont=>exact hq.elim
end
structure oz (K:Frag) (C:Addr):Prop where
 ga:findIn K (.ref C) "__getattribute__"=some (some (.builtin "BaseException.__getattribute__"))
 gk:findIn K (.ref C) "__getattr__"=some none
 sa:findIn K (.ref C) "__setattr__"=some (some (.builtin "object.__setattr__"))
 ic:findIn K (.ref C) "__class__"=some (some (.builtin "object.__class__"))
 xc:∃ own jn,se K C own jn=true
structure Lf (K:Frag) (B:Addr):Prop where
 sp:specialIn K (.ref B) "__getattribute__"=some (some (.builtin "type.__getattribute__"))
 rd:readsIn K B (.type "type")=true
 fc:∃ v,findCls K (.ref B) (.type "type") "__init__"=some (.val v)/\v=.builtin "ValueError.__init__"
def Lh (K:Frag) (ta:TA):TE:=fun σ H Q=>ta σ H fun vs H1=>∃ e C dct rest,vs=.ref e::rest/\rest.length<=1000/\oz K C/\H1 e=some (jf C dct e)/\Q .ao H1
def Li (K:Frag) (ta tv:TE) (f:Str):TS:=fun D σ H=>tv σ H fun y H1=>ta σ H1 fun x H2=>∃ e C,x=.ref e/\H2 e=some (jf C none e)/\oz K C/\findIn K (.ref C) f=some none/\∀ dx,H2 dx=none->D.nx σ (upd (upd H2 e (jf C (some dx) e)) dx (.xd [(f,y)]))
section
variable {B:Addr} {b:Str} {bp pos pos':Pos} {o value:Expr} {tv:TE} {t:TA} {f:Str}
theorem zR {pl:Sem Bool} (N:Lf X.K B) (hm:X.mg b=some (.ref B)) (hg:Gl X b) (ha:PA X (e::es) t) (e_:(b==("__debug__":Str))=false:=by decide)
  (ef:starEach (e::es) X.env=(false,eval e X.env)::starEach es X.env:=by rfl) (hpl:(backTo pos (starEach es X.env)).any (·.1)=false:=by rfl)
  (ht:eval (.Call (.Attribute (.Name b bp) "__init__" apos) (e::es) [] pos) X.env=(do
   let ov <- eval (.Name b bp) X.env
   standAt apos.atName
   let (f,first) <- holding [ov] (getMethod ov "__init__" pl)
   callWith pos f first (backTo pos (starEach (e::es) X.env)) (backToKw pos (keywordEach [] X.env))):=by rfl):PE X (.Call (.Attribute (.Name b bp) "__init__" apos) (e::es) [] pos) (Lh X.K t):=by
 intro pins s σ H Q I h
 refine methodCall_KW (pl:=pl) (fJ I hg hm ?_ e_) ht
 obtain ⟨v,fc,rfl⟩:=N.fc
 refine method_cls I.cu N.sp (cls_value I.cu N.rd fc (by decide+kernel) ?_)
 have hA:=ha pos pins _ σ H _ (I.tok (s.toks+1)) h
 rw [ef] at hA ⊢
 refine Calls.callWith_builtin (by show (false||(backTo pos (starEach es X.env)).any (·.1))=false;rw [hpl]<;>rfl) (Calls.evalArgs_plain ?_)
 refine aj hA ?_
 rintro us s2 ⟨vs,H2,I2,r2,e,C,dct,rest,ev,hl,xa,he,q⟩
 subst ev
 obtain ⟨u0,yg,rfl,r0,r1⟩:∃ u0 yg,us=u0::yg/\RelV (.ref e) u0/\a_ rest yg:=by cases r2 with | cons a b=>exact ⟨_,_,rfl,a,b⟩
 obtain rfl:u0=Value.ref e:=r0
 obtain ⟨own,jn,hx⟩:=xa.xc
 obtain ⟨nm,q',N',bs,sn,sub,ab,col,dd,k0,k1,k2,k3,k5,lk,hn,hu,hk⟩:=iL hx
 have T:=oH I2.cu hu
 have hC:=I2.cu _ _ lk
 have hE:qo s2.heap e C dct:=(show bf X.prog X.w H2 s2.heap e (jf C dct e) from I2.hok e _ he).1
 obtain ⟨hp,g,d,tk,os⟩:=s2
 refine TU PySem.F.excBase_ValueError T hC hE (by show yg.length<=_;rw [<- r1.length,QL];omega) fun h' k1 x1=>⟨.ao,H2,?_,rfl,q⟩
 have:=I2.write (x:=e) (e:=e) (o:=jf C dct e) (t':=tk) (by rw [he];exact True.intro) (.inl rfl) k1 (let ⟨_,z⟩:=x1;⟨_,z⟩) (sH x1)
 rw [iN he] at this
 exact this
theorem Ul (ha:PE X o ta) (hv:PE X value tv) (hs:swapsWith value (some (.Attribute o f pos')) pos.line X.env=pure false):PS X (.Assign [.Attribute o f pos'] value pos) (Li X.K ta tv f):=by
 intro pins s σ H D I h
 refine plainObj_wpAny_Assign_Attribute (aj (hv pins s σ H _ I h) fun u s1 ⟨y,H1,I1,ry,q⟩=>aj (ha pins s1 σ H1 _ I1 q) fun ov s2 ⟨x,H2,I2,rx,e,C,ex,he,xa,na,q2⟩=>?_) hs
 subst ex
 obtain rfl:ov=Value.ref e:=rx
 obtain ⟨own,jn,hx⟩:=xa.xc
 obtain ⟨cd,c1,c2,c3⟩:=j6 hx
 have hE:qo s2.heap e C none:=(show bf X.prog X.w H2 s2.heap e (jf C none e) from I2.hok e _ he).1
 refine TV I2.cu hE c1 c2 c3 xa.sa na fun h' dx tk hd kp x1 nd=>?_
 have jm:=I2.hok.free hd
 have Um:dx≠e:=fun z=>by rw [z,he] at jm;cases jm
 have mu:A9 (H2 e):=by rw [he];exact True.intro
 have xm:∃ u,h'.get? e=some u:=let ⟨_,z⟩:=x1;⟨_,z⟩
 have hn1:upd H2 e (jf C (some dx) e) dx=none:=by rw [aF Um];exact jm
 refine ⟨σ,upd (upd H2 e (jf C (some dx) e)) dx (.xd [(f,y)]),I2.un (Un.more (Un.write mu (.inl rfl) kp xm) hd hn1) (b_.more (I2.hok.write mu (.inl rfl) kp xm (sH x1)) (fun _ _ z=>z) hn1 ?_),q2 dx jm⟩
 refine ⟨_,nd,fun g=>?_⟩
 rw [List.lookup_cons]
 by_cases z:g=f
 ·subst z;simp [jh,ry]
 ·rw [if_neg z,show (g==f)=false from beq_false_of_ne z];exact True.intro
end
end L2
namespace L2
open PySem PySem.Spec PyProof.Rows
section
variable {pos:Pos}
end
abbrev EY:=List (Str×Option (Str×List Str))
def Uo (row:Str) (cb:EY) (ms:List (List Str×Str)):EY:=ms.foldl (fun cb m=>if m.2∈cb.map (·.1) then cb else cb++[(m.2,some (row,m.1))]) cb
def BQ (rows:List ae) (f:Str):Nat->EY
 | 0=>[(f,none)]
 | i+1=>match (BQ rows f i)[i]? with
  | none=>BQ rows f i
  | some c=>Uo c.1 (BQ rows f i) (bh rows c.1)
theorem nE:∀ {l m:List Str},l.Nodup->(∀ x∈l,x∈m)->l.length<=m.length
 | [],m,_,_=>Nat.zero_le _
 | a::l,m,nd,h=>by
  have ha:=h a List.mem_cons_self
  have h1:=nE (l:=l) (m:=m.erase a) (List.nodup_cons.mp nd).2 fun x hx=>(List.mem_erase_of_ne (show x≠a from fun z=>(List.nodup_cons.mp nd).1 (by rw [<- z];exact hx))).mpr (h x (Qh _ hx))
  rw [List.length_erase_of_mem ha] at h1
  have hp:=List.length_pos_of_mem ha
  rw [List.length_cons]
  omega
section
variable {iter kx vx:Expr} {tc:TC} {pos:Pos} {wi:TI} {g:TG} {tk tw:TE}
end
def hv (hs:List (Str×Nat)) (y:Str):Nat:=((hs.find? fun q=>decide (q.1=y)).map (·.2)).getD 0
section
variable {o:Expr} {p Up:Pos}
end
section
variable {o f:Expr} {td ty tx:TE}
end
end L2
namespace L2
open PySem PySem.Spec PySem.W PyProof.Rows
section
variable {o:Expr} {t:TA} {m:Str} {pos p:Pos} {k:Nat} {sp:Sp}
end
section
variable {K:Frag}
end
section
variable {c1 c2:Str} {j1 j2:Nat} {p1 p2 p3 pos:Pos} {t:TA}
end
section
variable {CC:Addr}
end
structure EZ (K:Frag) (mg:Str->Option Value) (x:Str):Prop where
 m:mg x=some (.ref (adr mg x))
 at_:oz K (adr mg x)
 xc:∃ own,se K (adr mg x) own none=true
 ni:Lf K (adr mg x)
structure BR (K:Frag) (mg:Str->Option Value) (x q:Str) (st:Stmt) (ps fs:List Str):Prop where
 m:mg x=some (.ref (adr mg x))
 at_:oz K (adr mg x)
 na:∀ f∈fs,uq K (adr mg x) f
 ex:∃ own f fd,se K (adr mg x) own (some (.ref f))=true/\isFn K (.ref f)=true/\xx K "__init__" q st f fd/\Binds K fd ps []
theorem oz.nm {K:Frag} (x:oz K C):EX K C:=let ⟨_,_,h⟩:=x.xc;Ug h
def Hu (P:Program) (w:World) (K:Frag) (mg:Str->Option Value) (base:Heap) (k:Nat) (x:Str) (ps:List Str) (sp:Sp):Prop:=
 mg x=some (.ref (adr mg x))/\∃ own f fd,se K (adr mg x) own (some (.ref f))=true/\isFn K (.ref f)=true/\kg P w K mg base q_ k f fd ps sp/\Binds K fd ps []
section
variable {K:Frag} {q:Str} {st:Stmt} {fs:List Str} {k:Nat} {sp:Sp}
theorem BR.fg (F:BR K mg x q st ps fs) (S:dc N ps (az st)) (len:∀ vs H Q E,sp vs H Q E->vs.length=ps.length)
  (qb:∀ (f:Addr) (av:Value) (A:Around) (outer:List Env) (s:Shared) (H:Hp) (vs:List V) (Q:VK) (E:XK),c_ k (A.deeper (envOfC q (az st) s.heap.objs.size f av))->sp vs H Q E->
   ∃ t,SB (jd q_ P w K mg base N q (az st) f av A outer s H E).qx (ig st) t/\t {nx:=fun _ H'=>Q .ao H',rt:=Q} (start N vs) H):Hu P w K mg base (k+1) x ps sp:=by
 obtain ⟨own,f,fd,h1,h2,Fu,b⟩:=F.ex
 exact ⟨F.m,own,f,fd,h1,h2,Fu.ok S len fun av A outer s H vs Q E hr h=>let ⟨t,h1,h2⟩:=qb f av A outer s H vs Q E hr h;⟨t,h1.h,h2⟩,b⟩
theorem di.Uq (F:di K mg x st ps) (S:dc N ps (az st)) (len:∀ vs H Q E,sp vs H Q E->vs.length=ps.length)
  (qb:∀ (f:Addr) (av:Value) (A:Around) (outer:List Env) (s:Shared) (H:Hp) (vs:List V) (Q:VK) (E:XK),c_ k (A.deeper (envOfC x (az st) s.heap.objs.size f av))->sp vs H Q E->
   ∃ t,SB (jd (vh P w) P w K mg base N x (az st) f av A outer s H E) (ig st) t/\t {nx:=fun _ H'=>Q .ao H',rt:=Q} (start N vs) H):C3 P w K mg base (k+1) x ps sp:=by
 obtain ⟨f,fd,Fu,m,b⟩:=F
 obtain ⟨oc,od,kV,doc,pm,an,av,ct,ia,rfl,lk,jp⟩:=Fu.ex
 refine ⟨f,_,JP lk jp S len fun A outer s H vs Q E hr wo=>?_,m,Fu.kp,b⟩
 obtain ⟨t,h,q⟩:=qb f av A outer s H vs Q E hr wo
 exact ⟨t,h.h,q⟩
end
section
variable {K:Frag} {cd:Value} {s0:Shared} {E:XK} {np pos:Pos} {e1:Expr} {ta:TA}
theorem yS {k:Nat} {sp:Sp} (F:Hu P w K mg base k x ps sp) (hr:c_ (k+1) (A.deeper (envOfC qual scope s0.heap.objs.size f cd))) (ha:SA (jd (vh P w) P w K mg base N qual scope f cd A outer s0 H0 E) (e1::es) ta) (hg:Gl (jd (vh P w) P w K mg base N qual scope f cd A outer s0 H0 E) x:=by rfl)
  (e_:(x==("__debug__":Str))=false:=by decide) (he:starEach (e1::es) (envOfC qual scope s0.heap.objs.size f cd)=(false,eval e1 (envOfC qual scope s0.heap.objs.size f cd))::starEach es (envOfC qual scope s0.heap.objs.size f cd):=by rfl)
  (hpl:(backTo cpos (starEach es (envOfC qual scope s0.heap.objs.size f cd))).any (·.1)=false:=by rfl):SS (jd (vh P w) P w K mg base N qual scope f cd A outer s0 H0 E) (.Raise (some (.Call (.Name x np) (e1::es) [] cpos)) none pos) (Le (adr mg x) sp ta E):=by
 obtain ⟨m,own,fI,fd,h1,h2,G,b⟩:=F
 exact ⟨wM h1 h2 G b hr m hg ha.h e_ he hpl⟩
end
structure SH (X:Cx) (hs:List ExceptHandler) (th:Addr->Addr->Option Addr->TS):Prop where
 h:PH X hs th
section
variable {c b f:Str} {cp pos bp p epos yp pos':Pos} {b0:Stmt} {C2:List Stmt} {rest:List ExceptHandler} {k:Nat} {ts:TS} {th:Addr->Addr->Option Addr->TS} {o value:Expr} {tv:TE} {t:TA} {sp:Sp} {h0:ExceptHandler}
theorem Ur:SH X [] Lb:=⟨Uc⟩
theorem Us (hm:X.mg c=some (.ref (adr X.mg c))) (N:oz X.K (adr X.mg c)) (hN:X.N.Nodup) (hj:X.N[j]? =some y) (hy:X.env.scope.names.lookup y=some .local) (hs:∀ e,SB (X.vm e) (b0::C2) ts) (hr:SH X rest th) (hg:Gl X c:=by rfl) (hd:(c==("__debug__":Str))=false:=by decide):SH X (.ExceptHandler (some (.Name c cp)) (some y) (b0::C2) pos::rest) (Lc X.K (adr X.mg c) j ts th):=⟨Ud hg hm N.nm hN hj hy (fun e=>(hs e).h) hr.h hd⟩
theorem Ut (F:C3 X.prog X.w X.K X.mg X.base k x ps sp) (hr:c_ k X.A) (ha:SA X.qx (e::es) t) (hh:SH X (h0::rest) th) (ef:X.stack=X.env::X.outer:=by rfl) (ki:X.env.frame=some X.env.locals:=by rfl) (hg:Gl X x:=by rfl)
  (e_:(x==("__debug__":Str))=false:=by decide) (he:starEach (e::es) X.env=(false,eval e X.env)::starEach es X.env:=by rfl) (hpl:(backTo cpos (starEach es X.env)).any (·.1)=false:=by rfl)
  (yb:swapsWith (.Call (.Name x p) (e::es) [] cpos) none epos.line X.env=pure false:=by rfl):SS X (.Try [.Expr (.Call (.Name x p) (e::es) [] cpos) epos] (h0::rest) [] [] pos) (Ld sp t th):=⟨zX F hr hg ha.h hh.h ef ki e_ he hpl yb⟩
theorem Uu {pl:Sem Bool} (K:Frag) (c:EZ K X.mg b) (ha:SA X (e::es) t) (hK:X.K=K:=by rfl) (hg:Gl X b:=by rfl) (e_:(b==("__debug__":Str))=false:=by decide)
  (ef:starEach (e::es) X.env=(false,eval e X.env)::starEach es X.env:=by rfl) (hpl:(backTo pos (starEach es X.env)).any (·.1)=false:=by rfl)
  (ht:eval (.Call (.Attribute (.Name b bp) "__init__" apos) (e::es) [] pos) X.env=(do
   let ov <- eval (.Name b bp) X.env
   standAt apos.atName
   let (f,first) <- holding [ov] (getMethod ov "__init__" pl)
   callWith pos f first (backTo pos (starEach (e::es) X.env)) (backToKw pos (keywordEach [] X.env))):=by rfl):SE X (.Call (.Attribute (.Name b bp) "__init__" apos) (e::es) [] pos) (Lh K t):=by
 subst hK
 exact ⟨zR c.ni c.m hg ha.h e_ ef hpl ht⟩
theorem Uv (K:Frag) (ha:SE X o ta) (hv:SE X value tv) (hK:X.K=K:=by rfl) (hs:swapsWith value (some (.Attribute o f pos')) pos.line X.env=pure false:=by rfl):SS X (.Assign [.Attribute o f pos'] value pos) (Li K ta tv f):=by subst hK;exact ⟨Ul ha.h hv.h hs⟩
end
structure yh where
 x:Str
 q:Str
 st:Option Stmt
 fs:List Str
def Lj (K:Frag) (C:Addr):List Addr:=match clsIn K C with
 | some cd=>cd.mro.tail.filterMap fun v=>match v with | .ref a=>some a | _=>none
 | none=>[]
def E1 (K:Frag) (C:Addr) (st:Option Stmt):Option Value:=match st with
 | none=>none
 | some _=>(findIn K (.ref C) "__init__").getD none
def Lk (K:Frag) (c:yh) (C:Addr):Bool×Option zf:=(se K C (Lj K C) (E1 K C c.st)&&(findIn K (.ref C) "__getattribute__"==some (some (.builtin "BaseException.__getattribute__"))&&(findIn K (.ref C) "__getattr__"==some none&&(findIn K (.ref C) "__setattr__"==some (some (.builtin "object.__setattr__"))&&(findIn K (.ref C) "__class__"==some (some (.builtin "object.__class__"))&&(CY K C c.fs&&
  (match c.st with
  | none=>specialIn K (.ref C) "__getattribute__"==some (some (.builtin "type.__getattribute__"))&&(readsIn K C (.type "type")&&(match findCls K (.ref C) (.type "type") "__init__" with | some (.val v)=>v==.builtin "ValueError.__init__" | _=>false))
  | some _=>(match findIn K (.ref C) "__init__" with | some (some v)=>isFn K v | _=>false))))))),match c.st with | none=>none | some _=>fnAt K c.q (findIn K (.ref C) "__init__"))
def BS (K:Frag):List yh->List (Option (Bool×Option zf))
 | []=>[]
 | c::l=>(match nsIn K mainGlobals c.x with | some (some (.ref C))=>some (Lk K c C) | _=>none)::BS K l
def BU:List yh->List (Option (Bool×Option zf))
 | []=>[]
 | c::l=>some (true,c.st.map fun st=>ye "__init__" c.q st)::BU l
def E2 (K:Frag):List (Str×Str×Bool)->List (Option Bool)
 | []=>[]
 | c::l=>(match nsIn K mainGlobals c.1,nsIn K mainGlobals c.2.1 with | some (some (.ref C)),some (some (.ref B))=>subIn K (.ref C) (.ref B) | _,_=>none)::E2 K l
def E3:List (Str×Str×Bool)->List (Option Bool)
 | []=>[]
 | c::l=>some c.2.2::E3 l
section
variable {K:Frag}
theorem pM:∀ {l:List yh},BS K l=BU l->∀ (i:Nat) {c:yh},l[i]? =some c->∃ C,nsIn K mainGlobals c.x=some (some (.ref C))/\Lk K c C=(true,c.st.map fun st=>ye "__init__" c.q st)
 | y::l,e,0,c,h=>by
  cases h
  have e1:=(List.cons.inj e).1
  split at e1
  ·rename_i C hC;exact ⟨C,hC,QD e1⟩
  ·cases e1
 | y::l,e,i+1,c,h=>pM (List.cons.inj e).2 i (by simpa using h)
theorem pT:∀ {l:List (Str×Str×Bool)},E2 K l=E3 l->∀ (i:Nat) {c:Str×Str×Bool},l[i]? =some c->∃ C B,nsIn K mainGlobals c.1=some (some (.ref C))/\nsIn K mainGlobals c.2.1=some (some (.ref B))/\subIn K (.ref C) (.ref B)=some c.2.2
 | y::l,e,0,c,h=>by
  cases h
  have e1:=(List.cons.inj e).1
  split at e1
  ·rename_i C B hC hB;exact ⟨C,B,hC,hB,e1⟩
  ·cases e1
 | y::l,e,i+1,c,h=>pT (List.cons.inj e).2 i (by simpa using h)
theorem cJ (X:K.In h) (G:h.Ns mainGlobals mg) {l:List (Str×Str×Bool)} (e:E2 K l=E3 l) (i:Nat) {a b:Str} {v:Bool} (hi:l[i]? =some (a,b,v):=by rfl):subIn K (.ref (adr mg a)) (.ref (adr mg b))=some v:=by
 obtain ⟨C,B,h1,h2,h3⟩:=pT e i hi
 have m1:=mg_of X G h1
 have m2:=mg_of X G h2
 unfold adr;rw [m1,m2];exact h3
theorem xU (X:K.In h) (G:h.Ns mainGlobals mg) {l:List yh} (e:BS K l=BU l) (i:Nat) {q:Str} {fs:List Str} (hi:l[i]? =some ⟨x,q,none,fs⟩:=by rfl):EZ K mg x:=by
 obtain ⟨C,hn,hc⟩:=pM e i hi
 have hm:=mg_of X G hn
 have ea:adr mg x=C:=by unfold adr;rw [hm]
 have hc:=(Prod.mk.inj hc).1
 simp only [Bool.and_eq_true,beq_iff_eq] at hc
 obtain ⟨c1,c2,c3,c4,c0,c5,c6,c7,c8⟩:=hc
 refine ⟨by rw [ea];exact hm,?_,?_,?_⟩<;>rw [ea]
 ·exact ⟨c2,c3,c4,c0,_,_,c1⟩
 ·exact ⟨_,c1⟩
 ·refine ⟨c6,c7,?_⟩
  split at c8
  ·rename_i v hv;exact ⟨v,hv,beq_iff_eq.mp c8⟩
  ·cases c8
theorem Uw (X:K.In h) (G:h.Ns mainGlobals mg) {l:List yh} (e:BS K l=BU l) (i:Nat) {q:Str} {st:Stmt} {fs:List Str} (hi:l[i]? =some ⟨x,q,some st,fs⟩)
  (hb:∀ (kV doc pm:Value) (an:Option Addr) (av ct:Value) (us:List Value),us.length=ps.length->bindArgs (fnOf "__init__" q (lz st) (ig st) (az st) .none kV doc pm an av ct) ⟨us,[]⟩=pure (ps.zip us)):BR K mg x q st ps fs:=by
 obtain ⟨C,hn,hc⟩:=pM e i hi
 have hm:=mg_of X G hn
 have ea:adr mg x=C:=by unfold adr;rw [hm]
 obtain ⟨hc,hf⟩:=Prod.mk.inj hc
 simp only [Bool.and_eq_true,beq_iff_eq] at hc
 obtain ⟨c1,c2,c3,c4,c0,c5,c6⟩:=hc
 obtain ⟨f,fd,e1,F⟩:=pA (show fnAt K q (findIn K (.ref C) "__init__")=some (ye "__init__" q st) from hf)
 rw [e1] at c6
 have ei:E1 K C (some st)=some (.ref f):=by unfold E1;rw [e1];rfl
 have c1:se K C (Lj K C) (E1 K C (some st))=true:=c1
 rw [ei] at c1
 refine ⟨by rw [ea];exact hm,?_,?_,?_⟩<;>rw [ea]
 ·exact ⟨c2,c3,c4,c0,_,_,c1⟩
 ·exact fY c5
 ·exact ⟨_,f,fd,c1,c6,F,F.binds hb⟩
theorem Ll (X:K.In h) (G:h.Ns mainGlobals mg) {l:List yh} (e:BS K l=BU l) (i:Nat) {q p0 p1:Str} {st:Stmt} {fs:List Str} (hi:l[i]? =some ⟨x,q,some st,fs⟩:=by rfl)
  (hb:∀ (kV doc pm:Value) (an:Option Addr) (av ct a0 a1:Value),bindArgs (fnOf "__init__" q (lz st) (ig st) (az st) .none kV doc pm an av ct) ⟨[a0,a1],[]⟩=pure [(p0,a0),(p1,a1)]:=by intros;rfl):BR K mg x q st [p0,p1] fs:=
 Uw X G e i hi fun a b c d f g us hl=>by
  obtain ⟨a0,yg,rfl,ko⟩:=r_ (n:=1) hl
  obtain ⟨a1,AO,rfl,gy⟩:=r_ (n:=0) ko
  obtain rfl:=QR gy
  exact hb ..
end
section
variable {K:Frag} {e:Addr} {ox:Obj} {od:Option Obj}
theorem yR {Q:Option Value->Shared->Prop} (X:K.In s.heap) (I:InstAt s.heap e ox C od) (x:oz K C) (h:Q (some (.ref C)) {s with toks:=s.toks+1}):wpAny (model P w) A (getAttr? (.ref e) "__class__") Q E s:=by
 obtain ⟨own,jn,hx⟩:=x.xc
 obtain ⟨cd,hc,_,_⟩:=j6 hx
 have hf:findObj K C od "__class__"=some (.bind (.builtin "getset_descriptor.__get__") (.builtin "object.__class__")):=by
  have hn:specialIn K (.builtin "object.__class__") "__get__"=some (some (.builtin "getset_descriptor.__get__")):=by kernel_rfl
  have ht:takesIn K (.builtin "object.__class__")=some true:=by kernel_rfl
  unfold findObj
  rw [hc,Option.bind_some,x.ic,Option.bind_some]
  simp [hn,ht]
 have ht:Looks (model P w) s.heap (typeOf (.ref e)) (.ref C):=I.type
 unfold getAttr? getAttrBy? getAttrBy
 refine QS (wpAny_mkText (QS (wpAny_attempt (wpAny_holding (QS (ht _ _ _ _ (fun _ _ e=>e) (QS (looks_findIn X x.ga _ _ _ _ (fun _ _ e=>e) ?_))))))))
 dsimp only
 rw [show (onTheHeap (.ref C)&&Value.builtin "BaseException.__getattribute__"==Value.builtin "object.__getattribute__")=false from by rw [show (Value.builtin "BaseException.__getattribute__"==Value.builtin "object.__getattribute__")=false from by decide+kernel,Bool.and_false],if_neg (by decide)]
 have hb:Looks (model P w) s.heap (hookBefore (.ref C)) none:=by
  unfold hookBefore;rw [if_pos (by rfl)];exact looks_findIn X x.gk
 refine QS (hb _ _ _ _ (fun _ _ e=>e) (QS (wpAny_attempt (wpAny_holding ?_))))
 unfold callGetattribute
 rw [show (false&&onTheHeap (Value.builtin "BaseException.__getattribute__"))=false from rfl,if_neg (by decide)]
 unfold boundAndCalled
 rw [PySem.F.attr_ValueError.ga.bind]
 refine QS (QT ?_)
 show wpAny _ _ (call (.builtin "BaseException.__getattribute__") [.ref e,.str "__class__" s.toks]) _ _ _
 refine wpAny_call ?_
 refine codeAny_call_builtin PySem.F.attr_ValueError.ga.plain PySem.F.entry_bexc_ga ?_
 refine @check_slot (model P w) _ _ {s with toks:=s.toks+1} "BaseException.__getattribute__" "BaseException" "__getattribute__" (.ref e) [.str "__class__" s.toks] [] _ (by decide+kernel) (by decide+kernel) (ht.andThen (looks_subIn X (lP hx (by decide)))) (PySem.F.args_bexc_ga (.ref e) (.str "__class__" s.toks)) ?_
 have L1:=looks_find (M:=model P w) X I hf
 unfold Builtin.«object.__getattribute__»
 refine QS (QT (QS (QT (QS (ht _ _ _ _ (fun _ _ e=>e) (QS (L1 _ _ _ _ (fun _ _ e=>e) ?_)))))))
 show wpAny _ _ (holding [.builtin "object.__class__"] (call (.builtin "getset_descriptor.__get__") [.builtin "object.__class__",.ref e,.ref C]) >>=ret) _ _ _
 have hm:mroIn K C (.type "object")=some true:=lP hx (by decide)
 refine QS (wpAny_holding (wpAny_call (class_get (s:={s with toks:=s.toks+1}) X I hm (QT ?_))))
 show wpAny _ _ (handedOut (.ref C)) _ _ _
 rw [handedOut_of rfl]
 exact QT (QT h)
theorem xO (x:oz K C):KitX K (.ref e) (.ref C) (fun h=>∃ ox od,InstAt h e ox C od):=by
 obtain ⟨own,jn,hx⟩:=x.xc
 obtain ⟨nm,q,N',bs,sn,sub,ab,col,dd,k0,k1,k2,k3,k5,lk,_⟩:=iL hx
 exact {
  ty:=fun _ _ _ ⟨_,_,I⟩=>I.type
  it:=fun _ _ X _=>by
   intro A' Q' E' s' k q
   unfold isType loadHead
   exact QS (wpAny_loadPart (k _ _ (X _ _ lk)) (QT q))
  ne:=fun h tp dd its n sl X Ux=>by
   refine Bool.eq_false_iff.mpr fun q=>?_
   have e:C=tp:=Value.ref.inj (beq_iff_eq.mp q)
   subst e
   have z:=congrArg Obj.data (QD ((X _ _ lk).symm.trans Ux))
   cases z
  ca:=fun X ⟨_,_,I⟩ k=>yR X I x k}
end
def E4 (H:Hp) (e C:Addr) (dct:Option Addr):Prop:=H e=some (jf C dct e)\/H e=some (jx C dct e)
def E5 (H:Hp) (e C:Addr):Prop:=∃ dct,E4 H e C dct/\∀ dx,dct=some dx->∃ fs,H dx=some (.xd fs)
def Hv (K:Frag) (C:Addr):V->Bool->Prop
 | .ref B,b=>oz K B/\subIn K (.ref C) (.ref B)=some b
 | .ty T,b=>T="ValueError"/\b=true
 | _,_=>False
def Hw (K:Frag) (C:Addr):List V->Bool->Prop
 | [],b=>b=false
 | c::r,b=>∃ v,Hv K C c v/\if v=true then b=true else Hw K C r b
section
variable {K:Frag} {e:Addr}
theorem E4.cls (x:E4 H e C dct) (ok:b_ P w H h):∃ vs:Array Value,h.get? e=some {cls:=.ref C,dict:=dct,data:=.fields vs}:=by
 rcases x with x | x
 ·obtain ⟨t,q⟩:qo h e C dct:=(show bf P w H h e (jf C dct e) from ok e _ x).1
  exact ⟨_,q⟩
 ·exact (show bf P w H h e (jx C dct e) from ok e _ x).1
theorem E5.inst (x:E5 H e C) (ok:b_ P w H h):∃ ox od,InstAt h e ox C od:=by
 obtain ⟨dct,x,y⟩:=x
 obtain ⟨vs,q⟩:=x.cls ok
 cases dct with
 | none=>exact ⟨_,none,q,rfl,rfl,trivial⟩
 | some dx=>
  obtain ⟨fs,z⟩:=y dx rfl
  obtain ⟨mA,BB,_⟩:bf P w H h dx (.xd fs):=ok dx _ z
  obtain ⟨od,ip,_⟩:=jG BB
  exact ⟨_,some od,q,rfl,rfl,ip⟩
theorem uQ {c:V} {b:Bool} (x:oz K C) (h:Hv K C c b) (r:RelV c u):kitOne K (.ref C) u=some b:=by
 cases c with
 | ref B=>
  obtain ⟨xb,hs⟩:=h
  obtain rfl:u=.ref B:=r
  unfold kitOne
  by_cases z:(Value.ref C==Value.ref B)=true
  ·rw [if_pos z]
   have e:C=B:=Value.ref.inj (beq_iff_eq.mp z)
   subst e
   obtain ⟨own,jn,hx⟩:=x.xc
   obtain ⟨cd,h1,h2,_⟩:=j6 hx
   have:subIn K (.ref C) (.ref C)=some true:=by
    show mroIn K C _=_
    unfold mroIn
    rw [h1,Option.bind_some,h2,if_neg (by simp [sd])]
    simp [sd]
   rw [<- this,hs]
  ·rw [if_neg z]
   unfold kitCls
   dsimp only
   have N:=xb.nm
   obtain ⟨cd,hc⟩:=N.cl
   rw [if_pos (by rw [hc,N.ty];rfl),hs]
 | ty T=>
  obtain ⟨rfl,rfl⟩:=h
  obtain rfl:u=.type "ValueError":=r
  obtain ⟨own,jn,hx⟩:=x.xc
  unfold kitOne
  rw [if_neg (by simp)]
  have z:kitMeta "ValueError"=true:=by decide+kernel
  show (if kitMeta "ValueError"=true then subIn K (.ref C) (.type "ValueError") else none)=_
  rw [if_pos z]
  exact lP hx (by decide)
 | _=>exact h.elim
theorem mK {b:Bool} (x:oz K C):∀ {cs:List V} {us:List Value},Hw K C cs b->a_ cs us->kitAny K (.ref C) us=some b
 | [],_,h,.nil=>by cases h;rfl
 | c::r,_,⟨v,hv,h⟩,.cons r1 r2=>by
  unfold kitAny
  rw [uQ x hv r1]
  cases v with
  | true=>rw [if_pos rfl] at h;rw [h]
  | false=>rw [if_neg (by decide)] at h;exact mK x h r2
end
def Uy (K:Frag):List V->Hp->VK->Prop:=fun xs H Q=>∃ e c C,xs=[.ref e,c]/\E5 H e C/\oz K C/\((∃ b,Hv K C c b/\Q (.bl b) H)\/∃ a ys b,c=.ref a/\H a=some (.tup ys)/\Hw K C ys b/\Q (.bl b) H)
theorem jE (K:Frag) (hK:X.K=K:=by rfl):iu X (.builtin "isinstance") (Uy K):=by
 subst hK
 intro pins s σ H xs us Q I r h
 obtain ⟨e,c,C,rfl,eh,xa,h⟩:=h
 obtain ⟨u,v,rfl,ru,rv⟩:=r.two
 obtain rfl:u=.ref e:=ru
 have Z:=xO (e:=e) xa
 have J:=eh.inst I.hok
 rcases h with ⟨b,hc,q⟩ | ⟨a,ys,b,rfl,ha,hc,q⟩
 ·exact kia_one Z I.cu J (uQ xa hc rv) (fun z=>nomatch z) fun tk=>⟨.bl b,H,I.tok tk,rfl,q⟩
 ·obtain rfl:v=.ref a:=rv
  obtain ⟨_,its,ry,⟨oc,od,EW,ia⟩,ho,jj,n,hd⟩:=(show bf X.prog X.w H s.heap a (.tup ys) from I.hok a _ ha)
  dsimp only at jj hd
  subst jj;subst hd
  exact kia_tup Z I.cu J ho (mK xa hc ry) (fun z=>nomatch z) fun tk=>⟨.bl b,H,I.tok tk,rfl,q⟩
def Uz (K:Frag) (ta:TE) (f:Str):TE:=fun σ H Q=>ta σ H fun x H1=>∃ e C dx fs v,x=.ref e/\E4 H1 e C (some dx)/\H1 dx=some (.xd fs)/\oz K C/\findIn K (.ref C) f=some none/\fs.lookup f=some v/\Q v H1
theorem UA {f:Str} {pos:Pos} (K:Frag) (he:SE X e ta) (hK:X.K=K:=by rfl) (hb:attributeBase e f X.env (eval e X.env)=eval e X.env:=by rfl):SE X (.Attribute e f pos) (Uz K ta f):=by
 subst hK
 constructor
 intro pins s σ H Q I h
 refine uH hb (aj (he.h pins s σ H _ I h) ?_)
 rintro u s1 ⟨x,H1,I1,rx,a,C,dx,fs,v,ex,ea,ed,xa,n,l,q⟩
 subst ex
 obtain rfl:u=Value.ref a:=rx
 obtain ⟨vs,ho⟩:=ea.cls I1.hok
 obtain ⟨mA,BB,hr⟩:bf X.prog X.w H1 s1.heap dx (.xd fs):=I1.hok dx _ ed
 obtain ⟨od,ip,hl⟩:=jG BB
 obtain ⟨u,hu,ru⟩:=jh.some_of (v:=v) (o:=mA f) (by rw [<- l];exact hr f)
 obtain ⟨own,jn,hx⟩:=xa.xc
 obtain ⟨cd,c1,c2,c3⟩:=j6 hx
 refine Uh (od:=some od) I1.cu ⟨ho,rfl,rfl,ip⟩ xa.ga xa.gk (lP hx (by decide)) (findObj_own (by unfold hasDictIn;rw [c1];exact c3) n rfl (by rw [hl,hu])) (nC ru) ⟨v,H1,I1.tok _,ru,q⟩
end L2
namespace L2
open PySem PySem.Spec PyProof.Rows
end L2
namespace L2
open PySem PySem.Spec PyProof.Rows HT
end L2
namespace L2
open PySem PySem.Spec PyProof.Rows
open AutoSeq1 (wpAny_loadPart')
def Dt.UB (z:Str):Dt->Bool
 | .tup [.str y]=>y==z
 | _=>false
def Hx (h:Dt):Dt:=if h.UB "hole" then .tup [.str "all"] else h
def E6:Dt->Dt | .tup [a,h]=>.tup [a,Hx h] | d=>d
theorem DD.Hy {x y:V} {dx dy:Dt} (e:H b=some (.tup [x,y])) (h1:DD H x dx) (h2:DD H y dy):DD H (.ref b) (.tup [dx,dy]):=.tup e rfl (by simp) fun i a b=>by
 match i,a with
 | 0,_=>exact h1
 | 1,_=>exact h2
theorem DD.Hz {x:V} {dx:Dt} (e:H b=some (.tup [x])) (h1:DD H x dx):DD H (.ref b) (.tup [dx]):=.tup e rfl (by simp) fun i a b=>by
 match i,a with
 | 0,_=>exact h1
def Lm (H3 H4:Hp) (ws:List V) (ds:List Dt):Prop:=∀ j (h:j < ws.length) (h':j < ds.length),∃ c x1 hv dx dy,ws[j]=.ref c/\H4 c=some (.tup [x1,hv])/\ds[j]=.tup [dx,dy]/\DD H3 x1 dx/\(DD H3 hv (Hx dy)\/∃ b,hv=.ref b/\H4 b=some (.tup [.str "all"])/\Hx dy=.tup [.str "all"])
theorem Lm.dd {H3 H4:Hp} {ws:List V} {ds:List Dt} (f:Lm H3 H4 ws ds) (s:aa H3 H4) (j:Nat) (h:j < ws.length) (h':j < ds.length):DD H4 ws[j] (E6 ds[j]):=by
 obtain ⟨c,x1,hv,dx,dy,q1,q2,q3,q4,q5⟩:=f j h h'
 rw [q1,q3]
 refine DD.Hy q2 (q4.same s) ?_
 rcases q5 with q5 | ⟨b,rfl,q6,q7⟩
 ·exact q5.same s
 ·rw [q7];exact DD.Hz q6 (.str (by decide))
def Ln (H H':Hp) (v:V) (d:Dt):Prop:=DD H v (E6 d)\/∃ c x1 b dx,v=.ref c/\H' c=some (.tup [x1,.ref b])/\H' b=some (.tup [.str "all"])/\DD H x1 dx/\E6 d=.tup [dx,.tup [.str "all"]]
theorem Ln.dd {v:V} {d:Dt} (h:Ln H H' v d) (s:aa H H'):DD H' v (E6 d):=by
 rcases h with h | ⟨c,x1,b,dx,rfl,h2,h3,h4,h5⟩
 ·exact h.same s
 ·rw [h5];exact DD.Hy h2 (h4.same s) (DD.Hz h3 (.str (by decide)))
def Hd.C6:Hd->Bool | .one s=>s=="hole" | _=>false
def Hd.UC:Hd->Bool | .way _ _=>true | _=>false
def Hd.E7 (h:Hd):Hd:=if h.C6 then .one "all" else h
def Lo (r:ae):ae:=(r.1,r.2.E7)
structure TH (H:Hp) (a:Addr) (xs:List V) (rows:List ae) (ns ws:List Str):Prop where
 at_:H a=some (.tup xs)
 rv:RV H xs rows
 nm:(rows.map (·.1)).Perm ns
 nd:ns.Nodup
 ok:KG ns (rows.map Lo)
 wd:∀ n∈ns,Wd n
 ah:∀ r∈rows,CF ns r.1 r.2.nx
 ww:∀ r∈rows,∀ z∈r.2.BA,z∈ws
 pos:1<=ns.length
 few:ns.length<=10
 nw:∀ r∈rows,r.2.UC=false
 hl:rows.countP (fun r=>r.2.C6)<=6
section
variable {xs:List V} {rows:List ae}
theorem TH.rl (h:TH H a xs rows ns ws):rows.length=ns.length:=by have:=h.nm.length_eq;simpa using this
theorem HV.jq {v:V} {h:Hd} (q:HV H v h) (ok:h.E7.ok ns):DD H v h.dt:=by
 cases e:h.C6 with
 | false=>
  have:h.E7=h:=by unfold Hd.E7;rw [e];rfl
  rw [this] at ok
  exact (q.tx ok).dd
 | true=>
  cases q with
  | @one b s e1=>
   have:s="hole":=eq_of_beq e
   subst this
   exact DD.Hz e1 (.str (by decide))
  | _=>cases e
theorem TH.dd (h:TH H a xs rows ns ws):DD H (.ref a) (.tup (rows.map Sd)):=by
 have AI:=h.rl
 have few:=h.few
 have hl:=h.rv.len
 refine .tup h.at_ (by simp [hl]) (by omega) fun i h1 h2=>?_
 have h3:i < rows.length:=by simpa using h2
 obtain ⟨b,v,q1,q2,q3⟩:=h.rv.at_ i h1 h3
 obtain ⟨m1,m2⟩:=h.ok (Lo rows[i]) (List.mem_map.mpr ⟨_,Qj h3,rfl⟩)
 have UD:isName rows[i].1=true:=m1
 rw [q1]
 simp only [Qr]
 exact DD.Hy q2 (.str (by have:=l5 UD;omega)) (q3.jq m2)
end
end L2
namespace L2
open PySem PySem.Spec PyProof.Rows
section
variable {st:Expr} {ts:TE} {p2 pos:Pos}
end
end L2
namespace L2
open PySem PySem.Spec PySem.W PyProof.Rows
theorem jY:bootBuiltins "ValueError"=some (.type "ValueError"):=by decide+kernel
section
variable {lo st:Expr} {tl ts:TE} {p2 pos:Pos}
end
end L2
namespace L2
open PySem PySem.Spec PyProof.Rows
abbrev LR:=List (Str×Road)
def UE (acc:LR) (r:Str):Road:=((acc.find? fun q=>decide (q.1=r)).map (·.2)).getD []
def Lp (acc:LR):Option (Str×List Str)->Road
 | none=>[]
 | some q=>UE acc q.1++[q.2]
def HA (cb:EY):LR:=cb.foldl (fun acc c=>acc++[(c.1,Lp acc c.2)]) []
def yi (A:Around) (s:Shared) (y x:Value) (b:Bool):Prop:=
 ∀ (prog:Program) (w:World) (E:Value->Shared->Prop) (Q:Value->Shared->Prop),Q (.bool b) s->wpAny (model prog w) A (richCompare .Lt y x) Q E s
theorem tL (l b:Addr) (items items2:Array Value) (n n2:Nat) (dd yx:Option Addr) (sl yy:Array (Option Value)) (e:Nat->Bool) (j:Nat) (c:Bool):
  Meets (Builtin.«tuple.__lt__» ⟨[.ref l,.ref b],[]⟩)
   (fun A R s=>s.heap.get? l=some {cls:=.type "tuple",dict:=dd,data:=.seq items n,slots:=sl}/\s.heap.get? b=some {cls:=.type "tuple",dict:=yx,data:=.seq items2 n2,slots:=yy}/\
    (∃ (h1:j < items.size) (h2:j < items2.size),(∀ i (g1:i < items.size) (g2:i < items2.size),i<=j->SeqAt.EqAt A.in1 s items[i] items2[i] (e i))/\(∀ i,i < j->e i=true)/\e j=false/\yi A.in1 s items[j] items2[j] c)/\
    R (.ok (.ret (.bool c))) s):=
 .of_wp fun prog w A R s h=>by
  obtain ⟨hp,g,d,tk,os⟩:=s;obtain ⟨hl,hb,⟨Kz,UG,he,aq,HB,hc⟩,h⟩:=h
  have f2:=AutoSeq1.sub_tuple_tuple
  have hZ:(items.toList.zip items2.toList).length=min items.size items2.size:=by simp
  wp_walk using wpAny_loadPart' hl,wpAny_loadPart' hb,wpAny_forIn_list _ (fun rest b s'=>b.1=none/\s'=⟨hp,g,d,tk,os⟩/\∃ i,rest=(items.toList.zip items2.toList).drop i/\i<=j) _
  case turn=>
   rintro ⟨y,x⟩ rest b s' ⟨UH,rfl,i,hz,hR⟩
   have Lq:i < (items.toList.zip items2.toList).length:=by
    rcases Nat.lt_or_ge i (items.toList.zip items2.toList).length with h' | h'
    ·exact h'
    ·rw [List.drop_of_length_le h'] at hz;cases hz
   have hm:i < min items.size items2.size:=hZ▸Lq
   have h1:i < items.size:=Nat.lt_of_lt_of_le hm (Nat.min_le_left _ _)
   have h2:i < items2.size:=Nat.lt_of_lt_of_le hm (Nat.min_le_right _ _)
   rw [QM Lq] at hz
   injection hz with Lr UI
   have hy:y=items[i]:=by have:=congrArg Prod.fst Lr;simpa using this
   have hx:x=items2[i]:=by have:=congrArg Prod.snd Lr;simpa using this
   subst hy hx
   refine QS (he i h1 h2 hR prog w _ _ ?_)
   by_cases AJ:i=j
   ·subst AJ
    rw [HB]
    rw [if_pos (by rfl)]
    refine QS (wpAny_rule (QS (hc prog w _ _ ?_)))
    wp_walk
    exact ⟨_,rfl,h⟩
   ·rw [aq i (by omega)]
    wp_walk
    exact ⟨rfl,rfl,i+1,UI,by omega⟩
  case fin=>
   rintro ⟨b1,b2⟩ s' ⟨UH,rfl,i,hz,hR⟩
   exfalso
   rcases Nat.lt_or_ge i (items.toList.zip items2.toList).length with h' | h'
   ·rw [QM h'] at hz;cases hz
   ·rw [hZ] at h';omega
  case h=>
   exact ⟨rfl,rfl,0,rfl,by omega⟩
theorem yi.tuples {items items2:Array Value} {e:Nat->Bool} {c:Bool} (hl:s.heap.IsTuple l items) (hb:s.heap.IsTuple b items2) (hu:A.units < cLine) (h1:j < items.size) (h2:j < items2.size)
  (he:∀ i (g1:i < items.size) (g2:i < items2.size),i<=j->SeqAt.EqAt A.in1 s items[i] items2[i] (e i)) (aq:∀ i,i < j->e i=true) (HB:e j=false) (hc:yi A.in1 s items[j] items2[j] c):yi A s (.ref l) (.ref b) c:=fun prog w E Q h=>by
 obtain ⟨⟨cls,dd,data,sl⟩,ho,jj,n,hd⟩:=id hl
 obtain ⟨⟨JQ,yx,data2,yy⟩,wq,nj,n2,hd2⟩:=id hb
 simp only at jj hd nj hd2
 subst jj hd nj hd2
 exact richCompare_meets_room (op:=.Lt) ⟨_,ho,rfl⟩ ⟨_,wq,rfl⟩ F.slot_tuple_lt F.entry_tuple_lt (F.args_tuple_lt_2 _ _) (tL l b items items2 n n2 dd yx sl yy e j c)
  ⟨ho,wq,⟨h1,h2,he,aq,HB,hc⟩,show Value.bool c≠Value.notImplemented/\Q (.bool c) s from ⟨(fun x=>nomatch x),h⟩⟩ hu
def yj (xs ys:List Str):Prop:=∃ j,∃ (h1:j < xs.length) (h2:j < ys.length),(∀ i (g1:i < xs.length) (g2:i < ys.length),i < j->xs[i]=ys[i])/\xs[j]≠ys[j]/\decide (ys[j].cps.toList < xs[j].cps.toList)=false
def vn (r q:Road):Prop:=∃ j,∃ (h1:j < r.length) (h2:j < q.length),(∀ i (g1:i < r.length) (g2:i < q.length),i < j->r[i]=q[i])/\r[j]≠q[j]/\yj r[j] q[j]
theorem yi.str {A:Around} {s:Shared} (i j:Str) (t t':Tok):yi A s (.str i t) (.str j t') (decide (i.cps.toList < j.cps.toList)):=fun prog w E Q h=>lt_str h
theorem z7 (I:Inv X pins σ H s) {xs ys:List Str} (h1:bj H a (xs.map V.str)) (h2:bj H b (ys.map V.str)) (aq:yj xs ys) (hu:A.units+2 < cLine):yi A s (.ref b) (.ref a) false:=by
 obtain ⟨j,j1,j2,y_,jl,hl⟩:=aq
 obtain ⟨i1,r1,p1,_⟩:=I.tuple (.inl h1)
 obtain ⟨i2,r2,p2,_⟩:=I.tuple (.inl h2)
 have l1:=r1.length
 have l2:=r2.length
 rw [Ql] at l1 l2
 have C7:∀ i (g:i < i1.toArray.size) (k:i < xs.length),∃ t,i1.toArray[i]=.str xs[i] t:=fun i g k=>by
  obtain ⟨w1,e1,q1⟩:=r1.get (i:=i) (x:=.str xs[i]) (by simp [k])
  obtain ⟨t,rfl⟩:=q1
  exact ⟨t,by rw [Qa (by simpa using g)] at e1;simpa using e1⟩
 have C8:∀ i (g:i < i2.toArray.size) (k:i < ys.length),∃ t,i2.toArray[i]=.str ys[i] t:=fun i g k=>by
  obtain ⟨w1,e1,q1⟩:=r2.get (i:=i) (x:=.str ys[i]) (by simp [k])
  obtain ⟨t,rfl⟩:=q1
  exact ⟨t,by rw [Qa (by simpa using g)] at e1;simpa using e1⟩
 refine yi.tuples (e:=fun i=>ys.getD i ""==xs.getD i "") (j:=j) p2 p1 (by omega) (by simp;omega) (by simp;omega) (fun i g1 g2 hi=>?_) (fun i hi=>?_) ?_ ?_
 ·have k1:i < xs.length:=by simp at g2;omega
  have k2:i < ys.length:=by simp at g1;omega
  obtain ⟨t1,e1⟩:=C7 i g2 k1
  obtain ⟨t2,e2⟩:=C8 i g1 k2
  rw [e1,e2]
  have:=SeqAt.EqAt.str_str (A:=A.in1) (s:=s) ys[i] t2 xs[i] t1
  simpa [Qb,Qa k1,Qa k2] using this
 ·have k1:i < xs.length:=by omega
  have k2:i < ys.length:=by omega
  simp [Qb,Qa k1,Qa k2,y_ i k1 k2 hi]
 ·simp [Qb,Qa j1,Qa j2,Ne.symm jl]
 ·obtain ⟨t1,e1⟩:=C7 j (by simp;omega) j1
  obtain ⟨t2,e2⟩:=C8 j (by simp;omega) j2
  rw [e1,e2,<- hl]
  exact yi.str _ _ _ _
end L2
namespace L2
open PySem PySem.Spec PyProof.Rows PySem.W
theorem wQ {cmp:Nat->Nat->(Bool->Shared->Prop)->Shared->Prop} {N:Nat} {s:Shared} {G:Nat->Shared->Prop} (hc:∀ k,1<=k->k < N->∀ C:Bool->Shared->Prop,C false s->cmp k (k - 1) C s) (hG:G N s):
  ∀ f m,1<=m->m+f=N->(kas_asc (List.toArray (List.range N)) f m).kasWp cmp G s
 | 0,m,h1,h=>by
  have:m=N:=by omega
  subst this
  exact hG
 | f+1,m,h1,h=>by
  have e1:(List.toArray (List.range N)).getD m 0=m:=by simp [Array.getD,show m < N by omega]
  have e2:(List.toArray (List.range N)).getD (m - 1) 0=m - 1:=by simp [Array.getD,show m - 1 < N by omega]
  show (KasT.ask ((List.toArray (List.range N)).getD m 0) ((List.toArray (List.range N)).getD (m - 1) 0) fun c=>if c=true then .ret m else kas_asc (List.toArray (List.range N)) f (m+1)).kasWp cmp G s
  rw [e1,e2]
  exact hc m h1 (by omega) _ (wQ hc hG f (m+1) (by omega) (by omega))
theorem mJ {R:Value->Value->Prop}:∀ its:List Value,(∀ v∈its,∃ f,R v f)->∃ fs,Paired R its fs
 | [],_=>⟨[],.nil⟩
 | v::its,h=>by
  obtain ⟨f,hf⟩:=h v List.mem_cons_self
  obtain ⟨fs,UJ⟩:=mJ its fun v' hv=>h v' (Qh _ hv)
  exact ⟨f::fs,.cons hf UJ⟩
theorem sI {vs fs:List Value} (p:Paired (fun v f=>∃ a o xs n,v=Value.ref a/\h.get? a=some o/\o.cls=Value.type "tuple"/\o.data=.seq xs n/\xs[0]? =some f) vs fs):KatTups h vs fs:=by
 induction p with
 | nil=>trivial
 | cons a _ ih=>exact ⟨a,ih⟩
theorem rY {β:Type} {R R':α->β->Prop} (h:∀ a b,R a b->R' a b) {l:List α} {m:List β} (p:Paired R l m):Paired R' l m:=by
 induction p with
 | nil=>exact .nil
 | cons a _ ih=>exact .cons (h _ _ a) ih
theorem oA {β:Type} {R:α->β->Prop} {P:β->Prop} (h:∀ a b,R a b->P b) {l:List α} {m:List β} (p:Paired R l m):∀ b∈m,P b:=by
 induction p with
 | nil=>intro b hb;cases hb
 | cons a _ ih=>
  intro b hb
  rcases Qp.mp hb with rfl | hb
  ·exact h _ _ a
  ·exact ih b hb
theorem mX:∀ (HC n r:Nat),r<=1->minRun' HC n r<=n+r
 | 0,n,r,h=>by
  have:minRun' 0 n r=n+r:=rfl
  omega
 | HC+1,n,r,h=>by
  rw [minRun'_succ]
  split
  ·exact Qy _
  ·rename_i hn
   have:=mX HC (n / 2) (max r (n % 2)) (by omega)
   omega
theorem zV {κ:SortKind} {it:Array Keyed} {Q:Unit->SortSt->Shared->Prop} (h2:2<=n) (hc:∀ k,1<=k->k < n->∀ C:Bool->Shared->Prop,C false s->kas_cmp prog w A κ it k (k - 1) C s)
  (hQ:∀ st':SortSt,arrOf st'=Array.map (kas_item it) (List.range n).toArray->failedOf st'=none->Q () st' s):kasC (model prog w) A E sortRuns' Q (kas_st κ it (List.range n).toArray) s:=by
 obtain ⟨r,rfl⟩:∃ r,n=r+2:=⟨n - 2,by omega⟩
 have hsz:(arrOf (kas_st κ it (List.range (r+2)).toArray)).size=r+2:=by
  show (Array.map (kas_item it) (List.range (r+2)).toArray).size=r+2
  simp
 have Hq:minRun' (r+2) (r+2) 0<=r+2:=by have:=mX (r+2) (r+2) 0 (by omega);omega
 rw [sortRuns'_eq]
 unfold kasC
 rw [StateT.run_bind]
 refine QS (wpAny_of_eq (a:=(kas_st κ it (List.range (r+2)).toArray,kas_st κ it (List.range (r+2)).toArray)) rfl ?_)
 dsimp only
 rw [hsz]
 generalize minRun' (r+2) (r+2) 0=mr at Hq
 rw [StateT.run_bind]
 refine QS ?_
 rw [Std.Legacy.Range.forIn_eq_forIn_range']
 have Ls:List.range' ({stop:=r+2,step_pos:=Nat.zero_lt_one}:Std.Legacy.Range).start ({stop:=r+2,step_pos:=Nat.zero_lt_one}:Std.Legacy.Range).size ({stop:=r+2,step_pos:=Nat.zero_lt_one}:Std.Legacy.Range).step=0::1::List.range' 2 r:=by
  simp [Std.Legacy.Range.size,List.range'_succ]
 rw [Ls,List.forIn_cons]
 dsimp only
 rw [if_neg (by omega:¬(0≥r+2)),bind_assoc,StateT.run_bind]
 have Yc:(List.range (r+2)).toArray.size=r+2:=by simp
 have UK:wpAny (model prog w) A ((countRun' 0 (r+2)).run (kas_st κ it (List.range (r+2)).toArray)) (fun a s'=>a=(some (r+2),kas_st κ it (List.range (r+2)).toArray)/\s'=s) E s:=by
  refine kas_count_ (p:=(List.range (r+2)).toArray) (nrem:=r+2) (G:=fun m s'=>m=(r+2,(List.range (r+2)).toArray)/\s'=s) (Q:=fun o st' s'=>(o,st')=(some (r+2),kas_st κ it (List.range (r+2)).toArray)/\s'=s) (by omega) (by omega) ?_ ?_
  ·rintro m p' s' _ _ _ ⟨h,rfl⟩
   cases h
   exact ⟨rfl,rfl⟩
  ·unfold kas_count
   rw [KasT.kasWp_bind]
   refine wQ hc ?_ (r+2 - 1) 1 (Qy _) (by omega)
   rw [if_pos (by simp)]
   exact ⟨rfl,rfl⟩
 refine QS (wpAny_mono UK (fun a s' h=>?_) (fun _ _ e=>e))
 obtain ⟨rfl,rfl⟩:=h
 dsimp only
 rw [if_neg (by omega:¬(r+2 < mr)),bind_assoc,StateT.run_bind]
 refine QS (wpAny_of_eq (a:=(kas_st κ it (List.range (r+2)).toArray,kas_st κ it (List.range (r+2)).toArray)) rfl ?_)
 dsimp only
 have UL:(pendingOf (kas_st κ it (List.range (r+2)).toArray)).back?=none:=rfl
 simp only [UL]
 rw [bind_assoc,StateT.run_bind]
 refine QS (wpAny_of_eq (a:=((),setPending (kas_st κ it (List.range (r+2)).toArray) #[(0,r+2,0)])) rfl ?_)
 rw [pure_bind]
 dsimp only
 rw [List.forIn_cons]
 dsimp only
 rw [if_pos (by omega:0+(r+2)≥r+2),pure_bind]
 dsimp only
 rw [StateT.run_pure]
 refine QT ?_
 dsimp only
 rw [StateT.run_bind]
 refine QS ?_
 rw [Std.Legacy.Range.forIn_eq_forIn_range',Ls,List.forIn_cons,bind_assoc,StateT.run_bind]
 refine QS (wpAny_of_eq (a:=(setPending (kas_st κ it (List.range (r+2)).toArray) #[(0,r+2,0)],setPending (kas_st κ it (List.range (r+2)).toArray) #[(0,r+2,0)])) rfl ?_)
 dsimp only
 rw [if_pos (show (pendingOf (setPending (kas_st κ it (List.range (r+2)).toArray) #[(0,r+2,0)])).size<=1 from Qy 1),pure_bind]
 dsimp only
 rw [StateT.run_pure]
 refine QT ?_
 dsimp only
 rw [StateT.run_pure]
 exact QT (hQ _ rfl rfl)
theorem mD {vs:List Value} {κ:SortKind} {P:PySem.Fin->Shared->Prop} (ho:s.heap.get? a=some (seqObj "list" vs.toArray n)) (HD:vs.length<=100000)
  (HE:2<=vs.length->∀ h':Heap,(∀ b o,b≠a->s.heap.get? b=some o->h'.get? b=some o)->∀ Q:SortKind->Shared->Prop,Q κ {s with heap:=h'}->wpAny (model prog w) A (keyKind' vs.toArray) Q (fun _ _=>False) {s with heap:=h'})
  (HF:∀ h':Heap,(∀ b o,b≠a->s.heap.get? b=some o->h'.get? b=some o)->∀ k,1<=k->k < vs.length->∀ C:Bool->Shared->Prop,C false {s with heap:=h'}->wpAny (model prog w) A (keyLt' κ (vs.getD k Value.none) (vs.getD (k - 1) Value.none)) C (fun _ _=>False) {s with heap:=h'})
  (h:P (.done (.ret .none)) {s with heap:=sortedHeap s.heap a vs vs.toArray}):
  wpAny (model prog w) A (Builtin.«list.sort» ⟨[.ref a],[]⟩) P E s:=by
 rw [list_sort_plain]
 have ha:a < s.heap.objs.size:=Qz ho
 refine QS (listItems_at ho rfl ?_)
 refine QS (listUpdate_at ho rfl ?_)
 obtain ⟨e1,Lu⟩:∃ e1,(s.heap.update a (Obj.mapSeq fun _=>#[])).get? a=some (seqObj "list" #[] e1):=⟨_,get?_update_seq ho (fun _=>#[])⟩
 refine QS (seqEpoch_at Lu rfl ?_)
 refine QS (wpAny_newTuple ?_)
 refine QS (wpAny_newList ?_)
 refine wpAny_holding ?_
 have E8:(((s.heap.update a (Obj.mapSeq fun _=>#[])).push (seqObj "tuple" vs.toArray 0)).push (seqObj "list" #[] 0)).get? a=some (seqObj "list" #[] e1):=by
  rw [Heap.get?_push_ne _ _ _ (by rw [size_push',Heap.size_update];exact Nat.ne_of_lt (Nat.lt_succ_of_lt ha)),Heap.get?_push_ne _ _ _ (by rw [Heap.size_update];exact Nat.ne_of_lt ha)]
  exact Lu
 have keep:∀ b o,b≠a->s.heap.get? b=some o->(((s.heap.update a (Obj.mapSeq fun _=>#[])).push (seqObj "tuple" vs.toArray 0)).push (seqObj "list" #[] 0)).get? b=some o:=fun b o hb e=>
  Qc _ (Qc _ ((Heap.get?_update_other _ _ (Ne.symm hb)).trans e))
 show wpAny (model prog w) A _ P E {s with heap:=((s.heap.update a (Obj.mapSeq fun _=>#[])).push (seqObj "tuple" vs.toArray 0)).push (seqObj "list" #[] 0)}
 dsimp only
 have hsz:vs.toArray.size=vs.length:=by simp
 by_cases h2:vs.toArray.size < 2
 ·rw [if_pos h2,if_pos h2]
  refine QS (QT ?_)
  rw [StateT.run_pure]
  refine QS (QT ?_)
  dsimp only
  refine QS (seqEpoch_at E8 rfl ?_)
  refine QS (listUpdate_at E8 rfl ?_ (hsz2:=by rw [Array.size_map];show (pairsOf vs).size<=_;rw [pairsOf_size,QL];omega))
  simp only [bne_self_eq_false,Bool.false_eq_true,if_false]
  refine QT ?_
  have ez:(vs.toArray.zip vs.toArray).map (·.2)=vs.toArray:=by
   apply Array.toList_inj.mp
   simp [Array.toList_zip,List.map_snd_zip]
  show P (.done (.ret .none)) {s with heap:=sortedHeap s.heap a vs ((vs.toArray.zip vs.toArray).map (·.2))}
  rw [ez]
  exact h
 ·rw [if_neg h2,if_neg h2]
  have x_:2<=vs.length:=by omega
  refine QS (wpAny_mono (HE x_ _ keep (fun κ' s'=>κ'=κ/\s'={s with heap:=((s.heap.update a (Obj.mapSeq fun _=>#[])).push (seqObj "tuple" vs.toArray 0)).push (seqObj "list" #[] 0)}) ⟨rfl,rfl⟩) (fun κ' s0 hk=>?_) fun _ _ x=>x.elim)
  obtain ⟨rfl,rfl⟩:=hk
  have UM:wpAny (model prog w) A (sortRuns'.run (SortSt.mk' κ' (vs.toArray.zip vs.toArray) #[] 7 none)) (fun r s'=>arrOf r.2=(List.toArray (List.range vs.length)).map (kas_item (vs.toArray.zip vs.toArray))/\failedOf r.2=none/\s'={s with heap:=((s.heap.update a (Obj.mapSeq fun _=>#[])).push (seqObj "tuple" vs.toArray 0)).push (seqObj "list" #[] 0)}) E {s with heap:=((s.heap.update a (Obj.mapSeq fun _=>#[])).push (seqObj "tuple" vs.toArray 0)).push (seqObj "list" #[] 0)}:=by
   have ef:SortSt.mk' κ' (vs.toArray.zip vs.toArray) #[] 7 none=kas_st κ' (vs.toArray.zip vs.toArray) (List.range vs.length).toArray:=by
    unfold kas_st
    have:=kas_range (vs.toArray.zip vs.toArray)
    rw [show (vs.toArray.zip vs.toArray).size=vs.length by simp] at this
    rw [this]
   rw [ef]
   refine zV (Q:=fun _ st' s'=>arrOf st'=(List.toArray (List.range vs.length)).map (kas_item (vs.toArray.zip vs.toArray))/\failedOf st'=none/\s'={s with heap:=((s.heap.update a (Obj.mapSeq fun _=>#[])).push (seqObj "tuple" vs.toArray 0)).push (seqObj "list" #[] 0)}) x_ (fun k k1 k2 C hC=>?_) fun st' h1 h2=>⟨h1,h2,rfl⟩
   rw [<- kat_ask_eq (ks:=vs) (vs:=vs) rfl]
   exact HF _ keep k k1 k2 C hC
  refine QS (wpAny_mono UM ?_ fun _ _ e=>e)
  rintro ⟨⟨⟩,st'⟩ s' ⟨UN,hf,rfl⟩
  dsimp only
  have Lv:(arrOf st').map (·.2)=vs.toArray:=by
   rw [kat_snds rfl UN]
   congr 1
   refine List.ext_getElem (by simp) fun i h1 h2=>?_
   simp [Qb,Qa h2]
  refine QS (seqEpoch_at E8 rfl ?_)
  refine QS (listUpdate_at E8 rfl ?_ (hsz2:=by rw [Lv,hsz,QL];omega))
  rw [hf,Lv]
  simp only [bne_self_eq_false,Bool.false_eq_true,if_false]
  exact QT h
theorem u6 {vs:List Value} {κ:SortKind} (hl:s.heap.IsList l vs.toArray) (HD:vs.length<=100000)
  (HE:2<=vs.length->∀ h':Heap,(∀ b o,s.heap.get? b=some o->h'.get? b=some o)->∀ Q:SortKind->Shared->Prop,Q κ {s with heap:=h'}->wpAny (model prog w) A.in1.in1 (keyKind' vs.toArray) Q (fun _ _=>False) {s with heap:=h'})
  (HF:∀ h':Heap,(∀ b o,s.heap.get? b=some o->h'.get? b=some o)->∀ k,1<=k->k < vs.length->∀ C:Bool->Shared->Prop,C false {s with heap:=h'}->wpAny (model prog w) A.in1.in1 (keyLt' κ (vs.getD k Value.none) (vs.getD (k - 1) Value.none)) C (fun _ _=>False) {s with heap:=h'})
  (h:Q (.ref (s.heap.objs.size+1)) {s with heap:=sortedAll s.heap vs vs.toArray}):
  wpAny (model prog w) A (call (.builtin "sorted") [.ref l]) Q E s:=by
 refine Calls.call_function_entry kind_sorted plain_sorted entry_sorted (args_sorted1 _) ?_
 unfold Builtin.«sorted»
 refine QS (m:=checkCount "sorted" 1 1 _) (QT ?_)
 refine QS (collect_list hl ?_)
 refine QS (wpAny_newList ?_)
 have hsz:((s.heap.push (seqObj "list" #[] 0)).update s.heap.objs.size (Obj.mapSeq (· ++vs.toArray))).objs.size=s.heap.objs.size+1:=by
  rw [Heap.size_update,size_push']
 have DW:(((s.heap.push (seqObj "list" #[] 0)).update s.heap.objs.size (Obj.mapSeq (· ++vs.toArray))).push (seqObj "list" vs.toArray 0)).get? (s.heap.objs.size+1)=some (seqObj "list" vs.toArray 0):=by
  rw [<- hsz];exact Qd _ rfl
 have keep:∀ b o,s.heap.get? b=some o->b≠s.heap.objs.size+1/\(((s.heap.push (seqObj "list" #[] 0)).update s.heap.objs.size (Obj.mapSeq (· ++vs.toArray))).push (seqObj "list" vs.toArray 0)).get? b=some o:=fun b o q=>by
  have aq:b < s.heap.objs.size:=Qz q
  refine ⟨Nat.ne_of_lt (Nat.lt_succ_of_lt aq),?_⟩
  rw [Heap.get?_push_ne _ _ _ (by rw [hsz];exact Nat.ne_of_lt (Nat.lt_succ_of_lt aq)),Heap.get?_update_ne _ _ _ _ (Nat.ne_of_lt aq),Heap.get?_push_ne _ _ _ (Nat.ne_of_lt aq)]
  exact q
 show wpAny _ _ _ _ _ {s with heap:=((s.heap.push (seqObj "list" #[] 0)).update s.heap.objs.size (Obj.mapSeq (· ++vs.toArray))).push (seqObj "list" vs.toArray 0)}
 rw [hsz]
 refine QS (wpAny_holding (wpAny_call_entry slot_list_sort ⟨_,DW,rfl⟩ entry_list_sort (mD (κ:=κ) DW HD (fun h2 h' hk Q hq=>?_) (fun h' hk k k1 k2 C hC=>?_) ⟨_,rfl,?_⟩) (args_list_sort _)))
 ·exact HE h2 h' (fun b o e=>hk b o (keep b o e).1 (keep b o e).2) Q hq
 ·exact HF h' (fun b o e=>hk b o (keep b o e).1 (keep b o e).2) k k1 k2 C hC
 ·exact QT ⟨_,rfl,h⟩
theorem wS (I:Inv X pins σ H s) {i1 i2:List Value} {xs ys:List V} {r q:Road} (r1:a_ xs i1) (r2:a_ ys i2) (v1:SV H xs r) (v2:SV H ys q) (aq:vn r q) (hu:A.units+4 < cLine) {fin:Bool} {C:Bool->Shared->Prop} (hC:C false s):
  KatLex X.prog X.w A false fin C (i2.zip i1) 0 s:=by
 obtain ⟨j,j1,j2,y_,jl,hl⟩:=aq
 have l1:=r1.length
 have l2:=r2.length
 have k1:=v1.len
 have k2:=v2.len
 have C7:∀ i (g:i < i1.length) (k:i < r.length),∃ c,i1[i]=.ref c/\bj H c (r[i].map V.str):=fun i g k=>by
  obtain ⟨c,e1,m1⟩:=v1.at_ i (by omega) k
  obtain ⟨w1,f1,q1⟩:=r1.get (Qa (show i < xs.length by omega))
  rw [e1] at q1
  cases q1
  exact ⟨c,by rw [Qa g] at f1;exact QD f1,m1⟩
 have C8:∀ i (g:i < i2.length) (k:i < q.length),∃ c,i2[i]=.ref c/\bj H c (q[i].map V.str):=fun i g k=>by
  obtain ⟨c,e1,m1⟩:=v2.at_ i (by omega) k
  obtain ⟨w1,f1,q1⟩:=r2.get (Qa (show i < ys.length by omega))
  rw [e1] at q1
  cases q1
  exact ⟨c,by rw [Qa g] at f1;exact QD f1,m1⟩
 have go:∀ d k,k+d=j->KatLex X.prog X.w A false fin C ((i2.zip i1).drop k) k s:=by
  intro d
  induction d with
  | zero=>
   intro k hk
   obtain rfl:k=j:=by omega
   have hz:k < (i2.zip i1).length:=by rw [List.length_zip];omega
   rw [QM hz,List.getElem_zip]
   obtain ⟨c1,e1,t1⟩:=C7 k (by omega) j1
   obtain ⟨c2,e2,t2⟩:=C8 k (by omega) j2
   rw [e1,e2]
   have eq:=oK I t2 t1 (A:=A) (by omega)
   rw [Qw (Ne.symm jl)] at eq
   exact kat_cons (eq _ _ _ _ (kat_no (kat_one _ _ (z7 I t1 t2 hl (A:=A) (by omega) _ _ _ _ hC))))
  | succ d ih=>
   intro k hk
   have hz:k < (i2.zip i1).length:=by rw [List.length_zip];omega
   rw [QM hz,List.getElem_zip]
   obtain ⟨c1,e1,t1⟩:=C7 k (by omega) (by omega)
   obtain ⟨c2,e2,t2⟩:=C8 k (by omega) (by omega)
   rw [e1,e2]
   have eq:=oK I t2 t1 (A:=A) (by omega)
   rw [Qv (y_ k (by omega) (by omega) (by omega)).symm] at eq
   exact kat_cons (eq _ _ _ _ (kat_yes (ih (k+1) (by omega))))
 exact go j 0 (by omega)
def UO:List V->Hp->VK->Prop:=fun xs H Q=>∃ l us F,xs=[.ref l]/\H l=some (.lst us)/\us.length<=100000/\RL H us F/\(∀ i (h:i+1 < F.length),vn F[i] F[i+1])/\∀ L,H L=none->Q (.ref L) (upd H L (.lst us))
theorem rG (hu:X.A.units+20 < cLine):iu X (.builtin "sorted") UO:=by
 intro pins s σ H xs Yd Q I r h
 obtain ⟨l,us,F,rfl,hl,HD,fl,yd,q⟩:=h
 obtain ⟨u,rfl,ru⟩:=r.one
 cases ru
 obtain ⟨its,rv,pl,hz⟩:=I.list (ak.of hl)
 have fq:=rv.length
 have HG:=fl.len
 have pair:∀ i (h1:i < its.length) (h2:i < F.length),∃ c ys o n rr,its[i]=.ref c/\H c=some (.tup ys)/\s.heap.get? c=some o/\o.cls=.type "tuple"/\o.data=.seq rr n/\a_ ys rr.toList/\SV H ys F[i]:=fun i h1 h2=>by
  obtain ⟨c,ys,e1,e2,e3⟩:=fl.at_ i (by omega) h2
  obtain ⟨w1,f1,q1⟩:=rv.get (Qa (show i < us.length by omega))
  rw [e1] at q1
  cases q1
  rw [Qa h1] at f1
  obtain ⟨i2,r2,⟨o,g1,g2,n,g3⟩,_⟩:=I.tuple (au.of e2)
  exact ⟨c,ys,o,n,_,QD f1,e2,g1,g2,g3,by simpa using r2,e3⟩
 have pos:2<=its.length->∀ i (h:i < F.length),0 < F[i].length:=fun h2 i h=>by
  by_cases hi:i+1 < F.length
  ·obtain ⟨j,j1,_⟩:=yd i hi
   omega
  ·obtain ⟨j,_,j2,_⟩:=yd (i - 1) (by omega)
   have e:i - 1+1=i:=by omega
   simp only [e] at j2
   omega
 refine u6 (κ:=tuples' false) pl.isList (by omega) (fun h2 h' hk Q' hq=>?_) (fun h' hk k k1 k2 C hC=>?_) ?_
 ·have I':Inv X pins σ H {s with heap:=h'}:=I.kept (t':=s.toks) hk
  obtain ⟨fs,HH⟩:=mJ (R:=fun v f=>(∃ a o xs n,v=Value.ref a/\h'.get? a=some o/\o.cls=Value.type "tuple"/\o.data=.seq xs n/\xs[0]? =some f)/\∃ b ys,f=Value.ref b/\bj H b ys) its fun v hv=>by
   obtain ⟨i,hi,rfl⟩:=Qi hv
   obtain ⟨c,ys,o,n,rr,g0,gc,g1,g2,g3,g4,g5⟩:=pair i hi (by omega)
   have hp:=pos h2 i (by omega)
   have Ye:=g5.len
   obtain ⟨b,e1,e2⟩:=g5.at_ 0 (by omega) hp
   obtain ⟨w1,f1,q1⟩:=g4.get (Qa (show 0 < ys.length by omega))
   rw [e1] at q1
   cases q1
   exact ⟨.ref b,⟨c,o,rr,n,g0,hk _ _ g1,g2,g3,by rw [<- Array.getElem?_toList];exact f1⟩,b,_,rfl,e2⟩
  have Yg:=Paired.length HH
  refine kat_kind (s:={s with heap:=h'}) (T:=.type "tuple") (sI (rY (fun _ _ h=>h.1) HH)) (by omega) (fun v hv=>?_) (by decide) hq
  obtain ⟨b,ys,rfl,hb⟩:=oA (P:=fun f=>∃ b ys,f=Value.ref b/\bj H b ys) (fun _ _ h=>h.2) HH v hv
  obtain ⟨i2,r2,⟨o,g1,g2,_⟩,_⟩:=I'.tuple (.inl hb)
  exact fun A' Yh E' s' k' q'=>wpAny_typeOf ⟨o,k' _ _ g1,g2⟩ q'
 ·have I':Inv X pins σ H {s with heap:=h'}:=I.kept (t':=s.toks) hk
  obtain ⟨c,ys,o,n,rr,g0,gc,g1,g2,g3,g4,g5⟩:=pair k (by omega) (by omega)
  obtain ⟨c',GN,o',n',Yi,UP,Yj,C9,Lw,UQ,UR,US⟩:=pair (k - 1) (by omega) (by omega)
  have ek:its.getD k Value.none=.ref c:=by rw [Qb,Qa k2,g0];rfl
  have UT:its.getD (k - 1) Value.none=.ref c':=by rw [Qb,Qa (by omega),UP];rfl
  rw [ek,UT]
  have hr:vn (F[k - 1]'(by omega)) (F[k]'(by omega)):=by
   have:=yd (k - 1) (by omega)
   have e:k - 1+1=k:=by omega
   simp only [e] at this
   exact this
  refine kat_lt (s:={s with heap:=h'}) (hk _ _ g1) g3 (hk _ _ C9) UQ ?_
  have UU:X.A.in1.in1.units+4 < cLine:=by rw [Around.in1_units,Around.in1_units];omega
  exact wS I' UR g4 US g5 hr UU hC
 ·obtain ⟨e,he⟩:=sortedAll_at s.heap its its.toArray
  have hf:H (s.heap.objs.size+1)=none:=I.hok.fresh (Nat.le_succ _)
  refine ⟨.ref (s.heap.objs.size+1),_,I.laid (t':=s.toks) (a:=s.heap.objs.size+1) (o:=.lst us) (fun b o eo=>sortedAll_old eo) (Nat.le_succ _) ?_,rfl,q _ hf⟩
  exact ⟨by omega,its,e,rv,he⟩
end L2
namespace L2
open PySem PySem.Spec PyProof.Rows
def dd (seen:List Str):List (Road×Str)->LR
 | []=>[]
 | q::P=>if q.2∈seen then dd seen P else (q.2,q.1)::dd (seen++[q.2]) P
structure QI (rows:List ae) (f:Str) (i:Nat) (found:LR) (P:List (Road×Str)):Prop where
 fd:found=(HA (BQ rows f i)).take i
 pd:dd (found.map (·.1)) P=(HA (BQ rows f i)).drop i
theorem QI.start (rows:List ae) (f:Str):QI rows f 0 [] [([],f)]:=⟨by simp,by simp [dd,BQ,HA,Lp]⟩
theorem qV {a b:Str} (h:mh a b=true):a≠b/\decide (b.cps.toList < a.cps.toList)=false:=by
 unfold mh at h
 have h1:=Qt h
 refine ⟨fun z=>?_,Qw fun h2=>?_⟩
 ·subst z;exact List.lt_irrefl _ h1
 ·exact List.lt_irrefl _ (List.lt_trans h1 h2)
theorem yj.ne {xs ys:List Str} (h:yj xs ys):xs≠ys:=fun z=>by
 subst z
 obtain ⟨j,h1,h2,_,h3,_⟩:=h
 exact h3 rfl
theorem wR (w:Str) {a b:Str} (h:mh a b=true):yj [w,a] [w,b]:=by
 obtain ⟨h1,h2⟩:=qV h
 refine ⟨1,by simp,by simp,fun i g1 g2 hi=>?_,h1,h2⟩
 have:i=0:=by omega
 subst this;rfl
theorem UW:yj ["from"] ["to"]:=⟨0,by simp,by simp,fun i g1 g2 hi=>absurd hi (by omega),by decide,by decide⟩
theorem xL:∀ {h:Hd},h.ok ns->h.bg.Pairwise fun m m'=>yj m.1 m'.1
 | .one _,_=>.nil
 | .as _,_=>.nil
 | .way x y,_=>by
  show List.Pairwise _ [((["from"]:List Str),x),(["to"],y)]
  exact .cons (fun m hm=>by rw [List.mem_singleton.mp hm];exact UW) (.cons (fun m hm=>nomatch hm) .nil)
 | .prs s ps,ok=>by
  show List.Pairwise _ (ps.map fun p=>(([if s="box" then "part" else "case",p.1]:List Str),p.2))
  rw [List.pairwise_map]
  have:=jA ok.2.2.1
  rw [List.pairwise_map] at this
  exact this.imp fun h=>wR _ h
theorem RT.UX {xs:List V} {rows:List ae} (rt:RT H a xs rows ns ws) (hw:∀ z∈ws,Wd z) (hx:x∈ns):(bh rows x).Pairwise fun m m'=>yj m.1 m'.1:=by
 unfold bh
 rw [List.pairwise_map]
 exact xL (rt.yc hw hx).2.2
end L2
namespace L2
end L2
namespace L2
open PySem PySem.SetTable
def E9 (mask:Nat) (p:Probe):Probe:=if p.more > 0 then {p with j:=p.j+1,more:=p.more - 1} else {p with j:=(leap mask p.i p.perturb).1,more:=runEnd mask (leap mask p.i p.perturb).1 - (leap mask p.i p.perturb).1,i:=(leap mask p.i p.perturb).1,perturb:=(leap mask p.i p.perturb).2}
def UY (mask:Nat) (q:Nat×Nat):Probe:={j:=q.1,more:=runEnd mask q.1 - q.1,i:=q.1,perturb:=q.2,dummy:=none}
def st (mask:Nat) (h:Int):Nat->Probe
 | 0=>UY mask (bits h % (mask+1),bits h)
 | n+1=>E9 mask (st mask h n)
section
variable {mask:Nat} {h:Int}
theorem mP (i:Nat):runEnd mask i - i<=9/\(i<=mask->i+(runEnd mask i - i)<=mask):=by
 unfold runEnd
 split<;>omega
theorem Lx:∀ n,(st mask h n).j+(st mask h n).more<=mask
 | 0=>(mP _).2 (Nat.le_of_lt_succ (Nat.mod_lt _ (Nat.succ_pos _)))
 | n+1=>by
  have ih:=Lx n
  show (E9 mask (st mask h n)).j+(E9 mask (st mask h n)).more<=mask
  unfold E9
  split
  ·simp only;omega
  ·exact (mP _).2 (Nat.le_of_lt_succ (Nat.mod_lt _ (Nat.succ_pos _)))
end
section
variable {xs:Array Nat}
end
section
variable {t:SetTable} {es:Array (Int×Value)} {h:Int}
end
section
variable {xs:Array α} {p:Nat} {x:α}
end
section
variable {t:SetTable} {es:Array (Int×Value)} {h:Int} {x:Value} {n0:Nat}
end
theorem j5:∀ {l m:List Nat},l.Nodup->(∀ x∈l,x∈m)->l.length<=m.length
 | [],m,_,_=>Nat.zero_le _
 | a::l,m,nd,hs=>by
  obtain ⟨h1,h2⟩:=List.nodup_cons.mp nd
  have hm:=hs a (List.mem_cons_self ..)
  have:l.length<=(m.erase a).length:=j5 h2 fun x hx=>(List.mem_erase_of_ne (show x≠a from fun e=>h1 (by rw [<- e];exact hx))).mpr (hs x (Qh _ hx))
  rw [List.length_erase_of_mem hm] at this
  have:=List.length_pos_of_mem hm
  simp only [List.length_cons];omega
def Ow (owner:Array (Option Nat)) (j:Nat):Prop:=(owner.getD j (some 0)).isNone=false
structure Ly (mask:Nat) (owner:Array (Option Nat)) (hs:List Int):Prop where
 sz:owner.size=mask+1
 lt:∀ j k:Nat,owner[j]? =some (some k)->k < hs.length
 inj:∀ j j' k:Nat,owner[j]? =some (some k)->owner[j']? =some (some k)->j=j'
 reach:∀ k (h:k < hs.length),∃ n,owner[(st mask hs[k] n).j]? =some (some k)/\∀ m,m < n->Ow owner (st mask hs[k] m).j
section
variable {mask:Nat} {owner:Array (Option Nat)} {hs:List Int} {h:Int}
end
def BV (mask:Nat) (owner:Array (Option Nat)):List (Nat×Nat):=(List.range (mask+1)).filterMap fun j=>(owner.getD j none).map (j,·)
section
variable {mask:Nat} {owner:Array (Option Nat)} {hs:List Int}
theorem iU (hz:owner.size=mask+1) {p:Nat×Nat}:p∈BV mask owner↔p.1<=mask/\owner[p.1]? =some (some p.2):=by
 unfold BV
 rw [List.mem_filterMap]
 constructor
 ·rintro ⟨j,hj,e⟩
  have oq:j < owner.size:=by have:=List.mem_range.mp hj;omega
  have eg:owner.getD j none=owner[j]:=by simp [Array.getD,oq]
  rw [eg] at e
  cases hx:owner[j] with
  | none=>rw [hx] at e;cases e
  | some k=>
   rw [hx] at e
   cases e
   exact ⟨by show j<=mask;omega,by show owner[j]? =_;rw [Array.getElem?_eq_getElem oq,hx]⟩
 ·rintro ⟨h1,h2⟩
  obtain ⟨h3,h4⟩:=Array.getElem?_eq_some_iff.mp h2
  refine ⟨p.1,List.mem_range.mpr (by omega),?_⟩
  have eg:owner.getD p.1 none=owner[p.1]:=by simp [Array.getD,h3]
  rw [eg,h4];rfl
theorem yC {f:Nat->Option Nat}:∀ l:List Nat,l.Pairwise (· < ·)->((l.filterMap fun j=>(f j).map (j,·)).map (·.1)).Pairwise (· < ·)/\∀ x∈(l.filterMap fun j=>(f j).map (j,·)).map (·.1),x∈l
 | [],_=>⟨.nil,fun _ h=>nomatch h⟩
 | a::l,h=>by
  obtain ⟨h1,h2⟩:=List.pairwise_cons.mp h
  obtain ⟨i1,i2⟩:=yC (f:=f) l h2
  cases e:f a with
  | none=>
   simp only [List.filterMap_cons,e,Option.map_none]
   exact ⟨i1,fun x hx=>Qh _ (i2 x hx)⟩
  | some k=>
   simp only [List.filterMap_cons,e,Option.map_some,List.map_cons]
   refine ⟨List.pairwise_cons.mpr ⟨fun x hx=>h1 x (i2 x hx),i1⟩,fun x hx=>?_⟩
   rcases Qp.mp hx with rfl | hx
   ·exact List.mem_cons_self ..
   ·exact Qh _ (i2 x hx)
theorem xS:((BV mask owner).map (·.1)).Pairwise (· < ·):=(yC (f:=fun j=>owner.getD j none) _ List.pairwise_lt_range).1
theorem Ly.len (I:Ly mask owner hs):(BV mask owner).length=hs.length:=by
 have nd:((BV mask owner).map (·.2)).Nodup:=by
  have h1:=xS (mask:=mask) (owner:=owner)
  rw [List.pairwise_map] at h1
  refine List.pairwise_map.mpr (h1.imp_of_mem fun {a b} ha hb nu e=>?_)
  have:=I.inj a.1 b.1 a.2 ((iU I.sz).mp ha).2 (by rw [e];exact ((iU I.sz).mp hb).2)
  omega
 have l1:=j5 nd (m:=List.range hs.length) fun x hx=>by
  obtain ⟨p,hp,rfl⟩:=List.mem_map.mp hx
  exact List.mem_range.mpr (I.lt _ _ ((iU I.sz).mp hp).2)
 have l2:=j5 (l:=List.range hs.length) (m:=(BV mask owner).map (·.2)) List.nodup_range fun x hx=>by
  have hx':=List.mem_range.mp hx
  obtain ⟨n,e1,_⟩:=I.reach x hx'
  have hj:(st mask hs[x] n).j<=mask:=by have:=Lx (mask:=mask) (h:=hs[x]) n;omega
  exact List.mem_map.mpr ⟨((st mask hs[x] n).j,x),(iU I.sz).mpr ⟨hj,e1⟩,rfl⟩
 simp at l1 l2
 omega
end
section
variable {K:Type} [DecidableEq K] {knd:KeyKind prog w K}
end
end L2
namespace L2
open PySem PySem.Spec PyProof.Rows
section
variable {I:Addr} {wr:List Addr} {P:Nat->Value->Prop} {St:Nat->Shared->Prop}
end
section
variable {UZ:List (List Key×Addr)} {ks:List Key}
end
section
variable {UZ:List (List Key×Addr)}
end
end L2
namespace L2
open PySem PySem.Spec PyProof.Rows PySem.W
section
variable {o:Expr} {p Up:Pos}
end
end L2
namespace L2
open PySem PySem.Spec PyProof.Rows
section
variable {d:Addr} {od:Obj} {es:Array DictEntry} {Q:Option Value->Shared->Prop}
end
section
variable {a b:Expr} {tb:TE} {pos:Pos}
end
inductive Th where
 | pick (w:Str) (t:Th)
 | Yk (ps:List (Str×Th))
section
variable {rows:List ae} {e:Str}
end
structure PD (R:V->Th->Prop) (ws:List Str) (kvs:List (Key×V)):Prop where
 all:∀ q∈kvs,∃ z t,q.1=.inr z/\z∈ws/\R q.2 t
 nd:(kvs.map (·.1)).Nodup
section
variable {R R':V->Th->Prop} {kvs HJ:List (Key×V)}
theorem PD.len (h:PD R ws kvs):kvs.length<=ws.length:=by
 have hc:∀ q:Key×V,∃ z:Str,q∈kvs->q.1=.inr z/\z∈ws:=fun q=>by
  by_cases hq:q∈kvs
  ·obtain ⟨z,t,h1,h2,_⟩:=h.all q hq;exact ⟨z,fun _=>⟨h1,h2⟩⟩
  ·exact ⟨"",fun z=>absurd z hq⟩
 obtain ⟨f,hf⟩:=Classical.axiomOfChoice hc
 have:=nE (l:=kvs.map f) (m:=ws) ?_ ?_
 ·simpa using this
 ·refine List.pairwise_map.mpr ((List.pairwise_map.mp h.nd).imp_of_mem fun {a b} ha hb nu e=>nu ?_)
  rw [(hf a ha).1,(hf b hb).1,e]
 ·intro z hz
  obtain ⟨q,hq,rfl⟩:=List.mem_map.mp hz
  exact (hf q hq).2
end
def E_ (rows:List ae) (ns:List Str):Prop:=∃ H a xs ws,RT H a xs rows ns ws/\∀ z∈ws,Wd z
section
variable {rows:List ae}
theorem E_.ja (g:E_ rows ns) {e e':Str} {s:List Str} (h:fu rows ns e) (m:L2.ja rows e s=some e'):fu rows ns e':=let ⟨_,_,_,_,rt,hw⟩:=g;rt.ja hw h m
theorem E_.nm (g:E_ rows ns) (x:Str):x∈rows.map (·.1)↔x∈ns:=let ⟨_,_,_,_,rt,hw⟩:=g;rt.nm.mem_iff
end
end L2
set_option maxHeartbeats 400000
--Yl 12
--Ym
--Yn
namespace T1
open PySem L2
def top (i:Nat):Stmt:=PySem.Challenge.pw_coilkind_k15_roads_of_so_many_steps.main.body.getD i (.Pass ⟨0,0,0,0⟩)
abbrev fQ:Stmt:=top 7
abbrev jD:Stmt:=top 8
abbrev fC:Stmt:=top 9
abbrev kS:Stmt:=top 16
abbrev dQ:Stmt:=top 17
abbrev fH:Stmt:=top 18
abbrev fP:Stmt:=top 19
abbrev fK:Stmt:=top 20
abbrev fG:Stmt:=top 21
abbrev bT:Stmt:=top 22
abbrev i9:Stmt:=top 24
abbrev iC:Stmt:=top 25
abbrev fN:Stmt:=top 26
abbrev eB:Stmt:=top 27
abbrev fL:Stmt:=top 28
abbrev eO:Stmt:=top 29
abbrev jB:Stmt:=top 30
abbrev dU:Stmt:=top 31
abbrev dD:Stmt:=top 32
abbrev fA:Stmt:=top 33
abbrev dI:Stmt:=top 34
abbrev eI:Stmt:=top 35
abbrev dL:Stmt:=top 36
abbrev cM:Stmt:=top 37
abbrev jP:Stmt:=top 38
abbrev d0:Stmt:=inClass (top 15) 0
abbrev h9:Stmt:=inClass (top 2) 0
abbrev dX:Stmt:=inClass (top 3) 0
abbrev pw:=PySem.Challenge.pw_coilkind_k15_roads_of_so_many_steps
abbrev ud:=PySem.Challenge.rw_coilkind_k15_roads_of_so_many_steps
def view:Program:={pw with main:={pw.main with body:=([1,2,3,4,6,7,8,9,11,12,13,14,15,16,17,18,19,20,21,22,24,25,26,27,28,29,30,31,32,33,34,35,36,37,38]:List Nat).filterMap fun i=>pw.main.body[i]?}}
def fns:List (Str×Stmt):=[⟨"heads_of",fQ⟩,⟨"rows_of",jD⟩,⟨"names_in",fC⟩,⟨"end_of",kS⟩,⟨"how_many",dQ⟩,⟨"roads",fH⟩,⟨"steps_in",fP⟩,⟨"moves_in",fK⟩,⟨"counted_on",fG⟩,⟨"rows_by_reach",bT⟩,⟨"_law_fill",i9⟩,⟨"_law_next",iC⟩,⟨"_law_turned",fN⟩,⟨"_law_words",eB⟩,⟨"_law_head",fL⟩,⟨"_law_telling",eO⟩,⟨"_law_any",jB⟩,⟨"_law_row_here",dU⟩,⟨"_law_head_here",dD⟩,⟨"_law_on",fA⟩,⟨"_law_listed",dI⟩,⟨"_law_refused",eI⟩,⟨"_law_row_to",dL⟩,⟨"_law_bounds_right",cM⟩,⟨"law",jP⟩]
def vals:List (Str×V):=[⟨"MOST_ROADS",.int 1000⟩]
def tups:List (Str×List V):=[⟨"WORDED",[.str "box",.str "pick"]⟩]
def ND:List (Str×List ow):=[⟨"STEP_WORDS",[⟨"box",.inl (.str "part")⟩,⟨"pick",.inl (.str "case")⟩]⟩]
def Xy:List Str:=["len","isinstance","range","int","list","tuple","dict","sorted","zip","max","reversed","sum","any","ValueError"]
def jb:List (Str×List V):=[⟨"FROM",[.str "from"]⟩,⟨"TO",[.str "to"]⟩]
def NE:List zp:=[⟨"Net","Net.__init__",d0,["rows","heads","marks","moves"]⟩]
def NF:List yh:=[⟨"CoilError","CoilError.__init__",none,[]⟩,⟨"NoText","NoText.__init__",some h9,["number"]⟩,⟨"TooMany","TooMany.__init__",some dX,["many"]⟩,⟨"NoTelling","NoTelling.__init__",none,[]⟩]
def subs:List (Str×Str×Bool):=[("CoilError","CoilError",true),("CoilError","NoText",false),("CoilError","TooMany",false),("CoilError","NoTelling",false),("NoText","CoilError",true),("NoText","NoText",true),("NoText","TooMany",false),("NoText","NoTelling",false),("TooMany","CoilError",true),("TooMany","NoText",false),("TooMany","TooMany",true),("TooMany","NoTelling",false),("NoTelling","CoilError",true),("NoTelling","NoText",false),("NoTelling","TooMany",false),("NoTelling","NoTelling",true)]
def look (K:QZ):=(zh (without K (qm K jb)) fns,EK (without K (qm K jb)) vals,zk (without K (qm K jb)) tups,Hf (without K (qm K jb)) ND,BK (without K (qm K jb)) Xy,zk K jb,decide (qm K jb).Nodup,CZ (without K (qm K jb)) NE,BS (without K (qm K jb)) NF,E2 (without K (qm K jb)) subs)
def want (w:World):=(zj fns,EL vals,zm tups,Hg w ND,true,zm jb,true,C0 NE,BU NF,E3 subs)
theorem Xz (w:World):(PySem.W.openEnds treeTable pw (w.withFollow "special-get-raises" false) 4062).map (fun s=>(PySem.W.openSeen view ["STEP_WORDS"] (PySem.importedModules pw.main.body) (fun s=>PySem.W.xlAt view [] s&&PySem.W.recOk [] s) true s,(vf look want).obs s))=some (PySem.W.openGood view ["STEP_WORDS"],(vf look want).val (w.withFollow "special-get-raises" false)):=by kernel_rfl
theorem XA (w:World):(PySem.W.openEnds treeTable pw (w.withFollow "special-get-raises" true) 4062).map (fun s=>(PySem.W.openSeen view ["STEP_WORDS"] (PySem.importedModules pw.main.body) (fun s=>PySem.W.xlAt view [] s&&PySem.W.recOk [] s) true s,(vf look want).obs s))=some (PySem.W.openGood view ["STEP_WORDS"],(vf look want).val (w.withFollow "special-get-raises" true)):=by kernel_rfl
def Ag:DefRec:=⟨"law",lz jP,ig jP,az jP,(match jP with | .FunctionDef _ _ _ _ _ _ _ _ _ p=>p | _=>⟨0,0,0,0⟩)⟩
theorem hdef:PySem.W.defOf view ud.row.name=some (Ag,[]):=by kernel_rfl
theorem hprog:ud.row.prog.theDef ud.row.name=some (Ag.params,Ag.body,Ag.scope):=by kernel_rfl
theorem hkw:PySem.W.kwWritten? Ag.params.kwonlyargs Ag.params.kw_defaults=some []:=by kernel_rfl
theorem hok:(PySem.W.chainsOk view&&PySem.W.opensWell ud.row.prog&&(PySem.W.frees ud.row.toRowW&&ud.row.within.isEmpty))=true:=by kernel_rfl
theorem hbare:ud.row.prog.bare:=⟨rfl,rfl,rfl,rfl,rfl,by decide+kernel⟩
theorem XJ:ud.row.toRowW.promised:=by w_witness2
theorem said:ud.wellSaid=true:=by
 refine zW (p:=pw) rfl ?_ ?_ ?_ ?_ ?_ ?_ ?_ ?_ ?_ ?_ ?_ ?_ ?_ ?_ ?_ ?_ ?_ ?_ ?_ ?_ ?_ ?_ ?_ ?_ ?_ ?_ ?_ ?_<;>kernel_rfl
structure Txt (K:QZ) (mg:Str->Option Value) (w:World):Prop where
 zq:mg "len"=none
 dM:mg "isinstance"=none
 d6:mg "range"=none
 U0:mg "int"=none
 u8:mg "list"=none
 iT:mg "tuple"=none
 x2:mg "dict"=none
 xM:mg "sorted"=none
 U1:mg "zip"=none
 U3:mg "max"=none
 lT:mg "reversed"=none
 AQ:mg "sum"=none
 U4:mg "any"=none
 nY:mg "ValueError"=none
 xG:∃ a,mg "WORDED"=some (.ref a)/\∀ H,au K H a [.str "box",.str "pick"]
 fE:∃ u,mg "MOST_ROADS"=some u/\RelV (.int 1000) u
 nV:∃ u,mg "FROM"=some u/\RelV (.ref (adr mg "FROM")) u
 HK:∃ u,mg "TO"=some u/\RelV (.ref (adr mg "TO")) u
 iP:∃ a,mg "STEP_WORDS"=some (.ref a)/\KD w K a [(.inr "box",.str "part"),(.inr "pick",.str "case")]
 tY:di K mg "heads_of" fQ ["T"]
 vO:di K mg "rows_of" jD ["T"]
 sQ:di K mg "names_in" fC ["head"]
 wT:di K mg "end_of" kS ["T","x","road"]
 tG:di K mg "how_many" dQ ["T","x","n"]
 uG:di K mg "roads" fH ["T","x","n"]
 sJ:di K mg "steps_in" fP ["head"]
 t9:di K mg "moves_in" fK ["head","rows"]
 p9:di K mg "counted_on" fG ["net","many"]
 k8:di K mg "rows_by_reach" bT ["net","n"]
 sP:di K mg "_law_fill" i9 ["_law_cell","_law_at"]
 sY:di K mg "_law_next" iC ["_law_pen","_law_many"]
 o7:di K mg "_law_turned" fN ["_law_pen","_law_some"]
 qZ:di K mg "_law_words" eB ["_law_pen"]
 sW:di K mg "_law_head" fL ["_law_pen","_law_names","_law_ahead"]
 m9:di K mg "_law_telling" eO ["_law_pen","_law_most"]
 uW:di K mg "_law_any" jB ["_law_pen","_law_told"]
 kM:di K mg "_law_row_here" dU ["_law_told","_law_name"]
 kC:di K mg "_law_head_here" dD ["_law_told","_law_name"]
 yZ:di K mg "_law_on" fA ["_law_told","_law_name"]
 p7:di K mg "_law_listed" dI ["_law_told","_law_name","_law_n"]
 lX:di K mg "_law_refused" eI ["_law_told","_law_name","_law_n"]
 pD:di K mg "_law_row_to" dL ["_law_name","_law_sort","_law_words_here","_law_other"]
 i6:di K mg "_law_bounds_right" cM ["_law_pen"]
 Lz:di K mg "law" jP ["script"]
 qp:CH K mg "Net" "Net.__init__" d0 ["self","T"] ["rows","heads","marks","moves"] (adr mg "Net")
 HL:EZ K mg "CoilError"
 LA:BR K mg "NoText" "NoText.__init__" h9 ["self","number"] ["number"]
 AR:BR K mg "TooMany" "TooMany.__init__" dX ["self","many"] ["many"]
 LB:EZ K mg "NoTelling"
 Yo:PySem.W.subIn K (.ref (adr mg "CoilError")) (.ref (adr mg "CoilError"))=some true
 Yp:PySem.W.subIn K (.ref (adr mg "CoilError")) (.ref (adr mg "NoText"))=some false
 Yq:PySem.W.subIn K (.ref (adr mg "CoilError")) (.ref (adr mg "TooMany"))=some false
 Yr:PySem.W.subIn K (.ref (adr mg "CoilError")) (.ref (adr mg "NoTelling"))=some false
 Ys:PySem.W.subIn K (.ref (adr mg "NoText")) (.ref (adr mg "CoilError"))=some true
 Yt:PySem.W.subIn K (.ref (adr mg "NoText")) (.ref (adr mg "NoText"))=some true
 Yu:PySem.W.subIn K (.ref (adr mg "NoText")) (.ref (adr mg "TooMany"))=some false
 Yv:PySem.W.subIn K (.ref (adr mg "NoText")) (.ref (adr mg "NoTelling"))=some false
 U5:PySem.W.subIn K (.ref (adr mg "TooMany")) (.ref (adr mg "CoilError"))=some true
 U6:PySem.W.subIn K (.ref (adr mg "TooMany")) (.ref (adr mg "NoText"))=some false
 U7:PySem.W.subIn K (.ref (adr mg "TooMany")) (.ref (adr mg "TooMany"))=some true
 U8:PySem.W.subIn K (.ref (adr mg "TooMany")) (.ref (adr mg "NoTelling"))=some false
 Yw:PySem.W.subIn K (.ref (adr mg "NoTelling")) (.ref (adr mg "CoilError"))=some true
 Yx:PySem.W.subIn K (.ref (adr mg "NoTelling")) (.ref (adr mg "NoText"))=some false
 Yy:PySem.W.subIn K (.ref (adr mg "NoTelling")) (.ref (adr mg "TooMany"))=some false
 Yz:PySem.W.subIn K (.ref (adr mg "NoTelling")) (.ref (adr mg "NoTelling"))=some true
theorem qS:dc ["self","T"] ["self","T"] (az d0):=bN (by decide+kernel)
theorem k7:dc ["self","many"] ["self","many"] (az dX):=bN (by decide+kernel)
theorem qJ:dc ["T"] ["T"] (az fQ):=bN (by decide+kernel)
theorem d5:dc ["T","heads","rows","name","row"] ["T"] (az jD):=bN (by decide+kernel)
theorem qP:dc ["head"] ["head"] (az fC):=bN (by decide+kernel)
theorem f8:dc ["T","x","road","net","row","step"] ["T","x","road"] (az kS):=bN (by decide+kernel)
theorem dB:dc ["T","x","n","net","many","turn"] ["T","x","n"] (az dQ):=bN (by decide+kernel)
theorem bS:dc ["T","x","n","net","reach","found","left"] ["T","x","n"] (az fH):=bN (by decide+kernel)
theorem qW:dc ["head"] ["head"] (az fP):=bN (by decide+kernel)
theorem qI:dc ["head","rows"] ["head","rows"] (az fK):=bN (by decide+kernel)
theorem bA:dc ["net","many","further","row","even","odd","step","end","more_even","more_odd","so_even","so_odd"] ["net","many"] (az fG):=bN (by decide+kernel)
theorem cG:dc ["net","n","reach","turn","near"] ["net","n"] (az bT):=bN (by decide+kernel)
theorem fV:dc ["_law_cell","_law_at","_law_x"] ["_law_cell","_law_at"] (az i9):=bN (by decide+kernel)
theorem cN:dc ["_law_pen","_law_many","_law_at","_law_cell","_law_found"] ["_law_pen","_law_many"] (az iC):=bN (by decide+kernel)
theorem eJ:dc ["_law_pen","_law_some","_law_left","_law_found"] ["_law_pen","_law_some"] (az fN):=bN (by decide+kernel)
theorem iH:dc ["_law_pen","_law_some"] ["_law_pen"] (az eB):=bN (by decide+kernel)
theorem gE:dc ["_law_pen","_law_names","_law_ahead","_law_way","_law_one"] ["_law_pen","_law_names","_law_ahead"] (az fL):=bN (by decide+kernel)
theorem bW:dc ["_law_pen","_law_most","_law_size","_law_names","_law_rows","_law_k"] ["_law_pen","_law_most"] (az eO):=bN (by decide+kernel)
theorem tM:dc ["_law_pen","_law_told"] ["_law_pen","_law_told"] (az jB):=bN (by decide+kernel)
theorem dE:dc ["_law_told","_law_name","_law_rows"] ["_law_told","_law_name"] (az dU):=bN (by decide+kernel)
theorem jF:dc ["_law_told","_law_name"] ["_law_told","_law_name"] (az dD):=bN (by decide+kernel)
theorem dN:dc ["_law_told","_law_name","_law_here","_law_found"] ["_law_told","_law_name"] (az fA):=bN (by decide+kernel)
theorem bE:dc ["_law_told","_law_name","_law_n","_law_found","_law_turn","_law_longer","_law_road","_law_here","_law_step","_law_other"] ["_law_told","_law_name","_law_n"] (az dI):=bN (by decide+kernel)
theorem cV:dc ["_law_told","_law_name","_law_n","_law_caught","e"] ["_law_told","_law_name","_law_n"] (az eI):=bN (by decide+kernel)
theorem m8:dc ["_law_name","_law_sort","_law_words_here","_law_other"] ["_law_name","_law_sort","_law_words_here","_law_other"] (az dL):=bN (by decide+kernel)
theorem aM:dc ["_law_pen","_law_turns","_law_names","_law_some","_law_many","_law_rows","_law_k","_law_sort","_law_told","_law_long","_law_road","_law_longer"] ["_law_pen"] (az cM):=bN (by decide+kernel)
theorem fM:dc ["script","_law_pen","_law_k","_law_told","_law_name","_law_n","_law_most","_law_turn","_law_found"] ["script"] (az jP):=bN (by decide+kernel)
def U9 (K:QZ) (mg:Str->Option Value) (w:World):Prop:=∃ ts:List (Addr×Obj×List V),(∀ t∈ts,CG K t)/\(ts.map (·.1)).Nodup/\Txt (without K (ts.map (·.1))) mg w/\∀ H:Hp,(∀ t∈ts,H t.1=some (.af t.2.1 (.tup t.2.2)))->Kn mg H "FROM" [.str "from"]/\Kn mg H "TO" [.str "to"]
section
variable {K:QZ}
def LC:Sp:=fun vs H Q _=>∃ c t:Int,vs=[.int c,.int t]/\(0<=t/\t < 1000000000)/\∀ r:Int,Q (.int r) H
theorem qA (T:Txt K mg w):be P w K mg base 1 "_law_fill" ["_law_cell","_law_at"] LC:=by
 refine T.sP.fg fV (fun vs H Q E h=>?_) (fun f av A outer s H vs Q E hr h=>?_)
 ·obtain ⟨c,t,rfl,_⟩:=h
  rfl
 ·obtain ⟨c,t,rfl,⟨BW,U_⟩,k⟩:=h
  refine ⟨_,(aE (cZ (aX Q0 (zv 0) (bQ QY aK aK) (eu _)) (aH (aZ (zv 0))) bJ)
   (aE (aR (i:=2) fV.nd rfl (Or.inl rfl) (bQ eA (bQ cH (bQ cH (bQ dH (bQ eA (zv 0) aK) aK) (bQ dH (zv 1) aK)) aK) aK))
   (aE (aR (i:=2) fV.nd rfl (Or.inl rfl) (bQ eA (bQ cH (bQ cH (bQ dH (zv 2) (zv 2)) (bQ dH aK (zv 2))) (zv 1)) aK))
   (aH (aZ (bQ cH (bQ dH (zv 2) aK) (bQ eA (bQ cH (bQ dH (zv 2) (zv 2)) (bQ dH aK (zv 1))) aK))))))),?_⟩
  refine ⟨⟨by decide,by decide,by decide⟩,_,rfl,Ej (fun hk=>k _) (fun hk=>?_)⟩
  refine ⟨by decide,.inl ⟨?_,?_⟩,.inl ⟨by omega,by omega⟩,by decide,?_⟩
  ·have:=Int.emod_nonneg c (show (2147483647:Int)≠0 by decide);omega
  ·have:=Int.emod_lt_of_pos c (show (0:Int) < 2147483647 by decide);omega
  generalize hx:(c % 2147483647*48271+t*69621+11) % 2147483629=x
  have YA:0<=x:=by rw [<- hx];exact Int.emod_nonneg _ (by decide)
  have YB:x < 2147483629:=by rw [<- hx];exact Int.emod_lt_of_pos _ (by decide)
  refine ⟨.inl ⟨by omega,by omega⟩,.inl ⟨by decide,by decide⟩,by decide,?_⟩
  generalize hy:(x*x+48271*x+t) % 2147483587=y
  have YC:0<=y:=by rw [<- hy];exact Int.emod_nonneg _ (by decide)
  have YD:y < 2147483587:=by rw [<- hy];exact Int.emod_lt_of_pos _ (by decide)
  exact ⟨.inl ⟨by omega,by omega⟩,.inl ⟨by omega,by omega⟩,.inl ⟨by decide,by decide⟩,by decide,k _⟩
def U' (K:QZ):Sp:=fun vs H Q _=>∃ (p a:Addr) (ns:List Int) (m t x:Int),vs=[.ref p,.int m]/\H p=some (.lst [.ref a,.int t,.int x])/\(∀ o,ak K (upd H p o) a (ns.map V.int))/\ak K H a (ns.map V.int)/\(0<=t/\t < 1000000)/\(0 < m/\m < 1073741824)/\
 ∀ r t' x':Int,0<=r->r < m->0<=t'->t'<=t+1->Q (.int r) (upd H p (.lst [.ref a,.int t',.int x']))
theorem C_ (x y z:α):ie [x,y,z] 0=some x:=rfl
theorem Va (x y z:α):ie [x,y,z] 1=some y:=rfl
theorem HM (x y z:α):ie [x,y,z] 2=some z:=rfl
theorem rH (T:Txt K mg w):be P w K mg base 2 "_law_next" ["_law_pen","_law_many"] (U' K):=by
 have sF:be P w K mg base 1 "_law_fill" ["_law_cell","_law_at"] LC:=qA T
 refine T.sY.fg cN (fun vs H Q E h=>?_) (fun f av A outer s H vs Q E hr h=>?_)
 ·refine hdn fun Gz9 zG9=>?_;obtain ⟨p,a,ns,m,t,x,rfl,_⟩:=h;refine zG9 ?_
  rfl
 ·refine hdn fun Gz9 zG9=>?_;obtain ⟨p,a,ns,m,t,x,rfl,hp,YE,hS,⟨BW,U_⟩,⟨HN,Fb⟩,k⟩:=h;refine zG9 ?_
  refine ⟨_,(aE (cZ (aX o8 (bH (bG K) (zv 0) aK (fun _ _=>rfl)) (zv 1) (eu _)) (aE (aR (i:=2) cN.nd rfl (Or.inl rfl) (bH (bG K) (zv 0) aK (fun _ _=>rfl)))
   (aE (aR (i:=3) cN.nd rfl (Or.inl rfl) aK)
   (aE (cZ (aX o8 (zv 2) (bC (cR K) (by rfl) T.zq PySem.boot_len (aQ (bH (bG K) (zv 0) aK (fun _ _=>rfl)) aC)) (eu _)) (aH (aR (i:=3) cN.nd rfl (Or.inl rfl) (bH (bG K) (bH (bG K) (zv 0) aK (fun _ _=>rfl)) (zv 2) (fun _ _=>rfl)))) (aH (cZ (aX j8 (bC (cR K) (by rfl) T.zq PySem.boot_len (aQ (bH (bG K) (zv 0) aK (fun _ _=>rfl)) aC)) aK (eu _)) (aH (aR (i:=3) cN.nd rfl (Or.inl rfl) (bQ cH (bQ eA (bH (bG K) (bH (bG K) (zv 0) aK (fun _ _=>rfl)) (bQ eA (bQ dH (zv 2) aK) (bC (cR K) (by rfl) T.zq PySem.boot_len (aQ (bH (bG K) (zv 0) aK (fun _ _=>rfl)) aC))) (fun _ _=>rfl)) aK) (bQ dH (zv 2) aK)))) bJ)))
   (aE (pS (bQ cH (zv 2) aK) (yP (zv 0) aK lL))
   (aH (pS (bF sF (hr.mono (by decide)) (aD (zv 3) (aD (zv 2) aC))) (yP (zv 0) aK lL))))))) bJ)
   (aE (aR (i:=4) cN.nd rfl (Or.inl rfl) (bQ eA (bH (bG K) (zv 0) aK (fun _ _=>rfl)) (zv 1)))
   (aE (pS (bQ zL (bH (bG K) (zv 0) aK (fun _ _=>rfl)) (zv 1)) (yP (zv 0) aK lL))
   (aH (aZ (zv 4)))))),?_⟩
  refine aU (fun σ' H1=>∃ (v2 v3:Option V) (t' x':Int),σ'=[some (.ref p),some (.int m),v2,v3,none]/\H1 p=some (.lst [.ref a,.int t',.int x'])/\(H1=H\/∃ o,H1=upd H p o)/\0<=t'/\t'<=t+1) ?_ ?_
  ·intro nx cy
   refine ⟨_,.int x,.inl (ak.of hp),HM _ _ _,_,rfl,Ej (fun hk=>?_) (fun hk=>?_)⟩
   ·refine aN ⟨_,.int t,.inl (ak.of hp),Va _ _ _,?_⟩
    refine wI ?_
    refine aU (fun σ' H1=>H1=H/\∃ c:Int,σ'=[some (.ref p),some (.int m),some (.int t),some (.int c),none]) ?_ ?_
    ·intro vo fh
     refine ⟨_,.ref a,.inl (ak.of hp),C_ _ _ _,.inl ⟨_,.inl hS,_,rfl,Ej (fun hl=>?_) (fun hl=>?_)⟩⟩
     ·obtain ⟨c,qi,nj⟩:=kO (ns.map V.int) t BW (by have:=Qt hl;omega)
      have BD:t.toNat < ns.length:=by
       have:=Qt hl
       rw [Ql] at this;omega
      have hc:c=.int (ns[t.toNat]):=by
       rw [Qq,Qa BD] at qi
       exact (QD qi).symm
      subst hc
      exact ⟨_,.ref a,.inl (ak.of hp),C_ _ _ _,_,_,.inl hS,nj,fh _ _ ⟨rfl,_,rfl⟩⟩
     ·refine ⟨_,.ref a,.inl (ak.of hp),C_ _ _ _,.inl ⟨_,.inl hS,_,rfl,Ej (fun ly=>?_) (fun ly=>?_)⟩⟩
      ·have Vb:=Qt ly
       have YF:0 < (ns.map V.int).length:=by omega
       have e0:=Int.emod_nonneg (t*7) (show ((ns.map V.int).length:Int)≠0 by omega)
       have e1:=Int.emod_lt_of_pos (t*7) (show (0:Int) < (ns.map V.int).length by omega)
       obtain ⟨c,qi,nj⟩:=kO (ns.map V.int) (t*7 % ((ns.map V.int).length:Int)) e0 e1
       have BD:(t*7 % ((ns.map V.int).length:Int)).toNat < ns.length:=by
        have e2:(ns.map V.int).length=ns.length:=Ql _
        omega
       have hc:c=.int (ns[(t*7 % ((ns.map V.int).length:Int)).toNat]):=by
        rw [Qq,Qa BD] at qi
        exact (QD qi).symm
       subst hc
       refine ⟨_,.ref a,.inl (ak.of hp),C_ _ _ _,.inl ⟨by omega,by omega⟩,_,.ref a,.inl (ak.of hp),C_ _ _ _,.inl ⟨_,.inl hS,Vb,_,_,.inl hS,nj,by decide,.inl ⟨by omega,by omega⟩,fh _ _ ⟨rfl,_,rfl⟩⟩⟩
      ·exact fh _ _ ⟨rfl,0,rfl⟩
    ·rintro σ' H1 ⟨rfl,c,rfl⟩
     refine ⟨p,_,1,1,rfl,rfl,hp,rfl,?_⟩
     refine ⟨c,t,rfl,⟨BW,by omega⟩,fun r=>?_⟩
     refine ⟨p,_,2,2,rfl,rfl,aA,rfl,?_⟩
     rw [kK]
     exact cy _ _ ⟨_,_,t+1,r,rfl,aA,.inr ⟨_,rfl⟩,by omega,by omega⟩
   ·exact cy _ _ ⟨none,none,t,x,rfl,hp,.inl rfl,BW,by omega⟩
  ·rintro σ' H1 z0;refine hdn fun Gz9 zG9=>?_;obtain ⟨v2,v3,t',x',rfl,h1,h2,h3,h4⟩:=z0;refine zG9 ?_
   refine ⟨_,.int x',.inl (ak.of h1),HM _ _ _,HN,?_⟩
   refine ⟨_,.int x',.inl (ak.of h1),HM _ _ _,⟨HN,Fb⟩,p,_,2,2,rfl,rfl,h1,rfl,?_⟩
   have e:∀ o,upd H1 p o=upd H p o:=fun o=>by
    rcases h2 with rfl | ⟨o',rfl⟩
    ·rfl
    ·exact kK
   rw [e]
   exact k _ t' _ (Int.emod_nonneg _ (by omega)) (Int.emod_lt_of_pos _ HN) h3 h4
structure cf (K:QZ) (H0 H:Hp) (p:Addr) (t:Nat):Prop where
 ex:∃ (a:Addr) (ns:List Int) (u x:Int),H p=some (.lst [.ref a,.int u,.int x])/\(∀ H',Sm p p H0 H'->ak K H' a (ns.map V.int))/\0<=u/\u<=(t:Int)
 sm:Sm p p H0 H
section
variable {D:Addr} {t u:Nat} {o:HO}
theorem cf.mono (h:cf K H0 H p t) (l:t<=u):cf K H0 H p u:=by
 refine hdn fun Gz9 zG9=>?_;obtain ⟨a,ns,y,x,h1,h2,h3,h4⟩:=h.ex;refine zG9 ?_
 exact ⟨⟨a,ns,y,x,h1,h2,h3,by omega⟩,h.sm⟩
theorem cf.same (h:cf K H0 H p t) (s:aa H H'):cf K H0 H' p t:=by
 obtain ⟨a,ns,y,x,h1,h2⟩:=h.ex
 exact ⟨⟨a,ns,y,x,s _ _ h1,h2⟩,h.sm.trans s.sm⟩
theorem cf.ne (h:cf K H0 H p t) (hD:H D=none):D≠p:=fun e=>by
 obtain ⟨_,_,_,_,z,_⟩:=h.ex
 rw [<- e,hD] at z;cases z
theorem cf.free (h:cf K H0 H p t) (hD:H D=none):H0 D=none:=h.sm.free hD (h.ne hD) (h.ne hD)
theorem cf.put (h:cf K H0 H p t) (h1:D≠p) (h2:H0 D=none):cf K H0 (upd H D o) p t:=by
 obtain ⟨a,ns,y,x,e1,e2⟩:=h.ex
 exact ⟨⟨a,ns,y,x,by rw [aF h1.symm];exact e1,e2⟩,h.sm.upd h2⟩
theorem cf.ts (h:cf K H0 H p t) (s:Sm p p H H'):Tk H H':=fun b xs e=>by
 obtain ⟨_,_,_,_,z,_⟩:=h.ex
 have n:b≠p:=fun q=>by rw [q,z] at e;cases e
 exact s _ _ e n n
theorem cf.LD (h:cf K H0 H p t) {xs:List V} (e:H b=some (.tup xs)):b≠p:=fun q=>by
 obtain ⟨_,_,_,_,z,_⟩:=h.ex
 rw [q,z] at e;cases e
end
def yk (K:QZ):Sp:=fun vs H Q _=>∃ (H0:Hp) (p:Addr) (m:Int) (t:Nat),vs=[.ref p,.int m]/\cf K H0 H p t/\(0 < m/\m < 1073741824)/\t < 900000/\
 ∀ (r:Int) (H':Hp),0<=r->r < m->cf K H0 H' p (t+1)->Sm p p H H'->Q (.int r) H'
theorem Vc (h:j < n):uu n (j:Int)=some j:=by
 unfold uu
 rw [if_pos (by omega),if_pos (by omega)];simp
theorem lO {α:Type}:∀ {ls:List α} {i:Nat} (h:i < ls.length),(ls[i]::ls.eraseIdx i).Perm ls
 | x::r,0,_=>List.Perm.refl _
 | x::r,i+1,h=>by
  have ih:=lO (ls:=r) (i:=i) (by simpa using h)
  exact (List.Perm.swap _ _ _).trans (ih.cons x)
theorem bR (T:Txt K mg w):be P w K mg base 2 "_law_next" ["_law_pen","_law_many"] (yk K):=(rH T).imp fun vs H Q E h=>by
 refine hdn fun Gz9 zG9=>?_;obtain ⟨H0,p,m,t,rfl,hn,hm,ht,k⟩:=h;refine zG9 ?_
 refine hdn fun Gz9 zG9=>?_;obtain ⟨a,ns,u,x,h1,h2,h3,h4⟩:=hn.ex;refine zG9 ?_
 have sU:∀ o,Sm p p H (upd H p o):=fun o b u hb n _=>by rw [aF n];exact hb
 refine ⟨p,a,ns,m,u,x,rfl,h1,fun o=>h2 _ (hn.sm.trans (sU o)),h2 _ hn.sm,⟨h3,by omega⟩,hm,fun r t' x' r0 r1 t0 t1=>?_⟩
 exact k r _ r0 r1 ⟨⟨a,ns,t',x',aA,h2,t0,by push_cast;omega⟩,hn.sm.trans (sU _)⟩ (sU _)
def HP (K:QZ):Sp:=fun vs H Q _=>∃ (H0:Hp) (p a:Addr) (xs:List V) (t:Nat),vs=[.ref p,.ref a]/\cf K H0 H p t/\t+100 < 900000/\(ak K H a xs\/au K H a xs)/\xs.length<=100/\
 ∀ (L:Addr) (ys:List V) (H':Hp),H L=none->H' L=some (.lst ys)->ys.Perm xs->cf K H0 H' p (t+100)->Sm p p H H'->Q (.ref L) H'
theorem hU (T:Txt K mg w):be P w K mg base 3 "_law_turned" ["_law_pen","_law_some"] (HP K):=by
 have aT:be P w K mg base 2 "_law_next" ["_law_pen","_law_many"] (yk K):=bR T
 refine T.o7.fg eJ (fun vs H Q E h=>?_) (fun f av A outer s H vs Q E hr h=>?_)
 ·obtain ⟨H0,p,a,xs,t,rfl,_⟩:=h
  rfl
 ·refine hdn fun Gz9 zG9=>?_;obtain ⟨H0,p,a,xs,t,rfl,hn,ht,ha,hx,k⟩:=h;refine zG9 ?_
  have hu:=bB hr
  have dm:=Qx (bB hr)
  have hsz:sizeLine=16777216:=QL
  refine ⟨_,(aE (aR (i:=2) eJ.nd rfl (Or.inl rfl) (cL (mU K) (by rfl) T.u8 PyProof.Rows.boot_list (aD (zv 1) aC)))
   (aE (aR (i:=3) eJ.nd rfl (Or.inl rfl) (bL aC))
   (aE (pB PassesOwn.never (aX (oY dm) (zv 2) (bL aC) (eu _)) (aH (iB (rT K QH QJ QK cP (zv 3) (aY (rT K QH PySem.F.slot_list_pop PySem.F.type_list_pop xW (zv 2) (aY (bF aT (hr.mono (by decide)) (aD (zv 0) (aY (bC (cR K) (by rfl) T.zq PySem.boot_len (aD (zv 2) aC)) aC))) aC)) aC)))))
   (aH (aZ (zv 3)))))),?_⟩
  refine aN ⟨a,xs,rfl,ha,fun l0 ko=>?_⟩
  refine aN ⟨(show 0<=sizeLine by decide),fun l1 gy=>?_⟩
  have s1:=aa.upd ko (.lst xs)
  have s2:=aa.upd gy (.lst [])
  have e0:l0≠p:=hn.ne ko
  have e1:l1≠p:=(hn.same s1).ne gy
  have LH:l0≠l1:=aP aA gy
  have f0:=hn.free ko
  have f1:=(hn.same s1).free gy
  have g0:upd (upd H l0 (.lst xs)) l1 (.lst []) l0=some (.lst xs):=s2 _ _ aA
  have g1:upd (upd H l0 (.lst xs)) l1 (.lst []) l1=some (.lst []):=aA
  have hn2:=(hn.same s1).same s2
  have sf:Sm p p H (upd (upd H l0 (.lst xs)) l1 (.lst [])):=(s1.trans s2).sm
  dsimp only
  generalize upd (upd H l0 (.lst xs)) l1 (.lst [])=H2 at g0 g1 hn2 sf
  have Dc:H l0=none:=ko
  have LI:H l1=none:=s1.free gy
  refine aU (fun σ' H'=>∃ ys,σ'=[some (.ref p),some (.ref a),some (.ref l0),some (.ref l1)]/\H' l1=some (.lst ys)/\ys.Perm xs/\cf K H0 H' p (t+100)/\Sm p p H H') ?_ ?_
  ·intro nx cy
   refine ⟨fun m σ' H'=>∃ (ls ys:List V),σ'=[some (.ref p),some (.ref a),some (.ref l0),some (.ref l1)]/\H' l0=some (.lst ls)/\H' l1=some (.lst ys)/\ls.length=m/\(ys++ls).Perm xs/\cf K H0 H' p (t+ys.length)/\Sm p p H H',⟨xs.length,xs,[],rfl,g0,g1,rfl,by simp,hn2,sf⟩,?_⟩
   rintro m σ' H3 z0;refine hdn fun Gz9 zG9=>?_;obtain ⟨ls,ys,rfl,q0,q1,q2,q3,q4,q5⟩:=z0;refine zG9 ?_
   have YG:ys.length+ls.length=xs.length:=by have:=q3.length_eq;rw [Qk] at this;exact this
   refine ⟨(show 0<=sizeLine by decide),fun b hb=>⟨aP q0 hb,ls,(aa.upd hb _) _ _ q0,aA,_,rfl,dz (fun c=>?_) (fun c=>?_)⟩⟩
   ·have s3:=aa.upd hb (.lst [])
    have LJ:=q4.same s3
    have Fc:=s3 _ _ q0
    have HQ:=s3 _ _ q1
    have LK:=q5.trans s3.sm
    generalize upd H3 b (.lst [])=H4 at LJ Fc HQ LK
    have Tp:0 < ls.length:=by
     cases ls with
     | nil=>exact absurd c (by decide)
     | cons x r=>simp
    refine ⟨fun σ' yl=>∃ m',m' < m/\∃ (ls ys:List V),σ'=[some (.ref p),some (.ref a),some (.ref l0),some (.ref l1)]/\yl l0=some (.lst ls)/\yl l1=some (.lst ys)/\ls.length=m'/\(ys++ls).Perm xs/\cf K H0 yl p (t+ys.length)/\Sm p p H yl,fun σ' yl h=>h,?_⟩
    refine ⟨.inl ⟨rfl,ys,ak.of HQ⟩,.inl ⟨rfl,ls,ak.of Fc⟩,.inl ⟨ls,.inl (ak.of Fc),H0,p,_,_,rfl,LJ,⟨by omega,by omega⟩,by omega,fun r H5 r0 r1 zu o_=>?_⟩⟩
    obtain ⟨i,rfl⟩:∃ i:Nat,r=(i:Int):=⟨r.toNat,by omega⟩
    have hi:i < ls.length:=by omega
    have p0:=o_ _ _ Fc e0 e0
    have p1:=o_ _ _ HQ e1 e1
    refine ⟨l0,ls,(i:Int),i,ls[i],rfl,rfl,p0,by omega,by omega,(oR (Vc hi)).1,Qa hi,l1,ys,ls[i],rfl,rfl,by rw [aF LH.symm];exact p1,by omega,ls.length - 1,by omega,ls.eraseIdx i,ys++[ls[i]],rfl,by rw [aF LH];exact aA,aA,?_,?_,?_,(LK.trans o_).upd Dc |>.upd LI⟩
    ·rw [List.length_eraseIdx,if_pos hi]
    ·rw [List.append_assoc]
     exact ((lO hi).append_left ys).trans q3
    ·rw [Qk]
     exact (zu.put e0 f0).put e1 f1
   ·have Vd:ls=[]:=by
     cases ls with
     | nil=>rfl
     | cons x r=>exact absurd c (by simp)
    subst Vd
    rw [List.append_nil] at q3
    have s3:=aa.upd hb (.lst [])
    exact cy _ _ ⟨ys,rfl,s3 _ _ q1,q3,(q4.same s3).mono (by have:=q3.length_eq;omega),q5.trans s3.sm⟩
  ·rintro σ' H' ⟨ys,rfl,q1,q2,q3,q4⟩
   exact k l1 ys H' LI q1 q2 q3 q4
def qt:List Str:=["a","ab","b","ba"]
def sj:List Str:=["case","from","part","to"]
def WW:List Str:=qt++sj
theorem LL:∀ z∈WW,isName z=true/\Wd z:=fun z hz=>by
 simp only [WW,qt,sj,List.cons_append,List.nil_append,Qp,QA,or_false] at hz
 rcases hz with rfl | rfl | rfl | rfl | rfl | rfl | rfl | rfl<;>exact ⟨by decide+kernel,f7 (by decide) (by decide)⟩
structure WN (os:List Str):Prop where
 yd:rising os=true
 len:os.length<=4
 ww:∀ z∈os,z∈WW
theorem Ve:qt.Pairwise fun a b=>mh a b=true:=by decide+kernel
theorem Vf:sj.Pairwise fun a b=>mh a b=true:=by decide+kernel
theorem WN.of {b os:List Str} (hb:b=qt\/b=sj) (s:os.Sublist b):WN os:=by
 rcases hb with rfl | rfl
 ·exact ⟨fF (Ve.sublist s),s.length_le,fun z hz=>List.mem_append.mpr (.inl (s.subset hz))⟩
 ·exact ⟨fF (Vf.sublist s),s.length_le,fun z hz=>List.mem_append.mpr (.inr (s.subset hz))⟩
def LM (K:QZ):Sp:=fun vs H Q _=>∃ (H0:Hp) (p:Addr) (t:Nat),vs=[.ref p]/\cf K H0 H p t/\t+5 < 900000/\
 ∀ (L:Addr) (os:List Str) (H':Hp),H L=none->H' L=some (.lst (os.map V.str))->WN os->cf K H0 H' p (t+5)->Sm p p H H'->Q (.ref L) H'
theorem oU (T:Txt K mg w):be P w K mg base 3 "_law_words" ["_law_pen"] (LM K):=by
 have aT:be P w K mg base 2 "_law_next" ["_law_pen","_law_many"] (yk K):=bR T
 refine T.qZ.fg iH (fun vs H Q E h=>?_) (fun f av A outer s H vs Q E hr h=>?_)
 ·obtain ⟨H0,p,t,rfl,_⟩:=h
  rfl
 ·obtain ⟨H0,p,t,rfl,hn,ht,k⟩:=h
  have hu:=bB hr
  have dm:=Qx (bB hr)
  have hsz:sizeLine=16777216:=QL
  refine ⟨_,(aE (aR (i:=1) iH.nd rfl (Or.inl rfl) (bH (bG K) (bL (iW (bL (aB aI (aB aI (aB aI (aB aI aC))))) (iW (bL (aB aI (aB aI (aB aI (aB aI aC))))) aC))) (cL vE (by rfl) T.U0 PyProof.Rows.boot_int (tF (rW (dS dm) (bF aT (hr.mono (by decide)) (aD (zv 0) (aB aK aC))) aK (eu _)) aC)) (fun _ _=>rfl)))
   (aH (aZ (jJ (own:=["_law_word"]) (idx:=[0]) (N':=["_law_word","_law_pen"]) (bZ (az eB) (["_law_pen","_law_some"]:List Str) (by decide+kernel)) rfl (nM K (zv 1)) (fun _ _ _ _ _ _=>(aJ (i:=0) (show List.Nodup (["_law_word","_law_pen"]:List Str) by decide+kernel) rfl (Or.inl rfl))) (fun _ _ _ _ _ _=>(pX (aX (dS dm) (bF aT (hr.mono (by decide)) (aD (zv 1) (aB aK aC))) aK (eu _)))) (fun _ _ _ _ _ _=>(zv 0)))))),?_⟩
  refine aN ⟨(show 4<=sizeLine by decide),fun l1 gy=>⟨(show 4<=sizeLine by decide),fun l2 ly=>⟨(show 2<=sizeLine by decide),fun O hO=>?_⟩⟩⟩
  have s1:=aa.upd gy (.lst (qt.map V.str))
  have g1:upd H l1 (.lst (qt.map V.str)) l1=some (.lst (qt.map V.str)):=aA
  have hn1:=hn.same s1
  have e1:l1≠p:=hn.ne gy
  change upd H l1 (.lst (qt.map V.str)) l2=none at ly
  change upd (upd H l1 (.lst (qt.map V.str))) l2 (.lst (sj.map V.str)) O=none at hO
  show D_ (yk K) [] E0 _ _ (upd (upd (upd H l1 (.lst (qt.map V.str))) l2 (.lst (sj.map V.str))) O (.lst [.ref l1,.ref l2])) _
  generalize upd H l1 (.lst (qt.map V.str))=H1 at*
  have s2:=aa.upd ly (.lst (sj.map V.str))
  have g2:upd H1 l2 (.lst (sj.map V.str)) l2=some (.lst (sj.map V.str)):=aA
  have hn2:=hn1.same s2
  have e2:l2≠p:=hn1.ne ly
  generalize upd H1 l2 (.lst (sj.map V.str))=H2 at*
  have s3:=aa.upd hO (.lst [.ref l1,.ref l2])
  have g3:upd H2 O (.lst [.ref l1,.ref l2]) O=some (.lst [.ref l1,.ref l2]):=aA
  have AS:=hn2.same s3
  have e3:O≠p:=hn2.ne hO
  generalize upd H2 O (.lst [.ref l1,.ref l2])=H3 at*
  refine ⟨H0,p,4,_,rfl,AS,⟨by decide,by decide⟩,by omega,fun r H4 r0 r1 vp sr=>⟨rfl,_,rfl,?_⟩⟩
  obtain ⟨S,bs,HR,gS,hb,eS⟩:∃ (S:Addr) (bs:List Str),ie [V.ref l1,V.ref l2] (if (false^^decide (V.int r=V.int 0))=true then 1 else 0)=some (.ref S)/\H4 S=some (.lst (bs.map V.str))/\(bs=qt\/bs=sj)/\S≠p:=by
   by_cases h:(false^^decide (V.int r=V.int 0))=true
   ·rw [if_pos h]
    exact ⟨l2,sj,rfl,sr _ _ (s3 _ _ g2) e2 e2,.inr rfl,e2⟩
   ·rw [if_neg h]
    exact ⟨l1,qt,rfl,sr _ _ (s3 _ _ (s2 _ _ g1)) e1 e1,.inl rfl,e1⟩
  refine ⟨_,_,.inl (ak.of (sr _ _ g3 e3 e3)),HR,?_⟩
  have YH:bs.length=4:=by rcases hb with rfl | rfl<;>rfl
  have Fd:Sm p p H H4:=(s1.trans (s2.trans s3)).sm.trans sr
  refine Or.inl ⟨⟨_,ak.of gS⟩,fun D hD=>?_⟩
  have zw:D≠p:=vp.ne hD
  have LN:D≠S:=fun e=>by rw [e,gS] at hD;cases hD
  have fD:H0 D=none:=vp.free hD
  have ym:H D=none:=Fd.free hD zw zw
  refine eW (cK (bs.map V.str)) (fun i τ H2=>∃ (v:Option V) (os:List Str),τ=[v,some (.ref p)]/\H2 D=some (.lst (os.map V.str))/\os.Sublist (bs.take i)/\H2 S=some (.lst (bs.map V.str))/\cf K H0 H2 p (t+1+i)/\Sm p p H H2)
   ⟨none,[],rfl,aA,List.Sublist.refl _,by rw [aF LN.symm];exact gS,vp.same (aa.upd hD _),Fd.upd ym⟩ (by rintro i τ H2 _ ⟨_,_,_,_,_,q,_⟩;exact ak.of q) ?_ ?_
  ·rintro i τ H5 hi z0;refine hdn fun Gz9 zG9=>?_;obtain ⟨v,os,rfl,q1,q2,q4,q5,q6⟩:=z0;refine zG9 ?_
   rw [Ql] at hi
   rw [jU bs i hi]
   have BX:bs.take (i+1)=bs.take i++[bs.getD i ""]:=by
    rw [Qs,Qb,Qa hi];rfl
   generalize bs.getD i ""=z at BX
   have C6:os.length<=i:=by have:=q2.length_le;simp at this;omega
   refine ⟨H0,p,2,t+1+i,rfl,q5,⟨by decide,by decide⟩,by omega,fun r H6 r0 r1 LO pe=>?_⟩
   refine ⟨rfl,_,rfl,?_⟩
   have g4:=pe _ _ q4 eS eS
   have g1:=pe _ _ q1 zw zw
   refine dz (fun _=>?_) (fun _=>?_)
   ·exact ⟨_,g1,by rw [Ql];exact PV (by omega),_,os++[z],rfl,by rw [aA,Qm];rfl,by rw [BX];exact q2.append (List.Sublist.refl _),by rw [aF LN.symm];exact g4,LO.put zw fD,(q6.trans pe).upd ym⟩
   ·exact ⟨_,os,rfl,g1,by rw [BX];exact q2.trans (List.sublist_append_left _ _),g4,LO,q6.trans pe⟩
  ·rintro τ H5 z0;refine hdn fun Gz9 zG9=>?_;obtain ⟨v,os,rfl,q1,q2,q4,q5,q6⟩:=z0;refine zG9 ?_
   rw [Ql] at q2 q5
   rw [Qo] at q2
   exact k D os H5 ym q1 (WN.of hb q2) (q5.mono (by omega)) q6
structure ku (H:Hp) (l:Addr) (ss:List Str):Prop where
 e:H l=some (.lst (ss.map V.str))
 ne:ss≠[]
 few:ss.length<=60
 wd:∀ z∈ss,Wd z
theorem yF {t:Nat} (h:ku H l ss) (hp:cf K H0 H p t):l≠p:=fun q=>by
 obtain ⟨_,_,_,_,z,_⟩:=hp.ex
 have e:=h.e
 have ne:=h.ne
 rw [q,z] at e
 cases ss with
 | nil=>exact ne rfl
 | cons a r=>cases e
theorem ku.nx {t:Nat} (h:ku H l ss) (hp:cf K H0 H p t) (s:Sm p p H H'):ku H' l ss:=⟨s _ _ h.e (yF h hp) (yF h hp),h.ne,h.few,h.wd⟩
theorem ku.same (h:ku H l ss) (s:aa H H'):ku H' l ss:=⟨s _ _ h.e,h.ne,h.few,h.wd⟩
theorem ku.at {H:Hp} {l:Addr} {ss:List Str} (h:ku H l ss) (r:Int) (h0:0<=r) (h1:r < ss.length):∃ z,ie (ss.map V.str) r=some (.str z)/\ss[r.toNat]? =some z/\Wd z:=by
 obtain ⟨c,qi,nj⟩:=kO (ss.map V.str) r h0 (by rw [Ql];exact h1)
 rw [Qq] at qi
 cases e:ss[r.toNat]? with
 | none=>rw [e] at qi;cases qi
 | some z=>
  rw [e] at qi
  cases qi
  exact ⟨z,nj,rfl,h.wd z (QC e)⟩
theorem ku.pos (h:ku H l ss):0 < ss.length:=List.length_pos_iff.mpr h.ne
def Vg (ns:List Str) (k:Nat) (o:Option Str):Prop:=∀ y,o=some y->∃ i,i < k/\ns[i]? =some y
def LP (K:QZ):Sp:=fun vs H Q _=>∃ (H0:Hp) (p nm:Addr) (k t:Nat) (ns:List Str),vs=[.ref p,.ref nm,.int (k:Int)]/\cf K H0 H p t/\t+20 < 900000/\ku H nm ns/\(∀ z∈ns,isName z=true)/\k<=ns.length/\
 ∀ (v:V) (H':Hp),oh H' ns WW v (Vg ns k)->cf K H0 H' p (t+20)->Sm p p H H'->Q v H'
theorem rP (T:Txt K mg w):be P w K mg base 4 "_law_head" ["_law_pen","_law_names","_law_ahead"] (LP K):=by
 have aT:be P w K mg base 2 "_law_next" ["_law_pen","_law_many"] (yk K):=bR T
 have rS:be P w K mg base 3 "_law_words" ["_law_pen"] (LM K):=oU T
 refine T.sW.fg gE (fun vs H Q E h=>?_) (fun f av A outer s H vs Q E hr h=>?_)
 ·refine hdn fun Gz9 zG9=>?_;obtain ⟨H0,p,nm,k,t,ns,rfl,_⟩:=h;refine zG9 ?_
  rfl
 ·refine hdn fun Gz9 zG9=>?_;obtain ⟨H0,p,nm,ka,t,ns,rfl,hn,ht,tn,Fe,hk,k⟩:=h;refine zG9 ?_
  have hu:=bB hr
  have dm:=Qx (bB hr)
  have hsz:sizeLine=16777216:=QL
  have YI:=tn.pos
  have YJ:=tn.few
  refine ⟨_,(aE (aR (i:=3) gE.nd rfl (Or.inl rfl) (bF aT (hr.mono (by decide)) (aD (zv 0) (aB aK aC))))
   (aE (cZ (aX o8 (zv 3) aK (eu _)) (aH (aZ (bH (bG K) (bL (aG (aO (aB aI aC)) (aG (aO (aB aI aC)) aC))) (zv 3) (fun _ _=>rfl)))) bJ)
   (aE (cZ (wW (aX (dS dm) (zv 3) aK (eu _)) (tE (aX j8 (zv 2) aK (eu _)))).pt (aH (aZ (aO (aB aI (aQ (bH (bG K) (zv 1) (bF aT (hr.mono (by decide)) (aD (zv 0) (aD (zv 2) aC))) (fun _ _=>rfl)) aC))))) bJ)
   (aE (cZ (aX o8 (zv 3) aK (eu _)) (aE (aR (i:=4) gE.nd rfl (Or.inl rfl) (bH (bG K) (zv 1) (bF aT (hr.mono (by decide)) (aD (zv 0) (aY (bC (cR K) (by rfl) T.zq PySem.boot_len (aD (zv 1) aC)) aC))) (fun _ _=>rfl)))
   (aH (aZ (aO (aB aI (aD (zv 4) (aQ (bH (bG K) (zv 1) (bF aT (hr.mono (by decide)) (aD (zv 0) (aY (bC (cR K) (by rfl) T.zq PySem.boot_len (aD (zv 1) aC)) aC))) (fun _ _=>rfl)) aC))))))) bJ)
   (aH (aZ (aO (aQ (bH (bG K) (bL (aB aI (aB aI aC))) (bQ eA (zv 3) aK) (fun _ _=>rfl)) (aY (cL (f9 K) (by rfl) T.iT QG (cC (jJ (own:=["_law_word"]) (idx:=[0,1]) (N':=["_law_word","_law_pen","_law_names"]) (bZ (az fL) (["_law_pen","_law_names","_law_ahead","_law_way","_law_one"]:List Str) (by decide+kernel)) rfl (nM K (bF rS (hr.mono (by decide)) (aD (zv 0) aC))) (fun _ _ _ _ _ _=>(aJ (i:=0) (show List.Nodup (["_law_word","_law_pen","_law_names"]:List Str) by decide+kernel) rfl (Or.inl rfl))) (fun _ _ _ _ _ _=>cS) (fun _ _ _ _ _ _=>(aO (aD (zv 0) (aQ (bH (bG K) (zv 2) (bF aT (hr.mono (by decide)) (aD (zv 1) (aY (bC (cR K) (by rfl) T.zq PySem.boot_len (aD (zv 2) aC)) aC))) (fun _ _=>rfl)) aC))))) aC)) aC))))))))),?_⟩
  refine aN ⟨H0,p,10,t,rfl,hn,⟨by decide,by decide⟩,by omega,fun wy H1 w0 w1 hn1 vq=>?_⟩
  have Ff:=tn.nx hn vq
  refine aU (fun σ' H'=>σ'=[some (.ref p),some (.ref nm),some (.int (ka:Int)),some (.int wy),none]/\H1=H') ?_ ?_
  ·intro nx cy
   refine ⟨_,rfl,dz (fun c1=>?_) (fun c1=>cy _ _ ⟨rfl,rfl⟩)⟩
   have G3:wy < 2:=Qt c1
   refine ⟨(show 1<=sizeLine by decide),fun q1 jk=>⟨(show 1<=sizeLine by decide),fun q2 kj=>⟨(show 2<=sizeLine by decide),fun O hO=>?_⟩⟩⟩
   have s1:=aa.upd jk (.tup [.str "all"])
   have s2:=aa.upd kj (.tup [.str "none"])
   have s3:=aa.upd hO (.lst [.ref q1,.ref q2])
   have sA:=(s1.trans s2).trans s3
   have g1:=s3 _ _ (s2 _ _ (aA:upd H1 q1 (.tup [.str "all"]) q1=some (.tup [.str "all"])))
   have g2:=s3 _ _ (aA:upd (upd H1 q1 (.tup [.str "all"])) q2 (.tup [.str "none"]) q2=some (.tup [.str "none"]))
   rcases (show wy=0\/wy=1 by omega) with rfl | rfl
   ·exact ⟨_,.ref q1,.inl (ak.of aA),rfl,k _ _ (zT g1 (fun _ h=>nomatch h)) ((hn1.same sA).mono (by omega)) (vq.trans sA.sm)⟩
   ·exact ⟨_,.ref q2,.inl (ak.of aA),rfl,k _ _ (z8 g2 (fun _ h=>nomatch h)) ((hn1.same sA).mono (by omega)) (vq.trans sA.sm)⟩
  rintro σ' H' ⟨rfl,rfl⟩
  refine aU (fun σ' H'=>σ'=[some (.ref p),some (.ref nm),some (.int (ka:Int)),some (.int wy),none]/\H1=H') ?_ ?_
  ·intro nx cy
   refine ⟨rfl,_,rfl,dz (fun h2=>⟨_,rfl,dz (fun h3=>?_) (fun _=>cy _ _ ⟨rfl,rfl⟩)⟩) (fun h2=>dz (fun c=>absurd c (by decide)) fun _=>cy _ _ ⟨rfl,rfl⟩)⟩
   have YK:(0:Int) < (ka:Int):=Qt h3
   refine ⟨H0,p,(ka:Int),_,rfl,hn1,⟨by omega,by omega⟩,by omega,fun r H2 r0 r1 hn2 sf=>?_⟩
   have AU:=Ff.nx hn1 sf
   obtain ⟨y,HU,BY,Vh⟩:=AU.at r r0 (by omega)
   refine ⟨_,_,.inl (ak.of AU.e),HU,(show 2<=sizeLine by decide),fun c hc=>?_⟩
   refine k _ _ (Sh aA (Fe _ (QC BY)) (QC BY) (fun y' e=>?_)) ((hn2.same (aa.upd hc _)).mono (by omega)) ((vq.trans sf).trans (aa.upd hc _).sm)
   cases e
   exact ⟨r.toNat,by omega,BY⟩
  rintro σ' H' ⟨rfl,rfl⟩
  refine aU (fun σ' H'=>σ'=[some (.ref p),some (.ref nm),some (.int (ka:Int)),some (.int wy),none]/\H1=H') ?_ ?_
  ·intro nx cy
   refine ⟨_,rfl,dz (fun c1=>?_) (fun c1=>cy _ _ ⟨rfl,rfl⟩)⟩
   refine aN (.inl ⟨_,.inl (ak.of Ff.e),H0,p,_,_,rfl,hn1,⟨by rw [Ql];omega,by rw [Ql];omega⟩,by omega,fun r H2 r0 r1 hn2 sf=>?_⟩)
   rw [Ql] at r1
   have AU:=Ff.nx hn1 sf
   obtain ⟨x,Vi,LQ,YL⟩:=AU.at r r0 r1
   refine ⟨_,_,.inl (ak.of AU.e),Vi,.inl ⟨_,.inl (ak.of AU.e),H0,p,_,_,rfl,hn2,⟨by rw [Ql];omega,by rw [Ql];omega⟩,by omega,fun r2 H3 b0 b1 AS pe=>?_⟩⟩
   rw [Ql] at b1
   have Dd:=AU.nx hn2 pe
   obtain ⟨y,HU,BY,Vh⟩:=Dd.at r2 b0 b1
   refine ⟨_,_,.inl (ak.of Dd.e),HU,(show 3<=sizeLine by decide),fun b hb=>?_⟩
   exact k _ _ (Si aA (Fe _ (QC LQ)) (Fe _ (QC BY)) (QC LQ) (QC BY) (fun _ h=>nomatch h)) ((AS.same (aa.upd hb _)).mono (by omega)) (((vq.trans sf).trans pe).trans (aa.upd hb _).sm)
  rintro σ' H' ⟨rfl,rfl⟩
  refine ⟨(show 2<=sizeLine by decide),fun O hO=>?_⟩
  have sO:=aa.upd hO (.lst [.str "box",.str "pick"])
  have gO:upd H1 O (.lst [.str "box",.str "pick"]) O=some (.lst [.str "box",.str "pick"]):=aA
  have Fg:=hn1.same sO
  have LS:=Ff.same sO
  have LU:=vq.trans sO.sm
  dsimp only
  generalize upd H1 O (.lst [.str "box",.str "pick"])=H2 at sO gO Fg LS LU
  obtain ⟨so,HR,HW⟩:∃ so:Str,ie [V.str "box",V.str "pick"] (wy % 2)=some (.str so)/\(so="box"\/so="pick"):=by
   rcases (show wy % 2=0\/wy % 2=1 by omega) with e | e
   ·rw [e];exact ⟨"box",rfl,.inl rfl⟩
   ·rw [e];exact ⟨"pick",rfl,.inr rfl⟩
  refine ⟨(show (0:Int) < 2 by decide),_,_,.inl (ak.of gO),HR,H0,p,_,rfl,Fg,by omega,fun D os H3 ym q1 wn q5 pe=>?_⟩
  have q6:Sm p p H H3:=LU.trans pe
  have Dd:=LS.nx Fg pe
  have C6:=wn.len
  have zw:D≠p:=Fg.ne ym
  refine Or.inl ⟨⟨_,ak.of q1⟩,fun D2 jg=>?_⟩
  have De:D2≠p:=q5.ne jg
  have LV:D2≠D:=fun e=>by rw [e,q1] at jg;cases jg
  have Fi:H D2=none:=q6.free jg De De
  have f2:H0 D2=none:=q5.free jg
  have Vj:D2≠nm:=fun e=>by rw [e,Dd.e] at jg;cases jg
  refine eW (cK (os.map V.str)) (fun i τ H3=>∃ (v:Option V) (xs:List V) (rs:List (Str×V)),τ=[v,some (.ref p),some (.ref nm)]/\H3 D2=some (.lst xs)/\iw H3 xs (bq rs)/\rs.map (·.1)=os.take i/\(∀ r∈rs,∃ y,r.2=.str y/\y∈ns/\Wd y)/\H3 D=some (.lst (os.map V.str))/\cf K H0 H3 p (t+1+5+i)/\Sm p p H H3/\ku H3 nm ns)
   ⟨none,[],[],rfl,aA,n4,rfl,(fun _ h=>nomatch h),by rw [aF LV.symm];exact q1,(q5.same (aa.upd jg _)).mono (by omega),q6.upd Fi,Dd.same (aa.upd jg _)⟩ (by rintro i τ H2 _ ⟨_,_,_,_,_,_,_,_,q,_⟩;exact ak.of q) ?_ ?_
  ·rintro i τ H4 hi z0;refine hdn fun Gz9 zG9=>?_;obtain ⟨v,xs,rs,rfl,r1,r2,zx,r3,r4,r5,r6,AV⟩:=z0;refine zG9 ?_
   rw [Ql] at hi
   rw [jU os i hi]
   have BX:os.take (i+1)=os.take i++[os.getD i ""]:=by
    rw [Qs,Qb,Qa hi];rfl
   generalize os.getD i ""=z at BX
   have AI:rs.length=i:=by have:=congrArg List.length zx;simp at this;omega
   have AH:xs.length=i:=by have:=r2.1;simp at this;omega
   refine .inl ⟨_,.inl (ak.of AV.e),H0,p,_,t+1+5+i,rfl,r5,⟨by rw [Ql];omega,by rw [Ql];omega⟩,by omega,fun r H5 a0 a1 Vk sr=>?_⟩
   rw [Ql] at a1
   have su:=AV.nx r5 sr
   obtain ⟨n,Vl,BZ,Vm⟩:=su.at r a0 a1
   refine ⟨_,_,.inl (ak.of su.e),Vl,(show 2<=sizeLine by decide),fun b hb=>?_⟩
   have g1:=sr _ _ r1 De De
   have g4:=sr _ _ r4 zw zw
   have HX:D2≠b:=aP g1 hb
   have Vn:D≠b:=aP g4 hb
   have Vo:Tk H4 H5:=r5.ts sr
   have Fj:Tk H4 (upd (upd H5 b (.tup [.str z,.str n])) D2 (.lst (xs++[.ref b]))):=(Vo.trans (aa.upd hb _).ts).set (by rw [aF HX];exact g1) (by intro _ z;cases z)
   have Vp:upd (upd H5 b (.tup [.str z,.str n])) D2 (.lst (xs++[.ref b])) b=some (.tup [.str z,.str n]):=by rw [aF HX.symm];exact aA
   have Vq:ku (upd (upd H5 b (.tup [.str z,.str n])) D2 (.lst (xs++[.ref b]))) nm ns:=⟨by rw [aF Vj.symm];exact (aa.upd hb _) _ _ su.e,su.ne,su.few,su.wd⟩
   refine ⟨xs,by rw [aF HX];exact g1,by omega,_,xs++[.ref b],rs++[(z,.str n)],rfl,aA,kY (r2.ts Fj) Vp,by rw [Qm,zx,BX];rfl,fun r' fb=>?_,by rw [aF LV.symm,aF Vn];exact g4,((Vk.same (aa.upd hb _)).put De f2),((r6.trans sr).trans (aa.upd hb _).sm).upd Fi,Vq⟩
   rcases List.mem_append.mp fb with hx | hx
   ·exact r3 r' hx
   ·rw [List.mem_singleton.mp hx]
    exact ⟨n,rfl,QC BZ,Vm⟩
  ·rintro τ H4 z0;refine hdn fun Gz9 zG9=>?_;obtain ⟨v,xs,rs,rfl,r1,r2,zx,r3,r4,r5,r6,AV⟩:=z0;refine zG9 ?_
   rw [Ql] at zx r5
   rw [Qo] at zx
   have AI:rs.length=os.length:=by rw [<- zx,Ql]
   have AH:xs.length=os.length:=by have:=r2.1;simp at this;omega
   refine ⟨D2,xs,rfl,.inl ⟨ak.of r1,fun c hc=>⟨(show 2<=sizeLine by decide),fun b hb=>?_⟩⟩⟩
   have s5:=aa.upd hc (.tup xs)
   have s6:=aa.upd hb (.tup [.str so,.ref c])
   have gc:=s6 _ _ (aA:upd H4 c (.tup xs) c=some (.tup xs))
   have qg:∀ r'∈rs,r'.1∈os:=fun r' fb=>by rw [<- zx];exact List.mem_map.mpr ⟨r',fb,rfl⟩
   have tk:=s5.ts.trans s6.ts
   have Vr:=R_ (r2.ts tk) (fun r' fb=>(LL _ (wn.ww _ (qg r' fb))).1) (fun r' fb=>by obtain ⟨y,e1,e2,_⟩:=r3 r' fb;exact ⟨y,e1,e2,Fe y e2⟩) (by rw [zx];exact wn.yd)
   exact k _ _ (tW HW aA gc (by omega) Vr (fun q hq=>by obtain ⟨q',wm,rfl⟩:=List.mem_map.mp hq;exact wn.ww _ (qg q' wm)) (fun _ h=>nomatch h)) ((r5.same (s5.trans s6)).mono (by omega)) (r6.trans (s5.trans s6).sm)
def N8:List Str:=["x","xa","xb","y","ya","z","ka","kb"]
theorem xV:∀ z∈N8,isName z=true/\Wd z:=fun z hz=>by
 simp only [N8,Qp,QA,or_false] at hz
 rcases hz with rfl | rfl | rfl | rfl | rfl | rfl | rfl | rfl<;>exact ⟨by decide+kernel,f7 (by decide) (by decide)⟩
theorem Vs:N8.Nodup:=by decide+kernel
theorem mO {ys:List V} {l:List Str} (h:ys.Perm (l.map V.str)):∃ zs:List Str,zs.Perm l/\ys=zs.map V.str:=by
 refine ⟨ys.map AG,?_,?_⟩
 ·have:=h.map AG
  rw [Qn] at this
  have e:(AG∘V.str)=(id:Str->Str):=rfl
  rw [e,List.map_id] at this
  exact this
 ·rw [Qn]
  have:∀ y∈ys,(V.str∘AG) y=y:=fun y hy=>by
   obtain ⟨z,_,rfl⟩:=List.mem_map.mp (h.mem_iff.mp hy)
   rfl
  rw [List.map_congr_left this,List.map_id']
theorem qT {β:Type} {R:α->β->Prop} {xs ys:List α} (p:ys.Perm xs):∀ {rs:List β},Paired R xs rs->∃ rs',rs'.Perm rs/\Paired R ys rs':=by
 induction p with
 | nil=>intro rs h;cases h;exact ⟨[],.refl _,.nil⟩
 | cons x p ih=>
  intro rs h
  cases h with
  | cons a b=>
   obtain ⟨rs',q1,q2⟩:=ih b
   exact ⟨_::rs',q1.cons _,.cons a q2⟩
 | swap x y l=>
  intro rs h
  cases h with
  | cons a h=>
   cases h with
   | cons b h=>exact ⟨_::_::_,.swap _ _ _,.cons b (.cons a h)⟩
 | trans p1 p2 Vt Vu=>
  intro rs h
  obtain ⟨r1,a1,b1⟩:=Vu h
  obtain ⟨r2,a2,b2⟩:=Vt b1
  exact ⟨r2,a2.trans a1,b2⟩
theorem iV {α β γ:Type} {R:α->β->Prop} {g:γ->β}:∀ {xs:List α} {rs:List γ},Paired R xs (rs.map g)->Paired (fun x r=>R x (g r)) xs rs
 | [],[],.nil=>.nil
 | _::_,_::_,.cons a b=>.cons a (iV b)
theorem lG {α β γ:Type} {R:α->β->Prop} {g:γ->β}:∀ {xs:List α} {rs:List γ},Paired (fun x r=>R x (g r)) xs rs->Paired R xs (rs.map g)
 | [],[],.nil=>.nil
 | _::_,_::_,.cons a b=>.cons a (lG b)
theorem tS {xs ys:List V} {rs:List (Str×V)} (h:iw H xs (bq rs)) (p:ys.Perm xs):∃ rs',rs'.Perm rs/\iw H ys (bq rs'):=by
 obtain ⟨rs',q1,q2⟩:=qT p (iV (eZ.mp h))
 exact ⟨rs',q1,eZ.mpr (lG q2)⟩
def LX (K:QZ):Sp:=fun vs H Q _=>∃ (H0:Hp) (p:Addr) (most:Int) (t:Nat),vs=[.ref p,.int most]/\cf K H0 H p t/\t+600 < 900000/\(1<=most/\most<=8)/\
 ∀ (a:Addr) (xs:List V) (rows:List ae) (ns:List Str) (H':Hp),RT H' a xs rows ns WW->(ns.length:Int)<=most->(∀ n∈ns,n∈N8)->cf K H0 H' p (t+600)->Sm p p H H'->Q (.ref a) H'
theorem kT (T:Txt K mg w):be P w K mg base 5 "_law_telling" ["_law_pen","_law_most"] (LX K):=by
 have aT:be P w K mg base 2 "_law_next" ["_law_pen","_law_many"] (yk K):=bR T
 have dJ:be P w K mg base 3 "_law_turned" ["_law_pen","_law_some"] (HP K):=hU T
 have sK:be P w K mg base 4 "_law_head" ["_law_pen","_law_names","_law_ahead"] (LP K):=rP T
 refine T.m9.fg bW (fun vs H Q E h=>?_) (fun f av A outer s H vs Q E hr h=>?_)
 ·obtain ⟨H0,p,most,t,rfl,_⟩:=h
  rfl
 ·refine hdn fun Gz9 zG9=>?_;obtain ⟨H0,p,most,t,rfl,hn,ht,⟨Fb,K1⟩,k⟩:=h;refine zG9 ?_
  have hu:=bB hr
  have dm:=Qx (bB hr)
  have hsz:sizeLine=16777216:=QL
  refine ⟨_,(aE (aR (i:=2) bW.nd rfl (Or.inl rfl) (bQ cH aK (bF aT (hr.mono (by decide)) (aD (zv 0) (aD (zv 1) aC)))))
   (aE (aR (i:=3) bW.nd rfl (Or.inl rfl) (nU (GD K) (bF dJ (hr.mono (by decide)) (aD (zv 0) (iW (bL (aB aI (aB aI (aB aI (aB aI (aB aI (aB aI (aB aI (aB aI aC))))))))) aC))) nX (oX (zv 2))))
   (aE (aR (i:=4) bW.nd rfl (Or.inl rfl) (bL aC))
   (aE (d9 PassesOwn.never rfl (dA (by rfl) T.d6 (aD (zv 2) aC)) (aJ (i:=5) bW.nd rfl (Or.inl rfl)) (aH (iB (rT K QH QJ QK cP (zv 4) (aG (aO (aQ (bH (bG K) (zv 3) (zv 5) (fun _ _=>rfl)) (aY (bF sK (hr.mono (by decide)) (aD (zv 0) (aD (zv 3) (aD (zv 5) aC)))) aC))) aC)))))
   (aH (aZ (cL (f9 K) (by rfl) T.iT QG (aY (bF dJ (hr.mono (by decide)) (aD (zv 0) (aD (zv 4) aC))) aC)))))))),?_⟩
  refine aN ⟨H0,p,most,t,rfl,hn,⟨by omega,by omega⟩,by omega,fun r H1 r0 r1 hn1 vq=>?_⟩
  obtain ⟨i0,rfl⟩:∃ i:Nat,r=(i:Int):=⟨r.toNat,by omega⟩
  refine aN ⟨(show 8<=sizeLine by decide),fun l1 gy=>?_⟩
  have s1:=aa.upd gy (.lst (N8.map V.str))
  have g1:upd H1 l1 (.lst (N8.map V.str)) l1=some (.lst (N8.map V.str)):=aA
  have hn2:=hn1.same s1
  have sf:=vq.trans s1.sm
  refine ⟨H0,p,l1,N8.map V.str,_,rfl,hn2,by omega,.inl (ak.of g1),(by decide),fun L ys H2 hL gL pm AS pe=>?_⟩
  obtain ⟨zs,HY,rfl⟩:=mO pm
  have Fd:=sf.trans pe
  have HZ:zs.length=8:=HY.length_eq
  refine ⟨1+(i0:Int),rfl,Or.inr (Or.inl ⟨L,zs.map V.str,rfl,ak.of gL,fun N hN=>?_⟩)⟩
  have Vv:kh (zs.map V.str) none (some (1+(i0:Int)))=(zs.take (1+i0)).map V.str:=by
   rw [show (1+(i0:Int))=((1+i0:Nat):Int) by omega,RX,List.map_take]
  rw [Vv]
  have sN:=aa.upd hN (.lst ((zs.take (1+i0)).map V.str))
  have gN:upd H2 N (.lst ((zs.take (1+i0)).map V.str)) N=some (.lst ((zs.take (1+i0)).map V.str)):=aA
  have vp:=AS.same sN
  have H_:=Fd.trans sN.sm
  generalize upd H2 N (.lst ((zs.take (1+i0)).map V.str))=H3 at sN gN vp H_
  have Ia:(zs.take (1+i0)).length=1+i0:=by rw [List.length_take];omega
  have Df:∀ n∈zs.take (1+i0),n∈N8:=fun n hn=>HY.mem_iff.mp (List.mem_of_mem_take hn)
  have LY:(zs.take (1+i0)).Nodup:=(HY.nodup_iff.mpr Vs).sublist (List.take_sublist _ _)
  generalize zs.take (1+i0)=ns at gN Ia Df LY
  have tn:ku H3 N ns:=⟨gN,by intro e;rw [e] at Ia;simp at Ia;omega,by omega,fun n hn=>(xV n (Df n hn)).2⟩
  refine aN ⟨(show 0<=sizeLine by decide),fun R hR=>?_⟩
  have Dg:R≠p:=vp.ne hR
  have Vw:R≠N:=fun e=>by rw [e,gN] at hR;cases hR
  have AW:H R=none:=H_.free hR Dg Dg
  have fR:H0 R=none:=vp.free hR
  have sR:=aa.upd hR (.lst [])
  refine aU (fun σ' H'=>∃ (v5:Option V) (xs:List V) (rs:List (Str×V)),σ'=[some (.ref p),some (.int most),some (.int (1+(i0:Int))),some (.ref N),some (.ref R),v5]/\H' R=some (.lst xs)/\iw H' xs (bq rs)/\rs.map (·.1)=ns/\rm H' ns WW rs/\cf K H0 H' p (t+101+20*8)/\Sm p p H H') ?_ ?_
  ·intro nx cy
   refine ⟨1+(i0:Int),rfl,by omega,by omega,cT (cQ 0 (1+(i0:Int)).toNat) (fun i σ' H'=>∃ (v5:Option V) (xs:List V) (rs:List (Str×V)),σ'=[some (.ref p),some (.int most),some (.int (1+(i0:Int))),some (.ref N),some (.ref R),v5]/\H' R=some (.lst xs)/\iw H' xs (bq rs)/\rs.map (·.1)=ns.take i/\rm H' ns WW rs/\ku H' N ns/\cf K H0 H' p (t+101+20*i)/\Sm p p H H')
    ⟨none,[],[],rfl,aA,n4,rfl,⟨(fun _ h=>nomatch h),(fun _ h=>nomatch h)⟩,tn.same sR,(vp.same sR).mono (by omega),H_.trans sR.sm⟩ (fun _ _ _ _ _=>True.intro) ?_ ?_⟩
   ·rintro i σ' H4 hi z0;refine hdn fun Gz9 zG9=>?_;obtain ⟨v5,xs,rs,rfl,q1,q2,q3,q4,AV,q6,q7⟩:=z0;refine zG9 ?_
    have oi:i < ns.length:=by omega
    have e0:(0+(i:Int))=(i:Int):=by omega
    rw [e0]
    have BZ:ns[i]? =some ns[i]:=Qa oi
    have LZ:ns[i]∈ns:=Qj oi
    generalize ns[i]=nm at BZ LZ
    have AH:xs.length=i:=by
     have h1:=q2.1
     have h2:=congrArg List.length q3
     simp at h1 h2
     omega
    refine ⟨.inl ⟨rfl,_,ak.of q1⟩,_,.str nm,.inl (ak.of AV.e),gH (by rw [Qq,BZ];rfl),H0,p,N,i,_,ns,rfl,q6,by omega,AV,(fun z hz=>(xV z (Df z hz)).1),by omega,fun hv H5 hg zu o_=>⟨(show 2<=sizeLine by decide),fun c hc=>?_⟩⟩
    have g4:H5 R=some (.lst xs):=o_ _ _ q1 Dg Dg
    have su:=AV.nx q6 o_
    have Ib:R≠c:=aP g4 hc
    refine ⟨R,xs,.ref c,rfl,rfl,by rw [aF Ib];exact g4,by omega,?_⟩
    have L0:Tk H5 (upd (upd H5 c (.tup [.str nm,hv])) R (.lst (xs++[.ref c]))):=((aa.upd hc _).ts).set (by rw [aF Ib];exact g4) (by intro _ z;cases z)
    have Vx:upd (upd H5 c (.tup [.str nm,hv])) R (.lst (xs++[.ref c])) c=some (.tup [.str nm,hv]):=by rw [aF Ib.symm];exact aA
    have L3:=(q6.ts o_).trans L0
    refine ⟨_,xs++[.ref c],rs++[(nm,hv)],rfl,aA,kY (q2.ts L3) Vx,?_,?_,⟨by rw [aF Vw.symm,aF (aP su.e hc)];exact su.e,su.ne,su.few,su.wd⟩,((zu.same (aa.upd hc _)).put Dg fR).mono (by omega),((q7.trans o_).trans (aa.upd hc _).sm).upd AW⟩
    ·rw [Qm,q3,Qs,BZ];rfl
    ·have:=((q4.tk L3).add (n:=nm) (v:=hv) LZ ((hg.tk L0).imp fun o h y e=>by obtain ⟨i',h1,h2⟩:=h y e;exact ⟨i',i,h1,h2,BZ⟩))
     exact this.perm fun r hr=>by
      rcases List.mem_append.mp hr with hr | hr
      ·exact Qh _ hr
      ·rw [List.mem_singleton.mp hr];exact List.mem_cons_self
   ·rintro σ' H' z0;refine hdn fun Gz9 zG9=>?_;obtain ⟨v5,xs,rs,rfl,q1,q2,q3,q4,q5,q6,q7⟩:=z0;refine zG9 ?_
    have en:(1+(i0:Int)).toNat=ns.length:=by omega
    rw [en,Qo] at q3
    exact cy _ _ ⟨v5,xs,rs,rfl,q1,q2,q3,q4,q6.mono (by omega),q7⟩
  ·rintro σ' H4 z0;refine hdn fun Gz9 zG9=>?_;obtain ⟨v5,xs,rs,rfl,q1,q2,q3,q4,q6,q7⟩:=z0;refine zG9 ?_
   have AI:rs.length=ns.length:=by rw [<- q3,Ql]
   have AH:xs.length=rs.length:=by have:=q2.1;simpa using this
   refine ⟨H0,p,R,xs,_,rfl,q6,by omega,.inl (ak.of q1),by omega,fun L2 ys H5 L4 Vy Vz zu o_=>⟨L2,ys,rfl,.inl ⟨ak.of Vy,fun a ha=>?_⟩⟩⟩
   have s6:=aa.upd ha (.tup ys)
   have Fj:=(q6.ts o_).trans s6.ts
   obtain ⟨rs',pr,pa⟩:=tS (q2.ts Fj) Vz
   obtain ⟨rows,rt⟩:=RT.of aA pa (by rw [<- q3];exact pr.map _) LY (fun n hn=>xV n (Df n hn)) (by omega) (by omega) ((q4.tk Fj).perm fun r hr=>pr.mem_iff.mp hr)
   exact k a _ rows ns _ rt (by omega) Df ((zu.same s6).mono (by omega)) ((q7.trans o_).trans s6.sm)
theorem Ie {rs:List (Str×V)} (i:Nat) (h:i < (bq rs).length) (h':i < rs.length):(bq rs)[i]=(Sum.inr rs[i].1,rs[i].2):=by simp [bq]
def L5 (H:Hp) (a:Addr) (xs:List V) (rs:List (Str×V)):Prop:=H a=some (.tup xs)/\iw H xs (bq rs)/\rs.length<=1000
def L7:Sp:=fun vs H Q _=>∃ (a:Addr) (xs:List V) (rs:List (Str×V)),vs=[.ref a]/\L5 H a xs rs/\∀ d,H d=none->Q (.ref d) (upd H d (.dK (dictOf (bq rs))))
theorem q9 (T:Txt K mg w):be P w K mg base 1 "heads_of" ["T"] L7:=by
 refine T.tY.fg qJ (fun vs H Q E h=>?_) (fun f av A outer s H vs Q E hr h=>?_)
 ·obtain ⟨a,xs,rs,rfl,_⟩:=h
  rfl
 ·refine hdn fun Gz9 zG9=>?_;obtain ⟨a,xs,rs,rfl,⟨hx,hp,fq⟩,k⟩:=h;refine zG9 ?_
  refine ⟨_,(aH (aZ (wB (own:=["name","head"]) (idx:=[]) (N':=["name","head"]) (bZ (az fQ) (["T"]:List Str) (by decide+kernel)) rfl (nM K (zv 0)) (fun _ _ _ _ _ _=>(bM K (n:=2) rfl (aL (aJ (i:=0) (show List.Nodup (["name","head"]:List Str) by decide+kernel) rfl (Or.inl rfl)) (aL (aJ (i:=1) (show List.Nodup (["name","head"]:List Str) by decide+kernel) rfl (Or.inl rfl)) bD)))) (fun _ _ _ _ _ _=>cS) (fun _ _ _ _ _ _=>(zv 0)) (fun _ _ _ _ _ _=>(zv 1))))),?_⟩
  refine Or.inr ⟨⟨xs,au.of hx⟩,fun D hD=>?_⟩
  have J:=gI (K:=K) (a:=a) xs
  have hsz:sizeLine=16777216:=QL
  have AH:xs.length=rs.length:=by have:=hp.1;simpa using this
  have sD:∀ o,aa H (upd H D o):=fun o=>aa.upd hD o
  refine ⟨fun i m τ H'=>m=xs.length - i/\i<=xs.length/\(∃ v1 v2,τ=[v1,v2])/\H'=upd H D (.dK (dictOf ((bq rs).take i))),⟨_,rfl,Nat.zero_le _,⟨none,none,rfl⟩,rfl⟩,?_⟩
  rintro i m τ H' ⟨rfl,hi,⟨v1,v2,rfl⟩,rfl⟩
  obtain ⟨k1,k2⟩:=J _ (show au K (upd H D _) a xs from au.of (sD _ _ _ hx))
  by_cases aq:i < xs.length
  ·have ph:i < rs.length:=by omega
   have Fk:i < (bq rs).length:=by simpa using ph
   refine .inr ⟨(k1 i aq).1,fun τ' H'=>(∃ v1 v2,τ'=[v1,v2])/\H'=upd H D (.dK (dictOf ((bq rs).take (i+1)))),fun τ' H' ⟨h1,h2⟩=>⟨xs.length - (i+1),by omega,rfl,aq,h1,h2⟩,fun x H' y=>?_⟩
   obtain ⟨e,e2⟩:=(k1 i aq).2 x H' y
   subst e e2
   obtain ⟨b,GK,CA⟩:=hp.2 i Fk
   rw [Ie i Fk ph] at CA
   have eb:xs.getD i .ao=.ref b:=by rw [Qb,GK];rfl
   show yt K 2 _ (xs.getD i .ao) _ _ _
   rw [eb]
   refine ⟨b,_,rfl,au.of (sD _ _ _ CA),rfl,_,_,rfl,_,_,rfl,rfl,?_⟩
   refine ⟨dictOf ((bq rs).take i),.inr rs[i].1,rfl,aA,?_,⟨_,_,rfl⟩,?_⟩
   ·have:=iA ((bq rs).take i)
    rw [List.length_take] at this
    omega
   ·rw [kK,jO (bq rs) i Fk,Ie i Fk ph]
  ·have e:i=xs.length:=by omega
   subst e
   refine .inl ⟨k2,?_⟩
   rw [List.take_of_length_le (by simp;omega)]
   exact k D hD
theorem VA {xs:List V} {rs:List (Str×V)} {nx:Str->Option Str} {ρ:Str->Nat} (g:kq H a xs rs nx ρ):L5 H a xs rs:=⟨g.at_,g.ps,by have:=g.len;omega⟩
def Fo:Sp:=fun vs H Q _=>∃ (a:Addr) (xs:List V) (rs:List (Str×V)) (nx:Str->Option Str) (ρ:Str->Nat) (x:Str),vs=[.ref a,.str x]/\kq H a xs rs nx ρ/\x∈rs.map (·.1)/\∀ H',aa H H'->Q (.str (gi nx rs.length x)) H'
def L8:Sp:=fun vs H Q _=>∃ (a:Addr) (xs:List V) (rs:List (Str×V)) (nx:Str->Option Str) (ρ:Str->Nat) (x:Str),vs=[.ref a,.str x]/\kq H a xs rs nx ρ/\x∈rs.map (·.1)/\
 ∀ v H',aa H H'->bx (dictOf (bq rs)) (.inr (gi nx rs.length x))=some v->Q v H'
def L_ (K:QZ):Sp:=fun vs H Q _=>∃ (H0:Hp) (p a:Addr) (t:Nat) (xs:List V) (rows:List ae) (ns ws:List Str),vs=[.ref p,.ref a]/\cf K H0 H p t/\t < 900000/\RT H a xs rows ns ws/\
 ∀ (n:Str) (H':Hp),n∈ns->cf K H0 H' p (t+1)->Sm p p H H'->Q (.str n) H'
theorem sS (T:Txt K mg w):be P w K mg base 3 "_law_any" ["_law_pen","_law_told"] (L_ K):=by
 have aT:be P w K mg base 2 "_law_next" ["_law_pen","_law_many"] (yk K):=bR T
 refine T.uW.fg tM (fun vs H Q E h=>?_) (fun f av A outer s H vs Q E hr h=>?_)
 ·refine hdn fun Gz9 zG9=>?_;obtain ⟨H0,p,a,t,xs,rows,ns,ws,rfl,_⟩:=h;refine zG9 ?_
  rfl
 ·refine hdn fun Gz9 zG9=>?_;obtain ⟨H0,p,a,t,xs,rows,ns,ws,rfl,hn,ht,rt,k⟩:=h;refine zG9 ?_
  have hu:=bB hr
  have dm:=Qx (bB hr)
  have hsz:sizeLine=16777216:=QL
  have AI:=rt.rl
  have AH:=rt.rv.len
  have pos:=rt.pos
  have few:=rt.few
  refine ⟨_,(aH (aZ (bH (bG K) (bH (bG K) (zv 1) (bF aT (hr.mono (by decide)) (aD (zv 0) (aY (bC (cR K) (by rfl) T.zq PySem.boot_len (aD (zv 1) aC)) aC))) (fun _ _=>rfl)) aK (fun _ _=>rfl)))),?_⟩
  refine .inl ⟨_,.inr (au.of rt.at_),H0,p,_,t,rfl,hn,⟨by omega,by omega⟩,by omega,fun r H1 r0 r1 hn1 vq=>?_⟩
  obtain ⟨i,rfl⟩:∃ i:Nat,r=(i:Int):=⟨r.toNat,by omega⟩
  have B0:=rt.tk (hn.ts vq)
  obtain ⟨b,v,q1,q2,q3⟩:=B0.rv.at_ i (by omega) (by omega)
  refine ⟨xs,.ref b,.inr (au.of B0.at_),gH (by rw [Qa (by omega),q1]),_,_,.inr (au.of q2),aS _ _,k _ H1 (B0.nm.mem_iff.mp (List.mem_map.mpr ⟨_,Qj (by omega),rfl⟩)) hn1 vq⟩
theorem dF (T:Txt K mg w):be P w K mg base 1 "_law_row_here" ["_law_told","_law_name"] Fo:=by
 refine T.kM.fg dE (fun vs H Q E h=>?_) (fun f av A outer s H vs Q E hr h=>?_)
 ·refine hdn fun Gz9 zG9=>?_;obtain ⟨a,xs,rs,nx,ρ,x,rfl,_⟩:=h;refine zG9 ?_
  rfl
 ·refine hdn fun Gz9 zG9=>?_;obtain ⟨a,xs,rs,nx,ρ,x,rfl,g,hx,k⟩:=h;refine zG9 ?_
  have hu:=bB hr
  have dm:=Qx hu
  refine ⟨_,(aE (aR (i:=2) dE.nd rfl (Or.inl rfl) (cL (iG rfl) (by rfl) T.x2 PyProof.Rows.boot_dict (aD (zv 0) aC)))
   (aE (pB PassesOwn.never (aX (dS dm) (bH (bG K) (cE hu (zv 2) (zv 1) (fun _ _=>rfl)) aK (fun _ _=>rfl)) aI (eu _)) (aH (aR (i:=1) dE.nd rfl (Or.inl rfl) (bH (bG K) (cE hu (zv 2) (zv 1) (fun _ _=>rfl)) aK (fun _ _=>rfl)))))
   (aH (aZ (zv 1))))),?_⟩
  have hsz:sizeLine=16777216:=QL
  have Ma:=g.len
  refine aN ⟨a,xs,bq rs,rfl,g.at_,g.ps,(by simp;omega),fun d hd=>?_⟩
  have s1:aa H (upd H d (.dK (dictOf (bq rs)))):=aa.upd hd _
  have g1:=g.ts s1.ts
  refine ⟨fun m σ H'=>H'=upd H d (.dK (dictOf (bq rs)))/\∃ y,σ=[some (.ref a),some (.str y),some (.ref d)]/\y∈rs.map (·.1)/\gi nx rs.length y=gi nx rs.length x/\m=ρ y,⟨_,rfl,x,rfl,hx,rfl,rfl⟩,?_⟩
  rintro m σ H' ⟨rfl,y,rfl,hy,he,rfl⟩
  obtain ⟨v,hv,ql⟩:=g1.get hy
  have AX:dh (upd H d (.dK (dictOf (bq rs)))) d (.str y) (some v):=by
   rw [<- ql];exact dh.k (k:=Sum.inr y) aA
  obtain ⟨b,rfl,hb⟩:=g1.as _ hv
  rcases hb with ⟨z,ys,h1,h2,h3⟩ | ⟨z,h1,h3⟩
  ·refine ⟨d,_,rfl,AX,_,.str z,.inr (au.of h1),aS _ _,rfl,_,rfl,?_⟩
   rw [QE,Qw (fun e=>h2 (V.str.inj e))]
   refine jt ?_
   have e2:gi nx rs.length y=y:=cO _ h3
   have:=k _ s1
   rw [<- he,e2] at this
   exact this
  ·refine ⟨d,_,rfl,AX,_,.str "as",.inr (au.of h1),aS _ _,rfl,_,rfl,?_⟩
   refine Cr ?_
   obtain ⟨i1,i2⟩:=g1.AD _ hv z h3
   refine ⟨fun σ' yl=>∃ m',m' < ρ y/\yl=upd H d (.dK (dictOf (bq rs)))/\∃ y,σ'=[some (.ref a),some (.str y),some (.ref d)]/\y∈rs.map (·.1)/\gi nx rs.length y=gi nx rs.length x/\m'=ρ y,fun _ _ h=>h,?_⟩
   refine ⟨d,_,rfl,AX,_,.str z,.inr (au.of h1),rfl,_,i2,rfl,z,rfl,i1,?_,rfl⟩
   rw [<- he]
   exact g1.Kv hy h3
theorem j9 (T:Txt K mg w):be P w K mg base 2 "_law_head_here" ["_law_told","_law_name"] L8:=by
 have cA:be P w K mg base 1 "_law_row_here" ["_law_told","_law_name"] Fo:=dF T
 refine T.kC.fg jF (fun vs H Q E h=>?_) (fun f av A outer s H vs Q E hr h=>?_)
 ·refine hdn fun Gz9 zG9=>?_;obtain ⟨a,xs,rs,nx,ρ,x,rfl,_⟩:=h;refine zG9 ?_
  rfl
 ·refine hdn fun Gz9 zG9=>?_;obtain ⟨a,xs,rs,nx,ρ,x,rfl,g,hx,k⟩:=h;refine zG9 ?_
  have hu:=bB hr
  have hsz:sizeLine=16777216:=QL
  have Ma:=g.len
  refine ⟨_,(aH (aZ (cE hu (cL (iG rfl) (by rfl) T.x2 PyProof.Rows.boot_dict (aD (zv 0) aC)) (bF cA (hr.mono (by decide)) (aD (zv 0) (aD (zv 1) aC))) (fun _ _=>rfl)))),?_⟩
  refine ⟨a,xs,bq rs,rfl,g.at_,g.ps,(by simp;omega),fun d hd=>?_⟩
  have s1:aa H (upd H d (.dK (dictOf (bq rs)))):=aa.upd hd _
  refine ⟨a,xs,rs,nx,ρ,x,rfl,g.ts s1.ts,hx,fun H' s2=>?_⟩
  obtain ⟨v,hv,ql⟩:=g.get (g.yc hx).1
  refine ⟨d,v,rfl,?_,k v _ (s1.trans s2) ql⟩
  rw [<- ql];exact dh.k (k:=Sum.inr (gi nx rs.length x)) (s2 _ _ aA)
def Mb:Sp:=fun vs H Q _=>∃ (a:Addr) (xs:List V) (rows:List ae) (ns ws:List Str) (x:Str),vs=[.ref a,.str x]/\RT H a xs rows ns ws/\(∀ z∈ws,Wd z)/\x∈ns/\
 ∀ (L:Addr) (us:List V) (H':Hp),H L=none->aa H H'->H' L=some (.lst us)->MV H' us (bh rows x)->Q (.ref L) H'
theorem wL (T:Txt K mg w):be P w K mg base 3 "_law_on" ["_law_told","_law_name"] Mb:=by
 have cA:be P w K mg base 1 "_law_row_here" ["_law_told","_law_name"] Fo:=dF T
 have kB:be P w K mg base 2 "_law_head_here" ["_law_told","_law_name"] L8:=j9 T
 refine T.yZ.fg dN (fun vs H Q E h=>?_) (fun f av A outer s H vs Q E hr h=>?_)
 ·refine hdn fun Gz9 zG9=>?_;obtain ⟨a,xs,rows,ns,ws,x,rfl,_⟩:=h;refine zG9 ?_
  rfl
 ·refine hdn fun Gz9 zG9=>?_;obtain ⟨a,xs,rows,ns,ws,x,rfl,rt,hw,hx,k⟩:=h;refine zG9 ?_
  have hu:=bB hr
  have dm:=Qx (bB hr)
  have hsz:sizeLine=16777216:=QL
  obtain ⟨rs,g,nm,rl,ql⟩:=rt.good hw
  have hm:∀ z,z∈ns↔z∈rs.map (·.1):=fun z=>by rw [nm];exact rt.nm.mem_iff.symm
  obtain ⟨e1,e2,e3⟩:=rt.yc hw hx
  have few:=rt.few
  refine ⟨_,(aE (aR (i:=2) dN.nd rfl (Or.inl rfl) (bF kB (hr.mono (by decide)) (aD (zv 0) (aD (zv 1) aC))))
   (aE (cZ (aX (dS dm) (bH (bG K) (zv 2) aK (fun _ _=>rfl)) aI (eu _)) (aH (aR (i:=3) dN.nd rfl (Or.inl rfl) (bL (aG (aO (aG (aO (aB aI aC)) (aQ (bH (bG K) (zv 2) aK (fun _ _=>rfl)) aC))) (aG (aO (aG (aO (aB aI aC)) (aQ (bH (bG K) (zv 2) aK (fun _ _=>rfl)) aC))) aC))))) (aH (cZ (aX (dS dm) (bH (bG K) (zv 2) aK (fun _ _=>rfl)) aI (eu _)) (aH (Ke (i:=3) (own:=["_law_word","_law_other"]) (idx:=[]) (N':=["_law_word","_law_other"]) (bZ (az fA) (["_law_told","_law_name","_law_here","_law_found"]:List Str) (by decide+kernel)) rfl (nM K (bH (bG K) (zv 2) aK (fun _ _=>rfl))) (fun _ _ _ _ _ _=>(bM K (n:=2) rfl (aL (aJ (i:=0) (show List.Nodup (["_law_word","_law_other"]:List Str) by decide+kernel) rfl (Or.inl rfl)) (aL (aJ (i:=1) (show List.Nodup (["_law_word","_law_other"]:List Str) by decide+kernel) rfl (Or.inl rfl)) bD)))) (fun _ _ _ _ _ _=>cS) (fun _ _ _ _ _ _=>(aO (aG (aO (aB aI (aD (zv 0) aC))) (aD (zv 1) aC)))) dN.nd rfl rfl)) (aH (cZ (aX (dS dm) (bH (bG K) (zv 2) aK (fun _ _=>rfl)) aI (eu _)) (aH (Ke (i:=3) (own:=["_law_word","_law_other"]) (idx:=[]) (N':=["_law_word","_law_other"]) (bZ (az fA) (["_law_told","_law_name","_law_here","_law_found"]:List Str) (by decide+kernel)) rfl (nM K (bH (bG K) (zv 2) aK (fun _ _=>rfl))) (fun _ _ _ _ _ _=>(bM K (n:=2) rfl (aL (aJ (i:=0) (show List.Nodup (["_law_word","_law_other"]:List Str) by decide+kernel) rfl (Or.inl rfl)) (aL (aJ (i:=1) (show List.Nodup (["_law_word","_law_other"]:List Str) by decide+kernel) rfl (Or.inl rfl)) bD)))) (fun _ _ _ _ _ _=>cS) (fun _ _ _ _ _ _=>(aO (aG (aO (aB aI (aD (zv 0) aC))) (aD (zv 1) aC)))) dN.nd rfl rfl)) (aH (aR (i:=3) dN.nd rfl (Or.inl rfl) (bL aC))))))))
   (aH (aZ (jJ (own:=["_law_step","_law_other"]) (idx:=[0]) (N':=["_law_step","_law_other","_law_told"]) (bZ (az fA) (["_law_told","_law_name","_law_here","_law_found"]:List Str) (by decide+kernel)) rfl (nM K (zv 3)) (fun _ _ _ _ _ _=>(bM K (n:=2) rfl (aL (aJ (i:=0) (show List.Nodup (["_law_step","_law_other","_law_told"]:List Str) by decide+kernel) rfl (Or.inl rfl)) (aL (aJ (i:=1) (show List.Nodup (["_law_step","_law_other","_law_told"]:List Str) by decide+kernel) rfl (Or.inl rfl)) bD)))) (fun _ _ _ _ _ _=>cS) (fun _ _ _ _ _ _=>(aO (aD (zv 0) (aY (bF cA (hr.mono (by decide)) (aD (zv 2) (aD (zv 1) aC))) aC))))))))),?_⟩
  refine aN ⟨a,xs,rs,_,_,x,rfl,g,(hm x).mp hx,fun v H1 s1 hv=>?_⟩
  have Mc:HV H v (gr rows (endOf rows x)):=ql _ v e1 (by rw [rl] at hv;exact hv)
  have hq:=Mc.tk s1.ts
  have eo:bh rows x=(gr rows (endOf rows x)).bg.map fun m=>(m.1,endOf rows m.2):=rfl
  generalize gr rows (endOf rows x)=h at e2 e3 hq eo
  clear Mc ql hv
  have AD:=oB e3
  refine aU (fun σ' H'=>∃ (F:Addr) (us:List V),σ'=[some (.ref a),some (.str x),some v,some (.ref F)]/\H' F=some (.lst us)/\MV H' us h.bg/\aa H H'/\h.bg.length<=10) ?_ ?_
  ·intro nx cy
   cases hq with
   | @one b s e=>
    have nd:∀ z:Str,z∈(["way","box","pick"]:List Str)->(s==z)=false:=fun z hz=>by
     simp only [Qp,QA,or_false] at hz
     rcases e3 with rfl | rfl<;>rcases hz with rfl | rfl | rfl<;>decide+kernel
    refine ⟨_,.str s,.inr (au.of e),aS _ _,rfl,_,rfl,dz (fun c=>?_) (fun _=>⟨_,.str s,.inr (au.of e),aS _ _,rfl,_,rfl,dz (fun c=>?_) (fun _=>⟨_,.str s,.inr (au.of e),aS _ _,rfl,_,rfl,dz (fun c=>?_) (fun _=>⟨(show 0<=sizeLine by decide),fun F hF=>cy _ _ ⟨F,[],rfl,aA,MV.nil,s1.trans (aa.upd hF _),by show 0<=10;decide⟩⟩)⟩)⟩)⟩
    ·rw [QE,cW,nd "way" (by simp)] at c;cases c
    ·rw [QE,cW,nd "box" (by simp)] at c;cases c
    ·rw [QE,cW,nd "pick" (by simp)] at c;cases c
   | @as b y e=>cases e2
   | @way b y z e=>
    refine ⟨_,.str "way",.inr (au.of e),aS _ _,rfl,_,rfl,dz (fun _=>?_) (fun c=>absurd c (by simp))⟩
    refine ⟨(show 1<=sizeLine by decide),fun c1 h1=>?_⟩
    have t1:=aa.upd h1 (.tup [.str "from"])
    refine ⟨_,.str y,.inr (au.of (t1 _ _ e)),rfl,(show 2<=sizeLine by decide),fun c2 h2=>?_⟩
    have t2:=aa.upd h2 (.tup [.ref c1,.str y])
    refine ⟨(show 1<=sizeLine by decide),fun c3 h3=>?_⟩
    have t3:=aa.upd h3 (.tup [.str "to"])
    refine ⟨_,.str z,.inr (au.of (t3 _ _ (t2 _ _ (t1 _ _ e)))),rfl,(show 2<=sizeLine by decide),fun c4 h4=>?_⟩
    have t4:=aa.upd h4 (.tup [.ref c3,.str z])
    refine ⟨(show 2<=sizeLine by decide),fun F hF=>?_⟩
    have t5:=aa.upd hF (.lst [.ref c2,.ref c4])
    have g1:=t5 _ _ (t4 _ _ (t3 _ _ (t2 _ _ (aA:upd H1 c1 (.tup [.str "from"]) c1=some (.tup [.str "from"])))))
    have g2:=t5 _ _ (t4 _ _ (t3 _ _ (aA:upd (upd H1 c1 (.tup [.str "from"])) c2 (.tup [.ref c1,.str y]) c2=_)))
    have g3:=t5 _ _ (t4 _ _ (aA:upd (upd (upd H1 c1 (.tup [.str "from"])) c2 (.tup [.ref c1,.str y])) c3 (.tup [.str "to"]) c3=_))
    have g4:=t5 _ _ (aA:upd (upd (upd (upd H1 c1 (.tup [.str "from"])) c2 (.tup [.ref c1,.str y])) c3 (.tup [.str "to"])) c4 (.tup [.ref c3,.str z]) c4=_)
    exact cy _ _ ⟨F,[.ref c2,.ref c4],rfl,aA,(MV.nil.snoc (m:=(["from"],y)) g2 g1).snoc (m:=(["to"],z)) g4 g3,s1.trans (t1.trans (t2.trans (t3.trans (t4.trans t5)))),by show 2<=10;decide⟩
   | @prs b c s ys ps e ec hp=>
    have hpl:=hp.len
    have loop:∀ (wd:Str) (D:Ends),D.nx=nx->(wd=if s="box" then ("part":Str) else ("case":Str))->wj (Br ["_law_word","_law_other"] [] (iD K (qy (Cu K) (tV 2) (tC (V.int 1)))) (yt K 2 (wg (jc 0) (wg (jc 1) Be))) El (ng (dw (ng (dw (tC (V.str wd)) (dw (tV 0) kc))) (dw (tV 1) kc)))) (jc 3) D [some (.ref a),some (.str x),some (.ref b),none] H1:=by
     intro wd D VB VC
     refine ⟨_,.ref c,.inr (au.of e),rfl,Or.inr ⟨⟨ys,au.of ec⟩,fun L hL=>?_⟩⟩
     refine eW (gI ys) (fun i τ H'=>∃ (v0 v1:Option V) (zs:List V),τ=[v0,v1]/\H' L=some (.lst zs)/\MV H' zs ((ps.take i).map fun p=>([wd,p.1],p.2))/\aa H1 H') ⟨none,none,[],rfl,aA,MV.nil,aa.upd hL _⟩ (by rintro i τ H' _ ⟨_,_,_,_,_,_,s⟩;exact au.of (s _ _ ec)) ?_ ?_
     ·rintro i τ H3 hi ⟨v0,v1,zs,rfl,q1,q2,q3⟩
      have zy:i < ps.length:=by omega
      have YM:=e3.2.2.2
      obtain ⟨d,r1,r2⟩:=hp.at_ i hi zy
      have eg:ys.getD i .ao=.ref d:=by rw [Qb,Qa hi,r1];rfl
      rw [eg]
      refine cI (q3 _ _ r2) ?_
      have HZ:zs.length=i:=by have:=q2.len;simp at this;omega
      refine ⟨(show 2<=sizeLine by decide),fun c1 h1=>⟨(show 2<=sizeLine by decide),fun c2 h2=>?_⟩⟩
      have t1:=aa.upd h1 (.tup [.str wd,.str ps[i].1])
      have t2:=aa.upd h2 (.tup [.ref c1,.str ps[i].2])
      have g1:=t2 _ _ (aA:upd H3 c1 (.tup [.str wd,.str ps[i].1]) c1=some (.tup [.str wd,.str ps[i].1]))
      have g2:upd (upd H3 c1 (.tup [.str wd,.str ps[i].1])) c2 (.tup [.ref c1,.str ps[i].2]) c2=some (.tup [.ref c1,.str ps[i].2]):=aA
      dsimp only
      have sA:=t1.trans t2
      generalize upd (upd H3 c1 (.tup [.str wd,.str ps[i].1])) c2 (.tup [.ref c1,.str ps[i].2])=H5 at sA g1 g2
      have gD:=sA _ _ q1
      have tk:Tk H5 (upd H5 L (.lst (zs++[.ref c2]))):=(Tk.refl).set gD (by intro _ z;cases z)
      refine ⟨zs,gD,by omega,_,_,zs++[.ref c2],rfl,aA,?_,(q3.trans sA).put hL⟩
      have et:(ps.take (i+1)).map (fun p=>(([wd,p.1],p.2):List Str×Str))=(ps.take i).map (fun p=>(([wd,p.1],p.2):List Str×Str))++[([wd,ps[i].1],ps[i].2)]:=by
       rw [Qs,Qa zy,Qm];rfl
      rw [et]
      exact (q2.tk (sA.ts.trans tk)).snoc (m:=([wd,ps[i].1],ps[i].2)) (tk _ _ g2) (tk _ _ g1)
     ·rintro τ H3 ⟨v0,v1,zs,rfl,q1,q2,q3⟩
      rw [hpl,Qo] at q2
      show D.nx _ H3
      rw [VB]
      refine cy _ _ ⟨L,zs,rfl,q1,?_,s1.trans q3,by show (ps.map _).length<=10;rw [Ql];exact e3.2.2.2⟩
      rw [VC] at q2
      exact q2
    rcases e3.1 with rfl | rfl
    ·refine ⟨_,.str "box",.inr (au.of e),aS _ _,rfl,_,rfl,dz (fun c=>?_) (fun _=>⟨_,.str "box",.inr (au.of e),aS _ _,rfl,_,rfl,dz (fun _=>loop "part" _ rfl rfl) (fun c=>absurd c (by simp))⟩)⟩
     rw [QE,cW] at c;exact absurd c (by decide+kernel)
    ·refine ⟨_,.str "pick",.inr (au.of e),aS _ _,rfl,_,rfl,dz (fun c=>?_) (fun _=>⟨_,.str "pick",.inr (au.of e),aS _ _,rfl,_,rfl,dz (fun c=>?_) (fun _=>⟨_,.str "pick",.inr (au.of e),aS _ _,rfl,_,rfl,dz (fun _=>loop "case" _ rfl (by decide+kernel)) (fun c=>absurd c (by simp))⟩)⟩)⟩
     ·rw [QE,cW] at c;exact absurd c (by decide+kernel)
     ·rw [QE,cW] at c;exact absurd c (by decide+kernel)
  rintro σ' H2 ⟨F,us,rfl,gF,mv,s2,ml⟩
  have sy:=rt.tk s2.ts
  have g2:=g.ts s2.ts
  have ul:=mv.len
  refine Or.inl ⟨⟨us,ak.of gF⟩,fun D hD=>?_⟩
  refine eW (cK us) (fun i τ H'=>∃ (v0 v1:Option V) (zs:List V),τ=[v0,v1,some (.ref a)]/\H' D=some (.lst zs)/\MV H' zs ((h.bg.take i).map fun m=>(m.1,endOf rows m.2))/\aa H2 H') ⟨none,none,[],rfl,aA,MV.nil,aa.upd hD _⟩ (by rintro i τ H' _ ⟨_,_,_,_,_,_,s⟩;exact ak.of (s _ _ gF)) ?_ ?_
  ·rintro i τ H3 hi ⟨v0,v1,zs,rfl,q1,q2,q3⟩
   have Ig:i < h.bg.length:=by omega
   obtain ⟨c,b,r1,r2,r3⟩:=mv.at_ i hi Ig
   have eg:us.getD i .ao=.ref c:=by rw [Qb,Qa hi,r1];rfl
   rw [eg]
   have VD:h.bg[i]∈h.bg:=Qj Ig
   refine cI (q3 _ _ r2) ?_
   have HZ:zs.length=i:=by have:=q2.len;simp at this;omega
   refine ⟨a,xs,rs,_,_,h.bg[i].2,rfl,g2.ts q3.ts,(hm _).mp (AD _ VD),fun H4 s4=>⟨(show 2<=sizeLine by decide),fun d hd=>?_⟩⟩
   have s5:=aa.upd hd (.tup [.ref b,.str (gi (je rows) rs.length h.bg[i].2)])
   have gd:upd H4 d (.tup [.ref b,.str (gi (je rows) rs.length h.bg[i].2)]) d=some (.tup [.ref b,.str (gi (je rows) rs.length h.bg[i].2)]):=aA
   dsimp only
   generalize upd H4 d (.tup [.ref b,.str (gi (je rows) rs.length h.bg[i].2)])=H5 at s5 gd
   rw [rl] at gd
   have sA:=s4.trans s5
   have gD:=sA _ _ q1
   have tk:Tk H5 (upd H5 D (.lst (zs++[.ref d]))):=(Tk.refl).set gD (by intro _ z;cases z)
   refine ⟨zs,gD,by omega,_,_,zs++[.ref d],rfl,aA,?_,(q3.trans sA).put hD⟩
   have et:(h.bg.take (i+1)).map (fun m=>(m.1,endOf rows m.2))=(h.bg.take i).map (fun m=>(m.1,endOf rows m.2))++[(h.bg[i].1,endOf rows h.bg[i].2)]:=by
    rw [Qs,Qa Ig,Qm];rfl
   rw [et]
   exact (q2.tk (sA.ts.trans tk)).snoc (tk _ _ gd) (tk _ _ (sA _ _ (q3 _ _ r3)))
  ·rintro τ H3 ⟨v0,v1,zs,rfl,q1,q2,q3⟩
   rw [ul,Qo,<- eo] at q2
   exact k D zs H3 (s2.free hD) (s2.trans q3) q1 q2
theorem VE {Q:VK} {v:V} (e:σ[i]? =some (some v)) (h:Q v H):tV i σ H Q:=by
 unfold tV
 rw [e]
 exact h
theorem dZ {kvs:List (Key×V)} {k:Key} {v:V} (h:∀ kv∈kvs,kv.1≠k):putK kvs k v=kvs++[(k,v)]:=by
 unfold putK
 rw [if_neg]
 intro e
 rw [List.any_eq_true] at e
 obtain ⟨kv,hk,e⟩:=e
 exact h kv hk (Qt e)
def Me:Sp:=fun vs H Q _=>∃ (a:Addr) (xs:List V) (rows:List ae) (ns ws:List Str),vs=[.ref a]/\RT H a xs rows ns ws/\(∀ z∈ws,Wd z)/\
 ∀ (d:Addr) (H':Hp),H d=none->aa H H'->H' d=some (.dK (gj rows))->Q (.ref d) H'
theorem sC (T:Txt K mg w):be P w K mg base 2 "rows_of" ["T"] Me:=by
 have sL:be P w K mg base 1 "heads_of" ["T"] L7:=q9 T
 refine T.vO.fg d5 (fun vs H Q E h=>?_) (fun f av A outer s H vs Q E hr h=>?_)
 ·obtain ⟨a,xs,rows,ns,ws,rfl,_⟩:=h
  rfl
 ·refine hdn fun Gz9 zG9=>?_;obtain ⟨a,xs,rows,ns,ws,rfl,rt,hw,k⟩:=h;refine zG9 ?_
  have hu:=bB hr
  have dm:=Qx (bB hr)
  have hsz:sizeLine=16777216:=QL
  obtain ⟨rs,g,nm,rl,ql⟩:=rt.good hw
  refine ⟨_,(aE (aR (i:=1) d5.nd rfl (Or.inl rfl) (bF sL (hr.mono (by decide)) (aD (zv 0) aC)))
   (aE (aR (i:=2) d5.nd rfl (Or.inl rfl) x3)
   (aE (d9 PassesOwn.never rfl (R5 (zv 1)) (aJ (i:=3) d5.nd rfl (Or.inl rfl)) (aE (aR (i:=4) d5.nd rfl (Or.inl rfl) (zv 3))
   (aE (pB PassesOwn.never (aX (dS dm) (bH (bG K) (cE hu (zv 1) (zv 4) (fun _ _=>rfl)) aK (fun _ _=>rfl)) aI (eu _)) (aH (aR (i:=4) d5.nd rfl (Or.inl rfl) (bH (bG K) (cE hu (zv 1) (zv 4) (fun _ _=>rfl)) aK (fun _ _=>rfl)))))
   (aH (zE hu (zv 2) (zv 3) (zv 4) rfl)))))
   (aH (aZ (zv 2)))))),?_⟩
  refine aN ⟨a,xs,rs,rfl,VA g,fun d hd=>?_⟩
  have knd:((bq rs).map (·.1)).Nodup:=by
   have e:(bq rs).map (·.1)=(rs.map (·.1)).map (Sum.inr:Str->Key):=by simp [bq,Qn,QB]
   rw [e]
   exact List.pairwise_map.mpr (g.nd.imp fun h e=>h (Sum.inr.inj e))
  have Ma:=g.len
  have ed:=iQ _ knd
  dsimp only
  have s1:aa H (upd H d (.dK (dictOf (bq rs)))):=aa.upd hd _
  refine aN fun R hR=>?_
  have Ih:R≠d:=fun e=>by rw [e,aA] at hR;cases hR
  have AW:H R=none:=s1.free hR
  refine aU (fun σ' H'=>∃ v3 v4:Option V,σ'=[some (.ref a),some (.ref d),some (.ref R),v3,v4]/\H' R=some (.dK (gj rows))/\aa H H') ?_ ?_
  ·intro nx cy
   refine ⟨d,dictOf (bq rs),rfl,.inl (by rw [aF Ih.symm];exact aA),fun o=>?_⟩
   refine cT (kU (dictOf (bq rs))) (fun i σ' H'=>∃ v3 v4:Option V,σ'=[some (.ref a),some (.ref d),some (.ref R),v3,v4]/\H' d=some (.af o (.dK (dictOf (bq rs))))/\H' R=some (.dK ((gj rows).take i))/\aa H H')
    ⟨none,none,rfl,aA,by rw [aF Ih,aA];rfl,(((s1.put AW)).put hd)⟩ (by rintro i σ' H' _ ⟨_,_,_,h,_⟩;exact h) ?_ ?_
   ·rintro i σ' H3 hi ⟨v3,v4,rfl,q1,q2,q3⟩
    have ph:i < rs.length:=by have:=iA (bq rs);simp at this;omega
    have Ii:i < rows.length:=by omega
    have ek:iz (dictOf (bq rs)) i=.str rs[i].1:=by
     unfold iz
     rw [ed,Qa (by simpa using ph),Ie i (by simpa using ph) ph];rfl
    have en:rs[i].1=rows[i].1:=by
     have:(rs.map (·.1))[i]'(by simpa using ph)=(rows.map (·.1))[i]'(by simpa using Ii):=by simp only [nm]
     simpa using this
    rw [ek]
    have hx:rs[i].1∈rs.map (·.1):=List.mem_map.mpr ⟨_,Qj ph,rfl⟩
    generalize rs[i].1=x at en hx
    have g3:=g.ts q3.ts
    refine aN (VE (v:=.str x) rfl ?_)
    refine aU (fun σ' H'=>H'=H3/\σ'=[some (.ref a),some (.ref d),some (.ref R),some (.str x),some (.str (gi (je rows) rs.length x))]) ?_ ?_
    ·intro vo fh
     refine ⟨fun m σ H'=>H'=H3/\∃ y,σ=[some (.ref a),some (.ref d),some (.ref R),some (.str x),some (.str y)]/\y∈rs.map (·.1)/\gi (je rows) rs.length y=gi (je rows) rs.length x/\m=ns.idxOf y,⟨_,rfl,x,rfl,hx,rfl,rfl⟩,?_⟩
     rintro m σ H' ⟨rfl,y,rfl,hy,he,rfl⟩
     obtain ⟨v,hv,ql⟩:=g3.get hy
     have AX:dh H' d (.str y) (some v):=by
      rw [<- ql];exact dh.rd (k:=Sum.inr y) (.inr ⟨o,q1⟩)
     obtain ⟨b,rfl,hb⟩:=g3.as _ hv
     rcases hb with ⟨z,ys,h1,h2,h3⟩ | ⟨z,h1,h3⟩
     ·refine ⟨d,_,rfl,AX,_,.str z,.inr (au.of h1),aS _ _,rfl,_,rfl,?_⟩
      rw [QE,Qw (fun e=>h2 (V.str.inj e))]
      refine jt ?_
      have e2:gi (je rows) rs.length y=y:=cO _ h3
      refine fh _ _ ⟨rfl,?_⟩
      rw [<- he,e2]
     ·refine ⟨d,_,rfl,AX,_,.str "as",.inr (au.of h1),aS _ _,rfl,_,rfl,?_⟩
      refine Cr ?_
      obtain ⟨i1,i2⟩:=g3.AD _ hv z h3
      refine ⟨fun σ' yl=>∃ m',m' < ns.idxOf y/\yl=H'/\∃ y,σ'=[some (.ref a),some (.ref d),some (.ref R),some (.str x),some (.str y)]/\y∈rs.map (·.1)/\gi (je rows) rs.length y=gi (je rows) rs.length x/\m'=ns.idxOf y,fun _ _ h=>h,?_⟩
      refine ⟨d,_,rfl,AX,_,.str z,.inr (au.of h1),rfl,_,i2,rfl,z,rfl,i1,?_,rfl⟩
      rw [<- he]
      exact g3.Kv hy h3
    ·rintro σ' H' ⟨rfl,rfl⟩
     have fq:((gj rows).take i).length<=14:=by have:=rt.few;have:=rt.rl;simp [gj];omega
     have VF:putK ((gj rows).take i) (.inr x) (.str (gi (je rows) rs.length x))=(gj rows).take (i+1):=by
      rw [dZ,Qs,Qa (by simpa [gj] using Ii)]
      ·simp [gj,en,endOf,rl]
      ·intro kv ve e
       obtain ⟨j,hj,rfl⟩:=Qi ve
       have oq:j < i:=by simp at hj;omega
       rw [List.getElem_take] at e
       simp only [gj,Qr] at e
       have e':rows[j].1=rows[i].1:=by rw [<- en];exact Sum.inr.inj e
       have nd:=rt.jv
       have:=List.pairwise_iff_getElem.mp nd j i (by simp;omega) (by simpa using Ii) oq
       simp at this
       exact this e'
     refine ⟨R,_,rfl,Bm.k (k:=Sum.inr x) q2 (by omega),?_⟩
     rw [VF]
     exact ⟨_,_,rfl,by rw [aF Ih.symm];exact q1,aA,q3.put AW⟩
   ·rintro σ' H' ⟨v3,v4,rfl,q1,q2,q3⟩
    have e:(dictOf (bq rs)).length=(gj rows).length:=by rw [ed];simp [gj,rl]
    rw [e,Qo] at q2
    exact cy _ _ ⟨v3,v4,rfl,q2,q3⟩
  ·rintro σ' H' ⟨v3,v4,rfl,q2,q3⟩
   exact k R H' AW q3 q2
def Mf:Sp:=fun vs H Q _=>∃ (x:V) (h:Hd) (ns:List Str),vs=[x]/\HV H x h/\h.ok ns/\∀ L H',H L=none->H' L=some (.lst ((vc h).map V.str))->aa H H'->Q (.ref L) H'
theorem nO (T:Txt K mg w):be P w K mg base 1 "names_in" ["head"] Mf:=by
 refine T.sQ.fg qP (fun vs H Q E h=>?_) (fun f av A outer s H vs Q E hr h=>?_)
 ·obtain ⟨x,h,ns,rfl,_⟩:=h
  rfl
 ·obtain ⟨x,h,ns,rfl,hv,hok,k⟩:=h
  have hsz:sizeLine=16777216:=QL
  refine ⟨_,(aE (cZ (aX (Rf K) (bH (bG K) (zv 0) aK (fun _ _=>rfl)) (Rk K T.xG) rfl) (aH (aZ (jJ (own:=["word","x"]) (idx:=[]) (N':=["word","x"]) (bZ (az fC) (["head"]:List Str) (by decide+kernel)) rfl (nM K (bH (bG K) (zv 0) aK (fun _ _=>rfl))) (fun _ _ _ _ _ _=>(bM K (n:=2) rfl (aL (aJ (i:=0) (show List.Nodup (["word","x"]:List Str) by decide+kernel) rfl (Or.inl rfl)) (aL (aJ (i:=1) (show List.Nodup (["word","x"]:List Str) by decide+kernel) rfl (Or.inl rfl)) bD)))) (fun _ _ _ _ _ _=>cS) (fun _ _ _ _ _ _=>(zv 1))))) bJ)
   (aH (aZ (cL (mU K) (by rfl) T.u8 PyProof.Rows.boot_list (aQ (nU (GD K) (zv 0) (oX aK) nX) aC))))),?_⟩
  have fin:∀ (b:Addr) (z:Str) (ys:List Str),H b=some (.tup (.str z::ys.map V.str))->vc h=ys->∀ D:Ends,D.rt=Q->Cd (Bj (GH K) (dw (Ed (fun x lo hi H Q=>Cv x lo hi H Q\/Cm K x lo hi H Q\/Ck K x lo hi H Q) (tV 0) (Ec (tC (V.int 1))) Eb) kc)) D [some (.ref b)] H:=by
   intro b z ys e en D hD
   refine ⟨1,rfl,Or.inr (Or.inr ⟨b,_,rfl,au.of e,?_,fun p1 Mg=>⟨p1,_,rfl,.inr (au.of aA),fun L hL=>?_⟩⟩)⟩
   ·intro ⟨h1,_⟩
    have:HT.br (V.str z::ys.map V.str).length 0 (some ((1:Nat):Int))=0:=h1
    rw [HT.pF] at this
    simp at this
   ·have s1:=(aa.upd Mg (.tup (kh (V.str z::ys.map V.str) (some 1) none))).trans (aa.upd hL (.lst (kh (V.str z::ys.map V.str) (some 1) none)))
    rw [hD]
    refine k L _ ((aa.upd Mg _).free hL) ?_ s1
    rw [aA]
    have ec:kh (V.str z::ys.map V.str) (some 1) none=ys.map V.str:=by
     have:=wU (V.str z::ys.map V.str) 1
     exact this
    rw [ec,en]
  have Ij:∀ (b:Addr) (z:Str) (ys:List Str),H b=some (.tup (.str z::ys.map V.str))->(z=="box")=false->(z=="pick")=false->vc h=ys->xu (FW (F2 (qy (Gy K false) (qy (Cu K) (tV 0) (tC (V.int 0))) (Er K [V.str "box",V.str "pick"]))) (Cd (Br ["word","x"] [] (iD K (qy (Cu K) (tV 0) (tC (V.int 1)))) (yt K 2 (wg (jc 0) (wg (jc 1) Be))) El (tV 1))) DX) (Cd (Bj (GH K) (dw (Ed (fun x lo hi H Q=>Cv x lo hi H Q\/Cm K x lo hi H Q\/Ck K x lo hi H Q) (tV 0) (Ec (tC (V.int 1))) Eb) kc))) {nx:=fun x H'=>Q V.ao H',rt:=Q} [some (.ref b)] H:=fun b z ys e n1 n2 en=>by
   refine ⟨_,.str z,.inr (au.of e),aS _ _,?_⟩
   intro aW hW
   refine ⟨_,.inr hW,rfl,rfl,_,rfl,?_⟩
   have ew:(false^^Ax (.str z) [V.str "box",V.str "pick"])=false:=by
    rw [QE,show ([V.str "box",V.str "pick"]:List V)=(["box","pick"]:List Str).map V.str from rfl,rM]
    refine Qw fun hm=>?_
    simp only [Qp,QA,or_false] at hm
    rcases hm with rfl | rfl
    ·simp at n1
    ·simp at n2
   rw [ew]
   exact jt (fin b z ys e en _ rfl)
  cases hv with
  | @one b s e=>exact Ij b s [] e (by rcases hok with rfl | rfl<;>decide+kernel) (by rcases hok with rfl | rfl<;>decide+kernel) rfl
  | @as b y e=>exact Ij b "as" [y] e (by decide+kernel) (by decide+kernel) rfl
  | @way b y z e=>exact Ij b "way" [y,z] e (by decide+kernel) (by decide+kernel) rfl
  | @prs b c s ys ps e ec hp=>
   refine ⟨_,.str s,.inr (au.of e),aS _ _,?_⟩
   intro aW hW
   refine ⟨_,.inr hW,rfl,rfl,_,rfl,?_⟩
   have ew:(false^^Ax (.str s) [V.str "box",V.str "pick"])=true:=by
    rw [QE,show ([V.str "box",V.str "pick"]:List V)=(["box","pick"]:List Str).map V.str from rfl,rM]
    refine Qv ?_
    rcases hok.1 with rfl | rfl<;>simp
   rw [ew]
   refine Cr ?_
   have hpl:=hp.len
   have GU:=hok.2.2.2
   refine ⟨_,.ref c,.inr (au.of e),rfl,Or.inr ⟨⟨ys,au.of ec⟩,fun D hD=>?_⟩⟩
   refine eW (gI ys) (fun i τ H3=>H3 D=some (.lst (((ps.take i).map (·.2)).map V.str))/\aa H H3/\∃ v1 v2,τ=[v1,v2]) ⟨aA,aa.upd hD _,none,none,rfl⟩ (fun i τ H3 _ h=>au.of (h.2.1 _ _ ec)) ?_ ?_
   ·rintro i τ H3 hi ⟨q1,q2,v1,v2,rfl⟩
    have zy:i < ps.length:=by omega
    obtain ⟨d,e1,e2⟩:=hp.at_ i hi zy
    have eg:ys.getD i .ao=.ref d:=by rw [Qb,Qa hi,e1];rfl
    rw [eg]
    refine cI (q2 _ _ e2) ?_
    refine ⟨_,q1,by simp;omega,?_,(q2.put hD),_,_,rfl⟩
    rw [aA,Qs,Qa zy,Qm,Qm]
    rfl
   ·rintro τ H3 ⟨q1,q2,v1,v2,rfl⟩
    rw [hpl,Qo] at q1
    exact k D H3 hD q1 q2
def s_ (s:Str):Str:=if s="box" then "part" else "case"
def Ik (mg:Str->Option Value):Sp:=fun vs H Q _=>∃ (x:V) (h:Hd) (ns:List Str),vs=[x]/\HV H x h/\h.ok ns/\Kn mg H "FROM" [.str "from"]/\Kn mg H "TO" [.str "to"]/\
 ∀ (L:Addr) (us:List V) (H':Hp),H L=none->H' L=some (.lst us)->SV H' us (h.bg.map (·.1))->aa H H'->Q (.ref L) H'
theorem jM (T:Txt K mg w):be P w K mg base 1 "steps_in" ["head"] (Ik mg):=by
 refine T.sJ.fg qW (fun vs H Q E h=>?_) (fun f av A outer s H vs Q E hr h=>?_)
 ·obtain ⟨x,h,ns,rfl,_⟩:=h
  rfl
 ·refine hdn fun Gz9 zG9=>?_;obtain ⟨x,h,ns,rfl,hv,hok,kf,kt,k⟩:=h;refine zG9 ?_
  have dm:=Qx (bB hr)
  have hsz:sizeLine=16777216:=QL
  refine ⟨_,(aE (cZ (aX (dS dm) (bH (bG K) (zv 0) aK (fun _ _=>rfl)) aI (eu _)) (aH (aZ (bL (aD (pJ T.nV) (aD (pJ T.HK) aC))))) bJ)
   (aE (cZ (RZ T.iP (bH (bG K) (zv 0) aK (fun _ _=>rfl))) (aH (aZ (jJ (own:=["word","x"]) (idx:=[0]) (N':=["word","x","head"]) (bZ (az fP) (["head"]:List Str) (by decide+kernel)) rfl (nM K (bH (bG K) (zv 0) aK (fun _ _=>rfl))) (fun _ _ _ _ _ _=>(bM K (n:=2) rfl (aL (aJ (i:=0) (show List.Nodup (["word","x","head"]:List Str) by decide+kernel) rfl (Or.inl rfl)) (aL (aJ (i:=1) (show List.Nodup (["word","x","head"]:List Str) by decide+kernel) rfl (Or.inl rfl)) bD)))) (fun _ _ _ _ _ _=>cS) (fun _ _ _ _ _ _=>(aO (aQ (R1 T.iP (bH (bG K) (zv 2) aK (fun _ _=>rfl)) (fun _ _=>rfl)) (aD (zv 0) aC))))))) bJ)
   (aH (aZ (bL aC))))),?_⟩
  cases hv with
  | @one b s e=>
   refine ⟨_,.str s,.inr (au.of e),aS _ _,rfl,_,rfl,dz (fun c=>?_) (fun _=>⟨_,.str s,.inr (au.of e),aS _ _,Sum.inr s,rfl,_,rfl,dz (fun c=>?_) (fun _=>⟨(show 0<=sizeLine by decide),fun L hL=>k L [] _ hL aA SV.nil (aa.upd hL _)⟩)⟩)⟩
   ·rw [QE,cW] at c
    rcases hok with rfl | rfl<;>exact absurd c (by decide+kernel)
   ·rcases hok with rfl | rfl<;>exact absurd c (by decide+kernel)
  | @as b y e=>
   refine ⟨_,.str "as",.inr (au.of e),aS _ _,rfl,_,rfl,dz (fun c=>?_) (fun _=>⟨_,.str "as",.inr (au.of e),aS _ _,Sum.inr "as",rfl,_,rfl,dz (fun c=>?_) (fun _=>⟨(show 0<=sizeLine by decide),fun L hL=>k L [] _ hL aA SV.nil (aa.upd hL _)⟩)⟩)⟩
   ·rw [QE,cW] at c
    exact absurd c (by decide+kernel)
   ·exact absurd c (by decide+kernel)
  | @way b y z e=>
   refine ⟨_,.str "way",.inr (au.of e),aS _ _,rfl,_,rfl,dz (fun _=>?_) (fun c=>absurd c (by simp))⟩
   refine ⟨(show 2<=sizeLine by decide),fun L hL=>k L _ _ hL aA ?_ (aa.upd hL _)⟩
   exact (SV.nil.snoc (m:=["from"]) (kf.same (aa.upd hL _)).rd).snoc (m:=["to"]) (kt.same (aa.upd hL _)).rd
  | @prs b c s ys ps e ec hp=>
   have hpl:=hp.len
   have GU:=hok.2.2.2
   obtain ⟨n1,n2,n3⟩:(s=="way")=false/\(bx [((Sum.inr "box":Key),V.str "part"),(Sum.inr "pick",V.str "case")] (Sum.inr s)).isSome=true/\bx [((Sum.inr "box":Key),V.str "part"),(Sum.inr "pick",V.str "case")] (Sum.inr s)=some (.str (s_ s)):=by
    rcases hok.1 with rfl | rfl<;>exact ⟨by decide+kernel,by decide+kernel,by decide+kernel⟩
   refine ⟨_,.str s,.inr (au.of e),aS _ _,rfl,_,rfl,dz (fun c=>?_) (fun _=>⟨_,.str s,.inr (au.of e),aS _ _,Sum.inr s,rfl,_,rfl,dz (fun _=>?_) (fun c=>?_)⟩)⟩
   ·rw [QE,cW,n1] at c;cases c
   ·refine ⟨_,.ref c,.inr (au.of e),rfl,Or.inr ⟨⟨ys,au.of ec⟩,fun D hD=>?_⟩⟩
    refine eW (gI ys) (fun i τ H3=>∃ (v0 v1:Option V) (zs:List V),τ=[v0,v1,some (.ref b)]/\H3 D=some (.lst zs)/\SV H3 zs ((ps.take i).map fun p=>[s_ s,p.1])/\aa H H3) ⟨none,none,[],rfl,aA,SV.nil,aa.upd hD _⟩ (by rintro i τ H3 _ ⟨_,_,_,_,_,_,s⟩;exact au.of (s _ _ ec)) ?_ ?_
    ·rintro i τ H3 hi ⟨v0,v1,zs,rfl,q1,q2,q3⟩
     have zy:i < ps.length:=by omega
     obtain ⟨d,r1,r2⟩:=hp.at_ i hi zy
     have eg:ys.getD i .ao=.ref d:=by rw [Qb,Qa hi,r1];rfl
     rw [eg]
     refine cI (q3 _ _ r2) ?_
     have HZ:zs.length=i:=by have:=q2.len;simp at this;omega
     refine ⟨_,.str s,.inr (au.of (q3 _ _ e)),aS _ _,Sum.inr s,_,rfl,n3,(show 2<=sizeLine by decide),fun c1 h1=>?_⟩
     have t1:=aa.upd h1 (.tup [.str (s_ s),.str ps[i].1])
     have g1:upd H3 c1 (.tup [.str (s_ s),.str ps[i].1]) c1=some (.tup [.str (s_ s),.str ps[i].1]):=aA
     dsimp only
     generalize upd H3 c1 (.tup [.str (s_ s),.str ps[i].1])=H5 at t1 g1
     have gD:=t1 _ _ q1
     have kp:∀ b ys,bj H5 b ys->bj (upd H5 D (.lst (zs++[.ref c1]))) b ys:=fun b ys r=>r.upd fun u hu z=>by
      subst z
      rcases r with r | ⟨_,r⟩<;>(rw [gD] at r;cases r)
     refine ⟨zs,gD,by omega,_,_,zs++[.ref c1],rfl,aA,?_,(q3.trans t1).put hD⟩
     have et:(ps.take (i+1)).map (fun p=>([s_ s,p.1]:List Str))=(ps.take i).map (fun p=>([s_ s,p.1]:List Str))++[[s_ s,ps[i].1]]:=by
      rw [Qs,Qa zy,Qm];rfl
     rw [et]
     exact ((q2.keep fun b ys r=>r.same t1).keep kp).snoc (m:=[s_ s,ps[i].1]) (kp _ _ (.inl g1))
    ·rintro τ H3 ⟨v0,v1,zs,rfl,q1,q2,q3⟩
     rw [hpl,Qo] at q2
     refine k D zs H3 hD q1 ?_ q3
     have em:(Hd.prs s ps).bg.map (·.1)=ps.map fun p=>([s_ s,p.1]:List Str):=by
      simp [Hd.bg,s_,Qn,QB]
     rw [em]
     exact q2
   ·rw [n2] at c;cases c
def Mh (mg:Str->Option Value):Sp:=fun vs H Q _=>∃ (x:V) (h:Hd) (ns:List Str) (rows:List ae) (d:Addr),vs=[x,.ref d]/\HV H x h/\h.ok ns/\Kn mg H "FROM" [.str "from"]/\Kn mg H "TO" [.str "to"]/\Rd H d (.dK (gj rows))/\(∀ z∈ns,z∈rows.map (·.1))/\(rows.map (·.1)).Nodup/\
 ∀ (m:Addr) (H':Hp),H m=none->H' m=some (.dT (g_ rows h))->aa H H'->Q (.ref m) H'
theorem pQ (T:Txt K mg w):be P w K mg base 2 "moves_in" ["head","rows"] (Mh mg):=by
 have iE:be P w K mg base 1 "steps_in" ["head"] (Ik mg):=jM T
 have sE:be P w K mg base 1 "names_in" ["head"] Mf:=nO T
 refine T.t9.fg qI (fun vs H Q E h=>?_) (fun f av A outer s H vs Q E hr h=>?_)
 ·obtain ⟨x,h,ns,rows,d,rfl,_⟩:=h
  rfl
 ·refine hdn fun Gz9 zG9=>?_;obtain ⟨x,h,ns,rows,d,rfl,hv,hok,kf,kt,hd,iy,nd,k⟩:=h;refine zG9 ?_
  have hu:=bB hr
  have dm:=Qx (bB hr)
  have hsz:sizeLine=16777216:=QL
  have few:=uF hok
  refine ⟨_,(aH (aZ (Sw (own:=["step","x"]) (idx:=[1]) (N':=["step","x","rows"]) (bZ (az fK) (["head","rows"]:List Str) (by decide+kernel)) rfl dm (RK K (by rfl) T.U1 (aY (bF iE (hr.mono (by decide)) (aD (zv 0) aC)) (aY (bF sE (hr.mono (by decide)) (aD (zv 0) aC)) aC))) (fun _ _ _ _ _ _=>(bM K (n:=2) rfl (aL (aJ (i:=0) (show List.Nodup (["step","x","rows"]:List Str) by decide+kernel) rfl (Or.inl rfl)) (aL (aJ (i:=1) (show List.Nodup (["step","x","rows"]:List Str) by decide+kernel) rfl (Or.inl rfl)) bD)))) (fun _ _ _ _ _ _=>cS) (fun _ _ _ _ _ _=>(zv 0)) (fun _ _ _ _ _ _=>(cE hu (zv 2) (zv 1) (fun _ _=>rfl)))))),?_⟩
  refine ⟨x,h,ns,rfl,hv,hok,kf,kt,fun L us H1 hL eL sv s1=>⟨x,h,ns,rfl,hv.tk s1.ts,hok,fun M H2 hM eM s2=>?_⟩⟩
  have VG:=sv.len
  rw [Ql] at VG
  refine ⟨L,M,us,(vc h).map V.str,rfl,ak.of (s2 _ _ eL),ak.of eM,fun D hD=>?_⟩
  have ym:H D=none:=(s1.trans s2).free hD
  have mn:min us.length ((vc h).map V.str).length=h.bg.length:=by have:=SN (h:=h);simp;omega
  have VH:=pG (rows:=rows) (wZ hok)
  have ml:(g_ rows h).length=h.bg.length:=by simp [g_]
  refine z3 (zY us ((vc h).map V.str)) (fun i τ H3=>∃ v0 v1:Option V,τ=[v0,v1,some (.ref d)]/\H3 D=some (.dT ((g_ rows h).take i))/\aa H2 H3) ⟨none,none,rfl,aA,aa.upd hD _⟩ (by rintro i τ H3 _ ⟨_,_,_,_,s⟩;exact ⟨ak.of (s _ _ (s2 _ _ eL)),ak.of (s _ _ eM)⟩) ?_ ?_
  ·rintro i τ H3 T hi ⟨v0,v1,rfl,q1,q2⟩ hT
   rw [mn] at hi
   have Mi:i < us.length:=by omega
   obtain ⟨b,e1,e2⟩:=sv.at_ i Mi (by simpa using hi)
   have g1:us.getD i .ao=.ref b:=by rw [Qb,Qa Mi,e1];rfl
   have Lw:((vc h).map V.str).getD i .ao=.str h.bg[i].2:=by rw [Qb,Qq,SM i hi];rfl
   rw [g1,Lw]
   have t1:=aa.upd hT (.tup [.ref b,.str h.bg[i].2])
   generalize upd H3 T (.tup [.ref b,.str h.bg[i].2])=H5 at t1
   have hz:h.bg[i].2∈ns:=oB hok _ (Qj hi)
   have VI:Rd H5 d (.dK (gj rows)):=hd.same (((s1.trans s2).trans q2).trans t1)
   refine ⟨d,.str (endOf rows h.bg[i].2),rfl,by rw [<- gQ nd (iy _ hz)];exact dh.rd (k:=Sum.inr h.bg[i].2) VI,?_⟩
   have er:bj H5 b (h.bg[i].1.map V.str):=by
    have:=(e2.same ((s2.trans q2).trans t1))
    simpa using this
   have Dh:i < (g_ rows h).length:=by omega
   have em:(g_ rows h)[i]=(h.bg[i].1.map Sum.inr,.str (endOf rows h.bg[i].2)):=by simp [g_]
   refine ⟨(g_ rows h).take i,(g_ rows h)[i].1,b,rfl,by rw [em,EE];exact er,t1 _ _ q1,by simp;omega,_,_,rfl,?_,?_⟩
   ·have:=uC VH Dh
    rw [em] at this ⊢
    rw [this]
    exact aA
   ·exact (q2.trans t1).put hD
  ·rintro τ H3 ⟨v0,v1,rfl,q1,q2⟩
   rw [mn,<- ml,Qo] at q1
   exact k D H3 ym q1 ((s1.trans s2).trans q2)
def Di (mg:Str->Option Value):Sp:=fun vs H Q _=>∃ (x dx a:Addr) (xs:List V) (rows:List ae) (ns ws:List Str),vs=[.ref x,.ref a]/\H x=some (.ins (adr mg "Net") dx [])/\RT H a xs rows ns ws/\(∀ z∈ws,Wd z)/\Kn mg H "FROM" [.str "from"]/\Kn mg H "TO" [.str "to"]/\
 ∀ H',BC H' (adr mg "Net") x rows->Sx x H H'->Q .ao H'
theorem VJ {f g:Str} {u v:V} (n:Nat):(bz f u (bz g v [])).length < 1000:=by
 have h1:=cB f u (bz g v [])
 have h2:=cB g v []
 simp at h2
 omega
theorem vX {K:QZ} {tv:TE} {f:Str} {D:Ends} (h:tv σ H fun y H1=>ta σ H1 fun x H2=>∃ a C dx fs,x=.ref a/\H2 a=some (.ins C dx fs)/\wk K C/\uq K C f/\fs.length < 1000/\D.nx σ (upd H2 a (.ins C dx (bz f y fs)))):D8 K ta tv f D σ H:=h
set_option maxHeartbeats 1000000 in
theorem oZ (T:Txt K mg w):AK P w K mg base 4 "Net" (adr mg "Net") ["self","T"] (Di mg):=by
 have wE:be P w K mg base 2 "rows_of" ["T"] Me:=sC T
 have iE:be P w K mg base 1 "steps_in" ["head"] (Ik mg):=jM T
 have tZ:be P w K mg base 2 "moves_in" ["head","rows"] (Mh mg):=pQ T
 have cl:=T.qp.2.1
 have na:=T.qp.2.2.1
 refine T.qp.fg qS (fun vs H Q E h=>?_) (fun f av A outer s H vs Q E hr h=>?_)
 ·refine hdn fun Gz9 zG9=>?_;obtain ⟨x,dx,a,xs,rows,ns,ws,rfl,_⟩:=h;refine zG9 ?_
  rfl
 ·refine hdn fun Gz9 zG9=>?_;obtain ⟨x,dx,a,xs,rows,ns,ws,rfl,hx,rt,hw,kf,kt,k⟩:=h;refine zG9 ?_
  have hu:=bB hr
  have dm:=Qx (bB hr)
  have hsz:sizeLine=16777216:=QL
  have jv:=rt.jv
  have AI:=rt.rl
  have few:=rt.few
  have VL:(bc rows).length<=14:=by have:=List.length_filter_le (fun r:ae=>r.2.nx.isNone) rows;unfold bc;omega
  have wz:((bc rows).map (·.1)).Nodup:=(jv.sublist (List.filter_sublist.map _))
  refine ⟨_,(aE (u9 K (zv 0) (iO (bF wE (hr.mono (by decide)) (aD (zv 1) aC))))
   (aE (u9 K (zv 0) (iO (wB (own:=["name","head"]) (idx:=[]) (N':=["name","head"]) (bZ (az d0) (["self","T"]:List Str) (by decide+kernel)) rfl (nM K (zv 1)) (fun _ _ _ _ _ _=>(bM K (n:=2) rfl (aL (aJ (i:=0) (show List.Nodup (["name","head"]:List Str) by decide+kernel) rfl (Or.inl rfl)) (aL (aJ (i:=1) (show List.Nodup (["name","head"]:List Str) by decide+kernel) rfl (Or.inl rfl)) bD)))) (fun _ _ _ _ _ _=>(pX (aX (oY dm) (bH (bG K) (zv 1) aK (fun _ _=>rfl)) aI (eu _)))) (fun _ _ _ _ _ _=>(zv 0)) (fun _ _ _ _ _ _=>(zv 1)))))
   (aE (u9 K (zv 0) (iO (wB (own:=["row","head"]) (idx:=[]) (N':=["row","head"]) (bZ (az d0) (["self","T"]:List Str) (by decide+kernel)) rfl (kZ (e9 K (zv 0))) (fun _ _ _ _ _ _=>(bM K (n:=2) rfl (aL (aJ (i:=0) (show List.Nodup (["row","head"]:List Str) by decide+kernel) rfl (Or.inl rfl)) (aL (aJ (i:=1) (show List.Nodup (["row","head"]:List Str) by decide+kernel) rfl (Or.inl rfl)) bD)))) (fun _ _ _ _ _ _=>cS) (fun _ _ _ _ _ _=>(zv 0)) (fun _ _ _ _ _ _=>(aO (aQ (bH (bG K) (zv 1) aK (fun _ _=>rfl)) (aY (cL (f9 K) (by rfl) T.iT QG (aY (bF iE (hr.mono (by decide)) (aD (zv 1) aC)) aC)) aC)))))))
   (aH (u9 K (zv 0) (iO (wB (own:=["row","head"]) (idx:=[0]) (N':=["row","head","self"]) (bZ (az d0) (["self","T"]:List Str) (by decide+kernel)) rfl (kZ (e9 K (zv 0))) (fun _ _ _ _ _ _=>(bM K (n:=2) rfl (aL (aJ (i:=0) (show List.Nodup (["row","head","self"]:List Str) by decide+kernel) rfl (Or.inl rfl)) (aL (aJ (i:=1) (show List.Nodup (["row","head","self"]:List Str) by decide+kernel) rfl (Or.inl rfl)) bD)))) (fun _ _ _ _ _ _=>cS) (fun _ _ _ _ _ _=>(zv 0)) (fun _ _ _ _ _ _=>(iO (bF tZ (hr.mono (by decide)) (aD (zv 1) (oV (e9 K (zv 2)) aC)))))))))))),?_⟩
  generalize hC:adr mg "Net"=C at*
  refine lD ⟨a,xs,rows,ns,ws,rfl,rt,hw,fun d1 H1 Fp s1 e1=>⟨d1,rfl,.inl ⟨_,.inl e1,fun o1=>?_⟩⟩⟩
  have Dj:d1≠x:=fun z=>by rw [z,hx] at Fp;cases Fp
  refine ⟨x,C,dx,[],rfl,by rw [aF Dj.symm];exact s1 _ _ hx,cl,na "rows" (by simp),by simp,?_⟩
  have Il:Sx x H (upd (upd H1 d1 (.af o1 (.dK (gj rows)))) x (.ins C dx (bz "rows" (.ref d1) []))):=((s1.put Fp).sx).trans Sx.upd
  have g1:upd (upd H1 d1 (.af o1 (.dK (gj rows)))) x (.ins C dx (bz "rows" (.ref d1) [])) d1=some (.af o1 (.dK (gj rows))):=by rw [aF Dj];exact aA
  have gx:upd (upd H1 d1 (.af o1 (.dK (gj rows)))) x (.ins C dx (bz "rows" (.ref d1) [])) x=some (.ins C dx (bz "rows" (.ref d1) [])):=aA
  generalize upd (upd H1 d1 (.af o1 (.dK (gj rows)))) x (.ins C dx (bz "rows" (.ref d1) []))=H2 at Il g1 gx ⊢
  have nt:∀ ys,H x≠some (.tup ys):=fun ys z=>by rw [hx] at z;cases z
  have nf:∀ q u,H x≠some (.af q u):=fun q u z=>by rw [hx] at z;cases z
  have sy:=rt.tk (Il.tk nt)
  clear e1 s1 Fp H1
  -- heads
  refine lD (Or.inr ⟨⟨xs,au.of sy.at_⟩,fun D hD=>?_⟩)
  have Dk:D≠x:=fun z=>by rw [z,gx] at hD;cases hD
  refine yB (gI xs) (fun i τ H3=>∃ (v0 v1:Option V) (kvs:List (Key×V)),τ=[v0,v1]/\H3 D=some (.dK kvs)/\DV RH H3 kvs (bc (rows.take i))/\aa H2 H3) ⟨none,none,[],rfl,aA,DV.nil,aa.upd hD _⟩ (by rintro i τ H3 _ ⟨_,_,_,_,_,_,s⟩;exact au.of (s _ _ sy.at_)) ?_ ?_
  ·rintro i τ H3 hi ⟨v0,v1,kvs,rfl,q1,q2,q3⟩
   have ph:i < rows.length:=by have:=sy.rv.len;omega
   obtain ⟨b,v,r1,r2,r3⟩:=sy.rv.at_ i hi ph
   have eg:xs.getD i .ao=.ref b:=by rw [Qb,Qa hi,r1];rfl
   rw [eg]
   refine cI (q3 _ _ r2) ?_
   have r3':=r3.same q3
   obtain ⟨c,ys,rfl,hc⟩:=r3'.i_
   have hok:=(sy.ok rows[i] (Qj ph)).2
   have et:rows.take (i+1)=rows.take i++[rows[i]]:=by rw [Qs,Qa ph];rfl
   have kl:kvs.length < sizeLine:=by
    have h1:=q2.len
    have h2:=List.length_filter_le (fun r:ae=>r.2.nx.isNone) (rows.take i)
    unfold bc at h1
    simp at h2
    omega
   refine ⟨_,.str rows[i].2.i_,.inr (au.of hc),aS _ _,rfl,_,rfl,dz (fun c1=>?_) (fun c1=>?_)⟩
   ·have hn:rows[i].2.nx.isNone=true:=by
     cases e:rows[i].2.nx.isNone with
     | true=>rfl
     | false=>
      have:=(yE hok).symm▸e
      rw [this] at c1
      simp at c1
    have en:bc (rows.take (i+1))=bc (rows.take i)++[rows[i]]:=by
     rw [et];unfold bc;rw [List.filter_append,List.filter_cons,if_pos hn];rfl
    have VM:rows[i].1 ∉ (bc (rows.take i)).map (·.1):=fun hm=>by
     obtain ⟨r,hr,e⟩:=List.mem_map.mp hm
     have fb:=(List.mem_filter.mp hr).1
     obtain ⟨j,hj,rfl⟩:=Qi fb
     have oq:j < i:=by simp at hj;omega
     rw [List.getElem_take] at e
     have:=List.pairwise_iff_getElem.mp jv j i (by simp;omega) (by simpa using ph) oq
     simp only [Qr] at this
     exact this e
    refine ⟨kvs,.inr rows[i].1,rfl,q1,kl,_,_,kvs++[(.inr rows[i].1,.ref c)],rfl,?_,?_,q3.put hD⟩
    ·rw [q2.put VM];exact aA
    ·rw [en]
     exact (q2.snoc (show RH H3 (.ref c) rows[i] from r3')).keep fun v r h=>HV.tk ((Tk.refl).set q1 fun xs z=>nomatch z) h
   ·have hn:rows[i].2.nx.isNone=false:=by
     have e:rows[i].2.i_="as":=by
      have:decide (V.str rows[i].2.i_=V.str "as")=true:=by simpa using c1
      exact V.str.inj (Qt this)
     exact (yE hok)▸e
    have en:bc (rows.take (i+1))=bc (rows.take i):=by
     rw [et];unfold bc;rw [List.filter_append,List.filter_cons,if_neg (by rw [hn];decide)];simp
    exact ⟨_,_,kvs,rfl,q1,by rw [en];exact q2,q3⟩
  ·rintro τ H3 ⟨v0,v1,k2,rfl,q1,q2,q3⟩
   rw [sy.rv.len,Qo] at q2
   refine ⟨D,rfl,.inl ⟨k2,.inl q1,fun o2=>?_⟩⟩
   refine ⟨x,C,dx,_,rfl,by rw [aF Dk.symm];exact q3 _ _ gx,cl,na "heads" (by simp),by simp [bz],?_⟩
   have Im:d1≠D:=fun z=>by rw [z,hD] at g1;cases g1
   have Io:Sx x H2 (upd (upd H3 D (.af o2 (.dK k2))) x (.ins C dx (bz "heads" (.ref D) (bz "rows" (.ref d1) [])))):=((q3.put hD:aa _ _) |> aa.sx).trans Sx.upd
   have g2:upd (upd H3 D (.af o2 (.dK k2))) x (.ins C dx (bz "heads" (.ref D) (bz "rows" (.ref d1) []))) D=some (.af o2 (.dK k2)):=by rw [aF Dk];exact aA
   have zz:upd (upd H3 D (.af o2 (.dK k2))) x (.ins C dx (bz "heads" (.ref D) (bz "rows" (.ref d1) []))) x=some (.ins C dx (bz "heads" (.ref D) (bz "rows" (.ref d1) []))):=aA
   have B3:DV RH (upd (upd H3 D (.af o2 (.dK k2))) x (.ins C dx (bz "heads" (.ref D) (bz "rows" (.ref d1) [])))) k2 (bc rows):=q2.keep fun v r h=>HV.tk (((Tk.refl).set q1 fun xs z=>nomatch z).set (by rw [aF Dk.symm];exact q3 _ _ gx) fun xs z=>by cases z) h
   generalize upd (upd H3 D (.af o2 (.dK k2))) x (.ins C dx (bz "heads" (.ref D) (bz "rows" (.ref d1) [])))=H4 at Io g2 zz B3 ⊢
   have C9:H4 d1=some (.af o1 (.dK (gj rows))):=Io _ _ Dj g1
   have Ip:=Il.trans Io
   have Mj:Kn mg H4 "FROM" [.str "from"]:=let ⟨o,e⟩:=kf;⟨o,Ip.af nf e⟩
   have Ml:Kn mg H4 "TO" [.str "to"]:=let ⟨o,e⟩:=kt;⟨o,Ip.af nf e⟩
   have Mm:=B3.len
   have Mn:∀ i (h:i < (bc rows).length),((bc rows)[i]).2.ok ns:=fun i h=>(rt.ok _ (List.mem_filter.mp (Qj h)).1).2
   have Mp:∀ i (h:i < (bc rows).length),iz k2 i=.str (bc rows)[i].1:=fun i h=>by
    unfold iz
    rw [Qa (by omega)]
    show kV k2[i].1=_
    rw [(B3.at_ i (by omega) h).1];rfl
   have VN:∀ i (h:i < (bc rows).length),HV H4 (valAt k2 i) (bc rows)[i].2:=fun i h=>by
    unfold valAt
    rw [Qa (by omega)]
    exact (B3.at_ i (by omega) h).2
   have Fq:∀ i (h:i < (bc rows).length),(bc rows)[i].1 ∉ ((bc rows).take i).map (·.1):=fun i h hm=>by
    obtain ⟨r,hr,e⟩:=List.mem_map.mp hm
    obtain ⟨j,hj,rfl⟩:=Qi hr
    have oq:j < i:=by simp at hj;omega
    rw [List.getElem_take] at e
    have:=List.pairwise_iff_getElem.mp wz j i (by simp;omega) (by simpa using h) oq
    simp only [Qr] at this
    exact this e
   have Mq:∀ i (h:i < (bc rows).length),(bc rows).take (i+1)=(bc rows).take i++[(bc rows)[i]]:=fun i h=>by rw [Qs,Qa h];rfl
   clear q1 q2 q3 hD sy
   -- marks
   refine lD ⟨x,C,dx,_,.ref D,rfl,zz,cl,na "heads" (by simp),by rw [cF,if_pos rfl],D,k2,rfl,.inl ⟨o2,g2,fun D3 AZ=>?_⟩⟩
   have Dl:D3≠x:=fun z=>by rw [z,zz] at AZ;cases AZ
   refine uB (j7 k2) (fun i τ H5=>∃ (v0 v1:Option V) (kvs:List (Key×V)),τ=[v0,v1]/\H5 D3=some (.dK kvs)/\DV RM H5 kvs ((bc rows).take i)/\aa H4 H5) ⟨none,none,[],rfl,aA,DV.nil,aa.upd AZ _⟩ (by rintro i τ H5 _ ⟨_,_,_,_,_,_,s⟩;exact s _ _ g2) ?_ ?_
   ·rintro i τ H5 T5 hi ⟨v0,v1,kvs,rfl,q1,q2,q3⟩ hT
    have iy:i < (bc rows).length:=by omega
    rw [Mp i iy]
    have hv:=VN i iy
    generalize valAt k2 i=v at hv
    have t1:=aa.upd hT (.tup [.str (bc rows)[i].1,v])
    generalize upd H5 T5 (.tup [.str (bc rows)[i].1,v])=H6 at t1
    have Mr:=hv.same (q3.trans t1)
    obtain ⟨c,ys,rfl,hc⟩:=Mr.i_
    refine ⟨_,.str (bc rows)[i].2.i_,.inr (au.of hc),aS _ _,.ref c,(bc rows)[i].2,ns,rfl,Mr,Mn i iy,Mj.same (q3.trans t1),Ml.same (q3.trans t1),fun L us H7 hL eL sv s7=>?_⟩
    refine ⟨L,us,rfl,.inl ⟨ak.of eL,fun l hl=>⟨(show 2<=sizeLine by decide),fun t ht=>?_⟩⟩⟩
    have s8:=(s7.trans (aa.upd hl (.tup us))).trans (aa.upd ht (.tup [.str (bc rows)[i].2.i_,.ref l]))
    have el:upd (upd H7 l (.tup us)) t (.tup [.str (bc rows)[i].2.i_,.ref l]) l=some (.tup us):=aa.upd ht _ _ _ aA
    have et:upd (upd H7 l (.tup us)) t (.tup [.str (bc rows)[i].2.i_,.ref l]) t=some (.tup [.str (bc rows)[i].2.i_,.ref l]):=aA
    have Ms:SV (upd (upd H7 l (.tup us)) t (.tup [.str (bc rows)[i].2.i_,.ref l])) us ((bc rows)[i].2.bg.map (·.1)):=sv.keep fun b ys r=>r.same ((aa.upd hl _).trans (aa.upd ht _))
    dsimp only
    generalize upd (upd H7 l (.tup us)) t (.tup [.str (bc rows)[i].2.i_,.ref l])=H8 at s8 el et Ms
    have g3:=(t1.trans s8) _ _ q1
    have kl:kvs.length < sizeLine:=by have h1:=q2.len;simp at h1;omega
    have kp:Tk H8 (upd H8 D3 (.dK (kvs++[(.inr (bc rows)[i].1,.ref t)]))):=(Tk.refl).set g3 fun xs z=>nomatch z
    refine ⟨kvs,.inr (bc rows)[i].1,rfl,g3,kl,_,_,kvs++[(.inr (bc rows)[i].1,.ref t)],rfl,?_,?_,((q3.trans t1).trans s8).put AZ⟩
    ·rw [q2.put (Fq i iy)];exact aA
    ·rw [Mq i iy,q2.put (Fq i iy)]
     have kr:∀ b ys,bj H8 b ys->bj (upd H8 D3 (.dK (kvs++[(.inr (bc rows)[i].1,.ref t)]))) b ys:=fun b ys r=>r.put g3 (fun _ z=>nomatch z) fun _ _ z=>nomatch z
     refine ((q2.keep fun v r ⟨b,c,us,e1,e2,e3,e4⟩=>⟨b,c,us,e1,(t1.trans s8) _ _ e2,(t1.trans s8) _ _ e3,e4.keep fun b ys r=>r.same (t1.trans s8)⟩:DV RM H8 kvs _).snoc (show RM H8 (.ref t) (bc rows)[i] from ⟨t,l,us,rfl,et,el,Ms⟩)).keep fun v r ⟨b,c,us,e1,e2,e3,e4⟩=>⟨b,c,us,e1,kp _ _ e2,kp _ _ e3,e4.keep kr⟩
   ·rintro τ H5 ⟨v0,v1,k3,rfl,q1,q2,q3⟩
    rw [Mm,Qo] at q2
    refine ⟨D3,rfl,.inl ⟨k3,.inl q1,fun o3=>?_⟩⟩
    refine ⟨x,C,dx,_,rfl,by rw [aF Dl.symm];exact q3 _ _ zz,cl,na "marks" (by simp),VJ 2,?_⟩
    have Mt:d1≠D3:=fun z=>by rw [z,AZ] at C9;cases C9
    have YN:D≠D3:=fun z=>by rw [z,AZ] at g2;cases g2
    generalize Mu:bz "marks" (.ref D3) (bz "heads" (.ref D) (bz "rows" (.ref d1) []))=iq
    have lk:∀ y:Str,iq.lookup y=if y="marks" then some (.ref D3) else if y="heads" then some (.ref D) else if y="rows" then some (.ref d1) else none:=fun y=>by rw [<- Mu,cF,cF,cF];rfl
    have fl:iq.length<=3:=by rw [<- Mu];have h1:=cB "marks" (.ref D3) (bz "heads" (.ref D) (bz "rows" (.ref d1) []));have h2:=cB "heads" (.ref D) (bz "rows" (.ref d1) []);have h3:=cB "rows" (.ref d1) [];simp at h3;omega
    have A0:Sx x H4 (upd (upd H5 D3 (.af o3 (.dK k3))) x (.ins C dx iq)):=((q3.put AZ:aa _ _) |> aa.sx).trans Sx.upd
    have g3:upd (upd H5 D3 (.af o3 (.dK k3))) x (.ins C dx iq) D3=some (.af o3 (.dK k3)):=by rw [aF Dl];exact aA
    have z_:upd (upd H5 D3 (.af o3 (.dK k3))) x (.ins C dx iq) x=some (.ins C dx iq):=aA
    have Ft:Tk H5 (upd (upd H5 D3 (.af o3 (.dK k3))) x (.ins C dx iq)):=((Tk.refl).set q1 fun xs z=>nomatch z).set (by rw [aF Dl.symm];exact q3 _ _ zz) fun xs z=>by cases z
    have Mv:∀ b ys,bj H5 b ys->bj (upd (upd H5 D3 (.af o3 (.dK k3))) x (.ins C dx iq)) b ys:=fun b ys r=>(r.put q1 (fun _ z=>nomatch z) fun _ _ z=>nomatch z).put (by rw [aF Dl.symm];exact q3 _ _ zz) (fun _ z=>by cases z) fun _ _ z=>by cases z
    have Mw:DV RM (upd (upd H5 D3 (.af o3 (.dK k3))) x (.ins C dx iq)) k3 (bc rows):=q2.keep fun v r ⟨b,c,us,e1,e2,e3,e4⟩=>⟨b,c,us,e1,Ft _ _ e2,Ft _ _ e3,e4.keep Mv⟩
    have Iq:DV RH (upd (upd H5 D3 (.af o3 (.dK k3))) x (.ins C dx iq)) k2 (bc rows):=B3.keep fun v r h=>HV.tk ((q3.ts).trans Ft) h
    generalize upd (upd H5 D3 (.af o3 (.dK k3))) x (.ins C dx iq)=H6 at A0 g3 z_ Mw Iq ⊢
    have Fv:H6 d1=some (.af o1 (.dK (gj rows))):=A0 _ _ Dj C9
    have Dm:H6 D=some (.af o2 (.dK k2)):=A0 _ _ Dk g2
    have VO:Kn mg H6 "FROM" [.str "from"]:=let ⟨o,e⟩:=Mj;⟨o,A0.af (fun q u z=>by rw [zz] at z;cases z) e⟩
    have VP:Kn mg H6 "TO" [.str "to"]:=let ⟨o,e⟩:=Ml;⟨o,A0.af (fun q u z=>by rw [zz] at z;cases z) e⟩
    have VQ:∀ i (h:i < (bc rows).length),HV H6 (valAt k2 i) (bc rows)[i].2:=fun i h=>by
     unfold valAt
     rw [Qa (by omega)]
     exact (Iq.at_ i (by omega) h).2
    have VR:=Ip.trans A0
    have VS:∀ z∈ns,z∈rows.map (·.1):=fun z hz=>rt.nm.mem_iff.mpr hz
    clear q1 q2 q3 Ft Mv B3 A0
    -- moves
    refine vX ⟨x,C,dx,iq,.ref D,rfl,z_,cl,na "heads" (by simp),by rw [lk,if_neg (by decide+kernel),if_pos rfl],D,k2,rfl,.inl ⟨o2,Dm,fun D4 Aa=>?_⟩⟩
    have Fw:D4≠x:=fun z=>by rw [z,z_] at Aa;cases Aa
    refine uB (j7 k2) (fun i τ H7=>∃ (v0 v1:Option V) (kvs:List (Key×V)),τ=[v0,v1,some (.ref x)]/\H7 D4=some (.dK kvs)/\DV (RO rows) H7 kvs ((bc rows).take i)/\aa H6 H7) ⟨none,none,[],rfl,aA,DV.nil,aa.upd Aa _⟩ (by rintro i τ H5 _ ⟨_,_,_,_,_,_,s⟩;exact s _ _ Dm) ?_ ?_
    ·rintro i τ H7 T7 hi ⟨v0,v1,kvs,rfl,q1,q2,q3⟩ hT
     have iy:i < (bc rows).length:=by omega
     rw [Mp i iy]
     have hv:=VQ i iy
     generalize valAt k2 i=v at hv
     have t1:=aa.upd hT (.tup [.str (bc rows)[i].1,v])
     generalize upd H7 T7 (.tup [.str (bc rows)[i].1,v])=H8 at t1
     have q4:=q3.trans t1
     refine ⟨x,C,dx,iq,.ref d1,rfl,q4 _ _ z_,cl,na "rows" (by simp),by rw [lk,if_neg (by decide+kernel),if_neg (by decide+kernel),if_pos rfl],?_⟩
     refine ⟨v,(bc rows)[i].2,ns,rows,d1,rfl,hv.same q4,Mn i iy,VO.same q4,VP.same q4,.inr ⟨o1,q4 _ _ Fv⟩,VS,jv,fun m H9 hm em s9=>⟨m,rfl,.inr ⟨_,.inl em,fun o=>?_⟩⟩⟩
     have YO:D4≠m:=fun z=>by
      have:=t1 _ _ q1
      rw [z,hm] at this;cases this
     have fi:aa H8 (upd H9 m (.af o (.dT (g_ rows (bc rows)[i].2)))):=s9.put hm
     have Mx:upd H9 m (.af o (.dT (g_ rows (bc rows)[i].2))) m=some (.af o (.dT (g_ rows (bc rows)[i].2))):=aA
     generalize upd H9 m (.af o (.dT (g_ rows (bc rows)[i].2)))=Ab at fi Mx
     have My:=(t1.trans fi) _ _ q1
     have kl:kvs.length < sizeLine:=by have h1:=q2.len;simp at h1;omega
     refine ⟨kvs,.inr (bc rows)[i].1,rfl,My,kl,_,_,kvs++[(.inr (bc rows)[i].1,.ref m)],rfl,?_,?_,(q4.trans fi).put Aa⟩
     ·rw [q2.put (Fq i iy)];exact aA
     ·rw [Mq i iy,q2.put (Fq i iy)]
      refine ((q2.keep fun v r ⟨m',o',e1,e2⟩=>⟨m',o',e1,(t1.trans fi) _ _ e2⟩:DV (RO rows) Ab kvs _).snoc (show RO rows Ab (.ref m) (bc rows)[i] from ⟨m,o,rfl,Mx⟩)).keep fun v r ⟨m',o',e1,e2⟩=>⟨m',o',e1,?_⟩
      rw [aF (fun z=>by rw [z,My] at e2;cases e2)]
      exact e2
    ·rintro τ H7 ⟨v0,v1,k4,rfl,q1,q2,q3⟩
     rw [Mm,Qo] at q2
     refine ⟨D4,rfl,.inl ⟨k4,.inl q1,fun o4=>?_⟩⟩
     refine ⟨x,C,dx,iq,rfl,by rw [aF Fw.symm];exact q3 _ _ z_,cl,na "moves" (by simp),by omega,?_⟩
     have YQ:d1≠D4:=fun z=>by rw [z,Aa] at Fv;cases Fv
     have YR:D≠D4:=fun z=>by rw [z,Aa] at Dm;cases Dm
     have YS:D3≠D4:=fun z=>by rw [z,Aa] at g3;cases g3
     have s7:Sx x H6 (upd (upd H7 D4 (.af o4 (.dK k4))) x (.ins C dx (bz "moves" (.ref D4) iq))):=((q3.put Aa:aa _ _) |> aa.sx).trans Sx.upd
     have Ir:Tk H7 (upd (upd H7 D4 (.af o4 (.dK k4))) x (.ins C dx (bz "moves" (.ref D4) iq))):=((Tk.refl).set q1 fun xs z=>nomatch z).set (by rw [aF Fw.symm];exact q3 _ _ z_) fun xs z=>by cases z
     have VT:∀ b ys,bj H7 b ys->bj (upd (upd H7 D4 (.af o4 (.dK k4))) x (.ins C dx (bz "moves" (.ref D4) iq))) b ys:=fun b ys r=>(r.put q1 (fun _ z=>nomatch z) fun _ _ z=>nomatch z).put (by rw [aF Fw.symm];exact q3 _ _ z_) (fun _ z=>by cases z) fun _ _ z=>by cases z
     have VU:∀ b q u,H7 b=some (.af q u)->upd (upd H7 D4 (.af o4 (.dK k4))) x (.ins C dx (bz "moves" (.ref D4) iq)) b=some (.af q u):=fun b q u e=>by
      rw [aF (fun z=>by rw [z,q3 _ _ z_] at e;cases e),aF (fun z=>by rw [z,q1] at e;cases e)]
      exact e
     have l4:∀ y:Str,(bz "moves" (.ref D4) iq).lookup y=if y="moves" then some (.ref D4) else iq.lookup y:=fun y=>cF _ _ _ _
     refine k _ ⟨dx,bz "moves" (.ref D4) iq,aA,⟨⟨d1,o1,?_,s7 _ _ Dj Fv⟩,⟨D,o2,k2,?_,s7 _ _ Dk Dm,Iq.keep fun v r h=>HV.tk (q3.ts.trans Ir) h⟩,⟨D3,o3,k3,?_,s7 _ _ Dl g3,Mw.keep fun v r ⟨b,c,us,e1,e2,e3,e4⟩=>⟨b,c,us,e1,Ir _ _ (q3 _ _ e2),Ir _ _ (q3 _ _ e3),e4.keep fun b ys r=>VT _ _ (r.same q3)⟩⟩,⟨D4,o4,k4,?_,?_,q2.keep fun v r ⟨m,o,e1,e2⟩=>⟨m,o,e1,VU _ _ _ e2⟩⟩⟩⟩ (VR.trans s7)
     ·rw [l4,if_neg (by decide+kernel),lk,if_neg (by decide+kernel),if_neg (by decide+kernel),if_pos rfl]
     ·rw [l4,if_neg (by decide+kernel),lk,if_neg (by decide+kernel),if_pos rfl]
     ·rw [l4,if_neg (by decide+kernel),lk,if_pos rfl]
     ·rw [l4,if_pos rfl]
     ·rw [aF Fw];exact aA
def B4 (rows:List ae) (φ:Str->Int×Int->Int) (x:Str×(Int×Int)):Int:=((bh rows x.1).map fun m=>φ m.2 (d_ m.1 x.2)).sum
structure vt (rows:List ae) (ns:List Str) (H:Hp) (kvs:List (Key×V)) (L:CL):Prop where
 cv:CV H kvs L
 nd:(L.map (·.1)).Nodup
 en:∀ x∈L,fu rows ns x.1
theorem vt.len {rows:List ae} {kvs:List (Key×V)} {L:CL} (h:vt rows ns H kvs L):kvs.length<=ns.length:=by
 have h1:=Paired.length h.cv
 have h2:=PySem.length_le_of_nodup_of_subset _ ns h.nd fun a ha=>by
  obtain ⟨x,hx,rfl⟩:=List.mem_map.mp ha
  exact (h.en x hx).1
 simp at h2
 omega
def Mz (mg:Str->Option Value):Sp:=fun vs H Q _=>∃ (n d a:Addr) (o:Obj) (xs:List V) (rows:List ae) (ns ws:List Str) (kvs:List (Key×V)) (L:CL),vs=[.ref n,.ref d]/\BC H (adr mg "Net") n rows/\RT H a xs rows ns ws/\(∀ z∈ws,Wd z)/\Kn mg H "FROM" [.str "from"]/\H d=some (.af o (.dK kvs))/\vt rows ns H kvs L/\
 ∀ (f:Addr) (o':Obj) (HJ:List (Key×V)) (L':CL) (H':Hp),aa H H'->H' f=some (.af o' (.dK HJ))->vt rows ns H' HJ L'->(∀ φ,ze φ->gb φ L'=(L.map (B4 rows φ)).sum)->Q (.ref f) H'
set_option maxHeartbeats 2000000 in
theorem mE (T:Txt K mg w):be P w K mg base 2 "counted_on" ["net","many"] (Mz mg):=by
 have cl:=T.qp.2.1
 have na:=T.qp.2.2.1
 refine T.p9.fg bA (fun vs H Q E h=>?_) (fun f av A outer s H vs Q E hr h=>?_)
 ·refine hdn fun Gz9 zG9=>?_;obtain ⟨n,d,a,o,xs,rows,ns,ws,kvs,L,rfl,_⟩:=h;refine zG9 ?_
  rfl
 ·refine hdn fun Gz9 zG9=>?_;obtain ⟨n,d,a,o,xs,rows,ns,ws,kvs,L,rfl,vy,rt,hw,kf,hd,ca,k⟩:=h;refine zG9 ?_
  have hu:=bB hr
  have dm:=Qx (bB hr)
  have Ac:=kJ hr
  have hsz:sizeLine=16777216:=QL
  have few:=rt.few
  refine hdn fun Gz9 zG9=>?_;obtain ⟨dx,fs,en,⟨_,_,_,⟨d4,o4,k4,e1,e2,e3⟩⟩⟩:=vy;refine zG9 ?_
  generalize adr mg "Net"=C at*
  have look:∀ e,fu rows ns e->∃ m o,dh H d4 (.str e) (some (.ref m))/\H m=some (.af o (.dT (f_ rows e))):=fun e he=>by
   obtain ⟨v,h1,m,o,rfl,h2⟩:=e3.get rt.wz (rt.zd hw he).1
   refine ⟨m,o,by rw [<- h1];exact dh.rd (k:=Sum.inr e) (.inr ⟨o4,e2⟩),?_⟩
   rw [jI he.2] at h2
   exact h2
  have kl:kvs.length=L.length:=Paired.length ca.cv
  refine ⟨_,(aE (aR (i:=2) bA.nd rfl (Or.inl rfl) x3)
   (aE (d9 PassesOwn.never rfl (kZ (zv 1)) (bM K (n:=2) rfl (aL (aJ (i:=3) bA.nd rfl (Or.inl rfl)) (aL (bM K (n:=2) rfl (aL (aJ (i:=4) bA.nd rfl (Or.inl rfl)) (aL (aJ (i:=5) bA.nd rfl (Or.inl rfl)) bD))) bD))) (aH (d9 PassesOwn.never rfl (jC (cE hu (e9 K (zv 0)) (zv 3) (fun _ _=>rfl))) (bM K (n:=2) rfl (aL (aJ (i:=6) bA.nd rfl (Or.inl rfl)) (aL (aJ (i:=7) bA.nd rfl (Or.inl rfl)) bD))) (aE (pS (Rq (aX (vA Ac) (zv 6) (pJ T.nV) (eu _)) (aO (aD (zv 5) (aD (zv 4) aC))) (aO (aD (zv 4) (aD (zv 5) aC)))) (bM K (n:=2) rfl (aL (aJ (i:=8) bA.nd rfl (Or.inl rfl)) (aL (aJ (i:=9) bA.nd rfl (Or.inl rfl)) bD))))
   (aE (pS (Sg hu (zv 2) (zv 7) (aO (aB aK (aB aK aC))) ⟨rfl,rfl,rfl,rfl⟩) (bM K (n:=2) rfl (aL (aJ (i:=10) bA.nd rfl (Or.inl rfl)) (aL (aJ (i:=11) bA.nd rfl (Or.inl rfl)) bD))))
   (aH (zE hu (zv 2) (zv 7) (aO (dW (bQ cH (zv 10) (zv 8)) (dW (bQ cH (zv 11) (zv 9)) aC))) rfl)))))))
   (aH (aZ (iO (zv 2)))))),?_⟩
  refine aN fun F hF=>?_
  have VW:F≠d:=fun z=>by rw [z,hd] at hF;cases hF
  refine aU (fun σ' H'=>∃ (v3 v4 v5 v6 v7 v8 v9 v10 v11:Option V) (kF:List (Key×V)) (LF:CL),σ'=[some (.ref n),some (.ref d),some (.ref F),v3,v4,v5,v6,v7,v8,v9,v10,v11]/\H' F=some (.dK kF)/\vt rows ns H' kF LF/\(∀ φ,ze φ->gb φ LF=(L.map (B4 rows φ)).sum)/\aa H H') ?_ ?_
  ·intro nx cy
   refine ⟨d,kvs,rfl,.inl ⟨o,by rw [aF VW.symm];exact hd,?_⟩⟩
   refine vG (j7 kvs) (fun i σ' H'=>∃ (v3 v4 v5 v6 v7 v8 v9 v10 v11:Option V) (kF:List (Key×V)) (LF:CL),σ'=[some (.ref n),some (.ref d),some (.ref F),v3,v4,v5,v6,v7,v8,v9,v10,v11]/\H' F=some (.dK kF)/\vt rows ns H' kF LF/\(∀ φ,ze φ->gb φ LF=((L.take i).map (B4 rows φ)).sum)/\aa H H')
    ⟨none,none,none,none,none,none,none,none,none,[],[],rfl,aA,⟨.nil,List.nodup_nil,fun x hx=>nomatch hx⟩,fun φ _=>rfl,aa.upd hF _⟩ (by rintro i σ' H' _ ⟨_,_,_,_,_,_,_,_,_,_,_,_,_,_,_,s⟩;exact s _ _ hd) ?_ ?_
   ·rintro i σ' H2 T2 hi ⟨v3,v4,v5,v6,v7,v8,v9,v10,v11,kF,LF,rfl,q1,q2,q3,q4⟩ VX
    have Iu:i < L.length:=by omega
    obtain ⟨ke,b,vb,hb⟩:=Paired.at ca.cv i hi Iu
    have eK:iz kvs i=.str L[i].1:=by unfold iz;rw [Qa hi];show kV kvs[i].1=_;rw [ke];rfl
    have eV:valAt kvs i=.ref b:=by unfold valAt;rw [Qa hi];exact vb
    rw [eK,eV]
    have t2:=aa.upd VX (.tup [.str L[i].1,.ref b])
    have eT:upd H2 T2 (.tup [.str L[i].1,.ref b]) T2=some (.tup [.str L[i].1,.ref b]):=aA
    generalize upd H2 T2 (.tup [.str L[i].1,.ref b])=H3 at t2 eT
    refine Tc eT ((q4.trans t2) _ _ hb) ?_
    have he:fu rows ns L[i].1:=ca.en _ (Qj Iu)
    obtain ⟨m,om,l1,l2⟩:=look _ he
    have s3:=q4.trans t2
    have VY:=rt.KP hw he.1
    refine ⟨n,C,dx,fs,.ref d4,rfl,s3 _ _ en,cl,na "moves" (by simp),e1,d4,.ref m,rfl,l1.same s3,m,f_ rows L[i].1,om,rfl,s3 _ _ l2,?_⟩
    have VZ:vt rows ns H3 kF LF:=⟨q2.cv.tk t2.ts,q2.nd,q2.en⟩
    refine tU (fun j σ' H'=>∃ (v6 v7 v8 v9 v10 v11:Option V) (kF:List (Key×V)) (LF:CL),σ'=[some (.ref n),some (.ref d),some (.ref F),some (.str L[i].1),some (.int L[i].2.1),some (.int L[i].2.2),v6,v7,v8,v9,v10,v11]/\H' F=some (.dK kF)/\vt rows ns H' kF LF/\(∀ φ,ze φ->gb φ LF=((L.take i).map (B4 rows φ)).sum+(((bh rows L[i].1).take j).map fun m=>φ m.2 (d_ m.1 L[i].2)).sum)/\aa H H')
     ⟨v6,v7,v8,v9,v10,v11,kF,LF,rfl,t2 _ _ q1,VZ,fun φ hφ=>by rw [q3 φ hφ];simp,s3⟩ (by rintro j σ' H' _ ⟨_,_,_,_,_,_,_,_,_,_,_,_,s⟩;exact s _ _ l2) ?_ ?_
    ·rintro j σ' H4 T4 c hj ⟨w6,w7,w8,w9,MA,MB,kG,LG,rfl,p1,p2,p3,p4⟩ V0 rd
     have Ad:j < (bh rows L[i].1).length:=by simpa [f_] using hj
     have eo:(f_ rows L[i].1)[j]=((bh rows L[i].1)[j].1.map Sum.inr,.str (bh rows L[i].1)[j].2):=by simp [f_]
     rw [eo] at rd ⊢
     rw [EE] at rd
     have Iv:(bh rows L[i].1)[j]∈bh rows L[i].1:=Qj Ad
     have Dn:((bh rows L[i].1).take (j+1))=(bh rows L[i].1).take j++[(bh rows L[i].1)[j]]:=by rw [Qs,Qa Ad];rfl
     generalize (bh rows L[i].1)[j]=mm at rd Iv Dn ⊢
     have A3:fu rows ns mm.2:=by
      unfold bh at Iv
      obtain ⟨q,hq,rfl⟩:=List.mem_map.mp Iv
      rw [he.2] at hq
      exact rt.stay hw (oB (rt.zd hw he).2 _ hq)
     have t4:=aa.upd V0 (.tup [.ref c,.str mm.2])
     generalize upd H4 T4 (.tup [.ref c,.str mm.2])=H5 at t4
     have s5:=p4.trans t4
     have Dp:vt rows ns H5 kG LG:=⟨p2.cv.tk t4.ts,p2.nd,p2.en⟩
     have V1:=t4 _ _ p1
     have V2:=rd.same t4
     have V3:=kf.same s5
     clear p1 p2
     refine aU (fun σ' H'=>σ'=[some (.ref n),some (.ref d),some (.ref F),some (.str L[i].1),some (.int L[i].2.1),some (.int L[i].2.2),some (.ref c),some (.str mm.2),some (.int (d_ mm.1 L[i].2).1),some (.int (d_ mm.1 L[i].2).2),MA,MB]/\aa H5 H') ?_ ?_
     ·intro vo fh
      refine ⟨c,adr mg "FROM",mm.1,(["from"]:List Str),rfl,rfl,V2,V3.rd,_,rfl,dz (fun cc=>?_) (fun cc=>?_)⟩
      ·have e:d_ mm.1 L[i].2=(L[i].2.2,L[i].2.1):=by unfold d_;rw [if_pos (Qt cc)]
       refine ⟨(show 2<=sizeLine by decide),fun T6 Iw=>cI aA (fh _ _ ⟨?_,aa.upd Iw _⟩)⟩
       rw [e];rfl
      ·have e:d_ mm.1 L[i].2=L[i].2:=by unfold d_;rw [if_neg (of_decide_eq_false cc)]
       refine ⟨(show 2<=sizeLine by decide),fun T6 Iw=>cI aA (fh _ _ ⟨?_,aa.upd Iw _⟩)⟩
       rw [e];rfl
     ·rintro σ' H6 ⟨rfl,s6⟩
      have Iz:=s6 _ _ V1
      have MC:=Dp.cv.tk s6.ts
      refine aU (fun σ' H'=>σ'=[some (.ref n),some (.ref d),some (.ref F),some (.str L[i].1),some (.int L[i].2.1),some (.int L[i].2.2),some (.ref c),some (.str mm.2),some (.int (d_ mm.1 L[i].2).1),some (.int (d_ mm.1 L[i].2).2),some (.int (getL LG mm.2).1),some (.int (getL LG mm.2).2)]/\aa H6 H') ?_ ?_
      ·intro vo fh
       refine ⟨F,rfl,.inl ⟨_,.inl Iz⟩,(show 2<=sizeLine by decide),fun T7 Dq=>?_⟩
       have t7:=aa.upd Dq (.tup [.int 0,.int 0])
       have e7:upd H6 T7 (.tup [.int 0,.int 0]) T7=some (.tup [.int 0,.int 0]):=aA
       dsimp only
       generalize upd H6 T7 (.tup [.int 0,.int 0])=H7 at t7 e7
       refine ⟨bx kG (.inr mm.2),dh.k (k:=Sum.inr mm.2) (t7 _ _ Iz),?_⟩
       rcases (MC.tk t7.ts).get mm.2 with ⟨g1,_,g3⟩ | ⟨b',g1,_,g3⟩
       ·rw [g1]
        refine cI (T:=T7) e7 (fh _ _ ⟨?_,t7⟩)
        rw [g3];rfl
       ·rw [g1]
        exact cI (T:=b') g3 (fh _ _ ⟨rfl,t7⟩)
      ·rintro σ' H7 ⟨rfl,s7⟩
       refine ⟨(show 2<=sizeLine by decide),fun T8 Dr=>?_⟩
       have t8:=aa.upd Dr (.tup [.int ((getL LG mm.2).1+(d_ mm.1 L[i].2).1),.int ((getL LG mm.2).2+(d_ mm.1 L[i].2).2)])
       have e8:upd H7 T8 (.tup [.int ((getL LG mm.2).1+(d_ mm.1 L[i].2).1),.int ((getL LG mm.2).2+(d_ mm.1 L[i].2).2)]) T8=some (.tup [.int ((getL LG mm.2).1+(d_ mm.1 L[i].2).1),.int ((getL LG mm.2).2+(d_ mm.1 L[i].2).2)]):=aA
       dsimp only
       generalize upd H7 T8 (.tup [.int ((getL LG mm.2).1+(d_ mm.1 L[i].2).1),.int ((getL LG mm.2).2+(d_ mm.1 L[i].2).2)])=H8 at t8 e8
       have IA:=s7.trans t8
       have p8:=IA _ _ Iz
       have V4:=MC.tk IA.ts
       have YT:=Dp.len
       refine ⟨F,_,rfl,Bm.k (k:=Sum.inr mm.2) p8 (by omega),?_⟩
       have V5:Tk H8 (upd H8 F (.dK (putK kG (.inr mm.2) (.ref T8)))):=(Tk.refl).set p8 fun _ z=>nomatch z
       refine ⟨_,_,_,_,_,_,_,putL LG mm.2 ((getL LG mm.2).1+(d_ mm.1 L[i].2).1,(getL LG mm.2).2+(d_ mm.1 L[i].2).2),rfl,aA,⟨(V4.put mm.2 e8).tk V5,u7 Dp.nd _ _,fun x hx=>?_⟩,fun φ hφ=>?_,((s5.trans s6).trans IA).put hF⟩
       ·have hx':x.1∈(putL LG mm.2 ((getL LG mm.2).1+(d_ mm.1 L[i].2).1,(getL LG mm.2).2+(d_ mm.1 L[i].2).2)).map (·.1):=List.mem_map.mpr ⟨x,hx,rfl⟩
        rw [n6] at hx'
        have old:x.1∈LG.map (·.1)->fu rows ns x.1:=fun h=>by
         obtain ⟨y,hy,e⟩:=List.mem_map.mp h
         rw [<- e];exact Dp.en y hy
        split at hx'
        ·exact old hx'
        ·rcases List.mem_append.mp hx' with h | h
         ·exact old h
         ·rw [List.mem_singleton.mp h];exact A3
       ·have ep:((d_ mm.1 L[i].2).1,(d_ mm.1 L[i].2).2)=d_ mm.1 L[i].2:=rfl
        rw [zF hφ Dp.nd,p3 φ hφ,Dn,Qm,List.sum_append,ep]
        simp
        omega
    ·rintro σ' H4 z0;refine hdn fun Gz9 zG9=>?_;obtain ⟨w6,w7,w8,w9,MA,MB,kG,LG,rfl,p1,p2,p3,p4⟩:=z0;refine zG9 ?_
     refine ⟨_,_,_,_,_,_,_,_,_,kG,LG,rfl,p1,p2,fun φ hφ=>?_,p4⟩
     rw [p3 φ hφ,Qs,Qa Iu,Qm,List.sum_append]
     have:(f_ rows L[i].1).length=(bh rows L[i].1).length:=by simp [f_]
     rw [this,Qo]
     simp [B4]
   ·rintro σ' H2 z0;refine hdn fun Gz9 zG9=>?_;obtain ⟨v3,v4,v5,v6,v7,v8,v9,v10,v11,kF,LF,rfl,q1,q2,q3,q4⟩:=z0;refine zG9 ?_
    refine cy _ _ ⟨v3,v4,v5,v6,v7,v8,v9,v10,v11,kF,LF,rfl,q1,q2,fun φ hφ=>?_,q4⟩
    rw [q3 φ hφ,kl,Qo]
  ·rintro σ' H2 z0;refine hdn fun Gz9 zG9=>?_;obtain ⟨v3,v4,v5,v6,v7,v8,v9,v10,v11,kF,LF,rfl,q1,q2,q3,q4⟩:=z0;refine zG9 ?_
   refine ⟨F,rfl,.inl ⟨kF,.inl q1,fun o'=>?_⟩⟩
   exact k F o' kF LF _ (q4.put hF) aA ⟨q2.cv.tk ((Tk.refl).set q1 fun _ z=>nomatch z),q2.nd,q2.en⟩ q3
def Ds (mg:Str->Option Value):Sp:=fun vs H Q _=>∃ (a:Addr) (xs:List V) (rows:List ae) (ns ws:List Str) (x:Str) (n:Nat),vs=[.ref a,.str x,.int (n:Int)]/\RT H a xs rows ns ws/\(∀ z∈ws,Wd z)/\x∈ns/\Kn mg H "FROM" [.str "from"]/\Kn mg H "TO" [.str "to"]/\n<=1000/\
 ∀ (t:Addr) (H':Hp),aa H H'->H' t=some (.tup [.int (Bn rows n (endOf rows x)).1,.int (Bn rows n (endOf rows x)).2])->Q (.ref t) H'
theorem zC {rows:List ae} {k:Nat} {L L':CL} (h:∀ φ,ze φ->gb φ L'=(L.map (B4 rows φ)).sum):gb (En rows k) L'=gb (En rows (k+1)) L/\gb (On rows k) L'=gb (On rows (k+1)) L:=by
 constructor
 ·rw [h _ (S4 rows k)]
  unfold gb
  congr 1
  exact List.map_congr_left fun x _=>(S6 rows k x.1 x.2).symm
 ·rw [h _ (S5 rows k)]
  unfold gb
  congr 1
  exact List.map_congr_left fun x _=>(S7 rows k x.1 x.2).symm
set_option maxHeartbeats 2000000 in
theorem eG (T:Txt K mg w):be P w K mg base 6 "how_many" ["T","x","n"] (Ds mg):=by
 have A4:AK P w K mg base 4 "Net" (adr mg "Net") ["self","T"] (Di mg):=oZ T
 have o6:be P w K mg base 2 "counted_on" ["net","many"] (Mz mg):=mE T
 have cl:=T.qp.2.1
 have na:=T.qp.2.2.1
 refine T.tG.fg dB (fun vs H Q E h=>?_) (fun f av A outer s H vs Q E hr h=>?_)
 ·refine hdn fun Gz9 zG9=>?_;obtain ⟨a,xs,rows,ns,ws,x,n,rfl,_⟩:=h;refine zG9 ?_
  rfl
 ·refine hdn fun Gz9 zG9=>?_;obtain ⟨a,xs,rows,ns,ws,x,nn,rfl,rt,hw,hx,kf,kt,hn1,k⟩:=h;refine zG9 ?_
  have hu:=bB hr
  have dm:=Qx (bB hr)
  have hsz:sizeLine=16777216:=QL
  have few:=rt.few
  refine ⟨_,(aE (aR (i:=3) dB.nd rfl (Or.inl rfl) (pE A4 (hr.mono (by decide)) (aD (zv 0) aC)))
   (aE (aR (i:=4) dB.nd rfl (Or.inl rfl) (iO (Rp (zI (cE hu (e9 K (zv 3)) (zv 1) (fun _ _=>rfl)) (aO (aB aK (aB aK aC))) Ro) rfl rfl (by simp) (by decide))))
   (aE (d9 PassesOwn.never rfl (dA (by rfl) T.d6 (aD (zv 2) aC)) (aJ (i:=5) dB.nd rfl (Or.inl rfl)) (aH (aR (i:=4) dB.nd rfl (Or.inl rfl) (bF o6 (hr.mono (by decide)) (aD (zv 3) (aD (zv 4) aC))))))
   (aH (aZ (aO (aY (bC (mW K rfl) (by rfl) T.AQ PyProof.Rows.boot_sum (cC (jJ (own:=["even","odd"]) (idx:=[]) (N':=["even","odd"]) (bZ (az dQ) (["T","x","n","net","many","turn"]:List Str) (by decide+kernel)) rfl (uI (zv 4)) (fun _ _ _ _ _ _=>(bM K (n:=2) rfl (aL (aJ (i:=0) (show List.Nodup (["even","odd"]:List Str) by decide+kernel) rfl (Or.inl rfl)) (aL (aJ (i:=1) (show List.Nodup (["even","odd"]:List Str) by decide+kernel) rfl (Or.inl rfl)) bD)))) (fun _ _ _ _ _ _=>cS) (fun _ _ _ _ _ _=>(zv 0))) aC)) (aY (bC (mW K rfl) (by rfl) T.AQ PyProof.Rows.boot_sum (cC (jJ (own:=["even","odd"]) (idx:=[]) (N':=["even","odd"]) (bZ (az dQ) (["T","x","n","net","many","turn"]:List Str) (by decide+kernel)) rfl (uI (zv 4)) (fun _ _ _ _ _ _=>(bM K (n:=2) rfl (aL (aJ (i:=0) (show List.Nodup (["even","odd"]:List Str) by decide+kernel) rfl (Or.inl rfl)) (aL (aJ (i:=1) (show List.Nodup (["even","odd"]:List Str) by decide+kernel) rfl (Or.inl rfl)) bD)))) (fun _ _ _ _ _ _=>cS) (fun _ _ _ _ _ _=>(zv 1))) aC)) aC)))))))),?_⟩
  refine aN fun n dn hn jm ne=>?_
  have s0:aa H (upd (upd H dn (.own n)) n (.ins (adr mg "Net") dn [])):=(aa.upd jm _).trans (aa.upd (by rw [aF ne.symm];exact hn) _)
  refine ⟨n,dn,a,xs,rows,ns,ws,rfl,aA,rt.tk s0.ts,hw,kf.same s0,kt.same s0,fun H2 vy sx=>⟨rfl,?_⟩⟩
  have s2:aa H H2:=fun b o e=>sx b o (fun z=>by rw [z,hn] at e;cases e) (s0 b o e)
  obtain ⟨dx,fs,en,V6⟩:=id vy
  obtain ⟨d1,o1,a1,a2⟩:=V6.rws
  have ef:=rt.stay hw hx
  refine aN fun D hD=>?_
  have s3:=aa.upd hD (.dK [])
  refine ⟨n,adr mg "Net",dx,fs,.ref d1,rfl,s3 _ _ en,cl,na "rows" (by simp),a1,d1,.str (endOf rows x),rfl,?_,(show 2<=sizeLine by decide),fun T0 Du=>?_⟩
  ·rw [<- gQ rt.jv (rt.nm.mem_iff.mpr hx)]
   exact dh.rd (k:=Sum.inr x) (.inr ⟨o1,s3 _ _ a2⟩)
  generalize endOf rows x=e at ef k
  have s4:=aa.upd Du (.tup [.int 1,.int 0])
  have e4:upd (upd H2 D (.dK [])) T0 (.tup [.int 1,.int 0]) T0=some (.tup [.int 1,.int 0]):=aA
  have eD:upd (upd H2 D (.dK [])) T0 (.tup [.int 1,.int 0]) D=some (.dK []):=s4 _ _ aA
  generalize upd (upd H2 D (.dK [])) T0 (.tup [.int 1,.int 0])=H4 at s4 e4 eD
  have xf:aa H2 H4:=s3.trans s4
  refine ⟨eD,[(.inr e,.ref T0)],rfl,(show 1<=15 by decide),D,rfl,.inl ⟨_,.inl aA,fun o=>?_⟩⟩
  have MD:T0≠D:=fun z=>by rw [z,eD] at e4;cases e4
  have Dv:aa H2 (upd (upd H4 D (.dK (qf [] [(.inr e,.ref T0)]))) D (.af o (.dK (qf [] [(.inr e,.ref T0)])))):=(xf.put hD).put hD
  have e5:upd (upd H4 D (.dK (qf [] [(.inr e,.ref T0)]))) D (.af o (.dK (qf [] [(.inr e,.ref T0)]))) D=some (.af o (.dK [(.inr e,.ref T0)])):=aA
  have t5:upd (upd H4 D (.dK (qf [] [(.inr e,.ref T0)]))) D (.af o (.dK (qf [] [(.inr e,.ref T0)]))) T0=some (.tup [.int 1,.int 0]):=by rw [aF MD,aF MD];exact e4
  generalize upd (upd H4 D (.dK (qf [] [(.inr e,.ref T0)]))) D (.af o (.dK (qf [] [(.inr e,.ref T0)])))=H5 at Dv e5 t5
  have s5:=s2.trans Dv
  have V7:=vy.same Dv
  refine aU (fun σ' H'=>∃ (v5:Option V) (d:Addr) (o:Obj) (kvs:List (Key×V)) (L:CL),σ'=[some (.ref a),some (.str x),some (.int (nn:Int)),some (.ref n),some (.ref d),v5]/\H' d=some (.af o (.dK kvs))/\vt rows ns H' kvs L/\gb (En rows 0) L=(Bn rows nn e).1/\gb (On rows 0) L=(Bn rows nn e).2/\aa H5 H') ?_ ?_
  ·intro nx cy
   refine ⟨(nn:Int),rfl,by omega,by omega,?_⟩
   refine cT (cQ 0 _) (fun i σ' H'=>∃ (v5:Option V) (d:Addr) (o:Obj) (kvs:List (Key×V)) (L:CL),σ'=[some (.ref a),some (.str x),some (.int (nn:Int)),some (.ref n),some (.ref d),v5]/\H' d=some (.af o (.dK kvs))/\vt rows ns H' kvs L/\gb (En rows (nn - i)) L=(Bn rows nn e).1/\gb (On rows (nn - i)) L=(Bn rows nn e).2/\aa H5 H')
    ⟨none,D,o,_,[(e,(1,0))],rfl,e5,⟨.cons ⟨rfl,T0,rfl,t5⟩ .nil,by simp,fun y hy=>by rw [List.mem_singleton.mp hy];exact ef⟩,by simp [gb,En],by simp [gb,On],aa.refl _⟩ (fun _ _ _ _ _=>trivial) ?_ ?_
   ·rintro i σ' H6 hi z0;refine hdn fun Gz9 zG9=>?_;obtain ⟨v5,d,o',kvs,L,rfl,q1,q2,q3,q4,q5⟩:=z0;refine zG9 ?_
    have oi:i < nn:=by simpa using hi
    refine ⟨n,d,a,o',xs,rows,ns,ws,kvs,L,rfl,V7.same q5,rt.tk (s5.trans q5).ts,hw,kf.same (s5.trans q5),q1,q2,fun F oF kF LF H7 s7 f1 f2 f3=>?_⟩
    have ek:nn - i=(nn - (i+1))+1:=by omega
    have tn:=zC (k:=nn - (i+1)) f3
    rw [ek] at q3 q4
    exact ⟨_,F,oF,kF,LF,rfl,f1,f2,by rw [tn.1];exact q3,by rw [tn.2];exact q4,q5.trans s7⟩
   ·rintro σ' H6 z0;refine hdn fun Gz9 zG9=>?_;obtain ⟨v5,d,o',kvs,L,rfl,q1,q2,q3,q4,q5⟩:=z0;refine zG9 ?_
    have ez:nn - (nn:Int).toNat=0:=by simp
    rw [ez] at q3 q4
    exact cy _ _ ⟨v5,d,o',kvs,L,rfl,q1,q2,q3,q4,q5⟩
  ·rintro σ' H6 z0;refine hdn fun Gz9 zG9=>?_;obtain ⟨v5,d,o',kvs,L,rfl,q1,q2,q3,q4,q5⟩:=z0;refine zG9 ?_
   rw [S8] at q3
   rw [S9] at q4
   have kl:kvs.length=L.length:=Paired.length q2.cv
   have YU:=q2.len
   have vals:∀ {H':Hp} (i:Nat) (h:i < kvs.length),aa H6 H'->∃ b,valAt kvs i=.ref b/\H' b=some (.tup [.int (L[i]'(by omega)).2.1,.int (L[i]'(by omega)).2.2]):=fun i h s=>by
    obtain ⟨ke,b,vb,hb⟩:=Paired.at q2.cv i h (by omega)
    exact ⟨b,by unfold valAt;rw [Qa h];exact vb,s _ _ hb⟩
   refine ⟨d,kvs,rfl,.inl ⟨o',q1,fun D1 ME=>?_⟩⟩
   refine eW (rE kvs) (fun i τ H7=>∃ v0 v1:Option V,τ=[v0,v1]/\H7 D1=some (.lst (((L.take i).map fun x=>x.2.1).map V.int))/\aa H6 H7) ⟨none,none,rfl,aA,aa.upd ME _⟩ (by rintro i τ H7 _ ⟨_,_,_,_,s⟩;exact s _ _ q1) ?_ ?_
   ·rintro i τ H7 hi ⟨v0,v1,rfl,p1,p2⟩
    obtain ⟨b,eb,hb⟩:=vals i hi p2
    rw [eb]
    have Dh:i < L.length:=by omega
    refine cI hb ⟨_,p1,by simp;omega,_,_,rfl,?_,p2.put ME⟩
    rw [Qs,Qa Dh]
    simp only [Option.toList_some,Qm,List.map_cons,List.map_nil]
    exact aA
   ·rintro τ H7 ⟨v0,v1,rfl,p1,p2⟩
    rw [kl,Qo] at p1
    refine ⟨_,ak.of p1,?_⟩
    rw [q3]
    refine ⟨d,kvs,rfl,.inl ⟨o',p2 _ _ q1,fun D2 jg=>?_⟩⟩
    refine eW (rE kvs) (fun i τ H8=>∃ v0 v1:Option V,τ=[v0,v1]/\H8 D2=some (.lst (((L.take i).map fun x=>x.2.2).map V.int))/\aa H7 H8) ⟨none,none,rfl,aA,aa.upd jg _⟩ (by rintro i τ H8 _ ⟨_,_,_,_,s⟩;exact s _ _ (p2 _ _ q1)) ?_ ?_
    ·rintro i τ H8 hi ⟨v0,v1,rfl,r1,r2⟩
     obtain ⟨b,eb,hb⟩:=vals i hi (p2.trans r2)
     rw [eb]
     have Dh:i < L.length:=by omega
     refine cI hb ⟨_,r1,by simp;omega,_,_,rfl,?_,r2.put jg⟩
     rw [Qs,Qa Dh]
     simp only [Option.toList_some,Qm,List.map_cons,List.map_nil]
     exact aA
    ·rintro τ H8 ⟨v0,v1,rfl,r1,r2⟩
     rw [kl,Qo] at r1
     refine ⟨_,ak.of r1,?_⟩
     rw [q4]
     exact ⟨(show 2<=sizeLine by decide),fun t ht=>k t _ ((((s5.trans q5).trans p2).trans r2).trans (aa.upd ht _)) aA⟩
theorem dO (l:List α) (i:Nat) (h:i < l.length):l.take (i+1)=l.take i++[l[i]]:=by rw [Qs,Qa h];rfl
theorem qG {l:List ae} (nd:(l.map (·.1)).Nodup) (i:Nat) (h:i < l.length):l[i].1 ∉ (l.take i).map (·.1):=fun hm=>by
 obtain ⟨r,hr,e⟩:=List.mem_map.mp hm
 obtain ⟨j,hj,rfl⟩:=Qi hr
 have oq:j < i:=by simp at hj;omega
 rw [List.getElem_take] at e
 have:=List.pairwise_iff_getElem.mp nd j i (by simp;omega) (by simpa using h) oq
 simp only [Qr] at this
 exact this e
def ir (rows:List ae) (j:Nat):List ae:=(bc rows).filter fun r=>decide (allR rows j r.1≠[])
def ff (rows:List ae) (j:Nat):List (Key×V):=(ir rows j).map fun r=>((.inr r.1:Key),.bl true)
theorem j0 (rows:List ae):ir rows 0=bc rows:=by
 unfold ir
 rw [List.filter_eq_self]
 intro r _
 rw [bK];simp
theorem vW (rows:List ae) (j:Nat):(ir rows j).filter (fun r=>decide (allR rows (j+1) r.1≠[]))=ir rows (j+1):=by
 unfold ir
 rw [List.filter_filter]
 refine List.filter_congr fun r _=>?_
 by_cases h:allR rows (j+1) r.1=[]
 ·simp [h]
 ·simp [h,mL rows j r.1 h]
theorem uT {rows:List ae} (nd:((bc rows).map (·.1)).Nodup) (j:Nat):((ir rows j).map (·.1)).Nodup:=nd.sublist (List.filter_sublist.map _)
theorem wV {l:List ae} (nd:(l.map (·.1)).Nodup):((l.map fun r=>((.inr r.1:Key),V.bl true)).map (·.1)).Nodup:=by
 rw [Qn]
 have e:l.map ((fun x:Key×V=>x.1)∘fun r=>((.inr r.1:Key),V.bl true))=(l.map (·.1)).map (Sum.inr:Str->Key):=by simp [Qn,QB]
 rw [e]
 exact List.pairwise_map.mpr (nd.imp fun h e=>h (Sum.inr.inj e))
theorem nH {rows:List ae} (hr:∀ e,fu rows ns e->(e,gr rows e)∈bc rows) (j:Nat) {e:Str} (he:fu rows ns e):(bx (ff rows j) (.inr e)).isSome=decide (allR rows j e≠[]):=by
 have h1:=hr e he
 rw [Bool.eq_iff_iff,<- d8,List.any_eq_true,decide_eq_true_iff]
 constructor
 ·rintro ⟨kv,ve,hk⟩
  obtain ⟨r,fb,rfl⟩:=List.mem_map.mp ve
  have:=(List.mem_filter.mp fb).2
  have e1:r.1=e:=Sum.inr.inj (Qt hk)
  rw [e1] at this
  exact Qt this
 ·intro h
  exact ⟨(.inr e,.bl true),List.mem_map.mpr ⟨(e,gr rows e),List.mem_filter.mpr ⟨h1,Qv h⟩,rfl⟩,Qv rfl⟩
structure xg (rows:List ae) (H:Hp) (ds:List V) (n:Nat):Prop where
 len:ds.length=n
 at_:∀ j (h:j < ds.length),∃ d o,ds[j]=.ref d/\H d=some (.af o (.dK (ff rows j)))
theorem xg.same {rows:List ae} {ds:List V} (h:xg rows H ds n) (s:∀ b q u,H b=some (.af q u)->H' b=some (.af q u)):xg rows H' ds n:=⟨h.len,fun j a=>let ⟨d,o,h1,h2⟩:=h.at_ j a;⟨d,o,h1,s _ _ _ h2⟩⟩
theorem xg.snoc {rows:List ae} {ds:List V} (h:xg rows H ds n) {d:Addr} (e:H d=some (.af o (.dK (ff rows n)))):xg rows H (ds++[.ref d]) (n+1):=by
 have hl:=h.len
 refine ⟨by simp [hl],fun j hj=>?_⟩
 by_cases aq:j < ds.length
 ·rw [Qe aq];exact h.at_ j aq
 ·have ej:j=ds.length:=by simp at hj;omega
  subst ej
  rw [Qf (Qy _)]
  simp only [Nat.sub_self,List.getElem_cons_zero]
  exact ⟨d,o,rfl,by rw [hl];exact e⟩
def IB (mg:Str->Option Value):Sp:=fun vs H Q _=>∃ (n a:Addr) (xs:List V) (rows:List ae) (ns ws:List Str) (k:Nat),vs=[.ref n,.int (k:Int)]/\BC H (adr mg "Net") n rows/\RT H a xs rows ns ws/\(∀ z∈ws,Wd z)/\k<=1000/\
 ∀ (L:Addr) (ds:List V) (H':Hp),H L=none->aa H H'->H' L=some (.lst ds)->xg rows H' ds (k+1)->Q (.ref L) H'
set_option maxHeartbeats 4000000 in
theorem fB (T:Txt K mg w):be P w K mg base 2 "rows_by_reach" ["net","n"] (IB mg):=by
 have cl:=T.qp.2.1
 have na:=T.qp.2.2.1
 refine T.k8.fg cG (fun vs H Q E h=>?_) (fun f av A outer s H vs Q E hr h=>?_)
 ·refine hdn fun Gz9 zG9=>?_;obtain ⟨n,a,xs,rows,ns,ws,k,rfl,_⟩:=h;refine zG9 ?_
  rfl
 ·refine hdn fun Gz9 zG9=>?_;obtain ⟨n,a,xs,rows,ns,ws,nn,rfl,vy,rt,hw,hn1,k⟩:=h;refine zG9 ?_
  have hu:=bB hr
  have dm:=Qx (bB hr)
  have hsz:sizeLine=16777216:=QL
  have few:=rt.few
  have AI:=rt.rl
  have wz:=rt.wz
  have VL:(bc rows).length<=14:=by have:=List.length_filter_le (fun r:ae=>r.2.nx.isNone) rows;unfold bc;omega
  have V8:∀ j,(ir rows j).length<=14:=fun j=>by have:=List.length_filter_le (fun r:ae=>decide (allR rows j r.1≠[])) (bc rows);unfold ir;omega
  refine hdn fun Gz9 zG9=>?_;obtain ⟨dx,fs,en,⟨_,_,_,⟨d4,o4,k4,e1,e2,e3⟩⟩⟩:=vy;refine zG9 ?_
  generalize adr mg "Net"=C at*
  have look:∀ e,fu rows ns e->∃ m o,dh H d4 (.str e) (some (.ref m))/\H m=some (.af o (.dT (f_ rows e))):=fun e he=>by
   obtain ⟨v,h1,m,o,rfl,h2⟩:=e3.get rt.wz (rt.zd hw he).1
   refine ⟨m,o,by rw [<- h1];exact dh.rd (k:=Sum.inr e) (.inr ⟨o4,e2⟩),?_⟩
   rw [jI he.2] at h2
   exact h2
  have IC:∀ e,fu rows ns e->(e,gr rows e)∈bc rows:=fun e he=>(rt.zd hw he).1
  have V9:∀ r∈bc rows,fu rows ns r.1:=fun r hr=>by
   have h1:=List.mem_filter.mp hr
   refine ⟨rt.nm.mem_iff.mp (List.mem_map.mpr ⟨_,h1.1,rfl⟩),cO _ ?_⟩
   show (gr rows _).nx=none
   rw [dP rt.jv h1.1]
   exact Option.isNone_iff_eq_none.mp h1.2
  refine ⟨_,(aE (aR (i:=2) cG.nd rfl (Or.inl rfl) (bL (jV (iO (wB (own:=["row"]) (idx:=[]) (N':=["row"]) (bZ (az bT) (["net","n","reach","turn","near"]:List Str) (by decide+kernel)) rfl (qO (e9 K (zv 0))) (fun _ _ _ _ _ _=>(aJ (i:=0) (show List.Nodup (["row"]:List Str) by decide+kernel) rfl (Or.inl rfl))) (fun _ _ _ _ _ _=>cS) (fun _ _ _ _ _ _=>(zv 0)) (fun _ _ _ _ _ _=>iX))) aC)))
   (aE (d9 PassesOwn.never rfl (dA (by rfl) T.d6 (aD (zv 1) aC)) (aJ (i:=3) cG.nd rfl (Or.inl rfl)) (aE (aR (i:=4) cG.nd rfl (Or.inr rfl) (bH (bG K) (zv 2) (Kc x9 aK) (fun _ _=>rfl)))
   (aH (iB (rT K QH QJ QK cP (zv 2) (jV (iO (wB (own:=["row"]) (idx:=[0,4]) (N':=["row","net","near"]) (bZ (az bT) (["net","n","reach","turn","near"]:List Str) (by decide+kernel)) rfl (qO (zv 4)) (fun _ _ _ _ _ _=>(aJ (i:=0) (show List.Nodup (["row","net","near"]:List Str) by decide+kernel) rfl (Or.inl rfl))) (fun _ _ _ _ _ _=>(pX (jW (bC (vN K rfl) (by rfl) T.U4 PyProof.Rows.boot_any (cC (jJ (own:=["end"]) (idx:=[2]) (N':=["end","near"]) (⟨rfl,by decide+kernel,by decide+kernel,(by intro y hy hf;simp only [Qp,QA,or_false] at hy;(repeat' (first | (rcases hy with rfl | hy) | subst hy));all_goals (first | (cases hf;done) | exact Or.inr rfl | exact Or.inl rfl)),(show ∀ j∈([2]:List Nat),(Scope.names _).lookup ((["row","net","near"]:List Str).getD j "")=some NameKind.free/\j < (["row","net","near"]:List Str).length by decide+kernel),rfl⟩) rfl (xN (cE hu (e9 K (zv 1)) (zv 0) (fun _ _=>rfl))) (fun _ _ _ _ _ _=>(aJ (i:=0) (show List.Nodup (["end","near"]:List Str) by decide+kernel) rfl (Or.inl rfl))) (fun _ _ _ _ _ _=>cS) (fun _ _ _ _ _ _=>(rW (sX hu) (zv 0) (zv 1) rfl))) aC))))) (fun _ _ _ _ _ _=>(zv 0)) (fun _ _ _ _ _ _=>iX))) aC))))))
   (aH (aZ (zv 2))))),?_⟩
  have YV:=e3.len
  refine aN ⟨n,C,dx,fs,.ref d4,rfl,en,cl,na "moves" (by simp),e1,d4,k4,o4,rfl,e2,fun D hD=>?_⟩
  refine yB (kU k4) (fun i τ H2=>∃ v0:Option V,τ=[v0]/\H2 D=some (.dK ((ff rows 0).take i))/\aa H H2) ⟨none,rfl,aA,aa.upd hD _⟩ (by rintro i τ H2 _ ⟨_,_,_,s⟩;exact s _ _ e2) ?_ ?_
  ·rintro i τ H2 hi ⟨v0,rfl,q1,q2⟩
   have iy:i < (bc rows).length:=by omega
   have ek:iz k4 i=.str (bc rows)[i].1:=by
    unfold iz
    rw [Qa hi]
    show kV k4[i].1=_
    rw [(e3.at_ i hi iy).1];rfl
   rw [ek]
   have il:i < (ff rows 0).length:=by unfold ff;rw [j0,Ql];exact iy
   have em:(ff rows 0)[i]=(.inr (bc rows)[i].1,.bl true):=by unfold ff;simp [j0]
   have pk:=uC (kvs:=ff rows 0) (wV (uT wz 0)) il
   rw [em] at pk
   refine ⟨(ff rows 0).take i,.inr (bc rows)[i].1,rfl,q1,by simp;omega,_,rfl,?_,q2.put hD⟩
   rw [pk];exact aA
  ·rintro τ H2 ⟨v0,rfl,q1,q2⟩
   have tl:(ff rows 0).take k4.length=ff rows 0:=by
    rw [List.take_of_length_le]
    unfold ff;rw [j0,Ql];omega
   rw [tl] at q1
   refine ⟨D,rfl,.inl ⟨_,.inl q1,fun o0=>⟨(show 1<=sizeLine by decide),fun L hL=>?_⟩⟩⟩
   have V_:L≠D:=fun z=>by rw [z,aA] at hL;cases hL
   have s3:aa H (upd (upd H2 D (.af o0 (.dK (ff rows 0)))) L (.lst [.ref D])):=(q2.put hD).trans (aa.upd hL _)
   have Fx:H L=none:=(q2.put hD:aa H _).free hL
   have eL:upd (upd H2 D (.af o0 (.dK (ff rows 0)))) L (.lst [.ref D]) L=some (.lst [.ref D]):=aA
   have eD:upd (upd H2 D (.af o0 (.dK (ff rows 0)))) L (.lst [.ref D]) D=some (.af o0 (.dK (ff rows 0))):=by rw [aF V_.symm];exact aA
   dsimp only
   generalize upd (upd H2 D (.af o0 (.dK (ff rows 0)))) L (.lst [.ref D])=H3 at s3 eL eD
   have ra:xg rows H3 [.ref D] 1:=⟨rfl,fun j hj=>by
    have:j=0:=by simp at hj;omega
    subst this
    exact ⟨D,o0,rfl,eD⟩⟩
   refine aU (fun σ' H'=>∃ (v3 v4:Option V) (ds:List V),σ'=[some (.ref n),some (.int (nn:Int)),some (.ref L),v3,v4]/\H' L=some (.lst ds)/\xg rows H' ds (nn+1)/\aa H H') ?_ ?_
   ·intro nx cy
    refine ⟨(nn:Int),rfl,by omega,by omega,?_⟩
    refine cT (cQ 0 _) (fun t σ' H'=>∃ (v3 v4:Option V) (ds:List V),σ'=[some (.ref n),some (.int (nn:Int)),some (.ref L),v3,v4]/\H' L=some (.lst ds)/\xg rows H' ds (t+1)/\aa H H')
     ⟨none,none,[.ref D],rfl,eL,ra,s3⟩ (fun _ _ _ _ _=>trivial) ?_ ?_
    ·rintro t σ' H4 ht ⟨v3,v4,ds,rfl,g1,g2,g3⟩
     have YW:t < nn:=by simpa using ht
     have dl:=g2.len
     obtain ⟨d,o,ed,hd⟩:=g2.at_ t (by omega)
     have Wa:ds=ds.take t++[.ref d]:=by
      have:=List.take_append_drop t ds
      rw [QM (by omega),ed,List.drop_eq_nil_of_le (by omega)] at this
      exact this.symm
     refine aN ⟨_,rfl,ds,.ref d,.inl (ak.of g1),by rw [Wa];exact y3 _ _,?_⟩
     refine ⟨.inl ⟨rfl,_,ak.of g1⟩,d,ff rows t,o,rfl,hd,fun D2 jg=>?_⟩
     have MF:D2≠L:=fun z=>by rw [z,g1] at jg;cases jg
     have rl:(ff rows t).length=(ir rows t).length:=by unfold ff;simp
     refine yB (kU (ff rows t)) (fun i τ H5=>∃ v0:Option V,τ=[v0,some (.ref n),some (.ref d)]/\H5 D2=some (.dK ((((ir rows t).take i).filter fun r=>decide (allR rows (t+1) r.1≠[])).map fun r=>((.inr r.1:Key),.bl true)))/\aa H4 H5) ⟨none,rfl,aA,aa.upd jg _⟩ (by rintro i τ H5 _ ⟨_,_,_,s⟩;exact s _ _ hd) ?_ ?_
     ·rintro i τ H5 hi ⟨v0,rfl,p1,p2⟩
      have ID:i < (ir rows t).length:=by omega
      have ek:iz (ff rows t) i=.str (ir rows t)[i].1:=by
       unfold iz
       rw [Qa hi]
       simp [ff,kV]
      rw [ek]
      have qg:(ir rows t)[i]∈bc rows:=(List.mem_filter.mp (Qj ID)).1
      have he:=V9 _ qg
      have fl:=V8 t
      have Dw:=dO (ir rows t) i ID
      have Bk:(ir rows t)[i].1 ∉ ((ir rows t).take i).map (·.1):=qG (uT wz t) i ID
      generalize (ir rows t)[i]=r0 at he Dw Bk
      obtain ⟨m,om,l1,l2⟩:=look _ he
      have Fy:=g3.trans p2
      refine ⟨n,C,dx,fs,.ref d4,rfl,Fy _ _ en,cl,na "moves" (by simp),e1,d4,.ref m,rfl,l1.same Fy,m,f_ rows r0.1,om,rfl,Fy _ _ l2,fun L6 MG=>?_⟩
      have oe:(f_ rows r0.1).length=(bh rows r0.1).length:=by simp [f_]
      have VY:=rt.KP hw he.1
      refine eW (wD (f_ rows r0.1)) (fun j τ H6=>∃ v0:Option V,τ=[v0,some (.ref d)]/\H6 L6=some (.lst ((((bh rows r0.1).take j).map fun m=>decide (allR rows t m.2≠[])).map V.bl))/\aa H5 H6) ⟨none,rfl,aA,aa.upd MG _⟩ (by rintro j τ H6 _ ⟨_,_,_,s⟩;exact s _ _ (Fy _ _ l2)) ?_ ?_
      ·rintro j τ H6 hj ⟨Wb,rfl,r1,r2⟩
       have Ad:j < (bh rows r0.1).length:=by omega
       have ev:BH (f_ rows r0.1) j=.str (bh rows r0.1)[j].2:=by
        unfold BH
        rw [Qa hj]
        simp [f_]
       rw [ev]
       have Dn:=dO (bh rows r0.1) j Ad
       obtain ⟨_,A3⟩:=rt.CN hw he (Qj Ad)
       generalize (bh rows r0.1)[j]=mm at Dn A3
       refine ⟨d,bx (ff rows t) (.inr mm.2),rfl,dh.rd (k:=Sum.inr mm.2) (.inr ⟨o,(p2.trans r2) _ _ hd⟩),_,r1,by simp;omega,_,rfl,?_,r2.put MG⟩
       rw [nH IC t A3,Dn,QE]
       simp only [Qm,List.map_cons,List.map_nil]
       exact aA
      ·rintro τ H6 ⟨Wb,rfl,r1,r2⟩
       rw [oe,Qo] at r1
       refine ⟨_,ak.of r1,_,rfl,?_⟩
       have ea:(((bh rows r0.1).map fun m=>decide (allR rows t m.2≠[])).any id)=decide (allR rows (t+1) r0.1≠[]):=by
        rw [wX,List.any_map];rfl
       rw [ea]
       have p6:=r2 _ _ p1
       refine dz (fun cc=>?_) (fun cc=>?_)
       ·refine ⟨_,.inr r0.1,rfl,p6,?_,_,rfl,?_,(p2.trans r2).put jg⟩
        ·have:=List.length_filter_le (fun r:ae=>decide (allR rows (t+1) r.1≠[])) ((ir rows t).take i)
         simp at this ⊢
         omega
        ·rw [L2.dZ _ (by
          cases ez:bx ((((ir rows t).take i).filter fun r=>decide (allR rows (t+1) r.1≠[])).map fun r=>((.inr r.1:Key),V.bl true)) (.inr r0.1) with
          | none=>rfl
          | some v=>
           obtain ⟨kv,ve,e⟩:=List.mem_map.mp (oS ez)
           obtain ⟨r,fb,rfl⟩:=List.mem_map.mp ve
           exact absurd (List.mem_map.mpr ⟨r,(List.mem_filter.mp fb).1,Sum.inr.inj e⟩) Bk),Dw,List.filter_append,List.filter_cons,if_pos cc,Qm]
         exact aA
       ·refine ⟨_,rfl,?_,p2.trans r2⟩
        rw [Dw,List.filter_append,List.filter_cons,if_neg (by rw [cc];decide)]
        simpa using p6
     ·rintro τ H5 ⟨v0,rfl,p1,p2⟩
      have el:((((ir rows t).take (ff rows t).length).filter fun r=>decide (allR rows (t+1) r.1≠[])).map fun r=>((.inr r.1:Key),V.bl true))=ff rows (t+1):=by
       rw [rl,Qo,vW];rfl
      rw [el] at p1
      refine ⟨D2,rfl,.inl ⟨_,.inl p1,fun o2=>?_⟩⟩
      have Fi:H D2=none:=g3.free jg
      have fz:∀ b q u,H4 b=some (.af q u)->upd (upd H5 D2 (.af o2 (.dK (ff rows (t+1))))) L (.lst (ds++[.ref D2])) b=some (.af q u):=fun b q u e=>by
       rw [aF (fun z=>by rw [z,g1] at e;cases e),aF (fun z=>by rw [z,jg] at e;cases e)]
       exact p2 _ _ e
      have g5:upd H5 D2 (.af o2 (.dK (ff rows (t+1)))) L=some (.lst ds):=by rw [aF MF.symm];exact p2 _ _ g1
      refine ⟨L,ds,.ref D2,rfl,rfl,g5,by omega,_,_,ds++[.ref D2],rfl,aA,(g2.same fz).snoc (d:=D2) (o:=o2) (by rw [aF MF];exact aA),((g3.trans p2).put Fi).put Fx⟩
    ·rintro σ' H4 ⟨v3,v4,ds,rfl,g1,g2,g3⟩
     have ez:(nn:Int).toNat=nn:=by simp
     rw [ez] at g2
     exact cy _ _ ⟨v3,v4,ds,rfl,g1,g2,g3⟩
   ·rintro σ' H4 ⟨v3,v4,ds,rfl,g1,g2,g3⟩
    exact k L ds H4 Fx g3 g1 g2
def IE (mg:Str->Option Value):Sp:=fun vs H Q _=>∃ (a:Addr) (xs:List V) (rows:List ae) (ns ws:List Str) (x:Str) (n:Nat),vs=[.ref a,.str x,.int (n:Int)]/\RT H a xs rows ns ws/\(∀ z∈ws,Wd z)/\x∈ns/\Kn mg H "FROM" [.str "from"]/\Kn mg H "TO" [.str "to"]/\n<=1000/\(allR rows n (endOf rows x)).length<=1000/\
 ∀ (L:Addr) (us:List V) (H':Hp),H L=none->aa H H'->H' L=some (.lst us)->RL H' us (allR rows n (endOf rows x))->Q (.ref L) H'
theorem qR (rows:List ae):∀ (n:Nat) (e:Str),∀ r∈allR rows n e,r.length=n
 | 0,e,r,h=>by rw [bK] at h;rw [List.mem_singleton.mp h];rfl
 | n+1,e,r,h=>by
  rw [bU] at h
  obtain ⟨m,_,h2⟩:=List.mem_flatMap.mp h
  obtain ⟨q,h3,rfl⟩:=List.mem_map.mp h2
  simp [qR rows n _ q h3]
set_option maxHeartbeats 4000000 in
theorem rN (T:Txt K mg w):be P w K mg base 7 "roads" ["T","x","n"] (IE mg):=by
 have A4:AK P w K mg base 4 "Net" (adr mg "Net") ["self","T"] (Di mg):=oZ T
 have cD:be P w K mg base 6 "how_many" ["T","x","n"] (Ds mg):=eG T
 have dC:be P w K mg base 2 "rows_by_reach" ["net","n"] (IB mg):=fB T
 have cl:=T.qp.2.1
 have na:=T.qp.2.2.1
 refine T.uG.fg bS (fun vs H Q E h=>?_) (fun f av A outer s H vs Q E hr h=>?_)
 ·refine hdn fun Gz9 zG9=>?_;obtain ⟨a,xs,rows,ns,ws,x,n,rfl,_⟩:=h;refine zG9 ?_
  rfl
 ·refine hdn fun Gz9 zG9=>?_;obtain ⟨a,xs,rows,ns,ws,x,nn,rfl,rt,hw,hx,kf,kt,hn1,jr,k⟩:=h;refine zG9 ?_
  have hu:=bB hr
  have dm:=Qx (bB hr)
  have hsz:sizeLine=16777216:=QL
  have few:=rt.few
  refine ⟨_,(aE (cZ (aX j8 (bC (eQ K rfl) (by rfl) T.AQ PyProof.Rows.boot_sum (aY (bF cD (hr.mono (by decide)) (aD (zv 0) (aD (zv 1) (aD (zv 2) aC)))) aC)) (pJ T.fE) (eu _)) (aH zO) bJ)
   (aE (aR (i:=3) bS.nd rfl (Or.inr rfl) (pE A4 (hr.mono (by decide)) (aD (zv 0) aC)))
   (aE (aR (i:=4) bS.nd rfl (Or.inr rfl) (bF dC (hr.mono (by decide)) (aD (zv 3) (aD (zv 2) aC))))
   (aE (aR (i:=5) bS.nd rfl (Or.inl rfl) (bL (aG (aO (aG (aO aC) (aQ (cE hu (e9 K (zv 3)) (zv 1) (fun _ _=>rfl)) aC))) aC)))
   (aE (d9 PassesOwn.never rfl (mS (by rfl) T.lT (by rfl) T.d6 (aD (zv 2) aC)) (aJ (i:=6) bS.nd rfl (Or.inr rfl)) (aH (K0 (i:=5) (own:=["road","row","step","end"]) (idx:=[3,4,6]) (N':=["road","row","step","end","net","reach","left"]) (bZ (az fH) (["T","x","n","net","reach","found","left"]:List Str) (by decide+kernel)) rfl (nM K (zv 5)) (fun _ _ _ _ _ _=>(bM K (n:=2) rfl (aL (aJ (i:=0) (show List.Nodup (["road","row","step","end","net","reach","left"]:List Str) by decide+kernel) rfl (Or.inl rfl)) (aL (aJ (i:=1) (show List.Nodup (["road","row","step","end","net","reach","left"]:List Str) by decide+kernel) rfl (Or.inl rfl)) bD)))) (fun _ _ _ _ _ _=>(jC (cE hu (e9 K (zv 4)) (zv 1) (fun _ _=>rfl)))) (fun _ _ _ _ _ _=>(bM K (n:=2) rfl (aL (aJ (i:=2) (show List.Nodup (["road","row","step","end","net","reach","left"]:List Str) by decide+kernel) rfl (Or.inl rfl)) (aL (aJ (i:=3) (show List.Nodup (["road","row","step","end","net","reach","left"]:List Str) by decide+kernel) rfl (Or.inl rfl)) bD)))) (fun _ _ _ _ _ _=>(pX (aX (sX hu) (zv 3) (bH (bG K) (zv 5) (zv 6) (fun _ _=>rfl)) rfl))) (fun _ _ _ _ _ _=>(aO (dW (bQ (eE K) (zv 0) (aO (aD (zv 2) aC))) (aD (zv 3) aC)))) bS.nd rfl rfl)))
   (aH (aZ (jJ (own:=["road","row"]) (idx:=[]) (N':=["road","row"]) (bZ (az fH) (["T","x","n","net","reach","found","left"]:List Str) (by decide+kernel)) rfl (nM K (zv 5)) (fun _ _ _ _ _ _=>(bM K (n:=2) rfl (aL (aJ (i:=0) (show List.Nodup (["road","row"]:List Str) by decide+kernel) rfl (Or.inl rfl)) (aL (aJ (i:=1) (show List.Nodup (["road","row"]:List Str) by decide+kernel) rfl (Or.inl rfl)) bD)))) (fun _ _ _ _ _ _=>cS) (fun _ _ _ _ _ _=>(zv 0)))))))))),?_⟩
  refine aU (fun σ' H'=>σ'=[some (.ref a),some (.str x),some (.int (nn:Int)),none,none,none,none]/\aa H H') ?_ ?_
  ·intro nx cy
   refine ⟨a,xs,rows,ns,ws,x,nn,rfl,rt,hw,hx,kf,kt,hn1,fun t H1 s1 e1=>?_⟩
   refine ⟨[(Bn rows nn (endOf rows x)).1,(Bn rows nn (endOf rows x)).2],au.of e1,?_⟩
   have es:[(Bn rows nn (endOf rows x)).1,(Bn rows nn (endOf rows x)).2].sum=((allR rows nn (endOf rows x)).length:Int):=by rw [<- kP];simp
   rw [es]
   refine ⟨_,rfl,dz (fun c=>?_) (fun c=>?_)⟩
   ·exfalso
    have:=Qt c
    omega
   ·exact cy _ _ ⟨rfl,s1⟩
  rintro σ' H1 ⟨rfl,s1⟩
  refine aN fun n dn hn jm ne=>?_
  have s0:aa H1 (upd (upd H1 dn (.own n)) n (.ins (adr mg "Net") dn [])):=(aa.upd jm _).trans (aa.upd (by rw [aF ne.symm];exact hn) _)
  have fi:=s1.trans s0
  refine ⟨n,dn,a,xs,rows,ns,ws,rfl,aA,rt.tk fi.ts,hw,kf.same fi,kt.same fi,fun H2 vy sx=>⟨rfl,?_⟩⟩
  have s2:aa H H2:=fun b o e=>sx b o (fun z=>by have:=s1 b o e;rw [z,hn] at this;cases this) (fi b o e)
  refine aN ⟨n,a,xs,rows,ns,ws,nn,rfl,vy,rt.tk s2.ts,hw,hn1,fun R ds H3 hR s3 eR ra=>?_⟩
  have MH:=s2.trans s3
  have IC:∀ e,fu rows ns e->(e,gr rows e)∈bc rows:=fun e he=>(rt.zd hw he).1
  refine hdn fun Gz9 zG9=>?_;obtain ⟨dx,fs,en,⟨⟨d1,o1,a1,a2⟩,_,_,⟨d4,o4,k4,e1,e2,e3⟩⟩⟩:=vy.same s3;refine zG9 ?_
  generalize adr mg "Net"=C at*
  have look:∀ e,fu rows ns e->∃ m o,dh H3 d4 (.str e) (some (.ref m))/\H3 m=some (.af o (.dT (f_ rows e))):=fun e he=>by
   obtain ⟨v,h1,m,o,rfl,h2⟩:=e3.get rt.wz (rt.zd hw he).1
   refine ⟨m,o,by rw [<- h1];exact dh.rd (k:=Sum.inr e) (.inr ⟨o4,e2⟩),?_⟩
   rw [jI he.2] at h2
   exact h2
  have ef:=rt.stay hw hx
  refine aN ⟨(show 0<=sizeLine by decide),fun T0 Du=>?_⟩
  have t0:=aa.upd Du (.tup [])
  have z0:upd H3 T0 (.tup []) T0=some (.tup []):=aA
  generalize upd H3 T0 (.tup [])=H4 at t0 z0 ⊢
  refine ⟨n,C,dx,fs,.ref d1,rfl,t0 _ _ en,cl,na "rows" (by simp),a1,d1,.str (endOf rows x),rfl,?_,(show 2<=sizeLine by decide),fun T1 Dy=>⟨(show 1<=sizeLine by decide),fun L hL=>?_⟩⟩
  ·rw [<- gQ rt.jv (rt.nm.mem_iff.mpr hx)]
   exact dh.rd (k:=Sum.inr x) (.inr ⟨o1,t0 _ _ a2⟩)
  generalize endOf rows x=e0 at ef k jr Dy hL ⊢
  have t1:=aa.upd Dy (.tup [.ref T0,.str e0])
  have z1:upd H4 T1 (.tup [.ref T0,.str e0]) T1=some (.tup [.ref T0,.str e0]):=aA
  generalize upd H4 T1 (.tup [.ref T0,.str e0])=H5 at t1 z1 hL
  have t2:=aa.upd hL (.lst [.ref T1])
  have z2:upd H5 L (.lst [.ref T1]) L=some (.lst [.ref T1]):=aA
  generalize upd H5 L (.lst [.ref T1])=H6 at t2 z2
  have Wc:aa H3 H6:=(t0.trans t1).trans t2
  have Dc:FL H6 [.ref T1] [([],e0)]:=FL.nil.snoc (q:=([],e0)) (t2 _ _ z1) ((t1.trans t2) _ _ z0) SV.nil
  refine aU (fun σ' H'=>∃ (v6:Option V) (fa:Addr) (us:List V) (F:List (Road×Str)),σ'=[some (.ref a),some (.str x),some (.int (nn:Int)),some (.ref n),some (.ref R),some (.ref fa),v6]/\H' fa=some (.lst us)/\FL H' us F/\spread rows 0 F=allR rows nn e0/\aa H3 H') ?_ ?_
  ·intro nx cy
   refine ⟨nn,rfl,by omega,?_⟩
   refine cT (rK _ _ _) (fun i σ' H'=>∃ (v6:Option V) (fa:Addr) (us:List V) (F:List (Road×Str)),σ'=[some (.ref a),some (.str x),some (.int (nn:Int)),some (.ref n),some (.ref R),some (.ref fa),v6]/\H' fa=some (.lst us)/\FL H' us F/\spread rows (nn - i) F=allR rows nn e0/\(∀ q∈F,fu rows ns q.2/\q.1.length=i)/\aa H3 H')
    ⟨none,L,[.ref T1],[([],e0)],rfl,z2,Dc,?_,fun q hq=>by rw [List.mem_singleton.mp hq];exact ⟨ef,rfl⟩,Wc⟩ (fun _ _ _ _ _=>trivial) ?_ ?_
   ·unfold spread;simp
   ·rintro i σ' H7 hi z0;refine hdn fun Gz9 zG9=>?_;obtain ⟨v6,fa,us,F,rfl,q1,q2,q3,q4,q5⟩:=z0;refine zG9 ?_
    obtain ⟨j,hj⟩:∃ j,nn - i=j+1:=⟨nn - i - 1,by omega⟩
    have oq:nn - (i+1)=j:=by omega
    have ej:(nn:Int) - 1+(i:Int)*(-1)=(j:Int):=by omega
    rw [oq]
    rw [hj] at q3
    rw [ej]
    have fl:=q2.len
    have sp:spread rows j (F.flatMap (rq rows j))=allR rows nn e0:=by rw [qQ];exact q3
    have HG:(F.flatMap (rq rows j)).length<=1000:=by
     have:=lJ rows j _ (wN rows j F)
     rw [sp] at this
     omega
    obtain ⟨dj,oj,We,Wf⟩:=ra.at_ j (by have:=ra.len;omega)
    refine .inl ⟨⟨_,ak.of q1⟩,fun D hD=>?_⟩
    refine Tr (cK us) (fun t τ H8=>∃ (v0 v1 v2 v3:Option V) (zs:List V),τ=[v0,v1,v2,v3,some (.ref n),some (.ref R),some (.int (j:Int))]/\H8 D=some (.lst zs)/\FL H8 zs ((F.take t).flatMap (rq rows j))/\aa H7 H8)
     ⟨none,none,none,none,[],rfl,aA,FL.nil,aa.upd hD _⟩ (by rintro t τ H8 _ ⟨_,_,_,_,_,_,_,_,s⟩;exact ak.of (s _ _ q1)) ?_ ?_
    ·rintro t τ H8 ht z0;refine hdn fun Gz9 zG9=>?_;obtain ⟨v0,v1,v2,v3,zs,rfl,p1,p2,p3⟩:=z0;refine zG9 ?_
     obtain ⟨c,b,ys,c1,c2,c3,c4⟩:=q2.at_ t ht (by omega)
     have eg:us.getD t .ao=.ref c:=by rw [Qb,Qa ht,c1];rfl
     rw [eg,gJ _ _ t (by omega)]
     obtain ⟨hq,IF⟩:=q4 _ (Qj (show t < F.length by omega))
     have Fz:((F.take t).flatMap (rq rows j)).length+(rq rows j (F[t]'(by omega))).length<=1000:=by
      have:=nQ (rq rows j) F (t+1)
      rw [gJ _ _ t (by omega),Qk] at this
      omega
     generalize F[t]'(by omega)=q at c2 c4 hq IF Fz ⊢
     have Wg:=c4.len
     refine cI (p3 _ _ c2) ?_
     obtain ⟨m,om,l1,l2⟩:=look _ hq
     have IG:=q5.trans p3
     have oe:(f_ rows q.2).length=(bh rows q.2).length:=by simp [f_]
     refine ⟨n,C,dx,fs,.ref d4,rfl,IG _ _ en,cl,na "moves" (by simp),e1,d4,.ref m,rfl,l1.same IG,m,f_ rows q.2,om,rfl,IG _ _ l2,?_⟩
     refine u3 (fun u τ H9=>∃ (v2 v3:Option V) (zs:List V),τ=[some (.ref b),some (.str q.2),v2,v3,some (.ref n),some (.ref R),some (.int (j:Int))]/\H9 D=some (.lst zs)/\FL H9 zs ((F.take t).flatMap (rq rows j)++(((bh rows q.2).take u).filter fun m=>decide (allR rows j m.2≠[])).map fun m=>(q.1++[m.1],m.2))/\aa H7 H9)
      ⟨v2,v3,zs,rfl,p1,by simpa using p2,p3⟩ (by rintro u τ H9 _ ⟨_,_,_,_,_,_,s⟩;exact (q5.trans s) _ _ l2) ?_ ?_
     ·rintro u τ H9 TT cc II ⟨w2,w3,zs',rfl,r1,r2,r3⟩ Wh rd
      have Ad:u < (bh rows q.2).length:=by omega
      have eo:(f_ rows q.2)[u]=((bh rows q.2)[u].1.map Sum.inr,.str (bh rows q.2)[u].2):=by simp [f_]
      rw [eo] at rd ⊢
      rw [EE] at rd
      have Dw:=dO _ u Ad
      rw [Dw,List.filter_append,Qm,<- List.append_assoc]
      obtain ⟨_,A3⟩:=rt.CN hw hq (Qj Ad)
      have YX:zs'.length<=1000:=by
       have h1:=r2.len
       have h2:(((bh rows q.2).take u).filter fun m=>decide (allR rows j m.2≠[])).length<=(rq rows j q).length:=by
        unfold rq
        rw [Ql]
        exact ((List.take_sublist u _).filter _).length_le
       rw [Qk,Ql] at h1
       omega
      generalize (bh rows q.2)[u]=mm at rd A3 ⊢
      have fi:=aa.upd Wh (.tup [.ref cc,.str mm.2])
      dsimp only
      generalize upd H9 TT (.tup [.ref cc,.str mm.2])=Ab at fi
      have r4:=r3.trans fi
      have MI:=q5.trans r4
      refine ⟨ds,.ref dj,.inl (ak.of (MI _ _ eR)),gH (by rw [Qa (by have:=ra.len;omega),We]),dj,bx (ff rows j) (.inr mm.2),rfl,dh.rd (k:=Sum.inr mm.2) (.inr ⟨oj,MI _ _ Wf⟩),?_⟩
      rw [nH IC j A3,QE]
      refine ⟨_,rfl,dz (fun c=>?_) (fun c=>?_)⟩
      ·refine ⟨(show 1<=sizeLine by decide),fun T7 Dq=>?_⟩
       have tq:=aa.upd Dq (.tup [.ref cc])
       have yn:upd Ab T7 (.tup [.ref cc]) T7=some (.tup [.ref cc]):=aA
       dsimp only
       generalize upd Ab T7 (.tup [.ref cc])=t_ at tq yn
       have r5:=r4.trans tq
       refine EH (r5 _ _ c3) yn (by simp;omega) fun fr qu s12 IJ=>?_
       refine ⟨(show 2<=sizeLine by decide),fun T8 Dr=>?_⟩
       have fj:=aa.upd Dr (.tup [.ref fr,.str mm.2])
       have ua:upd qu T8 (.tup [.ref fr,.str mm.2]) T8=some (.tup [.ref fr,.str mm.2]):=aA
       generalize upd qu T8 (.tup [.ref fr,.str mm.2])=mi at fj ua
       have sA:=((fi.trans tq).trans s12).trans fj
       have rD:=sA _ _ r1
       have tk:Tk mi (upd mi D (.lst (zs'++[.ref T8]))):=(Tk.refl).set rD fun _ z=>nomatch z
       have Dz:∀ b' ys,bj mi b' ys->bj (upd mi D (.lst (zs'++[.ref T8]))) b' ys:=fun b' ys h=>h.put rD (fun _ z=>nomatch z) (fun _ _ z=>nomatch z)
       refine ⟨zs',rD,by omega,_,_,zs'++[.ref T8],rfl,aA,?_,(r3.trans sA).put hD⟩
       rw [List.filter_cons,if_pos c]
       refine ((r2.same sA).keep tk Dz).snoc (q:=(q.1++[mm.1],mm.2)) (tk _ _ ua) (tk _ _ (fj _ _ IJ)) (SV.keep ?_ Dz)
       exact ((c4.same (r3.trans sA))).append (SV.one (rd.same sA))
      ·refine ⟨_,_,zs',rfl,fi _ _ r1,?_,r4⟩
       rw [List.filter_cons,if_neg (by rw [c];decide)]
       simpa using r2.same fi
     ·rintro τ H9 ⟨w2,w3,zs',rfl,r1,r2,r3⟩
      rw [oe,Qo] at r2
      exact ⟨_,_,_,_,zs',rfl,r1,r2,r3⟩
    ·rintro τ H8 z0;refine hdn fun Gz9 zG9=>?_;obtain ⟨v0,v1,v2,v3,zs,rfl,p1,p2,p3⟩:=z0;refine zG9 ?_
     rw [fl,Qo] at p2
     refine ⟨_,D,zs,_,rfl,p1,p2,sp,?_,q5.trans p3⟩
     intro q hq
     obtain ⟨q',h1,h2⟩:=List.mem_flatMap.mp hq
     obtain ⟨m,h3,rfl⟩:=List.mem_map.mp h2
     exact ⟨(rt.CN hw (q4 _ h1).1 (List.mem_filter.mp h3).1).2,by simp [(q4 _ h1).2]⟩
   ·rintro σ' H7 z0;refine hdn fun Gz9 zG9=>?_;obtain ⟨v6,fa,us,F,rfl,q1,q2,q3,q4,q5⟩:=z0;refine zG9 ?_
    rw [Nat.sub_self] at q3
    exact cy _ _ ⟨v6,fa,us,F,rfl,q1,q2,q3,q5⟩
  ·rintro σ' H7 z0;refine hdn fun Gz9 zG9=>?_;obtain ⟨v6,fa,us,F,rfl,q1,q2,q3,q5⟩:=z0;refine zG9 ?_
   rw [pV] at q3
   have fl:=q2.len
   have HG:F.length<=1000:=by have:=congrArg List.length q3;simp at this;omega
   refine .inl ⟨⟨_,ak.of q1⟩,fun D hD=>?_⟩
   have ym:H D=none:=(MH.trans q5).free hD
   refine eW (cK us) (fun t τ H8=>∃ (v0 v1:Option V) (zs:List V),τ=[v0,v1]/\H8 D=some (.lst zs)/\RL H8 zs ((F.take t).map (·.1))/\aa H7 H8)
    ⟨none,none,[],rfl,aA,RL.nil,aa.upd hD _⟩ (by rintro t τ H8 _ ⟨_,_,_,_,_,_,s⟩;exact ak.of (s _ _ q1)) ?_ ?_
   ·rintro t τ H8 ht ⟨v0,v1,zs,rfl,p1,p2,p3⟩
    obtain ⟨c,b,ys,c1,c2,c3,c4⟩:=q2.at_ t ht (by omega)
    have eg:us.getD t .ao=.ref c:=by rw [Qb,Qa ht,c1];rfl
    rw [eg,dO _ t (show t < F.length by omega),Qm]
    have zl:=p2.len
    rw [Ql,List.length_take] at zl
    have tk:Tk H8 (upd H8 D (.lst (zs++[.ref b]))):=(Tk.refl).set p1 fun _ z=>nomatch z
    have rd:∀ b' ys,bj H8 b' ys->bj (upd H8 D (.lst (zs++[.ref b]))) b' ys:=fun b' ys h=>h.put p1 (fun _ z=>nomatch z) (fun _ _ z=>nomatch z)
    refine cI (p3 _ _ c2) ⟨zs,p1,by omega,_,_,_,rfl,aA,(p2.keep tk rd).snoc (tk _ _ (p3 _ _ c3)) ((c4.same p3).keep rd),p3.put hD⟩
   ·rintro τ H8 ⟨v0,v1,zs,rfl,p1,p2,p3⟩
    rw [fl,Qo,q3] at p2
    exact k D zs H8 ym ((MH.trans q5).trans p3) p1 p2
def MJ (mg:Str->Option Value):Sp:=fun vs H Q _=>∃ (a r:Addr) (xs us:List V) (rows:List ae) (ns ws:List Str) (x:Str) (road:List (List Str)),vs=[.ref a,.str x,.ref r]/\RT H a xs rows ns ws/\(∀ z∈ws,Wd z)/\x∈ns/\Kn mg H "FROM" [.str "from"]/\Kn mg H "TO" [.str "to"]/\H r=some (.tup us)/\SV H us road/\
 ∀ H',aa H H'->Q (G2 (vd rows (endOf rows x) road)) H'
theorem vI (T:Txt K mg w):be P w K mg base 6 "end_of" ["T","x","road"] (MJ mg):=by
 have A4:AK P w K mg base 4 "Net" (adr mg "Net") ["self","T"] (Di mg):=oZ T
 have cl:=T.qp.2.1
 have na:=T.qp.2.2.1
 refine T.wT.fg f8 (fun vs H Q E h=>?_) (fun f av A outer s H vs Q E hr h=>?_)
 ·refine hdn fun Gz9 zG9=>?_;obtain ⟨a,r,xs,us,rows,ns,ws,x,road,rfl,_⟩:=h;refine zG9 ?_
  rfl
 ·refine hdn fun Gz9 zG9=>?_;obtain ⟨a,r,xs,us,rows,ns,ws,x,road,rfl,rt,hw,hx,kf,kt,MK,sv,k⟩:=h;refine zG9 ?_
  have hu:=bB hr
  have dm:=Qx (bB hr)
  refine ⟨_,(aE (aR (i:=3) f8.nd rfl (Or.inl rfl) (pE A4 (hr.mono (by decide)) (aD (zv 0) aC)))
   (aE (aR (i:=4) f8.nd rfl (Or.inl rfl) (cE hu (e9 K (zv 3)) (zv 1) (fun _ _=>rfl)))
   (aE (d9 PassesOwn.never rfl (nM K (zv 2)) (aJ (i:=5) f8.nd rfl (Or.inl rfl)) (aE (cZ (aX (w4 hu) (zv 5) (cE hu (e9 K (zv 3)) (zv 4) (fun _ _=>rfl)) rfl) (aH (aZ x4)) bJ)
   (aH (aR (i:=4) f8.nd rfl (Or.inl rfl) (cE hu (cE hu (e9 K (zv 3)) (zv 4) (fun _ _=>rfl)) (zv 5) (fun _ _=>rfl))))))
   (aH (aZ (zv 4)))))),?_⟩
  refine aN fun n dn hn jm ne=>?_
  have s0:aa H (upd (upd H dn (.own n)) n (.ins (adr mg "Net") dn [])):=(aa.upd jm _).trans (aa.upd (by rw [aF ne.symm];exact hn) _)
  refine ⟨n,dn,a,xs,rows,ns,ws,rfl,aA,rt.tk s0.ts,hw,kf.same s0,kt.same s0,fun H2 vy sx=>⟨rfl,?_⟩⟩
  have s2:aa H H2:=fun b o e=>sx b o (fun z=>by rw [z,hn] at e;cases e) (s0 b o e)
  refine hdn fun Gz9 zG9=>?_;obtain ⟨dx,fs,en,⟨⟨d1,o1,a1,a2⟩,_,_,⟨d4,o4,k4,e1,e2,e3⟩⟩⟩:=vy;refine zG9 ?_
  generalize adr mg "Net"=C at*
  refine aN ⟨n,C,dx,fs,.ref d1,rfl,en,cl,na "rows" (by simp),a1,d1,.str (endOf rows x),rfl,?_,?_⟩
  ·rw [<- gQ rt.jv (rt.nm.mem_iff.mpr hx)]
   exact dh.rd (k:=Sum.inr x) (.inr ⟨o1,a2⟩)
  have look:∀ e,fu rows ns e->∃ m o,dh H2 d4 (.str e) (some (.ref m))/\H2 m=some (.af o (.dT (g_ rows (gr rows e)))):=fun e he=>by
   obtain ⟨v,h1,m,o,rfl,h2⟩:=e3.get rt.wz (rt.zd hw he).1
   exact ⟨m,o,by rw [<- h1];exact dh.rd (k:=Sum.inr e) (.inr ⟨o4,e2⟩),h2⟩
  have ef:=rt.stay hw hx
  have DB:=sv.keep fun b ys h=>h.same s2
  have hl:=sv.len
  refine aU (fun σ' H'=>∃ v5 e,σ'=[some (.ref a),some (.str x),some (.ref r),some (.ref n),some (.str e),v5]/\vd rows (endOf rows x) road=some e/\H'=H2) ?_ ?_
  ·intro nx cy
   refine Or.inr ⟨⟨us,au.of (s2 _ _ MK)⟩,?_⟩
   refine cT (gI us) (fun i σ' H'=>∃ v5 e,σ'=[some (.ref a),some (.str x),some (.ref r),some (.ref n),some (.str e),v5]/\vd rows (endOf rows x) road=vd rows e (road.drop i)/\fu rows ns e/\H'=H2) ⟨none,endOf rows x,rfl,rfl,ef,rfl⟩ (by rintro i σ' H' _ ⟨_,_,_,_,_,h⟩;(rw [h];exact au.of (s2 _ _ MK))) ?_ ?_
   ·rintro i σ' H' hi ⟨v5,e,rfl,g,he,rfl⟩
    obtain ⟨b,q1,q2⟩:=DB.at_ i hi (by omega)
    have eg:us.getD i .ao=.ref b:=by rw [Qb,Qa hi,q1];rfl
    rw [eg]
    obtain ⟨m,o,l1,l2⟩:=look e he
    have ed:road.drop i=road[i]'(by omega)::road.drop (i+1):=QM (by omega)
    have dg:dh H' m (.ref b) ((L2.ja rows e (road[i]'(by omega))).map V.str):=by
     rw [<- rZ rows e _ he.2]
     exact .inr ⟨_,_,b,.inr ⟨o,l2⟩,rfl,by rw [EE];exact q2,rfl⟩
    rw [ed] at g
    refine aU (fun σ' H1=>(∃ e',L2.ja rows e (road[i]'(by omega))=some e')/\H1=H'/\σ'=[some (.ref a),some (.str x),some (.ref r),some (.ref n),some (.str e),some (.ref b)]) ?_ ?_
    ·intro vo fh
     refine ⟨n,C,dx,fs,.ref d4,rfl,en,cl,na "moves" (by simp),e1,d4,.ref m,rfl,l1,m,_,rfl,dg,_,rfl,dz (fun c=>?_) (fun c=>?_)⟩
     ·cases em:L2.ja rows e (road[i]'(by omega)) with
      | some e'=>rw [em] at c;simp at c
      | none=>
       have:G2 (vd rows (endOf rows x) road)=.ao:=by rw [g];unfold vd;rw [em];rfl
       rw [<- this]
       exact k H' s2
     ·cases em:L2.ja rows e (road[i]'(by omega)) with
      | some e'=>exact fh _ _ ⟨⟨e',em⟩,rfl,rfl⟩
      | none=>rw [em] at c;simp at c
    ·rintro σ' H1 ⟨⟨e',em⟩,rfl,rfl⟩
     rw [em] at dg
     refine ⟨n,C,dx,fs,.ref d4,rfl,en,cl,na "moves" (by simp),e1,d4,.ref m,rfl,l1,m,.str e',rfl,dg,?_⟩
     refine ⟨_,e',rfl,?_,rt.ja hw he em,rfl⟩
     rw [g]
     show (match L2.ja rows e _ with | some e'=>vd rows e' _ | none=>none)=_
     rw [em]
   ·rintro σ' H' ⟨v5,e,rfl,g,he,rfl⟩
    refine cy _ _ ⟨v5,e,rfl,?_,rfl⟩
    rw [g,hl,List.drop_length];rfl
  ·rintro σ' H' ⟨v5,e,rfl,g,rfl⟩
   have:G2 (vd rows (endOf rows x) road)=.str e:=by rw [g];rfl
   rw [<- this]
   exact k _ s2
def Wi:Sp:=fun vs H Q _=>∃ (e:Addr) (i:Nat),vs=[.ref e,.int i]/\i < 1000000000/\H e=some (jf (adr mg "TooMany") none e)/\∀ dx,H dx=none->Q .ao (upd (upd H e (jf (adr mg "TooMany") (some dx) e)) dx (.xd [("many",.int i)]))
theorem k9 (T:Txt K mg w):Hu P w K mg base 1 "TooMany" ["self","many"] (Wi (mg:=mg)):=by
 refine T.AR.fg k7 (fun vs H Q E h=>?_) (fun f av A outer s H vs Q E hr h=>?_)
 ·obtain ⟨e,i,rfl,_⟩:=h
  rfl
 ·obtain ⟨e,i,rfl,hi,he,k⟩:=h
  refine ⟨_,(aE (iB (Uu K T.HL (aD (zv 0) (aB aI aC))))
   (aH (Uv K (zv 0) (zv 1)))),?_⟩
  refine ⟨e,_,none,_,rfl,by simp,T.AR.at_,he,?_⟩
  exact ⟨e,_,rfl,he,T.AR.at_,T.AR.na _ (by simp),fun dx hd=>k dx hd⟩
def Wj (mg:Str->Option Value):Sp:=fun vs H _ E=>∃ (a:Addr) (xs:List V) (rows:List ae) (ns ws:List Str) (x:Str) (n:Nat),vs=[.ref a,.str x,.int (n:Int)]/\RT H a xs rows ns ws/\(∀ z∈ws,Wd z)/\x∈ns/\Kn mg H "FROM" [.str "from"]/\Kn mg H "TO" [.str "to"]/\n<=1000/\1000 < (allR rows n (endOf rows x)).length/\
 ∀ e dx H',aa H H'->H' e=some (jx (adr mg "TooMany") (some dx) e)->H' dx=some (.xd [("many",.int 1000)])->E (.ref e) (some dx) H'
theorem wO (T:Txt K mg w):C3 P w K mg base 7 "roads" ["T","x","n"] (Wj mg):=by
 have A4:AK P w K mg base 4 "Net" (adr mg "Net") ["self","T"] (Di mg):=oZ T
 have cD:be P w K mg base 6 "how_many" ["T","x","n"] (Ds mg):=eG T
 have dC:be P w K mg base 2 "rows_by_reach" ["net","n"] (IB mg):=fB T
 have vP:=k9 (P:=P) (w:=w) (base:=base) T
 refine T.uG.Uq bS (fun vs H Q E h=>?_) (fun f av A outer s H vs Q E hr h=>?_)
 ·refine hdn fun Gz9 zG9=>?_;obtain ⟨a,xs,rows,ns,ws,x,n,rfl,_⟩:=h;refine zG9 ?_
  rfl
 ·refine hdn fun Gz9 zG9=>?_;obtain ⟨a,xs,rows,ns,ws,x,nn,rfl,rt,hw,hx,kf,kt,hn1,jr,k⟩:=h;refine zG9 ?_
  have hu:=bB hr
  have dm:=Qx (bB hr)
  refine ⟨_,(aE (cZ (aX j8 (bC (eQ K rfl) (by rfl) T.AQ PyProof.Rows.boot_sum (aY (bF cD (hr.mono (by decide)) (aD (zv 0) (aD (zv 1) (aD (zv 2) aC)))) aC)) (pJ T.fE) (eu _)) (aH (yS vP (hr.mono (by decide)) (aD (pJ T.fE) aC))) bJ)
   (aE (aR (i:=3) bS.nd rfl (Or.inr rfl) (pE A4 (hr.mono (by decide)) (aD (zv 0) aC)))
   (aE (aR (i:=4) bS.nd rfl (Or.inr rfl) (bF dC (hr.mono (by decide)) (aD (zv 3) (aD (zv 2) aC))))
   (aE (aR (i:=5) bS.nd rfl (Or.inl rfl) (bL (aG (aO (aG (aO aC) (aQ (cE hu (e9 K (zv 3)) (zv 1) (fun _ _=>rfl)) aC))) aC)))
   (aE (d9 PassesOwn.leaving rfl (mS (by rfl) T.lT (by rfl) T.d6 (aD (zv 2) aC)) (aJ (i:=6) bS.nd rfl (Or.inr rfl)) (aH (K0 (i:=5) (own:=["road","row","step","end"]) (idx:=[3,4,6]) (N':=["road","row","step","end","net","reach","left"]) (bZ (az fH) (["T","x","n","net","reach","found","left"]:List Str) (by decide+kernel)) rfl (nM K (zv 5)) (fun _ _ _ _ _ _=>(bM K (n:=2) rfl (aL (aJ (i:=0) (show List.Nodup (["road","row","step","end","net","reach","left"]:List Str) by decide+kernel) rfl (Or.inl rfl)) (aL (aJ (i:=1) (show List.Nodup (["road","row","step","end","net","reach","left"]:List Str) by decide+kernel) rfl (Or.inl rfl)) bD)))) (fun _ _ _ _ _ _=>(jC (cE hu (e9 K (zv 4)) (zv 1) (fun _ _=>rfl)))) (fun _ _ _ _ _ _=>(bM K (n:=2) rfl (aL (aJ (i:=2) (show List.Nodup (["road","row","step","end","net","reach","left"]:List Str) by decide+kernel) rfl (Or.inl rfl)) (aL (aJ (i:=3) (show List.Nodup (["road","row","step","end","net","reach","left"]:List Str) by decide+kernel) rfl (Or.inl rfl)) bD)))) (fun _ _ _ _ _ _=>(pX (aX (sX hu) (zv 3) (bH (bG K) (zv 5) (zv 6) (fun _ _=>rfl)) rfl))) (fun _ _ _ _ _ _=>(aO (dW (bQ (eE K) (zv 0) (aO (aD (zv 2) aC))) (aD (zv 3) aC)))) bS.nd rfl rfl)))
   (aH (aZ (jJ (own:=["road","row"]) (idx:=[]) (N':=["road","row"]) (bZ (az fH) (["T","x","n","net","reach","found","left"]:List Str) (by decide+kernel)) rfl (nM K (zv 5)) (fun _ _ _ _ _ _=>(bM K (n:=2) rfl (aL (aJ (i:=0) (show List.Nodup (["road","row"]:List Str) by decide+kernel) rfl (Or.inl rfl)) (aL (aJ (i:=1) (show List.Nodup (["road","row"]:List Str) by decide+kernel) rfl (Or.inl rfl)) bD)))) (fun _ _ _ _ _ _=>cS) (fun _ _ _ _ _ _=>(zv 0)))))))))),?_⟩
  refine ⟨a,xs,rows,ns,ws,x,nn,rfl,rt,hw,hx,kf,kt,hn1,fun t H1 s1 e1=>?_⟩
  refine ⟨[(Bn rows nn (endOf rows x)).1,(Bn rows nn (endOf rows x)).2],au.of e1,?_⟩
  have es:[(Bn rows nn (endOf rows x)).1,(Bn rows nn (endOf rows x)).2].sum=((allR rows nn (endOf rows x)).length:Int):=by rw [<- kP];simp
  rw [es]
  refine ⟨_,rfl,dz (fun c=>?_) (fun c=>?_)⟩
  rotate_left
  ·have:=of_decide_eq_false c
   exfalso;omega
  refine ⟨by simp,fun e he=>⟨e,1000,rfl,by omega,aA,fun dx hd=>?_⟩⟩
  have ne:dx≠e:=fun z=>by rw [z,aA] at hd;cases hd
  rw [aF ne] at hd
  refine ⟨rfl,some dx,by rw [aF ne.symm,aA],?_⟩
  refine k e dx _ (s1.trans fun b o hb=>?_) aA (by rw [aF ne,aA];rfl)
  have n1:b≠e:=fun z=>by rw [z,he] at hb;cases hb
  have n2:b≠dx:=fun z=>by rw [z,hd] at hb;cases hb
  rw [aF n1,aF n2,aF n1,aF n1]
  exact hb
def IK (mg:Str->Option Value):Sp:=fun vs H Q _=>∃ (a:Addr) (xs:List V) (rows:List ae) (ns ws:List Str) (x:Str) (n:Nat),vs=[.ref a,.str x,.int (n:Int)]/\RT H a xs rows ns ws/\(∀ z∈ws,Wd z)/\x∈ns/\Kn mg H "FROM" [.str "from"]/\Kn mg H "TO" [.str "to"]/\n<=1000/\1000 < (allR rows n (endOf rows x)).length/\∀ H',aa H H'->Q (.bl true) H'
theorem fX (T:Txt K mg w):be P w K mg base 8 "_law_refused" ["_law_told","_law_name","_law_n"] (IK mg):=by
 have gK:=wO (P:=P) (w:=w) (base:=base) T
 refine T.lX.fg cV (fun vs H Q E h=>?_) (fun f av A outer s H vs Q E hr h=>?_)
 ·refine hdn fun Gz9 zG9=>?_;obtain ⟨a,xs,rows,ns,ws,x,n,rfl,_⟩:=h;refine zG9 ?_
  rfl
 ·refine hdn fun Gz9 zG9=>?_;obtain ⟨a,xs,rows,ns,ws,x,nn,rfl,rt,hw,hx,kf,kt,hn1,jr,k⟩:=h;refine zG9 ?_
  have dm:=Qx (bB hr)
  refine ⟨_,(aE (aR (i:=3) cV.nd rfl (Or.inl rfl) x4)
   (aE (Ut gK (hr.mono (by decide)) (aD (zv 0) (aD (zv 1) (aD (zv 2) aC))) (Us (j:=4) T.HL.m T.HL.at_ cV.nd rfl rfl (fun _=>(aH (aR (i:=3) cV.nd rfl (Or.inl rfl) (zv 4)))) Ur))
   (aE (cZ (GF (aX Rw (zv 3) x4 (eu _)) (GF (lQ (jW (bC (jE K) (by rfl) T.dM PyProof.Rows.boot_isinstance (aD (zv 3) (aD (pJ (v:=.ref (adr mg "TooMany")) ⟨_,T.AR.m,rfl⟩) aC))))) (Kd (lQ (jW (bC (jE K) (by rfl) T.dM PyProof.Rows.boot_isinstance (aD (zv 3) (aD (z5 (v:=.ty "ValueError") (by rfl) T.nY jY rfl) aC)))))))).pt (aH (aZ iX)) bJ)
   (aH (aZ (Rn (Rl (bC (jE K) (by rfl) T.dM PyProof.Rows.boot_isinstance (aD (zv 3) (aG (aO (aD (pJ (v:=.ref (adr mg "NoTelling")) ⟨_,T.LB.m,rfl⟩) (aD (pJ (v:=.ref (adr mg "NoText")) ⟨_,T.LA.m,rfl⟩) aC))) aC)))) (Rm (rW (dS dm) (UA K (zv 3)) aK (eu _))))))))),?_⟩
  refine aN ?_
  refine aU (fun σ' H'=>∃ e dx:Addr,σ'=[some (.ref a),some (.str x),some (.int (nn:Int)),some (.ref e),none]/\aa H H'/\H' e=some (jx (adr mg "TooMany") (some dx) e)/\H' dx=some (.xd [("many",.int 1000)])) ?_ ?_
  ·intro nx cy
   refine ⟨a,xs,rows,ns,ws,x,nn,rfl,rt,hw,hx,kf,kt,hn1,jr,fun e dx H' s' he DC e' C' ee cz=>?_⟩
   cases ee
   rw [he] at cz
   obtain ⟨rfl,_⟩:=Ue (QD cz)
   refine ⟨true,T.U5,?_⟩
   rw [if_pos rfl]
   exact cy _ _ ⟨e,dx,rfl,s',he,DC⟩
  ·rintro σ' H' ⟨e,dx,rfl,s',he,DC⟩
   have eh:E5 H' e (adr mg "TooMany"):=⟨some dx,.inr he,fun d hd=>by cases hd;exact ⟨_,DC⟩⟩
   have xa:=T.AR.at_
   refine ⟨_,rfl,jt ?_⟩
   refine ⟨e,_,_,rfl,eh,xa,.inl ⟨true,⟨xa,T.U7⟩,true,rfl,jt ?_⟩⟩
   refine ⟨e,_,_,rfl,eh,xa,.inl ⟨true,⟨rfl,rfl⟩,true,rfl,jt (lF ?_)⟩⟩
   refine ⟨(show 2<=sizeLine by decide),fun t ht=>?_⟩
   have st:=aa.upd ht (.tup [.ref (adr mg "NoTelling"),.ref (adr mg "NoText")])
   refine ⟨e,.ref t,_,rfl,⟨some dx,.inr (st _ _ he),fun d hd=>by cases hd;exact ⟨_,st _ _ DC⟩⟩,xa,.inr ⟨t,_,false,rfl,aA,⟨false,⟨T.LB.at_,T.U8⟩,by rw [if_neg (by decide)];exact ⟨false,⟨T.LA.at_,T.U6⟩,by rw [if_neg (by decide)];rfl⟩⟩,false,rfl,true,rfl,Cr ?_⟩⟩
   refine ⟨e,_,dx,_,.int 1000,rfl,.inr (st _ _ he),st _ _ DC,xa,T.AR.na _ (by simp),rfl,rfl,?_⟩
   exact k _ (s'.trans st)
theorem vn.cons {r q:Road} (s:List Str) (h:vn r q):vn (s::r) (s::q):=by
 obtain ⟨j,j1,j2,hp,hn,hs⟩:=h
 refine ⟨j+1,by simp;omega,by simp;omega,fun i g1 g2 hi=>?_,by simpa using hn,by simpa using hs⟩
 cases i with
 | zero=>rfl
 | succ i=>simpa using hp i (by simpa using g1) (by simpa using g2) (by omega)
theorem vn.first {r q:Road} {s t:List Str} (h:yj s t):vn (s::r) (t::q):=⟨0,by simp,by simp,fun i _ _ hi=>absurd hi (Nat.not_lt_zero _),h.ne,h⟩
theorem mH {H:Hp} {a:Addr} {xs:List V} {rows:List ae} {ns ws:List Str} (rt:RT H a xs rows ns ws) (hw:∀ z∈ws,Wd z):∀ (n:Nat) (e:Str),fu rows ns e->(allR rows n e).Pairwise vn
 | 0,e,_=>by rw [bK];exact List.pairwise_singleton _ _
 | n+1,e,he=>by
  rw [bU,List.pairwise_flatMap]
  refine ⟨fun m hm=>?_,(rt.UX hw he.1).imp fun h x hx y hy=>?_⟩
  ·rw [List.pairwise_map]
   exact (mH rt hw n m.2 (rt.CN hw he hm).2).imp fun h=>vn.cons _ h
  ·obtain ⟨r,_,rfl⟩:=List.mem_map.mp hx
   obtain ⟨q,_,rfl⟩:=List.mem_map.mp hy
   exact vn.first h
def Ae (rows:List ae) (q:Road×Str):List (Road×Str):=(bh rows q.2).map fun m=>(q.1++[m.1],m.2)
theorem yL (rows:List ae) (n:Nat) (e:Str):gm rows (n+1) e=(gm rows n e).flatMap (Ae rows):=by
 rw [pO rows 1 n e]
 congr 1
 funext q
 unfold Ae
 show (gm rows 1 q.2).map _=_
 have:gm rows 1 q.2=(bh rows q.2).map fun m=>([m.1],m.2):=by
  show (bh rows q.2).flatMap _=_
  rw [List.flatMap_def]
  simp only [gm,List.map_cons,List.map_nil]
  induction bh rows q.2 with
  | nil=>rfl
  | cons x l ih=>rw [List.map_cons,List.flatten_cons,ih];rfl
 rw [this,Qn]
 rfl
def IL (mg:Str->Option Value):Sp:=fun vs H Q _=>∃ (a:Addr) (xs:List V) (rows:List ae) (ns ws:List Str) (x:Str) (n:Nat),vs=[.ref a,.str x,.int (n:Int)]/\RT H a xs rows ns ws/\(∀ z∈ws,Wd z)/\x∈ns/\n<=1000/\(∀ m,m<=n->(allR rows m (endOf rows x)).length<=1000)/\
 ∀ (L:Addr) (us:List V) (H':Hp),H L=none->aa H H'->H' L=some (.lst us)->RL H' us (allR rows n (endOf rows x))->Q (.ref L) H'
set_option maxHeartbeats 4000000 in
theorem gY (T:Txt K mg w):be P w K mg base 6 "_law_listed" ["_law_told","_law_name","_law_n"] (IL mg):=by
 have cA:be P w K mg base 1 "_law_row_here" ["_law_told","_law_name"] Fo:=dF T
 have xH:be P w K mg base 3 "_law_on" ["_law_told","_law_name"] Mb:=wL T
 refine T.p7.fg bE (fun vs H Q E h=>?_) (fun f av A outer s H vs Q E hr h=>?_)
 ·refine hdn fun Gz9 zG9=>?_;obtain ⟨a,xs,rows,ns,ws,x,n,rfl,_⟩:=h;refine zG9 ?_
  rfl
 ·refine hdn fun Gz9 zG9=>?_;obtain ⟨a,xs,rows,ns,ws,x,nn,rfl,rt,hw,hx,hn1,jr,k⟩:=h;refine zG9 ?_
  have hu:=bB hr
  have dm:=Qx (bB hr)
  have Ac:=kJ hr
  have hsz:sizeLine=16777216:=QL
  refine ⟨_,(aE (aR (i:=3) bE.nd rfl (Or.inl rfl) (bL (aG (aO (aG (aO aC) (aY (bF cA (hr.mono (by decide)) (aD (zv 0) (aD (zv 1) aC))) aC))) aC)))
   (aE (d9 PassesOwn.never rfl (dA (by rfl) T.d6 (aD (zv 2) aC)) (aJ (i:=4) bE.nd rfl (Or.inl rfl)) (aE (aR (i:=5) bE.nd rfl (Or.inl rfl) (bL aC))
   (aE (d9 PassesOwn.never rfl (nM K (zv 3)) (bM K (n:=2) rfl (aL (aJ (i:=6) bE.nd rfl (Or.inl rfl)) (aL (aJ (i:=7) bE.nd rfl (Or.inl rfl)) bD))) (aH (d9 PassesOwn.never rfl (nM K (bF xH (hr.mono (by decide)) (aD (zv 0) (aD (zv 7) aC)))) (bM K (n:=2) rfl (aL (aJ (i:=8) bE.nd rfl (Or.inl rfl)) (aL (aJ (i:=9) bE.nd rfl (Or.inl rfl)) bD))) (aH (iB (rT K QH QJ QK cP (zv 5) (aG (aO (dW (bQ (eE K) (zv 6) (aO (aD (zv 8) aC))) (aD (zv 9) aC))) aC)))))))
   (aH (aR (i:=3) bE.nd rfl (Or.inl rfl) (zv 5))))))
   (aH (aZ (bC (rG Ac) (by rfl) T.xM PyProof.Rows.boot_sorted (cC (jJ (own:=["_law_road","_law_here"]) (idx:=[]) (N':=["_law_road","_law_here"]) (bZ (az dI) (["_law_told","_law_name","_law_n","_law_found","_law_turn","_law_longer","_law_road","_law_here","_law_step","_law_other"]:List Str) (by decide+kernel)) rfl (nM K (zv 3)) (fun _ _ _ _ _ _=>(bM K (n:=2) rfl (aL (aJ (i:=0) (show List.Nodup (["_law_road","_law_here"]:List Str) by decide+kernel) rfl (Or.inl rfl)) (aL (aJ (i:=1) (show List.Nodup (["_law_road","_law_here"]:List Str) by decide+kernel) rfl (Or.inl rfl)) bD)))) (fun _ _ _ _ _ _=>cS) (fun _ _ _ _ _ _=>(zv 0))) aC)))))),?_⟩
  have ef:=rt.stay hw hx
  have ML:=mH rt hw nn _ ef
  refine aN ⟨(show 0<=sizeLine by decide),fun T0 Du=>?_⟩
  have t0:=aa.upd Du (.tup [])
  have z0:upd H T0 (.tup []) T0=some (.tup []):=aA
  generalize upd H T0 (.tup [])=H1 at t0 z0
  have B0:=rt.tk t0.ts
  obtain ⟨rs,g,nm,rl,ql⟩:=B0.good hw
  have Wk:x∈rs.map (·.1):=by rw [nm];exact B0.nm.mem_iff.mpr hx
  refine ⟨a,xs,rs,_,_,x,rfl,g,Wk,fun H2 s2=>?_⟩
  rw [rl,show gi (je rows) rows.length x=endOf rows x from rfl]
  refine ⟨(show 2<=sizeLine by decide),fun T1 Dy=>⟨(show 1<=sizeLine by decide),fun L hL=>?_⟩⟩
  generalize endOf rows x=e0 at ef k jr ML Dy hL
  have t1:=aa.upd Dy (.tup [.ref T0,.str e0])
  have z1:upd H2 T1 (.tup [.ref T0,.str e0]) T1=some (.tup [.ref T0,.str e0]):=aA
  generalize upd H2 T1 (.tup [.ref T0,.str e0])=H3 at t1 z1 hL
  have t2:=aa.upd hL (.lst [.ref T1])
  have z2:upd H3 L (.lst [.ref T1]) L=some (.lst [.ref T1]):=aA
  generalize upd H3 L (.lst [.ref T1])=H4 at t2 z2
  have Wl:=((t0.trans s2).trans t1).trans t2
  have Dc:FL H4 [.ref T1] [([],e0)]:=FL.nil.snoc (q:=([],e0)) (t2 _ _ z1) (((s2.trans t1).trans t2) _ _ z0) SV.nil
  refine aU (fun σ' H'=>∃ (v4 v5 v6 v7 v8 v9:Option V) (fa:Addr) (us:List V),σ'=[some (.ref a),some (.str x),some (.int (nn:Int)),some (.ref fa),v4,v5,v6,v7,v8,v9]/\H' fa=some (.lst us)/\FL H' us (gm rows nn e0)/\aa H H') ?_ ?_
  ·intro nx cy
   refine ⟨(nn:Int),rfl,by omega,by omega,?_⟩
   rw [Int.toNat_natCast]
   refine cT (cQ 0 nn) (fun i σ' H'=>∃ (v4 v5 v6 v7 v8 v9:Option V) (fa:Addr) (us:List V),σ'=[some (.ref a),some (.str x),some (.int (nn:Int)),some (.ref fa),v4,v5,v6,v7,v8,v9]/\H' fa=some (.lst us)/\FL H' us (gm rows i e0)/\aa H H') ⟨none,none,none,none,none,none,L,[.ref T1],rfl,z2,Dc,Wl⟩ (fun _ _ _ _ _=>trivial) ?_ (fun σ' H' h=>cy _ _ h)
   rintro i σ' H5 hi z0;refine hdn fun Gz9 zG9=>?_;obtain ⟨v4,v5,v6,v7,v8,v9,fa,us,rfl,q1,q2,q3⟩:=z0;refine zG9 ?_
   have Wm:∀ j,j<=nn->(gm rows j e0).length<=1000:=fun j hj=>by have:=jr j hj;unfold allR at this;rw [Ql] at this;exact this
   have MM:=Wm (i+1) (by omega)
   rw [yL] at MM ⊢
   have MN:∀ q∈gm rows i e0,fu rows ns q.2/\q.1.length=i:=fun q hq=>⟨(rt.G8 hw i e0 ef q hq).2,qR rows i e0 q.1 (List.mem_map.mpr ⟨q,hq,rfl⟩)⟩
   generalize gm rows i e0=F at q2 MM MN ⊢
   have fl:=q2.len
   refine aN ⟨(show 0<=sizeLine by decide),fun Lg MO=>?_⟩
   have tg:=aa.upd MO (.lst [])
   have zg:upd H5 Lg (.lst []) Lg=some (.lst []):=aA
   dsimp only
   generalize upd H5 Lg (.lst [])=H6 at tg zg
   refine aU (fun σ' H'=>∃ (v6 v7 v8 v9:Option V) (zs:List V),σ'=[some (.ref a),some (.str x),some (.int (nn:Int)),some (.ref fa),some (.int ((0:Int)+(i:Int))),some (.ref Lg),v6,v7,v8,v9]/\H' Lg=some (.lst zs)/\FL H' zs (F.flatMap (Ae rows))/\aa H5 H') ?_ ?_
   ·intro vo fh
    refine .inl ⟨⟨_,ak.of (tg _ _ q1)⟩,cT (cK us) (fun t σ' H'=>∃ (v6 v7 v8 v9:Option V) (zs:List V),σ'=[some (.ref a),some (.str x),some (.int (nn:Int)),some (.ref fa),some (.int ((0:Int)+(i:Int))),some (.ref Lg),v6,v7,v8,v9]/\H' Lg=some (.lst zs)/\FL H' zs ((F.take t).flatMap (Ae rows))/\aa H5 H') ⟨_,_,_,_,[],rfl,zg,FL.nil,tg⟩ (by rintro t τ H8 _ ⟨_,_,_,_,_,_,_,_,s⟩;exact ak.of (s _ _ q1)) ?_ ?_⟩
    ·rintro t σ' H7 ht z0;refine hdn fun Gz9 zG9=>?_;obtain ⟨w6,w7,w8,w9,zs,rfl,p1,p2,p3⟩:=z0;refine zG9 ?_
     obtain ⟨c,b,ys,c1,c2,c3,c4⟩:=q2.at_ t ht (by omega)
     have eg:us.getD t .ao=.ref c:=by rw [Qb,Qa ht,c1];rfl
     rw [eg,gJ _ _ t (by omega)]
     have Fz:=nQ (Ae rows) F (t+1)
     rw [gJ _ _ t (by omega),Qk] at Fz
     obtain ⟨hq,IF⟩:=MN _ (Qj (show t < F.length by omega))
     generalize F[t]'(by omega)=q at c2 c4 Fz hq IF ⊢
     refine cI (p3 _ _ c2) ?_
     refine ⟨a,xs,rows,ns,ws,q.2,rfl,rt.tk (q3.trans p3).ts,hw,hq.1,fun M ms H8 hM s8 gM mv=>?_⟩
     have ml:=mv.len
     have Wn:=p3.trans s8
     have Wo:M≠Lg:=fun z=>by rw [z,p1] at hM;cases hM
     have Wg:=c4.len
     refine .inl ⟨⟨_,ak.of gM⟩,cT (cK ms) (fun u σ' H'=>∃ (v8 v9:Option V) (zs:List V),σ'=[some (.ref a),some (.str x),some (.int (nn:Int)),some (.ref fa),some (.int ((0:Int)+(i:Int))),some (.ref Lg),some (.ref b),some (.str q.2),v8,v9]/\H' Lg=some (.lst zs)/\FL H' zs ((F.take t).flatMap (Ae rows)++((bh rows q.2).take u).map fun m=>(q.1++[m.1],m.2))/\aa H5 H'/\H' M=some (.lst ms)/\Tk H8 H') ⟨_,_,zs,rfl,s8 _ _ p1,by simpa using p2.same s8,Wn,gM,Tk.refl⟩ (by rintro u τ H9 _ ⟨_,_,_,_,_,_,_,g,_⟩;exact ak.of g) ?_ ?_⟩
     ·rintro u σ' H9 II z0;refine hdn fun Gz9 zG9=>?_;obtain ⟨Wp,Wq,zs',rfl,r1,r2,r3,r4,r5⟩:=z0;refine zG9 ?_
      obtain ⟨d,st,d1,d2,d3⟩:=mv.at_ u II (by omega)
      have ed:ms.getD u .ao=.ref d:=by rw [Qb,Qa II,d1];rfl
      have Wr:u < (bh rows q.2).length:=by omega
      rw [ed,dO _ u Wr,Qm,<- List.append_assoc]
      have zl:=r2.len
      have zb:zs'.length<=1000:=by
       rw [Qk,Ql,List.length_take] at zl
       have:(Ae rows q).length=(bh rows q.2).length:=by unfold Ae;rw [Ql]
       omega
      generalize (bh rows q.2)[u]=mm at d2 d3 ⊢
      refine cI (r5 _ _ d2) ?_
      refine ⟨.inl ⟨rfl,_,ak.of r1⟩,(show 1<=sizeLine by decide),fun T7 Dq=>?_⟩
      have tq:=aa.upd Dq (.tup [.ref st])
      have yn:upd H9 T7 (.tup [.ref st]) T7=some (.tup [.ref st]):=aA
      dsimp only
      generalize upd H9 T7 (.tup [.ref st])=t_ at tq yn
      have Ws:=(r3.trans tq) _ _ c3
      refine EH Ws yn (by simp;omega) fun fr qu s12 IJ=>?_
      refine ⟨(show 2<=sizeLine by decide),fun T8 Dr=>?_⟩
      have fj:=aa.upd Dr (.tup [.ref fr,.str mm.2])
      have ua:upd qu T8 (.tup [.ref fr,.str mm.2]) T8=some (.tup [.ref fr,.str mm.2]):=aA
      generalize upd qu T8 (.tup [.ref fr,.str mm.2])=mi at fj ua
      have sA:=(tq.trans s12).trans fj
      have rD:=sA _ _ r1
      have tk:Tk mi (upd mi Lg (.lst (zs'++[.ref T8]))):=(Tk.refl).set rD fun _ z=>nomatch z
      have Dz:∀ b' ys,bj mi b' ys->bj (upd mi Lg (.lst (zs'++[.ref T8]))) b' ys:=fun b' ys h=>h.put rD (fun _ z=>nomatch z) (fun _ _ z=>nomatch z)
      refine ⟨Lg,zs',.ref T8,rfl,rfl,rD,by omega,_,_,zs'++[.ref T8],rfl,aA,?_,(r3.trans sA).put MO,by rw [aF Wo];exact sA _ _ r4,(r5.trans sA.ts).trans tk⟩
      refine ((r2.same sA).keep tk Dz).snoc (q:=(q.1++[mm.1],mm.2)) (tk _ _ ua) (tk _ _ (fj _ _ IJ)) (SV.keep ?_ Dz)
      exact ((c4.same (r3.trans sA))).append (SV.one (.inl (sA _ _ (r5 _ _ d3))))
     ·rintro σ' H9 z0;refine hdn fun Gz9 zG9=>?_;obtain ⟨Wp,Wq,zs',rfl,r1,r2,r3,r4,r5⟩:=z0;refine zG9 ?_
      rw [ml,Qo] at r2
      exact ⟨_,_,_,_,zs',rfl,r1,r2,r3⟩
    ·rintro σ' H7 z0;refine hdn fun Gz9 zG9=>?_;obtain ⟨w6,w7,w8,w9,zs,rfl,p1,p2,p3⟩:=z0;refine zG9 ?_
     rw [fl,Qo] at p2
     exact fh _ _ ⟨_,_,_,_,zs,rfl,p1,p2,p3⟩
   ·rintro σ' H7 z0;refine hdn fun Gz9 zG9=>?_;obtain ⟨w6,w7,w8,w9,zs,rfl,p1,p2,p3⟩:=z0;refine zG9 ?_
    exact ⟨_,_,_,_,_,_,Lg,zs,rfl,p1,p2,q3.trans p3⟩
  ·rintro σ' H5 z0;refine hdn fun Gz9 zG9=>?_;obtain ⟨v4,v5,v6,v7,v8,v9,fa,us,rfl,q1,q2,q3⟩:=z0;refine zG9 ?_
   have fl:=q2.len
   have HG:(gm rows nn e0).length<=1000:=by have:=jr nn (Qy _);unfold allR at this;rw [Ql] at this;exact this
   refine .inl ⟨⟨_,ak.of q1⟩,fun D hD=>?_⟩
   refine eW (cK us) (fun t τ H8=>∃ (v0 v1:Option V) (zs:List V),τ=[v0,v1]/\H8 D=some (.lst zs)/\RL H8 zs (((gm rows nn e0).take t).map (·.1))/\aa H5 H8)
    ⟨none,none,[],rfl,aA,RL.nil,aa.upd hD _⟩ (by rintro t τ H8 _ ⟨_,_,_,_,_,_,s⟩;exact ak.of (s _ _ q1)) ?_ ?_
   ·rintro t τ H8 ht ⟨v0,v1,zs,rfl,p1,p2,p3⟩
    obtain ⟨c,b,ys,c1,c2,c3,c4⟩:=q2.at_ t ht (by omega)
    have eg:us.getD t .ao=.ref c:=by rw [Qb,Qa ht,c1];rfl
    rw [eg,dO _ t (show t < (gm rows nn e0).length by omega),Qm]
    have zl:=p2.len
    rw [Ql,List.length_take] at zl
    have tk:Tk H8 (upd H8 D (.lst (zs++[.ref b]))):=(Tk.refl).set p1 fun _ z=>nomatch z
    have rd:∀ b' ys,bj H8 b' ys->bj (upd H8 D (.lst (zs++[.ref b]))) b' ys:=fun b' ys h=>h.put p1 (fun _ z=>nomatch z) (fun _ _ z=>nomatch z)
    refine cI (p3 _ _ c2) ⟨zs,p1,by omega,_,_,_,rfl,aA,(p2.keep tk rd).snoc (tk _ _ (p3 _ _ c3)) ((c4.same p3).keep rd),p3.put hD⟩
   ·rintro τ H8 ⟨v0,v1,zs,rfl,p1,p2,p3⟩
    rw [fl,Qo] at p2
    have p2:RL H8 zs (allR rows nn e0):=p2
    have zl:=p2.len
    have al:=jr nn (Qy _)
    refine ⟨D,zs,_,rfl,p1,by omega,p2,fun i h=>List.pairwise_iff_getElem.mp ML i (i+1) (by omega) h (by omega),fun L' MP=>?_⟩
    have s9:=aa.upd MP (.lst zs)
    exact k L' zs _ ((q3.trans p3).free MP) ((q3.trans p3).trans s9) aA (p2.same s9)
def gp (w:Str):List Str:=w.cps.toList.map fun c=>⟨#[c]⟩
def vz (s w o:Str):Hd:=.prs s ((gp w).map fun c=>(c,o))
def LW:List Str:=["a","b","c","d","e","f","g","h"]
structure GW (w:Str):Prop where
 yd:rising (gp w)=true
 nm:∀ c∈gp w,isName c=true
 lw:∀ c∈gp w,c∈LW
 len:(gp w).length<=8
theorem jL:∀ z∈LW,Wd z:=fun z hz=>by
 have:∀ z∈LW,z.length<=20/\∀ c∈z.cps.toList,c < 128:=by decide+kernel
 exact this z hz
def mj:List Str:=["abcde","defgh","abcdefgh","bcdef"]
def qw:List Str:=["abcdefgh","abcdefgh","abcd","efgh"]
theorem x6:∀ w∈mj++qw,GW w:=fun w hw=>by
 have:∀ w∈mj++qw,rising (gp w)=true/\(∀ c∈gp w,isName c=true)/\(∀ c∈gp w,c∈LW)/\(gp w).length<=8:=by decide+kernel
 obtain ⟨a,b,c,d⟩:=this w hw
 exact ⟨a,b,c,d⟩
def ay (ss ws:List Str):List ae:=("end",.one "all")::(([("x","y"),("y","z"),("z","w"),("w","end")]:List (Str×Str)).zip (ss.zip ws)).map fun t=>(t.1.1,vz t.2.1 t.2.2 t.1.2)
def xh (ws:List Str):Nat:=ws.foldr (fun w n=>(gp w).length*n) 1
theorem wF {vs:List Str} (h:ws.Perm vs):xh ws=xh vs:=by
 induction h with
 | nil=>rfl
 | cons x _ ih=>show (gp x).length*xh _=(gp x).length*xh _;rw [ih]
 | swap x y l=>exact Nat.mul_left_comm _ _ _
 | trans _ _ h1 h2=>exact h1.trans h2
theorem Wt:xh mj=1000:=by decide+kernel
theorem Wu:xh qw=1024:=by decide+kernel
section
variable {rows:List ae} (na:∀ r∈rows,r.2.nx=none) (nd:(rows.map (·.1)).Nodup)
include na
theorem g8 (y:Str):endOf rows y=y:=by
 have:je rows y=none:=by
  unfold je gr
  cases e:rows.find? fun r=>decide (r.1=y) with
  | none=>rfl
  | some r=>exact na r (List.mem_of_find?_eq_some e)
 exact cO _ this
include nd
theorem l6 {e:Str} {h:Hd} (hr:(e,h)∈rows):bh rows e=h.bg:=by
 unfold bh
 rw [g8 na,dP nd hr]
 show h.bg.map _=_
 conv=>rhs;rw [<- List.map_id h.bg]
 exact List.map_congr_left fun m _=>by rw [g8 na];rfl
theorem bV {e s w o:Str} (hr:(e,vz s w o)∈rows) (n:Nat):(allR rows (n+1) e).length=(gp w).length*(allR rows n o).length:=by
 rw [bU,l6 na nd hr,fW]
 show (((((gp w).map fun c=>(c,o)).map fun p=>([if s="box" then "part" else "case",p.1],p.2)):List (List Str×Str)).map fun x=>((allR rows n x.2).map (x.1::·)).length).sum=_
 induction gp w with
 | nil=>simp
 | cons c l ih=>
  rw [List.map_cons,List.map_cons,List.map_cons,List.sum_cons,ih,Ql,List.length_cons,Nat.add_mul,Nat.one_mul,Nat.add_comm]
theorem nS {e s:Str} (hr:(e,Hd.one s)∈rows) (n:Nat):allR rows (n+1) e=[]:=by
 rw [bU,l6 na nd hr];rfl
theorem jK (hs:ss.length=4) (hw:ws.length=4) (hm:∀ r∈ay ss ws,r∈rows):(allR rows 4 "x").length=xh ws/\allR rows 5 "x"=[]:=by
 obtain ⟨s0,s1,s2,s3,rfl⟩:∃ a b c d,ss=[a,b,c,d]:=by
  match ss,hs with
  | [a,b,c,d],_=>exact ⟨a,b,c,d,rfl⟩
 obtain ⟨w0,w1,w2,w3,rfl⟩:∃ a b c d,ws=[a,b,c,d]:=by
  match ws,hw with
  | [a,b,c,d],_=>exact ⟨a,b,c,d,rfl⟩
 have h0:(("x",vz s0 w0 "y"):ae)∈rows:=hm _ (by simp [ay])
 have h1:(("y",vz s1 w1 "z"):ae)∈rows:=hm _ (by simp [ay])
 have h2:(("z",vz s2 w2 "w"):ae)∈rows:=hm _ (by simp [ay])
 have h3:(("w",vz s3 w3 "end"):ae)∈rows:=hm _ (by simp [ay])
 have h4:(("end",Hd.one "all"):ae)∈rows:=hm _ (by simp [ay])
 refine ⟨?_,?_⟩
 ·rw [bV na nd h0,bV na nd h1,bV na nd h2,bV na nd h3,bK];rfl
 ·refine QR ?_
  rw [bV na nd h0,bV na nd h1,bV na nd h2,bV na nd h3,nS na nd h4]
  simp
theorem z4 (hs:ss.length=4) (hw:ws.length=4) (hm:∀ r∈ay ss ws,r∈rows) (h8:∀ w∈ws,(gp w).length<=8):∀ m,m<=3->(allR rows m "x").length<=1000:=by
 obtain ⟨s0,s1,s2,s3,rfl⟩:∃ a b c d,ss=[a,b,c,d]:=by
  match ss,hs with
  | [a,b,c,d],_=>exact ⟨a,b,c,d,rfl⟩
 obtain ⟨w0,w1,w2,w3,rfl⟩:∃ a b c d,ws=[a,b,c,d]:=by
  match ws,hw with
  | [a,b,c,d],_=>exact ⟨a,b,c,d,rfl⟩
 have h0:(("x",vz s0 w0 "y"):ae)∈rows:=hm _ (by simp [ay])
 have h1:(("y",vz s1 w1 "z"):ae)∈rows:=hm _ (by simp [ay])
 have h2:(("z",vz s2 w2 "w"):ae)∈rows:=hm _ (by simp [ay])
 have a0:=h8 w0 (by simp)
 have a1:=h8 w1 (by simp)
 have a2:=h8 w2 (by simp)
 intro m YY
 rcases (show m=0\/m=1\/m=2\/m=3 by omega) with rfl | rfl | rfl | rfl
 ·rw [bK];decide
 ·rw [bV na nd h0,bK]
  exact Nat.le_trans (Nat.mul_le_mul a0 (Qy 1)) (by decide)
 ·rw [bV na nd h0,bV na nd h1,bK]
  exact Nat.le_trans (Nat.mul_le_mul a0 (Nat.mul_le_mul a1 (Qy 1))) (by decide)
 ·rw [bV na nd h0,bV na nd h1,bV na nd h2,bK]
  exact Nat.le_trans (Nat.mul_le_mul a0 (Nat.mul_le_mul a1 (Nat.mul_le_mul a2 (Qy 1)))) (by decide)
theorem iM {e:Str} {h:Hd} (hr:(e,h)∈rows) {m:List Str×Str} (hm:m∈h.bg) {q:Road×Str} (hq:q∈gm rows n m.2):(m.1::q.1,q.2)∈gm rows (n+1) e:=by
 rw [mY,l6 na nd hr]
 exact List.mem_flatMap.mpr ⟨m,hm,List.mem_map.mpr ⟨q,hq,rfl⟩⟩
theorem dY {e o:Str} {h:Hd} {s:List Str} (hr:(e,h)∈rows) (hm:h.bg=[(s,o)]) (n:Nat):allR rows (n+1) e=(allR rows n o).map (s::·):=by
 rw [bU,l6 na nd hr,hm];simp
theorem iI {e o o2:Str} {h:Hd} {s s2:List Str} (hr:(e,h)∈rows) (hm:h.bg=[(s,o),(s2,o2)]) (n:Nat):allR rows (n+1) e=(allR rows n o).map (s::·)++(allR rows n o2).map (s2::·):=by
 rw [bU,l6 na nd hr,hm];simp
end
def bw:List ae:=[("top",.prs "box" [("a","x"),("b","ua")]),("ua",.prs "pick" [("c","ub")]),("ub",.way "uc" "end"),("uc",.prs "box" [("d","ud")])]
def gf:List ae:=[("ud",.prs "box" [("e","end")])]
def gg:List ae:=[("ud",.prs "box" [("e","ue")]),("ue",.prs "box" [("f","end")])]
def A5:List Str:=["end","x","y","z","w"]
def B5:List Str:=["end","x","y","z","w","top","ua","ub","uc","ud"]
def yo:List Str:=["end","x","y","z","w","top","ua","ub","uc","ud","ue"]
def DE:Road:=[["part","b"],["case","c"],["from"],["part","d"],["part","e"]]
structure A6 (ns:List Str) (r:ae):Prop where
 nm:isName r.1=true
 ok:r.2.ok ns
 nx:r.2.nx=none
 ww:∀ z∈r.2.BA,z∈LW
theorem y1 {xs:List V} {rows:List ae} (e:H a=some (.tup xs)) (rv:RV H xs rows) (hn:rows.map (·.1)=ns) (nd:ns.Nodup) (hw:∀ n∈ns,Wd n) (hl:1<=ns.length/\ns.length<=14) (ok:∀ r∈rows,A6 ns r):RT H a xs rows ns LW:=
 ⟨e,rv,by rw [hn],nd,fun r hr=>⟨(ok r hr).nm,(ok r hr).ok⟩,hw,fun r hr y hy=>by rw [(ok r hr).nx] at hy;(cases hy),fun r hr=>(ok r hr).ww,hl.1,hl.2⟩
theorem Wv (Ww:∀ z∈A5,z∈ns) (hs:∀ s∈ss,s="box"\/s="pick") (hw:∀ w∈ws,GW w):∀ r∈ay ss ws,A6 ns r:=fun r hr=>by
 rcases Qp.mp hr with rfl | hr
 ·exact ⟨by decide+kernel,.inl rfl,rfl,fun z hz=>nomatch hz⟩
 ·obtain ⟨t,ht,rfl⟩:=List.mem_map.mp hr
  have h1:=(List.of_mem_zip ht).1
  have h2:=(List.of_mem_zip ht).2
  have hs:=hs _ (List.of_mem_zip h2).1
  have gw:=hw _ (List.of_mem_zip h2).2
  have Wx:∀ t∈([("x","y"),("y","z"),("z","w"),("w","end")]:List (Str×Str)),isName t.1=true/\isName t.2=true/\t.2∈A5:=by decide+kernel
  obtain ⟨n1,n2,n3⟩:=Wx _ h1
  refine ⟨n1,⟨hs,fun p hp=>?_,?_,?_⟩,rfl,fun z hz=>?_⟩
  ·obtain ⟨c,hc,rfl⟩:=List.mem_map.mp hp
   exact ⟨gw.nm c hc,n2,Ww _ n3⟩
  ·rw [Qn]
   show rising ((gp t.2.2).map id)=true
   rw [List.map_id];exact gw.yd
  ·rw [Ql];exact Nat.le_trans gw.len (by decide)
  ·have hz:z∈((gp t.2.2).map fun c=>(c,t.1.2)).map (·.1):=hz
   rw [Qn] at hz
   obtain ⟨c,hc,rfl⟩:=List.mem_map.mp hz
   exact gw.lw c hc
theorem MQ (h1:∀ z∈B5,z∈ns):∀ r∈bw++gf,A6 ns r:=fun r hr=>by
 have hx:∀ {z:Str},z∈B5->z∈ns:=fun h=>h1 _ h
 simp only [bw,gf,List.cons_append,List.nil_append,Qp,QA,or_false] at hr
 rcases hr with rfl | rfl | rfl | rfl | rfl
 ·refine ⟨by decide+kernel,⟨.inl rfl,fun p hp=>?_,by decide+kernel,by decide⟩,rfl,fun z hz=>?_⟩
  ·simp only [Qp,QA,or_false] at hp
   rcases hp with rfl | rfl
   ·exact ⟨by decide+kernel,by decide+kernel,hx (by decide+kernel)⟩
   ·exact ⟨by decide+kernel,by decide+kernel,hx (by decide+kernel)⟩
  ·have:∀ z∈(["a","b"]:List Str),z∈LW:=by decide+kernel
   exact this z hz
 ·refine ⟨by decide+kernel,⟨.inr rfl,fun p hp=>?_,by decide+kernel,by decide⟩,rfl,fun z hz=>?_⟩
  ·rw [List.mem_singleton.mp hp];exact ⟨by decide+kernel,by decide+kernel,hx (by decide+kernel)⟩
  ·have:∀ z∈(["c"]:List Str),z∈LW:=by decide+kernel
   exact this z hz
 ·exact ⟨by decide+kernel,⟨by decide+kernel,by decide+kernel,hx (by decide+kernel),hx (by decide+kernel)⟩,rfl,fun z hz=>nomatch hz⟩
 ·refine ⟨by decide+kernel,⟨.inl rfl,fun p hp=>?_,by decide+kernel,by decide⟩,rfl,fun z hz=>?_⟩
  ·rw [List.mem_singleton.mp hp];exact ⟨by decide+kernel,by decide+kernel,hx (by decide+kernel)⟩
  ·have:∀ z∈(["d"]:List Str),z∈LW:=by decide+kernel
   exact this z hz
 ·refine ⟨by decide+kernel,⟨.inl rfl,fun p hp=>?_,by decide+kernel,by decide⟩,rfl,fun z hz=>?_⟩
  ·rw [List.mem_singleton.mp hp];exact ⟨by decide+kernel,by decide+kernel,hx (by decide+kernel)⟩
  ·have:∀ z∈(["e"]:List Str),z∈LW:=by decide+kernel
   exact this z hz
theorem Wy:∀ r∈gg,A6 yo r:=fun r hr=>by
 simp only [gg,Qp,QA,or_false] at hr
 rcases hr with rfl | rfl
 ·refine ⟨by decide+kernel,⟨.inl rfl,fun p hp=>?_,by decide+kernel,by decide⟩,rfl,fun z hz=>?_⟩
  ·rw [List.mem_singleton.mp hp];exact ⟨by decide+kernel,by decide+kernel,by decide+kernel⟩
  ·have:∀ z∈(["e"]:List Str),z∈LW:=by decide+kernel
   exact this z hz
 ·refine ⟨by decide+kernel,⟨.inl rfl,fun p hp=>?_,by decide+kernel,by decide⟩,rfl,fun z hz=>?_⟩
  ·rw [List.mem_singleton.mp hp];exact ⟨by decide+kernel,by decide+kernel,by decide+kernel⟩
  ·have:∀ z∈(["f"]:List Str),z∈LW:=by decide+kernel
   exact this z hz
theorem y7 (hs:ss.length=4) (hw:ws.length=4):(ay ss ws).map (·.1)=A5:=by
 match ss,ws,hs,hw with
 | [a,b,c,d],[e,f,g,h],_,_=>rfl
theorem yI (hs:ss.length=4) (hw:ws.length=4) (na:∀ r∈ay ss ws++bw++gf,r.2.nx=none) (nd:((ay ss ws++bw++gf).map (·.1)).Nodup):(allR (ay ss ws++bw++gf) 5 "top").length=xh ws+1/\(DE,("end":Str))∈gm (ay ss ws++bw++gf) 5 "top":=by
 have hm:∀ r∈ay ss ws,r∈ay ss ws++bw++gf:=fun r hr=>List.mem_append_left _ (List.mem_append_left _ hr)
 have ht:∀ r∈bw,r∈ay ss ws++bw++gf:=fun r hr=>List.mem_append_left _ (List.mem_append_right _ hr)
 have hl:∀ r∈gf,r∈ay ss ws++bw++gf:=fun r hr=>List.mem_append_right _ hr
 have h4:(("end",Hd.one "all"):ae)∈ay ss ws++bw++gf:=hm _ (by simp [ay])
 have k0:(("top",Hd.prs "box" [("a","x"),("b","ua")]):ae)∈ay ss ws++bw++gf:=ht _ (by simp [bw])
 have k1:(("ua",Hd.prs "pick" [("c","ub")]):ae)∈ay ss ws++bw++gf:=ht _ (by simp [bw])
 have k2:(("ub",Hd.way "uc" "end"):ae)∈ay ss ws++bw++gf:=ht _ (by simp [bw])
 have k3:(("uc",Hd.prs "box" [("d","ud")]):ae)∈ay ss ws++bw++gf:=ht _ (by simp [bw])
 have k5:(("ud",Hd.prs "box" [("e","end")]):ae)∈ay ss ws++bw++gf:=hl _ (by simp [gf])
 obtain ⟨c1,_⟩:=jK na nd hs hw hm
 have m0:(Hd.prs "box" [("a","x"),("b","ua")]).bg=([(["part","a"],"x"),(["part","b"],"ua")]:List (List Str×Str)):=by decide+kernel
 have m1:(Hd.prs "pick" [("c","ub")]).bg=([(["case","c"],"ub")]:List (List Str×Str)):=by decide+kernel
 have m3:(Hd.prs "box" [("d","ud")]).bg=([(["part","d"],"ud")]:List (List Str×Str)):=by decide+kernel
 have m5:(Hd.prs "box" [("e","end")]).bg=([(["part","e"],"end")]:List (List Str×Str)):=by decide+kernel
 refine ⟨?_,?_⟩
 ·rw [iI na nd k0 m0,Qk,Ql,Ql,c1,dY na nd k1 m1,iI na nd k2 rfl,nS na nd h4,dY na nd k3 m3,dY na nd k5 m5,bK]
  rfl
 ·exact iM na nd k0 (m:=(["part","b"],"ua")) (by rw [m0];simp) (iM na nd k1 (m:=(["case","c"],"ub")) (by rw [m1];simp) (iM na nd k2 (m:=(["from"],"uc")) (by simp [Hd.bg]) (iM na nd k3 (m:=(["part","d"],"ud")) (by rw [m3];simp) (iM na nd k5 (m:=(["part","e"],"end")) (by rw [m5];simp) (n:=0) (q:=([],"end")) (List.mem_singleton.mpr rfl)))))
theorem vC (hs:ss.length=4) (hw:ws.length=4) (na:∀ r∈ay ss ws++bw++gg,r.2.nx=none) (nd:((ay ss ws++bw++gg).map (·.1)).Nodup):allR (ay ss ws++bw++gg) 6 "top"=[DE++[([("part":Str),"f"]:List Str)]]:=by
 have hm:∀ r∈ay ss ws,r∈ay ss ws++bw++gg:=fun r hr=>List.mem_append_left _ (List.mem_append_left _ hr)
 have ht:∀ r∈bw,r∈ay ss ws++bw++gg:=fun r hr=>List.mem_append_left _ (List.mem_append_right _ hr)
 have hl:∀ r∈gg,r∈ay ss ws++bw++gg:=fun r hr=>List.mem_append_right _ hr
 have h4:(("end",Hd.one "all"):ae)∈ay ss ws++bw++gg:=hm _ (by simp [ay])
 have k0:(("top",Hd.prs "box" [("a","x"),("b","ua")]):ae)∈ay ss ws++bw++gg:=ht _ (by simp [bw])
 have k1:(("ua",Hd.prs "pick" [("c","ub")]):ae)∈ay ss ws++bw++gg:=ht _ (by simp [bw])
 have k2:(("ub",Hd.way "uc" "end"):ae)∈ay ss ws++bw++gg:=ht _ (by simp [bw])
 have k3:(("uc",Hd.prs "box" [("d","ud")]):ae)∈ay ss ws++bw++gg:=ht _ (by simp [bw])
 have k5:(("ud",Hd.prs "box" [("e","ue")]):ae)∈ay ss ws++bw++gg:=hl _ (by simp [gg])
 have k6:(("ue",Hd.prs "box" [("f","end")]):ae)∈ay ss ws++bw++gg:=hl _ (by simp [gg])
 obtain ⟨_,c2⟩:=jK na nd hs hw hm
 have m0:(Hd.prs "box" [("a","x"),("b","ua")]).bg=([(["part","a"],"x"),(["part","b"],"ua")]:List (List Str×Str)):=by decide+kernel
 have m1:(Hd.prs "pick" [("c","ub")]).bg=([(["case","c"],"ub")]:List (List Str×Str)):=by decide+kernel
 have m3:(Hd.prs "box" [("d","ud")]).bg=([(["part","d"],"ud")]:List (List Str×Str)):=by decide+kernel
 have m5:(Hd.prs "box" [("e","ue")]).bg=([(["part","e"],"ue")]:List (List Str×Str)):=by decide+kernel
 have m6:(Hd.prs "box" [("f","end")]).bg=([(["part","f"],"end")]:List (List Str×Str)):=by decide+kernel
 rw [iI na nd k0 m0,c2,dY na nd k1 m1,iI na nd k2 rfl,nS na nd h4,dY na nd k3 m3,dY na nd k5 m5,dY na nd k6 m6,bK]
 rfl
def MR:Sp:=fun vs H Q _=>∃ (n s w o:Str),vs=[.str n,.str s,.str w,.str o]/\w.length<=100/\∀ (b v:Addr) (H':Hp),aa H H'->H' b=some (.tup [.str n,.ref v])->HV H' (.ref v) (vz s w o)->Q (.ref b) H'
theorem mB (T:Txt K mg w):be P w K mg base 1 "_law_row_to" ["_law_name","_law_sort","_law_words_here","_law_other"] MR:=by
 refine T.pD.fg m8 (fun vs H Q E h=>?_) (fun f av A outer s H vs Q E hr h=>?_)
 ·obtain ⟨n,s,w,o,rfl,_⟩:=h
  rfl
 ·obtain ⟨n,so,wd,o,rfl,hl,k⟩:=h
  have hsz:sizeLine=16777216:=QL
  refine ⟨_,(aH (aZ (aO (aD (zv 0) (aG (aO (aD (zv 1) (aY (cL (f9 K) (by rfl) T.iT QG (cC (jJ (own:=["_law_word"]) (idx:=[3]) (N':=["_law_word","_law_other"]) (bZ (az dL) (["_law_name","_law_sort","_law_words_here","_law_other"]:List Str) (by decide+kernel)) rfl (nM K (zv 2)) (fun _ _ _ _ _ _=>(aJ (i:=0) (show List.Nodup (["_law_word","_law_other"]:List Str) by decide+kernel) rfl (Or.inl rfl))) (fun _ _ _ _ _ _=>cS) (fun _ _ _ _ _ _=>(aO (aD (zv 0) (aD (zv 1) aC))))) aC)) aC))) aC))))),?_⟩
  have ec:∀ i,i < wd.cps.size->(gp wd)[i]? =some ⟨#[wd.cps.getD i 0]⟩:=fun i hi=>by
   unfold gp
   rw [Qq,Array.getElem?_toList,Array.getElem?_eq_getElem hi]
   show some _=some _
   rw [Array.getD_eq_getD_getElem?,Array.getElem?_eq_getElem hi];rfl
  have cl:(gp wd).length=wd.cps.size:=by unfold gp;simp
  have BD:wd.cps.size<=100:=hl
  intro D hD
  refine eW (Q_ wd) (fun i τ H'=>∃ (v0:Option V) (xs:List V),τ=[v0,some (.str o)]/\H' D=some (.lst xs)/\n_ H' xs (((gp wd).take i).map fun c=>(c,o))/\aa H H') ⟨none,[],rfl,aA,⟨rfl,fun i h=>absurd h (by simp)⟩,aa.upd hD _⟩ (fun _ _ _ _ _=>True.intro) ?_ ?_
  ·rintro i τ H1 hi ⟨v0,xs,rfl,q1,q2,q3⟩
   have xl:=q2.len
   rw [Ql,List.length_take] at xl
   refine ⟨(show 2<=sizeLine by decide),fun c hc=>?_⟩
   have s1:=aa.upd hc (.tup [.str ⟨#[wd.cps.getD i 0]⟩,.str o])
   have gc:upd H1 c (.tup [.str ⟨#[wd.cps.getD i 0]⟩,.str o]) c=some (.tup [.str ⟨#[wd.cps.getD i 0]⟩,.str o]):=aA
   dsimp only
   generalize upd H1 c (.tup [.str ⟨#[wd.cps.getD i 0]⟩,.str o])=H2 at s1 gc
   have g1:=s1 _ _ q1
   have tk:Tk H2 (upd H2 D (.lst (xs++[.ref c]))):=(Tk.refl).set g1 (by intro _ z;cases z)
   refine ⟨xs,g1,by omega,_,xs++[.ref c],rfl,aA,?_,(q3.trans s1).put hD⟩
   rw [Qs,ec i hi,Qm]
   exact (q2.tk (s1.ts.trans tk)).snoc (tk _ _ gc)
  ·rintro τ H1 ⟨v0,xs,rfl,q1,q2,q3⟩
   rw [List.take_of_length_le (by omega)] at q2
   refine ⟨D,xs,rfl,.inl ⟨ak.of q1,fun c hc=>⟨(show 2<=sizeLine by decide),fun v hv=>⟨(show 2<=sizeLine by decide),fun b hb=>?_⟩⟩⟩⟩
   have s1:=aa.upd hc (.tup xs)
   have s2:=aa.upd hv (.tup [.str so,.ref c])
   have s3:=aa.upd hb (.tup [.str n,.ref v])
   exact k b v _ (((q3.trans s1).trans s2).trans s3) aA (.prs (s3 _ _ aA) ((s2.trans s3) _ _ aA) (q2.tk ((s1.trans s2).trans s3).ts))
def Wz (p:Str×Str):TE:=ng (dw (tC (.str p.1)) (dw (tC (.str p.2)) kc))
def IM:List (Str×Str)->TA
 | []=>kc
 | p::l=>dw (Wz p) (IM l)
def MS:Hd->TE
 | .prs s ps=>ng (dw (tC (.str s)) (dw (ng (IM ps)) kc))
 | .way x y=>ng (dw (tC (.str "way")) (dw (tC (.str x)) (dw (tC (.str y)) kc)))
 | .one s=>ng (dw (tC (.str s)) kc)
 | .as y=>ng (dw (tC (.str "as")) (dw (tC (.str y)) kc))
def IP:List ae->TA
 | []=>kc
 | r::l=>dw (ng (dw (tC (.str r.1)) (dw (MS r.2) kc))) (IP l)
def IQ:List Str->TA
 | []=>kc
 | z::l=>dw (tC (.str z)) (IQ l)
def IR:Road->TA
 | []=>kc
 | s::l=>dw (ng (IQ s)) (IR l)
theorem n_.app {xs ys:List V} {p q:List (Str×Str)} (h1:n_ H xs p) (h2:n_ H ys q):n_ H (xs++ys) (p++q):=by
 have l1:=h1.len
 refine ⟨by simp [h1.len,h2.len],fun i a b=>?_⟩
 by_cases h:i < xs.length
 ·rw [Qe h,Qe (by omega)]
  exact h1.at_ i h (by omega)
 ·rw [Qf (by omega),Qf (by omega)]
  simp only [<- l1]
  exact h2.at_ _ (by simp at a;omega) (by have:=h2.len;simp at a;omega)
theorem RV.app {xs ys:List V} {p q:List ae} (h1:RV H xs p) (h2:RV H ys q):RV H (xs++ys) (p++q):=by
 have l1:=h1.len
 refine ⟨by simp [h1.len,h2.len],fun i a b=>?_⟩
 by_cases h:i < xs.length
 ·rw [Qe h,Qe (by omega)]
  exact h1.at_ i h (by omega)
 ·rw [Qf (by omega),Qf (by omega)]
  simp only [<- l1]
  exact h2.at_ _ (by simp at a;omega) (by have:=h2.len;simp at a;omega)
theorem RV.left {xs ys:List V} {p q:List ae} (h:RV H (xs++ys) (p++q)) (hl:xs.length=p.length):RV H xs p:=⟨hl,fun i a b=>by
 have:=h.at_ i (by simp;omega) (by simp;omega)
 rw [Qe a,Qe b] at this
 exact this⟩
theorem uM:∀ {ps:List (Str×Str)} {H:Hp} {Q:List V->Hp->Prop},(∀ xs H',aa H H'->n_ H' xs ps->Q xs H')->IM ps σ H Q
 | [],H,Q,k=>k [] H (aa.refl _) ⟨rfl,fun i h=>absurd h (by simp)⟩
 | p::l,H,Q,k=>by
  refine ⟨(show 2<=sizeLine by decide),fun c hc=>uM fun xs H' s' pv=>?_⟩
  have s1:=aa.upd hc (.tup [.str p.1,.str p.2])
  refine k (.ref c::xs) H' (s1.trans s') (n_.app (xs:=[.ref c]) (p:=[p]) ⟨rfl,fun i a b=>?_⟩ pv)
  obtain rfl:i=0:=by simp at a;omega
  exact ⟨c,rfl,s' _ _ aA⟩
theorem WA {h:Hd} {Q:VK} (hl:∀ s ps,h=.prs s ps->ps.length<=100) (k:∀ v H',aa H H'->HV H' v h->Q v H'):MS h σ H Q:=by
 have hsz:sizeLine=16777216:=QL
 cases h with
 | one s=>exact ⟨(show 1<=sizeLine by decide),fun b hb=>k _ _ (aa.upd hb _) (.one aA)⟩
 | as y=>exact ⟨(show 2<=sizeLine by decide),fun b hb=>k _ _ (aa.upd hb _) (.as aA)⟩
 | way x y=>exact ⟨(show 3<=sizeLine by decide),fun b hb=>k _ _ (aa.upd hb _) (.way aA)⟩
 | prs s ps=>
  refine uM fun xs H1 s1 pv=>⟨by have:=pv.len;have:=hl s ps rfl;omega,fun c hc=>⟨(show 2<=sizeLine by decide),fun b hb=>?_⟩⟩
  have s2:=aa.upd hc (.tup xs)
  have s3:=aa.upd hb (.tup [.str s,.ref c])
  exact k _ _ ((s1.trans s2).trans s3) (.prs aA (s3 _ _ aA) (pv.tk (s2.trans s3).ts))
theorem pL:∀ {rows:List ae} {H:Hp} {Q:List V->Hp->Prop},(∀ r∈rows,∀ s ps,r.2=.prs s ps->ps.length<=100)->(∀ xs H',aa H H'->RV H' xs rows->Q xs H')->IP rows σ H Q
 | [],H,Q,_,k=>k [] H (aa.refl _) RV.nil
 | r::l,H,Q,hl,k=>by
  refine WA (hl r (by simp)) fun v H1 s1 hv=>⟨(show 2<=sizeLine by decide),fun b hb=>pL (fun q hq=>hl q (Qh _ hq)) fun xs H2 s2 rv=>?_⟩
  have s3:=aa.upd hb (.tup [.str r.1,v])
  exact k (.ref b::xs) H2 ((s1.trans s3).trans s2) (RV.app (xs:=[.ref b]) (p:=[r]) (RV.nil.snoc (s2 _ _ aA) (hv.tk (s3.trans s2).ts)) rv)
theorem rB:∀ {l:List Str} {H:Hp} {Q:List V->Hp->Prop},Q (l.map V.str) H->IQ l σ H Q
 | [],H,Q,k=>k
 | z::l,H,Q,k=>rB (l:=l) (Q:=fun xs H2=>Q (.str z::xs) H2) k
theorem tN:∀ {rd:Road} {H:Hp} {Q:List V->Hp->Prop},(∀ s∈rd,s.length<=100)->(∀ us H',aa H H'->SV H' us rd->Q us H')->IR rd σ H Q
 | [],H,Q,_,k=>k [] H (aa.refl _) SV.nil
 | s::l,H,Q,hl,k=>by
  have hsz:sizeLine=16777216:=QL
  refine rB ⟨by have:=hl s (by simp);rw [Ql];omega,fun b hb=>tN (fun q hq=>hl q (Qh _ hq)) fun us H2 s2 sv=>?_⟩
  have s3:=aa.upd hb (.tup (s.map V.str))
  exact k (.ref b::us) H2 (s3.trans s2) ((SV.one (m:=s) (.inl (s2 _ _ aA))).append sv)
theorem iY {K:QZ} {xs:List V} {r1 r2:List ae} {Q:VK} (e:H a=some (.tup xs)) (rv:RV H xs r1) (hl:∀ r∈r2,∀ s ps,r.2=.prs s ps->ps.length<=100) (h1:r1.length<=100/\r2.length<=100) (jl:r1≠[]/\r2≠[]) (k:∀ c ys H',aa H H'->H' c=some (.tup ys)->RV H' ys (r1++r2)->Q (.ref c) H'):(ng (IP r2)) σ H (fun y H2=>EG K (.ref a) y H2 Q):=by
 have hsz:sizeLine=16777216:=QL
 refine pL hl fun ys H1 s1 uw=>⟨by have:=uw.len;omega,fun b hb=>?_⟩
 have s2:=aa.upd hb (.tup ys)
 have l1:=rv.len
 have l2:=uw.len
 refine EH ((s1.trans s2) _ _ e) aA (by omega) fun c H3 s3 e3=>?_
 exact k c _ H3 ((s1.trans s2).trans s3) e3 (RV.app (rv.tk ((s1.trans s2).trans s3).ts) (uw.tk (s2.trans s3).ts))
theorem yU {K:QZ} {xs:List V} {r1 r2:Road} {Q:VK} (e:H a=some (.tup xs)) (sv:SV H xs r1) (hl:∀ s∈r2,s.length<=100) (h1:r1.length<=100/\r2.length<=100) (k:∀ c ys H',aa H H'->H' c=some (.tup ys)->SV H' ys (r1++r2)->Q (.ref c) H'):(ng (IR r2)) σ H (fun y H2=>EG K (.ref a) y H2 Q):=by
 have hsz:sizeLine=16777216:=QL
 refine tN hl fun ys H1 s1 DB=>⟨by have:=DB.len;omega,fun b hb=>?_⟩
 have s2:=aa.upd hb (.tup ys)
 have l1:=sv.len
 have l2:=DB.len
 refine EH ((s1.trans s2) _ _ e) aA (by omega) fun c H3 s3 e3=>?_
 exact k c _ H3 ((s1.trans s2).trans s3) e3 ((SV.same sv ((s1.trans s2).trans s3)).append (SV.same DB (s2.trans s3)))
def xj:List Str:=["x","y","z","w","end"]
theorem y2 {s:Str} (hs:ss.length < 4) (hw:ws.length=4):ay (ss++[s]) ws=ay ss ws++[(xj.getD ss.length "",vz s (ws.getD ss.length "") (xj.getD (ss.length+1) ""))]:=by
 match ss,ws,hs,hw with
 | [],[e,f,g,h],_,_=>rfl
 | [a],[e,f,g,h],_,_=>rfl
 | [a,b],[e,f,g,h],_,_=>rfl
 | [a,b,c],[e,f,g,h],_,_=>rfl
theorem IS {l:List Str} (h:j < l.length):ie (l.map V.str) (j:Int)=some (.str (l.getD j "")):=gH (by rw [Qq,Qb,Qa h];rfl)
theorem Kn.FA {ys:List V} (h:Kn mg H x ys) (n:adr mg x≠p) (s:Sm p p H H'):Kn mg H' x ys:=let ⟨o,e⟩:=h;⟨o,s _ _ e n n⟩
def MT (K:QZ) (mg:Str->Option Value):Sp:=fun vs H Q _=>∃ (H0:Hp) (p:Addr) (t:Nat),vs=[.ref p]/\cf K H0 H p t/\t+300 < 900000/\Kn mg H "FROM" [.str "from"]/\Kn mg H "TO" [.str "to"]/\∀ H',cf K H0 H' p (t+250)->Sm p p H H'->Q (.bl true) H'
set_option maxHeartbeats 4000000 in
theorem gW (T : Txt K mg w) : be P w K mg base 10 "_law_bounds_right" ["_law_pen"] (MT K mg) := by
  have aT : be P w K mg base 2 "_law_next" ["_law_pen", "_law_many"] (yk K) := bR T
  have dJ : be P w K mg base 3 "_law_turned" ["_law_pen", "_law_some"] (HP K) := hU T
  have oW : be P w K mg base 1 "_law_row_to" ["_law_name", "_law_sort", "_law_words_here", "_law_other"] MR := mB T
  have cD : be P w K mg base 6 "how_many" ["T", "x", "n"] (Ds mg) := eG T
  have gK : be P w K mg base 7 "roads" ["T", "x", "n"] (IE mg) := rN T
  have yV : be P w K mg base 6 "end_of" ["T", "x", "road"] (MJ mg) := vI T
  have d7 : be P w K mg base 8 "_law_refused" ["_law_told", "_law_name", "_law_n"] (IK mg) := fX T
  have fO : be P w K mg base 6 "_law_listed" ["_law_told", "_law_name", "_law_n"] (IL mg) := gY T
  refine T.i6.fg aM (fun vs H Q E h => ?_) (fun f av A outer s H vs Q E hr h => ?_)
  · obtain ⟨H0, p, t, rfl, _⟩ := h
    rfl
  · obtain ⟨H0, p, t, rfl, hn, ht, kf, kt, k⟩ := h
    have hu := bB hr
    have dm := Qx (bB hr)
    have Ac := kJ hr
    have hsz : sizeLine = 16777216 := QL
    refine ⟨_, (aE (aR (i := 1) aM.nd rfl (Or.inl rfl) (bL (iW (bL (aB aI (aB aI (aB aI (aB aI aC))))) (iW (bL (aB aI (aB aI (aB aI (aB aI aC))))) aC))))
      (aE (aR (i := 2) aM.nd rfl (Or.inl rfl) (bL (aB aI (aB aI (aB aI (aB aI (aB aI aC)))))))
      (aE (d9 PassesOwn.never rfl (nM K (bL (aG (aO (aQ (bH (bG K) (zv 1) aK (fun _ _ => rfl)) (aB aK aC))) (aG (aO (aQ (bH (bG K) (zv 1) aK (fun _ _ => rfl)) (aB aK aC))) aC)))) (bM K (n := 2) rfl (aL (aJ (i := 3) aM.nd rfl (Or.inl rfl)) (aL (aJ (i := 4) aM.nd rfl (Or.inl rfl)) bD))) (aE (aR (i := 3) aM.nd rfl (Or.inl rfl) (bF dJ (hr.mono (by decide)) (aD (zv 0) (aD (zv 3) aC))))
      (aE (aR (i := 5) aM.nd rfl (Or.inl rfl) (bL (aG (aO (aB aI (aG (aO (aB aI aC)) aC))) aC)))
      (aE (d9 PassesOwn.never rfl (dA (by rfl) T.d6 (aB aK aC)) (aJ (i := 6) aM.nd rfl (Or.inl rfl)) (aE (aR (i := 7) aM.nd rfl (Or.inl rfl) (bH (bG K) (bL (aB aI (aB aI aC))) (bF aT (hr.mono (by decide)) (aD (zv 0) (aB aK aC))) (fun _ _ => rfl)))
      (aH (iB (rT K QH QJ QK cP (zv 5) (aY (bF oW (hr.mono (by decide)) (aQ (bH (bG K) (zv 2) (zv 6) (fun _ _ => rfl)) (aD (zv 7) (aQ (bH (bG K) (zv 3) (zv 6) (fun _ _ => rfl)) (aQ (bH (bG K) (zv 2) (bQ cH (zv 6) aK) (fun _ _ => rfl)) aC))))) aC))))))
      (aE (aR (i := 8) aM.nd rfl (Or.inl rfl) (cL (f9 K) (by rfl) T.iT QG (aD (zv 5) aC)))
      (aE (cZ (aX (oY dm) (bC (eQ K rfl) (by rfl) T.AQ PyProof.Rows.boot_sum (aY (bF cD (hr.mono (by decide)) (aD (zv 8) (aB aI (aB aK aC)))) aC)) (zv 4) (eu _)) (aH (aZ iX)) bJ)
      (aE (cZ (wW (aX j8 (zv 4) aK (eu _)) (tE (lQ (jW (bF d7 (hr.mono (by decide)) (aD (zv 8) (aB aI (aB aK aC)))))))).pt (aH (aZ iX)) bJ)
      (aE (cZ (wW (aX (dS dm) (zv 4) aK (eu _)) (tE (aX (i4 Ac) (bF gK (hr.mono (by decide)) (aD (zv 8) (aB aI (aB aK aC)))) (bF fO (hr.mono (by decide)) (aD (zv 8) (aB aI (aB aK aC)))) (eu _)))).pt (aH (aZ iX)) bJ)
      (aE (aR (i := 9) aM.nd rfl (Or.inl rfl) (bQ (eE K) (zv 8) (aO (aG (aO (aB aI (aG (aO (aB aI (aG (aO (aG (aO (aB aI (aB aI aC))) (aG (aO (aB aI (aB aI aC))) aC))) aC))) aC))) (aG (aO (aB aI (aG (aO (aB aI (aG (aO (aG (aO (aB aI (aB aI aC))) aC)) aC))) aC))) aC)))))
      (aE (aR (i := 9) aM.nd rfl (Or.inl rfl) (bQ (eE K) (zv 9) (aO (aG (aO (aB aI (aG (aO (aB aI (aB aI (aB aI aC)))) aC))) (aG (aO (aB aI (aG (aO (aB aI (aG (aO (aG (aO (aB aI (aB aI aC))) aC)) aC))) aC))) aC)))))
      (aE (aR (i := 9) aM.nd rfl (Or.inl rfl) (bQ (eE K) (zv 9) (aO (aG (aO (aB aI (aG (aO (aB aI (aG (aO (aG (aO (aB aI (aB aI aC))) aC)) aC))) aC))) aC))))
      (aE (aR (i := 10) aM.nd rfl (Or.inl rfl) (aO (aG (aO (aB aI (aB aI aC))) (aG (aO (aB aI (aB aI aC))) (aG (aO (aB aI aC)) (aG (aO (aB aI (aB aI aC))) (aG (aO (aB aI (aB aI aC))) aC)))))))
      (aE (cZ (lQ (jW (bF d7 (hr.mono (by decide)) (aD (zv 9) (aB aI (aB aK aC)))))) (aH (aZ iX)) bJ)
      (aE (aR (i := 11) aM.nd rfl (Or.inl rfl) (bQ (eE K) (nU (GD K) (zv 9) nX (oX (Kc x9 aK))) (aO (aG (aO (aB aI (aG (aO (aB aI (aG (aO (aG (aO (aB aI (aB aI aC))) aC)) aC))) aC))) (aG (aO (aB aI (aG (aO (aB aI (aG (aO (aG (aO (aB aI (aB aI aC))) aC)) aC))) aC))) aC)))))
      (aE (cZ (aX (i4 Ac) (bF gK (hr.mono (by decide)) (aD (zv 11) (aB aI (aB aK aC)))) (bL (dW (bQ (eE K) (zv 10) (aO (aG (aO (aB aI (aB aI aC))) aC))) aC)) (eu _)) (aH (aZ iX)) bJ)
      (aH (cZ (aX (oY dm) (bF yV (hr.mono (by decide)) (aD (zv 9) (aB aI (aD (zv 10) aC)))) aI (eu _)) (aH (aZ iX)) bJ)))))))))))))))))
      (aH (aZ iX))))), ?_⟩
    have nF : adr mg "FROM" ≠ p := fun q => by obtain ⟨o, e⟩ := kf; obtain ⟨_, _, _, _, z, _⟩ := hn.ex; rw [q, z] at e; cases e
    have nT : adr mg "TO" ≠ p := fun q => by obtain ⟨o, e⟩ := kt; obtain ⟨_, _, _, _, z, _⟩ := hn.ex; rw [q, z] at e; cases e
    refine aN ⟨(show 4 <= sizeLine by decide), fun A1 MU => ⟨(show 4 <= sizeLine by decide), fun A2 MW => ⟨(show 2 <= sizeLine by decide), fun Tn MX => ?_⟩⟩⟩
    have s1 := aa.upd MU (.lst (mj.map V.str))
    have g1 : upd H A1 (.lst (mj.map V.str)) A1 = some (.lst (mj.map V.str)) := aA
    have s2 : aa (upd H A1 (.lst (mj.map V.str))) (upd (upd H A1 (.lst (mj.map V.str))) A2 (.lst (qw.map V.str))) := aa.upd MW (.lst (qw.map V.str))
    have g2 : upd (upd H A1 (.lst (mj.map V.str))) A2 (.lst (qw.map V.str)) A2 = some (.lst (qw.map V.str)) := aA
    have s3 : aa (upd (upd H A1 (.lst (mj.map V.str))) A2 (.lst (qw.map V.str))) (upd (upd (upd H A1 (.lst (mj.map V.str))) A2 (.lst (qw.map V.str))) Tn (.lst [.ref A1, .ref A2])) := aa.upd MX (.lst [.ref A1, .ref A2])
    have g3 : upd (upd (upd H A1 (.lst (mj.map V.str))) A2 (.lst (qw.map V.str))) Tn (.lst [.ref A1, .ref A2]) Tn = some (.lst [.ref A1, .ref A2]) := aA
    have fj := (s1.trans s2).trans s3
    have g1 := s3 _ _ (s2 _ _ g1)
    have g2 := s3 _ _ g2
    show xu _ _ _ _ (upd (upd (upd H A1 (.lst (mj.map V.str))) A2 (.lst (qw.map V.str))) Tn (.lst [.ref A1, .ref A2]))
    generalize upd (upd (upd H A1 (.lst (mj.map V.str))) A2 (.lst (qw.map V.str))) Tn (.lst [.ref A1, .ref A2]) = H3 at fj g1 g2 g3
    clear s1 s2 s3 MU MW MX
    refine aN ⟨(show 5 <= sizeLine by decide), fun Nm MY => ?_⟩
    have s4 : aa H3 (upd H3 Nm (.lst (xj.map V.str))) := aa.upd MY (.lst (xj.map V.str))
    have gN : upd H3 Nm (.lst (xj.map V.str)) Nm = some (.lst (xj.map V.str)) := aA
    show xu _ _ _ _ (upd H3 Nm (.lst (xj.map V.str)))
    generalize upd H3 Nm (.lst (xj.map V.str)) = H4 at s4 gN
    refine aU (fun σ' H' => cf K H0 H' p (t + 250) /\ Sm p p H H') ?_ (by rintro σ' H' ⟨q1, q2⟩; exact k H' q1 q2)
    intro nx cy
    refine ⟨_, .ref A1, .inl (ak.of (s4 _ _ g3)), rfl, (show 2 <= sizeLine by decide), fun P1 MZ => ?_⟩
    have s5 := aa.upd MZ (.tup [.ref A1, .int 1000])
    have DF : upd H4 P1 (.tup [.ref A1, .int 1000]) P1 = some (.tup [.ref A1, .int 1000]) := aA
    generalize upd H4 P1 (.tup [.ref A1, .int 1000]) = H5 at s5 DF
    refine ⟨_, .ref A2, .inl (ak.of (s5 _ _ (s4 _ _ g3))), rfl, (show 2 <= sizeLine by decide), fun P2 M0 => ?_⟩
    have s6 := aa.upd M0 (.tup [.ref A2, .int 1024])
    have DG : upd H5 P2 (.tup [.ref A2, .int 1024]) P2 = some (.tup [.ref A2, .int 1024]) := aA
    generalize upd H5 P2 (.tup [.ref A2, .int 1024]) = H6 at s6 DG
    refine ⟨(show 2 <= sizeLine by decide), fun Fl M1 => ?_⟩
    have s7 := aa.upd M1 (.lst [.ref P1, .ref P2])
    have gF : upd H6 Fl (.lst [.ref P1, .ref P2]) Fl = some (.lst [.ref P1, .ref P2]) := aA
    generalize upd H6 Fl (.lst [.ref P1, .ref P2]) = HS at s7 gF
    have DF := s7 _ _ (s6 _ _ DF)
    have DG := s7 _ _ DG
    have DH := (s5.trans s6).trans s7
    have gN := DH _ _ gN
    have g1 := DH _ _ (s4 _ _ g1)
    have g2 := DH _ _ (s4 _ _ g2)
    have FD := (fj.trans s4).trans DH
    have hnS := hn.same FD
    clear fj s4 s5 s6 s7 DH g3 MY MZ M0 M1
    have An : ∀ {b : Addr} {xs : List V}, HS b = some (.lst xs) -> xs.length ≠ 3 -> b ≠ p := fun e hl q => by
      obtain ⟨_, _, _, _, z, _⟩ := hnS.ex
      rw [q, z] at e
      cases e
      exact hl rfl
    have WB := An g1 (by decide)
    have WC := An g2 (by decide)
    have nN := An gN (by decide)
    have M3 := An gF (by simp)
    have WD := hnS.LD DF
    have WE := hnS.LD DG
    refine Or.inl ⟨⟨_, ak.of gF⟩, cT (D := { nx := nx, rt := Q }) (cK [.ref P1, .ref P2]) (fun i σ' H' => ∃ (v3 v4 v5 v6 v7 v8 v9 v10 v11 : Option V), σ' = [some (.ref p), some (.ref Tn), some (.ref Nm), v3, v4, v5, v6, v7, v8, v9, v10, v11] /\ cf K H0 H' p (t + 110 * i) /\ Sm p p HS H') ⟨none, none, none, none, none, none, none, none, none, rfl, hnS, Sm.refl⟩ (by rintro i τ H8 _ ⟨_, _, _, _, _, _, _, _, _, _, _, s⟩; exact ak.of (s _ _ gF M3 M3)) ?_ (by rintro σ' H' ⟨_, _, _, _, _, _, _, _, _, _, q1, q2⟩; exact cy _ _ ⟨q1.mono (by show t + 110 * 2 <= t + 250; omega), FD.sm.trans q2⟩)⟩
    rintro i σ' H7 hi z0;refine hdn fun Gz9 zG9=>?_;obtain ⟨v3, v4, v5, v6, v7, v8, v9, v10, v11, rfl, FE, B6⟩:=z0;refine zG9 ?_
    have EI : i < 2 := hi
    obtain ⟨Pi, A, TR, many, eP, gP, gA, nP, nA, FF, DI, M4, YZ⟩ : ∃ (Pi A : Addr) (TR : List Str) (many : Nat), ([V.ref P1, .ref P2] : List V).getD i .ao = .ref Pi /\ HS Pi = some (.tup [.ref A, .int (many : Int)]) /\ HS A = some (.lst (TR.map V.str)) /\ Pi ≠ p /\ A ≠ p /\ xh TR = many /\ (∀ w ∈ TR, GW w) /\ TR.length = 4 /\ (many = 1000 \/ many = 1024) := by
      rcases (show i = 0 \/ i = 1 by omega) with rfl | rfl
      · exact ⟨P1, A1, mj, 1000, rfl, DF, g1, WD, WB, Wt, fun w hw => x6 w (List.mem_append_left _ hw), rfl, .inl rfl⟩
      · exact ⟨P2, A2, qw, 1024, rfl, DG, g2, WE, WC, Wu, fun w hw => x6 w (List.mem_append_right _ hw), rfl, .inr rfl⟩
    rw [eP]
    refine cI (B6 _ _ gP nP nP) ?_
    refine aN ⟨H0, p, A, _, t + 110 * i, rfl, FE, by omega, .inl (ak.of (B6 _ _ gA nA nA)), by rw [Ql]; omega, fun L ys H8 Fx gL perm B7 B8 => ?_⟩
    obtain ⟨ws, FG, rfl⟩ := mO perm
    have wl : ws.length = 4 := by rw [FG.length_eq]; exact M4
    have DI : ∀ w ∈ ws, GW w := fun w hw => DI w (FG.mem_iff.mp hw)
    have FF : xh ws = many := by rw [wF FG]; exact FF
    have M5 := B6.trans B8
    have nL : L ≠ p := FE.ne Fx
    clear perm FG M4
    refine aN (pL (rows := [("end", Hd.one "all")]) (fun r hr s ps e => by rw [List.mem_singleton.mp hr] at e; cases e) fun l_ H9 s9 DJ => ⟨by have := DJ.len; simp at this; omega, fun R hR => ?_⟩)
    have fi := s9.trans (aa.upd hR (.lst l_))
    have M6 : upd H9 R (.lst l_) R = some (.lst l_) := aA
    have DJ := DJ.tk (aa.upd hR (.lst l_)).ts
    dsimp only
    generalize upd H9 R (.lst l_) = Ab at fi M6 DJ
    have DK : H8 R = none := s9.free hR
    have nR : R ≠ p := B7.ne DK
    have WG : R ≠ L := fun e => by rw [e, gL] at DK; cases DK
    have WH : HS R = none := M5.free DK nR nR
    have AW : H0 R = none := B7.free DK
    refine aU (fun σ' H' => ∃ (v6 v7 : Option V) (ss : List Str) (xs : List V), σ' = [some (.ref p), some (.ref Tn), some (.ref Nm), some (.ref L), some (.int (many : Int)), some (.ref R), v6, v7, v8, v9, v10, v11] /\ ss.length = 4 /\ (∀ z ∈ ss, z = "box" \/ z = "pick") /\ H' R = some (.lst xs) /\ RV H' xs (ay ss ws) /\ cf K H0 H' p (t + 110 * i + 104) /\ Sm p p HS H') ?_ ?_
    · intro vo fh
      refine ⟨4, rfl, by decide, by decide, cT (cQ 0 4) (fun j σ' H' => ∃ (v6 v7 : Option V) (ss : List Str) (xs : List V), σ' = [some (.ref p), some (.ref Tn), some (.ref Nm), some (.ref L), some (.int (many : Int)), some (.ref R), v6, v7, v8, v9, v10, v11] /\ ss.length = j /\ (∀ z ∈ ss, z = "box" \/ z = "pick") /\ H' R = some (.lst xs) /\ RV H' xs (ay ss ws) /\ cf K H0 H' p (t + 110 * i + 100 + j) /\ Sm p p HS H' /\ H' L = some (.lst (ws.map V.str))) ⟨_, _, [], l_, rfl, rfl, (fun z hz => nomatch hz), M6, DJ, B7.same fi, M5.trans fi.sm, fi _ _ gL⟩ (fun _ _ _ _ _ => trivial) ?_ (by rintro σ' H' ⟨v6, v7, ss, xs, e, e1, e2, e3, e4, e5, e6, e7⟩; exact fh _ _ ⟨v6, v7, ss, xs, e, e1, e2, e3, e4, e5.mono (by omega), e6⟩)⟩
      rintro j σ' t_ hj z0;refine hdn fun Gz9 zG9=>?_;obtain ⟨v6, v7, ss, xs, rfl, e1, e2, e3, e4, e5, e6, e7⟩:=z0;refine zG9 ?_
      refine aN ⟨(show 2 <= sizeLine by decide), fun B hB => ?_⟩
      have sB : aa t_ (upd t_ B (.lst ((["box", "pick"] : List Str).map V.str))) := aa.upd hB _
      have gB : upd t_ B (.lst ((["box", "pick"] : List Str).map V.str)) B = some (.lst ((["box", "pick"] : List Str).map V.str)) := aA
      refine ⟨H0, p, 2, _, rfl, e5.same sB, ⟨by decide, by decide⟩, by omega, fun r qu r0 r1 IT A7 => ?_⟩
      obtain ⟨so, HW, WI⟩ : ∃ so : Str, ie ((["box", "pick"] : List Str).map V.str) r = some (.str so) /\ (so = "box" \/ so = "pick") := by
        obtain ⟨rn, rfl⟩ := Int.eq_ofNat_of_zero_le r0
        rcases (show rn = 0 \/ rn = 1 by omega) with rfl | rfl
        · exact ⟨"box", rfl, .inl rfl⟩
        · exact ⟨"pick", rfl, .inr rfl⟩
      have nB := e5.ne hB
      refine ⟨_, .str so, .inl (ak.of (A7 _ _ gB nB nB)), HW, ?_⟩
      have WJ := sB.ts.trans ((e5.same sB).ts A7)
      have M7 := A7 _ _ (sB _ _ e3) nR nR
      have M8 := A7 _ _ (sB _ _ e7) nL nL
      have M9 := (e6.trans sB.sm).trans A7
      have M_ := M9 _ _ gN nN nN
      rw [show ((0 : Int) + (j : Int)) = (j : Int) by omega]
      have WK : (ws.getD j "") ∈ ws := by rw [Qb, Qa (show j < ws.length by omega)]; exact Qj _
      refine ⟨.inl ⟨rfl, _, ak.of M7⟩, _, _, .inl (ak.of M_), IS (l := xj) (j := j) (by show j < 5; omega), _, _, .inl (ak.of M8), IS (l := ws) (j := j) (by omega), _, _, .inl (ak.of M_), IS (l := xj) (j := j + 1) (by show j + 1 < 5; omega), _, so, _, _, rfl, ?_, fun b v mi fj eb hv => ?_⟩
      · have := (DI _ WK).len
        have e : (gp (ws.getD j "")).length = (ws.getD j "").length := by unfold gp; simp [Str.length]
        omega
      have Na := fj _ _ M7
      have xl := e4.len
      have ml : (ay ss ws).length <= 5 := by unfold ay; simp; omega
      refine ⟨R, xs, .ref b, rfl, rfl, Na, by omega, ?_⟩
      have IU : Tk mi (upd mi R (.lst (xs ++ [.ref b]))) := (Tk.refl).set Na fun _ z => nomatch z
      subst e1
      refine ⟨_, _, ss ++ [so], xs ++ [.ref b], rfl, by simp, fun z hz => ?_, aA, ?_, ((IT.same fj).put nR AW).mono (by omega), (M9.trans fj.sm).upd WH, by rw [aF WG.symm]; exact fj _ _ M8⟩
      · rcases List.mem_append.mp hz with hz | hz
        · exact e2 z hz
        · rw [List.mem_singleton.mp hz]; exact WI
      · rw [y2 (by omega) wl]
        exact (e4.tk ((WJ.trans fj.ts).trans IU)).snoc (IU _ _ eb) (hv.tk IU)
    rintro σ' t_ z0;refine hdn fun Gz9 zG9=>?_;obtain ⟨v6, v7, ss, xs, rfl, DL, WL, gR, rv, WM, IV⟩:=z0;refine zG9 ?_
    have WO := Kn.FA (kf.same FD) nF IV
    have WQ := Kn.FA (kt.same FD) nT IV
    refine aN ⟨R, xs, rfl, .inl ⟨ak.of gR, fun a ha => ?_⟩⟩
    have sa := aa.upd ha (.tup xs)
    have ga : upd t_ a (.tup xs) a = some (.tup xs) := aA
    dsimp only
    generalize upd t_ a (.tup xs) = qu at sa ga
    have rv := rv.tk sa.ts
    have IT := WM.same sa
    have A7 := IV.trans sa.sm
    have FH := WO.same sa
    have FI := WQ.same sa
    have DM := y7 DL wl
    have IW : ∀ {ns : List Str}, (∀ z ∈ A5, z ∈ ns) -> ∀ r ∈ ay ss ws, A6 ns r := fun h => Wv h WL DI
    have Nb := IW (ns := A5) fun z hz => hz
    have IX : ∀ r ∈ ay ss ws, r.2.nx = none := fun r hr => (Nb r hr).nx
    have Im : ((ay ss ws).map (·.1)).Nodup := by rw [DM]; decide +kernel
    have rt : RT qu a xs (ay ss ws) A5 LW := y1 ga rv DM (by decide +kernel) (fun n hn => by
      have : ∀ z ∈ yo, z.length <= 20 /\ ∀ c ∈ z.cps.toList, c < 128 := by decide +kernel
      exact this n (by have : ∀ z ∈ A5, z ∈ yo := by decide +kernel
                       exact this n hn)) (by decide) Nb
    obtain ⟨WR, Y0⟩ := jK IX Im DL wl (fun r hr => hr)
    have eX : endOf (ay ss ws) "x" = "x" := g8 IX _
    have cnt : (allR (ay ss ws) 4 (endOf (ay ss ws) "x")).length = many := by rw [eX, WR]; exact FF
    refine aU (fun σ' H' => σ' = [some (.ref p), some (.ref Tn), some (.ref Nm), some (.ref L), some (.int (many : Int)), some (.ref R), v6, v7, some (.ref a), v9, v10, v11] /\ aa qu H') ?_ ?_
    · intro vo fh
      refine ⟨a, xs, _, _, _, "x", 4, rfl, rt, jL, by decide +kernel, FH, FI, by decide, fun tt mi fj ua => ?_⟩
      refine ⟨[(Bn (ay ss ws) 4 (endOf (ay ss ws) "x")).1, (Bn (ay ss ws) 4 (endOf (ay ss ws) "x")).2], au.of ua, ?_⟩
      have es : [(Bn (ay ss ws) 4 (endOf (ay ss ws) "x")).1, (Bn (ay ss ws) 4 (endOf (ay ss ws) "x")).2].sum = (many : Int) := by rw [<- cnt, <- kP]; simp
      rw [es]
      refine ⟨rfl, _, rfl, ?_⟩
      rw [pW, Qv rfl]
      exact jt (fh _ _ ⟨rfl, fj⟩)
    rintro σ' mi ⟨rfl, fj⟩
    refine aU (fun σ' H' => σ' = [some (.ref p), some (.ref Tn), some (.ref Nm), some (.ref L), some (.int (many : Int)), some (.ref R), v6, v7, some (.ref a), v9, v10, v11] /\ aa qu H') ?_ ?_
    · intro vo fh
      refine ⟨_, rfl, dz (fun hc => ?_) (fun _ => fh _ _ ⟨rfl, fj⟩)⟩
      have hc := Qt hc
      exact ⟨a, xs, _, _, _, "x", 4, rfl, rt.tk fj.ts, jL, by decide +kernel, FH.same fj, FI.same fj, by decide, by rw [cnt]; omega, fun Nc uc => ⟨true, rfl, jt (fh _ _ ⟨rfl, fj.trans uc⟩)⟩⟩
    rintro σ' Nc ⟨rfl, uc⟩
    refine aU (fun σ' H' => σ' = [some (.ref p), some (.ref Tn), some (.ref Nm), some (.ref L), some (.int (many : Int)), some (.ref R), v6, v7, some (.ref a), v9, v10, v11] /\ aa qu H') ?_ ?_
    · intro vo fh
      refine ⟨rfl, _, rfl, ?_⟩
      rw [QE, pW]
      refine dz (fun hc => ?_) (fun _ => fh _ _ ⟨rfl, uc⟩)
      have hc := Qt hc
      refine ⟨a, xs, _, _, _, "x", 4, rfl, rt.tk uc.ts, jL, by decide +kernel, FH.same uc, FI.same uc, by decide, by rw [cnt]; omega, fun L1 AO WS _ Af WT WU => ?_⟩
      have Nd := uc.trans Af
      refine ⟨a, xs, _, _, _, "x", 4, rfl, rt.tk Nd.ts, jL, by decide +kernel, by decide, ?_, fun L2 CS WV _ DN IY WX => ?_⟩
      · intro m Y3
        rcases Nat.lt_or_ge m 4 with h | h
        · rw [eX]; exact z4 IX Im DL wl (fun r hr => hr) (fun w hw => (DI w hw).len) m (by omega)
        · obtain rfl : m = 4 := by omega
          rw [cnt]; omega
      refine ⟨L1, L2, AO, CS, _, rfl, rfl, DN _ _ WT, IY, WU.same DN, WX, false, rfl, jt (fh _ _ ⟨rfl, Nd.trans DN⟩)⟩
    rintro σ' WS ⟨rfl, Af⟩
    have WY := rv.tk Af.ts
    have ml : (ay ss ws).length = 5 := by have := congrArg List.length DM; rw [Ql] at this; exact this
    have WZ : ay ss ws ≠ [] := by unfold ay; simp
    refine aN (iY (K := K) (a := a) (r1 := ay ss ws) (r2 := [("top", .prs "box" [("a", "x"), ("b", "ua")]), ("ua", .prs "pick" [("c", "ub")])]) (Af _ _ ga) WY (fun r hr s ps e => ?_) ⟨by omega, by decide⟩ ⟨WZ, by simp⟩ fun c1 Y4 WV DN IY W0 => ?_)
    · simp only [Qp, QA, or_false] at hr
      rcases hr with rfl | rfl <;> cases e <;> decide
    refine aN (iY (K := K) (a := c1) (r2 := [("ub", .way "uc" "end"), ("uc", .prs "box" [("d", "ud")])]) IY W0 (fun r hr s ps e => ?_) ⟨by simp [ml], by decide⟩ ⟨by simp, by simp⟩ fun c2 Y5 Y6 W1 W2 W3 => ?_)
    · simp only [Qp, QA, or_false] at hr
      rcases hr with rfl | rfl <;> cases e <;> decide
    refine aN (iY (K := K) (a := c2) (r2 := [("ud", .prs "box" [("e", "end")])]) W2 W3 (fun r hr s ps e => ?_) ⟨by simp [ml], by decide⟩ ⟨by simp, by simp⟩ fun c3 jo Y7 W4 W5 Nf => ?_)
    · rw [List.mem_singleton.mp hr] at e; cases e; decide
    have W6 : ay ss ws ++ ([("top", .prs "box" [("a", "x"), ("b", "ua")]), ("ua", .prs "pick" [("c", "ub")])] : List ae) ++ ([("ub", .way "uc" "end"), ("uc", .prs "box" [("d", "ud")])] : List ae) ++ ([("ud", .prs "box" [("e", "end")])] : List ae) = ay ss ws ++ bw ++ gf := by simp [bw, gf]
    rw [W6] at Nf
    have W7 := (DN.trans W1).trans W4
    refine aN (tN (rd := DE) (by decide +kernel) fun us Ng W8 sv => ⟨by have := sv.len; rw [this, hsz]; decide, fun rd Gb => ?_⟩)
    have FJ := W8.trans (aa.upd Gb (.tup us))
    have IZ : upd Ng rd (.tup us) rd = some (.tup us) := aA
    have sv := SV.same sv (aa.upd Gb (.tup us))
    dsimp only
    generalize upd Ng rd (.tup us) = I0 at FJ IZ sv
    have I_ := (Af.trans W7).trans FJ
    have Nh := FJ _ _ W5
    have Ja := Nf.tk FJ.ts
    have Jb := FH.same I_
    have Jc := FI.same I_
    have Ni : ∀ n ∈ yo, Wd n := fun n hn => by
      have : ∀ z ∈ yo, z.length <= 20 /\ ∀ c ∈ z.cps.toList, c < 128 := by decide +kernel
      exact this n hn
    have Nj : ∀ r ∈ ay ss ws ++ bw ++ gf, A6 B5 r := fun r hr => by
      rw [List.append_assoc] at hr
      rcases List.mem_append.mp hr with hr | hr
      · exact IW (by decide +kernel) r hr
      · exact MQ (fun z hz => hz) r hr
    have Nk : (ay ss ws ++ bw ++ gf).map (·.1) = B5 := by rw [Qm, Qm, DM]; rfl
    have Nl : ∀ r ∈ ay ss ws ++ bw ++ gf, r.2.nx = none := fun r hr => (Nj r hr).nx
    have W9 : ((ay ss ws ++ bw ++ gf).map (·.1)).Nodup := by rw [Nk]; decide +kernel
    have sy : RT I0 c3 jo (ay ss ws ++ bw ++ gf) B5 LW := y1 Nh Ja Nk (by decide +kernel) (fun n hn => Ni n ((show ∀ z ∈ B5, z ∈ yo by decide +kernel) n hn)) (by decide) Nj
    obtain ⟨ll, W_⟩ := yI DL wl Nl W9
    have eT : endOf (ay ss ws ++ bw ++ gf) "top" = "top" := g8 Nl _
    refine aU (fun σ' H' => σ' = [some (.ref p), some (.ref Tn), some (.ref Nm), some (.ref L), some (.int (many : Int)), some (.ref R), v6, v7, some (.ref a), some (.ref c3), some (.ref rd), v11] /\ aa I0 H') ?_ ?_
    · intro vo fh
      exact ⟨c3, jo, _, _, _, "top", 5, rfl, sy, jL, by decide +kernel, Jb, Jc, by decide, by rw [eT, ll, FF]; omega, fun FN DO => ⟨true, rfl, jt (fh _ _ ⟨rfl, DO⟩)⟩⟩
    rintro σ' FN ⟨rfl, DO⟩
    have Y8 := Ja.len
    have Y9 : (ay ss ws ++ bw ++ gf).length = 10 := by rw [Qk, Qk, ml]; rfl
    have l9 : (ay ss ws ++ bw).length = 9 := by rw [Qk, ml]; rfl
    have W' := DO _ _ Nh
    have c9 : kh jo none (some (-1)) = jo.take 9 := by
      unfold kh
      rw [show HT.br jo.length 0 none = 0 from rfl, List.drop_zero, show HT.br jo.length jo.length (some (-1)) = 9 from by
        simp only [HT.br]
        rw [if_pos (by decide)]; omega]
    have Xa : RV FN (jo.take 9) (ay ss ws ++ bw) := by
      refine RV.left (ys := jo.drop 9) (q := gf) ?_ (by rw [List.length_take]; omega)
      rw [List.take_append_drop]
      exact Ja.tk DO.ts
    refine aN ⟨1, rfl, -1, rfl, Or.inr (Or.inr ⟨c3, jo, rfl, au.of W', fun z => ?_, fun c4 Xb => ?_⟩)⟩
    · have := z.2
      rw [show HT.br jo.length jo.length (some (-1)) = ((-1 : Int) + (jo.length : Int)).toNat from rfl] at this
      omega
    rw [c9]
    have Jd := aa.upd Xb (.tup (jo.take 9))
    have Nn : upd FN c4 (.tup (jo.take 9)) c4 = some (.tup (jo.take 9)) := aA
    generalize upd FN c4 (.tup (jo.take 9)) = Y_ at Jd Nn
    refine iY (K := K) (a := c4) (r2 := gg) Nn (Xa.tk Jd.ts) (fun r hr s ps e => ?_) ⟨by omega, by decide⟩ ⟨by simp [bw], by simp [gg]⟩ fun c5 Np Xc Xd Xe Xf => ?_
    · simp only [gg, Qp, QA, or_false] at hr
      rcases hr with rfl | rfl <;> cases e <;> decide
    have Je := (DO.trans Jd).trans Xd
    have Xg := Jb.same Je
    have Xh := Jc.same Je
    have Nq : ∀ r ∈ ay ss ws ++ bw ++ gg, A6 yo r := fun r hr => by
      rw [List.append_assoc] at hr
      rcases List.mem_append.mp hr with hr | hr
      · exact IW (by decide +kernel) r hr
      rcases List.mem_append.mp hr with hr | hr
      · exact MQ (by decide +kernel) r (List.mem_append_left _ hr)
      · exact Wy r hr
    have Nr : (ay ss ws ++ bw ++ gg).map (·.1) = yo := by rw [Qm, Qm, DM]; rfl
    have Nt : ∀ r ∈ ay ss ws ++ bw ++ gg, r.2.nx = none := fun r hr => (Nq r hr).nx
    have Mt : ((ay ss ws ++ bw ++ gg).map (·.1)).Nodup := by rw [Nr]; decide +kernel
    have Xi : RT Xc c5 Np (ay ss ws ++ bw ++ gg) yo LW := y1 Xe Xf Nr (by decide +kernel) Ni (by decide) Nq
    have l3 := vC DL wl Nt Mt
    have Nu : endOf (ay ss ws ++ bw ++ gg) "top" = "top" := g8 Nt _
    refine aU (fun σ' H' => σ' = [some (.ref p), some (.ref Tn), some (.ref Nm), some (.ref L), some (.int (many : Int)), some (.ref R), v6, v7, some (.ref a), some (.ref c3), some (.ref rd), some (.ref c5)] /\ aa I0 H') ?_ ?_
    · intro vo fh
      refine ⟨c5, Np, _, _, _, "top", 6, rfl, Xi, jL, by decide +kernel, Xg, Xh, by decide, by rw [Nu, l3]; decide, fun L1 AO Xj _ xf Xk Nv => ?_⟩
      rw [Nu, l3] at Nv
      have Jf := Je.trans xf
      refine yU (K := K) (a := rd) (r1 := DE) (r2 := [["part", "f"]]) (Jf _ _ IZ) (SV.same sv Jf) (by decide +kernel) ⟨by decide, by decide⟩ fun c7 zs Za Jg Xl Xm => ⟨(show 1 <= sizeLine by decide), fun L2 L4 => ?_⟩
      have DP := aa.upd L4 (.lst [.ref c7])
      exact ⟨L1, L2, AO, _, _, rfl, rfl, (Jg.trans DP) _ _ Xk, aA, Nv.same (Jg.trans DP), RL.nil.snoc (DP _ _ Xl) (SV.same Xm DP), false, rfl, jt (fh _ _ ⟨rfl, (Jf.trans Jg).trans DP⟩)⟩
    rintro σ' Xj ⟨rfl, xf⟩
    have go := (sy.G8 jL 5 "top" ⟨by decide +kernel, eT⟩ _ W_).1
    refine ⟨c3, rd, jo, us, _, _, _, "top", DE, rfl, sy.tk xf.ts, jL, by decide +kernel, Jb.same xf, Jc.same xf, xf _ _ IZ, SV.same sv xf, fun Zb Dv => ?_⟩
    rw [eT, go]
    have Nx := (I_.trans xf).trans Dv
    refine ⟨rfl, _, rfl, jt ⟨_, _, _, _, _, _, _, _, _, rfl, (IT.same Nx).mono (by omega), A7.trans Nx.sm⟩⟩
def Jh (K:QZ) (mg:Str->Option Value):Sp:=fun vs H Q _=>∃ (a:Addr) (ns:List Int),vs=[.ref a]/\ak K H a (ns.map V.int)/\ns.length<=63/\(Kn mg H "FROM" [.str "from"]/\Kn mg H "TO" [.str "to"])/\∀ H',Q (.bl true) H'
theorem xZ {ns:List Int} (hs:ak K H a (ns.map V.int)) (hp:H p=none):cf K H (upd H p (.lst [.ref a,.int 0,.int 0])) p 0:=by
 refine ⟨⟨a,ns,0,0,aA,fun H' sm=>?_,by omega,by omega⟩,(aa.upd hp _).sm⟩
 rcases hs with h | h
 ·refine .inl ?_
  have n:a≠p:=fun z=>by rcases h with h | ⟨o,h⟩<;>(rw [z,hp] at h;cases h)
  exact h.imp (fun e=>sm _ _ e n n) fun ⟨o,e⟩=>⟨o,sm _ _ e n n⟩
 ·exact .inr h
set_option maxHeartbeats 4000000 in
theorem Xn (T:Txt K mg w):be P w K mg base 12 "law" ["script"] (Jh K mg):=by
 have aT:be P w K mg base 2 "_law_next" ["_law_pen","_law_many"] (yk K):=bR T
 have lY:be P w K mg base 5 "_law_telling" ["_law_pen","_law_most"] (LX K):=kT T
 have vL:be P w K mg base 3 "_law_any" ["_law_pen","_law_told"] (L_ K):=sS T
 have gK:be P w K mg base 7 "roads" ["T","x","n"] (IE mg):=rN T
 have cD:be P w K mg base 6 "how_many" ["T","x","n"] (Ds mg):=eG T
 have d7:be P w K mg base 8 "_law_refused" ["_law_told","_law_name","_law_n"] (IK mg):=fX T
 have fO:be P w K mg base 6 "_law_listed" ["_law_told","_law_name","_law_n"] (IL mg):=gY T
 have hV:be P w K mg base 10 "_law_bounds_right" ["_law_pen"] (MT K mg):=gW T
 refine T.Lz.fg fM (fun vs H Q E h=>?_) (fun f av A outer s H vs Q E hr h=>?_)
 ·obtain ⟨a,ns,rfl,_⟩:=h
  rfl
 ·refine hdn fun Gz9 zG9=>?_;obtain ⟨sc,cells,rfl,Xo,Zc,⟨kf,kt⟩,k⟩:=h;refine zG9 ?_
  have hu:=bB hr
  have dm:=Qx (bB hr)
  have Ac:=kJ hr
  have hsz:sizeLine=16777216:=QL
  have hw:∀ z∈WW,Wd z:=fun z hz=>(LL z hz).2
  refine ⟨_,(aE (aR (i:=1) fM.nd rfl (Or.inl rfl) (bL (aD (zv 0) (aB aK (aB aK aC)))))
   (aE (cZ (lQ (jW (bF hV (hr.mono (by decide)) (aD (zv 1) aC)))) (aH (aZ iX)) bJ)
   (aE (d9 PassesOwn.never rfl (dA (by rfl) T.d6 (aB aK aC)) (aJ (i:=2) fM.nd rfl (Or.inl rfl)) (aE (aR (i:=3) fM.nd rfl (Or.inr rfl) (bF lY (hr.mono (by decide)) (aD (zv 1) (aB aK aC))))
   (aE (aR (i:=4) fM.nd rfl (Or.inr rfl) (bF vL (hr.mono (by decide)) (aD (zv 1) (aD (zv 3) aC))))
   (aH (d9 PassesOwn.never rfl (nM K (bL (aY (bF aT (hr.mono (by decide)) (aD (zv 1) (aB aK aC))) (aY (bF aT (hr.mono (by decide)) (aD (zv 1) (aB aK aC))) aC)))) (aJ (i:=5) fM.nd rfl (Or.inl rfl)) (aE (aR (i:=6) fM.nd rfl (Or.inl rfl) (bC (vU K rfl) (by rfl) T.U3 PyProof.Rows.boot_max (cC (jJ (own:=["_law_less"]) (idx:=[3,4]) (N':=["_law_less","_law_told","_law_name"]) (bZ (az jP) (["script","_law_pen","_law_k","_law_told","_law_name","_law_n","_law_most","_law_turn","_law_found"]:List Str) (by decide+kernel)) rfl (dA (by rfl) T.d6 (dW (bQ cH (zv 5) aK) aC)) (fun _ _ _ _ _ _=>(aJ (i:=0) (show List.Nodup (["_law_less","_law_told","_law_name"]:List Str) by decide+kernel) rfl (Or.inl rfl))) (fun _ _ _ _ _ _=>cS) (fun _ _ _ _ _ _=>(bC (eQ K rfl) (by rfl) T.AQ PyProof.Rows.boot_sum (aY (bF cD (hr.mono (by decide)) (aD (zv 1) (aD (zv 2) (aD (zv 0) aC)))) aC)))) aC)))
   (aH (cZ (aX j8 (bC (eQ K rfl) (by rfl) T.AQ PyProof.Rows.boot_sum (aY (bF cD (hr.mono (by decide)) (aD (zv 3) (aD (zv 4) (aD (zv 5) aC)))) aC)) aK (eu _)) (aH (cZ (lQ (jW (bF d7 (hr.mono (by decide)) (aD (zv 3) (aD (zv 4) (aD (zv 5) aC)))))) (aH (aZ iX)) bJ)) (aH (cZ (aX Q2 (zv 6) aK (eu _)) (aH (d9 PassesOwn.never rfl (dA (by rfl) T.d6 (aB aK aC)) (aJ (i:=7) fM.nd rfl (Or.inl rfl)) (aE (aR (i:=8) fM.nd rfl (Or.inl rfl) (bF gK (hr.mono (by decide)) (aD (zv 3) (aD (zv 4) (aD (zv 5) aC)))))
   (aE (cZ (GF (lQ (jW (bC vM (by rfl) T.dM PyProof.Rows.boot_isinstance (aD (zv 8) (aD (z5 (v:=.ty "list") (by rfl) T.u8 PyProof.Rows.boot_list rfl) aC))))) (Kd (aX (i4 Ac) (zv 8) (bF fO (hr.mono (by decide)) (aD (zv 3) (aD (zv 4) (aD (zv 5) aC)))) (eu _)))).pt (aH (aZ iX)) bJ)
   (aH (iB (rT K QH QJ QK cP (zv 8) (aG (aO aC) aC)))))))) bJ))))))))))
   (aH (aZ iX))))),?_⟩
  refine aN ⟨(show 3<=sizeLine by decide),fun p hp=>?_⟩
  have Ny:=xZ Xo hp
  have s0:=aa.upd hp (.lst [.ref sc,.int 0,.int 0])
  have Ji:=kf.same s0
  have Jj:=kt.same s0
  dsimp only
  generalize upd H p (.lst [.ref sc,.int 0,.int 0])=H1 at Ny s0 Ji Jj
  have nF:adr mg "FROM"≠p:=fun q=>by obtain ⟨o,e⟩:=kf;rw [q,hp] at e;cases e
  have nT:adr mg "TO"≠p:=fun q=>by obtain ⟨o,e⟩:=kt;rw [q,hp] at e;cases e
  refine aU (fun σ' H'=>σ'=[some (.ref sc),some (.ref p),none,none,none,none,none,none,none]/\cf K H H' p 250/\Sm p p H1 H') ?_ ?_
  ·intro nx cy
   exact ⟨H,p,0,rfl,Ny,by decide,Ji,Jj,fun H' q1 q2=>⟨true,rfl,jt (cy _ _ ⟨rfl,q1,q2⟩)⟩⟩
  rintro σ' H2 ⟨rfl,hn2,sf⟩
  refine aU (fun _ _=>True) ?_ (fun σ' H' _=>k H')
  intro nx cy
  refine ⟨4,rfl,by decide,by decide,cT (cQ 0 4) (fun i σ' H'=>∃ (v2 v3 v4 v5 v6 v7 v8:Option V),σ'=[some (.ref sc),some (.ref p),v2,v3,v4,v5,v6,v7,v8]/\cf K H H' p (300+700*i)/\Sm p p H1 H') ⟨none,none,none,none,none,none,none,rfl,hn2.mono (by decide),sf⟩ (fun _ _ _ _ _=>trivial) ?_ (fun _ _ _=>cy _ _ trivial)⟩
  rintro i σ' H3 hi z0;refine hdn fun Gz9 zG9=>?_;obtain ⟨v2,v3,v4,v5,v6,v7,v8,rfl,AS,pe⟩:=z0;refine zG9 ?_
  refine aN ⟨H,p,5,_,rfl,AS,by omega,⟨by decide,by decide⟩,fun a xs rows ns H4 rt _ _ vp sr=>?_⟩
  refine aN ⟨H,p,a,_,xs,rows,ns,WW,rfl,vp,by omega,rt,fun x H5 hx zu o_=>?_⟩
  have Xp:=rt.tk (vp.ts o_)
  refine ⟨H,p,4,_,rfl,zu,⟨by decide,by decide⟩,by omega,fun r1 H6 Xq Zd Nz NB=>⟨H,p,21,_,rfl,Nz,⟨by decide,by decide⟩,by omega,fun r2 H7 Xr Ze FE B6=>?_⟩⟩
  obtain ⟨n1,rfl⟩:=Int.eq_ofNat_of_zero_le Xq
  obtain ⟨n2,rfl⟩:=Int.eq_ofNat_of_zero_le Xr
  refine ⟨(show 2<=sizeLine by decide),fun Ns Xs=>?_⟩
  have sN:=aa.upd Xs (.lst [.int (n1:Int),.int (n2:Int)])
  have gN:upd H7 Ns (.lst [.int (n1:Int),.int (n2:Int)]) Ns=some (.lst [.int (n1:Int),.int (n2:Int)]):=aA
  have B9:=((Xp.tk (zu.ts NB)).tk (Nz.ts B6)).tk sN.ts
  have B7:=FE.same sN
  have B8:=((((pe.trans sr).trans o_).trans NB).trans B6).trans sN.sm
  generalize upd H7 Ns (.lst [.int (n1:Int),.int (n2:Int)])=H8 at sN gN B9 B7 B8
  have FO:=Kn.FA Ji nF B8
  have FP:=Kn.FA Jj nT B8
  refine Or.inl ⟨⟨_,ak.of gN⟩,cT (cK [.int (n1:Int),.int (n2:Int)]) (fun j σ' H'=>∃ (v5 v6 v7 v8:Option V),σ'=[some (.ref sc),some (.ref p),some (.int ((0:Int)+(i:Int))),some (.ref a),some (.str x),v5,v6,v7,v8]/\aa H8 H') ⟨_,_,_,_,rfl,aa.refl _⟩ (by rintro j τ H' _ ⟨_,_,_,_,_,s⟩;exact ak.of (s _ _ gN)) ?_ ?_⟩
  rotate_left
  ·rintro σ' H' ⟨_,_,_,_,e,s⟩
   exact ⟨_,_,_,_,_,_,_,e,(B7.same s).mono (by omega),B8.trans s.sm⟩
  rintro j σ' H9 hj ⟨v5,v6,v7,v8,rfl,s9⟩
  have UG:j < 2:=hj
  obtain ⟨n,en,Zf⟩:∃ n:Nat,([V.int (n1:Int),.int (n2:Int)]:List V).getD j .ao=.int (n:Int)/\n<=20:=by
   rcases (show j=0\/j=1 by omega) with rfl | rfl
   ·exact ⟨n1,rfl,by omega⟩
   ·exact ⟨n2,rfl,by omega⟩
  rw [en]
  have es:∀ m,[(Bn rows m (endOf rows x)).1,(Bn rows m (endOf rows x)).2].sum=((allR rows m (endOf rows x)).length:Int):=fun m=>by rw [<- kP];simp
  refine aN ⟨(n:Int)+1,rfl,by omega,by omega,fun D hD=>?_⟩
  rw [show ((n:Int)+1).toNat=n+1 by omega]
  refine eW (cQ 0 (n+1)) (fun l τ H'=>∃ v0:Option V,τ=[v0,some (.ref a),some (.str x)]/\H' D=some (.lst (((List.range l).map fun m=>((allR rows m (endOf rows x)).length:Int)).map V.int))/\aa H9 H') ⟨none,rfl,aA,aa.upd hD _⟩ (fun _ _ _ _ _=>trivial) ?_ ?_
  ·rintro l τ Ab hl ⟨v0,rfl,q1,q2⟩
   have fi:=s9.trans q2
   rw [show ((0:Int)+(l:Int))=(l:Int) by omega]
   refine ⟨a,xs,rows,ns,WW,x,l,rfl,B9.tk fi.ts,hw,hx,FO.same fi,FP.same fi,by omega,fun tt t_ tq yn=>⟨_,au.of (show t_ tt=some (.tup ([(Bn rows l (endOf rows x)).1,(Bn rows l (endOf rows x)).2].map V.int)) from yn),?_⟩⟩
   rw [es]
   refine ⟨_,tq _ _ q1,by simp;omega,_,rfl,?_,(q2.trans tq).put hD⟩
   rw [aA,List.range_succ,Qm,Qm]
   rfl
  rintro τ Ab ⟨v0,rfl,q1,q2⟩
  refine ⟨_,ak.of q1,by simp,fun most hm Xu=>?_⟩
  have fi:=s9.trans q2
  have DQ:most<=1000->∀ m,m<=n->(allR rows m (endOf rows x)).length<=1000:=fun h m Zg=>by
   have:=Xu _ (List.mem_map.mpr ⟨m,List.mem_range.mpr (by omega),rfl⟩)
   omega
  refine ⟨a,xs,rows,ns,WW,x,n,rfl,B9.tk fi.ts,hw,hx,FO.same fi,FP.same fi,by omega,fun tt t_ tq yn=>⟨_,au.of (show t_ tt=some (.tup ([(Bn rows n (endOf rows x)).1,(Bn rows n (endOf rows x)).2].map V.int)) from yn),?_⟩⟩
  rw [es]
  have B_:=fi.trans tq
  refine ⟨_,rfl,dz (fun hc=>?_) (fun hc=>?_)⟩
  ·have hc:=Qt hc
   exact ⟨a,xs,rows,ns,WW,x,n,rfl,B9.tk B_.ts,hw,hx,FO.same B_,FP.same B_,by omega,by omega,fun qu s12=>⟨true,rfl,jt ⟨_,_,_,_,rfl,B_.trans s12⟩⟩⟩
  have hc:=of_decide_eq_false hc
  refine ⟨_,rfl,dz (fun Fb=>?_) (fun _=>⟨_,_,_,_,rfl,B_⟩)⟩
  have DQ:=DQ (Qt Fb)
  refine ⟨2,rfl,by decide,by decide,cT (cQ 0 2) (fun _ σ' H'=>∃ (v7 v8:Option V),σ'=[some (.ref sc),some (.ref p),some (.int ((0:Int)+(i:Int))),some (.ref a),some (.str x),some (.int (n:Int)),some (.int most),v7,v8]/\aa H8 H') ⟨_,_,rfl,B_⟩ (fun _ _ _ _ _=>trivial) ?_ ?_⟩
  rotate_left
  ·rintro σ' H' ⟨_,_,e,s⟩
   exact ⟨_,_,_,_,e,s⟩
  rintro u σ' qu _ ⟨v7,v8,rfl,s12⟩
  refine aN ⟨a,xs,rows,ns,WW,x,n,rfl,B9.tk s12.ts,hw,hx,FO.same s12,FP.same s12,by omega,DQ n (Qy _),fun L us mi hL fj ua NC=>?_⟩
  have Xv:=s12.trans fj
  have Zh:=NC.len
  have gy:=DQ n (Qy _)
  refine ⟨by decide,"list",by unfold GA;dsimp only;rw [ua],_,rfl,jt ?_⟩
  refine ⟨a,xs,rows,ns,WW,x,n,rfl,B9.tk Xv.ts,hw,hx,by omega,DQ,fun L2 CS Nc _ uc Xw Xx=>?_⟩
  refine ⟨L,L2,us,CS,_,rfl,rfl,uc _ _ ua,Xw,NC.same uc,Xx,false,rfl,jt (lF ?_)⟩
  refine ⟨.inl ⟨rfl,_,ak.of (uc _ _ ua)⟩,(show 0<=sizeLine by decide),fun t0 BW=>?_⟩
  have Af:=uc.trans (aa.upd BW (.tup []))
  exact ⟨L,us,.ref t0,rfl,rfl,Af _ _ ua,by omega,_,_,rfl,s12.trans ((fj.trans Af).put hL)⟩
end
theorem XC {K:QZ} (X:K.In h) (G:h.Ns mainGlobals mg) (e:look K=want w):U9 K mg w:=by
 obtain ⟨eF,e⟩:=Prod.mk.inj e
 obtain ⟨eV,e⟩:=Prod.mk.inj e
 obtain ⟨eT,e⟩:=Prod.mk.inj e
 obtain ⟨eD,e⟩:=Prod.mk.inj e
 obtain ⟨eN,e⟩:=Prod.mk.inj e
 obtain ⟨eR,e⟩:=Prod.mk.inj e
 obtain ⟨eU,e⟩:=Prod.mk.inj e
 obtain ⟨eC,e⟩:=Prod.mk.inj e
 obtain ⟨eX,e⟩:=Prod.mk.inj e
 have eS:=e
 obtain ⟨ts,r1,r2,r3⟩:=zD X G eR rfl
 have X':=tP (as:=qm K jb) X
 have nV:=uE X G eR 0 (x:="FROM") rfl
 have HK:=uE X G eR 1 (x:="TO") rfl
 obtain ⟨XD,Zi,XE,XF,oG⟩:=Tz X' G (rQ eD 0 (x:="STEP_WORDS") rfl) rfl (by decide+kernel)
 obtain ⟨Zj,rfl,XG⟩:=K5 XF
 obtain ⟨Zk,rfl,XH⟩:=K5 XG
 obtain rfl:=Tw XH
 refine ⟨ts,r2,by rw [r1];exact Qt eU,?_,fun H hH=>⟨yA (r3 0 "FROM" _ rfl) hH,yA (r3 1 "TO" _ rfl) hH⟩⟩
 rw [r1]
 exact ⟨nn X' G eN 0,
  nn X' G eN 1,
  nn X' G eN 2,
  nn X' G eN 3,
  nn X' G eN 4,
  nn X' G eN 5,
  nn X' G eN 6,
  nn X' G eN 7,
  nn X' G eN 8,
  nn X' G eN 9,
  nn X' G eN 10,
  nn X' G eN 11,
  nn X' G eN 12,
  nn X' G eN 13,
  tu X' G eT 0,
  vl X' G eV 0,
  nV,
  HK,
  ⟨XD,XE,oG⟩,
  AN X' G eF 0,
  AN X' G eF 1,
  AN X' G eF 2,
  BL X' G eF 3,
  BL X' G eF 4,
  BL X' G eF 5,
  AN X' G eF 6,
  vg X' G eF 7,
  vg X' G eF 8,
  vg X' G eF 9,
  vg X' G eF 10,
  vg X' G eF 11,
  vg X' G eF 12,
  AN X' G eF 13,
  BL X' G eF 14,
  vg X' G eF 15,
  vg X' G eF 16,
  vg X' G eF 17,
  vg X' G eF 18,
  vg X' G eF 19,
  BL X' G eF 20,
  BL X' G eF 21,
  Tt X' G eF 22,
  AN X' G eF 23,
  AN X' G eF 24,
  TL X' G eC 0,
  xU X' G eX 0,
  Ll X' G eX 1,
  Ll X' G eX 2,
  xU X' G eX 3,
  cJ X' G eS 0,
  cJ X' G eS 1,
  cJ X' G eS 2,
  cJ X' G eS 3,
  cJ X' G eS 4,
  cJ X' G eS 5,
  cJ X' G eS 6,
  cJ X' G eS 7,
  cJ X' G eS 8,
  cJ X' G eS 9,
  cJ X' G eS 10,
  cJ X' G eS 11,
  cJ X' G eS 12,
  cJ X' G eS 13,
  cJ X' G eS 14,
  cJ X' G eS 15⟩
theorem walk:PySem.W.WalkO view ["STEP_WORDS"] XP (vf look want).says ud.row.toRowW Ag [] (fun f vs=>PySem.call f vs):=
 yX (l:=ud) (n:=63) (k:=12) (x:="script") rfl (by decide) rfl ⟨rfl,by decide,by decide,rfl⟩ fun w mg fa h K X e G Bo=>by
  obtain ⟨ts,u_,nd,T,hk⟩:=XC X G e
  obtain ⟨f,fd,Fu,m,b⟩:=T.Lz
  rw [show Ag.name="law" from rfl,m] at Bo
  cases Bo
  refine ⟨ts,fd,Jh (without K (ts.map (·.1))) mg,u_,nd,fun s u=>?_,fun base kb nb=>?_,fun H a ns hl ht hS=>⟨a,ns,rfl,hS,hl,hk H ht,fun _=>rfl⟩⟩
  ·refine hdn fun Gz9 zG9=>?_;obtain ⟨oc,od,kV,doc,pm,an,av,ct,ia,rfl,lk,jp⟩:=Fu.ex;refine zG9 ?_
   exact .of_eq rfl
  ·refine hdn fun Gz9 zG9=>?_;obtain ⟨f',XI,G',m',k',b',Zl,Zm,Zn,NG⟩:=(Xn T:be ud.prog w (without K (ts.map (·.1))) mg base 12 "law" ["script"] (Jh (without K (ts.map (·.1))) mg));refine zG9 ?_
   rw [m] at m'
   cases m'
   have e:fd=XI:=by
    refine hdn fun Gz9 zG9=>?_;obtain ⟨oc,od,kV,doc,pm,an,av,ct,ia,e1,lk,jp⟩:=Fu.ex;refine zG9 ?_
    rw [lk] at NG
    have:=QD NG
    injection this with _ _ h3 _
    injection h3
   rw [e];exact G'
end T1
open PySem PySem.W PyProof.Rows L2
set_option maxRecDepth 100000 in
set_option maxHeartbeats 0 in
theorem PySem.Challenge.cw_coilkind_k15_roads_of_so_many_steps_holds : PySem.Challenge.rw_coilkind_k15_roads_of_so_many_steps.Holds := by
 refine PySem.W.holds_law T1.said fun said=>?_
 exact PySem.W.holds_open (q:=T1.view) (loose:=["STEP_WORDS"]) (Xt:=fun s=>xlAt T1.view [] s&&recOk [] s) (XP:=XL T1.view []) (Yf:=(vf T1.look T1.want).obs) (Ya:=(vf T1.look T1.want).val) (YP:=(vf T1.look T1.want).says) (N:=4062)
  (yG "special-get-raises" T1.Xz T1.XA) (vf T1.look T1.want).of (vf T1.look T1.want).keeps (fun s e=>xl_of s (Bool.and_eq_true_iff.mp e).1) XL.keeps T1.hdef T1.hprog T1.hkw (fun s e=>recFacts_of (Bool.and_eq_true_iff.mp e).2) rfl (by assumption) T1.hok T1.hbare T1.XJ T1.walk
