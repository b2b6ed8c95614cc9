import PyProof.Rows.All
import Wide.All
import OpenK.AllK
import Wide.FinOn
import Lean
import PyProof.EqAt
import PyProof.EqKinds
import PyProof.TupleCall
import PyProof.DictCompW
import PyProof.AutoListH
import PyProof.EnumMake
import PyProof.ZipIter
import PyProof.AttrMissSeq
import KE.KDictOf
import PyProof.ReprLen
import PyProof.StrLawsRepr
import KE.KUnpackStar
import PyProof.DictWalks
import PyProof.Rows.DictUnroll
import PyProof.Rows.Range3
import PyProof.Rows.ChunkEnd
import PyProof.Rows.ChunkLeaf
import PyProof.StrCalls2
import PyProof.StrLawsTight
import PyProof.StrLawsChain
import PyProof.Rows.StrSplitJoin
import PyProof.Conv_int_bool
import PyProof.Rows.TupMore
import PyProof.StrLawsIn
import PyProof.Rows.StrCut
import PyProof.StrCalls
import PyProof.CallFns
import PyProof.FString5
import PyProof.NsCount
import PyProof.Rows.SetFrom
import PyProof.SetRoads
import KE.KRevIter
import PyProof.CollectIter
import PyProof.TupleOfGen
import KE.KItemsList
import PyProof.NeKinds
import PyProof.DictItems
import KE.KPairComp
import PyProof.SetKind
import PyProof.TupleKey
import PyProof.IsRules
import PyProof.DictValues
import PyProof.SumWalk
import PyProof.ConsumeWalk
import PyProof.SumAny
import PyProof.FactsAll.range_2
import PyProof.WalksMore
import PyProof.MinMaxWalk
import PyProof.SeqI3
import KE.KDictList
import KE.KDictLaws
import KE.KSortTup
import KE.KSetDisp
import KE.KStrOpen
import PyProof.NeData
import PySem.Challenge.RW_coilkind_k23_whole_alike_goes_on
set_option Elab.async false
set_option linter.all false
set_option maxRecDepth 100000
section
open PySem PySem.Spec PyProof.Rows
abbrev Qa := @List.getElem?_eq_getElem
abbrev Qb := @List.getD_eq_getElem?_getD
abbrev Qc := @Heap.get?_push_of_some
abbrev Qd := @Heap.get?_push_size
abbrev Qe := @List.getElem_append_left
abbrev Qf := @List.getElem_append_right
abbrev Qg := @List.getElem?_append_left
abbrev Qh := @List.mem_cons_of_mem
abbrev Qi := @List.getElem_of_mem
abbrev Qj := @List.getElem_mem
abbrev Qk := @List.length_append
abbrev Ql := @List.length_map
abbrev Qm := @List.map_append
abbrev Qn := @List.map_map
abbrev Qo := @List.take_length
abbrev Qp := @List.mem_cons
abbrev Qq := @List.getElem?_map
abbrev Qr := @List.getElem_map
abbrev Qs := @List.take_add_one
abbrev Qt := @of_decide_eq_true
abbrev Qv := @decide_eq_true
abbrev Qw := @decide_eq_false
abbrev Qx := @Nat.lt_of_succ_lt
abbrev Qy := @Nat.le_refl
abbrev Qz := @Heap.lt_size
abbrev QA := @List.mem_nil_iff
abbrev QB := @Function.comp_def
abbrev QC := @List.mem_of_getElem?
abbrev QD := @Option.some.inj
abbrev QE := @Bool.false_xor
abbrev QG := @PyProof.Rows.boot_tuple
abbrev QH := @PySem.F.plainAttrs_list
abbrev QJ := @PySem.F.slot_list_append
abbrev QK := @PySem.F.type_list_append
abbrev QL := @sizeLine_eq
abbrev QS := @List.eq_nil_of_length_eq_zero
abbrev QT := @wpAny_bind
abbrev QU := @wpAny_pure
abbrev Q0 := PySem.W.Frag
end
variable {us:List PySem.Value} {u:PySem.Value} {a b D p C l:PySem.Addr} {h h' base:PySem.Heap} {P prog:PySem.Program} {w:PySem.World} {α:Type} {x z:PySem.Str} {pins:List (PySem.Addr×PySem.Obj)} {s:PySem.Shared} {t' i j n ep:Nat} {ch fp:List PySem.Addr} {N ns ps own N' ws n1 n2:List PySem.Str} {A:PySem.Around} {E Q:PySem.Value->PySem.Shared->Prop} {e tg:PySem.Expr} {op:PySem.CmpOp} {es:Array (Int×PySem.Value)} {body:List PySem.Stmt} {mA mg:PySem.Str->Option PySem.Value} {R:PySem.Result->PySem.Shared->Prop} {kw:List (PySem.Str×PySem.Value)} {env:PySem.Env} {t:PySem.SetTable} {fd:PySem.FuncData} {apos cpos:PySem.Pos} {sc:PySem.Scope} {T:String} {XP:(PySem.Str->Option PySem.Value)->PySem.Heap->Prop} {idx:List Nat} {cl:List (PySem.Str×PySem.Addr)} {ifs AV:List PySem.Expr} {G:Array PySem.GenState->Array PySem.GenState->Prop} {ss:List (List PySem.Str)} {tr:List (Option (Nat×List PySem.Str))}
theorem hdn {p:Prop} (h:∀ G:Prop,(p->G)->G):p:=h p id
namespace L2
open PySem PySem.Spec PyProof.Rows
abbrev Key:=Sum Int Str
end L2
variable {xs:List (List L2.Key×PySem.Addr×PySem.Value)} {vs:List (L2.Key×PySem.Value)} {av:List (List L2.Key×PySem.Addr)} {u_:List (List L2.Key)}
namespace L2
open PySem PySem.Spec PyProof.Rows
def BF:Key->Value->Bool
 | .inl k,v=>Value.isInt k v
 | .inr x,v=>Value.isStrOf x v
def CY (w:World):Key->Int
 | .inl k=>hashInt k
 | .inr x=>hashStr w x
theorem bF:∀ {k:Key} {v:Value},BF k v=true->(∃ i t,k=Sum.inl i/\v=Value.int i t)\/(∃ x t,k=Sum.inr x/\v=Value.str x t)
 | .inl i,v,h=>by
  obtain ⟨t,e⟩:=Value.isInt_shape (k:=i) (v:=v) h
  exact .inl ⟨i,t,rfl,e⟩
 | .inr x,v,h=>by
  obtain ⟨t,e⟩:=Value.isStrOf_shape (x:=x) (v:=v) h
  exact .inr ⟨x,t,rfl,e⟩
theorem vA (i:Int) (t:Tok):BF (.inl i) (.int i t)=true:=by simp [BF,Value.isInt]
theorem tT (x:Str) (t:Tok):BF (.inr x) (.str x t)=true:=by simp [BF,Value.isStrOf]
theorem Oz (a b:Int):decide ((Sum.inl a:Key)=Sum.inl b)=(a==b):=by
 by_cases e:a=b
 ·subst e;simp
 ·have h:¬(Sum.inl a:Key)=Sum.inl b:=fun q=>e (Sum.inl.inj q)
  rw [Qw h]
  exact (beq_eq_false_iff_ne.mpr e).symm
theorem OA (a b:Str):decide ((Sum.inr a:Key)=Sum.inr b)=decide (a=b):=by
 by_cases e:a=b
 ·subst e;simp
 ·have h:¬(Sum.inr a:Key)=Sum.inr b:=fun q=>e (Sum.inr.inj q)
  rw [Qw h,Qw e]
theorem OB (a:Int) (b:Str):decide ((Sum.inl a:Key)=Sum.inr b)=false:=Qw (fun q=>nomatch q)
theorem OC (a:Str) (b:Int):decide ((Sum.inr a:Key)=Sum.inl b)=false:=Qw (fun q=>nomatch q)
def ck (prog:Program) (w:World):PySem.KeyKind prog w Key where
 is:=BF
 hash:=CY w
 inj:=fun v a b ha hb=>by
  rcases bF ha with ⟨i,t,rfl,rfl⟩ | ⟨x,t,rfl,rfl⟩
  ·rcases bF hb with ⟨j,u,rfl,e⟩ | ⟨y,u,rfl,e⟩
   ·injection e with e1 _;rw [e1]
   ·exact nomatch e
  ·rcases bF hb with ⟨j,u,rfl,e⟩ | ⟨y,u,rfl,e⟩
   ·exact nomatch e
   ·injection e with e1 _;rw [e1]
 byValue:=fun k v h=>by
  rcases bF h with ⟨i,t,rfl,rfl⟩ | ⟨x,t,rfl,rfl⟩<;>rfl
 pyHash:=fun hv h=>by
  rcases bF hv with ⟨i,t,rfl,rfl⟩ | ⟨x,t,rfl,rfl⟩
  ·exact wpAny_pyHash_int h
  ·exact wpAny_pyHash_str h
 eqBool:=fun hu hv h=>by
  rcases bF hu with ⟨i,t,rfl,rfl⟩ | ⟨x,t,rfl,rfl⟩
  ·rcases bF hv with ⟨j,u,rfl,rfl⟩ | ⟨y,u,rfl,rfl⟩
   ·rw [Oz] at h;exact wpAny_eqBool_int h
   ·rw [OB] at h;exact SeqAt.EqAt.int_str i t y u _ _ _ _ h
  ·rcases bF hv with ⟨j,u,rfl,rfl⟩ | ⟨y,u,rfl,rfl⟩
   ·rw [OC] at h;exact SeqAt.EqAt.str_int x t j u _ _ _ _ h
   ·rw [OA] at h;exact wpAny_eqBool_str h
 «strs»:=fun k x t v h=>by
  rcases bF h with ⟨i,u,rfl,e⟩ | ⟨y,u,rfl,e⟩
  ·exact nomatch e
  ·injection e with e1 _
   subst e1
   cases v<;>rfl
theorem oR (prog:Program) (w:World) (i:Int) (t:Tok):(ck prog w).is (.inl i) (.int i t)=true:=vA i t
theorem g6 (prog:Program) (w:World) (x:Str) (t:Tok):(ck prog w).is (.inr x) (.str x t)=true:=tT x t
inductive V where
 | ai | bl (b:Bool) | int (i:Int) | str (x:Str) | o_ (b:Array UInt8) | EC (b:UInt64) | ref (a:Addr) | ty (n:String)
 deriving DecidableEq
def RelV:V->Value->Prop
 | .ai,u=>u=Value.none
 | .bl b,u=>u=Value.bool b
 | .int i,u=>∃ t,u=Value.int i t
 | .str x,u=>∃ t,u=Value.str x t
 | .o_ b,u=>∃ t,u=Value.bytes b t
 | .EC b,u=>∃ t,u=Value.float b t
 | .ref a,u=>u=Value.ref a
 | .ty n,u=>u=Value.type n
abbrev a_:List V->List Value->Prop:=Paired RelV
theorem a_.length {xs:List V} {us:List Value} (r:a_ xs us):xs.length=us.length:=Paired.length r
theorem a_.get:∀ {xs:List V} {us:List Value} {i:Nat} {x:V},a_ xs us->xs[i]? =some x->∃ u,us[i]? =some u/\RelV x u
 | _,_,_,_,.nil,e=>by simp at e
 | _,_,0,_,.cons r _,e=>by simp at e;subst e;exact ⟨_,rfl,r⟩
 | _,_,i+1,x,.cons _ t,e=>by
  obtain ⟨u,h1,h2⟩:=a_.get (i:=i) (x:=x) t (by simpa using e)
  exact ⟨u,by simpa using h1,h2⟩
theorem a_.set {x:V} {u:Value} (r:RelV x u):∀ {xs:List V} {us:List Value} (i:Nat),a_ xs us->a_ (xs.set i x) (us.set i u)
 | _,_,_,.nil=>.nil
 | _,_,0,.cons _ t=>.cons r t
 | _,_,i+1,.cons q t=>.cons q (a_.set r i t)
theorem a_.append:∀ {xs ys:List V} {us ws:List Value},a_ xs us->a_ ys ws->a_ (xs++ys) (us++ws)
 | _,_,_,_,.nil,s=>s
 | _,_,_,_,.cons r t,s=>.cons r (a_.append t s)
theorem a_.take:∀ {xs:List V} {us:List Value} (n:Nat),a_ xs us->a_ (xs.take n) (us.take n)
 | _,_,0,_=>.nil
 | _,_,_+1,.nil=>.nil
 | _,_,n+1,.cons r t=>.cons r (a_.take n t)
theorem a_.drop:∀ {xs:List V} {us:List Value} (n:Nat),a_ xs us->a_ (xs.drop n) (us.drop n)
 | _,_,0,r=>r
 | _,_,_+1,.nil=>.nil
 | _,_,n+1,.cons _ t=>a_.drop n t
def lz:Option V->Option Value->Prop
 | some v,some u=>RelV v u
 | none,none=>True
 | _,_=>False
def KV {κ:Type}:List (κ×V)->List (κ×Value)->Prop:=Paired fun (p:κ×V) (q:κ×Value)=>p.1=q.1/\RelV p.2 q.2
def kV:Key->V
 | .inl i=>.int i
 | .inr x=>.str x
inductive HO where
  | lst (xs:List V)
  | tup (xs:List V)
  | dK (kvs:List (Key×V)) | dT (kvs:List (List Key×V))
  | set (S:Int->Bool) (n:Nat)
  | ins (C dx:Addr) (fs:List (Str×V))
  | own (x:Addr)
  | xd (fs:List (Str×V))
  | met (f x:Addr)
  | GO (lo hi:Int)
  | aq (o:Obj) (u:HO)
  | AW (ps:Array Value)
  | ext (φ:Heap->Prop)
abbrev Hp:=Addr->Option HO
end L2
variable {H H' H0:L2.Hp} {o:L2.HO}
namespace L2
open PySem PySem.Spec PyProof.Rows
def upd (H:Hp) (a:Addr) (o:HO):Hp:=fun b=>if b=a then some o else H b
theorem aA:upd H a o a=some o:=by unfold upd;rw [if_pos rfl]
theorem aF (h:b≠a):upd H a o b=H b:=by unfold upd;rw [if_neg h]
theorem nA {u:HO}:upd (upd H a o) a u=upd H a u:=by
 funext b;unfold upd;split<;>rfl
theorem aK (h:H a=some o) (h':H b=none):a≠b:=by
 intro e;subst e;rw [h] at h';cases h'
def AX (h:Heap) (a:Addr):Prop:=∀ o,h.get? a=some o->o.dict=none
theorem AX.new {ob:Obj} (h0:ob.isFreed=false) (hd:ob.dict=none):AX (h.push ob) h.objs.size:=fun o q=>by rw [Qd _ h0] at q;cases q;exact hd
def ao (H:Hp) (b:Addr) (ys:List V):Prop:=H b=some (.tup ys)\/∃ o,H b=some (.aq o (.tup ys))
theorem ao.upd {H:Hp} {b a:Addr} {ys:List V} {o:HO} (r:ao H b ys) (ne:∀ u,H b=some u->b≠a):ao (L2.upd H a o) b ys:=by
 rcases r with r | ⟨ob,r⟩
 ·exact .inl (by rw [aF (ne _ r)];exact r)
 ·exact .inr ⟨ob,by rw [aF (ne _ r)];exact r⟩
section
variable (P:Program) (w:World)
def b_ (H:Hp) (h:Heap) (a:Addr):HO->Prop
 | .lst xs=>xs.length<=sizeLine/\∃ (its:List Value) (n:Nat),a_ xs its/\h.get? a=some {cls:=.type "list",data:=.seq its.toArray n}
 | .tup xs=>(xs.length<=sizeLine/\AX h a)/\∃ its:List Value,a_ xs its/\IsTup h a its.toArray
 | .dK kvs=>kvs.length<=sizeLine/\(a==sysModules)=false/\∃ vs,KV kvs vs/\h.DictOf (ck P w) a vs
 | .dT kvs=>kvs.length<=sizeLine/\(a==sysModules)=false/\∃ xs:List (List Key×Addr×Value),
   Paired (fun (p:List Key×V) (q:List Key×Addr×Value)=>p.1=q.1/\ao H q.2.1 (p.1.map kV)/\RelV p.2 q.2.2) kvs xs/\
   ∃ o es ep,h.get? a=some o/\o.ExactDict/\o.data=.dict es ep/\es.toList=xs.map (entryOfKey (tupleKind (ck P w)))/\(xs.map (·.1)).Nodup
 | .set S n=>h.SetOf (intKind P w) a S n
 | .ins C dx fs=>H dx=some (.own a)/\fs.length<=1000/\dx≠a/\h.get? a=some (PySem.W.instObj C dx)/\
   ∃ mA,h.Ns1 dx mA/\(∀ f,lz (fs.lookup f) (mA f))/\PySem.Within mA (fs.map (·.1))
 | .own _=>∃ o,h.get? a=some o
 | .xd fs=>∃ mA,h.Ns1 a mA/\∀ f,lz (fs.lookup f) (mA f)
 | .GO lo hi=>∃ t u v,h.get? a=some {cls:=.type "range",data:=.fields #[.int lo t,.int hi u,.int 1 v]}
 | .aq o u=>h.get? a=some o/\b_ H h a u
 | .AW ps=>h.get? a=some {cls:=.none,data:=.fields ps}
 | .met f x=>h.get? a=some (PySem.W.methodObj (.ref f) (.ref x))
 | .ext φ=>φ h/\(∃ o,h.get? a=some o)/\∀ h1 h2:Heap,φ h1->(∀ o,h1.get? a=some o->h2.get? a=some o)->φ h2
def e_ (H:Hp) (h:Heap):Prop:=∀ a o,H a=some o->b_ P w H h a o
end
theorem b_.lt (x:b_ P w H h a o):a < h.objs.size:=by
 cases o with
 | lst xs=>obtain ⟨_,_,_,_,e⟩:=x;exact Qz e
 | tup xs=>obtain ⟨_,_,_,p⟩:=x;exact p.lt
 | dK kvs=>obtain ⟨_,_,_,_,o,_,_,e,_⟩:=x;exact Qz e
 | dT kvs=>obtain ⟨_,_,_,_,o,_,_,e,_⟩:=x;exact Qz e
 | set S n=>obtain ⟨o,_,_,_,e,_⟩:=x;exact Qz e
 | ins C dx fs=>obtain ⟨_,_,_,e,_⟩:=x;exact Qz e
 | own y=>obtain ⟨_,e⟩:=x;exact Qz e
 | xd fs=>obtain ⟨_,⟨_,_,_,e,_⟩,_⟩:=x;exact Qz e
 | GO lo hi=>obtain ⟨_,_,_,e⟩:=x;exact Qz e
 | aq ob u=>obtain ⟨e,_⟩:=x;exact Qz e
 | AW ps=>exact Qz (show h.get? a=some _ from x)
 | met f y=>exact Qz (show h.get? a=some _ from x)
 | ext φ=>obtain ⟨_,⟨_,e⟩,_⟩:=x;exact Qz e
theorem Paired.GP {α β:Type} {F G:α->β->Prop}:∀ {l₁:List α} {l₂:List β},Paired F l₁ l₂->(∀ a b,F a b->G a b)->Paired G l₁ l₂
 | _,_,.nil,_=>.nil
 | _,_,.cons r t,f=>.cons (f _ _ r) (Paired.GP t f)
theorem b_.stay (x:b_ P w H h a o) (k:∀ b u,(b=a\/H b=some (.own a))->h.get? b=some u->h'.get? b=some u)
  (ho:∀ b,H b=some (.own a)->H' b=some (.own a)) (ht:∀ b xs,ao H b xs->ao H' b xs):b_ P w H' h' a o:=by
 induction o with
 | lst xs=>obtain ⟨z,its,n,r,e⟩:=x;exact ⟨z,its,n,r,k _ _ (.inl rfl) e⟩
 | tup xs=>obtain ⟨⟨z,nd⟩,its,r,ob,e,c⟩:=x;exact ⟨⟨z,fun o q=>by rw [k _ _ (.inl rfl) e] at q;cases q;exact nd _ e⟩,its,r,ob,k _ _ (.inl rfl) e,c⟩
 | dK kvs=>obtain ⟨z,y,vs,r,ob,es,ep,e,c⟩:=x;exact ⟨z,y,vs,r,ob,es,ep,k _ _ (.inl rfl) e,c⟩
 | dT kvs=>
  obtain ⟨z,y,xs,r,ob,es,ep,e,c⟩:=x
  exact ⟨z,y,xs,Paired.GP r fun p q z=>⟨z.1,ht _ _ z.2.1,z.2.2⟩,ob,es,ep,k _ _ (.inl rfl) e,c⟩
 | set S n=>obtain ⟨ob,es,ep,t,e,c⟩:=x;exact ⟨ob,es,ep,t,k _ _ (.inl rfl) e,c⟩
 | ins C dx fs=>
  obtain ⟨d,z,ne,e,mA,⟨od,es,ep,e2,c⟩,r⟩:=x
  exact ⟨ho _ d,z,ne,k _ _ (.inl rfl) e,mA,⟨od,es,ep,k _ _ (.inr d) e2,c⟩,r⟩
 | own y=>obtain ⟨ob,e⟩:=x;exact ⟨ob,k _ _ (.inl rfl) e⟩
 | xd fs=>obtain ⟨mA,⟨od,es,ep,e,c⟩,r⟩:=x;exact ⟨mA,⟨od,es,ep,k _ _ (.inl rfl) e,c⟩,r⟩
 | GO lo hi=>obtain ⟨t,u,v,e⟩:=x;exact ⟨t,u,v,k _ _ (.inl rfl) e⟩
 | aq ob u ih=>obtain ⟨e,q⟩:=x;exact ⟨k _ _ (.inl rfl) e,ih q⟩
 | AW ps=>
  have e:h.get? a=some {cls:=.none,data:=.fields ps}:=x
  show h'.get? a=some {cls:=.none,data:=.fields ps}
  exact k a _ (.inl rfl) e
 | met f y=>
  have e:h.get? a=some (PySem.W.methodObj (.ref f) (.ref y)):=x
  show h'.get? a=some (PySem.W.methodObj (.ref f) (.ref y))
  exact k a _ (.inl rfl) e
 | ext φ=>obtain ⟨p,⟨o,e⟩,st⟩:=x;exact ⟨st _ _ p fun o q=>k _ _ (.inl rfl) q,⟨o,k _ _ (.inl rfl) e⟩,st⟩
theorem e_.lt (x:e_ P w H h) (e:H a=some o):a < h.objs.size:=(x a o e).lt
theorem e_.fresh (x:e_ P w H h) (e:h.objs.size<=a):H a=none:=by
 cases q:H a with
 | none=>rfl
 | some u=>exact absurd (Nat.lt_of_lt_of_le (x.lt q) e) (Nat.lt_irrefl _)
theorem e_.kept (x:e_ P w H h) (k:∀ b u,h.get? b=some u->h'.get? b=some u):e_ P w H h':=fun a o e=>
 (x a o e).stay (fun b u _ q=>k b u q) (fun _ q=>q) fun _ _ q=>q
theorem e_.laid (x:e_ P w H h) (k:∀ b u,h.get? b=some u->h'.get? b=some u) (hp:h.objs.size<=a) (new:b_ P w (upd H a o) h' a o):e_ P w (upd H a o) h':=fun b u e=>by
 have hn:=x.fresh hp
 by_cases hb:b=a
 ·subst hb;rw [aA] at e;cases e;exact new
 ·rw [aF hb] at e
  exact (x b u e).stay (fun c v _ q=>k c v q) (fun c q=>by rw [aF (aK q hn)];exact q) fun c xs q=>q.upd fun u hu=>aK hu hn
def Rd (H:Hp) (a:Addr) (u:HO):Prop:=H a=some u\/∃ o,H a=some (.aq o u)
theorem Rd.ok {u:HO} (r:Rd H a u) (x:e_ P w H h):b_ P w H h a u:=by
 rcases r with r | ⟨o,r⟩
 ·exact x a u r
 ·obtain ⟨_,q⟩:=x a _ r
  exact q
def CZ:Option HO->Prop
 | some (.lst _)=>True
 | some (.dK _)=>True
 | some (.dT _)=>True
 | some (.set _ _)=>True
 | some (.ins _ _ _)=>True
 | some (.ext _)=>True
 | _=>False
section
variable {x e:Addr} {o':HO}
theorem e_.write (ok:e_ P w H h) (mu:CZ (H x)) (he:e=x\/H e=some (.own x)) (k:∀ b u,b≠e->h.get? b=some u->h'.get? b=some u) (BH:∃ u,h'.get? e=some u)
  (new:b_ P w (upd H x o') h' x o'):e_ P w (upd H x o') h':=fun b u q=>by
 have JY:∀ c y,H c=some (.own y)->c≠x:=fun c y r z=>by subst z;rw [r] at mu;exact mu
 have WY:∀ c xs,H c=some (.tup xs)->c≠x:=fun c xs r z=>by subst z;rw [r] at mu;exact mu
 by_cases hb:b=x
 ·subst hb;rw [aA] at q;cases q;exact new
 ·rw [aF hb] at q
  by_cases AZ:b=e
  ·have q':H b=some (.own x):=by
    rcases he with z | z
    ·exact absurd (AZ.trans z) hb
    ·rw [AZ];exact z
   rw [q] at q';cases q'
   obtain ⟨v,hv⟩:=BH
   exact ⟨v,by rw [AZ];exact hv⟩
  ·refine (ok b u q).stay (fun c v hc r=>k c v ?_ r) (fun c r=>by rw [aF (JY c b r)];exact r) fun c xs r=>r.upd fun _ _ z=>by
    subst z
    rcases r with r | ⟨_,r⟩<;>(rw [r] at mu;exact mu)
   rcases hc with rfl | hc
   ·exact AZ
   ·rintro rfl
    rcases he with z | z
    ·exact JY c b hc z
    ·rw [hc] at z;cases z;exact hb rfl
end
structure Un (fs ex:List Addr) (H H':Hp) (h h':Heap):Prop where
 keep:∀ b o,h.get? b=some o->H b=none->b ∉ fs->b ∉ ex->h'.get? b=some o
 slot:∀ b o,h.get? b=some o->H b=none->b∈fs->b ∉ ex->∃ sl,h'.get? b=some {o with slots:=sl}
 free:∀ b o,h.get? b=some o->H b=none->b ∉ ex->H' b=none
 there:∀ b o,h.get? b=some o->b ∉ ex->∃ o',h'.get? b=some o'
 tups:∀ b xs,H b=some (.tup xs)->H' b=some (.tup xs)
 ua:∀ b o u,H b=some (.aq o u)->H' b=some (.aq o u)
 vc:∀ b ps,H b=some (.AW ps)->∃ more,H' b=some (.AW (ps++more))
section
variable {fs yr ex WZ:List Addr} {H1 H2:Hp} {h1 h2:Heap} {x e:Addr}
theorem Un.any (u:Un fs ex H H1 h h1) {ob:Obj} (q:h.get? b=some ob) (n:H b=none) (hx:b ∉ ex):∃ sl,h1.get? b=some {ob with slots:=sl}:=by
 by_cases hb:b∈fs
 ·exact u.slot b ob q n hb hx
 ·exact ⟨ob.slots,u.keep b ob q n hb hx⟩
theorem Un.trans (a:Un fs ex H H1 h h1) (b:Un fs ex H1 H2 h1 h2):Un fs ex H H2 h h2 where
 keep:=fun c ob q n hc hx=>b.keep c ob (a.keep c ob q n hc hx) (a.free c ob q n hx) hc hx
 slot:=fun c ob q n hc hx=>by
  obtain ⟨sl,e1⟩:=a.slot c ob q n hc hx
  obtain ⟨GQ,e2⟩:=b.slot c _ e1 (a.free c ob q n hx) hc hx
  exact ⟨GQ,e2⟩
 free:=fun c ob q n hx=>by
  obtain ⟨o',e1⟩:=a.there c ob q hx
  exact b.free c o' e1 (a.free c ob q n hx) hx
 there:=fun c ob q hx=>by
  obtain ⟨o',e1⟩:=a.there c ob q hx
  exact b.there c o' e1 hx
 tups:=fun c xs q=>b.tups c xs (a.tups c xs q)
 ua:=fun c ob xs q=>b.ua c ob xs (a.ua c ob xs q)
 vc:=fun c ps q=>by
  obtain ⟨m1,e1⟩:=a.vc c ps q
  obtain ⟨m2,e2⟩:=b.vc c _ e1
  exact ⟨m1++m2,by rw [e2,Array.append_assoc]⟩
theorem Un.kept (k:∀ b u,h.get? b=some u->h'.get? b=some u):Un fs ex H H h h':=
 ⟨fun b ob q _ _ _=>k b ob q,fun b ob q _ _ _=>⟨ob.slots,k b ob q⟩,fun _ _ _ n _=>n,fun b ob q _=>⟨ob,k b ob q⟩,fun _ _ q=>q,fun _ _ _ q=>q,fun _ ps q=>⟨#[],by rw [q];simp⟩⟩
theorem Un.refl:Un fs ex H H h h:=Un.kept fun _ _ q=>q
theorem Un.laid (k:∀ b u,h.get? b=some u->h'.get? b=some u) (hp:h.objs.size<=a) (hn:H a=none):Un fs ex H (upd H a o) h h' where
 keep:=fun b u q _ _ _=>k b u q
 slot:=fun b u q _ _ _=>⟨u.slots,k b u q⟩
 free:=fun b u q n _=>by rw [aF (Nat.ne_of_lt (Nat.lt_of_lt_of_le (Qz q) hp))];exact n
 there:=fun b u q _=>⟨u,k b u q⟩
 tups:=fun b xs q=>by rw [aF (aK q hn)];exact q
 ua:=fun b u xs q=>by rw [aF (aK q hn)];exact q
 vc:=fun b ps q=>⟨#[],by rw [aF (aK q hn),q];simp⟩
theorem Un.write (mu:CZ (H x)) (he:e=x\/H e=some (.own x)) (k:∀ b u,b≠e->h.get? b=some u->h'.get? b=some u) (BH:∃ u,h'.get? e=some u):Un fs ex H (upd H x o) h h':=by
 have hx:∀ b,H b=none->b≠x:=fun b n z=>by subst z;rw [n] at mu;exact mu
 have hb:∀ b,H b=none->b≠e:=fun b n z=>by
  subst z
  rcases he with r | r
  ·exact hx b n r
  ·rw [n] at r;cases r
 have hm:∀ b u,H b=some u->¬CZ (some u)->b≠x:=fun b u q nm z=>by subst z;rw [q] at mu;exact nm mu
 refine ⟨fun b u q n _ _=>k b u (hb b n) q,fun b u q n _ _=>⟨u.slots,k b u (hb b n) q⟩,fun b u q n _=>by rw [aF (hx b n)];exact n,fun b u q _=>?_,
  fun b xs q=>by rw [aF (hm b _ q fun z=>z)];exact q,fun b u xs q=>by rw [aF (hm b _ q fun z=>z)];exact q,fun b ps q=>⟨#[],by rw [aF (hm b _ q fun z=>z),q];simp⟩⟩
 by_cases AZ:b=e
 ·subst AZ;exact BH
 ·exact ⟨u,k b u AZ q⟩
end
def ki (h:Heap) (H:Hp):List Addr:=(List.range h.objs.size).filter fun a=>(H a).isSome
def yt (h:Heap) (H:Hp):Heap:=PySem.W.hideAll h (ki h H)
theorem uX (h:Heap) (H:Hp):(yt h H).objs.size=h.objs.size:=PySem.W.hideAll_size _ _
theorem wQ {o:Obj} (e:h.get? b=some o) (n:H b=none):(yt h H).get? b=some o:=
 PySem.W.hideAll_get _ e fun hm=>by
  have q:(H b).isSome=true:=(List.mem_filter.mp hm).2
  rw [n] at q;simp at q
theorem OD {o:Obj} (e:(yt h H).get? b=some o):h.get? b=some o/\H b=none:=by
 have e':h.get? b=some o:=PySem.W.of_hideAll (ki h H) e
 refine ⟨e',?_⟩
 cases q:H b with
 | none=>rfl
 | some x=>
  have hm:b∈ki h H:=List.mem_filter.mpr ⟨List.mem_range.mpr (Qz e'),by simp [q]⟩
  have z:(yt h H).get? b=none:=PySem.W.hideAll_none (ki h H) hm
  rw [z] at e;cases e
structure Mod (K:Q0) (mg:Str->Option Value) (base:Heap):Prop where
 ED:K.In base
 glob:base.Ns mainGlobals mg
 blt:∃ mb,base.Ns builtinsNs mb/\∀ x:Str,x≠"__name__"->mb x=bootBuiltins x
 nolimit:base.NoLimit
structure Cx where
 prog:Program
 w:World
 K:Q0
 mg:Str->Option Value
 base:Heap
 A:Around
 N:List Str
 s₀:Shared
 H₀:Hp
 env:Env
 outer:List Env
 stack:List Env
 ex:List Addr
 fn:Str->Bool
 calm:Bool
 pn:List (Addr×Obj)
 xe:Value->Shared->Prop
end L2
variable {X:L2.Cx}
namespace L2
open PySem PySem.Spec PyProof.Rows
def kj (l:List Env):List Addr:=l.filterMap (·.frame)
abbrev Cx.fs (X:Cx):List Addr:=kj X.outer
def BI (sc:Scope) (x:Str):Prop:=sc.names.lookup x=some .local\/sc.names.lookup x=some .cell\/sc.names.lookup x=some .free
def Loc (sc:Scope) (x:Str):Prop:=sc.names.lookup x=some .local\/sc.names.lookup x=some .cell
def Look (env:Env) (h:Heap) (m:Str->Option Value) (x:Str) (u:Value):Prop:=
 (env.kindOf x=some .local/\m x=some u)\/((env.kindOf x=some .cell\/env.kindOf x=some .free)/\∃ c,env.cells.lookup x=some c/\h.IsCell c (some u))
structure Cx.Ok (X:Cx):Prop where
 mod:Mod X.K X.mg X.base
 kind:X.env.scope.kind=.function
 glob:X.env.globals=mainGlobals
 blt:X.env.builtins=builtinsNs
 above:X.s₀.heap.objs.size<=X.env.locals
 inj:∀ x y c,X.env.cells.lookup x=some c->X.env.cells.lookup y=some c->x=y
 has:∀ x,(X.env.kindOf x=some .cell\/X.env.kindOf x=some .free)->∃ c,X.env.cells.lookup x=some c
 C0:∀ x c,X.fn x=true->X.env.cells.lookup x=some c->X.s₀.heap.objs.size<=c
 hd:X.calm=true->X.A.handled=none
 frames:X.A.frames=some X.stack
 EE:X.stack=X.outer\/(X.stack=X.env::X.outer/\X.env.frame=some X.env.locals)
 JZ:∀ b∈X.ex,b≠X.env.locals/\∀ x c,X.env.cells.lookup x=some c->c≠b
 bs:∀ b o,X.base.get? b=some o->X.s₀.heap.get? b=some o/\X.H₀ b=none
 yu:X.base.objs.size<=X.s₀.heap.objs.size
 C1:∀ b o,X.base.get? b=some o->b ∉ X.ex
 EF:∀ b∈X.ex,b ∉ X.fs
 uc:X.s₀.heap.FunFrames X.base X.outer
 A0:∀ b∈X.fs,X.H₀ b=none
structure Inv (X:Cx) (pins:List (Addr×Obj)) (σ:List (Option V)) (H:Hp) (s:Shared):Prop where
 ok:X.Ok
 os:s.os=X.s₀.os
 bare:AllBare s.gens
 base:Un X.fs X.ex X.H₀ H X.s₀.heap s.heap
 loc:∃ m,s.heap.Ns X.env.locals m/\∀ (i:Nat) (x:Str) (v:V),X.N[i]? =some x->σ[i]? =some (some v)->BI X.env.scope x->∃ u,RelV v u/\Look X.env s.heap m x u
 cell:∀ x c,X.env.cells.lookup x=some c->∃ v,s.heap.IsCell c v
 free:H X.env.locals=none
 xg:∀ x c,X.env.cells.lookup x=some c->H c=none
 pin:∀ p∈X.pn++pins,s.heap.get? p.1=some p.2/\H p.1=none/\p.1≠X.env.locals/\p.1 ∉ X.fs/\∀ v,p.2.data≠.cell v
 hok:e_ X.prog X.w H s.heap
 len:σ.length=X.N.length
section
variable {σ:List (Option V)}
theorem Cx.Ok.OE (ok:X.Ok) {o:Obj} (e:X.base.get? b=some o):b ∉ X.fs:=fun hb=>by
 have:=(ok.uc.mem hb).1
 rw [e] at this;cases this
theorem Inv.bs (I:Inv X pins σ H s):∀ b o,X.base.get? b=some o->s.heap.get? b=some o/\H b=none:=fun b o e=>
 ⟨I.base.keep b o (I.ok.bs b o e).1 (I.ok.bs b o e).2 (I.ok.OE e) (I.ok.C1 b o e),I.base.free b o (I.ok.bs b o e).1 (I.ok.bs b o e).2 (I.ok.C1 b o e)⟩
theorem Inv.bk (I:Inv X pins σ H s):∀ b o,X.base.get? b=some o->s.heap.get? b=some o:=fun b o e=>(I.bs b o e).1
theorem Inv.mod (I:Inv X pins σ H s):Mod X.K X.mg X.base:=I.ok.mod
theorem Inv.qm (I:Inv X pins σ H s):X.K.In s.heap:=I.ok.mod.ED.keeps I.bk
theorem Inv.lt (I:Inv X pins σ H s):X.env.locals < s.heap.objs.size:=let ⟨_,hn,_⟩:=I.loc;hn.lt
theorem Inv.sz (I:Inv X pins σ H s):X.s₀.heap.objs.size<=s.heap.objs.size:=Nat.le_trans I.ok.above (Nat.le_of_lt I.lt)
theorem Inv.OF (I:Inv X pins σ H s) (h:s.heap.objs.size<=a):a ∉ X.fs:=fun hb=>by
 obtain ⟨_,o,ho,_⟩:=I.ok.uc.mem hb
 exact absurd (Nat.lt_of_lt_of_le (Qz ho) (Nat.le_trans I.sz h)) (Nat.lt_irrefl _)
theorem Inv.A1 (I:Inv X pins σ H s):∀ x c,X.env.cells.lookup x=some c->c≠X.env.locals:=fun x c e z=>by
 obtain ⟨v,o,ho,hd⟩:=I.cell x c e
 obtain ⟨m,⟨o',es,ep,vd,GR,_⟩,_⟩:=I.loc
 rw [z,vd] at ho;cases ho;rw [GR] at hd;cases hd
theorem Inv.uc (I:Inv X pins σ H s):s.heap.FunFrames X.base X.outer:=by
 have all:∀ (l:List Env),(∀ b∈kj l,b∈X.fs)->X.s₀.heap.FunFrames X.base l->s.heap.FunFrames X.base l:=by
  intro l
  induction l with
  | nil=>intro _ _;trivial
  | cons env r ih=>
   intro hs hl
   obtain ⟨hk,⟨L,o,hf,hn,ho,hd⟩,hr⟩:=hl
   have hL:L∈X.fs:=hs L (by unfold kj;rw [List.filterMap_cons,hf];exact List.mem_cons_self)
   obtain ⟨sl,e⟩:=I.base.slot L o ho (I.ok.A0 L hL) hL fun z=>I.ok.EF L z hL
   exact ⟨hk,⟨L,_,hf,hn,e,hd⟩,ih (fun b hb=>hs b (by unfold kj;rw [List.filterMap_cons,hf];exact Qh _ hb)) hr⟩
 exact all X.outer (fun _ hb=>hb) I.ok.uc
theorem Inv.stack (I:Inv X pins σ H s):s.heap.FunFrames X.base X.stack:=by
 rcases I.ok.EE with e | ⟨e,hf⟩
 ·rw [e];exact I.uc
 ·rw [e]
  obtain ⟨m,hn,_⟩:=I.loc
  refine .cons (by rw [I.ok.kind];decide) hf hn ?_ I.uc
  exact Heap.get?_none_of_le (Nat.le_trans I.ok.yu I.ok.above)
theorem Inv.A2 (I:Inv X pins σ H s):∀ b∈kj X.stack,b∈X.env.locals::X.fs:=fun b hb=>by
 rcases I.ok.EE with e | ⟨e,hf⟩
 ·rw [e] at hb;exact Qh _ hb
 ·rw [e] at hb
  unfold kj at hb
  rw [List.filterMap_cons,hf] at hb
  exact hb
theorem Inv.J0 (I:Inv X pins σ H s):∀ b∈kj X.stack,H b=none:=fun b hb=>by
 rcases Qp.mp (I.A2 b hb) with e | hb
 ·rw [e];exact I.free
 ·obtain ⟨_,o,ho,_⟩:=I.ok.uc.mem hb
  exact I.base.free b o ho (I.ok.A0 b hb) fun z=>I.ok.EF b z hb
theorem Inv.step {g':Array GenState} {d':Drawn} (I:Inv X pins σ H s)
  (xh:∀ b∈ch,(b∈X.ex\/X.s₀.heap.objs.size<=b)/\b≠X.env.locals/\(∀ x c,X.env.cells.lookup x=some c->c≠b)/\∀ p∈X.pn++pins,p.1≠b)
  (keep:∀ b o,b≠X.env.locals->b ∉ X.fs->b ∉ ch->s.heap.get? b=some o->H b=none->h'.get? b=some o)
  (slot:∀ b o,b≠X.env.locals->b∈X.fs->b ∉ ch->s.heap.get? b=some o->H b=none->∃ sl,h'.get? b=some {o with slots:=sl}) (free:∀ b o,b ∉ ch->s.heap.get? b=some o->H b=none->H' b=none)
  (there:∀ b o,b ∉ ch->s.heap.get? b=some o->∃ o',h'.get? b=some o')
  (tups:∀ b xs,H b=some (.tup xs)->H' b=some (.tup xs)) (ua:∀ b o u,H b=some (.aq o u)->H' b=some (.aq o u)) (vc:∀ b ps,H b=some (.AW ps)->∃ more,H' b=some (.AW (ps++more)))
  (ns:∀ m,s.heap.Ns X.env.locals m->h'.Ns X.env.locals m) (hok:e_ X.prog X.w H' h') (hg:AllBare g'):
  Inv X pins σ H' {s with heap:=h',gens:=g',drawn:=d',toks:=t'}:=by
 have J2:∀ b o,X.s₀.heap.get? b=some o->b≠X.env.locals:=fun b o e=>Nat.ne_of_lt (Nat.lt_of_lt_of_le (Qz e) I.ok.above)
 have EG:∀ b o,X.s₀.heap.get? b=some o->b ∉ X.ex->b ∉ ch:=fun b o e hx hb=>by
  rcases (xh b hb).1 with z | z
  ·exact hx z
  ·exact absurd (Nat.lt_of_lt_of_le (Qz e) z) (Nat.lt_irrefl _)
 have cellK:∀ x c,X.env.cells.lookup x=some c->∀ v,s.heap.IsCell c v->h'.IsCell c v:=fun x c e v ⟨o,ho,hd⟩=>by
  have ve:c ∉ ch:=fun z=>(xh c z).2.2.1 x c e rfl
  by_cases hc:c∈X.fs
  ·obtain ⟨sl,q⟩:=slot c o (I.A1 x c e) hc ve ho (I.xg x c e)
   exact ⟨_,q,hd⟩
  ·exact ⟨o,keep c o (I.A1 x c e) hc ve ho (I.xg x c e),hd⟩
 refine ⟨I.ok,I.os,hg,⟨fun b o e n hb hx=>?_,fun b o e n hb hx=>?_,fun b o e n hx=>?_,fun b o e hx=>?_,fun b xs e=>tups b xs (I.base.tups b xs e),fun b o xs e=>ua b o xs (I.base.ua b o xs e),fun b ps e=>?_⟩,?_,fun x c e=>?_,?_,fun x c e=>?_,fun p hp=>?_,hok,I.len⟩
 ·exact keep b o (J2 b o e) hb (EG b o e hx) (I.base.keep b o e n hb hx) (I.base.free b o e n hx)
 ·obtain ⟨sl,e1⟩:=I.base.slot b o e n hb hx
  obtain ⟨GQ,e2⟩:=slot b _ (J2 b o e) hb (EG b o e hx) e1 (I.base.free b o e n hx)
  exact ⟨GQ,e2⟩
 ·obtain ⟨o',e1⟩:=I.base.there b o e hx
  exact free b o' (EG b o e hx) e1 (I.base.free b o e n hx)
 ·obtain ⟨o',e1⟩:=I.base.there b o e hx
  exact there b o' (EG b o e hx) e1
 ·obtain ⟨m1,e1⟩:=I.base.vc b ps e
  obtain ⟨m2,e2⟩:=vc b _ e1
  exact ⟨m1++m2,by rw [e2,Array.append_assoc]⟩
 ·obtain ⟨m,hn,hl⟩:=I.loc
  refine ⟨m,ns m hn,fun i x v e1 e2 e3=>?_⟩
  obtain ⟨u,r,l⟩:=hl i x v e1 e2 e3
  refine ⟨u,r,?_⟩
  rcases l with l | ⟨k,c,e,z⟩
  ·exact .inl l
  ·exact .inr ⟨k,c,e,cellK x c e _ z⟩
 ·obtain ⟨v,z⟩:=I.cell x c e
  exact ⟨v,cellK x c e v z⟩
 ·obtain ⟨m,⟨o,_,_,ho,_⟩,_⟩:=I.loc
  exact free _ o (fun z=>(xh _ z).2.1 rfl) ho I.free
 ·obtain ⟨v,o,ho,hd⟩:=I.cell x c e
  exact free c o (fun z=>(xh c z).2.2.1 x c e rfl) ho (I.xg x c e)
 ·obtain ⟨e,n,ne,nf,d⟩:=I.pin p hp
  have ve:p.1 ∉ ch:=fun z=>(xh p.1 z).2.2.2 p hp rfl
  exact ⟨keep p.1 p.2 ne nf ve e n,free p.1 p.2 ve e n,ne,nf,d⟩
theorem Inv.un (I:Inv X pins σ H s) (u:Un X.fs [] H H' s.heap h') (hok:e_ X.prog X.w H' h'):Inv X pins σ H' {s with heap:=h',toks:=t'}:=by
 obtain ⟨m,⟨o,es,ep,ho,r⟩,_⟩:=id I.loc
 obtain ⟨sl,hL⟩:=u.any ho I.free (by simp)
 exact I.step (g':=s.gens) (d':=s.drawn) (ch:=[]) (fun _ z=>nomatch z) (fun b o _ hb _ e n=>u.keep b o e n hb (by simp)) (fun b o _ hb _ e n=>u.slot b o e n hb (by simp)) (fun b o _ e n=>u.free b o e n (by simp)) (fun b o _ e=>u.there b o e (by simp)) u.tups u.ua u.vc (fun m' hm=>by
  obtain ⟨o',es',xj,vd,r'⟩:=hm
  rw [ho] at vd;cases vd
  exact ⟨_,es',xj,hL,r'⟩) hok I.bare
theorem Inv.call {g':Array GenState} {d':Drawn} (I:Inv X pins σ H s) (u:Un (kj X.stack) ch H H' s.heap h') (hok:e_ X.prog X.w H' h') (hg:AllBare g')
  (xh:∀ b∈ch,(b∈X.ex\/X.s₀.heap.objs.size<=b)/\b≠X.env.locals/\(∀ x c,X.env.cells.lookup x=some c->c≠b)/\∀ p∈X.pn++pins,p.1≠b):
  Inv X pins σ H' {s with heap:=h',gens:=g',drawn:=d',toks:=t'}:=by
 obtain ⟨m,⟨o,es,ep,ho,r⟩,_⟩:=id I.loc
 obtain ⟨sl,hL⟩:=u.any ho I.free fun z=>(xh _ z).2.1 rfl
 exact I.step (ch:=ch) xh (fun b o hL hb hc e n=>u.keep b o e n (fun z=>(Qp.mp (I.A2 b z)).elim hL hb) hc) (fun b o _ _ hc e n=>u.any e n hc) (fun b o hc e n=>u.free b o e n hc) (fun b o hc e=>u.there b o e hc) u.tups u.ua u.vc (fun m' hm=>by
  obtain ⟨o',es',xj,vd,r'⟩:=hm
  rw [ho] at vd;cases vd
  exact ⟨_,es',xj,hL,r'⟩) hok hg
theorem Inv.turned {it:Addr} (I:Inv X pins σ H s) (k:∀ b o,b≠it->s.heap.get? b=some o->h'.get? b=some o) (hn:H it=none) (hL:it≠X.env.locals)
  (h1:it∈X.ex\/X.s₀.heap.objs.size<=it) (h2:∀ x c,X.env.cells.lookup x=some c->c≠it) (h3:∀ p∈X.pn++pins,p.1≠it):Inv X pins σ H {s with heap:=h',toks:=t'}:=by
 have J3:∀ b u,H b=some u->b≠it:=fun b u e z=>by rw [z,hn] at e;cases e
 refine I.step (g':=s.gens) (d':=s.drawn) (ch:=[it]) (fun b hb=>?_) (fun b o _ _ hc e _=>k b o (fun z=>hc (by simp [z])) e) (fun b o _ _ hc e _=>⟨o.slots,k b o (fun z=>hc (by simp [z])) e⟩) (fun _ _ _ _ n=>n)
  (fun b o hc e=>⟨o,k b o (fun z=>hc (by simp [z])) e⟩) (fun _ _ e=>e) (fun _ _ _ e=>e) (fun b ps e=>⟨#[],by rw [e];simp⟩) (fun m hm=>?_) (fun b u e=>?_) I.bare
 ·have e:b=it:=by simpa using hb
  subst e
  exact ⟨h1,hL,h2,h3⟩
 ·obtain ⟨o,es,ep,ho,r⟩:=hm
  exact ⟨o,es,ep,k _ o (Ne.symm hL) ho,r⟩
 ·refine (I.hok b u e).stay (fun c v hc q=>k c v ?_ q) (fun _ q=>q) fun _ _ q=>q
  rcases hc with z | z
  ·rw [z];exact J3 b u e
  ·exact J3 c _ z
theorem Inv.tok (I:Inv X pins σ H s) (t:Nat):Inv X pins σ H {s with toks:=t}:=I.un (h':=s.heap) (t':=t) Un.refl I.hok
theorem Inv.kept {t':Nat} (I:Inv X pins σ H s) (k:∀ b u,s.heap.get? b=some u->h'.get? b=some u):Inv X pins σ H {s with heap:=h',toks:=t'}:=I.un (Un.kept k) (I.hok.kept k)
theorem Inv.laid {a:Addr} {o:HO} {t':Nat} (I:Inv X pins σ H s) (k:∀ b u,s.heap.get? b=some u->h'.get? b=some u) (hp:s.heap.objs.size<=a) (new:b_ X.prog X.w (upd H a o) h' a o):
  Inv X pins σ (upd H a o) {s with heap:=h',toks:=t'}:=I.un (Un.laid k hp (I.hok.fresh hp)) (I.hok.laid k hp new)
theorem Inv.write {x e:Addr} {o:HO} {t':Nat} (I:Inv X pins σ H s) (mu:CZ (H x)) (he:e=x\/H e=some (.own x)) (k:∀ b u,b≠e->s.heap.get? b=some u->h'.get? b=some u) (BH:∃ u,h'.get? e=some u)
  (new:b_ X.prog X.w (upd H x o) h' x o):Inv X pins σ (upd H x o) {s with heap:=h',toks:=t'}:=I.un (Un.write mu he k BH) (I.hok.write mu he k BH new)
theorem Inv.J5 {J6:List (Addr×Obj)} (I:Inv X pins σ H s) (h:∀ p∈J6,s.heap.get? p.1=some p.2/\H p.1=none/\p.1≠X.env.locals/\p.1 ∉ X.fs/\∀ v,p.2.data≠.cell v):Inv X J6 σ H s:=
 ⟨I.ok,I.os,I.bare,I.base,I.loc,I.cell,I.free,I.xg,fun p hp=>(List.mem_append.mp hp).elim (fun z=>I.pin p (List.mem_append_left _ z)) (h p),I.hok,I.len⟩
theorem oK (hN:N.Nodup) (a:N[i]? =some x) (b:N[j]? =some x):i=j:=by
 obtain ⟨h1,e1⟩:=List.getElem?_eq_some_iff.mp a
 obtain ⟨h2,e2⟩:=List.getElem?_eq_some_iff.mp b
 exact (List.getElem_inj hN).mp (e1.trans e2.symm)
theorem mD {M:Model} {v:V} {Q:Unit->Shared->Prop} (I:Inv X pins σ H s) (hN:X.N.Nodup) (hi:X.N[i]? =some x) (hx:Loc X.env.scope x) (r:RelV v u)
  (h:∀ s',Inv X pins (σ.set i (some v)) H s'->(∃ a,Heap.SameBut a s.heap s'.heap/\(a=X.env.locals\/X.env.cells.lookup x=some a))->Q () s') (hf:X.fn x=true\/X.env.scope.names.lookup x=some .local:=by first | exact .inl rfl | exact .inr rfl | assumption):wpAny M A (storeName X.env x u) Q E s:=by
 obtain ⟨m,hn,hl⟩:=id I.loc
 have OG:(X.env.scope.kind==.class||(X.env.scope.kind==.module&&X.env.locals !=X.env.globals))=false:=by rw [I.ok.kind];rfl
 have J7:i < σ.length:=by rw [I.len];exact (List.getElem?_eq_some_iff.mp hi).1
 have A1:=I.A1
 have tracked:∀ {a:Addr} {h':Heap},(∃ o,s.heap.get? a=some o/\H a=none)->Heap.SameBut a s.heap h'->e_ X.prog X.w H h':=fun {a h'} ha hs b ob e=>by
  obtain ⟨_,_,J8⟩:=ha
  refine (I.hok b ob e).stay (fun c w' hc q=>(hs.2 c ?_).trans q) (fun _ q=>q) fun _ _ q=>q
  rintro rfl
  rcases hc with rfl | hc
  ·rw [J8] at e;cases e
  ·rw [J8] at hc;cases hc
 rcases hx with hk | hk
 ·refine wpAny_storeName_local hk hn (fun h' vf hs=>?_) OG
  obtain ⟨oL,_,_,OH,_⟩:=id hn
  refine h _ ⟨I.ok,I.os,I.bare,⟨fun b o e n hb hx=>?_,fun b o e n hb hx=>?_,I.base.free,fun b o e hx=>?_,I.base.tups,I.base.ua,I.base.vc⟩,⟨_,vf,fun j y v' e1 e2 e3=>?_⟩,fun y c e=>?_,I.free,I.xg,fun p hp=>?_,tracked ⟨oL,OH,I.free⟩ hs,by simpa using I.len⟩ ⟨_,hs,.inl rfl⟩
  ·exact (hs.2 b (Nat.ne_of_lt (Nat.lt_of_lt_of_le (Qz e) I.ok.above))).trans (I.base.keep b o e n hb hx)
  ·obtain ⟨sl,e1⟩:=I.base.slot b o e n hb hx
   exact ⟨sl,(hs.2 b (Nat.ne_of_lt (Nat.lt_of_lt_of_le (Qz e) I.ok.above))).trans e1⟩
  ·obtain ⟨o',e1⟩:=I.base.there b o e hx
   exact ⟨o',(hs.2 b (Nat.ne_of_lt (Nat.lt_of_lt_of_le (Qz e) I.ok.above))).trans e1⟩
  ·by_cases hj:j=i
   ·subst hj
    rw [hi] at e1;cases e1
    rw [List.getElem?_set_self J7] at e2
    cases e2
    exact ⟨u,r,.inl ⟨hk,by simp⟩⟩
   ·rw [List.getElem?_set_ne (Ne.symm hj)] at e2
    obtain ⟨u',r',q⟩:=hl j y v' e1 e2 e3
    refine ⟨u',r',?_⟩
    rcases q with ⟨k,e⟩ | ⟨k,c,e,z⟩
    ·refine .inl ⟨k,?_⟩
     have:y≠x:=fun e=>hj (oK hN e1 (e▸hi))
     simp [this,e]
    ·exact .inr ⟨k,c,e,z.sameBut hs (A1 y c e)⟩
  ·obtain ⟨w',z⟩:=I.cell y c e
   exact ⟨w',z.sameBut hs (A1 y c e)⟩
  ·obtain ⟨e,n,ne,nf,d⟩:=I.pin p hp
   exact ⟨(hs.2 p.1 ne).trans e,n,ne,nf,d⟩
 ·have GS:X.fn x=true:=by
   rcases hf with z | z
   ·exact z
   ·rw [z] at hk;cases hk
  obtain ⟨c,hc⟩:=I.ok.has x (.inl hk)
  obtain ⟨w',z⟩:=I.cell x c hc
  refine wpAny_storeName_cell I.ok.kind hk hc z (fun h' gw hs=>?_)
  obtain ⟨oc,J9,OI⟩:=id z
  refine h {s with heap:=h'} ⟨I.ok,I.os,I.bare,⟨fun b o e n hb hx=>?_,fun b o e n hb hx=>?_,I.base.free,fun b o e hx=>?_,I.base.tups,I.base.ua,I.base.vc⟩,⟨m,hn.sameBut hs (Ne.symm (A1 x c hc)),fun j y v' e1 e2 e3=>?_⟩,fun y c' e=>?_,I.free,I.xg,fun p hp=>?_,tracked ⟨oc,J9,I.xg x c hc⟩ hs,by simpa using I.len⟩ ⟨c,hs,.inr hc⟩
  ·exact (hs.2 b (Nat.ne_of_lt (Nat.lt_of_lt_of_le (Qz e) (I.ok.C0 x c GS hc)))).trans (I.base.keep b o e n hb hx)
  ·obtain ⟨sl,e1⟩:=I.base.slot b o e n hb hx
   exact ⟨sl,(hs.2 b (Nat.ne_of_lt (Nat.lt_of_lt_of_le (Qz e) (I.ok.C0 x c GS hc)))).trans e1⟩
  ·obtain ⟨o',e1⟩:=I.base.there b o e hx
   exact ⟨o',(hs.2 b (Nat.ne_of_lt (Nat.lt_of_lt_of_le (Qz e) (I.ok.C0 x c GS hc)))).trans e1⟩
  ·by_cases hj:j=i
   ·subst hj
    rw [hi] at e1;cases e1
    rw [List.getElem?_set_self J7] at e2
    cases e2
    exact ⟨u,r,.inr ⟨.inl hk,c,hc,gw⟩⟩
   ·rw [List.getElem?_set_ne (Ne.symm hj)] at e2
    obtain ⟨u',r',q⟩:=hl j y v' e1 e2 e3
    refine ⟨u',r',?_⟩
    rcases q with q | ⟨k,c',e,z'⟩
    ·exact .inl q
    ·refine .inr ⟨k,c',e,z'.sameBut hs ?_⟩
     rintro rfl
     exact hj (oK hN e1 (I.ok.inj _ _ _ e hc▸hi))
  ·by_cases BJ:c'=c
   ·subst BJ;exact ⟨_,gw⟩
   ·obtain ⟨w2,z2⟩:=I.cell y c' e
    exact ⟨w2,z2.sameBut hs BJ⟩
  ·obtain ⟨e,n,ne,nf,d⟩:=I.pin p hp
   refine ⟨(hs.2 p.1 ?_).trans e,n,ne,nf,d⟩
   intro q
   rw [q,J9] at e
   have q':oc=p.2:=QD e
   exact d w' (by rw [<- q'];exact OI)
theorem fU {M:Model} {v:V} {Q:Unit->Shared->Prop} (I:Inv X pins σ H s) (hN:X.N.Nodup) (hi:X.N[i]? =some x) (hx:Loc X.env.scope x) (r:RelV v u)
  (h:∀ s',Inv X pins (σ.set i (some v)) H s'->Q () s') (hf:X.fn x=true\/X.env.scope.names.lookup x=some .local:=by first | exact .inl rfl | exact .inr rfl | assumption):wpAny M A (storeName X.env x u) Q E s:=
 mD I hN hi hx r (fun s' I' _=>h s' I') hf
theorem Inv.OJ {s':Shared} (I:Inv X pins σ H s) (ho:s'.os=s.os) (u:Un (kj X.stack) ch H H' s.heap s'.heap) (hok:e_ X.prog X.w H' s'.heap) (hg:AllBare s'.gens)
  (xh:∀ b∈ch,(b∈X.ex\/X.s₀.heap.objs.size<=b)/\b≠X.env.locals/\(∀ x c,X.env.cells.lookup x=some c->c≠b)/\∀ p∈X.pn++pins,p.1≠b):Inv X pins σ H' s':=by
 obtain ⟨h',g',d',t',o'⟩:=s'
 have e:o'=s.os:=ho
 subst e
 exact I.call (g':=g') (t':=t') (d':=d') u hok hg xh
end
abbrev XK:=Value->Option Addr->Hp->Prop
abbrev St:=List (Option V)
end L2
variable {σ:L2.St}
namespace L2
open PySem PySem.Spec PyProof.Rows
abbrev VK:=V->Hp->Prop
abbrev TE:=St->Hp->VK->Prop
end L2
variable {te to:L2.TE}
namespace L2
open PySem PySem.Spec PyProof.Rows
abbrev TT:=St->Hp->(Bool->Hp->Prop)->Prop
abbrev TA:=St->Hp->(List V->Hp->Prop)->Prop
structure Ends where
 nx:St->Hp->Prop
 rt:VK
 bk:St->Hp->Prop:=fun _ _=>False
 ct:St->Hp->Prop:=fun _ _=>False
abbrev TS:=Ends->St->Hp->Prop
def EP (X:Cx) (pins:List (Addr×Obj)) (σ:St) (Q:VK) (u:Value) (s':Shared):Prop:=∃ v H',Inv X pins σ H' s'/\RelV v u/\Q v H'
def TP (X:Cx) (pins:List (Addr×Obj)) (σ:St) (Q:Bool->Hp->Prop) (b:Bool) (s':Shared):Prop:=∃ H',Inv X pins σ H' s'/\Q b H'
def AP (X:Cx) (pins:List (Addr×Obj)) (σ:St) (Q:List V->Hp->Prop) (us:List Value) (s':Shared):Prop:=∃ vs H',Inv X pins σ H' s'/\a_ vs us/\Q vs H'
def SP (X:Cx) (pins:List (Addr×Obj)) (D:Ends) (f:Flow) (s':Shared):Prop:=
 match f with
 | .next=>∃ σ' H',Inv X pins σ' H' s'/\D.nx σ' H'
 | .brk=>∃ σ' H',Inv X pins σ' H' s'/\D.bk σ' H'
 | .cont=>∃ σ' H',Inv X pins σ' H' s'/\D.ct σ' H'
 | .ret u=>∃ v σ' H',Inv X pins σ' H' s'/\RelV v u/\D.rt v H'
def PE (X:Cx) (e:Expr) (t:TE):Prop:=
 ∀ (pins:List (Addr×Obj)) (s:Shared) (σ:St) (H:Hp) (Q:VK),Inv X pins σ H s->t σ H Q->wpAny (model X.prog X.w) X.A (eval e X.env) (EP X pins σ Q) X.xe s
def PT (X:Cx) (e:Expr) (t:TT):Prop:=
 ∀ (pins:List (Addr×Obj)) (s:Shared) (σ:St) (H:Hp) (Q:Bool->Hp->Prop),Inv X pins σ H s->t σ H Q->wpAny (model X.prog X.w) X.A (isTrue e X.env (eval e X.env)) (TP X pins σ Q) X.xe s
def PW (X:Cx) (e:Expr) (t:TT):Prop:=
 ∀ (whole:Sem Value) (pins:List (Addr×Obj)) (s:Shared) (σ:St) (H:Hp) (Q:Bool->Hp->Prop),Inv X pins σ H s->t σ H Q->wpAny (model X.prog X.w) X.A (isTrue e X.env whole) (TP X pins σ Q) X.xe s
theorem PW.pt {t:TT} (h:PW X e t):PT X e t:=h _
def PA (X:Cx) (es:List Expr) (t:TA):Prop:=
 ∀ (pos:Pos) (pins:List (Addr×Obj)) (s:Shared) (σ:St) (H:Hp) (Q:List V->Hp->Prop),Inv X pins σ H s->t σ H Q->wpAny (model X.prog X.w) X.A (spliced (backTo pos (starEach es X.env))) (AP X pins σ Q) X.xe s
def PS (X:Cx) (st:Stmt) (t:TS):Prop:=
 ∀ (pins:List (Addr×Obj)) (s:Shared) (σ:St) (H:Hp) (D:Ends),Inv X pins σ H s->t D σ H->wpAny (model X.prog X.w) X.A (exec st X.env) (SP X pins D) X.xe s
def nj (X:Cx) (st:List Stmt) (t:TS):Prop:=
 ∀ (pins:List (Addr×Obj)) (s:Shared) (σ:St) (H:Hp) (D:Ends),Inv X pins σ H s->t D σ H->wpAny (model X.prog X.w) X.A (execs st X.env) (SP X pins D) X.xe s
theorem au {t:Sem α} {Q Q':α->Shared->Prop} {M:Model} (h:wpAny M A t Q E s) (hQ:∀ a s,Q a s->Q' a s):wpAny M A t Q' E s:=wpAny_mono h hQ fun _ _ x=>x
section
def OL (i:Nat):TE:=fun σ H Q=>∃ v,σ[i]? =some (some v)/\Q v H
def tC (v:V):TE:=fun _ H Q=>Q v H
theorem OM {pos:Pos} (hN:X.N[i]? =some x) (hv:BI X.env.scope x) (hd:(x==("__debug__":Str))=false:=by decide) (jc:(x==("__classdict__":Str))=false:=by decide):PE X (.Name x pos) (OL i):=by
 intro pins s σ H Q I h
 obtain ⟨v,e,h⟩:=h
 obtain ⟨m,hn,hl⟩:=I.loc
 obtain ⟨u,r,l⟩:=hl i x v hN e hv
 have fin:EP X pins σ Q u s:=⟨v,H,I,r,h⟩
 rcases l with ⟨hk,hm⟩ | ⟨hk,c,hc,EH⟩
 ·exact wpAny_Name (wpAny_loadName_local I.ok.kind hk hn hm fin) hd
 ·rcases hk with hk | hk
  ·exact wpAny_Name (wpAny_loadName_cell I.ok.kind hk hc EH fin) hd
  ·exact wpAny_Name (wpAny_loadName_free I.ok.kind hk hc EH fin jc) hd
theorem ON {i j pos}:PE X (.Constant (.int i) j pos) (tC (.int i)):=fun _ _ _ H _ I h=>wpAny_Constant_int ⟨.int i,H,I.tok _,⟨_,rfl⟩,h⟩
theorem OO {b j pos}:PE X (.Constant (.bool b) j pos) (tC (.bl b)):=fun _ _ _ H _ I h=>Constant_bool ⟨.bl b,H,I,rfl,h⟩
theorem OP {j pos}:PE X (.Constant .none j pos) (tC .ai):=fun _ _ _ H _ I h=>Constant_none ⟨.ai,H,I,rfl,h⟩
theorem OQ {x j pos}:PE X (.Constant (.str x) j pos) (tC (.str x)):=fun _ _ _ H _ I h=>Calls.Constant_str ⟨.str x,H,I.tok _,⟨_,rfl⟩,h⟩
def Gl (X:Cx) (x:Str):Prop:=X.env.kindOf x=some .globalImplicit
theorem mX {pos:Pos} (I:Inv X pins σ H s) (hg:Gl X x) (hm:X.mg x=some u) (h:Q u s)
  (hd:(x==("__debug__":Str))=false:=by decide):wpAny (model X.prog X.w) X.A (eval (.Name x pos) X.env) Q E s:=
 Calls.Name_function_global I.ok.kind hg (Calls.loadGlobal_global (by rw [I.ok.glob];exact I.mod.glob.keeps I.bk) hm h) hd
theorem mS {pos:Pos} (I:Inv X pins σ H s) (hg:Gl X x) (hm:X.mg x=none) (hv:bootBuiltins x=some u) (h:Q u s)
  (hn:x≠"__name__":=by decide) (hd:(x==("__debug__":Str))=false:=by decide):wpAny (model X.prog X.w) X.A (eval (.Name x pos) X.env) Q E s:=by
 obtain ⟨mb,h1,h2⟩:=I.mod.blt
 exact Calls.Name_function_global I.ok.kind hg (Calls.loadGlobal_builtin (by rw [I.ok.glob];exact I.mod.glob.keeps I.bk) hm (by rw [I.ok.blt];exact h1.keeps I.bk) ((h2 x hn).trans hv) h) hd
theorem jQ {v:V} {pos:Pos} (hg:Gl X x) (hm:X.mg x=some u) (r:RelV v u) (hd:(x==("__debug__":Str))=false:=by decide):PE X (.Name x pos) (tC v):=
 fun _ _ _ H _ I h=>mX I hg hm ⟨v,H,I,r,h⟩ hd
variable {a b:Expr} {ta tb:TE} {pos:Pos}
def PC (X:Cx) (op:CmpOp) (a b:Expr) (t:TE):Prop:=
 ∀ (pins:List (Addr×Obj)) (s:Shared) (σ:St) (H:Hp) (Q:VK),Inv X pins σ H s->t σ H Q->
  wpAny (model X.prog X.w) X.A (eval a X.env) (fun v s₁=>wpAny (model X.prog X.w) X.A (eval b X.env) (fun u s₂=>wpAny (model X.prog X.w) X.A (compareOp op v u) (EP X pins σ Q) X.xe s₂) X.xe s₁) X.xe s
def tB (t:TE):TT:=fun σ H Q=>t σ H fun x H1=>∃ c,x=.bl c/\Q c H1
theorem OR {t:TE} (h:PC X op a b t) (h1:behindInMarks op b=false:=by first | exact W0 _ (by decide) (by decide) | rfl):PT X (.Compare a [op] [b] pos) (tB t):=by
 intro pins s σ H Q I hw
 refine wpAny_isTrue_Compare1 (au (h pins s σ H _ I hw) fun v s1 h1=>au h1 fun u s2 h2=>au h2 fun c s3 ⟨x,H1,I1,r1,q1⟩=>?_) h1
 obtain ⟨d,rfl,q⟩:=q1
 cases r1
 exact wpAny_truthy_bool ⟨H1,I1,q⟩
theorem OS {t:TE} (h:PE X e t) (he:∀ whole,isTrue e X.env whole=(do let v <- whole;standAt e.pos;holding [v] (truthy v)):=by intro _;rfl):PT X e (tB t):=by
 intro pins s σ H Q I hw
 refine isTrue_plain (au (h pins s σ H _ I hw) fun v s1 ⟨x,H1,I1,r1,q1⟩=>?_) (he _)
 obtain ⟨d,rfl,q⟩:=q1
 cases r1
 exact wpAny_truthy_bool ⟨H1,I1,q⟩
variable {tA C2:TT} {rest:List Expr}
def J_ (t u:TT):TT:=fun σ H Q=>t σ H fun c H1=>if c=true then u σ H1 Q else Q false H1
def J' (t:TT):TT:=fun σ H Q=>t σ H fun c H1=>Q (!c) H1
theorem OT (ha:PT X a tA):PW X (.BoolOp .And [a] pos) tA:=by
 intro wh pins s σ H Q I h
 refine isTrue_and (au (ha pins s σ H Q I h) fun c s1 e=>?_)
 cases c with
 | true=>exact isTrue_and_nil e
 | false=>exact e
theorem OU (ha:PT X a tA) (hb:PW X (.BoolOp .And (b::rest) pos) C2):PW X (.BoolOp .And (a::b::rest) pos) (J_ tA C2):=by
 intro wh pins s σ H Q I h
 refine isTrue_and (au (ha pins s σ H _ I h) ?_)
 rintro c s1 ⟨H1,I1,q1⟩
 cases c with
 | true=>exact hb wh pins s1 σ H1 Q I1 q1
 | false=>exact ⟨H1,I1,q1⟩
theorem OV (ha:PT X a tA):PT X (.UnaryOp .Not a pos) (J' tA):=by
 intro pins s σ H Q I h
 exact isTrue_not (ha pins s σ H (fun c H1=>Q (!c) H1) I h)
end
def ak (K:Q0) (H:Hp) (a:Addr) (xs:List V):Prop:=
 Rd H a (.lst xs)\/
  ∃ (o:Obj) (its:Array Value) (n:Nat),K.lookup a=some o/\o.cls=.type "list"/\o.dict=none/\o.data=.seq its n/\its.size<=sizeLine/\a_ xs its.toList
def af (K:Q0) (H:Hp) (a:Addr) (xs:List V):Prop:=
 Rd H a (.tup xs)\/
  ∃ (o:Obj) (its:Array Value) (n:Nat),K.lookup a=some o/\o.cls=.type "tuple"/\o.data=.seq its n/\its.size<=sizeLine/\a_ xs its.toList
def yw:Value->Option V
 | .none=>some .ai
 | .bool b=>some (.bl b)
 | .int i _=>some (.int i)
 | .str x _=>some (.str x)
 | .bytes b _=>some (.o_ b)
 | .float b _=>some (.EC b)
 | .ref a=>some (.ref a)
 | .type n=>some (.ty n)
 | _=>none
theorem RelV.abs {x:V} (r:RelV x u):yw u=some x:=by
 cases x with
 | ai=>cases r;rfl
 | bl _=>cases r;rfl
 | int _=>obtain ⟨t,rfl⟩:=r;rfl
 | str _=>obtain ⟨t,rfl⟩:=r;rfl
 | o_ _=>obtain ⟨t,rfl⟩:=r;rfl
 | EC _=>obtain ⟨t,rfl⟩:=r;rfl
 | ref _=>cases r;rfl
 | ty _=>cases r;rfl
theorem RelV.inj {x y:V} (r:RelV x u) (q:RelV y u):x=y:=QD (r.abs.symm.trans q.abs)
theorem a_.inj:∀ {xs ys:List V} {us:List Value},a_ xs us->a_ ys us->xs=ys
 | _,_,_,.nil,.nil=>rfl
 | _,_,_,.cons r t,.cons r' t'=>by rw [r.inj r',a_.inj t t']
section
variable {xs ys:List V}
theorem ak.of {K:Q0} (h:H a=some (.lst xs)):ak K H a xs:=.inl (.inl h)
theorem af.of {K:Q0} (h:H a=some (.tup xs)):af K H a xs:=.inl (.inl h)
theorem Inv.list (I:Inv X pins σ H s) (h:ak X.K H a xs):∃ its:List Value,a_ xs its/\PlainL s.heap a its.toArray/\xs.length<=sizeLine:=by
 rcases h with h | ⟨o,its,n,hk,hc,hd,hs,hz,r⟩
 ·obtain ⟨z,its,n,r,e⟩:=h.ok I.hok
  exact ⟨its,r,⟨_,n,e,rfl,rfl,rfl⟩,z⟩
 ·refine ⟨its.toList,r,⟨o,n,I.qm a o hk,hc,hd,by simpa using hs⟩,?_⟩
  have e:=r.length
  simp only [Array.length_toList] at e
  omega
theorem Inv.tuple (I:Inv X pins σ H s) (h:af X.K H a xs):∃ its:List Value,a_ xs its/\IsTup s.heap a its.toArray/\xs.length<=sizeLine:=by
 rcases h with h | ⟨o,its,n,hk,hc,hs,hz,r⟩
 ·obtain ⟨⟨z,_⟩,its,r,p⟩:=h.ok I.hok
  exact ⟨its,r,p,z⟩
 ·refine ⟨its.toList,r,⟨o,I.qm a o hk,hc,n,by simpa using hs⟩,?_⟩
  have e:=r.length
  simp only [Array.length_toList] at e
  omega
theorem Inv.GU (I:Inv X pins σ H s) (h:ak X.K H a xs) (h':ak X.K H a ys):xs=ys:=by
 obtain ⟨its,r,⟨o,n,e,_,_,d⟩,_⟩:=I.list h
 obtain ⟨its',r',⟨o',n',e',_,_,d'⟩,_⟩:=I.list h'
 rw [e] at e';cases e'
 rw [d] at d'
 injection d' with d1 _
 have:its=its':=by simpa using congrArg Array.toList d1
 subst this
 exact r.inj r'
theorem Inv.OW (I:Inv X pins σ H s) (h:af X.K H a xs) (h':af X.K H a ys):xs=ys:=by
 obtain ⟨its,r,⟨o,e,_,n,d⟩,_⟩:=I.tuple h
 obtain ⟨its',r',⟨o',e',_,n',d'⟩,_⟩:=I.tuple h'
 rw [e] at e';cases e'
 rw [d] at d'
 injection d' with d1 _
 have:its=its':=by simpa using congrArg Array.toList d1
 subst this
 exact r.inj r'
end
abbrev Cx.xn (X:Cx) (E:Value->Shared->Prop):Cx:={X with xe:=E}
abbrev Cx.yx (X:Cx):Cx:=X.xn fun _ _=>False
theorem Cx.Ok.xn {X:Cx} (ok:X.Ok) (E:Value->Shared->Prop):(X.xn E).Ok:=
 ⟨ok.mod,ok.kind,ok.glob,ok.blt,ok.above,ok.inj,ok.has,ok.C0,ok.hd,ok.frames,ok.EE,ok.JZ,ok.bs,ok.yu,ok.C1,ok.EF,ok.uc,ok.A0⟩
theorem Cx.Ok.Ad (ok:(X.xn E).Ok):X.Ok:=
 ⟨ok.mod,ok.kind,ok.glob,ok.blt,ok.above,ok.inj,ok.has,ok.C0,ok.hd,ok.frames,ok.EE,ok.JZ,ok.bs,ok.yu,ok.C1,ok.EF,ok.uc,ok.A0⟩
theorem Inv.xn (I:Inv X pins σ H s) (E:Value->Shared->Prop):Inv (X.xn E) pins σ H s:=⟨I.ok.xn E,I.os,I.bare,I.base,I.loc,I.cell,I.free,I.xg,I.pin,I.hok,I.len⟩
theorem Inv.Ad (I:Inv (X.xn E) pins σ H s):Inv X pins σ H s:=⟨I.ok.Ad,I.os,I.bare,I.base,I.loc,I.cell,I.free,I.xg,I.pin,I.hok,I.len⟩
theorem SP.Ad {D:Ends} {f:Flow} {s':Shared} (h:SP (X.xn E) pins D f s'):SP X pins D f s':=by
 cases f with
 | next=>obtain ⟨σ',H',I,q⟩:=h;exact ⟨σ',H',I.Ad,q⟩
 | brk=>obtain ⟨σ',H',I,q⟩:=h;exact ⟨σ',H',I.Ad,q⟩
 | cont=>obtain ⟨σ',H',I,q⟩:=h;exact ⟨σ',H',I.Ad,q⟩
 | ret u=>obtain ⟨v,σ',H',I,r,q⟩:=h;exact ⟨v,σ',H',I.Ad,r,q⟩
theorem nj.yx {st:List Stmt} {t:TS} (h:nj X.yx st t):nj X st t:=fun pins s σ H D I hw=>
 wpAny_mono (h pins s σ H D (I.xn _) hw) (fun _ _ q=>q.Ad) fun _ _ z=>False.elim z
section
variable {st:Stmt} {rest:List Stmt} {t u:TS} {pos:Pos}
def EI:TS:=fun D σ H=>D.nx σ H
def xo (t u:TS):TS:=fun D σ H=>t {D with nx:=u D} σ H
theorem yV:nj X [] EI:=fun _ _ σ H _ I h=>wpAny_execs_nil ⟨σ,H,I,h⟩
theorem vQ (h1:PS X st t) (h2:nj X rest u):nj X (st::rest) (xo t u):=by
 intro pins s σ H D I h
 refine wpAny_execs_cons (au (h1 pins s σ H {D with nx:=u D} I h) fun f s1 q=>?_)
 cases f with
 | next=>
  obtain ⟨σ',H',I',q⟩:=q
  exact h2 pins s1 σ' H' D I' q
 | ret v=>exact q
 | brk=>exact q
 | cont=>exact q
theorem z8 (h1:PS X st t):nj X [st] t:=by
 intro pins s σ H D I h
 refine wpAny_execs_cons (au (h1 pins s σ H D I h) fun f s1 q=>?_)
 cases f with
 | next=>exact wpAny_execs_nil q
 | ret v=>exact q
 | brk=>exact q
 | cont=>exact q
theorem Inv.quiet (I:Inv X pins σ H s):interactive X.env=false:=by simp [interactive,I.ok.kind]
def GV (te:TE):TS:=fun D σ H=>te σ H fun _ H1=>D.nx σ H1
theorem OX (he:PE X e te) (hs:swapsWith e none pos.line X.env=pure false:=by rfl):PS X (.Expr e pos) (GV te):=by
 intro pins s σ H D I h
 exact wpAny_Expr_any (au (he pins s σ H _ I h) fun v s1 ⟨x,H1,I1,r1,q1⟩=>⟨σ,H1,I1,q1⟩) I.quiet hs
def BK (te:TE):TS:=fun D σ H=>te σ H D.rt
theorem OY (he:PE X e te):PS X (.Return (some e) pos) (BK te):=by
 intro pins s σ H D I h
 exact wpAny_Return_some (au (he pins s σ H _ I h) fun v s1 ⟨x,H1,I1,r1,q1⟩=>⟨x,σ,H1,I1,r1,q1⟩)
def EJ (c:TT) (t u:TS):TS:=fun D σ H=>c σ H fun b H1=>if b=true then t D σ H1 else u D σ H1
theorem OZ {c:Expr} {a b:List Stmt} {tc:TT} (hc:PT X c tc) (ha:nj X a t) (hb:nj X b u):PS X (.If c a b pos) (EJ tc t u):=by
 intro pins s σ H D I h
 refine wpAny_If (au (hc pins s σ H _ I h) ?_)
 rintro d s1 ⟨H1,I1,q1⟩
 cases d with
 | true=>exact ha pins s1 σ H1 D I1 q1
 | false=>exact hb pins s1 σ H1 D I1 q1
end
abbrev TG:=V->St->Hp->(St->Hp->Prop)->Prop
abbrev vg:=List V->St->Hp->(St->Hp->Prop)->Prop
def PG (X:Cx) (target:Expr) (t:TG):Prop:=
 ∀ (pins:List (Addr×Obj)) (s:Shared) (σ:St) (H:Hp) (v:V) (u:Value) (Q:St->Hp->Prop),Inv X pins σ H s->RelV v u->t v σ H Q->
  wpAny (model X.prog X.w) X.A (assign target X.env u) (fun _ s'=>∃ σ' H',Inv X pins σ' H' s'/\Q σ' H') X.xe s
def BL (X:Cx) (ts:List Expr) (t:vg):Prop:=
 ∀ (pins:List (Addr×Obj)) (s:Shared) (σ:St) (H:Hp) (vs:List V) (us:List Value) (Q:St->Hp->Prop),Inv X pins σ H s->a_ vs us->t vs σ H Q->
  wpAny (model X.prog X.w) X.A (assignInOrder ((assignEach ts X.env).map (·.2)) us) (fun _ s'=>∃ σ' H',Inv X pins σ' H' s'/\Q σ' H') X.xe s
abbrev EK:=V->V->V->Hp->(Hp->Prop)->Prop
def GW (X:Cx) (t:EK):Prop:=
 ∀ (pins:List (Addr×Obj)) (s:Shared) (σ:St) (H:Hp) (o i v:V) (ov iv u:Value) (Q:Hp->Prop),Inv X pins σ H s->RelV o ov->RelV i iv->RelV v u->t o i v H Q->
  wpAny (model X.prog X.w) X.A (setItem ov iv u) (fun _ s'=>∃ H',Inv X pins σ H' s'/\Q H') X.xe s
abbrev C3:=V->V->Hp->VK->Prop
def GX (X:Cx) (op:Operator) (t:C3):Prop:=
 ∀ (pins:List (Addr×Obj)) (s:Shared) (σ:St) (H:Hp) (x y:V) (v u:Value) (Q:VK),Inv X pins σ H s->RelV x v->RelV y u->t x y H Q->
  wpAny (model X.prog X.w) X.A (inplaceOp op v u) (EP X pins σ Q) X.xe s
section
variable {pos:Pos}
def nk (i:Nat):TG:=fun v σ H Q=>Q (σ.set i (some v)) H
theorem zA (hN:X.N.Nodup) (hi:X.N[i]? =some x) (hx:Loc X.env.scope x) (hf:X.fn x=true\/X.env.scope.names.lookup x=some .local:=by first | exact .inl rfl | exact .inr rfl | assumption):PG X (.Name x pos) (nk i):=by
 intro pins s σ H v u Q I r h
 exact wpAny_assign_Name (fU I hN hi hx r (fun s' I'=>⟨_,H,I',h⟩) hf)
def EL:vg:=fun vs σ H Q=>vs=[]/\Q σ H
def BN (t:TG) (u:vg):vg:=fun vs σ H Q=>∃ v r,vs=v::r/\t v σ H fun σ' H'=>u r σ' H' Q
theorem O0:BL X [] EL:=by
 intro pins s σ H vs us Q I r h
 obtain ⟨e,h⟩:=h
 subst e
 cases r
 exact assignInOrder_nil ⟨σ,H,I,h⟩
theorem xF {es:List Expr} {t:TG} {u:vg} (h1:PG X e t) (h2:BL X es u)
  (hs:(assignEach (e::es) X.env).map (·.2)=assign e X.env::(assignEach es X.env).map (·.2):=by rfl):BL X (e::es) (BN t u):=by
 intro pins s σ H vs us Q I r h
 obtain ⟨v,vr,e1,h⟩:=h
 subst e1
 cases r with
 | cons r rr=>
  rw [hs]
  refine assignInOrder_cons (au (h1 pins s σ H _ _ _ I r h) ?_)
  rintro _ s1 ⟨σ1,H1,I1,q1⟩
  exact h2 pins s1 σ1 H1 _ _ Q I1 rr q1
def BO (K:Q0) (n:Nat) (t:vg):TG:=fun v σ H Q=>∃ a xs,v=.ref a/\af K H a xs/\xs.length=n/\t xs σ H Q
theorem O1 {es:List Expr} {k:Nat} {t:vg} (hc:X.calm=true) (h:BL X es t)
  (hn:(assignEach es X.env).length=n:=by rfl) (yy:(assignEach es X.env).findIdx? (·.1)=none:=by rfl):PG X (.Tuple es k pos) (BO X.K n t):=by
 intro pins s σ H v u Q I r hw
 obtain ⟨a,xs,e1,hq,hl,hw⟩:=hw
 subst e1
 cases r
 obtain ⟨its,rv,ht,hz⟩:=I.tuple hq
 refine assign_Tuple_tuple (I.ok.hd hc) ht (by simp [hn,<- hl,rv.length]) yy fun h' hx=>?_
 have I1:Inv X pins σ H {s with heap:=h'}:=I.kept (t':=s.toks) fun b o e=>hx b o (Nat.ne_of_lt (Qz e)) e
 exact h pins _ σ H xs _ Q I1 (by simpa using rv) hw
def Ka (to ti:TE) (t:EK):TG:=fun v σ H Q=>to σ H fun o H1=>ti σ H1 fun i H2=>t o i v H2 fun H3=>Q σ H3
theorem O2 {o i:Expr} {ti:TE} {t:EK} (ho:PE X o to) (hi:PE X i ti) (hs:GW X t)
  (ha:∀ v,assign (.Subscript o i pos) X.env v=(do
   let ov <- holding [v] (eval o X.env)
   let iv <- holding [v,ov] (eval i X.env)
   standAt pos
   holding [v,ov,iv] (setItem ov iv v)
   release [v,ov,iv] []):=by intro _;rfl):PG X (.Subscript o i pos) (Ka to ti t):=by
 intro pins s σ H v u Q I r h
 rw [ha]
 refine QT (wpAny_holding (au (ho pins s σ H _ I h) ?_))
 rintro ov s1 ⟨x,H1,I1,r1,q1⟩
 refine QT (wpAny_holding (au (hi pins s1 σ H1 _ I1 q1) ?_))
 rintro iv s2 ⟨y,H2,I2,r2,q2⟩
 refine QT (wpAny_standAt (QT (wpAny_holding (au (hs pins s2 σ H2 x y v ov iv u _ I2 r1 r2 r q2) ?_))))
 rintro _ s3 ⟨H3,I3,q3⟩
 exact wpAny_release ⟨σ,H3,I3,q3⟩
def yz (te:TE) (g:TG):TS:=fun D σ H=>te σ H fun x H1=>g x σ H1 D.nx
theorem O3 {g:TG} (he:PE X e te) (hg:PG X tg g) (hs:swapsWithSole [tg] e pos.line X.env=pure false:=by rfl) (hw:swappedStores [tg] e X.env=pure none:=by rfl)
  (h1:(assignEach [tg] X.env).map (·.2)=[assign tg X.env]:=by rfl):PS X (.Assign [tg] e pos) (yz te g):=by
 intro pins s σ H D I h
 refine wpAny_Assign_stores (au (he pins s σ H _ I h) fun v s1 ⟨x,H1,I1,r1,q1⟩=>?_) hs hw
 rw [h1]
 exact au (hg pins s1 σ H1 x v _ I1 r1 q1) fun _ s2 q=>q
theorem O4 {pos':Pos} (hN:X.N.Nodup) (hi:X.N[i]? =some x) (hx:Loc X.env.scope x) (he:PE X e te) (hs:swapsWith e (some (.Name x pos')) pos.line X.env=pure false:=by rfl) (hf:X.fn x=true\/X.env.scope.names.lookup x=some .local:=by first | exact .inl rfl | exact .inr rfl | assumption):
  PS X (.Assign [.Name x pos'] e pos) (yz te (nk i)):=by
 intro pins s σ H D I h
 refine wpAny_Assign_Name (au (he pins s σ H _ I h) fun v s1 ⟨y,H1,I1,r1,q1⟩=>?_) hs
 exact fU I1 hN hi hx r1 (fun s2 I2=>⟨_,H1,I2,q1⟩) hf
def Kc (i j:Nat) (ta:TA):TS:=fun D σ H=>ta σ H fun vs H1=>∃ v w,vs=[v,w]/\D.nx ((σ.set i (some v)).set j (some w)) H1
theorem O5 {y:Str} {a b:Expr} {ta:TA} {px py pt:Pos} {kt k2 A3} (hc:X.calm=true) (hN:X.N.Nodup) (hi:X.N[i]? =some x) (hj:X.N[j]? =some y) (qo:i≠j)
  (hx:X.env.scope.names.lookup x=some .local) (hy:X.env.scope.names.lookup y=some .local) (ha:PA X [a,b] ta)
  (hw:swappedStores [.Tuple [.Name x px,.Name y py] kt pt] (.Tuple [a,b] k2 A3) X.env=pure (some [x,y]))
  (hs:swapsWithSole [.Tuple [.Name x px,.Name y py] kt pt] (.Tuple [a,b] k2 A3) pos.line X.env=pure false:=by rfl):
  PS X (.Assign [.Tuple [.Name x px,.Name y py] kt pt] (.Tuple [a,b] k2 A3) pos) (Kc i j ta):=by
 intro pins s σ H D I h
 rw [exec_Assign_arm]
 refine QT (wpAny_standAt ?_)
 rw [hs]
 refine QT (QU ?_)
 rw [if_neg (by decide)]
 refine QT (Tuple_ (au (ha _ pins s σ H _ I h) ?_))
 rintro us s1 ⟨vs,H1,I1,r1,q1⟩
 obtain ⟨v,w,e1,q1⟩:=q1
 subst e1
 obtain ⟨u1,u2,rfl,rv,nq⟩:∃ u1 u2,us=[u1,u2]/\RelV v u1/\RelV w u2:=by
  cases r1 with
  | cons p q=>
   cases q with
   | cons p' q'=>
    cases q'
    exact ⟨_,_,rfl,p,p'⟩
 refine wpAny_newObj_type ?_ (by show 2<=sizeLine;decide)
 have I2:Inv X pins σ H1 {s1 with heap:=s1.heap.push {cls:=.type "tuple",data:=.seq [u1,u2].toArray}}:=I1.kept (t':=s1.toks) fun b o e=>Qc _ e
 rw [hw]
 refine QT (QU ?_)
 show wpAny (model X.prog X.w) X.A (do rule "assign.swapped-stores";let items <- unpackItems (.ref s1.heap.objs.size) 2 none;assignInOrder [fun v=>bindName X.env y v,fun v=>bindName X.env x v] items.reverse;pure Flow.next) _ _ _
 refine QT (wpAny_rule (QT (unpackItems_tuple (items:=#[u1,u2]) (I.ok.hd hc) (IsTup.new s1.heap _) fun h' A4=>?_)))
 have I3:=I2.kept (h':=h') (t':=s1.toks) fun b o e=>A4 b o (Nat.ne_of_lt (Qz e)) e
 show wpAny _ _ (assignInOrder [fun v=>bindName X.env y v,fun v=>bindName X.env x v] [u2,u1] >>=fun _=>pure Flow.next) _ _ _
 refine QT (assignInOrder_cons (wpAny_bindName (fU I3 hN hj (.inl hy) nq (fun s2 I4=>?_) (.inr hy))))
 refine assignInOrder_cons (wpAny_bindName (fU I4 hN hi (.inl hx) rv (fun s3 I5=>assignInOrder_nil (QU ?_)) (.inr hx)))
 rw [List.set_comm _ _ (Ne.symm qo)] at I5
 exact ⟨_,H1,I5,q1⟩
def Kd (i:Nat) (te:TE) (ti:C3):TS:=fun D σ H=>∃ x,σ[i]? =some (some x)/\te σ H fun y H1=>ti x y H1 fun z H2=>D.nx (σ.set i (some z)) H2
theorem O6 {op:Operator} {ti:C3} {pos':Pos} (hN:X.N.Nodup) (hi:X.N[i]? =some x) (hx:Loc X.env.scope x) (he:PE X e te) (ho:GX X op ti) (hf:X.fn x=true\/X.env.scope.names.lookup x=some .local:=by first | exact .inl rfl | exact .inr rfl | assumption):
  PS X (.AugAssign (.Name x pos') op e pos) (Kd i te ti):=by
 intro pins s σ H D I h
 obtain ⟨v,e1,h⟩:=h
 obtain ⟨m,hn,hl⟩:=I.loc
 have O7:BI X.env.scope x:=by rcases hx with k | k;exact .inl k;exact .inr (.inl k)
 obtain ⟨u,r,l⟩:=hl i x v hi e1 O7
 refine wpAny_AugAssign_Name ?_
 have go:wpAny (model X.prog X.w) X.A (eval e X.env) (fun w s₂=>wpAny (model X.prog X.w) X.A (inplaceOp op u w) (fun r s₃=>wpAny (model X.prog X.w) X.A (storeName X.env x r) (fun _=>SP X pins D .next) X.xe s₃) X.xe s₂) X.xe s:=by
  refine au (he pins s σ H _ I h) ?_
  rintro w s1 ⟨y,H1,I1,r1,q1⟩
  refine au (ho pins s1 σ H1 v y u w _ I1 r r1 q1) ?_
  rintro z s2 ⟨zv,H2,I2,r2,q2⟩
  exact fU I2 hN hi hx r2 (fun s3 I3=>⟨_,H2,I3,q2⟩) hf
 rcases l with ⟨hk,hm⟩ | ⟨hk,c,hc,EH⟩
 ·exact wpAny_loadName_local I.ok.kind hk hn hm go
 ·rcases hk with hk | hk
  ·exact wpAny_loadName_cell I.ok.kind hk hc EH go
  ·rcases hx with k | k
   ·have:X.env.scope.names.lookup x=some .free:=hk
    rw [k] at this;cases this
   ·have:X.env.scope.names.lookup x=some .free:=hk
    rw [k] at this;cases this
def O8 (f:Int->Int->Int):C3:=fun x y H Q=>∃ i j,x=.int i/\y=.int j/\Q (.int (f i j)) H
theorem wV:GX X .Add (O8 fun i j=>i+j):=by
 intro pins s σ H x y v u Q I r1 r2 h
 obtain ⟨i,j,e1,e2,q⟩:=h
 subst e1;subst e2
 obtain ⟨t,rfl⟩:=r1
 obtain ⟨t',rfl⟩:=r2
 exact iadd_int ⟨.int _,H,I.tok _,⟨_,rfl⟩,q⟩
def Ke (c:TT) (tb:TS):TS:=fun D σ H=>∃ W:Nat->St->Hp->Prop,(∃ m,W m σ H)/\∀ m σ H,W m σ H->
 c σ H fun b H1=>if b=true then ∃ N:St->Hp->Prop,(∀ σ' H',N σ' H'->∃ m',m' < m/\W m' σ' H')/\tb {D with nx:=N,ct:=N,bk:=D.nx} σ H1 else D.nx σ H1
theorem vZ {c:Expr} {tc:TT} {tb:TS} (hp:PassesOwn (model X.prog X.w) X.A X.env X.xe) (hc:PT X c tc) (hb:nj X body tb):PS X (.While c body [] pos) (Ke tc tb):=by
 intro pins s σ H D I h
 obtain ⟨W,⟨m0,w0⟩,turn⟩:=h
 refine wpAny_While (codeAny_whileLoop (fun n s'=>∃ σ' H',Inv X pins σ' H' s'/\W n σ' H') ?_ m0 ⟨σ,H,I,w0⟩)
 rintro n s1 ⟨σ1,H1,I1,w1⟩
 refine wpAny_passesOwn hp (au (hc pins s1 σ1 H1 _ I1 (turn n σ1 H1 w1)) ?_)
 rintro b s2 ⟨H2,I2,q2⟩
 cases b with
 | true=>
  obtain ⟨N,hN,q2⟩:=q2
  rw [if_pos rfl]
  refine wpAny_passesOwn hp (au (hb pins s2 σ1 H2 _ I2 q2) fun f s3 q3=>?_)
  cases f with
  | next=>
   obtain ⟨σ3,H3,I3,n3⟩:=q3
   obtain ⟨m',hm,w3⟩:=hN σ3 H3 n3
   exact ⟨m',hm,σ3,H3,I3,w3⟩
  | cont=>
   obtain ⟨σ3,H3,I3,n3⟩:=q3
   obtain ⟨m',hm,w3⟩:=hN σ3 H3 n3
   exact ⟨m',hm,σ3,H3,I3,w3⟩
  | brk=>exact q3
  | ret v=>exact q3
 | false=>
  rw [if_neg Bool.false_ne_true]
  exact wpAny_execs_nil ⟨σ1,H2,I2,q2⟩
end
structure It where
 go:Nat->Hp->Prop
 l_:Nat->Hp->V->Hp->Prop
 stop:Nat->Hp->Prop
def pe (X:Cx) (pins:List (Addr×Obj)) (H:Hp) (b:Addr):Prop:=
 H b=none/\b≠X.env.locals/\b ∉ X.fs/\(b∈X.ex\/X.s₀.heap.objs.size<=b)/\(∀ x c,X.env.cells.lookup x=some c->c≠b)/\∀ p∈X.pn++pins,p.1≠b
theorem Inv.Ae (I:Inv X pins σ H s) (hb:s.heap.objs.size<=b) (hn:H' b=none):pe X pins H' b:=by
 refine ⟨hn,Nat.ne_of_gt (Nat.lt_of_lt_of_le I.lt hb),I.OF hb,.inr (Nat.le_trans I.sz hb),fun x c e z=>?_,fun p hp z=>?_⟩
 ·obtain ⟨v,q⟩:=I.cell x c e
  exact absurd (Nat.lt_of_lt_of_le q.lt (by rw [z];exact hb)) (Nat.lt_irrefl _)
 ·exact absurd (Nat.lt_of_lt_of_le (Qz (I.pin p hp).1) (by rw [z];exact hb)) (Nat.lt_irrefl _)
structure Turn (P:Program) (w:World) (K:Q0) (tg:Expr) (J:It) (fp:List Addr) (it:Addr) (tn:Nat->Heap->Prop):Prop where
 mem:it∈fp
 obj:∀ i h,tn i h->∀ b∈fp,∃ o,h.get? b=some o/\∀ v,o.data≠.cell v
 keep:∀ i h h',tn i h->(∀ b∈fp,∀ o,h.get? b=some o->h'.get? b=some o)->tn i h'
 item:∀ (X:Cx),X.prog=P->X.w=w->X.K=K->X.calm=true->∀ (i:Nat) (pins:List (Addr×Obj)) (s:Shared) (σ:St) (H:Hp) (E:Value->Shared->Prop),Inv X pins σ H s->(∀ b∈fp,pe X pins H b)->tn i s.heap->J.go i H->
  wpAny (model P w) X.A (pyNext (.ref it)) (fun r s1=>∃ u,r=some u/\
   wpAny (model P w) X.A (letOwnedTupleGo tg (.ref it) u) (fun _ s2=>∃ x H',Inv X pins σ H' s2/\RelV x u/\J.l_ i H x H'/\tn (i+1) s2.heap/\∀ b∈fp,H' b=none) E s1) E s
 done:∀ (X:Cx),X.prog=P->X.w=w->X.K=K->X.calm=true->∀ (i:Nat) (pins:List (Addr×Obj)) (s:Shared) (σ:St) (H:Hp) (E:Value->Shared->Prop),Inv X pins σ H s->(∀ b∈fp,pe X pins H b)->tn i s.heap->J.stop i H->
  wpAny (model P w) X.A (pyNext (.ref it)) (fun r s1=>r=none/\Inv X pins σ H s1) E s
 self:∀ (A:Around) (i:Nat) (s:Shared) (Q:Value->Shared->Prop) (E:Value->Shared->Prop),tn i s.heap->Q (.ref it) s->wpAny (model P w) A (pyIter (.ref it)) Q E s
abbrev TI:=St->Hp->(It->Hp->Prop)->Prop
def BP (X:Cx) (pins:List (Addr×Obj)) (σ:St) (tg:Expr) (R:It->Hp->Prop) (nu:Value) (s2:Shared):Prop:=
 ∃ (it:Addr) (fp:List Addr) (tn:Nat->Heap->Prop) (J:It) (H':Hp),nu=.ref it/\Inv X pins σ H' s2/\Turn X.prog X.w X.K tg J fp it tn/\tn 0 s2.heap/\(∀ b∈fp,pe X pins H' b)/\R J H'
def PI (X:Cx) (tg iter:Expr) (wi:TI):Prop:=
 ∀ (pins:List (Addr×Obj)) (s:Shared) (σ:St) (H:Hp) (R:It->Hp->Prop),Inv X pins σ H s->wi σ H R->
  wpAny (model X.prog X.w) X.A (eval iter X.env) (fun v s1=>wpAny (model X.prog X.w) X.A (pyIter v) (BP X pins σ tg R) X.xe s1) X.xe s
theorem nX {M : Model} {A : Around} {E : Value -> Shared -> Prop} {s : Shared} {tg : Expr} {it : Addr} {u : Value} {o : Obj} {n : String} {vs : Array Value} {Q : Unit -> Shared -> Prop} (ho : s.heap.get? it = some o) (hc : o.cls = .type n) (hd : o.data = .fields vs)
    (hn : ["enumerate", "zip", "dict_itemiterator", "dict_reverseitemiterator", "odict_iterator", "itertools.zip_longest", "itertools.pairwise"].contains n = false) (hQ : Q () s) : wpAny M A (letOwnedTupleGo tg (.ref it) u) Q E s := by
  unfold letOwnedTupleGo
  cases tg <;> first
    | exact QU hQ
    | (cases u <;> first
        | exact QU hQ
        | (refine QT (wpAny_load ho ?_)
           rw [hc, hd]
           show wpAny M A (if (["enumerate", "zip", "dict_itemiterator", "dict_reverseitemiterator", "odict_iterator", "itertools.zip_longest", "itertools.pairwise"].contains n && vs[0]? == some (rawInt _)) = true then _ else _) Q E s
           rw [if_neg (by intro h; rw [hn, Bool.false_and] at h; cases h)]
           exact QU hQ))
def GY (K:Q0) (a:Addr):It:=
 ⟨fun i H=>∃ xs x,ak K H a xs/\xs[i]? =some x,fun i H x H'=>H'=H/\∀ xs,ak K H a xs->xs[i]? =some x,fun i H=>∃ xs,ak K H a xs/\xs.length<=i⟩
def GZ (K:Q0) (a:Addr):It:=
 ⟨fun i H=>∃ xs x,af K H a xs/\xs[i]? =some x,fun i H x H'=>H'=H/\∀ xs,af K H a xs->xs[i]? =some x,fun i H=>∃ xs,af K H a xs/\xs.length<=i⟩
def EM (lo:Int) (n:Nat):It:=⟨fun i _=>i < n,fun i H x H'=>H'=H/\x=.int (lo+i),fun i _=>n<=i⟩
theorem vJ {K:Q0} (a it:Addr):Turn P w K tg (GY K a) [it] it (fun i h=>h.IsListIter it a i) where
 mem:=by simp
 obj:=fun i h st b hb=>by
  have e:b=it:=by simpa using hb
  subst e
  obtain ⟨o,e,c,d⟩:=st
  exact ⟨o,e,fun v z=>by rw [d] at z;cases z⟩
 keep:=fun i h h' st k=>st.at fun o e=>k it (by simp) o e
 item:=by
  intro X hP hw hK hc i pins s σ H E I hf st hg
  subst hP hw hK
  obtain ⟨xs,x,hq,hx⟩:=hg
  obtain ⟨its,rv,p,hz⟩:=I.list hq
  obtain ⟨u,hu,ru⟩:=rv.get hx
  obtain ⟨f0,f1,f2,f3,f4,f5⟩:=hf it (by simp)
  refine wpAny_pyNext_list_item st p.isList (x:=u) (by simpa using hu) fun h' jp sb=>?_
  have I1:Inv X pins σ H {s with heap:=h'}:=I.turned (t':=s.toks) (fun b o hb e=>(sb.2 b hb).trans e) f0 f1 f3 f4 f5
  obtain ⟨o,e,c,d⟩:=id jp
  exact ⟨u,rfl,nX (s:={s with heap:=h'}) e c d (by decide) ⟨x,H,I1,ru,⟨rfl,fun ys hy=>by rw [I.GU hy hq];exact hx⟩,jp,fun b hb=>(hf b hb).1⟩⟩
 done:=by
  intro X hP hw hK hc i pins s σ H E I hf st hg
  subst hP hw hK
  obtain ⟨xs,hq,hx⟩:=hg
  obtain ⟨its,rv,p,hz⟩:=I.list hq
  obtain ⟨f0,f1,f2,f3,f4,f5⟩:=hf it (by simp)
  have hl:=rv.length
  exact wpAny_pyNext_list_end (I.ok.hd hc) st p.isList (by simp;omega) fun h' eb=>⟨rfl,I.turned (t':=s.toks) (fun b o hb e=>eb b o hb e) f0 f1 f3 f4 f5⟩
 self:=fun _ _ _ _ _ st h=>wpAny_pyIter_listiter st h
theorem sF {K:Q0} (a it:Addr):Turn P w K tg (GZ K a) [it] it (fun i h=>h.IsTupleIter it a i) where
 mem:=by simp
 obj:=fun i h st b hb=>by
  have e:b=it:=by simpa using hb
  subst e
  obtain ⟨o,e,c,d⟩:=st
  exact ⟨o,e,fun v z=>by rw [d] at z;cases z⟩
 keep:=fun i h h' st k=>st.at fun o e=>k it (by simp) o e
 item:=by
  intro X hP hw hK hc i pins s σ H E I hf st hg
  subst hP hw hK
  obtain ⟨xs,x,hq,hx⟩:=hg
  obtain ⟨its,rv,p,hz⟩:=I.tuple hq
  obtain ⟨u,hu,ru⟩:=rv.get hx
  obtain ⟨f0,f1,f2,f3,f4,f5⟩:=hf it (by simp)
  refine wpAny_pyNext_tuple_item st (show s.heap.IsTuple a its.toArray from p) (x:=u) (by simpa using hu) fun h' jp sb=>?_
  have I1:Inv X pins σ H {s with heap:=h'}:=I.turned (t':=s.toks) (fun b o hb e=>(sb.2 b hb).trans e) f0 f1 f3 f4 f5
  obtain ⟨o,e,c,d⟩:=id jp
  exact ⟨u,rfl,nX (s:={s with heap:=h'}) e c d (by decide) ⟨x,H,I1,ru,⟨rfl,fun ys hy=>by rw [I.OW hy hq];exact hx⟩,jp,fun b hb=>(hf b hb).1⟩⟩
 done:=by
  intro X hP hw hK hc i pins s σ H E I hf st hg
  subst hP hw hK
  obtain ⟨xs,hq,hx⟩:=hg
  obtain ⟨its,rv,p,hz⟩:=I.tuple hq
  obtain ⟨f0,f1,f2,f3,f4,f5⟩:=hf it (by simp)
  have hl:=rv.length
  exact wpAny_pyNext_tuple_end (I.ok.hd hc) st (show s.heap.IsTuple a its.toArray from p) (by simp;omega) fun h' eb=>⟨rfl,I.turned (t':=s.toks) (fun b o hb e=>eb b o hb e) f0 f1 f3 f4 f5⟩
 self:=fun _ _ _ _ _ st h=>wpAny_pyIter_tupleiter st h
theorem rG {K:Q0} (it:Addr) (lo:Int) (n:Nat):Turn P w K tg (EM lo n) [it] it (fun i h=>IsRangeIter h it (lo+(i:Nat)*1) ((n:Int) - (i:Nat)) 1) where
 mem:=by simp
 obj:=fun i h st b hb=>by
  have e:b=it:=by simpa using hb
  subst e
  exact ⟨_,st,fun v z=>by
   have z':Data.fields _=Data.cell v:=z
   cases z'⟩
 keep:=fun i h h' st k=>k it (by simp) _ st
 item:=by
  intro X hP hw hK hc i pins s σ H E I hf st hg
  subst hP hw hK
  obtain ⟨f0,f1,f2,f3,f4,f5⟩:=hf it (by simp)
  have W:=Walks.range (prog:=X.prog) (w:=X.w) (I.ok.hd hc) it lo 1 n
  refine W.item i s _ _ hg st fun v h' tk hv jp kk=>?_
  obtain ⟨t,rfl⟩:=hv
  have I1:Inv X pins σ H {s with heap:=h',toks:=tk}:=I.turned (fun b o hb e=>kk b o (by simpa using hb) e) f0 f1 f3 f4 f5
  refine ⟨_,rfl,nX (s:={s with heap:=h',toks:=tk}) (n:="range_iterator") jp rfl rfl (by decide) ⟨.int (lo+i),H,I1,⟨t,?_⟩,⟨rfl,rfl⟩,jp,fun b hb=>(hf b hb).1⟩⟩
  rw [Int.mul_one]
 done:=by
  intro X hP hw hK hc i pins s σ H E I hf st hg
  subst hP hw hK
  obtain ⟨f0,f1,f2,f3,f4,f5⟩:=hf it (by simp)
  exact wpAny_pyNext_range_end (I.ok.hd hc) st (by have:n<=i:=hg;omega) fun h' eb=>⟨rfl,I.turned (t':=s.toks) (fun b o hb e=>eb b o hb e) f0 f1 f3 f4 f5⟩
 self:=fun _ _ _ _ _ st h=>wpAny_pyIter_rangeiter st h
theorem wZ {R:It->Hp->Prop} {lo hi:Int} {t u v:Tok} {tk:Nat} (I:Inv X pins σ H s) (h1: -(2^62)<=lo) (h2:lo < 2^62) (h3: -(2^62)<=hi) (h4:hi < 2^62)
  (q:R (EM lo (hi - lo).toNat) H):wpAny (model X.prog X.w) X.A (pyIter (.ref s.heap.objs.size)) (BP X pins σ tg R) E {s with heap:=s.heap.push {cls:=.type "range",data:=.fields #[.int lo t,.int hi u,.int 1 v]},toks:=tk}:=by
 refine wpAny_pyIter_range (IsRange.new ..) (small_one h1 h2 h3 h4) ?_
 have I1:Inv X pins σ H {s with heap:=s.heap.push {cls:=.type "range",data:=.fields #[.int lo t,.int hi u,.int 1 v]},toks:=tk}:=I.kept fun b o e=>Qc _ e
 refine ⟨(s.heap.push {cls:=.type "range",data:=.fields #[.int lo t,.int hi u,.int 1 v]}).objs.size,[(s.heap.push {cls:=.type "range",data:=.fields #[.int lo t,.int hi u,.int 1 v]}).objs.size],_,_,H,rfl,
  I1.kept (t':=tk) fun b o e=>Qc _ e,rG _ lo (hi - lo).toNat,?_,fun b hb=>?_,q⟩
 ·have e1:lo+((0:Nat):Int)*1=lo:=by simp
  have e2:(((hi - lo).toNat:Nat):Int) - ((0:Nat):Int)=Builtin.Range.rangeSize lo hi 1:=by rw [rangeSize_one];split<;>omega
  show IsRangeIter _ _ (lo+((0:Nat):Int)*1) ((((hi - lo).toNat:Nat):Int) - ((0:Nat):Int)) 1
  rw [e1,e2]
  exact Qd _ rfl
 ·have e:b=(s.heap.push {cls:=.type "range",data:=.fields #[.int lo t,.int hi u,.int 1 v]}).objs.size:=by simpa using hb
  subst e
  exact I1.Ae (Qy _) (I1.hok.fresh (Qy _))
def Kf (ta:TA):TI:=fun σ H R=>ta σ H fun vs H1=>∃ j:Int,vs=[.int j]/\ -(2^62)<=j/\j < 2^62/\R (EM 0 j.toNat) H1
theorem uE {a:Expr} {ta:TA} {p pos:Pos} (hg:Gl X "range") (hm:X.mg "range"=none) (ha:PA X [a] ta) (hs:starEach [a] X.env=[(false,eval a X.env)]:=by rfl):PI X tg (.Call (.Name "range" p) [a] [] pos) (Kf ta):=by
 intro pins s σ H R I h
 refine Call_ (mS I hg hm boot_range (PyProof.Rows.callWith_type1 (au (ha pos pins s σ H _ I h) fun us s1 ⟨vs,H1,I1,r1,q1⟩=>?_) hs rfl))
 obtain ⟨j,e,q1,q2,q⟩:=q1
 subst e
 cases r1 with
 | cons r rr=>
  cases rr
  obtain ⟨t,rfl⟩:=r
  exact call_range_1 (wZ I1 (by omega) (by omega) q1 q2 (by simpa using q))
def Kg (wi:TI) (g:TG) (tb:TS):TS:=fun D σ H=>wi σ H fun J H1=>∃ W:Nat->Nat->St->Hp->Prop,(∃ m,W 0 m σ H1)/\∀ i m σ H,W i m σ H->
 (J.stop i H/\D.nx σ H)\/(J.go i H/\∃ N:St->Hp->Prop,(∀ σ' H',N σ' H'->∃ m',m' < m/\W (i+1) m' σ' H')/\∀ x H',J.l_ i H x H'->g x σ H' fun σ2 H2=>tb {D with nx:=N,ct:=N,bk:=D.nx} σ2 H2)
def A5 (fp:List Addr) (h:Heap):List (Addr×Obj):=fp.filterMap fun b=>(h.get? b).map fun o=>(b,o)
theorem bU {o:Obj} (hb:b∈fp) (e:h.get? b=some o):(b,o)∈A5 fp h:=List.mem_filterMap.mpr ⟨b,hb,by rw [e];rfl⟩
theorem u8 {p:Addr×Obj} (hp:p∈A5 fp h):p.1∈fp/\h.get? p.1=some p.2:=by
 obtain ⟨b,hb,e⟩:=List.mem_filterMap.mp hp
 cases q:h.get? b with
 | none=>rw [q] at e;cases e
 | some o=>
  rw [q] at e
  have e':(b,o)=p:=QD e
  subst e'
  exact ⟨hb,q⟩
theorem Inv.pinned (I:Inv X pins σ H s) (hf:∀ b∈fp,pe X pins H b) (ho:∀ b∈fp,∃ o,s.heap.get? b=some o/\∀ v,o.data≠.cell v):Inv X (pins++A5 fp s.heap) σ H s:=
 I.J5 fun p hp=>(List.mem_append.mp hp).elim (fun z=>I.pin p (List.mem_append_right _ z)) fun z=>by
  obtain ⟨hb,e⟩:=u8 z
  obtain ⟨f0,f1,f2,_⟩:=hf p.1 hb
  obtain ⟨o,e',d⟩:=ho p.1 hb
  rw [e] at e';cases e'
  exact ⟨e,f0,f1,f2,d⟩
theorem Inv.BQ {pl:List (Addr×Obj)} (I:Inv X (pins++pl) σ H s):Inv X pins σ H s:=I.J5 fun p hp=>I.pin p (List.mem_append_right _ (List.mem_append_left _ hp))
theorem O9 {iter:Expr} {wi:TI} {g:TG} {tb:TS} {pos:Pos} (hp:PassesOwn (model X.prog X.w) X.A X.env X.xe) (hc:X.calm=true) (hi:PI X tg iter wi) (hg:PG X tg g) (hb:nj X body tb)
  (hs:∀ x,foldedSetIterable iter X.env x=pure x:=by intro _;rfl):PS X (.For tg iter body [] pos) (Kg wi g tb):=by
 intro pins s σ H D I h
 refine wpAny_For (au (hi pins s σ H _ I h) fun v s1 h1=>au h1 fun nu s2 h2=>?_) hs
 obtain ⟨it,fp,tn,J,H2,e,I2,T,qp,f2,W,⟨m0,w0⟩,turn⟩:=h2
 subst e
 -- O_ stays true of A6 W1 objects through A6 loop
 have n_:∀ {H':Hp},(∀ b∈fp,H' b=none)->∀ b∈fp,pe X pins H' b:=fun hn b hb=>⟨hn b hb,(f2 b hb).2⟩
 refine codeAny_forLoop_any (fun n s'=>∃ i σ' H',Inv X pins σ' H' s'/\tn i s'.heap/\(∀ b∈fp,H' b=none)/\W i n σ' H') ?_ m0 ⟨0,σ,H2,I2,qp,fun b hb=>(f2 b hb).1,w0⟩
 rintro n s3 ⟨i,σ3,H3,I3,vh,vj,w3⟩
 rcases turn i n σ3 H3 w3 with ⟨stop,qn⟩ | ⟨go,N,hN,step⟩
 ·refine wpAny_passesOwn hp (au (T.done X rfl rfl rfl hc i pins s3 σ3 H3 X.xe I3 (n_ vj) vh stop) ?_)
  rintro r s4 ⟨hr,I4⟩
  subst hr
  exact wpAny_execs_nil ⟨σ3,H3,I4,qn⟩
 ·refine wpAny_passesOwn hp (au (T.item X rfl rfl rfl hc i pins s3 σ3 H3 X.xe I3 (n_ vj) vh go) ?_)
  rintro r s4 ⟨u,hr,h4⟩
  subst hr
  refine wpAny_passesOwn hp (au h4 ?_)
  rintro _ s5 ⟨x,H5,I5,r5,y5,oh,A7⟩
  have A8:=I5.pinned (n_ A7) (T.obj _ _ oh)
  refine wpAny_passesOwn hp (au (hg _ s5 σ3 H5 x u _ A8 r5 (step x H5 y5)) ?_)
  rintro _ s6 ⟨σ6,H6,I6,q6⟩
  refine wpAny_passesOwn hp (au (hb _ s6 σ6 H6 _ I6 q6) fun f s7 q7=>?_)
  have again:∀ {σ7:St} {H7:Hp},Inv X (pins++A5 fp s5.heap) σ7 H7 s7->N σ7 H7->∃ m,m < n/\∃ i σ' H',Inv X pins σ' H' s7/\tn i s7.heap/\(∀ b∈fp,H' b=none)/\W i m σ' H':=fun {σ7 H7} I7 n7=>by
   obtain ⟨m',hm,w7⟩:=hN σ7 H7 n7
   refine ⟨m',hm,i+1,σ7,H7,I7.BQ,T.keep _ _ _ oh fun b hb o e=>(I7.pin (b,o) (List.mem_append_right _ (List.mem_append_right _ (bU hb e)))).1,fun b hb=>?_,w7⟩
   obtain ⟨o,e,d⟩:=T.obj _ _ oh b hb
   exact (I7.pin (b,o) (List.mem_append_right _ (List.mem_append_right _ (bU hb e)))).2.1
  cases f with
  | next=>obtain ⟨σ7,H7,I7,n7⟩:=q7;exact again I7 n7
  | cont=>obtain ⟨σ7,H7,I7,n7⟩:=q7;exact again I7 n7
  | brk=>obtain ⟨σ7,H7,I7,q7⟩:=q7;exact ⟨σ7,H7,I7.BQ,q7⟩
  | ret v=>obtain ⟨x7,σ7,H7,I7,r7,q7⟩:=q7;exact ⟨x7,σ7,H7,I7.BQ,r7,q7⟩
abbrev R2:=V->V->Hp->VK->Prop
def cj (X:Cx) (f:Value->Value->Sem Value) (r:R2):Prop:=
 ∀ (pins:List (Addr×Obj)) (s:Shared) (σ:St) (H:Hp) (x y:V) (v u:Value) (Q:VK),Inv X pins σ H s->RelV x v->RelV y u->r x y H Q->
  wpAny (model X.prog X.w) X.A (f v u) (EP X pins σ Q) X.xe s
def EN (X:Cx) (f:Value->Sem Value) (r:V->Hp->VK->Prop):Prop:=
 ∀ (pins:List (Addr×Obj)) (s:Shared) (σ:St) (H:Hp) (x:V) (v:Value) (Q:VK),Inv X pins σ H s->RelV x v->r x H Q->
  wpAny (model X.prog X.w) X.A (f v) (EP X pins σ Q) X.xe s
def vm (X:Cx) (f:Value) (r:List V->Hp->VK->Prop):Prop:=
 ∀ (pins:List (Addr×Obj)) (s:Shared) (σ:St) (H:Hp) (xs:List V) (us:List Value) (Q:VK),Inv X pins σ H s->a_ xs us->r xs H Q->
  wpAny (model X.prog X.w) X.A (call f us) (EP X pins σ Q) X.xe s
def ko (r:R2) (ta tb:TE):TE:=fun σ H Q=>ta σ H fun x H1=>tb σ H1 fun y H2=>r x y H2 Q
def Kh (r:V->Hp->VK->Prop) (ta:TE):TE:=fun σ H Q=>ta σ H fun x H1=>r x H1 Q
def rI (C:Int->Int->Prop) (g:Int->Int->V):R2:=fun x y H Q=>∃ i j,x=.int i/\y=.int j/\C i j/\Q (g i j) H
def BR (g:Int->Int->V):R2:=fun x y H Q=>∃ i j,x=.int i/\y=.int j/\Q (g i j) H
def rU (g:Int->V):V->Hp->VK->Prop:=fun x H Q=>∃ i,x=.int i/\Q (g i) H
section
variable {a b c:Expr} {ta tb tc:TE} {pos:Pos}
theorem G0 (ha:PE X a ta) (hb:PE X b tb) {R:V->V->Hp->Prop} (I:Inv X pins σ H s)
  (h:ta σ H fun x H1=>tb σ H1 fun y H2=>R x y H2) {Q:Value->Shared->Prop} {f:Value->Value->Sem Value}
  (hf:∀ v u s2 x y H2,Inv X pins σ H2 s2->RelV x v->RelV y u->R x y H2->wpAny (model X.prog X.w) X.A (f v u) Q X.xe s2):
  wpAny (model X.prog X.w) X.A (eval a X.env) (fun v s₁=>wpAny (model X.prog X.w) X.A (eval b X.env) (fun u s₂=>wpAny (model X.prog X.w) X.A (f v u) Q X.xe s₂) X.xe s₁) X.xe s:=by
 refine au (ha pins s σ H _ I h) ?_
 rintro v s1 ⟨x,H1,I1,r1,q1⟩
 refine au (hb pins s1 σ H1 _ I1 q1) ?_
 rintro u s2 ⟨y,H2,I2,r2,q2⟩
 exact hf v u s2 x y H2 I2 r1 r2 q2
theorem Pa {op:Operator} {r:R2} (ho:cj X (binaryOp op) r) (ha:PE X a ta) (hb:PE X b tb):PE X (.BinOp a op b pos) (ko r ta tb):=by
 intro pins s σ H Q I h
 exact wpAny_BinOp (G0 ha hb I h fun v u s2 x y H2 I2 rx ry q=>ho pins s2 σ H2 x y v u Q I2 rx ry q)
theorem Pb {op:UnaryOp} {r:V->Hp->VK->Prop} (ho:EN X (unaryOp op) r) (ha:PE X a ta):PE X (.UnaryOp op a pos) (Kh r ta):=by
 intro pins s σ H Q I h
 exact UnaryOp_ (au (ha pins s σ H _ I h) fun v s1 ⟨x,H1,I1,r1,q1⟩=>ho pins s1 σ H1 x v Q I1 r1 q1)
theorem EO {f:Value->Value->Sem Value} {C:Int->Int->Prop} {g:Int->Int->Int}
  (rule:∀ (i j:Int) (t u:Tok) (s:Shared) (Q:Value->Shared->Prop) (E:Value->Shared->Prop),C i j->Q (.int (g i j) s.toks) {s with toks:=s.toks+1}->wpAny (model X.prog X.w) X.A (f (.int i t) (.int j u)) Q E s):
  cj X f (rI C fun i j=>.int (g i j)):=by
 intro pins s σ H x y v u Q I rx ry h
 obtain ⟨i,j,rfl,rfl,hc,q⟩:=h
 obtain ⟨t,rfl⟩:=rx
 obtain ⟨t',rfl⟩:=ry
 exact rule i j t t' s _ _ hc ⟨.int (g i j),H,I.tok _,⟨_,rfl⟩,q⟩
theorem Pc {f:Value->Value->Sem Value} {g:Int->Int->Int}
  (rule:∀ (i j:Int) (t u:Tok) (s:Shared) (Q:Value->Shared->Prop) (E:Value->Shared->Prop),Q (.int (g i j) s.toks) {s with toks:=s.toks+1}->wpAny (model X.prog X.w) X.A (f (.int i t) (.int j u)) Q E s):
  cj X f (BR fun i j=>.int (g i j)):=by
 intro pins s σ H x y v u Q I rx ry h
 obtain ⟨i,j,rfl,rfl,q⟩:=h
 obtain ⟨t,rfl⟩:=rx
 obtain ⟨t',rfl⟩:=ry
 exact rule i j t t' s _ _ ⟨.int (g i j),H,I.tok _,⟨_,rfl⟩,q⟩
theorem G1 {f:Value->Value->Sem Value} {g:Int->Int->Bool}
  (rule:∀ (i j:Int) (t u:Tok) (s:Shared) (Q:Value->Shared->Prop) (E:Value->Shared->Prop),Q (.bool (g i j)) s->wpAny (model X.prog X.w) X.A (f (.int i t) (.int j u)) Q E s):
  cj X f (BR fun i j=>.bl (g i j)):=by
 intro pins s σ H x y v u Q I rx ry h
 obtain ⟨i,j,rfl,rfl,q⟩:=h
 obtain ⟨t,rfl⟩:=rx
 obtain ⟨t',rfl⟩:=ry
 exact rule i j t t' s _ _ ⟨.bl (g i j),H,I,rfl,q⟩
def Pd (i j:Int):Prop:=0 < j/\j < 1073741824
def Kl (i j:Int):Prop:=0<=j/\j<=1000000/\i.natAbs < 2^64
def EQ (i j:Int):Prop:=(-(2^64) < i/\i < 2^64)\/(-(2^64) < j/\j < 2^64)
theorem EQ.ok {i j:Int} (h:EQ i j):IntMulOk i j:=by
 rcases h with ⟨h1,h2⟩ | ⟨h1,h2⟩
 ·exact .of_left (intBits_le_64 h1 h2)
 ·exact .of_right (intBits_le_64 h1 h2)
theorem Pe:cj X (binaryOp .Add) (BR fun i j=>.int (i+j)):=Pc fun _ _ _ _ _ _ _ q=>add_int q
theorem Pf:cj X (binaryOp .Mult) (rI EQ fun i j=>.int (i*j)):=EO fun _ _ _ _ _ _ _ hc q=>mul_int q hc.ok
theorem Pg:cj X (binaryOp .FloorDiv) (rI Pd fun i j=>.int (i / j)):=EO fun i j _ _ _ _ _ hc q=>by
 have h1:(0:Int) < j:=hc.1
 have h2:j < 1073741824:=hc.2
 exact floordiv_int (by omega) (by rw [Int.fdiv_eq_ediv_of_nonneg i (by omega)];exact q) (.inl (PyProof.noPylong_small (by omega)))
theorem Ph:cj X (binaryOp .Mod) (rI (fun _ j=>0 < j) fun i j=>.int (i % j)):=EO fun i j _ _ _ _ _ hc q=>by
 have h1:(0:Int) < j:=hc
 exact mod_int' (by omega) (by rw [Int.fmod_eq_emod_of_nonneg i (by omega)];exact q)
theorem Pj:cj X (binaryOp .Pow) (rI Kl fun i j=>.int (i^j.toNat)):=EO fun _ _ _ _ _ _ _ hc q=>pow_int_small hc.1 hc.2.1 hc.2.2 q
theorem Pk {f:Value->Sem Value} {g:Int->Int}
  (rule:∀ (i:Int) (t:Tok) (s:Shared) (Q:Value->Shared->Prop) (E:Value->Shared->Prop),Q (.int (g i) s.toks) {s with toks:=s.toks+1}->wpAny (model X.prog X.w) X.A (f (.int i t)) Q E s):
  EN X f (rU fun i=>.int (g i)):=by
 intro pins s σ H x v Q I rx h
 obtain ⟨i,rfl,q⟩:=h
 obtain ⟨t,rfl⟩:=rx
 exact rule i t s _ _ ⟨.int (g i),H,I.tok _,⟨_,rfl⟩,q⟩
theorem Pn:EN X (unaryOp .USub) (rU fun i=>.int (-i)):=Pk fun _ _ _ _ _ q=>neg_int q
end
def C4:V->V->Bool
 | .ai,.ai=>true | .ai,.int _=>true | .int _,.ai=>true | .ai,.bl _=>true | .bl _,.ai=>true | .ai,.str _=>true | .str _,.ai=>true
 | .int _,.int _=>true | .bl _,.bl _=>true | .str _,.str _=>true | .o_ _,.o_ _=>true
 | .int _,.str _=>true | .str _,.int _=>true | .bl _,.str _=>true | .str _,.bl _=>true
 | _,_=>false
def Po:R2:=fun x y H Q=>C4 x y=true/\Q (.bl (decide (x=y))) H
def Pp:R2:=fun x y H Q=>C4 x y=true/\Q (.bl (!decide (x=y))) H
theorem sK {i j:Int}:decide (V.int i=V.int j)=(i==j):=by
 rw [Bool.eq_iff_iff]
 simp
theorem wR {i j:Bool}:decide (V.bl i=V.bl j)=(i==j):=by
 rw [Bool.eq_iff_iff]
 simp
theorem tD {i j:Str}:decide (V.str i=V.str j)=(i==j):=by
 rw [Bool.eq_iff_iff]
 simp
theorem tM {i j:Array UInt8}:decide (V.o_ i=V.o_ j)=(i.toList==j.toList):=by
 rw [Bool.eq_iff_iff]
 cases i
 cases j
 simp
section
variable {a b c:Expr} {ta tb tc:TE} {pos:Pos}
theorem aT {Q:VK} {k k':Bool} (I:Inv X pins σ H s) (q:Q (.bl k) H) (e:k=k'):EP X pins σ Q (.bool k') s:=by
 subst e
 exact ⟨.bl k,H,I,rfl,q⟩
theorem Pq:cj X (compareOp .Eq) Po:=by
 intro pins s σ H x y v u Q I rx ry h
 obtain ⟨hs,q⟩:=h
 cases x with
 | ai=>
  cases rx
  cases y with
  | ai=>cases ry;exact PySem.EqNone.eq_none_none (aT I q (by simp))
  | bl j=>cases ry;exact PySem.EqNone.eq_none_bool (aT I q (by simp))
  | int j=>obtain ⟨t',rfl⟩:=ry;exact PySem.EqNone.eq_none_int (aT I q (by simp))
  | str j=>obtain ⟨t',rfl⟩:=ry;exact PySem.EqNone.eq_none_str (aT I q (by simp))
  | _=>exact absurd (show false=true from hs) Bool.false_ne_true
 | bl i=>
  cases rx
  cases y with
  | ai=>cases ry;exact PySem.EqNone.eq_bool_none (aT I q (by simp))
  | bl j=>cases ry;exact eq_bool (aT I q wR)
  | str j=>obtain ⟨t',rfl⟩:=ry;exact PySem.EqMixed.eq_bool_str (aT I q (by simp))
  | _=>exact absurd (show false=true from hs) Bool.false_ne_true
 | int i=>
  obtain ⟨t,rfl⟩:=rx
  cases y with
  | ai=>cases ry;exact PySem.EqNone.eq_int_none (aT I q (by simp))
  | int j=>obtain ⟨t',rfl⟩:=ry;exact eq_int (aT I q sK)
  | str j=>obtain ⟨t',rfl⟩:=ry;exact PySem.EqMixed.eq_int_str (aT I q (by simp))
  | _=>exact absurd (show false=true from hs) Bool.false_ne_true
 | str i=>
  obtain ⟨t,rfl⟩:=rx
  cases y with
  | ai=>cases ry;exact PySem.EqNone.eq_str_none (aT I q (by simp))
  | bl j=>cases ry;exact PySem.EqMixed.eq_str_bool (aT I q (by simp))
  | int j=>obtain ⟨t',rfl⟩:=ry;exact PySem.EqMixed.eq_str_int (aT I q (by simp))
  | str j=>obtain ⟨t',rfl⟩:=ry;exact eq_str (aT I q tD)
  | _=>exact absurd (show false=true from hs) Bool.false_ne_true
 | o_ i=>
  obtain ⟨t,rfl⟩:=rx
  cases y with
  | o_ j=>obtain ⟨t',rfl⟩:=ry;exact PySem.W.eq_bytes (aT I q tM)
  | _=>exact absurd (show false=true from hs) Bool.false_ne_true
 | _=>cases y<;>exact absurd (show false=true from hs) Bool.false_ne_true
theorem Pu:cj X (compareOp .NotEq) Pp:=by
 intro pins s σ H x y v u Q I rx ry h
 obtain ⟨hs,q⟩:=h
 cases x with
 | ai=>
  cases rx
  cases y with
  | ai=>cases ry;exact PySem.EqNone.ne_none_none (aT I q (by simp))
  | bl j=>cases ry;exact PySem.EqNone.ne_none_bool (aT I q (by simp))
  | int j=>obtain ⟨t',rfl⟩:=ry;exact PySem.EqNone.ne_none_int (aT I q (by simp))
  | str j=>obtain ⟨t',rfl⟩:=ry;exact PySem.EqNone.ne_none_str (aT I q (by simp))
  | _=>exact absurd (show false=true from hs) Bool.false_ne_true
 | bl i=>
  cases rx
  cases y with
  | ai=>cases ry;exact PySem.EqNone.ne_bool_none (aT I q (by simp))
  | bl j=>cases ry;exact ne_bool (aT I q (congrArg not wR))
  | str j=>obtain ⟨t',rfl⟩:=ry;exact PySem.EqMixed.ne_bool_str (aT I q (by simp))
  | _=>exact absurd (show false=true from hs) Bool.false_ne_true
 | int i=>
  obtain ⟨t,rfl⟩:=rx
  cases y with
  | ai=>cases ry;exact PySem.EqNone.ne_int_none (aT I q (by simp))
  | int j=>obtain ⟨t',rfl⟩:=ry;exact ne_int (aT I q (congrArg not sK))
  | str j=>obtain ⟨t',rfl⟩:=ry;exact PySem.EqMixed.ne_int_str (aT I q (by simp))
  | _=>exact absurd (show false=true from hs) Bool.false_ne_true
 | str i=>
  obtain ⟨t,rfl⟩:=rx
  cases y with
  | ai=>cases ry;exact PySem.EqNone.ne_str_none (aT I q (by simp))
  | bl j=>cases ry;exact PySem.EqMixed.ne_str_bool (aT I q (by simp))
  | int j=>obtain ⟨t',rfl⟩:=ry;exact PySem.EqMixed.ne_str_int (aT I q (by simp))
  | str j=>obtain ⟨t',rfl⟩:=ry;exact ne_str (aT I q (congrArg not tD))
  | _=>exact absurd (show false=true from hs) Bool.false_ne_true
 | o_ i=>
  obtain ⟨t,rfl⟩:=rx
  cases y with
  | o_ j=>obtain ⟨t',rfl⟩:=ry;exact PySem.W.ne_bytes (aT I q (congrArg not tM))
  | _=>exact absurd (show false=true from hs) Bool.false_ne_true
 | _=>cases y<;>exact absurd (show false=true from hs) Bool.false_ne_true
theorem Pw:cj X (compareOp .Lt) (BR fun i j=>.bl (decide (i < j))):=G1 fun _ _ _ _ _ _ _ q=>lt_int q
theorem Px:cj X (compareOp .Gt) (BR fun i j=>.bl (decide (j < i))):=G1 fun _ _ _ _ _ _ _ q=>gt_int q
theorem Py:cj X (compareOp .GtE) (BR fun i j=>.bl (decide (j<=i))):=G1 fun _ _ _ _ _ _ _ q=>ge_int q
theorem uZ:cj X (compareOp .Lt) (fun x y H Q=>∃ i j,x=.str i/\y=.str j/\Q (.bl (decide (i.cps.toList < j.cps.toList))) H):=by
 intro pins s σ H x y v u Q I rx ry h
 obtain ⟨i,j,rfl,rfl,q⟩:=h
 obtain ⟨t,rfl⟩:=rx
 obtain ⟨t',rfl⟩:=ry
 exact lt_str (aT I q rfl)
theorem uK:cj X (compareOp .In) (fun x y H Q=>∃ i j,x=.str i/\y=.str j/\Q (.bl (!(Builtin.Str.occurrences j i 0 j.length 1).isEmpty)) H):=by
 intro pins s σ H x y v u Q I rx ry h
 obtain ⟨i,j,rfl,rfl,q⟩:=h
 obtain ⟨t,rfl⟩:=rx
 obtain ⟨t',rfl⟩:=ry
 exact in_str (aT I q rfl)
theorem Pz:cj X (compareOp .Is) (fun x y H Q=>y=.ai/\Q (.bl (decide (x=.ai))) H):=by
 intro pins s σ H x y v u Q I rx ry h
 obtain ⟨rfl,q⟩:=h
 cases ry
 refine is_none_gen (aT I q ?_)
 cases x<;>first
  | (cases rx;rfl)
  | (obtain ⟨t,rfl⟩:=rx;rfl)
theorem yY:cj X (compareOp .IsNot) (fun x y H Q=>y=.ai/\Q (.bl (!decide (x=.ai))) H):=by
 intro pins s σ H x y v u Q I rx ry h
 obtain ⟨rfl,q⟩:=h
 cases ry
 refine isnot_none_gen (aT I q ?_)
 cases x<;>first
  | (cases rx;rfl)
  | (obtain ⟨t,rfl⟩:=rx;rfl)
theorem gg (b:Expr) (h:op≠.In:=by decide) (h2:op≠.NotIn:=by decide):behindInMarks op b=false:=by
 have e1:(op==CmpOp.In)=false:=by cases op<;>first | rfl | exact absurd rfl h
 have e2:(op==CmpOp.NotIn)=false:=by cases op<;>first | rfl | exact absurd rfl h2
 cases b<;>simp [behindInMarks,e1,e2]
theorem PB {r:R2} (ho:cj X (compareOp op) r) (ha:PE X a ta) (hb:PE X b tb) (hm:behindInMarks op b=false):PE X (.Compare a [op] [b] pos) (ko r ta tb):=by
 intro pins s σ H Q I h
 exact wpAny_Compare1 (G0 ha hb I h fun v u s2 x y H2 I2 rx ry q=>ho pins s2 σ H2 x y v u Q I2 rx ry q) hm
def ER (t:TE):TT:=fun σ H Q=>t σ H fun x H'=>∃ k,x=.bl k/\Q k H'
theorem PF {r:R2} (ho:cj X (compareOp op) r) (ha:PE X a ta) (hb:PE X b tb) (hm:behindInMarks op b=false):PT X (.Compare a [op] [b] pos) (ER (ko r ta tb)):=by
 intro pins s σ H Q I h
 refine wpAny_isTrue_Compare1 (au (ha pins s σ H _ I h) fun v s1 ⟨x,H1,I1,r1,q1⟩=>au (hb pins s1 σ H1 _ I1 q1) fun u s2 ⟨y,H2,I2,r2,q2⟩=>
  au (ho pins s2 σ H2 x y v u _ I2 r1 r2 q2) fun c s3 ⟨z,H3,I3,r3,k,e,q3⟩=>?_) hm
 subst e
 cases r3
 exact wpAny_truthy_bool ⟨H3,I3,q3⟩
theorem C5:(sizeLine:Nat) < 2^63:=by rw [QL];decide
theorem qS:cj X (binaryOp .Add) (fun x y H Q=>∃ i j,x=.str i/\y=.str j/\i.length+j.length<=sizeLine/\Q (.str (i++j)) H):=by
 intro pins s σ H x y v u Q I rx ry h
 obtain ⟨i,j,rfl,rfl,hz,q⟩:=h
 obtain ⟨t,rfl⟩:=rx
 obtain ⟨t',rfl⟩:=ry
 exact add_str (fun t' tk=>⟨.str (i++j),H,I.tok _,⟨_,rfl⟩,q⟩) hz
theorem vals1 {x:V} (r:a_ [x] us):∃ u,us=[u]/\RelV x u:=by
 cases r with
 | cons r1 r2=>cases r2;exact ⟨_,rfl,r1⟩
def PJ (K:Q0) (x:V) (H:Hp) (n:Nat):Prop:=
 match x with
 | .str y=>y.length<=sizeLine/\n=y.length
 | .o_ y=>y.size<=sizeLine/\n=y.size
 | .ref p=>(∃ xs,ak K H p xs/\n=xs.length)\/∃ xs,af K H p xs/\n=xs.length
 | _=>False
theorem kH:vm X (.builtin "len") (fun xs H Q=>∃ x n,xs=[x]/\PJ X.K x H n/\Q (.int n) H):=by
 intro pins s σ H xs us Q I r h
 obtain ⟨x,n,rfl,e,q⟩:=h
 obtain ⟨u,rfl,rx⟩:=vals1 r
 have hl:=C5
 have hs:sizeLine=16777216:=QL
 cases x with
 | str y=>
  obtain ⟨t,rfl⟩:=rx
  obtain ⟨hy,e'⟩:y.length<=sizeLine/\n=y.length:=e
  subst e'
  exact len_str (by omega) ⟨.int _,H,I.tok _,⟨_,rfl⟩,q⟩
 | o_ y=>
  obtain ⟨t,rfl⟩:=rx
  obtain ⟨hy,e'⟩:y.size<=sizeLine/\n=y.size:=e
  subst e'
  exact PySem.W.len_bytes (by omega) ⟨.int _,H,I.tok _,⟨_,rfl⟩,q⟩
 | ref p=>
  cases rx
  have e':(∃ xs,ak X.K H p xs/\n=xs.length)\/∃ xs,af X.K H p xs/\n=xs.length:=e
  rcases e' with ⟨xs,hx,e'⟩ | ⟨xs,hx,e'⟩
  ·subst e'
   obtain ⟨its,r',pl,hz⟩:=I.list hx
   have fg:=r'.length
   exact Calls.call_len_list pl.isList (by simp only [List.size_toArray];omega) ⟨.int xs.length,H,I.tok _,⟨_,by simp only [List.size_toArray];rw [fg]⟩,q⟩
  ·subst e'
   obtain ⟨its,r',pl,hz⟩:=I.tuple hx
   have fg:=r'.length
   exact len_tuple pl (by simp only [List.size_toArray];omega) ⟨.int xs.length,H,I.tok _,⟨_,by simp only [List.size_toArray];rw [fg]⟩,q⟩
 | _=>exact (show False from e).elim
end
structure BS (h:Heap) (x dx C:Addr) (mA:Str->Option Value):Prop where
 obj:h.get? x=some (PySem.W.instObj C dx)
 ns:h.Ns1 dx mA
 ne:dx≠x
theorem vE {dx:Addr} (n:h.Ns1 dx mA):∃ od,h.get? dx=some od/\∀ name,PySem.W.lookIn name od=some (mA name):=by
 obtain ⟨o,es,ep,ho,hd,hk,_,hm⟩:=n
 refine ⟨o,ho,fun name=>?_⟩
 have e:=hm name
 unfold nsFind findBy at e
 rw [<- Array.find?_toList] at e
 unfold PySem.W.lookIn
 rw [hd]
 dsimp only
 split
 ·rename_i y q
  rw [q] at e
  exact congrArg some e
 ·rename_i q
  rw [q] at e
  have a:es.toList.any (·.refKey)=false:=by
   rw [List.any_eq_false]
   intro y hy
   obtain ⟨z,t,PK⟩:=hk y (Array.mem_toList_iff.mp hy)
   simp [DictEntry.refKey,PK]
  have a':¬es.toList.any (·.refKey)=true:=by rw [a];exact Bool.false_ne_true
  rw [if_neg a']
  exact congrArg some e
theorem BS.look {x dx:Addr} (I:BS h x dx C mA):∃ od,PySem.W.InstAt h x (PySem.W.instObj C dx) C (some od)/\∀ name,PySem.W.lookIn name od=some (mA name):=
 let ⟨od,ho,hl⟩:=vE I.ns
 ⟨od,⟨I.obj,rfl,rfl,ho⟩,hl⟩
section
variable {K:Q0} {x dx f:Addr} {name:Str} {v:Value}
theorem zL {expr:Bool} (X:K.In s.heap) (I:BS s.heap x dx C mA) (hg:PySem.W.plainGet K C name=true) (hh:PySem.W.hasDictIn K C=true)
  (ha:PySem.W.findIn K (.ref C) name=some none) (hv:mA name=some v) (C6:PySem.W.handedIn v=true) (h:Q v {s with toks:=s.toks+1}):
  wpAny (model prog w) A (getAttr (.ref x) name expr) Q E s:=by
 obtain ⟨od,J,hl⟩:=I.look
 exact PySem.W.get_value X J (PySem.W.plainGet_of hg).1 (PySem.W.findObj_own hh ha rfl (by rw [hl,hv])) C6 h
theorem zP {Q:Unit->Shared->Prop} (X:K.In s.heap) (I:BS s.heap x dx C mA)
  (hs:PySem.W.findIn K (.ref C) "__setattr__"=some (some (.builtin "object.__setattr__"))) (hp:PySem.W.plainOver K C=true) (ht:PySem.W.takerIn K C name=some none) (hh:PySem.W.hasDictIn K C=true)
  (hw:PySem.Within mA ns) (hsz:ns.length<=sizeLine)
  (h:∀ h',BS h' x dx C (fun y=>if y=name then some v else mA y)->Heap.SameBut dx s.heap h'->Q () {s with heap:=h',toks:=s.toks+2}):
  wpAny (model prog w) A (setAttr (.ref x) name v) Q E s:=by
 obtain ⟨od,J,hl⟩:=I.look
 refine PySem.W.set_plain X J hs (PySem.W.osa_open (s:={s with toks:=s.toks+1}) (r:=none) X J hp ht fun b=>?_)
 obtain ⟨cd,hc,GR⟩:=PySem.W.any_some hh
 have hx:s.heap.get? x=some ⟨.ref C,some dx,.plain,#[]⟩:=I.obj
 refine QT (QU (QT (QT (wpAny_loadPart hx (QT (PySem.W.Looks.here (s:={s with toks:=s.toks+1}) (PySem.W.looks_clsIn X hc) ?_))))))
 rw [GR]
 refine QU (a:=some dx) (QT (QU (QT ?_)))
 refine wpAny_nsSet1 (s:={s with toks:=s.toks+1}) I.ns fun h' hn2 vn=>?_
 obtain ⟨oD,W2,W3,PL,PM,PN⟩:=hn2.count (PySem.Within.cons name v hw)
 refine QT (wpAny_lookBehind PL (by rw [PM];exact pastItsLine_dict (Nat.le_trans PN (by rw [List.length_cons];omega))) ?_)
 exact QU (h _ ⟨(vn.2 _ (Ne.symm I.ne)).trans I.obj,hn2,I.ne⟩ vn)
theorem wK {vs:List Value} (X:K.In s.heap) (hm:PySem.W.makesIn K C=true)
  (hi:PySem.W.findIn K (.ref C) "__init__"=some (some (.ref f))) (hf:PySem.W.typeIn K (.ref f)=some (.type "function"))
  (h:codeAny (model prog w) (A.under (.builtin "type.__call__" ⟨.ref C::vs,kw⟩)) (.call (.ref f) ⟨.ref (s.heap.objs.size+1)::vs,kw⟩) (PySem.W.InitBack (s.heap.objs.size+1) R)
   {s with heap:=(s.heap.push PySem.W.emptyDict).push (PySem.W.instObj C s.heap.objs.size)}):
  codeAny (model prog w) A (.call (.ref C) ⟨vs,kw⟩) R s:=by
 obtain ⟨hh,g,d,t,os⟩:=s
 exact PySem.W.make_core (PySem.W.makes_of X hm) (PySem.W.looks_findIn X hi) (fun self=>PySem.W.bind_fn X self hf) (.inl rfl) h
end
def cf (f:Str) (v:V):List (Str×V)->List (Str×V)
 | []=>[(f,v)]
 | (g,x)::r=>if g=f then (g,v)::r else (g,x)::cf f v r
theorem bX (f g:Str) (v:V):∀ fs:List (Str×V),(cf f v fs).lookup g=if g=f then some v else fs.lookup g
 | []=>by
  show List.lookup g [(f,v)]=_
  by_cases h:g=f
  ·have hb:(g==f)=true:=beq_iff_eq.mpr h
   simp only [List.lookup,hb,if_pos h]
  ·have hb:(g==f)=false:=beq_eq_false_iff_ne.mpr h
   simp only [List.lookup,hb,if_neg h]
 | (k,x)::r=>by
  have ih:=bX f g v r
  rw [show cf f v ((k,x)::r)=(if k=f then (k,v)::r else (k,x)::cf f v r) from rfl]
  by_cases hk:k=f
  ·rw [if_pos hk]
   by_cases h:g=k
   ·have hb:(g==k)=true:=beq_iff_eq.mpr h
    simp only [List.lookup,hb,if_pos (h.trans hk)]
   ·have hb:(g==k)=false:=beq_eq_false_iff_ne.mpr h
    simp only [List.lookup,hb,if_neg (fun e:g=f=>h (e.trans hk.symm))]
  ·rw [if_neg hk]
   by_cases h:g=k
   ·have hb:(g==k)=true:=beq_iff_eq.mpr h
    simp only [List.lookup,hb,if_neg (fun e:g=f=>hk (h.symm.trans e))]
   ·have hb:(g==k)=false:=beq_eq_false_iff_ne.mpr h
    simp only [List.lookup,hb]
    exact ih
theorem iN (f:Str) (v:V):∀ fs:List (Str×V),f∈(cf f v fs).map (·.1)/\∀ g,g∈fs.map (·.1)->g∈(cf f v fs).map (·.1)
 | []=>⟨by simp [cf],fun g h=>by simp at h⟩
 | (k,x)::r=>by
  obtain ⟨i1,i2⟩:=iN f v r
  rw [show cf f v ((k,x)::r)=(if k=f then (k,v)::r else (k,x)::cf f v r) from rfl]
  by_cases hk:k=f
  ·rw [if_pos hk]
   subst hk
   exact ⟨by simp,fun g h=>by simpa using h⟩
  ·rw [if_neg hk]
   refine ⟨?_,fun g h=>?_⟩
   ·rw [List.map_cons]
    exact Qh _ i1
   ·rw [List.map_cons] at h ⊢
    rcases Qp.mp h with e | e
    ·exact Qp.mpr (.inl e)
    ·exact Qh _ (i2 g e)
theorem bV (f:Str) (v:V):∀ fs:List (Str×V),(cf f v fs).length<=fs.length+1
 | []=>by simp [cf]
 | (k,x)::r=>by
  have ih:=bV f v r
  rw [show cf f v ((k,x)::r)=(if k=f then (k,v)::r else (k,x)::cf f v r) from rfl]
  by_cases hk:k=f
  ·rw [if_pos hk,List.length_cons,List.length_cons];omega
  ·rw [if_neg hk,List.length_cons,List.length_cons];omega
theorem lz.some_of {v:V} {o:Option Value} (r:lz (some v) o):∃ u,o=some u/\RelV v u:=by
 cases o with
 | none=>exact (show False from r).elim
 | some u=>exact ⟨u,rfl,r⟩
theorem uB {v:V} (r:RelV v u):PySem.W.handedIn u=true:=by
 cases v with
 | ai=>cases (show u=Value.none from r);rfl
 | bl b=>cases (show u=Value.bool b from r);rfl
 | int i=>obtain ⟨t,e⟩:=(show ∃ t,u=Value.int i t from r);cases e;rfl
 | str x=>obtain ⟨t,e⟩:=(show ∃ t,u=Value.str x t from r);cases e;rfl
 | o_ b=>obtain ⟨t,e⟩:=(show ∃ t,u=Value.bytes b t from r);cases e;rfl
 | EC b=>obtain ⟨t,e⟩:=(show ∃ t,u=Value.float b t from r);cases e;rfl
 | ref a=>cases (show u=Value.ref a from r);rfl
 | ty n=>cases (show u=Value.type n from r);rfl
section
variable {dx:Addr} {fs yr:List (Str×V)}
theorem sJ (hok:e_ P w H h) (e:H a=some (.ins C dx fs)):∃ mA,BS h a dx C mA/\(∀ f,lz (fs.lookup f) (mA f))/\PySem.Within mA (fs.map (·.1))/\fs.length<=1000/\H dx=some (.own a):=by
 obtain ⟨d,z,ne,ob,mA,n,r,q⟩:=(show b_ P w H h a (.ins C dx fs) from hok a _ e)
 exact ⟨mA,⟨ob,n,ne⟩,r,q,z,d⟩
end
structure y_ (K:Q0) (C:Addr):Prop where
 pg:PySem.W.plainGet K C Str.empty=true
 hd:PySem.W.hasDictIn K C=true
 po:PySem.W.plainOver K C=true
 sa:PySem.W.findIn K (.ref C) "__setattr__"=some (some (.builtin "object.__setattr__"))
theorem y_.get {K:Q0} (c:y_ K C) (f:Str):PySem.W.plainGet K C f=true:=c.pg
def xr (K:Q0) (C:Addr) (f:Str):Prop:=PySem.W.findIn K (.ref C) f=some none
theorem xr.PP {K:Q0} {f:Str} (n:xr K C f):PySem.W.takerIn K C f=some none:=by
 unfold PySem.W.takerIn
 rw [show PySem.W.findIn K (.ref C) f=some none from n]
 rfl
section
variable {dx:Addr} {fs:List (Str×V)} {f:Str} {v:V}
theorem rB {b:Bool} (I:Inv X pins σ H s) (e:H a=some (.ins C dx fs)) (c:y_ X.K C) (n:xr X.K C f) (l:fs.lookup f=some v)
  (h:∀ u s',Inv X pins σ H s'->RelV v u->Q u s'):wpAny (model X.prog X.w) A (getAttr (.ref a) f b) Q E s:=by
 obtain ⟨mA,O,r,_,_,_⟩:=sJ I.hok e
 obtain ⟨u,hu,ru⟩:=lz.some_of (v:=v) (o:=mA f) (by rw [<- l];exact r f)
 exact zL I.qm O (c.get f) c.hd n hu (uB ru) (h u _ (I.tok _) ru)
theorem rZ {y:V} {Q:Unit->Shared->Prop} (I:Inv X pins σ H s) (e:H a=some (.ins C dx fs)) (c:y_ X.K C) (n:xr X.K C f) (hl:fs.length < 1000) (ry:RelV y u)
  (h:∀ s',Inv X pins σ (upd H a (.ins C dx (cf f y fs))) s'->Q () s'):wpAny (model X.prog X.w) A (setAttr (.ref a) f u) Q E s:=by
 obtain ⟨mA,O,r,wi,_,ho⟩:=sJ I.hok e
 have hz:(fs.map (·.1)).length<=sizeLine:=by rw [Ql,QL];omega
 refine zP I.qm O c.sa c.po n.PP c.hd wi hz fun h' O' sb=>h _ ?_
 have hd:∃ o,h'.get? dx=some o:=let ⟨o,_,_,e',_⟩:=O'.ns;⟨o,e'⟩
 refine I.write (x:=a) (e:=dx) (by rw [e];exact True.intro) (.inr ho) (fun b q hb z=>(sb.2 b hb).trans z) hd ?_
 refine ⟨by rw [aF O.ne];exact ho,?_,O.ne,O'.obj,_,O'.ns,fun g=>?_,fun g hg=>?_⟩
 ·have:=bV f y fs;omega
 ·show lz ((cf f y fs).lookup g) (if g=f then some u else mA g)
  rw [bX]
  by_cases q:g=f
  ·rw [if_pos q,if_pos q];exact ry
  ·rw [if_neg q,if_neg q];exact r g
 ·by_cases q:g=f
  ·rw [q];exact (iN f y fs).1
  ·refine (iN f y fs).2 g (wi g fun z=>hg ?_)
   show (if g=f then some u else mA g)=none
   rw [if_neg q];exact z
theorem Inv.made (I:Inv X pins σ H s):Inv X pins σ (upd (upd H s.heap.objs.size (.own (s.heap.objs.size+1))) (s.heap.objs.size+1) (.ins C s.heap.objs.size []))
  {s with heap:=(s.heap.push PySem.W.emptyDict).push (PySem.W.instObj C s.heap.objs.size)}:=by
 have e1:(s.heap.push PySem.W.emptyDict).get? s.heap.objs.size=some PySem.W.emptyDict:=Qd s.heap rfl
 have e2:((s.heap.push PySem.W.emptyDict).push (PySem.W.instObj C s.heap.objs.size)).get? (s.heap.objs.size+1)=some (PySem.W.instObj C s.heap.objs.size):=by
  have:=Qd (s.heap.push PySem.W.emptyDict) (o:=PySem.W.instObj C s.heap.objs.size) rfl
  rwa [Heap.size_push] at this
 have e3:(s.heap.push PySem.W.emptyDict).Ns s.heap.objs.size (fun _=>none):=⟨PySem.W.emptyDict,#[],_,e1,rfl,(fun e he=>absurd he (by simp)),fun _=>rfl⟩
 have I1:=I.laid (a:=s.heap.objs.size) (o:=.own (s.heap.objs.size+1)) (h':=s.heap.push PySem.W.emptyDict) (t':=s.toks) (fun b u q=>Qc _ q) (Qy _) ⟨_,e1⟩
 refine I1.laid (a:=s.heap.objs.size+1) (o:=.ins C s.heap.objs.size []) (t':=s.toks) (fun b u q=>Qc _ q) (Nat.le_of_eq (Heap.size_push _ _)) ?_
 have ne:s.heap.objs.size≠s.heap.objs.size+1:=Nat.ne_of_lt (Nat.lt_succ_self _)
 refine ⟨by rw [aF ne,aA],Nat.zero_le _,ne,e2,fun _=>none,(Heap.Ns1.of_empty e3).at fun o q=>Qc _ q,fun _=>True.intro,fun y hy=>absurd rfl hy⟩
theorem zX {f:Str} {pos:Pos} (hb:attributeBase e f env (eval e env)=eval e env)
  (h:wpAny (model prog w) A (eval e env) (fun o s₁=>wpAny (model prog w) A (getAttr o f true) Q E s₁) E s):wpAny (model prog w) A (eval (.Attribute e f pos) env) Q E s:=
 Attribute_any_ h (by rw [arm_eval_Attribute,hb])
end
def Km (K:Q0) (ta:TE) (f:Str):TE:=fun σ H Q=>ta σ H fun x H1=>∃ a C dx fs v,x=.ref a/\H1 a=some (.ins C dx fs)/\y_ K C/\xr K C f/\fs.lookup f=some v/\Q v H1
def ES (K:Q0) (ta tv:TE) (f:Str):TS:=fun D σ H=>tv σ H fun y H1=>ta σ H1 fun x H2=>∃ a C dx fs,x=.ref a/\H2 a=some (.ins C dx fs)/\y_ K C/\xr K C f/\fs.length < 1000/\
 D.nx σ (upd H2 a (.ins C dx (cf f y fs)))
section
variable {o value:Expr} {f:Str} {pos pos' za:Pos} {ta tv:TE}
theorem PU (he:PE X e ta) (hb:attributeBase e f X.env (eval e X.env)=eval e X.env):PE X (.Attribute e f pos) (Km X.K ta f):=by
 intro pins s σ H Q I h
 refine zX hb (au (he pins s σ H _ I h) ?_)
 rintro u s1 ⟨x,H1,I1,rx,a,C,dx,fs,v,ex,ea,c,n,l,q⟩
 subst ex
 obtain rfl:u=Value.ref a:=rx
 exact rB I1 ea c n l fun u' s2 I2 ru=>⟨v,H1,I2,ru,q⟩
theorem PV (ha:PE X o ta) (hv:PE X value tv) (hs:swapsWith value (some (.Attribute o f pos')) pos.line X.env=pure false):PS X (.Assign [.Attribute o f pos'] value pos) (ES X.K ta tv f):=by
 intro pins s σ H D I h
 refine plainObj_wpAny_Assign_Attribute (au (hv pins s σ H _ I h) fun u s1 ⟨y,H1,I1,ry,q⟩=>au (ha pins s1 σ H1 _ I1 q) fun ov s2 ⟨x,H2,I2,rx,a,C,dx,fs,ex,ea,c,n,l,q2⟩=>?_) hs
 subst ex
 obtain rfl:ov=Value.ref a:=rx
 exact rZ I2 ea c n l ry fun s3 I3=>⟨σ,_,I3,q2⟩
end
section
variable {c:Value} {b:Bool}
end
structure fm (k:Nat) (A:Around):Prop where
 hd:A.handled=none
 dp:A.depth+3*k+5 < recursionLimit
 un:A.units+16*k+200 < cLine
 gd:A.guards=some []
theorem fm.mono {k:Nat} (r:fm k A) (h:j<=k):fm j A:=⟨r.hd,by have:=r.dp;omega,by have:=r.un;omega,r.gd⟩
theorem fm.deeper {k:Nat} {A:Around} (r:fm (k+1) A) (env:Env):fm k (A.deeper env):=
 ⟨r.hd,by have:=r.dp;show A.depth+1+3*k+5 < _;omega,by have:=r.un;show A.units+3+16*k+200 < _;omega,r.gd⟩
theorem rJ:(A.under (.builtin "type.__call__" ⟨.ref C::us,kw⟩)).depth=A.depth+1:=by
 first | rfl | simp [Around.under,Code.weight,Code.isCreation,Code.isGuard,Code.isCaller,Code.frames,Code.isFrame,guardIds]
theorem rH:(A.under (.builtin "type.__call__" ⟨.ref C::us,kw⟩)).units=A.units+1:=by
 first | rfl | simp [Around.under,Code.cUnits,Code.frames,Code.isFrame]
theorem pH (h:A.guards=some []):(A.under (.builtin "type.__call__" ⟨.ref C::us,kw⟩)).guards=some []:=by
 first | exact h | (simp [Around.under,pushGuards,Code.guards,Code.isGuard,guardIds,h])
theorem fm.make {k:Nat} (r:fm (k+1) A) (C:Addr) (us:List Value) (kw:List (Str×Value)):fm k (A.under (.builtin "type.__call__" ⟨.ref C::us,kw⟩)):=
 ⟨r.hd,by have:=r.dp;rw [rJ];omega,by have:=r.un;rw [rH];omega,pH r.gd⟩
theorem fm.depth {k:Nat} {A:Around} (r:fm k A):A.depth < recursionLimit:=by have:=r.dp;omega
theorem fm.units {k:Nat} {A:Around} (r:fm k A):A.units+64 < cLine:=by have:=r.un;omega
def xu:TA:=fun _ H Q=>Q [] H
def ik (ta:TE) (tr:TA):TA:=fun σ H Q=>ta σ H fun x H1=>tr σ H1 fun xs H2=>Q (x::xs) H2
section
variable {es:List Expr} {t:TA} {pos:Pos}
theorem PY:PA X [] xu:=fun _ _ _ _ H Q I h=>Calls.spliced_nil ⟨[],H,I,.nil,h⟩
theorem dB (ha:PE X e te) (hr:PA X es t) (hs:starEach (e::es) X.env=(false,eval e X.env)::starEach es X.env:=by rfl):PA X (e::es) (ik te t):=by
 intro pos pins s σ H Q I h
 rw [hs]
 show wpAny _ _ (spliced ((false,eval e X.env)::backTo pos (starEach es X.env))) _ _ s
 refine Calls.spliced_cons (au (ha pins s σ H _ I h) ?_)
 rintro u s1 ⟨x,H1,I1,r1,q1⟩
 exact au (hr pos pins s1 σ H1 _ I1 q1) fun us s2 ⟨xs,H2,I2,r2,q2⟩=>⟨x::xs,H2,I2,.cons r1 r2,q2⟩
def ET (t:TA):TE:=fun σ H Q=>t σ H fun xs H1=>xs.length<=sizeLine/\∀ p,H1 p=none->Q (.ref p) (upd H1 p (.tup xs))
def Ko (t:TA):TE:=fun σ H Q=>t σ H fun xs H1=>xs.length<=sizeLine/\∀ p,H1 p=none->Q (.ref p) (upd H1 p (.lst xs))
theorem PZ {x1} (h:PA X es t):PE X (.Tuple es x1 pos) (ET t):=by
 intro pins s σ H Q I hq
 refine wpAny_Tuple_spliced (au (h pos pins s σ H _ I hq) fun us s1 ⟨xs,H1,I1,r,z,q⟩=>⟨by rw [<- r.length];exact z,?_⟩)
 have hf:H1 s1.heap.objs.size=none:=I1.hok.fresh (Qy _)
 refine ⟨.ref s1.heap.objs.size,upd H1 s1.heap.objs.size (.tup xs),I1.laid (t':=s1.toks) (fun b u e=>Qc _ e) (Qy _) ?_,rfl,q _ hf⟩
 exact ⟨⟨z,AX.new rfl rfl⟩,us,r,⟨_,Qd _ rfl,rfl,_,rfl⟩⟩
theorem P0 (h:PA X es t):PE X (.List es pos) (Ko t):=by
 intro pins s σ H Q I hq
 refine wpAny_List_spliced (au (h pos pins s σ H _ I hq) fun us s1 ⟨xs,H1,I1,r,z,q⟩=>⟨by rw [<- r.length];exact z,?_⟩)
 have hf:H1 s1.heap.objs.size=none:=I1.hok.fresh (Qy _)
 refine ⟨.ref s1.heap.objs.size,upd H1 s1.heap.objs.size (.lst xs),I1.laid (t':=s1.toks) (fun b u e=>Qc _ e) (Qy _) ?_,rfl,q _ hf⟩
 exact ⟨z,us,0,r,Qd _ rfl⟩
end
abbrev Sp:=List V->Hp->VK->XK->Prop
abbrev vo:=List Env->Hp->Shared->XK->Value->Shared->Prop
structure A9 (P:Program) (w:World) (K:Q0) (mg:Str->Option Value) (base:Heap) (A:Around) (outer:List Env) (s:Shared) (H:Hp):Prop where
 frames:A.frames=some outer
 mod:Mod K mg base
 bs:∀ b o,base.get? b=some o->s.heap.get? b=some o/\H b=none
 yu:base.objs.size<=s.heap.objs.size
 uc:s.heap.FunFrames base outer
 A0:∀ b∈kj outer,H b=none
 hok:e_ P w H s.heap
 bare:AllBare s.gens
def CE (outer:List Env) (P:Program) (w:World) (H:Hp) (s:Shared) (Q:VK) (u:Value) (s':Shared):Prop:=
 ∃ v H',s'.os=s.os/\AllBare s'.gens/\Un (kj outer) [] H H' s.heap s'.heap/\e_ P w H' s'.heap/\RelV v u/\Q v H'
def CR (CX:vo) (outer:List Env) (P:Program) (w:World) (H:Hp) (s:Shared) (Q:VK) (E:XK) (r:Result) (s':Shared):Prop:=
 match r with
 | .ok (.ret u)=>CE outer P w H s Q u s'
 | .ok _=>False
 | .error e=>CX outer H s E e s'
structure qt (P:Program) (w:World) (K:Q0) (mg:Str->Option Value) (base:Heap) (CX:vo) (k:Nat) (f:Addr) (fd:FuncData) (ps:List Str) (sp:Sp):Prop where
 len:∀ vs H Q E,sp vs H Q E->vs.length=ps.length
 run:∀ (A:Around) (outer:List Env) (s:Shared) (H:Hp) (args:Args) (us:List Value) (vs:List V) (Q:VK) (E:XK),fm k A->A9 P w K mg base A outer s H->BindsTo s fd args (ps.zip us)->a_ vs us->sp vs H Q E->
  codeAny (model P w) A (.call (.ref f) args) (CR CX outer P w H s Q E) s
theorem qt.imp {K:Q0} {CX:vo} {k:Nat} {f:Addr} {sp C7:Sp} (F:qt P w K mg base CX k f fd ps sp)
  (h:∀ vs H Q E,C7 vs H Q E->sp vs H Q E):qt P w K mg base CX k f fd ps C7:=
 ⟨fun vs H Q E q=>F.len vs H Q E (h _ _ _ _ q),fun A outer s H args us vs Q E hr he hb hv hs=>F.run A outer s H args us vs Q E hr he hb hv (h _ _ _ _ hs)⟩
theorem A9.make {K:Q0} {outer:List Env} (e:A9 P w K mg base A outer s H) (C:Addr) (us:List Value) (kw:List (Str×Value)):
  A9 P w K mg base (A.under (.builtin "type.__call__" ⟨.ref C::us,kw⟩)) outer s H:=⟨by first | exact e.frames | (simpa [Around.under,Code.envs,Code.isFrame,pushEnvs] using e.frames),e.mod,e.bs,e.yu,e.uc,e.A0,e.hok,e.bare⟩
section
variable {s':Shared}
theorem Inv.Kp (I:Inv X pins σ H s):A9 X.prog X.w X.K X.mg X.base X.A X.stack s H:=
 ⟨I.ok.frames,I.ok.mod,I.bs,Nat.le_trans I.ok.yu I.sz,I.stack,I.J0,I.hok,I.bare⟩
theorem Inv.after {Q:VK} (I:Inv X pins σ H s) (h:CE X.stack X.prog X.w H s Q u s'):EP X pins σ Q u s':=by
 obtain ⟨v,H',os,bare,un,hok,r,q⟩:=h
 obtain ⟨hh,g,d,t,P4⟩:=s'
 obtain rfl:P4=s.os:=os
 exact ⟨v,H',I.call (h':=hh) (g':=g) (d':=d) (t':=t) (ch:=[]) un hok bare (fun b z=>absurd z (by simp)),r,q⟩
end
def C8 (sp:Sp) (oi:List V) (E:XK) (t:TA):TE:=fun σ H Q=>t σ H fun vs H1=>sp (vs++oi) H1 Q E
def Kq (C:Addr) (sp:Sp) (oi:List V) (E:XK) (t:TA):TE:=fun σ H Q=>t σ H fun vs H1=>∀ x dx,H1 x=none->H1 dx=none->dx≠x->
 sp (.ref x::(vs++oi)) (upd (upd H1 dx (.own x)) x (.ins C dx [])) (fun v H2=>v=.ai/\Q (.ref x) H2) E
def Binds (K:Q0) (fd:FuncData) (ps:List Str) (ds:List Value):Prop:=
 ∀ (s:Shared) (us:List Value),K.In s.heap->(us++ds).length=ps.length->BindsTo s fd ⟨us,[]⟩ (ps.zip (us++ds))
theorem Binds.all {K:Q0} (h:∀ us:List Value,us.length=ps.length->bindArgs fd ⟨us,[]⟩=pure (ps.zip us)):Binds K fd ps []:=fun s us _ hl=>by
 rw [List.append_nil] at hl ⊢
 exact .of_eq (h us hl)
def C9 (CX:vo) (X:Cx) (E:XK):Prop:=∀ (pins:List (Addr×Obj)) (σ:St) (H:Hp) (s:Shared) (e:Value) (s':Shared),Inv X pins σ H s->CX X.stack H s E e s'->X.xe e s'
section
variable {CX:vo} {k:Nat} {f:Addr} {sp:Sp} {oi:List V} {ds:List Value} {E:XK} {m:Str} {p pos:Pos} {o:Expr} {es:List Expr} {ta:TE} {t:TA}
theorem P5 {Q:VK} {vs:List V} (F:qt X.prog X.w X.K X.mg X.base CX k f fd ps sp) (hr:fm k X.A) (hb:Binds X.K fd ps ds) (hd:a_ oi ds) (hx:C9 CX X E)
  (I:Inv X pins σ H s) (r:a_ vs us) (h:sp (vs++oi) H Q E):wpAny (model X.prog X.w) X.A (call (.ref f) us) (EP X pins σ Q) X.xe s:=by
 have r2:a_ (vs++oi) (us++ds):=r.append hd
 have hl:(us++ds).length=ps.length:=by rw [<- r2.length];exact F.len _ _ _ _ h
 refine wpAny_call (codeAny_mono (F.run X.A X.stack s H ⟨us,[]⟩ (us++ds) (vs++oi) Q E hr I.Kp (hb s us I.qm hl) r2 h) fun r s' hq=>?_)
 cases r with
 | error e=>exact hx pins σ H s e s' I hq
 | ok fl=>
  cases fl with
  | ret u=>exact I.after hq
  | next=>exact False.elim hq
  | brk=>exact False.elim hq
  | cont=>exact False.elim hq
theorem yS (F:qt X.prog X.w X.K X.mg X.base CX k f fd ps sp) (hr:fm k X.A) (hg:Gl X x) (hm:X.mg x=some (.ref f)) (hk:PySem.W.keepIn X.K (.ref f)=true) (hb:Binds X.K fd ps ds) (hd:a_ oi ds) (hx:C9 CX X E)
  (ha:PA X (e::es) t) (kq:(x==("__debug__":Str))=false:=by decide) (he:starEach (e::es) X.env=(false,eval e X.env)::starEach es X.env:=by rfl) (gr:(backTo pos (starEach es X.env)).any (·.1)=false:=by rfl):
  PE X (.Call (.Name x p) (e::es) [] pos) (C8 sp oi E t):=by
 intro pins s σ H Q I h
 refine wpAny_Call_Name_kw (mX I hg hm ?_ kq)
 refine PySem.W.callWith_K (h₀:=X.base) I.ok.mod.ED hk (au (ha pos pins s σ H _ I h) fun us s1 ⟨vs,H1,I1,r,q⟩=>⟨I1.qm,?_⟩) he gr
 exact P5 F hr hb hd hx I1 r q
structure Mk (K:Q0) (C f:Addr):Prop where
 makes:PySem.W.makesIn K C=true
 init:PySem.W.findIn K (.ref C) "__init__"=some (some (.ref f))
 fn:PySem.W.isFn K (.ref f)=true
 kp:PySem.W.keepIn K (.ref C)=true
theorem xR {Q:VK} {vs:List V} (M:Mk X.K C f) (F:qt X.prog X.w X.K X.mg X.base CX k f fd ps sp) (hr:fm (k+1) X.A) (hb:Binds X.K fd ps ds) (hd:a_ oi ds)
  (hx:C9 CX X E) (I:Inv X pins σ H s) (r:a_ vs us)
  (h:∀ x dx,H x=none->H dx=none->dx≠x->sp (.ref x::(vs++oi)) (upd (upd H dx (.own x)) x (.ins C dx [])) (fun v H2=>v=.ai/\Q (.ref x) H2) E):
  wpAny (model X.prog X.w) X.A (call (.ref C) us) (EP X pins σ Q) X.xe s:=by
 have hq:=h (s.heap.objs.size+1) s.heap.objs.size (I.hok.fresh (Nat.le_succ _)) (I.hok.fresh (Qy _)) (Nat.ne_of_lt (Nat.lt_succ_self _))
 have I2:=Inv.made (C:=C) I
 have r2:a_ (V.ref (s.heap.objs.size+1)::(vs++oi)) (Value.ref (s.heap.objs.size+1)::(us++ds)):=.cons rfl (r.append hd)
 have hl:(Value.ref (s.heap.objs.size+1)::us++ds).length=ps.length:=by
  have e:=r2.length
  rw [F.len _ _ _ _ hq] at e
  exact e.symm
 refine wpAny_call (wK (f:=f) I.qm M.makes M.init (beq_iff_eq.mp M.fn) (codeAny_mono (F.run _ X.stack _ _ ⟨Value.ref (s.heap.objs.size+1)::us,[]⟩ (Value.ref (s.heap.objs.size+1)::(us++ds)) _ _ E (hr.make C us [])
  (I2.Kp.make C us []) (hb _ (Value.ref (s.heap.objs.size+1)::us) I2.qm hl) r2 hq) fun r s' ud=>?_))
 cases r with
 | error e=>exact hx pins σ _ _ e s' I2 ud
 | ok fl=>
  cases fl with
  | ret u=>
   obtain ⟨v,H',I3,rv,ev,q3⟩:=I2.after ud
   subst ev
   exact ⟨rv,⟨V.ref (s.heap.objs.size+1),H',I3,rfl,q3⟩⟩
  | next=>exact False.elim ud
  | brk=>exact False.elim ud
  | cont=>exact False.elim ud
theorem zJ (M:Mk X.K C f) (F:qt X.prog X.w X.K X.mg X.base CX k f fd ps sp) (hr:fm (k+1) X.A) (hg:Gl X x) (hm:X.mg x=some (.ref C)) (hb:Binds X.K fd ps ds) (hd:a_ oi ds) (hx:C9 CX X E)
  (ha:PA X (e::es) t) (kq:(x==("__debug__":Str))=false:=by decide) (he:starEach (e::es) X.env=(false,eval e X.env)::starEach es X.env:=by rfl) (gr:(backTo pos (starEach es X.env)).any (·.1)=false:=by rfl):
  PE X (.Call (.Name x p) (e::es) [] pos) (Kq C sp oi E t):=by
 intro pins s σ H Q I h
 refine wpAny_Call_Name_kw (mX I hg hm ?_ kq)
 refine PySem.W.callWith_K (h₀:=X.base) I.ok.mod.ED M.kp (au (ha pos pins s σ H _ I h) fun us s1 ⟨vs,H1,I1,r,q⟩=>⟨I1.qm,?_⟩) he gr
 exact xR M F hr hb hd hx I1 r q
end
section
variable {CX:vo} {k:Nat} {f:Addr} {ks:List Str} {sp:Sp} {E:XK} {m:Str} {p pos W4:Pos} {o:Expr} {es:List Expr} {W5:List Keyword} {ta:TE} {t tk:TA} {nm:Option Str}
variable {g:List Value->List Value->List Value} {gV:List V->List V->List V}
end
structure ef (N P:List Str) (sc:Scope):Prop where
 kind:sc.kind=.function
 co:sc.isCoroutine=false
 gen:sc.isGenerator=false
 nd:N.Nodup
 pre:N.take P.length=P
 Kr:∀ x∈P,sc.names.lookup x=some .local\/sc.names.lookup x=some .cell
 P6:∀ y∈sc.names,y.2≠.free
theorem lM {kindOf:Str->Option NameKind} {x:Str}:∀ {binds:List (Str×Value)} {m:Str->Option Value},(∀ v,(x,v) ∉ binds)->bindL kindOf binds m x=m x
 | [],_,_=>rfl
 | (n,v)::r,m,h=>by
  unfold bindL
  rw [lM fun w hw=>h w (Qh _ hw)]
  split
  ·have:x≠n:=by rintro rfl;exact h v List.mem_cons_self
   simp [this]
  ·rfl
theorem lO {kindOf:Str->Option NameKind} {x:Str}:∀ {binds:List (Str×Value)} {m:Str->Option Value},(∀ v,(x,v) ∉ binds)->bindC kindOf binds m x=m x
 | [],_,_=>rfl
 | (n,v)::r,m,h=>by
  unfold bindC
  rw [lO fun w hw=>h w (Qh _ hw)]
  split
  ·rfl
  ·have:x≠n:=by rintro rfl;exact h v List.mem_cons_self
   simp [this]
theorem lZ {kindOf:Str->Option NameKind} {x:Str} {v:Value}:∀ {P:List Str} {vs:List Value} {i:Nat} {m:Str->Option Value},P.Nodup->P[i]? =some x->vs[i]? =some v->kindOf x=some .local->
  bindL kindOf (P.zip vs) m x=some v
 | [],_,_,_,_,h,_,_=>by simp at h
 | _::_,[],_,_,_,_,h,_=>by simp at h
 | p::P,w::vs,0,m,nd,h1,h2,hk=>by
  simp at h1 h2;subst h1;subst h2
  show bindL kindOf ((p,w)::P.zip vs) m p=_
  unfold bindL
  rw [lM fun v hv=>(List.nodup_cons.mp nd).1 (List.of_mem_zip hv).1,if_pos hk]
  simp
 | p::P,w::vs,i+1,m,nd,h1,h2,hk=>by
  show bindL kindOf ((p,w)::P.zip vs) m x=_
  unfold bindL
  exact lZ (i:=i) (List.nodup_cons.mp nd).2 (by simpa using h1) (by simpa using h2) hk
theorem m7 {kindOf:Str->Option NameKind} {x:Str} {v:Value}:∀ {P:List Str} {vs:List Value} {i:Nat} {m:Str->Option Value},P.Nodup->P[i]? =some x->vs[i]? =some v->kindOf x≠some .local->
  bindC kindOf (P.zip vs) m x=some v
 | [],_,_,_,_,h,_,_=>by simp at h
 | _::_,[],_,_,_,_,h,_=>by simp at h
 | p::P,w::vs,0,m,nd,h1,h2,hk=>by
  simp at h1 h2;subst h1;subst h2
  show bindC kindOf ((p,w)::P.zip vs) m p=_
  unfold bindC
  rw [lO fun v hv=>(List.nodup_cons.mp nd).1 (List.of_mem_zip hv).1,if_neg hk]
  simp
 | p::P,w::vs,i+1,m,nd,h1,h2,hk=>by
  show bindC kindOf ((p,w)::P.zip vs) m x=_
  unfold bindC
  exact m7 (i:=i) (List.nodup_cons.mp nd).2 (by simpa using h1) (by simpa using h2) hk
def start (N:List Str) (vs:List V):St:=vs.map some++List.replicate (N.length - vs.length) none
def xw (CX:vo) (P:Program) (w:World) (K:Q0) (mg:Str->Option Value) (base:Heap) (N:List Str) (qual:Str) (scope:Scope) (f:Addr) (cd:Value) (A:Around) (outer:List Env) (s:Shared) (H:Hp) (E:XK):Cx where
 prog:=P
 w:=w
 K:=K
 mg:=mg
 base:=base
 A:=A.deeper (envOfC qual scope s.heap.objs.size f cd)
 N:=N
 s₀:=s
 H₀:=H
 env:=envOfC qual scope s.heap.objs.size f cd
 outer:=outer
 stack:=envOfC qual scope s.heap.objs.size f cd::outer
 ex:=[]
 calm:=true
 fn:=fun _=>true
 pn:=[]
 xe:=fun e s'=>wpAny (model P w) (A.deeper (envOfC qual scope s.heap.objs.size f cd)) (leaving (envOfC qual scope s.heap.objs.size f cd) e) (fun _ s''=>CX outer H s E e s'') (fun e' s''=>CX outer H s E e' s'') s'
theorem oH (h:sc.names.lookup x=some .cell):∃ c,(cellsFrom n sc.names []).lookup x=some c:=by
 have q:=PySem.W.cellsFrom_some sc.names n [] (.inl h)
 exact Option.isSome_iff_exists.mp q
theorem uW {CX:vo} {K:Q0} {qual:Str} {scope:Scope} {f:Addr} {cd:Value} {outer:List Env} {s1:Shared} {E:XK} {vs:List V}
  (S:ef N ps scope) (hd:A.handled=none) (e0:A9 P w K mg base A outer s H) (hl:vs.length=ps.length) (r:a_ vs us)
  (x:InCallC s s.heap.objs.size (bindL (envOfC qual scope s.heap.objs.size f cd).kindOf (ps.zip us) fun _=>none) (cellsFrom (s.heap.objs.size+1) scope.names []) (bindC (envOfC qual scope s.heap.objs.size f cd).kindOf (ps.zip us) fun _=>none) s1):
  Inv (xw CX P w K mg base N qual scope f cd A outer s H E) [] (start N vs) H s1:=by
 have gr:ps.length<=N.length:=by have:=congrArg List.length S.pre;rw [List.length_take] at this;omega
 obtain ⟨h1,tk,rfl,hk⟩:=x.done
 have C_:∀ b:Addr,b ∉ (xw CX P w K mg base N qual scope f cd A outer s H E).ex:=fun b z=>absurd (show b∈([]:List Addr) from z) (by simp)
 refine ⟨⟨e0.mod,S.kind,rfl,rfl,Qy _,fun y z c h1 h2=>?_,fun y hy=>?_,fun y c _ h=>?_,fun _=>hd,Around.frames_deeper e0.frames,.inr ⟨rfl,rfl⟩,fun b z=>absurd z (C_ b),e0.bs,e0.yu,fun b _ _=>C_ b,fun b z=>absurd z (C_ b),e0.uc,e0.A0⟩,
  rfl,e0.bare,Un.kept hk,⟨_,x.toInCall.ns,fun i y v h1 h2 h3=>?_⟩,fun y c h=>⟨_,x.cell y c h⟩,e0.hok.fresh (Qy _),fun y c h=>?_,fun p hp=>absurd (show p∈([]:List (Addr×Obj)) from hp) (by simp),e0.hok.kept hk,?_⟩
 ·exact name_of_addr x.apart (PySem.mem_of_lookup h1) (PySem.mem_of_lookup h2)
 ·have hy:scope.names.lookup y=some .cell\/scope.names.lookup y=some .free:=hy
  rcases hy with hy | hy
  ·exact oH hy
  ·exact absurd rfl (S.P6 _ (PySem.mem_of_lookup hy))
 ·exact Nat.le_of_lt (x.above y c (PySem.mem_of_lookup h))
 ·have hi:i < vs.length:=by
   unfold start at h2
   by_cases hi:i < vs.length
   ·exact hi
   ·rw [List.getElem?_append_right (by simpa using hi)] at h2
    rw [List.getElem?_replicate] at h2
    split at h2<;>cases h2
  have ha:vs[i]? =some v:=by
   unfold start at h2
   rw [Qg (by simpa using hi),Qq] at h2
   cases e:vs[i]? with
   | none=>rw [e] at h2;cases h2
   | some a=>rw [e] at h2;cases h2;rfl
  obtain ⟨u,hu,rv⟩:=r.get ha
  have hp:ps[i]? =some y:=by
   rw [<- S.pre,List.getElem?_take_of_lt (by omega)];exact h1
  have Ks:ps.Nodup:=by rw [<- S.pre];exact S.nd.sublist (List.take_sublist _ _)
  refine ⟨u,rv,?_⟩
  rcases S.Kr y (QC hp) with k | k
  ·exact .inl ⟨k,lZ Ks hp hu k⟩
  ·obtain ⟨c,e⟩:=oH (n:=s.heap.objs.size+1) k
   refine .inr ⟨.inl k,c,e,?_⟩
   have q:=x.cell y c e
   rw [m7 Ks hp hu (by show scope.names.lookup y≠_;rw [k];decide)] at q
   exact q
 ·exact e0.hok.fresh (Nat.le_of_lt (x.above y c (PySem.mem_of_lookup h)))
 ·unfold start
  show _=N.length
  rw [Qk,Ql,List.length_replicate]
  omega
theorem Ku {CX:vo} {K:Q0} {k:Nat} {f:Addr} {name qual:Str} {params:Arguments} {scope:Scope} {dV kV doc pm ay ct oc:Value} {an od:Option Addr}
  {ky:Array (Option Value)} {N ps:List Str} {sp:Sp} (lk:K.lookup f=some ⟨oc,od,.func (PySem.W.fnOf name qual params body scope dV kV doc pm an ay ct),ky⟩) (jc:PySem.W.codeIn K ay qual=true) (S:ef N ps scope)
  (len:∀ vs H Q E,sp vs H Q E->vs.length=ps.length)
  (vp:∀ (A:Around) (outer:List Env) (s:Shared) (H:Hp) (vs:List V) (Q:VK) (E:XK),fm k (A.deeper (envOfC qual scope s.heap.objs.size f ay))->sp vs H Q E->
   ∃ t,nj (xw CX P w K mg base N qual scope f ay A outer s H E) body t/\t {nx:=fun _ H'=>Q .ai H',rt:=Q} (start N vs) H):
  qt P w K mg base CX (k+1) f (PySem.W.fnOf name qual params body scope dV kV doc pm an ay ct) ps sp:=by
 refine ⟨len,fun A outer s H args us vs Q E hr e0 hb r xx=>?_⟩
 have hl:=len _ _ _ _ xx
 have KX:K.In s.heap:=e0.mod.ED.keeps fun b o e=>(e0.bs b o e).1
 have lim:s.heap.NoLimit:=e0.mod.nolimit.keeps fun b o e=>(e0.bs b o e).1
 have P7:∀ y∈ps.zip us,scope.names.lookup y.1=some .local\/(scope.names.lookup y.1=some .cell/\((cellsFrom (s.heap.objs.size+1) scope.names []).lookup y.1).isSome=true):=fun ⟨n,v⟩ hy=>by
  rcases S.Kr n (List.of_mem_zip hy).1 with q | q
  ·exact .inl q
  ·exact .inr ⟨q,PySem.W.cellsFrom_some _ _ _ (.inl q)⟩
 refine codeAny_call_function hr.depth (KX _ _ lk) rfl S.co S.gen rfl (PySem.W.codeRec_of KX jc) (hb _ _ _ _ ?_)
 refine wpAny_newFunctionEnv_cells S.kind P7 fun env he s1 x=>?_
 subst he
 refine ⟨lim.keeps x.toInCall.keep,codeAny_func ?_⟩
 obtain ⟨t,ht,hq⟩:=vp A outer s H vs Q E (hr.deeper _) xx
 have I:Inv (xw CX P w K mg base N qual scope f ay A outer s H E) [] (start N vs) H s1:=uW S hr.hd e0 hl r x
 refine wpAny_mono (ht [] s1 (start N vs) H _ I hq) (fun fl s' hs=>?_) fun e s' hs=>hs
 have fin:∀ {σ':St} {H':Hp} {v:V} {u:Value},Inv (xw CX P w K mg base N qual scope f ay A outer s H E) [] σ' H' s'->RelV v u->Q v H'->CE outer P w H s Q u s':=
  fun {σ' H' v u} J rv q=>⟨v,H',J.os,J.bare,J.base,J.hok,rv,q⟩
 cases fl with
 | ret u=>
  obtain ⟨v,σ',H',J,rv,q⟩:=hs
  exact fin J rv q
 | next=>
  obtain ⟨σ',H',J,q⟩:=hs
  exact fin (v:=V.ai) (u:=Value.none) J rfl q
 | brk=>
  obtain ⟨_,_,_,q⟩:=hs
  exact False.elim q
 | cont=>
  obtain ⟨_,_,_,q⟩:=hs
  exact False.elim q
section
variable {p pos:Pos} {es:List Expr} {t:TA} {id:String} {r:List V->Hp->VK->Prop}
def A_ (r:List V->Hp->VK->Prop) (t:TA):TE:=fun σ H Q=>t σ H fun vs H1=>r vs H1 Q
theorem wS (hc:vm X (.builtin id) r) (hg:Gl X x) (hm:X.mg x=none) (hv:bootBuiltins x=some (.builtin id)) (ha:PA X (e::es) t) (hn:x≠"__name__":=by decide) (kq:(x==("__debug__":Str))=false:=by decide)
  (he:starEach (e::es) X.env=(false,eval e X.env)::starEach es X.env:=by rfl) (gr:(backTo pos (starEach es X.env)).any (·.1)=false:=by rfl):PE X (.Call (.Name x p) (e::es) [] pos) (A_ r t):=by
 intro pins s σ H Q I h
 refine wpAny_Call_Name_kw (mS I hg hm hv ?_ hn kq)
 exact PyProof.Rows.callWith_builtin1 (au (ha pos pins s σ H _ I h) fun us s1 ⟨vs,H1,I1,r1,q1⟩=>hc pins s1 σ H1 vs us Q I1 r1 q1) he gr
theorem u5 (hc:vm X (.type T) r) (hg:Gl X x) (hm:X.mg x=none) (hv:bootBuiltins x=some (.type T)) (ha:PA X (e::es) t) (hn:x≠"__name__":=by decide) (kq:(x==("__debug__":Str))=false:=by decide)
  (he:starEach (e::es) X.env=(false,eval e X.env)::starEach es X.env:=by rfl) (gr:(backTo pos (starEach es X.env)).any (·.1)=false:=by rfl):PE X (.Call (.Name x p) (e::es) [] pos) (A_ r t):=by
 intro pins s σ H Q I h
 refine wpAny_Call_Name_kw (mS I hg hm hv ?_ hn kq)
 exact PyProof.Rows.callWith_type1 (au (ha pos pins s σ H _ I h) fun us s1 ⟨vs,H1,I1,r1,q1⟩=>hc pins s1 σ H1 vs us Q I1 r1 q1) he gr
end
end L2
namespace HT
open PySem PyProof.Rows
section
open PySem.SeqAt
open PySem.AutoSeq1 (wpAny_loadPart')
open PySem.MeetsSeq PySem.MeetsSeq2 PySem.MeetsSeq3
end
theorem P8 {t:Addr} {vs ws:List Value} (ht:IsTup s.heap t vs.toArray) (hb:IsTup s.heap b ws.toArray) (hv:vs≠[])
  (h1:ws=[]->Q (.ref t) s) (h2:ws≠[]->Q (.ref s.heap.objs.size) {s with heap:=s.heap.push {cls:=.type "tuple",data:=.seq (vs++ws).toArray}})
  (hsz:vs.length+ws.length<=sizeLine):wpAny (model prog w) A (binaryOp .Add (.ref t) (.ref b)) Q E s:=by
 obtain ⟨⟨cls,dd,data,sl⟩,ho,hc,n,hd⟩:=id ht
 obtain ⟨⟨P9,EU,data2,EV⟩,zb,k_,n2,hd2⟩:=id hb
 simp only at hc hd k_ hd2
 subst hc hd k_ hd2
 have e:vs.toArray++ws.toArray=(vs++ws).toArray:=by simp
 by_cases hw:ws=[]
 ·exact concat_meets ⟨_,ho,rfl⟩ ⟨_,zb,rfl⟩ noFill_tuple_add seq_tuple_add PySem.F.slot_tuple_add PySem.F.entry_tuple_add (PySem.F.args_tuple_add_2 _ _)
   (tuple_addW1 t b vs.toArray ws.toArray n n2 dd EU sl EV (by simpa using hv) (by simp [hw])) ⟨ho,zb,h1 hw⟩
 ·refine concat_meets ⟨_,ho,rfl⟩ ⟨_,zb,rfl⟩ noFill_tuple_add seq_tuple_add PySem.F.slot_tuple_add PySem.F.entry_tuple_add (PySem.F.args_tuple_add_2 _ _)
   (tuple_addW2 t b vs.toArray ws.toArray n n2 dd EU sl EV (by simpa using hv) (by simpa using hw) (by rw [List.size_toArray,List.size_toArray];exact hsz)) ⟨ho,zb,?_⟩
  rw [e]
  exact h2 hw
def bf (n d:Nat):Option Int->Nat
 | none=>d
 | some v=>if v < 0 then (v+(n:Int)).toNat else min v.toNat n
theorem pW (n d:Nat):bf n d none=d:=rfl
theorem eK (n d k:Nat):bf n d (some (k:Int))=min k n:=by
 show (if (k:Int) < 0 then ((k:Int)+(n:Int)).toNat else min (k:Int).toNat n)=min k n
 rw [if_neg (by omega),Int.toNat_natCast]
theorem P_ (n d:Nat) (hd:d<=n) (o:Option Int):bf n d o<=n:=by
 cases o with
 | none=>exact hd
 | some v=>
  show (if v < 0 then (v+(n:Int)).toNat else min v.toNat n)<=n
  by_cases hv:v < 0
  ·rw [if_pos hv];omega
  ·rw [if_neg hv];exact Nat.min_le_right _ _
theorem sT (v:Int) (n d:Nat):(if v < 0 then max (v+(n:Int)) 0 else min v (n:Int))=((bf n d (some v):Nat):Int):=by
 show (if v < 0 then max (v+(n:Int)) 0 else min v (n:Int))=(((if v < 0 then (v+(n:Int)).toNat else min v.toNat n):Nat):Int)
 by_cases hv:v < 0
 ·simp only [if_pos hv];omega
 ·simp only [if_neg hv];omega
theorem qG (lo hi:Option Int) (n:Nat):Builtin.Slice.sliceAdjust lo hi 1 (n:Int)=(((bf n 0 lo:Nat):Int),((bf n n hi:Nat):Int)):=by
 have h1:¬((1:Int) < 0):=by omega
 unfold Builtin.Slice.sliceAdjust
 simp only [h1,if_false]
 refine Prod.ext ?_ ?_
 ·cases lo with
  | none=>rfl
  | some v=>exact sT v n 0
 ·cases hi with
  | none=>rfl
  | some v=>exact sT v n n
theorem qV (i j:Nat):Builtin.Slice.slicePlaces (i:Int) (j:Int) 1=j - i:=by
 unfold Builtin.Slice.slicePlaces
 have h1:(1:Int) > 0:=by omega
 simp only [h1,if_true,Int.ediv_one]
 split<;>omega
theorem kM {v:Value} {o:Option Int} {Q:Option Int->Shared->Prop} (p:IsPart v o) (h:Q o s):wpAny (model prog w) A (Builtin.Slice.slicePartIndex v) Q E s:=by
 cases p with
 | none=>exact slicePart_none h
 | int i t=>exact slicePart_int h
theorem eB {sl:Addr} {vl vu:Value} {lo hi:Option Int} {Q:Int×Int×Nat->Shared->Prop} (hs:s.heap.IsSliceOf sl vl vu .none) (pl:IsPart vl lo) (pu:IsPart vu hi)
  (h:Q (((bf n 0 lo:Nat):Int),1,bf n n hi - bf n 0 lo) s):wpAny (model prog w) A (Builtin.Slice.sliceApplied (.ref sl) (pure (n:Int))) Q E s:=by
 obtain ⟨os,zc,EW,ji⟩:=id hs
 unfold Builtin.Slice.sliceApplied Builtin.Slice.sliceFields
 refine QT (QT (wpAny_field zc ji (x:=vl) rfl (QT (wpAny_field zc ji (x:=vu) rfl (QT (wpAny_field zc ji (x:=.none) rfl (QU ?_)))))))
 refine QT (slicePart_none ?_)
 show wpAny _ _ (if ((1:Int)==0)=true then _ else _) _ _ s
 rw [if_neg (by decide)]
 refine QT (kM pl (QT (kM pu (QT (QU ?_)))))
 show wpAny _ _ (match Builtin.Slice.sliceAdjust lo hi 1 (n:Int) with | (lo,hi)=>pure (lo,(1:Int),Builtin.Slice.slicePlaces lo hi 1)) _ _ s
 rw [qG lo hi n]
 show wpAny _ _ (pure (((bf n 0 lo:Nat):Int),(1:Int),Builtin.Slice.slicePlaces ((bf n 0 lo:Nat):Int) ((bf n n hi:Nat):Int) 1)) _ _ s
 rw [qV]
 exact QU h
theorem xL (xs:Array Value) (i k:Nat):((List.range k).filterMap fun (m:Nat)=>xs[((i:Int)+(m:Int)*1).toNat]?).toArray=((xs.toList.drop i).take k).toArray:=by
 have e:(fun (m:Nat)=>xs[((i:Int)+(m:Int)*1).toNat]?)=fun m=>xs[i+m]?:=by
  funext m
  have:((i:Int)+(m:Int)*1).toNat=i+m:=by omega
  rw [this]
 rw [e]
 have:=pick_run xs i k
 rw [List.filterMap_map] at this
 have e2:((fun x=>xs[x]?)∘fun x=>i+x)=fun m=>xs[i+m]?:=rfl
 rw [e2] at this
 rw [this]
theorem iB {t sl:Addr} {items:Array Value} {vl vu:Value} {lo hi:Option Int} (ht:IsTup s.heap t items) (hs:s.heap.IsSliceOf sl vl vu .none) (pl:IsPart vl lo) (pu:IsPart vu hi)
  (hw:¬(bf items.size 0 lo=0/\bf items.size items.size hi=items.size))
  (h:Q (.ref s.heap.objs.size) {s with heap:=s.heap.push {cls:=.type "tuple",data:=.seq ((items.toList.drop (bf items.size 0 lo)).take (bf items.size items.size hi - bf items.size 0 lo)).toArray}})
  (hsz:items.size<=sizeLine):wpAny (model prog w) A (getItem (.ref t) (.ref sl)) Q E s:=by
 have EX:sizeOk (.seq ((items.toList.drop (bf items.size 0 lo)).take (bf items.size items.size hi - bf items.size 0 lo)).toArray):=by
  show ((items.toList.drop (bf items.size 0 lo)).take (bf items.size items.size hi - bf items.size 0 lo)).toArray.size<=sizeLine
  rw [List.size_toArray,List.length_take,List.length_drop,Array.length_toList]
  omega
 have hj:bf items.size items.size hi<=items.size:=P_ _ _ (Qy _) hi
 obtain ⟨os,zc,EW,ji⟩:=id hs
 have G2:s.TypeIs (.ref sl) "slice":=⟨os,zc,EW⟩
 unfold getItem
 try with_reducible refine wpAny_holding ?_
 first | refine QT (QU ?_) | skip
 refine QT (wpAny_sequenceKey ht.typeIs (by decide) ?_)
 refine QT (wpAny_callSpecial?_slot (name:=Str.ofString "__getitem__") ht.typeIs PyProof.Rows.slot_tuple_getitem
  (wpAny_call_entry PyProof.Rows.slot_tuple_getitem ht.typeIs entry_tuple_getitem ?_ (args_tuple_getitem _ _)))
 show wpAny _ _ (Builtin.Tuple.tupleItemsOf (.ref t) >>=_) _ _ s
 refine QT (tupleItemsOf_ ht ?_)
 refine QT (wpAny_typeOf G2 ?_)
 rw [if_pos (by decide)]
 refine QT (eB hs pl pu ?_)
 have Dc:¬((((bf items.size 0 lo:Nat):Int)==0&&(1:Int)==1&&(bf items.size items.size hi - bf items.size 0 lo)==items.size)=true):=by
  intro q
  rw [Bool.and_eq_true,Bool.and_eq_true] at q
  have q1:((bf items.size 0 lo:Nat):Int)=0:=eq_of_beq q.1.1
  have q2:bf items.size items.size hi - bf items.size 0 lo=items.size:=eq_of_beq q.2
  exact hw ⟨by omega,by omega⟩
 show wpAny _ _ (if (((bf items.size 0 lo:Nat):Int)==0&&(1:Int)==1&&(bf items.size items.size hi - bf items.size 0 lo)==items.size)=true then _ else _) _ _ s
 rw [if_neg Dc,xL]
 first
  | exact QT (m:=Builtin.Tuple.tupleExact _) (wpAny_newObj_type (QU ⟨_,rfl,QU h⟩) EX)
  | exact QT (m:=Builtin.Tuple.tupleExact _) (wpAny_newObj_type (QT (QU (QU ⟨_,rfl,QU h⟩))) EX)
  | exact QT (QT (m:=Builtin.Tuple.tupleExact _) (wpAny_newObj_type (QU (QU ⟨_,rfl,QU h⟩)) EX))
  | exact QT (QT (m:=Builtin.Tuple.tupleExact _) (wpAny_newObj_type (QU ⟨_,rfl,QU h⟩) EX))
end HT
namespace L2
open PySem PySem.Spec PyProof.Rows
abbrev TO:=St->Hp->(Option Int->Hp->Prop)->Prop
def PO (X:Cx) (e:Option Expr) (t:TO):Prop:=
 ∀ (pins:List (Addr×Obj)) (s:Shared) (σ:St) (H:Hp) (Q:Option Int->Hp->Prop),Inv X pins σ H s->t σ H Q->
  wpAny (model X.prog X.w) X.A (evalPart e X.env) (fun u s'=>∃ o H',Inv X pins σ H' s'/\IsPart u o/\Q o H') X.xe s
def BU:TO:=fun _ H Q=>Q none H
def BV (t:TE):TO:=fun σ H Q=>t σ H fun x H1=>∃ i,x=.int i/\Q (some i) H1
section
variable {lo hi:Option Expr} {tl th:TO} {pos p2:Pos}
theorem Qu:PO X none BU:=by
 intro pins s σ H Q I h
 rw [evalPart_none]
 exact QU ⟨none,H,I,.none,h⟩
theorem QF (h:PE X e te):PO X (some e) (BV te):=by
 intro pins s σ H Q I hw
 rw [evalPart_some]
 refine au (h pins s σ H _ I hw) ?_
 rintro u s1 ⟨x,H1,I1,r1,q1⟩
 obtain ⟨i,rfl,q⟩:=q1
 obtain ⟨t,rfl⟩:=r1
 exact ⟨some i,H1,I1,.int i t,q⟩
def qw (X:Cx) (r:V->Option Int->Option Int->Hp->VK->Prop):Prop:=
 ∀ (pins:List (Addr×Obj)) (s:Shared) (σ:St) (H:Hp) (x:V) (v vl vu:Value) (lo hi:Option Int) (sl:Addr) (Q:VK),Inv X pins σ H s->RelV x v->s.heap.IsSliceOf sl vl vu .none->IsPart vl lo->IsPart vu hi->r x lo hi H Q->
  ∃ T id,typeLookup (.type T) "__getitem__"=pure (some (.builtin id))/\s.TypeIs v T/\wpAny (model X.prog X.w) X.A (getItem v (.ref sl)) (EP X pins σ Q) X.xe s
theorem qw.or {r r':V->Option Int->Option Int->Hp->VK->Prop} (h:qw X r) (h':qw X r'):qw X (fun x lo hi H Q=>r x lo hi H Q\/r' x lo hi H Q):=by
 intro pins s σ H x v vl vu lo hi sl Q I rx hs pl pu q
 rcases q with q | q
 ·exact h pins s σ H x v vl vu lo hi sl Q I rx hs pl pu q
 ·exact h' pins s σ H x v vl vu lo hi sl Q I rx hs pl pu q
def BX (r:V->Option Int->Option Int->Hp->VK->Prop) (te:TE) (tl th:TO):TE:=fun σ H Q=>te σ H fun x H1=>tl σ H1 fun l H2=>th σ H2 fun u H3=>r x l u H3 Q
theorem yF {r:V->Option Int->Option Int->Hp->VK->Prop} (hr:qw X r) (he:PE X e te) (hl:PO X lo tl) (hu:PO X hi th):PE X (.Subscript e (.Slice lo hi none p2) pos) (BX r te tl th):=by
 intro pins s σ H Q I h
 refine Subscript_ (au (he pins s σ H _ I h) ?_)
 rintro v s1 ⟨x,H1,I1,r1,q1⟩
 refine wpAny_Slice (au (hl pins s1 σ H1 _ I1 q1) fun vl s2 ⟨l,H2,I2,pl,q2⟩=>au (hu pins s2 σ H2 _ I2 q2) fun vu s3 ⟨u,H3,I3,pu,q3⟩=>?_)
 rw [evalPart_none]
 refine QU ?_
 have I4:Inv X pins σ H3 {s3 with heap:=s3.heap.push {cls:=.type "slice",data:=.fields #[vl,vu,.none]}}:=I3.kept (t':=s3.toks) fun b ob q=>Qc _ q
 obtain ⟨T,id,hT,ht,hg⟩:=hr pins {s3 with heap:=s3.heap.push {cls:=.type "slice",data:=.fields #[vl,vu,.none]}} σ H3 x v vl vu l u s3.heap.objs.size Q I4 r1 (Heap.IsSliceOf.new ..) pl pu q3
 show wpAny (model X.prog X.w) X.A (subscriptTail e (.Slice lo hi none p2) v (.ref s3.heap.objs.size)) (EP X pins σ Q) X.xe {s3 with heap:=s3.heap.push {cls:=.type "slice",data:=.fields #[vl,vu,.none]}}
 exact tail_any (ops:=[.ref s3.heap.objs.size,v]) ht hT hg (by with_unfolding_all rfl)
def jq (xs:List V) (lo hi:Option Int):List V:=(xs.drop (HT.bf xs.length 0 lo)).take (HT.bf xs.length xs.length hi - HT.bf xs.length 0 lo)
theorem jE (xs:List V) (lo hi:Option Int):(jq xs lo hi).length<=xs.length:=by
 unfold jq
 rw [List.length_take,List.length_drop]
 omega
def Af (K:Q0):V->Option Int->Option Int->Hp->VK->Prop:=fun x lo hi H Q=>∃ a xs,x=.ref a/\af K H a xs/\
 ¬(HT.bf xs.length 0 lo=0/\HT.bf xs.length xs.length hi=xs.length)/\∀ p,H p=none->Q (.ref p) (upd H p (.tup (jq xs lo hi)))
theorem xP:qw X (Af X.K):=by
 intro pins s σ H x v vl vu lo hi sl Q I rx hs pl pu h
 obtain ⟨a,xs,rfl,hx,hw,q⟩:=h
 cases rx
 obtain ⟨its,r,ht,hz⟩:=I.tuple hx
 have fg:its.toArray.size=xs.length:=by rw [List.size_toArray];exact r.length.symm
 refine ⟨"tuple",_,PyProof.Rows.slot_tuple_getitem.lookup,ht.typeIs,?_⟩
 refine HT.iB ht hs pl pu (by rw [fg];exact hw) ?_ (by rw [fg];exact hz)
 rw [fg]
 refine ⟨.ref s.heap.objs.size,_,I.laid (t':=s.toks) (o:=.tup (jq xs lo hi)) (fun b ob q=>Qc _ q) (Qy _) ?_,rfl,q _ (I.hok.fresh (Qy _))⟩
 exact ⟨⟨Nat.le_trans (jE xs lo hi) hz,AX.new rfl rfl⟩,_,(r.drop (HT.bf xs.length 0 lo)).take (HT.bf xs.length xs.length hi - HT.bf xs.length 0 lo),IsTup.new _ _⟩
def QM (K:Q0):R2:=fun x y H Q=>∃ a b xs ys,x=.ref a/\y=.ref b/\af K H a xs/\af K H b ys/\xs≠[]/\xs.length+ys.length<=sizeLine/\
 (ys=[]->Q (.ref a) H)/\(ys≠[]->∀ p,H p=none->Q (.ref p) (upd H p (.tup (xs++ys))))
theorem a_.EY {xs:List V} (r:a_ xs us):us=[]↔xs=[]:=by
 cases r with
 | nil=>simp
 | cons _ _=>simp
theorem QN:cj X (binaryOp .Add) (QM X.K):=by
 intro pins s σ H x y v u Q I rx ry h
 obtain ⟨a,b,xs,ys,rfl,rfl,ha,hb,hx,hz,q1,q2⟩:=h
 cases rx
 cases ry
 obtain ⟨its,r1,p1,_⟩:=I.tuple ha
 obtain ⟨its2,r2,p2,_⟩:=I.tuple hb
 refine HT.P8 p1 p2 (fun z=>hx (r1.EY.mp z)) (fun z=>⟨.ref a,H,I,rfl,q1 (r2.EY.mp z)⟩) (fun z=>?_) (by rw [<- r1.length,<- r2.length];exact hz)
 refine ⟨.ref s.heap.objs.size,_,I.laid (t':=s.toks) (o:=.tup (xs++ys)) (fun b ob q=>Qc _ q) (Qy _) ?_,rfl,q2 (fun w=>z (r2.EY.mpr w)) _ (I.hok.fresh (Qy _))⟩
 exact ⟨⟨by rw [Qk];exact hz,AX.new rfl rfl⟩,_,r1.append r2,IsTup.new _ _⟩
end
def zd (n:Nat) (i:Int):Option Nat:=if 0<=i then (if i < n then some i.toNat else none) else if -(n:Int)<=i then some (i+n).toNat else none
def jj {α:Type} (xs:List α) (i:Int):Option α:=(zd xs.length i).bind fun j=>xs[j]?
theorem nF {i:Int} (h:zd n i=some j):seqIndex? i n=some j/\j < n/\ -(n:Int)<=i/\i < n:=by
 unfold zd at h
 by_cases h0:0<=i
 ·rw [if_pos h0] at h
  by_cases h1:i < n
  ·rw [if_pos h1] at h
   have e:i.toNat=j:=QD h
   exact ⟨by rw [seqIndex_of h0 h1,e],by omega,by omega,h1⟩
  ·rw [if_neg h1] at h;cases h
 ·rw [if_neg h0] at h
  by_cases h1: -(n:Int)<=i
  ·rw [if_pos h1] at h
   have e:(i+n).toNat=j:=QD h
   exact ⟨by rw [seqIndex_neg (by omega) h1,e],by omega,h1,by omega⟩
  ·rw [if_neg h1] at h;cases h
theorem n4 {xs:List α} {i:Int} {v:α} (h:jj xs i=some v):∃ j,seqIndex? i xs.length=some j/\xs[j]? =some v/\j < xs.length/\ -(xs.length:Int)<=i/\i < xs.length:=by
 unfold jj at h
 cases e:zd xs.length i with
 | none=>rw [e] at h;cases h
 | some j=>
  rw [e] at h
  obtain ⟨h1,h2,h3,h4⟩:=nF e
  exact ⟨j,h1,h,h2,h3,h4⟩
theorem d6 {xs:List α} {v:α} (h:xs[j]? =some v):jj xs (j:Int)=some v:=by
 have hj:j < xs.length:=(List.getElem?_eq_some_iff.mp h).1
 have e:zd xs.length (j:Int)=some j:=by
  unfold zd
  rw [if_pos (by omega),if_pos (by omega)];simp
 unfold jj;rw [e];exact h
def Kv (b:Expr):Prop:=∀ o i,subscripted b false o i=operate [o,i] (getItem o i)
def Ba (X:Cx) (r:R2):Prop:=
 ∀ (value slice:Expr) (pins:List (Addr×Obj)) (s:Shared) (σ:St) (H:Hp) (x y:V) (v u:Value) (Q:VK),Inv X pins σ H s->RelV x v->RelV y u->r x y H Q->
  subscripted slice false v u=operate [v,u] (getItem v u)->wpAny (model X.prog X.w) X.A (subscriptTail value slice v u) (EP X pins σ Q) X.xe s
def Kw (X:Cx) (id:String) (r:V->List V->Hp->VK->Prop):Prop:=
 ∀ (pins:List (Addr×Obj)) (s:Shared) (σ:St) (H:Hp) (x:V) (xs:List V) (v:Value) (us:List Value) (Q:VK),Inv X pins σ H s->RelV x v->a_ xs us->r x xs H Q->
  wpAny (model X.prog X.w) X.A (call (.builtin id) (v::us)) (EP X pins σ Q) X.xe s
section
variable {a b:Expr} {ta tb:TE} {pos:Pos}
theorem QO {r:R2} (hr:Ba X r) (ha:PE X a ta) (hb:PE X b tb) (hs:Kv b):PE X (.Subscript a b pos) (ko r ta tb):=by
 intro pins s σ H Q I h
 exact Subscript_ (G0 ha hb I h fun v u s2 x y H2 I2 rx ry q=>hr a b pins s2 σ H2 x y v u Q I2 rx ry q (hs _ _))
def QR (K:Q0):R2:=fun x y H Q=>∃ p xs i v,x=.ref p/\y=.int i/\ak K H p xs/\jj xs i=some v/\Q v H
def QV (K:Q0):R2:=fun x y H Q=>∃ p xs i v,x=.ref p/\y=.int i/\af K H p xs/\jj xs i=some v/\Q v H
def QW:R2:=fun x y H Q=>∃ z i c,x=.str z/\y=.int i/\z.length<=sizeLine/\jj z.cps.toList i=some c/\Q (.str ⟨#[c]⟩) H
theorem QX:Ba X (QR X.K):=by
 intro value slice pins s σ H x y v u Q I rx ry h hs
 obtain ⟨p,xs,i,z,rfl,rfl,hq,he,q⟩:=h
 cases rx
 obtain ⟨t,rfl⟩:=ry
 obtain ⟨its,r,pl,hz⟩:=I.list hq
 obtain ⟨j,h1,h2,h3,h4,h5⟩:=n4 he
 obtain ⟨w,ew,nq⟩:=r.get h2
 have hl:=r.length
 have hn:=C5
 have fin:EP X pins σ Q w s:=⟨z,H,I,nq,q⟩
 by_cases h0:0<=i
 ·have hj:i.toNat=j:=by
   rw [seqIndex_of h0 h5] at h1
   exact QD h1
  exact item_listR pl.isList h0 (by omega) (by rw [hj];simpa using ew) fin hs
 ·have hj:(i+(its.toArray.size:Int)).toNat=j:=by
   rw [seqIndex_neg (by omega) h4] at h1
   rw [List.size_toArray,<- hl]
   exact QD h1
  exact subscriptTail_builtinR (x:=w) pl.isList.typeIs slot_list_getitem.lookup
   (wpAny_getItem_list_neg (Q:=fun r s'=>r=w/\EP X pins σ Q r s') pl.isList (by omega) (by rw [List.size_toArray]<;>omega) (by omega) (by rw [hj];simpa using ew) ⟨rfl,fin⟩) hs
theorem QY:Ba X (QV X.K):=by
 intro value slice pins s σ H x y v u Q I rx ry h hs
 obtain ⟨p,xs,i,z,rfl,rfl,hq,he,q⟩:=h
 cases rx
 obtain ⟨t,rfl⟩:=ry
 obtain ⟨its,r,pl,hz⟩:=I.tuple hq
 obtain ⟨j,h1,h2,h3,h4,h5⟩:=n4 he
 obtain ⟨w,ew,nq⟩:=r.get h2
 have hl:=r.length
 have hn:=C5
 have fin:EP X pins σ Q w s:=⟨z,H,I,nq,q⟩
 exact subscriptTail_builtinR (x:=w) pl.typeIs slot_tuple_getitem.lookup
  (getItem_tuple (j:=j) (Q:=fun r s'=>r=w/\EP X pins σ Q r s') pl (by omega) (by omega) (by rw [List.size_toArray,<- hl];exact h1) (by simpa using ew) ⟨rfl,fin⟩) hs
theorem QZ:Ba X QW:=by
 intro value slice pins s σ H x y v u Q I rx ry h hs
 obtain ⟨z,i,c,rfl,rfl,hz,he,q⟩:=h
 obtain ⟨t,rfl⟩:=rx
 obtain ⟨t',rfl⟩:=ry
 obtain ⟨j,h1,h2,h3,h4,h5⟩:=n4 he
 have hl:z.cps.toList.length=z.length:=by simp [Str.length]
 rw [hl] at h1 h4 h5
 have hn:=C5
 exact tail_any (typeIs_str s z t) slot_str_getitem.lookup (getItem_str (c:=c) (by
  have e1:decide (i < -(2^63:Int))=false:=Qw (by omega)
  have e2:decide (i≥2^63)=false:=Qw (by omega)
  rw [e1,e2,Bool.or_false]) (by rw [h1];simpa using h2) ⟨.str ⟨#[c]⟩,H,I.tok _,⟨_,rfl⟩,q⟩) hs
theorem sE (its:List Value) (n j:Nat) (u:Value):Obj.mapSeq (·.setIfInBounds j u) {cls:=.type "list",data:=.seq its.toArray n}={cls:=.type "list",data:=.seq (its.set j u).toArray n}:=by
 simp [Obj.mapSeq]
theorem Inv.lst {pins:List (Addr×Obj)} {σ:St} {H:Hp} {s:Shared} {p:Addr} {xs:List V} (I:Inv X pins σ H s) (h:H p=some (.lst xs)):
  ∃ (its:List Value) (n:Nat),a_ xs its/\s.heap.get? p=some {cls:=.type "list",data:=.seq its.toArray n}/\xs.length<=sizeLine:=by
 obtain ⟨z,its,n,r,e⟩:=I.hok p _ h
 exact ⟨its,n,r,e,z⟩
theorem Inv.Q2 {xs ys:List V} {its its':List Value} {n':Nat} {f:Obj->Obj} (I:Inv X pins σ H s) (h:H p=some (.lst xs))
  (ho:s.heap.get? p=some {cls:=.type "list",data:=.seq its.toArray n}) (hf:f {cls:=.type "list",data:=.seq its.toArray n}={cls:=.type "list",data:=.seq its'.toArray n'}) (r:a_ ys its') (hz:ys.length<=sizeLine) (t:Nat):
  Inv X pins σ (upd H p (.lst ys)) {s with heap:=s.heap.update p f,toks:=t}:=by
 have e:(s.heap.update p f).get? p=some {cls:=.type "list",data:=.seq its'.toArray n'}:=by
  rw [Heap.get?_update_self f ho (by rw [hf]<;>rfl),hf]
 refine I.write (x:=p) (e:=p) (by rw [h];trivial) (.inl rfl) (fun b u hb q=>(Heap.get?_update_other _ _ (Ne.symm hb)).trans q) ⟨_,e⟩ ?_
 exact ⟨hz,its',n',r,e⟩
def Q3:V->V->V->Hp->(Hp->Prop)->Prop:=fun o i v H Q=>∃ p xs k j,o=.ref p/\i=.int k/\H p=some (.lst xs)/\zd xs.length k=some j/\Q (upd H p (.lst (xs.set j v)))
theorem kE:GW X Q3:=by
 intro pins s σ H o i v ov iv u Q I ro ri rv h
 obtain ⟨p,xs,k,j,rfl,rfl,hp,hj,q⟩:=h
 cases ro
 obtain ⟨t,rfl⟩:=ri
 obtain ⟨its,n,r,ho,hz⟩:=I.lst hp
 obtain ⟨h1,h2,h3,h4⟩:=nF hj
 have hl:=r.length
 have hn:=C5
 have I':Inv X pins σ (upd H p (.lst (xs.set j v))) {s with heap:=s.heap.update p (Obj.mapSeq (·.setIfInBounds j u))}:=
  I.Q2 hp ho (sE its n j u) (r.set rv j) (by rw [List.length_set];exact hz) s.toks
 by_cases h0:0<=k
 ·have hk:k.toNat=j:=by
   rw [seqIndex_of h0 h4] at h1
   exact QD h1
  exact PySem.W.ki_setAt ho h0 (by omega) (by rw [List.size_toArray,<- hl];exact h4) (by rw [hk];exact ⟨_,I',q⟩)
 ·have hk:(k+(its.toArray.size:Int)).toNat=j:=by
   rw [seqIndex_neg (by omega) h3] at h1
   rw [List.size_toArray,<- hl]
   exact QD h1
  exact PySem.W.ki_setBack ho (by omega) (by rw [List.size_toArray,<- hl];exact h3) (by omega) (by rw [hk];exact ⟨_,I',q⟩)
theorem n5 (lo hi:Option Int) (n:Nat):(sliceBounds lo hi none n).1=((HT.bf n 0 lo:Nat):Int)/\(sliceBounds lo hi none n).2.1=((HT.bf n n hi:Nat):Int)/\(sliceBounds lo hi none n).2.2=1:=by
 refine ⟨?_,?_,rfl⟩
 ·cases lo with
  | none=>simp [sliceBounds,HT.bf]
  | some i=>
   simp only [sliceBounds,HT.bf,Option.getD_none,show (1:Int) > 0 by decide,if_true]
   by_cases h:i < 0
   ·simp only [h,if_true]<;>omega
   ·simp only [h,if_false]<;>omega
 ·cases hi with
  | none=>simp [sliceBounds,HT.bf]
  | some i=>
   simp only [sliceBounds,HT.bf,Option.getD_none,show (1:Int) > 0 by decide,if_true]
   by_cases h:i < 0
   ·simp only [h,if_true]<;>omega
   ·simp only [h,if_false]<;>omega
theorem lF (its:List Value) (lo hi:Option Int):slicePick its.toArray lo hi none=((its.drop (HT.bf its.length 0 lo)).take (HT.bf its.length its.length hi - HT.bf its.length 0 lo)).toArray:=by
 obtain ⟨h1,h2,h3⟩:=n5 lo hi its.toArray.size
 unfold slicePick
 rw [h1,h2,h3]
 simp only [sliceRange_one,pick_run,List.size_toArray]<;>rfl
def Bb (K:Q0):V->Option Int->Option Int->Hp->VK->Prop:=fun x lo hi H Q=>∃ a xs,x=.ref a/\ak K H a xs/\∀ p,H p=none->Q (.ref p) (upd H p (.lst (jq xs lo hi)))
theorem zW:qw X (Bb X.K):=by
 intro pins s σ H x v vl vu lo hi sl Q I rx hs pl pu h
 obtain ⟨a,xs,rfl,hx,q⟩:=h
 cases rx
 obtain ⟨its,r,ht,hz⟩:=I.list hx
 have fg:=r.length
 refine ⟨"list",_,slot_list_getitem.lookup,ht.isList.typeIs,?_⟩
 refine wpAny_getItem_list_slice ht.isList hs pl pu .none (by simp) ?_ (by rw [List.size_toArray]<;>omega)
 rw [lF,<- fg]
 refine ⟨.ref s.heap.objs.size,_,I.laid (t':=s.toks) (o:=.lst (jq xs lo hi)) (fun b ob q=>Qc _ q) (Qy _) ?_,rfl,q _ (I.hok.fresh (Qy _))⟩
 exact ⟨Nat.le_trans (jE xs lo hi) hz,_,0,(r.drop (HT.bf xs.length 0 lo)).take (HT.bf xs.length xs.length hi - HT.bf xs.length 0 lo),Qd _ rfl⟩
def xy:V->Bool
 | .ai=>true
 | .bl _=>true
 | .int _=>true
 | .str _=>true
 | _=>false
def Ag:V->V->Bool
 | .ai,.ai=>true
 | .bl a,.bl b=>a==b
 | .bl a,.int b=>(if a then 1 else 0)==b
 | .int a,.bl b=>a==(if b then 1 else 0)
 | .int a,.int b=>a==b
 | .str a,.str b=>a==b
 | _,_=>false
theorem Q4 {y x:V} {v:Value} (ry:RelV y u) (rx:RelV x v) (fy:xy y=true) (fx:xy x=true):SeqAt.EqAt A s u v (Ag y x):=by
 cases y with
 | ai=>
  cases ry
  cases x with
  | ai=>cases rx;exact SeqAt.EqAt.same _
  | bl b=>cases rx;exact SeqAt.EqAt.none_bool b
  | int b=>obtain ⟨t,rfl⟩:=rx;exact SeqAt.EqAt.none_int b t
  | str b=>obtain ⟨t,rfl⟩:=rx;exact SeqAt.EqAt.none_str b t
  | _=>exact absurd (show false=true from fx) Bool.false_ne_true
 | bl a=>
  cases ry
  cases x with
  | ai=>cases rx;exact SeqAt.EqAt.bool_none a
  | bl b=>cases rx;exact SeqAt.EqAt.bool_bool a b
  | int b=>obtain ⟨t,rfl⟩:=rx;exact SeqAt.EqAt.bool_int a b t
  | str b=>obtain ⟨t,rfl⟩:=rx;exact SeqAt.EqAt.bool_str a b t
  | _=>exact absurd (show false=true from fx) Bool.false_ne_true
 | int a=>
  obtain ⟨t',rfl⟩:=ry
  cases x with
  | ai=>cases rx;exact SeqAt.EqAt.int_none a t'
  | bl b=>cases rx;exact SeqAt.EqAt.int_bool a t' b
  | int b=>obtain ⟨t,rfl⟩:=rx;exact SeqAt.EqAt.int_int a t' b t
  | str b=>obtain ⟨t,rfl⟩:=rx;exact SeqAt.EqAt.int_str a t' b t
  | _=>exact absurd (show false=true from fx) Bool.false_ne_true
 | str a=>
  obtain ⟨t',rfl⟩:=ry
  cases x with
  | ai=>cases rx;exact SeqAt.EqAt.str_none a t'
  | bl b=>cases rx;exact SeqAt.EqAt.str_bool a t' b
  | int b=>obtain ⟨t,rfl⟩:=rx;exact SeqAt.EqAt.str_int a t' b t
  | str b=>obtain ⟨t,rfl⟩:=rx;exact SeqAt.EqAt.str_str a t' b t
  | _=>exact absurd (show false=true from fx) Bool.false_ne_true
 | _=>exact absurd (show false=true from fy) Bool.false_ne_true
def ze (x:V) (u:Value):Bool:=match u with
 | .none=>Ag .ai x
 | .bool b=>Ag (.bl b) x
 | .int i _=>Ag (.int i) x
 | .str z _=>Ag (.str z) x
 | _=>false
theorem xW {x y:V} (r:RelV y u) (f:xy y=true):ze x u=Ag y x:=by
 cases y with
 | ai=>cases r;rfl
 | bl b=>cases r;rfl
 | int i=>obtain ⟨t,rfl⟩:=r;rfl
 | str z=>obtain ⟨t,rfl⟩:=r;rfl
 | _=>exact absurd (show false=true from f) Bool.false_ne_true
theorem nI {x:V}:∀ {xs:List V} {us:List Value},a_ xs us->xs.all xy=true->us.any (ze x)=xs.any fun y=>Ag y x
 | _,_,.nil,_=>rfl
 | y::xs,u::us,.cons r t,f=>by
  rw [List.all_cons,Bool.and_eq_true] at f
  rw [List.any_cons,List.any_cons,xW r f.1,nI t f.2]
theorem l7 {A:Around} {s:Shared} {x:V} {v:Value} (rx:RelV x v) (fx:xy x=true):∀ {xs:List V} {us:List Value},a_ xs us->xs.all xy=true->∀ u∈us,SeqAt.EqAt A s u v (ze x u)
 | _,_,.nil,_=>fun u hu=>by cases hu
 | y::xs,u::us,.cons r t,f=>fun u' hu=>by
  rw [List.all_cons,Bool.and_eq_true] at f
  rcases Qp.mp hu with rfl | hu
  ·rw [xW r f.1];exact Q4 r rx f.1 fx
  ·exact l7 rx fx t f.2 u' hu
def Ah (x:V) (xs:List V):Bool:=xs.any fun y=>Ag y x
def Q5 (K:Q0) (neg:Bool):R2:=fun x y H Q=>∃ p xs,y=.ref p/\(ak K H p xs\/af K H p xs)/\xy x=true/\xs.all xy=true/\Q (.bl (if neg then !Ah x xs else Ah x xs)) H
theorem tX:cj X (compareOp .In) (Q5 X.K false):=by
 intro pins s σ H x y v u Q I rx ry h
 obtain ⟨p,xs,rfl,hq,fx,fs,q⟩:=h
 cases ry
 rcases hq with hq | hq
 ·obtain ⟨its,r,pl,hz⟩:=I.list hq
  refine SeqAt.in_listAt (ze x) pl.isList (fun w hw=>l7 rx fx r fs w (by simpa using hw)) ⟨.bl _,H,I,rfl,?_⟩
  rw [show its.toArray.any (ze x)=its.any (ze x) by simp,nI r fs]
  exact q
 ·obtain ⟨its,r,pl,hz⟩:=I.tuple hq
  refine SeqAt.in_tupleAt (ze x) pl (fun w hw=>l7 rx fx r fs w (by simpa using hw)) ⟨.bl _,H,I,rfl,?_⟩
  rw [show its.toArray.any (ze x)=its.any (ze x) by simp,nI r fs]
  exact q
theorem mO:vm X (.type "list") (fun xs H Q=>∃ p ys,xs=[.ref p]/\(ak X.K H p ys\/af X.K H p ys)/\∀ l,H l=none->Q (.ref l) (upd H l (.lst ys))):=by
 intro pins s σ H xs us Q I r h
 obtain ⟨p,ys,rfl,hq,q⟩:=h
 obtain ⟨u,rfl,rx⟩:=vals1 r
 cases rx
 have fin:∀ (its:List Value),a_ ys its->ys.length<=sizeLine->∀ (h':Heap) (c':Nat),(∀ b o',s.heap.get? b=some o'->h'.get? b=some o')->
   h'.get? s.heap.objs.size=some {cls:=.type "list",dict:=none,data:=.seq its.toArray c',slots:=#[]}->EP X pins σ Q (.ref s.heap.objs.size) {s with heap:=h'}:=fun its r' hz h' c' kp e=>
  ⟨.ref s.heap.objs.size,_,I.laid (t':=s.toks) kp (Qy _) (show b_ X.prog X.w _ h' _ (.lst ys) from ⟨hz,its,c',r',e⟩),rfl,q _ (I.hok.fresh (Qy _))⟩
 rcases hq with hq | hq
 ·obtain ⟨its,r',pl,hz⟩:=I.list hq
  have fg:=r'.length
  obtain ⟨o,ho,hc,n,hd⟩:=pl.isList
  exact call_list_seq p (.inl rfl) ho hc hd (fun h' c' kp e=>fin its r' hz h' c' kp e) (by simp only [List.size_toArray]<;>omega)
 ·obtain ⟨its,r',pl,hz⟩:=I.tuple hq
  have fg:=r'.length
  obtain ⟨o,ho,hc,n,hd⟩:=pl
  exact call_list_seq p (.inr rfl) ho hc hd (fun h' c' kp e=>fin its r' hz h' c' kp e) (by simp only [List.size_toArray]<;>omega)
theorem lJ:vm X (.type "tuple") (fun xs H Q=>∃ p ys,xs=[.ref p]/\((ak X.K H p ys/\∀ l,H l=none->Q (.ref l) (upd H l (.tup ys)))\/(af X.K H p ys/\Q (.ref p) H))):=by
 intro pins s σ H xs us Q I r h
 obtain ⟨p,ys,rfl,h⟩:=h
 obtain ⟨u,rfl,rx⟩:=vals1 r
 cases rx
 rcases h with ⟨hq,q⟩ | ⟨hq,q⟩
 ·obtain ⟨its,r',pl,hz⟩:=I.list hq
  have fg:=r'.length
  refine call_tuple_list pl.isList (fun h' kp=>?_) (by simp only [List.size_toArray]<;>omega)
  have I1:Inv X pins σ H {s with heap:=h'}:=I.kept (t':=s.toks) kp
  have I2:Inv X pins σ (upd H h'.objs.size (.tup ys)) {s with heap:=h'.push {cls:=.type "tuple",data:=.seq its.toArray}}:=
   I1.laid (t':=s.toks) (fun b o e=>Qc _ e) (Qy _) (show b_ X.prog X.w _ _ _ (.tup ys) from ⟨⟨hz,AX.new rfl rfl⟩,its,r',IsTup.new _ _⟩)
  exact ⟨.ref h'.objs.size,_,I2,rfl,q _ (I1.hok.fresh (Qy _))⟩
 ·obtain ⟨its,r',pl,hz⟩:=I.tuple hq
  exact call_tuple_same pl ⟨.ref p,H,I,rfl,q⟩
def Kx (K:Q0) (T:String) (x:V) (H:Hp):Prop:=match x with
 | .str _=>T="str"
 | .int _=>T="int"
 | .ref p=>(T="list"/\∃ xs,ak K H p xs)\/(T="tuple"/\∃ o,K.lookup p=some o/\o.cls=.type "tuple"/\o.dict=none)\/
   (T="dict"/\((∃ kvs,H p=some (.dK kvs))\/∃ kvs,H p=some (.dT kvs)))\/(T="set"/\∃ S n,H p=some (.set S n))
 | _=>False
theorem Q6 {x:V} {v:Value} (I:Inv X pins σ H s) (r:RelV x v) (ty:Kx X.K T x H):
  s.TypeIs v T/\∀ a,v=.ref a->∃ ob,s.heap.get? a=some ob/\ob.dict=none:=by
 cases x with
 | str z=>
  obtain ⟨t,rfl⟩:=r
  cases (show T="str" from ty)
  exact ⟨typeIs_str s z t,fun _ e=>nomatch e⟩
 | int i=>
  obtain ⟨t,rfl⟩:=r
  cases (show T="int" from ty)
  exact ⟨typeIs_int s i t,fun _ e=>nomatch e⟩
 | ref p=>
  cases r
  rcases ty with ⟨rfl,xs,hq⟩ | ⟨rfl,o,hk,hc,hd⟩ | ⟨rfl,hk⟩ | ⟨rfl,S,n,hk⟩
  ·obtain ⟨its,_,pl,_⟩:=I.list hq
   refine ⟨pl.isList.typeIs,fun a e=>?_⟩
   cases e
   obtain ⟨o,n,e,c,hd,_⟩:=pl
   exact ⟨o,e,hd⟩
  ·refine ⟨⟨o,I.qm p o hk,hc⟩,fun a e=>?_⟩
   cases e
   exact ⟨o,I.qm _ o hk,hd⟩
  ·have z:∃ o,s.heap.get? p=some o/\o.ExactDict:=by
    rcases hk with ⟨kvs,hk⟩ | ⟨kvs,hk⟩
    ·obtain ⟨_,_,_,_,o,_,_,e,ex,_⟩:=I.hok p _ hk
     exact ⟨o,e,ex⟩
    ·obtain ⟨_,_,_,_,o,_,_,e,ex,_⟩:=I.hok p _ hk
     exact ⟨o,e,ex⟩
   obtain ⟨o,e,ex⟩:=z
   refine ⟨⟨o,e,ex.1⟩,fun a e2=>?_⟩
   cases e2
   exact ⟨o,e,ex.2.1⟩
  ·obtain ⟨o,_,_,_,e,ex,_⟩:=I.hok p _ hk
   refine ⟨⟨o,e,ex.1⟩,fun a e2=>?_⟩
   cases e2
   exact ⟨o,e,ex.2.1⟩
 | _=>exact False.elim ty
def EZ (K:Q0) (T:String) (r:V->List V->Hp->VK->Prop) (to:TE) (t:TA):TE:=fun σ H Q=>to σ H fun x H1=>Kx K T x H1/\t σ H1 fun xs H2=>r x xs H2 Q
variable {o:Expr} {es:List Expr} {t:TA} {name:Str} {id:String} {r:V->List V->Hp->VK->Prop}
theorem Q7 (pa:PlainAttrs T) (slot:Slot T name id) (Dd:typeOf (.builtin id)=pure (.type "method_descriptor")) (hm:Kw X id r) (ho:PE X o to) (ha:PA X (e::es) t)
  (qz:attributeBase o name X.env (eval o X.env)=eval o X.env:=by rfl)
  (zf:((backTo cpos (starEach (e::es) X.env)).all (fun x=> !x.1)&&(backToKw cpos (keywordEach [] X.env)).all (fun x=>x.1.isSome)
   &&decide ((e::es).length+([]:List Keyword).length+(if ([]:List Keyword).isEmpty then 0 else 1) < 30))=true:=by rfl)
  (q_:(apos.endLine==cpos.line)=true:=by rfl) (hs:starEach (e::es) X.env=(false,eval e X.env)::starEach es X.env:=by rfl) (De:(backTo cpos (starEach es X.env)).any (·.1)=false:=by rfl):
  PE X (.Call (.Attribute o name apos) (e::es) [] cpos) (EZ X.K T r to t):=by
 intro pins s σ H Q I h
 refine wpAny_Call_method_late qz zf q_ rfl (au (ho pins s σ H _ I h) ?_)
 rintro v s1 ⟨x,H1,I1,r1,ty,q1⟩
 obtain ⟨h1,h2⟩:=Q6 I1 r1 ty
 refine ⟨T,id,pa,slot,Dd,h1,h2,?_⟩
 have hA:=ha cpos pins s1 σ H1 _ I1 q1
 rw [hs] at hA ⊢
 refine Calls.callWith_builtin (by show (false||(backTo cpos (starEach es X.env)).any (·.1))=false;rw [De]<;>rfl) (Calls.evalArgs_plain ?_)
 exact au hA fun us s2 ⟨vs,H2,I2,r2,q2⟩=>hm pins s2 σ H2 x vs v us Q I2 r1 r2 q2
/- xs.append(e),list.index on a W6 tuple .. are Kw facts of 06m -/
end
def E1 (X:Cx) (id:String) (r:V->List V->Hp->VK->Prop):Prop:=
 ∀ (pins:List (Addr×Obj)) (s:Shared) (σ:St) (H:Hp) (x:V) (xs:List V) (v:Value) (us:List Value) (Q:VK),Inv X pins σ H s->RelV x v->a_ xs us->r x xs H Q->
  wpAny (model X.prog X.w) X.A (call (.builtin id) (v::us)) (EP X pins σ Q) X.xe s
theorem a_.one {x:V} {us:List Value} (h:a_ [x] us):∃ u,us=[u]/\RelV x u:=by
 cases h with
 | cons r t=>
  cases t
  exact ⟨_,rfl,r⟩
theorem a_.two {x y:V} (h:a_ [x,y] us):∃ u v,us=[u,v]/\RelV x u/\RelV y v:=by
 cases h with
 | cons r t=>
  cases t with
  | cons q t=>
   cases t
   exact ⟨_,_,rfl,r,q⟩
theorem a_.eraseIdx:∀ {xs:List V} {us:List Value} (i:Nat),a_ xs us->a_ (xs.eraseIdx i) (us.eraseIdx i)
 | _,_,_,.nil=>.nil
 | _,_,0,.cons _ t=>t
 | _,_,i+1,.cons r t=>.cons r (a_.eraseIdx i t)
theorem mB {α:Type}:∀ (l:List α) (i:Nat),(l.eraseIdx i).length<=l.length
 | [],_=>Qy _
 | _::_,0=>Nat.le_succ _
 | _::r,i+1=>Nat.succ_le_succ (mB r i)
section
variable {xs ys zs:List V}
theorem Inv.Ky {its its':List Value} {f:Array Value->Array Value} (I:Inv X pins σ H s) (hH:H l=some (.lst xs))
  (e:s.heap.get? l=some {cls:=.type "list",data:=.seq its.toArray n}) (hf:f its.toArray=its'.toArray) (hv:a_ ys its') (hz:ys.length<=sizeLine):
  Inv X pins σ (upd H l (.lst ys)) {s with heap:=s.heap.update l (Obj.mapSeq f),toks:=t'}:=by
 have q:=PySem.IsL.update e f
 rw [hf] at q
 refine I.write (x:=l) (e:=l) (by rw [hH];exact trivial) (.inl rfl) (fun b' u hb hu=>(Heap.get?_update_other s.heap (Obj.mapSeq f) (Ne.symm hb)).trans hu) ⟨_,q⟩ ?_
 exact ⟨hz,its',_,hv,q⟩
theorem Inv.Q8 {its:List Value} (I:Inv X pins σ H s) (hv:a_ ys its) (hz:ys.length<=sizeLine):
  Inv X pins σ (upd H s.heap.objs.size (.lst ys)) {s with heap:=s.heap.push {cls:=.type "list",data:=.seq its.toArray},toks:=t'}:=
 I.laid (fun _ _ q=>Qc _ q) (Qy _) ⟨hz,its,0,hv,Qd _ rfl⟩
theorem Inv.fresh (I:Inv X pins σ H s):H s.heap.objs.size=none:=I.hok.fresh (Qy _)
theorem Inv.E2 (I:Inv X pins σ H s) (hH:H l=some (.lst xs)):xs.length<=sizeLine/\∃ (its:List Value) (n:Nat),a_ xs its/\xs.length=its.length/\s.heap.get? l=some {cls:=.type "list",data:=.seq its.toArray n}:=by
 obtain ⟨z,its,n,r,e⟩:=I.hok l _ hH
 exact ⟨z,its,n,r,r.length,e⟩
end
def Kz:V->List V->Hp->VK->Prop:=fun x vs H Q=>∃ l xs y,x=.ref l/\vs=[y]/\H l=some (.lst xs)/\xs.length < sizeLine/\Q .ai (upd H l (.lst (xs++[y])))
theorem bZ:E1 X "list.append" Kz:=by
 intro pins s σ H x vs v us Q I rx rv h
 obtain ⟨l,xs,y,rfl,rfl,hH,hz,q⟩:=h
 cases rx
 obtain ⟨u,rfl,ru⟩:=rv.one
 obtain ⟨z,its,n,r,hl,e⟩:=I.E2 hH
 refine call_meets F.slot_list_append ⟨_,e,rfl⟩ F.entry_list_append (F.args_list_append_2 _ _) (PySem.list_append l its.toArray n u (by rw [List.size_toArray];omega)) ⟨e,?_⟩
 refine ⟨.ai,_,I.Ky (its':=its++[u]) hH e (by simp) (r.append (.cons ru .nil)) ?_,rfl,q⟩
 rw [Qk,List.length_singleton]
 omega
def Q9:V->List V->Hp->VK->Prop:=fun x vs H Q=>∃ l xs i k y,x=.ref l/\vs=[.int i]/\H l=some (.lst xs)/\ -(2^63)<=i/\i < 2^63/\seqIndex? i xs.length=some k/\xs[k]? =some y/\Q y (upd H l (.lst (xs.eraseIdx k)))
theorem vM:E1 X "list.pop" Q9:=by
 intro pins s σ H x vs v us Q I rx rv h
 obtain ⟨l,xs,i,k,y,rfl,rfl,hH,h1,h2,hk,hy,q⟩:=h
 cases rx
 obtain ⟨u,rfl,ru⟩:=rv.one
 obtain ⟨t,rfl⟩:=ru
 obtain ⟨z,its,n,r,hl,e⟩:=I.E2 hH
 obtain ⟨w,hw,nq⟩:=r.get hy
 refine call_meets F.slot_list_pop ⟨_,e,rfl⟩ F.entry_list_pop (F.args_list_pop_2 _ _)
  (MeetsSeq.list_pop_at l its.toArray n i t k w (fitsIndex_both h1 h2) (by rw [List.size_toArray,<- hl];exact hk) (by rw [<- Array.getElem?_toList];exact hw) (by rw [List.size_toArray];omega)) ⟨e,?_⟩
 refine ⟨y,_,I.Ky (its':=its.eraseIdx k) hH e ?_ (r.eraseIdx k) ?_,nq,q⟩
 ·show its.toArray.eraseIdxIfInBounds k=(its.eraseIdx k).toArray
  rw [List.eraseIdxIfInBounds_toArray]
 ·have:=mB xs k
  omega
def Q_:R2:=fun x y H Q=>∃ l b xs zs,x=.ref l/\y=.ref b/\H l=some (.lst xs)/\H b=some (.lst zs)/\xs.length+zs.length<=sizeLine/\∀ p,H p=none->Q (.ref p) (upd H p (.lst (xs++zs)))
theorem Ra:cj X (binaryOp .Add) Q_:=by
 intro pins s σ H x y v u Q I rx ry h
 obtain ⟨l,b,xs,zs,rfl,rfl,hH,hB,hz,q⟩:=h
 cases rx
 cases ry
 obtain ⟨z,its,n,r,hl,e⟩:=I.E2 hH
 obtain ⟨z2,its2,n2,r2,Ai,e2⟩:=I.E2 hB
 refine PySem.P.add_list e e2 ?_ (by rw [List.size_toArray,List.size_toArray];omega)
 have ea:its.toArray++its2.toArray=(its++its2).toArray:=by simp
 rw [ea]
 exact ⟨.ref _,_,I.Q8 (t':=s.toks) (r.append r2) (by rw [Qk];omega),rfl,q _ I.fresh⟩
section
variable {κ:Type} [DecidableEq κ]
def br (kvs:List (κ×V)) (k:κ):Option V:=(kvs.find? fun kv=>decide (kv.1=k)).map (·.2)
def putK (kvs:List (κ×V)) (k:κ) (v:V):List (κ×V):=
 if (kvs.any fun kv=>decide (kv.1=k))=true then kvs.map (fun kv=>if kv.1=k then (kv.1,v) else kv) else kvs++[(k,v)]
theorem bN {p:κ×V} {r:List (κ×V)} {k:κ} (e:p.1=k):br (p::r) k=some p.2:=by simp [br,List.find?_cons,e]
theorem bO {p:κ×V} {r:List (κ×V)} {k:κ} (e:¬p.1=k):br (p::r) k=br r k:=by simp [br,List.find?_cons,e]
theorem bW (k:κ):∀ kvs:List (κ×V),(kvs.any fun kv=>decide (kv.1=k))=(br kvs k).isSome
 | []=>rfl
 | p::r=>by
  rw [List.any_cons]
  by_cases e:p.1=k
  ·simp only [bN e,Qv e,Bool.true_or,Option.isSome_some]
  ·rw [bO e,Qw e,Bool.false_or];exact bW k r
theorem oT (k j:κ) (y:V):∀ kvs:List (κ×V),br (kvs.map fun kv=>if kv.1=k then (kv.1,y) else kv) j=(br kvs j).map fun x=>if j=k then y else x
 | []=>rfl
 | p::r=>by
  have ih:=oT k j y r
  rw [List.map_cons]
  by_cases h:p.1=k
  ·rw [if_pos h]
   by_cases e:p.1=j
   ·rw [bN (p:=(p.1,y)) e,bN e,Option.map_some,if_pos (e.symm.trans h)]
   ·rw [bO (p:=(p.1,y)) e,bO e,ih]
  ·rw [if_neg h]
   by_cases e:p.1=j
   ·rw [bN (p:=p) e,bN e,Option.map_some,if_neg (fun z=>h (e.trans z))]
   ·rw [bO (p:=p) e,bO e,ih]
theorem j4 (k j:κ) (y:V):∀ kvs:List (κ×V),br kvs k=none->br (kvs++[(k,y)]) j=if j=k then some y else br kvs j
 | [],_=>by
  by_cases e:k=j
  ·rw [if_pos e.symm];exact bN (p:=(k,y)) e
  ·rw [if_neg (fun z=>e z.symm)];exact bO (p:=(k,y)) e
 | p::r,hn=>by
  rw [List.cons_append]
  have hk:¬p.1=k:=fun z=>by rw [bN z] at hn;cases hn
  rw [bO hk] at hn
  have ih:=j4 k j y r hn
  by_cases e:p.1=j
  ·rw [bN e,bN e,if_neg (fun z=>hk (e.trans z))]
  ·rw [bO e,bO e,ih]
theorem k7 (kvs:List (κ×V)) (k j:κ) (y:V):br (putK kvs k y) j=if j=k then some y else br kvs j:=by
 unfold putK
 by_cases a:(kvs.any fun kv=>decide (kv.1=k))=true
 ·rw [if_pos a,oT]
  rw [bW] at a
  by_cases e:j=k
  ·obtain ⟨x,hx⟩:=Option.isSome_iff_exists.mp a
   rw [if_pos e,e,hx,Option.map_some,if_pos rfl]
  ·rw [if_neg e]
   cases br kvs j with
   | none=>rfl
   | some x=>rw [Option.map_some,if_neg e]
 ·rw [if_neg a]
  refine j4 k j y kvs ?_
  rw [bW] at a
  cases q:br kvs k with
  | none=>rfl
  | some x=>rw [q] at a;exact (a rfl).elim
theorem cR (kvs:List (κ×V)) (k:κ) (v:V):(putK kvs k v).length<=kvs.length+1:=by
 unfold putK
 split
 ·rw [Ql];omega
 ·rw [Qk,List.length_cons,List.length_nil];omega
theorem cB {kvs:List (κ×V)} {k:κ} (v:V) (h:br kvs k=none):putK kvs k v=kvs++[(k,v)]:=by
 unfold putK
 rw [bW,h]
 exact if_neg (by decide)
theorem lz.BY {o:Option V} {u:Option Value} (r:lz o u):o.isSome=u.isSome:=by
 cases o with
 | none=>cases u with
  | none=>rfl
  | some _=>exact (show False from r).elim
 | some _=>cases u with
  | none=>exact (show False from r).elim
  | some _=>rfl
theorem lz.getD {o:Option V} {u:Option Value} {d:V} {d':Value} (r:lz o u) (rd:RelV d d'):RelV (o.getD d) (u.getD d'):=by
 cases o with
 | none=>cases u with
  | none=>exact rd
  | some _=>exact (show False from r).elim
 | some _=>cases u with
  | none=>exact (show False from r).elim
  | some _=>exact r
theorem KV.val {kvs:List (κ×V)} {vs:List (κ×Value)} (r:KV kvs vs) (k:κ):lz (br kvs k) (valueAt vs k):=by
 unfold KV at r
 induction r with
 | nil=>exact True.intro
 | @cons p q ps qs h t ih=>
  obtain ⟨h1,h2⟩:=h
  by_cases e:p.1=k
  ·have e':q.1=k:=h1.symm.trans e
   have b:valueAt (q::qs) k=some q.2:=by simp [valueAt,List.find?_cons,e']
   rw [bN e,b];exact h2
  ·have e':¬q.1=k:=fun z=>e (h1.trans z)
   have b:valueAt (q::qs) k=valueAt qs k:=by simp [valueAt,List.find?_cons,e']
   rw [bO e,b];exact ih
theorem KV.any {kvs:List (κ×V)} {vs:List (κ×Value)} (r:KV kvs vs) (k:κ):(kvs.any fun kv=>decide (kv.1=k))=vs.any fun kv=>decide (kv.1=k):=by
 unfold KV at r
 induction r with
 | nil=>rfl
 | cons h t ih=>rw [List.any_cons,List.any_cons,ih,h.1]
theorem KV.repl {kvs:List (κ×V)} {vs:List (κ×Value)} (r:KV kvs vs) (k:κ) {y:V} (ry:RelV y u):
  KV (kvs.map fun kv=>if kv.1=k then (kv.1,y) else kv) (vs.map fun kv=>if kv.1=k then (kv.1,u) else kv):=by
 unfold KV at r ⊢
 induction r with
 | nil=>exact .nil
 | @cons p q ps qs h t ih=>
  rw [List.map_cons,List.map_cons]
  refine .cons ?_ ih
  obtain ⟨h1,h2⟩:=h
  by_cases e:p.1=k
  ·rw [if_pos e,if_pos (h1.symm.trans e)];exact ⟨h1,ry⟩
  ·rw [if_neg e,if_neg (fun z=>e (h1.trans z))];exact ⟨h1,h2⟩
theorem KV.put {kvs:List (κ×V)} {vs:List (κ×Value)} (r:KV kvs vs) (k:κ) {y:V} (ry:RelV y u):KV (putK kvs k y) (stored vs k u):=by
 unfold putK stored
 rw [r.any k]
 by_cases e:(vs.any fun kv=>decide (kv.1=k))=true
 ·rw [if_pos e,if_pos e];exact r.repl k ry
 ·rw [if_neg e,if_neg e];exact Paired.snoc r ⟨rfl,ry⟩
theorem KV.length {kvs:List (κ×V)} {vs:List (κ×Value)} (r:KV kvs vs):kvs.length=vs.length:=Paired.length r
end
theorem jB {k:Key} (r:RelV (kV k) u):(ck P w).is k u=true:=by
 cases k with
 | inl i=>obtain ⟨t,e⟩:=(show ∃ t,u=Value.int i t from r);subst e;exact oR P w i t
 | inr x=>obtain ⟨t,e⟩:=(show ∃ t,u=Value.str x t from r);subst e;exact g6 P w x t
theorem m4 {P:Program} {w:World}:∀ {ks:List Key} {us:List Value},a_ (ks.map kV) us->ItemsAre (ck P w) ks us
 | [],_,r=>by rw [List.map_nil] at r;cases r;exact .nil
 | k::ks,_,r=>by
  rw [List.map_cons] at r
  cases r with
  | cons h t=>exact .cons (jB h) (m4 t)
abbrev KT (H:Hp):List (List Key×V)->List (List Key×Addr×Value)->Prop:=Paired fun p q=>p.1=q.1/\ao H q.2.1 (p.1.map kV)/\RelV p.2 q.2.2
theorem KT.val {kvs:List (List Key×V)} (r:KT H kvs xs) (k:List Key):lz (br kvs k) ((atKey xs k).map (·.2)):=by
 induction r with
 | nil=>exact True.intro
 | @cons p q ps qs h t ih=>
  obtain ⟨h1,_,h2⟩:=h
  by_cases e:p.1=k
  ·have e':q.1=k:=h1.symm.trans e
   have b:atKey (q::qs) k=some q.2:=by simp [atKey,List.find?_cons,e']
   rw [bN e,b];exact h2
  ·have e':¬q.1=k:=fun z=>e (h1.trans z)
   have b:atKey (q::qs) k=atKey qs k:=by simp [atKey,List.find?_cons,e']
   rw [bO e,b];exact ih
theorem KT.repl {kvs:List (List Key×V)} (r:KT H kvs xs) (k:List Key) {y:V} (ry:RelV y u):
  KT H (kvs.map fun kv=>if kv.1=k then (kv.1,y) else kv) (xs.map (putAt k u)):=by
 induction r with
 | nil=>exact .nil
 | @cons p q ps qs h t ih=>
  rw [List.map_cons,List.map_cons]
  refine .cons ?_ ih
  obtain ⟨h1,h2,h3⟩:=h
  unfold putAt
  by_cases e:p.1=k
  ·rw [if_pos e,if_pos (h1.symm.trans e)];exact ⟨h1,h2,ry⟩
  ·rw [if_neg e,if_neg (fun z=>e (h1.trans z))];exact ⟨h1,h2,h3⟩
theorem KT.put {kvs:List (List Key×V)} (r:KT H kvs xs) (k:List Key) {y:V} (hb:ao H b (k.map kV)) (ry:RelV y u):
  KT H (putK kvs k y) (storedH xs k b u):=by
 have e:(kvs.any fun kv=>decide (kv.1=k))=(atKey xs k).isSome:=by
  rw [bW,(r.val k).BY,Option.isSome_map]
 unfold putK storedH
 rw [e]
 by_cases q:(atKey xs k).isSome=true
 ·rw [if_pos q,if_pos q];exact r.repl k ry
 ·rw [if_neg q,if_neg q];exact Paired.snoc r ⟨rfl,hb,ry⟩
theorem KT.keeps {kvs:List (List Key×V)} (r:KT H kvs xs) (ht:∀ b ys,ao H b ys->ao H' b ys):KT H' kvs xs:=
 Paired.GP r fun _ _ z=>⟨z.1,ht _ _ z.2.1,z.2.2⟩
theorem KA {u:HO} (ok:e_ P w H h) (e:Rd H a u):b_ P w H h a u:=e.ok ok
theorem lU {kvs:List (Key×V)} (ok:e_ P w H h) (e:Rd H a (.dK kvs)):kvs.length<=sizeLine/\(a==sysModules)=false/\∃ vs,KV kvs vs/\h.DictOf (ck P w) a vs:=
 show b_ P w H h a (.dK kvs) from KA ok e
theorem KC {kvs:List (Key×V)} (ok:e_ P w H h) (e:H a=some (.dK kvs)):kvs.length<=sizeLine/\(a==sysModules)=false/\∃ vs,KV kvs vs/\h.DictOf (ck P w) a vs:=lU ok (.inl e)
theorem dY {ks:List Key} (ok:e_ P w H h) (e:ao H a (ks.map kV)):(tupleKind (ck P w)).is h ks a:=by
 have qq:b_ P w H h a (.tup (ks.map kV)):=by
  rcases e with e | ⟨_,e⟩
  ·exact ok a _ e
  ·exact (ok a _ e).2
 obtain ⟨_,its,r,o,h1,h2,n,h3⟩:=qq
 exact ⟨o,its.toArray,n,h1,h2,h3,by simpa using m4 r⟩
theorem pM {kvs:List (List Key×V)} (ok:e_ P w H h) (e:Rd H a (.dT kvs)):kvs.length<=sizeLine/\(a==sysModules)=false/\
  ∃ xs,KT H kvs xs/\h.DictOfH (tupleKind (ck P w)) a xs:=by
 obtain ⟨z,y,xs,r,o,es,ep,h1,h2,h3,h4,h5⟩:=(show b_ P w H h a (.dT kvs) from KA ok e)
 refine ⟨z,y,xs,r,o,es,ep,h1,h2,h3,h4,fun x hx=>?_,h5⟩
 have all:∀ {l:List (List Key×V)} {m:List (List Key×Addr×Value)},KT H l m->∀ x∈m,(tupleKind (ck P w)).is h x.1 x.2.1:=by
  intro l m q
  induction q with
  | nil=>intro x hx;exact nomatch hx
  | @cons p q ps qs hq t ih=>
   intro x hx
   rcases Qp.mp hx with e | hx
   ·subst e
    exact dY ok (by rw [<- hq.1];exact hq.2.1)
   ·exact ih x hx
 exact all r x hx
theorem KG {kvs:List (List Key×V)} (ok:e_ P w H h) (e:H a=some (.dT kvs)):kvs.length<=sizeLine/\(a==sysModules)=false/\
  ∃ xs,KT H kvs xs/\h.DictOfH (tupleKind (ck P w)) a xs:=pM ok (.inl e)
def fi (H:Hp) (a:Addr) (y:V) (r:Option V):Prop:=
 (∃ kvs k,Rd H a (.dK kvs)/\y=kV k/\r=br kvs k)\/∃ kvs k b,Rd H a (.dT kvs)/\y=.ref b/\ao H b (k.map kV)/\r=br kvs k
def Df (H:Hp) (a:Addr) (y v:V) (H':Hp):Prop:=
 (∃ kvs k,H a=some (.dK kvs)/\y=kV k/\kvs.length < sizeLine/\H'=upd H a (.dK (putK kvs k v)))\/
 ∃ kvs k b,H a=some (.dT kvs)/\y=.ref b/\ao H b (k.map kV)/\kvs.length < sizeLine/\H'=upd H a (.dT (putK kvs k v))
theorem fi.k {H:Hp} {a:Addr} {kvs:List (Key×V)} {k:Key} (e:H a=some (.dK kvs)):fi H a (kV k) (br kvs k):=.inl ⟨kvs,k,.inl e,rfl,rfl⟩
theorem Df.k {H:Hp} {a:Addr} {kvs:List (Key×V)} {k:Key} {v:V} (e:H a=some (.dK kvs)) (hl:kvs.length < sizeLine):Df H a (kV k) v (upd H a (.dK (putK kvs k v))):=.inl ⟨kvs,k,e,rfl,hl,rfl⟩
section
variable {y v:V} {r:Value} {o:Option V}
theorem Inv.big (I:Inv X pins σ H s):sysModules < s.heap.objs.size:=by
 have h:mainGlobals < s.heap.objs.size:=(I.mod.glob.keeps I.bk).lt
 exact Nat.lt_trans (by decide) h
theorem uG (hu:A.units+1 < cLine) (I:Inv X pins σ H s) (g:fi H a y (some v)) (ry:RelV y u) (h:∀ w' s',Inv X pins σ H s'->RelV v w'->Q w' s'):
  wpAny (model X.prog X.w) A (getItem (.ref a) u) Q E s:=by
 rcases g with ⟨kvs,k,e,ey,l⟩ | ⟨kvs,k,b,e,ey,eb,l⟩
 ·subst ey
  obtain ⟨z,hd,vs,rel,dd⟩:=lU I.hok e
  obtain ⟨w',hw,nq⟩:=lz.some_of (v:=v) (o:=valueAt vs k) (by rw [l];exact rel.val k)
  exact wpAny_getItem_of (jB ry) dd.mapOf hw (h w' _ (I.tok _) nq)
 ·subst ey
  cases (show u=Value.ref b from ry)
  obtain ⟨z,hd,xs,rel,dd⟩:=pM I.hok e
  obtain ⟨w',hw,nq⟩:=lz.some_of (v:=v) (o:=(atKey xs k).map (·.2)) (by rw [l];exact rel.val k)
  obtain ⟨p,hp,E3⟩:=Option.map_eq_some_iff.mp hw
  refine wpAny_getItem_heap (tupleKind_room_in1 hu) (dY I.hok eb) dd hp ?_
  rw [E3]
  exact h w' _ (I.tok _) nq
theorem Rb (hu:A.units+1 < cLine) (I:Inv X pins σ H s) (g:fi H a y o) (ry:RelV y u) (h:∀ s',Inv X pins σ H s'->Q (.bool o.isSome) s'):
  wpAny (model X.prog X.w) A (compareOp .In u (.ref a)) Q E s:=by
 rcases g with ⟨kvs,k,e,ey,l⟩ | ⟨kvs,k,b,e,ey,eb,l⟩
 ·subst ey
  obtain ⟨z,hd,vs,rel,dd⟩:=lU I.hok e
  refine wpAny_in_of (jB ry) hd dd.mapOf ?_
  rw [<- (rel.val k).BY,<- l]
  exact h _ (I.tok _)
 ·subst ey
  cases (show u=Value.ref b from ry)
  obtain ⟨z,hd,xs,rel,dd⟩:=pM I.hok e
  refine wpAny_in_heap (tupleKind_room_in1 hu) (dY I.hok eb) hd dd ?_
  have q:=(rel.val k).BY
  rw [Option.isSome_map] at q
  rw [<- q,<- l]
  exact h _ (I.tok _)
theorem Rc (hu:A.units+1 < cLine) (I:Inv X pins σ H s) (g:fi H a y o) (ry:RelV y u) (h:∀ s',Inv X pins σ H s'->Q (.bool (!o.isSome)) s'):
  wpAny (model X.prog X.w) A (compareOp .NotIn u (.ref a)) Q E s:=by
 rcases g with ⟨kvs,k,e,ey,l⟩ | ⟨kvs,k,b,e,ey,eb,l⟩
 ·subst ey
  obtain ⟨z,hd,vs,rel,dd⟩:=lU I.hok e
  refine wpAny_notIn_of (jB ry) hd dd.mapOf ?_
  rw [<- (rel.val k).BY,<- l]
  exact h _ (I.tok _)
 ·subst ey
  cases (show u=Value.ref b from ry)
  obtain ⟨z,hd,xs,rel,dd⟩:=pM I.hok e
  refine wpAny_notIn_heap (tupleKind_room_in1 hu) (dY I.hok eb) hd dd ?_
  have q:=(rel.val k).BY
  rw [Option.isSome_map] at q
  rw [<- q,<- l]
  exact h _ (I.tok _)
theorem jL {ob:HO} (I:Inv X pins σ H s) (mu:CZ (H a)) (hs:Heap.SameBut a s.heap h') (he:∃ q,h'.get? a=some q) (new:b_ X.prog X.w (upd H a ob) h' a ob):
  Inv X pins σ (upd H a ob) {s with heap:=h',toks:=t'}:=
 I.write (x:=a) (e:=a) mu (.inl rfl) (fun b q hb z=>(hs.2 b hb).trans z) he new
theorem xZ {kvs:List (Key×V)} (z:kvs.length<=sizeLine) (hd:(a==sysModules)=false) (rel:KV kvs vs) (dd:h'.DictOf (ck P w) a vs):
  b_ P w H' h' a (.dK kvs):=⟨z,hd,vs,rel,dd⟩
theorem tW {Q:Unit->Shared->Prop} (hu:A.units+1 < cLine) (I:Inv X pins σ H s) (g:Df H a y v H') (ry:RelV y u) (rv:RelV v r) (h:∀ s',Inv X pins σ H' s'->Q () s'):
  wpAny (model X.prog X.w) A (setItem (.ref a) u r) Q E s:=by
 rcases g with ⟨kvs,k,e,ey,l,eH⟩ | ⟨kvs,k,b,e,ey,eb,l,eH⟩
 ·subst ey eH
  obtain ⟨z,hd,vs,rel,dd⟩:=KC I.hok e
  have hz:vs.length<=sizeLine:=by rw [<- rel.length];exact z
  have hl:(putK kvs k v).length<=sizeLine:=by have:=cR kvs k v;omega
  refine wpAny_setItem_pairs (hsz:=hz) (jB ry) dd fun h' rf hs=>h _ ?_
  have he:∃ q,h'.get? a=some q:=let ⟨q,_,_,hq,_⟩:=rf;⟨q,hq⟩
  exact jL I (by rw [e];exact True.intro) hs he (xZ hl hd (rel.put k rv) rf)
 ·subst ey eH
  cases (show u=Value.ref b from ry)
  obtain ⟨z,hd,xs,rel,dd⟩:=KG I.hok e
  have hz:xs.length<=sizeLine:=by rw [<- Paired.length rel];exact z
  have hl:(putK kvs k v).length<=sizeLine:=by have:=cR kvs k v;omega
  refine wpAny_setItem_heap (hsz:=hz) (tupleKind_room_in1 hu) (dY I.hok eb) dd fun h' rf hs=>h _ ?_
  obtain ⟨q,es,ep,hq,h2,h3,h4,_,h5⟩:=rf
  refine jL I (by rw [e];exact True.intro) hs ⟨q,hq⟩ ⟨hl,hd,_,(rel.put k eb rv).keeps fun c ys ec=>?_,q,es,ep,hq,h2,h3,h4,h5⟩
  refine ec.upd fun u hu z=>?_
  subst z
  rcases ec with ec | ⟨_,ec⟩<;>(rw [e] at ec;cases ec)
end
section
variable {kvs:List (Key×V)} {k:Key}
theorem Rf (I:Inv X pins σ H s) (e:Rd H a (.dK kvs)) (h:∀ t s',Inv X pins σ H s'->Q (.int kvs.length t) s'):wpAny (model X.prog X.w) A (call (.builtin "len") [.ref a]) Q E s:=by
 obtain ⟨z,hd,vs,rel,dd⟩:=lU I.hok e
 refine call_len_dict hd dd (by rw [<- rel.length];rw [QL] at z;omega) ?_
 rw [<- rel.length]
 exact h _ _ (I.tok _)
end
def E4 (i:Expr):Prop:=∀ ov iv,subscripted i false ov iv=operate [ov,iv] (getItem ov iv)
theorem sG {value slice:Expr} {pos:Pos} {id:String}
  (hl:typeLookup (.type T) "__getitem__"=pure (some (.builtin id))) (hs:E4 slice)
  (h:wpAny (model prog w) A (eval value env) (fun o s₁=>wpAny (model prog w) A (eval slice env) (fun i s₂=>s₂.TypeIs o T/\wpAny (model prog w) A (getItem o i) Q E s₂) E s₁) E s):
  wpAny (model prog w) A (eval (.Subscript value slice pos) env) Q E s:=by
 refine Subscript_ (wpAny_mono h (fun o s₁ h₁=>wpAny_mono h₁ (fun i s₂ h₂=>?_) fun _ _ x=>x) fun _ _ x=>x)
 obtain ⟨hT,h₂⟩:=h₂
 unfold subscriptTail
 refine QT ?_
 rw [getitemInPython_of_ne hT.not_modules]
 refine QT (wpAny_specialOf hT hl ?_)
 have fin:wpAny (model prog w) A (subscripted slice false o i) (fun r s₃=>wpAny (model prog w) A (letTemporaryGo value o r >>=fun _=>pure r) Q E s₃) E s₂:=by
  rw [hs o i]
  exact wpAny_operating (wpAny_mono h₂ (fun r s₃ h₃=>QT (wpAny_letTemporaryGo (QU h₃))) fun _ _ x=>x)
 first
  | exact QU (QT fin)
  | exact QT (QU (QT fin))
  | exact QT fin
theorem pK {y:V} {o:Option V} (I:Inv X pins σ H s) (g:fi H a y o):s.TypeIs (.ref a) "dict":=by
 rcases g with ⟨kvs,k,e,_,_⟩ | ⟨kvs,k,b,e,_,_,_⟩
 ·obtain ⟨_,_,vs,_,dd⟩:=lU I.hok e
  exact dd.typeIs
 ·obtain ⟨_,_,xs,_,dd⟩:=pM I.hok e
  exact dd.typeIs
def KH (td ty:TE):TE:=fun σ H Q=>td σ H fun x H1=>ty σ H1 fun y H2=>∃ a v,x=.ref a/\fi H2 a y (some v)/\Q v H2
def KI (td ty tv:TE):TS:=fun D σ H=>tv σ H fun v H1=>td σ H1 fun x H2=>ty σ H2 fun y H3=>∃ a H4,x=.ref a/\Df H3 a y v H4/\D.nx σ H4
section
variable {o i value:Expr} {pos pos' za:Pos} {td ty tv:TE}
theorem Rg (hu:X.A.units+1 < cLine) (ho:PE X o td) (hi:PE X i ty) (hs:E4 i):PE X (.Subscript o i pos) (KH td ty):=by
 intro pins s σ H Q I h
 refine sG PySem.F.slot_dict_getitem.lookup hs (au (ho pins s σ H _ I h) fun u s1 ⟨x,H1,I1,rx,q1⟩=>au (hi pins s1 σ H1 _ I1 q1) fun iv s2 ⟨y,H2,I2,ry,a,v,ex,g,q2⟩=>?_)
 subst ex
 obtain rfl:u=Value.ref a:=rx
 exact ⟨pK I2 g,uG hu I2 g ry fun w' s3 I3 nq=>⟨v,H2,I3,nq,q2⟩⟩
theorem Rh (hu:X.A.units+1 < cLine) (ho:PE X o td) (hi:PE X i ty) (hv:PE X value tv) (hs:swapsWith value (some (.Subscript o i pos')) pos.line X.env=pure false):
  PS X (.Assign [.Subscript o i pos'] value pos) (KI td ty tv):=by
 intro pins s σ H D I h
 refine wpAny_Assign_Subscript (au (hv pins s σ H _ I h) fun r s1 ⟨v,H1,I1,rv,q1⟩=>au (ho pins s1 σ H1 _ I1 q1) fun u s2 ⟨x,H2,I2,rx,q2⟩=>au (hi pins s2 σ H2 _ I2 q2) fun iv s3 ⟨y,H3,I3,ry,a,H4,ex,g,q3⟩=>?_) hs
 subst ex
 obtain rfl:u=Value.ref a:=rx
 exact tW hu I3 g ry rv fun s4 I4=>⟨σ,H4,I4,q3⟩
end
theorem yE (h:Heap) (hb:sysModules < h.objs.size):b_ P w H (h.push {cls:=.type "dict",data:=.dict #[]}) h.objs.size (.dK []):=
 ⟨Nat.zero_le _,beq_eq_false_iff_ne.mpr (Ne.symm (Nat.ne_of_lt hb)),[],.nil,Heap.DictOf.new h⟩
theorem vU (h:Heap) (hb:sysModules < h.objs.size):b_ P w H (h.push {cls:=.type "dict",data:=.dict #[]}) h.objs.size (.dT []):=
 ⟨Nat.zero_le _,beq_eq_false_iff_ne.mpr (Ne.symm (Nat.ne_of_lt hb)),[],.nil,_,#[],0,Qd _ rfl,⟨rfl,rfl,rfl⟩,rfl,rfl,List.nodup_nil⟩
def KJ:TE:=fun _ H Q=>∀ p,H p=none->Q (.ref p) (upd H p (.dK []))
def KL:TE:=fun _ H Q=>∀ p,H p=none->Q (.ref p) (upd H p (.dT []))
section
variable {pos:Pos}
theorem xN:PE X (.Dict [] [] pos) KJ:=fun pins s σ H Q I h=>
 wpAny_Dict_empty ⟨.ref s.heap.objs.size,_,I.laid (a:=s.heap.objs.size) (o:=.dK []) (t':=s.toks) (fun _ _ q=>Qc _ q) (Qy _) (yE s.heap I.big),rfl,h _ (I.hok.fresh (Qy _))⟩
theorem vL:PE X (.Dict [] [] pos) KL:=fun pins s σ H Q I h=>
 wpAny_Dict_empty ⟨.ref s.heap.objs.size,_,I.laid (a:=s.heap.objs.size) (o:=.dT []) (t':=s.toks) (fun _ _ q=>Qc _ q) (Qy _) (vU s.heap I.big),rfl,h _ (I.hok.fresh (Qy _))⟩
end
section
variable {y d:V} {r:Value} {o:Option V}
end
section
variable {o f:Expr} {td ty tx:TE}
end
section
variable {kvs:List (Key×V)}
end
section
variable {y:V}
end
end L2
namespace KN
open PySem PySem.W PySem.Calls PyProof.Rows
theorem jH {P:Params}:∀ (ns:List Int) (vs:List Value),WellAll P h vs (ns.map WData.int)->IntsAre vs ns:=by
 intro ns
 induction ns with
 | nil=>
  intro vs w
  rw [List.map_nil] at w
  cases w
  exact .nil
 | cons n ns ih=>
  intro vs w
  rw [List.map_cons] at w
  cases w with
  | cons a b=>
   cases a
   exact .cons _ _ (ih _ b)
theorem uP {l:OpenLaw} (hn:l.most=some n) {P:Params} {args:List WData} {vals:List Value}
  (E5:l.row.toRowW.claim.pre args=true) (G3:WellAll P h vals args):
  ∃ a vs ns,vals=[Value.ref a]/\args=[WData.list (ns.map WData.int)]/\h.get? a=some {cls:=.type "list",data:=.seq vs.toArray}/\IntsAre vs ns/\ns.length<=n:=by
 have Ri:WShape.hasAll [] args [.list .int]=true:=(pre_splitW E5).1
 have hc:l.pre.holds [] {args:=args}=true:=(pre_splitW E5).2
 obtain ⟨d,r,rfl,h1,h2⟩:=hasAllW_cons Ri
 obtain rfl:=hasAllW_nil h2
 obtain ⟨xs,rfl,h3⟩:=hasW_list h1
 obtain ⟨ns,rfl⟩:=items_int h3
 have fg:ns.length<=n:=by
  unfold OpenLaw.pre at hc
  have h4:(WTm.not (.lt (.lit (.int (n:Int))) (.len (.arg 0)))).holds [] {args:=[.list (ns.map .int)]}=true:=by
   have h4:=(holds_andW hc).1
   rw [hn] at h4
   exact h4
  have h5:=condW_of h4 (w_not (w_lt w_lit (w_len_list (w_arg rfl))))
  rw [Ql] at h5
  refine Nat.le_of_not_lt fun q=>?_
  have q':(n:Int) < ((ns.length:Nat):Int):=by omega
  first
   | (rw [Qv q'] at h5;exact absurd h5 (by decide))
   | (simp at h5;omega)
 cases G3 with
 | cons w1 w2=>
  cases w2
  cases w1 with
  | list ho rh=>exact ⟨_,_,ns,rfl,rfl,ho,jH ns _ rh,fg⟩
theorem vI (l:OpenLaw) (args:List WData):l.row.toRowW.claim.post args (.bool true) args=true:=
 postW_of (r:=l.row.toRowW) (X:=(true==true))
  (show WShape.has [] (.bool true) .bool=true by first | rfl | decide | simp [WShape.has,WShape.arms,WShape.armsAll])
  (show (WTm.eq .res (.lit (.bool true))).value [] {args:=args,res:=some (.bool true),after:=args}=some (.bool (true==true)) from w_eq_bool (w_res rfl) w_lit) rfl
theorem pS {l:OpenLaw} {q:Program} {loose:List Str} {YP:World->Heap->Prop} {d:DefRec}
  (hn:l.most=some n) (G4:d.params.defaults=[])
  (call:∀ (w:World) (s₀ s₁:Shared) (mg mb:Str->Option Value) (fa:Addr) (o:Obj) (pm cd doc:Value) (a:Addr) (vs:List Value) (ns:List Int),
   Ground q loose [] XP w s₀ mg mb s₁.heap->YP w s₁.heap->
   s₁.heap.get? fa=some o->o.data=.func (docDef d.name d.params d.body d.scope pm cd doc)->s₁.heap.CodeRec cd d.name->mg d.name=some (.ref fa)->
   s₁.heap.get? a=some {cls:=.type "list",data:=.seq vs.toArray}->IntsAre vs ns->ns.length<=n->s₁.gens=#[]->
   codeAny (model l.prog w) callerA (.call (.ref fa) ⟨[.ref a],[]⟩) (fun r s'=>r=.ok (.ret (.bool true))/\OldK s₁.heap s'.heap/\s'.os=s₁.os/\AllBare s'.gens) s₁):
  WalkO q loose XP YP l.row.toRowW d [] (fun f vs=>PySem.call f vs):=by
 intro w s₀ s₁ mg mb G Y fa o pm cd doc dV kV ho hd jc hD BZ hg args vals as E5 W7 W8 G3 W9
 obtain rfl:dV=.none:=Dflts.none hD G4
 obtain rfl:kV=.none:=Dflts.noKw hD
 obtain ⟨a,vs,ns,rfl,rfl,G5,G7,fg⟩:=uP hn E5 G3
 refine enter_call (codeAny_mono (call w s₀ s₁ mg mb fa o pm cd doc a vs ns G Y ho (fd_plain hd) jc BZ G5 G7 fg hg) fun r s' hq=>?_)
 obtain ⟨rfl,h2,h3,h4⟩:=hq
 exact ⟨.inl ⟨.bool true,.bool true,[],rfl,fun _=>rfl,.bool true,vI l _,fun _=>⟨List.Pairwise.nil,fun _ hm=>(nomatch hm)⟩⟩,h2,h3,h4⟩
section
variable {K:Frag}
end
end KN
namespace L2
open PySem PySem.Spec PyProof.Rows
theorem lX:∀ {vs:List Value} {ns:List Int},IntsAre vs ns->a_ (ns.map V.int) vs
 | _,_,.nil=>.nil
 | _,_,.cons n t h=>.cons ⟨t,rfl⟩ (lX h)
def inClass (s:Stmt) (j:Nat):Stmt:=match s with
 | .ClassDef _ _ _ body _ _ _ _ _ _ _=>body.getD j (.Pass ⟨0,0,0,0⟩)
 | _=>.Pass ⟨0,0,0,0⟩
def rj (s:Stmt):Arguments:=match s with
 | .FunctionDef _ a _ _ _ _ _ _ _ _=>a
 | _=>{posonlyargs:=[],args:=[],vararg:=none,kwonlyargs:=[],kw_defaults:=[],kwarg:=none,defaults:=[]}
def jr (s:Stmt):List Stmt:=match s with
 | .FunctionDef _ _ b _ _ _ _ _ _ _=>b
 | _=>[]
def be (s:Stmt):Scope:=match s with
 | .FunctionDef _ _ _ _ _ _ sc _ _ _=>sc
 | _=>{kind:=.function,names:=[],isGenerator:=false,isCoroutine:=false}
abbrev x_:vo:=fun _ _ _ _ _ _=>False
abbrev E0:XK:=fun _ _ _=>False
theorem KO:C9 x_ X E0:=fun _ _ _ _ _ _ _ h=>h.elim
structure Aj (K:Q0) (x qual:Str) (st:Stmt) (f:Addr) (fd:FuncData):Prop where
 ex:∃ (oc:Value) (od:Option Addr) (kV doc pm:Value) (an:Option Addr) (ay ct:Value) (ky:Array (Option Value)),
  fd=PySem.W.fnOf x qual (rj st) (jr st) (be st) .none kV doc pm an ay ct/\K.lookup f=some ⟨oc,od,.func fd,ky⟩/\PySem.W.codeIn K ay qual=true
 kp:PySem.W.keepIn K (.ref f)=true
section
variable {K:Q0}
theorem Aj.ok {qual:Str} {st:Stmt} {f:Addr} {k:Nat} {sp:Sp} (F:Aj K x qual st f fd) (S:ef N ps (be st)) (len:∀ vs H Q E,sp vs H Q E->vs.length=ps.length)
  (vp:∀ (ay:Value) (A:Around) (outer:List Env) (s:Shared) (H:Hp) (vs:List V) (Q:VK) (E:XK),fm k (A.deeper (envOfC qual (be st) s.heap.objs.size f ay))->sp vs H Q E->
   ∃ t,nj (xw x_ P w K mg base N qual (be st) f ay A outer s H E).yx (jr st) t/\t {nx:=fun _ H'=>Q .ai H',rt:=Q} (start N vs) H):qt P w K mg base x_ (k+1) f fd ps sp:=by
 obtain ⟨oc,od,kV,doc,pm,an,ay,ct,ky,rfl,lk,jc⟩:=F.ex
 refine Ku lk jc S len fun A outer s H vs Q E hr xx=>?_
 obtain ⟨t,h,q⟩:=vp ay A outer s H vs Q E hr xx
 exact ⟨t,h.yx,q⟩
theorem Aj.binds {qual:Str} {st:Stmt} {f:Addr} (F:Aj K x qual st f fd)
  (h:∀ (kV doc pm:Value) (an:Option Addr) (ay ct:Value) (us:List Value),us.length=ps.length->bindArgs (PySem.W.fnOf x qual (rj st) (jr st) (be st) .none kV doc pm an ay ct) ⟨us,[]⟩=pure (ps.zip us)):Binds K fd ps []:=by
 obtain ⟨oc,od,kV,doc,pm,an,ay,ct,ky,rfl,lk,jc⟩:=F.ex
 exact .all (h kV doc pm an ay ct)
theorem Rj {qual:Str} {st:Stmt} {f:Addr} {oc:Value} {od an:Option Addr} {ky:Array (Option Value)} {kV doc pm ay ct:Value} (l:K.lookup f=some ⟨oc,od,.func (PySem.W.fnOf x qual (rj st) (jr st) (be st) .none kV doc pm an ay ct),ky⟩)
  (c:PySem.W.codeIn K ay qual=true) (k:PySem.W.keepIn K (.ref f)=true):Aj K x qual st f (PySem.W.fnOf x qual (rj st) (jr st) (be st) .none kV doc pm an ay ct):=⟨⟨oc,od,kV,doc,pm,an,ay,ct,ky,rfl,l,c⟩,k⟩
end
theorem aX {k:Nat} (hr:fm k A):A.units+1 < cLine:=Nat.lt_of_le_of_lt (Nat.add_le_add_left (by decide:1<=64) _) hr.units
theorem Rk (h:n<=1000):n < sizeLine:=Nat.lt_of_le_of_lt h (by decide)
theorem mh {A B:Prop} (h:B):if false=true then A else B:=by
 rw [if_neg Bool.false_ne_true]
 exact h
theorem yc {A B:Prop} (h:A):if true=true then A else B:=by
 rw [if_pos rfl]
 exact h
theorem E6 {c A B:Prop} [Decidable c] (h1:c->A) (h2:¬c->B):if c then A else B:=by
 by_cases h:c
 ·rw [if_pos h]
  exact h1 h
 ·rw [if_neg h]
  exact h2 h
def aa (H H':Hp):Prop:=∀ b o,H b=some o->H' b=some o
theorem aa.refl (H:Hp):aa H H:=fun _ _ h=>h
theorem aa.trans {H1 H2:Hp} (a:aa H H1) (b:aa H1 H2):aa H H2:=fun c o h=>b c o (a c o h)
theorem aa.free (e:aa H H') (h:H' l=Option.none):H l=Option.none:=by
 cases q:H l with
 | none=>rfl
 | some o=>
  rw [e l o q] at h
  cases h
section
variable {κ:Type} [DecidableEq κ]
theorem yD {kvs:List (κ×V)} {k:κ} (h:br kvs k=none):¬k∈kvs.map (·.1):=by
 intro m
 obtain ⟨p,hp,e⟩:=List.mem_map.mp m
 have q:(kvs.any fun kv=>decide (kv.1=k))=true:=List.any_eq_true.mpr ⟨p,hp,Qv e⟩
 rw [bW,h] at q
 exact absurd q (by simp)
theorem jO {kvs:List (κ×V)} {k:κ} {v:V} (h:br kvs k=some v):k∈kvs.map (·.1):=by
 have q:(kvs.any fun kv=>decide (kv.1=k))=true:=by
  rw [bW,h]
  all_goals rfl
 obtain ⟨p,hp,e⟩:=List.any_eq_true.mp q
 exact List.mem_map.mpr ⟨p,hp,Qt e⟩
theorem tG:∀ {l:List κ} {k:κ},l.Nodup->¬k∈l->(l++[k]).Nodup
 | [],k,_,_=>by simp
 | a::r,k,h,hk=>by
  obtain ⟨h1,h2⟩:=List.nodup_cons.mp h
  show (a::(r++[k])).Nodup
  refine List.nodup_cons.mpr ⟨fun m=>?_,tG h2 fun m=>hk (Qp.mpr (Or.inr m))⟩
  rcases List.mem_append.mp m with q | q
  ·exact h1 q
  ·exact hk (Qp.mpr (Or.inl (List.mem_singleton.mp q).symm))
theorem sI {kvs:List (κ×V)} {k:κ} (v:V) (hn:(kvs.map (·.1)).Nodup) (h:br kvs k=none):((putK kvs k v).map (·.1)).Nodup:=by
 rw [cB v h,Qm]
 exact tG hn (yD h)
end
theorem hX {env:Env}:∀ (names:List (Str×NameKind)) (acc:List (Str×Addr)),
  (∀ y∈names,y.2=.free->∃ c,env.cells.lookup y.1=some c)->(∀ x c,acc.lookup x=some c->env.cells.lookup x=some c)->
  ∃ cl,(forIn names acc fun (x:Str×NameKind) cs=>(if (x.2==NameKind.free)=true then (do let c <- cellOf env x.1;pure (ForInStep.yield ((x.1,c)::cs))) else pure (ForInStep.yield cs):Sem (ForInStep (List (Str×Addr)))))=pure cl/\
   (∀ x c,cl.lookup x=some c->env.cells.lookup x=some c)/\(∀ y∈names,y.2=.free->∃ c,cl.lookup y.1=some c)/\(∀ x c,acc.lookup x=some c->∃ c,cl.lookup x=some c)
 | [],acc,_,ha=>⟨acc,rfl,ha,(fun _ h=>nomatch h),fun x c h=>⟨c,h⟩⟩
 | (n,k)::r,acc,h,ha=>by
  rw [List.forIn_cons]
  by_cases hk:k=.free
  ·obtain ⟨c,hc⟩:=h (n,k) List.mem_cons_self hk
   have gw:cellOf env n=pure c:=by unfold cellOf;rw [show env.cells.lookup n=some c from hc]
   have Rl:∀ x d,((n,c)::acc).lookup x=some d->env.cells.lookup x=some d:=fun x d hx=>by
    rw [List.lookup_cons] at hx
    cases e:x==n with
    | true=>rw [e] at hx;cases hx;rw [eq_of_beq e];exact hc
    | false=>rw [e] at hx;exact ha x d hx
   obtain ⟨cl,e,h1,h2,h3⟩:=hX r ((n,c)::acc) (fun y hy=>h y (Qh _ hy)) Rl
   refine ⟨cl,?_,h1,fun y hy hf=>?_,fun x d hx=>?_⟩
   ·have hk':(k==NameKind.free)=true:=by rw [hk];rfl
    simp only [hk',if_true,gw,pure_bind]
    exact e
   ·rcases Qp.mp hy with z | hy
    ·rw [z];exact h3 n c (by simp [List.lookup_cons])
    ·exact h2 y hy hf
   ·cases e2:x==n with
    | true=>exact h3 x c (by simp [List.lookup_cons,e2])
    | false=>exact h3 x d (by simp [List.lookup_cons,e2,hx])
  ·have hk':(k==NameKind.free)=false:=by simpa using hk
   obtain ⟨cl,e,h1,h2,h3⟩:=hX r acc (fun y hy=>h y (Qh _ hy)) ha
   refine ⟨cl,?_,h1,fun y hy hf=>?_,h3⟩
   ·simp only [hk',Bool.false_eq_true,if_false,pure_bind]
    exact e
   ·rcases Qp.mp hy with z | hy
    ·rw [z] at hf;exact absurd hf hk
    ·exact h2 y hy hf
theorem qC (h:∀ y∈sc.names,y.2=.free->∃ c,env.cells.lookup y.1=some c):
  ∃ cl,closureFor sc env=pure cl/\(∀ x c,cl.lookup x=some c->env.cells.lookup x=some c)/\(∀ y∈sc.names,y.2=.free->∃ c,cl.lookup y.1=some c):=by
 obtain ⟨cl,e,h1,h2,_⟩:=hX (env:=env) sc.names [] h (fun _ _ h=>nomatch h)
 refine ⟨cl,?_,h1,h2⟩
 unfold closureFor
 have e':(forIn sc.names ([]:List (Str×Addr)) fun (x:Str×NameKind) cs=>(if (x.2==NameKind.free)=true then (do let c <- cellOf env x.1;pure (ForInStep.yield ((x.1,c)::cs))) else pure (ForInStep.yield cs):Sem (ForInStep (List (Str×Addr))))) >>=(fun cs=>(pure cs:Sem _))=pure cl:=by rw [e];rfl
 exact e'
theorem cX {env:Env}:∀ {names:List (Str×NameKind)} {x:Str},names.lookup x=some .free->
  (names.map fun (n,k)=>if (k==NameKind.free&&env.scope.kind==.function&&env.kindOf n==some .cell) then (n,NameKind.cell) else (n,k)).lookup x=some .cell\/
  (names.map fun (n,k)=>if (k==NameKind.free&&env.scope.kind==.function&&env.kindOf n==some .cell) then (n,NameKind.cell) else (n,k)).lookup x=some .free
 | [],_,h=>by simp at h
 | (n,k)::r,x,h=>by
  have ih:=@cX env r x
  show List.lookup x ((if (k==NameKind.free&&env.scope.kind==.function&&env.kindOf n==some .cell)=true then (n,NameKind.cell) else (n,k))::_)=_\/List.lookup x ((if (k==NameKind.free&&env.scope.kind==.function&&env.kindOf n==some .cell)=true then (n,NameKind.cell) else (n,k))::_)=_
  cases hx:x==n with
  | true=>
   simp only [List.lookup_cons,hx] at h
   cases h
   by_cases hc:(NameKind.free==NameKind.free&&env.scope.kind==.function&&env.kindOf n==some .cell)=true
   ·rw [if_pos hc];simp [List.lookup_cons,hx]
   ·rw [if_neg hc];simp [List.lookup_cons,hx]
  | false=>
   simp only [List.lookup_cons,hx] at h
   by_cases hc:(k==NameKind.free&&env.scope.kind==.function&&env.kindOf n==some .cell)=true
   ·rw [if_pos hc];simp only [List.lookup_cons,hx];exact ih h
   ·rw [if_neg hc];simp only [List.lookup_cons,hx];exact ih h
theorem jD {names:List (Str×NameKind)} {k:NameKind}
  (h:(names.map fun (n,k)=>if (k==NameKind.free&&env.scope.kind==.function&&env.kindOf n==some .cell) then (n,NameKind.cell) else (n,k)).lookup x=some k) (hk:k=.cell\/k=.free) (hc:∀ y∈names,y.2≠.cell):(x,NameKind.free)∈names:=by
 have hm:=PySem.mem_of_lookup h
 obtain ⟨⟨n,k'⟩,h1,h2⟩:=List.mem_map.mp hm
 dsimp only at h2
 split at h2
 ·next hh=>
  cases h2
  have:k'=.free:=by
   simp only [Bool.and_eq_true,beq_iff_eq] at hh
   exact hh.1.1
  rw [<- this];exact h1
 ·cases h2
  rcases hk with z | z
  ·exact absurd z (hc _ h1)
  ·rw [<- z];exact h1
abbrev dh (X:Cx) (N':List Str) (sc:Scope) (cl:List (Str×Addr)) (C:Addr) (s3:Shared) (H0:Hp) (fp:List Addr) (pn:List (Addr×Obj)):Cx where
 prog:=X.prog
 w:=X.w
 K:=X.K
 mg:=X.mg
 base:=X.base
 A:=X.A
 N:=N'
 s₀:=s3
 H₀:=H0
 env:=compEnvC sc cl C X.env
 outer:=X.stack
 stack:=X.stack
 ex:=fp
 fn:=fun _=>false
 calm:=X.calm
 pn:=pn
 xe:=fun _ _=>False
structure oj (B0:Scope) (oN:List Str) (sc:Scope) (own:List Str) (idx:List Nat) (N':List Str):Prop where
 kind:sc.kind=.function
 cell:∀ y∈sc.names,y.2≠.cell
 names:∀ y∈sc.names,y.2=.local->sc.names.lookup y.1=some .local
 free:∀ y∈sc.names,y.2=.free->(B0.names.lookup y.1=some .cell\/B0.names.lookup y.1=some .free)
 seen:∀ j∈idx,sc.names.lookup (oN.getD j "")=some .free/\j < oN.length
 nn:N'=own++idx.map (fun j=>oN.getD j "")
def rm (own:List Str) (idx:List Nat) (σ:St):St:=List.replicate own.length none++idx.map fun j=>(σ[j]?).join
section
variable {H2:Hp} {s2:Shared}
theorem jS {h4:Heap} {ob:Obj} {ho:HO} {t4:Nat} (S:oj X.env.scope X.N sc own idx N') (I:Inv X pins σ H2 s2) (hf:∀ b∈fp,pe X pins H2 b) (rn:∀ b∈fp,∃ o,s2.heap.get? b=some o)
  (c1:∀ x c,cl.lookup x=some c->X.env.cells.lookup x=some c) (c2:∀ y∈sc.names,y.2=.free->∃ c,cl.lookup y.1=some c) (vq:ob.isFreed=false)
  (hD:∀ (H:Hp) (h:Heap),h.get? s2.heap.objs.size=some ob->b_ X.prog X.w H h s2.heap.objs.size ho)
  (ns:h4.Ns (s2.heap.push ob).objs.size (fun x=>([]:List (Str×Value)).reverse.lookup x)) (sb:∀ b o,(s2.heap.push ob).get? b=some o->h4.get? b=some o):
  Inv (dh X N' sc cl (s2.heap.push ob).objs.size {s2 with heap:=s2.heap.push ob} (upd H2 s2.heap.objs.size ho) fp (X.pn++pins)) [] (rm own idx σ) (upd H2 s2.heap.objs.size ho) {s2 with heap:=h4,toks:=t4}:=by
 have hsz:(s2.heap.push ob).objs.size=s2.heap.objs.size+1:=Heap.size_push _ _
 have W_:H2 s2.heap.objs.size=none:=I.hok.fresh (Qy _)
 have up:∀ b o,s2.heap.get? b=some o->(s2.heap.push ob).get? b=some o:=fun b o e=>Qc _ e
 have E7:∀ b o,s2.heap.get? b=some o->h4.get? b=some o:=fun b o e=>sb b o (up b o e)
 have Rm:∀ b o,s2.heap.get? b=some o->b≠s2.heap.objs.size:=fun b o e=>Nat.ne_of_lt (Qz e)
 have nh:∀ b o,s2.heap.get? b=some o->H2 b=none->upd H2 s2.heap.objs.size ho b=none:=fun b o e n=>by rw [aF (Rm b o e)];exact n
 have Rn:∀ b∈kj X.stack,∃ o,s2.heap.get? b=some o:=fun b hb=>by
  obtain ⟨_,o,ho,_⟩:=I.stack.mem hb
  exact ⟨o,ho⟩
 have Ro:∀ x c,cl.lookup x=some c->∃ o,s2.heap.get? c=some o:=fun x c e=>by
  obtain ⟨v,o,ho,_⟩:=I.cell x c (c1 x c e)
  exact ⟨o,ho⟩
 have eD:(s2.heap.push ob).get? s2.heap.objs.size=some ob:=Qd s2.heap vq
 have Rp:e_ X.prog X.w (upd H2 s2.heap.objs.size ho) h4:=I.hok.laid E7 (Qy _) (hD _ _ (sb _ _ eD))
 refine ⟨⟨I.ok.mod,S.kind,I.ok.glob,I.ok.blt,Qy _,fun x y c h1 h2=>I.ok.inj x y c (c1 x c h1) (c1 y c h2),fun x hx=>?_,(fun x c hx _=>nomatch hx),I.ok.hd,I.ok.frames,.inl rfl,fun b hb=>⟨?_,fun x c e=>?_⟩,fun b o e=>⟨?_,?_⟩,?_,fun b o e hb=>?_,fun b hb=>?_,?_,fun b hb=>?_⟩,
  rfl,I.bare,Un.kept sb,⟨_,ns,fun i x v h1 h2 h3=>?_⟩,fun x c e=>?_,?_,fun x c e=>?_,fun p hp=>?_,Rp,?_⟩
 ·rcases hx with hx | hx
  ·exact c2 (x,.free) (jD hx (.inl rfl) S.cell) rfl
  ·exact c2 (x,.free) (jD hx (.inr rfl) S.cell) rfl
 ·obtain ⟨o,e⟩:=rn b hb
  have:=Qz e
  show b≠(s2.heap.push ob).objs.size
  rw [hsz];exact Nat.ne_of_lt (Nat.lt_succ_of_lt this)
 ·exact (hf b hb).2.2.2.2.1 x c (c1 x c e)
 ·exact up b o (I.bk b o e)
 ·exact nh b o (I.bk b o e) (I.bs b o e).2
 ·show X.base.objs.size<=(s2.heap.push ob).objs.size
  have:=Nat.le_trans I.ok.yu I.sz
  rw [hsz];omega
 ·obtain ⟨f0,f1,f2,f3,f4,f5⟩:=hf b hb
  rcases f3 with z | z
  ·exact I.ok.C1 b o e z
  ·exact absurd (Qz e) (Nat.not_lt.mpr (Nat.le_trans I.ok.yu z))
 ·obtain ⟨f0,f1,f2,f3,f4,f5⟩:=hf b hb
  intro z
  rcases Qp.mp (I.A2 b z) with z | z
  ·exact f1 z
  ·exact f2 z
 ·exact Heap.FunFrames.of_keeps (fun b o e _=>⟨o,up b o e,rfl⟩) I.stack
 ·obtain ⟨o,e⟩:=Rn b hb
  exact nh b o e (I.J0 b hb)
 ·unfold rm at h2
  by_cases hi:i < own.length
  ·rw [Qg (by simpa using hi),List.getElem?_replicate,if_pos hi] at h2
   cases h2
  ·rw [List.getElem?_append_right (by simpa using hi),List.length_replicate,Qq] at h2
   have Ak:N'[i]? =some x:=h1
   rw [S.nn,List.getElem?_append_right (by simpa using hi),Qq] at Ak
   cases ej:idx[i - own.length]? with
   | none=>rw [ej] at Ak;cases Ak
   | some j=>
    rw [ej] at Ak h2
    obtain ⟨E8,vn⟩:=S.seen j (QC ej)
    have hx:X.N[j]? =some x:=by
     have:X.N.getD j ""=x:=QD Ak
     rw [<- this,Qb,Qa vn];rfl
    have hv:σ[j]? =some (some v):=by
     have Al:(σ[j]?).join=some v:=QD h2
     cases q:σ[j]? with
     | none=>rw [q] at Al;cases Al
     | some w=>rw [q] at Al;exact congrArg some Al
    have KP:sc.names.lookup x=some .free:=by
     have:X.N.getD j ""=x:=QD Ak
     rw [<- this];exact E8
    have i_:(x,NameKind.free)∈sc.names:=PySem.mem_of_lookup KP
    obtain ⟨m,hn,hl⟩:=I.loc
    have Rq:BI X.env.scope x:=by
     rcases S.free _ i_ rfl with z | z
     ·exact .inr (.inl z)
     ·exact .inr (.inr z)
    obtain ⟨u,r,lk⟩:=hl j x v hx hv Rq
    refine ⟨u,r,?_⟩
    rcases lk with ⟨k,_⟩ | ⟨k,c,e,z⟩
    ·rcases S.free _ i_ rfl with q | q
     ·have q':X.env.kindOf x=some .cell:=q
      rw [q'] at k;cases k
     ·have q':X.env.kindOf x=some .free:=q
      rw [q'] at k;cases k
    ·obtain ⟨c',gw⟩:=c2 (x,.free) i_ rfl
     have e':=c1 x c' gw
     rw [e] at e'
     cases e'
     refine .inr ⟨?_,c,gw,?_⟩
     ·rcases cX (env:=X.env) KP with q | q
      ·exact .inl q
      ·exact .inr q
     ·obtain ⟨o,vd,hd⟩:=z
      exact ⟨o,E7 c o vd,hd⟩
 ·obtain ⟨v,o,vd,hd⟩:=I.cell x c (c1 x c e)
  exact ⟨v,o,E7 c o vd,hd⟩
 ·show upd H2 s2.heap.objs.size ho (s2.heap.push ob).objs.size=none
  rw [aF (by rw [hsz];exact Nat.ne_of_gt (Nat.lt_succ_self _))]
  exact I.hok.fresh (by rw [hsz];omega)
 ·obtain ⟨o,e1⟩:=Ro x c e
  exact nh c o e1 (I.xg x c (c1 x c e))
 ·have E9:p∈X.pn++pins:=by simpa using hp
  obtain ⟨e,n,ne,nf,d⟩:=I.pin p E9
  refine ⟨E7 _ _ e,nh _ _ e n,?_,fun z=>?_,d⟩
  ·have:=Qz e
   show p.1≠(s2.heap.push ob).objs.size
   rw [hsz];exact Nat.ne_of_lt (Nat.lt_succ_of_lt this)
  ·rcases Qp.mp (I.A2 p.1 z) with z | z
   ·exact ne z
   ·exact nf z
 ·show (rm own idx σ).length=N'.length
  rw [S.nn];unfold rm
  simp
theorem iU {ob:Obj} {ho:HO} {τ:St} {s':Shared} (I:Inv X pins σ H2 s2) (hf:∀ b∈fp,pe X pins H2 b) (vq:ob.isFreed=false)
  (J:Inv (dh X N' sc cl (s2.heap.push ob).objs.size {s2 with heap:=s2.heap.push ob} (upd H2 s2.heap.objs.size ho) fp (X.pn++pins)) [] τ H' s'):
  Inv X pins σ H' s'/\H' (s2.heap.push ob).objs.size=none/\(s2.heap.push ob).objs.size≠X.env.locals/\X.s₀.heap.objs.size<=(s2.heap.push ob).objs.size/\
   (∀ x c,X.env.cells.lookup x=some c->c≠(s2.heap.push ob).objs.size)/\(∀ p∈X.pn++pins,p.1≠(s2.heap.push ob).objs.size)/\∃ m,s'.heap.Ns (s2.heap.push ob).objs.size m:=by
 have hsz:(s2.heap.push ob).objs.size=s2.heap.objs.size+1:=Heap.size_push _ _
 have u1:Un (kj X.stack) fp H2 (upd H2 s2.heap.objs.size ho) s2.heap (s2.heap.push ob):=Un.laid (fun b o e=>Qc _ e) (Qy _) (I.hok.fresh (Qy _))
 have u2:Un (kj X.stack) fp (upd H2 s2.heap.objs.size ho) H' (s2.heap.push ob) s'.heap:=J.base
 have zc:s'.os=s2.os:=J.os
 refine ⟨I.OJ zc (u1.trans u2) J.hok J.bare fun b hb=>?_,J.free,?_,?_,fun x c e z=>?_,fun p hp z=>?_,let ⟨m,hn,_⟩:=J.loc;⟨m,hn⟩⟩
 ·obtain ⟨f0,f1,f2,f3,f4,f5⟩:=hf b hb
  exact ⟨f3,f1,f4,f5⟩
 ·rw [hsz];exact Nat.ne_of_gt (Nat.lt_succ_of_lt I.lt)
 ·have:=I.sz;rw [hsz];omega
 ·obtain ⟨v,q⟩:=I.cell x c e
  have:=q.lt
  rw [z,hsz] at this;exact absurd this (Nat.not_lt.mpr (Nat.le_succ _))
 ·have:=Qz (I.pin p hp).1
  rw [z,hsz] at this;exact absurd this (Nat.not_lt.mpr (Nat.le_succ _))
end
abbrev jk:Value->Shared->Prop:=fun _ _=>False
theorem Rr {elt target iter:Expr} {scope:Scope} {pos:Pos} {it acc:Value} (I:Nat->Shared->Prop)
  (turn:∀ n s,I n s->wpAny (model prog w) A (pyNext it) (fun r s₁=>match r with
   | none=>R (.ok .next) s₁
   | some v=>wpAny (model prog w) A (letOwnedTupleGo target it v) (fun _ Dg=>wpAny (model prog w) A (assign target env v) (fun _ s₂=>
     wpAny (model prog w) A (forIn ifs true fun c r=>if r=true then do let ok <- isTrue c env (eval c env);pure (ForInStep.yield ok) else pure (ForInStep.yield r)) (fun ok s₃=>
      if ok=true then wpAny (model prog w) A (eval elt env) (fun x s₄=>
       wpAny (model prog w) A (call (.builtin "list.append") [acc,x]) (fun _ s₅=>∃ m,m < n/\I m s₅) jk s₄) jk s₃
      else ∃ m,m < n/\I m s₃) jk s₂) jk Dg) jk s₁) jk s)
  (n:Nat) (h:I n s):
  codeAny (model prog w) A (.compLoop (.ListComp elt [⟨target,iter,ifs,0⟩] scope pos) 0 it acc env) R s:=by
 refine codeAny_loop rfl I (fun n s hI=>?_) n h
 show wpAny _ A ((compTurn (.ListComp elt [⟨target,iter,ifs,0⟩] scope pos) 0 it acc env).onRaise (fun x=>do noteFrame x env;theTreesLotGoes x)) _ _ s
 refine wpAny_noted ?_
 rw [compTurn_list]
 refine QT (wpAny_standAt (QT (wpAny_mono (turn n s hI) (fun r s₁ h₁=>?_) fun _ _ h'=>h'.elim)))
 cases r with
 | none=>exact QU h₁
 | some v=>
  refine QT (wpAny_mono h₁ (fun _ Dg G8=>?_) fun _ _ h'=>h'.elim)
  refine QT (wpAny_mono G8 (fun _ s₂ h₂=>QT (wpAny_mono h₂ (fun ok s₃ h₃=>?_) fun _ _ h'=>h'.elim)) fun _ _ h'=>h'.elim)
  cases ok with
  | false=>exact QU ⟨rfl,h₃⟩
  | true=>
   exact QT (QT (wpAny_mono h₃ (fun x s₄ h₄=>QT (wpAny_mono h₄ (fun _ s₅ h₅=>QU (QU ⟨rfl,h₅⟩)) fun _ _ h'=>h'.elim)) fun _ _ h'=>h'.elim))
abbrev TC:=St->Hp->(Bool->Hp->Prop)->Prop
def r_ (X:Cx) (ifs:List Expr) (t:TC):Prop:=
 ∀ (pins:List (Addr×Obj)) (s:Shared) (σ:St) (H:Hp) (Q:Bool->Hp->Prop),Inv X pins σ H s->t σ H Q->
  wpAny (model X.prog X.w) X.A (forIn ifs true fun c r=>if r=true then do let ok <- isTrue c X.env (eval c X.env);pure (ForInStep.yield ok) else pure (ForInStep.yield r)) (TP X pins σ Q) X.xe s
def E_:TC:=fun _ H Q=>Q true H
theorem Rt:r_ X [] E_:=fun pins s σ H Q I h=>QU ⟨H,I,h⟩
theorem zV {c:Expr} {t:TT} (h:PT X c t):r_ X [c] t:=fun pins s σ H Q I hq=>wpAny_tests_one (h pins s σ H Q I hq)
def B3 (own:List Str) (idx:List Nat) (wi:TI) (g:TG) (tc:TC) (te:TE):TE:=fun σ H Q=>wi σ H fun J H1=>∀ D,H1 D=none->∃ W:Nat->Nat->St->Hp->Prop,(∃ m,W 0 m (rm own idx σ) (upd H1 D (.lst [])))/\∀ i m τ H,W i m τ H->
 (J.stop i H/\Q (.ref D) H)\/(J.go i H/\∃ N:St->Hp->Prop,(∀ τ' H',N τ' H'->∃ m',m' < m/\W (i+1) m' τ' H')/\∀ x H',J.l_ i H x H'->g x τ H' fun τ2 H2=>tc τ2 H2 fun b H3=>
  if b=true then te τ2 H3 fun y H4=>∃ xs,H4 D=some (.lst xs)/\xs.length < sizeLine/\N τ2 (upd H4 D (.lst (xs++[y]))) else N τ2 H3)
section
variable {iter elt:Expr} {pos:Pos} {wi:TI} {g:TG} {tc:TC}
abbrev vt:Obj:={cls:=.type "list",dict:=none,data:=.seq ([]:List Value).toArray}
theorem k9 (S:oj X.env.scope X.N sc own idx N') (c1:∀ x c,cl.lookup x=some c->X.env.cells.lookup x=some c) (c2:∀ y∈sc.names,y.2=.free->∃ c,cl.lookup y.1=some c) (hc:X.calm=true)
  (hg:∀ cl C s3 H0 fp pn,PG (dh X N' sc cl C s3 H0 fp pn) tg g) (ht:∀ cl C s3 H0 fp pn,r_ (dh X N' sc cl C s3 H0 fp pn) ifs tc) (he:∀ cl C s3 H0 fp pn,PE (dh X N' sc cl C s3 H0 fp pn) elt te)
  {pins:List (Addr×Obj)} {σ:St} {Q:VK} {nu:Value} {s2:Shared} {RR:Value->Addr->Result->Shared->Prop} {E:Value->Shared->Prop}
  (hI:BP X pins σ tg (fun J H1=>∀ D,H1 D=none->∃ W:Nat->Nat->St->Hp->Prop,(∃ m,W 0 m (rm own idx σ) (upd H1 D (.lst [])))/\∀ i m τ H,W i m τ H->
   (J.stop i H/\Q (.ref D) H)\/(J.go i H/\∃ N:St->Hp->Prop,(∀ τ' H',N τ' H'->∃ m',m' < m/\W (i+1) m' τ' H')/\∀ x H',J.l_ i H x H'->g x τ H' fun τ2 H2=>tc τ2 H2 fun b H3=>
    if b=true then te τ2 H3 fun y H4=>∃ xs,H4 D=some (.lst xs)/\xs.length < sizeLine/\N τ2 (upd H4 D (.lst (xs++[y]))) else N τ2 H3)) nu s2)
  (Dh:∀ D C H' s',Inv X pins σ H' s'->Q (.ref D) H'->(H' C=none/\C≠X.env.locals/\X.s₀.heap.objs.size<=C/\(∀ x c,X.env.cells.lookup x=some c->c≠C)/\(∀ p∈X.pn++pins,p.1≠C)/\∃ m,s'.heap.Ns C m)->RR (.ref D) C (.ok .next) s'):
  wpAny (model X.prog X.w) X.A (newList []) (fun acc s₃=>wpAny (model X.prog X.w) X.A (newFunctionEnv sc X.env.globals cl [] X.env.qual none .none (some X.env)) (fun cenv s₄=>
   codeAny (model X.prog X.w) X.A (.compStart (.ListComp elt [⟨tg,iter,ifs,0⟩] sc pos) 0 nu acc {cenv with scope:=relabel sc X.env}) (RR acc cenv.locals) s₄) E s₃) E s2:=by
 obtain ⟨it,fp,tn,J,H2,rfl,I,T,qp,f2,body⟩:=hI
 refine wpAny_newObj_type (wpAny_newFunctionEnv S.cell (by intro y hy;simp at hy) (fun h4 ns sb=>?_) S.kind)
 dsimp only at ns sb ⊢
 have vq:vt.isFreed=false:=rfl
 have fr:H2 s2.heap.objs.size=none:=I.hok.fresh (Qy _)
 obtain ⟨W,⟨m0,w0⟩,turn⟩:=body _ fr
 have rn:∀ b∈fp,∃ o,s2.heap.get? b=some o:=fun b hb=>let ⟨o,e,_⟩:=T.obj _ _ qp b hb;⟨o,e⟩
 have yd:∀ b o,(s2.heap.push vt).get? b=some o->h4.get? b=some o:=fun b o e=>(sb.2 b (Nat.ne_of_lt (Qz e))).trans (Qc _ e)
 have Di:∀ (H:Hp) (h:Heap),h.get? s2.heap.objs.size=some vt->b_ X.prog X.w H h s2.heap.objs.size (.lst []):=fun H h e=>⟨Nat.zero_le _,[],_,.nil,e⟩
 have I4:Inv (dh X N' sc cl (s2.heap.push vt).objs.size {s2 with heap:=s2.heap.push vt} (upd H2 s2.heap.objs.size (.lst [])) fp (X.pn++pins)) [] (rm own idx σ) (upd H2 s2.heap.objs.size (.lst [])) {s2 with heap:=h4,toks:=s2.toks+([]:List (Str×Value)).length}:=
  jS S I f2 rn c1 c2 vq Di ns yd
 -- A6 KQ own context
 generalize hY:dh X N' sc cl (s2.heap.push vt).objs.size {s2 with heap:=s2.heap.push vt} (upd H2 s2.heap.objs.size (.lst [])) fp (X.pn++pins)=Y at I4
 have Dj:PG Y tg g:=by rw [<- hY];exact hg _ _ _ _ _ _
 have Dk:r_ Y ifs tc:=by rw [<- hY];exact ht _ _ _ _ _ _
 have Dl:PE Y elt te:=by rw [<- hY];exact he _ _ _ _ _ _
 have pY:Y.prog=X.prog:=by rw [<- hY]
 have wY:Y.w=X.w:=by rw [<- hY]
 have KY:Y.K=X.K:=by rw [<- hY]
 have AY:Y.A=X.A:=by rw [<- hY]
 have cY:Y.calm=true:=by rw [<- hY];exact hc
 have xY:Y.xe=fun _ _=>False:=by rw [<- hY]
 have eY:Y.env=compEnvC sc cl (s2.heap.push vt).objs.size X.env:=by rw [<- hY]
 have Dm:Y.ex=fp:=by rw [<- hY]
 have Dn:Y.fs=kj X.stack:=by rw [<- hY]
 have Dp:Y.pn=X.pn++pins:=by rw [<- hY]
 have n_:∀ {H':Hp},(∀ b∈fp,H' b=none)->∀ b∈fp,pe Y [] H' b:=fun hn b hb=>by
  obtain ⟨f0,f1,f3,f4,f5,f6⟩:=f2 b hb
  refine ⟨hn b hb,?_,?_,.inl (by rw [Dm];exact hb),fun x c e=>?_,fun p hp=>?_⟩
  ·obtain ⟨o,e⟩:=rn b hb
   have:=Qz e
   rw [eY]
   show b≠(s2.heap.push vt).objs.size
   rw [Heap.size_push];exact Nat.ne_of_lt (Nat.lt_succ_of_lt this)
  ·rw [Dn]
   intro z
   rcases Qp.mp (I.A2 b z) with z | z
   ·exact f1 z
   ·exact f3 z
  ·rw [eY] at e
   exact f5 x c (c1 x c e)
  ·rw [Dp,List.append_nil] at hp
   exact f6 p hp
 have Am:tn 0 h4:=T.keep _ _ _ qp fun b hb o e=>yd b o (Qc _ e)
 have Dq:∀ b∈fp,upd H2 s2.heap.objs.size (.lst []) b=none:=fun b hb=>by
  obtain ⟨o,e⟩:=rn b hb
  rw [aF (Nat.ne_of_lt (Qz e))]
  exact (f2 b hb).1
 have loop:codeAny (model X.prog X.w) X.A (.compLoop (.ListComp elt [⟨tg,iter,ifs,0⟩] sc pos) 0 (.ref it) (.ref s2.heap.objs.size) (compEnvC sc cl (s2.heap.push vt).objs.size X.env))
   (RR (.ref s2.heap.objs.size) (s2.heap.push vt).objs.size) {s2 with heap:=h4,toks:=s2.toks+([]:List (Str×Value)).length}:=by
  refine Rr (fun n s'=>∃ i τ H',Inv Y [] τ H' s'/\tn i s'.heap/\(∀ b∈fp,H' b=none)/\W i n τ H') ?_ m0 ⟨0,_,_,I4,Am,Dq,w0⟩
  rintro n s3 ⟨i,τ3,H3,I3,vh,vj,w3⟩
  rcases turn i n τ3 H3 w3 with ⟨stop,qn⟩ | ⟨go,N,hN,step⟩
  ·have h:=T.done Y pY wY KY cY i [] s3 τ3 H3 jk I3 (n_ vj) vh stop
   rw [AY] at h
   refine au h ?_
   rintro r s4 ⟨hr,Dr⟩
   subst hr
   have J4:=Dr
   rw [<- hY] at J4
   obtain ⟨b1,b2⟩:=iU I f2 vq J4
   exact Dh _ _ _ _ b1 qn b2
  ·have h:=T.item Y pY wY KY cY i [] s3 τ3 H3 jk I3 (n_ vj) vh go
   rw [AY] at h
   refine au h ?_
   rintro r s4 ⟨u,hr,Ds⟩
   subst hr
   refine au Ds ?_
   rintro _ s5 ⟨x,H5,I5,r5,y5,oh,A7⟩
   have A8:=I5.pinned (n_ A7) (T.obj _ _ oh)
   have g5:=Dj _ s5 τ3 H5 x u _ A8 r5 (step x H5 y5)
   rw [pY,wY,AY,xY,eY] at g5
   refine au g5 ?_
   rintro _ s6 ⟨τ6,H6,I6,q6⟩
   have t6:=Dk _ s6 τ6 H6 _ I6 q6
   rw [pY,wY,AY,xY,eY] at t6
   refine au t6 ?_
   rintro ok s7 ⟨H7,I7,q7⟩
   have again:∀ {τ8:St} {H8:Hp} {s8:Shared},Inv Y ([]++A5 fp s5.heap) τ8 H8 s8->N τ8 H8->∃ m,m < n/\∃ i τ' H',Inv Y [] τ' H' s8/\tn i s8.heap/\(∀ b∈fp,H' b=none)/\W i m τ' H':=fun {τ8 H8 s8} I8 n8=>by
    obtain ⟨m',hm,w8⟩:=hN τ8 H8 n8
    refine ⟨m',hm,i+1,τ8,H8,I8.BQ,T.keep _ _ _ oh fun b hb o e=>(I8.pin (b,o) (List.mem_append_right _ (List.mem_append_right _ (bU hb e)))).1,fun b hb=>?_,w8⟩
    obtain ⟨o,e,d⟩:=T.obj _ _ oh b hb
    exact (I8.pin (b,o) (List.mem_append_right _ (List.mem_append_right _ (bU hb e)))).2.1
   cases ok with
   | false=>
    rw [if_neg (by decide)] at q7 ⊢
    exact again I7 q7
   | true=>
    rw [if_pos rfl] at q7 ⊢
    have e7:=Dl _ s7 τ6 H7 _ I7 q7
    rw [pY,wY,AY,xY,eY] at e7
    refine au e7 ?_
    rintro yv s8 ⟨y,H8,I8,r8,xs,Ru,hz,n8⟩
    have a8:=bZ (X:=Y) _ s8 τ6 H8 (.ref s2.heap.objs.size) [y] (.ref s2.heap.objs.size) [yv] (fun v H'=>N τ6 H') I8 rfl (.cons r8 .nil) ⟨_,xs,y,rfl,rfl,Ru,hz,n8⟩
    rw [pY,wY,AY,xY] at a8
    refine au a8 ?_
    rintro _ s9 ⟨_,H9,I9,_,n9⟩
    exact again I9 n9
 exact codeAny_compStart_list loop (T.self _ 0 _ _ _ Am loop)
theorem oj.closure (S:oj X.env.scope X.N sc own idx N') (ok:X.Ok):∃ cl,closureFor sc X.env=pure cl/\(∀ x c,cl.lookup x=some c->X.env.cells.lookup x=some c)/\(∀ y∈sc.names,y.2=.free->∃ c,cl.lookup y.1=some c):=
 qC fun y hy hf=>ok.has _ (S.free y hy hf)
theorem Rv (S:oj X.env.scope X.N sc own idx N') (hc:X.calm=true) (hi:PI X tg iter wi)
  (hg:∀ cl C s3 H0 fp pn,PG (dh X N' sc cl C s3 H0 fp pn) tg g) (ht:∀ cl C s3 H0 fp pn,r_ (dh X N' sc cl C s3 H0 fp pn) ifs tc) (he:∀ cl C s3 H0 fp pn,PE (dh X N' sc cl C s3 H0 fp pn) elt te)
  (hs:∀ x,foldedSetIterable iter X.env x=pure x:=by intro _;rfl):PE X (.ListComp elt [⟨tg,iter,ifs,0⟩] sc pos) (B3 own idx wi g tc te):=by
 intro pins s σ H Q I h
 obtain ⟨cl,sd,c1,c2⟩:=S.closure I.ok
 rw [eval_ListComp]
 refine wpAny_comprehension_free (use:=none) rfl hs sd S.kind S.names (au (hi pins s σ H _ I h) fun v s1 h1=>au h1 fun nu s2 h2=>?_)
 refine k9 (Q:=Q) (pins:=pins) (σ:=σ) (RR:=fun acc C=>compPost (model X.prog X.w) X.A X.xe none (EP X pins σ Q) acc C) S c1 c2 hc hg ht he h2 ?_
 intro D C H' s' I' q ⟨a1,a2,a3,a4,a5,m,a6⟩
 exact ⟨m,a6,fun h' sb=>⟨.ref D,H',I'.turned (t':=s'.toks) (fun b o hb e=>(sb.2 b hb).trans e) a1 (Ne.symm (Ne.symm a2)) (.inr a3) a4 a5,rfl,q⟩⟩
theorem Rw {y:Str} {py spos:Pos} (S:oj X.env.scope X.N sc own idx N') (hc:X.calm=true) (hi:PI X tg iter wi)
  (hg:∀ cl C s3 H0 fp pn,PG (dh X N' sc cl C s3 H0 fp pn) tg g) (ht:∀ cl C s3 H0 fp pn,r_ (dh X N' sc cl C s3 H0 fp pn) ifs tc) (he:∀ cl C s3 H0 fp pn,PE (dh X N' sc cl C s3 H0 fp pn) elt te)
  (hN:X.N.Nodup) (B4:X.N[i]? =some y) (hy:X.env.scope.names.lookup y=some .local)
  (G9:swapsWith (.ListComp elt [⟨tg,iter,ifs,0⟩] sc pos) (some (.Name y py)) spos.line X.env=pure true:=by rfl)
  (hs:∀ x,foldedSetIterable iter X.env x=pure x:=by intro _;rfl):PS X (.Assign [.Name y py] (.ListComp elt [⟨tg,iter,ifs,0⟩] sc pos) spos) (yz (B3 own idx wi g tc te) (nk i)):=by
 intro pins s σ H D I h
 obtain ⟨cl,sd,c1,c2⟩:=S.closure I.ok
 rw [exec_Assign_Name_used _ _ _ _ G9]
 refine QT (wpAny_standAt (QT ?_))
 show wpAny _ X.A (do let _ <- comprehension (.ListComp elt [⟨tg,iter,ifs,0⟩] sc pos) sc X.env _ (newList []) false (eval iter X.env) (some (assign (.Name y py) X.env))) _ _ s
 refine QT (wpAny_mono (wpAny_comprehension_free (use:=some (assign (.Name y py) X.env)) (Q:=fun _ s'=>SP X pins D .next s') rfl hs sd S.kind S.names
  (au (hi pins s σ H _ I h) fun v s1 h1=>au h1 fun nu s2 h2=>?_)) (fun _ s' hq=>QU (QU hq)) fun _ _ e=>e)
 refine k9 (Q:=fun x H1=>nk i x σ H1 D.nx) (pins:=pins) (σ:=σ) (RR:=fun acc C=>compPost (model X.prog X.w) X.A X.xe (some (assign (.Name y py) X.env)) (fun _ s'=>SP X pins D .next s') acc C) S c1 c2 hc hg ht he h2 ?_
 intro D' C H' s' I' q ⟨a1,a2,a3,a4,a5,m,a6⟩
 show wpAny _ X.A (assign (.Name y py) X.env (.ref D')) _ _ _
 refine wpAny_assign_Name (mD (v:=.ref D') I' hN B4 (.inl hy) rfl (fun s'' Rx ⟨a,sb,ha⟩=>?_) (.inr hy))
 have Ry:C≠a:=by
  rcases ha with z | z
  ·rw [z];exact a2
  ·exact Ne.symm (a4 _ _ z)
 refine ⟨m,a6.sameBut sb Ry,fun h' yd=>⟨_,H',Rx.turned (t':=s''.toks) (fun b o hb e=>(yd.2 b hb).trans e) a1 a2 (.inr a3) a4 a5,q⟩⟩
end
def tV (i:Nat):TE:=fun σ H Q=>match σ[i]? with | some (some v)=>Q v H | _=>False
theorem Rz (i:Nat) {pos:Pos} (hN:X.N[i]? =some x:=by rfl) (hv:BI X.env.scope x:=by first | exact Or.inl rfl | exact Or.inr (Or.inl rfl) | exact Or.inr (Or.inr rfl)) (hd:(x==("__debug__":Str))=false:=by decide) (jc:(x==("__classdict__":Str))=false:=by decide):PE X (.Name x pos) (tV i):=by
 intro pins s σ H Q I h
 refine OM hN hv hd jc pins s σ H Q I ?_
 unfold tV at h
 split at h
 ·next v e=>exact ⟨v,e,h⟩
 ·exact h.elim
def G_:R2:=fun x y H Q=>match x,y with
 | .int i,.int j=>Q (.int (i+j)) H
 | .str i,.str j=>i.length+j.length<=sizeLine/\Q (.str (i++j)) H
 | .ref l,.ref b=>(∃ xs zs,H l=some (.lst xs)/\H b=some (.lst zs)/\xs.length+zs.length<=sizeLine/\∀ p,H p=none->Q (.ref p) (upd H p (.lst (xs++zs))))
 | _,_=>False
theorem bM:cj X (binaryOp .Add) G_:=by
 intro pins s σ H x y v u Q I rx ry h
 cases x<;>cases y<;>first
  | exact (show False from h).elim
  | exact Pe pins s σ H _ _ v u Q I rx ry ⟨_,_,rfl,rfl,h⟩
  | exact qS pins s σ H _ _ v u Q I rx ry ⟨_,_,rfl,rfl,h.1,h.2⟩
  | (obtain ⟨xs,zs,h1,h2,h3,h4⟩:=h;exact Ra pins s σ H _ _ v u Q I rx ry ⟨_,_,xs,zs,rfl,rfl,h1,h2,h3,h4⟩)
def RA:R2:=fun x y H Q=>match x,y with | .int i,.int j=>EQ i j/\Q (.int (i*j)) H | _,_=>False
theorem d9:cj X (binaryOp .Mult) RA:=by
 intro pins s σ H x y v u Q I rx ry h
 cases x<;>cases y<;>first
  | exact (show False from h).elim
  | exact Pf pins s σ H _ _ v u Q I rx ry ⟨_,_,rfl,rfl,h.1,h.2⟩
def RB:R2:=fun x y H Q=>match x,y with | .int i,.int j=>0 < j/\Q (.int (i % j)) H | _,_=>False
theorem dO:cj X (binaryOp .Mod) RB:=by
 intro pins s σ H x y v u Q I rx ry h
 cases x<;>cases y<;>first
  | exact (show False from h).elim
  | exact Ph pins s σ H _ _ v u Q I rx ry ⟨_,_,rfl,rfl,h.1,h.2⟩
def RC:R2:=fun x y H Q=>match x,y with | .int i,.int j=>(0 < j/\j < 1073741824)/\Q (.int (i / j)) H | _,_=>False
theorem yU:cj X (binaryOp .FloorDiv) RC:=by
 intro pins s σ H x y v u Q I rx ry h
 cases x<;>cases y<;>first
  | exact (show False from h).elim
  | exact Pg pins s σ H _ _ v u Q I rx ry ⟨_,_,rfl,rfl,h.1,h.2⟩
def RD:R2:=fun x y H Q=>match x,y with | .int i,.int j=>Kl i j/\Q (.int (i^j.toNat)) H | _,_=>False
theorem zD:cj X (binaryOp .Pow) RD:=by
 intro pins s σ H x y v u Q I rx ry h
 cases x<;>cases y<;>first
  | exact (show False from h).elim
  | exact Pj pins s σ H _ _ v u Q I rx ry ⟨_,_,rfl,rfl,h.1,h.2⟩
def KR (p:Int->Int->Bool):R2:=fun x y H Q=>match x,y with | .int i,.int j=>Q (.bl (p i j)) H | _,_=>False
theorem xB:cj X (compareOp .Gt) (KR fun i j=>decide (j < i)):=by
 intro pins s σ H x y v u Q I rx ry h
 cases x<;>cases y<;>first
  | exact (show False from h).elim
  | exact Px pins s σ H _ _ v u Q I rx ry ⟨_,_,rfl,rfl,h⟩
theorem RE:cj X (compareOp .GtE) (KR fun i j=>decide (j<=i)):=by
 intro pins s σ H x y v u Q I rx ry h
 cases x<;>cases y<;>first
  | exact (show False from h).elim
  | exact Py pins s σ H _ _ v u Q I rx ry ⟨_,_,rfl,rfl,h⟩
def RG:R2:=fun x y H Q=>match x,y with
 | .int i,.int j=>Q (.bl (decide (i < j))) H
 | .str i,.str j=>Q (.bl (decide (i.cps.toList < j.cps.toList))) H
 | _,_=>False
theorem iQ:cj X (compareOp .Lt) RG:=by
 intro pins s σ H x y v u Q I rx ry h
 cases x<;>cases y<;>first
  | exact (show False from h).elim
  | exact Pw pins s σ H _ _ v u Q I rx ry ⟨_,_,rfl,rfl,h⟩
  | exact uZ pins s σ H _ _ v u Q I rx ry ⟨_,_,rfl,rfl,h⟩
def KS (n:Bool):R2:=fun x y H Q=>match x,y with
 | .ref a,.ref b=>a≠b/\∃ xs,H a=some (.lst xs)/\H b=some (.lst [])/\Q (.bl (n^^xs.isEmpty)) H
 | x,y=>C4 x y=true/\Q (.bl (n^^decide (x=y))) H
theorem vN {xs:List V} (hu:A.units < cLine) (I:Inv X pins σ H s) (ha:H a=some (.lst xs)) (hb:H b=some (.lst [])) (se:a≠b)
  (q:∀ tk,Q (.bool xs.isEmpty) {s with toks:=tk}) (q0:Q (.bool xs.isEmpty) s):wpAny (model X.prog X.w) A (compareOp .Eq (.ref a) (.ref b)) Q E s:=by
 obtain ⟨_,its,n,r1,e1⟩:=(show b_ X.prog X.w H s.heap a (.lst xs) from I.hok a _ ha)
 obtain ⟨_,its2,n2,r2,e2⟩:=(show b_ X.prog X.w H s.heap b (.lst []) from I.hok b _ hb)
 cases r2
 have l1:s.heap.IsList a its.toArray:=⟨_,e1,rfl,_,rfl⟩
 have l2:s.heap.IsList b (#[]:Array Value):=⟨_,e2,rfl,_,rfl⟩
 cases r1 with
 | nil=>
  exact SeqAt.eq_listAt (e:=fun _=>true) l1 l2 rfl hu (fun i hi=>absurd hi (by simp)) (by simpa using q0)
 | cons z t=>
  exact SeqAt.eq_list_lengthsAt l1 l2 (by simp) hu (by simpa using q0)
theorem gZ (hu:X.A.units < cLine):cj X (compareOp .Eq) (KS false):=by
 intro pins s σ H x y v u Q I rx ry h
 have hs:(∀ a b,x=.ref a->y=.ref b->False)->C4 x y=true/\Q (.bl (false^^decide (x=y))) H:=fun hn=>by
  cases x<;>cases y<;>first
   | exact (hn _ _ rfl rfl).elim
   | exact h
 by_cases hr:∃ a b,x=.ref a/\y=.ref b
 ·obtain ⟨a,b,rfl,rfl⟩:=hr
  obtain ⟨se,xs,h1,h2,q⟩:=h
  cases rx;cases ry
  exact vN hu I h1 h2 se (fun tk=>⟨.bl xs.isEmpty,H,I.tok tk,rfl,by simpa using q⟩) ⟨.bl xs.isEmpty,H,I,rfl,by simpa using q⟩
 ·obtain ⟨h1,h2⟩:=hs fun a b e1 e2=>hr ⟨a,b,e1,e2⟩
  exact Pq pins s σ H x y v u Q I rx ry ⟨h1,by simpa using h2⟩
theorem yQ {xs:List V} (hu:A.units < cLine) (I:Inv X pins σ H s) (ha:H a=some (.lst xs)) (hb:H b=some (.lst []))
  (q0:Q (.bool (!xs.isEmpty)) s):wpAny (model X.prog X.w) A (compareOp .NotEq (.ref a) (.ref b)) Q E s:=by
 obtain ⟨_,its,n,r1,e1⟩:=(show b_ X.prog X.w H s.heap a (.lst xs) from I.hok a _ ha)
 obtain ⟨_,its2,n2,r2,e2⟩:=(show b_ X.prog X.w H s.heap b (.lst []) from I.hok b _ hb)
 cases r2
 have l1:s.heap.IsList a its.toArray:=⟨_,e1,rfl,_,rfl⟩
 have l2:s.heap.IsList b (#[]:Array Value):=⟨_,e2,rfl,_,rfl⟩
 cases r1 with
 | nil=>
  exact SeqAt.RcNeAt.lists (e:=fun _=>true) l1 l2 rfl hu (fun i hi=>absurd hi (by simp)) _ _ _ _ (by simpa using q0)
 | cons z t=>
  exact SeqAt.RcNeAt.lists_lengths l1 l2 (by simp) hu _ _ _ _ (by simpa using q0)
theorem nD (hu:X.A.units < cLine):cj X (compareOp .NotEq) (KS true):=by
 intro pins s σ H x y v u Q I rx ry h
 have hs:(∀ a b,x=.ref a->y=.ref b->False)->C4 x y=true/\Q (.bl (true^^decide (x=y))) H:=fun hn=>by
  cases x<;>cases y<;>first
   | exact (hn _ _ rfl rfl).elim
   | exact h
 by_cases hr:∃ a b,x=.ref a/\y=.ref b
 ·obtain ⟨a,b,rfl,rfl⟩:=hr
  obtain ⟨se,xs,h1,h2,q⟩:=h
  cases rx;cases ry
  exact yQ hu I h1 h2 ⟨.bl (!xs.isEmpty),H,I,rfl,by simpa using q⟩
 ·obtain ⟨h1,h2⟩:=hs fun a b e1 e2=>hr ⟨a,b,e1,e2⟩
  exact Pu pins s σ H x y v u Q I rx ry ⟨h1,by simpa using h2⟩
def B5 (K:Q0):R2:=fun x y H Q=>match x,y with
 | .ref p,.int i=>∃ xs v,(ak K H p xs\/af K H p xs)/\jj xs i=some v/\Q v H
 | .str z,.int i=>z.length<=sizeLine/\∃ c,jj z.cps.toList i=some c/\Q (.str ⟨#[c]⟩) H
 | _,_=>False
theorem RI : Ba X (B5 X.K) := by
  intro e1 e2 pins s σ H x y v u Q I rx ry h hs
  cases x <;> cases y <;> first
    | exact (show False from h).elim
    | (obtain ⟨xs, w, h1 | h1, h2, h3⟩ := h
       · exact QX e1 e2 pins s σ H _ _ v u Q I rx ry ⟨_, xs, _, w, rfl, rfl, h1, h2, h3⟩ hs
       · exact QY e1 e2 pins s σ H _ _ v u Q I rx ry ⟨_, xs, _, w, rfl, rfl, h1, h2, h3⟩ hs)
    | (obtain ⟨h1, c, h2, h3⟩ := h; exact QZ e1 e2 pins s σ H _ _ v u Q I rx ry ⟨_, _, c, rfl, rfl, h1, h2, h3⟩ hs)
def Fb (K:Q0) (n:Bool):R2:=fun x y H Q=>match y with
 | .str j=>∃ i,x=.str i/\Q (.bl (n^^(!(Builtin.Str.occurrences j i 0 j.length 1).isEmpty))) H
 | .ref p=>∃ xs,(ak K H p xs\/af K H p xs)/\xy x=true/\xs.all xy=true/\Q (.bl (n^^Ah x xs)) H
 | _=>False
theorem RJ:cj X (compareOp .In) (Fb X.K false):=by
 intro pins s σ H x y v u Q I rx ry h
 cases y<;>first
  | exact (show False from h).elim
  | (obtain ⟨i,rfl,h2⟩:=h;exact uK pins s σ H _ _ v u Q I rx ry ⟨i,_,rfl,rfl,by simpa using h2⟩)
  | (obtain ⟨xs,h1,h2,h3,h4⟩:=h;exact tX pins s σ H _ _ v u Q I rx ry ⟨_,xs,rfl,h1,h2,h3,by simpa using h4⟩)
def Hf (K:Q0):List V->Hp->VK->Prop:=fun xs H Q=>match xs with
 | [.str y]=>y.length<=sizeLine/\Q (.int y.length) H
 | [.ref p]=>(∃ ys,(ak K H p ys\/af K H p ys)/\Q (.int ys.length) H)\/(∃ kvs,Rd H p (.dK kvs)/\Q (.int kvs.length) H)
 | _=>False
theorem uL:vm X (.builtin "len") (Hf X.K):=by
 intro pins s σ H xs us Q I r h
 unfold Hf at h
 split at h
 ·exact kH pins s σ H _ us Q I r ⟨_,_,rfl,⟨h.1,rfl⟩,h.2⟩
 ·rcases h with ⟨ys,h1 | h1,q⟩ | ⟨kvs,h1,q⟩
  ·exact kH pins s σ H _ us Q I r ⟨_,_,rfl,.inl ⟨ys,h1,rfl⟩,q⟩
  ·exact kH pins s σ H _ us Q I r ⟨_,_,rfl,.inr ⟨ys,h1,rfl⟩,q⟩
  ·obtain ⟨u,rfl,ru⟩:=vals1 r
   cases ru
   exact Rf I h1 fun t s' I'=>⟨.int kvs.length,H,I',⟨t,rfl⟩,q⟩
 ·exact h.elim
def Bc:V->Option Int->Option Int->Hp->VK->Prop:=fun x lo hi H Q=>∃ z,x=.str z/\z.length<=sizeLine/\Q (.str (Txt.slice z lo hi)) H
theorem RK:qw X Bc:=by
 intro pins s σ H x v vl vu lo hi sl Q I rx hs pl pu h
 obtain ⟨z,rfl,hz,q⟩:=h
 obtain ⟨t,rfl⟩:=(show ∃ t,v=Value.str z t from rx)
 refine ⟨"str",_,F.slot_str_getitem.lookup,typeIs_str _ _ _,?_⟩
 have KU:∀ {w:Value} {o:Option Int},IsPart w o->∃ l:Option (Int×Tok),w=partValue l/\l.map (·.1)=o:=fun {w o} p=>by
  cases p with
  | none=>exact ⟨none,rfl,rfl⟩
  | int k t=>exact ⟨some (k,t),rfl,rfl⟩
 obtain ⟨l,e1,e2⟩:=KU pl
 obtain ⟨u,e3,e4⟩:=KU pu
 subst e1 e3
 obtain ⟨o,ho,hc,hd⟩:=hs
 refine wpAny_getItem_str_slice (l:=l) (u:=u) (st:=none) ⟨o,ho,hc,hd⟩ rfl ?_
 refine post_val_or_str ⟨Nat.le_trans (Txt.slice_le z _ _) hz,fun t' k=>?_⟩
 show EP X pins σ Q (.str (Txt.slice z (l.map (·.1)) (u.map (·.1))) t') _
 rw [e2,e4]
 exact ⟨.str (Txt.slice z lo hi),H,I.tok k,⟨t',rfl⟩,q⟩
def Hg (z:Str):It:=⟨fun i _=>i < z.cps.size,fun i H x H'=>H'=H/\∃ c,z.cps[i]? =some c/\x=.str ⟨#[c]⟩,fun i _=>z.cps.size=i⟩
theorem rV {K:Q0} {it:Addr} {St:Nat->Heap->Prop} (W:∀ A':Around,A'.handled=none->Walks P w A' it [it] [it] z.cps.size (SignAt z) St)
  (Hh:∀ (A:Around) (i:Nat) (s:Shared) (Q:Value->Shared->Prop) (E:Value->Shared->Prop),St i s.heap->Q (.ref it) s->wpAny (model P w) A (pyIter (.ref it)) Q E s)
  (hg:∀ i h,St i h->∃ o n vs,h.get? it=some o/\o.cls=.type n/\o.data=.fields vs/\["enumerate","zip","dict_itemiterator","dict_reverseitemiterator","odict_iterator","itertools.zip_longest","itertools.pairwise"].contains n=false):Turn P w K tg (Hg z) [it] it St where
 mem:=by simp
 obj:=fun i h st b hb=>by
  have e:b=it:=by simpa using hb
  subst e
  obtain ⟨o,n,vs,e,c,d,_⟩:=hg i h st
  exact ⟨o,e,fun v z=>by rw [d] at z;cases z⟩
 keep:=fun i h h' st k=>(W {} rfl).frame _ _ _ st k
 item:=by
  intro X hP hw hK hc i pins s σ H E I hf st Hi
  subst hP hw hK
  obtain ⟨f0,f1,f2,f3,f4,f5⟩:=hf it (by simp)
  refine (W X.A (I.ok.hd hc)).item i s _ _ Hi st fun v h' tk hv jp kk=>?_
  obtain ⟨c,t,ip,rfl⟩:=hv
  have I1:Inv X pins σ H {s with heap:=h',toks:=tk}:=I.turned (fun b o hb e=>kk b o (by simpa using hb) e) f0 f1 f3 f4 f5
  obtain ⟨o,n,vs,e,c',d,nn⟩:=hg _ _ jp
  exact ⟨_,rfl,nX (s:={s with heap:=h',toks:=tk}) e c' d nn ⟨.str ⟨#[c]⟩,H,I1,⟨t,rfl⟩,⟨rfl,c,ip,rfl⟩,jp,fun b hb=>(hf b hb).1⟩⟩
 done:=by
  intro X hP hw hK hc i pins s σ H E I hf st Hi
  subst hP hw hK
  obtain ⟨f0,f1,f2,f3,f4,f5⟩:=hf it (by simp)
  have e:z.cps.size=i:=Hi
  subst e
  exact (W X.A (I.ok.hd hc)).done s _ _ st fun h' tk kk=>⟨rfl,I.turned (fun b o hb e=>kk b o (by simpa using hb) e) f0 f1 f3 f4 f5⟩
 self:=Hh
def az (P:Program) (w:World) (K:Q0) (mg:Str->Option Value) (base:Heap) (k:Nat) (x:Str) (ps:List Str) (sp:Sp):Prop:=
 ∃ (f:Addr) (fd:FuncData),qt P w K mg base x_ k f fd ps sp/\mg x=some (.ref f)/\PySem.W.keepIn K (.ref f)=true/\Binds K fd ps []/\∃ (oc:Value) (od:Option Addr) (ky:Array (Option Value)),K.lookup f=some ⟨oc,od,.func fd,ky⟩
section
variable {k:Nat} {sp:Sp} {p pos:Pos} {es:List Expr} {t:TA}
theorem RL (F:az X.prog X.w X.K X.mg X.base k x ps sp) (hr:fm k X.A) (ha:PA X (e::es) t) (hg:Gl X x:=by rfl) (kq:(x==("__debug__":Str))=false:=by decide)
  (he:starEach (e::es) X.env=(false,eval e X.env)::starEach es X.env:=by rfl) (gr:(backTo pos (starEach es X.env)).any (·.1)=false:=by rfl):
  PE X (.Call (.Name x p) (e::es) [] pos) (C8 sp [] E0 t):=by
 obtain ⟨f,fd,G,RN,kp,b,_⟩:=F
 exact yS G hr hg RN kp b .nil KO ha kq he gr
end
def iD (K:Q0) (tl:TE):TI:=fun σ H R=>tl σ H fun x H1=>match x with
 | .ref a=>((∃ xs,ak K H1 a xs)/\R (GY K a) H1)\/((∃ xs,af K H1 a xs)/\R (GZ K a) H1)
 | .str z=>R (Hg z) H1
 | _=>False
theorem RP {l:Expr} {tl:TE} (hl:PE X l tl):PI X tg l (iD X.K tl):=by
 intro pins s σ H R I h
 refine au (hl pins s σ H _ I h) ?_
 rintro v s1 ⟨x,H1,I1,r1,q1⟩
 cases x with
 | ref a=>
  cases r1
  rcases q1 with ⟨⟨xs,hq⟩,q⟩ | ⟨⟨xs,hq⟩,q⟩
  ·obtain ⟨its,rv,p,hz⟩:=I1.list hq
   refine wpAny_pyIter_list p.isList ?_
   refine ⟨s1.heap.objs.size,[s1.heap.objs.size],_,_,H1,rfl,I1.kept (t':=s1.toks) fun b o e=>Qc _ e,vJ a _,⟨_,Qd _ rfl,rfl,rfl⟩,fun b hb=>?_,q⟩
   have e:b=s1.heap.objs.size:=by simpa using hb
   subst e
   exact I1.Ae (Qy _) (I1.hok.fresh (Qy _))
  ·obtain ⟨its,rv,p,hz⟩:=I1.tuple hq
   refine wpAny_pyIter_tuple (show s1.heap.IsTuple a its.toArray from p) ?_
   refine ⟨s1.heap.objs.size,[s1.heap.objs.size],_,_,H1,rfl,I1.kept (t':=s1.toks) fun b o e=>Qc _ e,sF a _,⟨_,Qd _ rfl,rfl,rfl⟩,fun b hb=>?_,q⟩
   have e:b=s1.heap.objs.size:=by simpa using hb
   subst e
   exact I1.Ae (Qy _) (I1.hok.fresh (Qy _))
 | str z=>
  obtain ⟨t,rfl⟩:=(show ∃ t,v=Value.str z t from r1)
  have q:R (Hg z) H1:=q1
  have fin:∀ (o:Obj) (n:String) (W:∀ A':Around,A'.handled=none->Walks X.prog X.w A' s1.heap.objs.size [s1.heap.objs.size] [s1.heap.objs.size] z.cps.size (SignAt z) (fun i h=>h.IsStrIter s1.heap.objs.size n z t i)),
    (∀ (A:Around) (i:Nat) (s:Shared) (Q:Value->Shared->Prop) (E:Value->Shared->Prop),s.heap.IsStrIter s1.heap.objs.size n z t i->Q (.ref s1.heap.objs.size) s->wpAny (model X.prog X.w) A (pyIter (.ref s1.heap.objs.size)) Q E s)->
    ["enumerate","zip","dict_itemiterator","dict_reverseitemiterator","odict_iterator","itertools.zip_longest","itertools.pairwise"].contains n=false->
    (s1.heap.push o).IsStrIter s1.heap.objs.size n z t 0->BP X pins σ tg R (.ref s1.heap.objs.size) {s1 with heap:=s1.heap.push o}:=by
   intro o n W Hh hn st
   refine ⟨s1.heap.objs.size,[s1.heap.objs.size],_,_,H1,rfl,I1.kept (t':=s1.toks) fun b o e=>Qc _ e,rV W Hh (fun i h st=>?_),st,fun b hb=>?_,q⟩
   ·obtain ⟨o,e,c,d⟩:=st
    exact ⟨o,n,_,e,c,d,hn⟩
   ·have e:b=s1.heap.objs.size:=by simpa using hb
    subst e
    exact I1.Ae (Qy _) (I1.hok.fresh (Qy _))
  cases ha:z.cps.all (· < 128)
  ·exact wpAny_pyIter_wide ha (fin _ _ (fun A' hA=>Walks.strWide hA _ z t) (fun A i s Q E st h=>wpAny_pyIter_striter_wide st h) (by decide) ⟨_,Qd _ rfl,rfl,rfl⟩)
  ·exact wpAny_pyIter_ascii ha (fin _ _ (fun A' hA=>Walks.strAscii hA _ z t) (fun A i s Q E st h=>wpAny_pyIter_striter_ascii st h) (by decide) ⟨_,Qd _ rfl,rfl,rfl⟩)
 | _=>exact (show False from q1).elim
def Bd (J:It) (ok:Hp->Prop) (n:Nat) (item:Nat->V):Prop:=
 ∀ H,ok H->(∀ i,i < n->J.go i H/\∀ x H',J.l_ i H x H'->H'=H/\x=item i)/\J.stop n H
theorem e8 {K:Q0} (xs:List V):Bd (GY K a) (fun H=>ak K H a xs) xs.length (fun i=>xs.getD i .ai):=fun H ok=>
 ⟨fun i hi=>⟨⟨xs,xs[i],ok,by simp [hi]⟩,fun x H' ⟨e,y⟩=>⟨e,by
  have:=y xs ok
  show x=xs.getD i V.ai
  rw [Qb,this];rfl⟩⟩,⟨xs,ok,Qy _⟩⟩
theorem dA {K:Q0} (xs:List V):Bd (GZ K a) (fun H=>af K H a xs) xs.length (fun i=>xs.getD i .ai):=fun H ok=>
 ⟨fun i hi=>⟨⟨xs,xs[i],ok,by simp [hi]⟩,fun x H' ⟨e,y⟩=>⟨e,by
  have:=y xs ok
  show x=xs.getD i V.ai
  rw [Qb,this];rfl⟩⟩,⟨xs,ok,Qy _⟩⟩
theorem iT (lo:Int) (n:Nat):Bd (EM lo n) (fun _=>True) n (fun i=>.int (lo+i)):=fun H _=>
 ⟨fun i hi=>⟨hi,fun x H' ⟨e,y⟩=>⟨e,y⟩⟩,Qy _⟩
theorem kJ {J:It} {ok:Hp->Prop} {item:Nat->V} {g:TG} {tc:TC} {τ0:St} {Q:Hp->Prop} (hJ:Bd J ok n item) (Pv:Nat->St->Hp->Prop) (h0:Pv 0 τ0 H0)
  (hok:∀ i τ H,i<=n->Pv i τ H->ok H)
  (hs:∀ i τ H,i < n->Pv i τ H->g (item i) τ H fun τ2 H2=>tc τ2 H2 fun b H3=>if b=true then te τ2 H3 fun y H4=>∃ xs,H4 D=some (.lst xs)/\xs.length < sizeLine/\Pv (i+1) τ2 (upd H4 D (.lst (xs++[y]))) else Pv (i+1) τ2 H3)
  (hd:∀ τ H,Pv n τ H->Q H):∃ W:Nat->Nat->St->Hp->Prop,(∃ m,W 0 m τ0 H0)/\∀ i m τ H,W i m τ H->
   (J.stop i H/\Q H)\/(J.go i H/\∃ N:St->Hp->Prop,(∀ τ' H',N τ' H'->∃ m',m' < m/\W (i+1) m' τ' H')/\∀ x H',J.l_ i H x H'->g x τ H' fun τ2 H2=>tc τ2 H2 fun b H3=>
    if b=true then te τ2 H3 fun y H4=>∃ xs,H4 D=some (.lst xs)/\xs.length < sizeLine/\N τ2 (upd H4 D (.lst (xs++[y]))) else N τ2 H3):=by
 refine ⟨fun i m τ H=>m=n - i/\i<=n/\Pv i τ H,⟨n,by simp,Nat.zero_le _,h0⟩,?_⟩
 rintro i m τ H ⟨rfl,hi,p⟩
 obtain ⟨k1,k2⟩:=hJ H (hok i τ H hi p)
 by_cases bc:i < n
 ·refine .inr ⟨(k1 i bc).1,Pv (i+1),fun σ' H' p'=>⟨n - (i+1),by omega,rfl,bc,p'⟩,fun x H' y=>?_⟩
  obtain ⟨e,e2⟩:=(k1 i bc).2 x H' y
  subst e e2
  exact hs i τ _ bc p
 ·have e:i=n:=by omega
  subst e
  exact .inl ⟨k2,hd τ H p⟩
theorem dU {J:It} {ok:Hp->Prop} {item:Nat->V} {g:TG} {tb:TS} {D:Ends} (hJ:Bd J ok n item) (Pv:Nat->St->Hp->Prop) (h0:Pv 0 σ H) (hok:∀ i τ H,i<=n->Pv i τ H->ok H)
  (hs:∀ i σ H,i < n->Pv i σ H->g (item i) σ H fun σ2 H2=>tb {D with nx:=Pv (i+1),ct:=Pv (i+1),bk:=D.nx} σ2 H2) (hd:∀ σ H,Pv n σ H->D.nx σ H):
  ∃ W:Nat->Nat->St->Hp->Prop,(∃ m,W 0 m σ H)/\∀ i m σ H,W i m σ H->
   (J.stop i H/\D.nx σ H)\/(J.go i H/\∃ N:St->Hp->Prop,(∀ σ' H',N σ' H'->∃ m',m' < m/\W (i+1) m' σ' H')/\∀ x H',J.l_ i H x H'->g x σ H' fun σ2 H2=>tb {D with nx:=N,ct:=N,bk:=D.nx} σ2 H2):=by
 refine ⟨fun i m σ H=>m=n - i/\i<=n/\Pv i σ H,⟨n,by simp,Nat.zero_le _,h0⟩,?_⟩
 rintro i m σ H ⟨rfl,hi,p⟩
 obtain ⟨k1,k2⟩:=hJ H (hok i σ H hi p)
 by_cases bc:i < n
 ·refine .inr ⟨(k1 i bc).1,Pv (i+1),fun σ' H' p'=>⟨n - (i+1),by omega,rfl,bc,p'⟩,fun x H' y=>?_⟩
  obtain ⟨e,e2⟩:=(k1 i bc).2 x H' y
  subst e e2
  exact hs i σ _ bc p
 ·have e:i=n:=by omega
  subst e
  exact .inl ⟨k2,hd σ H p⟩
def dz (K:Q0) (mg:Str->Option Value) (x:Str) (st:Stmt) (ps:List Str):Prop:=∃ (f:Addr) (fd:FuncData),Aj K x x st f fd/\mg x=some (.ref f)/\Binds K fd ps []
theorem dz.ok {P:Program} {w:World} {K:Q0} {mg:Str->Option Value} {base:Heap} {x:Str} {st:Stmt} {N ps:List Str} {k:Nat} {sp:Sp} (F:dz K mg x st ps) (S:ef N ps (be st)) (len:∀ vs H Q E,sp vs H Q E->vs.length=ps.length)
  (vp:∀ (f:Addr) (ay:Value) (A:Around) (outer:List Env) (s:Shared) (H:Hp) (vs:List V) (Q:VK) (E:XK),fm k (A.deeper (envOfC x (be st) s.heap.objs.size f ay))->sp vs H Q E->
   ∃ t,nj (xw x_ P w K mg base N x (be st) f ay A outer s H E).yx (jr st) t/\t {nx:=fun _ H'=>Q .ai H',rt:=Q} (start N vs) H):az P w K mg base (k+1) x ps sp:=by
 obtain ⟨f,fd,Fu,m,b⟩:=F
 exact ⟨f,fd,Fu.ok S len (vp f),m,Fu.kp,b,let ⟨oc,od,_,_,_,_,_,_,ky,_,lk,_⟩:=Fu.ex;⟨oc,od,ky,lk⟩⟩
section
variable {pos:Pos}
theorem RQ {v:V} (h:∃ u,X.mg x=some u/\RelV v u) (hg:Gl X x:=by rfl) (hd:(x==("__debug__":Str))=false:=by decide):PE X (.Name x pos) (tC v):=by
 obtain ⟨u,h1,h2⟩:=h
 exact jQ hg h1 h2 hd
def Fc (K:Q0) (xs:List V):TE:=fun _ H Q=>∀ a,af K H a xs->Q (.ref a) H
theorem RS {xs:List V} (h:∃ a,X.mg x=some (.ref a)/\∀ H,af X.K H a xs) (hg:Gl X x:=by rfl) (hd:(x==("__debug__":Str))=false:=by decide):PE X (.Name x pos) (Fc X.K xs):=by
 obtain ⟨a,h1,h2⟩:=h
 intro pins s σ H Q I q
 exact jQ (v:=.ref a) hg h1 rfl hd pins s σ H Q I (q a (h2 H))
theorem RU:qw X (fun x lo hi H Q=>Bc x lo hi H Q\/(Bb X.K x lo hi H Q\/Af X.K x lo hi H Q)):=RK.or (zW.or xP)
end
section
variable (K:Q0)
theorem bD (h:X.K=K:=by rfl):Ba X (B5 K):=by rw [<- h];exact RI
theorem rK (h:X.K=K:=by rfl):cj X (compareOp .In) (Fb K false):=by rw [<- h];exact RJ
theorem bP (h:X.K=K:=by rfl):vm X (.builtin "len") (Hf K):=by rw [<- h];exact uL
theorem uV (h:X.K=K:=by rfl):qw X (fun x lo hi H Q=>Bc x lo hi H Q\/(Bb K x lo hi H Q\/Af K x lo hi H Q)):=by rw [<- h];exact RU
theorem RW {l:Expr} {tl:TE} (hl:PE X l tl) (h:X.K=K:=by rfl):PI X tg l (iD K tl):=by rw [<- h];exact RP hl
theorem RX {pos:Pos} {xs:List V} (hx:∃ a,X.mg x=some (.ref a)/\∀ H,af K H a xs) (h:X.K=K:=by rfl) (hg:Gl X x:=by rfl) (hd:(x==("__debug__":Str))=false:=by decide):PE X (.Name x pos) (Fc K xs):=by
 subst h;exact RS hx hg hd
theorem zG {es:List Expr} {k:Nat} {t:vg} {pos:Pos} (hc:X.calm=true) (hh:BL X es t) (h:X.K=K:=by rfl)
  (hn:(assignEach es X.env).length=n:=by rfl) (yy:(assignEach es X.env).findIdx? (·.1)=none:=by rfl):PG X (.Tuple es k pos) (BO K n t):=by
 subst h;exact O1 hc hh hn yy
theorem RY {name:Str} {id:String} {r:V->List V->Hp->VK->Prop} {o:Expr} {es:List Expr} {t:TA} (pa:PlainAttrs T) (slot:Slot T name id) (Dd:typeOf (.builtin id)=pure (.type "method_descriptor")) (hm:E1 X id r) (ho:PE X o to) (ha:PA X (e::es) t) (h:X.K=K:=by rfl)
  (qz:attributeBase o name X.env (eval o X.env)=eval o X.env:=by rfl)
  (zf:((backTo cpos (starEach (e::es) X.env)).all (fun x=> !x.1)&&(backToKw cpos (keywordEach [] X.env)).all (fun x=>x.1.isSome)
   &&decide ((e::es).length+([]:List Keyword).length+(if ([]:List Keyword).isEmpty then 0 else 1) < 30))=true:=by rfl)
  (q_:(apos.endLine==cpos.line)=true:=by rfl) (hs:starEach (e::es) X.env=(false,eval e X.env)::starEach es X.env:=by rfl) (De:(backTo cpos (starEach es X.env)).any (·.1)=false:=by rfl):
  PE X (.Call (.Attribute o name apos) (e::es) [] cpos) (EZ K T r to t):=by
 subst h;exact Q7 pa slot Dd hm ho ha qz zf q_ hs De
end
structure SE (X:Cx) (e:Expr) (t:TE):Prop where
 h:PE X e t
structure ST (X:Cx) (e:Expr) (t:TT):Prop where
 h:PT X e t
structure SW (X:Cx) (e:Expr) (t:TT):Prop where
 h:PW X e t
structure SA (X:Cx) (es:List Expr) (t:TA):Prop where
 h:PA X es t
structure SS (X:Cx) (s:Stmt) (t:TS):Prop where
 h:PS X s t
structure SB (X:Cx) (s:List Stmt) (t:TS):Prop where
 h:nj X s t
structure SG (X:Cx) (e:Expr) (t:TG):Prop where
 h:PG X e t
structure Fd (X:Cx) (e:List Expr) (t:vg):Prop where
 h:BL X e t
structure SI (X:Cx) (tg e:Expr) (t:TI):Prop where
 h:PI X tg e t
structure SC (X:Cx) (e:List Expr) (t:TC):Prop where
 h:r_ X e t
structure SO (X:Cx) (e:Option Expr) (t:TO):Prop where
 h:PO X e t
section
variable {es:List Expr} {t:TA} {c:Const} {jd:Pos} {n:Str} {B6:List Expr} {f0 a0 b0 c0:Expr} {KW:List Keyword} {o0:Operator} {W':List (Option Expr)} {KZ:List Comprehension} {K0:Scope} {u0:UnaryOp} {Xa:BoolOp} {Xb:List CmpOp}
theorem aC:SA X [] xu:=⟨PY⟩
theorem aE (ha:SE X (.Constant c j jd) te) (hr:SA X es t):SA X (.Constant c j jd::es) (ik te t):=⟨dB ha.h hr.h⟩
theorem aB (ha:SE X (.Name n jd) te) (hr:SA X es t):SA X (.Name n jd::es) (ik te t):=⟨dB ha.h hr.h⟩
theorem z9 (ha:SE X (.List B6 jd) te) (hr:SA X es t):SA X (.List B6 jd::es) (ik te t):=⟨dB ha.h hr.h⟩
theorem bS (ha:SE X (.Tuple B6 j jd) te) (hr:SA X es t):SA X (.Tuple B6 j jd::es) (ik te t):=⟨dB ha.h hr.h⟩
theorem aU (ha:SE X (.Call f0 B6 KW jd) te) (hr:SA X es t):SA X (.Call f0 B6 KW jd::es) (ik te t):=⟨dB ha.h hr.h⟩
theorem g7 (ha:SE X (.BinOp a0 o0 b0 jd) te) (hr:SA X es t):SA X (.BinOp a0 o0 b0 jd::es) (ik te t):=⟨dB ha.h hr.h⟩
theorem aI (ha:SE X (.Subscript a0 b0 jd) te) (hr:SA X es t):SA X (.Subscript a0 b0 jd::es) (ik te t):=⟨dB ha.h hr.h⟩
theorem fS (ha:SE X (.ListComp a0 KZ K0 jd) te) (hr:SA X es t):SA X (.ListComp a0 KZ K0 jd::es) (ik te t):=⟨dB ha.h hr.h⟩
end
section
variable {a b c o i value lo hi iter elt:Expr} {ta tb tc td ty tv:TE} {t:TA} {pos p p2 pos' jd:Pos} {es:List Expr}
theorem zv (i:Nat) {pos:Pos} (hN:X.N[i]? =some x:=by rfl) (hv:BI X.env.scope x:=by first | exact Or.inl rfl | exact Or.inr (Or.inl rfl) | exact Or.inr (Or.inr rfl)) (hd:(x==("__debug__":Str))=false:=by decide) (jc:(x==("__classdict__":Str))=false:=by decide):SE X (.Name x pos) (tV i):=⟨Rz i hN hv hd jc⟩
theorem K1 {v:V} (h:∃ u,X.mg x=some u/\RelV v u) (hg:Gl X x:=by rfl) (hd:(x==("__debug__":Str))=false:=by decide):SE X (.Name x pos) (tC v):=⟨RQ h hg hd⟩
theorem RZ (K:Q0) {xs:List V} (hx:∃ a,X.mg x=some (.ref a)/\∀ H,af K H a xs) (h:X.K=K:=by rfl) (hg:Gl X x:=by rfl) (hd:(x==("__debug__":Str))=false:=by decide):SE X (.Name x pos) (Fc K xs):=⟨RX K hx h hg hd⟩
theorem mG {j}:SE X (.Constant .none j pos) (tC .ai):=⟨OP⟩
theorem kC {b:Bool} {j}:SE X (.Constant (.bool b) j pos) (tC (.bl b)):=⟨OO⟩
theorem aH {i:Int} {j}:SE X (.Constant (.int i) j pos) (tC (.int i)):=⟨ON⟩
theorem bB {j}:SE X (.Constant (.str x) j pos) (tC (.str x)):=⟨OQ⟩
theorem bT {op:Operator} {r:R2} (ho:cj X (binaryOp op) r) (ha:SE X a ta) (hb:SE X b tb):SE X (.BinOp a op b pos) (ko r ta tb):=⟨Pa ho ha.h hb.h⟩
theorem R0 {op:UnaryOp} {r:V->Hp->VK->Prop} (ho:EN X (unaryOp op) r) (ha:SE X a ta):SE X (.UnaryOp op a pos) (Kh r ta):=⟨Pb ho ha.h⟩
theorem sC {r:R2} (ho:cj X (compareOp op) r) (ha:SE X a ta) (hb:SE X b tb) (hm:behindInMarks op b=false):SE X (.Compare a [op] [b] pos) (ko r ta tb):=⟨PB ho ha.h hb.h hm⟩
theorem aY {r:R2} (ho:cj X (compareOp op) r) (ha:SE X a ta) (hb:SE X b tb) (hm:behindInMarks op b=false):ST X (.Compare a [op] [b] pos) (ER (ko r ta tb)):=⟨PF ho ha.h hb.h hm⟩
theorem nY (h:SE X e te) (he:∀ whole,isTrue e X.env whole=(do let v <- whole;standAt e.pos;holding [v] (truthy v)):=by intro _;rfl):ST X e (tB te):=⟨OS h.h he⟩
theorem tF {tA:TT} (ha:ST X a tA):ST X (.UnaryOp .Not a pos) (J' tA):=⟨OV ha.h⟩
theorem R1 {tA:TT} (ha:ST X a tA):SW X (.BoolOp .And [a] pos) tA:=⟨OT ha.h⟩
theorem R4 {tA C2:TT} {rest:List Expr} (ha:ST X a tA) (hb:SW X (.BoolOp .And (b::rest) pos) C2):SW X (.BoolOp .And (a::b::rest) pos) (J_ tA C2):=⟨OU ha.h hb.h⟩
theorem SW.pt {tA:TT} (h:SW X e tA):ST X e tA:=⟨h.h.pt⟩
theorem d5 (h:SA X es t):SE X (.List es pos) (Ko t):=⟨P0 h.h⟩
theorem bG {x1} (h:SA X es t):SE X (.Tuple es x1 pos) (ET t):=⟨PZ h.h⟩
theorem R5:SE X (.Dict [] [] pos) KJ:=⟨xN⟩
theorem dP:SO X none BU:=⟨Qu⟩
theorem dR (h:SE X e te):SO X (some e) (BV te):=⟨QF h.h⟩
theorem dL {r:V->Option Int->Option Int->Hp->VK->Prop} {l u:Option Expr} {tl th:TO} (hr:qw X r) (he:SE X e te) (hl:SO X l tl) (hu:SO X u th):SE X (.Subscript e (.Slice l u none p2) pos) (BX r te tl th):=⟨yF hr he.h hl.h hu.h⟩
theorem bL (hu:X.A.units+1 < cLine) (ho:SE X o td) (hi:SE X i ty) (hs:E4 i):SE X (.Subscript o i pos) (KH td ty):=⟨Rg hu ho.h hi.h hs⟩
theorem bE {r:R2} (hr:Ba X r) (ha:SE X a ta) (hb:SE X b tb) (hs:Kv b):SE X (.Subscript a b pos) (ko r ta tb):=⟨QO hr ha.h hb.h hs⟩
theorem bA {k:Nat} {sp:Sp} (F:az X.prog X.w X.K X.mg X.base k x ps sp) (hr:fm k X.A) (ha:SA X (e::es) t) (hg:Gl X x:=by rfl) (kq:(x==("__debug__":Str))=false:=by decide)
  (he:starEach (e::es) X.env=(false,eval e X.env)::starEach es X.env:=by rfl) (gr:(backTo pos (starEach es X.env)).any (·.1)=false:=by rfl):
  SE X (.Call (.Name x p) (e::es) [] pos) (C8 sp [] E0 t):=⟨RL F hr ha.h hg kq he gr⟩
theorem cL {id:String} {r:List V->Hp->VK->Prop} (hc:vm X (.builtin id) r) (hg:Gl X x) (hm:X.mg x=none) (hv:bootBuiltins x=some (.builtin id)) (ha:SA X (e::es) t) (hn:x≠"__name__":=by decide) (kq:(x==("__debug__":Str))=false:=by decide)
  (he:starEach (e::es) X.env=(false,eval e X.env)::starEach es X.env:=by rfl) (gr:(backTo pos (starEach es X.env)).any (·.1)=false:=by rfl):SE X (.Call (.Name x p) (e::es) [] pos) (A_ r t):=⟨wS hc hg hm hv ha.h hn kq he gr⟩
theorem mW (K:Q0) {name:Str} {id:String} {r:V->List V->Hp->VK->Prop} (pa:PlainAttrs T) (slot:Slot T name id) (Dd:typeOf (.builtin id)=pure (.type "method_descriptor")) (hm:E1 X id r) (ho:SE X o to) (ha:SA X (e::es) t) (h:X.K=K:=by rfl)
  (qz:attributeBase o name X.env (eval o X.env)=eval o X.env:=by rfl)
  (zf:((backTo cpos (starEach (e::es) X.env)).all (fun x=> !x.1)&&(backToKw cpos (keywordEach [] X.env)).all (fun x=>x.1.isSome)
   &&decide ((e::es).length+([]:List Keyword).length+(if ([]:List Keyword).isEmpty then 0 else 1) < 30))=true:=by rfl)
  (q_:(apos.endLine==cpos.line)=true:=by rfl) (hs:starEach (e::es) X.env=(false,eval e X.env)::starEach es X.env:=by rfl) (De:(backTo cpos (starEach es X.env)).any (·.1)=false:=by rfl):
  SE X (.Call (.Attribute o name apos) (e::es) [] cpos) (EZ K T r to t):=⟨RY K pa slot Dd hm ho.h ha.h h qz zf q_ hs De⟩
theorem bC:SB X [] EI:=⟨yV⟩
theorem aG {st:Stmt} {u:TS} (h1:SS X st u):SB X [st] u:=⟨z8 h1.h⟩
theorem aD {st:Stmt} {rest:List Stmt} {u v:TS} (h1:SS X st u) (h2:SB X rest v):SB X (st::rest) (xo u v):=⟨vQ h1.h h2.h⟩
theorem aQ (he:SE X e te):SS X (.Return (some e) pos) (BK te):=⟨OY he.h⟩
theorem eZ (he:SE X e te) (hs:swapsWith e none pos.line X.env=pure false:=by rfl):SS X (.Expr e pos) (GV te):=⟨OX he.h hs⟩
theorem cH {a b:List Stmt} {tA:TT} {u v:TS} (hc:ST X c tA) (ha:SB X a u) (hb:SB X b v):SS X (.If c a b pos) (EJ tA u v):=⟨OZ hc.h ha.h hb.h⟩
theorem gM {wi:TI} {g:TG} {u:TS} (hp:PassesOwn (model X.prog X.w) X.A X.env X.xe) (hc:X.calm=true) (hi:SI X tg iter wi) (hg:SG X tg g) (hb:SB X body u) (hs:∀ x,foldedSetIterable iter X.env x=pure x:=by intro _;rfl):SS X (.For tg iter body [] pos) (Kg wi g u):=⟨O9 hp hc hi.h hg.h hb.h hs⟩
theorem fF {tA:TT} {u:TS} (hp:PassesOwn (model X.prog X.w) X.A X.env X.xe) (hc:ST X c tA) (hb:SB X body u):SS X (.While c body [] pos) (Ke tA u):=⟨vZ hp hc.h hb.h⟩
theorem aP {i:Nat} (hN:X.N.Nodup) (hi:X.N[i]? =some x) (hx:Loc X.env.scope x) (he:SE X e te) (hs:swapsWith e (some (.Name x pos')) pos.line X.env=pure false:=by rfl) (hf:X.fn x=true\/X.env.scope.names.lookup x=some .local:=by first | exact .inl rfl | exact .inr rfl | assumption):
  SS X (.Assign [.Name x pos'] e pos) (yz te (nk i)):=⟨O4 hN hi hx he.h hs hf⟩
theorem rN (hu:X.A.units+1 < cLine) (ho:SE X o td) (hi:SE X i ty) (hv:SE X value tv) (hs:swapsWith value (some (.Subscript o i pos')) pos.line X.env=pure false):SS X (.Assign [.Subscript o i pos'] value pos) (KI td ty tv):=⟨Rh hu ho.h hi.h hv.h hs⟩
theorem lR {g:TG} (he:SE X e te) (hg:SG X tg g) (hs:swapsWithSole [tg] e pos.line X.env=pure false:=by rfl) (hw:swappedStores [tg] e X.env=pure none:=by rfl)
  (h1:(assignEach [tg] X.env).map (·.2)=[assign tg X.env]:=by rfl):SS X (.Assign [tg] e pos) (yz te g):=⟨O3 he.h hg.h hs hw h1⟩
theorem aL {i:Nat} (hN:X.N.Nodup) (hi:X.N[i]? =some x) (hx:Loc X.env.scope x) (hf:X.fn x=true\/X.env.scope.names.lookup x=some .local:=by first | exact .inl rfl | exact .inr rfl | assumption):SG X (.Name x pos) (nk i):=⟨zA hN hi hx hf⟩
theorem cA:Fd X [] EL:=⟨O0⟩
theorem aN {g:TG} {u:vg} (h1:SG X e g) (h2:Fd X es u) (hs:(assignEach (e::es) X.env).map (·.2)=assign e X.env::(assignEach es X.env).map (·.2):=by rfl):Fd X (e::es) (BN g u):=⟨xF h1.h h2.h hs⟩
theorem cZ (K:Q0) {k:Nat} {u:vg} (hc:X.calm=true) (hh:Fd X es u) (h:X.K=K:=by rfl)
  (hn:(assignEach es X.env).length=n:=by rfl) (yy:(assignEach es X.env).findIdx? (·.1)=none:=by rfl):SG X (.Tuple es k pos) (BO K n u):=⟨zG K hc hh.h h hn yy⟩
theorem wJ {u:EK} (ho:SE X o td) (hi:SE X i ty) (hs:GW X u)
  (ha:∀ v,assign (.Subscript o i pos) X.env v=(do
   let ov <- holding [v] (eval o X.env)
   let iv <- holding [v,ov] (eval i X.env)
   standAt pos
   holding [v,ov,iv] (setItem ov iv v)
   release [v,ov,iv] []):=by intro _;rfl):SG X (.Subscript o i pos) (Ka td ty u):=⟨O2 ho.h hi.h hs ha⟩
theorem kL (hg:Gl X "range") (hm:X.mg "range"=none) (ha:SA X [a] t) (hs:starEach [a] X.env=[(false,eval a X.env)]:=by rfl):SI X tg (.Call (.Name "range" p) [a] [] pos) (Kf t):=⟨uE hg hm ha.h hs⟩
theorem qF (K:Q0) (hl:SE X e te) (h:X.K=K:=by rfl):SI X tg e (iD K te):=⟨RW K hl.h h⟩
theorem fZ:SC X [] E_:=⟨Rt⟩
theorem K2 {tA:TT} (h:ST X c tA):SC X [c] tA:=⟨zV h.h⟩
theorem qA {wi:TI} {g:TG} {tt:TC} (S:oj X.env.scope X.N sc own idx N') (hc:X.calm=true) (hi:SI X tg iter wi)
  (hg:∀ cl C s3 H0 fp pn,SG (dh X N' sc cl C s3 H0 fp pn) tg g) (ht:∀ cl C s3 H0 fp pn,SC (dh X N' sc cl C s3 H0 fp pn) ifs tt) (he:∀ cl C s3 H0 fp pn,SE (dh X N' sc cl C s3 H0 fp pn) elt te)
  (hs:∀ x,foldedSetIterable iter X.env x=pure x:=by intro _;rfl):SE X (.ListComp elt [⟨tg,iter,ifs,0⟩] sc pos) (B3 own idx wi g tt te):=
 ⟨Rv S hc hi.h (fun q r s t u v=>(hg q r s t u v).h) (fun q r s t u v=>(ht q r s t u v).h) (fun q r s t u v=>(he q r s t u v).h) hs⟩
theorem R6 {wi:TI} {g:TG} {tt:TC} {i:Nat} {y:Str} {py spos:Pos} (S:oj X.env.scope X.N sc own idx N') (hc:X.calm=true) (hi:SI X tg iter wi)
  (hg:∀ cl C s3 H0 fp pn,SG (dh X N' sc cl C s3 H0 fp pn) tg g) (ht:∀ cl C s3 H0 fp pn,SC (dh X N' sc cl C s3 H0 fp pn) ifs tt) (he:∀ cl C s3 H0 fp pn,SE (dh X N' sc cl C s3 H0 fp pn) elt te)
  (hN:X.N.Nodup) (B4:X.N[i]? =some y) (hy:X.env.scope.names.lookup y=some .local)
  (G9:swapsWith (.ListComp elt [⟨tg,iter,ifs,0⟩] sc pos) (some (.Name y py)) spos.line X.env=pure true:=by rfl)
  (hs:∀ x,foldedSetIterable iter X.env x=pure x:=by intro _;rfl):SS X (.Assign [.Name y py] (.ListComp elt [⟨tg,iter,ifs,0⟩] sc pos) spos) (yz (B3 own idx wi g tt te) (nk i)):=
 ⟨Rw S hc hi.h (fun q r s t u v=>(hg q r s t u v).h) (fun q r s t u v=>(ht q r s t u v).h) (fun q r s t u v=>(he q r s t u v).h) hN B4 hy G9 hs⟩
end
theorem dz.fz {K:Q0} {st:Stmt} {k:Nat} {sp:Sp} (F:dz K mg x st ps) (S:ef N ps (be st)) (len:∀ vs H Q E,sp vs H Q E->vs.length=ps.length)
  (vp:∀ (f:Addr) (ay:Value) (A:Around) (outer:List Env) (s:Shared) (H:Hp) (vs:List V) (Q:VK) (E:XK),fm k (A.deeper (envOfC x (be st) s.heap.objs.size f ay))->sp vs H Q E->
   ∃ t,SB (xw x_ P w K mg base N x (be st) f ay A outer s H E).yx (jr st) t/\t {nx:=fun _ H'=>Q .ai H',rt:=Q} (start N vs) H):az P w K mg base (k+1) x ps sp:=
 F.ok S len fun f ay A outer s H vs Q E hr h=>let ⟨t,h1,h2⟩:=vp f ay A outer s H vs Q E hr h;⟨t,h1.h,h2⟩
theorem K3 {kx vx target iter:Expr} {scope:Scope} {pos:Pos} {it:Value} (I:Nat->Shared->Prop)
  (turn:∀ n s,I n s->wpAny (model prog w) A (pyNext it) (fun r s₁=>match r with
   | none=>R (.ok .next) s₁
   | some v=>wpAny (model prog w) A (letOwnedTupleGo target it v) (fun _ Dg=>wpAny (model prog w) A (assign target env v) (fun _ s₂=>
     wpAny (model prog w) A (forIn ifs true fun c r=>if r=true then do let ok <- isTrue c env (eval c env);pure (ForInStep.yield ok) else pure (ForInStep.yield r)) (fun ok s₃=>
      if ok=true then wpAny (model prog w) A (eval kx env) (fun kv s₄=>wpAny (model prog w) A (eval vx env) (fun vv s₅=>
       wpAny (model prog w) A (dictSet D kv vv) (fun _ s₆=>∃ m,m < n/\I m s₆) jk s₅) jk s₄) jk s₃
      else ∃ m,m < n/\I m s₃) jk s₂) jk Dg) jk s₁) jk s)
  (n:Nat) (h:I n s):
  codeAny (model prog w) A (.compLoop (.DictComp kx vx [⟨target,iter,ifs,0⟩] scope pos) 0 it (.ref D) env) R s:=by
 refine codeAny_loop rfl I (fun n s hI=>?_) n h
 show wpAny _ A ((compTurn (.DictComp kx vx [⟨target,iter,ifs,0⟩] scope pos) 0 it (.ref D) env).onRaise (fun x=>do noteFrame x env;theTreesLotGoes x)) _ _ s
 refine wpAny_noted ?_
 rw [compTurn_dict]
 refine QT (wpAny_standAt (QT (wpAny_mono (turn n s hI) (fun r s₁ h₁=>?_) fun _ _ h'=>h'.elim)))
 cases r with
 | none=>exact QU h₁
 | some v=>
  refine QT (wpAny_mono h₁ (fun _ Dg G8=>?_) fun _ _ h'=>h'.elim)
  refine QT (wpAny_mono G8 (fun _ s₂ h₂=>QT (wpAny_mono h₂ (fun ok s₃ h₃=>?_) fun _ _ h'=>h'.elim)) fun _ _ h'=>h'.elim)
  cases ok with
  | false=>exact QU ⟨rfl,h₃⟩
  | true=>
   exact QT (QT (wpAny_mono h₃ (fun kv s₄ h₄=>QT (wpAny_holding (wpAny_mono h₄ (fun vv s₅ h₅=>QT (wpAny_standAt (wpAny_holding (wpAny_mono h₅ (fun _ s₆ h₆=>QU ⟨rfl,h₆⟩) fun _ _ h'=>h'.elim)))) fun _ _ h'=>h'.elim))) fun _ _ h'=>h'.elim))
section
variable {iter kx vx:Expr} {pos:Pos} {wi:TI} {g:TG} {tc:TC} {tk tw:TE}
abbrev iq:Obj:={cls:=.type "dict",data:=.dict #[]}
def K4 (own:List Str) (idx:List Nat) (wi:TI) (g:TG) (tc:TC) (tk tw:TE):TE:=fun σ H Q=>wi σ H fun J H1=>∀ D,H1 D=none->∃ W:Nat->Nat->St->Hp->Prop,(∃ m,W 0 m (rm own idx σ) (upd H1 D (.dK [])))/\∀ i m τ H,W i m τ H->
 (J.stop i H/\Q (.ref D) H)\/(J.go i H/\∃ N:St->Hp->Prop,(∀ τ' H',N τ' H'->∃ m',m' < m/\W (i+1) m' τ' H')/\∀ x H',J.l_ i H x H'->g x τ H' fun τ2 H2=>tc τ2 H2 fun b H3=>
  if b=true then tk τ2 H3 fun x H4=>tw τ2 H4 fun y H5=>∃ kvs key,x=kV key/\H5 D=some (.dK kvs)/\kvs.length < sizeLine/\N τ2 (upd H5 D (.dK (putK kvs key y))) else N τ2 H3)
theorem pP (S:oj X.env.scope X.N sc own idx N') (c1:∀ x c,cl.lookup x=some c->X.env.cells.lookup x=some c) (c2:∀ y∈sc.names,y.2=.free->∃ c,cl.lookup y.1=some c) (hc:X.calm=true)
  (hg:∀ cl C s3 H0 fp pn,PG (dh X N' sc cl C s3 H0 fp pn) tg g) (ht:∀ cl C s3 H0 fp pn,r_ (dh X N' sc cl C s3 H0 fp pn) ifs tc) (he:∀ cl C s3 H0 fp pn,PE (dh X N' sc cl C s3 H0 fp pn) kx tk) (hv:∀ cl C s3 H0 fp pn,PE (dh X N' sc cl C s3 H0 fp pn) vx tw)
  {pins:List (Addr×Obj)} {σ:St} {Q:VK} {nu:Value} {s2:Shared} {RR:Value->Addr->Result->Shared->Prop} {E:Value->Shared->Prop}
  (hI:BP X pins σ tg (fun J H1=>∀ D,H1 D=none->∃ W:Nat->Nat->St->Hp->Prop,(∃ m,W 0 m (rm own idx σ) (upd H1 D (.dK [])))/\∀ i m τ H,W i m τ H->
   (J.stop i H/\Q (.ref D) H)\/(J.go i H/\∃ N:St->Hp->Prop,(∀ τ' H',N τ' H'->∃ m',m' < m/\W (i+1) m' τ' H')/\∀ x H',J.l_ i H x H'->g x τ H' fun τ2 H2=>tc τ2 H2 fun b H3=>
    if b=true then tk τ2 H3 fun x H4=>tw τ2 H4 fun y H5=>∃ kvs key,x=kV key/\H5 D=some (.dK kvs)/\kvs.length < sizeLine/\N τ2 (upd H5 D (.dK (putK kvs key y))) else N τ2 H3)) nu s2)
  (Dh:∀ D C H' s',Inv X pins σ H' s'->Q (.ref D) H'->(H' C=none/\C≠X.env.locals/\X.s₀.heap.objs.size<=C/\(∀ x c,X.env.cells.lookup x=some c->c≠C)/\(∀ p∈X.pn++pins,p.1≠C)/\∃ m,s'.heap.Ns C m)->RR (.ref D) C (.ok .next) s'):
  wpAny (model X.prog X.w) X.A newDict (fun acc s₃=>wpAny (model X.prog X.w) X.A (newFunctionEnv sc X.env.globals cl [] X.env.qual none .none (some X.env)) (fun cenv s₄=>
   codeAny (model X.prog X.w) X.A (.compStart (.DictComp kx vx [⟨tg,iter,ifs,0⟩] sc pos) 0 nu acc {cenv with scope:=relabel sc X.env}) (RR acc cenv.locals) s₄) E s₃) E s2:=by
 obtain ⟨it,fp,tn,J,H2,rfl,I,T,qp,f2,body⟩:=hI
 refine wpAny_newObj_type (wpAny_newFunctionEnv S.cell (by intro y hy;simp at hy) (fun h4 ns sb=>?_) S.kind)
 dsimp only at ns sb ⊢
 have vq:iq.isFreed=false:=rfl
 have fr:H2 s2.heap.objs.size=none:=I.hok.fresh (Qy _)
 obtain ⟨W,⟨m0,w0⟩,turn⟩:=body _ fr
 have rn:∀ b∈fp,∃ o,s2.heap.get? b=some o:=fun b hb=>let ⟨o,e,_⟩:=T.obj _ _ qp b hb;⟨o,e⟩
 have yd:∀ b o,(s2.heap.push iq).get? b=some o->h4.get? b=some o:=fun b o e=>(sb.2 b (Nat.ne_of_lt (Qz e))).trans (Qc _ e)
 have Di:∀ (H:Hp) (h:Heap),h.get? s2.heap.objs.size=some iq->b_ X.prog X.w H h s2.heap.objs.size (.dK []):=fun H h e=>⟨Nat.zero_le _,beq_eq_false_iff_ne.mpr (Ne.symm (Nat.ne_of_lt I.big)),[],.nil,(Heap.DictOf.new s2.heap).at fun o eo=>by rw [Qd _ rfl] at eo;cases eo;exact e⟩
 have I4:Inv (dh X N' sc cl (s2.heap.push iq).objs.size {s2 with heap:=s2.heap.push iq} (upd H2 s2.heap.objs.size (.dK [])) fp (X.pn++pins)) [] (rm own idx σ) (upd H2 s2.heap.objs.size (.dK [])) {s2 with heap:=h4,toks:=s2.toks+([]:List (Str×Value)).length}:=
  jS S I f2 rn c1 c2 vq Di ns yd
 -- A6 KQ own context
 generalize hY:dh X N' sc cl (s2.heap.push iq).objs.size {s2 with heap:=s2.heap.push iq} (upd H2 s2.heap.objs.size (.dK [])) fp (X.pn++pins)=Y at I4
 have Dj:PG Y tg g:=by rw [<- hY];exact hg _ _ _ _ _ _
 have Dk:r_ Y ifs tc:=by rw [<- hY];exact ht _ _ _ _ _ _
 have Dl:PE Y kx tk:=by rw [<- hY];exact he _ _ _ _ _ _
 have Hj:PE Y vx tw:=by rw [<- hY];exact hv _ _ _ _ _ _
 have pY:Y.prog=X.prog:=by rw [<- hY]
 have wY:Y.w=X.w:=by rw [<- hY]
 have KY:Y.K=X.K:=by rw [<- hY]
 have AY:Y.A=X.A:=by rw [<- hY]
 have cY:Y.calm=true:=by rw [<- hY];exact hc
 have xY:Y.xe=fun _ _=>False:=by rw [<- hY]
 have eY:Y.env=compEnvC sc cl (s2.heap.push iq).objs.size X.env:=by rw [<- hY]
 have Dm:Y.ex=fp:=by rw [<- hY]
 have Dn:Y.fs=kj X.stack:=by rw [<- hY]
 have Dp:Y.pn=X.pn++pins:=by rw [<- hY]
 have n_:∀ {H':Hp},(∀ b∈fp,H' b=none)->∀ b∈fp,pe Y [] H' b:=fun hn b hb=>by
  obtain ⟨f0,f1,f3,f4,f5,f6⟩:=f2 b hb
  refine ⟨hn b hb,?_,?_,.inl (by rw [Dm];exact hb),fun x c e=>?_,fun p hp=>?_⟩
  ·obtain ⟨o,e⟩:=rn b hb
   have:=Qz e
   rw [eY]
   show b≠(s2.heap.push iq).objs.size
   rw [Heap.size_push];exact Nat.ne_of_lt (Nat.lt_succ_of_lt this)
  ·rw [Dn]
   intro z
   rcases Qp.mp (I.A2 b z) with z | z
   ·exact f1 z
   ·exact f3 z
  ·rw [eY] at e
   exact f5 x c (c1 x c e)
  ·rw [Dp,List.append_nil] at hp
   exact f6 p hp
 have Am:tn 0 h4:=T.keep _ _ _ qp fun b hb o e=>yd b o (Qc _ e)
 have Dq:∀ b∈fp,upd H2 s2.heap.objs.size (.dK []) b=none:=fun b hb=>by
  obtain ⟨o,e⟩:=rn b hb
  rw [aF (Nat.ne_of_lt (Qz e))]
  exact (f2 b hb).1
 have loop:codeAny (model X.prog X.w) X.A (.compLoop (.DictComp kx vx [⟨tg,iter,ifs,0⟩] sc pos) 0 (.ref it) (.ref s2.heap.objs.size) (compEnvC sc cl (s2.heap.push iq).objs.size X.env))
   (RR (.ref s2.heap.objs.size) (s2.heap.push iq).objs.size) {s2 with heap:=h4,toks:=s2.toks+([]:List (Str×Value)).length}:=by
  refine K3 (fun n s'=>∃ i τ H',Inv Y [] τ H' s'/\tn i s'.heap/\(∀ b∈fp,H' b=none)/\W i n τ H') ?_ m0 ⟨0,_,_,I4,Am,Dq,w0⟩
  rintro n s3 ⟨i,τ3,H3,I3,vh,vj,w3⟩
  rcases turn i n τ3 H3 w3 with ⟨stop,qn⟩ | ⟨go,N,hN,step⟩
  ·have h:=T.done Y pY wY KY cY i [] s3 τ3 H3 jk I3 (n_ vj) vh stop
   rw [AY] at h
   refine au h ?_
   rintro r s4 ⟨hr,Dr⟩
   subst hr
   have J4:=Dr
   rw [<- hY] at J4
   obtain ⟨b1,b2⟩:=iU I f2 vq J4
   exact Dh _ _ _ _ b1 qn b2
  ·have h:=T.item Y pY wY KY cY i [] s3 τ3 H3 jk I3 (n_ vj) vh go
   rw [AY] at h
   refine au h ?_
   rintro r s4 ⟨u,hr,Ds⟩
   subst hr
   refine au Ds ?_
   rintro _ s5 ⟨x,H5,I5,r5,y5,oh,A7⟩
   have A8:=I5.pinned (n_ A7) (T.obj _ _ oh)
   have g5:=Dj _ s5 τ3 H5 x u _ A8 r5 (step x H5 y5)
   rw [pY,wY,AY,xY,eY] at g5
   refine au g5 ?_
   rintro _ s6 ⟨τ6,H6,I6,q6⟩
   have t6:=Dk _ s6 τ6 H6 _ I6 q6
   rw [pY,wY,AY,xY,eY] at t6
   refine au t6 ?_
   rintro ok s7 ⟨H7,I7,q7⟩
   have again:∀ {τ8:St} {H8:Hp} {s8:Shared},Inv Y ([]++A5 fp s5.heap) τ8 H8 s8->N τ8 H8->∃ m,m < n/\∃ i τ' H',Inv Y [] τ' H' s8/\tn i s8.heap/\(∀ b∈fp,H' b=none)/\W i m τ' H':=fun {τ8 H8 s8} I8 n8=>by
    obtain ⟨m',hm,w8⟩:=hN τ8 H8 n8
    refine ⟨m',hm,i+1,τ8,H8,I8.BQ,T.keep _ _ _ oh fun b hb o e=>(I8.pin (b,o) (List.mem_append_right _ (List.mem_append_right _ (bU hb e)))).1,fun b hb=>?_,w8⟩
    obtain ⟨o,e,d⟩:=T.obj _ _ oh b hb
    exact (I8.pin (b,o) (List.mem_append_right _ (List.mem_append_right _ (bU hb e)))).2.1
   cases ok with
   | false=>
    rw [if_neg (by decide)] at q7 ⊢
    exact again I7 q7
   | true=>
    rw [if_pos rfl] at q7 ⊢
    have e7:=Dl _ s7 τ6 H7 _ I7 q7
    rw [pY,wY,AY,xY,eY] at e7
    refine au e7 ?_
    rintro kv s8 ⟨x8,H8,I8,r8,q8⟩
    have v8:=Hj _ s8 τ6 H8 _ I8 q8
    rw [pY,wY,AY,xY,eY] at v8
    refine au v8 ?_
    rintro yv s9 ⟨y9,H9,I9,r9,kvs,key,ek,B7,hz,n9⟩
    subst ek
    obtain ⟨z,hd,vs,rel,dd⟩:=KC I9.hok B7
    have Du:vs.length<=sizeLine:=by rw [<- rel.length];exact z
    have fg:(putK kvs key y9).length<=sizeLine:=by have:=cR kvs key y9;omega
    rw [pY,wY] at dd
    refine wpAny_dictSet_pairs (hsz:=Du) (jB r8) dd fun h' rf hs=>?_
    have R7:∃ q,h'.get? s2.heap.objs.size=some q:=let ⟨q,_,_,hq,_⟩:=rf;⟨q,hq⟩
    rw [<- pY,<- wY] at rf
    have Hl:=jL (t':=s9.toks+1) (ob:=.dK (putK kvs key y9)) I9 (by rw [B7];exact True.intro) hs R7 (xZ fg hd (rel.put key r9) rf)
    exact again Hl n9
 exact codeAny_compStart_dict loop (T.self _ 0 _ _ _ Am loop)
theorem R8 (S:oj X.env.scope X.N sc own idx N') (hc:X.calm=true) (hi:PI X tg iter wi)
  (hg:∀ cl C s3 H0 fp pn,PG (dh X N' sc cl C s3 H0 fp pn) tg g) (ht:∀ cl C s3 H0 fp pn,r_ (dh X N' sc cl C s3 H0 fp pn) ifs tc) (he:∀ cl C s3 H0 fp pn,PE (dh X N' sc cl C s3 H0 fp pn) kx tk) (hv:∀ cl C s3 H0 fp pn,PE (dh X N' sc cl C s3 H0 fp pn) vx tw)
  (hs:∀ x,foldedSetIterable iter X.env x=pure x:=by intro _;rfl):PE X (.DictComp kx vx [⟨tg,iter,ifs,0⟩] sc pos) (K4 own idx wi g tc tk tw):=by
 intro pins s σ H Q I h
 obtain ⟨cl,sd,c1,c2⟩:=S.closure I.ok
 show wpAny _ X.A (comprehension (.DictComp kx vx [⟨tg,iter,ifs,0⟩] sc pos) sc X.env _ newDict false (eval iter X.env)) _ _ s
 refine wpAny_comprehension_free (use:=none) rfl hs sd S.kind S.names (au (hi pins s σ H _ I h) fun v s1 h1=>au h1 fun nu s2 h2=>?_)
 refine pP (Q:=Q) (pins:=pins) (σ:=σ) (RR:=fun acc C=>compPost (model X.prog X.w) X.A X.xe none (EP X pins σ Q) acc C) S c1 c2 hc hg ht he hv h2 ?_
 intro D C H' s' I' q ⟨a1,a2,a3,a4,a5,m,a6⟩
 exact ⟨m,a6,fun h' sb=>⟨.ref D,H',I'.turned (t':=s'.toks) (fun b o hb e=>(sb.2 b hb).trans e) a1 (Ne.symm (Ne.symm a2)) (.inr a3) a4 a5,rfl,q⟩⟩
theorem zZ (S:oj X.env.scope X.N sc own idx N') (hc:X.calm=true) (hi:SI X tg iter wi)
  (hg:∀ cl C s3 H0 fp pn,SG (dh X N' sc cl C s3 H0 fp pn) tg g) (ht:∀ cl C s3 H0 fp pn,SC (dh X N' sc cl C s3 H0 fp pn) ifs tc) (he:∀ cl C s3 H0 fp pn,SE (dh X N' sc cl C s3 H0 fp pn) kx tk) (hv:∀ cl C s3 H0 fp pn,SE (dh X N' sc cl C s3 H0 fp pn) vx tw)
  (hs:∀ x,foldedSetIterable iter X.env x=pure x:=by intro _;rfl):SE X (.DictComp kx vx [⟨tg,iter,ifs,0⟩] sc pos) (K4 own idx wi g tc tk tw):=
 ⟨R8 S hc hi.h (fun q r s t u v=>(hg q r s t u v).h) (fun q r s t u v=>(ht q r s t u v).h) (fun q r s t u v=>(he q r s t u v).h) (fun q r s t u v=>(hv q r s t u v).h) hs⟩
end
theorem aa.upd {H:Hp} {a:Addr} (h:H a=none) (o:HO):aa H (upd H a o):=fun b u q=>by rw [aF (aK q h)];exact q
theorem ic {c:Bool} {A B:Prop} (h1:c=true->A) (h2:c=false->B):if c=true then A else B:=by
 cases c with
 | true=>exact yc (h1 rfl)
 | false=>exact mh (h2 rfl)
theorem aO {t u:TS} {D:Ends} (mid:St->Hp->Prop) (h1:∀ nx:St->Hp->Prop,(∀ σ' H',mid σ' H'->nx σ' H')->t {D with nx:=nx} σ H) (h2:∀ σ' H',mid σ' H'->u D σ' H'):xo t u D σ H:=h1 (u D) h2
theorem aR (x:α) (xs:List α):jj (x::xs) 0=some x:=d6 (j:=0) rfl
theorem kP (xs:List α) (i:Int) (h0:0<=i) (h1:i < xs.length):∃ c,xs[i.toNat]? =some c/\jj xs i=some c:=by
 have hl:i.toNat < xs.length:=by omega
 refine ⟨xs[i.toNat],by simp [hl],?_⟩
 have:=d6 (xs:=xs) (j:=i.toNat) (v:=xs[i.toNat]) (by simp [hl])
 rw [<- this]
 congr 1
 omega
theorem fY (ns:List Str) (i:Nat) (h:i < ns.length):(ns.map V.str).getD i .ai=.str (ns.getD i ""):=by
 simp [Qb,h]
abbrev R9 (w:Addr) (m t:Int):List (Key×V):=[(.inr "mixed",.int m),(.inr "turn",.int t),(.inr "wide",.ref w)]
structure An (H:Hp) (p w:Addr) (t:Nat):Prop where
 ex:∃ (m c:Int) (ws:List Int),H p=some (.dK (R9 w m c))/\H w=some (.lst (ws.map V.int))/\(0<=m/\m < 2147483629)/\0<=c/\c<=(t:Int)
def Sm (p w:Addr) (H H':Hp):Prop:=∀ b o,H b=some o->b≠p->b≠w->H' b=some o
theorem Sm.trans {w:Addr} {H1 H2:Hp} (a:Sm p w H H1) (b:Sm p w H1 H2):Sm p w H H2:=fun c o h h1 h2=>b c o (a c o h h1 h2) h1 h2
theorem aa.sm {w:Addr} {H1:Hp} (a:aa H H1):Sm p w H H1:=fun c o h _ _=>a c o h
theorem An.same {w:Addr} {t:Nat} (h:An H p w t) (s:aa H H'):An H' p w t:=by
 obtain ⟨m,c,ws,h1,h2,r⟩:=h.ex
 exact ⟨m,c,ws,s _ _ h1,s _ _ h2,r⟩
theorem Sm.free {w:Addr} (s:Sm p w H H') (h:H' l=none) (hp:l≠p) (hw:l≠w):H l=none:=by
 cases q:H l with
 | none=>rfl
 | some o=>rw [s l o q hp hw] at h;cases h
theorem An.upd {H:Hp} {p w D:Addr} {t:Nat} {o:HO} (h:An H p w t) (h1:D≠p) (h2:D≠w):An (upd H D o) p w t:=by
 obtain ⟨m,c,ws,e1,e2,r⟩:=h.ex
 exact ⟨m,c,ws,by rw [aF h1.symm];exact e1,by rw [aF h2.symm];exact e2,r⟩
theorem Sm.upd {p w D:Addr} {H H':Hp} {o:HO} (s:Sm p w H H') (h:H D=none):Sm p w H (upd H' D o):=fun b u hb h1 h2=>by rw [aF (aK hb h)];exact s b u hb h1 h2
def Dv (p w:Addr) (H:Hp):V->Prop
 | .ai=>True
 | .bl _=>True
 | .int _=>True
 | .str z=>z.length<=100000
 | .ref a=>a≠p/\a≠w/\((∃ xs,H a=some (.lst xs))\/(∃ xs,H a=some (.tup xs))\/∃ kvs,H a=some (.dK kvs))
 | _=>False
theorem Dv.sm {w:Addr} {x:V} (h:Dv p w H x) (s:Sm p w H H'):Dv p w H' x:=by
 cases x with
 | ref a=>
  obtain ⟨h1,h2,h3⟩:=h
  refine ⟨h1,h2,?_⟩
  rcases h3 with ⟨xs,e⟩ | ⟨xs,e⟩ | ⟨xs,e⟩
  ·exact .inl ⟨xs,s _ _ e h1 h2⟩
  ·exact .inr (.inl ⟨xs,s _ _ e h1 h2⟩)
  ·exact .inr (.inr ⟨xs,s _ _ e h1 h2⟩)
 | _=>exact h
structure zg (p w:Addr) (t:Nat) (H:Hp) (xs:List V):Prop where
 K5:An H p w t
 all:∀ x∈xs,Dv p w H x
section
variable {w:Addr} {t u:Nat} {xs ys:List V}
theorem zg.sm (g:zg p w t H xs) (hp:An H' p w u) (s:Sm p w H H'):zg p w u H' xs:=⟨hp,fun x hx=>(g.all x hx).sm s⟩
theorem zg.upd {q:Addr} {o:HO} (g:zg p w t H xs) (h:H q=none):zg p w t (upd H q o) xs:=g.sm (g.K5.same (aa.upd h o)) (aa.upd h o).sm
theorem zg.add {x:V} (g:zg p w t H xs) (h:Dv p w H x):zg p w t H (x::xs):=⟨g.K5,fun y hy=>by
 rcases Qp.mp hy with e | hy
 ·rw [e];exact h
 ·exact g.all y hy⟩
end
section
variable {p pos:Pos} {es:List Expr} {t:TA}
theorem cJ {r:List V->Hp->VK->Prop} (hc:vm X (.type T) r) (hg:Gl X x) (hm:X.mg x=none) (hv:bootBuiltins x=some (.type T)) (ha:SA X (e::es) t) (hn:x≠"__name__":=by decide) (kq:(x==("__debug__":Str))=false:=by decide)
  (he:starEach (e::es) X.env=(false,eval e X.env)::starEach es X.env:=by rfl) (gr:(backTo pos (starEach es X.env)).any (·.1)=false:=by rfl):SE X (.Call (.Name x p) (e::es) [] pos) (A_ r t):=⟨u5 hc hg hm hv ha.h hn kq he gr⟩
def K6 (K:Q0):List V->Hp->VK->Prop:=fun xs H Q=>∃ p ys,xs=[.ref p]/\((ak K H p ys/\∀ l,H l=none->Q (.ref l) (upd H l (.tup ys)))\/(af K H p ys/\Q (.ref p) H))
def Ho (K:Q0):List V->Hp->VK->Prop:=fun xs H Q=>∃ p ys,xs=[.ref p]/\(ak K H p ys\/af K H p ys)/\∀ l,H l=none->Q (.ref l) (upd H l (.lst ys))
theorem cN (K:Q0) (h:X.K=K:=by rfl):vm X (.type "tuple") (K6 K):=by subst h;exact lJ
theorem lK (K:Q0) (h:X.K=K:=by rfl):vm X (.type "list") (Ho K):=by subst h;exact mO
end
mutual
inductive ue (H:Hp):V->PyData->Prop
 | ai:ue H .ai .none
 | bl (b:Bool):ue H (.bl b) (.bool b)
 | int (i:Int):ue H (.int i) (.int i)
 | str (z:Str):ue H (.str z) (.str z)
 | tup {a:Addr} {xs:List V} {ds:List PyData}:H a=some (.tup xs)->uf H xs ds->ue H (.ref a) (.tuple ds)
 | lst {a:Addr} {xs:List V} {ds:List PyData}:H a=some (.lst xs)->uf H xs ds->ue H (.ref a) (.list ds)
inductive uf (H:Hp):List V->List PyData->Prop
 | nil:uf H [] []
 | cons {x:V} {d:PyData} {xs:List V} {ds:List PyData}:ue H x d->uf H xs ds->uf H (x::xs) (d::ds)
end
mutual
theorem ue.same {H H':Hp} (s:aa H H'):∀ {x:V} {d:PyData},ue H x d->ue H' x d
 | _,_,.ai=>.ai
 | _,_,.bl b=>.bl b
 | _,_,.int i=>.int i
 | _,_,.str z=>.str z
 | _,_,.tup e r=>.tup (s _ _ e) (uf.same s r)
 | _,_,.lst e r=>.lst (s _ _ e) (uf.same s r)
theorem uf.same {H H':Hp} (s:aa H H'):∀ {xs:List V} {ds:List PyData},uf H xs ds->uf H' xs ds
 | _,_,.nil=>.nil
 | _,_,.cons a r=>.cons (ue.same s a) (uf.same s r)
end
mutual
theorem vP {P:Program} {w:World} {H:Hp} {h:Heap} (ok:e_ P w H h):∀ {x:V} {d:PyData} {u:Value},ue H x d->RelV x u->∃ as,Reads h u d as
 | _,_,_,.ai,r=>by cases (show _=Value.none from r);exact ⟨[],.none⟩
 | _,_,_,.bl b,r=>by cases (show _=Value.bool b from r);exact ⟨[],.bool b⟩
 | _,_,_,.int i,r=>by obtain ⟨t,rfl⟩:=(show ∃ t,_=Value.int i t from r);exact ⟨[],.int i t⟩
 | _,_,_,.str z,r=>by obtain ⟨t,rfl⟩:=(show ∃ t,_=Value.str z t from r);exact ⟨[],.str z t⟩
 | _,_,_,.tup (a:=a) (xs:=xs) e l,r=>by
  cases (show _=Value.ref a from r)
  obtain ⟨_,its,rv,o,ho,hc,n,hd⟩:=(show b_ P w H h a (.tup xs) from ok a _ e)
  obtain ⟨as,ra⟩:=gA ok l rv
  exact ⟨as,.tuple ho hc hd (by simpa using ra)⟩
 | _,_,_,.lst (a:=a) (xs:=xs) e l,r=>by
  cases (show _=Value.ref a from r)
  obtain ⟨_,its,n,rv,ho⟩:=(show b_ P w H h a (.lst xs) from ok a _ e)
  obtain ⟨as,ra⟩:=gA ok l rv
  exact ⟨a::as,.list ho rfl rfl (by simpa using ra)⟩
theorem gA {P:Program} {w:World} {H:Hp} {h:Heap} (ok:e_ P w H h):∀ {xs:List V} {ds:List PyData} {us:List Value},uf H xs ds->a_ xs us->∃ as,ReadsAll h us ds as
 | _,_,_,.nil,.nil=>⟨[],.nil⟩
 | _,_,_,.cons a l,.cons r rs=>by
  obtain ⟨as,ra⟩:=vP ok a r
  obtain ⟨bs,rb⟩:=gA ok l rs
  exact ⟨as++bs,.cons ra rb⟩
end
def Fe (n:Bool):R2:=fun x y H Q=>match x,y with
 | .bl a,.bl b=>Q (.bl (n^^(a==b))) H
 | x,.ai=>Q (.bl (n^^decide (x=.ai))) H
 | _,_=>False
theorem w5:cj X (compareOp .Is) (Fe false):=by
 intro pins s σ H x y v u Q I rx ry h
 cases y with
 | ai=>exact Pz pins s σ H _ _ v u Q I rx ry ⟨rfl,by cases x<;>simpa [Fe] using h⟩
 | bl b=>
  cases x with
  | bl a=>
   cases rx;cases ry
   exact is_bool (aT I h (by cases a<;>cases b<;>rfl))
  | _=>exact (show False from h).elim
 | _=>cases x<;>exact (show False from h).elim
theorem yT:cj X (compareOp .IsNot) (Fe true):=by
 intro pins s σ H x y v u Q I rx ry h
 cases y with
 | ai=>exact yY pins s σ H _ _ v u Q I rx ry ⟨rfl,by cases x<;>simpa [Fe] using h⟩
 | bl b=>
  cases x with
  | bl a=>
   cases rx;cases ry
   exact isnot_bool (aT I h (by cases a<;>cases b<;>rfl))
  | _=>exact (show False from h).elim
 | _=>cases x<;>exact (show False from h).elim
abbrev K7:Str:="abcdefghijklmnopqrstuvwxyz"
abbrev R_:List Str:=["all","none","way","box","pick"]
def Sa (c:Nat):Bool:= !(Builtin.Str.occurrences K7 ⟨#[c]⟩ 0 K7.length 1).isEmpty
def isName (z:Str):Bool:=decide (1<=z.length)&&decide (z.length<=8)&& !(R_.any fun y=>y==z)&&z.cps.toList.all Sa
theorem kQ {i j:Str}:(decide (V.str i=V.str j))=(i==j):=by
 by_cases h:i=j
 ·subst h;simp
 ·rw [Qw (fun e=>h (V.str.inj e))]
  exact (beq_eq_false_iff_ne.mpr h).symm
theorem aa.put (s:aa H0 H') (h:H0 p=none):aa H0 (L2.upd H' p o):=fun b u q=>by rw [aF (aK q h)];exact s b u q
theorem aJ {u:TS} {D:Ends} (h:te σ H fun x H1=>u D (σ.set i (some x)) H1):xo (yz te (nk i)) u D σ H:=h
theorem iP {v:V} {u:TS} {D:Ends} (h:u D (σ.set i (some v)) H):xo (yz (tC v) (nk i)) u D σ H:=h
theorem mC {t u:TS} {D:Ends} {rt:VK} {bk ct:St->Hp->Prop} (h:xo t u D σ H):EI {nx:=xo t u D,rt:=rt,bk:=bk,ct:=ct} σ H:=h
theorem Inv.Hq {T:Addr} (I:Inv X pins σ H s) (hf:∀ b∈ch,pe X pins H b) (k:∀ b o,b ∉ ch->s.heap.get? b=some o->h'.get? b=some o)
  (hT:s.heap.objs.size<=T) (new:b_ X.prog X.w (upd H T o) h' T o):Inv X pins σ (upd H T o) {s with heap:=h',toks:=t'}:=by
 have Dw:H T=none:=I.hok.fresh hT
 have nT:∀ b ob,s.heap.get? b=some ob->b≠T:=fun b ob e=>Nat.ne_of_lt (Nat.lt_of_lt_of_le (Qz e) hT)
 have ve:∀ b u,H b=some u->b ∉ ch:=fun b u e hb=>by rw [(hf b hb).1] at e;cases e
 refine I.step (g':=s.gens) (d':=s.drawn) (ch:=ch) (fun b hb=>?_) (fun b o _ _ hc e _=>k b o hc e) (fun b o _ _ hc e _=>⟨o.slots,k b o hc e⟩) (fun b o hc e n=>by rw [aF (nT b o e)];exact n)
  (fun b o hc e=>⟨o,k b o hc e⟩) (fun b xs e=>by rw [aF (aK e Dw)];exact e) (fun b o u e=>by rw [aF (aK e Dw)];exact e) (fun b ps e=>⟨#[],by rw [aF (aK e Dw),e];simp⟩) (fun m hm=>?_) (fun b u e=>?_) I.bare
 ·obtain ⟨f0,f1,f2,f3,f4,f5⟩:=hf b hb
  exact ⟨f3,f1,f4,f5⟩
 ·obtain ⟨o,es,ep,ho,r⟩:=hm
  exact ⟨o,es,ep,k _ o (fun z=>(hf _ z).2.1 rfl) ho,r⟩
 ·by_cases hb:b=T
  ·subst hb
   rw [aA] at e;cases e
   exact new
  ·rw [aF hb] at e
   refine (I.hok b u e).stay (fun c v hc q=>k c v ?_ q) (fun c q=>by rw [aF (aK q Dw)];exact q) fun c xs q=>q.upd fun u' hu=>aK hu Dw
   rcases hc with z | z
   ·rw [z];exact ve b u e
   ·exact ve c _ z
theorem Inv.Sb (I:Inv X pins σ H s) (hf:∀ b∈ch,pe X pins H b) (k:∀ b o,b ∉ ch->s.heap.get? b=some o->h'.get? b=some o):Inv X pins σ H {s with heap:=h',toks:=t'}:=by
 have ve:∀ b u,H b=some u->b ∉ ch:=fun b u e hb=>by rw [(hf b hb).1] at e;cases e
 refine I.step (g':=s.gens) (d':=s.drawn) (ch:=ch) (fun b hb=>?_) (fun b o _ _ hc e _=>k b o hc e) (fun b o _ _ hc e _=>⟨o.slots,k b o hc e⟩) (fun b o hc e n=>n)
  (fun b o hc e=>⟨o,k b o hc e⟩) (fun b xs e=>e) (fun b o u e=>e) (fun b ps e=>⟨#[],by rw [e];simp⟩) (fun m hm=>?_) (fun b u e=>?_) I.bare
 ·obtain ⟨f0,f1,f2,f3,f4,f5⟩:=hf b hb
  exact ⟨f3,f1,f4,f5⟩
 ·obtain ⟨o,es,ep,ho,r⟩:=hm
  exact ⟨o,es,ep,k _ o (fun z=>(hf _ z).2.1 rfl) ho,r⟩
 ·refine (I.hok b u e).stay (fun c v hc q=>k c v ?_ q) (fun c q=>q) fun c xs q=>q
  rcases hc with z | z
  ·rw [z];exact ve b u e
  ·exact ve c _ z
abbrev Dy (v1 v2:V):Hp->V->Hp->Prop:=fun H x H'=>∃ T,x=.ref T/\H T=none/\H'=upd H T (.tup [v1,v2])
theorem mM {T:Addr} {v1 v2:V} {u1 u2:Value} (r1:RelV v1 u1) (r2:RelV v2 u2) (e:h.get? T=some {cls:=.type "tuple",data:=.seq #[u1,u2]}):b_ P w H h T (.tup [v1,v2]):=
 ⟨⟨show 2<=sizeLine by decide,fun o q=>by rw [e] at q;cases q;rfl⟩,[u1,u2],.cons r1 (.cons r2 .nil),_,e,rfl,_,rfl⟩
theorem oE {l m:Nat} (h1:l < n) (h2:m < n):ZipApart (n+4) (n+2) (n+3) n (n+1) l m:=by
 constructor<;>(show (_:Nat)≠_)<;>omega
def Hr (K : Q0) (a b : Addr) : It :=
  ⟨fun i H => ∃ xs ys x y, ak K H a xs /\ ak K H b ys /\ xs[i]? = some x /\ ys[i]? = some y, fun i H x H' => ∃ v1 v2, (∀ xs, ak K H a xs -> xs[i]? = some v1) /\ (∀ ys, ak K H b ys -> ys[i]? = some v2) /\ Dy v1 v2 H x H',
   fun i H => ∃ xs ys, ak K H a xs /\ ak K H b ys /\ (xs.length <= i \/ ys.length <= i)⟩
abbrev Sd (z TI TO i1 i2 a b:Addr) (i:Nat) (h:Heap):Prop:=IsZip h z TI TO .none/\IsPair h TI (.ref i1) (.ref i2)/\(∃ u v,IsPair h TO u v)/\h.IsListIter i1 a i/\h.IsListIter i2 b i
theorem wI {K:Q0} {k:Nat} {pos:Pos} (z TI TO i1 i2 a b:Addr) (D:ZipApart z TI TO i1 i2 a b):Turn P w K (.Tuple AV k pos) (Hr K a b) [z,TI,TO,i1,i2] z (Sd z TI TO i1 i2 a b) where
 mem:=by simp
 obj:=fun i h st c hc=>by
  obtain ⟨hz,vy,⟨u,v,yf⟩,⟨o1,e1,c1,d1⟩,o2,e2,c2,d2⟩:=st
  simp only [Qp,QA,or_false] at hc
  rcases hc with rfl | rfl | rfl | rfl | rfl
  ·exact ⟨_,hz,fun v z=>by have z':Data.fields _=Data.cell v:=z;cases z'⟩
  ·exact ⟨_,vy,fun v z=>by have z':Data.seq _ _=Data.cell v:=z;cases z'⟩
  ·exact ⟨_,yf,fun v z=>by have z':Data.seq _ _=Data.cell v:=z;cases z'⟩
  ·exact ⟨_,e1,fun v z=>by rw [d1] at z;cases z⟩
  ·exact ⟨_,e2,fun v z=>by rw [d2] at z;cases z⟩
 keep:=fun i h h' st k=>by
  obtain ⟨hz,vy,⟨u,v,yf⟩,h1,h2⟩:=st
  exact ⟨k z (by simp) _ hz,k TI (by simp) _ vy,⟨u,v,k TO (by simp) _ yf⟩,h1.at fun o x=>k i1 (by simp) o x,h2.at fun o x=>k i2 (by simp) o x⟩
 item:=by
  intro X hP hw hK hc i pins s σ H E I hf st hg
  subst hP hw hK
  obtain ⟨hz,vy,⟨u0,v0,yf⟩,h1,h2⟩:=st
  obtain ⟨xs,ys,x,y,ph,p_,hx,hy⟩:=hg
  obtain ⟨its,rv,p,Du⟩:=I.list ph
  obtain ⟨its2,Ff,p2,K8⟩:=I.list p_
  obtain ⟨u,hu,ru⟩:=rv.get hx
  obtain ⟨u2,Se,Sf⟩:=Ff.get hy
  refine wpAny_pyNext_zip_item D hz vy yf h1 h2 p.isList p2.isList (x:=u) (y:=u2) (by simpa using hu) (by simpa using Se) fun h' a1 a2 a3 a4 a5 a6 hk=>?_
  have I1:Inv X pins σ (upd H s.heap.objs.size (.tup [x,y])) {s with heap:=h',toks:=s.toks}:=I.Hq (t':=s.toks) hf (fun b o hb e=>hk b o (fun z=>hb (by simp [z])) (fun z=>hb (by simp [z])) (fun z=>hb (by simp [z])) (fun z=>hb (by simp [z])) e) (Qy _) (mM ru Sf a5)
  refine ⟨_,rfl,wpAny_letOwnedTupleGo_zip (s:={s with heap:=h'}) a1 fun B8 Sg sb=>?_⟩
  have bc:∀ b∈[z,TI,TO,i1,i2],b≠s.heap.objs.size:=fun c hc z'=>by
   simp only [Qp,QA,or_false] at hc
   obtain ⟨o1,e1,_⟩:=h1
   obtain ⟨o2,e2,_⟩:=h2
   rcases hc with rfl | rfl | rfl | rfl | rfl
   ·exact Nat.ne_of_lt (Qz hz) z'
   ·exact Nat.ne_of_lt (Qz vy) z'
   ·exact Nat.ne_of_lt (Qz yf) z'
   ·exact Nat.ne_of_lt (Qz e1) z'
   ·exact Nat.ne_of_lt (Qz e2) z'
  have K9:∀ b∈[z,TI,TO,i1,i2],pe X pins (upd H s.heap.objs.size (.tup [x,y])) b:=fun b hb=>by
   obtain ⟨f0,f⟩:=hf b hb
   exact ⟨by rw [aF (bc b hb)];exact f0,f⟩
  obtain ⟨f0,f1,f2,f3,f4,f5⟩:=K9 z (by simp)
  refine ⟨.ref s.heap.objs.size,_,I1.turned (t':=s.toks) (fun b o hb q=>(sb.2 b hb).trans q) f0 f1 f3 f4 f5,rfl,⟨x,y,fun ys hy=>by rw [I.GU hy ph];exact hx,fun ys Sh=>by rw [I.GU Sh p_];exact hy,_,rfl,I.hok.fresh (Qy _),rfl⟩,?_,fun b hb=>(K9 b hb).1⟩
  refine ⟨Sg,(sb.2 _ D.TIz).trans (hk _ _ D.TIz D.TITO D.TIi1 D.TIi2 vy),⟨_,_,(sb.2 _ D.TOz).trans a2⟩,a3.at fun o q=>(sb.2 _ D.i1z).trans q,a4.at fun o q=>(sb.2 _ D.i2z).trans q⟩
 done:=by
  intro X hP hw hK hc i pins s σ H E I hf st hg
  subst hP hw hK
  obtain ⟨hz,vy,⟨u0,v0,yf⟩,h1,h2⟩:=st
  obtain ⟨xs,ys,ph,p_,hx⟩:=hg
  obtain ⟨its,rv,p,Du⟩:=I.list ph
  obtain ⟨its2,Ff,p2,K8⟩:=I.list p_
  have hl:=rv.length
  have Ai:=Ff.length
  refine wpAny_pyNext_zip_end (I.ok.hd hc) D hz vy yf h1 h2 p.isList p2.isList ?_ fun h' hk=>⟨rfl,I.Sb (t':=s.toks) hf fun b o hb q=>hk b o (fun z=>hb (by simp [z])) (fun z=>hb (by simp [z])) (fun z=>hb (by simp [z])) (fun z=>hb (by simp [z])) q⟩
  rcases hx with hx | hx
  ·exact .inl (by simp;omega)
  ·exact .inr (by simp;omega)
 self:=fun _ _ _ _ _ st h=>wpAny_pyIter_zip st.1 h
section
variable {k:Nat} {za p pos:Pos} {a b:Expr} {ta:TA}
def K_ (K:Q0) (ta:TA):TI:=fun σ H R=>ta σ H fun vs H1=>∃ l m xs ys,vs=[.ref l,.ref m]/\ak K H1 l xs/\ak K H1 m ys/\R (Hr K l m) H1
theorem Si (hg:Gl X "zip") (hm:X.mg "zip"=none) (ha:PA X [a,b] ta) (hs:starEach [a,b] X.env=[(false,eval a X.env),(false,eval b X.env)]:=by rfl) (vn:starEach [b] X.env=[(false,eval b X.env)]:=by rfl):
  PI X (.Tuple AV k za) (.Call (.Name "zip" p) [a,b] [] pos) (K_ X.K ta):=by
 intro pins s σ H R I h
 refine Call_ (mS I hg hm boot_zip (PyProof.Rows.callWith_type1 (au (ha pos pins s σ H _ I h) fun us s1 ⟨vs,H1,I1,r1,q1⟩=>?_) (by rw [hs,vn]) (by rw [vn];rfl)))
 obtain ⟨l,m,xs,ys,e,ph,p_,q⟩:=q1
 subst e
 obtain ⟨u1,u2,rfl,Fg,Sj⟩:=r1.two
 cases Fg
 cases Sj
 obtain ⟨its,rv,pl,hz⟩:=I1.list ph
 obtain ⟨its2,Ff,La,K8⟩:=I1.list p_
 have l1:l < s1.heap.objs.size:=by obtain ⟨_,e,_⟩:=pl.isList;exact Qz e
 have l2:m < s1.heap.objs.size:=by obtain ⟨_,e,_⟩:=La.isList;exact Qz e
 refine call_zip_2 pl.isList La.isList fun h' hz vy yf h1 h2 hsz hk=>wpAny_pyIter_zip hz ?_
 have I2:Inv X pins σ H1 {s1 with heap:=h'}:=I1.kept (t':=s1.toks) hk
 have ne:∀ {x y:Nat},x < y->x≠y:=fun h=>Nat.ne_of_lt h
 have ne':∀ {x y:Nat},y < x->x≠y:=fun h=>Nat.ne_of_gt h
 refine ⟨s1.heap.objs.size+4,[s1.heap.objs.size+4,s1.heap.objs.size+2,s1.heap.objs.size+3,s1.heap.objs.size,s1.heap.objs.size+1],_,_,H1,rfl,I2,wI _ _ _ _ _ l m ?_,⟨hz,vy,⟨_,_,yf⟩,h1,h2⟩,fun b hb=>?_,q⟩
 ·exact oE l1 l2
 ·simp only [Qp,QA,or_false] at hb
  rcases hb with rfl | rfl | rfl | rfl | rfl<;>exact I1.Ae (by simp) (I1.hok.fresh (by simp))
theorem Sk (K:Q0) (hg:Gl X "zip") (hm:X.mg "zip"=none) (ha:SA X [a,b] ta) (h:X.K=K:=by rfl) (hs:starEach [a,b] X.env=[(false,eval a X.env),(false,eval b X.env)]:=by rfl) (vn:starEach [b] X.env=[(false,eval b X.env)]:=by rfl):
  SI X (.Tuple AV k za) (.Call (.Name "zip" p) [a,b] [] pos) (K_ K ta):=by subst h;exact ⟨Si hg hm ha.h hs vn⟩
end
def Fi (J:It) (ok:Hp->Prop) (n:Nat) (f1 f2:Nat->V):Prop:=
 ∀ H,ok H->(∀ i,i < n->J.go i H/\∀ x H',J.l_ i H x H'->Dy (f1 i) (f2 i) H x H')/\J.stop n H
theorem zK {K:Q0} (xs ys:List V):Fi (Hr K a b) (fun H=>ak K H a xs/\ak K H b ys) (min xs.length ys.length) (fun i=>xs.getD i .ai) (fun i=>ys.getD i .ai):=fun H ok=>
 ⟨fun i hi=>⟨⟨xs,ys,xs[i]'(by omega),ys[i]'(by omega),ok.1,ok.2,by simp,by simp⟩,fun x H' ⟨v1,v2,Sl,Sn,y⟩=>by
  have e1:xs.getD i V.ai=v1:=by rw [Qb,Sl xs ok.1];rfl
  have e2:ys.getD i V.ai=v2:=by rw [Qb,Sn ys ok.2];rfl
  show Dy (xs.getD i .ai) (ys.getD i .ai) H x H'
  rw [e1,e2];exact y⟩,⟨xs,ys,ok.1,ok.2,by omega⟩⟩
abbrev g2 (K:Q0) (a b:Nat):TG:=BO K 2 (BN (nk a) (BN (nk b) EL))
theorem fJ {K:Q0} {a b:Nat} {T:Addr} {v1 v2:V} {Q:St->Hp->Prop} (h:H T=some (.tup [v1,v2])) (q:Q ((σ.set a (some v1)).set b (some v2)) H):g2 K a b (.ref T) σ H Q:=
 ⟨T,_,rfl,af.of h,rfl,_,_,rfl,_,_,rfl,rfl,q⟩
end L2
namespace PySem
end PySem
namespace PySem.F
end PySem.F
namespace L2
open PySem PySem.Spec PyProof.Rows
def ie (H:Hp) (ys:List V) (rs:List (Key×V)):Prop:=ys.length=rs.length/\∀ i (h:i < rs.length),∃ b,ys[i]? =some (.ref b)/\H b=some (.tup [kV rs[i].1,rs[i].2])
def dictOf (rs:List (Key×V)):List (Key×V):=rs.foldl (fun kvs r=>putK kvs r.1 r.2) []
theorem oW (rs:List (Key×V)):∀ kvs:List (Key×V),(rs.foldl (fun kvs r=>putK kvs r.1 r.2) kvs).length<=kvs.length+rs.length:=by
 induction rs with
 | nil=>intro kvs;exact Qy _
 | cons r rs ih=>
  intro kvs
  have h1:=ih (putK kvs r.1 r.2)
  have h2:=cR kvs r.1 r.2
  rw [List.foldl_cons,List.length_cons]
  omega
theorem kR (rs:List (Key×V)):(dictOf rs).length<=rs.length:=by have:=oW rs [];simpa [dictOf] using this
theorem pL (rs:List (Key×V)) (i:Nat) (h:i < rs.length):dictOf (rs.take (i+1))=putK (dictOf (rs.take i)) rs[i].1 rs[i].2:=by
 unfold dictOf
 rw [Qs,Qa h,Option.toList_some,List.foldl_append];rfl
def Tk (H H':Hp):Prop:=∀ b xs,H b=some (.tup xs)->H' b=some (.tup xs)
theorem Tk.refl:Tk H H:=fun _ _ h=>h
theorem Tk.trans {H1 H2:Hp} (a:Tk H H1) (b:Tk H1 H2):Tk H H2:=fun c xs h=>b c xs (a c xs h)
theorem aa.ts (s:aa H H'):Tk H H':=fun b xs h=>s b _ h
theorem Tk.upd {H H':Hp} {a:Addr} {o:HO} (s:Tk H H') (h:H' a=none):Tk H (L2.upd H' a o):=fun b xs e=>by rw [aF (aK (s b xs e) h)];exact s b xs e
theorem Tk.set {o':HO} (s:Tk H H') (h:H' a=some o) (hn:∀ xs,o≠.tup xs):Tk H (L2.upd H' a o'):=fun b xs e=>by
 rw [aF (fun z=>by rw [z] at e;have:=s a xs e;rw [h] at this;cases this;exact hn _ rfl)];exact s b xs e
inductive zh (H:Hp):V->PyData->Prop
 | str (z:Str):zh H (.str z) (.str z)
 | tup {a:Addr} {xs:List V} {ds:List PyData}:H a=some (.tup xs)->xs.length=ds.length->(∀ i (h:i < xs.length) (h':i < ds.length),zh H xs[i] ds[i])->zh H (.ref a) (.tuple ds)
theorem zh.ts (s:Tk H H') {v:V} {d:PyData} (h:zh H v d):zh H' v d:=by
 induction h with
 | str z=>exact .str z
 | tup e hl _ ih=>exact .tup (s _ _ e) hl ih
theorem fM:∀ {ds:List PyData},(∀ d∈ds,d.showable=true)->PyData.showableAll ds=true
 | [],_=>by simp [PyData.showableAll]
 | d::ds,h=>by simp [PyData.showableAll,h d List.mem_cons_self,fM fun x hx=>h x (Qh _ hx)]
theorem gK:∀ {ds:List PyData},(∀ d∈ds,d.hasDict=false)->PyData.hasDictAll ds=false
 | [],_=>by simp [PyData.hasDictAll]
 | d::ds,h=>by simp [PyData.hasDictAll,h d List.mem_cons_self,gK fun x hx=>h x (Qh _ hx)]
theorem j9 {k:Nat}:∀ {ds:List PyData},(∀ d∈ds,d.depth<=k)->PyData.depthAll ds<=k
 | [],_=>by simp [PyData.depthAll]
 | d::ds,h=>by
  have h1:=h d List.mem_cons_self
  have h2:=j9 (ds:=ds) fun x hx=>h x (Qh _ hx)
  simp [PyData.depthAll];omega
theorem yL {n:Nat}:∀ {ts:List Str},(∀ t∈ts,t.length<=n)->(ts.map (·.length)).sum<=ts.length*n
 | [],_=>by simp
 | t::ts,h=>by
  have h1:=h t List.mem_cons_self
  have h2:=yL (ts:=ts) fun x hx=>h x (Qh _ hx)
  rw [List.map_cons,List.sum_cons,List.length_cons,Nat.add_mul];omega
def TB (H:Hp) (v:V) (k n:Nat):Prop:=∃ d,zh H v d/\d.depth<=k/\d.shown.length<=n/\d.showable=true/\d.hasDict=false
def Wd (z:Str):Prop:=z.length<=20/\∀ c∈z.cps.toList,c < 128
theorem TB.mono {v:V} {k k' n':Nat} (h:TB H v k n) (hk:k<=k') (hn:n<=n'):TB H v k' n':=by
 obtain ⟨d,h1,h2,h3,h4,h5⟩:=h
 exact ⟨d,h1,by omega,by omega,h4,h5⟩
theorem TB.ts {H H':Hp} (s:Tk H H') {v:V} {k n:Nat} (h:TB H v k n):TB H' v k n:=by
 obtain ⟨d,h1,h2⟩:=h
 exact ⟨d,h1.ts s,h2⟩
theorem TB.str {H:Hp} {z:Str} (h:Wd z):TB H (.str z) 0 202:=by
 refine ⟨.str z,.str z,by simp [PyData.depth],?_,by simp [PyData.showable],by simp [PyData.hasDict]⟩
 show (PyData.str z).shown.length<=202
 simp only [PyData.shown]
 have:=StrLaws.reprText_len z (fun c hc=>Nat.lt_of_lt_of_le (h.2 c hc) (by decide))
 have:=h.1
 omega
theorem TB.tup {H:Hp} {a:Addr} {xs:List V} {k n:Nat} (e:H a=some (.tup xs)) (h:∀ x∈xs,TB H x k n):TB H (.ref a) (k+1) (xs.length*(n+2)+3):=by
 have hc:∀ i:Fin xs.length,∃ d,zh H xs[i.val] d/\d.depth<=k/\d.shown.length<=n/\d.showable=true/\d.hasDict=false:=fun i=>h _ (Qj i.isLt)
 obtain ⟨f,hf⟩:=Classical.axiomOfChoice hc
 have hm:∀ d∈List.ofFn f,d.depth<=k/\d.shown.length<=n/\d.showable=true/\d.hasDict=false:=fun d hd=>by
  obtain ⟨i,rfl⟩:=List.mem_ofFn.mp hd
  exact (hf i).2
 refine ⟨.tuple (List.ofFn f),.tup e (by simp) fun i h1 h2=>?_,?_,?_,?_,?_⟩
 ·have:=(hf ⟨i,h1⟩).1
  simpa using this
 ·simp only [PyData.depth]
  have:=j9 (fun d hd=>(hm d hd).1)
  omega
 ·simp only [PyData.shown]
  have h1:=tupleText_len_le (PyData.shownAll (List.ofFn f))
  have e2:PyData.shownAll (List.ofFn f)=(List.ofFn f).map PyData.shown:=shownAll_eq_map _
  have h2:((PyData.shownAll (List.ofFn f)).map (·.length)).sum<=(PyData.shownAll (List.ofFn f)).length*n:=yL fun t ht=>by
   rw [e2] at ht
   obtain ⟨d,hd,rfl⟩:=List.mem_map.mp ht
   exact (hm d hd).2.1
  have h3:(PyData.shownAll (List.ofFn f)).length=xs.length:=by rw [e2];simp
  rw [h3] at h1 h2
  rw [Nat.mul_add];omega
 ·simp only [PyData.showable]
  exact fM fun d hd=>(hm d hd).2.2.1
 ·simp only [PyData.hasDict]
  exact gK fun d hd=>(hm d hd).2.2.2
theorem j6 (rs:List (Key×V)):(rs.map (·.1)).Nodup->∀ i (h:i < rs.length),br (dictOf rs) rs[i].1=some rs[i].2:=by
 have gen:∀ (rs:List (Key×V)) (kvs:List (Key×V)),(rs.map (·.1)).Nodup->∀ k,br (rs.foldl (fun kvs r=>putK kvs r.1 r.2) kvs) k=((rs.find? fun r=>decide (r.1=k)).map (·.2)).or (br kvs k):=by
  intro rs
  induction rs with
  | nil=>intro kvs _ k;simp
  | cons r rs ih=>
   intro kvs hn k
   rw [List.map_cons,List.nodup_cons] at hn
   rw [List.foldl_cons,ih _ hn.2,k7]
   by_cases e:r.1=k
   ·have:rs.find? (fun r=>decide (r.1=k))=none:=by
     rw [List.find?_eq_none]
     intro x hx z
     have z':=Qt z
     exact hn.1 (List.mem_map.mpr ⟨x,hx,by rw [z',e]⟩)
    rw [this,List.find?_cons,if_pos e.symm]
    simp [e]
   ·rw [if_neg (fun z=>e z.symm),List.find?_cons]
    simp [e]
 intro hn i h
 unfold dictOf
 rw [gen rs [] hn]
 have:rs.find? (fun r=>decide (r.1=rs[i].1))=some rs[i]:=by
  rw [List.find?_eq_some_iff_getElem]
  refine ⟨by simp,i,h,rfl,fun j hj=>?_⟩
  have jt:(rs.map (·.1))[j]'(by simp;omega)≠(rs.map (·.1))[i]'(by simpa using h):=fun z=>by
   exact (List.pairwise_iff_getElem.mp hn j i (by simp;omega) (by simpa using h) hj) z
  simpa using jt
 rw [this];rfl
abbrev bh (rs:List (Str×V)):List (Key×V):=rs.map fun r=>(Sum.inr r.1,r.2)
def Be (H:Hp) (v:V) (o:Option Str):Prop:=∃ b,v=.ref b/\((∃ s ys,H b=some (.tup (.str s::ys))/\s≠"as"/\o=none)\/∃ x,H b=some (.tup [.str "as",.str x])/\o=some x)
theorem Be.ts (s:Tk H H') {v:V} {o:Option Str} (h:Be H v o):Be H' v o:=by
 obtain ⟨b,e,h⟩:=h
 refine ⟨b,e,?_⟩
 rcases h with ⟨z,ys,h1,h2⟩ | ⟨x,h1,h2⟩
 ·exact .inl ⟨z,ys,s _ _ h1,h2⟩
 ·exact .inr ⟨x,s _ _ h1,h2⟩
structure mi (H:Hp) (a:Addr) (xs:List V) (rs:List (Str×V)) (nx:Str->Option Str) (ρ:Str->Nat):Prop where
 at_:H a=some (.tup xs)
 ps:ie H xs (bh rs)
 nd:(rs.map (·.1)).Nodup
 len:rs.length<=300
 pos:0 < rs.length
 as:∀ r∈rs,Be H r.2 (nx r.1)
 B9:∀ r∈rs,∀ y,nx r.1=some y->y∈rs.map (·.1)/\ρ y < ρ r.1
 rk:∀ r∈rs,ρ r.1<=rs.length
 tb:∀ r∈rs,Wd r.1/\TB H r.2 3 8273
theorem ie.ts {ys:List V} {rs:List (Key×V)} (p:ie H ys rs) (s:Tk H H'):ie H' ys rs:=⟨p.1,fun i h=>let ⟨b,e1,e2⟩:=p.2 i h;⟨b,e1,s _ _ e2⟩⟩
section
variable {xs:List V} {rs:List (Str×V)} {nx:Str->Option Str} {ρ:Str->Nat}
theorem mi.ts (g:mi H a xs rs nx ρ) (s:Tk H H'):mi H' a xs rs nx ρ:=
 ⟨s _ _ g.at_,g.ps.ts s,g.nd,g.len,g.pos,fun r hr=>(g.as r hr).ts s,g.B9,g.rk,fun r hr=>⟨(g.tb r hr).1,(g.tb r hr).2.ts s⟩⟩
theorem jR (h:(rs.map (·.1)).Nodup):((bh rs).map (·.1)).Nodup:=by
 have e:(bh rs).map (·.1)=(rs.map (·.1)).map (Sum.inr:Str->Key):=by simp [bh,Qn,QB]
 rw [e]
 exact List.Pairwise.map _ (fun a b se z=>se (Sum.inr.inj z)) h
theorem mi.get (g:mi H a xs rs nx ρ) (hx:x∈rs.map (·.1)):∃ v,(x,v)∈rs/\br (dictOf (bh rs)) (.inr x)=some v:=by
 obtain ⟨r,hr,rfl⟩:=List.mem_map.mp hx
 obtain ⟨i,hi,rfl⟩:=Qi hr
 refine ⟨rs[i].2,hr,?_⟩
 have:=j6 (bh rs) (jR g.nd) i (by simpa using hi)
 simpa using this
def Bf (nx:Str->Option Str) (x:Str):Str:=(nx x).getD x
def vz (nx:Str->Option Str):Nat->Str->Str
 | 0,x=>x
 | n+1,x=>vz nx n (Bf nx x)
theorem cD (n:Nat) (h:nx x=none):vz nx n x=x:=by
 induction n with
 | zero=>rfl
 | succ n ih=>rw [vz];rw [show Bf nx x=x by simp [Bf,h]];exact ih
theorem mi.run (g:mi H a xs rs nx ρ):∀ (n:Nat) (x:Str),x∈rs.map (·.1)->ρ x<=n->vz nx n x∈rs.map (·.1)/\nx (vz nx n x)=none/\vz nx (n+1) x=vz nx n x:=by
 intro n
 induction n with
 | zero=>
  intro x hx hr
  obtain ⟨r,gi,rfl⟩:=List.mem_map.mp hx
  cases e:nx r.1 with
  | none=>exact ⟨hx,e,cD 1 e⟩
  | some y=>have:=(g.B9 r gi y e).2;omega
 | succ n ih=>
  intro x hx hr
  obtain ⟨r,gi,rfl⟩:=List.mem_map.mp hx
  cases e:nx r.1 with
  | none=>
   rw [cD _ e,cD _ e]
   exact ⟨hx,e,rfl⟩
  | some y=>
   have e2:Bf nx r.1=y:=by simp [Bf,e]
   obtain ⟨h1,h2⟩:=g.B9 r gi y e
   have:=ih y h1 (by omega)
   rw [vz,vz,e2]
   exact this
def je (nx:Str->Option Str) (n:Nat) (x:Str):Str:=vz nx n x
theorem mi.B_ (g:mi H a xs rs nx ρ) (hx:x∈rs.map (·.1)):je nx rs.length x∈rs.map (·.1)/\nx (je nx rs.length x)=none:=by
 obtain ⟨r,hr,rfl⟩:=List.mem_map.mp hx
 obtain ⟨h1,h2,_⟩:=g.run rs.length r.1 hx (g.rk r hr)
 exact ⟨h1,h2⟩
theorem mi.Hs (g:mi H a xs rs nx ρ) {y:Str} (hx:x∈rs.map (·.1)) (e:nx x=some y):je nx rs.length y=je nx rs.length x:=by
 obtain ⟨r,hr,rfl⟩:=List.mem_map.mp hx
 obtain ⟨h1,h2,h3⟩:=g.run rs.length r.1 hx (g.rk r hr)
 have e2:Bf nx r.1=y:=by simp [Bf,e]
 rw [vz,e2] at h3
 exact h3
end
theorem i9 (xs:List V) (k:Nat):jq xs (some (k:Int)) none=xs.drop k:=by
 unfold jq
 rw [HT.eK,HT.pW]
 by_cases h:k<=xs.length
 ·rw [Nat.min_eq_left h]
  exact List.take_of_length_le (by simp)
 ·rw [Nat.min_eq_right (by omega)]
  simp [List.drop_eq_nil_of_le (show xs.length<=k by omega)]
theorem mR (xs:List V) (k:Nat):jq xs none (some (k:Int))=xs.take k:=by
 unfold jq
 rw [HT.eK,HT.pW]
 simp
theorem u9 {l:List α} (h:l.Nodup) {x:α} (hi:l[i]? =some x) (hj:l[j]? =some x):i=j:=by
 obtain ⟨a,e1⟩:=List.getElem?_eq_some_iff.mp hi
 obtain ⟨b,e2⟩:=List.getElem?_eq_some_iff.mp hj
 rcases Nat.lt_trichotomy i j with z | z | z
 ·exact ((List.pairwise_iff_getElem.mp h i j a b z) (e1.trans e2.symm)).elim
 ·exact z
 ·exact ((List.pairwise_iff_getElem.mp h j i b a z) (e2.trans e1.symm)).elim
theorem mE [BEq α] [LawfulBEq α] {l:List α} (h:l.Nodup) {x:α} (hi:l[i]? =some x):l.idxOf x=i:=by
 have hm:x∈l:=QC hi
 have h1:l.idxOf x < l.length:=List.idxOf_lt_length_of_mem hm
 have h2:l[l.idxOf x]? =some x:=by rw [Qa h1,List.getElem_idxOf]
 exact u9 h h2 hi
open Classical in
theorem uY {v:V} {u:TS} {D:Ends} (e:σ[j]? =some (some v)) (h:u D (σ.set i (some v)) H):xo (yz (tV j) (nk i)) u D σ H:=by
 show tV j σ H _
 unfold tV
 rw [e]
 exact h
theorem eE (h1:z.length<=20) (h2:∀ c∈z.cps.toList,c < 128):Wd z:=⟨h1,h2⟩
section
variable {β:Type} {R:α->β->Prop}
theorem kF:∀ {xs Dz:List α} {ys Lc:List β},Paired R xs ys->Paired R Dz Lc->Paired R (xs++Dz) (ys++Lc)
 | _,_,_,_,.nil,h=>h
 | _,_,_,_,.cons a r,h=>.cons a (kF r h)
theorem xG:∀ {xs:List α} {ys:List β},xs.length=ys.length->(∀ i (h:i < xs.length) (h':i < ys.length),R xs[i] ys[i])->Paired R xs ys
 | [],[],_,_=>.nil
 | x::xs,y::ys,hl,h=>.cons (h 0 (by simp) (by simp)) (xG (by simpa using hl) fun i a b=>h (i+1) (by simpa using a) (by simpa using b))
theorem t8:∀ {xs:List α} {ys:List β},Paired R xs ys->xs.length=ys.length/\∀ i (h:i < xs.length) (h':i < ys.length),R xs[i] ys[i]
 | _,_,.nil=>⟨rfl,fun i h=>absurd h (by simp)⟩
 | _,_,.cons a r=>by
  obtain ⟨h1,h2⟩:=t8 r
  refine ⟨by simp [h1],fun i h h'=>?_⟩
  cases i with
  | zero=>exact a
  | succ i=>exact h2 i (by simpa using h) (by simpa using h')
end
def PR (H:Hp) (x:V) (r:Key×V):Prop:=∃ b,x=.ref b/\H b=some (.tup [kV r.1,r.2])
theorem eG {xs:List V} {rs:List (Key×V)}:ie H xs rs↔Paired (PR H) xs rs:=by
 constructor
 ·rintro ⟨hl,h⟩
  refine xG hl fun i h1 h2=>?_
  obtain ⟨b,e1,e2⟩:=h i h2
  rw [Qa h1] at e1
  exact ⟨b,QD e1,e2⟩
 ·intro h
  obtain ⟨hl,h'⟩:=t8 h
  refine ⟨hl,fun i h2=>?_⟩
  obtain ⟨b,e1,e2⟩:=h' i (by omega) h2
  exact ⟨b,by rw [Qa (by omega),e1],e2⟩
section
variable {xs:List V} {rs:List (Str×V)}
theorem nQ (a b:List (Str×V)):bh (a++b)=bh a++bh b:=by simp [bh]
theorem j0:ie H [] (bh []):=eG.mpr .nil
theorem hV (h:ie H xs (bh rs)) {n:Str} {v:V} (e:H b=some (.tup [.str n,v])):ie H (xs++[.ref b]) (bh (rs++[(n,v)])):=by
 rw [nQ]
 exact eG.mpr (kF (eG.mp h) (.cons ⟨b,rfl,e⟩ .nil))
end
section
variable {e1 e2:Expr} {p pos:Pos} {k:Nat} {g1 g2:TG}
end
def KD (w:World) (K:Q0) (a:Addr) (kvs:List (Key×V)):Prop:=∀ P:Program,∃ (o:Obj) (es:Array DictEntry) (ep:Nat) (vs:List (Key×Value)),K.lookup a=some o/\(a==sysModules)=false/\o.ExactDict/\o.data=.dict es ep/\KeysOf (ck P w) es/\Pairs (ck P w) es.toList vs/\(vs.map (·.1)).Nodup/\KV kvs vs
section
variable {kvs:List (Key×V)}
theorem KD.of (h:KD X.w X.K a kvs) (I:Inv X pins σ H s):(a==sysModules)=false/\∃ vs,KV kvs vs/\s.heap.DictOf (ck X.prog X.w) a vs:=by
 obtain ⟨o,es,ep,vs,h1,h2,h3,h4,h5,h6,h7,h8⟩:=h X.prog
 exact ⟨h2,vs,h8,o,es,ep,I.qm a o h1,h3,h4,h5,h6,h7⟩
variable {pos p:Pos}
def Ld (kvs:List (Key×V)) (te:TE):TE:=fun σ H Q=>te σ H fun y H1=>∃ k,y=kV k/\Q (.bl (br kvs k).isSome) H1
theorem So {K:Q0} (hx:∃ a,X.mg x=some (.ref a)/\KD w K a kvs) (he:PE X e te) (hw:X.w=w) (hK:X.K=K) (hg:Gl X x) (hd:(x==("__debug__":Str))=false):PC X .In e (.Name x p) (Ld kvs te):=by
 subst hw hK
 obtain ⟨a,hm,kd⟩:=hx
 intro pins s σ H Q I h
 refine au (he pins s σ H _ I h) ?_
 rintro iv s1 ⟨y,H1,I1,ry,k,ey,q1⟩
 subst ey
 refine au (jQ (v:=.ref a) hg hm rfl hd pins s1 σ H1 (fun v H'=>v=.ref a/\H'=H1) I1 ⟨rfl,rfl⟩) fun u s2 ⟨z,H2,I2,rz,ez,eH⟩=>?_
 subst ez eH
 cases rz
 obtain ⟨h1,vs,rel,dd⟩:=kd.of I2
 refine wpAny_in_of (jB ry) h1 dd.mapOf ?_
 rw [<- (rel.val k).BY]
 exact ⟨.bl _,_,I2.tok _,rfl,q1⟩
theorem Sq {K:Q0} (hx:∃ a,X.mg x=some (.ref a)/\KD w K a kvs) (he:SE X e te) (hw:X.w=w:=by rfl) (hK:X.K=K:=by rfl) (hg:Gl X x:=by rfl) (hd:(x==("__debug__":Str))=false:=by decide):ST X (.Compare e [.In] [.Name x p] pos) (tB (Ld kvs te)):=⟨OR (So hx he.h hw hK hg hd) rfl⟩
def Ss (kvs:List (Key×V)) (te:TE):TE:=fun σ H Q=>te σ H fun y H1=>∃ k v,y=kV k/\br kvs k=some v/\Q v H1
theorem Su {K:Q0} (hx:∃ a,X.mg x=some (.ref a)/\KD w K a kvs) (he:SE X e te) (hs:E4 e) (hw:X.w=w:=by rfl) (hK:X.K=K:=by rfl) (hg:Gl X x:=by rfl) (hd:(x==("__debug__":Str))=false:=by decide):SE X (.Subscript (.Name x p) e pos) (Ss kvs te):=by
 subst hw hK
 obtain ⟨a,hm,kd⟩:=hx
 constructor
 intro pins s σ H Q I h
 refine sG PySem.F.slot_dict_getitem.lookup hs (au (jQ (v:=.ref a) hg hm rfl hd pins s σ H (fun v H'=>v=.ref a/\H'=H) I ⟨rfl,rfl⟩) fun u s2 ⟨z,H2,I2,rz,ez,eH⟩=>?_)
 subst ez eH
 cases rz
 refine au (he.h pins s2 σ _ _ I2 h) ?_
 rintro iv s3 ⟨y,H3,I3,ry,k,v,ey,ev,q⟩
 subst ey
 obtain ⟨h1,vs,rel,dd⟩:=kd.of I3
 obtain ⟨w',hw,nq⟩:=lz.some_of (v:=v) (o:=valueAt vs k) (by rw [<- ev];exact rel.val k)
 exact ⟨dd.typeIs,wpAny_getItem_of (jB ry) dd.mapOf hw ⟨v,_,I3.tok _,nq,q⟩⟩
end
def qa (kvs:List (Key×V)) (i:Nat):V:=((kvs[i]?).map fun kv=>kV kv.1).getD .ai
def Ht (a:Addr) (o:Obj) (kvs:List (Key×V)):It:=⟨fun i H=>H a=some (.aq o (.dK kvs))/\i < kvs.length,fun i H x H'=>H'=H/\x=qa kvs i,fun i H=>H a=some (.aq o (.dK kvs))/\kvs.length=i⟩
theorem yP {o:Obj} (kvs:List (Key×V)):Bd (Ht a o kvs) (fun H=>H a=some (.aq o (.dK kvs))) kvs.length (qa kvs):=fun H ok=>⟨fun i hi=>⟨⟨ok,hi⟩,fun x H' h=>h⟩,ok,rfl⟩
theorem Sv {kvs:List (Key×V)} (r:KV kvs vs):∀ {i:Nat} {p:Key×V},kvs[i]? =some p->∃ q,vs[i]? =some q/\q.1=p.1:=by
 intro i
 induction r generalizing i with
 | nil=>intro p h;simp at h
 | cons a t ih=>
  intro p h
  cases i with
  | zero=>simp at h;subst h;exact ⟨_,by simp,a.1.symm⟩
  | succ i=>simp at h;simpa using ih h
theorem pE {k:Key} (h:(ck P w).is k u=true):RelV (kV k) u:=by
 rcases bF h with ⟨i,t,rfl,rfl⟩ | ⟨x,t,rfl,rfl⟩
 ·exact ⟨t,rfl⟩
 ·exact ⟨t,rfl⟩
theorem KV.len {kvs:List (Key×V)} (r:KV kvs vs):kvs.length=vs.length:=Paired.length r
theorem uJ {K:Q0} {it:Addr} {o:Obj} {kvs:List (Key×V)} (zj:∃ es,o.data=.dict es ep):Turn P w K tg (Ht a o kvs) [it] it (fun i h=>h.IsKeyIter it a i kvs.length ep) where
 mem:=by simp
 obj:=fun i h st b hb=>by
  have e:b=it:=by simpa using hb
  subst e
  obtain ⟨o,e,c,d⟩:=st
  exact ⟨o,e,fun v z=>by rw [d] at z;cases z⟩
 keep:=fun i h h' st k=>st.at fun o e=>k it (by simp) o e
 item:=by
  intro X hP hw hK hc i pins s σ H E I hf st hg
  subst hP hw hK
  obtain ⟨hq,hi⟩:=hg
  obtain ⟨e,z,hd,vs,rel,ob,es,xj,h1,h2,h3,h4⟩:=(show b_ X.prog X.w H s.heap a (.aq o (.dK kvs)) from I.hok a _ hq)
  obtain ⟨es',lg⟩:=zj
  rw [e] at h1;cases h1
  rw [lg] at h3;injection h3 with sf sj
  subst sf sj
  obtain ⟨q,ph,p_⟩:=Sv rel (Qa hi)
  have hl:=rel.len
  obtain ⟨f0,f1,f2,f3,f4,f5⟩:=hf it (by simp)
  obtain ⟨qk,qv⟩:=q
  refine wpAny_pyNext_dict_item (knd:=ck X.prog X.w) (kvs:=vs) (ep:=ep) (by rw [<- hl];exact st) ⟨o,es',e,h2,lg,h4⟩ ph fun key h' hk jp sb=>?_
  have I1:Inv X pins σ H {s with heap:=h'}:=I.turned (t':=s.toks) (fun b o hb e=>(sb.2 b hb).trans e) f0 f1 f3 f4 f5
  have qp:h'.IsKeyIter it a (i+1) kvs.length ep:=by rw [hl];exact jp
  obtain ⟨o3,e3,c3,d3⟩:=id qp
  refine ⟨key,rfl,nX (s:={s with heap:=h'}) e3 c3 d3 (by decide) ⟨qa kvs i,H,I1,?_,⟨rfl,rfl⟩,qp,fun b hb=>(hf b hb).1⟩⟩
  unfold qa
  rw [Qa hi]
  show RelV (kV kvs[i].1) key
  have Hu:qk=kvs[i].1:=p_
  rw [<- Hu]
  exact pE hk
 done:=by
  intro X hP hw hK hc i pins s σ H E I hf st hg
  subst hP hw hK
  obtain ⟨hq,hi⟩:=hg
  obtain ⟨e,z,hd,vs,rel,ob,es,xj,h1,h2,h3,h4⟩:=(show b_ X.prog X.w H s.heap a (.aq o (.dK kvs)) from I.hok a _ hq)
  obtain ⟨es',lg⟩:=zj
  rw [e] at h1;cases h1
  rw [lg] at h3;injection h3 with sf sj
  subst sf sj
  have hl:=rel.len
  obtain ⟨f0,f1,f2,f3,f4,f5⟩:=hf it (by simp)
  exact wpAny_pyNext_dict_end (knd:=ck X.prog X.w) (kvs:=vs) (ep:=ep) (I.ok.hd hc) (by rw [<- hl];exact st) ⟨o,es',e,h2,lg,h4⟩ (by simp;omega) fun h' eb=>⟨rfl,I.turned (t':=s.toks) (fun b o hb e=>eb b o hb e) f0 f1 f3 f4 f5⟩
 self:=fun _ _ _ _ _ st h=>wpAny_pyIter_keyiter st h
theorem oO (h:H a=some o):upd H a o=H:=by
 funext b
 unfold upd
 by_cases e:b=a
 ·rw [if_pos e,e,h]
 ·rw [if_neg e]
theorem Inv.freeze {kvs:List (Key×V)} (I:Inv X pins σ H s) (h:Rd H a (.dK kvs)):∃ o es ep,o.data=.dict es ep/\Inv X pins σ (upd H a (.aq o (.dK kvs))) s/\s.heap.get? a=some o:=by
 rcases h with h | ⟨o,h⟩
 ·have ok:=(show b_ X.prog X.w H s.heap a (.dK kvs) from I.hok a _ h)
  obtain ⟨z,hd,vs,rel,o,es,ep,h1,h2,h3,h4⟩:=ok
  have I2:=I.write (x:=a) (e:=a) (h':=s.heap) (t':=s.toks) (o:=.aq o (.dK kvs)) (by rw [h];exact True.intro) (.inl rfl) (fun b u _ q=>q) ⟨o,h1⟩ ⟨h1,z,hd,vs,rel,o,es,ep,h1,h2,h3,h4⟩
  exact ⟨o,es,ep,h3,I2,h1⟩
 ·obtain ⟨e,z,hd,vs,rel,ob,es,ep,h1,h2,h3,h4⟩:=(show b_ X.prog X.w H s.heap a (.aq o (.dK kvs)) from I.hok a _ h)
  rw [e] at h1;cases h1
  exact ⟨o,es,ep,h3,by rw [oO h];exact I,e⟩
def Sw (te:TE):TI:=fun σ H R=>te σ H fun x H1=>∃ a kvs,x=.ref a/\Rd H1 a (.dK kvs)/\∀ o,R (Ht a o kvs) (upd H1 a (.aq o (.dK kvs)))
theorem zY (he:SE X e te):SI X tg e (Sw te):=by
 constructor
 intro pins s σ H R I h
 refine au (he.h pins s σ H _ I h) ?_
 rintro v s1 ⟨x,H1,I1,r1,a,kvs,ex,hr,q⟩
 subst ex
 cases r1
 obtain ⟨o,es,ep,hd,I2,ho⟩:=I1.freeze hr
 obtain ⟨e,z,DB,vs,rel,ob,es',xj,h1,h2,h3,h4⟩:=(show b_ X.prog X.w _ s1.heap a (.aq o (.dK kvs)) from I2.hok a _ aA)
 rw [e] at h1;cases h1
 rw [hd] at h3;injection h3 with sf sj
 subst sf sj
 refine wpAny_pyIter_dict (knd:=ck X.prog X.w) (kvs:=vs) (ep:=ep) DB ⟨o,es,e,h2,hd,h4⟩ ?_
 have hl:=rel.len
 refine ⟨s1.heap.objs.size,[s1.heap.objs.size],_,_,_,rfl,I2.kept (t':=s1.toks) fun b o e=>Qc _ e,uJ (kvs:=kvs) (a:=a) (o:=o) ⟨es,hd⟩,by rw [hl];exact ⟨_,Qd _ rfl,rfl,rfl⟩,fun b hb=>?_,q o⟩
 have e:b=s1.heap.objs.size:=by simpa using hb
 subst e
 exact I2.Ae (Qy _) (I2.hok.fresh (Qy _))
def Le (n:Bool):R2:=fun y x H Q=>∃ a o,x=.ref a/\fi H a y o/\Q (.bl (n^^o.isSome)) H
theorem xX (hu:X.A.units+1 < cLine):cj X (compareOp .In) (Le false):=by
 intro pins s σ H x y v u Q I rx ry h
 obtain ⟨a,o,rfl,g,q⟩:=h
 cases ry
 exact Rb hu I g rx fun s' I'=>⟨.bl o.isSome,H,I',rfl,by simpa using q⟩
theorem uD (hu:X.A.units+1 < cLine):cj X (compareOp .NotIn) (Le true):=by
 intro pins s σ H x y v u Q I rx ry h
 obtain ⟨a,o,rfl,g,q⟩:=h
 cases ry
 exact Rc hu I g rx fun s' I'=>⟨.bl (!o.isSome),H,I',rfl,by simpa using q⟩
theorem fi.rd {kvs:List (Key×V)} {k:Key} (e:Rd H a (.dK kvs)):fi H a (kV k) (br kvs k):=.inl ⟨kvs,k,e,rfl,rfl⟩
section
variable {a b c:Expr} {ta:TA} {p pos:Pos}
end
inductive Dt where
 | str (z:Str)
 | tup (ds:List Dt)
 | mj
inductive DD (H:Hp):V->Dt->Prop
 | str {z:Str} (h:z.length<=100000):DD H (.str z) (.str z)
 | tup {a:Addr} {xs:List V} {ds:List Dt}:H a=some (.tup xs)->xs.length=ds.length->xs.length<=1000->(∀ i (h:i < xs.length) (h':i < ds.length),DD H xs[i] ds[i])->DD H (.ref a) (.tup ds)
 | ai:DD H .ai .mj
 | bl (b:Bool):DD H (.bl b) .mj
 | int (i:Int):DD H (.int i) .mj
 | lst {a:Addr} {xs:List V}:H a=some (.lst xs)->DD H (.ref a) .mj
 | dct {a:Addr} {kvs:List (Key×V)}:H a=some (.dK kvs)->DD H (.ref a) .mj
theorem DD.same (s:aa H H') {v:V} {d:Dt} (h:DD H v d):DD H' v d:=by
 induction h with
 | str h=>exact .str h
 | tup e hl hn _ ih=>exact .tup (s _ _ e) hl hn ih
 | ai=>exact .ai
 | bl b=>exact .bl b
 | int i=>exact .int i
 | lst e=>exact .lst (s _ _ e)
 | dct e=>exact .dct (s _ _ e)
def Ca:Dt->Bool | .str z=>isName z | _=>false
def pairD:Dt->Bool | .tup [a,b]=>Ca a&&Ca b | _=>false
def Lf:Dt->Str | .tup (.str z::_)=>z | _=>""
def om (a b:Str):Bool:=decide (a.cps.toList < b.cps.toList)
def rising:List Str->Bool
 | a::b::r=>om a b&&rising (b::r)
 | _=>true
def Hv:Dt->Bool | .tup ps=>ps.all pairD&&rising (ps.map Lf) | _=>false
def Cb (s:Str):Bool:=s=="box"||s=="pick"
def DC (s:Str):Option Nat:=if s=="all" then some 0 else if s=="none" then some 0 else if s=="way" then some 2 else if s=="as" then some 1 else none
def headD:Dt->Bool
 | .tup (.str s::rest)=>if Cb s then (match rest with | [p]=>Hv p | _=>false) else match DC s with | some n=>decide (rest.length=n)&&rest.all Ca | none=>false
 | _=>false
theorem az.imp {P:Program} {w:World} {K:Q0} {mg:Str->Option Value} {base:Heap} {k:Nat} {x:Str} {ps:List Str} {sp C7:Sp} (F:az P w K mg base k x ps sp) (h:∀ vs H Q E,C7 vs H Q E->sp vs H Q E):az P w K mg base k x ps C7:=by
 obtain ⟨f,fd,G,r⟩:=F
 exact ⟨f,fd,G.imp h,r⟩
theorem iH (rs:List (Key×V)):(rs.map (·.1)).Nodup->dictOf rs=rs:=by
 have gen:∀ (rs kvs:List (Key×V)),(rs.map (·.1)).Nodup->(∀ r∈rs,br kvs r.1=none)->rs.foldl (fun kvs r=>putK kvs r.1 r.2) kvs=kvs++rs:=by
  intro rs
  induction rs with
  | nil=>intro kvs _ _;simp
  | cons r rs ih=>
   intro kvs hn hk
   rw [List.map_cons,List.nodup_cons] at hn
   rw [List.foldl_cons,cB _ (hk r List.mem_cons_self),ih _ hn.2 fun x hx=>?_]
   ·simp
   ·rw [j4 _ _ _ _ (hk r List.mem_cons_self),if_neg (fun e=>hn.1 (List.mem_map.mpr ⟨x,hx,e⟩))]
    exact hk x (Qh _ hx)
 intro hn
 have:=gen rs [] hn (fun _ _=>rfl)
 simpa [dictOf] using this
theorem vD {v:V} {d:Dt} (h:DD H v d) (hn:Ca d=true):∃ z,v=.str z/\d=.str z/\isName z=true:=by
 cases h with
 | str _=>exact ⟨_,rfl,rfl,hn⟩
 | tup _ _ _ _=>exact Bool.noConfusion hn
 | ai=>exact Bool.noConfusion hn
 | bl _=>exact Bool.noConfusion hn
 | int _=>exact Bool.noConfusion hn
 | lst _=>exact Bool.noConfusion hn
 | dct _=>exact Bool.noConfusion hn
def Sy:Dt->Dt | .tup (_::h::_)=>h | _=>.mj
def DE:Dt->Option Str | .tup [.str s,.str x]=>if s=="as" then some x else none | _=>none
def Bg (ds:List Dt):List (Str×Dt):=ds.map fun d=>(Lf d,Sy d)
def Hw (rs:List (Str×Dt)) (n:Str):Option Str:=(rs.find? fun r=>decide (r.1=n)).bind fun r=>DE r.2
theorem Rd.same {u:HO} (r:Rd H a u) (s:aa H H'):Rd H' a u:=by
 rcases r with r | ⟨o,r⟩
 ·exact .inl (s _ _ r)
 ·exact .inr ⟨o,s _ _ r⟩
theorem xQ (z:Str) (ds:List Dt):headD (.tup (.str z::ds))=if Cb z then (match ds with | [p]=>Hv p | _=>false) else match DC z with | some n=>decide (ds.length=n)&&ds.all Ca | none=>false:=rfl
theorem vR {v:V} {d:Dt} (h:DD H v d) (hh:headD d=true):∃ a z xs ds,v=.ref a/\d=.tup (.str z::ds)/\H a=some (.tup (.str z::xs))/\xs.length=ds.length/\xs.length < 1000/\(∀ i (h:i < xs.length) (h':i < ds.length),DD H xs[i] ds[i])/\
  ((Cb z=true/\∃ p,ds=[p]/\Hv p=true)\/(Cb z=false/\∃ n,DC z=some n/\ds.length=n/\ds.all Ca=true)):=by
 cases h with
 | @tup a xs ds e hl hn ji=>
  match ds,hl,hh,ji with
  | .str z::ds,hl,hh,ji=>
   match xs,hl,e,hn,ji with
   | x0::xs,hl,e,hn,ji=>
    have h0:=ji 0 (by simp) (by simp)
    simp only [List.getElem_cons_zero] at h0
    cases h0
    refine ⟨a,z,xs,ds,rfl,rfl,e,by simpa using hl,by simp at hn;omega,fun i h h'=>ji (i+1) (by simpa using h) (by simpa using h'),?_⟩
    rw [xQ] at hh
    cases hw:Cb z with
    | true=>
     rw [hw] at hh
     simp only [if_true] at hh
     match ds,hh with
     | [p],hh=>exact .inl ⟨rfl,p,rfl,hh⟩
    | false=>
     rw [hw] at hh
     simp only [Bool.false_eq_true,if_false] at hh
     cases hb:DC z with
     | none=>rw [hb] at hh;exact Bool.noConfusion hh
     | some n=>
      rw [hb] at hh
      simp only [Bool.and_eq_true,decide_eq_true_eq] at hh
      exact .inr ⟨rfl,n,rfl,hh.1,hh.2⟩
  | .tup _::_,_,hh,_=>exact Bool.noConfusion hh
  | .mj::_,_,hh,_=>exact Bool.noConfusion hh
  | [],_,hh,_=>exact Bool.noConfusion hh
 | str _=>exact Bool.noConfusion hh
 | ai=>exact Bool.noConfusion hh
 | bl _=>exact Bool.noConfusion hh
 | int _=>exact Bool.noConfusion hh
 | lst _=>exact Bool.noConfusion hh
 | dct _=>exact Bool.noConfusion hh
theorem uA:Cb "as"=false:=by decide
theorem Sz {v:V} {d:Dt} (h:DD H v d) (hh:headD d=true):Be H v (DE d):=by
 obtain ⟨a,z,xs,ds,rfl,rfl,e,hl,hn,ji,hc⟩:=vR h hh
 refine ⟨a,rfl,?_⟩
 by_cases hz:z="as"
 ·subst hz
  rcases hc with ⟨hw,_⟩ | ⟨_,n,hb,Lg,Fj⟩
  ·rw [uA] at hw;cases hw
  ·have hn1:n=1:=by
    have:DC "as"=some 1:=by decide
    rw [this] at hb;cases hb;rfl
   subst hn1
   match ds,Lg,hl,Fj,ji with
   | [d1],_,hl,Fj,ji=>
    match xs,hl,e,ji with
    | [x1],_,e,ji=>
     simp only [List.all_cons,List.all_nil,Bool.and_true] at Fj
     obtain ⟨y,q1,q2,_⟩:=vD (ji 0 (by simp) (by simp)) Fj
     simp only [List.getElem_cons_zero] at q1
     subst q1 q2
     exact .inr ⟨y,e,by simp [DE]⟩
 ·refine .inl ⟨z,xs,e,hz,?_⟩
  have Hx:(z==Str.ofString "as")=false:=by simpa using hz
  unfold DE
  split
  ·next s x Hy=>
   injection Hy with Hy
   injection Hy with h1 _
   injection h1 with h1
   rw [<- h1,if_neg (by rw [Hx];exact Bool.false_ne_true)]
  ·rfl
structure Cc (H:Hp) (xs:List V) (ds:List Dt) (rs:List (Str×V)) (hs:List Dt):Prop where
 l1:rs.length=ds.length
 l2:hs.length=ds.length
 ps:ie H xs (bh rs)
 dd:∀ i (h:i < ds.length) (h1:i < rs.length) (h2:i < hs.length),ds[i]=.tup [.str rs[i].1,hs[i]]/\DD H rs[i].2 hs[i]/\headD hs[i]=true/\isName rs[i].1=true
section
variable {xs:List V} {ds:List Dt} {rs:List (Str×V)} {hs:List Dt}
theorem Cc.rows (R:Cc H xs ds rs hs) (h:i < ds.length) (h1:i < rs.length) (h2:i < hs.length):(Bg ds)[i]? =some (rs[i].1,hs[i]):=by
 unfold Bg
 rw [Qq,Qa h,(R.dd i h h1 h2).1];rfl
theorem jK (n:Str) (h:n ∉ rs.map (·.1)):br (bh rs) (.inr n)=none:=by
 unfold br
 rw [List.find?_eq_none.mpr]
 ·rfl
 ·intro p hp e
  obtain ⟨r,hr,rfl⟩:=List.mem_map.mp hp
  exact h (List.mem_map.mpr ⟨r,hr,Sum.inr.inj (Qt e)⟩)
theorem lG (nd:(rs.map (·.1)).Nodup) (h:i < rs.length):br (bh rs) (.inr rs[i].1)=some rs[i].2:=by
 have:=j6 (bh rs) (jR nd) i (by simpa using h)
 rw [iH _ (jR nd)] at this
 simpa using this
theorem Cc.nx (R:Cc H xs ds rs hs) (nd:(rs.map (·.1)).Nodup) (h1:i < rs.length) (h2:i < hs.length):Hw (Bg ds) rs[i].1=DE hs[i]:=by
 have h:i < ds.length:=by have:=R.l1;omega
 unfold Hw
 have:(Bg ds).find? (fun r=>decide (r.1=rs[i].1))=some (rs[i].1,hs[i]):=by
  rw [List.find?_eq_some_iff_getElem]
  have hl:(Bg ds).length=ds.length:=by unfold Bg;simp
  refine ⟨by simp,i,by omega,?_,fun j hj=>?_⟩
  ·have:=R.rows h h1 h2
   rw [Qa (by omega)] at this
   exact QD this
  ·have Bh:j < rs.length:=by omega
   have:=R.rows (i:=j) (by omega) Bh (by omega)
   rw [Qa (by omega)] at this
   rw [QD this]
   have jt:(rs.map (·.1))[j]'(by simp;omega)≠(rs.map (·.1))[i]'(by simpa using h1):=fun z=>(List.pairwise_iff_getElem.mp nd j i (by simp;omega) (by simpa using h1) hj) z
   simpa using jt
 rw [this];rfl
theorem Cc.has (R:Cc H xs ds rs hs) (nd:(rs.map (·.1)).Nodup) (n:Str) (v:V) (hv:br (bh rs) (.inr n)=some v):Be H v (Hw (Bg ds) n):=by
 by_cases h:n∈rs.map (·.1)
 ·obtain ⟨r,hr,rfl⟩:=List.mem_map.mp h
  obtain ⟨i,hi,rfl⟩:=Qi hr
  rw [lG nd hi] at hv
  cases hv
  have h2:i < hs.length:=by have:=R.l1;have:=R.l2;omega
  rw [R.nx nd hi h2]
  obtain ⟨_,q1,q2,_⟩:=R.dd i (by have:=R.l1;omega) hi h2
  exact Sz q1 q2
 ·rw [jK n h] at hv;cases hv
end
inductive TX (H:Hp):V->Dt->Prop
 | str {z:Str} (h:z.length<=100000):TX H (.str z) (.str z)
 | tup {a:Addr} {xs:List V} {ds:List Dt}:H a=some (.tup xs)->xs.length=ds.length->xs.length<=1000->(∀ i (h:i < xs.length) (h':i < ds.length),TX H xs[i] ds[i])->TX H (.ref a) (.tup ds)
theorem TX.dd {v:V} {d:Dt} (h:TX H v d):DD H v d:=by
 induction h with
 | str h=>exact .str h
 | tup e hl hn _ ih=>exact .tup e hl hn ih
theorem yW {x:V} {d:Dt} (e:H a=some (.tup [x])) (h:TX H x d):TX H (.ref a) (.tup [d]):=.tup e rfl (by simp) fun i h1 h2=>by
 match i,h1 with
 | 0,_=>exact h
theorem mU {x y:V} {d d':Dt} (e:H a=some (.tup [x,y])) (h:TX H x d) (h':TX H y d'):TX H (.ref a) (.tup [d,d']):=.tup e rfl (by simp) fun i h1 h2=>by
 match i,h1 with
 | 0,_=>exact h
 | 1,_=>exact h'
theorem SD {x y z:V} {d d' Lh:Dt} (e:H a=some (.tup [x,y,z])) (h:TX H x d) (h':TX H y d') (B8:TX H z Lh):TX H (.ref a) (.tup [d,d',Lh]):=.tup e rfl (by simp) fun i h1 h2=>by
 match i,h1 with
 | 0,_=>exact h
 | 1,_=>exact h'
 | 2,_=>exact B8
theorem dG (h:isName z=true):z.length<=8:=by
 unfold isName at h
 simp only [Bool.and_eq_true,decide_eq_true_eq] at h
 exact h.1.1.2
theorem iF (h:isName z=true):TX H (.str z) (.str z):=.str (by have:=dG h;omega)
theorem mP (h:z.length<=100):TX H (.str z) (.str z):=.str (by omega)
section
variable {P:Option Str->Prop}
structure Li (H:Hp) (ns:List Str) (xs:List V) (ps:List (Str×Str)):Prop where
 len:xs.length=ps.length
 at_:∀ i (h:i < xs.length) (h':i < ps.length),∃ c,xs[i]=.ref c/\H c=some (.tup [.str ps[i].1,.str ps[i].2])
 nm:∀ p∈ps,isName p.1=true/\isName p.2=true/\p.2∈ns
 dj:rising (ps.map (·.1))=true
end
theorem o7 {a b c:Str} (h1:om a b=true) (h2:om b c=true):om a c=true:=by
 unfold om at*
 exact Qv (List.lt_trans (Qt h1) (Qt h2))
theorem eX:∀ {ws:List Str},ws.Pairwise (fun a b=>om a b=true)->rising ws=true
 | [],_=>rfl
 | [_],_=>rfl
 | a::b::r,h=>by
  rw [List.pairwise_cons] at h
  rw [rising,h.1 b List.mem_cons_self,eX h.2];rfl
def Bj:V->Str
 | .str z=>z
 | _=>""
theorem SH {xs:List V} {rs:List (Str×V)} (q2:ie H xs (bh rs)) (hn:∀ r∈rs,isName r.1=true) (q4:∀ r∈rs,∃ y,r.2=.str y/\y∈ns/\isName y=true) (hr:rising (rs.map (·.1))=true):Li H ns xs (rs.map fun q=>(q.1,Bj q.2)):=by
 have hl:xs.length=rs.length:=by have:=q2.1;simpa using this
 refine ⟨by simp;omega,fun i h1 h2=>?_,fun q hq=>?_,?_⟩
 ·have h3:i < rs.length:=by omega
  obtain ⟨c',e1,e2⟩:=q2.2 i (by simpa using h3)
  rw [Qa h1] at e1
  refine ⟨c',QD e1,?_⟩
  obtain ⟨y,ey,_⟩:=q4 _ (Qj h3)
  simp only [Qr]
  rw [ey]
  have:H c'=some (.tup [.str rs[i].1,rs[i].2]):=by simpa [bh,kV] using e2
  rw [ey] at this
  exact this
 ·obtain ⟨q',ud,rfl⟩:=List.mem_map.mp hq
  obtain ⟨y,ey,my,ny⟩:=q4 q' ud
  refine ⟨hn q' ud,?_,?_⟩
  ·show isName (Bj q'.2)=true
   rw [ey];exact ny
  ·show Bj q'.2∈ns
   rw [ey];exact my
 ·rw [Qn];exact hr
section
variable {e1 e2:Expr} {p pos:Pos} {k:Nat} {g1 g2:TG}
end
section
variable {t1 i1 t2 i2 elt:Expr} {pos:Pos} {wi SJ:TI} {g g2:TG}
end
theorem jZ {α β:Type} {f g:α->Option β}:∀ {l:List α},(∀ x∈l,f x=g x)->l.filterMap f=l.filterMap g
 | [],_=>rfl
 | a::l,h=>by rw [List.filterMap_cons,List.filterMap_cons,h a List.mem_cons_self,jZ fun x hx=>h x (Qh _ hx)]
theorem yO (xs:Array Value):((List.range xs.size).filterMap fun (k:Nat)=>xs[(((xs.size:Int) - 1)+(k:Int)*(-1)).toNat]?)=xs.toList.reverse:=by
 have e:((List.range xs.size).filterMap fun (k:Nat)=>xs[(((xs.size:Int) - 1)+(k:Int)*(-1)).toNat]?)=(List.range xs.size).map fun k=>xs.toList.reverse.getD k .none:=by
  rw [<- List.filterMap_eq_map]
  refine jZ fun k hk=>?_
  have hk':=List.mem_range.mp hk
  have e1:(((xs.size:Int) - 1)+(k:Int)*(-1)).toNat=xs.size - 1 - k:=by omega
  rw [e1]
  have h1:xs.size - 1 - k < xs.size:=by omega
  have h2:k < xs.toList.reverse.length:=by simp;exact hk'
  show _=some (xs.toList.reverse.getD k .none)
  rw [Qb,Qa h2,List.getElem_reverse]
  simp [h1]
 rw [e]
 refine List.ext_getElem (by simp) fun i h1 h2=>?_
 rw [Qr,List.getElem_range,Qb,Qa h2];rfl
section
variable {st:Expr} {ts:TE} {p2 pos:Pos}
theorem a_.rev:∀ {xs:List V} {us:List Value},a_ xs us->a_ xs.reverse us.reverse
 | _,_,.nil=>.nil
 | _,_,.cons r rr=>by
  rw [List.reverse_cons,List.reverse_cons]
  exact (a_.rev rr).append (.cons r .nil)
end
inductive Hd where
 | one (s:Str)
 | as (y:Str)
 | way (x y:Str)
 | prs (s:Str) (ps:List (Str×Str))
def Hd.nx:Hd->Option Str
 | .as y=>some y
 | _=>none
def Hd.ok (ns:List Str):Hd->Prop
 | .one s=>s="all"\/s="none"
 | .as y=>isName y=true/\y∈ns
 | .way x y=>isName x=true/\isName y=true/\x∈ns/\y∈ns
 | .prs s ps=>(s="box"\/s="pick")/\(∀ p∈ps,isName p.1=true/\isName p.2=true/\p.2∈ns)/\rising (ps.map (·.1))=true/\ps.length<=10
structure DF (H:Hp) (xs:List V) (ps:List (Str×Str)):Prop where
 len:xs.length=ps.length
 at_:∀ i (h:i < xs.length) (h':i < ps.length),∃ c,xs[i]=.ref c/\H c=some (.tup [.str ps[i].1,.str ps[i].2])
theorem DF.tk {xs:List V} {ps:List (Str×Str)} (h:DF H xs ps) (s:Tk H H'):DF H' xs ps:=⟨h.len,fun i a b=>let ⟨c,h1,h2⟩:=h.at_ i a b;⟨c,h1,s _ _ h2⟩⟩
inductive HV (H:Hp):V->Hd->Prop
 | one {b:Addr} {s:Str}:H b=some (.tup [.str s])->HV H (.ref b) (.one s)
 | as {b:Addr} {y:Str}:H b=some (.tup [.str "as",.str y])->HV H (.ref b) (.as y)
 | way {b:Addr} {x y:Str}:H b=some (.tup [.str "way",.str x,.str y])->HV H (.ref b) (.way x y)
 | prs {b c:Addr} {s:Str} {xs:List V} {ps:List (Str×Str)}:H b=some (.tup [.str s,.ref c])->H c=some (.tup xs)->DF H xs ps->HV H (.ref b) (.prs s ps)
theorem HV.tk {H H':Hp} (s:Tk H H') {v:V} {h:Hd} (q:HV H v h):HV H' v h:=by
 cases q with
 | one e=>exact .one (s _ _ e)
 | as e=>exact .as (s _ _ e)
 | way e=>exact .way (s _ _ e)
 | prs e e' p=>exact .prs (s _ _ e) (s _ _ e') (p.tk s)
section
variable {v:V} {P:Option Str->Prop}
end
def Hd.dt:Hd->Dt
 | .one s=>.tup [.str s]
 | .as y=>.tup [.str "as",.str y]
 | .way x y=>.tup [.str "way",.str x,.str y]
 | .prs s ps=>.tup [.str s,.tup (ps.map fun p=>.tup [.str p.1,.str p.2])]
theorem HV.tx {v:V} {h:Hd} (q:HV H v h) (ok:h.ok ns):TX H v h.dt:=by
 cases q with
 | one e=>exact yW e (mP (by rcases ok with rfl | rfl<;>decide))
 | as e=>exact mU e (mP (by decide)) (iF ok.1)
 | way e=>exact SD e (mP (by decide)) (iF ok.1) (iF ok.2.1)
 | @prs b c s xs ps e e' p=>
  have Fk:=ok.2.2.2
  have hl:=p.len
  refine mU e (mP (by rcases ok.1 with rfl | rfl<;>decide)) (.tup e' (by simp [p.len]) (by omega) fun i h1 h2=>?_)
  have h3:i < ps.length:=by simpa using h2
  obtain ⟨c',q1,q2⟩:=p.at_ i h1 h3
  obtain ⟨m1,m2,_⟩:=ok.2.1 _ (Qj h3)
  rw [q1]
  simp only [Qr]
  exact mU q2 (iF m1) (iF m2)
abbrev ae:=Str×Hd
end L2
variable {g:L2.TG} {ta:L2.TA} {wi:L2.TI} {sp:L2.Sp} {tc:L2.TC} {d:L2.Dt} {ds:List L2.Dt} {rs r1 r2:List L2.ae}
namespace L2
open PySem PySem.Spec PyProof.Rows
structure RV (H:Hp) (xs:List V) (rows:List ae):Prop where
 len:xs.length=rows.length
 at_:∀ i (h:i < xs.length) (h':i < rows.length),∃ b v,xs[i]=.ref b/\H b=some (.tup [.str rows[i].1,v])/\HV H v rows[i].2
theorem RV.tk {H H':Hp} {xs:List V} {rows:List ae} (h:RV H xs rows) (s:Tk H H'):RV H' xs rows:=⟨h.len,fun i a b=>let ⟨c,v,h1,h2,h3⟩:=h.at_ i a b;⟨c,v,h1,s _ _ h2,h3.tk s⟩⟩
def SK (r:ae):Dt:=.tup [.str r.1,r.2.dt]
def Lj (ns:List Str) (rows:List ae):Prop:=∀ r∈rows,isName r.1=true/\r.2.ok ns
def Hd.pre:Hd->List Str
 | .one s=>[s]
 | .as _=>[]
 | .way _ _=>["way"]
 | .prs s _=>[s]
inductive DA (P:Addr->Prop) (H:Hp):Bool->V->PyData->Dt->Prop
 | str {m:Bool} {z:Str} (h:z.length<=100000):DA P H m (.str z) (.str z) (.str z)
 | ai {m:Bool}:DA P H m .ai .none .mj
 | bl {m:Bool} (b:Bool):DA P H m (.bl b) (.bool b) .mj
 | int {m:Bool} (i:Int):DA P H m (.int i) (.int i) .mj
 | tup {m:Bool} {a:Addr} {xs:List V} {ps:List PyData} {ds:List Dt}:P a->H a=some (.tup xs)->xs.length=ps.length->xs.length=ds.length->xs.length<=1000->(∀ i (h:i < xs.length) (h':i < ps.length) (B8:i < ds.length),DA P H m xs[i] ps[i] ds[i])->DA P H m (.ref a) (.tuple ps) (.tup ds)
 | lst {a:Addr} {xs:List V} {ps:List PyData} {ds:List Dt}:P a->H a=some (.lst xs)->xs.length=ps.length->xs.length=ds.length->(∀ i (h:i < xs.length) (h':i < ps.length) (B8:i < ds.length),DA P H true xs[i] ps[i] ds[i])->DA P H true (.ref a) (.list ps) .mj
 | SM {a:Addr}:P a->H a=some (.dK [])->DA P H false (.ref a) (.dict []) .mj
 | SN {a:Addr} {z:Str} {x:V} {p:PyData} {d:Dt}:P a->H a=some (.dK [(.inr z,x)])->DA P H false x p d->DA P H false (.ref a) (.dict [(.str z,p)]) .mj
theorem DA.dd {P:Addr->Prop} {m:Bool} {v:V} {p:PyData} (h:DA P H m v p d):DD H v d:=by
 induction h with
 | str h=>exact .str h
 | ai=>exact .ai
 | bl b=>exact .bl b
 | int i=>exact .int i
 | tup _ e h1 h2 h3 _ ih=>exact .tup e h2 h3 fun i a b=>ih i a (by omega) b
 | lst _ e h1 h2 _ ih=>exact .lst e
 | SM _ e=>exact .dct e
 | SN _ e _ ih=>exact .dct e
section
variable {P P':Addr->Prop} {m:Bool} {v:V} {k k' n':Nat} {xs:List V}
end
section
variable {P:Addr->Prop} {m:Bool} {k c:Nat}
end
section
variable {pos:Pos}
theorem xA {y:Str} {a b:Expr} {px py pt:Pos} {kt k2 A3} (hc:X.calm=true) (hN:X.N.Nodup) (hi:X.N[i]? =some x) (hj:X.N[j]? =some y) (qo:i≠j) (hx:X.env.scope.names.lookup x=some .local) (hy:X.env.scope.names.lookup y=some .local) (ha:SA X [a,b] ta)
  (hw:swappedStores [.Tuple [.Name x px,.Name y py] kt pt] (.Tuple [a,b] k2 A3) X.env=pure (some [x,y])) (hs:swapsWithSole [.Tuple [.Name x px,.Name y py] kt pt] (.Tuple [a,b] k2 A3) pos.line X.env=pure false:=by rfl):SS X (.Assign [.Tuple [.Name x px,.Name y py] kt pt] (.Tuple [a,b] k2 A3) pos) (Kc i j ta):=⟨O5 hc hN hi hj qo hx hy ha.h hw hs⟩
end
theorem l6 (y:Str) (zs:List Str):Ah (.str y) (zs.map V.str)=decide (y∈zs):=by
 rw [Bool.eq_iff_iff,decide_eq_true_iff]
 unfold Ah
 rw [List.any_map,List.any_eq_true]
 constructor
 ·rintro ⟨a,ha,e⟩
  have e':(a==y)=true:=e
  rw [<- eq_of_beq e'];exact ha
 ·intro h
  exact ⟨y,h,(beq_self_eq_true y:(y==y)=true)⟩
section
variable {I:Addr} {wr:List Addr} {P:Nat->Value->Prop} {St:Nat->Shared->Prop}
end
section
variable {a b c:Expr} {p pos:Pos}
end
def Hd.Ao:Hd->List Str
 | .prs _ ps=>ps.map (·.1)
 | _=>[]
structure oq (H:Hp) (ns ws:List Str) (v:V) (P:Option Str->Prop):Prop where
 ex:∃ h,HV H v h/\h.ok ns/\P h.nx/\∀ z∈h.Ao,z∈ws
section
variable {v:V} {P:Option Str->Prop}
theorem oq.tk {H':Hp} (h:oq H ns ws v P) (s:Tk H H'):oq H' ns ws v P:=let ⟨d,h1,h2⟩:=h.ex;⟨d,h1.tk s,h2⟩
theorem oq.imp {P':Option Str->Prop} (h:oq H ns ws v P) (f:∀ o,P o->P' o):oq H ns ws v P':=let ⟨d,h1,h2,h3,h4⟩:=h.ex;⟨d,h1,h2,f _ h3,h4⟩
theorem SQ {y:Str} (e:H b=some (.tup [.str "as",.str y])) (hy:isName y=true) (hm:y∈ns) (hP:P (some y)):oq H ns ws (.ref b) P:=⟨.as y,.as e,⟨hy,hm⟩,hP,(fun _ h=>nomatch h)⟩
theorem wE (e:H b=some (.tup [.str "none"])) (hP:P none):oq H ns ws (.ref b) P:=⟨.one "none",.one e,.inr rfl,hP,(fun _ h=>nomatch h)⟩
theorem SR (e:H b=some (.tup [.str "all"])) (hP:P none):oq H ns ws (.ref b) P:=⟨.one "all",.one e,.inl rfl,hP,(fun _ h=>nomatch h)⟩
theorem SX {y:Str} (e:H b=some (.tup [.str "way",.str x,.str y])) (hx:isName x=true) (hy:isName y=true) (mx:x∈ns) (my:y∈ns) (hP:P none):oq H ns ws (.ref b) P:=⟨.way x y,.way e,⟨hx,hy,mx,my⟩,hP,(fun _ h=>nomatch h)⟩
theorem rO {s:Str} {c:Addr} {xs:List V} {ps:List (Str×Str)} (hs:s="box"\/s="pick") (e:H b=some (.tup [.str s,.ref c])) (ec:H c=some (.tup xs)) (hn:xs.length<=10) (h:Li H ns xs ps) (hw:∀ q∈ps,q.1∈ws) (hP:P none):oq H ns ws (.ref b) P:=
 ⟨.prs s ps,.prs e ec ⟨h.len,h.at_⟩,⟨hs,h.nm,h.dj,by rw [<- h.len];exact hn⟩,hP,fun z hz=>by obtain ⟨q,hq,rfl⟩:=List.mem_map.mp hz;exact hw q hq⟩
end
theorem vV {y:Str} (e:H b=some (.tup [.str x,.str y])) (hx:Wd x) (hy:Wd y):TB H (.ref b) 1 411:=
 (TB.tup (k:=0) (n:=202) e fun v hv=>by
  simp only [Qp,QA,or_false] at hv
  rcases hv with rfl | rfl
  ·exact TB.str hx
  ·exact TB.str hy).mono (by omega) (by simp)
theorem HV.tb {ws:List Str} {v:V} {h:Hd} (q:HV H v h) (ok:h.ok ns) (hn:∀ n∈ns,Wd n) (hw:∀ z∈h.Ao,Wd z):TB H v 3 8273:=by
 cases q with
 | one e=>
  refine (TB.tup (k:=0) (n:=202) e fun v hv=>?_).mono (by omega) (by simp)
  rw [List.mem_singleton.mp hv]
  rcases ok with rfl | rfl<;>exact TB.str (eE (by decide) (by decide))
 | as e=>exact (vV e (eE (by decide) (by decide)) (hn _ ok.2)).mono (by omega) (by omega)
 | way e=>
  refine (TB.tup (k:=0) (n:=202) e fun v hv=>?_).mono (by omega) (by simp)
  simp only [Qp,QA,or_false] at hv
  rcases hv with rfl | rfl | rfl
  ·exact TB.str (eE (by decide) (by decide))
  ·exact TB.str (hn _ ok.2.2.1)
  ·exact TB.str (hn _ ok.2.2.2)
 | @prs b c s xs ps e e' p=>
  have Fk:=ok.2.2.2
  have hl:=p.len
  refine (TB.tup (k:=2) (n:=4133) e fun v hv=>?_).mono (by omega) (by simp)
  simp only [Qp,QA,or_false] at hv
  rcases hv with rfl | rfl
  ·rcases ok.1 with rfl | rfl<;>exact (TB.str (eE (by decide) (by decide))).mono (by omega) (by omega)
  ·refine (TB.tup (k:=1) (n:=411) e' fun x hx=>?_).mono (by omega) (by omega)
   obtain ⟨i,hi,rfl⟩:=Qi hx
   have h3:i < ps.length:=by omega
   obtain ⟨c',q1,q2⟩:=p.at_ i hi h3
   rw [q1]
   have hm:ps[i]∈ps:=Qj h3
   exact vV q2 (hw _ (List.mem_map.mpr ⟨_,hm,rfl⟩)) (hn _ (ok.2.1 _ hm).2.2)
theorem mZ (a:Str):om a a=false:=by
 unfold om
 exact Qw (List.lt_irrefl _)
def Aq (ns:List Str) (n:Str) (o:Option Str):Prop:=∀ y,o=some y->∃ (i j:Nat),i < j/\ns[i]? =some y/\ns[j]? =some n
structure ju (H:Hp) (ns ws:List Str) (rs:List (Str×V)):Prop where
 sub:∀ r∈rs,r.1∈ns
 hd:∀ r∈rs,oq H ns ws r.2 (Aq ns r.1)
theorem ju.tk {H H':Hp} {ns ws:List Str} {rs:List (Str×V)} (h:ju H ns ws rs) (s:Tk H H'):ju H' ns ws rs:=⟨h.sub,fun r hr=>(h.hd r hr).tk s⟩
theorem ju.perm {rs rs':List (Str×V)} (h:ju H ns ws rs) (p:∀ r∈rs',r∈rs):ju H ns ws rs':=⟨fun r hr=>h.sub r (p r hr),fun r hr=>h.hd r (p r hr)⟩
theorem ju.add {rs:List (Str×V)} (h:ju H ns ws rs) {n:Str} {v:V} (h1:n∈ns) (h2:oq H ns ws v (Aq ns n)):ju H ns ws ((n,v)::rs):=by
 refine ⟨fun r hr=>?_,fun r hr=>?_⟩<;>rcases Qp.mp hr with rfl | hr
 ·exact h1
 ·exact h.sub r hr
 ·exact h2
 ·exact h.hd r hr
structure RT (H:Hp) (a:Addr) (xs:List V) (rows:List ae) (ns ws:List Str):Prop where
 at_:H a=some (.tup xs)
 rv:RV H xs rows
 nm:(rows.map (·.1)).Perm ns
 nd:ns.Nodup
 ok:Lj ns rows
 wd:∀ n∈ns,Wd n
 ah:∀ r∈rows,Aq ns r.1 r.2.nx
 ww:∀ r∈rows,∀ z∈r.2.Ao,z∈ws
 pos:1<=ns.length
 few:ns.length<=14
section
variable {xs:List V} {rows:List ae}
theorem RT.tk (h:RT H a xs rows ns ws) (s:Tk H H'):RT H' a xs rows ns ws:=⟨s _ _ h.at_,h.rv.tk s,h.nm,h.nd,h.ok,h.wd,h.ah,h.ww,h.pos,h.few⟩
theorem RT.rl (h:RT H a xs rows ns ws):rows.length=ns.length:=by have:=h.nm.length_eq;simpa using this
theorem RT.jf (h:RT H a xs rows ns ws):(rows.map (·.1)).Nodup:=by rw [h.nm.nodup_iff];exact h.nd
theorem RT.of {rs:List (Str×V)} (e:H a=some (.tup xs)) (ps:ie H xs (bh rs)) (nm:(rs.map (·.1)).Perm ns) (nd:ns.Nodup) (Lk:∀ n∈ns,isName n=true/\Wd n) (pos:1<=ns.length) (few:ns.length<=14) (g:ju H ns ws rs):∃ rows,RT H a xs rows ns ws:=by
 have hc:∀ i:Fin rs.length,∃ hd:Hd,HV H rs[i.val].2 hd/\hd.ok ns/\Aq ns rs[i.val].1 hd.nx/\∀ z∈hd.Ao,z∈ws:=fun i=>(g.hd _ (Qj i.isLt)).ex
 obtain ⟨f,hf⟩:=Classical.axiomOfChoice hc
 have qb:xs.length=rs.length:=by have:=ps.1;simpa using this
 have en:(List.ofFn fun i:Fin rs.length=>((rs[i.val].1,f i):ae)).map (·.1)=rs.map (·.1):=by
  apply List.ext_getElem
  ·simp
  ·intro i h1 h2;simp
 have mem:∀ r∈(List.ofFn fun i:Fin rs.length=>((rs[i.val].1,f i):ae)),∃ i:Fin rs.length,r=(rs[i.val].1,f i):=fun r hr=>by
  obtain ⟨i,hi,rfl⟩:=Qi hr
  exact ⟨⟨i,by simpa using hi⟩,by simp⟩
 refine ⟨List.ofFn fun i=>(rs[i.val].1,f i),e,⟨by simp [qb],fun i h1 h2=>?_⟩,by rw [en];exact nm,nd,fun r hr=>?_,fun n hn=>(Lk n hn).2,fun r hr=>?_,fun r hr=>?_,pos,few⟩
 ·have h3:i < rs.length:=by omega
  obtain ⟨b,e1,e2⟩:=ps.2 i (by simpa using h3)
  rw [Qa h1] at e1
  refine ⟨b,rs[i].2,QD e1,?_,?_⟩
  ·simpa [bh,kV] using e2
  ·simpa using (hf ⟨i,h3⟩).1
 ·obtain ⟨i,rfl⟩:=mem r hr
  exact ⟨(Lk _ (g.sub _ (Qj i.isLt))).1,(hf i).2.1⟩
 ·obtain ⟨i,rfl⟩:=mem r hr
  exact (hf i).2.2.1
 ·obtain ⟨i,rfl⟩:=mem r hr
  exact (hf i).2.2.2
end
section
variable {xs ys:List V} {rows dc:List ae} {Xc:List Str} {f g:Str->Str}
theorem RT.pairs (h:RT H a xs rows ns ws):∃ rs:List (Str×V),ie H xs (bh rs)/\rs.map (·.1)=rows.map (·.1)/\rs.length=rows.length/\∀ i (h1:i < rs.length) (h2:i < rows.length),HV H rs[i].2 rows[i].2:=by
 have hl:=h.rv.len
 have hc:∀ i:Fin rows.length,∃ v:V,(∃ b,xs[i.val]? =some (.ref b)/\H b=some (.tup [.str rows[i.val].1,v]))/\HV H v rows[i.val].2:=fun i=>by
  obtain ⟨b,v,q1,q2,q3⟩:=h.rv.at_ i.val (by have:=i.isLt;omega) i.isLt
  exact ⟨v,⟨b,by rw [Qa (by have:=i.isLt;omega),q1],q2⟩,q3⟩
 obtain ⟨f,hf⟩:=Classical.axiomOfChoice hc
 refine ⟨List.ofFn fun i=>(rows[i.val].1,f i),⟨by simp [hl],fun i hi=>?_⟩,?_,by simp,fun i h1 h2=>?_⟩
 ·have d_:i < rows.length:=by simpa using hi
  obtain ⟨b,q1,q2⟩:=(hf ⟨i,d_⟩).1
  exact ⟨b,q1,by simpa [bh,kV] using q2⟩
 ·apply List.ext_getElem
  ·simp
  ·intro i h1 h2;simp
 ·simpa using (hf ⟨i,h2⟩).2
def aj (rows:List ae) (x:Str):Hd:=((rows.find? fun r=>decide (r.1=x)).map (·.2)).getD (.one "")
def qc (rows:List ae) (x:Str):Option Str:=(aj rows x).nx
theorem cS (nd:(rows.map (·.1)).Nodup) {r:ae} (hr:r∈rows):aj rows r.1=r.2:=by
 obtain ⟨i,hi,rfl⟩:=Qi hr
 have:rows.find? (fun r=>decide (r.1=rows[i].1))=some rows[i]:=by
  rw [List.find?_eq_some_iff_getElem]
  refine ⟨by simp,i,hi,rfl,fun j hj=>?_⟩
  have jt:(rows.map (·.1))[j]'(by simp;omega)≠(rows.map (·.1))[i]'(by simpa using hi):=List.pairwise_iff_getElem.mp nd j i (by simp;omega) (by simpa using hi) hj
  simpa using jt
 unfold aj
 rw [this];rfl
theorem HV.SY {v:V} {h:Hd} (q:HV H v h) (ok:h.ok ns):Be H v h.nx:=by
 cases q with
 | one e=>exact ⟨_,rfl,.inl ⟨_,_,e,by rcases ok with rfl | rfl<;>decide,rfl⟩⟩
 | as e=>exact ⟨_,rfl,.inr ⟨_,e,rfl⟩⟩
 | way e=>exact ⟨_,rfl,.inl ⟨_,_,e,by decide,rfl⟩⟩
 | prs e e' p=>exact ⟨_,rfl,.inl ⟨_,_,e,by rcases ok.1 with rfl | rfl<;>decide,rfl⟩⟩
theorem RT.good (h:RT H a xs rows ns ws) (hw:∀ z∈ws,Wd z):∃ rs,mi H a xs rs (qc rows) (fun n=>ns.idxOf n)/\rs.map (·.1)=rows.map (·.1)/\rs.length=rows.length/\∀ x v,x∈ns->br (dictOf (bh rs)) (.inr x)=some v->HV H v (aj rows x):=by
 obtain ⟨rs,ps,nm,rl,hv⟩:=h.pairs
 have Ar:=h.rl
 have hf:=h.few
 have hp:=h.pos
 have nd:(rs.map (·.1)).Nodup:=by rw [nm];exact h.jf
 have i_:∀ n,n∈ns↔n∈rs.map (·.1):=fun n=>by rw [nm];exact h.nm.mem_iff.symm
 have at':∀ r∈rs,∃ r'∈rows,r.1=r'.1/\HV H r.2 r'.2:=fun r hr=>by
  obtain ⟨i,hi,rfl⟩:=Qi hr
  have d_:i < rows.length:=by omega
  refine ⟨rows[i],Qj d_,?_,hv i hi d_⟩
  have:(rs.map (·.1))[i]'(by simpa using hi)=(rows.map (·.1))[i]'(by simpa using d_):=by simp only [nm]
  simpa using this
 have g:mi H a xs rs (qc rows) (fun n=>ns.idxOf n):=by
  refine ⟨h.at_,ps,nd,by omega,by omega,fun r hr=>?_,fun r hr y hy=>?_,fun r hr=>?_,fun r hr=>?_⟩
  ·obtain ⟨r',gi,e,v⟩:=at' r hr
   unfold qc
   rw [e,cS h.jf gi]
   exact v.SY (h.ok r' gi).2
  ·obtain ⟨r',gi,e,v⟩:=at' r hr
   unfold qc at hy
   rw [e,cS h.jf gi] at hy
   obtain ⟨i,j,qo,h1,h2⟩:=h.ah r' gi y hy
   refine ⟨(i_ y).mp (QC h1),?_⟩
   show ns.idxOf y < ns.idxOf r.1
   rw [e,mE h.nd h1,mE h.nd h2]
   exact qo
  ·have:=List.idxOf_lt_length_of_mem ((i_ r.1).mpr (List.mem_map.mpr ⟨r,hr,rfl⟩))
   show ns.idxOf r.1<=_
   omega
  ·obtain ⟨r',gi,e,v⟩:=at' r hr
   refine ⟨h.wd _ ((i_ r.1).mpr (List.mem_map.mpr ⟨r,hr,rfl⟩)),v.tb (ws:=ws) (h.ok r' gi).2 h.wd fun z hz=>hw z (h.ww r' gi z hz)⟩
 refine ⟨rs,g,nm,rl,fun x v hx v_=>?_⟩
 obtain ⟨v',m,e⟩:=g.get ((i_ x).mp hx)
 rw [v_] at e
 cases e
 obtain ⟨r',gi,e,q⟩:=at' _ m
 have e':x=r'.1:=e
 rw [e',cS h.jf gi]
 exact q
end
def Hd.bq:Hd->List (List Str×Str)
 | .way x y=>[(["from"],x),(["to"],y)]
 | .prs s ps=>ps.map fun p=>([if s="box" then "part" else "case",p.1],p.2)
 | _=>[]
theorem rE:∀ {h:Hd},h.ok ns->∀ m∈h.bq,m.2∈ns
 | .one _,_,_,hm=>nomatch hm
 | .as _,_,_,hm=>nomatch hm
 | .way x y,ok,m,hm=>by
  simp only [Hd.bq,Qp,QA,or_false] at hm
  rcases hm with rfl | rfl
  ·exact ok.2.2.1
  ·exact ok.2.2.2
 | .prs s ps,ok,m,hm=>by
  obtain ⟨p,hp,rfl⟩:=List.mem_map.mp hm
  exact (ok.2.1 p hp).2.2
def endOf (rows:List ae) (x:Str):Str:=je (qc rows) rows.length x
def dw (rows:List ae) (x:Str):List (List Str×Str):=(aj rows (endOf rows x)).bq.map fun m=>(m.1,endOf rows m.2)
theorem RT.B_ {H:Hp} {a:Addr} {xs:List V} {rows:List ae} {ns ws:List Str} (rt:RT H a xs rows ns ws) (hw:∀ z∈ws,Wd z) {x:Str} (hx:x∈ns):endOf rows x∈ns/\(aj rows (endOf rows x)).nx=none/\(aj rows (endOf rows x)).ok ns:=by
 obtain ⟨rs,g,nm,rl,hv⟩:=rt.good hw
 have hm:∀ z,z∈ns↔z∈rs.map (·.1):=fun z=>by rw [nm];exact rt.nm.mem_iff.symm
 obtain ⟨h1,h2⟩:=g.B_ ((hm x).mp hx)
 rw [rl] at h1 h2
 refine ⟨(hm _).mpr h1,h2,?_⟩
 have h3:endOf rows x∈rows.map (·.1):=by rw [<- nm];exact h1
 obtain ⟨r,hr,e⟩:=List.mem_map.mp h3
 rw [<- e,cS rt.jf hr]
 exact (rt.ok r hr).2
structure DG (K:Q0) (t:Addr×Obj×List V):Prop where
 lk:K.lookup t.1=some t.2.1
 ok:∃ (its:List Value) (n:Nat),t.2.1.cls=.type "tuple"/\t.2.1.dict=none/\t.2.1.data=.seq its.toArray n/\a_ t.2.2 its/\t.2.2.length<=sizeLine
def without (K:Q0) (as:List Addr):Q0:=K.filter fun p=> !as.contains p.1
theorem cG {as:List Addr} {b:Addr}:∀ {K:Q0},(without K as).lookup b=if as.contains b=true then none else K.lookup b
 | []=>by unfold without;simp
 | (c,o)::K=>by
  have ih:=cG (as:=as) (b:=b) (K:=K)
  unfold without at ih ⊢
  rw [List.filter_cons]
  by_cases hc:as.contains c=true
  ·have h0:¬(!as.contains (c,o).1)=true:=by show ¬(!as.contains c)=true;rw [hc];decide
   rw [if_neg h0,ih]
   by_cases hb:as.contains b=true
   ·rw [if_pos hb,if_pos hb]
   ·have n:(b==c)=false:=by
     cases e:b==c with
     | false=>rfl
     | true=>rw [eq_of_beq e] at hb;exact absurd hc hb
    rw [if_neg hb,if_neg hb,List.lookup_cons,n]
  ·have h0:(!as.contains (c,o).1)=true:=by
    show (!as.contains c)=true
    cases q:as.contains c with
    | true=>exact absurd q hc
    | false=>rfl
   rw [if_pos h0,List.lookup_cons,List.lookup_cons,ih]
   cases e:b==c with
   | true=>
    have:¬as.contains b=true:=by rw [eq_of_beq e];exact hc
    show some o=if as.contains b=true then none else some o
    rw [if_neg this]
   | false=>rfl
def Ll (H:Hp):Prop:=∀ b,H b=none\/∃ o u,H b=some (.aq o u)
def ig (ts:List (Addr×Obj×List V)) (G:Hp):Hp:=fun b=>match ts.find? fun t=>decide (t.1=b) with
 | some t=>some (.aq t.2.1 (.tup t.2.2))
 | none=>G b
theorem wP {ts:List (Addr×Obj×List V)} {G:Hp} {t:Addr×Obj×List V} (h:t∈ts) (nd:(ts.map (·.1)).Nodup):ig ts G t.1=some (.aq t.2.1 (.tup t.2.2)):=by
 induction ts with
 | nil=>cases h
 | cons a ts ih=>
  unfold ig
  rw [List.find?_cons]
  rw [List.map_cons,List.nodup_cons] at nd
  by_cases e:a.1=t.1
  ·rw [Qv e]
   rcases Qp.mp h with rfl | h
   ·rfl
   ·exact absurd (List.mem_map.mpr ⟨t,h,e.symm⟩) nd.1
  ·rw [Qw e]
   rcases Qp.mp h with rfl | h
   ·exact absurd rfl e
   ·exact ih h nd.2
theorem dE {ts:List (Addr×Obj×List V)} {G:Hp}:(∃ t∈ts,t.1=b/\ig ts G b=some (.aq t.2.1 (.tup t.2.2)))\/((∀ t∈ts,t.1≠b)/\ig ts G b=G b):=by
 unfold ig
 cases q:ts.find? fun t=>decide (t.1=b) with
 | some t=>
  have h1:=List.mem_of_find?_eq_some q
  have h2:=List.find?_some q
  exact .inl ⟨t,h1,Qt h2,rfl⟩
 | none=>
  refine .inr ⟨fun t ht e=>?_,rfl⟩
  have:=List.find?_eq_none.mp q t ht
  simp [e] at this
theorem tY {K:Q0} {mb:Str->Option Value} {CX:vo} {k:Nat} {fa:Addr} {s₁:Shared} {vs:List Value} {ns:List Int} {ts:List (Addr×Obj×List V)}
  (As:∀ t∈ts,DG K t) (nd:(ts.map (·.1)).Nodup)
  (KX:K.In s₁.heap) (Lm:s₁.heap.Ns mainGlobals mg) (hb:s₁.heap.Ns builtinsNs mb) (S0:∀ x:Str,x≠"__name__"->mb x=bootBuiltins x) (S1:s₁.heap.NoLimit) (hg:s₁.gens=#[])
  (ha:s₁.heap.get? a=some {cls:=.type "list",data:=.seq vs.toArray}) (hi:IntsAre vs ns) (hl:ns.length<=sizeLine) (hr:fm k callerA)
  (F:∀ base:Heap,(without K (ts.map (·.1))).In base->base.Ns mainGlobals mg->qt P w (without K (ts.map (·.1))) mg base CX k fa fd [x] sp) (S2:∀ (s:Shared) (u:Value),BindsTo s fd ⟨[u],[]⟩ [(x,u)])
  (xx:∀ H:Hp,Ll H->(∀ t∈ts,H t.1=some (.aq t.2.1 (.tup t.2.2)))->ak (without K (ts.map (·.1))) H a (ns.map V.int)->sp [.ref a] H (fun v _=>v=.bl true) fun _ _ _=>False)
  (S3:∀ H e s',CX [] H s₁ (fun _ _ _=>False) e s'->False):
  codeAny (model P w) callerA (.call (.ref fa) ⟨[.ref a],[]⟩) (fun r s'=>r=.ok (.ret (.bool true))/\OldK s₁.heap s'.heap/\s'.os=s₁.os/\AllBare s'.gens) s₁:=by
 have rv:=lX hi
 have S4:=hi.length
 have Hz:∀ t∈ts,s₁.heap.get? t.1=some t.2.1:=fun t ht=>KX _ _ (As t ht).lk
 have Ln:∀ t∈ts,t.1≠a:=fun t ht e=>by
  obtain ⟨its,n,h1,_⟩:=(As t ht).ok
  have:=Hz t ht
  rw [e,ha] at this
  rw [<- QD this] at h1
  injection h1 with h2
  exact absurd h2 (by decide)
 have core:∀ G:Hp,(∀ b,G b≠none->b=a)->(G a≠none->K.lookup a=none)->(∀ b,G b=none\/∃ o u,G b=some (.aq o u))->ak (without K (ts.map (·.1))) (ig ts G) a (ns.map V.int)->(∀ u,G a=some u->∀ H,b_ P w H s₁.heap a u)->
   codeAny (model P w) callerA (.call (.ref fa) ⟨[.ref a],[]⟩) (fun r s'=>r=.ok (.ret (.bool true))/\OldK s₁.heap s'.heap/\s'.os=s₁.os/\AllBare s'.gens) s₁:=by
  intro G hG hK hF hS hO
  have ki:∀ b,ig ts G b≠none->b=a\/∃ t∈ts,t.1=b:=fun b q=>by
   rcases dE (ts:=ts) (G:=G) (b:=b) with ⟨t,ht,e,_⟩ | ⟨_,e⟩
   ·exact .inr ⟨t,ht,e⟩
   ·rw [e] at q;exact .inl (hG b q)
  have aq:Ll (ig ts G):=fun b=>by
   rcases dE (ts:=ts) (G:=G) (b:=b) with ⟨t,ht,e,q⟩ | ⟨_,q⟩
   ·exact .inr ⟨_,_,q⟩
   ·rw [q];exact hF b
  have hok:e_ P w (ig ts G) s₁.heap:=fun b u q=>by
   rcases dE (ts:=ts) (G:=G) (b:=b) with ⟨t,ht,e,q'⟩ | ⟨_,q'⟩
   ·rw [q'] at q
    cases q
    obtain ⟨its,n,h1,h2,h3,h4,h5⟩:=(As t ht).ok
    have o1:=Hz t ht
    rw [e] at o1
    exact ⟨o1,⟨h5,fun o z=>by rw [o1] at z;cases z;exact h2⟩,its,h4,t.2.1,o1,h1,n,h3⟩
   ·rw [q'] at q
    have e:=hG b (by rw [q];simp)
    subst e
    exact hO u q _
  have Lo:∀ {b:Addr} {o:Obj},s₁.heap.get? b=some o->ig ts G b=none->(yt s₁.heap (ig ts G)).get? b=some o:=fun e n=>wQ e n
  have C_:∀ {b:Addr} {o:Obj} {es:Array DictEntry} {ep:Nat},s₁.heap.get? b=some o->o.data=.dict es ep->ig ts G b=none:=fun {b o es ep} e d=>by
   cases q:ig ts G b with
   | none=>rfl
   | some u=>
    rcases ki b (by rw [q];simp) with z | ⟨t,ht,z⟩
    ·subst z
     rw [ha] at e;cases e
     cases d
    ·have o1:=Hz t ht
     rw [z,e] at o1
     cases o1
     obtain ⟨its,n,h1,h2,h3,_⟩:=(As t ht).ok
     rw [d] at h3;cases h3
  have Fl:∀ {b:Addr} {m:Str->Option Value},s₁.heap.Ns b m->(yt s₁.heap (ig ts G)).Ns b m:=fun {b m} ⟨o,es,ep,e,d,r⟩=>⟨o,es,ep,Lo e (C_ e d),d,r⟩
  have Lp:(without K (ts.map (·.1))).In (yt s₁.heap (ig ts G)):=fun b o e=>by
   rw [cG] at e
   by_cases hc:(ts.map (·.1)).contains b=true
   ·rw [if_pos hc] at e;cases e
   ·rw [if_neg hc] at e
    refine Lo (KX b o e) ?_
    cases q:ig ts G b with
    | none=>rfl
    | some u=>
     rcases dE (ts:=ts) (G:=G) (b:=b) with ⟨t,ht,z,_⟩ | ⟨_,q'⟩
     ·exact absurd (by rw [List.contains_iff_mem];exact List.mem_map.mpr ⟨t,ht,z⟩) hc
     ·rw [q'] at q
      have z:=hG b (by rw [q];simp)
      subst z
      rw [hK (by rw [q];simp)] at e;cases e
  have hM:Mod (without K (ts.map (·.1))) mg (yt s₁.heap (ig ts G)):=⟨Lp,Fl Lm,⟨mb,Fl hb,S0⟩,let ⟨mc,h1,h2⟩:=S1;⟨mc,Fl h1,h2⟩⟩
  have e0:A9 P w (without K (ts.map (·.1))) mg (yt s₁.heap (ig ts G)) callerA [] s₁ (ig ts G):=⟨rfl,hM,fun b o e=>OD e,Nat.le_of_eq (uX _ _),trivial,fun b hb=>absurd (show b∈([]:List Addr) from hb) (by simp),hok,.of_eq hg⟩
  refine codeAny_mono ((F _ Lp (Fl Lm)).run callerA [] s₁ (ig ts G) ⟨[.ref a],[]⟩ [.ref a] [.ref a] _ _ hr e0 (S2 s₁ (.ref a)) (.cons rfl .nil) (xx (ig ts G) aq (fun t ht=>wP ht nd) hS)) fun r s' h=>?_
  cases r with
  | error e=>exact (S3 _ e s' h).elim
  | ok fl=>
   cases fl with
   | next=>exact False.elim h
   | brk=>exact False.elim h
   | cont=>exact False.elim h
   | ret u=>
    obtain ⟨v,H',os,bare,un,HA,r',q⟩:=h
    have q':v=.bl true:=q
    subst q'
    obtain rfl:u=Value.bool true:=r'
    refine ⟨rfl,OldK.of_keep fun b o e=>?_,os,bare⟩
    cases q:ig ts G b with
    | none=>exact un.keep b o e q (by intro z;exact absurd (show b∈([]:List Addr) from z) (by simp)) (by simp)
    | some u=>
     rcases aq b with z | ⟨ob,u',z⟩
     ·rw [q] at z;cases z
     ·have z2:=un.ua b ob _ z
      obtain ⟨e1,_⟩:=hok b _ z
      obtain ⟨e2,_⟩:=HA b _ z2
      rw [e] at e1;cases e1
      exact e2
 have S5:¬(ts.map (·.1)).contains a=true:=fun h=>by
  rw [List.contains_iff_mem] at h
  obtain ⟨t,ht,e⟩:=List.mem_map.mp h
  exact Ln t ht e
 have S6:∀ G:Hp,ig ts G a=G a:=fun G=>by
  rcases dE (ts:=ts) (G:=G) (b:=a) with ⟨t,ht,e,_⟩ | ⟨_,q⟩
  ·exact absurd e (Ln t ht)
  ·exact q
 cases hk:K.lookup a with
 | some o=>
  have e:=KX a o hk
  rw [ha] at e
  cases e
  exact core (fun _=>none) (fun b z=>absurd rfl z) (fun z=>absurd rfl z) (fun _=>.inl rfl) (.inr ⟨_,vs.toArray,_,by rw [cG,if_neg S5];exact hk,rfl,rfl,rfl,by rw [List.size_toArray,S4];exact hl,by simpa using rv⟩) fun u z=>by cases z
 | none=>
  refine core (fun b=>if b=a then some (.aq {cls:=.type "list",data:=.seq vs.toArray} (.lst (ns.map V.int))) else none) (fun b z=>?_) (fun _=>hk) (fun b=>?_) (.inl (.inr ⟨{cls:=.type "list",data:=.seq vs.toArray},by rw [S6];exact if_pos rfl⟩)) fun u z H=>?_
  ·by_cases hb:b=a
   ·exact hb
   ·exact absurd (if_neg hb) z
  ·by_cases hb:b=a
   ·exact .inr ⟨_,_,if_pos hb⟩
   ·exact .inl (if_neg hb)
  ·have z':=(if_pos rfl).symm.trans z
   cases z'
   exact ⟨ha,by rw [Ql];exact hl,vs,_,rv,ha⟩
def adr (mg:Str->Option Value) (x:Str):Addr:=match mg x with
 | some (.ref a)=>a
 | _=>0
theorem S7 (h:mg x=some (.ref a)):RelV (.ref (adr mg x)) (.ref a):=by
 unfold adr
 rw [h]
 exact rfl
def Kn (mg:Str->Option Value) (H:Hp) (x:Str) (ys:List V):Prop:=∃ o,H (adr mg x)=some (.aq o (.tup ys))
theorem Kn.same {ys:List V} (h:Kn mg H x ys) (s:aa H H'):Kn mg H' x ys:=let ⟨o,e⟩:=h;⟨o,s _ _ e⟩
theorem Kn.rd {ys:List V} (h:Kn mg H x ys):ao H (adr mg x) ys:=.inr h
theorem ao.same {ys:List V} (h:ao H b ys) (s:aa H H'):ao H' b ys:=h.imp (fun e=>s _ _ e) fun ⟨o,e⟩=>⟨o,s _ _ e⟩
structure SV (H:Hp) (xs:List V) (ss:List (List Str)):Prop where
 len:xs.length=ss.length
 at_:∀ i (h:i < xs.length) (h':i < ss.length),∃ b,xs[i]=.ref b/\ao H b (ss[i].map V.str)
theorem SV.keep {xs:List V} (h:SV H xs ss) (s:∀ b ys,ao H b ys->ao H' b ys):SV H' xs ss:=⟨h.len,fun i a b=>let ⟨c,h1,h2⟩:=h.at_ i a b;⟨c,h1,s _ _ h2⟩⟩
theorem SV.nil:SV H [] []:=⟨rfl,fun i h=>absurd h (by simp)⟩
theorem SV.snoc {xs:List V} (h:SV H xs ss) {m:List Str} (e:ao H b (m.map V.str)):SV H (xs++[.ref b]) (ss++[m]):=by
 have hl:=h.len
 refine ⟨by simp [hl],fun i h1 h2=>?_⟩
 by_cases bc:i < xs.length
 ·rw [Qe bc,Qe (by omega)]
  exact h.at_ i bc (by omega)
 ·have e':i=xs.length:=by simp at h1;omega
  subst e'
  rw [Qf (Qy _),Qf (by omega)]
  simp only [Nat.sub_self,hl,List.getElem_cons_zero]
  exact ⟨b,rfl,e⟩
section
variable {iter kx vx:Expr} {pos:Pos} {tk tw:TE}
def Lq (own:List Str) (idx:List Nat) (wi:TI) (g:TG) (tc:TC) (tk tw:TE):TE:=fun σ H Q=>wi σ H fun J H1=>∀ D,H1 D=none->∃ W:Nat->Nat->St->Hp->Prop,(∃ m,W 0 m (rm own idx σ) (upd H1 D (.dT [])))/\∀ i m τ H,W i m τ H->
 (J.stop i H/\Q (.ref D) H)\/(J.go i H/\∃ N:St->Hp->Prop,(∀ τ' H',N τ' H'->∃ m',m' < m/\W (i+1) m' τ' H')/\∀ x H',J.l_ i H x H'->g x τ H' fun τ2 H2=>tc τ2 H2 fun b H3=>
  if b=true then tk τ2 H3 fun x H4=>tw τ2 H4 fun y H5=>∃ kvs key b,x=.ref b/\ao H5 b (key.map kV)/\H5 D=some (.dT kvs)/\kvs.length < sizeLine/\N τ2 (upd H5 D (.dT (putK kvs key y))) else N τ2 H3)
theorem nR (S:oj X.env.scope X.N sc own idx N') (c1:∀ x c,cl.lookup x=some c->X.env.cells.lookup x=some c) (c2:∀ y∈sc.names,y.2=.free->∃ c,cl.lookup y.1=some c) (hc:X.calm=true) (hu:X.A.units < cLine)
  (hg:∀ cl C s3 H0 fp pn,PG (dh X N' sc cl C s3 H0 fp pn) tg g) (ht:∀ cl C s3 H0 fp pn,r_ (dh X N' sc cl C s3 H0 fp pn) ifs tc) (he:∀ cl C s3 H0 fp pn,PE (dh X N' sc cl C s3 H0 fp pn) kx tk) (hv:∀ cl C s3 H0 fp pn,PE (dh X N' sc cl C s3 H0 fp pn) vx tw)
  {pins:List (Addr×Obj)} {σ:St} {Q:VK} {nu:Value} {s2:Shared} {RR:Value->Addr->Result->Shared->Prop} {E:Value->Shared->Prop}
  (hI:BP X pins σ tg (fun J H1=>∀ D,H1 D=none->∃ W:Nat->Nat->St->Hp->Prop,(∃ m,W 0 m (rm own idx σ) (upd H1 D (.dT [])))/\∀ i m τ H,W i m τ H->
   (J.stop i H/\Q (.ref D) H)\/(J.go i H/\∃ N:St->Hp->Prop,(∀ τ' H',N τ' H'->∃ m',m' < m/\W (i+1) m' τ' H')/\∀ x H',J.l_ i H x H'->g x τ H' fun τ2 H2=>tc τ2 H2 fun b H3=>
    if b=true then tk τ2 H3 fun x H4=>tw τ2 H4 fun y H5=>∃ kvs key b,x=.ref b/\ao H5 b (key.map kV)/\H5 D=some (.dT kvs)/\kvs.length < sizeLine/\N τ2 (upd H5 D (.dT (putK kvs key y))) else N τ2 H3)) nu s2)
  (Dh:∀ D C H' s',Inv X pins σ H' s'->Q (.ref D) H'->(H' C=none/\C≠X.env.locals/\X.s₀.heap.objs.size<=C/\(∀ x c,X.env.cells.lookup x=some c->c≠C)/\(∀ p∈X.pn++pins,p.1≠C)/\∃ m,s'.heap.Ns C m)->RR (.ref D) C (.ok .next) s'):
  wpAny (model X.prog X.w) X.A newDict (fun acc s₃=>wpAny (model X.prog X.w) X.A (newFunctionEnv sc X.env.globals cl [] X.env.qual none .none (some X.env)) (fun cenv s₄=>
   codeAny (model X.prog X.w) X.A (.compStart (.DictComp kx vx [⟨tg,iter,ifs,0⟩] sc pos) 0 nu acc {cenv with scope:=relabel sc X.env}) (RR acc cenv.locals) s₄) E s₃) E s2:=by
 obtain ⟨it,fp,tn,J,H2,rfl,I,T,qp,f2,body⟩:=hI
 refine wpAny_newObj_type (wpAny_newFunctionEnv S.cell (by intro y hy;simp at hy) (fun h4 ns sb=>?_) S.kind)
 dsimp only at ns sb ⊢
 have vq:iq.isFreed=false:=rfl
 have fr:H2 s2.heap.objs.size=none:=I.hok.fresh (Qy _)
 obtain ⟨W,⟨m0,w0⟩,turn⟩:=body _ fr
 have rn:∀ b∈fp,∃ o,s2.heap.get? b=some o:=fun b hb=>let ⟨o,e,_⟩:=T.obj _ _ qp b hb;⟨o,e⟩
 have yd:∀ b o,(s2.heap.push iq).get? b=some o->h4.get? b=some o:=fun b o e=>(sb.2 b (Nat.ne_of_lt (Qz e))).trans (Qc _ e)
 have Di:∀ (H:Hp) (h:Heap),h.get? s2.heap.objs.size=some iq->b_ X.prog X.w H h s2.heap.objs.size (.dT []):=fun H h e=>⟨Nat.zero_le _,beq_eq_false_iff_ne.mpr (Ne.symm (Nat.ne_of_lt I.big)),[],.nil,_,#[],0,e,⟨rfl,rfl,rfl⟩,rfl,rfl,List.nodup_nil⟩
 have I4:Inv (dh X N' sc cl (s2.heap.push iq).objs.size {s2 with heap:=s2.heap.push iq} (upd H2 s2.heap.objs.size (.dT [])) fp (X.pn++pins)) [] (rm own idx σ) (upd H2 s2.heap.objs.size (.dT [])) {s2 with heap:=h4,toks:=s2.toks+([]:List (Str×Value)).length}:=
  jS S I f2 rn c1 c2 vq Di ns yd
 -- A6 KQ own context
 generalize hY:dh X N' sc cl (s2.heap.push iq).objs.size {s2 with heap:=s2.heap.push iq} (upd H2 s2.heap.objs.size (.dT [])) fp (X.pn++pins)=Y at I4
 have Dj:PG Y tg g:=by rw [<- hY];exact hg _ _ _ _ _ _
 have Dk:r_ Y ifs tc:=by rw [<- hY];exact ht _ _ _ _ _ _
 have Dl:PE Y kx tk:=by rw [<- hY];exact he _ _ _ _ _ _
 have Hj:PE Y vx tw:=by rw [<- hY];exact hv _ _ _ _ _ _
 have pY:Y.prog=X.prog:=by rw [<- hY]
 have wY:Y.w=X.w:=by rw [<- hY]
 have KY:Y.K=X.K:=by rw [<- hY]
 have AY:Y.A=X.A:=by rw [<- hY]
 have cY:Y.calm=true:=by rw [<- hY];exact hc
 have xY:Y.xe=fun _ _=>False:=by rw [<- hY]
 have eY:Y.env=compEnvC sc cl (s2.heap.push iq).objs.size X.env:=by rw [<- hY]
 have Dm:Y.ex=fp:=by rw [<- hY]
 have Dn:Y.fs=kj X.stack:=by rw [<- hY]
 have Dp:Y.pn=X.pn++pins:=by rw [<- hY]
 have n_:∀ {H':Hp},(∀ b∈fp,H' b=none)->∀ b∈fp,pe Y [] H' b:=fun hn b hb=>by
  obtain ⟨f0,f1,f3,f4,f5,f6⟩:=f2 b hb
  refine ⟨hn b hb,?_,?_,.inl (by rw [Dm];exact hb),fun x c e=>?_,fun p hp=>?_⟩
  ·obtain ⟨o,e⟩:=rn b hb
   have:=Qz e
   rw [eY]
   show b≠(s2.heap.push iq).objs.size
   rw [Heap.size_push];exact Nat.ne_of_lt (Nat.lt_succ_of_lt this)
  ·rw [Dn]
   intro z
   rcases Qp.mp (I.A2 b z) with z | z
   ·exact f1 z
   ·exact f3 z
  ·rw [eY] at e
   exact f5 x c (c1 x c e)
  ·rw [Dp,List.append_nil] at hp
   exact f6 p hp
 have Am:tn 0 h4:=T.keep _ _ _ qp fun b hb o e=>yd b o (Qc _ e)
 have Dq:∀ b∈fp,upd H2 s2.heap.objs.size (.dT []) b=none:=fun b hb=>by
  obtain ⟨o,e⟩:=rn b hb
  rw [aF (Nat.ne_of_lt (Qz e))]
  exact (f2 b hb).1
 have loop:codeAny (model X.prog X.w) X.A (.compLoop (.DictComp kx vx [⟨tg,iter,ifs,0⟩] sc pos) 0 (.ref it) (.ref s2.heap.objs.size) (compEnvC sc cl (s2.heap.push iq).objs.size X.env))
   (RR (.ref s2.heap.objs.size) (s2.heap.push iq).objs.size) {s2 with heap:=h4,toks:=s2.toks+([]:List (Str×Value)).length}:=by
  refine K3 (fun n s'=>∃ i τ H',Inv Y [] τ H' s'/\tn i s'.heap/\(∀ b∈fp,H' b=none)/\W i n τ H') ?_ m0 ⟨0,_,_,I4,Am,Dq,w0⟩
  rintro n s3 ⟨i,τ3,H3,I3,vh,vj,w3⟩
  rcases turn i n τ3 H3 w3 with ⟨stop,qn⟩ | ⟨go,N,hN,step⟩
  ·have h:=T.done Y pY wY KY cY i [] s3 τ3 H3 jk I3 (n_ vj) vh stop
   rw [AY] at h
   refine au h ?_
   rintro r s4 ⟨hr,Dr⟩
   subst hr
   have J4:=Dr
   rw [<- hY] at J4
   obtain ⟨b1,b2⟩:=iU I f2 vq J4
   exact Dh _ _ _ _ b1 qn b2
  ·have h:=T.item Y pY wY KY cY i [] s3 τ3 H3 jk I3 (n_ vj) vh go
   rw [AY] at h
   refine au h ?_
   rintro r s4 ⟨u,hr,Ds⟩
   subst hr
   refine au Ds ?_
   rintro _ s5 ⟨x,H5,I5,r5,y5,oh,A7⟩
   have A8:=I5.pinned (n_ A7) (T.obj _ _ oh)
   have g5:=Dj _ s5 τ3 H5 x u _ A8 r5 (step x H5 y5)
   rw [pY,wY,AY,xY,eY] at g5
   refine au g5 ?_
   rintro _ s6 ⟨τ6,H6,I6,q6⟩
   have t6:=Dk _ s6 τ6 H6 _ I6 q6
   rw [pY,wY,AY,xY,eY] at t6
   refine au t6 ?_
   rintro ok s7 ⟨H7,I7,q7⟩
   have again:∀ {τ8:St} {H8:Hp} {s8:Shared},Inv Y ([]++A5 fp s5.heap) τ8 H8 s8->N τ8 H8->∃ m,m < n/\∃ i τ' H',Inv Y [] τ' H' s8/\tn i s8.heap/\(∀ b∈fp,H' b=none)/\W i m τ' H':=fun {τ8 H8 s8} I8 n8=>by
    obtain ⟨m',hm,w8⟩:=hN τ8 H8 n8
    refine ⟨m',hm,i+1,τ8,H8,I8.BQ,T.keep _ _ _ oh fun b hb o e=>(I8.pin (b,o) (List.mem_append_right _ (List.mem_append_right _ (bU hb e)))).1,fun b hb=>?_,w8⟩
    obtain ⟨o,e,d⟩:=T.obj _ _ oh b hb
    exact (I8.pin (b,o) (List.mem_append_right _ (List.mem_append_right _ (bU hb e)))).2.1
   cases ok with
   | false=>
    rw [if_neg (by decide)] at q7 ⊢
    exact again I7 q7
   | true=>
    rw [if_pos rfl] at q7 ⊢
    have e7:=Dl _ s7 τ6 H7 _ I7 q7
    rw [pY,wY,AY,xY,eY] at e7
    refine au e7 ?_
    rintro kv s8 ⟨x8,H8,I8,r8,q8⟩
    have v8:=Hj _ s8 τ6 H8 _ I8 q8
    rw [pY,wY,AY,xY,eY] at v8
    refine au v8 ?_
    rintro yv s9 ⟨y9,H9,I9,r9,kvs,key,b9,ek,eb,B7,hz,n9⟩
    subst ek
    cases (show kv=Value.ref b9 from r8)
    obtain ⟨z,hd,xs,rel,dd⟩:=KG I9.hok B7
    have Du:xs.length<=sizeLine:=by rw [<- Paired.length rel];exact z
    have fg:(putK kvs key y9).length<=sizeLine:=by have:=cR kvs key y9;omega
    have Lr:=dY I9.hok eb
    rw [pY,wY] at dd Lr
    refine wpAny_dictSet_heap (hsz:=Du) hu Lr dd fun h' rf hs=>?_
    rw [<- pY,<- wY] at rf
    obtain ⟨q,es,ep,hq,h2,h3,h4,_,h5⟩:=rf
    have Hl:=jL (t':=s9.toks+(tupleKind (ck X.prog X.w)).draws key) (ob:=.dT (putK kvs key y9)) I9 (by rw [B7];exact True.intro) hs ⟨q,hq⟩ ⟨fg,hd,_,(rel.put key eb r9).keeps fun c ys ec=>ec.upd fun u hu z=>by subst z;rcases ec with ec | ⟨_,ec⟩<;>(rw [B7] at ec;cases ec),q,es,ep,hq,h2,h3,h4,h5⟩
    exact again Hl n9
 exact codeAny_compStart_dict loop (T.self _ 0 _ _ _ Am loop)
theorem S8 (S:oj X.env.scope X.N sc own idx N') (hc:X.calm=true) (hu:X.A.units < cLine) (hi:PI X tg iter wi)
  (hg:∀ cl C s3 H0 fp pn,PG (dh X N' sc cl C s3 H0 fp pn) tg g) (ht:∀ cl C s3 H0 fp pn,r_ (dh X N' sc cl C s3 H0 fp pn) ifs tc) (he:∀ cl C s3 H0 fp pn,PE (dh X N' sc cl C s3 H0 fp pn) kx tk) (hv:∀ cl C s3 H0 fp pn,PE (dh X N' sc cl C s3 H0 fp pn) vx tw)
  (hs:∀ x,foldedSetIterable iter X.env x=pure x:=by intro _;rfl):PE X (.DictComp kx vx [⟨tg,iter,ifs,0⟩] sc pos) (Lq own idx wi g tc tk tw):=by
 intro pins s σ H Q I h
 obtain ⟨cl,sd,c1,c2⟩:=S.closure I.ok
 show wpAny _ X.A (comprehension (.DictComp kx vx [⟨tg,iter,ifs,0⟩] sc pos) sc X.env _ newDict false (eval iter X.env)) _ _ s
 refine wpAny_comprehension_free (use:=none) rfl hs sd S.kind S.names (au (hi pins s σ H _ I h) fun v s1 h1=>au h1 fun nu s2 h2=>?_)
 refine nR (Q:=Q) (pins:=pins) (σ:=σ) (RR:=fun acc C=>compPost (model X.prog X.w) X.A X.xe none (EP X pins σ Q) acc C) S c1 c2 hc hu hg ht he hv h2 ?_
 intro D C H' s' I' q ⟨a1,a2,a3,a4,a5,m,a6⟩
 exact ⟨m,a6,fun h' sb=>⟨.ref D,H',I'.turned (t':=s'.toks) (fun b o hb e=>(sb.2 b hb).trans e) a1 (Ne.symm (Ne.symm a2)) (.inr a3) a4 a5,rfl,q⟩⟩
theorem S9 (S:oj X.env.scope X.N sc own idx N') (hc:X.calm=true) (hu:X.A.units < cLine) (hi:SI X tg iter wi)
  (hg:∀ cl C s3 H0 fp pn,SG (dh X N' sc cl C s3 H0 fp pn) tg g) (ht:∀ cl C s3 H0 fp pn,SC (dh X N' sc cl C s3 H0 fp pn) ifs tc) (he:∀ cl C s3 H0 fp pn,SE (dh X N' sc cl C s3 H0 fp pn) kx tk) (hv:∀ cl C s3 H0 fp pn,SE (dh X N' sc cl C s3 H0 fp pn) vx tw)
  (hs:∀ x,foldedSetIterable iter X.env x=pure x:=by intro _;rfl):SE X (.DictComp kx vx [⟨tg,iter,ifs,0⟩] sc pos) (Lq own idx wi g tc tk tw):=
 ⟨S8 S hc hu hi.h (fun q r s t u v=>(hg q r s t u v).h) (fun q r s t u v=>(ht q r s t u v).h) (fun q r s t u v=>(he q r s t u v).h) (fun q r s t u v=>(hv q r s t u v).h) hs⟩
end
def DH (K:Q0) (mg:Str->Option Value) (x q:Str) (st:Stmt) (ps fs:List Str) (C:Addr):Prop:=
 mg x=some (.ref C)/\y_ K C/\(∀ f∈fs,xr K C f)/\∃ (f:Addr) (fd:FuncData),Mk K C f/\Aj K "__init__" q st f fd/\Binds K fd ps []
def Cd (P:Program) (w:World) (K:Q0) (mg:Str->Option Value) (base:Heap) (k:Nat) (x:Str) (C:Addr) (ps:List Str) (sp:Sp):Prop:=
 mg x=some (.ref C)/\∃ (f:Addr) (fd:FuncData),Mk K C f/\qt P w K mg base x_ k f fd ps sp/\Binds K fd ps []
section
variable {o value:Expr} {es:List Expr} {ta tv:TE} {t:TA} {f:Str} {pos pos' p:Pos} {k:Nat}
theorem dS (K:Q0) (he:SE X e te) (h:X.K=K:=by rfl) (hb:attributeBase e f X.env (eval e X.env)=eval e X.env:=by rfl):SE X (.Attribute e f pos) (Km K te f):=by subst h;exact ⟨PU he.h hb⟩
theorem t7 (K:Q0) (ha:SE X o ta) (hv:SE X value tv) (h:X.K=K:=by rfl) (hs:swapsWith value (some (.Attribute o f pos')) pos.line X.env=pure false:=by rfl):SS X (.Assign [.Attribute o f pos'] value pos) (ES K ta tv f):=by subst h;exact ⟨PV ha.h hv.h hs⟩
theorem kX (F:Cd X.prog X.w X.K X.mg X.base k x C ps sp) (hr:fm (k+1) X.A) (ha:SA X (e::es) t) (hg:Gl X x:=by rfl) (kq:(x==("__debug__":Str))=false:=by decide)
  (he:starEach (e::es) X.env=(false,eval e X.env)::starEach es X.env:=by rfl) (gr:(backTo pos (starEach es X.env)).any (·.1)=false:=by rfl):
  SE X (.Call (.Name x p) (e::es) [] pos) (Kq C sp [] E0 t):=by
 obtain ⟨m,f,fd,M,G,b⟩:=F
 exact ⟨zJ M G hr hg m b .nil KO ha.h kq he gr⟩
end
theorem DH.fz {K:Q0} {q:Str} {st:Stmt} {fs:List Str} {k:Nat} (F:DH K mg x q st ps fs C) (S:ef N ps (be st)) (len:∀ vs H Q E,sp vs H Q E->vs.length=ps.length)
  (vp:∀ (f:Addr) (ay:Value) (A:Around) (outer:List Env) (s:Shared) (H:Hp) (vs:List V) (Q:VK) (E:XK),fm k (A.deeper (envOfC q (be st) s.heap.objs.size f ay))->sp vs H Q E->
   ∃ t,SB (xw x_ P w K mg base N q (be st) f ay A outer s H E).yx (jr st) t/\t {nx:=fun _ H'=>Q .ai H',rt:=Q} (start N vs) H):Cd P w K mg base (k+1) x C ps sp:=by
 obtain ⟨m,_,_,f,fd,M,Fu,b⟩:=F
 exact ⟨m,f,fd,M,Fu.ok S len fun ay A outer s H vs Q E hr h=>let ⟨t,h1,h2⟩:=vp f ay A outer s H vs Q E hr h;⟨t,h1.h,h2⟩,b⟩
theorem Inv.S_ {kvs:List (List Key×V)} (I:Inv X pins σ H s) (h:Rd H a (.dT kvs)):∃ o,Inv X pins σ (upd H a (.aq o (.dT kvs))) s:=by
 rcases h with h | ⟨o,h⟩
 ·have ok:=(show b_ X.prog X.w H s.heap a (.dT kvs) from I.hok a _ h)
  obtain ⟨z,hd,xs,rel,o,es,ep,h1,h2,h3,h4,h5⟩:=ok
  refine ⟨o,I.write (x:=a) (e:=a) (h':=s.heap) (t':=s.toks) (o:=.aq o (.dT kvs)) (by rw [h];exact True.intro) (.inl rfl) (fun b u _ q=>q) ⟨o,h1⟩ ⟨h1,z,hd,xs,?_,o,es,ep,h1,h2,h3,h4,h5⟩⟩
  exact (show KT H kvs xs from rel).keeps fun c ys ec=>ec.upd fun u hu z=>by subst z;rcases ec with ec | ⟨_,ec⟩<;>(rw [h] at ec;cases ec)
 ·exact ⟨o,by rw [oO h];exact I⟩
def Tc (te:TE):TE:=fun σ H Q=>te σ H fun x H1=>∃ a,x=.ref a/\((∃ kvs,Rd H1 a (.dK kvs)/\∀ o,Q x (upd H1 a (.aq o (.dK kvs))))\/∃ kvs,Rd H1 a (.dT kvs)/\∀ o,Q x (upd H1 a (.aq o (.dT kvs))))
theorem o8 (he:SE X e te):SE X e (Tc te):=by
 constructor
 intro pins s σ H Q I h
 refine au (he.h pins s σ H _ I h) ?_
 rintro v s1 ⟨x,H1,I1,r1,a,ex,q⟩
 rcases q with ⟨kvs,hr,q⟩ | ⟨kvs,hr,q⟩
 ·obtain ⟨o,es,ep,hd,I2,ho⟩:=I1.freeze hr
  exact ⟨x,_,I2,r1,q o⟩
 ·obtain ⟨o,I2⟩:=I1.S_ hr
  exact ⟨x,_,I2,r1,q o⟩
def valAt (kvs:List (Key×V)) (i:Nat):V:=((kvs[i]?).map fun kv=>kv.2).getD .ai
def DI (a:Addr) (o:Obj) (kvs:List (Key×V)):It:=⟨fun i H=>H a=some (.aq o (.dK kvs))/\i < kvs.length,fun i H x H'=>Dy (qa kvs i) (valAt kvs i) H x H',fun i H=>H a=some (.aq o (.dK kvs))/\kvs.length=i⟩
theorem m5 {o:Obj} (kvs:List (Key×V)):Fi (DI a o kvs) (fun H=>H a=some (.aq o (.dK kvs))) kvs.length (qa kvs) (valAt kvs):=fun H ok=>⟨fun i hi=>⟨⟨ok,hi⟩,fun x H' h=>h⟩,ok,rfl⟩
theorem Td {kvs:List (Key×V)} (r:KV kvs vs):∀ {i:Nat} {p:Key×V},kvs[i]? =some p->∃ q,vs[i]? =some q/\q.1=p.1/\RelV p.2 q.2:=by
 intro i
 induction r generalizing i with
 | nil=>intro p h;simp at h
 | cons a t ih=>
  intro p h
  cases i with
  | zero=>simp at h;subst h;exact ⟨_,by simp,a.1.symm,a.2⟩
  | succ i=>simp at h;simpa using ih h
theorem qB {K:Q0} {k:Nat} {pos:Pos} {it:Addr} {o:Obj} {kvs:List (Key×V)} (Te:a≠it) (zj:∃ es,o.data=.dict es ep):
  Turn P w K (.Tuple AV k pos) (DI a o kvs) [it] it (fun i h=>∃ ok ov,IsItemIter h it a i kvs.length ep ok ov) where
 mem:=by simp
 obj:=fun i h st b hb=>by
  have e:b=it:=by simpa using hb
  subst e
  obtain ⟨ok,ov,he⟩:=st
  exact ⟨_,he,fun v z=>by
   have z':Data.fields _=Data.cell v:=z
   cases z'⟩
 keep:=fun i h h' st k=>let ⟨ok,ov,he⟩:=st;⟨ok,ov,k it (by simp) _ he⟩
 item:=by
  intro X hP hw hK hc i pins s σ H E I hf st hg
  subst hP hw hK
  obtain ⟨ok,ov,he⟩:=st
  obtain ⟨hq,hi⟩:=hg
  obtain ⟨e,z,hd,vs,rel,ob,es,xj,h1,h2,h3,h4⟩:=(show b_ X.prog X.w H s.heap a (.aq o (.dK kvs)) from I.hok a _ hq)
  obtain ⟨es',lg⟩:=zj
  rw [e] at h1;cases h1
  rw [lg] at h3;injection h3 with sf sj
  subst sf sj
  obtain ⟨q,ph,p_,HB⟩:=Td rel (Qa hi)
  have hl:=rel.len
  obtain ⟨qk,qv⟩:=q
  refine wpAny_pyNext_items_item (knd:=ck X.prog X.w) (kvs:=vs) (ep:=ep) (ok:=ok) (ov:=ov) (by rw [<- hl];exact he) ⟨o,es',e,h2,lg,h4⟩ ph fun key h' hk ho hT hsz HC=>?_
  have rk:RelV (qa kvs i) key:=by
   unfold qa
   rw [Qa hi]
   show RelV (kV kvs[i].1) key
   have Hu:qk=kvs[i].1:=p_
   rw [<- Hu]
   exact pE hk
  have rv:RelV (valAt kvs i) qv:=by
   unfold valAt
   rw [Qa hi]
   exact HB
  have I1:Inv X pins σ (upd H s.heap.objs.size (.tup [qa kvs i,valAt kvs i])) {s with heap:=h'}:=I.Hq (t':=s.toks) hf (fun b o hb e=>HC b o (fun z=>hb (by simp [z])) e) (Qy _) (mM rk rv hT)
  refine ⟨_,rfl,wpAny_letOwnedTupleGo_items (s:={s with heap:=h'}) ho fun B8 HD sb=>?_⟩
  have bc:it≠s.heap.objs.size:=Nat.ne_of_lt (Qz he)
  obtain ⟨f0,f1,f2,f3,f4,f5⟩:=hf it (by simp)
  have DJ:upd H s.heap.objs.size (.tup [qa kvs i,valAt kvs i]) it=none:=by rw [aF bc];exact f0
  refine ⟨.ref s.heap.objs.size,_,I1.turned (t':=s.toks) (fun b o hb q=>(sb.2 b hb).trans q) DJ f1 f3 f4 f5,rfl,⟨_,rfl,I.hok.fresh (Qy _),rfl⟩,⟨_,_,by rw [hl];exact HD⟩,fun b hb=>?_⟩
  have e:b=it:=by simpa using hb
  subst e
  exact DJ
 done:=by
  intro X hP hw hK hc i pins s σ H E I hf st hg
  subst hP hw hK
  obtain ⟨ok,ov,he⟩:=st
  obtain ⟨hq,hi⟩:=hg
  obtain ⟨e,z,hd,vs,rel,ob,es,xj,h1,h2,h3,h4⟩:=(show b_ X.prog X.w H s.heap a (.aq o (.dK kvs)) from I.hok a _ hq)
  obtain ⟨es',lg⟩:=zj
  rw [e] at h1;cases h1
  rw [lg] at h3;injection h3 with sf sj
  subst sf sj
  have hl:=rel.len
  obtain ⟨f0,f1,f2,f3,f4,f5⟩:=hf it (by simp)
  exact wpAny_pyNext_items_end (knd:=ck X.prog X.w) (kvs:=vs) (ep:=ep) (ok:=ok) (ov:=ov) (I.ok.hd hc) (by rw [<- hl];exact he) ⟨o,es',e,h2,lg,h4⟩ (by simp;omega) fun h' eb=>⟨rfl,I.turned (t':=s.toks) (fun b o hb e=>eb b o hb e) f0 f1 f3 f4 f5⟩
 self:=fun _ _ _ _ _ st h=>let ⟨_,_,he⟩:=st;PySem.W.kcp_self he h
section
variable {k:Nat} {za:Pos} {o:Expr}
def Tf (te:TE):TI:=fun σ H R=>te σ H fun x H1=>∃ a kvs,x=.ref a/\((∃ o,H1 a=some (.aq o (.dK kvs))/\R (DI a o kvs) H1)\/(H1 a=some (.dK kvs)/\∀ o,R (DI a o kvs) (upd H1 a (.aq o (.dK kvs)))))
theorem o6 (ho:SE X o to) (qz:attributeBase o "items" X.env (eval o X.env)=eval o X.env:=by rfl) (q_:(apos.endLine==cpos.line)=true:=by rfl):
  SI X (.Tuple AV k za) (.Call (.Attribute o "items" apos) [] [] cpos) (Tf to):=by
 constructor
 intro pins s σ H R I h
 refine wpAny_Call_method0_late qz q_ (au (ho.h pins s σ H _ I h) ?_)
 rintro v s1 ⟨x,H1,I1,r1,a,kvs,ex,hr⟩
 subst ex
 cases r1
 obtain ⟨o,H2,I2,Ti,q⟩:∃ (o:Obj) (H2:Hp),Inv X pins σ H2 s1/\H2 a=some (.aq o (.dK kvs))/\R (DI a o kvs) H2:=by
  rcases hr with ⟨o,e,q⟩ | ⟨e,q⟩
  ·exact ⟨o,H1,I1,e,q⟩
  ·obtain ⟨o,_,_,_,I2,_⟩:=I1.freeze (.inl e)
   exact ⟨o,_,I2,aA,q o⟩
 obtain ⟨e,z,DB,vs,rel,ob,es,ep,h1,h2,hd,h4⟩:=(show b_ X.prog X.w _ s1.heap a (.aq o (.dK kvs)) from I2.hok a _ Ti)
 rw [e] at h1;cases h1
 have hl:=rel.len
 have hT:s1.TypeIs (.ref a) "dict":=⟨o,e,h2.1⟩
 refine ⟨"dict","dict.items",PySem.F.plainAttrs_dict,PySem.F.slot_dict_items,PySem.F.type_dict_items,hT,fun b hb=>by cases hb;exact ⟨o,e,h2.2.1⟩,Calls.callWith_builtin rfl (PySem.evalArgs_none ?_)⟩
 refine call_meetsIn PySem.F.slot_dict_items hT PySem.F.entry_dict_items (PySem.F.args_dict_items_1 _) (meets_dict_items (ck X.prog X.w) a DB) ⟨⟨vs,o,es,ep,e,h2,hd,h4⟩,?_⟩
 have I3:Inv X pins σ H2 {s1 with heap:=s1.heap.push {cls:=.type "dict_items",data:=.fields #[.ref a]}}:=I2.kept (t':=s1.toks) fun b o e=>Qc _ e
 refine wpAny_pyIter_items (knd:=ck X.prog X.w) (kvs:=vs) (ep:=ep) ⟨_,Qd _ rfl,rfl,rfl⟩ ⟨o,es,Qc _ e,h2,hd,h4⟩ ?_
 have jt:a≠(s1.heap.push {cls:=.type "dict_items",data:=.fields #[.ref a]}).objs.size:=by
  rw [Heap.size_push];exact Nat.ne_of_lt (Nat.lt_succ_of_lt (Qz e))
 refine ⟨_,[(s1.heap.push {cls:=.type "dict_items",data:=.fields #[.ref a]}).objs.size],_,_,_,rfl,I3.kept (t':=s1.toks) fun b o e=>Qc _ e,qB (kvs:=kvs) (a:=a) (o:=o) jt ⟨es,hd⟩,⟨.none,.none,by rw [hl];exact Qd _ rfl⟩,fun b hb=>?_,q⟩
 have e:b=(s1.heap.push {cls:=.type "dict_items",data:=.fields #[.ref a]}).objs.size:=by simpa using hb
 subst e
 exact I3.Ae (Qy _) (I3.hok.fresh (Qy _))
end
end L2
namespace PySem
end PySem
namespace L2
open PySem PySem.Spec PyProof.Rows
theorem ao.inj {xs ys:List V} (h:ao H a xs) (h':ao H a ys):xs=ys:=by
 rcases h with h | ⟨o,h⟩<;>rcases h' with h' | ⟨o',h'⟩<;>(rw [h] at h';cases h')<;>rfl
section
variable {o:Expr} {es:List Expr} {t:TA}
end
theorem nG {a0:Expr} {n:Str} {jd:Pos} {es:List Expr} {t:TA} (ha:SE X (.Attribute a0 n jd) te) (hr:SA X es t):SA X (.Attribute a0 n jd::es) (ik te t):=⟨dB ha.h hr.h⟩
theorem zC {K:Q0} {it:Array Value} {sq:Array (Option Value)} {xs:List V} (gl:K.lookup a=some ⟨.type "tuple",none,.seq it n,sq⟩) (gv:a_ xs it.toList) (gz:xs.length<=sizeLine):DG K (a,⟨.type "tuple",none,.seq it n,sq⟩,xs):=
 ⟨gl,it.toList,n,rfl,rfl,by simp,gv,gz⟩
theorem qO {K:Q0} {as:List Addr} (x:K.In h):(without K as).In h:=fun a o e=>by
 rw [cG] at e
 by_cases hc:as.contains a=true
 ·rw [if_pos hc] at e;cases e
 ·rw [if_neg hc] at e;exact x a o e
end L2
set_option autoImplicit false
namespace L2
open PySem PySem.Spec PySem.W PyProof.Rows
def HE:Data->Bool
 | .freed=>false
 | _=>true
def Bk:Nat->List Obj->Frag
 | _,[]=>[]
 | n,o::os=>if HE o.data then (n,o)::Bk (n+1) os else Bk (n+1) os
def HF (h:Heap):Frag:=Bk 0 h.objs.toList
theorem fK:∀ {os:List Obj} {n a:Nat} {o:Obj},(Bk n os).lookup a=some o->n<=a/\os[a - n]? =some o/\HE o.data=true
 | [],n,a,o,h=>by simp [Bk] at h
 | x::os,n,a,o,h=>by
  unfold Bk at h
  have next:(Bk (n+1) os).lookup a=some o->n<=a/\(x::os)[a - n]? =some o/\HE o.data=true:=fun h=>by
   obtain ⟨h1,h2,h3⟩:=fK h
   refine ⟨by omega,?_,h3⟩
   obtain ⟨k,hk⟩:∃ k,a - n=k+1:=⟨a - n - 1,by omega⟩
   rw [hk,List.getElem?_cons_succ,<- h2]
   congr 1;omega
  split at h
  ·rename_i hf
   rw [List.lookup_cons] at h
   split at h
   ·rename_i e
    obtain rfl:a=n:=by simpa using e
    cases h
    exact ⟨Qy _,by simp,hf⟩
   ·exact next h
  ·exact next h
theorem qR (h:Heap):(HF h).In h:=fun a o e=>by
 obtain ⟨_,h2,h3⟩:=fK e
 have Al:h.objs[a]? =some o:=by rw [<- Array.getElem?_toList];simpa using h2
 unfold Heap.get?
 rw [Al]
 obtain ⟨c,d,dt,sl⟩:=o
 cases dt<;>first | rfl | cases h3
def wc {α:Type} (look:Frag->α) (want:World->α):Hook where
 α:=α
 obs s:=look (HF s.heap)
 val:=want
 says w h:=∃ K:Frag,K.In h/\look K=want w
 of:=fun w s e=>⟨HF s.heap,qR _,e⟩
 keeps:=fun w h h' ⟨K,x,e⟩ k=>⟨K,fun a o l=>k a o (x a o l),e⟩
theorem yI {p q:Program} {loose:List Str} {Xt:Shared->Bool} {Yf:Shared->α} {Ya:World->α} {N:Nat} {g0:Bool} (row:String)
  (hF:∀ w:World,(openEnds treeTable p (w.withFollow row false) N).map (fun s=>(openSeen q loose (importedModules p.main.body) Xt g0 s,Yf s))=some (openGood q loose,Ya (w.withFollow row false)))
  (hT:∀ w:World,(openEnds treeTable p (w.withFollow row true) N).map (fun s=>(openSeen q loose (importedModules p.main.body) Xt g0 s,Yf s))=some (openGood q loose,Ya (w.withFollow row true))):LeftO p q loose Xt Yf Ya N g0:=fun w=>by
 have e:=World.withFollow_self w row
 cases hb:w.params.followText row<;>rw [hb] at e
 ·have:=hF w;rw [e] at this;exact this
 ·have:=hT w;rw [e] at this;exact this
abbrev DK:=Str×Str×Arguments×FuncBody×Scope×Addr×List (Str×Addr)×Value×Addr×Bool
def fnAt (K:Frag) (q:Str):Option (Option Value)->Option DK
 | some (some (.ref f))=>(match K.lookup f with
  | some ⟨_,_,.func fd,_⟩=>some (fd.name,fd.qualname,fd.params,fd.body,fd.scope,fd.globals,fd.closure,fd.defaults,fd.builtins,codeIn K fd.code q)
  | _=>none)
 | _=>none
def Ce (x q:Str) (st:Stmt):DK:=(x,q,rj st,.stmts (jr st),be st,mainGlobals,[],.none,builtinsNs,true)
def Au (K:Frag):List (Str×Stmt)->List (Option DK)
 | []=>[]
 | x::l=>fnAt K x.1 (nsIn K mainGlobals x.1)::Au K l
def Av:List (Str×Stmt)->List (Option DK)
 | []=>[]
 | x::l=>some (Ce x.1 x.1 x.2)::Av l
def Tj (K:Frag) (x:Str):Option V:=match nsIn K mainGlobals x with
 | some (some v)=>yw v
 | _=>none
def Ls (K:Frag):List (Str×V)->List (Option V)
 | []=>[]
 | x::l=>Tj K x.1::Ls K l
def Lu:List (Str×V)->List (Option V)
 | []=>[]
 | x::l=>some x.2::Lu l
abbrev Cf:=Value×Option Addr×List (Option V)
def Fo:List Value->List (Option V)
 | []=>[]
 | v::l=>yw v::Fo l
def Fp:List V->List (Option V)
 | []=>[]
 | v::l=>some v::Fp l
def DL (K:Frag):Value->Option Cf
 | .ref a=>(match K.lookup a with
  | some ⟨c,d,.seq it _,_⟩=>some (c,d,Fo it.toList)
  | _=>none)
 | _=>none
def zk (xs:List V):Cf:=(.type "tuple",none,Fp xs)
def DM (K:Frag) (x:Str):Option Cf:=match nsIn K mainGlobals x with
 | some (some v)=>DL K v
 | _=>none
def Aw (K:Frag):List (Str×List V)->List (Option Cf)
 | []=>[]
 | x::l=>DM K x.1::Aw K l
def Ax:List (Str×List V)->List (Option Cf)
 | []=>[]
 | x::l=>some (zk x.2)::Ax l
def Ci (K:Frag):List Str->Bool
 | []=>true
 | x::l=>(match nsIn K mainGlobals x with | some none=>true | _=>false)&&Ci K l
section
variable {K:Frag}
theorem i5 {v:Value} {x:V} (e:yw v=some x):RelV x v:=by
 cases v<;>first | (cases e;first | rfl | exact ⟨_,rfl⟩) | cases e
theorem lT:∀ {us:List Value} {xs:List V},Fo us=Fp xs->a_ xs us
 | [],[],_=>.nil
 | [],_::_,e=>by cases e
 | _::_,[],e=>by cases e
 | u::us,x::xs,e=>by
  have e':=List.cons.inj (show yw u::Fo us=some x::Fp xs from e)
  exact .cons (i5 e'.1) (lT e'.2)
theorem sY {q:Str} {st:Stmt} {v:Option (Option Value)} (e:fnAt K q v=some (Ce x q st)):∃ f fd,v=some (some (.ref f))/\Aj K x q st f fd:=by
 unfold fnAt at e
 split at e
 ·rename_i f
  split at e
  ·rename_i oc od fd ky hl
   have e:=QD e
   unfold Ce at e
   obtain ⟨n,qn,ps,b,sc,gl,cl,df,kd,doc,pm,an,cd,ct,bt⟩:=fd
   simp only [Prod.mk.injEq] at e
   obtain ⟨rfl,rfl,rfl,rfl,rfl,rfl,rfl,rfl,rfl,hc⟩:=e
   refine ⟨f,_,rfl,Rj hl hc ?_⟩
   unfold keepIn
   simp only [hl]
  ·cases e
 ·cases e
theorem tH:∀ {l:List (Str×Stmt)},Au K l=Av l->∀ (i:Nat) {x:Str} {st:Stmt},l[i]? =some (x,st)->fnAt K x (nsIn K mainGlobals x)=some (Ce x x st)
 | y::l,e,0,x,st,h=>by cases h;exact (List.cons.inj e).1
 | y::l,e,i+1,x,st,h=>tH (List.cons.inj e).2 i (by simpa using h)
theorem nH (X:K.In h) (G:h.Ns mainGlobals mg) {l:List (Str×Stmt)} (e:Au K l=Av l) (i:Nat) {st:Stmt} (hi:l[i]? =some (x,st))
  (hb:∀ (kV doc pm:Value) (an:Option Addr) (ay ct:Value) (us:List Value),us.length=ps.length->bindArgs (fnOf x x (rj st) (jr st) (be st) .none kV doc pm an ay ct) ⟨us,[]⟩=pure (ps.zip us)):dz K mg x st ps:=by
 obtain ⟨f,fd,e1,F⟩:=sY (tH e i hi)
 exact ⟨f,fd,F,mg_of X G e1,F.binds hb⟩
variable {st:Stmt} {l:List (Str×Stmt)} {p0 p1 p2 p3 p4 p5 p6:Str}
theorem yg (h:us.length=n+1):∃ a t,us=a::t/\t.length=n:=by
 cases us with
 | nil=>cases h
 | cons a t=>exact ⟨a,t,rfl,by simpa using h⟩
theorem Cj (X:K.In h) (G:h.Ns mainGlobals mg) (e:Au K l=Av l) (i:Nat) (hi:l[i]? =some (x,st):=by rfl)
  (hb:∀ (kV doc pm:Value) (an:Option Addr) (ay ct a0:Value),bindArgs (fnOf x x (rj st) (jr st) (be st) .none kV doc pm an ay ct) ⟨[a0],[]⟩=pure [(p0,a0)]:=by intros;rfl):dz K mg x st [p0]:=
 nH X G e i hi fun a b c d f g us hl=>by
  obtain ⟨a0,HG,rfl,qd⟩:=yg (n:=0) hl
  obtain rfl:=QS qd
  exact hb ..
theorem qe (X:K.In h) (G:h.Ns mainGlobals mg) (e:Au K l=Av l) (i:Nat) (hi:l[i]? =some (x,st):=by rfl)
  (hb:∀ (kV doc pm:Value) (an:Option Addr) (ay ct a0 a1:Value),bindArgs (fnOf x x (rj st) (jr st) (be st) .none kV doc pm an ay ct) ⟨[a0,a1],[]⟩=pure [(p0,a0),(p1,a1)]:=by intros;rfl):dz K mg x st [p0,p1]:=
 nH X G e i hi fun a b c d f g us hl=>by
  obtain ⟨a0,HG,rfl,qd⟩:=yg (n:=1) hl
  obtain ⟨a1,Fq,rfl,mq⟩:=yg (n:=0) qd
  obtain rfl:=QS mq
  exact hb ..
theorem Ck (X:K.In h) (G:h.Ns mainGlobals mg) (e:Au K l=Av l) (i:Nat) (hi:l[i]? =some (x,st):=by rfl)
  (hb:∀ (kV doc pm:Value) (an:Option Addr) (ay ct a0 a1 a2:Value),bindArgs (fnOf x x (rj st) (jr st) (be st) .none kV doc pm an ay ct) ⟨[a0,a1,a2],[]⟩=pure [(p0,a0),(p1,a1),(p2,a2)]:=by intros;rfl):dz K mg x st [p0,p1,p2]:=
 nH X G e i hi fun a b c d f g us hl=>by
  obtain ⟨a0,HG,rfl,qd⟩:=yg (n:=2) hl
  obtain ⟨a1,Fq,rfl,mq⟩:=yg (n:=1) qd
  obtain ⟨a2,Ay,rfl,Ai⟩:=yg (n:=0) mq
  obtain rfl:=QS Ai
  exact hb ..
theorem HH (X:K.In h) (G:h.Ns mainGlobals mg) (e:Au K l=Av l) (i:Nat) (hi:l[i]? =some (x,st):=by rfl)
  (hb:∀ (kV doc pm:Value) (an:Option Addr) (ay ct a0 a1 a2 a3:Value),bindArgs (fnOf x x (rj st) (jr st) (be st) .none kV doc pm an ay ct) ⟨[a0,a1,a2,a3],[]⟩=pure [(p0,a0),(p1,a1),(p2,a2),(p3,a3)]:=by intros;rfl):dz K mg x st [p0,p1,p2,p3]:=
 nH X G e i hi fun a b c d f g us hl=>by
  obtain ⟨a0,HG,rfl,qd⟩:=yg (n:=3) hl
  obtain ⟨a1,Fq,rfl,mq⟩:=yg (n:=2) qd
  obtain ⟨a2,Ay,rfl,Ai⟩:=yg (n:=1) mq
  obtain ⟨a3,Tn,rfl,To⟩:=yg (n:=0) Ai
  obtain rfl:=QS To
  exact hb ..
theorem pX {v:Value} {xs:List V} (e:DL K v=some (zk xs)):∃ (a:Addr) (it:Array Value) (n:Nat) (sq:Array (Option Value)),v=.ref a/\K.lookup a=some ⟨.type "tuple",none,.seq it n,sq⟩/\a_ xs it.toList:=by
 unfold DL at e
 split at e
 ·rename_i a
  split at e
  ·rename_i c d it n sl hl
   have e:=QD e
   unfold zk at e
   simp only [Prod.mk.injEq] at e
   obtain ⟨rfl,rfl,e3⟩:=e
   exact ⟨a,it,n,sl,rfl,hl,lT e3⟩
  ·cases e
 ·cases e
theorem gY {xs:List V} (e:DM K x=some (zk xs)):∃ (a:Addr) (it:Array Value) (n:Nat) (sq:Array (Option Value)),nsIn K mainGlobals x=some (some (.ref a))/\K.lookup a=some ⟨.type "tuple",none,.seq it n,sq⟩/\a_ xs it.toList:=by
 unfold DM at e
 split at e
 ·rename_i u hn
  obtain ⟨a,it,n,sq,rfl,h1,h2⟩:=pX e
  exact ⟨a,it,n,sq,hn,h1,h2⟩
 ·cases e
theorem lA:∀ {l:List (Str×List V)},Aw K l=Ax l->∀ (i:Nat) {x:Str} {v:List V},l[i]? =some (x,v)->DM K x=some (zk v)
 | y::l,e,0,x,st,h=>by cases h;exact (List.cons.inj e).1
 | y::l,e,i+1,x,st,h=>lA (List.cons.inj e).2 i (by simpa using h)
theorem vW {it:Array Value} {d:Option Addr} {sq:Array (Option Value)} {xs:List V} (hl:K.lookup a=some ⟨.type "tuple",d,.seq it n,sq⟩) (hv:a_ xs it.toList) (hz:xs.length<=sizeLine) (H:Hp):af K H a xs:=
 .inr ⟨_,it,n,hl,rfl,rfl,by have:=hv.length;simp at this;omega,hv⟩
theorem tu (X:K.In h) (G:h.Ns mainGlobals mg) {l:List (Str×List V)} (e:Aw K l=Ax l) (i:Nat) {v:List V} (hi:l[i]? =some (x,v):=by rfl) (hz:v.length<=sizeLine:=by decide):∃ a,mg x=some (.ref a)/\∀ H,af K H a v:=by
 obtain ⟨a,it,n,sq,h1,h2,h3⟩:=gY (lA e i hi)
 exact ⟨a,mg_of X G h1,vW h2 h3 hz⟩
theorem oQ:∀ {l:List Str},Ci K l=true->∀ (i:Nat) {x:Str},l[i]? =some x->nsIn K mainGlobals x=some none
 | y::l,e,0,x,h=>by
  cases h
  unfold Ci at e
  rw [Bool.and_eq_true_iff] at e
  have e:=e.1
  split at e
  ·assumption
  ·cases e
 | y::l,e,i+1,x,h=>by
  unfold Ci at e
  rw [Bool.and_eq_true_iff] at e
  exact oQ e.2 i (by simpa using h)
theorem nn (X:K.In h) (G:h.Ns mainGlobals mg) {l:List Str} (e:Ci K l=true) (i:Nat) (hi:l[i]? =some x:=by rfl):mg x=none:=mg_none_of X G (oQ e i hi)
end
inductive Cm where
 | v (x:Option V)
 | t (x:Option Cf)
abbrev Ft:=Value×Option Addr×Nat×Bool×List (Int×Option V×Cm)
def DN (K:Frag) (v:Value):Cm:=match v with
 | .ref _=>.t (DL K v)
 | _=>.v (yw v)
def DO (K:Frag):List DictEntry->List (Int×Option V×Cm)
 | []=>[]
 | e::l=>(e.hash,yw e.key,DN K e.val)::DO K l
def Fv (K:Frag) (x:Str):Option Ft:=match nsIn K mainGlobals x with
 | some (some (.ref a))=>(match K.lookup a with
  | some ⟨c,d,.dict es _,sl⟩=>some (c,d,sl.size,a==sysModules,DO K es.toList)
  | _=>none)
 | _=>none
abbrev qf:=Str×(V ⊕ List V)
def Cn (w:World):List qf->List (Int×Option V×Cm)
 | []=>[]
 | (k,.inl v)::l=>(CY w (.inr k),some (.str k),.v (some v))::Cn w l
 | (k,.inr v)::l=>(CY w (.inr k),some (.str k),.t (some (zk v)))::Cn w l
def Fw (w:World) (l:List qf):Ft:=(.type "dict",none,0,false,Cn w l)
def HK (K:Frag):List (Str×List qf)->List (Option Ft)
 | []=>[]
 | x::l=>Fv K x.1::HK K l
def HL (w:World):List (Str×List qf)->List (Option Ft)
 | []=>[]
 | x::l=>some (Fw w x.2)::HL w l
def Az (K:Frag):List qf->List V->Prop
 | [],[]=>True
 | (_,.inl v)::l,u::us=>u=v/\Az K l us
 | (_,.inr xs)::l,u::us=>(∃ a,u=.ref a/\∀ H,af K H a xs)/\Az K l us
 | _,_=>False
def HM:List qf->List V->List (Key×V)
 | e::l,u::us=>(.inr e.1,u)::HM l us
 | _,_=>[]
def DP:List qf->Bool
 | []=>true
 | (_,.inl _)::l=>DP l
 | (_,.inr xs)::l=>decide (xs.length<=1000)&&DP l
section
variable {K:Frag}
theorem iR:∀ {l:List qf},DP l=true->∀ e∈l,∀ xs,e.2=.inr xs->xs.length<=sizeLine
 | (_,.inl _)::l,h,e,he,xs,hx=>by
  rcases Qp.mp he with rfl | he
  ·cases hx
  ·exact iR (l:=l) h e he xs hx
 | (_,.inr ys)::l,h,e,he,xs,hx=>by
  unfold DP at h
  rw [Bool.and_eq_true_iff,decide_eq_true_iff] at h
  rcases Qp.mp he with rfl | he
  ·cases hx;exact Nat.le_trans h.1 (by decide)
  ·exact iR (l:=l) h.2 e he xs hx
theorem Lv {k:Str} {v:V} {l:List qf} {us:List V} (e:Az K ((k,.inl v)::l) us):∃ vs,us=v::vs/\Az K l vs:=by
 cases us with
 | nil=>exact False.elim e
 | cons u vs=>obtain ⟨rfl,r⟩:=(show u=v/\Az K l vs from e);exact ⟨vs,rfl,r⟩
theorem Tp {us:List V} (e:Az K [] us):us=[]:=by
 cases us with
 | nil=>rfl
 | cons u vs=>exact False.elim e
theorem nS:∀ {l:List qf} {es:List DictEntry},DO K es=Cn w l->(∀ e∈l,∀ xs,e.2=.inr xs->xs.length<=sizeLine)->∃ (us:List V) (vs:List (Key×Value)),Az K l us/\(∀ P,Pairs (ck P w) es vs)/\(∀ P,∀ e∈es,∃ k,(ck P w).is k e.key=true/\e.hash=(ck P w).hash k)/\KV (HM l us) vs/\vs.map (·.1)=l.map (fun e=>.inr e.1)
 | [],[],_,_=>⟨[],[],trivial,fun _=>.nil,(fun _ _ h=>nomatch h),.nil,rfl⟩
 | [],_::_,e,_=>by cases e
 | (_,.inl _)::_,[],e,_=>by cases e
 | (_,.inr _)::_,[],e,_=>by cases e
 | (k,.inl v)::l,d::es,e,hz=>by
  have e':=List.cons.inj (show (d.hash,yw d.key,DN K d.val)::DO K es=(CY w (.inr k),some (.str k),.v (some v))::Cn w l from e)
  obtain ⟨us,vs,h1,h2,h3,h4,h5⟩:=nS e'.2 fun x hx=>hz x (Qh _ hx)
  have e1:=e'.1
  simp only [Prod.mk.injEq] at e1
  obtain ⟨q1,q2,q3⟩:=e1
  obtain ⟨t,q2⟩:=i5 q2
  have q4:RelV v d.val:=by
   unfold DN at q3
   split at q3
   ·cases q3
   ·exact i5 (Cm.v.inj q3)
  have hk:∀ P,(ck P w).is (.inr k) d.key=true:=fun P=>by rw [q2];exact g6 P w k t
  refine ⟨v::us,(.inr k,d.val)::vs,⟨rfl,h1⟩,fun P=>.cons (kv:=((Sum.inr k,d.val):Key×Value)) (hk P) rfl (h2 P),fun P y hy=>?_,.cons ⟨rfl,q4⟩ h4,by simp [h5]⟩
  rcases Qp.mp hy with rfl | hy
  ·exact ⟨.inr k,hk P,q1⟩
  ·exact h3 P y hy
 | (k,.inr xs)::l,d::es,e,hz=>by
  have e':=List.cons.inj (show (d.hash,yw d.key,DN K d.val)::DO K es=(CY w (.inr k),some (.str k),.t (some (zk xs)))::Cn w l from e)
  obtain ⟨us,vs,h1,h2,h3,h4,h5⟩:=nS e'.2 fun x hx=>hz x (Qh _ hx)
  have e1:=e'.1
  simp only [Prod.mk.injEq] at e1
  obtain ⟨q1,q2,q3⟩:=e1
  obtain ⟨t,q2⟩:=i5 q2
  have q4:DL K d.val=some (zk xs):=by
   unfold DN at q3
   split at q3
   ·exact Cm.t.inj q3
   ·cases q3
  obtain ⟨a,it,n,sq,q5,q6,q7⟩:=pX q4
  have hk:∀ P,(ck P w).is (.inr k) d.key=true:=fun P=>by rw [q2];exact g6 P w k t
  refine ⟨.ref a::us,(.inr k,d.val)::vs,⟨⟨a,rfl,vW q6 q7 (hz _ (List.mem_cons_self ..) xs rfl)⟩,h1⟩,fun P=>.cons (kv:=((Sum.inr k,d.val):Key×Value)) (hk P) rfl (h2 P),fun P y hy=>?_,.cons ⟨rfl,by rw [q5];rfl⟩ h4,by simp [h5]⟩
  rcases Qp.mp hy with rfl | hy
  ·exact ⟨.inr k,hk P,q1⟩
  ·exact h3 P y hy
theorem Tq {l:List qf} (X:K.In h) (G:h.Ns mainGlobals mg) (e:Fv K x=some (Fw w l)) (Hx:DP l=true) (nd:(l.map (·.1)).Nodup):∃ (a:Addr) (us:List V),mg x=some (.ref a)/\Az K l us/\KD w K a (HM l us):=by
 have hz:=iR Hx
 unfold Fv at e
 split at e
 ·rename_i a hn
  split at e
  ·rename_i c d es ep sl hl
   have e:=QD e
   unfold Fw at e
   simp only [Prod.mk.injEq] at e
   obtain ⟨rfl,rfl,e3,e4,e5⟩:=e
   obtain ⟨us,vs,h1,h2,h3,h4,h5⟩:=nS e5 hz
   refine ⟨a,us,mg_of X G hn,h1,fun P=>⟨_,es,ep,vs,hl,e4,⟨rfl,rfl,Array.eq_empty_of_size_eq_zero e3⟩,rfl,fun y hy=>h3 P y (by simpa using hy),h2 P,?_,h4⟩⟩
   rw [h5]
   have:l.map (fun e=>(Sum.inr e.1:Key))=(l.map (·.1)).map Sum.inr:=by simp
   rw [this]
   exact List.Pairwise.map _ (fun a b q c=>q (Sum.inr.inj c)) nd
  ·cases e
 ·cases e
theorem pB:∀ {l:List (Str×List qf)},HK K l=HL w l->∀ (i:Nat) {x:Str} {v:List qf},l[i]? =some (x,v)->Fv K x=some (Fw w v)
 | y::l,e,0,x,st,h=>by cases h;exact (List.cons.inj e).1
 | y::l,e,i+1,x,st,h=>pB (List.cons.inj e).2 i (by simpa using h)
end
abbrev Lw:List Str:=["type","isinstance","issubclass","getattr","hasattr"]
theorem zI {l:OpenLaw} {p:Program} (hp:l.prog=p)
 (a0:sreFenced p.main=true) (a1:((moduleNames p.main.body).isEmpty||lookedIntoSs (moduleNames p.main.body) p.main.body)=true)
 (a2:namesResolve p=true) (a3:p.boundNames.all (fun n=> !worldNames.contains n)=true)
 (a4:noRoadLSs {strict:= !(importedModules p.main.body).all cThrough.contains,foot:=none,bare:=(["vars","dir","locals"]:List Str).filter (readsOut p p.main.body)} p.main.body=true)
 (a5:(namesMeet p p.main.body fun _ n=>attrL n)=true)
 (a6:l.row.toRowW.solid=true) (Tr:l.row.pre.litsOk=true)
 (a7:p.boundNames.contains l.name=true) (a8:(!startupNames.contains l.name)=true)
 (a9:decide (l.foot<=(behindTheImports p).length)=true)
 (b0:l.footing.all footLine=true) (b1:noClassBlock p l.footing=true)
 (b2:l.most.all (fun n=>decide (63<=n))=true) (b3:l.bound.all (fun n=>decide (2^63<=n))=true)
 (b4:noRoadLSs {strict:=true,foot:=some l.bound',writes:=l.writes,may:=l.may} l.footing=true)
 (b5:defStands l.about l.above=true) (b6:l.namesIt=true) (b7:Lw.all (fun n=>l.about !=[n])=true)
 (b8:l.bound'.all (fun n=> !builtinNamed n||l.about==[n]|| !l.reads n)=true)
 (b9:(!l.writes||(p.main.body.flatMap importedNames).all fun n=> !l.reads n)=true)
 (c0:(p.main.body.flatMap importedNames).all (fun n=> !l.reads n||(drawsOf n p.main.body).all fun mn=>mn.2 !=("attrgetter":Str)&&mn.2 !=("methodcaller":Str))=true)
 (c1:namesMeet p l.footing (fun sc n=>(!Lw.contains n||sc.names.lookup n==some .globalImplicit)&&(l.may !=some n||sc.kind==.module||sc.names.lookup n==some .globalImplicit))=true)
 (c2:l.own.contains l.name=true) (c3:(l.own.eraseDups.length==l.own.length)=true) (c4:l.own.all (fun n=> !builtinNamed n)=true)
 (c5:namesMeet p l.above (fun _ n=> !l.own.contains n)=true) (c6:(namesMeet p l.footing fun sc n=>sc.kind==.module||sc.names.lookup n !=some .globalExplicit)=true):l.wellSaid=true:=by
 subst hp
 have q:l.row.wellSaid=true:=by
  unfold OpenRow.wellSaid OpenRow.partSaid looksOpen
  exact look_both (look_both (look_both (look_both (look_both (look_both (look_both (look_both (look_both (look_both (look_both (look_both (look_both (look_both (look_both (look_both (look_both (look_both (look_both (look_both a0 a1) a2) a3) a4) a5) rfl) rfl) rfl) rfl) rfl) rfl) a6) Tr) rfl) rfl) rfl) rfl) rfl) a7) a8
 unfold OpenLaw.wellSaid
 rw [q,a9,b0,b1,b2,b3,b4,b5,b6,b7,b8,b9,c0,c1,c2,c3,c4,c5,c6];rfl
theorem wT {l:OpenLaw} {k:Nat} {q:Program} {loose:List Str} {d:DefRec} {look:Frag->α} {want:World->α}
  (hn:l.most=some n) (hn2:n<=sizeLine) (G4:d.params.defaults=[]) (hr:fm k callerA)
  (F:∀ (w:World) (mg:Str->Option Value) (fa:Addr) (h:Heap) (K:Frag),K.In h->look K=want w->h.Ns mainGlobals mg->mg d.name=some (.ref fa)->
   ∃ (ts:List (Addr×Obj×List V)) (fd:FuncData) (sp:Sp),(∀ t∈ts,DG K t)/\(ts.map (·.1)).Nodup/\(∀ (s:Shared) (u:Value),BindsTo s fd ⟨[u],[]⟩ [(x,u)])/\
    (∀ base:Heap,(without K (ts.map (·.1))).In base->base.Ns mainGlobals mg->qt l.prog w (without K (ts.map (·.1))) mg base x_ k fa fd [x] sp)/\
    (∀ (H:Hp) (a:Addr) (ns:List Int),ns.length<=n->(∀ t∈ts,H t.1=some (.aq t.2.1 (.tup t.2.2)))->ak (without K (ts.map (·.1))) H a (ns.map V.int)->sp [.ref a] H (fun v _=>v=.bl true) fun _ _ _=>False)):
  WalkO q loose XP (wc look want).says l.row.toRowW d [] (fun f vs=>PySem.call f vs):=by
 refine KN.pS hn G4 fun w s₀ s₁ mg mb fa o pm cd doc a vs ns G Y ho hd jc BZ G5 G7 fg hg=>?_
 obtain ⟨K,KX,hl⟩:=Y
 obtain ⟨ts,fd,sp,As,nd,hb,hF,xx⟩:=F w mg fa _ K KX hl G.T.g BZ
 exact tY As nd KX G.T.g G.T.b G.T.builtins G.T.nolimit hg G5 G7 (Nat.le_trans fg hn2) hr hF hb (fun H _ ht hS=>xx H a ns fg ht hS) fun _ _ _ z=>z
def we (K:Frag):List (Str×List V)->List Addr
 | []=>[]
 | x::l=>(match nsIn K mainGlobals x.1 with | some (some (.ref a))=>a | _=>0)::we K l
def HN:List (Str×List V)->Bool
 | []=>true
 | x::l=>decide (x.2.length<=1000)&&HN l
section
variable {K:Frag}
theorem xJ (X:K.In h) (G:h.Ns mainGlobals mg):∀ {l:List (Str×List V)},Aw K l=Ax l->HN l=true->∃ ts:List (Addr×Obj×List V),ts.map (·.1)=we K l/\(∀ t∈ts,DG K t)/\∀ (i:Nat) (x:Str) (xs:List V),l[i]? =some (x,xs)->∃ t∈ts,t.1=adr mg x/\t.2.2=xs
 | [],_,_=>⟨[],rfl,(fun t ht=>nomatch ht),fun i x xs e=>by simp at e⟩
 | y::l,e,hs=>by
  have e':=List.cons.inj (show DM K y.1::Aw K l=some (zk y.2)::Ax l from e)
  unfold HN at hs
  rw [Bool.and_eq_true_iff,decide_eq_true_iff] at hs
  obtain ⟨ts,h1,h2,h3⟩:=xJ X G e'.2 hs.2
  obtain ⟨a,it,n,sq,g1,g2,g3⟩:=gY e'.1
  have hm:=mg_of X G g1
  refine ⟨(a,⟨.type "tuple",none,.seq it n,sq⟩,y.2)::ts,?_,fun t ht=>?_,fun i x xs ei=>?_⟩
  ·unfold we
   rw [g1,List.map_cons,h1]
  ·rcases Qp.mp ht with rfl | ht
   ·exact zC g2 g3 (Nat.le_trans hs.1 (by decide))
   ·exact h2 t ht
  ·cases i with
   | zero=>
    cases ei
    refine ⟨_,List.mem_cons_self ..,?_,rfl⟩
    show a=adr mg _
    unfold adr;rw [hm]
   | succ i=>
    obtain ⟨t,ht,r⟩:=h3 i x xs (by simpa using ei)
    exact ⟨t,Qh _ ht,r⟩
theorem wH {ts:List (Addr×Obj×List V)} {xs:List V} (h:∃ t∈ts,t.1=adr mg x/\t.2.2=xs) (hH:∀ t∈ts,H t.1=some (.aq t.2.1 (.tup t.2.2))):Kn mg H x xs:=by
 obtain ⟨t,ht,e1,e2⟩:=h
 exact ⟨t.2.1,by rw [<- e1,<- e2];exact hH t ht⟩
theorem sW (X:K.In h) (G:h.Ns mainGlobals mg) {l:List (Str×List V)} (e:Aw K l=Ax l) (i:Nat) {xs:List V} (hi:l[i]? =some (x,xs):=by rfl):∃ u,mg x=some u/\RelV (.ref (adr mg x)) u:=by
 obtain ⟨a,it,n,sq,h1,h2,h3⟩:=gY (lA e i hi)
 exact ⟨.ref a,mg_of X G h1,S7 (mg_of X G h1)⟩
end
structure AA where
 x:Str
 q:Str
 st:Stmt
 fs:List Str
abbrev HP:=Option DK×Option (Option Value)×Bool
def Fx (K:Frag) (C:Addr):List Str->Bool
 | []=>true
 | f::l=>(match findIn K (.ref C) f with | some none=>true | _=>false)&&Fx K C l
def clsAt (K:Frag) (c:AA) (C:Addr):HP:=(fnAt K c.q (findIn K (.ref C) "__init__"),findIn K (.ref C) "__setattr__",
 plainGet K C Str.empty&&(hasDictIn K C&&(plainOver K C&&(makesIn K C&&(keepIn K (.ref C)&&((match findIn K (.ref C) "__init__" with | some (some v)=>isFn K v | _=>false)&&Fx K C c.fs))))))
def DQ (K:Frag):List AA->List (Option HP)
 | []=>[]
 | c::l=>(match nsIn K mainGlobals c.x with | some (some (.ref C))=>some (clsAt K c C) | _=>none)::DQ K l
def DR:List AA->List (Option HP)
 | []=>[]
 | c::l=>some (some (Ce "__init__" c.q c.st),some (some (.builtin "object.__setattr__")),true)::DR l
section
variable {K:Frag}
theorem jF:∀ {C:Addr} {l:List Str},Fx K C l=true->∀ f∈l,xr K C f
 | C,f::l,e,g,hg=>by
  unfold Fx at e
  rw [Bool.and_eq_true_iff] at e
  rcases Qp.mp hg with rfl | hg
  ·have e1:=e.1
   split at e1
   ·assumption
   ·cases e1
  ·exact jF e.2 g hg
theorem sP:∀ {l:List AA},DQ K l=DR l->∀ (i:Nat) {c:AA},l[i]? =some c->∃ C,nsIn K mainGlobals c.x=some (some (.ref C))/\clsAt K c C=(some (Ce "__init__" c.q c.st),some (some (.builtin "object.__setattr__")),true)
 | y::l,e,0,c,h=>by
  cases h
  have e1:=(List.cons.inj e).1
  split at e1
  ·rename_i C hC
   exact ⟨C,hC,QD e1⟩
  ·cases e1
 | y::l,e,i+1,c,h=>sP (List.cons.inj e).2 i (by simpa using h)
theorem Tt (X:K.In h) (G:h.Ns mainGlobals mg) {l:List AA} (e:DQ K l=DR l) (i:Nat) {q:Str} {st:Stmt} {fs:List Str} (hi:l[i]? =some ⟨x,q,st,fs⟩)
  (hb:∀ (kV doc pm:Value) (an:Option Addr) (ay ct:Value) (us:List Value),us.length=ps.length->bindArgs (fnOf "__init__" q (rj st) (jr st) (be st) .none kV doc pm an ay ct) ⟨us,[]⟩=pure (ps.zip us)):DH K mg x q st ps fs (adr mg x):=by
 obtain ⟨C,hn,hc⟩:=sP e i hi
 have hm:=mg_of X G hn
 have ea:adr mg x=C:=by unfold adr;rw [hm]
 unfold clsAt at hc
 simp only [Prod.mk.injEq,Bool.and_eq_true_iff] at hc
 obtain ⟨c1,c2,c3,c4,c5,c6,c7,c8,c9⟩:=hc
 obtain ⟨f,fd,e1,F⟩:=sY c1
 rw [e1] at c8
 rw [ea]
 exact ⟨hm,⟨c3,c4,c5,c2⟩,jF c9,f,fd,⟨c6,e1,c8,c7⟩,F,F.binds hb⟩
theorem Tu (X:K.In h) (G:h.Ns mainGlobals mg) {l:List AA} (e:DQ K l=DR l) (i:Nat) {q p0 p1:Str} {st:Stmt} {fs:List Str} (hi:l[i]? =some ⟨x,q,st,fs⟩:=by rfl)
  (hb:∀ (kV doc pm:Value) (an:Option Addr) (ay ct a0 a1:Value),bindArgs (fnOf "__init__" q (rj st) (jr st) (be st) .none kV doc pm an ay ct) ⟨[a0,a1],[]⟩=pure [(p0,a0),(p1,a1)]:=by intros;rfl):DH K mg x q st [p0,p1] fs (adr mg x):=
 Tt X G e i hi fun a b c d f g us hl=>by
  match us,hl with
  | [a0,a1],_=>exact hb ..
end
end L2
namespace L2
def yh:Nat->Nat->Nat
 | 0,x=>x
 | n+1,x=>yh n (5*x+1)
theorem jN:∀ (a b x:Nat),yh (a+b) x=yh b (yh a x)
 | 0,b,x=>by rw [Nat.zero_add];rfl
 | a+1,b,x=>by rw [show a+1+b=(a+b)+1 by omega];exact jN a b (5*x+1)
theorem vO (n x:Nat):yh (n+1) x=5*yh n x+1:=jN n 1 x
theorem tK:∀ k:Nat,∃ c:Nat,c % 2=1/\∀ x,yh (2^k) x=x+2^k*(c*(4*x+1))
 | 0=>⟨1,rfl,fun x=>by show 5*x+1=_;omega⟩
 | k+1=>by
  obtain ⟨c,hc,h⟩:=tK k
  refine ⟨c+2*(2^k*(c*c)),by omega,fun x=>?_⟩
  have e:2^(k+1)=2^k+2^k:=by rw [Nat.pow_succ];omega
  rw [e,jN,h,h]
  generalize 2^k=p
  generalize hm:4*x+1=m
  have e1:4*(x+p*(c*m))+1=m+4*(p*(c*m)):=by rw [Nat.mul_add];omega
  have e2:c*(m+4*(p*(c*m)))=c*m+4*(p*(c*(c*m))):=by rw [Nat.mul_add];congr 1;ac_rfl
  have e3:(c+2*(p*(c*c)))*m=c*m+2*(p*(c*(c*m))):=by rw [Nat.add_mul];congr 1;ac_rfl
  rw [e1,e2,e3]
  generalize p*(c*(c*m))=v
  generalize c*m=u
  have f1:p*(u+4*v)=p*u+4*(p*v):=by rw [Nat.mul_add];congr 1;ac_rfl
  have f2:(p+p)*(u+2*v)=p*u+p*u+4*(p*v):=by
   have f3:p*(2*v)=2*(p*v):=by ac_rfl
   rw [Nat.add_mul,Nat.mul_add,f3]
   omega
  rw [f1,f2]
  omega
theorem mY:∀ (k x e:Nat),e < 2^k->∃ l,l < 2^k/\yh l x % 2^k=e
 | 0,x,e,h=>⟨0,by decide,by rw [Nat.pow_zero,Nat.mod_one];have:e < 1:=h;omega⟩
 | k+1,x,e,h=>by
  have e2:2^(k+1)=2*2^k:=by rw [Nat.pow_succ];omega
  have pos:0 < 2^k:=Nat.pow_pos (by decide)
  obtain ⟨l,hl,he⟩:=mY k x (e % 2^k) (Nat.mod_lt _ pos)
  obtain ⟨c,hc,hs⟩:=tK k
  rw [e2] at h
  have key:∀ y:Nat,y % 2^k=e % 2^k->y % (2*2^k)=e\/(y+2^k*(c*(4*y+1))) % (2*2^k)=e:=fun y hy=>by
   have Xd:(c*(4*y+1)) % 2=1:=by
    rw [Nat.mul_mod,hc,show (4*y+1) % 2=1 by omega]
   obtain ⟨q,hq⟩:∃ q,c*(4*y+1)=2*q+1:=⟨c*(4*y+1) / 2,by omega⟩
   rw [hq]
   have e3:y+2^k*(2*q+1)=(y+2^k)+(2*2^k)*q:=by rw [Nat.mul_add,Nat.mul_one,<- Nat.mul_assoc,Nat.mul_comm (2^k) 2];omega
   rw [e3,Nat.add_mul_mod_self_left]
   generalize 2^k=p at*
   have d1:=Nat.div_add_mod y p
   have d2:=Nat.div_add_mod e p
   rw [hy] at d1
   have zj:e / p < 2:=by
    rw [Nat.div_lt_iff_lt_mul pos];omega
   have hm:e % p < p:=Nat.mod_lt _ pos
   generalize y / p=a at*
   generalize e / p=b at*
   generalize e % p=r at*
   rcases Nat.mod_two_eq_zero_or_one (a+b) with z | z
   ·left
    obtain ⟨t,rfl⟩:∃ t,a=b+2*t:=⟨(a - b) / 2,by omega⟩
    have:y=e+(2*p)*t:=by
     rw [<- d1,<- d2,Nat.mul_add,<- Nat.mul_assoc,Nat.mul_comm p 2];omega
    rw [this,Nat.add_mul_mod_self_left,Nat.mod_eq_of_lt h]
   ·right
    obtain ⟨t,ht⟩:∃ t,a+1=b+2*t:=⟨(a+1 - b) / 2,by omega⟩
    have:y+p=e+(2*p)*t:=by
     have q1:y+p=p*(a+1)+r:=by rw [Nat.mul_add];omega
     rw [q1,ht,<- d2,Nat.mul_add,<- Nat.mul_assoc,Nat.mul_comm p 2];omega
    rw [this,Nat.add_mul_mod_self_left,Nat.mod_eq_of_lt h]
  rcases key (yh l x) he with z | z
  ·exact ⟨l,by omega,by rw [e2];exact z⟩
  ·exact ⟨l+2^k,by omega,by rw [e2,jN,hs];exact z⟩
end L2
namespace L2
open PySem PySem.SetTable
def ug (mask:Nat) (p:Probe):Probe:=if p.more > 0 then {p with j:=p.j+1,more:=p.more - 1} else {p with j:=(leap mask p.i p.perturb).1,more:=runEnd mask (leap mask p.i p.perturb).1 - (leap mask p.i p.perturb).1,i:=(leap mask p.i p.perturb).1,perturb:=(leap mask p.i p.perturb).2}
def DS (mask:Nat) (q:Nat×Nat):Probe:={j:=q.1,more:=runEnd mask q.1 - q.1,i:=q.1,perturb:=q.2,dummy:=none}
def st (mask:Nat) (h:Int):Nat->Probe
 | 0=>DS mask (bits h % (mask+1),bits h)
 | n+1=>ug mask (st mask h n)
def lp (mask:Nat) (h:Int):Nat->Nat×Nat
 | 0=>(bits h % (mask+1),bits h)
 | l+1=>leap mask (lp mask h l).1 (lp mask h l).2
section
variable {mask:Nat} {h:Int}
theorem gC (i:Nat):runEnd mask i - i<=9/\(i<=mask->i+(runEnd mask i - i)<=mask):=by
 unfold runEnd
 split<;>omega
theorem qH {N:Nat} {q:Nat×Nat} (e:st mask h N=DS mask q):∀ m,m<=runEnd mask q.1 - q.1->st mask h (N+m)={j:=q.1+m,more:=runEnd mask q.1 - q.1 - m,i:=q.1,perturb:=q.2,dummy:=none}
 | 0,_=>e
 | m+1,hm=>by
  have ih:=qH e m (by omega)
  show ug mask (st mask h (N+m))=_
  rw [ih]
  unfold ug
  rw [if_pos (show runEnd mask q.1 - q.1 - m > 0 by omega)]
  simp only [Probe.mk.injEq,and_true]
  omega
theorem sH:∀ l,∃ N,N<=10*l/\st mask h N=DS mask (lp mask h l)
 | 0=>⟨0,Qy _,rfl⟩
 | l+1=>by
  obtain ⟨N,hN,e⟩:=sH l
  have hr:=(gC (mask:=mask) (lp mask h l).1).1
  refine ⟨N+(runEnd mask (lp mask h l).1 - (lp mask h l).1)+1,by omega,?_⟩
  show ug mask (st mask h (N+(runEnd mask (lp mask h l).1 - (lp mask h l).1)))=_
  rw [qH e _ (Qy _)]
  unfold ug
  rw [if_neg (by simp)]
  rfl
theorem Tw:∀ l,(lp mask h l).1<=mask
 | 0=>Nat.le_of_lt_succ (Nat.mod_lt _ (Nat.succ_pos _))
 | l+1=>Nat.le_of_lt_succ (Nat.mod_lt _ (Nat.succ_pos _))
theorem tO:∀ l,(lp mask h l).2=bits h / 32^l
 | 0=>by rw [Nat.pow_zero,Nat.div_one];rfl
 | l+1=>by
  show (lp mask h l).2 / 32=_
  rw [tO l,Nat.div_div_eq_div_mul,Nat.pow_succ]
theorem yR:bits h < 2^64:=by
 unfold bits
 have h1:=Int.emod_lt_of_pos h (show (0:Int) < 2^64 by decide)
 have h2:=Int.emod_nonneg h (show ((2:Int)^64)≠0 by decide)
 omega
theorem Tz (l:Nat):(lp mask h (13+l)).2=0:=by
 rw [tO]
 refine Nat.div_eq_of_lt (Nat.lt_of_lt_of_le yR ?_)
 rw [Nat.pow_add]
 exact Nat.le_trans (show 2^64<=32^13*1 by decide) (Nat.mul_le_mul_left _ (Nat.pow_pos (by decide)))
theorem rQ:∀ l,(lp mask h (13+l)).1=yh l (lp mask h 13).1 % (mask+1)
 | 0=>(Nat.mod_eq_of_lt (Nat.lt_succ_of_le (Tw 13))).symm
 | l+1=>by
  show ((lp mask h (13+l)).1*5+1+(lp mask h (13+l)).2 / 32) % (mask+1)=_
  rw [Tz,rQ l,vO,Nat.zero_div,Nat.add_zero,Nat.add_mod,Nat.mod_mul_mod,<- Nat.add_mod,Nat.mul_comm]
theorem meets {k:Nat} (hk:mask+1=2^k) {e:Nat} (he:e<=mask):∃ n,n<=10*(mask+13)/\(st mask h n).j=e:=by
 obtain ⟨l,hl,hx⟩:=mY k (lp mask h 13).1 e (by omega)
 obtain ⟨N,hN,e1⟩:=sH (mask:=mask) (h:=h) (13+l)
 refine ⟨N,by omega,?_⟩
 rw [e1]
 show (lp mask h (13+l)).1=e
 rw [rQ,hk]
 exact hx
theorem oI:∀ n,(st mask h n).dummy=none
 | 0=>rfl
 | n+1=>by
  show (ug mask (st mask h n)).dummy=none
  unfold ug
  split<;>exact oI n
theorem m6:∀ n,(st mask h n).j+(st mask h n).more<=mask
 | 0=>(gC _).2 (Nat.le_of_lt_succ (Nat.mod_lt _ (Nat.succ_pos _)))
 | n+1=>by
  have ih:=m6 n
  show (ug mask (st mask h n)).j+(ug mask (st mask h n)).more<=mask
  unfold ug
  split
  ·simp only;omega
  ·exact (gC _).2 (Nat.le_of_lt_succ (Nat.mod_lt _ (Nat.succ_pos _)))
end
section
variable {xs:Array Nat}
def uh (xs:Array Nat):Prop:=∀ i k (h:i < k) (hk:k < xs.size),xs[i]'(Nat.lt_trans h hk) < xs[k]
theorem kO (dj:uh xs):∀ (fb lo hi:Nat),hi - lo<=fb->lo<=hi->hi<=xs.size->(∀ i (h:i < xs.size),i < lo->xs[i] < j)->(∀ i (h:i < xs.size),hi<=i->j<=xs[i])->
  below.go xs j fb lo hi<=xs.size/\(∀ i (h:i < xs.size),i < below.go xs j fb lo hi->xs[i] < j)/\(∀ i (h:i < xs.size),below.go xs j fb lo hi<=i->j<=xs[i])
 | 0,lo,hi,hf,hl,hs,h1,h2=>by
  have:lo=hi:=by omega
  subst this
  exact ⟨hs,h1,h2⟩
 | fb+1,lo,hi,hf,hl,hs,h1,h2=>by
  unfold below.go
  by_cases c:lo < hi
  ·rw [if_pos c]
   have hm:(lo+hi) / 2 < xs.size:=by omega
   have eg:xs.getD ((lo+hi) / 2) j=xs[(lo+hi) / 2]:=by simp [Array.getD,hm]
   simp only [eg]
   by_cases d:xs[(lo+hi) / 2] < j
   ·rw [if_pos d]
    refine kO dj fb _ _ (by omega) (by omega) hs (fun i h d_=>?_) h2
    by_cases q:i=(lo+hi) / 2
    ·subst q;exact d
    ·have:=dj i ((lo+hi) / 2) (by omega) hm;omega
   ·rw [if_neg d]
    refine kO dj fb _ _ (by omega) (by omega) (by omega) h1 (fun i h d_=>?_)
    by_cases q:i=(lo+hi) / 2
    ·subst q;omega
    ·have:=dj ((lo+hi) / 2) i (by omega) h;omega
  ·rw [if_neg c]
   have:lo=hi:=by omega
   subst this
   exact ⟨hs,h1,h2⟩
theorem dC (dj:uh xs):below xs j<=xs.size/\(∀ i (h:i < xs.size),i < below xs j->xs[i] < j)/\(∀ i (h:i < xs.size),below xs j<=i->j<=xs[i]):=
 kO dj xs.size 0 xs.size (by omega) (by omega) (by omega) (fun _ _ h=>absurd h (Nat.not_lt_zero _)) (fun i h hi=>absurd h (by omega))
theorem xS (dj:uh xs) (hi:i < xs.size):below xs xs[i]=i:=by
 obtain ⟨h1,h2,h3⟩:=dC (j:=xs[i]) dj
 by_cases c:i < below xs xs[i]
 ·exact absurd (h2 i hi c) (Nat.lt_irrefl _)
 ·by_cases d:below xs xs[i] < i
  ·have:=h3 (below xs xs[i]) (by omega) (Qy _)
   have:=dj (below xs xs[i]) i d hi
   omega
  ·omega
end
theorem gB (dj:uh t.place) (hi:i < t.place.size):t.slot t.place[i]=.live i:=by
 unfold slot
 rw [xS dj hi]
 simp [hi]
theorem uF (dj:uh t.place) (nd:t.dummies=#[]) (hj:∀ i (h:i < t.place.size),t.place[i]≠j):t.slot j=.empty:=by
 unfold slot
 have h1:(t.place[below t.place j]?==some j)=false:=by
  rw [beq_eq_false_iff_ne]
  intro e
  obtain ⟨h,e'⟩:=Array.getElem?_eq_some_iff.mp e
  exact hj _ h e'
 have h2:has t.dummies j=false:=by
  unfold has;rw [nd]
  simp
 simp only [h1,h2]
 rfl
def jv (t:SetTable) (j:Nat):Prop:=∃ i,∃ h:i < t.place.size,t.place[i]=j
structure lh (t:SetTable) (es:Array (Int×Value)):Prop where
 pw:∃ k,t.mask+1=2^k/\3<=k
 nd:t.dummies=#[]
 sz:t.place.size=es.size
 dj:uh t.place
 le:∀ i (h:i < t.place.size),t.place[i]<=t.mask
 room:es.size*5 < t.mask*3
 reach:∀ i (h:i < es.size) (h':i < t.place.size),∃ n,(st t.mask es[i].1 n).j=t.place[i]/\∀ m,m < n->jv t (st t.mask es[i].1 m).j
section
variable {h:Int}
theorem tL (dj:uh t.place):∀ j,(∀ j',j'<=j->jv t j')->∃ h:j < t.place.size,t.place[j]=j
 | 0,ha=>by
  obtain ⟨i,hi,e⟩:=ha 0 (Qy _)
  rcases Nat.eq_zero_or_pos i with rfl | hp
  ·exact ⟨hi,e⟩
  ·have:=dj 0 i hp hi;omega
 | j+1,ha=>by
  obtain ⟨hj,ej⟩:=tL dj j fun j' h=>ha j' (by omega)
  obtain ⟨i,hi,e⟩:=ha (j+1) (Qy _)
  have h1:j < i:=by
   rcases Nat.lt_trichotomy i j with c | c | c
   ·have:=dj i j c hj;omega
   ·subst c;omega
   ·exact c
  rcases Nat.lt_or_ge (j+1) i with c | c
  ·have:=dj j (j+1) (by omega) (by omega)
   have:=dj (j+1) i c hi
   omega
  ·have:i=j+1:=by omega
   subst this
   exact ⟨hi,e⟩
theorem lh.free (T:lh t es):∃ e,e<=t.mask/\¬jv t e:=by
 refine Classical.byContradiction fun c=>?_
 have:∀ j',j'<=t.mask->jv t j':=fun j' hj=>Classical.byContradiction fun q=>c ⟨j',hj,q⟩
 obtain ⟨hm,_⟩:=tL T.dj t.mask this
 have:=T.sz
 have:=T.room
 omega
theorem least {P:Nat->Prop}:∀ n,P n->∃ m,m<=n/\P m/\∀ k,k < m->¬P k:=by
 intro n
 induction n using Nat.strongRecOn with
 | _ n ih=>
  intro hn
  by_cases c:∃ k,k < n/\P k
  ·obtain ⟨k,hk,hp⟩:=c
   obtain ⟨m,h1,h2,h3⟩:=ih k hk hp
   exact ⟨m,by omega,h2,h3⟩
  ·exact ⟨n,Qy _,hn,fun k hk hp=>c ⟨k,hk,hp⟩⟩
structure FF (t:SetTable) (h:Int) (n0:Nat):Prop where
 free:¬jv t (st t.mask h n0).j
 full:∀ m,m < n0->jv t (st t.mask h m).j
 HQ:n0 < 10*turns t.mask
theorem lh.ff (T:lh t es) (h:Int):∃ n0,FF t h n0:=by
 obtain ⟨e,he,hf⟩:=T.free
 obtain ⟨k,hk,_⟩:=T.pw
 obtain ⟨n,hn,ej⟩:=meets (h:=h) hk he
 obtain ⟨m,h1,h2,h3⟩:=least (P:=fun n=>¬jv t (st t.mask h n).j) n (by rw [ej];exact hf)
 exact ⟨m,h2,fun k hk=>Classical.byContradiction (h3 k hk),by unfold turns;omega⟩
theorem jv.slot (dj:uh t.place) {j:Nat} (o:jv t j):∃ i,∃ h:i < t.place.size,t.place[i]=j/\t.slot j=.live i:=by
 obtain ⟨i,hi,rfl⟩:=o
 exact ⟨i,hi,rfl,gB dj hi⟩
theorem p9 {hashAt:Nat->Int} {n0:Nat} (dj:uh t.place) (nd:t.dummies=#[]) (F:FF t h n0):∀ (fb n:Nat),n<=n0->n0 - n < fb->
  (∃ m i,∃ hi:i < t.place.size,n<=m/\m < n0/\t.place[i]=(st t.mask h m).j/\hashAt i=h/\(∀ m',n<=m'->m' < m->∀ i' (d_:i' < t.place.size),t.place[i']=(st t.mask h m').j->hashAt i'≠h)/\probe.go t hashAt h fb (st t.mask h n)=some (.candidate (st t.mask h m).j i (st t.mask h (m+1))))\/
  ((∀ m',n<=m'->m' < n0->∀ i' (d_:i' < t.place.size),t.place[i']=(st t.mask h m').j->hashAt i'≠h)/\probe.go t hashAt h fb (st t.mask h n)=some (.empty (st t.mask h n0).j none))
 | 0,n,_,hf=>absurd hf (Nat.not_lt_zero _)
 | fb+1,n,hn,hf=>by
  rcases Nat.lt_or_ge n n0 with c | c
  ·obtain ⟨i,hi,ei,es⟩:=(F.full n c).slot dj
   unfold probe.go
   rw [es]
   dsimp only
   by_cases d:hashAt i=h
   ·rw [if_pos (by simpa using d)]
    exact .inl ⟨n,i,hi,Qy _,c,ei,d,fun m' h1 h2=>absurd h1 (by omega),rfl⟩
   ·rw [if_neg (by simpa using d)]
    have Lx:∀ m',n<=m'->n+1<=m'\/m'=n:=fun m' _=>by omega
    have un:∀ i' (d_:i' < t.place.size),t.place[i']=(st t.mask h n).j->hashAt i'≠h:=fun i' d_ e'=>by
     have:i'=i:=by
      have:=gB dj d_
      rw [e',es] at this
      injection this with this
      exact this.symm
     subst this;exact d
    rcases p9 dj nd F fb (n+1) c (by omega) with ⟨m,i',d_,h1,h2,h3,h4,h5,h6⟩ | ⟨h1,h2⟩
    ·refine .inl ⟨m,i',d_,by omega,h2,h3,h4,fun m' q1 q2=>?_,h6⟩
     rcases Lx m' q1 with q | q
     ·exact h5 m' q q2
     ·rw [q];exact un
    ·refine .inr ⟨fun m' q1 q2=>?_,h2⟩
     rcases Lx m' q1 with q | q
     ·exact h1 m' q q2
     ·rw [q];exact un
  ·have:n=n0:=by omega
   subst this
   unfold probe.go
   rw [uF dj nd fun i hi e=>F.free ⟨i,hi,e⟩]
   dsimp only
   rw [oI]
   exact .inr ⟨fun m' h1 h2=>absurd h1 (by omega),rfl⟩
theorem lh.met {n0:Nat} (T:lh t es) (F:FF t h n0) (hi:i < es.size) (d_:i < t.place.size) (eh:es[i].1=h):∃ m,m < n0/\(st t.mask h m).j=t.place[i]:=by
 obtain ⟨n,e1,e2⟩:=T.reach i hi d_
 rw [eh] at e1 e2
 refine ⟨n,?_,e1⟩
 rcases Nat.lt_or_ge n n0 with c | c
 ·exact c
 ·rcases Nat.lt_or_ge n0 n with d | d
  ·exact absurd (e2 n0 d) F.free
  ·have:n=n0:=by omega
   subst this
   exact absurd ⟨i,d_,e1.symm⟩ F.free
end
section
variable {xs:Array α} {p:Nat} {x:α}
theorem cU (hp:p<=xs.size):(insertAt xs p x).toList=xs.toList.take p++x::xs.toList.drop p:=by
 unfold insertAt
 simp [Array.toList_extract,List.take_of_length_le]
theorem aZ (hp:p<=xs.size):(insertAt xs p x).size=xs.size+1:=by
 rw [<- Array.length_toList,cU hp]
 simp;omega
theorem bJ (hp:p<=xs.size) (i:Nat) (hi:i < (insertAt xs p x).size):(insertAt xs p x)[i]=if h:i < p then xs[i]'(by omega) else if h2:i=p then x else xs[i - 1]'(by rw [aZ hp] at hi;omega):=by
 have hs:=aZ (x:=x) hp
 have e:(insertAt xs p x)[i]=(insertAt xs p x).toList[i]'(by simpa using hi):=by simp
 rw [e]
 simp only [cU hp]
 have hl:(xs.toList.take p).length=p:=by simp;omega
 by_cases h:i < p
 ·rw [dif_pos h,Qe (by omega)]
  simp
 ·rw [dif_neg h,Qf (by omega)]
  by_cases h2:i=p
  ·rw [dif_pos h2]
   have z:∀ (l:List α) (k:Nat) (hk:k < (x::l).length),k=0->(x::l)[k]=x:=fun l k hk e=>by subst e;rfl
   exact z _ _ _ (by omega)
  ·rw [dif_neg h2]
   obtain ⟨k,hk⟩:∃ k,i - (xs.toList.take p).length=k+1:=⟨i - p - 1,by omega⟩
   simp only [hk,List.getElem_cons_succ,List.getElem_drop]
   have:p+k=i - 1:=by omega
   simp [this]
end
theorem zS (j:Nat):has #[] j=false:=by
 unfold has;simp
section
variable {h:Int} {x:Value} {n0:Nat}
theorem lB (nd:t.dummies=#[]) (j:Nat):t.put j=({t with place:=insertAt t.place (below t.place j) j},below t.place j):=by
 unfold put
 rw [nd,zS]
 simp only [Bool.false_eq_true,if_false]
theorem TF (T:lh t es) (j:Nat) {j':Nat}:jv (t.put j).1 j'↔j'=j\/jv t j':=by
 rw [lB T.nd]
 have hp:=(dC (j:=j) T.dj).1
 generalize below t.place j=p at hp
 constructor
 ·rintro ⟨i,hi,e⟩
  have d_:i < (insertAt t.place p j).size:=hi
  have e':(insertAt t.place p j)[i]=j':=e
  rw [bJ hp] at e'
  split at e'
  ·exact .inr ⟨_,_,e'⟩
  ·split at e'
   ·exact .inl e'.symm
   ·exact .inr ⟨_,_,e'⟩
 ·rintro (rfl | ⟨i,hi,rfl⟩)
  ·refine ⟨p,(by show p < (insertAt t.place p j').size;rw [aZ hp];omega),?_⟩
   show (insertAt t.place p j')[p]'_=j'
   rw [bJ hp];simp
  ·by_cases c:i < p
   ·refine ⟨i,(by show i < (insertAt t.place p j).size;rw [aZ hp];omega),?_⟩
    show (insertAt t.place p j)[i]'_=_
    rw [bJ hp,dif_pos c]
   ·refine ⟨i+1,(by show i+1 < (insertAt t.place p j).size;rw [aZ hp];omega),?_⟩
    show (insertAt t.place p j)[i+1]'_=_
    rw [bJ hp,dif_neg (by omega),dif_neg (by omega)]
    simp
theorem zN (T:lh t es) (hj:¬jv t j):uh (t.put j).1.place:=by
 rw [lB T.nd]
 obtain ⟨hp,h2,h3⟩:=dC (j:=j) T.dj
 generalize below t.place j=p at hp h2 h3
 intro i k wg hk
 have hk':k < (insertAt t.place p j).size:=hk
 have hs:=aZ (x:=j) hp
 show (insertAt t.place p j)[i]'_ < (insertAt t.place p j)[k]
 rw [bJ hp,bJ hp]
 by_cases c:k < p
 ·rw [dif_pos c,dif_pos (by omega)];exact T.dj i k wg (by omega)
 ·rw [dif_neg c]
  by_cases d:k=p
  ·rw [dif_pos d,dif_pos (by omega)]
   exact h2 i (by omega) (by omega)
  ·rw [dif_neg d]
   by_cases a:i < p
   ·rw [dif_pos a];exact T.dj i (k - 1) (by omega) (by omega)
   ·rw [dif_neg a]
    by_cases b:i=p
    ·rw [dif_pos b]
     have:=h3 (k - 1) (by omega) (by omega)
     have ne:t.place[k - 1]'(by omega)≠j:=fun e=>hj ⟨k - 1,by omega,e⟩
     omega
    ·rw [dif_neg b];exact T.dj (i - 1) (k - 1) (by omega) (by omega)
abbrev jw (t:SetTable) (j:Nat):SetTable:={t with place:=insertAt t.place (below t.place j) j}
theorem lh.put (T:lh t es) (F:FF t h n0) (hr:(es.size+1)*5 < t.mask*3):lh (jw t (st t.mask h n0).j) (insertAt es (below t.place (st t.mask h n0).j) (h,x)):=by
 have Fy:∀ j',jv (jw t (st t.mask h n0).j) j'↔j'=(st t.mask h n0).j\/jv t j':=fun j'=>by have:=TF T (st t.mask h n0).j (j':=j');rw [lB T.nd] at this;exact this
 have HR:uh (jw t (st t.mask h n0).j).place:=by have:=zN T F.free;rw [lB T.nd] at this;exact this
 have hsz:=T.sz
 have hp:=(dC (j:=(st t.mask h n0).j) T.dj).1
 have TJ:(st t.mask h n0).j<=t.mask:=by have:=m6 (mask:=t.mask) (h:=h) n0;omega
 have grow:∀ {j'},jv t j'->jv (jw t (st t.mask h n0).j) j':=fun o=>(Fy _).mpr (.inr o)
 have TL:∀ i (h':i < (jw t (st t.mask h n0).j).place.size),(jw t (st t.mask h n0).j).place[i]<=t.mask:=fun i hi=>by
  rcases (Fy _).mp ⟨i,hi,rfl⟩ with e | ⟨i',d_,e⟩
  ·rw [e];exact TJ
  ·rw [<- e];exact T.le i' d_
 have E9:below t.place (st t.mask h n0).j<=es.size:=by omega
 have s1:=aZ (x:=(h,x)) E9
 have s2:(jw t (st t.mask h n0).j).place.size=t.place.size+1:=aZ hp
 refine ⟨T.pw,T.nd,by omega,HR,TL,by rw [s1];exact hr,fun i h1 h2=>?_⟩
 have e2:(jw t (st t.mask h n0).j).place[i]=(insertAt t.place (below t.place (st t.mask h n0).j) (st t.mask h n0).j)[i]:=rfl
 rw [e2]
 generalize jv (jw t (st t.mask h n0).j)=O at grow
 show ∃ n,(st t.mask (insertAt es (below t.place (st t.mask h n0).j) (h,x))[i].1 n).j=_/\∀ m,m < n->O (st t.mask (insertAt es (below t.place (st t.mask h n0).j) (h,x))[i].1 m).j
 simp only [bJ hp,bJ E9]
 by_cases c:i < below t.place (st t.mask h n0).j
 ·simp only [dif_pos c]
  obtain ⟨n,e1,e2⟩:=T.reach i (by omega) (by omega)
  exact ⟨n,e1,fun m hm=>grow (e2 m hm)⟩
 ·simp only [dif_neg c]
  by_cases d:i=below t.place (st t.mask h n0).j
  ·simp only [dif_pos d]
   exact ⟨n0,rfl,fun m hm=>grow (F.full m hm)⟩
  ·simp only [dif_neg d]
   obtain ⟨n,e1,e2⟩:=T.reach (i - 1) (by omega) (by omega)
   exact ⟨n,e1,fun m hm=>grow (e2 m hm)⟩
end
theorem gG:∀ {l m:List Nat},l.Nodup->(∀ x∈l,x∈m)->l.length<=m.length
 | [],m,_,_=>Nat.zero_le _
 | a::l,m,nd,hs=>by
  obtain ⟨h1,h2⟩:=List.nodup_cons.mp nd
  have hm:=hs a (List.mem_cons_self ..)
  have:l.length<=(m.erase a).length:=gG h2 fun x hx=>(List.mem_erase_of_ne (show x≠a from fun e=>h1 (by rw [<- e];exact hx))).mpr (hs x (Qh _ hx))
  rw [List.length_erase_of_mem hm] at this
  have:=List.length_pos_of_mem hm
  simp only [List.length_cons];omega
def Ow (owner:Array (Option Nat)) (j:Nat):Prop:=(owner.getD j (some 0)).isNone=false
structure um (mask:Nat) (owner:Array (Option Nat)) (hs:List Int):Prop where
 sz:owner.size=mask+1
 lt:∀ j k:Nat,owner[j]? =some (some k)->k < hs.length
 inj:∀ j j' k:Nat,owner[j]? =some (some k)->owner[j']? =some (some k)->j=j'
 reach:∀ k (h:k < hs.length),∃ n,owner[(st mask hs[k] n).j]? =some (some k)/\∀ m,m < n->Ow owner (st mask hs[k] m).j
section
variable {mask:Nat} {owner:Array (Option Nat)} {hs:List Int} {h:Int}
theorem rA (hz:owner.size=mask+1) (hj:j<=mask):Ow owner j↔∃ k,owner[j]? =some (some k):=by
 have sr:j < owner.size:=by omega
 unfold Ow
 have e:owner.getD j (some 0)=owner[j]:=by simp [Array.getD,sr]
 rw [e,Array.getElem?_eq_getElem sr]
 cases owner[j] with
 | none=>simp
 | some k=>simp
theorem um.TM (I:um mask owner hs) (hl:hs.length<=mask):∃ e,e<=mask/\¬Ow owner e:=by
 refine Classical.byContradiction fun c=>?_
 have ha:∀ j,j<=mask->∃ k,owner[j]? =some (some k):=fun j hj=>(rA I.sz hj).mp (Classical.byContradiction fun q=>c ⟨j,hj,q⟩)
 have hk:∀ j,∃ k,j<=mask->owner[j]? =some (some k):=fun j=>by
  by_cases q:j<=mask
  ·obtain ⟨k,e⟩:=ha j q;exact ⟨k,fun _=>e⟩
  ·exact ⟨0,fun z=>absurd z q⟩
 let f:=fun j=>Classical.choose (hk j)
 have hf:∀ j,j<=mask->owner[j]? =some (some (f j)):=fun j=>Classical.choose_spec (hk j)
 have nd:((List.range (mask+1)).map f).Nodup:=by
  refine List.Pairwise.map f (R:=fun a b=>a < b/\b<=mask) (S:=(· ≠·)) (fun a b se e=>?_) ?_
  ·have:=I.inj a b (f a) (hf a (by omega)) (by rw [e];exact hf b se.2)
   omega
  ·rw [List.pairwise_iff_getElem]
   intro i k hi hk wg
   simp at hi hk ⊢
   omega
 have:=gG nd (m:=List.range hs.length) fun x hx=>by
  obtain ⟨j,hj,rfl⟩:=List.mem_map.mp hx
  have:j<=mask:=by have:=List.mem_range.mp hj;omega
  exact List.mem_range.mpr (I.lt j _ (hf j this))
 simp at this
 omega
theorem tP (hz:owner.size=mask+1) {lm:Nat} (Ly:¬Ow owner (lp mask h lm).1):∀ (fb l N:Nat),lm - l < fb->l<=lm->st mask h N=DS mask (lp mask h l)->(∀ m,m < N->Ow owner (st mask h m).j)->
  ∃ n,layClean.free mask owner fb (lp mask h l).1 (lp mask h l).2=some (st mask h n).j/\¬Ow owner (st mask h n).j/\∀ m,m < n->Ow owner (st mask h m).j
 | 0,l,N,hf,_,_,_=>absurd hf (Nat.not_lt_zero _)
 | fb+1,l,N,hf,hl,eN,ho=>by
  have hr:=gC (mask:=mask) (lp mask h l).1
  have DT:=qH eN
  have er:runEnd mask (lp mask h l).1+1 - (lp mask h l).1=(runEnd mask (lp mask h l).1 - (lp mask h l).1)+1:=by
   unfold runEnd;split<;>omega
  unfold layClean.free
  cases Fz:(List.range (runEnd mask (lp mask h l).1+1 - (lp mask h l).1)).find? (fun k=>(owner.getD ((lp mask h l).1+k) (some 0)).isNone) with
  | some k=>
   have TN:=List.find?_some Fz
   have Co:=List.mem_of_find?_eq_some Fz
   have Lz:k<=runEnd mask (lp mask h l).1 - (lp mask h l).1:=by have:=List.mem_range.mp Co;omega
   have bc:∀ k',k' < k->Ow owner ((lp mask h l).1+k'):=fun k' hk'=>by
    obtain ⟨_,as,bs,e1,e2⟩:=List.find?_eq_some_iff_append.mp Fz
    have fg:as.length=k:=by
     have e3:(List.range (runEnd mask (lp mask h l).1+1 - (lp mask h l).1))[as.length]? =some k:=by rw [e1];simp
     have e4:=(List.getElem?_eq_some_iff.mp e3)
     obtain ⟨q1,q2⟩:=e4
     simpa using q2
    have i_:k'∈as:=by
     have e3:(List.range (runEnd mask (lp mask h l).1+1 - (lp mask h l).1))[k']? =some k':=by
      rw [List.getElem?_range];have:=List.mem_range.mp Co;omega
     rw [e1,Qg (by omega)] at e3
     exact QC e3
    have:=e2 k' i_
    simpa [Ow] using this
   refine ⟨N+k,by rw [DT k Lz],?_,fun m hm=>?_⟩
   ·rw [DT k Lz]
    show ¬Ow owner ((lp mask h l).1+k)
    unfold Ow
    have:(owner.getD ((lp mask h l).1+k) (some 0)).isNone=true:=TN
    rw [this];simp
   ·rcases Nat.lt_or_ge m N with c | c
    ·exact ho m c
    ·obtain ⟨k',rfl⟩:∃ k',m=N+k':=⟨m - N,by omega⟩
     rw [DT k' (by omega)]
     exact bc k' (by omega)
  | none=>
   have rh:∀ k',k'<=runEnd mask (lp mask h l).1 - (lp mask h l).1->Ow owner ((lp mask h l).1+k'):=fun k' hk'=>by
    have:=List.find?_eq_none.mp Fz k' (List.mem_range.mpr (by omega))
    exact Bool.eq_false_iff.mpr this
   have jt:l≠lm:=fun e=>by subst e;exact Ly (by simpa using rh 0 (Nat.zero_le _))
   dsimp only
   have TQ:st mask h (N+(runEnd mask (lp mask h l).1 - (lp mask h l).1)+1)=DS mask (lp mask h (l+1)):=by
    show ug mask (st mask h (N+(runEnd mask (lp mask h l).1 - (lp mask h l).1)))=_
    rw [DT _ (Qy _)]
    unfold ug
    rw [if_neg (by simp)]
    rfl
   refine tP hz Ly fb (l+1) _ (by omega) (by omega) TQ fun m hm=>?_
   rcases Nat.lt_or_ge m N with c | c
   ·exact ho m c
   ·obtain ⟨k',rfl⟩:∃ k',m=N+k':=⟨m - N,by omega⟩
    rw [DT k' (by omega)]
    exact rh k' (by omega)
theorem uN {k:Nat} (hk:mask+1=2^k) (I:um mask owner hs) (hl:hs.length<=mask) (h:Int):∃ n,layClean.free mask owner (turns mask) (bits h % (mask+1)) (bits h)=some (st mask h n).j/\¬Ow owner (st mask h n).j/\∀ m,m < n->Ow owner (st mask h m).j:=by
 obtain ⟨e,he,hf⟩:=I.TM hl
 obtain ⟨l,Cp,hx⟩:=mY k (lp mask h 13).1 e (by omega)
 have e1:(lp mask h (13+l)).1=e:=by rw [rQ,hk];exact hx
 exact tP (h:=h) I.sz (lm:=13+l) (by rw [e1];exact hf) (turns mask) 0 0 (by unfold turns;omega) (Nat.zero_le _) rfl fun m hm=>absurd hm (Nat.not_lt_zero _)
theorem um.more (I:um mask owner hs) (hn:¬Ow owner (st mask h n).j) (ho:∀ m,m < n->Ow owner (st mask h m).j):um mask (owner.setIfInBounds (st mask h n).j (some hs.length)) (hs++[h]):=by
 have hj:(st mask h n).j<=mask:=by have:=m6 (mask:=mask) (h:=h) n;omega
 have TR:(st mask h n).j < owner.size:=by rw [I.sz];omega
 have get:∀ j:Nat,(owner.setIfInBounds (st mask h n).j (some hs.length))[j]? =if (st mask h n).j=j then some (some hs.length) else owner[j]?:=fun j=>by
  rw [Array.getElem?_setIfInBounds]
  by_cases c:(st mask h n).j=j
  ·subst c;simp [TR]
  ·simp [c]
 have keep:∀ j k:Nat,owner[j]? =some (some k)->(owner.setIfInBounds (st mask h n).j (some hs.length))[j]? =some (some k):=fun j k e=>by
  rw [get,if_neg];exact e
  intro c;subst c
  exact hn ((rA I.sz hj).mpr ⟨k,e⟩)
 have LA:∀ j,Ow owner j->Ow (owner.setIfInBounds (st mask h n).j (some hs.length)) j:=fun j o=>by
  unfold Ow at o ⊢
  rw [Array.getD_eq_getD_getElem?] at o ⊢
  rw [get]
  split
  ·rfl
  ·exact o
 refine ⟨by simp [I.sz],fun j k e=>?_,fun j j' k e e'=>?_,fun k hk=>?_⟩
 ·rw [get] at e
  split at e
  ·cases e;simp
  ·have:=I.lt j k e;simp;omega
 ·rw [get] at e e'
  split at e<;>split at e'
  ·omega
  ·cases e;exact absurd (I.lt j' _ e') (Nat.lt_irrefl _)
  ·cases e';exact absurd (I.lt j _ e) (Nat.lt_irrefl _)
  ·exact I.inj j j' k e e'
 ·rcases Nat.lt_or_ge k hs.length with c | c
  ·obtain ⟨n',e1,e2⟩:=I.reach k c
   rw [Qe c]
   exact ⟨n',keep _ _ e1,fun m hm=>LA _ (e2 m hm)⟩
  ·have:k=hs.length:=by simp at hk;omega
   subst this
   rw [Qf (Qy _)]
   simp only [Nat.sub_self,List.getElem_cons_zero]
   exact ⟨n,by rw [get,if_pos rfl],fun m hm=>LA _ (ho m hm)⟩
theorem pG {k:Nat} (hk:mask+1=2^k):∀ (rest hs:List Int) (owner:Array (Option Nat)),um mask owner hs->hs.length+rest.length<=mask->
  ∃ FA,rest.foldl (fun acc h=>do
   let (owner,k) <- acc
   let j <- layClean.free mask owner (turns mask) (bits h % (mask+1)) (bits h)
   pure (owner.setIfInBounds j (some k),k+1)) (some (owner,hs.length))=some (FA,(hs++rest).length)/\um mask FA (hs++rest)
 | [],hs,owner,I,_=>⟨owner,by simp,by simpa using I⟩
 | h::rest,hs,owner,I,hl=>by
  obtain ⟨n,e1,e2,e3⟩:=uN hk I (by omega) h
  have I':=I.more e2 e3
  obtain ⟨FA,f1,f2⟩:=pG hk rest (hs++[h]) _ I' (by simp at hl ⊢;omega)
  refine ⟨FA,?_,by simpa using f2⟩
  rw [List.foldl_cons]
  simp only [Qk,List.length_cons,List.length_nil,List.append_assoc,List.cons_append,List.nil_append] at f1 ⊢
  rw [<- f1]
  congr 1
  show (do let j <- layClean.free mask owner (turns mask) (bits h % (mask+1)) (bits h);pure (owner.setIfInBounds j (some hs.length),hs.length+1))=_
  rw [e1]
  rfl
theorem lI {k:Nat} (hk:mask+1=2^k) (hashes:Array Int) (hl:hashes.size<=mask):∃ owner,layClean mask hashes=some owner/\um mask owner hashes.toList:=by
 have I0:um mask (Array.replicate (mask+1) none) []:=⟨by simp,fun j k e=>by simp [Array.getElem?_replicate] at e,fun j j' k e=>by simp [Array.getElem?_replicate] at e,fun k h=>absurd h (by simp)⟩
 obtain ⟨owner,e1,e2⟩:=pG hk hashes.toList [] _ I0 (by simpa using hl)
 refine ⟨owner,?_,by simpa using e2⟩
 unfold layClean
 rw [<- Array.foldl_toList]
 have LB:=e1
 simp only [List.length_nil,List.nil_append] at LB
 rw [LB]
 rfl
end
def f_ (mask:Nat) (owner:Array (Option Nat)):List (Nat×Nat):=(List.range (mask+1)).filterMap fun j=>(owner.getD j none).map (j,·)
section
variable {mask:Nat} {owner:Array (Option Nat)} {hs:List Int}
theorem cM (hz:owner.size=mask+1) {p:Nat×Nat}:p∈f_ mask owner↔p.1<=mask/\owner[p.1]? =some (some p.2):=by
 unfold f_
 rw [List.mem_filterMap]
 constructor
 ·rintro ⟨j,hj,e⟩
  have sr:j < owner.size:=by have:=List.mem_range.mp hj;omega
  have eg:owner.getD j none=owner[j]:=by simp [Array.getD,sr]
  rw [eg] at e
  cases hx:owner[j] with
  | none=>rw [hx] at e;cases e
  | some k=>
   rw [hx] at e
   cases e
   exact ⟨by show j<=mask;omega,by show owner[j]? =_;rw [Array.getElem?_eq_getElem sr,hx]⟩
 ·rintro ⟨h1,h2⟩
  obtain ⟨h3,h4⟩:=Array.getElem?_eq_some_iff.mp h2
  refine ⟨p.1,List.mem_range.mpr (by omega),?_⟩
  have eg:owner.getD p.1 none=owner[p.1]:=by simp [Array.getD,h3]
  rw [eg,h4];rfl
theorem xV {f:Nat->Option Nat}:∀ l:List Nat,l.Pairwise (· < ·)->((l.filterMap fun j=>(f j).map (j,·)).map (·.1)).Pairwise (· < ·)/\∀ x∈(l.filterMap fun j=>(f j).map (j,·)).map (·.1),x∈l
 | [],_=>⟨.nil,fun _ h=>nomatch h⟩
 | a::l,h=>by
  obtain ⟨h1,h2⟩:=List.pairwise_cons.mp h
  obtain ⟨i1,i2⟩:=xV (f:=f) l h2
  cases e:f a with
  | none=>
   simp only [List.filterMap_cons,e,Option.map_none]
   exact ⟨i1,fun x hx=>Qh _ (i2 x hx)⟩
  | some k=>
   simp only [List.filterMap_cons,e,Option.map_some,List.map_cons]
   refine ⟨List.pairwise_cons.mpr ⟨fun x hx=>h1 x (i2 x hx),i1⟩,fun x hx=>?_⟩
   rcases Qp.mp hx with rfl | hx
   ·exact List.mem_cons_self ..
   ·exact Qh _ (i2 x hx)
theorem oU:((f_ mask owner).map (·.1)).Pairwise (· < ·):=(xV (f:=fun j=>owner.getD j none) _ List.pairwise_lt_range).1
theorem um.len (I:um mask owner hs):(f_ mask owner).length=hs.length:=by
 have nd:((f_ mask owner).map (·.2)).Nodup:=by
  have h1:=oU (mask:=mask) (owner:=owner)
  rw [List.pairwise_map] at h1
  refine List.pairwise_map.mpr (h1.imp_of_mem fun {a b} ha hb se e=>?_)
  have:=I.inj a.1 b.1 a.2 ((cM I.sz).mp ha).2 (by rw [e];exact ((cM I.sz).mp hb).2)
  omega
 have l1:=gG nd (m:=List.range hs.length) fun x hx=>by
  obtain ⟨p,hp,rfl⟩:=List.mem_map.mp hx
  exact List.mem_range.mpr (I.lt _ _ ((cM I.sz).mp hp).2)
 have l2:=gG (l:=List.range hs.length) (m:=(f_ mask owner).map (·.2)) List.nodup_range fun x hx=>by
  have A4:=List.mem_range.mp hx
  obtain ⟨n,e1,_⟩:=I.reach x A4
  have hj:(st mask hs[x] n).j<=mask:=by have:=m6 (mask:=mask) (h:=hs[x]) n;omega
  exact List.mem_map.mpr ⟨((st mask hs[x] n).j,x),(cM I.sz).mpr ⟨hj,e1⟩,rfl⟩
 simp at l1 l2
 omega
end
theorem TU {l : List Nat} (h : l.Pairwise (· < ·)) : uh l.toArray := fun i k wg hk => by
  have := List.pairwise_iff_getElem.mp h i k (by have : k < l.length := by simpa using hk
                                                 omega) (by simpa using hk) wg
  simpa using this
theorem wL {es:Array (Int×Value)}:∀ {L:List (Nat×Nat)},(∀ p∈L,p.2 < es.size)->(L.map (·.2)).filterMap (es[·]?)=L.map fun p=>es.getD p.2 (0,.none)
 | [],_=>rfl
 | p::L,h=>by
  have hp:=h p (List.mem_cons_self ..)
  simp only [List.map_cons,List.filterMap_cons,Array.getElem?_eq_getElem hp]
  rw [wL fun q hq=>h q (Qh _ hq)]
  congr 1
  simp [Array.getD,hp]
theorem uT {mask k finger moves:Nat} {led plain:Bool} (hk:mask+1=2^k) (k3:3<=k) (room:es.size*5 < mask*3):∃ t' order,laid mask finger moves led plain (es.map (·.1))=some (t',order)/\
  lh t' (order.filterMap (es[·]?))/\(∀ e,e∈(order.filterMap (es[·]?)).toList↔e∈es.toList)/\(order.filterMap (es[·]?)).size=es.size/\t'.mask=mask:=by
 obtain ⟨owner,e1,I⟩:=lI hk (es.map (·.1)) (by simp;omega)
 have fg:=I.len
 simp only [Array.toList_map,Ql,Array.length_toList] at fg
 have bc:∀ p∈f_ mask owner,p.2 < es.size:=fun p hp=>by
  have:=I.lt _ _ ((cM I.sz).mp hp).2
  simpa using this
 have HS:(((f_ mask owner).map (·.2)).toArray.filterMap (es[·]?)).toList=(f_ mask owner).map fun p=>es.getD p.2 (0,.none):=by
  rw [Array.toList_filterMap]
  exact wL bc
 have hsz:(((f_ mask owner).map (·.2)).toArray.filterMap (es[·]?)).size=es.size:=by
  rw [<- Array.length_toList,HS,Ql,fg]
 have Fy:∀ j,jv ({mask,place:=((f_ mask owner).map (·.1)).toArray,dummies:=#[],finger,led,moves,plain}:SetTable) j↔∃ k,(j,k)∈f_ mask owner:=fun j=>by
  constructor
  ·rintro ⟨i,hi,e⟩
   have d_:i < (f_ mask owner).length:=by simpa using hi
   have e':(f_ mask owner)[i].1=j:=by simpa using e
   exact ⟨(f_ mask owner)[i].2,by rw [<- e'];exact Qj d_⟩
  ·rintro ⟨k,hm⟩
   obtain ⟨i,hi,e⟩:=Qi hm
   refine ⟨i,by simpa using hi,?_⟩
   have:(f_ mask owner)[i].1=j:=by rw [e]
   simpa using this
 refine ⟨{mask,place:=((f_ mask owner).map (·.1)).toArray,dummies:=#[],finger,led,moves,plain},((f_ mask owner).map (·.2)).toArray,?_,⟨⟨k,hk,k3⟩,rfl,?_,TU oU,fun i hi=>?_,?_,fun i h1 h2=>?_⟩,fun e=>?_,hsz,rfl⟩
 ·unfold laid
  rw [e1]
  rfl
 ·show ((f_ mask owner).map (·.1)).toArray.size=_
  rw [hsz];simpa using fg
 ·have d_:i < (f_ mask owner).length:=by simpa using hi
  have:=((cM I.sz).mp (Qj d_)).1
  simpa using this
 ·rw [hsz];exact room
 ·have d_:i < (f_ mask owner).length:=by simpa using h2
  have hm:=Qj d_
  have hp:=bc _ hm
  have ee:(((f_ mask owner).map (·.2)).toArray.filterMap (es[·]?))[i]=es[(f_ mask owner)[i].2]:=by
   have:(((f_ mask owner).map (·.2)).toArray.filterMap (es[·]?))[i]=(((f_ mask owner).map (·.2)).toArray.filterMap (es[·]?)).toList[i]'(by simpa using h1):=by simp
   rw [this]
   simp only [HS,Qr]
   simp [Array.getD,hp]
  obtain ⟨n,q1,q2⟩:=I.reach (f_ mask owner)[i].2 (by simpa using hp)
  have eh:(es.map (·.1)).toList[(f_ mask owner)[i].2]'(by simpa using hp)=es[(f_ mask owner)[i].2].1:=by simp
  rw [eh] at q1 q2
  rw [ee]
  refine ⟨n,?_,fun m LC=>?_⟩
  ·have:=I.inj _ _ _ q1 ((cM I.sz).mp hm).2
   simpa using this
  ·have hj:(st mask es[(f_ mask owner)[i].2].1 m).j<=mask:=by have:=m6 (mask:=mask) (h:=es[(f_ mask owner)[i].2].1) m;omega
   obtain ⟨k',hk'⟩:=(rA I.sz hj).mp (q2 m LC)
   exact (Fy _).mpr ⟨k',(cM I.sz).mpr ⟨hj,hk'⟩⟩
 ·rw [HS]
  constructor
  ·intro he
   obtain ⟨p,hp,rfl⟩:=List.mem_map.mp he
   have:=bc p hp
   simp [Array.getD,this]
  ·intro he
   obtain ⟨x,hx,rfl⟩:=Qi he
   have A4:x < es.size:=by simpa using hx
   obtain ⟨n,q1,_⟩:=I.reach x (by simpa using A4)
   have eh:(es.map (·.1)).toList[x]'(by simpa using A4)=es[x].1:=by simp
   rw [eh] at q1
   have hj:(st mask es[x].1 n).j<=mask:=by have:=m6 (mask:=mask) (h:=es[x].1) n;omega
   refine List.mem_map.mpr ⟨((st mask es[x].1 n).j,x),(cM I.sz).mpr ⟨hj,q1⟩,?_⟩
   simp [Array.getD,A4]
theorem iC:∀ (fb k n:Nat),n < 2^(k+fb)->∃ k',k<=k'/\sizeAbove.go n fb (2^k)=2^k'/\n < 2^k'
 | 0,k,n,h=>⟨k,Qy _,rfl,by simpa using h⟩
 | fb+1,k,n,h=>by
  unfold sizeAbove.go
  by_cases c:2^k<=n
  ·rw [if_pos c,show 2^k*2=2^(k+1) by rw [Nat.pow_succ]]
   obtain ⟨k',h1,h2,h3⟩:=iC fb (k+1) n (by rw [show k+1+fb=k+(fb+1) by omega];exact h)
   exact ⟨k',by omega,h2,h3⟩
  ·rw [if_neg c]
   exact ⟨k,Qy _,rfl,by omega⟩
theorem i6:∀ (fb size n:Nat),size<=2*n+8->sizeAbove.go n fb size<=2*n+8
 | 0,size,n,h=>h
 | fb+1,size,n,h=>by
  unfold sizeAbove.go
  by_cases c:size<=n
  ·rw [if_pos c];exact i6 fb _ n (by omega)
  ·rw [if_neg c];exact h
theorem kK (h:n < 2^60):∃ k,3<=k/\sizeAbove n=2^k/\n < 2^k/\sizeAbove n<=2*n+8:=by
 obtain ⟨k,h1,h2,h3⟩:=iC 64 3 n (Nat.lt_of_lt_of_le h (Nat.pow_le_pow_right (by decide) (by decide)))
 exact ⟨k,h1,h2,h3,i6 64 8 n (by omega)⟩
section
variable {K:Type} [DecidableEq K] {knd:KeyKind prog w K}
theorem qN (n:Nat) {v:Value} (h:carriedByValue v=true):ofAClassStatement n v=pure false:=by
 cases v<;>first | (cases n<;>rfl) | (unfold ofAClassStatement;rfl) | (cases h;done)
theorem sZ {ks:List K} {Q:Bool->Shared->Prop} (hk:IsTupleKey knd s.heap ks a) (h:Q false s):wpAny (model prog w) A (ofAClassStatement 8 (.ref a)) Q E s:=by
 have hT:=hk.typeIs
 obtain ⟨o,items,n,ho,_,hd,hi⟩:=hk
 unfold ofAClassStatement
 refine QT (wpAny_typeOf hT ?_)
 refine QT (QU ?_)
 dsimp only
 refine QT (wpAny_seqItems ho hd ?_)
 refine QT ?_
 show wpAny _ _ (forIn items _ _) _ _ s
 rw [<- Array.forIn_toList]
 refine wpAny_forIn_list _ (fun rest r s'=>r.1=none/\s'=s/\∀ v∈rest,carriedByValue v=true) _ ?_ ?_ _ _ ⟨rfl,rfl,hi.byValue⟩
 ·rintro v rest r s' ⟨hr,rfl,rh⟩
  rw [qN _ (rh v List.mem_cons_self)]
  refine QT (QU ?_)
  exact QU ⟨rfl,rfl,fun u HU=>rh u (Qh _ HU)⟩
 ·rintro ⟨r1,r2⟩ s' ⟨hr,rfl,_⟩
  simp only at hr
  subst hr
  exact QU h
theorem l8 {ks:List K} {stored:List Value} {Q:Bool->Shared->Prop} (hk:IsTupleKey knd s.heap ks b) (yy:∀ y∈stored,∃ yi b',y=.ref b'/\IsTupleKey knd s.heap yi b') (h:Q false s):wpAny (model prog w) A (searchCouldBeSeen (.ref b) stored) Q E s:=by
 unfold searchCouldBeSeen
 refine QT ?_
 refine wpAny_forIn_list _ (fun rest r s'=>r.1=none/\s'=s/\∀ y∈rest,∃ yi b',y=.ref b'/\IsTupleKey knd s.heap yi b') _ ?_ ?_ _ _ ⟨rfl,rfl,yy⟩
 ·rintro y rest r s' ⟨hr,rfl,rh⟩
  obtain ⟨yi,b',rfl,hk'⟩:=rh y List.mem_cons_self
  have nx:∀ y∈rest,∃ yi b',y=Value.ref b'/\IsTupleKey knd s'.heap yi b':=fun u hu=>rh u (Qh _ hu)
  dsimp only
  split
  ·exact QU ⟨rfl,rfl,nx⟩
  ·refine QT (wpAny_eqIsQuiet_tuple hk ?_)
   simp only [Bool.not_true,Bool.false_eq_true,if_false]
   refine QT (wpAny_eqIsQuiet_tuple hk' ?_)
   simp only [Bool.not_true,Bool.false_eq_true,if_false]
   refine QT (sZ hk ?_)
   simp only [Bool.false_eq_true,if_false]
   refine QT (sZ hk' ?_)
   simp only [Bool.false_eq_true,if_false]
   exact QU ⟨rfl,rfl,nx⟩
 ·rintro ⟨r1,r2⟩ s' ⟨hr,rfl,_⟩
  simp only at hr
  subst hr
  exact QU h
theorem uS (n:Nat) {v:Value} (h:carriedByValue v=true):∃ b,hashByValue n v=pure b:=by
 cases v<;>first | (cases n<;>exact ⟨_,rfl⟩) | exact ⟨_,by unfold hashByValue;rfl⟩ | (cases h;done)
theorem TV {ks:List K} {Q:Bool->Shared->Prop} (hk:IsTupleKey knd s.heap ks a) (h:∀ b,Q b s):wpAny (model prog w) A (hashByValue 8 (.ref a)) Q E s:=by
 have hT:=hk.typeIs
 obtain ⟨o,items,n,ho,_,hd,hi⟩:=hk
 unfold hashByValue
 refine QT (wpAny_specialOf hT F.slot_tuple_hash.lookup ?_)
 refine QT (wpAny_seqItems ho hd ?_)
 refine QT ?_
 show wpAny _ _ (forIn items _ _) _ _ s
 rw [<- Array.forIn_toList]
 refine wpAny_forIn_list _ (fun rest r s'=>r.1=none/\s'=s/\∀ v∈rest,carriedByValue v=true) _ ?_ ?_ _ _ ⟨rfl,rfl,hi.byValue⟩
 ·rintro v rest r s' ⟨hr,rfl,rh⟩
  obtain ⟨b,eb⟩:=uS 7 (rh v List.mem_cons_self)
  rw [eb]
  refine QT (QU ?_)
  cases b with
  | true=>exact QU ⟨rfl,rfl,fun u HU=>rh u (Qh _ HU)⟩
  | false=>exact QU (QU (h _))
 ·rintro ⟨r1,r2⟩ s' ⟨hr,rfl,_⟩
  simp only at hr
  subst hr
  exact QU (h _)
def LD (knd:KeyKind prog w K) (h:Heap) (es:List (Int×Value)):Prop:=∀ e∈es,∃ ks b,e=(tupleKeyHash knd ks,.ref b)/\IsTupleKey knd h ks b
def FD (knd:KeyKind prog w K) (h:Heap) (es:List (Int×Value)) (ks:List K):Prop:=∃ b,(tupleKeyHash knd ks,Value.ref b)∈es/\IsTupleKey knd h ks b
theorem i8 (T:lh t es):t.fits es.size=true:=by
 unfold SetTable.fits SetTable.fill
 rw [T.nd]
 have:=T.sz
 have:=T.room
 simp;omega
theorem TY (T:lh t es):t.gaveWay=false:=by
 obtain ⟨k,hk,h3⟩:=T.pw
 unfold SetTable.gaveWay
 have:2^k=2*2^(k - 1):=by rw [<- Nat.pow_succ'];congr 1;omega
 have:t.mask % 2=1:=by omega
 rw [this];rfl
theorem lV {h:Int} {n0:Nat} {hashAt:Nat->Int} {r:Option Met} (T:lh t es) (F:FF t h n0) (hn:n<=n0) (e:t.probe hashAt h (st t.mask h n)=r) (hA:∀ i (h:i < es.size),hashAt i=es[i].1):
  (∃ m i,∃ (h1:i < es.size) (h2:i < t.place.size),n<=m/\m < n0/\t.place[i]=(st t.mask h m).j/\es[i].1=h/\(∀ m',n<=m'->m' < m->∀ i' (h1:i' < es.size) (h2:i' < t.place.size),t.place[i']=(st t.mask h m').j->es[i'].1≠h)/\r=some (.candidate (st t.mask h m).j i (st t.mask h (m+1))))\/
  ((∀ m',n<=m'->m' < n0->∀ i' (h1:i' < es.size) (h2:i' < t.place.size),t.place[i']=(st t.mask h m').j->es[i'].1≠h)/\r=some (.empty (st t.mask h n0).j none)):=by
 have hz:=T.sz
 rcases p9 (hashAt:=hashAt) T.dj T.nd F (10*turns t.mask) n hn (by have:=F.HQ;omega) with ⟨m,i,hi,h1,h2,h3,h4,h5,h6⟩ | ⟨h1,h2⟩
 ·refine .inl ⟨m,i,by omega,hi,h1,h2,h3,by rw [<- hA];exact h4,fun m' q1 q2 i' g1 g2 g3=>?_,e.symm.trans h6⟩
  rw [<- hA];exact h5 m' q1 q2 i' g2 g3
 ·refine .inr ⟨fun m' q1 q2 i' g1 g2 g3=>?_,e.symm.trans h2⟩
  rw [<- hA];exact h1 m' q1 q2 i' g2 g3
theorem fP {a b:Addr} {o:Obj} {es:Array (Int×Value)} {ep:Nat} {t:SetTable} {ks:List K} {n0:Nat} {Cq:Bool} {Q:SetFound->Shared->Prop} (hu:A.units < cLine)
  (ho:s.heap.get? a=some o) (hd:o.data=.set es ep t) (T:lh t es) (hE:LD knd s.heap es.toList) (hk:IsTupleKey knd s.heap ks b) (F:FF t (tupleKeyHash knd ks) n0)
  (yes:FD knd s.heap es.toList ks->∀ io,(Cq=false->io.isSome=true)->Q (.there io) s)
  (no:¬FD knd s.heap es.toList ks->Q (.free (st t.mask (tupleKeyHash knd ks) n0).j false) s):
  ∀ (fb n:Nat) (HW:Option Probe),n<=n0->n0 - n < fb->HW.getD (t.probeStart (tupleKeyHash knd ks))=st t.mask (tupleKeyHash knd ks) n->
   (∀ m,m < n->∀ i (h1:i < es.size) (h2:i < t.place.size),t.place[i]=(st t.mask (tupleKeyHash knd ks) m).j->¬∃ b',es[i]=(tupleKeyHash knd ks,Value.ref b')/\IsTupleKey knd s.heap ks b')->
   wpAny (model prog w) A (setSearchFrom a (.ref b) (tupleKeyHash knd ks) Cq fb HW) Q E s
 | 0,n,_,_,hf,_,_=>absurd hf (Nat.not_lt_zero _)
 | fb+1,n,HW,hn,hf,TZ,jt=>by
  unfold setSearchFrom
  refine QT (wpAny_setState_of ho hd (i8 T) ?_)
  dsimp only
  rw [TY T]
  simp only [Bool.false_eq_true,if_false]
  refine QT (QU ?_)
  rw [TZ]
  have LF:∀ hashAt:Nat->Int,(∀ i,hashAt i=((es[i]?).map (·.1)).getD 0)->∀ i (h:i < es.size),hashAt i=es[i].1:=fun hashAt e i h=>by rw [e,Array.getElem?_eq_getElem h];rfl
  have hz:=T.sz
  split
  ·rename_i met FE
   rcases lV T F hn FE (LF _ fun _=>rfl) with ⟨m,i,h1,h2,q1,q2,q3,q4,q5,q6⟩ | ⟨q1,q2⟩
   ·cases q6
    dsimp only
    obtain ⟨yi,b',e1,hk'⟩:=hE es[i] (by simp)
    have go:wpAny (model prog w) A (do
      let equal <- holding [Value.ref b'] (eqBool (Value.ref b') (Value.ref b))
      let HX <- setState a
      if (Cq&&equal)=true then pure (SetFound.there none)
       else
        match HX.2.snd.sameMemory t.moves t.mask with
        | some same=>do
         let T3 <- match (if same then HX.2.snd.slot (st t.mask (tupleKeyHash knd ks) m).j else .empty) with
          | .live i'=>match HX.1[i']? with
           | some (_,y')=>do pure (if <- isSame y' (.ref b') then some i' else none)
           | none=>pure none
          | _=>pure none
         match T3 with
         | none=>rule "set.search.anew";setSearchFrom a (.ref b) (tupleKeyHash knd ks) Cq fb none
         | some i'=>if equal then return .there (some i') else setSearchFrom a (.ref b) (tupleKeyHash knd ks) Cq fb (some (st t.mask (tupleKeyHash knd ks) (m+1)))
        | x=>unsupported "set.changed-during-lookup:is-the-new-block-at-the-old-address") Q E s:=by
     refine QT (wpAny_holding (wpAny_eqBool_tuple hu hk' hk ?_))
     refine QT (wpAny_setState_of ho hd (i8 T) ?_)
     dsimp only
     have mr:t.sameMemory t.moves t.mask=some true:=by unfold SetTable.sameMemory;simp
     have LG:t.slot (st t.mask (tupleKeyHash knd ks) m).j=.live i:=by rw [<- q3];exact gB T.dj h2
     have T4:es[i]? =some (tupleKeyHash knd yi,Value.ref b'):=by rw [Array.getElem?_eq_getElem h1,e1]
     rw [mr]
     dsimp only
     rw [if_pos rfl,LG]
     dsimp only
     rw [T4]
     dsimp only
     by_cases c:yi=ks
     ·subst c
      have hs:FD knd s.heap es.toList yi:=⟨b',by rw [<- e1];simp,hk'⟩
      rw [Qv rfl]
      cases Cq with
      | true=>exact QU (yes hs none (fun z=>nomatch z))
      | false=>
       refine QT (wpAny_isSame_ref_self (QT (QU ?_)))
       exact QU (yes hs (some i) fun _=>rfl)
     ·rw [Qw c,Bool.and_false]
      refine QT (wpAny_isSame_ref_self (QT (QU ?_)))
      refine fP hu ho hd T hE hk F yes no fb (m+1) (some _) (by omega) (by omega) rfl fun m' LC i' g1 g2 g3=>?_
      rintro ⟨b2,f1,f2⟩
      rcases Nat.lt_or_ge m' n with d | d
      ·exact jt m' d i' g1 g2 g3 ⟨b2,f1,f2⟩
      ·rcases Nat.lt_or_ge m' m with d' | d'
       ·exact q5 m' d d' i' g1 g2 g3 (by rw [f1])
       ·have:m'=m:=by omega
        subst this
        have ei:i'=i:=by
         have:=gB T.dj g2
         rw [g3,LG] at this
         injection this with this
         exact this.symm
        subst ei
        rw [e1] at f1
        injection f1 with _ f3
        injection f3 with f3
        subst f3
        exact c (hk'.inj f2)
    split
    ·refine QT (l8 hk (fun y hy=>?_) ?_)
     ·obtain ⟨e,he,rfl⟩:=List.mem_map.mp hy
      have:e∈es.toList:=by simp at he;simpa using he.1
      obtain ⟨k2,b2,e2,Co⟩:=hE e this
      exact ⟨k2,b2,by rw [e2],Co⟩
     ·simp only [Bool.false_eq_true,if_false]
      refine QT (QU ?_)
      rw [Array.getElem?_eq_getElem h1,e1]
      exact go
    ·refine QT (QU ?_)
     rw [Array.getElem?_eq_getElem h1,e1]
     exact go
   ·cases q2
    dsimp only
    refine QU (no ?_)
    rintro ⟨b',hm,hb⟩
    obtain ⟨i,hi,e⟩:=Qi hm
    have d_:i < es.size:=by simpa using hi
    have e':es[i]=(tupleKeyHash knd ks,Value.ref b'):=by simpa using e
    obtain ⟨m,Bl,hm2⟩:=T.met F d_ (by omega) (by rw [e'])
    rcases Nat.lt_or_ge m n with c | c
    ·exact jt m c i d_ (by omega) hm2.symm ⟨b',e',hb⟩
    ·exact q1 m c Bl i d_ (by omega) hm2.symm (by rw [e'])
  ·rename_i FE
   rcases lV T F hn rfl (LF _ fun _=>rfl) with ⟨_,_,_,_,_,_,_,_,_,q6⟩ | ⟨_,q2⟩
   ·exact (FE _ q6).elim
   ·exact (FE _ q2).elim
def jl (knd:KeyKind prog w K) (h:Heap) (a:Addr) (av:List (List K×Addr)):Prop:=∃ (o:Obj) (es:Array (Int×Value)) (ep:Nat) (t:SetTable),h.get? a=some o/\o.ExactSet/\o.data=.set es ep t/\lh t es/\
 (∀ e,e∈es.toList↔∃ p∈av,e=(tupleKeyHash knd p.1,Value.ref p.2))/\es.size=av.length/\t.mask<=9000
def KeysIn (knd:KeyKind prog w K) (h:Heap) (av:List (List K×Addr)):Prop:=∀ p∈av,IsTupleKey knd h p.1 p.2
theorem m9 {av:List (List K×Addr)} (hk:KeysIn knd h av) (he:∀ e,e∈es.toList↔∃ p∈av,e=(tupleKeyHash knd p.1,Value.ref p.2)):LD knd h es.toList:=fun e hm=>by
 obtain ⟨p,hp,rfl⟩:=(he e).mp hm
 exact ⟨p.1,p.2,rfl,hk p hp⟩
theorem pT {av:List (List K×Addr)} {ks:List K} (hk:KeysIn knd h av) (he:∀ e,e∈es.toList↔∃ p∈av,e=(tupleKeyHash knd p.1,Value.ref p.2)):FD knd h es.toList ks↔ks∈av.map (·.1):=by
 constructor
 ·rintro ⟨b,hm,hb⟩
  obtain ⟨p,hp,e⟩:=(he _).mp hm
  injection e with _ e2
  injection e2 with e2
  subst e2
  exact List.mem_map.mpr ⟨p,hp,(hk p hp).inj hb⟩
 ·intro hm
  obtain ⟨p,hp,rfl⟩:=List.mem_map.mp hm
  exact ⟨p.2,(he _).mpr ⟨p,hp,rfl⟩,hk p hp⟩
theorem p8 (b:Addr) (es:Array (Int×Value)):byScan (.ref b) es=false:=rfl
theorem qI {av:List (List K×Addr)} {ks:List K} {Q:Option Nat->Shared->Prop} (hu:A.units < cLine) (hS:jl knd s.heap a av) (hK:KeysIn knd s.heap av) (hk:IsTupleKey knd s.heap ks b)
  (h:∀ io:Option Nat,io.isSome=decide (ks∈av.map (·.1))->Q io s):wpAny (model prog w) A (setFind a (.ref b) (tupleKeyHash knd ks)) Q E s:=by
 obtain ⟨o,es,ep,t,ho,hex,hd,T,he,hsz,hm⟩:=hS
 obtain ⟨n0,F⟩:=T.ff (tupleKeyHash knd ks)
 have hh:=pT (ks:=ks) hK he
 unfold setFind setFindIn
 refine QT (wpAny_setState_of ho hd (i8 T) ?_)
 dsimp only
 rw [p8]
 simp only [Bool.false_eq_true,if_false]
 unfold setSearch
 refine QT (fP hu ho hd T (m9 hK he) hk F (fun hy io DU=>?_) (fun hn=>?_) 100000 0 none (Nat.zero_le _) (by have:=F.HQ;unfold turns at this;omega) rfl fun m hm=>absurd hm (Nat.not_lt_zero _))
 ·exact QU (h io (by rw [DU rfl,Qv (hh.mp hy)]))
 ·exact QU (h none (by rw [Qw fun z=>hn (hh.mpr z)];rfl))
theorem kZ {av:List (List K×Addr)} {ks:List K} {Q:Bool->Shared->Prop} (hu:A.units < cLine) (hS:jl knd s.heap a av) (hK:KeysIn knd s.heap av) (hk:IsTupleKey knd s.heap ks b)
  (h:∀ r tk,(r=true↔ks∈av.map (·.1))->Q r {s with toks:=tk}):wpAny (model prog w) A (setContains a (.ref b)) Q E s:=by
 unfold setContains
 refine wpAny_holding (QT ((tupleKind knd).pyHash hu hk ?_))
 refine QT (qI (s:={s with toks:=_}) hu hS hK hk fun io e=>QU ?_)
 rw [e]
 exact h _ _ decide_eq_true_iff
theorem mQ {xs:Array α} {p:Nat} {x e:α} (hp:p<=xs.size):e∈(insertAt xs p x).toList↔e=x\/e∈xs.toList:=by
 rw [cU hp]
 rw [List.mem_append,Qp]
 conv=>rhs;rw [<- List.take_append_drop p xs.toList,List.mem_append]
 constructor
 ·rintro (h | h | h)
  ·exact .inr (.inl h)
  ·exact .inl h
  ·exact .inr (.inr h)
 ·rintro (h | h | h)
  ·exact .inr (.inl h)
  ·exact .inl h
  ·exact .inr (.inr h)
theorem lW {o:Obj} {es':Array (Int×Value)} {t':SetTable} (ho:h.get? a=some o) (hd:o.data=.set es ep t):(h.update a (Obj.putSet es' t')).get? a=some {o with data:=.set es' (ep+1) t'}:=by
 have:=Heap.get?_update_self (Obj.putSet es' t') ho (by rw [putSet_of es' t' hd];rfl)
 rw [putSet_of es' t' hd] at this;exact this
theorem T6 {X:Array (Int×Value)} {t':SetTable} {order:Array Nat} {Q:Array (Int×Value)×SetTable->Shared->Prop} (l4:(order.filterMap (X[·]?)).size=X.size) (h:Q (order.filterMap (X[·]?),t') s):wpAny (model prog w) A (do
  let some (t,od):=(some (t',order):Option (SetTable×Array Nat)) | unsupported "internal:set-table-without-room"
  let es':=od.filterMap (X[·]?)
  if es'.size !=X.size then unsupported "internal:set-table-lost-an-element"
  pure (es',t)) Q E s:=by
 dsimp only
 rw [if_neg (by rw [l4];simp)]
 exact QU h
theorem jI {av:List (List K×Addr)} {ks:List K} {Q:Bool->Shared->Prop} (hu:A.units < cLine) (hS:jl knd s.heap a av) (hK:KeysIn knd s.heap av) (hk:IsTupleKey knd s.heap ks b) (hl:av.length < 1000)
  (hy:ks∈av.map (·.1)->Q false s) (hn:ks ∉ av.map (·.1)->∀ h',Heap.SameBut a s.heap h'->jl knd h' a (av++[(ks,b)])->Q true {s with heap:=h'}):wpAny (model prog w) A (setAddHashed a (.ref b) (tupleKeyHash knd ks)) Q E s:=by
 obtain ⟨o,es,ep,t,ho,hex,hd,T,he,hsz,hm⟩:=hS
 obtain ⟨n0,F⟩:=T.ff (tupleKeyHash knd ks)
 have hh:=pT (ks:=ks) hK he
 have T9:sizeLine=16777216:=QL
 unfold setAddHashed setAddHashedIn
 refine wpAny_holding (QT (wpAny_setState_of ho hd (i8 T) ?_))
 dsimp only
 rw [p8]
 simp only [Bool.false_eq_true,if_false]
 unfold setSearch
 refine QT (fP hu ho hd T (m9 hK he) hk F (fun h io DU=>?_) (fun h=>?_) 100000 0 none (Nat.zero_le _) (by have:=F.HQ;unfold turns at this;omega) rfl fun m hm=>absurd hm (Nat.not_lt_zero _))
 ·exact QU (hy (hh.mp h))
 ·dsimp only
  refine QT (wpAny_setState_of ho hd (i8 T) ?_)
  dsimp only
  rw [lB T.nd]
  dsimp only
  have Cr:ks ∉ av.map (·.1):=fun z=>h (hh.mpr z)
  have hp:=(dC (j:=(st t.mask (tupleKeyHash knd ks) n0).j) T.dj).1
  have LH:below t.place (st t.mask (tupleKeyHash knd ks) n0).j<=es.size:=by have:=T.sz;omega
  have Cs:=aZ (x:=(tupleKeyHash knd ks,Value.ref b)) LH
  have i_:∀ e,e∈(insertAt es (below t.place (st t.mask (tupleKeyHash knd ks) n0).j) (tupleKeyHash knd ks,Value.ref b)).toList↔∃ p∈av++[(ks,b)],e=(tupleKeyHash knd p.1,Value.ref p.2):=fun e=>by
   rw [mQ LH,he]
   constructor
   ·rintro (rfl | ⟨p,hp,rfl⟩)
    ·exact ⟨(ks,b),List.mem_append_right _ (List.mem_singleton.mpr rfl),rfl⟩
    ·exact ⟨p,List.mem_append_left _ hp,rfl⟩
   ·rintro ⟨p,hp,rfl⟩
    rcases List.mem_append.mp hp with hp | hp
    ·exact .inr ⟨p,hp,rfl⟩
    ·rw [List.mem_singleton] at hp;subst hp;exact .inl rfl
  -- A6 rest,Xe 'Xf is
  have rest:∀ (pl:Bool) (s1:Shared),s1=s->wpAny (model prog w) A (do
    storeSet a (insertAt es (below t.place (st t.mask (tupleKeyHash knd ks) n0).j) (tupleKeyHash knd ks,Value.ref b)) {jw t (st t.mask (tupleKeyHash knd ks) n0).j with plain:=pl}
    if (!false&&({jw t (st t.mask (tupleKeyHash knd ks) n0).j with plain:=pl}:SetTable).tooFull)=true then do setRelay a (SetTable.grown (es.size+1));pure true else pure true) Q E s1:=by
   rintro pl s1 rfl
   refine QT (wpAny_storeSet_of ho hd ?_ (by rw [Cs];omega))
   have FG:=lW (es':=insertAt es (below t.place (st t.mask (tupleKeyHash knd ks) n0).j) (tupleKeyHash knd ks,Value.ref b)) (t':={jw t (st t.mask (tupleKeyHash knd ks) n0).j with plain:=pl}) ho hd
   have LI:=Heap.SameBut.update s1.heap a (Obj.putSet (insertAt es (below t.place (st t.mask (tupleKeyHash knd ks) n0).j) (tupleKeyHash knd ks,Value.ref b)) {jw t (st t.mask (tupleKeyHash knd ks) n0).j with plain:=pl})
   have LJ:({jw t (st t.mask (tupleKeyHash knd ks) n0).j with plain:=pl}:SetTable).fill=es.size+1:=by
    show (insertAt t.place _ _).size+t.dummies.size=_
    rw [aZ hp,T.nd,T.sz];rfl
   by_cases full:({jw t (st t.mask (tupleKeyHash knd ks) n0).j with plain:=pl}:SetTable).tooFull=true
   ·rw [if_pos (by simpa using full)]
    have T_:({jw t (st t.mask (tupleKeyHash knd ks) n0).j with plain:=pl}:SetTable).fits (insertAt es (below t.place (st t.mask (tupleKeyHash knd ks) n0).j) (tupleKeyHash knd ks,Value.ref b)).size=true:=by
     unfold SetTable.fits
     rw [LJ,Cs]
     have h1:=T.room
     have h2:(insertAt t.place (below t.place (st t.mask (tupleKeyHash knd ks) n0).j) (st t.mask (tupleKeyHash knd ks) n0).j).size=es.size+1:=by rw [aZ hp,T.sz]
     have h3:es.size+1<=t.mask:=by
      obtain ⟨k,hk,k3⟩:=T.pw
      have:2^3<=2^k:=Nat.pow_le_pow_right (by decide) k3
      omega
     simp [h2,h3]
    have FH:SetTable.grown (es.size+1)=4*(es.size+1):=by
     unfold SetTable.grown
     rw [if_neg (by omega)];omega
    obtain ⟨k,k3,e2,lt,le⟩:=kK (n:=SetTable.grown (es.size+1)) (by rw [FH];omega)
    rw [FH] at lt le
    have Ua:SetTable.sizeAbove (SetTable.grown (es.size+1)) - 1+1=2^k:=by rw [e2];have:0 < 2^k:=Nat.pow_pos (by decide);omega
    obtain ⟨t',order,l1,l2,l3,l4,l5⟩:=uT (mask:=SetTable.sizeAbove (SetTable.grown (es.size+1)) - 1) (finger:=t.finger) (moves:=({jw t (st t.mask (tupleKeyHash knd ks) n0).j with plain:=pl}:SetTable).movedTo (SetTable.sizeAbove (SetTable.grown (es.size+1)) - 1)) (led:=t.led) (plain:=pl) (es:=insertAt es (below t.place (st t.mask (tupleKeyHash knd ks) n0).j) (tupleKeyHash knd ks,Value.ref b)) Ua k3 (by rw [Cs,e2];omega)
    refine QT ?_
    unfold setRelay
    refine QT (wpAny_setState_of FG rfl T_ ?_)
    dsimp only
    rw [if_neg (by rw [T9,FH] at*;omega)]
    have er:({jw t (st t.mask (tupleKeyHash knd ks) n0).j with plain:=pl}:SetTable).relaid (Array.map (fun x=>x.fst) (insertAt es (below t.place (st t.mask (tupleKeyHash knd ks) n0).j) (tupleKeyHash knd ks,Value.ref b))) (SetTable.grown (es.size+1))=some (t',order):=l1
    rw [er]
    refine QT (T6 l4 ?_)
    refine wpAny_storeSet_of FG rfl ?_ (by rw [l4,Cs];omega)
    have zb:=lW (es':=order.filterMap ((insertAt es (below t.place (st t.mask (tupleKeyHash knd ks) n0).j) (tupleKeyHash knd ks,Value.ref b))[·]?)) (t':=t') FG rfl
    refine QU (hn Cr _ (LI.trans (Heap.SameBut.update _ a _)) ⟨_,_,_,_,zb,hex,rfl,l2,fun e=>(l3 e).trans (i_ e),by rw [l4,Cs,hsz];simp,by rw [l5];rw [FH] at*;omega⟩)
   ·rw [if_neg (by simpa using full)]
    have hr:(es.size+1)*5 < t.mask*3:=by
     unfold SetTable.tooFull at full
     rw [LJ] at full
     simpa using full
    have T':=T.put (x:=Value.ref b) F hr
    refine QU (hn Cr _ LI ⟨_,_,_,_,FG,hex,rfl,⟨T'.pw,T'.nd,T'.sz,T'.dj,T'.le,T'.room,T'.reach⟩,i_,by rw [Cs,hsz];simp,hm⟩)
  by_cases E3:t.plain=true
  ·rw [if_pos E3]
   refine QT (TV hk fun bv=>?_)
   cases bv with
   | true=>exact rest t.plain s rfl
   | false=>exact rest false s rfl
  ·rw [if_neg E3]
   exact QT (QU (rest t.plain s rfl))
theorem lN {av:List (List K×Addr)} {ks:List K} {Q:Bool->Shared->Prop} (hu:A.units < cLine) (hS:jl knd s.heap a av) (hK:KeysIn knd s.heap av) (hk:IsTupleKey knd s.heap ks b) (hl:av.length < 1000)
  (hy:ks∈av.map (·.1)->∀ tk,s.toks<=tk->Q false {s with toks:=tk}) (hn:ks ∉ av.map (·.1)->∀ h' tk,s.toks<=tk->Heap.SameBut a s.heap h'->jl knd h' a (av++[(ks,b)])->Q true {s with heap:=h',toks:=tk}):wpAny (model prog w) A (setAdd a (.ref b)) Q E s:=by
 unfold setAdd
 refine wpAny_holding (QT ((tupleKind knd).pyHash hu hk ?_))
 exact jI (s:={s with toks:=_}) hu hS hK hk hl (fun h=>hy h _ (Nat.le_add_right _ _)) fun h h' sb st=>hn h h' _ (Nat.le_add_right _ _) sb st
end
end L2
namespace L2
open PySem PySem.Spec PyProof.Rows
section
theorem tZ (q:jl (ck prog w) h a av) (k:∀ o,h.get? a=some o->h'.get? a=some o):jl (ck prog w) h' a av:=let ⟨o,es,ep,t,ho,r⟩:=q;⟨o,es,ep,t,k o ho,r⟩
theorem yJ {led:Bool} (e:h.get? a=some {cls:=.type "set",dict:=none,data:=.set #[] 0 (.fresh 0 0 led)}):jl (ck prog w) h a []:=
 ⟨_,#[],0,_,e,⟨rfl,rfl,rfl⟩,rfl,⟨⟨3,rfl,Qy _⟩,rfl,rfl,fun i k h hk=>absurd hk (by simp [SetTable.fresh]),fun i h=>absurd h (by simp [SetTable.fresh]),(show 0*5 < 7*3 by decide),fun i h=>absurd h (by simp)⟩,fun e=>by simp,rfl,by show 7<=9000;decide⟩
variable {I:Addr} {wr:List Addr} {P:Nat->Value->Prop} {St:Nat->Shared->Prop}
end
section
variable {ks:List Key}
theorem jl.typeIs (h:jl (ck prog w) s.heap a av):s.TypeIs (.ref a) "set":=let ⟨o,_,_,_,ho,hc,_⟩:=h;⟨o,ho,hc.1⟩
theorem jl.noDict (h:jl (ck prog w) s.heap a av):∀ b,Value.ref a=.ref b->∃ ob,s.heap.get? b=some ob/\ob.dict=none:=
 fun b e=>by injection e with e;subst e;exact let ⟨o,_,_,_,ho,hc,_⟩:=h;⟨o,ho,hc.2.1⟩
theorem oA {Q:Bool->Shared->Prop} (hu:A.units+10 < cLine) (hS:jl (ck prog w) s.heap a av) (hK:KeysIn (ck prog w) s.heap av) (hk:IsTupleKey (ck prog w) s.heap ks b)
  (h:∀ r tk,(r=true↔ks∈av.map (·.1))->Q r {s with toks:=tk}):wpAny (model prog w) A (contains (.ref a) (.ref b)) Q E s:=by
 unfold contains
 try with_reducible refine wpAny_holding ?_
 refine QT (wpAny_specialOf hS.typeIs F.slot_set_contains.lookup ?_)
 show wpAny _ _ (if (some (Value.builtin "set.__contains__")==some Value.none)=true then _ else _) _ E s
 rw [if_neg (by rw [beq_builtin_none];exact Bool.false_ne_true)]
 refine QT (wpAny_callSpecialUnlessNone?_slot (name:=Str.ofString "__contains__") hS.typeIs F.slot_set_contains
  (wpAny_call_entry F.slot_set_contains hS.typeIs entry_set_contains ?_ (F.args_set_contains_2 _ _)))
 unfold Builtin.«frozenset.__contains__» Builtin.Frozenset.oneOther
 simp only [List.isEmpty_nil,bind_assoc]
 unfold Builtin.Frozenset.addrOf Builtin.Frozenset.withSetAsKey
 refine QT (QU ?_)
 try dsimp only
 refine QT (QU ?_)
 try dsimp only
 refine QT (wpAny_tryCatch ?_)
 refine kZ (by first | (show A.units+1 < cLine;omega) | (show A.units < cLine;omega) | (show A.units+2 < cLine;omega)) hS hK hk fun r tk hr=>?_
 show wpAny _ _ (ret (Value.bool _)) _ _ _
 exact QU ⟨_,rfl,wpAny_truthy_bool (h r tk hr)⟩
theorem rM (hu:A.units+10 < cLine) (hS:jl (ck prog w) s.heap a av) (hK:KeysIn (ck prog w) s.heap av) (hk:IsTupleKey (ck prog w) s.heap ks b) (hl:av.length < 1000)
  (hy:ks∈av.map (·.1)->∀ tk,Q .none {s with toks:=tk}) (hn:ks ∉ av.map (·.1)->∀ h' tk,Heap.SameBut a s.heap h'->jl (ck prog w) h' a (av++[(ks,b)])->Q .none {s with heap:=h',toks:=tk}):wpAny (model prog w) A (call (.builtin "set.add") [.ref a,.ref b]) Q E s:=by
 refine wpAny_call_entry F.slot_set_add hS.typeIs F.entry_set_add ?_ (F.args_set_add_2 _ _)
 unfold Builtin.«set.add» Builtin.Frozenset.oneOther
 simp only [List.isEmpty_nil,bind_assoc]
 unfold Builtin.Frozenset.addrOf
 refine QT (QU ?_)
 try dsimp only
 refine QT (QU ?_)
 try dsimp only
 refine QT ?_
 refine lN (by first | (show A.units+1 < cLine;omega) | (show A.units < cLine;omega)) hS hK hk hl (fun h tk _=>?_) (fun h h' tk _ sb st=>?_)
 ·show wpAny _ _ (ret Value.none) _ _ _
  exact QU ⟨_,rfl,hy h tk⟩
 ·show wpAny _ _ (ret Value.none) _ _ _
  exact QU ⟨_,rfl,hn h h' tk sb st⟩
end
abbrev ii (P:Program) (w:World) (a:Addr) (av:List (List Key×Addr)):HO:=.ext fun h=>jl (ck P w) h a av
structure qg (P:Program) (w:World) (H:Hp) (a:Addr) (av:List (List Key×Addr)):Prop where
 at_:H a=some (ii P w a av)
 ks:∀ p∈av,ao H p.2 (p.1.map kV)
theorem qg.same (h:qg P w H a av) (s:aa H H'):qg P w H' a av:=⟨s _ _ h.at_,fun p hp=>(h.ks p hp).same s⟩
theorem qg.HY (e:jl (ck P w) h a av):b_ P w H h a (ii P w a av):=⟨e,(let ⟨o,_,_,_,ho,_⟩:=e;⟨o,ho⟩),fun h1 h2 x k=>tZ x k⟩
theorem qg.real (h:qg X.prog X.w H a av) (I:Inv X pins σ H s):jl (ck X.prog X.w) s.heap a av/\KeysIn (ck X.prog X.w) s.heap av:=
 ⟨(show b_ X.prog X.w H s.heap a (ii X.prog X.w a av) from I.hok a _ h.at_).1,fun p hp=>dY I.hok (h.ks p hp)⟩
def LK (P:Program) (w:World) (ng:Bool):R2:=fun x y H Q=>∃ (b S:Addr) (ks:List Key) (av:List (List Key×Addr)),x=.ref b/\y=.ref S/\ao H b (ks.map kV)/\qg P w H S av/\∀ r:Bool,(r=true↔ks∈av.map (·.1))->Q (.bl (ng^^r)) H
theorem zT (hu:X.A.units+10 < cLine):cj X (compareOp .NotIn) (LK X.prog X.w true):=by
 intro pins s σ H x y v u Q I rx ry h
 obtain ⟨b,S,ks,av,rfl,rfl,hb,hS,q⟩:=h
 cases rx;cases ry
 obtain ⟨h1,h2⟩:=hS.real I
 show wpAny _ _ (do return Value.bool (!(<- contains (.ref S) (.ref b)))) _ _ s
 refine QT (oA hu h1 h2 (dY I.hok hb) fun r tk hr=>QU ?_)
 exact ⟨.bl _,H,I.tok tk,rfl,by have:=q r hr;rw [Bool.true_xor] at this;exact this⟩
def LL (P:Program) (w:World) (to te:TE):TE:=fun σ H Q=>to σ H fun x H1=>∃ S,x=.ref S/\(∃ av,qg P w H1 S av)/\te σ H1 fun y H2=>∃ (b:Addr) (ks:List Key) (av:List (List Key×Addr)),y=.ref b/\ao H2 b (ks.map kV)/\qg P w H2 S av/\av.length < 1000/\
 (ks∈av.map (·.1)->Q .ai H2)/\(ks ∉ av.map (·.1)->Q .ai (upd H2 S (ii P w S (av++[(ks,b)]))))
theorem Ub {o:Expr} (hu:X.A.units+10 < cLine) (ho:SE X o to) (ha:SE X e te)
  (qz:attributeBase o "add" X.env (eval o X.env)=eval o X.env:=by rfl)
  (zf:((backTo cpos (starEach [e] X.env)).all (fun x=> !x.1)&&(backToKw cpos (keywordEach [] X.env)).all (fun x=>x.1.isSome)
   &&decide ([e].length+([]:List Keyword).length+(if ([]:List Keyword).isEmpty then 0 else 1) < 30))=true:=by rfl)
  (q_:(apos.endLine==cpos.line)=true:=by rfl) (hs:starEach [e] X.env=(false,eval e X.env)::starEach [] X.env:=by rfl):
  SE X (.Call (.Attribute o "add" apos) [e] [] cpos) (LL X.prog X.w to te):=by
 constructor
 intro pins s σ H Q I h
 refine wpAny_Call_method_late qz zf q_ rfl (au (ho.h pins s σ H _ I h) ?_)
 rintro v s1 ⟨x,H1,I1,r1,S,ex,⟨Xg,HZ⟩,q1⟩
 subst ex
 cases r1
 have hr0:=(HZ.real I1).1
 refine ⟨"set","set.add",PySem.F.plainAttrs_set,PySem.F.slot_set_add,PySem.F.type_set_add,hr0.typeIs,hr0.noDict,?_⟩
 rw [hs]
 refine Calls.callWith_builtin rfl (Calls.evalArgs_plain ?_)
 show wpAny _ _ (spliced ((false,eval e X.env)::backTo cpos (starEach [] X.env))) _ _ s1
 refine Calls.spliced_cons (au (ha.h pins s1 σ H1 _ I1 q1) fun u s2 ⟨y,H2,I2,r2,b,ks,av,ey,hb,hS,hl,qy,qn⟩=>Calls.spliced_nil ?_)
 subst ey
 cases r2
 obtain ⟨h1,h2⟩:=hS.real I2
 refine rM hu h1 h2 (dY I2.hok hb) hl (fun hy tk=>⟨.ai,H2,I2.tok tk,rfl,qy hy⟩) fun hn h' tk sb st=>⟨.ai,_,I2.write (by rw [hS.at_];trivial) (.inl rfl) (fun b u n e=>by rw [sb.2 b n];exact e) (let ⟨o,_,_,_,ho,_⟩:=st;⟨o,ho⟩) (qg.HY st),rfl,qn hn⟩
def jx (H:Hp) (xs:List V) (u_:List (List Key)):Prop:=xs.length=u_.length/\∀ i (h:i < xs.length) (h':i < u_.length),∃ b,xs[i]=.ref b/\ao H b (u_[i].map kV)
theorem jx.same {H':Hp} {xs:List V} {u_:List (List Key)} (h:jx H xs u_) (t:aa H H'):jx H' xs u_:=⟨h.1,fun i a b=>let ⟨c,e1,e2⟩:=h.2 i a b;⟨c,e1,e2.same t⟩⟩
theorem jx.nil:jx H [] []:=⟨rfl,fun i h=>absurd h (by simp)⟩
theorem jx.snoc {xs:List V} {k:List Key} (h:jx H xs u_) (e:ao H b (k.map kV)):jx H (xs++[.ref b]) (u_++[k]):=by
 obtain ⟨hl,hh⟩:=h
 refine ⟨by simp [hl],fun i a c=>?_⟩
 by_cases hi:i < xs.length
 ·rw [Qe hi,Qe (by omega)];exact hh i hi (by omega)
 ·obtain rfl:i=xs.length:=by simp at a;omega
  rw [Qf (by omega),Qf (by omega)]
  exact ⟨b,by simp,by simpa [hl] using e⟩
theorem Uc {J:It} {ok:Hp->Prop} {item:Nat->V} {tk tw:TE} {τ0:St} {Q:Hp->Prop} (hJ:Bd J ok n item) (Pv:Nat->St->Hp->Prop) (h0:Pv 0 τ0 H0)
  (hok:∀ i τ H,i<=n->Pv i τ H->ok H)
  (hs:∀ i τ H,i < n->Pv i τ H->g (item i) τ H fun τ2 H2=>tc τ2 H2 fun b H3=>if b=true then tk τ2 H3 fun x H4=>tw τ2 H4 fun y H5=>∃ kvs key,x=kV key/\H5 D=some (.dK kvs)/\kvs.length < sizeLine/\Pv (i+1) τ2 (upd H5 D (.dK (putK kvs key y))) else Pv (i+1) τ2 H3)
  (hd:∀ τ H,Pv n τ H->Q H):∃ W:Nat->Nat->St->Hp->Prop,(∃ m,W 0 m τ0 H0)/\∀ i m τ H,W i m τ H->
   (J.stop i H/\Q H)\/(J.go i H/\∃ N:St->Hp->Prop,(∀ τ' H',N τ' H'->∃ m',m' < m/\W (i+1) m' τ' H')/\∀ x H',J.l_ i H x H'->g x τ H' fun τ2 H2=>tc τ2 H2 fun b H3=>
    if b=true then tk τ2 H3 fun x H4=>tw τ2 H4 fun y H5=>∃ kvs key,x=kV key/\H5 D=some (.dK kvs)/\kvs.length < sizeLine/\N τ2 (upd H5 D (.dK (putK kvs key y))) else N τ2 H3):=by
 refine ⟨fun i m τ H=>m=n - i/\i<=n/\Pv i τ H,⟨n,by simp,Nat.zero_le _,h0⟩,?_⟩
 rintro i m τ H ⟨rfl,hi,p⟩
 obtain ⟨k1,k2⟩:=hJ H (hok i τ H hi p)
 by_cases bc:i < n
 ·refine .inr ⟨(k1 i bc).1,Pv (i+1),fun σ' H' p'=>⟨n - (i+1),by omega,rfl,bc,p'⟩,fun x H' y=>?_⟩
  obtain ⟨e,e2⟩:=(k1 i bc).2 x H' y
  subst e e2
  exact hs i τ _ bc p
 ·have e:i=n:=by omega
  subst e
  exact .inl ⟨k2,hd τ H p⟩
theorem sQ {K:Q0} {J:It} {ok:Hp->Prop} {f1 f2:Nat->V} {a b:Nat} {tk tw:TE} {τ0:St} {Q:Hp->Prop} (hJ:Fi J ok n f1 f2) (Pv:Nat->St->Hp->Prop) (h0:Pv 0 τ0 H0)
  (hok:∀ i τ H,i<=n->Pv i τ H->ok H)
  (hs:∀ i τ H T,i < n->Pv i τ H->H T=none->tc ((τ.set a (some (f1 i))).set b (some (f2 i))) (upd H T (.tup [f1 i,f2 i])) fun c H3=>if c=true then tk ((τ.set a (some (f1 i))).set b (some (f2 i))) H3 fun x H4=>tw ((τ.set a (some (f1 i))).set b (some (f2 i))) H4 fun y H5=>
   ∃ kvs key,x=kV key/\H5 D=some (.dK kvs)/\kvs.length < sizeLine/\Pv (i+1) ((τ.set a (some (f1 i))).set b (some (f2 i))) (upd H5 D (.dK (putK kvs key y))) else Pv (i+1) ((τ.set a (some (f1 i))).set b (some (f2 i))) H3)
  (hd:∀ τ H,Pv n τ H->Q H):∃ W:Nat->Nat->St->Hp->Prop,(∃ m,W 0 m τ0 H0)/\∀ i m τ H,W i m τ H->
   (J.stop i H/\Q H)\/(J.go i H/\∃ N:St->Hp->Prop,(∀ τ' H',N τ' H'->∃ m',m' < m/\W (i+1) m' τ' H')/\∀ x H',J.l_ i H x H'->g2 K a b x τ H' fun τ2 H2=>tc τ2 H2 fun b H3=>
    if b=true then tk τ2 H3 fun x H4=>tw τ2 H4 fun y H5=>∃ kvs key,x=kV key/\H5 D=some (.dK kvs)/\kvs.length < sizeLine/\N τ2 (upd H5 D (.dK (putK kvs key y))) else N τ2 H3):=by
 refine ⟨fun i m σ H=>m=n - i/\i<=n/\Pv i σ H,⟨n,by simp,Nat.zero_le _,h0⟩,?_⟩
 rintro i m σ H ⟨rfl,hi,p⟩
 obtain ⟨k1,k2⟩:=hJ H (hok i σ H hi p)
 by_cases bc:i < n
 ·refine .inr ⟨(k1 i bc).1,Pv (i+1),fun σ' H' p'=>⟨n - (i+1),by omega,rfl,bc,p'⟩,fun x H' y=>?_⟩
  obtain ⟨T,rfl,hT,rfl⟩:=(k1 i bc).2 x H' y
  exact fJ aA (hs i σ _ T bc p hT)
 ·have e:i=n:=by omega
  subst e
  exact .inl ⟨k2,hd σ H p⟩
theorem wF {K:Q0} {J:It} {ok:Hp->Prop} {f1 f2:Nat->V} {a b:Nat} {tk tw:TE} {τ0:St} {Q:Hp->Prop} (hJ:Fi J ok n f1 f2) (Pv:Nat->St->Hp->Prop) (h0:Pv 0 τ0 H0)
  (hok:∀ i τ H,i<=n->Pv i τ H->ok H)
  (hs:∀ i τ H T,i < n->Pv i τ H->H T=none->tc ((τ.set a (some (f1 i))).set b (some (f2 i))) (upd H T (.tup [f1 i,f2 i])) fun c H3=>if c=true then tk ((τ.set a (some (f1 i))).set b (some (f2 i))) H3 fun x H4=>tw ((τ.set a (some (f1 i))).set b (some (f2 i))) H4 fun y H5=>
   ∃ kvs key b',x=.ref b'/\ao H5 b' (key.map kV)/\H5 D=some (.dT kvs)/\kvs.length < sizeLine/\Pv (i+1) ((τ.set a (some (f1 i))).set b (some (f2 i))) (upd H5 D (.dT (putK kvs key y))) else Pv (i+1) ((τ.set a (some (f1 i))).set b (some (f2 i))) H3)
  (hd:∀ τ H,Pv n τ H->Q H):∃ W:Nat->Nat->St->Hp->Prop,(∃ m,W 0 m τ0 H0)/\∀ i m τ H,W i m τ H->
   (J.stop i H/\Q H)\/(J.go i H/\∃ N:St->Hp->Prop,(∀ τ' H',N τ' H'->∃ m',m' < m/\W (i+1) m' τ' H')/\∀ x H',J.l_ i H x H'->g2 K a b x τ H' fun τ2 H2=>tc τ2 H2 fun b H3=>
    if b=true then tk τ2 H3 fun x H4=>tw τ2 H4 fun y H5=>∃ kvs key b,x=.ref b/\ao H5 b (key.map kV)/\H5 D=some (.dT kvs)/\kvs.length < sizeLine/\N τ2 (upd H5 D (.dT (putK kvs key y))) else N τ2 H3):=by
 refine ⟨fun i m σ H=>m=n - i/\i<=n/\Pv i σ H,⟨n,by simp,Nat.zero_le _,h0⟩,?_⟩
 rintro i m σ H ⟨rfl,hi,p⟩
 obtain ⟨k1,k2⟩:=hJ H (hok i σ H hi p)
 by_cases bc:i < n
 ·refine .inr ⟨(k1 i bc).1,Pv (i+1),fun σ' H' p'=>⟨n - (i+1),by omega,rfl,bc,p'⟩,fun x H' y=>?_⟩
  obtain ⟨T,rfl,hT,rfl⟩:=(k1 i bc).2 x H' y
  exact fJ aA (hs i σ _ T bc p hT)
 ·have e:i=n:=by omega
  subst e
  exact .inl ⟨k2,hd σ H p⟩
theorem zQ {κ:Type} [DecidableEq κ] {kvs:List (κ×V)} (nd:(kvs.map (·.1)).Nodup) (h:i < kvs.length):putK (kvs.take i) kvs[i].1 kvs[i].2=kvs.take (i+1):=by
 rw [L2.cB _ (by
  cases e:br (kvs.take i) kvs[i].1 with
  | none=>rfl
  | some v=>
   have:=jO e
   obtain ⟨p,hp,q⟩:=List.mem_map.mp this
   obtain ⟨j,hj,rfl⟩:=Qi hp
   have sr:j < i:=by simp at hj;omega
   rw [List.getElem_take] at q
   have:=List.pairwise_iff_getElem.mp nd j i (by simp;omega) (by simpa using h) sr
   simp only [Qr] at this
   exact absurd q this),Qs,Qa h]
 rfl
theorem sM {κ:Type} [DecidableEq κ] {kvs:List (κ×V)} (nd:(kvs.map (·.1)).Nodup) {k:κ} {v:V} (h:(k,v)∈kvs):br kvs k=some v:=by
 induction kvs with
 | nil=>cases h
 | cons p r ih=>
  rw [List.map_cons,List.nodup_cons] at nd
  rcases Qp.mp h with e | h
  ·rw [<- e,bN rfl]
  ·have ne:¬p.1=k:=fun e=>nd.1 (List.mem_map.mpr ⟨_,h,e.symm⟩)
   rw [bO ne];exact ih nd.2 h
theorem ao.put {ys:List V} {u:HO} (r:ao H b ys) (hD:H D=some o) (n1:∀ xs,o≠.tup xs) (n2:∀ q xs,o≠.aq q (.tup xs)):ao (L2.upd H D u) b ys:=r.upd fun v hv z=>by
 subst z
 rcases r with r | ⟨q,r⟩
 ·rw [hD] at r;cases r;exact n1 _ rfl
 ·rw [hD] at r;cases r;exact n2 _ _ rfl
def g_ (rows:List ae):List (Key×V):=rows.map fun r=>(.inr r.1,.str (endOf rows r.1))
def wj:Hd->List Str
 | .as y=>[y]
 | .way x y=>[x,y]
 | .prs _ ps=>ps.map (·.2)
 | _=>[]
def ir (rows:List ae) (h:Hd):List (List Key×V):=h.bq.map fun m=>(m.1.map (Sum.inr:Str->Key),.str (endOf rows m.2))
theorem kI {xs ys:List Str} (h:xs.map (Sum.inr:Str->Key)=ys.map Sum.inr):xs=ys:=by
 induction xs generalizing ys with
 | nil=>cases ys with
  | nil=>rfl
  | cons y ys=>simp at h
 | cons x xs ih=>cases ys with
  | nil=>simp at h
  | cons y ys=>
   simp only [List.map_cons,List.cons.injEq,Sum.inr.injEq] at h
   rw [h.1,ih h.2]
theorem mJ {rows:List ae} {h:Hd} (nd:(h.bq.map (·.1)).Nodup):((ir rows h).map (·.1)).Nodup:=by
 have e:(ir rows h).map (·.1)=(h.bq.map (·.1)).map fun m=>m.map (Sum.inr:Str->Key):=by simp [ir,Qn,QB]
 rw [e]
 exact List.pairwise_map.mpr (nd.imp fun h e=>h (kI e))
theorem Ud {h:Hd} (i:Nat) (hi:i < h.bq.length):(wj h)[i]? =some h.bq[i].2:=by
 cases h with
 | one s=>cases hi
 | as y=>cases hi
 | way x y=>
  match i,hi with
  | 0,_=>rfl
  | 1,_=>rfl
 | prs s ps=>
  have d_:i < ps.length:=by simpa [Hd.bq] using hi
  simp [wj,Hd.bq,Qa d_]
theorem Ue {h:Hd}:h.bq.length<=(wj h).length:=by
 cases h<;>simp [wj,Hd.bq]
theorem iE {h:Hd} (ok:h.ok ns):h.bq.length<=10:=by
 cases h with
 | one s=>simp [Hd.bq]
 | as y=>simp [Hd.bq]
 | way x y=>simp [Hd.bq]
 | prs s ps=>simpa [Hd.bq] using ok.2.2.2
theorem iV:∀ {ws:List Str},rising ws=true->ws.Pairwise (fun a b=>om a b=true)
 | [],_=>.nil
 | [_],_=>List.pairwise_singleton _ _
 | a::b::r,h=>by
  have h':om a b=true/\rising (b::r)=true:=by simpa [rising] using h
  have ih:=iV h'.2
  refine List.pairwise_cons.mpr ⟨fun c hc=>?_,ih⟩
  rcases Qp.mp hc with rfl | hc
  ·exact h'.1
  ·exact o7 h'.1 ((List.pairwise_cons.mp ih).1 c hc)
theorem nK (h:rising ws=true):ws.Nodup:=(iV h).imp fun {x y} h e=>by rw [e,mZ] at h;cases h
theorem xO {h:Hd} (ok:h.ok ns):(h.bq.map (·.1)).Nodup:=by
 cases h with
 | one s=>exact List.nodup_nil
 | as y=>exact List.nodup_nil
 | way x y=>exact (by decide+kernel:(([["from"],["to"]]:List (List Str))).Nodup)
 | prs s ps=>
  have hr:=nK ok.2.2.1
  have e:(Hd.prs s ps).bq.map (·.1)=(ps.map (·.1)).map fun w=>([if s="box" then "part" else "case",w]:List Str):=by simp [Hd.bq,Qn,QB]
  rw [e]
  exact List.pairwise_map.mpr (hr.imp fun h e=>h (by simpa using e))
theorem iX {rows:List ae} (nd:(rows.map (·.1)).Nodup) (hx:x∈rows.map (·.1)):br (g_ rows) (.inr x)=some (.str (endOf rows x)):=by
 obtain ⟨r,hr,rfl⟩:=List.mem_map.mp hx
 refine sM ?_ (List.mem_map.mpr ⟨r,hr,rfl⟩)
 have e:(g_ rows).map (·.1)=(rows.map (·.1)).map (Sum.inr:Str->Key):=by simp [g_,Qn,QB]
 rw [e]
 exact List.pairwise_map.mpr (nd.imp fun h e=>h (Sum.inr.inj e))
theorem FI (m:List Str):(m.map (Sum.inr:Str->Key)).map kV=m.map V.str:=by simp [Qn,QB,kV]
def bg (rows:List ae):List ae:=rows.filter fun r=>r.2.nx.isNone
structure DV (R:Hp->V->ae->Prop) (H:Hp) (kvs:List (Key×V)) (rs:List ae):Prop where
 len:kvs.length=rs.length
 at_:∀ i (h:i < kvs.length) (h':i < rs.length),kvs[i].1=.inr rs[i].1/\R H kvs[i].2 rs[i]
theorem DV.keep {R:Hp->V->ae->Prop} {kvs:List (Key×V)} (h:DV R H kvs rs) (s:∀ v r,R H v r->R H' v r):DV R H' kvs rs:=⟨h.len,fun i a b=>⟨(h.at_ i a b).1,s _ _ (h.at_ i a b).2⟩⟩
theorem DV.nil {R:Hp->V->ae->Prop}:DV R H [] []:=⟨rfl,fun i h=>absurd h (by simp)⟩
theorem DV.snoc {R:Hp->V->ae->Prop} {kvs:List (Key×V)} (h:DV R H kvs rs) {v:V} {r:ae} (e:R H v r):DV R H (kvs++[((Sum.inr r.1:Key),v)]) (rs++[r]):=by
 have hl:=h.len
 refine ⟨by simp [hl],fun i h1 h2=>?_⟩
 by_cases bc:i < kvs.length
 ·rw [Qe bc,Qe (by omega)]
  exact h.at_ i bc (by omega)
 ·have e':i=kvs.length:=by simp at h1;omega
  subst e'
  rw [Qf (Qy _),Qf (by omega)]
  simp only [Nat.sub_self,hl,List.getElem_cons_zero,true_and]
  exact e
theorem DV.keys {R:Hp->V->ae->Prop} {kvs:List (Key×V)} (h:DV R H kvs rs):kvs.map (·.1)=rs.map fun r=>(.inr r.1:Key):=by
 have hl:=h.len
 refine List.ext_getElem (by simpa using hl) fun i h1 h2=>?_
 simp only [Qr]
 exact (h.at_ i (by simpa using h1) (by simpa using h2)).1
theorem DV.put {R:Hp->V->ae->Prop} {kvs:List (Key×V)} (h:DV R H kvs rs) {r:ae} {v:V} (n:r.1 ∉ rs.map (·.1)):putK kvs (.inr r.1) v=kvs++[(.inr r.1,v)]:=by
 refine L2.cB _ ?_
 cases e:br kvs (.inr r.1) with
 | none=>rfl
 | some u=>
  have:=jO e
  rw [h.keys] at this
  obtain ⟨r',gi,e'⟩:=List.mem_map.mp this
  exact absurd (List.mem_map.mpr ⟨r',gi,Sum.inr.inj e'⟩) n
theorem DV.get {R:Hp->V->ae->Prop} {kvs:List (Key×V)} (h:DV R H kvs rs) (nd:(rs.map (·.1)).Nodup) {r:ae} (hr:r∈rs):∃ v,br kvs (.inr r.1)=some v/\R H v r:=by
 obtain ⟨i,hi,rfl⟩:=Qi hr
 have hl:=h.len
 obtain ⟨h1,h2⟩:=h.at_ i (by omega) hi
 refine ⟨kvs[i].2,sM ?_ (k:=(Sum.inr rs[i].1:Key)) (v:=kvs[i].2) ?_,h2⟩
 ·rw [h.keys]
  exact List.pairwise_map.mpr ((List.pairwise_map.mp nd).imp fun h e=>h (Sum.inr.inj e))
 ·rw [<- h1];exact Qj (by omega)
def Hd.dm:Hd->Str
 | .one s=>s
 | .as _=>"as"
 | .way _ _=>"way"
 | .prs s _=>s
theorem HV.dm {H:Hp} {v:V} {h:Hd} (q:HV H v h):∃ b ys,v=.ref b/\H b=some (.tup (.str h.dm::ys)):=by
 cases q with
 | one e=>exact ⟨_,_,rfl,e⟩
 | as e=>exact ⟨_,_,rfl,e⟩
 | way e=>exact ⟨_,_,rfl,e⟩
 | prs e _ _=>exact ⟨_,_,rfl,e⟩
theorem xC {h:Hd} (ok:h.ok ns):(h.dm="as")=(h.nx.isNone=false):=by
 cases h with
 | one s=>rcases ok with rfl | rfl<;>simp [Hd.dm,Hd.nx]<;>decide+kernel
 | as y=>simp [Hd.dm,Hd.nx]
 | way x y=>simp [Hd.dm,Hd.nx];decide+kernel
 | prs s ps=>rcases ok.1 with rfl | rfl<;>simp [Hd.dm,Hd.nx]<;>decide+kernel
def RH:Hp->V->ae->Prop:=fun H v r=>HV H v r.2
def RM:Hp->V->ae->Prop:=fun H v r=>∃ b c us,v=.ref b/\H b=some (.tup [.str r.2.dm,.ref c])/\H c=some (.tup us)/\SV H us (r.2.bq.map (·.1))
def RO (rows:List ae):Hp->V->ae->Prop:=fun H v r=>∃ m o,v=.ref m/\H m=some (.aq o (.dT (ir rows r.2)))
structure Ug (H:Hp) (rows:List ae) (fs:List (Str×V)):Prop where
 Xh:∃ d o,fs.lookup ("rows":Str)=some (V.ref d)/\H d=some (.aq o (.dK (g_ rows)))
 ji:∃ d o k,fs.lookup ("heads":Str)=some (V.ref d)/\H d=some (.aq o (.dK k))/\DV RH H k (bg rows)
 Xi:∃ d o k,fs.lookup ("marks":Str)=some (V.ref d)/\H d=some (.aq o (.dK k))/\DV RM H k (bg rows)
 bq:∃ d o k,fs.lookup ("moves":Str)=some (V.ref d)/\H d=some (.aq o (.dK k))/\DV (RO rows) H k (bg rows)
def H_ (H:Hp) (C x:Addr) (rows:List ae):Prop:=∃ dx fs,H x=some (.ins C dx fs)/\Ug H rows fs
def Sx (x:Addr) (H H':Hp):Prop:=∀ b o,b≠x->H b=some o->H' b=some o
theorem Sx.trans {x:Addr} {H1 H2:Hp} (a:Sx x H H1) (b:Sx x H1 H2):Sx x H H2:=fun c o n h=>b c o n (a c o n h)
theorem aa.sx {x:Addr} {H1:Hp} (a:aa H H1):Sx x H H1:=fun c o _ h=>a c o h
theorem Sx.upd {x:Addr} {H:Hp} {o:HO}:Sx x H (upd H x o):=fun c u n h=>by rw [aF n];exact h
theorem Sx.free {x:Addr} (s:Sx x H H') (h:H' D=none) (n:D≠x):H D=none:=by
 cases e:H D with
 | none=>rfl
 | some o=>rw [s D o n e] at h;cases h
theorem Sx.tk {x:Addr} (s:Sx x H H') (n:∀ ys,H x≠some (.tup ys)):Tk H H':=fun b ys e=>s b _ (fun z=>n ys (by rw [<- z];exact e)) e
theorem Sx.aq {x b:Addr} {H H':Hp} {q:Obj} {u:HO} (s:Sx x H H') (n:∀ q u,H x≠some (.aq q u)) (e:H b=some (.aq q u)):H' b=some (.aq q u):=s b _ (fun z=>n q u (by rw [<- z];exact e)) e
theorem HV.same {v:V} {h:Hd} (q:HV H v h) (s:aa H H'):HV H' v h:=q.tk s.ts
theorem kY {K:Q0} {ta tv:TE} {f:Str} {v:TS} {D:Ends} (h:tv σ H fun y H1=>ta σ H1 fun x H2=>∃ a C dx fs,x=.ref a/\H2 a=some (.ins C dx fs)/\y_ K C/\xr K C f/\fs.length < 1000/\v D σ (upd H2 a (.ins C dx (cf f y fs)))):xo (ES K ta tv f) v D σ H:=h
def di (rows:List ae) (e:Str) (s:List Str):Option Str:=((dw rows e).find? fun m=>decide (m.1=s)).map (·.2)
def wk (rows:List ae):Str->List (List Str)->Option Str
 | e,[]=>some e
 | e,s::r=>match di rows e s with
  | some e'=>wk rows e' r
  | none=>none
def Ia:Option Str->V
 | some z=>.str z
 | none=>.ai
def iu (rows:List ae) (ns:List Str) (e:Str):Prop:=e∈ns/\endOf rows e=e
theorem qW (rows:List ae) (e:Str) (s:List Str) (he:endOf rows e=e):br (ir rows (aj rows e)) (s.map Sum.inr)=(di rows e s).map V.str:=by
 unfold br ir di dw
 rw [he]
 induction (aj rows e).bq with
 | nil=>rfl
 | cons m ms ih=>
  simp only [List.map_cons,List.find?_cons]
  by_cases h:m.1=s
  ·rw [Qv h,Qv (congrArg _ h)];rfl
  ·rw [Qw h,Qw fun z=>h (kI z)];exact ih
def wl (rows:List ae) (e:Str):List (List Key×V):=(dw rows e).map fun m=>(m.1.map Sum.inr,.str m.2)
theorem zF (rows:List ae) (e:Str) (s:List Str):br (wl rows e) (s.map Sum.inr)=(di rows e s).map V.str:=by
 unfold br wl di
 induction dw rows e with
 | nil=>rfl
 | cons m ms ih=>
  simp only [List.map_cons,List.find?_cons]
  by_cases h:m.1=s
  ·rw [Qv h,Qv (congrArg _ h)];rfl
  ·rw [Qw h,Qw fun z=>h (kI z)];exact ih
section
variable {xs:List V} {rows:List ae}
theorem RT.stay (rt:RT H a xs rows ns ws) (hw:∀ z∈ws,Wd z) (hx:x∈ns):iu rows ns (endOf rows x):=by
 obtain ⟨h1,h2,_⟩:=rt.B_ hw hx
 exact ⟨h1,cD _ h2⟩
theorem RT.uo (rt:RT H a xs rows ns ws) (hw:∀ z∈ws,Wd z) {e:Str} (h:iu rows ns e):(e,aj rows e)∈bg rows/\(aj rows e).ok ns:=by
 obtain ⟨h1,h2,h3⟩:=rt.B_ hw h.1
 rw [h.2] at h1 h2 h3
 have h4:e∈rows.map (·.1):=rt.nm.mem_iff.mpr h1
 obtain ⟨r,hr,rfl⟩:=List.mem_map.mp h4
 have e':=cS rt.jf hr
 refine ⟨List.mem_filter.mpr ⟨?_,?_⟩,h3⟩
 ·rw [e'];exact hr
 ·show (aj rows r.1).nx.isNone=true
  rw [h2];rfl
theorem RT.di (rt:RT H a xs rows ns ws) (hw:∀ z∈ws,Wd z) {e e':Str} {s:List Str} (h:iu rows ns e) (m:L2.di rows e s=some e'):iu rows ns e':=by
 unfold L2.di at m
 obtain ⟨p,hp,rfl⟩:=Option.map_eq_some_iff.mp m
 have hm:=List.mem_of_find?_eq_some hp
 unfold dw at hm
 obtain ⟨q,hq,rfl⟩:=List.mem_map.mp hm
 rw [h.2] at hq
 exact rt.stay hw (rE (rt.uo hw h).2 _ hq)
theorem RT.Bm (rt:RT H a xs rows ns ws):((bg rows).map (·.1)).Nodup:=rt.jf.sublist (List.filter_sublist.map _)
end
def Ib (K:Q0):R2:=fun x y H Q=>∃ a b xs ys,x=.ref a/\y=.ref b/\af K H a xs/\af K H b ys/\xs.length+ys.length<=sizeLine/\(xs=[]->Q (.ref b) H)/\
 (xs≠[]->ys=[]->Q (.ref a) H)/\(xs≠[]->ys≠[]->∀ p,H p=none->Q (.ref p) (upd H p (.tup (xs++ys))))
theorem nJ (K:Q0) (h:X.K=K:=by rfl):cj X (binaryOp .Add) (Ib K):=by
 subst h
 intro pins s σ H x y v u Q I rx ry h
 obtain ⟨a,b,xs,ys,rfl,rfl,ha,hb,hz,q0,q1,q2⟩:=h
 by_cases hx:xs=[]
 ·cases rx
  cases ry
  obtain ⟨its,r1,p1,_⟩:=I.tuple ha
  obtain ⟨its2,r2,p2,_⟩:=I.tuple hb
  have hi:its=[]:=r1.EY.mpr hx
  obtain ⟨⟨cls,dd,data,sl⟩,ho,hc,n,hd⟩:=id p1
  obtain ⟨⟨P9,EU,data2,EV⟩,zb,k_,n2,hd2⟩:=id p2
  simp only at hc hd k_ hd2
  subst hc hd k_ hd2
  exact concat_meets ⟨_,ho,rfl⟩ ⟨_,zb,rfl⟩ noFill_tuple_add seq_tuple_add PySem.F.slot_tuple_add PySem.F.entry_tuple_add (PySem.F.args_tuple_add_2 _ _)
   (tuple_addW0 a b its.toArray its2.toArray n n2 dd EU sl EV (by simp [hi])) ⟨ho,zb,⟨.ref b,H,I,rfl,q0 hx⟩⟩
 ·exact QN pins s σ H _ _ v u Q I rx ry ⟨a,b,xs,ys,rfl,rfl,ha,hb,hx,hz,q1 hx,q2 hx⟩
theorem Ic {K:Q0} {xs ys:List V} {Q:VK} (ha:H a=some (.tup xs)) (hb:H b=some (.tup ys)) (hz:xs.length+ys.length<=sizeLine) (h:∀ p H',aa H H'->H' p=some (.tup (xs++ys))->Q (.ref p) H'):Ib K (.ref a) (.ref b) H Q:=by
 refine ⟨a,b,xs,ys,rfl,rfl,af.of ha,af.of hb,hz,fun e=>?_,fun _ e=>?_,fun _ _ p hp=>?_⟩
 ·subst e;exact h b H (aa.refl _) hb
 ·subst e;exact h a H (aa.refl _) (by rw [List.append_nil];exact ha)
 ·exact h p _ (aa.upd hp _) aA
theorem SV.one {H:Hp} {b:Addr} {m:List Str} (e:ao H b (m.map V.str)):SV H [.ref b] [m]:=SV.nil.snoc e
theorem SV.same {H H':Hp} {xs:List V} {ss:List (List Str)} (h:SV H xs ss) (s:aa H H'):SV H' xs ss:=h.keep fun _ _ r=>r.same s
theorem Uh {k:Nat} (hr:fm k A):A.units+20 < cLine:=by have:=hr.un;omega
section
variable {it d:Addr} {od:Obj} {es:Array DictEntry} {ok ov:Value} {Q:Option Value->Shared->Prop}
theorem uQ {en:DictEntry} (a0:IsItemIter s.heap it d i n ep ok ov) (AB:s.heap.get? d=some od) (AD:od.data=.dict es ep) (hn:es.size=n) (hx:es[i]? =some en)
  (hQ:∀ h',IsItemIterOut h' it d (i+1) n ep en.key en.val s.heap.objs.size->h'.get? s.heap.objs.size=some {cls:=.type "tuple",data:=.seq #[en.key,en.val]}->
   (∀ b o,b≠it->s.heap.get? b=some o->h'.get? b=some o)->Q (some (.ref s.heap.objs.size)) {s with heap:=h'}):wpAny (model P w) A (pyNext (.ref it)) Q E s:=by
 obtain ⟨hp,g,dr,tk,os⟩:=s
 have ty:Shared.TypeIs ⟨hp,g,dr,tk,os⟩ (.ref it) "dict_itemiterator":=⟨_,a0,rfl⟩
 have bc:i < es.size:=(Array.getElem?_eq_some_iff.mp hx).1
 have Xj:es[i]=en:=(Array.getElem?_eq_some_iff.mp hx).2
 have own:Builtin.Dict_items.ownsTuple "dict_itemiterator"=true:=by decide
 have zl:¬(Value.ref d==Value.none)=true:=fun hz=>Bool.false_ne_true hz
 unfold pyNext
 refine QT (wpAny_attempt (wpAny_callSpecial?_slot (name:=Str.ofString "__next__") ty F.slot_dict_itemiterator_next (wpAny_call_entry F.slot_dict_itemiterator_next ty F.entry_dict_itemiterator_next ?_ (F.args_dict_itemiterator_next_1 _))))
 refine QT (QU (QT (QT ?_)))
 first
  | refine QT (wpAny_typeNameOfWhole_itemiter ty (QU (QT (wpAny_fieldsOf a0 rfl ?_))))
  | refine QT (wpAny_typeNameOf_itemiter ty (QU (QT (wpAny_fieldsOf a0 rfl ?_))))
 simp only [own,if_true]
 show wpAny _ _ (if (Value.ref d==Value.none)=true then _ else _) _ _ _
 rw [if_neg zl]
 refine QT (QU (QT (wpAny_dictEntries AB AD ?_)))
 rw [if_neg (by rw [hn];simp)]
 refine QT (QU (QT (wpAny_dictEpoch AB AD ?_)))
 rw [if_neg (by simp)]
 refine QU ?_
 simp only [show ¬((i:Int) < 0) by omega,if_false,Int.toNat_natCast,hx]
 refine QT ?_
 first
  | refine QT (wpAny_typeNameOfWhole_itemiter ty (QU (QT (wpAny_isOneOf_itemiter ty ?_))))
  | refine QT (wpAny_typeNameOf_itemiter ty (QU (QT (wpAny_isOneOf_itemiter ty ?_))))
 show wpAny _ _ (setField (.ref it) 3 (rawInt ((i:Int)+1)) >>=_) _ _ ⟨hp,g,dr,tk,os⟩
 refine QT (wpAny_setField_rec a0 (by simp) fun k1 b1 c1=>?_)
 have Ie:Heap.SameBut it hp k1:=c1
 have LM:IsItemIter k1 it d (i+1) n ep ok ov:=by
  have e:((i+1:Nat):Int)=(i:Int)+1:=by omega
  unfold IsItemIter;rw [e];simpa [rawInt] using b1
 have LN:Shared.TypeIs ⟨k1,g,dr,tk,os⟩ (.ref it) "dict_itemiterator":=⟨_,LM,rfl⟩
 refine QT (wpAny_holding (QT (wpAny_isOneOf_itemiter LN (QT (wpAny_isOneOf_itemiter LN ?_)))))
 show wpAny _ _ (Builtin.Dict_items.pairFromOwner (.ref it) 6 en.key en.val) _ _ ⟨k1,g,dr,tk,os⟩
 unfold Builtin.Dict_items.pairFromOwner
 refine QT (wpAny_newTuple ?_)
 have sz:k1.objs.size=hp.objs.size:=Ie.1
 have il:it < hp.objs.size:=Qz a0
 have b2:IsItemIter (k1.push {cls:=.type "tuple",data:=.seq #[en.key,en.val]}) it d (i+1) n ep ok ov:=Qc _ LM
 have t2:(k1.push {cls:=.type "tuple",data:=.seq #[en.key,en.val]}).get? hp.objs.size=some {cls:=.type "tuple",data:=.seq #[en.key,en.val]}:=by rw [<- sz];exact Qd _ rfl
 have m2:∀ b o,b≠it->hp.get? b=some o->(k1.push {cls:=.type "tuple",data:=.seq #[en.key,en.val]}).get? b=some o:=fun b o hb e=>Qc _ (Ie.extBut b o hb e)
 show wpAny _ _ (Builtin.Dict_items.ownedTupleIsFree (.ref it) >>=_) _ _ ⟨k1.push {cls:=.type "tuple",data:=.seq #[en.key,en.val]},g,dr,tk,os⟩
 rw [sz]
 generalize k1.push {cls:=.type "tuple",data:=.seq #[en.key,en.val]}=k2 at b2 t2 m2
 refine QT ?_
 unfold Builtin.Dict_items.ownedTupleIsFree
 refine QT (wpAny_field b2 rfl (x:=.none) rfl (QU ?_))
 simp only [if_true]
 refine QT (wpAny_field b2 rfl (x:=ok) rfl (QT (wpAny_field b2 rfl (x:=ov) rfl (QT (wpAny_setField_rec b2 (by simp) fun k3 b3 c3=>?_)))))
 have Ui:IsItemIter k3 it d (i+1) n ep en.key ov:=b3
 refine QT (wpAny_setField_rec Ui (by simp) fun k4 b4 c4=>?_)
 have Uj:IsItemIter k4 it d (i+1) n ep en.key en.val:=b4
 refine QT (wpAny_setField_rec Uj (by simp) fun k5 b5 c5=>?_)
 have Uk:IsItemIterOut k5 it d (i+1) n ep en.key en.val hp.objs.size:=b5
 refine QT (wpAny_setField_rec Uk (by simp) fun k6 b6 c6=>?_)
 have up:∀ b o,b≠it->k2.get? b=some o->k6.get? b=some o:=fun b o hb e=>c6.extBut b o hb (c5.extBut b o hb (c4.extBut b o hb (c3.extBut b o hb e)))
 exact QT (wpAny_letGo (QU (QU ⟨_,rfl,QU (hQ k6 b6 (up _ _ (Nat.ne_of_gt il) t2) fun b o hb e=>up b o hb (m2 b o hb e))⟩)))
theorem xE (hh:A.handled=none) (a0:IsItemIter s.heap it d i n ep ok ov) (AB:s.heap.get? d=some od) (AD:od.data=.dict es ep) (hn:es.size=n) (hx:n<=i)
  (hQ:∀ h',Heap.ExtBut it s.heap h'->Q none {s with heap:=h'}):wpAny (model P w) A (pyNext (.ref it)) Q E s:=by
 have ty:s.TypeIs (.ref it) "dict_itemiterator":=⟨_,a0,rfl⟩
 have own:Builtin.Dict_items.ownsTuple "dict_itemiterator"=true:=by decide
 have Ul:es.size<=i:=by omega
 have zl:¬(Value.ref d==Value.none)=true:=fun hz=>Bool.false_ne_true hz
 unfold pyNext
 refine QT (wpAny_attempt (wpAny_callSpecial?_slot (name:=Str.ofString "__next__") ty F.slot_dict_itemiterator_next (wpAny_call_entry F.slot_dict_itemiterator_next ty F.entry_dict_itemiterator_next ?_ (F.args_dict_itemiterator_next_1 _))))
 refine QT (QU (QT (QT ?_)))
 first
  | refine QT (wpAny_typeNameOfWhole_itemiter ty (QU (QT (wpAny_fieldsOf a0 rfl ?_))))
  | refine QT (wpAny_typeNameOf_itemiter ty (QU (QT (wpAny_fieldsOf a0 rfl ?_))))
 simp only [own,if_true]
 show wpAny _ _ (if (Value.ref d==Value.none)=true then _ else _) _ _ _
 rw [if_neg zl]
 refine QT (QU (QT (wpAny_dictEntries AB AD ?_)))
 rw [if_neg (by rw [hn];simp)]
 refine QT (QU (QT (wpAny_dictEpoch AB AD ?_)))
 rw [if_neg (by simp)]
 refine QU ?_
 simp only [show ¬((i:Int) < 0) by omega,if_false,Int.toNat_natCast,Array.getElem?_eq_none Ul]
 refine QT ?_
 first
  | refine QT (wpAny_typeNameOfWhole_itemiter ty (QU ?_))
  | refine QT (wpAny_typeNameOf_itemiter ty (QU ?_))
 show wpAny _ _ (setField (.ref it) 2 .none >>=_) _ _ s
 refine QT (wpAny_setField a0 rfl (by simp) ?_)
 show wpAny _ _ (newExc (.type "StopIteration") [] >>=_) _ _ _
 refine QT ?_
 simp only [newExc,newTuple]
 refine QT (wpAny_newObj_type (QT (m:=firstArgMember _ _) (wpAny_of_eq (a:=Value.none) (by first | rfl | (simp only [firstArgMember];rfl)) (wpAny_newObj_type ?_ (by size_fits)))) (by size_fits))
 simp only [raiseNew]
 refine QT (wpAny_handled ?_)
 rw [show A.in1.handled=none from hh]
 refine QT (QU (wpAny_throw ?_))
 refine QT (wpAny_isInstance (T:="StopIteration") (b:=true) ⟨_,Qd _ rfl,rfl⟩ isSubtype_stop ?_)
 exact QU (hQ _ (((Heap.SameBut.update ..).extBut.push _).push _))
end
def DW (a:Addr) (o:Obj) (kvs:List (List Key×V)):It:=⟨fun i H=>H a=some (.aq o (.dT kvs))/\i < kvs.length,fun i H x H'=>∃ b kv,kvs[i]? =some kv/\ao H b (kv.1.map kV)/\Dy (.ref b) kv.2 H x H',fun i H=>H a=some (.aq o (.dT kvs))/\kvs.length=i⟩
theorem Um {kvs:List (List Key×V)} (r:KT H kvs xs):∀ {i:Nat} {p:List Key×V},kvs[i]? =some p->∃ q,xs[i]? =some q/\ao H q.2.1 (p.1.map kV)/\RelV p.2 q.2.2:=by
 intro i
 induction r generalizing i with
 | nil=>intro p h;simp at h
 | cons a t ih=>
  intro p h
  cases i with
  | zero=>simp at h;subst h;exact ⟨_,by simp,a.2.1,a.2.2⟩
  | succ i=>simp at h;simpa using ih h
theorem pF {K:Q0} {k:Nat} {pos:Pos} {it:Addr} {o:Obj} {kvs:List (List Key×V)} (Te:a≠it) (zj:∃ es,o.data=.dict es ep):
  Turn P w K (.Tuple AV k pos) (DW a o kvs) [it] it (fun i h=>∃ ok ov,IsItemIter h it a i kvs.length ep ok ov) where
 mem:=by simp
 obj:=fun i h st b hb=>by
  have e:b=it:=by simpa using hb
  subst e
  obtain ⟨ok,ov,he⟩:=st
  exact ⟨_,he,fun v z=>by
   have z':Data.fields _=Data.cell v:=z
   cases z'⟩
 keep:=fun i h h' st k=>let ⟨ok,ov,he⟩:=st;⟨ok,ov,k it (by simp) _ he⟩
 item:=by
  intro X hP hw hK hc i pins s σ H E I hf st hg
  subst hP hw hK
  obtain ⟨ok,ov,he⟩:=st
  obtain ⟨hq,hi⟩:=hg
  obtain ⟨e,z,hd,xs,rel,ob,es,xj,h1,h2,h3,h4,h5⟩:=(show b_ X.prog X.w H s.heap a (.aq o (.dT kvs)) from I.hok a _ hq)
  obtain ⟨es',lg⟩:=zj
  rw [e] at h1;cases h1
  rw [lg] at h3;injection h3 with sf sj
  subst sf sj
  obtain ⟨q,ph,p_,HB⟩:=Um rel (Qa hi)
  have hl:=Paired.length rel
  have hsz:es'.size=kvs.length:=by rw [<- Array.length_toList,h4,Ql];exact hl.symm
  have hx:es'[i]? =some (entryOfKey (tupleKind (ck X.prog X.w)) q):=by rw [<- Array.getElem?_toList,h4,Qq,ph];rfl
  refine uQ (n:=kvs.length) he e lg hsz hx fun h' ho hT HC=>?_
  have rk:RelV (.ref q.2.1) (entryOfKey (tupleKind (ck X.prog X.w)) q).key:=rfl
  have rv:RelV kvs[i].2 (entryOfKey (tupleKind (ck X.prog X.w)) q).val:=HB
  have I1:Inv X pins σ (upd H s.heap.objs.size (.tup [.ref q.2.1,kvs[i].2])) {s with heap:=h'}:=I.Hq (t':=s.toks) hf (fun b o hb e=>HC b o (fun z=>hb (by simp [z])) e) (Qy _) (mM rk rv hT)
  refine ⟨_,rfl,wpAny_letOwnedTupleGo_items (s:={s with heap:=h'}) ho fun B8 HD sb=>?_⟩
  have bc:it≠s.heap.objs.size:=Nat.ne_of_lt (Qz he)
  obtain ⟨f0,f1,f2,f3,f4,f5⟩:=hf it (by simp)
  have DJ:upd H s.heap.objs.size (.tup [.ref q.2.1,kvs[i].2]) it=none:=by rw [aF bc];exact f0
  refine ⟨.ref s.heap.objs.size,_,I1.turned (t':=s.toks) (fun b o hb q=>(sb.2 b hb).trans q) DJ f1 f3 f4 f5,rfl,⟨q.2.1,kvs[i],Qa hi,p_,_,rfl,I.hok.fresh (Qy _),rfl⟩,⟨_,_,HD⟩,fun b hb=>?_⟩
  have e:b=it:=by simpa using hb
  subst e
  exact DJ
 done:=by
  intro X hP hw hK hc i pins s σ H E I hf st hg
  subst hP hw hK
  obtain ⟨ok,ov,he⟩:=st
  obtain ⟨hq,hi⟩:=hg
  obtain ⟨e,z,hd,xs,rel,ob,es,xj,h1,h2,h3,h4,h5⟩:=(show b_ X.prog X.w H s.heap a (.aq o (.dT kvs)) from I.hok a _ hq)
  obtain ⟨es',lg⟩:=zj
  rw [e] at h1;cases h1
  rw [lg] at h3;injection h3 with sf sj
  subst sf sj
  have hl:=Paired.length rel
  have hsz:es'.size=kvs.length:=by rw [<- Array.length_toList,h4,Ql];exact hl.symm
  obtain ⟨f0,f1,f2,f3,f4,f5⟩:=hf it (by simp)
  exact xE (n:=kvs.length) (I.ok.hd hc) he e lg hsz (by omega) fun h' eb=>⟨rfl,I.turned (t':=s.toks) (fun b o hb e=>eb b o hb e) f0 f1 f3 f4 f5⟩
 self:=fun _ _ _ _ _ st h=>let ⟨_,_,he⟩:=st;PySem.W.kcp_self he h
section
variable {k:Nat} {za:Pos} {o:Expr}
theorem jG {v d:Addr} {od:Obj} {es:Array DictEntry} (hv:s.heap.IsItemsView v d) (AB:s.heap.get? d=some od) (AD:od.data=.dict es ep)
  (hQ:Q (.ref s.heap.objs.size) {s with heap:=s.heap.push {cls:=.type "dict_itemiterator",data:=.fields #[.none,.bool false,.ref d,.int 0 0,.int es.size 0,.int ep 0,.none,.none]}}):wpAny (model P w) A (pyIter (.ref v)) Q E s:=by
 obtain ⟨ov,Uo,Xk,Up⟩:=id hv
 have own:Builtin.Dict_items.ownsTuple "dict_itemiterator"=true:=by decide
 refine wpAny_pyIter_slot hv.typeIs F.slot_dict_items_iter (wpAny_call_entry F.slot_dict_items_iter hv.typeIs F.entry_dict_items_iter ?_ (F.args_dict_items_iter_1 _))
 unfold Builtin.«dict_items.__iter__»
 refine QT (QU (QT ?_))
 unfold Builtin.Dict_items.dictOf
 refine QT (wpAny_field Uo Up (x:=.ref d) rfl (QU (QT ?_)))
 unfold Builtin.Dict_items.newIterator
 refine QT (wpAny_dictEntries AB AD (QT (wpAny_dictEpoch AB AD ?_)))
 simp only [own,if_true]
 refine wpAny_newObj_type (QU ⟨_,rfl,"dict_itemiterator",_,⟨_,Qd _ rfl,rfl⟩,F.slot_dict_itemiterator_next.lookup,?_⟩) (by simp only [sizeOk,Builtin.Dict_items.ownedTupleFields,List.size_toArray,Qk,List.length_cons,List.length_nil,QL];omega)
 simpa [rawInt,Builtin.Dict_items.ownedTupleFields] using hQ
theorem kU (d:Addr) (hd:(d==sysModules)=false):
  MeetsIn P w (Builtin.«dict.items» ⟨[.ref d],[]⟩) (fun _ R s=>s.TypeIs (.ref d) "dict"/\R (.ok (.ret (.ref s.heap.objs.size))) {s with heap:=s.heap.push {cls:=.type "dict_items",data:=.fields #[.ref d]}}):=
 .of_wp fun A R s ⟨hm,h⟩=>by
  unfold Builtin.«dict.items» Builtin.Dict.noArgs
  refine QT (QT (wpAny_notOrdered_dict hm ?_))
  show wpAny _ _ (pure d) _ _ s
  refine QU ?_
  show wpAny _ _ (Builtin.Dict.showsAll d >>=_) _ _ s
  unfold Builtin.Dict.showsAll
  rw [if_neg (fun hz=>Bool.false_ne_true (hd.symm.trans hz))]
  exact QT (QU (QT (wpAny_newObj_type (QU ⟨_,rfl,h⟩))))
def Uq (te:TE):TI:=fun σ H R=>te σ H fun x H1=>∃ a kvs o,x=.ref a/\H1 a=some (.aq o (.dT kvs))/\R (DW a o kvs) H1
theorem tU (ho:SE X o to) (qz:attributeBase o "items" X.env (eval o X.env)=eval o X.env:=by rfl) (q_:(apos.endLine==cpos.line)=true:=by rfl):
  SI X (.Tuple AV k za) (.Call (.Attribute o "items" apos) [] [] cpos) (Uq to):=by
 constructor
 intro pins s σ H R I h
 refine wpAny_Call_method0_late qz q_ (au (ho.h pins s σ H _ I h) ?_)
 rintro v s1 ⟨x,H1,I1,r1,a,kvs,o,ex,hH,q⟩
 subst ex
 cases r1
 obtain ⟨e,z,DB,xs,rel,ob,es,ep,h1,h2,hd,h4,h5⟩:=(show b_ X.prog X.w _ s1.heap a (.aq o (.dT kvs)) from I1.hok a _ hH)
 rw [e] at h1;cases h1
 have hl:=Paired.length rel
 have hsz:es.size=kvs.length:=by rw [<- Array.length_toList,h4,Ql];exact hl.symm
 have hT:s1.TypeIs (.ref a) "dict":=⟨o,e,h2.1⟩
 refine ⟨"dict","dict.items",PySem.F.plainAttrs_dict,PySem.F.slot_dict_items,PySem.F.type_dict_items,hT,fun b hb=>by cases hb;exact ⟨o,e,h2.2.1⟩,Calls.callWith_builtin rfl (PySem.evalArgs_none ?_)⟩
 refine call_meetsIn PySem.F.slot_dict_items hT PySem.F.entry_dict_items (PySem.F.args_dict_items_1 _) (kU a DB) ⟨hT,?_⟩
 have I3:Inv X pins σ H1 {s1 with heap:=s1.heap.push {cls:=.type "dict_items",data:=.fields #[.ref a]}}:=I1.kept (t':=s1.toks) fun b o e=>Qc _ e
 refine jG (es:=es) (ep:=ep) ⟨_,Qd _ rfl,rfl,rfl⟩ (Qc _ e) hd ?_
 have jt:a≠(s1.heap.push {cls:=.type "dict_items",data:=.fields #[.ref a]}).objs.size:=by
  rw [Heap.size_push];exact Nat.ne_of_lt (Nat.lt_succ_of_lt (Qz e))
 refine ⟨_,[(s1.heap.push {cls:=.type "dict_items",data:=.fields #[.ref a]}).objs.size],_,_,_,rfl,I3.kept (t':=s1.toks) fun b o e=>Qc _ e,pF (kvs:=kvs) (a:=a) (o:=o) jt ⟨es,hd⟩,⟨.none,.none,by rw [<- hsz];exact Qd _ rfl⟩,fun b hb=>?_,q⟩
 have e:b=(s1.heap.push {cls:=.type "dict_items",data:=.fields #[.ref a]}).objs.size:=by simpa using hb
 subst e
 exact I3.Ae (Qy _) (I3.hok.fresh (Qy _))
end
section
variable {o:Expr}
end
abbrev CL:=List (Str×(Int×Int))
def getL (L:CL) (e:Str):Int×Int:=((L.find? fun x=>decide (x.1=e)).map (·.2)).getD (0,0)
def putL (L:CL) (e:Str) (p:Int×Int):CL:=if (L.any fun x=>decide (x.1=e))=true then L.map (fun x=>if x.1=e then (x.1,p) else x) else L++[(e,p)]
abbrev Ur (H:Hp) (kv:Key×V) (x:Str×(Int×Int)):Prop:=kv.1=.inr x.1/\∃ b,kv.2=.ref b/\H b=some (.tup [.int x.2.1,.int x.2.2])
abbrev CV (H:Hp):List (Key×V)->CL->Prop:=Paired (Ur H)
theorem CV.get {kvs:List (Key×V)} {L:CL} (h:CV H kvs L) (e:Str):(br kvs (.inr e)=none/\e ∉ L.map (·.1)/\getL L e=(0,0))\/∃ b,br kvs (.inr e)=some (.ref b)/\e∈L.map (·.1)/\H b=some (.tup [.int (getL L e).1,.int (getL L e).2]):=by
 induction h with
 | nil=>exact .inl ⟨rfl,by simp,rfl⟩
 | @cons kv x ks xs a _ ih=>
  obtain ⟨e1,b,h1,h2⟩:=a
  by_cases hx:x.1=e
  ·refine .inr ⟨b,?_,by simp [hx],?_⟩
   ·rw [bN (by rw [e1,hx]),h1]
   ·have g:getL (x::xs) e=x.2:=by simp [getL,List.find?_cons,hx]
    rw [g];exact h2
  ·have g:getL (x::xs) e=getL xs e:=by simp [getL,List.find?_cons,hx]
   have ne:¬kv.1=Sum.inr e:=fun z=>hx (Sum.inr.inj (e1.symm.trans z))
   rw [g,bO ne]
   rcases ih with ⟨i1,i2,i3⟩ | ⟨b',i1,i2,i3⟩
   ·exact .inl ⟨i1,by simp only [List.map_cons,Qp,not_or];exact ⟨fun z=>hx z.symm,i2⟩,i3⟩
   ·exact .inr ⟨b',i1,by simp only [List.map_cons,Qp];exact .inr i2,i3⟩
theorem Paired.snoc {β:Type} {R:α->β->Prop} {xs:List α} {ys:List β} (h:Paired R xs ys) {x:α} {y:β} (r:R x y):Paired R (xs++[x]) (ys++[y]):=by
 induction h with
 | nil=>exact .cons r .nil
 | cons a _ ih=>exact .cons a ih
theorem CV.put {kvs:List (Key×V)} {L:CL} (h:CV H kvs L) (e:Str) {p:Int×Int} (hb:H b=some (.tup [.int p.1,.int p.2])):CV H (putK kvs (.inr e) (.ref b)) (putL L e p):=by
 rcases h.get e with ⟨h1,h2,_⟩ | ⟨b',h1,h2,h3⟩
 ·rw [L2.cB _ h1]
  unfold putL
  rw [if_neg fun q=>by
   obtain ⟨x,hx,q⟩:=List.any_eq_true.mp q
   exact h2 (List.mem_map.mpr ⟨x,hx,Qt q⟩)]
  exact Paired.snoc h ⟨rfl,b,rfl,hb⟩
 ·have a1:(kvs.any fun kv=>decide (kv.1=(Sum.inr e:Key)))=true:=by rw [bW,h1];rfl
  have a2:(L.any fun x=>decide (x.1=e))=true:=by
   obtain ⟨x,hx,q⟩:=List.mem_map.mp h2
   exact List.any_eq_true.mpr ⟨x,hx,Qv q⟩
  unfold putK putL
  rw [if_pos a1,if_pos a2]
  clear h1 h2 h3 a1 a2
  induction h with
  | nil=>exact .nil
  | @cons kv x ks xs a _ ih=>
   rw [List.map_cons,List.map_cons]
   refine .cons ?_ ih
   obtain ⟨e1,b1,e2,e3⟩:=a
   by_cases hx:x.1=e
   ·rw [if_pos hx,if_pos (by rw [e1,hx])]
    exact ⟨e1,b,rfl,hb⟩
   ·rw [if_neg hx,if_neg fun z=>hx (Sum.inr.inj (e1.symm.trans z))]
    exact ⟨e1,b1,e2,e3⟩
theorem uH {rows:List ae} {e:Str} (h:endOf rows e=e):ir rows (aj rows e)=wl rows e:=by
 unfold ir wl dw
 rw [h,Qn];rfl
theorem yA {K:Q0} {a b:Nat} {T:Addr} {v1 v2:V} {Q:St->Hp->Prop} (h:af K H T [v1,v2]) (q:Q ((σ.set a (some v1)).set b (some v2)) H):g2 K a b (.ref T) σ H Q:=
 ⟨T,_,rfl,h,rfl,_,_,rfl,_,_,rfl,rfl,q⟩
theorem Paired.at {β:Type} {R:α->β->Prop} {xs:List α} {ys:List β} (h:Paired R xs ys):∀ i (h1:i < xs.length) (h2:i < ys.length),R xs[i] ys[i]:=by
 induction h with
 | nil=>intro i h1;exact absurd h1 (by simp)
 | cons a _ ih=>
  intro i h1 h2
  cases i with
  | zero=>exact a
  | succ i=>exact ih i (by simpa using h1) (by simpa using h2)
theorem fi.same {H H':Hp} {a:Addr} {y:V} {r:Option V} (g:fi H a y r) (s:aa H H'):fi H' a y r:=by
 rcases g with ⟨kvs,k,h1,h2,h3⟩ | ⟨kvs,k,b,h1,h2,h3,h4⟩
 ·exact .inl ⟨kvs,k,h1.same s,h2,h3⟩
 ·exact .inr ⟨kvs,k,b,h1.same s,h2,h3.same s,h4⟩
section
variable {t1 i1 t2 i2 elt:Expr} {pos:Pos} {SJ:TI} {g2:TG}
end
section
variable {it d:Addr} {od:Obj} {es:Array DictEntry} {Q:Option Value->Shared->Prop}
end
section
variable {o:Expr}
end
section
variable {a:Expr} {p p2 pos Xl:Pos}
end
abbrev Road:=List (List Str)
def LO (rows:List ae):Nat->Str->List (Road×Str)
 | 0,e=>[([],e)]
 | n+1,e=>(dw rows e).flatMap fun m=>(LO rows n m.2).map fun q=>(m.1::q.1,q.2)
def allR (rows:List ae) (n:Nat) (e:Str):List Road:=(LO rows n e).map (·.1)
section
variable {xs:List V} {rows:List ae}
end
section
variable {pos:Pos}
theorem LP {op:Operator} {ti:C3} {pos':Pos} (hN:X.N.Nodup) (hi:X.N[i]? =some x) (hx:Loc X.env.scope x) (he:SE X e te) (ho:GX X op ti) (hf:X.fn x=true\/X.env.scope.names.lookup x=some .local:=by first | exact .inl rfl | exact .inr rfl | assumption):
  SS X (.AugAssign (.Name x pos') op e pos) (Kd i te ti):=⟨O6 hN hi hx he.h ho hf⟩
end
abbrev FJ:=List (Str×Option (Str×List Str))
def Us (row:Str) (cb:FJ) (ms:List (List Str×Str)):FJ:=ms.foldl (fun cb m=>if m.2∈cb.map (·.1) then cb else cb++[(m.2,some (row,m.1))]) cb
def Ct (rows:List ae) (f:Str):Nat->FJ
 | 0=>[(f,none)]
 | i+1=>match (Ct rows f i)[i]? with
  | none=>Ct rows f i
  | some c=>Us c.1 (Ct rows f i) (dw rows c.1)
theorem m8:∀ {l m:List Str},l.Nodup->(∀ x∈l,x∈m)->l.length<=m.length
 | [],m,_,_=>Nat.zero_le _
 | a::l,m,nd,h=>by
  have ha:=h a List.mem_cons_self
  have h1:=m8 (l:=l) (m:=m.erase a) (List.nodup_cons.mp nd).2 fun x hx=>(List.mem_erase_of_ne (show x≠a from fun z=>(List.nodup_cons.mp nd).1 (by rw [<- z];exact hx))).mpr (h x (Qh _ hx))
  rw [List.length_erase_of_mem ha] at h1
  have hp:=List.length_pos_of_mem ha
  rw [List.length_cons]
  omega
section
variable {iter kx vx:Expr} {pos:Pos} {tk tw:TE}
end
structure SL (H:Hp) (us:List V) (ss:List (List Str×Str)):Prop where
 len:us.length=ss.length
 at_:∀ i (h:i < us.length) (h':i < ss.length),∃ c b,us[i]=.ref c/\H c=some (.tup [.ref b,.str ss[i].2])/\ao H b (ss[i].1.map V.str)
theorem SL.nil:SL H [] []:=⟨rfl,fun i h=>absurd h (by simp)⟩
structure Ig (H0 H:Hp) (kvs:List (Key×V)) (R:List Str) (f:Str->List (List Str×Str)):Prop where
 len:kvs.length=R.length
 at_:∀ i (h:i < kvs.length) (h':i < R.length),kvs[i].1=.inr R[i]/\∃ l us,kvs[i].2=.ref l/\H0 l=none/\H l=some (.lst us)/\SL H us (f R[i])
 inj:∀ i j (hi:i < kvs.length) (hj:j < kvs.length),kvs[i].2=kvs[j].2->i=j
theorem Ig.put {kvs:List (Key×V)} {R:List Str} {f:Str->List (List Str×Str)} (h:Ig H0 H kvs R f) {e:Str} (qd:H0 l=none) (hl:H l=some (.lst [])) (jt:∀ i (hi:i < kvs.length),kvs[i].2≠.ref l) (hf:f e=[]):Ig H0 H (kvs++[(.inr e,.ref l)]) (R++[e]) f:=by
 have fg:=h.len
 refine ⟨by simp [fg],fun i h1 h2=>?_,fun i j hi hj he=>?_⟩
 ·by_cases bc:i < kvs.length
  ·rw [Qe bc,Qe (by omega)]
   exact h.at_ i bc (by omega)
  ·have e':i=kvs.length:=by simp at h1;omega
   subst e'
   rw [Qf (Qy _),Qf (by omega)]
   simp only [Nat.sub_self,fg,List.getElem_cons_zero]
   exact ⟨trivial,l,[],rfl,qd,hl,by rw [hf];exact SL.nil⟩
 ·simp only [Qk,List.length_cons,List.length_nil] at hi hj
  by_cases bc:i < kvs.length<;>by_cases FL:j < kvs.length
  ·rw [Qe bc,Qe FL] at he
   exact h.inj i j bc FL he
  ·have ej:j=kvs.length:=by omega
   subst ej
   rw [Qe bc,Qf (Qy _)] at he
   simp only [Nat.sub_self,List.getElem_cons_zero] at he
   exact absurd he (jt i bc)
  ·have ei:i=kvs.length:=by omega
   subst ei
   rw [Qe FL,Qf (Qy _)] at he
   simp only [Nat.sub_self,List.getElem_cons_zero] at he
   exact absurd he.symm (jt j FL)
  ·omega
def LQ (rows:List ae) (e:Str) (k:Nat):Prop:=allR rows k e≠[]/\allR rows (k+1) e=[]
def pb (hs:List (Str×Nat)) (wt:List Str) (y:Str):Bool:=decide (y∈hs.map (·.1))&& !decide (y∈wt)
structure HJ (rows:List ae) (R:List Str) (x:Str) (p:Str->Bool) (cnt:Str->Int) (S:List (List Str×Str)) (un:Str->Int) (hs:List (Str×Nat)) (wt:List Str):Prop where
 nd:(hs.map (·.1)).Nodup
 sub:∀ y∈hs.map (·.1),y∈R
 wn:wt.Nodup
 ws:∀ y∈wt,y∈hs.map (·.1)
 pp:∀ y,pb hs wt y=(p y||decide (y=x))
 Ut:∀ r∈R,un r=cnt r - (S.countP (fun q=>decide (q.2=r)):Int)
 z:∀ r∈R,r∈hs.map (·.1)↔un r=0
 snd:∀ q∈hs,LQ rows q.1 q.2
theorem HJ.put {rows:List ae} {R:List Str} {p:Str->Bool} {cnt un:Str->Int} {S:List (List Str×Str)} {hs:List (Str×Nat)} {wt:List Str} (h:HJ rows R x p cnt S un hs wt) {q:List Str×Str} (hq:q.2∈R) (h1:1<=un q.2) (h2:un q.2 - 1=0) {k:Nat} (hk:LQ rows q.2 k):HJ rows R x p cnt (S++[q]) (fun y=>if y=q.2 then un y - 1 else un y) (hs++[(q.2,k)]) (wt++[q.2]):=by
 have Dc:q.2 ∉ hs.map (·.1):=fun z=>by have:=(h.z _ hq).mp z;omega
 have Ih:q.2 ∉ wt:=fun z=>Dc (h.ws _ z)
 refine ⟨?_,fun y hy=>?_,?_,fun y hy=>?_,fun y=>?_,fun r hr=>?_,fun r hr=>?_,fun q' ud=>?_⟩
 ·rw [Qm,List.nodup_append]
  refine ⟨h.nd,by simp,fun a ha b hb=>?_⟩
  rw [List.map_cons,List.map_nil,List.mem_singleton] at hb
  exact fun z=>Dc (by rw [z,hb] at ha;exact ha)
 ·rw [Qm] at hy
  rcases List.mem_append.mp hy with hy | hy
  ·exact h.sub y hy
  ·rw [List.map_cons,List.map_nil,List.mem_singleton] at hy
   rw [hy];exact hq
 ·rw [List.nodup_append]
  refine ⟨h.wn,by simp,fun a ha b hb=>?_⟩
  rw [List.mem_singleton] at hb
  subst hb
  exact fun z=>Ih (z▸ha)
 ·rw [Qm]
  rcases List.mem_append.mp hy with hy | hy
  ·exact List.mem_append.mpr (.inl (h.ws y hy))
  ·rw [List.mem_singleton.mp hy];exact List.mem_append.mpr (.inr (by simp))
 ·rw [<- h.pp y]
  unfold pb
  by_cases e:y=q.2
  ·subst e
   simp [Dc]
  ·have e1:decide (y∈(hs++[(q.2,k)]).map (·.1))=decide (y∈hs.map (·.1)):=by
    rw [Qm]
    by_cases hh:y∈hs.map (·.1)
    ·rw [Qv hh,Qv (List.mem_append.mpr (.inl hh))]
    ·rw [Qw hh,Qw fun z=>?_]
     rcases List.mem_append.mp z with z | z
     ·exact hh z
     ·rw [List.map_cons,List.map_nil,List.mem_singleton] at z;exact e z
   have e2:decide (y∈wt++[q.2])=decide (y∈wt):=by
    by_cases hh:y∈wt<;>simp [hh,e]
   rw [e1,e2]
 ·have:=h.Ut r hr
  rw [List.countP_append]
  by_cases e:r=q.2
  ·subst e;simp;omega
  ·have e':q.2≠r:=fun z=>e z.symm
   simp [e,e'];omega
 ·have:=h.z r hr
  rw [Qm]
  by_cases e:r=q.2
  ·subst e
   simp only [if_true]
   exact ⟨fun _=>h2,fun _=>List.mem_append.mpr (.inr (by simp))⟩
  ·simp only [e,if_false]
   rw [<- this]
   constructor
   ·intro z
    rcases List.mem_append.mp z with z | z
    ·exact z
    ·rw [List.map_cons,List.map_nil,List.mem_singleton] at z;exact absurd z e
   ·exact fun z=>List.mem_append.mpr (.inl z)
 ·rcases List.mem_append.mp ud with z | z
  ·exact h.snd q' z
  ·rw [List.mem_singleton.mp z];exact hk
def hv (hs:List (Str×Nat)) (y:Str):Nat:=((hs.find? fun q=>decide (q.1=y)).map (·.2)).getD 0
theorem e_.add (x:e_ P w H h) (hn:H a=none) (new:b_ P w (upd H a o) h a o):e_ P w (upd H a o) h:=fun b u e=>by
 by_cases hb:b=a
 ·subst hb;rw [aA] at e;cases e;exact new
 ·rw [aF hb] at e
  exact (x b u e).stay (fun c v _ q=>q) (fun c q=>by rw [aF (aK q hn)];exact q) fun c xs q=>q.upd fun u hu=>aK hu hn
section
variable {o:Expr} {p Uu:Pos}
end
section
variable {o f:Expr} {td ty tx:TE}
end
abbrev LR:=List (Str×Road)
def Uv (acc:LR) (r:Str):Road:=((acc.find? fun q=>decide (q.1=r)).map (·.2)).getD []
def LU (acc:LR):Option (Str×List Str)->Road
 | none=>[]
 | some q=>Uv acc q.1++[q.2]
def Ii (cb:FJ):LR:=cb.foldl (fun acc c=>acc++[(c.1,LU acc c.2)]) []
def yj (xs ys:List Str):Prop:=∃ j,∃ (h1:j < xs.length) (h2:j < ys.length),(∀ i (g1:i < xs.length) (g2:i < ys.length),i < j->xs[i]=ys[i])/\xs[j]≠ys[j]/\decide (ys[j].cps.toList < xs[j].cps.toList)=false
end L2
namespace L2
open PySem PySem.Spec PyProof.Rows PySem.W
end L2
namespace L2
open PySem PySem.Spec PyProof.Rows
def dd (seen:List Str):List (Road×Str)->LR
 | []=>[]
 | q::P=>if q.2∈seen then dd seen P else (q.2,q.1)::dd (seen++[q.2]) P
structure QI (rows:List ae) (f:Str) (i:Nat) (found:LR) (P:List (Road×Str)):Prop where
 fd:found=(Ii (Ct rows f i)).take i
 pd:dd (found.map (·.1)) P=(Ii (Ct rows f i)).drop i
theorem QI.start (rows:List ae) (f:Str):QI rows f 0 [] [([],f)]:=⟨by simp,by simp [dd,Ct,Ii,LU]⟩
theorem oY {a b:Str} (h:om a b=true):a≠b/\decide (b.cps.toList < a.cps.toList)=false:=by
 unfold om at h
 have h1:=Qt h
 refine ⟨fun z=>?_,Qw fun h2=>?_⟩
 ·subst z;exact List.lt_irrefl _ h1
 ·exact List.lt_irrefl _ (List.lt_trans h1 h2)
theorem yj.ne {xs ys:List Str} (h:yj xs ys):xs≠ys:=fun z=>by
 subst z
 obtain ⟨j,h1,h2,_,h3,_⟩:=h
 exact h3 rfl
theorem vY (w:Str) {a b:Str} (h:om a b=true):yj [w,a] [w,b]:=by
 obtain ⟨h1,h2⟩:=oY h
 refine ⟨1,by simp,by simp,fun i g1 g2 hi=>?_,h1,h2⟩
 have:i=0:=by omega
 subst this;rfl
theorem Uw:yj ["from"] ["to"]:=⟨0,by simp,by simp,fun i g1 g2 hi=>absurd hi (by omega),by decide,by decide⟩
theorem wD:∀ {h:Hd},h.ok ns->h.bq.Pairwise fun m m'=>yj m.1 m'.1
 | .one _,_=>.nil
 | .as _,_=>.nil
 | .way x y,_=>by
  show List.Pairwise _ [((["from"]:List Str),x),(["to"],y)]
  exact .cons (fun m hm=>by rw [List.mem_singleton.mp hm];exact Uw) (.cons (fun m hm=>nomatch hm) .nil)
 | .prs s ps,ok=>by
  show List.Pairwise _ (ps.map fun p=>(([if s="box" then "part" else "case",p.1]:List Str),p.2))
  rw [List.pairwise_map]
  have:=iV ok.2.2.1
  rw [List.pairwise_map] at this
  exact this.imp fun h=>vY _ h
end L2
namespace L2
open PySem PySem.Spec PyProof.Rows PySem.W
section
variable {o:Expr} {p Uu:Pos}
end
end L2
namespace L2
open PySem PySem.Spec PyProof.Rows
section
variable {it d:Addr} {od:Obj} {es:Array DictEntry} {Q:Option Value->Shared->Prop}
end
section
variable {a b:Expr} {ta tb:TE} {pos:Pos}
end
inductive Th where
 | pick (w:Str) (t:Th)
 | Xm (ps:List (Str×Th))
section
variable {rows:List ae} {e:Str}
end
theorem zE {β:Type} {ps:List (α×β)} (nd:(ps.map (·.1)).Nodup) {z:α} {t t':β} (h:(z,t)∈ps) (h':(z,t')∈ps):t=t':=by
 obtain ⟨i,hi,e⟩:=Qi h
 obtain ⟨j,hj,e'⟩:=Qi h'
 have qo:i=j:=by
  refine (List.getElem_inj (h₀:=by simpa using hi) (h₁:=by simpa using hj) nd).mp ?_
  simp [e,e']
 subst qo
 rw [e] at e'
 exact (Prod.mk.inj e').2
structure PD (R:V->Th->Prop) (ws:List Str) (kvs:List (Key×V)):Prop where
 all:∀ q∈kvs,∃ z t,q.1=.inr z/\z∈ws/\R q.2 t
 nd:(kvs.map (·.1)).Nodup
section
variable {R R':V->Th->Prop} {kvs LV:List (Key×V)}
theorem PD.len (h:PD R ws kvs):kvs.length<=ws.length:=by
 have hc:∀ q:Key×V,∃ z:Str,q∈kvs->q.1=.inr z/\z∈ws:=fun q=>by
  by_cases hq:q∈kvs
  ·obtain ⟨z,t,h1,h2,_⟩:=h.all q hq;exact ⟨z,fun _=>⟨h1,h2⟩⟩
  ·exact ⟨"",fun z=>absurd z hq⟩
 obtain ⟨f,hf⟩:=Classical.axiomOfChoice hc
 have:=m8 (l:=kvs.map f) (m:=ws) ?_ ?_
 ·simpa using this
 ·refine List.pairwise_map.mpr ((List.pairwise_map.mp h.nd).imp_of_mem fun {a b} ha hb se e=>se ?_)
  rw [(hf a ha).1,(hf b hb).1,e]
 ·intro z hz
  obtain ⟨q,hq,rfl⟩:=List.mem_map.mp hz
  exact (hf q hq).2
theorem PD.put (h:PD R ws kvs) {v:V} {t:Th} (hz:z∈ws) (hv:R v t):PD R ws (putK kvs (.inr z) v):=by
 cases e:br kvs (.inr z) with
 | none=>
  refine ⟨fun q hq=>?_,sI _ h.nd e⟩
  rw [L2.cB _ e] at hq
  rcases List.mem_append.mp hq with hq | hq
  ·exact h.all q hq
  ·rw [List.mem_singleton.mp hq];exact ⟨z,t,rfl,hz,hv⟩
 | some u=>
  have ha:(kvs.any fun kv=>decide (kv.1=.inr z))=true:=by rw [bW,e];rfl
  unfold putK
  rw [if_pos ha]
  refine ⟨fun q hq=>?_,?_⟩
  ·obtain ⟨q',h1,rfl⟩:=List.mem_map.mp hq
   by_cases hk:q'.1=.inr z
   ·rw [if_pos hk];exact ⟨z,t,hk,hz,hv⟩
   ·rw [if_neg hk];exact h.all q' h1
  ·have ee:(kvs.map fun kv=>if kv.1=.inr z then (kv.1,v) else kv).map (·.1)=kvs.map (·.1):=by
    rw [Qn]
    refine List.map_congr_left fun q _=>?_
    show (if q.1=.inr z then (q.1,v) else q).1=q.1
    split<;>rfl
   rw [ee];exact h.nd
end
theorem Ux {k:Nat} (hr:fm k A):A.units+10 < cLine:=by have:=hr.un;omega
theorem wG {κ:Type} [DecidableEq κ] {kvs:List (κ×V)} {k k':κ} {v:V}:k'∈(putK kvs k v).map (·.1)↔k'∈kvs.map (·.1)\/k'=k:=by
 cases e:br kvs k with
 | none=>
  rw [L2.cB _ e,Qm,List.mem_append]
  simp
 | some u=>
  have ha:(kvs.any fun kv=>decide (kv.1=k))=true:=by rw [bW,e];rfl
  unfold putK
  rw [if_pos ha]
  have ee:(kvs.map fun kv=>if kv.1=k then (kv.1,v) else kv).map (·.1)=kvs.map (·.1):=by
   rw [Qn]
   refine List.map_congr_left fun q _=>?_
   show (if q.1=k then (q.1,v) else q).1=q.1
   split<;>rfl
  rw [ee]
  constructor
  ·exact .inl
  ·rintro (h | h)
   ·exact h
   ·rw [h];exact jO e
theorem af.uq {K:Q0} {xs:List V} (h:ao H a xs):af K H a xs:=.inl h
theorem LW {s:Str} {A B:Prop} (ht:s=z->A) (hf:s≠z->B):if (false^^decide (V.str s=V.str z))=true then A else B:=by
 by_cases h:s=z
 ·rw [Qv (congrArg V.str h)];exact ht h
 ·rw [Qw fun e=>h (V.str.inj e)];exact hf h
theorem LX {s:Str} {A B:Prop} (ht:s≠z->A) (hf:s=z->B):if (true^^decide (V.str s=V.str z))=true then A else B:=by
 by_cases h:s=z
 ·rw [Qv (congrArg V.str h)];exact hf h
 ·rw [Qw fun e=>h (V.str.inj e)];exact ht h
theorem wW (P:Program) (w:World) (hu:X.A.units+10 < cLine) (hP:X.prog=P:=by rfl) (hw:X.w=w:=by rfl):cj X (compareOp .NotIn) (LK P w true):=by subst hP hw;exact zT hu
theorem zH (P:Program) (w:World) {o:Expr} (hu:X.A.units+10 < cLine) (ho:SE X o to) (ha:SE X e te) (hP:X.prog=P:=by rfl) (hw:X.w=w:=by rfl)
  (qz:attributeBase o "add" X.env (eval o X.env)=eval o X.env:=by rfl)
  (zf:((backTo cpos (starEach [e] X.env)).all (fun x=> !x.1)&&(backToKw cpos (keywordEach [] X.env)).all (fun x=>x.1.isSome)
   &&decide ([e].length+([]:List Keyword).length+(if ([]:List Keyword).isEmpty then 0 else 1) < 30))=true:=by rfl)
  (q_:(apos.endLine==cpos.line)=true:=by rfl) (hs:starEach [e] X.env=(false,eval e X.env)::starEach [] X.env:=by rfl):
  SE X (.Call (.Attribute o "add" apos) [e] [] cpos) (LL P w to te):=by subst hP hw;exact Ub hu ho ha qz zf q_ hs
def eu (rows:List ae) (ns:List Str):Prop:=∃ H a xs ws,RT H a xs rows ns ws/\∀ z∈ws,Wd z
section
variable {rows:List ae}
theorem RT.jy {xs:List V} (rt:RT H a xs rows ns ws) (hw:∀ z∈ws,Wd z):eu rows ns:=⟨H,a,xs,ws,rt,hw⟩
theorem eu.stay (g:eu rows ns) {x:Str} (hx:x∈ns):iu rows ns (endOf rows x):=let ⟨_,_,_,_,rt,hw⟩:=g;rt.stay hw hx
theorem eu.uo (g:eu rows ns) {e:Str} (h:iu rows ns e):(e,aj rows e)∈bg rows/\(aj rows e).ok ns:=let ⟨_,_,_,_,rt,hw⟩:=g;rt.uo hw h
theorem eu.di (g:eu rows ns) {e e':Str} {s:List Str} (h:iu rows ns e) (m:L2.di rows e s=some e'):iu rows ns e':=let ⟨_,_,_,_,rt,hw⟩:=g;rt.di hw h m
theorem eu.few (g:eu rows ns):ns.length<=14:=let ⟨_,_,_,_,rt,hw⟩:=g;rt.few
theorem eu.Bm (g:eu rows ns):((bg rows).map (·.1)).Nodup:=let ⟨_,_,_,_,rt,hw⟩:=g;rt.Bm
theorem eu.jf (g:eu rows ns):(rows.map (·.1)).Nodup:=let ⟨_,_,_,_,rt,hw⟩:=g;rt.jf
theorem eu.nm (g:eu rows ns) (x:Str):x∈rows.map (·.1)↔x∈ns:=let ⟨_,_,_,_,rt,hw⟩:=g;rt.nm.mem_iff
theorem eu.ai (g:eu rows ns) (x:Str):x∈(bg rows).map (·.1)↔iu rows ns x:=by
 constructor
 ·intro h
  obtain ⟨r,hr,rfl⟩:=List.mem_map.mp h
  obtain ⟨h1,h2⟩:=List.mem_filter.mp hr
  refine ⟨(g.nm _).mp (List.mem_map.mpr ⟨r,h1,rfl⟩),cD _ ?_⟩
  show (aj rows r.1).nx=none
  rw [cS g.jf h1]
  simpa using h2
 ·intro h
  exact List.mem_map.mpr ⟨_,(g.uo h).1,rfl⟩
end
def stH (h:Hd):List (List Str):=h.bq.map (·.1)
def Cu (H:Hp) (b:Addr) (h:Hd):Prop:=∃ c us,H b=some (.tup [.str h.dm,.ref c])/\H c=some (.tup us)/\SV H us (stH h)
theorem Cu.same {H H':Hp} {b:Addr} {h:Hd} (m:Cu H b h) (s:aa H H'):Cu H' b h:=let ⟨c,us,e1,e2,e3⟩:=m;⟨c,us,s _ _ e1,s _ _ e2,e3.same s⟩
structure Cv (K:Q0) (mg:Str->Option Value) (H:Hp) (n:Addr) (rows:List ae) (ns:List Str):Prop where
 at_:∃ dx fs d1 d3 d4,H n=some (.ins (adr mg "Net") dx fs)/\fs.lookup ("rows":Str)=some (V.ref d1)/\fs.lookup ("marks":Str)=some (V.ref d3)/\fs.lookup ("moves":Str)=some (V.ref d4)/\
  (∀ x,x∈ns->fi H d1 (.str x) (some (.str (endOf rows x))))/\
  (∀ e,iu rows ns e->∃ b,fi H d3 (.str e) (some (.ref b))/\Cu H b (aj rows e))/\(∀ e,¬iu rows ns e->fi H d3 (.str e) none)/\
  (∀ e,iu rows ns e->∃ m o,fi H d4 (.str e) (some (.ref m))/\H m=some (.aq o (.dT (wl rows e))))
theorem Cv.same {K:Q0} {mg:Str->Option Value} {H H':Hp} {n:Addr} {rows:List ae} {ns:List Str} (h:Cv K mg H n rows ns) (s:aa H H'):Cv K mg H' n rows ns:=by
 obtain ⟨dx,fs,d1,d3,d4,h0,h1,h2,h3,h4,h5,h6,h7⟩:=h.at_
 exact ⟨dx,fs,d1,d3,d4,s _ _ h0,h1,h2,h3,fun x hx=>(h4 x hx).same s,fun e he=>let ⟨b,q1,q2⟩:=h5 e he;⟨b,q1.same s,q2.same s⟩,fun e he=>(h6 e he).same s,fun e he=>let ⟨m,o,q1,q2⟩:=h7 e he;⟨m,o,q1.same s,s _ _ q2⟩⟩
theorem H_.FN {K:Q0} {n:Addr} {rows:List ae} (h:H_ H (adr mg "Net") n rows) (g:eu rows ns):Cv K mg H n rows ns:=by
 obtain ⟨dx,fs,en,⟨⟨d1,o1,a1,a2⟩,_,⟨d3,o3,k3,c1,c2,c3⟩,⟨d4,o4,k4,e1,e2,e3⟩⟩⟩:=h
 refine ⟨dx,fs,d1,d3,d4,en,a1,c1,e1,fun x hx=>?_,fun e he=>?_,fun e he=>?_,fun e he=>?_⟩
 ·rw [<- iX g.jf ((g.nm x).mpr hx)]
  exact fi.rd (k:=Sum.inr x) (.inr ⟨o1,a2⟩)
 ·obtain ⟨v,h1,b,c,us,rfl,h2,h3,h4⟩:=c3.get g.Bm (g.uo he).1
  exact ⟨b,by rw [<- h1];exact fi.rd (k:=Sum.inr e) (.inr ⟨o3,c2⟩),c,us,h2,h3,h4⟩
 ·have hn:br k3 (.inr e)=none:=by
   cases hv:br k3 (.inr e) with
   | none=>rfl
   | some u=>
    have:=jO hv
    rw [c3.keys] at this
    obtain ⟨r,hr,e'⟩:=List.mem_map.mp this
    exact absurd ((g.ai e).mp (List.mem_map.mpr ⟨r,hr,Sum.inr.inj e'⟩)) he
  rw [<- hn]
  exact fi.rd (k:=Sum.inr e) (.inr ⟨o3,c2⟩)
 ·obtain ⟨v,h1,m,o,rfl,h2⟩:=e3.get g.Bm (g.uo he).1
  refine ⟨m,o,by rw [<- h1];exact fi.rd (k:=Sum.inr e) (.inr ⟨o4,e2⟩),?_⟩
  rw [uH he.2] at h2
  exact h2
theorem gE {rows:List ae} {e:Str} {s:List Str} (he:endOf rows e=e) (hs:s∈stH (aj rows e)):∃ e',di rows e s=some e':=by
 unfold di dw
 rw [he]
 obtain ⟨m,hm,rfl⟩:=List.mem_map.mp hs
 cases hf:List.find? (fun m':List Str×Str=>decide (m'.1=m.1)) ((aj rows e).bq.map fun m=>(m.1,endOf rows m.2)) with
 | some q=>exact ⟨q.2,rfl⟩
 | none=>
  have:=List.find?_eq_none.mp hf (m.1,endOf rows m.2) (List.mem_map.mpr ⟨m,hm,rfl⟩)
  simp at this
theorem LY {rows:List ae} {e:Str} (he:endOf rows e=e):(dw rows e).map (·.1)=stH (aj rows e):=by unfold dw stH;rw [he];simp [Qn,QB]
theorem xU {rows:List ae} {e:Str} (nd:((dw rows e).map (·.1)).Nodup) {m:List Str×Str} (hm:m∈dw rows e):di rows e m.1=some m.2:=by
 unfold di
 cases hf:(dw rows e).find? (fun m'=>decide (m'.1=m.1)) with
 | none=>
  have:=List.find?_eq_none.mp hf m hm
  simp at this
 | some q=>
  have h1:=List.mem_of_find?_eq_some hf
  have h2:q.1=m.1:=by simpa using List.find?_some hf
  have h3:(m.1,q.2)∈dw rows e:=by rw [<- h2];exact h1
  exact congrArg some (zE nd h3 (show (m.1,m.2)∈dw rows e from hm))
theorem eu.Ij {rows:List ae} (g:eu rows ns) {e:Str} (he:iu rows ns e):((dw rows e).map (·.1)).Nodup:=by
 rw [LY he.2];exact xO (g.uo he).2
theorem hZ {α:Type} [DecidableEq α]:∀ {l m:List α},l.Nodup->(∀ x∈l,x∈m)->l.length<=m.length
 | [],m,_,_=>Nat.zero_le _
 | a::l,m,nd,h=>by
  have ha:=h a List.mem_cons_self
  have h1:=hZ (l:=l) (m:=m.erase a) (List.nodup_cons.mp nd).2 fun x hx=>(List.mem_erase_of_ne (show x≠a from fun z=>(List.nodup_cons.mp nd).1 (by rw [<- z];exact hx))).mpr (h x (Qh _ hx))
  rw [List.length_erase_of_mem ha] at h1
  have hp:=List.length_pos_of_mem ha
  rw [List.length_cons]
  omega
theorem lL {α:Type} (f:α->Nat) (c:Nat):∀ l:List α,(∀ x∈l,f x=c)->(l.map f).sum=l.length*c
 | [],_=>by simp
 | a::l,h=>by
  rw [List.map_cons,List.sum_cons,lL f c l fun x hx=>h x (Qh _ hx),h a List.mem_cons_self,List.length_cons,Nat.add_mul]
  omega
theorem SV.rev {xs:List V} (h:SV H xs ss):SV H xs.reverse ss.reverse:=by
 have hl:=h.len
 refine ⟨by simp [hl],fun i h1 h2=>?_⟩
 rw [List.getElem_reverse,List.getElem_reverse]
 have:=h.at_ (xs.length - 1 - i) (by simp at h1;omega) (by simp at h2;omega)
 simpa [hl] using this
def gj (tr:List (Option (Nat×List Str))):Nat->Nat->List (List Str)
 | 0,_=>[]
 | n+1,i=>match tr[i]? with
  | some (some (j,s))=>gj tr n j++[s]
  | _=>[]
def FO (tr:List (Option (Nat×List Str))):Prop:=∀ (k j:Nat) (s:List Str),tr[k]? =some (some (j,s))->j < k
def DY (H:Hp) (v:V):Option (Nat×List Str)->Prop
 | none=>v=.ai
 | some q=>∃ b c,v=.ref b/\H b=some (.tup [.int (q.1:Int),.ref c])/\ao H c (q.2.map V.str)
structure ur (H:Hp) (vs:List V) (tr:List (Option (Nat×List Str))):Prop where
 len:vs.length=tr.length
 at_:∀ i (h:i < vs.length) (h':i < tr.length),DY H vs[i] tr[i]
theorem DY.keep {v:V} {o:Option (Nat×List Str)} (h:DY H v o) (s:Tk H H') (s2:∀ b ys,ao H b ys->ao H' b ys):DY H' v o:=by
 cases o with
 | none=>exact h
 | some q=>
  obtain ⟨t,b,h1,h2,h3⟩:=h
  exact ⟨t,b,h1,s _ _ h2,s2 _ _ h3⟩
theorem ur.keep {H H':Hp} {vs:List V} {tr:List (Option (Nat×List Str))} (h:ur H vs tr) (s:Tk H H') (s2:∀ b ys,ao H b ys->ao H' b ys):ur H' vs tr:=⟨h.len,fun i a b=>(h.at_ i a b).keep s s2⟩
theorem ur.same {H H':Hp} {vs:List V} {tr:List (Option (Nat×List Str))} (h:ur H vs tr) (s:aa H H'):ur H' vs tr:=h.keep s.ts fun b ys r=>r.same s
theorem ur.snoc {vs:List V} (h:ur H vs tr) {v:V} {o:Option (Nat×List Str)} (e:DY H v o):ur H (vs++[v]) (tr++[o]):=by
 have hl:=h.len
 refine ⟨by simp [hl],fun i h1 h2=>?_⟩
 by_cases bc:i < vs.length
 ·rw [Qe bc,Qe (by omega)]
  exact h.at_ i bc (by omega)
 ·have e':i=vs.length:=by simp at h1;omega
  subst e'
  rw [Qf (Qy _),Qf (by omega)]
  simp only [Nat.sub_self,hl,List.getElem_cons_zero]
  exact e
theorem jx.keep {xs:List V} (h:jx H xs u_) (s:∀ b ys,ao H b ys->ao H' b ys):jx H' xs u_:=⟨h.1,fun i a b=>let ⟨c,e1,e2⟩:=h.2 i a b;⟨c,e1,s _ _ e2⟩⟩
inductive Tv where
 | s (z:Str)
 | i (n:Int)
 | t (l:List Tv)
def TD (H:Hp):Nat->V->Tv->Prop
 | _,.str z,.s z'=>z=z'
 | _,.int k,.i j=>k=j
 | n+1,.ref a,.t ds=>∃ xs,ao H a xs/\xs.length=ds.length/\∀ j (h:j < xs.length) (h':j < ds.length),TD H n xs[j] ds[j]
 | _,_,_=>False
structure h_ (H:Hp) (n:Nat) (xs:List V) (ds:List Tv):Prop where
 len:xs.length=ds.length
 at_:∀ j (h:j < xs.length) (h':j < ds.length),TD H n xs[j] ds[j]
theorem TD.str {n:Nat} {z:Str}:TD H n (.str z) (.s z):=by cases n<;>rfl
theorem TD.int {n:Nat} {z:Int}:TD H n (.int z) (.i z):=by cases n<;>rfl
theorem TD.tup {n:Nat} {a:Addr} {xs:List V} {ds:List Tv} (h:ao H a xs) (t:h_ H n xs ds):TD H (n+1) (.ref a) (.t ds):=⟨xs,h,t.len,t.at_⟩
theorem h_.nil:h_ H n [] []:=⟨rfl,fun i h=>absurd h (by simp)⟩
theorem h_.cons {n:Nat} {x:V} {d:Tv} {xs:List V} {ds:List Tv} (h:TD H n x d) (t:h_ H n xs ds):h_ H n (x::xs) (d::ds):=⟨by simp [t.len],fun i h1 h2=>by
 cases i with
 | zero=>exact h
 | succ i=>exact t.at_ i (by simpa using h1) (by simpa using h2)⟩
theorem TD.uu {d:Tv} (h:TD H n (.ref a) d):∃ m ds xs,n=m+1/\d=.t ds/\ao H a xs/\h_ H m xs ds:=by
 cases n with
 | zero=>cases d<;>exact h.elim
 | succ n=>
  cases d with
  | t ds=>obtain ⟨xs,h1,h2,h3⟩:=h;exact ⟨n,ds,xs,rfl,rfl,h1,h2,h3⟩
  | _=>exact h.elim
theorem TD.zm {d:Tv} (h:TD H n (.str z) d):d=.s z:=by
 cases n<;>(cases d with
  | s z'=>exact congrArg Tv.s (show z=z' from h).symm
  | _=>exact h.elim)
theorem TD.zo {z:Int} {d:Tv} (h:TD H n (.int z) d):d=.i z:=by
 cases n<;>(cases d with
  | i z'=>exact congrArg Tv.i (show z=z' from h).symm
  | _=>exact h.elim)
theorem TD.v {n:Nat} {v:V} {d:Tv} (h:TD H n v d):(∃ z,v=.str z)\/(∃ z,v=.int z)\/∃ a,v=.ref a:=by
 cases n<;>(cases v<;>first | exact .inl ⟨_,rfl⟩ | exact .inr (.inl ⟨_,rfl⟩) | exact .inr (.inr ⟨_,rfl⟩) | (cases d<;>exact h.elim))
theorem TD.det:∀ {n m:Nat} {v:V} {d e:Tv},TD H n v d->TD H m v e->d=e
 | 0,m,v,d,e,h,h'=>by
  rcases h.v with ⟨z,rfl⟩ | ⟨z,rfl⟩ | ⟨a,rfl⟩
  ·rw [h.zm,h'.zm]
  ·rw [h.zo,h'.zo]
  ·obtain ⟨_,_,_,z,_⟩:=h.uu;cases z
 | n+1,m,v,d,e,h,h'=>by
  rcases h.v with ⟨z,rfl⟩ | ⟨z,rfl⟩ | ⟨a,rfl⟩
  ·rw [h.zm,h'.zm]
  ·rw [h.zo,h'.zo]
  ·obtain ⟨m1,ds,xs,e1,rfl,r1,t1⟩:=h.uu
   obtain ⟨m2,es,ys,e2,rfl,r2,t2⟩:=h'.uu
   cases e1
   have:=r1.inj r2
   subst this
   have l1:=t1.len
   have l2:=t2.len
   congr 1
   refine List.ext_getElem (by omega) fun i h1 h2=>?_
   exact TD.det (t1.at_ i (by omega) h1) (t2.at_ i (by omega) h2)
theorem i7 {ds es:List Tv} {e:Nat->Bool} (hl:ds.length=es.length) (h:∀ j (h1:j < ds.length) (h2:j < es.length),e j=true↔ds[j]=es[j]):(List.range ds.length).all e=true↔ds=es:=by
 rw [List.all_eq_true]
 constructor
 ·intro ha
  exact List.ext_getElem hl fun i h1 h2=>(h i h1 h2).mp (ha i (List.mem_range.mpr h1))
 ·rintro rfl j hj
  have:=List.mem_range.mp hj
  exact (h j this this).mpr rfl
theorem TD.Uy (I:Inv X pins σ H s):∀ {n:Nat} {m:Nat} {x y:V} {d e:Tv},TD H n x d->TD H m y e->∃ bo:Bool,(bo=true↔d=e)/\∀ (A:Around) (u v:Value),A.units+n < cLine->RelV x u->RelV y v->SeqAt.EqAt A s u v bo:=by
 intro n
 induction n with
 | zero=>
  intro m x y d e h h'
  rcases h.v with ⟨z,rfl⟩ | ⟨z,rfl⟩ | ⟨a,rfl⟩
  ·obtain rfl:=h.zm
   rcases h'.v with ⟨z',rfl⟩ | ⟨z',rfl⟩ | ⟨b,rfl⟩
   ·obtain rfl:=h'.zm
    exact ⟨z==z',by simp,fun A u v hu ru rv=>by obtain ⟨t,rfl⟩:=ru;obtain ⟨t',rfl⟩:=rv;exact SeqAt.EqAt.str_str z t z' t'⟩
   ·obtain rfl:=h'.zo
    exact ⟨false,by simp,fun A u v hu ru rv=>by obtain ⟨t,rfl⟩:=ru;obtain ⟨t',rfl⟩:=rv;exact SeqAt.EqAt.str_int z t z' t'⟩
   ·obtain ⟨_,ds,xs,rfl,rfl,r1,_⟩:=h'.uu
    refine ⟨false,by simp,fun A u v hu ru rv=>?_⟩
    obtain ⟨t,rfl⟩:=ru
    cases rv
    obtain ⟨i1,_,p1,_⟩:=I.tuple (af.uq r1)
    exact SeqAt.EqAt.str_tuple z t p1 (by omega)
  ·obtain rfl:=h.zo
   rcases h'.v with ⟨z',rfl⟩ | ⟨z',rfl⟩ | ⟨b,rfl⟩
   ·obtain rfl:=h'.zm
    exact ⟨false,by simp,fun A u v hu ru rv=>by obtain ⟨t,rfl⟩:=ru;obtain ⟨t',rfl⟩:=rv;exact SeqAt.EqAt.int_str z t z' t'⟩
   ·obtain rfl:=h'.zo
    exact ⟨z==z',by simp,fun A u v hu ru rv=>by obtain ⟨t,rfl⟩:=ru;obtain ⟨t',rfl⟩:=rv;exact SeqAt.EqAt.int_int z t z' t'⟩
   ·obtain ⟨_,ds,xs,rfl,rfl,r1,_⟩:=h'.uu
    refine ⟨false,by simp,fun A u v hu ru rv=>?_⟩
    obtain ⟨t,rfl⟩:=ru
    cases rv
    obtain ⟨i1,_,p1,_⟩:=I.tuple (af.uq r1)
    exact SeqAt.EqAt.int_tuple z t p1 (by omega)
  ·obtain ⟨_,_,_,z,_⟩:=h.uu;cases z
 | succ n ih=>
  intro m x y d e h h'
  rcases h.v with ⟨z,rfl⟩ | ⟨z,rfl⟩ | ⟨a,rfl⟩
  ·obtain ⟨bo,h1,h2⟩:=ih (m:=m) (TD.str (n:=n) (z:=z)) h'
   rw [h.zm]
   exact ⟨bo,h1,fun A u v hu=>h2 A u v (by omega)⟩
  ·obtain ⟨bo,h1,h2⟩:=ih (m:=m) (TD.int (n:=n) (z:=z)) h'
   rw [h.zo]
   exact ⟨bo,h1,fun A u v hu=>h2 A u v (by omega)⟩
  ·obtain ⟨n',ds,xs,e1,rfl,r1,t1⟩:=h.uu
   cases e1
   rcases h'.v with ⟨z',rfl⟩ | ⟨z',rfl⟩ | ⟨b,rfl⟩
   ·obtain rfl:=h'.zm
    refine ⟨false,by simp,fun A u v hu ru rv=>?_⟩
    obtain ⟨t,rfl⟩:=rv
    cases ru
    obtain ⟨i1,_,p1,_⟩:=I.tuple (af.uq r1)
    exact SeqAt.EqAt.tuple_str z' t p1 (by omega)
   ·obtain rfl:=h'.zo
    refine ⟨false,by simp,fun A u v hu ru rv=>?_⟩
    obtain ⟨t,rfl⟩:=rv
    cases ru
    obtain ⟨i1,_,p1,_⟩:=I.tuple (af.uq r1)
    exact SeqAt.EqAt.tuple_int z' t p1 (by omega)
   ·obtain ⟨m',es,ys,rfl,rfl,r2,t2⟩:=h'.uu
    by_cases se:a=b
    ·subst se
     refine ⟨true,⟨fun _=>TD.det h h',fun _=>rfl⟩,fun A u v hu ru rv=>?_⟩
     cases ru
     cases rv
     exact SeqAt.EqAt.same _
    ·obtain ⟨i1,v1,p1,_⟩:=I.tuple (af.uq r1)
     obtain ⟨i2,v2,p2,_⟩:=I.tuple (af.uq r2)
     have l1:=v1.length
     have l2:=v2.length
     have k1:=t1.len
     have k2:=t2.len
     have hc:∀ j:Nat,∃ bo:Bool,∀ (h1:j < ds.length) (h2:j < es.length),(bo=true↔ds[j]=es[j])/\∀ (A:Around) (u v:Value),A.units+n < cLine->RelV (xs[j]'(by omega)) u->RelV (ys[j]'(by omega)) v->SeqAt.EqAt A s u v bo:=fun j=>by
      by_cases hj:j < ds.length/\j < es.length
      ·obtain ⟨bo,q1,q2⟩:=ih (t1.at_ j (by omega) hj.1) (t2.at_ j (by omega) hj.2)
       exact ⟨bo,fun _ _=>⟨q1,q2⟩⟩
      ·exact ⟨false,fun h1 h2=>absurd ⟨h1,h2⟩ hj⟩
     obtain ⟨ev,zp⟩:=Classical.axiomOfChoice hc
     refine ⟨(List.range (min i1.toArray.size i2.toArray.size)).all ev&&i1.toArray.size==i2.toArray.size,?_,fun A u v hu ru rv=>?_⟩
     ·have s1:i1.toArray.size=ds.length:=by simp;omega
      have s2:i2.toArray.size=es.length:=by simp;omega
      rw [s1,s2,Bool.and_eq_true]
      constructor
      ·rintro ⟨q1,q2⟩
       have hl:ds.length=es.length:=by simpa using q2
       rw [<- hl,Nat.min_self] at q1
       exact congrArg Tv.t ((i7 hl fun j h1 h2=>(zp j h1 h2).1).mp q1)
      ·intro q
       have hq:ds=es:=by injection q
       have hl:ds.length=es.length:=by rw [hq]
       refine ⟨?_,by simp [hl]⟩
       rw [<- hl,Nat.min_self]
       exact (i7 hl fun j h1 h2=>(zp j h1 h2).1).mpr hq
     ·cases ru
      cases rv
      refine SeqAt.EqAt.of_refs se (SeqAt.RcAt.tuples (A:=A) (e:=ev) p1 p2 (by omega) fun j g1 g2=>?_)
      have j1:j < ds.length:=by simp at g1;omega
      have j2:j < es.length:=by simp at g2;omega
      obtain ⟨w1,f1,q1⟩:=v1.get (Qa (show j < xs.length by omega))
      obtain ⟨w2,f2,q2⟩:=v2.get (Qa (show j < ys.length by omega))
      have n1:i1.toArray[j]=w1:=by rw [Qa (by simpa using g1)] at f1;simpa using f1
      have n2:i2.toArray[j]=w2:=by rw [Qa (by simpa using g2)] at f2;simpa using f2
      rw [n1,n2]
      exact (zp j j1 j2).2 A.in1 w1 w2 (by rw [Around.in1_units];omega) q1 q2
theorem h_.Ik (I:Inv X pins σ H s) {m:Nat} {xs ys:List V} {ds es:List Tv} (t1:h_ H n xs ds) (t2:h_ H m ys es):∃ ev:Nat->Bool,(∀ j (h1:j < ds.length) (h2:j < es.length),ev j=true↔ds[j]=es[j])/\∀ (i1 i2:List Value),a_ xs i1->a_ ys i2->∀ (A:Around),A.units+n+1 < cLine->∀ (j:Nat) (h1:j < i1.toArray.size) (h2:j < i2.toArray.size),SeqAt.EqAt A.in1 s i1.toArray[j] i2.toArray[j] (ev j):=by
 have k1:=t1.len
 have k2:=t2.len
 have hc:∀ j:Nat,∃ bo:Bool,∀ (h1:j < ds.length) (h2:j < es.length),(bo=true↔ds[j]=es[j])/\∀ (A:Around) (u v:Value),A.units+n < cLine->RelV (xs[j]'(by omega)) u->RelV (ys[j]'(by omega)) v->SeqAt.EqAt A s u v bo:=fun j=>by
  by_cases hj:j < ds.length/\j < es.length
  ·obtain ⟨bo,q1,q2⟩:=TD.Uy I (t1.at_ j (by omega) hj.1) (t2.at_ j (by omega) hj.2)
   exact ⟨bo,fun _ _=>⟨q1,q2⟩⟩
  ·exact ⟨false,fun h1 h2=>absurd ⟨h1,h2⟩ hj⟩
 obtain ⟨ev,zp⟩:=Classical.axiomOfChoice hc
 refine ⟨ev,fun j h1 h2=>(zp j h1 h2).1,fun i1 i2 v1 v2 A hu j g1 g2=>?_⟩
 have l1:=v1.length
 have l2:=v2.length
 have j1:j < ds.length:=by simp at g1;omega
 have j2:j < es.length:=by simp at g2;omega
 obtain ⟨w1,f1,q1⟩:=v1.get (Qa (show j < xs.length by omega))
 obtain ⟨w2,f2,q2⟩:=v2.get (Qa (show j < ys.length by omega))
 have n1:i1.toArray[j]=w1:=by rw [Qa (by simpa using g1)] at f1;simpa using f1
 have n2:i2.toArray[j]=w2:=by rw [Qa (by simpa using g2)] at f2;simpa using f2
 rw [n1,n2]
 exact (zp j j1 j2).2 A.in1 w1 w2 (by rw [Around.in1_units];omega) q1 q2
def LZ (ng:Bool):R2:=fun x y H Q=>∃ n m d e a b,n<=60/\x=.ref a/\y=.ref b/\TD H n x d/\TD H m y e/\∀ bo:Bool,(bo=true↔d=e)->Q (.bl (ng^^bo)) H
theorem wN {ds es:List Tv} {s1 s2:Nat} {ev:Nat->Bool} (h1:s1=ds.length) (h2:s2=es.length) (zp:∀ j (h1:j < ds.length) (h2:j < es.length),ev j=true↔ds[j]=es[j]):((List.range (min s1 s2)).all ev&&s1==s2)=true↔Tv.t ds=.t es:=by
 subst h1 h2
 rw [Bool.and_eq_true]
 constructor
 ·rintro ⟨q1,q2⟩
  have hl:ds.length=es.length:=by simpa using q2
  rw [<- hl,Nat.min_self] at q1
  exact congrArg Tv.t ((i7 hl zp).mp q1)
 ·intro q
  have hq:ds=es:=by injection q
  have hl:ds.length=es.length:=by rw [hq]
  refine ⟨?_,by simp [hl]⟩
  rw [<- hl,Nat.min_self]
  exact (i7 hl zp).mpr hq
theorem tN (hu:X.A.units+100 < cLine):cj X (compareOp .Eq) (LZ false):=by
 intro pins s σ H x y v u Q I rx ry h
 obtain ⟨n,m,d,e,a,b,hn,rfl,rfl,h1,h2,q⟩:=h
 cases rx
 cases ry
 obtain ⟨n',ds,xs,rfl,rfl,r1,t1⟩:=h1.uu
 obtain ⟨m',es,ys,rfl,rfl,r2,t2⟩:=h2.uu
 obtain ⟨i1,v1,p1,_⟩:=I.tuple (af.uq r1)
 obtain ⟨i2,v2,p2,_⟩:=I.tuple (af.uq r2)
 have l1:=v1.length
 have l2:=v2.length
 have k1:=t1.len
 have k2:=t2.len
 obtain ⟨ev,e1,e2⟩:=h_.Ik I t1 t2
 refine SeqAt.RcAt.tuples (A:=X.A) (e:=ev) p1 p2 (by omega) (e2 i1 i2 v1 v2 X.A (by omega)) _ _ _ _ ?_
 refine ⟨.bl _,H,I,rfl,?_⟩
 have:=q _ (wN (s1:=i1.toArray.size) (s2:=i2.toArray.size) (by simp;omega) (by simp;omega) e1)
 rw [QE] at this
 exact this
theorem sX (hu:X.A.units+100 < cLine):cj X (compareOp .NotEq) (LZ true):=by
 intro pins s σ H x y v u Q I rx ry h
 obtain ⟨n,m,d,e,a,b,hn,rfl,rfl,h1,h2,q⟩:=h
 cases rx
 cases ry
 obtain ⟨n',ds,xs,rfl,rfl,r1,t1⟩:=h1.uu
 obtain ⟨m',es,ys,rfl,rfl,r2,t2⟩:=h2.uu
 obtain ⟨i1,v1,p1,_⟩:=I.tuple (af.uq r1)
 obtain ⟨i2,v2,p2,_⟩:=I.tuple (af.uq r2)
 have l1:=v1.length
 have l2:=v2.length
 have k1:=t1.len
 have k2:=t2.len
 obtain ⟨ev,e1,e2⟩:=h_.Ik I t1 t2
 refine SeqAt.RcNeAt.tuples (A:=X.A) (e:=ev) p1 p2 (by omega) (e2 i1 i2 v1 v2 X.A (by omega)) _ _ _ _ ?_
 refine ⟨.bl _,H,I,rfl,?_⟩
 have:=q _ (wN (s1:=i1.toArray.size) (s2:=i2.toArray.size) (by simp;omega) (by simp;omega) e1)
 rw [Bool.true_xor] at this
 exact this
def Uz (K:Q0) (ng:Bool):R2:=fun x y H Q=>∃ n m a b xs ys ds es,n<=60/\x=.ref a/\y=.ref b/\ak K H a xs/\ak K H b ys/\h_ H n xs ds/\h_ H m ys es/\∀ bo:Bool,(bo=true↔ds=es)->Q (.bl (ng^^bo)) H
theorem UA (K:Q0) (hu:X.A.units+100 < cLine) (hK:X.K=K:=by rfl):cj X (compareOp .Eq) (Uz K false):=by
 subst hK
 intro pins s σ H x y v u Q I rx ry h
 obtain ⟨n,m,a,b,xs,ys,ds,es,hn,rfl,rfl,h1,h2,t1,t2,q⟩:=h
 cases rx
 cases ry
 obtain ⟨i1,v1,p1,_⟩:=I.list h1
 obtain ⟨i2,v2,p2,_⟩:=I.list h2
 have l1:=v1.length
 have l2:=v2.length
 have k1:=t1.len
 have k2:=t2.len
 obtain ⟨ev,e1,e2⟩:=h_.Ik I t1 t2
 have E8:i1.toArray.size=ds.length:=by simp;omega
 have vn:i2.toArray.size=es.length:=by simp;omega
 by_cases hl:ds.length=es.length
 ·refine SeqAt.RcAt.lists (A:=X.A) (e:=ev) p1.isList p2.isList (by omega) (by omega) (e2 i1 i2 v1 v2 X.A (by omega)) _ _ _ _ ?_
  rw [E8]
  exact ⟨.bl _,H,I,rfl,by have:=q _ (i7 hl e1);rw [QE] at this;exact this⟩
 ·refine SeqAt.RcAt.lists_lengths (A:=X.A) p1.isList p2.isList (by rw [E8,vn];simpa using hl) (by omega) _ _ _ _ ?_
  exact ⟨.bl _,H,I,rfl,by have:=q false ⟨(fun z=>nomatch z),fun z=>absurd (congrArg List.length z) hl⟩;rw [QE] at this;exact this⟩
theorem UB {K:Q0} {cd:Value} {q:Str} (h:PySem.W.codeIn K cd q=true):PySem.W.kdsCode K cd=true:=by
 unfold PySem.W.codeIn at h
 unfold PySem.W.kdsCode
 split at h
 ·split at h
  ·rename_i hl;simp only [hl]
  ·cases h
 ·cases h
theorem dz.UC {K:Q0} {st:Stmt} {k:Nat} (F:dz K mg x st ps) (S:ef N ps (be st)) (len:∀ vs H Q E,sp vs H Q E->vs.length=ps.length)
  (vp:∀ (f:Addr) (ay:Value),PySem.W.kdsCode K ay=true->∀ (A:Around) (outer:List Env) (s:Shared) (H:Hp) (vs:List V) (Q:VK) (E:XK),fm k (A.deeper (envOfC x (be st) s.heap.objs.size f ay))->sp vs H Q E->
   ∃ t,SB (xw x_ P w K mg base N x (be st) f ay A outer s H E).yx (jr st) t/\t {nx:=fun _ H'=>Q .ai H',rt:=Q} (start N vs) H):az P w K mg base (k+1) x ps sp:=by
 obtain ⟨f,fd,Fu,m,b⟩:=F
 obtain ⟨oc,od,kV,doc,pm,an,ay,ct,ky,rfl,lk,jc⟩:=Fu.ex
 refine ⟨f,_,Ku lk jc S len fun A outer s H vs Q E hr xx=>?_,m,Fu.kp,b,⟨oc,od,ky,lk⟩⟩
 obtain ⟨t,h,q⟩:=vp f ay (UB jc) A outer s H vs Q E hr xx
 exact ⟨t,h.h.yx,q⟩
section
variable {pos:Pos}
theorem UD:SE X (.Dict [] [] pos) KL:=⟨vL⟩
def UE (P:Program) (w:World) (te:TE):TE:=fun σ H Q=>∀ S,H S=none->te σ (upd H S (ii P w S [])) fun x H1=>∃ b ks,x=.ref b/\ao H1 b (ks.map kV)/\H1 S=some (ii P w S [])/\Q (.ref S) (upd H1 S (ii P w S [(ks,b)]))
theorem UG (P:Program) (w:World) (hu:X.A.units+10 < cLine) (hk:PySem.W.kdsCode X.K X.env.code=true) (he:SE X e te) (hP:X.prog=P:=by rfl) (hw:X.w=w:=by rfl) (hs:starEach [e] X.env=[(false,eval e X.env)]:=by rfl):SE X (.Set [e] 0 pos) (UE P w te):=by
 subst hP hw
 constructor
 intro pins s σ H Q I q
 rw [arm_eval_Set]
 refine QT (wpAny_standAt (QT (PySem.W.kds_main I.qm hk fun b=>?_)))
 refine PySem.W.kds_core (by rfl) (by rw [hs];rfl) (by rw [hs];simp) rfl fun led=>?_
 rw [hs]
 have hn:=I.hok.fresh (Qy s.heap.objs.size)
 have I1:=I.laid (a:=s.heap.objs.size) (o:=ii X.prog X.w s.heap.objs.size []) (h':=s.heap.push {cls:=Value.type "set",data:=Data.set #[] 0 (SetTable.fresh 0 0 led)}) (t':=s.toks) (fun _ _ q=>Qc _ q) (Qy _) (qg.HY (yJ (Qd _ rfl)))
 show wpAny _ _ (evalAll [(do let v <- eval e X.env;standAt pos;pure v)]) _ _ _
 refine wpAny_evalAll_cons (QT (au (he.h pins _ σ _ _ I1 (q _ hn)) fun u s1 ⟨x,H1,J1,r1,b',ks,ex,rd,hS,q1⟩=>QT (wpAny_standAt (QU (wpAny_evalAll_nil ?_)))))
 subst ex
 cases r1
 have hS':qg X.prog X.w H1 s.heap.objs.size []:=⟨hS,fun p hp=>nomatch hp⟩
 obtain ⟨h1,h2⟩:=hS'.real J1
 refine PySem.W.kds_fill_cons (lN (by omega) h1 h2 (dY J1.hok rd) (by simp) (fun h tk _=>absurd h (by simp)) fun _ h' tk _ sb st=>PySem.W.kds_fill_nil rfl ?_)
 exact ⟨.ref s.heap.objs.size,_,J1.write (by rw [hS];trivial) (.inl rfl) (fun b u n e=>by rw [sb.2 b n];exact e) (let ⟨o,_,_,_,ho,_⟩:=st;⟨o,ho⟩) (qg.HY st),rfl,q1⟩
end
abbrev Tg:=Str×Str
def bj (t:Tg):List Key:=[.inr t.1,.inr t.2]
theorem mL {t u:Tg} (h:bj t=bj u):t=u:=by
 obtain ⟨a,b⟩:=t
 obtain ⟨a',b'⟩:=u
 simp only [bj,List.cons.injEq,Sum.inr.injEq,and_true] at h
 obtain ⟨rfl,rfl⟩:=h
 rfl
theorem wM {t:Tg} {ts:List Tg}:bj t∈ts.map bj↔t∈ts:=by
 constructor
 ·intro h
  obtain ⟨u,hu,e⟩:=List.mem_map.mp h
  rw [<- mL e];exact hu
 ·intro h;exact List.mem_map.mpr ⟨t,h,rfl⟩
abbrev AF:=Tg->Option Tg
end L2
variable {f:L2.AF} {U:List L2.Tg}
namespace L2
open PySem PySem.Spec PyProof.Rows
def iw (f:AF) (x y:Tg):AF:=fun z=>if z=x then some y else f z
inductive bx (f:AF):Tg->Tg->Prop where
 | top {x:Tg} (h:f x=none):bx f x x
 | up {x u r:Tg} (h:f x=some u) (t:bx f u r):bx f x r
theorem bx.root {x r:Tg} (h:bx f x r):f r=none:=by
 induction h with
 | top h=>exact h
 | up _ _ ih=>exact ih
theorem bx.wm {x r r':Tg} (h:bx f x r) (h':bx f x r'):r=r':=by
 induction h with
 | top h=>
  cases h' with
  | top _=>rfl
  | up h1 _=>rw [h] at h1;cases h1
 | up h1 _ ih=>
  cases h' with
  | top h=>rw [h] at h1;cases h1
  | up h2 t=>rw [h1] at h2;cases h2;exact ih t
def jz (f:AF) (n:Nat):Prop:=∃ ρ:Tg->Nat,(∀ x y,f x=some y->ρ x < ρ y)/\∀ x,ρ x<=n
theorem jz.short (a:jz f n) {x u v:Tg} (h1:f x=some u) (h2:f u=some v):jz (iw f x v) n/\∀ z r,bx f z r->bx (iw f x v) z r:=by
 obtain ⟨ρ,p1,p2⟩:=a
 refine ⟨⟨ρ,fun z y h=>?_,p2⟩,fun z r h=>?_⟩
 ·unfold iw at h
  split at h
  ·rename_i hz
   cases h
   rw [hz]
   exact Nat.lt_trans (p1 _ _ h1) (p1 _ _ h2)
  ·exact p1 _ _ h
 ·have L0:u≠x:=fun e=>by have:=p1 _ _ h1;rw [e] at this;omega
  induction h with
  | @top z h=>
   refine .top ?_
   unfold iw
   rw [if_neg (fun e=>by rw [e,h1] at h;cases h)];exact h
  | @up z w r h t ih=>
   by_cases hz:z=x
   ·subst hz
    rw [h1] at h;cases h
    cases ih with
    | top h'=>unfold iw at h';rw [if_neg L0,h2] at h';cases h'
    | up h' t'=>
     unfold iw at h'
     rw [if_neg L0,h2] at h';cases h'
     exact .up (by unfold iw;rw [if_pos rfl]) t'
   ·exact .up (by unfold iw;rw [if_neg hz];exact h) ih
theorem jz.join (a:jz f n) {x y:Tg} (hx:f x=none) (hy:f y=none) (ne:x≠y):jz (iw f x y) (n+1)/\(∀ z r,bx f z r->bx (iw f x y) z (if r=x then y else r)):=by
 obtain ⟨ρ,p1,p2⟩:=a
 refine ⟨⟨fun z=>if z=y then n+1 else ρ z,fun z v h=>?_,fun z=>?_⟩,fun z r h=>?_⟩
 ·dsimp only
  unfold iw at h
  split at h
  ·rename_i hz
   cases h
   rw [if_pos rfl,if_neg (by rw [hz];exact ne)]
   have:=p2 z;omega
  ·have UH:z≠y:=fun e=>by rw [e,hy] at h;cases h
   rw [if_neg UH]
   have h1:=p1 _ _ h
   have h2:=p2 z
   split<;>omega
 ·dsimp only
  have:=p2 z
  split<;>omega
 ·induction h with
  | @top z h=>
   by_cases hz:z=x
   ·rw [if_pos hz]
    refine .up (u:=y) (by unfold iw;rw [if_pos hz]) (.top ?_)
    unfold iw;rw [if_neg ne.symm];exact hy
   ·rw [if_neg hz]
    exact .top (by unfold iw;rw [if_neg hz];exact h)
  | @up z w r h t ih=>
   have hz:z≠x:=fun e=>by rw [e,hx] at h;cases h
   exact .up (by unfold iw;rw [if_neg hz];exact h) ih
theorem gF (a:jz f n) (x:Tg):∃ r,bx f x r:=by
 obtain ⟨ρ,p1,p2⟩:=a
 have:∀ m x,n - ρ x<=m->∃ r,bx f x r:=by
  intro m
  induction m with
  | zero=>
   intro x hx
   cases h:f x with
   | none=>exact ⟨x,.top h⟩
   | some u=>have h1:=p1 _ _ h;have h2:=p2 u;omega
  | succ m ih=>
   intro x hx
   cases h:f x with
   | none=>exact ⟨x,.top h⟩
   | some u=>
    have h1:=p1 _ _ h
    have h2:=p2 u
    obtain ⟨r,hr⟩:=ih u (by omega)
    exact ⟨r,.up h hr⟩
 exact this _ x (Qy _)
structure gb (H:Hp) (D:Addr) (U:List Tg) (f:AF) (n:Nat):Prop where
 ex:∃ kvs:List (List Key×V),H D=some (.dT kvs)/\kvs.length=n/\(kvs.map (·.1)).Nodup/\(∀ k∈kvs.map (·.1),k∈U.map bj)/\∀ x,(br kvs (bj x)=none/\f x=none)\/∃ b y,br kvs (bj x)=some (.ref b)/\ao H b ((bj y).map kV)/\f x=some y/\y∈U
theorem rF:∀ {l m:List α},l.Nodup->(∀ x∈l,x∈m)->l.length<=m.length:=by
 classical
 intro l m h1 h2
 exact @hZ α (Classical.typeDecidableEq α) l m h1 h2
theorem gb.few (h:gb H D U f n):n<=U.length:=by
 obtain ⟨kvs,_,h2,h3,h4,_⟩:=h.ex
 have:=rF h3 h4
 rw [Ql,Ql] at this
 omega
theorem gb.keep (h:gb H D U f n) (e:∀ o,H D=some o->H' D=some o) (k:∀ b ys,ao H b ys->ao H' b ys):gb H' D U f n:=by
 obtain ⟨kvs,h1,h2,h3,h4,h5⟩:=h.ex
 exact ⟨kvs,e _ h1,h2,h3,h4,fun x=>(h5 x).imp id fun ⟨b,y,q1,q2,q3⟩=>⟨b,y,q1,k _ _ q2,q3⟩⟩
theorem gb.same {H H':Hp} {D:Addr} {U:List Tg} {f:AF} {n:Nat} (h:gb H D U f n) (s:aa H H'):gb H' D U f n:=h.keep (fun o e=>s _ _ e) fun b ys r=>r.same s
theorem zU {kvs:List (List Key×V)} {k:List Key} {v u:V} (hn:(kvs.map (·.1)).Nodup) (h:br kvs k=some u):(putK kvs k v).map (·.1)=kvs.map (·.1):=by
 have ha:(kvs.any fun kv=>decide (kv.1=k))=true:=by rw [bW,h];rfl
 unfold putK
 rw [if_pos ha,Qn]
 refine List.map_congr_left fun q _=>?_
 show (if q.1=k then (q.1,v) else q).1=q.1
 split<;>rfl
theorem iK {kvs:List (List Key×V)} (e:H D=some (.dT kvs)):∀ b ys,ao H b ys->ao (upd H D o) b ys:=fun b ys h=>h.put e (fun _ z=>nomatch z) (fun _ _ z=>nomatch z)
theorem gb.short {kvs:List (List Key×V)} {x u v:Tg} {c:Addr} (e:H D=some (.dT kvs)) (h:gb H D U f n) (h1:f x=some u) (hv:v∈U) (hc:ao H c ((bj v).map kV)):gb (upd H D (.dT (putK kvs (bj x) (.ref c)))) D U (iw f x v) n:=by
 obtain ⟨LV,g1,g2,g3,g4,g5⟩:=h.ex
 rw [e] at g1;cases g1
 have hx:∃ w,br kvs (bj x)=some w:=by
  rcases g5 x with ⟨_,q⟩ | ⟨b,y,q,_⟩
  ·rw [h1] at q;cases q
  ·exact ⟨_,q⟩
 obtain ⟨w,hx⟩:=hx
 have ek:=zU (v:=.ref c) g3 hx
 refine ⟨_,aA,?_,by rw [ek];exact g3,by rw [ek];exact g4,fun z=>?_⟩
 ·have:=congrArg List.length ek
  rw [Ql,Ql] at this
  omega
 ·rw [k7]
  unfold iw
  by_cases hz:z=x
  ·subst hz
   rw [if_pos rfl,if_pos rfl]
   exact .inr ⟨c,v,rfl,iK e _ _ hc,rfl,hv⟩
  ·rw [if_neg (fun q=>hz (mL q)),if_neg hz]
   exact (g5 z).imp id fun ⟨b,y,q1,q2,q3⟩=>⟨b,y,q1,iK e _ _ q2,q3⟩
theorem gb.join {kvs:List (List Key×V)} {x v:Tg} {c:Addr} (e:H D=some (.dT kvs)) (h:gb H D U f n) (h1:f x=none) (hx:x∈U) (hv:v∈U) (hc:ao H c ((bj v).map kV)):gb (upd H D (.dT (putK kvs (bj x) (.ref c)))) D U (iw f x v) (n+1):=by
 obtain ⟨LV,g1,g2,g3,g4,g5⟩:=h.ex
 rw [e] at g1;cases g1
 have hn:br kvs (bj x)=none:=by
  rcases g5 x with ⟨q,_⟩ | ⟨b,y,_,_,q,_⟩
  ·exact q
  ·rw [h1] at q;cases q
 refine ⟨_,aA,?_,sI _ g3 hn,fun k hk=>?_,fun z=>?_⟩
 ·rw [L2.cB _ hn];simp;omega
 ·rw [wG] at hk
  rcases hk with hk | hk
  ·exact g4 k hk
  ·rw [hk];exact List.mem_map.mpr ⟨x,hx,rfl⟩
 ·rw [k7]
  unfold iw
  by_cases hz:z=x
  ·subst hz
   rw [if_pos rfl,if_pos rfl]
   exact .inr ⟨c,v,rfl,iK e _ _ hc,rfl,hv⟩
  ·rw [if_neg (fun q=>hz (mL q)),if_neg hz]
   exact (g5 z).imp id fun ⟨b,y,q1,q2,q3⟩=>⟨b,y,q1,iK e _ _ q2,q3⟩
theorem ao.sx {ys:List V} (r:ao H b ys) (s:Sx D H H') (a:gb H D U f n):ao H' b ys:=by
 obtain ⟨kvs,g1,_⟩:=a.ex
 rcases r with r | ⟨o,r⟩
 ·exact .inl (s _ _ (fun z=>by rw [z,g1] at r;cases r) r)
 ·exact .inr ⟨o,s _ _ (fun z=>by rw [z,g1] at r;cases r) r⟩
theorem L1 {t:Tg} (h:ao H b ((bj t).map kV)):TD H 1 (.ref b) (.t [.s t.1,.s t.2]):=TD.tup h (.cons TD.str (.cons TD.str .nil))
theorem UI {t u:Tg}:(Tv.t [.s t.1,.s t.2]=.t [.s u.1,.s u.2])↔t=u:=by
 obtain ⟨a,b⟩:=t
 obtain ⟨a',b'⟩:=u
 simp
theorem uC {K : Q0} {ad : Addr} {o : Obj} {kvs : List (List Key × V)} {a b : Nat} {tc : TC} {te : TE} {τ0 : St} {H0 : Hp} {D : Addr} {Q : Hp -> Prop} (Pv : Nat -> St -> Hp -> Prop) (h0 : Pv 0 τ0 H0)
    (hok : ∀ i τ H, i <= kvs.length -> Pv i τ H -> H ad = some (.aq o (.dT kvs)))
    (hs : ∀ i τ H T c, (hi : i < kvs.length) -> Pv i τ H -> H T = none -> ao H c (kvs[i].1.map kV) -> tc ((τ.set a (some (.ref c))).set b (some kvs[i].2)) (upd H T (.tup [.ref c, kvs[i].2])) fun bo H3 => if bo = true then te ((τ.set a (some (.ref c))).set b (some kvs[i].2)) H3 fun y H4 => ∃ xs, H4 D = some (.lst xs) /\ xs.length < sizeLine /\ Pv (i + 1) ((τ.set a (some (.ref c))).set b (some kvs[i].2)) (upd H4 D (.lst (xs ++ [y]))) else Pv (i + 1) ((τ.set a (some (.ref c))).set b (some kvs[i].2)) H3)
    (hd : ∀ τ H, Pv kvs.length τ H -> Q H) : ∃ W : Nat -> Nat -> St -> Hp -> Prop, (∃ m, W 0 m τ0 H0) /\ ∀ i m τ H, W i m τ H ->
      ((DW ad o kvs).stop i H /\ Q H) \/ ((DW ad o kvs).go i H /\ ∃ N : St -> Hp -> Prop, (∀ τ' H', N τ' H' -> ∃ m', m' < m /\ W (i + 1) m' τ' H') /\ ∀ x H', (DW ad o kvs).l_ i H x H' -> g2 K a b x τ H' fun τ2 H2 => tc τ2 H2 fun b H3 =>
        if b = true then te τ2 H3 fun y H4 => ∃ xs, H4 D = some (.lst xs) /\ xs.length < sizeLine /\ N τ2 (upd H4 D (.lst (xs ++ [y]))) else N τ2 H3) := by
  refine ⟨fun i m τ H => m = kvs.length - i /\ i <= kvs.length /\ Pv i τ H, ⟨kvs.length, by simp, Nat.zero_le _, h0⟩, ?_⟩
  rintro i m τ H ⟨rfl, hi, p⟩
  have hk := hok i τ H hi p
  by_cases bc : i < kvs.length
  · refine .inr ⟨⟨hk, bc⟩, Pv (i + 1), fun σ' H' p' => ⟨kvs.length - (i + 1), by omega, rfl, bc, p'⟩, fun x H' y => ?_⟩
    obtain ⟨c, kv, FP, rd, T, rfl, hT, rfl⟩ := y
    have e : kv = kvs[i] := by rw [Qa bc] at FP; exact (QD FP).symm
    subst e
    exact fJ aA (hs i τ _ T c bc p hT rd)
  · have e : i = kvs.length := by omega
    subst e
    exact .inl ⟨⟨hk, rfl⟩, hd τ H p⟩
def ou (H:Hp) (xs:List V):Prop:=∀ v∈xs,∃ c us,v=.ref c/\H c=some (.tup us)
theorem ou.tk {xs:List V} (h:ou H xs) (s:Tk H H'):ou H' xs:=fun v hv=>let ⟨c,us,e1,e2⟩:=h v hv;⟨c,us,e1,s _ _ e2⟩
theorem ou.same {xs:List V} (h:ou H xs) (s:aa H H'):ou H' xs:=h.tk s.ts
theorem ou.snoc {xs:List V} (h:ou H xs) {c:Addr} {us:List V} (e:H c=some (.tup us)):ou H (xs++[.ref c]):=fun v hv=>by
 rcases List.mem_append.mp hv with hv | hv
 ·exact h v hv
 ·rw [List.mem_singleton.mp hv];exact ⟨c,us,rfl,e⟩
theorem ou.nil:ou H []:=fun v hv=>nomatch hv
abbrev Pr:=Str×Str
end L2
variable {c:L2.Pr×Option (Nat×List PySem.Str)}
namespace L2
open PySem PySem.Spec PyProof.Rows
def fu (r1 r2:List ae) (p:Pr) (s:List Str):Pr:=((di r1 p.1 s).getD "",(di r2 p.2 s).getD "")
def fh (r1 r2:List ae) (p:Pr):Prop:=(aj r1 p.1).dm=(aj r2 p.2).dm/\stH (aj r1 p.1)=stH (aj r2 p.2)
structure mw (r1 r2:List ae) (n1 n2:List Str) (p:Pr):Prop where
 a:iu r1 n1 p.1
 b:iu r2 n2 p.2
def lf (a:Str):Tg:=("left",a)
def rg (a:Str):Tg:=("right",a)
def su (n1 n2:List Str):List Tg:=n1.map lf++n2.map rg
theorem mw.behind (g1:eu r1 n1) (g2:eu r2 n2) {p:Pr} (h:mw r1 r2 n1 n2 p) (m:fh r1 r2 p) {s:List Str} (h1:s∈stH (aj r1 p.1)):mw r1 r2 n1 n2 (fu r1 r2 p s):=by
 obtain ⟨e1,m1⟩:=gE h.a.2 h1
 obtain ⟨e2,m2⟩:=gE h.b.2 (by rw [<- m.2];exact h1)
 refine ⟨?_,?_⟩
 ·show iu r1 n1 ((di r1 p.1 s).getD "")
  rw [m1];exact g1.di h.a m1
 ·show iu r2 n2 ((di r2 p.2 s).getD "")
  rw [m2];exact g2.di h.b m2
structure mz (H:Hp) (us:List V) (ps:List (List Str×Pr)):Prop where
 len:us.length=ps.length
 at_:∀ i (h:i < us.length) (h':i < ps.length),∃ c b e,us[i]=.ref c/\H c=some (.tup [.ref b,.ref e])/\ao H b (ps[i].1.map V.str)/\H e=some (.tup ((bj ps[i].2).map kV))
section
variable {us:List V} {ps:List (List Str×Pr)}
theorem mz.keep (h:mz H us ps) (s:Tk H H') (s2:∀ b ys,ao H b ys->ao H' b ys):mz H' us ps:=⟨h.len,fun i a b=>let ⟨c,d,e,h1,h2,h3,h4⟩:=h.at_ i a b;⟨c,d,e,h1,s _ _ h2,s2 _ _ h3,s _ _ h4⟩⟩
theorem mz.same (h:mz H us ps) (s:aa H H'):mz H' us ps:=h.keep s.ts fun b ys r=>r.same s
theorem mz.nil:mz H [] []:=⟨rfl,fun i h=>absurd h (by simp)⟩
theorem mz.snoc (h:mz H us ps) {c e:Addr} {p:List Str×Pr} (g2:H c=some (.tup [.ref b,.ref e])) (h3:ao H b (p.1.map V.str)) (h4:H e=some (.tup ((bj p.2).map kV))):mz H (us++[.ref c]) (ps++[p]):=by
 have hl:=h.len
 refine ⟨by simp [hl],fun i h1 h2=>?_⟩
 by_cases bc:i < us.length
 ·rw [Qe bc,Qe (by omega)]
  exact h.at_ i bc (by omega)
 ·have e':i=us.length:=by simp at h1;omega
  subst e'
  rw [Qf (Qy _),Qf (by omega)]
  simp only [Nat.sub_self,hl,List.getElem_cons_zero]
  exact ⟨c,b,e,rfl,g2,h3,h4⟩
end
def gm (r1 r2:List ae) (p:Pr):List (List Str×Pr):=(stH (aj r1 p.1)).map fun s=>(s,fu r1 r2 p s)
def Bo (s:List Str):Tv:=.t (s.map Tv.s)
def FQ (h:Hd):Tv:=.t [.s h.dm,.t ((stH h).map Bo)]
theorem pA {H:Hp} {n:Nat}:∀ s:List Str,h_ H n (s.map V.str) (s.map Tv.s)
 | []=>.nil
 | z::s=>.cons TD.str (pA s)
theorem SV.Il {us:List V} (h:SV H us ss):h_ H 1 us (ss.map Bo):=by
 have hl:=h.len
 refine ⟨by simpa using hl,fun i h1 h2=>?_⟩
 obtain ⟨b,e1,e2⟩:=h.at_ i h1 (by omega)
 rw [e1,Qr]
 exact TD.tup e2 (pA _)
theorem Cu.td {h:Hd} (m:Cu H b h):TD H 3 (.ref b) (FQ h):=by
 obtain ⟨c,us,e1,e2,e3⟩:=m
 refine TD.tup (.inl e1) (.cons TD.str (.cons (TD.tup (.inl e2) e3.Il) .nil))
theorem vX {xs ys:List Str} (h:xs.map Tv.s=ys.map Tv.s):xs=ys:=by
 induction xs generalizing ys with
 | nil=>cases ys with
  | nil=>rfl
  | cons y ys=>simp at h
 | cons x xs ih=>cases ys with
  | nil=>simp at h
  | cons y ys=>
   simp only [List.map_cons,List.cons.injEq,Tv.s.injEq] at h
   rw [h.1,ih h.2]
theorem u7 {xs ys:List (List Str)} (h:xs.map Bo=ys.map Bo):xs=ys:=by
 induction xs generalizing ys with
 | nil=>cases ys with
  | nil=>rfl
  | cons y ys=>simp at h
 | cons x xs ih=>cases ys with
  | nil=>simp at h
  | cons y ys=>
   simp only [List.map_cons,List.cons.injEq,Bo,Tv.t.injEq] at h
   rw [vX h.1,ih h.2]
theorem UJ {h h':Hd}:(FQ h=FQ h')↔h.dm=h'.dm/\stH h=stH h':=by
 unfold FQ
 constructor
 ·intro e
  have e':[Tv.s h.dm,Tv.t ((stH h).map Bo)]=[Tv.s h'.dm,Tv.t ((stH h').map Bo)]:=by injection e
  simp only [List.cons.injEq,Tv.s.injEq,Tv.t.injEq,and_true] at e'
  exact ⟨e'.1,u7 e'.2⟩
 ·rintro ⟨e1,e2⟩
  rw [e1,e2]
inductive Cg (E:Tg->Tg->Prop):Tg->Tg->Prop where
 | refl (x:Tg):Cg E x x
 | base {x y:Tg} (h:E x y):Cg E x y
 | symm {x y:Tg} (h:Cg E x y):Cg E y x
 | trans {x y z:Tg} (h:Cg E x y) (h':Cg E y z):Cg E x z
theorem Cg.mono {E E':Tg->Tg->Prop} (k:∀ x y,E x y->E' x y) {x y:Tg} (h:Cg E x y):Cg E' x y:=by
 induction h with
 | refl x=>exact .refl x
 | base h=>exact .base (k _ _ h)
 | symm _ ih=>exact .symm ih
 | trans _ _ i1 i2=>exact .trans i1 i2
abbrev gh:=List (Pr×Option (Nat×List Str))
def sy (un:List Nat) (st:gh) (i:Nat) (x y:Tg):Prop:=∃ k c,k∈un/\k < i/\st[k]? =some c/\x=lf c.1.1/\y=rg c.1.2
def Im (r1:List ae) (st:gh) (o o':Option (Nat×List Str)):Prop:=match o,o' with
 | none,_=>True
 | some (j,s),some (j',s')=>j < j'\/(j=j'/\∃ c,st[j]? =some c/\∃ a b:Nat,a < b/\(stH (aj r1 c.1.1))[a]? =some s/\(stH (aj r1 c.1.1))[b]? =some s')
 | some _,none=>False
structure fj (r1 r2:List ae) (n1 n2:List Str) (i:Nat) (st:gh) (un:List Nat) (f:AF) (n:Nat):Prop where
 ok:∀ c∈st,mw r1 r2 n1 n2 c.1
 tr:∀ (k:Nat) (c:Pr×Option (Nat×List Str)) (j:Nat) (s:List Str),st[k]? =some c->c.2=some (j,s)->j < k/\j < i/\j∈un/\∃ c',st[j]? =some c'/\s∈stH (aj r1 c'.1.1)/\fu r1 r2 c'.1 s=c.1
 od:∀ (k k':Nat) (c c':Pr×Option (Nat×List Str)),k < k'->st[k]? =some c->st[k']? =some c'->Im r1 st c.2 c'.2
 me:∀ j c,j < i->st[j]? =some c->fh r1 r2 c.1/\(j∈un->∀ s∈stH (aj r1 c.1.1),∃ (k:Nat) (c':Pr×Option (Nat×List Str)),st[k]? =some c'/\c'.2=some (j,s))/\(j ∉ un->Cg (sy un st j) (lf c.1.1) (rg c.1.2))
 cn:∀ x y r,bx f x r->bx f y r->Cg (sy un st i) x y
 ul:∀ k∈un,k < i
 few:st.length<=1+10*n
 DZ:jz f n
 zn:∀ (k:Nat) (c:Pr×Option (Nat×List Str)),st[k]? =some c->c.2=none->k=0
theorem sy.mono {un FS:List Nat} {st jp:gh} {i':Nat} (h1:∀ k∈un,k∈FS) (h2:∀ (k:Nat) (c:Pr×Option (Nat×List Str)),st[k]? =some c->jp[k]? =some c) (h3:i<=i') {x y:Tg} (h:sy un st i x y):sy FS jp i' x y:=by
 obtain ⟨k,c,q1,q2,q3,q4⟩:=h
 exact ⟨k,c,h1 _ q1,by omega,h2 _ _ q3,q4⟩
theorem kG {f':AF} (a:jz f n) (h:∀ z r,bx f z r->bx f' z r) {x r:Tg} (hr:bx f' x r):bx f x r:=by
 obtain ⟨r0,h0⟩:=gF a x
 rw [hr.wm (h _ _ h0)];exact h0
theorem fj.skip {st:gh} {un:List Nat} {f':AF} (h:fj r1 r2 n1 n2 i st un f n) (hc:st[i]? =some c) (me:fh r1 r2 c.1) (ac:jz f' n) (kp:∀ z r,bx f z r->bx f' z r) {r:Tg} (h1:bx f' (lf c.1.1) r) (h2:bx f' (rg c.1.2) r):fj r1 r2 n1 n2 (i+1) st un f' n:=by
 have cn:∀ x y r,bx f' x r->bx f' y r->Cg (sy un st i) x y:=fun x y r q1 q2=>h.cn x y r (kG h.DZ kp q1) (kG h.DZ kp q2)
 refine ⟨h.ok,fun k c' j s hk e=>?_,h.od,fun j c' hj gw=>?_,fun x y r q1 q2=>?_,fun k hk=>by have:=h.ul k hk;omega,h.few,ac,h.zn⟩
 ·obtain ⟨a1,a2,a3⟩:=h.tr k c' j s hk e
  exact ⟨a1,by omega,a3⟩
 ·by_cases Cw:j=i
  ·subst Cw
   rw [hc] at gw;cases gw
   exact ⟨me,fun z=>by have:=h.ul _ z;omega,fun _=>cn _ _ _ h1 h2⟩
  ·exact h.me j c' (by omega) gw
 ·exact (cn x y r q1 q2).mono fun x y q=>q.mono (fun _ h=>h) (fun _ _ h=>h) (by omega)
def jg (r1 r2:List ae) (i:Nat) (p:Pr):gh:=(gm r1 r2 p).map fun q=>(q.2,some (i,q.1))
theorem zO {p:Pr} {k:Nat} (h:(jg r1 r2 i p)[k]? =some c):∃ s,(stH (aj r1 p.1))[k]? =some s/\c=(fu r1 r2 p s,some (i,s)):=by
 unfold jg gm at h
 rw [Qq,Qq] at h
 obtain ⟨q,h1,h2⟩:=Option.map_eq_some_iff.mp h
 obtain ⟨s,h3,h4⟩:=Option.map_eq_some_iff.mp h1
 exact ⟨s,h3,by rw [<- h2,<- h4]⟩
theorem fj.join (g1:eu r1 n1) (g2:eu r2 n2) {st:gh} {un:List Nat} {f':AF} (h:fj r1 r2 n1 n2 i st un f n) (hc:st[i]? =some c) (me:fh r1 r2 c.1) (ac:jz f' (n+1)) {r r':Tg} (h1:bx f (lf c.1.1) r) (h2:bx f (rg c.1.2) r') (kp:∀ z q,bx f z q->bx f' z (if q=r then r' else q)):fj r1 r2 n1 n2 (i+1) (st++jg r1 r2 i c.1) (un++[i]) f' (n+1):=by
 have hi:i < st.length:=(List.getElem?_eq_some_iff.mp hc).1
 have po:=h.ok c (QC hc)
 have up:∀ (k:Nat) (c':Pr×Option (Nat×List Str)),st[k]? =some c'->(st++jg r1 r2 i c.1)[k]? =some c':=fun k c' q=>by
  have hk:=(List.getElem?_eq_some_iff.mp q).1
  rw [Qg hk];exact q
 have dn:∀ (k:Nat) (c':Pr×Option (Nat×List Str)),(st++jg r1 r2 i c.1)[k]? =some c'->st[k]? =some c'\/(st.length<=k/\∃ s,(stH (aj r1 c.1.1))[k - st.length]? =some s/\c'=(fu r1 r2 c.1 s,some (i,s))):=fun k c' q=>by
  by_cases hk:k < st.length
  ·rw [Qg hk] at q;exact .inl q
  ·rw [List.getElem?_append_right (by omega)] at q
   exact .inr ⟨by omega,zO q⟩
 have fl:(stH (aj r1 c.1.1)).length<=10:=by have:=iE (g1.uo po.a).2;simpa [stH] using this
 refine ⟨fun c' gw=>?_,fun k c' j s hk e=>?_,fun k k' c1 c2 Bp q1 q2=>?_,fun j c' hj gw=>?_,fun x y q q1 q2=>?_,fun k hk=>?_,?_,ac,fun k c' hk e=>?_⟩
 ·rcases List.mem_append.mp gw with gw | gw
  ·exact h.ok c' gw
  ·obtain ⟨q,hq,rfl⟩:=List.mem_map.mp gw
   obtain ⟨s,hs,rfl⟩:=List.mem_map.mp hq
   exact po.behind g1 g2 me hs
 ·rcases dn k c' hk with q | ⟨q0,s',q1,q2⟩
  ·obtain ⟨a1,a2,a3,c2,a4,a5⟩:=h.tr k c' j s q e
   exact ⟨a1,by omega,List.mem_append.mpr (.inl a3),c2,up _ _ a4,a5⟩
  ·subst q2
   cases e
   exact ⟨by omega,by omega,by simp,c,up _ _ hc,QC q1,rfl⟩
 ·have bu:∀ o o',Im r1 st o o'->Im r1 (st++jg r1 r2 i c.1) o o':=fun o o' b=>by
   cases o with
   | none=>trivial
   | some p=>
    cases o' with
    | none=>exact b
    | some p'=>
     rcases b with b | ⟨b1,c3,b2,b3⟩
     ·exact .inl b
     ·exact .inr ⟨b1,c3,up _ _ b2,b3⟩
  rcases dn k c1 q1 with q | ⟨q0,s,q3,q4⟩
  ·rcases dn k' c2 q2 with q' | ⟨Cy,s',L4,Cz⟩
   ·exact bu _ _ (h.od k k' c1 c2 Bp q q')
   ·subst Cz
    cases e:c1.2 with
    | none=>trivial
    | some p=>
     obtain ⟨j,s⟩:=p
     exact .inl (h.tr k c1 j s q e).2.1
  ·have hk':st.length<=k':=by omega
   rcases dn k' c2 q2 with q' | ⟨Cy,s',L4,Cz⟩
   ·have:=(List.getElem?_eq_some_iff.mp q').1;omega
   ·subst q4 Cz
    exact .inr ⟨rfl,c,up _ _ hc,k - st.length,k' - st.length,by omega,q3,L4⟩
 ·by_cases Cw:j=i
  ·subst Cw
   have:=up _ _ hc
   rw [this] at gw;cases gw
   refine ⟨me,fun _ s hs=>?_,fun z=>absurd (List.mem_append.mpr (.inr (by simp))) z⟩
   obtain ⟨m,hm,em⟩:=Qi hs
   refine ⟨st.length+m,(fu r1 r2 c.1 s,some (j,s)),?_,rfl⟩
   rw [List.getElem?_append_right (by omega),Nat.add_sub_cancel_left]
   unfold jg gm
   rw [Qq,Qq,Qa hm,em];rfl
  ·rcases dn j c' gw with q | ⟨q0,_⟩
   ·obtain ⟨m1,m2,m3⟩:=h.me j c' (by omega) q
    have UK:j∈un++[i]->j∈un:=fun z=>by
     rcases List.mem_append.mp z with z | z
     ·exact z
     ·exact absurd (List.mem_singleton.mp z) Cw
    exact ⟨m1,fun z s hs=>let ⟨k,c2,b1,b2⟩:=m2 (UK z) s hs;⟨k,c2,up _ _ b1,b2⟩,fun z=>(m3 fun y=>z (List.mem_append.mpr (.inl y))).mono fun x y q=>q.mono (fun k hk=>List.mem_append.mpr (.inl hk)) up (Qy _)⟩
   ·omega
 ·have old:∀ {x y:Tg} {q:Tg},bx f x q->bx f y q->Cg (sy (un++[i]) (st++jg r1 r2 i c.1) (i+1)) x y:=fun {x y q} a b=>(h.cn x y q a b).mono fun x y q=>q.mono (fun k hk=>List.mem_append.mpr (.inl hk)) up (by omega)
  have new:Cg (sy (un++[i]) (st++jg r1 r2 i c.1) (i+1)) (lf c.1.1) (rg c.1.2):=.base ⟨i,c,by simp,by omega,up _ _ hc,rfl,rfl⟩
  obtain ⟨qx,hx⟩:=gF h.DZ x
  obtain ⟨qy,hy⟩:=gF h.DZ y
  have ex:=q1.wm (kp _ _ hx)
  have ey:=q2.wm (kp _ _ hy)
  by_cases cx:qx=r
  ·rw [if_pos cx] at ex
   have xa:=old hx (by rw [cx];exact h1)
   by_cases cy:qy=r
   ·exact old hx (by rw [cx,<- cy];exact hy)
   ·rw [if_neg cy] at ey
    have yb:=old hy (show bx f (rg c.1.2) qy by rw [<- ey,ex];exact h2)
    exact (xa.trans new).trans yb.symm
  ·rw [if_neg cx] at ex
   by_cases cy:qy=r
   ·rw [if_pos cy] at ey
    have ya:=old hy (by rw [cy];exact h1)
    have xb:=old hx (show bx f (rg c.1.2) qx by rw [<- ex,ey];exact h2)
    exact (xb.trans new.symm).trans ya.symm
   ·rw [if_neg cy] at ey
    exact old hx (by rw [<- ex,ey];exact hy)
 ·rcases List.mem_append.mp hk with hk | hk
  ·have:=h.ul k hk;omega
  ·rw [List.mem_singleton.mp hk];omega
 ·have:=h.few
  rw [Qk]
  have e:(jg r1 r2 i c.1).length=(stH (aj r1 c.1.1)).length:=by simp [jg,gm]
  omega
 ·rcases dn k c' hk with q | ⟨q0,s',q1,q2⟩
  ·exact h.zn k c' q e
  ·subst q2;cases e
theorem fj.start {p:Pr} (po:mw r1 r2 n1 n2 p):fj r1 r2 n1 n2 0 [(p,none)] [] (fun _=>none) 0:=by
 have one:∀ (k:Nat) (c:Pr×Option (Nat×List Str)),([(p,none)]:gh)[k]? =some c->k=0/\c=(p,none):=fun k c hk=>by
  cases k with
  | zero=>exact ⟨rfl,by simpa using hk.symm⟩
  | succ k=>simp at hk
 refine ⟨fun c hc=>by rw [List.mem_singleton.mp hc];exact po,fun k c j s hk e=>?_,fun k k' c c' Bp h1 h2=>?_,fun j c hj=>absurd hj (by omega),fun x y r h1 h2=>?_,fun k hk=>absurd hk (by simp),by simp,⟨fun _=>0,fun x y h=>(nomatch h),fun _=>Qy _⟩,fun k c hk _=>(one k c hk).1⟩
 ·rw [(one k c hk).2] at e;cases e
 ·have a:=(one k c h1).1;have b:=(one k' c' h2).1;omega
 ·cases h1 with
  | top _=>cases h2 with
   | top _=>exact .refl _
   | up h _=>cases h
  | up h _=>cases h
theorem fj.L5 {st:gh} {un:List Nat} (h:fj r1 r2 n1 n2 i st un f n):FO (st.map (·.2)):=fun k j s hk=>by
 rw [Qq] at hk
 obtain ⟨c,h1,h2⟩:=Option.map_eq_some_iff.mp hk
 exact (h.tr k c j s h1 h2).1
def gy (r1 r2:List ae) (x:Tg):Hd:=if x.1="left" then aj r1 x.2 else aj r2 x.2
def AE (r1 r2:List ae) (x:Tg) (s:List Str):Tg:=(x.1,(if x.1="left" then di r1 x.2 s else di r2 x.2 s).getD "")
theorem oZ (r1 r2:List ae) (a:Str):gy r1 r2 (lf a)=aj r1 a:=by unfold gy lf;rw [if_pos rfl]
theorem wU (r1 r2:List ae) (a:Str):gy r1 r2 (rg a)=aj r2 a:=by unfold gy rg;rw [if_neg (show ¬("right":Str)="left" by decide+kernel)]
theorem tI (r1 r2:List ae) (a:Str) (s:List Str):AE r1 r2 (lf a) s=lf ((di r1 a s).getD ""):=by unfold AE lf;rw [if_pos rfl]
theorem tJ (r1 r2:List ae) (a:Str) (s:List Str):AE r1 r2 (rg a) s=rg ((di r2 a s).getD ""):=by unfold AE rg;rw [if_neg (show ¬("right":Str)="left" by decide+kernel)]
theorem fj.done {st:gh} {un:List Nat} (h:fj r1 r2 n1 n2 i st un f n) (hl:st.length=i) {k:Nat} (hc:st[k]? =some c):Cg (sy un st i) (lf c.1.1) (rg c.1.2):=by
 have hk:k < i:=by have:=(List.getElem?_eq_some_iff.mp hc).1;omega
 by_cases hu:k∈un
 ·exact .base ⟨k,c,hu,hk,hc,rfl,rfl⟩
 ·exact ((h.me k c hk hc).2.2 hu).mono fun x y q=>q.mono (fun _ h=>h) (fun _ _ h=>h) (by omega)
theorem fj.qh {st:gh} {un:List Nat} (h:fj r1 r2 n1 n2 i st un f n) (hl:st.length=i) {x y:Tg} (hc:Cg (sy un st i) x y):(gy r1 r2 x).dm=(gy r1 r2 y).dm/\stH (gy r1 r2 x)=stH (gy r1 r2 y)/\∀ s∈stH (gy r1 r2 x),Cg (sy un st i) (AE r1 r2 x s) (AE r1 r2 y s):=by
 induction hc with
 | refl x=>exact ⟨rfl,rfl,fun s _=>.refl _⟩
 | base q=>
  obtain ⟨k,c,q1,q2,q3,rfl,rfl⟩:=q
  obtain ⟨me,m2,_⟩:=h.me k c q2 q3
  rw [oZ,wU]
  refine ⟨me.1,me.2,fun s hs=>?_⟩
  obtain ⟨k',c',b1,b2⟩:=m2 q1 s hs
  obtain ⟨_,_,_,c2,a4,_,a6⟩:=h.tr k' c' k s b1 b2
  rw [q3] at a4;cases a4
  have:=h.done hl b1
  rw [<- a6] at this
  rw [tI,tJ]
  exact this
 | symm _ ih=>exact ⟨ih.1.symm,ih.2.1.symm,fun s hs=>.symm (ih.2.2 s (by rw [ih.2.1];exact hs))⟩
 | trans _ _ i1 i2=>exact ⟨i1.1.trans i2.1,i1.2.1.trans i2.2.1,fun s hs=>.trans (i1.2.2 s hs) (i2.2.2 s (by rw [<- i1.2.1];exact hs))⟩
def L6 (r1 r2:List ae) (n1 n2:List Str) (G:Pr->Prop):Prop:=∀ p,G p->mw r1 r2 n1 n2 p/\fh r1 r2 p/\∀ s∈stH (aj r1 p.1),G (fu r1 r2 p s)
theorem fj.L7 (g1:eu r1 n1) (g2:eu r2 n2) {st:gh} {un:List Nat} (h:fj r1 r2 n1 n2 i st un f n) (hl:st.length=i):L6 r1 r2 n1 n2 fun p=>mw r1 r2 n1 n2 p/\Cg (sy un st i) (lf p.1) (rg p.2):=by
 rintro p ⟨po,hc⟩
 obtain ⟨b1,b2,b3⟩:=h.qh hl hc
 rw [oZ] at b1 b2 b3
 rw [wU] at b1 b2
 refine ⟨po,⟨b1,b2⟩,fun s hs=>⟨po.behind g1 g2 ⟨b1,b2⟩ hs,?_⟩⟩
 have:=b3 s hs
 rw [tI,tJ] at this
 exact this
def qi:List Nat->List Nat->Prop
 | a::as,b::bs=>a < b\/(a=b/\qi as bs)
 | _,_=>False
def iy (w v:List Nat):Prop:=w.length < v.length\/(w.length=v.length/\qi w v)
theorem pC:∀ w:List Nat,¬qi w w
 | []=>id
 | a::as=>fun h=>h.elim (fun h=>Nat.lt_irrefl _ h) fun h=>pC as h.2
theorem jW:∀ {w v u:List Nat},qi w v->qi v u->qi w u
 | a::as,b::bs,c::cs,h,h'=>by
  rcases h with h | ⟨rfl,h⟩
  ·rcases h' with h' | ⟨rfl,_⟩
   ·exact .inl (by omega)
   ·exact .inl h
  ·rcases h' with h' | ⟨rfl,h'⟩
   ·exact .inl h'
   ·exact .inr ⟨rfl,jW h h'⟩
 | [],_,_,h,_=>h.elim
 | _::_,[],_,h,_=>h.elim
 | _::_,_::_,[],_,h'=>h'.elim
theorem pN:∀ {w v:List Nat},w.length=v.length->w=v\/qi w v\/qi v w
 | [],[],_=>.inl rfl
 | a::as,b::bs,h=>by
  rcases Nat.lt_trichotomy a b with h1 | h1 | h1
  ·exact .inr (.inl (.inl h1))
  ·subst h1
   rcases pN (w:=as) (v:=bs) (by simpa using h) with h2 | h2 | h2
   ·exact .inl (by rw [h2])
   ·exact .inr (.inl (.inr ⟨rfl,h2⟩))
   ·exact .inr (.inr (.inr ⟨rfl,h2⟩))
  ·exact .inr (.inr (.inl h1))
 | [],_::_,h=>by cases h
 | _::_,[],h=>by cases h
theorem mF:∀ {w v:List Nat} (a b:Nat),w.length=v.length->qi w v->qi (w++[a]) (v++[b])
 | a::as,b::bs,x,y,hl,h=>by
  rcases h with h | ⟨rfl,h⟩
  ·exact .inl h
  ·exact .inr ⟨rfl,mF x y (by simpa using hl) h⟩
 | [],_,_,_,_,h=>h.elim
 | _::_,[],_,_,_,h=>h.elim
theorem lS:∀ (w:List Nat) {a b:Nat},a < b->qi (w++[a]) (w++[b])
 | [],_,_,h=>.inl h
 | x::w,_,_,h=>.inr ⟨rfl,lS w h⟩
theorem sL (w:List Nat):¬iy w w:=fun h=>h.elim (fun h=>Nat.lt_irrefl _ h) fun h=>pC w h.2
theorem lY {w v u:List Nat} (h:iy w v) (h':iy v u):iy w u:=by
 rcases h with h | ⟨h,hl⟩
 ·rcases h' with h' | ⟨h',_⟩
  ·exact .inl (by omega)
  ·exact .inl (by omega)
 ·rcases h' with h' | ⟨h',Cp⟩
  ·exact .inl (by omega)
  ·exact .inr ⟨by omega,jW hl Cp⟩
theorem tR (w v:List Nat):w=v\/iy w v\/iy v w:=by
 rcases Nat.lt_trichotomy w.length v.length with h | h | h
 ·exact .inr (.inl (.inl h))
 ·rcases pN h with h1 | h1 | h1
  ·exact .inl h1
  ·exact .inr (.inl (.inr ⟨h,h1⟩))
  ·exact .inr (.inr (.inr ⟨h.symm,h1⟩))
 ·exact .inr (.inr (.inl h))
def Io (w v:List Nat):Prop:=w=v\/iy w v
theorem wX {w v:List Nat} (a b:Nat) (h:iy w v):iy (w++[a]) (v++[b]):=by
 rcases h with h | ⟨h,hl⟩
 ·exact .inl (by simp;omega)
 ·exact .inr ⟨by simp [h],mF a b h hl⟩
section
variable {N Lb:Type} (nx:N->List (Lb×N))
def fk:N->List Nat->Option N
 | n,[]=>some n
 | n,k::ks=>match (nx n)[k]? with
  | some q=>fk q.2 ks
  | none=>none
def j_:N->List Nat->List Lb
 | _,[]=>[]
 | n,k::ks=>match (nx n)[k]? with
  | some q=>q.1::j_ q.2 ks
  | none=>[]
theorem fA:∀ (n:N) (w v:List Nat),fk nx n (w++v)=(fk nx n w).bind fun m=>fk nx m v
 | n,[],v=>rfl
 | n,k::ks,v=>by
  show (match (nx n)[k]? with | some q=>fk nx q.2 (ks++v) | none=>none)=(match (nx n)[k]? with | some q=>fk nx q.2 ks | none=>none).bind _
  cases (nx n)[k]? with
  | none=>rfl
  | some q=>exact fA q.2 ks v
theorem y8 {n m:N} {w:List Nat} (h:fk nx n w=some m) (k:Nat):fk nx n (w++[k])=((nx m)[k]?).map (·.2):=by
 rw [fA,h]
 show (match (nx m)[k]? with | some q=>some q.2 | none=>none)=_
 cases (nx m)[k]?<;>rfl
theorem nZ:∀ {n m:N} {w:List Nat},fk nx n w=some m->∀ {k:Nat} {q:Lb×N},(nx m)[k]? =some q->j_ nx n (w++[k])=j_ nx n w++[q.1]
 | n,m,[],h,k,q,hk=>by
  cases h
  show (match (nx n)[k]? with | some q=>q.1::j_ nx q.2 [] | none=>[])=_
  rw [hk];rfl
 | n,m,k'::ks,h,k,q,hk=>by
  have h':(match (nx n)[k']? with | some q=>fk nx q.2 ks | none=>none)=some m:=h
  show (match (nx n)[k']? with | some q=>q.1::j_ nx q.2 (ks++[k]) | none=>[])=(match (nx n)[k']? with | some q=>q.1::j_ nx q.2 ks | none=>[])++[q.1]
  cases e:(nx n)[k']? with
  | none=>rw [e] at h';cases h'
  | some q'=>
   rw [e] at h'
   show q'.1::j_ nx q'.2 (ks++[k])=(q'.1::j_ nx q'.2 ks)++[q.1]
   rw [nZ h' hk];rfl
structure BW (n0:N) (i:Nat) (st:List (N×List Nat)):Prop where
 z:st[0]? =some (n0,[])
 go:∀ c∈st,fk nx n0 c.2=some c.1
 up:∀ (k k':Nat) (c c':N×List Nat),k < k'->st[k]? =some c->st[k']? =some c'->iy c.2 c'.2
 cl:∀ (k:Nat) (c:N×List Nat),k < i->st[k]? =some c->∀ (p:Nat) (q:Lb×N),(nx c.1)[p]? =some q->∃ c'∈st,c'.1=q.2/\Io c'.2 (c.2++[p])
variable {nx}
def lj (nx:N->List (Lb×N)) (zq:N->Prop) (n0:N) (w:List Nat):Prop:=(∃ m,fk nx n0 w=some m/\zq m)/\∀ v m,fk nx n0 v=some m->zq m->¬iy v w
theorem lj.wm {zq:N->Prop} {n0:N} {w v:List Nat} (h:lj nx zq n0 w) (h':lj nx zq n0 v):w=v:=by
 obtain ⟨⟨m,h1,h2⟩,h3⟩:=h
 obtain ⟨⟨m',Ak,Al⟩,L8⟩:=h'
 rcases tR w v with e | e | e
 ·exact e
 ·exact absurd e (L8 w m h1 h2)
 ·exact absurd e (h3 v m' Ak Al)
end
abbrev L_:=Option (Nat×List Str)
section
variable {N:Type} [DecidableEq N] (nx:N->List (List Str×N))
variable {nx}
theorem oV {tr:List L_} (ok:FO tr):∀ (n m k:Nat),k<=n->k<=m->gj tr n k=gj tr m k
 | 0,0,k,_,_=>rfl
 | 0,m+1,k,h,_=>by
  obtain rfl:k=0:=by omega
  show []=(match tr[0]? with | some (some (j,s))=>gj tr m j++[s] | _=>[])
  cases e:tr[0]? with
  | none=>rfl
  | some o=>cases o with
   | none=>rfl
   | some q=>exact absurd (ok 0 q.1 q.2 e) (by omega)
 | n+1,0,k,_,h=>by
  obtain rfl:k=0:=by omega
  show (match tr[0]? with | some (some (j,s))=>gj tr n j++[s] | _=>[])=[]
  cases e:tr[0]? with
  | none=>rfl
  | some o=>cases o with
   | none=>rfl
   | some q=>exact absurd (ok 0 q.1 q.2 e) (by omega)
 | n+1,m+1,k,h1,h2=>by
  show (match tr[k]? with | some (some (j,s))=>gj tr n j++[s] | _=>[])=(match tr[k]? with | some (some (j,s))=>gj tr m j++[s] | _=>[])
  cases e:tr[k]? with
  | none=>rfl
  | some o=>cases o with
   | none=>rfl
   | some q=>
    have:=ok k q.1 q.2 e
    show gj tr n q.1++[q.2]=gj tr m q.1++[q.2]
    rw [oV ok n m q.1 (by omega) (by omega)]
end
section
variable {N Lb:Type} {nx:N->List (Lb×N)}
structure LS (nx:N->List (Lb×N)) (n0:N) (i:Nat) (st:List (N×List Nat)) (ms:List N):Prop where
 bw:BW nx n0 i st
 pr:∀ d∈st,d.2=[]\/∃ (k':Nat) (d':N×List Nat) (p:Nat),k' < i/\st[k']? =some d'/\d.2=d'.2++[p]
 ex:∀ t∈ms,∃ (k:Nat) (c:N×List Nat),k < i/\st[k]? =some c/\c.1=t/\∀ (p:Nat) (q:Lb×N),(nx t)[p]? =some q->(q.2,c.2++[p])∈st
theorem LS.start (n0:N):LS nx n0 0 [(n0,[])] []:=by
 have one:∀ (k:Nat) (c:N×List Nat),([(n0,[])]:List (N×List Nat))[k]? =some c->k=0/\c=(n0,[]):=fun k c hk=>by
  cases k with
  | zero=>exact ⟨rfl,by simpa using hk.symm⟩
  | succ k=>simp at hk
 refine ⟨⟨rfl,fun c hc=>by rw [List.mem_singleton.mp hc];rfl,fun k k' c c' Bp h1 h2=>?_,fun k c hk=>absurd hk (by omega)⟩,fun d hd=>by rw [List.mem_singleton.mp hd];exact .inl rfl,fun t ht=>nomatch ht⟩
 have a:=(one k c h1).1;have b:=(one k' c' h2).1;omega
end
theorem UL {h:Hd} (ok:h.ok ns):(stH h).Pairwise yj:=by
 unfold stH
 exact List.pairwise_map.mpr (wD ok)
open Classical in
noncomputable def cz (r1 r2:List ae) (p:Pr):List (List Str×Pr):=if fh r1 r2 p then gm r1 r2 p else []
def jm (r1 r2:List ae) (p:Pr):Prop:=¬fh r1 r2 p
section
variable {m1 m2:List Str} {p p0 m:Pr}
theorem cW (h:fh r1 r2 p):cz r1 r2 p=gm r1 r2 p:=if_pos h
theorem cQ (r1 r2:List ae) (p:Pr) (a:Nat):(gm r1 r2 p)[a]? =((stH (aj r1 p.1))[a]?).map fun s=>(s,fu r1 r2 p s):=by unfold gm;rw [Qq]
def jn (r1 r2:List ae):Nat->Tg->Tg->Prop
 | 0,x,y=>(gy r1 r2 x).dm=(gy r1 r2 y).dm/\stH (gy r1 r2 x)=stH (gy r1 r2 y)
 | n+1,x,y=>((gy r1 r2 x).dm=(gy r1 r2 y).dm/\stH (gy r1 r2 x)=stH (gy r1 r2 y))/\∀ s∈stH (gy r1 r2 x),jn r1 r2 n (AE r1 r2 x s) (AE r1 r2 y s)
theorem jn.top:∀ {n:Nat} {x y:Tg},jn r1 r2 n x y->(gy r1 r2 x).dm=(gy r1 r2 y).dm/\stH (gy r1 r2 x)=stH (gy r1 r2 y)
 | 0,_,_,h=>h
 | _+1,_,_,h=>h.1
theorem jn.refl:∀ (n:Nat) (x:Tg),jn r1 r2 n x x
 | 0,_=>⟨rfl,rfl⟩
 | n+1,x=>⟨⟨rfl,rfl⟩,fun s _=>jn.refl n _⟩
theorem jn.symm:∀ {n:Nat} {x y:Tg},jn r1 r2 n x y->jn r1 r2 n y x
 | 0,_,_,h=>⟨h.1.symm,h.2.symm⟩
 | n+1,_,_,h=>⟨⟨h.1.1.symm,h.1.2.symm⟩,fun s hs=>(h.2 s (by rw [h.1.2];exact hs)).symm⟩
theorem jn.trans:∀ {n:Nat} {x y z:Tg},jn r1 r2 n x y->jn r1 r2 n y z->jn r1 r2 n x z
 | 0,_,_,_,h,h'=>⟨h.1.trans h'.1,h.2.trans h'.2⟩
 | n+1,_,_,_,h,h'=>⟨⟨h.1.1.trans h'.1.1,h.1.2.trans h'.1.2⟩,fun s hs=>(h.2 s hs).trans (h'.2 s (by rw [<- h.1.2];exact hs))⟩
theorem Cg.Ma {E:Tg->Tg->Prop} (k:∀ x y,E x y->jn r1 r2 n x y) {x y:Tg} (h:Cg E x y):jn r1 r2 n x y:=by
 induction h with
 | refl x=>exact .refl n x
 | base h=>exact k _ _ h
 | symm _ ih=>exact ih.symm
 | trans _ _ i1 i2=>exact i1.trans i2
theorem tE:fh r1 r2 p↔((gy r1 r2 (lf p.1)).dm=(gy r1 r2 (rg p.2)).dm/\stH (gy r1 r2 (lf p.1))=stH (gy r1 r2 (rg p.2))):=by rw [oZ,wU];exact Iff.rfl
theorem bK {N Lb:Type} (nx:N->List (Lb×N)) (n:N) (k:Nat) (ks:List Nat):fk nx n (k::ks)=match (nx n)[k]? with | some q=>fk nx q.2 ks | none=>none:=rfl
theorem kS:∀ {n:Nat} {p:Pr},(∀ r m,r.length<=n->fk (cz r1 r2) p r=some m->fh r1 r2 m)->jn r1 r2 n (lf p.1) (rg p.2)
 | 0,p,h=>tE.mp (h [] p (Qy _) rfl)
 | n+1,p,h=>by
  have me:=h [] p (Nat.zero_le _) rfl
  refine ⟨tE.mp me,fun s hs=>?_⟩
  rw [oZ] at hs
  rw [tI,tJ]
  obtain ⟨a,ha,ea⟩:=Qi hs
  refine kS (p:=fu r1 r2 p s) fun r m hr hg=>h (a::r) m (by simp;omega) ?_
  rw [bK,cW me,cQ,Qa ha,ea]
  exact hg
theorem gQ:∀ {n:Nat} {p:Pr},jn r1 r2 n (lf p.1) (rg p.2)->∀ {r:List Nat} {m:Pr},r.length<=n->fk (cz r1 r2) p r=some m->fh r1 r2 m
 | n,p,h,[],m,_,hg=>by cases hg;exact tE.mpr h.top
 | n+1,p,h,a::r,m,hl,hg=>by
  have me:=tE.mpr h.top
  rw [bK,cW me,cQ] at hg
  cases hs:(stH (aj r1 p.1))[a]? with
  | none=>rw [hs] at hg;cases hg
  | some s=>
   rw [hs] at hg
   have:=h.2 s (by rw [oZ];exact QC hs)
   rw [tI,tJ] at this
   exact gQ (p:=fu r1 r2 p s) this (by simpa using hl) hg
 | 0,p,h,a::r,m,hl,hg=>absurd hl (by simp)
theorem mK {R:α->α->Prop} {l:List α} (h:l.Pairwise R) (ne:∀ a b,R a b->a≠b) {x:α} (hi:l[i]? =some x) (hj:l[j]? =some x):i=j:=by
 obtain ⟨h1,e1⟩:=List.getElem?_eq_some_iff.mp hi
 obtain ⟨h2,e2⟩:=List.getElem?_eq_some_iff.mp hj
 rcases Nat.lt_trichotomy i j with h' | h' | h'
 ·exact absurd (e1.trans e2.symm) (ne _ _ (List.pairwise_iff_getElem.mp h i j h1 h2 h'))
 ·exact h'
 ·exact absurd (e2.trans e1.symm) (ne _ _ (List.pairwise_iff_getElem.mp h j i h2 h1 h'))
structure FT (r1 r2:List ae) (p0:Pr) (st:gh) (M:Nat) (ws:Nat->List Nat):Prop where
 go:∀ k c,k < M->st[k]? =some c->fk (cz r1 r2) p0 (ws k)=some c.1/\gj (st.map (·.2)) k k=j_ (cz r1 r2) p0 (ws k)
 tr:∀ k c j s,k < M->st[k]? =some c->c.2=some (j,s)->∃ a c',ws k=ws j++[a]/\st[j]? =some c'/\(stH (aj r1 c'.1.1))[a]? =some s
 z:ws 0=[]
theorem UM {tr:List L_} (ok:FO tr) {k:Nat} {s:List Str} (h:tr[k]? =some (some (j,s))):gj tr k k=gj tr j j++[s]:=by
 have hj:=ok k j s h
 obtain ⟨n,rfl⟩:∃ n,k=n+1:=⟨k - 1,by omega⟩
 rw [gj.eq_2,h]
 show gj tr n j++[s]=_
 rw [oV ok n j j (by omega) (Qy _)]
theorem fj.ways {i n:Nat} {st:gh} {un:List Nat} {f:AF} (h:fj r1 r2 m1 m2 i st un f n) (h0:st[0]? =some (p0,none)):∀ M,∃ ws,FT r1 r2 p0 st M ws
 | 0=>⟨fun _=>[],⟨fun k c hk=>absurd hk (by omega),fun k c j s hk=>absurd hk (by omega),rfl⟩⟩
 | M+1=>by
  obtain ⟨ws,w⟩:=h.ways h0 M
  cases hM:st[M]? with
  | none=>
   refine ⟨ws,⟨fun k c hk hc=>?_,fun k c j s hk hc e=>?_,w.z⟩⟩
   ·by_cases z:k=M
    ·subst z;rw [hM] at hc;cases hc
    ·exact w.go k c (by omega) hc
   ·by_cases z:k=M
    ·subst z;rw [hM] at hc;cases hc
    ·exact w.tr k c j s (by omega) hc e
  | some c0=>
   cases e0:c0.2 with
   | none=>
    have:=h.zn M c0 hM e0
    subst this
    refine ⟨ws,⟨fun k c hk hc=>?_,fun k c j s hk hc e=>?_,w.z⟩⟩
    ·obtain rfl:k=0:=by omega
     rw [w.z]
     rw [h0] at hc;cases hc
     exact ⟨rfl,rfl⟩
    ·obtain rfl:k=0:=by omega
     rw [h0] at hc;cases hc;cases e
   | some q=>
    obtain ⟨j,s⟩:=q
    obtain ⟨t1,t2,t3,c',t4,t5,t6⟩:=h.tr M c0 j s hM e0
    obtain ⟨a,ha,ea⟩:=Qi t5
    have Mb:(stH (aj r1 c'.1.1))[a]? =some s:=by rw [Qa ha,ea]
    have me:=(h.me j c' t2 t4).1
    obtain ⟨g1,g2⟩:=w.go j c' t1 t4
    have Mc:(cz r1 r2 c'.1)[a]? =some (s,fu r1 r2 c'.1 s):=by rw [cW me,cQ,Mb];rfl
    have nM:M≠0:=by omega
    refine ⟨fun k=>if k=M then ws j++[a] else ws k,⟨fun k c hk hc=>?_,fun k c j' s' hk hc e=>?_,by rw [if_neg nM.symm];exact w.z⟩⟩
    ·by_cases z:k=M
     ·subst z
      rw [hM] at hc;cases hc
      rw [if_pos rfl]
      refine ⟨by rw [y8 _ g1,Mc];exact congrArg some t6,?_⟩
      rw [nZ _ g1 Mc,<- g2]
      exact UM h.L5 (by rw [Qq,hM];exact congrArg some e0)
     ·rw [if_neg z];exact w.go k c (by omega) hc
    ·by_cases z:k=M
     ·subst z
      rw [hM] at hc;cases hc
      rw [e0] at e;cases e
      rw [if_pos rfl,if_neg (by omega)]
      exact ⟨a,c',rfl,t4,Mb⟩
     ·rw [if_neg z]
      obtain ⟨q1,_⟩:=h.tr k c j' s' hc e
      rw [if_neg (by omega)]
      exact w.tr k c j' s' (by omega) hc e
theorem FT.rise {i n:Nat} {st:gh} {un:List Nat} {f:AF} (h:fj r1 r2 m1 m2 i st un f n) {ws:Nat->List Nat} {M:Nat} (w:FT r1 r2 p0 st M ws) (hr:∀ x,(stH (aj r1 x)).Pairwise yj) (h0:st[0]? =some (p0,none)):∀ (B k k':Nat) (c c':Pr×Option (Nat×List Str)),k'<=B->k' < M->k < k'->st[k]? =some c->st[k']? =some c'->iy (ws k) (ws k')
 | 0,k,k',c,c',hB,_,Bp,_,_=>absurd Bp (by omega)
 | B+1,k,k',c,c',hB,hM,Bp,hc,gw=>by
  have od:=h.od k k' c c' Bp hc gw
  cases e':c'.2 with
  | none=>exact absurd (h.zn k' c' gw e') (by omega)
  | some q'=>
   obtain ⟨j',s'⟩:=q'
   obtain ⟨a',d',Ip,D0,FU⟩:=w.tr k' c' j' s' hM gw e'
   obtain ⟨Xn,_⟩:=h.tr k' c' j' s' gw e'
   cases e:c.2 with
   | none=>
    have:=h.zn k c hc e
    subst this
    rw [w.z,Ip]
    exact .inl (by simp)
   | some q=>
    obtain ⟨j,s⟩:=q
    obtain ⟨a,d,w1,w2,w3⟩:=w.tr k c j s (by omega) hc e
    obtain ⟨t1,_⟩:=h.tr k c j s hc e
    rw [e,e'] at od
    rcases od with od | ⟨rfl,c3,o1,x,y,o2,o3,o4⟩
    ·rw [w1,Ip]
     exact wX a a' (w.rise h hr h0 B j j' d d' (by omega) (by omega) od w2 D0)
    ·rw [o1] at w2 D0
     cases w2;cases D0
     have e1:=mK (hr _) (fun _ _ q=>q.ne) w3 o3
     have e2:=mK (hr _) (fun _ _ q=>q.ne) FU o4
     rw [w1,Ip,e1,e2]
     exact .inr ⟨by simp,lS _ o2⟩
theorem oP:∀ {w v:List Nat} (r r':List Nat),w.length=v.length->qi w v->qi (w++r) (v++r')
 | a::as,b::bs,r,r',hl,h=>by
  rcases h with h | ⟨rfl,h⟩
  ·exact .inl h
  ·exact .inr ⟨rfl,oP r r' (by simpa using hl) h⟩
 | [],_,_,_,_,h=>h.elim
 | _::_,[],_,_,_,h=>h.elim
theorem UN {w v r r':List Nat} (h:iy w v) (hl:r.length<=r'.length):iy (w++r) (v++r'):=by
 rcases h with h | ⟨h,hx⟩
 ·exact .inl (by simp;omega)
 ·by_cases e:r.length=r'.length
  ·exact .inr ⟨by simp [h,e],oP r r' h hx⟩
  ·exact .inl (by simp;omega)
theorem tQ (u r:List Nat):Io u (u++r):=by
 cases r with
 | nil=>exact .inl (by simp)
 | cons a r=>exact .inr (.inl (by simp))
theorem jC {u v w:List Nat} (h:Io u v) (h':iy v w):iy u w:=by
 rcases h with rfl | h
 ·exact h'
 ·exact lY h h'
theorem fj.UO {st:gh} {un:List Nat} (h:fj r1 r2 m1 m2 i st un f n) (h0:st[0]? =some (p0,none)) (hr:∀ x,(stH (aj r1 x)).Pairwise yj) {ws:Nat->List Nat} (w:FT r1 r2 p0 st st.length ws) (hc:st[i]? =some c) {v:List Nat} (lv:lj (cz r1 r2) (jm r1 r2) p0 v):¬iy v (ws i):=by
 intro bc
 obtain ⟨⟨m,hg,hb⟩,UP⟩:=lv
 have hi:=(List.getElem?_eq_some_iff.mp hc).1
 have Me:∀ k d,st[k]? =some d->iy (ws k) (ws i)->k < i:=fun k d hd hl=>by
  have hk:=(List.getElem?_eq_some_iff.mp hd).1
  rcases Nat.lt_trichotomy k i with z | z | z
  ·exact z
  ·subst z;exact absurd hl (sL _)
  ·exact absurd (lY hl (w.rise h hr h0 _ i k c d (Qy _) hk z hc hd)) (sL _)
 -- along v
 have key:∀ (t:Nat) (u r:List Nat),v=u++r->u.length=t->∃ k d,st[k]? =some d/\k < i/\ws k=u/\(r≠[]->k∈un):=by
  intro t
  induction t with
  | zero=>
   intro u r e hu
   obtain rfl:=QS hu
   have UQ:iy (ws 0) (ws i):=by rw [w.z];exact jC (by rw [e];exact tQ _ _) bc
   have Mf:=Me 0 _ h0 UQ
   refine ⟨0,_,h0,Mf,w.z,fun jt=>Classical.byContradiction fun Iq=>?_⟩
   have cg:=(h.me 0 _ Mf h0).2.2 Iq
   have ag:jn r1 r2 r.length (lf p0.1) (rg p0.2):=cg.Ma fun x y q=>by
    obtain ⟨k,c,_,q2,_⟩:=q;omega
   rw [e] at hg
   exact hb (gQ ag (Qy _) hg)
  | succ t ih=>
   intro u r e hu
   obtain ⟨u0,a,rfl⟩:∃ u0 a,u=u0++[a]:=⟨u.dropLast,u.getLast (by intro e;rw [e] at hu;cases hu),(List.dropLast_concat_getLast _).symm⟩
   obtain ⟨k,d,k1,k2,k3,k4⟩:=ih u0 (a::r) (by rw [e];simp) (by simpa using hu)
   have ku:=k4 (by simp)
   obtain ⟨me,kid,_⟩:=h.me k d k2 k1
   have hk:=(List.getElem?_eq_some_iff.mp k1).1
   have gk:=(w.go k d hk k1).1
   rw [k3] at gk
   have wo:=hg
   rw [e,List.append_assoc,fA,gk] at wo
   have wo:fk (cz r1 r2) d.1 (a::r)=some m:=wo
   rw [bK,cW me,cQ] at wo
   cases hs:(stH (aj r1 d.1.1))[a]? with
   | none=>rw [hs] at wo;cases wo
   | some s=>
    rw [hs] at wo
    have wo:fk (cz r1 r2) (fu r1 r2 d.1 s) r=some m:=wo
    obtain ⟨k',c',q1,q2⟩:=kid ku s (QC hs)
    have hk':=(List.getElem?_eq_some_iff.mp q1).1
    obtain ⟨a',d',w1,w2,w3⟩:=w.tr k' c' k s hk' q1 q2
    rw [k1] at w2;cases w2
    have ea:=mK (hr _) (fun _ _ q=>q.ne) w3 hs
    rw [ea,k3] at w1
    have pc:fu r1 r2 d.1 s=c'.1:=by
     obtain ⟨_,_,_,c2,x1,_,x2⟩:=h.tr k' c' k s q1 q2
     rw [k1] at x1;cases x1;exact x2
    have UR:iy (ws k') (ws i):=by rw [w1];exact jC (by rw [e];exact tQ _ _) bc
    have Mg:=Me k' c' q1 UR
    refine ⟨k',c',q1,Mg,w1,fun jt=>Classical.byContradiction fun Iq=>?_⟩
    have cg:=(h.me k' c' Mg q1).2.2 Iq
    have ag:jn r1 r2 r.length (lf c'.1.1) (rg c'.1.2):=cg.Ma fun x y q=>by
     obtain ⟨Ir,c2,y1,y2,y3,rfl,rfl⟩:=q
     refine kS fun r' m' gi US=>Classical.byContradiction fun UT=>?_
     have Co:=(List.getElem?_eq_some_iff.mp y3).1
     refine UP (ws Ir++r') m' (by rw [fA,(w.go Ir c2 Co y3).1];exact US) UT ?_
     rw [e,<- w1]
     exact UN (w.rise h hr h0 _ Ir k' c2 c' (Qy _) hk' y2 y3 q1) gi
    rw [pc] at wo
    exact hb (gQ ag (Qy _) wo)
 obtain ⟨k,d,k1,k2,k3,_⟩:=key v.length v [] (by simp) rfl
 have hk:=(List.getElem?_eq_some_iff.mp k1).1
 have gk:=(w.go k d hk k1).1
 rw [k3,hg] at gk
 cases gk
 exact hb (h.me k d k2 k1).1
theorem fj.least {st:gh} {un:List Nat} (h:fj r1 r2 m1 m2 i st un f n) (h0:st[0]? =some (p0,none)) (hr:∀ x,(stH (aj r1 x)).Pairwise yj) (hc:st[i]? =some c) (hb:¬fh r1 r2 c.1):(∃ v m,fk (cz r1 r2) p0 v=some m/\jm r1 r2 m)/\∀ v,lj (cz r1 r2) (jm r1 r2) p0 v->gj (st.map (·.2)) i i=j_ (cz r1 r2) p0 v:=by
 have hi:=(List.getElem?_eq_some_iff.mp hc).1
 obtain ⟨ws,w⟩:=h.ways h0 st.length
 obtain ⟨g1,g2⟩:=w.go i c hi hc
 refine ⟨⟨_,_,g1,hb⟩,fun v lv=>?_⟩
 rcases tR v (ws i) with e | e | e
 ·rw [e];exact g2
 ·exact absurd e (h.UO h0 hr w hc lv)
 ·exact absurd e (lv.2 _ _ g1 hb)
theorem fj.none {i n:Nat} {st:gh} {un:List Nat} {f:AF} (g1:eu r1 m1) (g2:eu r2 m2) (h:fj r1 r2 m1 m2 i st un f n) (h0:st[0]? =some (p0,none)) (hl:st.length=i):∀ v m,fk (cz r1 r2) p0 v=some m->¬jm r1 r2 m:=by
 have qh:=h.L7 g1 g2 hl
 have po:=h.ok _ (QC h0)
 have key:∀ (v:List Nat) (p m:Pr),(mw r1 r2 m1 m2 p/\Cg (sy un st i) (lf p.1) (rg p.2))->fk (cz r1 r2) p v=some m->fh r1 r2 m:=by
  intro v
  induction v with
  | nil=>intro p m hp hg;cases hg;exact (qh p hp).2.1
  | cons a v ih=>
   intro p m hp hg
   rw [bK,cW (qh p hp).2.1,cQ] at hg
   cases hs:(stH (aj r1 p.1))[a]? with
   | none=>rw [hs] at hg;cases hg
   | some s=>
    rw [hs] at hg
    exact ih _ _ ((qh p hp).2.2 s (QC hs)) hg
 exact fun v m hg hb=>hb (key v p0 m ⟨po,h.done hl h0⟩ hg)
end
structure BG {N:Type} (nx:N->List (List Str×N)) (zq Ok:N->Prop) (f:N) (i:Nat) (st:List (N×List Nat)) (ms:List N) (D E:List (N×List Nat)) (len:Nat):Prop where
 ls:LS nx f i st ms
 nb:∀ (k:Nat) (c:N×List Nat),k < i->st[k]? =some c->¬zq c.1
 ok:∀ d∈st,Ok d.1
 nd:ms.Nodup
 mo:∀ t∈ms,Ok t
 il:i<=st.length
 qu:st.drop i=D++E
 dl:∀ d∈D,d.2.length=len
 nl:∀ d∈E,d.2.length=len+1
section
variable {N:Type} {nx:N->List (List Str×N)} {zq Ok:N->Prop} {f:N} {st:List (N×List Nat)} {ms:List N} {D E:List (N×List Nat)} {len:Nat} {d:N×List Nat}
theorem BG.start (hf:Ok f):BG nx zq Ok f 0 [(f,[])] [] [(f,[])] [] 0:=by
 refine ⟨LS.start f,?_,?_,List.Pairwise.nil,?_,Nat.zero_le _,rfl,?_,?_⟩
 ·intro k c hk;omega
 ·intro d hd;rw [List.mem_singleton.mp hd];exact hf
 ·intro t ht;cases ht
 ·intro d hd;rw [List.mem_singleton.mp hd];rfl
 ·intro d hd;cases hd
end
theorem RT.Mh {xs:List V} {rows:List ae} (rt:RT H a xs rows ns ws) (x:Str):(stH (aj rows x)).Pairwise yj:=by
 unfold aj
 cases hf:rows.find? fun r=>decide (r.1=x) with
 | none=>exact List.Pairwise.nil
 | some r=>
  have hm:=List.mem_of_find?_eq_some hf
  exact UL (rt.ok r hm).2
section
variable {f:Pr} {us:List V} {D:List (Pr×List Nat)}
end
def kc (r1 r2:List ae):Nat->Pr->Prop
 | 0,p=>fh r1 r2 p
 | n+1,p=>fh r1 r2 p/\∀ s∈stH (aj r1 p.1),kc r1 r2 n (fu r1 r2 p s)
def jh (r1 r2:List ae) (p:Pr):Prop:=∀ v m,fk (cz r1 r2) p v=some m->¬jm r1 r2 m
section
variable {r3:List ae} {p p0 m:Pr} {a b c:Str}
theorem kc.top:∀ {n:Nat} {p:Pr},kc r1 r2 n p->fh r1 r2 p
 | 0,_,h=>h
 | _+1,_,h=>h.1
theorem fh.symm (h:fh r1 r2 (a,b)):fh r2 r1 (b,a):=⟨h.1.symm,h.2.symm⟩
theorem kc.refl:∀ (n:Nat) (a:Str),kc r1 r1 n (a,a)
 | 0,_=>⟨rfl,rfl⟩
 | n+1,a=>⟨⟨rfl,rfl⟩,fun s _=>kc.refl n _⟩
theorem kc.symm:∀ {n:Nat} {a b:Str},kc r1 r2 n (a,b)->kc r2 r1 n (b,a)
 | 0,_,_,h=>fh.symm h
 | n+1,a,b,h=>⟨h.1.symm,fun s hs=>(h.2 s (by rw [h.1.2];exact hs)).symm⟩
theorem kc.trans:∀ {n:Nat} {a b c:Str},kc r1 r2 n (a,b)->kc r2 r3 n (b,c)->kc r1 r3 n (a,c)
 | 0,_,_,_,h,h'=>⟨h.1.trans h'.1,h.2.trans h'.2⟩
 | n+1,a,b,c,h,h'=>⟨⟨h.1.1.trans h'.1.1,h.1.2.trans h'.1.2⟩,fun s hs=>(h.2 s hs).trans (h'.2 s (by
   have:=h.1.2
   rw [<- show stH (aj r1 a)=stH (aj r2 b) from this];exact hs))⟩
theorem j8:∀ {n:Nat} {p:Pr},(∀ r m,r.length<=n->fk (cz r1 r2) p r=some m->fh r1 r2 m)->kc r1 r2 n p
 | 0,p,h=>h [] p (Qy _) rfl
 | n+1,p,h=>by
  have me:=h [] p (Nat.zero_le _) rfl
  refine ⟨me,fun s hs=>?_⟩
  obtain ⟨a,ha,ea⟩:=Qi hs
  refine j8 fun r m hr hg=>h (a::r) m (by simp;omega) ?_
  rw [bK,cW me,cQ,Qa ha,ea]
  exact hg
theorem jA:∀ {n:Nat} {p:Pr},kc r1 r2 n p->∀ {r:List Nat} {m:Pr},r.length<=n->fk (cz r1 r2) p r=some m->fh r1 r2 m
 | n,p,h,[],m,_,hg=>by cases hg;exact h.top
 | n+1,p,h,a::r,m,hl,hg=>by
  have me:=h.top
  rw [bK,cW me,cQ] at hg
  cases hs:(stH (aj r1 p.1))[a]? with
  | none=>rw [hs] at hg;cases hg
  | some s=>
   rw [hs] at hg
   exact jA (h.2 s (QC hs)) (by simpa using hl) hg
 | 0,p,h,a::r,m,hl,hg=>absurd hl (by simp)
theorem dW:jh r1 r2 p↔∀ n,kc r1 r2 n p:=
 ⟨fun h n=>j8 fun r m _ hg=>Classical.byContradiction (h r m hg),fun h v m hg hb=>hb (jA (h v.length) (Qy _) hg)⟩
theorem jh.symm (h:jh r1 r2 (a,b)):jh r2 r1 (b,a):=dW.mpr fun n=>(dW.mp h n).symm
theorem jh.trans (h:jh r1 r2 (a,b)) (h':jh r2 r3 (b,c)):jh r1 r3 (a,c):=dW.mpr fun n=>(dW.mp h n).trans (dW.mp h' n)
theorem jh.refl:jh r1 r1 (a,a):=dW.mpr fun n=>kc.refl n a
theorem jh.me (h:jh r1 r2 p):fh r1 r2 p:=dW.mp h 0
theorem jh.kid (h:jh r1 r2 p) {s:List Str} (hs:s∈stH (aj r1 p.1)):jh r1 r2 (fu r1 r2 p s):=dW.mpr fun n=>(dW.mp h (n+1)).2 s hs
def uv:Nat->List Nat->Nat
 | acc,[]=>acc
 | acc,d::v=>uv (acc*11+d+1) v
theorem mT:∀ {w v:List Nat} {x y:Nat},x < y->w.length=v.length->(∀ d∈w,d<=9)->uv x w < uv y v
 | [],[],x,y,h,_,_=>h
 | d::w,e::v,x,y,h,hl,hd=>mT (w:=w) (v:=v) (by have:=hd d List.mem_cons_self;omega) (by simpa using hl) fun z hz=>hd z (Qh _ hz)
 | [],_::_,_,_,_,hl,_=>by cases hl
 | _::_,[],_,_,_,hl,_=>by cases hl
theorem sV:∀ {w v:List Nat} {x:Nat},qi w v->w.length=v.length->(∀ d∈w,d<=9)->uv x w < uv x v
 | d::w,e::v,x,h,hl,hd=>by
  rcases h with h | ⟨rfl,h⟩
  ·exact mT (w:=w) (v:=v) (by omega) (by simpa using hl) fun z hz=>hd z (Qh _ hz)
  ·exact sV (w:=w) (v:=v) h (by simpa using hl) fun z hz=>hd z (Qh _ hz)
 | [],_,_,h,_,_=>h.elim
 | _::_,[],_,h,_,_=>h.elim
theorem tS:∀ {v w:List Nat} {x y:Nat},x<=y->w.length < v.length->(∀ d∈w,d<=9)->uv x w < uv y v
 | e::v,w,x,y,h,hl,hd=>by
  show uv x w < uv (y*11+e+1) v
  by_cases q:w.length=v.length
  ·exact mT (by omega) q hd
  ·exact tS (by omega) (by simp at hl;omega) hd
 | [],_,_,_,_,hl,_=>absurd hl (by simp)
theorem yK {w v:List Nat} (h:iy w v) (hd:∀ d∈w,d<=9):uv 0 w < uv 0 v:=by
 rcases h with h | ⟨h,hx⟩
 ·exact tS (Qy _) h hd
 ·exact sV hx h hd
theorem mI (hf:∀ x,(stH (aj r1 x)).length<=10):∀ {v:List Nat} {p m:Pr},fk (cz r1 r2) p v=some m->∀ d∈v,d<=9
 | [],_,_,_,d,hd=>nomatch hd
 | a::v,p,m,hg,d,hd=>by
  by_cases me:fh r1 r2 p
  ·rw [bK,cW me,cQ] at hg
   cases hs:(stH (aj r1 p.1))[a]? with
   | none=>rw [hs] at hg;cases hg
   | some s=>
    rw [hs] at hg
    rcases Qp.mp hd with rfl | hd
    ·have h1:=(List.getElem?_eq_some_iff.mp hs).1
     have h2:=hf p.1
     omega
    ·exact mI hf hg d hd
  ·have e:cz r1 r2 p=[]:=if_neg me
   rw [bK,e] at hg
   simp at hg
theorem xT (hf:∀ x,(stH (aj r1 x)).length<=10) {v:List Nat} (hg:fk (cz r1 r2) p v=some m) (hb:jm r1 r2 m):∃ w,lj (cz r1 r2) (jm r1 r2) p w:=by
 have key:∀ (N:Nat) (v:List Nat) (m:Pr),uv 0 v<=N->fk (cz r1 r2) p v=some m->jm r1 r2 m->∃ w,lj (cz r1 r2) (jm r1 r2) p w:=by
  intro N
  induction N with
  | zero=>
   intro v m hv hg hb
   exact ⟨v,⟨m,hg,hb⟩,fun u m' hu Mi bc=>by have:=yK bc (mI hf hu);omega⟩
  | succ N ih=>
   intro v m hv hg hb
   by_cases q:∃ u m',fk (cz r1 r2) p u=some m'/\jm r1 r2 m'/\iy u v
   ·obtain ⟨u,m',h1,h2,h3⟩:=q
    exact ih u m' (by have:=yK h3 (mI hf h1);omega) h1 h2
   ·exact ⟨v,⟨m,hg,hb⟩,fun u m' hu Mi bc=>q ⟨u,m',hu,Mi,bc⟩⟩
 exact key _ v m (Qy _) hg hb
theorem wB (r1 r2:List ae) (a b:Str):cz r2 r1 (b,a)=(cz r1 r2 (a,b)).map fun q=>(q.1,(q.2.2,q.2.1)):=by
 by_cases me:fh r1 r2 (a,b)
 ·rw [cW me,cW me.symm]
  unfold gm
  rw [Qn]
  have:stH (aj r2 b)=stH (aj r1 a):=me.2.symm
  show (stH (aj r2 b)).map _=(stH (aj r1 a)).map _
  rw [this];rfl
 ·have UU:¬fh r2 r1 (b,a):=fun z=>me z.symm
  unfold cz
  rw [if_neg me,if_neg UU];rfl
theorem qY:∀ (v:List Nat) (a b:Str),fk (cz r2 r1) (b,a) v=(fk (cz r1 r2) (a,b) v).map fun q=>(q.2,q.1)
 | [],_,_=>rfl
 | k::v,a,b=>by
  rw [bK,bK,wB,Qq]
  cases (cz r1 r2 (a,b))[k]? with
  | none=>rfl
  | some q=>exact qY v q.2.1 q.2.2
theorem kW {N Lb:Type} (nx:N->List (Lb×N)) (n:N) (k:Nat) (ks:List Nat):j_ nx n (k::ks)=match (nx n)[k]? with | some q=>q.1::j_ nx q.2 ks | none=>[]:=rfl
theorem xH:∀ (v:List Nat) (a b:Str),j_ (cz r2 r1) (b,a) v=j_ (cz r1 r2) (a,b) v
 | [],_,_=>rfl
 | k::v,a,b=>by
  rw [kW,kW,wB,Qq]
  cases (cz r1 r2 (a,b))[k]? with
  | none=>rfl
  | some q=>exact congrArg (q.1::·) (xH v q.2.1 q.2.2)
theorem lj.sw {w:List Nat} (h:lj (cz r1 r2) (jm r1 r2) (a,b) w):lj (cz r2 r1) (jm r2 r1) (b,a) w:=by
 obtain ⟨⟨m,h1,h2⟩,h3⟩:=h
 refine ⟨⟨(m.2,m.1),by rw [qY,h1];rfl,fun z=>h2 z.symm⟩,fun v m' hv hb=>?_⟩
 rw [qY] at hv
 obtain ⟨q,e1,e2⟩:=Option.map_eq_some_iff.mp hv
 exact h3 v q e1 fun z=>hb (by rw [<- e2];exact z.symm)
theorem lj.tail {w:List Nat} {k:Nat} {q:List Str×Pr} (h:lj (cz r1 r2) (jm r1 r2) p (k::w)) (hq:(cz r1 r2 p)[k]? =some q):lj (cz r1 r2) (jm r1 r2) q.2 w:=by
 obtain ⟨⟨m,h1,h2⟩,h3⟩:=h
 rw [bK,hq] at h1
 refine ⟨⟨m,h1,h2⟩,fun v m' hv hb bc=>h3 (k::v) m' (by rw [bK,hq];exact hv) hb ?_⟩
 rcases bc with bc | ⟨hl,hx⟩
 ·exact .inl (by simpa using bc)
 ·exact .inr ⟨by simpa using hl,.inr ⟨rfl,hx⟩⟩
theorem lj.first {w:List Nat} {k:Nat} (h:lj (cz r1 r2) (jm r1 r2) p (k::w)):∃ s,fh r1 r2 p/\s∈stH (aj r1 p.1)/\j_ (cz r1 r2) p (k::w)=s::j_ (cz r1 r2) (fu r1 r2 p s) w/\lj (cz r1 r2) (jm r1 r2) (fu r1 r2 p s) w:=by
 have me:fh r1 r2 p:=Classical.byContradiction fun me=>by
  obtain ⟨⟨m,h1,_⟩,_⟩:=h
  have e:cz r1 r2 p=[]:=if_neg me
  rw [bK,e] at h1
  simp at h1
 cases hs:(stH (aj r1 p.1))[k]? with
 | none=>
  obtain ⟨⟨m,h1,_⟩,_⟩:=h
  rw [bK,cW me,cQ,hs] at h1
  cases h1
 | some s=>
  have hq:(cz r1 r2 p)[k]? =some (s,fu r1 r2 p s):=by rw [cW me,cQ,hs];rfl
  exact ⟨s,me,QC hs,by rw [kW,hq],h.tail hq⟩
end
def lq (y y':Str):Prop:=y'=y++"q"\/y'=y++"r"
def qj:Hd->Hd->Prop
 | .one s,.one s'=>s'=s
 | .as y,.as y'=>lq y y'
 | .way x y,.way x' y'=>lq x x'/\lq y y'
 | .prs s ps,.prs s' qs=>s'=s/\qs.length=ps.length/\∀ j (h1:j < qs.length) (h2:j < ps.length),qs[j].1=ps[j].1/\lq ps[j].2 qs[j].2
 | _,_=>False
theorem qj.nx:∀ {h h':Hd},qj h h'->(h.nx=none/\h'.nx=none)\/∃ y y',h.nx=some y/\h'.nx=some y'/\lq y y'
 | .one _,.one _,_=>.inl ⟨rfl,rfl⟩
 | .as y,.as y',t=>.inr ⟨y,y',rfl,rfl,t⟩
 | .way _ _,.way _ _,_=>.inl ⟨rfl,rfl⟩
 | .prs _ _,.prs _ _,_=>.inl ⟨rfl,rfl⟩
theorem qj.dm:∀ {h h':Hd},qj h h'->h.dm=h'.dm
 | .one _,.one _,t=>by cases t;rfl
 | .as _,.as _,_=>rfl
 | .way _ _,.way _ _,_=>rfl
 | .prs _ _,.prs _ _,t=>by obtain ⟨rfl,_⟩:=t;rfl
theorem qj.bq {h h':Hd} (t:qj h h'):h'.bq.length=h.bq.length/\∀ j (h1:j < h'.bq.length) (h2:j < h.bq.length),h'.bq[j].1=h.bq[j].1/\lq h.bq[j].2 h'.bq[j].2:=by
 cases h with
 | one s=>cases h' with
  | one s'=>exact ⟨rfl,fun j h1=>absurd h1 (by simp [Hd.bq])⟩
  | as _=>exact t.elim
  | way _ _=>exact t.elim
  | prs _ _=>exact t.elim
 | as y=>cases h' with
  | as y'=>exact ⟨rfl,fun j h1=>absurd h1 (by simp [Hd.bq])⟩
  | one _=>exact t.elim
  | way _ _=>exact t.elim
  | prs _ _=>exact t.elim
 | way x y=>cases h' with
  | way x' y'=>
   refine ⟨rfl,fun j h1 h2=>?_⟩
   have hj:j < 2:=h1
   match j,hj with
   | 0,_=>exact ⟨rfl,t.1⟩
   | 1,_=>exact ⟨rfl,t.2⟩
  | one _=>exact t.elim
  | as _=>exact t.elim
  | prs _ _=>exact t.elim
 | prs s ps=>cases h' with
  | prs s' qs=>
   obtain ⟨rfl,hl,ht⟩:=t
   refine ⟨by simp [Hd.bq,hl],fun j h1 h2=>?_⟩
   have:=ht j (by simpa [Hd.bq] using h1) (by simpa [Hd.bq] using h2)
   simp only [Hd.bq,Qr]
   exact ⟨by rw [this.1],this.2⟩
  | one _=>exact t.elim
  | as _=>exact t.elim
  | way _ _=>exact t.elim
theorem HV.wm {v:V} {h h':Hd} (q:HV H v h) (q':HV H v h'):h=h':=by
 cases q with
 | one e=>cases q' with
  | one e'=>rw [e] at e';cases e';rfl
  | as e'=>rw [e] at e';cases e'
  | way e'=>rw [e] at e';cases e'
  | prs e' _ _=>rw [e] at e';cases e'
 | as e=>cases q' with
  | one e'=>rw [e] at e';cases e'
  | as e'=>rw [e] at e';cases e';rfl
  | way e'=>rw [e] at e';cases e'
  | prs e' _ _=>rw [e] at e';cases e'
 | way e=>cases q' with
  | one e'=>rw [e] at e';cases e'
  | as e'=>rw [e] at e';cases e'
  | way e'=>rw [e] at e';cases e';rfl
  | prs e' _ _=>rw [e] at e';cases e'
 | prs e f p=>cases q' with
  | one e'=>rw [e] at e';cases e'
  | as e'=>rw [e] at e';cases e'
  | way e'=>rw [e] at e';cases e'
  | prs e' f' p'=>
   rw [e] at e';cases e'
   rw [f] at f';cases f'
   congr 1
   have l1:=p.len
   have l2:=p'.len
   refine List.ext_getElem (by omega) fun i h1 h2=>?_
   obtain ⟨c,z1,z2⟩:=p.at_ i (by omega) h1
   obtain ⟨c',y1,y2⟩:=p'.at_ i (by omega) h2
   rw [z1] at y1;cases y1
   rw [z2] at y2
   injection y2 with y2
   injection y2 with y2
   simp only [List.cons.injEq,V.str.injEq,and_true] at y2
   exact Prod.ext y2.1 y2.2
def zu (H:Hp) (rows:List ae) (rs:List (Str×V)):Prop:=∀ r∈rows,∀ c:Str,(c="q"\/c="r")->∃ v h,(r.1++c,v)∈rs/\HV H v h/\qj r.2 h
theorem zu.tk {H H':Hp} {rows:List ae} {rs:List (Str×V)} (h:zu H rows rs) (s:Tk H H'):zu H' rows rs:=fun r hr c hc=>let ⟨v,d,a,b,e⟩:=h r hr c hc;⟨v,d,a,b.tk s,e⟩
theorem zu.sub {rows:List ae} {rs rs':List (Str×V)} (h:zu H rows rs) (s:∀ x∈rs,x∈rs'):zu H rows rs':=fun r hr c hc=>let ⟨v,d,a,b,e⟩:=h r hr c hc;⟨v,d,s _ a,b,e⟩
theorem xD {ys:List V} {rows dc:List ae} {rs:List (Str×V)} (rt:RT H b ys dc ns ws) (pa:ie H ys (bh rs)) (t:zu H rows rs):∀ r∈rows,∀ c:Str,(c="q"\/c="r")->qj r.2 (aj dc (r.1++c)):=by
 intro r hr c hc
 obtain ⟨v,h,h1,h2,h3⟩:=t r hr c hc
 obtain ⟨i,hi,ei⟩:=Qi h1
 have hl:=pa.1
 have wg:i < (bh rs).length:=by simpa [bh] using hi
 obtain ⟨b',e1,e2⟩:=pa.2 i wg
 have B4:i < ys.length:=by omega
 have rl:=rt.rv.len
 obtain ⟨b2,v2,f1,f2,f3⟩:=rt.rv.at_ i B4 (by omega)
 rw [Qa B4,f1] at e1
 cases e1
 rw [f2] at e2
 have ek:(bh rs)[i]=(.inr (r.1++c),v):=by
  have:(bh rs)[i]=(.inr rs[i].1,rs[i].2):=by simp [bh]
  rw [this,ei]
 rw [ek] at e2
 injection e2 with e2
 injection e2 with e2
 have Mj:dc[i].1=r.1++c/\v2=v:=by simpa [kV] using e2
 have hm:dc[i]∈dc:=Qj _
 have:=cS rt.jf hm
 rw [Mj.1] at this
 rw [this]
 rw [Mj.2] at f3
 rw [<- h2.wm f3]
 exact h3
section
variable {rows dc:List ae}
theorem eu.Iu (g:eu rows ns) (hx:x∈ns):(x,aj rows x)∈rows:=by
 obtain ⟨_,_,_,_,rt,_⟩:=g
 obtain ⟨r,hr,rfl⟩:=List.mem_map.mp (rt.nm.mem_iff.mpr hx)
 rw [cS rt.jf hr];exact hr
theorem eu.step (g:eu rows ns) (hx:x∈ns):(qc rows x=none->endOf rows x=x)/\∀ y,qc rows x=some y->y∈ns/\endOf rows y=endOf rows x:=by
 obtain ⟨H,a,xs,ws,rt,hw⟩:=g
 obtain ⟨rs,g,nm,rl,hv⟩:=rt.good hw
 have hm:∀ z,z∈rs.map (·.1)↔z∈ns:=fun z=>by rw [nm];exact rt.nm.mem_iff
 constructor
 ·intro e
  exact cD _ e
 ·intro y e
  have h1:=g.Hs ((hm x).mpr hx) e
  rw [rl] at h1
  refine ⟨?_,h1⟩
  obtain ⟨r,hr,rfl⟩:=List.mem_map.mp ((hm x).mpr hx)
  exact (hm y).mp (g.B9 r hr y e).1
structure wq (rows dc:List ae) (ns wu:List Str):Prop where
 g:eu rows ns
 g2:eu dc wu
 tw:∀ r∈rows,∀ c:Str,(c="q"\/c="r")->qj r.2 (aj dc (r.1++c))
 mem:∀ x∈ns,∀ c:Str,(c="q"\/c="r")->x++c∈wu
variable {wu:List Str}
theorem wq.hd (t:wq rows dc ns wu) {x':Str} (hx:x∈ns) (e:lq x x'):qj (aj rows x) (aj dc x')/\x'∈wu:=by
 rcases e with rfl | rfl
 ·exact ⟨t.tw _ (t.g.Iu hx) "q" (.inl rfl),t.mem x hx "q" (.inl rfl)⟩
 ·exact ⟨t.tw _ (t.g.Iu hx) "r" (.inr rfl),t.mem x hx "r" (.inr rfl)⟩
theorem wq.end_ (t:wq rows dc ns wu):∀ (N k:Nat) (x x':Str),k < N->ns[k]? =some x->lq x x'->lq (endOf rows x) (endOf dc x')
 | 0,k,_,_,h,_,_=>absurd h (by omega)
 | N+1,k,x,x',hk,hx,e=>by
  have hm:=QC hx
  obtain ⟨hd,hm2⟩:=t.hd hm e
  obtain ⟨a1,a2⟩:=t.g.step hm
  obtain ⟨b1,b2⟩:=t.g2.step hm2
  rcases hd.nx with ⟨z1,z2⟩ | ⟨y,y',z1,z2,z3⟩
  ·rw [a1 z1,b1 z2];exact e
  ·obtain ⟨ym,ye⟩:=a2 y z1
   obtain ⟨Xo,UW⟩:=b2 y' z2
   obtain ⟨_,_,_,_,rt,_⟩:=t.g
   obtain ⟨i,j,qo,g1,g2⟩:=rt.ah _ (t.g.Iu hm) y z1
   have Xp:j=k:=by
    obtain ⟨h1,e1⟩:=List.getElem?_eq_some_iff.mp g2
    obtain ⟨h2,e2⟩:=List.getElem?_eq_some_iff.mp hx
    exact mK rt.nd (fun _ _ q=>q) g2 hx
   rw [<- ye,<- UW]
   exact t.end_ N i y y' (by omega) g1 z3
theorem wq.ends (t:wq rows dc ns wu) {x':Str} (hx:x∈ns) (e:lq x x'):lq (endOf rows x) (endOf dc x'):=by
 obtain ⟨k,hk,ek⟩:=Qi hx
 exact t.end_ (k+1) k x x' (by omega) (by rw [Qa hk,ek]) e
theorem wq.ag (t:wq rows dc ns wu):∀ (n:Nat) {e e':Str},iu rows ns e->iu dc wu e'->lq e e'->kc rows dc n (e,e'):=by
 have me:∀ {e e':Str},iu rows ns e->lq e e'->fh rows dc (e,e'):=fun {e e'} h te=>by
  have hd:=(t.hd h.1 te).1
  refine ⟨hd.dm,?_⟩
  obtain ⟨l,m⟩:=hd.bq
  show stH (aj rows e)=stH (aj dc e')
  unfold stH
  refine List.ext_getElem (by simp [l]) fun j h1 h2=>?_
  simp only [Qr]
  exact (m j (by simpa using h2) (by simpa using h1)).1.symm
 intro n
 induction n with
 | zero=>intro e e' h _ te;exact me h te
 | succ n ih=>
  intro e e' h h' te
  have m0:=me h te
  refine ⟨m0,fun s hs=>?_⟩
  have hd:=(t.hd h.1 te).1
  obtain ⟨l,m⟩:=hd.bq
  have hs:s∈stH (aj rows e):=hs
  obtain ⟨j,hj,ej⟩:=Qi hs
  have Bh:j < (aj rows e).bq.length:=by simpa [stH] using hj
  have CA:j < (aj dc e').bq.length:=by omega
  obtain ⟨q1,q2⟩:=m j CA Bh
  have es:s=(aj rows e).bq[j].1:=by rw [<- ej];simp [stH]
  have o1:(s,endOf rows (aj rows e).bq[j].2)∈dw rows e:=by
   unfold dw
   rw [h.2]
   exact List.mem_map.mpr ⟨_,Qj Bh,by rw [es]⟩
  have o2:(s,endOf dc (aj dc e').bq[j].2)∈dw dc e':=by
   unfold dw
   rw [h'.2]
   exact List.mem_map.mpr ⟨_,Qj CA,by rw [es,q1]⟩
  have v1:=xU (t.g.Ij h) o1
  have v2:=xU (t.g2.Ij h') o2
  have po:mw rows dc ns wu (e,e'):=⟨h,h'⟩
  have pb:=po.behind t.g t.g2 m0 hs
  have ep:fu rows dc (e,e') s=(endOf rows (aj rows e).bq[j].2,endOf dc (aj dc e').bq[j].2):=by
   unfold fu
   rw [v1,v2];rfl
  rw [ep] at pb ⊢
  exact ih pb.a pb.b (t.ends (rE (t.g.uo h).2 _ (Qj Bh)) q2)
theorem wq.alike (t:wq rows dc ns wu) {x':Str} (hx:x∈ns) (e:lq x x'):jh rows dc (endOf rows x,endOf dc x'):=
 dW.mpr fun n=>t.ag n (t.g.stay hx) (t.g2.stay (t.hd hx e).2) (t.ends hx e)
end
end L2
namespace L2
open PySem PySem.Spec PyProof.Rows PySem.W
end L2
namespace L2
open PySem PySem.Spec PyProof.Rows
theorem h_.strs (zs:List Str):h_ H n (zs.map V.str) (zs.map Tv.s):=⟨by simp,fun j h1 h2=>by
 rw [Qr,Qr];exact TD.str⟩
theorem SV.UX {us:List V} {R:List (List Str)} (h:SV H us R):h_ H 1 us (R.map fun s=>.t (s.map Tv.s)):=⟨by simp [h.len],fun j h1 h2=>by
 obtain ⟨b,e,r⟩:=h.at_ j h1 (by simpa using h2)
 rw [e,Qr]
 exact TD.tup r (h_.strs _)⟩
theorem jP {F R:Addr} {us:List V} {rd:List (List Str)} (e:H F=some (.tup [.str z,.ref R])) (e2:H R=some (.tup us)) (sv:SV H us rd):TD H 3 (.ref F) (.t [.s z,.t (rd.map fun s=>.t (s.map Tv.s))]):=
 TD.tup (.inl e) (h_.cons TD.str (h_.cons (TD.tup (.inl e2) sv.UX) h_.nil))
theorem eA (B0:Scope) (oN:List Str) (h:sc.kind=.function/\(∀ y∈sc.names,y.2≠.cell)/\(∀ y∈sc.names,y.2=.local->sc.names.lookup y.1=some .local)/\(∀ y∈sc.names,y.2=.free->(B0.names.lookup y.1=some .cell\/B0.names.lookup y.1=some .free))/\(∀ j∈idx,sc.names.lookup (oN.getD j "")=some .free/\j < oN.length)/\N'=own++idx.map (fun j=>oN.getD j "")):oj B0 oN sc own idx N':=⟨h.1,h.2.1,h.2.2.1,h.2.2.2.1,h.2.2.2.2.1,h.2.2.2.2.2⟩
theorem bH {P:List Str} (h:sc.kind=.function/\sc.isCoroutine=false/\sc.isGenerator=false/\N.Nodup/\N.take P.length=P/\(∀ x∈P,sc.names.lookup x=some .local\/sc.names.lookup x=some .cell)/\∀ y∈sc.names,y.2≠.free):ef N P sc:=⟨h.1,h.2.1,h.2.2.1,h.2.2.2.1,h.2.2.2.2.1,h.2.2.2.2.2.1,h.2.2.2.2.2.2⟩
theorem vB (xs:Array Value):slicePick xs none none (some (-1))=xs.toList.reverse.toArray:=by
 unfold slicePick
 congr 1
 rw [<- yO xs]
 show (sliceRange ((xs.size:Int) - 1) (-1) (-1)).filterMap (xs[·]?)=_
 unfold sliceRange
 simp only [show ¬((-1:Int) > 0) by decide,if_false]
 rw [List.filterMap_map]
 have e:(if (xs.size:Int) - 1 > -1 then (((xs.size:Int) - 1) - (-1) - (-1) - 1) / (- -1) else 0).toNat=xs.size:=by
  have h1:(- -1:Int)=1:=rfl
  rw [h1,Int.ediv_one]
  split<;>omega
 rw [e]
 refine jZ fun k hk=>?_
 show xs[((xs.size:Int) - 1+ -1*(k:Int)).toNat]? =_
 have h2:((xs.size:Int) - 1+ -1*(k:Int))=((xs.size:Int) - 1+(k:Int)* -1):=by omega
 rw [h2]
section
variable {st:Expr} {ts:TE} {p2 pos:Pos}
def UY (K:Q0) (te ts:TE):TE:=fun σ H Q=>te σ H fun x H1=>ts σ H1 fun y H2=>y=.int (-1)/\∃ a xs,x=.ref a/\ak K H2 a xs/\∀ p,H2 p=none->Q (.ref p) (upd H2 p (.lst xs.reverse))
theorem UZ (K:Q0) (he:SE X e te) (hs:SE X st ts) (hK:X.K=K:=by rfl):SE X (.Subscript e (.Slice none none (some st) p2) pos) (UY K te ts):=by
 subst hK
 constructor
 intro pins s σ H Q I h
 refine Subscript_ (au (he.h pins s σ H _ I h) ?_)
 rintro v s1 ⟨x,H1,I1,r1,q1⟩
 refine wpAny_Slice ?_
 rw [evalPart_none]
 refine QU ?_
 refine QU ?_
 rw [evalPart_some]
 refine au (hs.h pins s1 σ H1 _ I1 q1) ?_
 rintro u s3 ⟨y,H3,I3,ry,ey,a,xs,ex,hq,q⟩
 subst ey ex
 obtain ⟨tk,rfl⟩:=(show ∃ t,u=Value.int (-1) t from ry)
 cases r1
 have I4:Inv X pins σ H3 {s3 with heap:=s3.heap.push {cls:=.type "slice",data:=.fields #[.none,.none,.int (-1) tk]}}:=I3.kept (t':=s3.toks) fun b ob q=>Qc _ q
 obtain ⟨its,r,pl,hz⟩:=I4.list hq
 have hl:=pl.isList
 show wpAny (model X.prog X.w) X.A (subscriptTail e (.Slice none none (some st) p2) (.ref a) (.ref s3.heap.objs.size)) (EP X pins σ Q) X.xe {s3 with heap:=s3.heap.push {cls:=.type "slice",data:=.fields #[.none,.none,.int (-1) tk]}}
 refine tail_any (ops:=[.ref a,.ref s3.heap.objs.size]) hl.typeIs list_getitem_lookup (wpAny_getItem_list_slice (lo:=none) (hi:=none) (st:=some (-1)) hl (Heap.IsSliceOf.new ..) .none .none (.int _ _) (by simp) ?_ (by have:=r.length;simp;omega)) (by with_unfolding_all rfl)
 rw [vB]
 refine ⟨.ref _,_,I4.laid (t':=s3.toks) (o:=.lst xs.reverse) (fun b ob q=>Qc _ q) (Qy _) ?_,rfl,q _ (I4.hok.fresh (Qy _))⟩
 exact ⟨by simpa using hz,its.reverse,0,a_.rev r,Qd _ rfl⟩
def U0:R2:=fun x y H Q=>∃ a b xs,x=.ref a/\y=.ref b/\H a=some (.tup xs)/\H b=some (.tup [])/\Q (.bl xs.isEmpty) H
theorem yX (hu:X.A.units+20 < cLine):cj X (compareOp .Eq) U0:=by
 intro pins s σ H x y v u Q I rx ry h
 obtain ⟨a,b,xs,rfl,rfl,ha,hb,q⟩:=h
 cases rx
 cases ry
 obtain ⟨i1,r1,p1,_⟩:=I.tuple (af.of ha)
 obtain ⟨i2,r2,p2,_⟩:=I.tuple (af.of hb)
 cases r2
 refine SeqAt.eq_tupleAt (e:=fun _=>true) p1 p2 (by omega) (fun j h1 h2=>absurd h2 (by simp)) ?_
 have e:((List.range (min i1.toArray.size ([]:List Value).toArray.size)).all (fun _=>true)&&i1.toArray.size==([]:List Value).toArray.size)=xs.isEmpty:=by
  have hl:=r1.length
  cases xs with
  | nil=>simp at hl;simp [<- hl]
  | cons x xs=>cases i1 with
   | nil=>simp at hl
   | cons u us=>simp
 rw [e]
 exact ⟨.bl xs.isEmpty,H,I,rfl,q⟩
end
section
variable {t1 t2:Bool} {z TI TO c1 c2 l1 l2:Addr} {k1 k2:Nat} {xs ys:Array Value} {x y a b:Value}
end
section
variable {k:Nat} {za p pos:Pos} {a b:Expr}
end
end L2
namespace L2
open PySem PySem.Spec PyProof.Rows HT
theorem lE {t sl:Addr} {items:Array Value} {vl vu:Value} {lo hi:Option Int} (ht:IsTup s.heap t items) (hs:s.heap.IsSliceOf sl vl vu .none) (pl:IsPart vl lo) (pu:IsPart vu hi)
  (hw:bf items.size 0 lo=0/\bf items.size items.size hi=items.size) (h:Q (.ref t) s):wpAny (model prog w) A (getItem (.ref t) (.ref sl)) Q E s:=by
 obtain ⟨os,zc,EW,ji⟩:=id hs
 have G2:s.TypeIs (.ref sl) "slice":=⟨os,zc,EW⟩
 unfold getItem
 refine wpAny_holding ?_
 refine QT (wpAny_sequenceKey ht.typeIs (by decide) ?_)
 refine QT (wpAny_callSpecial?_slot (name:=Str.ofString "__getitem__") ht.typeIs slot_tuple_getitem (wpAny_call_entry slot_tuple_getitem ht.typeIs entry_tuple_getitem ?_ (args_tuple_getitem _ _)))
 show wpAny _ _ (Builtin.Tuple.tupleItemsOf (.ref t) >>=_) _ _ s
 refine QT (tupleItemsOf_ ht (QT (wpAny_typeOf G2 ?_)))
 rw [if_pos (by decide)]
 refine QT (eB hs pl pu ?_)
 have hy:(((bf items.size 0 lo:Nat):Int)==0&&(1:Int)==1&&(bf items.size items.size hi - bf items.size 0 lo)==items.size)=true:=by
  rw [hw.1,hw.2];simp
 show wpAny _ _ (if (((bf items.size 0 lo:Nat):Int)==0&&(1:Int)==1&&(bf items.size items.size hi - bf items.size 0 lo)==items.size)=true then _ else _) _ _ s
 rw [if_pos hy]
 refine QT (QT (wpAny_typeOf ht.typeIs (QU ?_)))
 rw [if_pos (by decide)]
 exact QT (wpAny_rule (QU ⟨_,rfl,QU h⟩))
def Ml (K:Q0):V->Option Int->Option Int->Hp->VK->Prop:=fun x lo hi H Q=>∃ a xs,x=.ref a/\af K H a xs/\(bf xs.length 0 lo=0/\bf xs.length xs.length hi=xs.length)/\Q x H
theorem yH:qw X (Ml X.K):=by
 intro pins s σ H x v vl vu lo hi sl Q I rx hs pl pu h
 obtain ⟨a,xs,rfl,hx,hw,q⟩:=h
 cases rx
 obtain ⟨its,r,ht,hz⟩:=I.tuple hx
 have fg:its.toArray.size=xs.length:=by rw [List.size_toArray];exact r.length.symm
 exact ⟨"tuple",_,slot_tuple_getitem.lookup,ht.typeIs,lE ht hs pl pu (by rw [fg];exact hw) ⟨.ref a,H,I,rfl,q⟩⟩
theorem Mm (K:Q0) (h:X.K=K:=by rfl):qw X (fun x lo hi H Q=>Af K x lo hi H Q\/Ml K x lo hi H Q):=by subst h;exact xP.or yH
end L2
namespace L2
open PySem PySem.Spec PyProof.Rows
open AutoSeq1 (wpAny_loadPart')
def Dt.U1 (z:Str):Dt->Bool
 | .tup [.str y]=>y==z
 | _=>false
def D5 (h:Dt):Dt:=if h.U1 "hole" then .tup [.str "all"] else h
def FW:Dt->Dt | .tup [a,h]=>.tup [a,D5 h] | d=>d
theorem DD.Iv {x y:V} {dx dy:Dt} (e:H b=some (.tup [x,y])) (h1:DD H x dx) (h2:DD H y dy):DD H (.ref b) (.tup [dx,dy]):=.tup e rfl (by simp) fun i a b=>by
 match i,a with
 | 0,_=>exact h1
 | 1,_=>exact h2
theorem DD.Iw {x:V} {dx:Dt} (e:H b=some (.tup [x])) (h1:DD H x dx):DD H (.ref b) (.tup [dx]):=.tup e rfl (by simp) fun i a b=>by
 match i,a with
 | 0,_=>exact h1
def D6 (H3 H4:Hp) (ws:List V) (ds:List Dt):Prop:=∀ j (h:j < ws.length) (h':j < ds.length),∃ c x1 hv dx dy,ws[j]=.ref c/\H4 c=some (.tup [x1,hv])/\ds[j]=.tup [dx,dy]/\DD H3 x1 dx/\(DD H3 hv (D5 dy)\/∃ b,hv=.ref b/\H4 b=some (.tup [.str "all"])/\D5 dy=.tup [.str "all"])
theorem D6.add {H3 H4 H6:Hp} {ws:List V} {c:Addr} {x1 hv:V} {dx dy:Dt} (f:D6 H3 H4 ws ds) (tk:Tk H4 H6) (hl:ws.length < ds.length) (e:H6 c=some (.tup [x1,hv])) (ed:ds[ws.length]=.tup [dx,dy]) (h1:DD H3 x1 dx) (h2:DD H3 hv (D5 dy)\/∃ b,hv=.ref b/\H6 b=some (.tup [.str "all"])/\D5 dy=.tup [.str "all"]):D6 H3 H6 (ws++[.ref c]) ds:=fun j h h'=>by
 by_cases hj:j < ws.length
 ·obtain ⟨c',x',C6,zw,U3,q1,q2,q3,q4,q5⟩:=f j hj h'
  refine ⟨c',x',C6,zw,U3,by rw [Qe hj];exact q1,tk _ _ q2,q3,q4,q5.imp id fun ⟨b,r1,r2,r3⟩=>⟨b,r1,tk _ _ r2,r3⟩⟩
 ·have:j=ws.length:=by simp at h;omega
  subst this
  exact ⟨c,x1,hv,dx,dy,by simp,e,ed,h1,h2⟩
theorem D6.dd {H3 H4:Hp} {ws:List V} (f:D6 H3 H4 ws ds) (s:aa H3 H4) (j:Nat) (h:j < ws.length) (h':j < ds.length):DD H4 ws[j] (FW ds[j]):=by
 obtain ⟨c,x1,hv,dx,dy,q1,q2,q3,q4,q5⟩:=f j h h'
 rw [q1,q3]
 refine DD.Iv q2 (q4.same s) ?_
 rcases q5 with q5 | ⟨b,rfl,q6,q7⟩
 ·exact q5.same s
 ·rw [q7];exact DD.Iw q6 (.str (by decide))
def FY (H H':Hp) (v:V) (d:Dt):Prop:=DD H v (FW d)\/∃ c x1 b dx,v=.ref c/\H' c=some (.tup [x1,.ref b])/\H' b=some (.tup [.str "all"])/\DD H x1 dx/\FW d=.tup [dx,.tup [.str "all"]]
theorem FY.dd {v:V} (h:FY H H' v d) (s:aa H H'):DD H' v (FW d):=by
 rcases h with h | ⟨c,x1,b,dx,rfl,h2,h3,h4,h5⟩
 ·exact h.same s
 ·rw [h5];exact DD.Iv h2 (h4.same s) (DD.Iw h3 (.str (by decide)))
def Iz (H H':Hp) (ws:List V) (ds:List Dt):Prop:=∀ j (h:j < ws.length) (h':j < ds.length),FY H H' ws[j] ds[j]
theorem Iz.add {ws:List V} {v:V} (f:Iz H H' ws ds) (hl:ws.length < ds.length) (h:FY H H' v ds[ws.length]):Iz H H' (ws++[v]) ds:=fun j a b=>by
 by_cases hj:j < ws.length
 ·rw [Qe hj];exact f j hj b
 ·have:j=ws.length:=by simp at a;omega
  subst this
  simpa using h
def Hd.D7:Hd->Bool | .one s=>s=="hole" | _=>false
def Hd.U4:Hd->Bool | .way _ _=>true | _=>false
def Hd.FZ (h:Hd):Hd:=if h.D7 then .one "all" else h
def Mn (r:ae):ae:=(r.1,r.2.FZ)
structure TH (H:Hp) (a:Addr) (xs:List V) (rows:List ae) (ns ws:List Str):Prop where
 at_:H a=some (.tup xs)
 rv:RV H xs rows
 nm:(rows.map (·.1)).Perm ns
 nd:ns.Nodup
 ok:Lj ns (rows.map Mn)
 wd:∀ n∈ns,Wd n
 ah:∀ r∈rows,Aq ns r.1 r.2.nx
 ww:∀ r∈rows,∀ z∈r.2.Ao,z∈ws
 pos:1<=ns.length
 few:ns.length<=10
 nw:∀ r∈rows,r.2.U4=false
 hl:rows.countP (fun r=>r.2.D7)<=6
section
variable {xs:List V} {rows:List ae}
theorem TH.rl (h:TH H a xs rows ns ws):rows.length=ns.length:=by have:=h.nm.length_eq;simpa using this
theorem HV.rf {v:V} {h:Hd} (q:HV H v h) (ok:h.FZ.ok ns):DD H v h.dt:=by
 cases e:h.D7 with
 | false=>
  have:h.FZ=h:=by unfold Hd.FZ;rw [e];rfl
  rw [this] at ok
  exact (q.tx ok).dd
 | true=>
  cases q with
  | @one b s e1=>
   have:s="hole":=eq_of_beq e
   subst this
   exact DD.Iw e1 (.str (by decide))
  | _=>cases e
theorem TH.dd (h:TH H a xs rows ns ws):DD H (.ref a) (.tup (rows.map SK)):=by
 have Ar:=h.rl
 have few:=h.few
 have hl:=h.rv.len
 refine .tup h.at_ (by simp [hl]) (by omega) fun i h1 h2=>?_
 have h3:i < rows.length:=by simpa using h2
 obtain ⟨b,v,q1,q2,q3⟩:=h.rv.at_ i h1 h3
 obtain ⟨m1,m2⟩:=h.ok (Mn rows[i]) (List.mem_map.mpr ⟨_,Qj h3,rfl⟩)
 have U5:isName rows[i].1=true:=m1
 rw [q1]
 simp only [Qr]
 exact DD.Iv q2 (.str (by have:=dG U5;omega)) (q3.rf m2)
end
end L2
namespace L2
open PySem PySem.Spec PyProof.Rows
open AutoSeq1 (wpAny_loadPart')
section
variable {o:Obj} {es:Array DictEntry} {Xq:Array Value}
end
mutual
def Dt.oc:Dt->Nat
 | .str _=>0
 | .mj=>1
 | .tup ds=>Mp ds
def Mp:List Dt->Nat
 | []=>0
 | d::r=>d.oc+Mp r
end
mutual
def Dt.dep:Dt->Nat
 | .str _=>0
 | .mj=>0
 | .tup ds=>Mq ds+1
def Mq:List Dt->Nat
 | []=>0
 | d::r=>max d.dep (Mq r)
end
end L2
namespace L2
open PySem PySem.Spec PyProof.Rows
mutual
def Dt.cn:Dt->Nat
 | .str _=>1
 | .mj=>1
 | .tup ds=>Mr ds+1
def Mr:List Dt->Nat
 | []=>0
 | d::r=>d.cn+Mr r
end
structure DX (P:Addr->Prop) (H:Hp) (m:Bool) (v:V) (d:Dt) (k c:Nat):Prop where
 ex:∃ p,DA P H m v p d/\p.depth<=k/\p.shown.length+2<=220*c/\p.showable=true/\d.cn<=c/\d.dep<=k
section
variable {P:Addr->Prop} {m:Bool} {v:V} {k k' c c':Nat}
theorem DX.dd (h:DX P H m v d k c):DD H v d:=let ⟨p,h1,_⟩:=h.ex;h1.dd
end
structure PX (H:Hp) (v:V) (d:Dt) (k c:Nat):Prop where
 ex:∃ p,TX H v d/\zh H v p/\p.depth<=k/\p.shown.length+2<=220*c/\p.showable=true/\d.cn<=c/\d.dep<=k/\d.oc=0
section
variable {v:V} {k k' c c':Nat}
theorem PX.dd (h:PX H v d k c):DD H v d:=let ⟨_,h1,_⟩:=h.ex;h1.dd
inductive D8 (H:Hp) (k:Nat):List V->List Dt->Nat->Prop
 | nil:D8 H k [] [] 0
 | cons {v:V} {d:Dt} {c:Nat} {vs:List V} {ds:List Dt} {cs:Nat}:PX H v d k c->D8 H k vs ds cs->D8 H k (v::vs) (d::ds) (c+cs)
theorem D8.len {vs:List V} {cs:Nat} (h:D8 H k vs ds cs):vs.length=ds.length:=by
 induction h with
 | nil=>rfl
 | cons _ _ ih=>simp [ih]
end
theorem jT {k:Nat} (hr:fm k A):A.units+100 < cLine:=by have:=hr.un;omega
end L2
set_option maxHeartbeats 400000
--Xr 14
--Xs
namespace T1
open PySem L2
def top (i:Nat):Stmt:=PySem.Challenge.pw_coilkind_k23_whole_alike_goes_on.main.body.getD i (.Pass ⟨0,0,0,0⟩)
abbrev kN:Stmt:=top 2
abbrev iW:Stmt:=top 3
abbrev eJ:Stmt:=top 4
abbrev iO:Stmt:=top 5
abbrev eP:Stmt:=top 6
abbrev h9:Stmt:=top 12
abbrev jU:Stmt:=top 13
abbrev eQ:Stmt:=top 14
abbrev fC:Stmt:=top 15
abbrev fQ:Stmt:=top 16
abbrev n6:Stmt:=top 18
abbrev fO:Stmt:=top 19
abbrev dH:Stmt:=top 20
abbrev eW:Stmt:=top 21
abbrev jX:Stmt:=top 22
abbrev cK:Stmt:=top 23
abbrev fT:Stmt:=top 24
abbrev gT:Stmt:=top 26
abbrev i4:Stmt:=top 27
abbrev fE:Stmt:=top 28
abbrev dQ:Stmt:=top 29
abbrev fG:Stmt:=top 30
abbrev dZ:Stmt:=top 31
abbrev iY:Stmt:=top 32
abbrev bR:Stmt:=top 33
abbrev gU:Stmt:=top 34
abbrev eO:Stmt:=top 35
abbrev cC:Stmt:=top 40
abbrev jV:Stmt:=top 41
abbrev cP:Stmt:=inClass (top 11) 0
structure Txt (K:Q0) (mg:Str->Option Value) (w:World):Prop where
 wx:mg "len"=none
 mH:mg "range"=none
 wA:mg "list"=none
 fB:mg "tuple"=none
 Xu:mg "dict"=none
 U6:mg "zip"=none
 wC:∃ a,mg "WORDED"=some (.ref a)/\∀ H,af K H a [.str "box",.str "pick"]
 rL:∃ u,mg "FROM"=some u/\RelV (.ref (adr mg "FROM")) u
 IA:∃ u,mg "TO"=some u/\RelV (.ref (adr mg "TO")) u
 iL:∃ a,mg "STEP_WORDS"=some (.ref a)/\KD w K a [(.inr "box",.str "part"),(.inr "pick",.str "case")]
 vS:dz K mg "row_of" kN ["T","x"]
 vK:dz K mg "head_of" iW ["T","x"]
 rR:dz K mg "heads_of" eJ ["T"]
 uM:dz K mg "rows_of" iO ["T"]
 qP:dz K mg "names_in" eP ["head"]
 rT:dz K mg "steps_of" h9 ["T","x"]
 xI:dz K mg "end_of" jU ["T","x","road"]
 qL:dz K mg "steps_in" eQ ["head"]
 qE:dz K mg "moves_in" fC ["head","rows"]
 oX:dz K mg "road_back" fQ ["trail","at"]
 U7:dz K mg "alike" n6 ["T","x","S","y"]
 o5:dz K mg "are_alike" fO ["T","x","S","y"]
 k8:dz K mg "parting_road" dH ["left","right","first"]
 nB:dz K mg "put_in_one" eW ["above","a","b"]
 x9:dz K mg "top_of" jX ["above","thing"]
 l9:dz K mg "pairs_behind" cK ["left","right","pair"]
 pI:dz K mg "pairs_met" fT ["left","right","first"]
 qM:dz K mg "_law_fill" gT ["_law_cell","_law_at"]
 qZ:dz K mg "_law_next" i4 ["_law_pen","_law_many"]
 nU:dz K mg "_law_turned" fE ["_law_pen","_law_some"]
 o9:dz K mg "_law_words" dQ ["_law_pen"]
 qK:dz K mg "_law_head" fG ["_law_pen","_law_names","_law_ahead"]
 lD:dz K mg "_law_telling" dZ ["_law_pen","_law_most"]
 u6:dz K mg "_law_any" iY ["_law_pen","_law_told"]
 jJ:dz K mg "_law_twin_head" bR ["_law_pen","_law_here"]
 rW:dz K mg "_law_twin" gU ["_law_pen","_law_told"]
 rY:dz K mg "_law_bent" eO ["_law_pen","_law_told"]
 gP:dz K mg "_law_behind_steps" cC ["_law_told","_law_name","_law_other","_law_twin_name"]
 Ms:dz K mg "law" jV ["script"]
 s_:DH K mg "Net" "Net.__init__" cP ["self","T"] ["rows","heads","marks","moves"] (adr mg "Net")
theorem oJ:ef ["self","T"] ["self","T"] (be cP):=bH (by decide+kernel)
theorem iS:ef ["T","x","heads"] ["T","x"] (be kN):=bH (by decide+kernel)
theorem rX:ef ["T","x"] ["T","x"] (be iW):=bH (by decide+kernel)
theorem pZ:ef ["T"] ["T"] (be eJ):=bH (by decide+kernel)
theorem cO:ef ["T","heads","rows","name","row"] ["T"] (be iO):=bH (by decide+kernel)
theorem oF:ef ["head"] ["head"] (be eP):=bH (by decide+kernel)
theorem oS:ef ["T","x"] ["T","x"] (be h9):=bH (by decide+kernel)
theorem eI:ef ["T","x","road","net","row","step"] ["T","x","road"] (be jU):=bH (by decide+kernel)
theorem oB:ef ["head"] ["head"] (be eQ):=bH (by decide+kernel)
theorem oM:ef ["head","rows"] ["head","rows"] (be fC):=bH (by decide+kernel)
theorem d8:ef ["trail","at","steps","step"] ["trail","at"] (be fQ):=bH (by decide+kernel)
theorem iG:ef ["T","x","S","y","left","right","first","road"] ["T","x","S","y"] (be n6):=bH (by decide+kernel)
theorem iI:ef ["T","x","S","y","left","right"] ["T","x","S","y"] (be fO):=bH (by decide+kernel)
theorem aV:ef ["left","right","first","pairs","trail","above","at","a","b","step","pair"] ["left","right","first"] (be dH):=bH (by decide+kernel)
theorem gJ:ef ["above","a","b","top","other"] ["above","a","b"] (be eW):=bH (by decide+kernel)
theorem j3:ef ["above","thing","upper"] ["above","thing"] (be jX):=bH (by decide+kernel)
theorem cT:ef ["left","right","pair","a","b"] ["left","right","pair"] (be cK):=bH (by decide+kernel)
theorem bQ:ef ["left","right","first","pairs","seen","at","step","pair"] ["left","right","first"] (be fT):=bH (by decide+kernel)
theorem fV:ef ["_law_cell","_law_at","_law_x"] ["_law_cell","_law_at"] (be gT):=bH (by decide+kernel)
theorem cF:ef ["_law_pen","_law_many","_law_at","_law_cell","_law_found"] ["_law_pen","_law_many"] (be i4):=bH (by decide+kernel)
theorem dX:ef ["_law_pen","_law_some","_law_left","_law_found"] ["_law_pen","_law_some"] (be fE):=bH (by decide+kernel)
theorem nP:ef ["_law_pen"] ["_law_pen"] (be dQ):=bH (by decide+kernel)
theorem fX:ef ["_law_pen","_law_names","_law_ahead","_law_way","_law_one"] ["_law_pen","_law_names","_law_ahead"] (be fG):=bH (by decide+kernel)
theorem bY:ef ["_law_pen","_law_most","_law_size","_law_names","_law_rows","_law_k"] ["_law_pen","_law_most"] (be dZ):=bH (by decide+kernel)
theorem qT:ef ["_law_pen","_law_told"] ["_law_pen","_law_told"] (be iY):=bH (by decide+kernel)
theorem j5:ef ["_law_pen","_law_here"] ["_law_pen","_law_here"] (be bR):=bH (by decide+kernel)
theorem dM:ef ["_law_pen","_law_told","_law_rows","_law_name","_law_here"] ["_law_pen","_law_told"] (be gU):=bH (by decide+kernel)
theorem dN:ef ["_law_pen","_law_told","_law_at","_law_names","_law_row"] ["_law_pen","_law_told"] (be eO):=bH (by decide+kernel)
theorem aS:ef ["_law_told","_law_name","_law_other","_law_twin_name","_law_found","_law_step","_law_one","_law_two_here"] ["_law_told","_law_name","_law_other","_law_twin_name"] (be cC):=bH (by decide+kernel)
theorem cV:ef ["script","_law_pen","_law_k","_law_told","_law_second","_law_third","_law_name","_law_end","_law_turn","_law_last","_law_one"] ["script"] (be jV):=bH (by decide+kernel)
def U8 (K:Q0) (mg:Str->Option Value) (w:World):Prop:=∃ ts:List (Addr×Obj×List V),(∀ t∈ts,DG K t)/\(ts.map (·.1)).Nodup/\Txt (without K (ts.map (·.1))) mg w/\∀ H:Hp,(∀ t∈ts,H t.1=some (.aq t.2.1 (.tup t.2.2)))->Kn mg H "FROM" [.str "from"]/\Kn mg H "TO" [.str "to"]
section
variable {K:Q0}
def Mt:Sp:=fun vs H Q _=>∃ c t:Int,vs=[.int c,.int t]/\(0<=t/\t < 1000000000)/\∀ r:Int,Q (.int r) H
theorem p7 (T:Txt K mg w):az P w K mg base 1 "_law_fill" ["_law_cell","_law_at"] Mt:=by
 refine T.qM.fz fV (fun vs H Q E h=>?_) (fun f ay A outer s H vs Q E hr h=>?_)
 ·obtain ⟨c,t,rfl,_⟩:=h
  rfl
 ·obtain ⟨c,t,rfl,⟨CB,Bq⟩,k⟩:=h
  refine ⟨_,(aD (cH (aY RE (zv 0) (bT zD aH aH) (gg _)) (aG (aQ (zv 0))) bC)
   (aD (aP (i:=2) fV.nd rfl (Or.inl rfl) (bT dO (bT bM (bT bM (bT d9 (bT dO (zv 0) aH) aH) (bT d9 (zv 1) aH)) aH) aH))
   (aD (aP (i:=2) fV.nd rfl (Or.inl rfl) (bT dO (bT bM (bT bM (bT d9 (zv 2) (zv 2)) (bT d9 aH (zv 2))) (zv 1)) aH))
   (aG (aQ (bT bM (bT d9 (zv 2) aH) (bT dO (bT bM (bT d9 (zv 2) (zv 2)) (bT d9 aH (zv 1))) aH))))))),?_⟩
  refine ⟨⟨by decide,by decide,by decide⟩,_,rfl,E6 (fun hk=>k _) (fun hk=>?_)⟩
  refine ⟨by decide,.inl ⟨?_,?_⟩,.inl ⟨by omega,by omega⟩,by decide,?_⟩
  ·have:=Int.emod_nonneg c (show (2147483647:Int)≠0 by decide);omega
  ·have:=Int.emod_lt_of_pos c (show (0:Int) < 2147483647 by decide);omega
  generalize hx:(c % 2147483647*48271+t*69621+11) % 2147483629=x
  have Xv:0<=x:=by rw [<- hx];exact Int.emod_nonneg _ (by decide)
  have Xw:x < 2147483629:=by rw [<- hx];exact Int.emod_lt_of_pos _ (by decide)
  refine ⟨.inl ⟨by omega,by omega⟩,.inl ⟨by decide,by decide⟩,by decide,?_⟩
  generalize hy:(x*x+48271*x+t) % 2147483587=y
  have Xx:0<=y:=by rw [<- hy];exact Int.emod_nonneg _ (by decide)
  have Xy:y < 2147483587:=by rw [<- hy];exact Int.emod_lt_of_pos _ (by decide)
  exact ⟨.inl ⟨by omega,by omega⟩,.inl ⟨by omega,by omega⟩,.inl ⟨by decide,by decide⟩,by decide,k _⟩
def U9 (K:Q0):Sp:=fun vs H Q _=>∃ (p a:Addr) (ns:List Int) (m t x:Int),vs=[.ref p,.int m]/\H p=some (.lst [.ref a,.int t,.int x])/\(∀ o,ak K (upd H p o) a (ns.map V.int))/\ak K H a (ns.map V.int)/\(0<=t/\t < 1000000)/\(0 < m/\m < 1073741824)/\
 ∀ r t' x':Int,0<=r->r < m->0<=t'->t'<=t+1->Q (.int r) (upd H p (.lst [.ref a,.int t',.int x']))
theorem D9 (x y z:α):jj [x,y,z] 0=some x:=rfl
theorem U_ (x y z:α):jj [x,y,z] 1=some y:=rfl
theorem IB (x y z:α):jj [x,y,z] 2=some z:=rfl
theorem pU (T:Txt K mg w):az P w K mg base 2 "_law_next" ["_law_pen","_law_many"] (U9 K):=by
 have rC:az P w K mg base 1 "_law_fill" ["_law_cell","_law_at"] Mt:=p7 T
 refine T.qZ.fz cF (fun vs H Q E h=>?_) (fun f ay A outer s H vs Q E hr h=>?_)
 ·refine hdn fun Gz9 zG9=>?_;obtain ⟨p,a,ns,m,t,x,rfl,_⟩:=h;refine zG9 ?_
  rfl
 ·refine hdn fun Gz9 zG9=>?_;obtain ⟨p,a,ns,m,t,x,rfl,hp,hS',hS,⟨CB,Bq⟩,⟨CC,Bl⟩,k⟩:=h;refine zG9 ?_
  refine ⟨_,(aD (cH (aY iQ (bE (bD K) (zv 0) aH (fun _ _=>rfl)) (zv 1) (gg _)) (aD (aP (i:=2) cF.nd rfl (Or.inl rfl) (bE (bD K) (zv 0) aH (fun _ _=>rfl)))
   (aD (aP (i:=3) cF.nd rfl (Or.inl rfl) aH)
   (aD (cH (aY iQ (zv 2) (cL (bP K) (by rfl) T.wx PySem.boot_len (aI (bE (bD K) (zv 0) aH (fun _ _=>rfl)) aC)) (gg _)) (aG (aP (i:=3) cF.nd rfl (Or.inl rfl) (bE (bD K) (bE (bD K) (zv 0) aH (fun _ _=>rfl)) (zv 2) (fun _ _=>rfl)))) (aG (cH (aY xB (cL (bP K) (by rfl) T.wx PySem.boot_len (aI (bE (bD K) (zv 0) aH (fun _ _=>rfl)) aC)) aH (gg _)) (aG (aP (i:=3) cF.nd rfl (Or.inl rfl) (bT bM (bT dO (bE (bD K) (bE (bD K) (zv 0) aH (fun _ _=>rfl)) (bT dO (bT d9 (zv 2) aH) (cL (bP K) (by rfl) T.wx PySem.boot_len (aI (bE (bD K) (zv 0) aH (fun _ _=>rfl)) aC))) (fun _ _=>rfl)) aH) (bT d9 (zv 2) aH)))) bC)))
   (aD (lR (bT bM (zv 2) aH) (wJ (zv 0) aH kE))
   (aG (lR (bA rC (hr.mono (by decide)) (aB (zv 3) (aB (zv 2) aC))) (wJ (zv 0) aH kE))))))) bC)
   (aD (aP (i:=4) cF.nd rfl (Or.inl rfl) (bT dO (bE (bD K) (zv 0) aH (fun _ _=>rfl)) (zv 1)))
   (aD (lR (bT yU (bE (bD K) (zv 0) aH (fun _ _=>rfl)) (zv 1)) (wJ (zv 0) aH kE))
   (aG (aQ (zv 4)))))),?_⟩
  refine aO (fun σ' H1=>∃ (v2 v3:Option V) (t' x':Int),σ'=[some (.ref p),some (.int m),v2,v3,none]/\H1 p=some (.lst [.ref a,.int t',.int x'])/\(H1=H\/∃ o,H1=upd H p o)/\0<=t'/\t'<=t+1) ?_ ?_
  ·intro nx c_
   refine ⟨_,.int x,.inl (ak.of hp),IB _ _ _,_,rfl,E6 (fun hk=>?_) (fun hk=>?_)⟩
   ·refine aJ ⟨_,.int t,.inl (ak.of hp),U_ _ _ _,?_⟩
    refine iP ?_
    refine aO (fun σ' H1=>H1=H/\∃ c:Int,σ'=[some (.ref p),some (.int m),some (.int t),some (.int c),none]) ?_ ?_
    ·intro Mu yk
     refine ⟨_,.ref a,.inl (ak.of hp),D9 _ _ _,.inl ⟨_,.inl hS,_,rfl,E6 (fun hl=>?_) (fun hl=>?_)⟩⟩
     ·obtain ⟨c,ip,k_⟩:=kP (ns.map V.int) t CB (by have:=Qt hl;omega)
      have Cp:t.toNat < ns.length:=by
       have:=Qt hl
       rw [Ql] at this;omega
      have hc:c=.int (ns[t.toNat]):=by
       rw [Qq,Qa Cp] at ip
       exact (QD ip).symm
      subst hc
      exact ⟨_,.ref a,.inl (ak.of hp),D9 _ _ _,_,_,.inl hS,k_,yk _ _ ⟨rfl,_,rfl⟩⟩
     ·refine ⟨_,.ref a,.inl (ak.of hp),D9 _ _ _,.inl ⟨_,.inl hS,_,rfl,E6 (fun Ai=>?_) (fun Ai=>?_)⟩⟩
      ·have U':=Qt Ai
       have Xz:0 < (ns.map V.int).length:=by omega
       have e0:=Int.emod_nonneg (t*7) (show ((ns.map V.int).length:Int)≠0 by omega)
       have e1:=Int.emod_lt_of_pos (t*7) (show (0:Int) < (ns.map V.int).length by omega)
       obtain ⟨c,ip,k_⟩:=kP (ns.map V.int) (t*7 % ((ns.map V.int).length:Int)) e0 e1
       have Cp:(t*7 % ((ns.map V.int).length:Int)).toNat < ns.length:=by
        have e2:(ns.map V.int).length=ns.length:=Ql _
        omega
       have hc:c=.int (ns[(t*7 % ((ns.map V.int).length:Int)).toNat]):=by
        rw [Qq,Qa Cp] at ip
        exact (QD ip).symm
       subst hc
       refine ⟨_,.ref a,.inl (ak.of hp),D9 _ _ _,.inl ⟨by omega,by omega⟩,_,.ref a,.inl (ak.of hp),D9 _ _ _,.inl ⟨_,.inl hS,U',_,_,.inl hS,k_,by decide,.inl ⟨by omega,by omega⟩,yk _ _ ⟨rfl,_,rfl⟩⟩⟩
      ·exact yk _ _ ⟨rfl,0,rfl⟩
    ·rintro σ' H1 ⟨rfl,c,rfl⟩
     refine ⟨p,_,1,1,rfl,rfl,hp,rfl,?_⟩
     refine ⟨c,t,rfl,⟨CB,by omega⟩,fun r=>?_⟩
     refine ⟨p,_,2,2,rfl,rfl,aA,rfl,?_⟩
     rw [nA]
     exact c_ _ _ ⟨_,_,t+1,r,rfl,aA,.inr ⟨_,rfl⟩,by omega,by omega⟩
   ·exact c_ _ _ ⟨none,none,t,x,rfl,hp,.inl rfl,CB,by omega⟩
  ·rintro σ' H1 z0;refine hdn fun Gz9 zG9=>?_;obtain ⟨v2,v3,t',x',rfl,h1,h2,h3,h4⟩:=z0;refine zG9 ?_
   refine ⟨_,.int x',.inl (ak.of h1),IB _ _ _,CC,?_⟩
   refine ⟨_,.int x',.inl (ak.of h1),IB _ _ _,⟨CC,Bl⟩,p,_,2,2,rfl,rfl,h1,rfl,?_⟩
   have e:∀ o,upd H1 p o=upd H p o:=fun o=>by
    rcases h2 with rfl | ⟨o',rfl⟩
    ·rfl
    ·exact nA
   rw [e]
   exact k _ t' _ (Int.emod_nonneg _ (by omega)) (Int.emod_lt_of_pos _ CC) h3 h4
structure bz (K:Q0) (H0 H:Hp) (p:Addr) (t:Nat):Prop where
 ex:∃ (a:Addr) (ns:List Int) (u x:Int),H p=some (.lst [.ref a,.int u,.int x])/\(∀ H',Sm p p H0 H'->ak K H' a (ns.map V.int))/\0<=u/\u<=(t:Int)
 sm:Sm p p H0 H
section
variable {t u:Nat}
theorem bz.mono (h:bz K H0 H p t) (l:t<=u):bz K H0 H p u:=by
 refine hdn fun Gz9 zG9=>?_;obtain ⟨a,ns,y,x,h1,h2,h3,h4⟩:=h.ex;refine zG9 ?_
 exact ⟨⟨a,ns,y,x,h1,h2,h3,by omega⟩,h.sm⟩
theorem bz.same (h:bz K H0 H p t) (s:aa H H'):bz K H0 H' p t:=by
 obtain ⟨a,ns,y,x,h1,h2⟩:=h.ex
 exact ⟨⟨a,ns,y,x,s _ _ h1,h2⟩,h.sm.trans s.sm⟩
theorem bz.ne (h:bz K H0 H p t) (hD:H D=none):D≠p:=fun e=>by
 obtain ⟨_,_,_,_,z,_⟩:=h.ex
 rw [<- e,hD] at z;cases z
theorem bz.free (h:bz K H0 H p t) (hD:H D=none):H0 D=none:=h.sm.free hD (h.ne hD) (h.ne hD)
theorem bz.put (h:bz K H0 H p t) (h1:D≠p) (h2:H0 D=none):bz K H0 (upd H D o) p t:=by
 obtain ⟨a,ns,y,x,e1,e2⟩:=h.ex
 exact ⟨⟨a,ns,y,x,by rw [aF h1.symm];exact e1,e2⟩,h.sm.upd h2⟩
theorem bz.ts (h:bz K H0 H p t) (s:Sm p p H H'):Tk H H':=fun b xs e=>by
 obtain ⟨_,_,_,_,z,_⟩:=h.ex
 have n:b≠p:=fun q=>by rw [q,z] at e;cases e
 exact s _ _ e n n
end
def yl (K:Q0):Sp:=fun vs H Q _=>∃ (H0:Hp) (p:Addr) (m:Int) (t:Nat),vs=[.ref p,.int m]/\bz K H0 H p t/\(0 < m/\m < 1073741824)/\t < 900000/\
 ∀ (r:Int) (H':Hp),0<=r->r < m->bz K H0 H' p (t+1)->Sm p p H H'->Q (.int r) H'
theorem zM (h:j < n):zd n (j:Int)=some j:=by
 unfold zd
 rw [if_pos (by omega),if_pos (by omega)];simp
theorem jY {α:Type}:∀ {ls:List α} {i:Nat} (h:i < ls.length),(ls[i]::ls.eraseIdx i).Perm ls
 | x::r,0,_=>List.Perm.refl _
 | x::r,i+1,h=>by
  have ih:=jY (ls:=r) (i:=i) (by simpa using h)
  exact (List.Perm.swap _ _ _).trans (ih.cons x)
theorem bI (T:Txt K mg w):az P w K mg base 2 "_law_next" ["_law_pen","_law_many"] (yl K):=(pU T).imp fun vs H Q E h=>by
 refine hdn fun Gz9 zG9=>?_;obtain ⟨H0,p,m,t,rfl,hn,hm,ht,k⟩:=h;refine zG9 ?_
 refine hdn fun Gz9 zG9=>?_;obtain ⟨a,ns,u,x,h1,h2,h3,h4⟩:=hn.ex;refine zG9 ?_
 have sU:∀ o,Sm p p H (upd H p o):=fun o b u hb n _=>by rw [aF n];exact hb
 refine ⟨p,a,ns,m,u,x,rfl,h1,fun o=>h2 _ (hn.sm.trans (sU o)),h2 _ hn.sm,⟨h3,by omega⟩,hm,fun r t' x' r0 r1 t0 t1=>?_⟩
 exact k r _ r0 r1 ⟨⟨a,ns,t',x',aA,h2,t0,by push_cast;omega⟩,hn.sm.trans (sU _)⟩ (sU _)
def IC (K:Q0):Sp:=fun vs H Q _=>∃ (H0:Hp) (p a:Addr) (xs:List V) (t:Nat),vs=[.ref p,.ref a]/\bz K H0 H p t/\t+100 < 900000/\(ak K H a xs\/af K H a xs)/\xs.length<=100/\
 ∀ (L:Addr) (ys:List V) (H':Hp),H L=none->H' L=some (.lst ys)->ys.Perm xs->bz K H0 H' p (t+100)->Sm p p H H'->Q (.ref L) H'
theorem gI (T:Txt K mg w):az P w K mg base 3 "_law_turned" ["_law_pen","_law_some"] (IC K):=by
 have aM:az P w K mg base 2 "_law_next" ["_law_pen","_law_many"] (yl K):=bI T
 refine T.nU.fz dX (fun vs H Q E h=>?_) (fun f ay A outer s H vs Q E hr h=>?_)
 ·obtain ⟨H0,p,a,xs,t,rfl,_⟩:=h
  rfl
 ·refine hdn fun Gz9 zG9=>?_;obtain ⟨H0,p,a,xs,t,rfl,hn,ht,ha,hx,k⟩:=h;refine zG9 ?_
  have hu:=aX hr
  have fq:=Qx (aX hr)
  have hsz:sizeLine=16777216:=QL
  refine ⟨_,(aD (aP (i:=2) dX.nd rfl (Or.inl rfl) (cJ (lK K) (by rfl) T.wA PyProof.Rows.boot_list (aB (zv 1) aC)))
   (aD (aP (i:=3) dX.nd rfl (Or.inl rfl) (d5 aC))
   (aD (fF PassesOwn.never (aY (nD fq) (zv 2) (d5 aC) (gg _)) (aG (eZ (mW K QH QJ QK bZ (zv 3) (aU (mW K QH PySem.F.slot_list_pop PySem.F.type_list_pop vM (zv 2) (aU (bA aM (hr.mono (by decide)) (aB (zv 0) (aU (cL (bP K) (by rfl) T.wx PySem.boot_len (aB (zv 2) aC)) aC))) aC)) aC)))))
   (aG (aQ (zv 3)))))),?_⟩
  refine aJ ⟨a,xs,rfl,ha,fun l0 qd=>?_⟩
  refine aJ ⟨(show 0<=sizeLine by decide),fun l1 mq=>?_⟩
  have s1:=aa.upd qd (.lst xs)
  have s2:=aa.upd mq (.lst [])
  have e0:l0≠p:=hn.ne qd
  have e1:l1≠p:=(hn.same s1).ne mq
  have Mv:l0≠l1:=aK aA mq
  have f0:=hn.free qd
  have f1:=(hn.same s1).free mq
  have g0:upd (upd H l0 (.lst xs)) l1 (.lst []) l0=some (.lst xs):=s2 _ _ aA
  have g1:upd (upd H l0 (.lst xs)) l1 (.lst []) l1=some (.lst []):=aA
  have hn2:=(hn.same s1).same s2
  have yn:Sm p p H (upd (upd H l0 (.lst xs)) l1 (.lst [])):=(s1.trans s2).sm
  dsimp only
  generalize upd (upd H l0 (.lst xs)) l1 (.lst [])=H2 at g0 g1 hn2 yn
  have Va:H l0=none:=qd
  have Mw:H l1=none:=s1.free mq
  refine aO (fun σ' H'=>∃ ys,σ'=[some (.ref p),some (.ref a),some (.ref l0),some (.ref l1)]/\H' l1=some (.lst ys)/\ys.Perm xs/\bz K H0 H' p (t+100)/\Sm p p H H') ?_ ?_
  ·intro nx c_
   refine ⟨fun m σ' H'=>∃ (ls ys:List V),σ'=[some (.ref p),some (.ref a),some (.ref l0),some (.ref l1)]/\H' l0=some (.lst ls)/\H' l1=some (.lst ys)/\ls.length=m/\(ys++ls).Perm xs/\bz K H0 H' p (t+ys.length)/\Sm p p H H',⟨xs.length,xs,[],rfl,g0,g1,rfl,by simp,hn2,yn⟩,?_⟩
   rintro m σ' H3 z0;refine hdn fun Gz9 zG9=>?_;obtain ⟨ls,ys,rfl,q0,q1,q2,q3,q4,q5⟩:=z0;refine zG9 ?_
   have XA:ys.length+ls.length=xs.length:=by have:=q3.length_eq;rw [Qk] at this;exact this
   refine ⟨(show 0<=sizeLine by decide),fun b hb=>⟨aK q0 hb,ls,(aa.upd hb _) _ _ q0,aA,_,rfl,ic (fun c=>?_) (fun c=>?_)⟩⟩
   ·have s3:=aa.upd hb (.lst [])
    have Cz:=q4.same s3
    have Cy:=s3 _ _ q0
    have ID:=s3 _ _ q1
    have Mx:=q5.trans s3.sm
    generalize upd H3 b (.lst [])=H4 at Cz Cy ID Mx
    have XC:0 < ls.length:=by
     cases ls with
     | nil=>exact absurd c (by decide)
     | cons x r=>simp
    refine ⟨fun σ' zx=>∃ m',m' < m/\∃ (ls ys:List V),σ'=[some (.ref p),some (.ref a),some (.ref l0),some (.ref l1)]/\zx l0=some (.lst ls)/\zx l1=some (.lst ys)/\ls.length=m'/\(ys++ls).Perm xs/\bz K H0 zx p (t+ys.length)/\Sm p p H zx,fun σ' zx h=>h,?_⟩
    refine ⟨.inl ⟨rfl,ys,ak.of ID⟩,.inl ⟨rfl,ls,ak.of Cy⟩,.inl ⟨ls,.inl (ak.of Cy),H0,p,_,_,rfl,Cz,⟨by omega,by omega⟩,by omega,fun r H5 r0 r1 nc gn=>?_⟩⟩
    obtain ⟨i,rfl⟩:∃ i:Nat,r=(i:Int):=⟨r.toNat,by omega⟩
    have hi:i < ls.length:=by omega
    have p0:=gn _ _ Cy e0 e0
    have p1:=gn _ _ ID e1 e1
    refine ⟨l0,ls,(i:Int),i,ls[i],rfl,rfl,p0,by omega,by omega,(nF (zM hi)).1,Qa hi,l1,ys,ls[i],rfl,rfl,by rw [aF Mv.symm];exact p1,by omega,ls.length - 1,by omega,ls.eraseIdx i,ys++[ls[i]],rfl,by rw [aF Mv];exact aA,aA,?_,?_,?_,(Mx.trans gn).upd Va |>.upd Mw⟩
    ·rw [List.length_eraseIdx,if_pos hi]
    ·rw [List.append_assoc]
     exact ((jY hi).append_left ys).trans q3
    ·rw [Qk]
     exact (nc.put e0 f0).put e1 f1
   ·have Vb:ls=[]:=by
     cases ls with
     | nil=>rfl
     | cons x r=>exact absurd c (by simp)
    subst Vb
    rw [List.append_nil] at q3
    have s3:=aa.upd hb (.lst [])
    exact c_ _ _ ⟨ys,rfl,s3 _ _ q1,q3,(q4.same s3).mono (by have:=q3.length_eq;omega),q5.trans s3.sm⟩
  ·rintro σ' H' ⟨ys,rfl,q1,q2,q3,q4⟩
   exact k l1 ys H' Mw q1 q2 q3 q4
def Br:List Str:=["a","ab","b","ba"]
def D_:List Str:=["case","from","part","to"]
def WW:List Str:=Br++D_
theorem My:∀ z∈WW,isName z=true/\Wd z:=fun z hz=>by
 simp only [WW,Br,D_,List.cons_append,List.nil_append,Qp,QA,or_false] at hz
 rcases hz with rfl | rfl | rfl | rfl | rfl | rfl | rfl | rfl<;>exact ⟨by decide+kernel,eE (by decide) (by decide)⟩
structure WN (os:List Str):Prop where
 dj:rising os=true
 len:os.length<=4
 ww:∀ z∈os,z∈WW
theorem Vc:Br.Pairwise fun a b=>om a b=true:=by decide+kernel
theorem Vd:D_.Pairwise fun a b=>om a b=true:=by decide+kernel
theorem WN.of {b os:List Str} (hb:b=Br\/b=D_) (s:os.Sublist b):WN os:=by
 rcases hb with rfl | rfl
 ·exact ⟨eX (Vc.sublist s),s.length_le,fun z hz=>List.mem_append.mpr (.inl (s.subset hz))⟩
 ·exact ⟨eX (Vd.sublist s),s.length_le,fun z hz=>List.mem_append.mpr (.inr (s.subset hz))⟩
def Mz (K:Q0):Sp:=fun vs H Q _=>∃ (H0:Hp) (p:Addr) (t:Nat),vs=[.ref p]/\bz K H0 H p t/\t+5 < 900000/\
 ∀ (L:Addr) (os:List Str) (H':Hp),H L=none->H' L=some (.lst (os.map V.str))->WN os->bz K H0 H' p (t+5)->Sm p p H H'->Q (.ref L) H'
theorem nC (T:Txt K mg w):az P w K mg base 3 "_law_words" ["_law_pen"] (Mz K):=by
 have aM:az P w K mg base 2 "_law_next" ["_law_pen","_law_many"] (yl K):=bI T
 refine T.o9.fz nP (fun vs H Q E h=>?_) (fun f ay A outer s H vs Q E hr h=>?_)
 ·obtain ⟨H0,p,t,rfl,_⟩:=h
  rfl
 ·obtain ⟨H0,p,t,rfl,hn,ht,k⟩:=h
  have hu:=aX hr
  have fq:=Qx (aX hr)
  have hsz:sizeLine=16777216:=QL
  refine ⟨_,(aG (aQ (qA (own:=["_law_word"]) (idx:=[0]) (N':=["_law_word","_law_pen"]) (eA (be dQ) (["_law_pen"]:List Str) (by decide+kernel)) rfl (qF K (d5 (aE bB (aE bB (aE bB (aE bB aC)))))) (fun _ _ _ _ _ _=>(aL (i:=0) (show List.Nodup (["_law_word","_law_pen"]:List Str) by decide+kernel) rfl (Or.inl rfl))) (fun _ _ _ _ _ _=>(K2 (aY (gZ fq) (bA aM (hr.mono (by decide)) (aB (zv 1) (aE aH aC))) aH (gg _)))) (fun _ _ _ _ _ _=>(zv 0))))),?_⟩
  refine ⟨(show 4<=sizeLine by decide),fun S mq=>?_⟩
  have s1:=aa.upd mq (.lst [V.str "a",V.str "ab",V.str "b",V.str "ba"])
  have MA:upd H S (.lst [V.str "a",V.str "ab",V.str "b",V.str "ba"]) S=some (.lst (Br.map V.str)):=aA
  have iz:=(hn.same s1).mono (u:=t+1) (by omega)
  have eS:S≠p:=hn.ne mq
  generalize upd H S (.lst [V.str "a",V.str "ab",V.str "b",V.str "ba"])=H4 at s1 MA iz ⊢
  obtain ⟨bs,hb,gS⟩:∃ bs:List Str,(bs=Br\/bs=D_)/\H4 S=some (.lst (bs.map V.str)):=⟨Br,.inl rfl,MA⟩
  have XD:bs.length=4:=by rcases hb with rfl | rfl<;>rfl
  have F0:Sm p p H H4:=s1.sm
  refine Or.inl ⟨⟨_,ak.of gS⟩,fun D hD=>?_⟩
  have ni:D≠p:=iz.ne hD
  have MB:D≠S:=fun e=>by rw [e,gS] at hD;cases hD
  have fD:H0 D=none:=iz.free hD
  have tq:H D=none:=F0.free hD ni ni
  refine kJ (e8 (bs.map V.str)) (fun i τ H2=>∃ (v:Option V) (os:List Str),τ=[v,some (.ref p)]/\H2 D=some (.lst (os.map V.str))/\os.Sublist (bs.take i)/\H2 S=some (.lst (bs.map V.str))/\bz K H0 H2 p (t+1+i)/\Sm p p H H2)
   ⟨none,[],rfl,aA,List.Sublist.refl _,by rw [aF MB.symm];exact gS,iz.same (aa.upd hD _),F0.upd tq⟩ (by rintro i τ H2 _ ⟨_,_,_,_,_,q,_⟩;exact ak.of q) ?_ ?_
  ·rintro i τ H5 hi z0;refine hdn fun Gz9 zG9=>?_;obtain ⟨v,os,rfl,q1,q2,q4,q5,q6⟩:=z0;refine zG9 ?_
   rw [Ql] at hi
   rw [fY bs i hi]
   have CD:bs.take (i+1)=bs.take i++[bs.getD i ""]:=by
    rw [Qs,Qb,Qa hi];rfl
   generalize bs.getD i ""=z at CD
   have D7:os.length<=i:=by have:=q2.length_le;simp at this;omega
   refine ⟨H0,p,2,t+1+i,rfl,q5,⟨by decide,by decide⟩,by omega,fun r H6 r0 r1 MC gu=>?_⟩
   refine ⟨rfl,_,rfl,?_⟩
   have g4:=gu _ _ q4 eS eS
   have g1:=gu _ _ q1 ni ni
   refine ic (fun _=>?_) (fun _=>?_)
   ·exact ⟨_,g1,by rw [Ql];exact Rk (by omega),_,os++[z],rfl,by rw [aA,Qm];rfl,by rw [CD];exact q2.append (List.Sublist.refl _),by rw [aF MB.symm];exact g4,MC.put ni fD,(q6.trans gu).upd tq⟩
   ·exact ⟨_,os,rfl,g1,by rw [CD];exact q2.trans (List.sublist_append_left _ _),g4,MC,q6.trans gu⟩
  ·rintro τ H5 z0;refine hdn fun Gz9 zG9=>?_;obtain ⟨v,os,rfl,q1,q2,q4,q5,q6⟩:=z0;refine zG9 ?_
   rw [Ql] at q2 q5
   rw [Qo] at q2
   exact k D os H5 tq q1 (WN.of hb q2) (q5.mono (by omega)) q6
structure lu (H:Hp) (l:Addr) (ss:List Str):Prop where
 e:H l=some (.lst (ss.map V.str))
 ne:ss≠[]
 few:ss.length<=60
 wd:∀ z∈ss,Wd z
theorem yN {t:Nat} {ss:List Str} (h:lu H l ss) (hp:bz K H0 H p t):l≠p:=fun q=>by
 obtain ⟨_,_,_,_,z,_⟩:=hp.ex
 have e:=h.e
 have ne:=h.ne
 rw [q,z] at e
 cases ss with
 | nil=>exact ne rfl
 | cons a r=>cases e
theorem lu.nx {t:Nat} {ss:List Str} (h:lu H l ss) (hp:bz K H0 H p t) (s:Sm p p H H'):lu H' l ss:=⟨s _ _ h.e (yN h hp) (yN h hp),h.ne,h.few,h.wd⟩
theorem lu.same {ss:List Str} (h:lu H l ss) (s:aa H H'):lu H' l ss:=⟨s _ _ h.e,h.ne,h.few,h.wd⟩
theorem lu.at {H:Hp} {l:Addr} {ss:List Str} (h:lu H l ss) (r:Int) (h0:0<=r) (h1:r < ss.length):∃ z,jj (ss.map V.str) r=some (.str z)/\ss[r.toNat]? =some z/\Wd z:=by
 obtain ⟨c,ip,k_⟩:=kP (ss.map V.str) r h0 (by rw [Ql];exact h1)
 rw [Qq] at ip
 cases e:ss[r.toNat]? with
 | none=>rw [e] at ip;cases ip
 | some z=>
  rw [e] at ip
  cases ip
  exact ⟨z,k_,rfl,h.wd z (QC e)⟩
theorem lu.pos {ss:List Str} (h:lu H l ss):0 < ss.length:=List.length_pos_iff.mpr h.ne
def Ve (ns:List Str) (k:Nat) (o:Option Str):Prop:=∀ y,o=some y->∃ i,i < k/\ns[i]? =some y
def IE (K:Q0):Sp:=fun vs H Q _=>∃ (H0:Hp) (p nm:Addr) (k t:Nat) (ns:List Str),vs=[.ref p,.ref nm,.int (k:Int)]/\bz K H0 H p t/\t+20 < 900000/\lu H nm ns/\(∀ z∈ns,isName z=true)/\k<=ns.length/\
 ∀ (v:V) (H':Hp),oq H' ns WW v (Ve ns k)->bz K H0 H' p (t+20)->Sm p p H H'->Q v H'
theorem j7 (T:Txt K mg w):az P w K mg base 4 "_law_head" ["_law_pen","_law_names","_law_ahead"] (IE K):=by
 have aM:az P w K mg base 2 "_law_next" ["_law_pen","_law_many"] (yl K):=bI T
 have pQ:az P w K mg base 3 "_law_words" ["_law_pen"] (Mz K):=nC T
 refine T.qK.fz fX (fun vs H Q E h=>?_) (fun f ay A outer s H vs Q E hr h=>?_)
 ·refine hdn fun Gz9 zG9=>?_;obtain ⟨H0,p,nm,k,t,ns,rfl,_⟩:=h;refine zG9 ?_
  rfl
 ·refine hdn fun Gz9 zG9=>?_;obtain ⟨H0,p,nm,ka,t,ns,rfl,hn,ht,tn,F1,hk,k⟩:=h;refine zG9 ?_
  have hu:=aX hr
  have fq:=Qx (aX hr)
  have hsz:sizeLine=16777216:=QL
  have XE:=tn.pos
  have Vf:=tn.few
  refine ⟨_,(aD (aP (i:=3) fX.nd rfl (Or.inl rfl) (bA aM (hr.mono (by decide)) (aB (zv 0) (aE aH aC))))
   (aD (cH (aY iQ (zv 3) aH (gg _)) (aG (aQ (bE (bD K) (d5 (bS (bG (aE bB aC)) (bS (bG (aE bB aC)) aC))) (zv 3) (fun _ _=>rfl)))) bC)
   (aD (cH (R4 (aY (gZ fq) (zv 3) aH (gg _)) (R1 (aY xB (zv 2) aH (gg _)))).pt (aG (aQ (bG (aE bB (aI (bE (bD K) (zv 1) (bA aM (hr.mono (by decide)) (aB (zv 0) (aB (zv 2) aC))) (fun _ _=>rfl)) aC))))) bC)
   (aD (cH (aY iQ (zv 3) aH (gg _)) (aD (aP (i:=4) fX.nd rfl (Or.inl rfl) (bE (bD K) (zv 1) (bA aM (hr.mono (by decide)) (aB (zv 0) (aU (cL (bP K) (by rfl) T.wx PySem.boot_len (aB (zv 1) aC)) aC))) (fun _ _=>rfl)))
   (aG (aQ (bG (aE bB (aB (zv 4) (aI (bE (bD K) (zv 1) (bA aM (hr.mono (by decide)) (aB (zv 0) (aU (cL (bP K) (by rfl) T.wx PySem.boot_len (aB (zv 1) aC)) aC))) (fun _ _=>rfl)) aC))))))) bC)
   (aG (aQ (bG (aI (bE (bD K) (d5 (aE bB (aE bB aC))) (bT dO (zv 3) aH) (fun _ _=>rfl)) (aU (cJ (cN K) (by rfl) T.fB QG (fS (qA (own:=["_law_word"]) (idx:=[0,1]) (N':=["_law_word","_law_pen","_law_names"]) (eA (be fG) (["_law_pen","_law_names","_law_ahead","_law_way","_law_one"]:List Str) (by decide+kernel)) rfl (qF K (bA pQ (hr.mono (by decide)) (aB (zv 0) aC))) (fun _ _ _ _ _ _=>(aL (i:=0) (show List.Nodup (["_law_word","_law_pen","_law_names"]:List Str) by decide+kernel) rfl (Or.inl rfl))) (fun _ _ _ _ _ _=>fZ) (fun _ _ _ _ _ _=>(bG (aB (zv 0) (aI (bE (bD K) (zv 2) (bA aM (hr.mono (by decide)) (aB (zv 1) (aU (cL (bP K) (by rfl) T.wx PySem.boot_len (aB (zv 2) aC)) aC))) (fun _ _=>rfl)) aC))))) aC)) aC))))))))),?_⟩
  refine aJ ⟨H0,p,10,t,rfl,hn,⟨by decide,by decide⟩,by omega,fun wy H1 w0 w1 hn1 ql=>?_⟩
  have F4:=tn.nx hn ql
  refine aO (fun σ' H'=>σ'=[some (.ref p),some (.ref nm),some (.int (ka:Int)),some (.int wy),none]/\H1=H') ?_ ?_
  ·intro nx c_
   refine ⟨_,rfl,ic (fun c1=>?_) (fun c1=>c_ _ _ ⟨rfl,rfl⟩)⟩
   have Ie:wy < 2:=Qt c1
   refine ⟨(show 1<=sizeLine by decide),fun q1 ph=>⟨(show 1<=sizeLine by decide),fun q2 p_=>⟨(show 2<=sizeLine by decide),fun O hO=>?_⟩⟩⟩
   have s1:=aa.upd ph (.tup [.str "all"])
   have s2:=aa.upd p_ (.tup [.str "none"])
   have s3:=aa.upd hO (.lst [.ref q1,.ref q2])
   have sA:=(s1.trans s2).trans s3
   have g1:=s3 _ _ (s2 _ _ (aA:upd H1 q1 (.tup [.str "all"]) q1=some (.tup [.str "all"])))
   have g2:=s3 _ _ (aA:upd (upd H1 q1 (.tup [.str "all"])) q2 (.tup [.str "none"]) q2=some (.tup [.str "none"]))
   rcases (show wy=0\/wy=1 by omega) with rfl | rfl
   ·exact ⟨_,.ref q1,.inl (ak.of aA),rfl,k _ _ (SR g1 (fun _ h=>nomatch h)) ((hn1.same sA).mono (by omega)) (ql.trans sA.sm)⟩
   ·exact ⟨_,.ref q2,.inl (ak.of aA),rfl,k _ _ (wE g2 (fun _ h=>nomatch h)) ((hn1.same sA).mono (by omega)) (ql.trans sA.sm)⟩
  rintro σ' H' ⟨rfl,rfl⟩
  refine aO (fun σ' H'=>σ'=[some (.ref p),some (.ref nm),some (.int (ka:Int)),some (.int wy),none]/\H1=H') ?_ ?_
  ·intro nx c_
   refine ⟨rfl,_,rfl,ic (fun h2=>⟨_,rfl,ic (fun h3=>?_) (fun _=>c_ _ _ ⟨rfl,rfl⟩)⟩) (fun h2=>ic (fun c=>absurd c (by decide)) fun _=>c_ _ _ ⟨rfl,rfl⟩)⟩
   have L8:(0:Int) < (ka:Int):=Qt h3
   refine ⟨H0,p,(ka:Int),_,rfl,hn1,⟨by omega,by omega⟩,by omega,fun r H2 r0 r1 hn2 yn=>?_⟩
   have Bs:=F4.nx hn1 yn
   obtain ⟨y,IF,CF,Vg⟩:=Bs.at r r0 (by omega)
   refine ⟨_,_,.inl (ak.of Bs.e),IF,(show 2<=sizeLine by decide),fun c hc=>?_⟩
   refine k _ _ (SQ aA (F1 _ (QC CF)) (QC CF) (fun y' e=>?_)) ((hn2.same (aa.upd hc _)).mono (by omega)) ((ql.trans yn).trans (aa.upd hc _).sm)
   cases e
   exact ⟨r.toNat,by omega,CF⟩
  rintro σ' H' ⟨rfl,rfl⟩
  refine aO (fun σ' H'=>σ'=[some (.ref p),some (.ref nm),some (.int (ka:Int)),some (.int wy),none]/\H1=H') ?_ ?_
  ·intro nx c_
   refine ⟨_,rfl,ic (fun c1=>?_) (fun c1=>c_ _ _ ⟨rfl,rfl⟩)⟩
   refine aJ (.inl ⟨_,.inl (ak.of F4.e),H0,p,_,_,rfl,hn1,⟨by rw [Ql];omega,by rw [Ql];omega⟩,by omega,fun r H2 r0 r1 hn2 yn=>?_⟩)
   rw [Ql] at r1
   have Bs:=F4.nx hn1 yn
   obtain ⟨x,Vh,MD,XF⟩:=Bs.at r r0 r1
   refine ⟨_,_,.inl (ak.of Bs.e),Vh,.inl ⟨_,.inl (ak.of Bs.e),H0,p,_,_,rfl,hn2,⟨by rw [Ql];omega,by rw [Ql];omega⟩,by omega,fun r2 H3 b0 b1 kg gu=>?_⟩⟩
   rw [Ql] at b1
   have Ea:=Bs.nx hn2 gu
   obtain ⟨y,IF,CF,Vg⟩:=Ea.at r2 b0 b1
   refine ⟨_,_,.inl (ak.of Ea.e),IF,(show 3<=sizeLine by decide),fun b hb=>?_⟩
   exact k _ _ (SX aA (F1 _ (QC MD)) (F1 _ (QC CF)) (QC MD) (QC CF) (fun _ h=>nomatch h)) ((kg.same (aa.upd hb _)).mono (by omega)) (((ql.trans yn).trans gu).trans (aa.upd hb _).sm)
  rintro σ' H' ⟨rfl,rfl⟩
  refine ⟨(show 2<=sizeLine by decide),fun O hO=>?_⟩
  have sO:=aa.upd hO (.lst [.str "box",.str "pick"])
  have gO:upd H1 O (.lst [.str "box",.str "pick"]) O=some (.lst [.str "box",.str "pick"]):=aA
  have F5:=hn1.same sO
  have ME:=F4.same sO
  have MF:=ql.trans sO.sm
  dsimp only
  generalize upd H1 O (.lst [.str "box",.str "pick"])=H2 at sO gO F5 ME MF
  obtain ⟨so,AG,Vi⟩:∃ so:Str,jj [V.str "box",V.str "pick"] (wy % 2)=some (.str so)/\(so="box"\/so="pick"):=by
   rcases (show wy % 2=0\/wy % 2=1 by omega) with e | e
   ·rw [e];exact ⟨"box",rfl,.inl rfl⟩
   ·rw [e];exact ⟨"pick",rfl,.inr rfl⟩
  refine ⟨(show (0:Int) < 2 by decide),_,_,.inl (ak.of gO),AG,H0,p,_,rfl,F5,by omega,fun D os H3 tq q1 wn q5 gu=>?_⟩
  have q6:Sm p p H H3:=MF.trans gu
  have Ea:=ME.nx F5 gu
  have D7:=wn.len
  have ni:D≠p:=F5.ne tq
  refine Or.inl ⟨⟨_,ak.of q1⟩,fun D2 zy=>?_⟩
  have Eb:D2≠p:=q5.ne zy
  have MG:D2≠D:=fun e=>by rw [e,q1] at zy;cases zy
  have MH:H D2=none:=q6.free zy Eb Eb
  have f2:H0 D2=none:=q5.free zy
  have Vj:D2≠nm:=fun e=>by rw [e,Ea.e] at zy;cases zy
  refine kJ (e8 (os.map V.str)) (fun i τ H3=>∃ (v:Option V) (xs:List V) (rs:List (Str×V)),τ=[v,some (.ref p),some (.ref nm)]/\H3 D2=some (.lst xs)/\ie H3 xs (bh rs)/\rs.map (·.1)=os.take i/\(∀ r∈rs,∃ y,r.2=.str y/\y∈ns/\Wd y)/\H3 D=some (.lst (os.map V.str))/\bz K H0 H3 p (t+1+5+i)/\Sm p p H H3/\lu H3 nm ns)
   ⟨none,[],[],rfl,aA,j0,rfl,(fun _ h=>nomatch h),by rw [aF MG.symm];exact q1,(q5.same (aa.upd zy _)).mono (by omega),q6.upd MH,Ea.same (aa.upd zy _)⟩ (by rintro i τ H2 _ ⟨_,_,_,_,_,_,_,_,q,_⟩;exact ak.of q) ?_ ?_
  ·rintro i τ H4 hi z0;refine hdn fun Gz9 zG9=>?_;obtain ⟨v,xs,rs,rfl,r1,r2,AH,r3,r4,r5,r6,Bt⟩:=z0;refine zG9 ?_
   rw [Ql] at hi
   rw [fY os i hi]
   have CD:os.take (i+1)=os.take i++[os.getD i ""]:=by
    rw [Qs,Qb,Qa hi];rfl
   generalize os.getD i ""=z at CD
   have Ar:rs.length=i:=by have:=congrArg List.length AH;simp at this;omega
   have qb:xs.length=i:=by have:=r2.1;simp at this;omega
   refine .inl ⟨_,.inl (ak.of Bt.e),H0,p,_,t+1+5+i,rfl,r5,⟨by rw [Ql];omega,by rw [Ql];omega⟩,by omega,fun r H5 a0 a1 Vk t_=>?_⟩
   rw [Ql] at a1
   have uw:=Bt.nx r5 t_
   obtain ⟨n,Vl,wz,Ih⟩:=uw.at r a0 a1
   refine ⟨_,_,.inl (ak.of uw.e),Vl,(show 2<=sizeLine by decide),fun b hb=>?_⟩
   have g1:=t_ _ _ r1 Eb Eb
   have g4:=t_ _ _ r4 ni ni
   have IG:D2≠b:=aK g1 hb
   have Vm:D≠b:=aK g4 hb
   have zz:Tk H4 H5:=r5.ts t_
   have ow:Tk H4 (upd (upd H5 b (.tup [.str z,.str n])) D2 (.lst (xs++[.ref b]))):=(zz.trans (aa.upd hb _).ts).set (by rw [aF IG];exact g1) (by intro _ z;cases z)
   have Vn:upd (upd H5 b (.tup [.str z,.str n])) D2 (.lst (xs++[.ref b])) b=some (.tup [.str z,.str n]):=by rw [aF IG.symm];exact aA
   have Vo:lu (upd (upd H5 b (.tup [.str z,.str n])) D2 (.lst (xs++[.ref b]))) nm ns:=⟨by rw [aF Vj.symm];exact (aa.upd hb _) _ _ uw.e,uw.ne,uw.few,uw.wd⟩
   refine ⟨xs,by rw [aF IG];exact g1,by omega,_,xs++[.ref b],rs++[(z,.str n)],rfl,aA,hV (r2.ts ow) Vn,by rw [Qm,AH,CD];rfl,fun r' gi=>?_,by rw [aF MG.symm,aF Vm];exact g4,((Vk.same (aa.upd hb _)).put Eb f2),((r6.trans t_).trans (aa.upd hb _).sm).upd MH,Vo⟩
   rcases List.mem_append.mp gi with hx | hx
   ·exact r3 r' hx
   ·rw [List.mem_singleton.mp hx]
    exact ⟨n,rfl,QC wz,Ih⟩
  ·rintro τ H4 z0;refine hdn fun Gz9 zG9=>?_;obtain ⟨v,xs,rs,rfl,r1,r2,AH,r3,r4,r5,r6,Bt⟩:=z0;refine zG9 ?_
   rw [Ql] at AH r5
   rw [Qo] at AH
   have Ar:rs.length=os.length:=by rw [<- AH,Ql]
   have qb:xs.length=os.length:=by have:=r2.1;simp at this;omega
   refine ⟨D2,xs,rfl,.inl ⟨ak.of r1,fun c hc=>⟨(show 2<=sizeLine by decide),fun b hb=>?_⟩⟩⟩
   have s5:=aa.upd hc (.tup xs)
   have s6:=aa.upd hb (.tup [.str so,.ref c])
   have gc:=s6 _ _ (aA:upd H4 c (.tup xs) c=some (.tup xs))
   have i_:∀ r'∈rs,r'.1∈os:=fun r' gi=>by rw [<- AH];exact List.mem_map.mpr ⟨r',gi,rfl⟩
   have tk:=s5.ts.trans s6.ts
   have Vp:=SH (r2.ts tk) (fun r' gi=>(My _ (wn.ww _ (i_ r' gi))).1) (fun r' gi=>by obtain ⟨y,e1,e2,_⟩:=r3 r' gi;exact ⟨y,e1,e2,F1 y e2⟩) (by rw [AH];exact wn.dj)
   exact k _ _ (rO Vi aA gc (by omega) Vp (fun q hq=>by obtain ⟨q',ud,rfl⟩:=List.mem_map.mp hq;exact wn.ww _ (i_ q' ud)) (fun _ h=>nomatch h)) ((r5.same (s5.trans s6)).mono (by omega)) (r6.trans (s5.trans s6).sm)
def N8:List Str:=["x","xa","xb","y","ya","z","ka","kb"]
theorem lQ:∀ z∈N8,isName z=true/\Wd z:=fun z hz=>by
 simp only [N8,Qp,QA,or_false] at hz
 rcases hz with rfl | rfl | rfl | rfl | rfl | rfl | rfl | rfl<;>exact ⟨by decide+kernel,eE (by decide) (by decide)⟩
theorem Vq:N8.Nodup:=by decide+kernel
theorem vF {ys:List V} {l:List Str} (h:ys.Perm (l.map V.str)):∃ zs:List Str,zs.Perm l/\ys=zs.map V.str:=by
 refine ⟨ys.map Bj,?_,?_⟩
 ·have:=h.map Bj
  rw [Qn] at this
  have e:(Bj∘V.str)=(id:Str->Str):=rfl
  rw [e,List.map_id] at this
  exact this
 ·rw [Qn]
  have:∀ y∈ys,(V.str∘Bj) y=y:=fun y hy=>by
   obtain ⟨z,_,rfl⟩:=List.mem_map.mp (h.mem_iff.mp hy)
   rfl
  rw [List.map_congr_left this,List.map_id']
theorem pV {β:Type} {R:α->β->Prop} {xs ys:List α} (p:ys.Perm xs):∀ {rs:List β},Paired R xs rs->∃ rs',rs'.Perm rs/\Paired R ys rs':=by
 induction p with
 | nil=>intro rs h;cases h;exact ⟨[],.refl _,.nil⟩
 | cons x p ih=>
  intro rs h
  cases h with
  | cons a b=>
   obtain ⟨rs',q1,q2⟩:=ih b
   exact ⟨_::rs',q1.cons _,.cons a q2⟩
 | swap x y l=>
  intro rs h
  cases h with
  | cons a h=>
   cases h with
   | cons b h=>exact ⟨_::_::_,.swap _ _ _,.cons b (.cons a h)⟩
 | trans p1 p2 Vr Vs=>
  intro rs h
  obtain ⟨r1,a1,b1⟩:=Vs h
  obtain ⟨r2,a2,b2⟩:=Vr b1
  exact ⟨r2,a2.trans a1,b2⟩
theorem iA {α β γ:Type} {R:α->β->Prop} {g:γ->β}:∀ {xs:List α} {rs:List γ},Paired R xs (rs.map g)->Paired (fun x r=>R x (g r)) xs rs
 | [],[],.nil=>.nil
 | _::_,_::_,.cons a b=>.cons a (iA b)
theorem kD {α β γ:Type} {R:α->β->Prop} {g:γ->β}:∀ {xs:List α} {rs:List γ},Paired (fun x r=>R x (g r)) xs rs->Paired R xs (rs.map g)
 | [],[],.nil=>.nil
 | _::_,_::_,.cons a b=>.cons a (kD b)
theorem kT {xs ys:List V} {rs:List (Str×V)} (h:ie H xs (bh rs)) (p:ys.Perm xs):∃ rs',rs'.Perm rs/\ie H ys (bh rs'):=by
 obtain ⟨rs',q1,q2⟩:=pV p (iA (eG.mp h))
 exact ⟨rs',q1,eG.mpr (kD q2)⟩
def MI (K:Q0):Sp:=fun vs H Q _=>∃ (H0:Hp) (p:Addr) (most:Int) (t:Nat),vs=[.ref p,.int most]/\bz K H0 H p t/\t+600 < 900000/\(1<=most/\most<=8)/\
 ∀ (a:Addr) (xs:List V) (rows:List ae) (ns:List Str) (H':Hp),RT H' a xs rows ns WW->(ns.length:Int)<=most->(∀ n∈ns,n∈N8)->bz K H0 H' p (t+600)->Sm p p H H'->Q (.ref a) H'
theorem k0 (T:Txt K mg w):az P w K mg base 5 "_law_telling" ["_law_pen","_law_most"] (MI K):=by
 have aM:az P w K mg base 2 "_law_next" ["_law_pen","_law_many"] (yl K):=bI T
 have d7:az P w K mg base 3 "_law_turned" ["_law_pen","_law_some"] (IC K):=gI T
 have gR:az P w K mg base 4 "_law_head" ["_law_pen","_law_names","_law_ahead"] (IE K):=j7 T
 refine T.lD.fz bY (fun vs H Q E h=>?_) (fun f ay A outer s H vs Q E hr h=>?_)
 ·obtain ⟨H0,p,most,t,rfl,_⟩:=h
  rfl
 ·refine hdn fun Gz9 zG9=>?_;obtain ⟨H0,p,most,t,rfl,hn,ht,⟨Bl,hm2⟩,k⟩:=h;refine zG9 ?_
  have hu:=aX hr
  have fq:=Qx (aX hr)
  have hsz:sizeLine=16777216:=QL
  refine ⟨_,(aD (aP (i:=2) bY.nd rfl (Or.inl rfl) (bT bM aH (bA aM (hr.mono (by decide)) (aB (zv 0) (aB (zv 1) aC)))))
   (aD (aP (i:=3) bY.nd rfl (Or.inl rfl) (dL (uV K) (bA d7 (hr.mono (by decide)) (aB (zv 0) (z9 (d5 (aE bB (aE bB (aE bB (aE bB (aE bB (aE bB (aE bB (aE bB aC))))))))) aC))) dP (dR (zv 2))))
   (aD (aP (i:=4) bY.nd rfl (Or.inl rfl) (d5 aC))
   (aD (gM PassesOwn.never rfl (kL (by rfl) T.mH (aB (zv 2) aC)) (aL (i:=5) bY.nd rfl (Or.inl rfl)) (aG (eZ (mW K QH QJ QK bZ (zv 4) (bS (bG (aI (bE (bD K) (zv 3) (zv 5) (fun _ _=>rfl)) (aU (bA gR (hr.mono (by decide)) (aB (zv 0) (aB (zv 3) (aB (zv 5) aC)))) aC))) aC)))))
   (aG (aQ (cJ (cN K) (by rfl) T.fB QG (aU (bA d7 (hr.mono (by decide)) (aB (zv 0) (aB (zv 4) aC))) aC)))))))),?_⟩
  refine aJ ⟨H0,p,most,t,rfl,hn,⟨by omega,by omega⟩,by omega,fun r H1 r0 r1 hn1 ql=>?_⟩
  obtain ⟨i0,rfl⟩:∃ i:Nat,r=(i:Int):=⟨r.toNat,by omega⟩
  refine aJ ⟨(show 8<=sizeLine by decide),fun l1 mq=>?_⟩
  have s1:=aa.upd mq (.lst (N8.map V.str))
  have g1:upd H1 l1 (.lst (N8.map V.str)) l1=some (.lst (N8.map V.str)):=aA
  have hn2:=hn1.same s1
  have yn:=ql.trans s1.sm
  refine ⟨H0,p,l1,N8.map V.str,_,rfl,hn2,by omega,.inl (ak.of g1),(by decide),fun L ys H2 hL gL pm kg gu=>?_⟩
  obtain ⟨zs,II,rfl⟩:=vF pm
  have F0:=yn.trans gu
  have Vt:zs.length=8:=II.length_eq
  refine ⟨1+(i0:Int),rfl,Or.inr (Or.inl ⟨L,zs.map V.str,rfl,ak.of gL,fun N hN=>?_⟩)⟩
  have Vu:jq (zs.map V.str) none (some (1+(i0:Int)))=(zs.take (1+i0)).map V.str:=by
   rw [show (1+(i0:Int))=((1+i0:Nat):Int) by omega,mR,List.map_take]
  rw [Vu]
  have sN:=aa.upd hN (.lst ((zs.take (1+i0)).map V.str))
  have gN:upd H2 N (.lst ((zs.take (1+i0)).map V.str)) N=some (.lst ((zs.take (1+i0)).map V.str)):=aA
  have iz:=kg.same sN
  have IJ:=F0.trans sN.sm
  generalize upd H2 N (.lst ((zs.take (1+i0)).map V.str))=H3 at sN gN iz IJ
  have IK:(zs.take (1+i0)).length=1+i0:=by rw [List.length_take];omega
  have Ec:∀ n∈zs.take (1+i0),n∈N8:=fun n hn=>II.mem_iff.mp (List.mem_of_mem_take hn)
  have MJ:(zs.take (1+i0)).Nodup:=(II.nodup_iff.mpr Vq).sublist (List.take_sublist _ _)
  generalize zs.take (1+i0)=ns at gN IK Ec MJ
  have tn:lu H3 N ns:=⟨gN,by intro e;rw [e] at IK;simp at IK;omega,by omega,fun n hn=>(lQ n (Ec n hn)).2⟩
  refine aJ ⟨(show 0<=sizeLine by decide),fun R hR=>?_⟩
  have z_:R≠p:=iz.ne hR
  have Vv:R≠N:=fun e=>by rw [e,gN] at hR;cases hR
  have Ed:H R=none:=IJ.free hR z_ z_
  have fR:H0 R=none:=iz.free hR
  have sR:=aa.upd hR (.lst [])
  refine aO (fun σ' H'=>∃ (v5:Option V) (xs:List V) (rs:List (Str×V)),σ'=[some (.ref p),some (.int most),some (.int (1+(i0:Int))),some (.ref N),some (.ref R),v5]/\H' R=some (.lst xs)/\ie H' xs (bh rs)/\rs.map (·.1)=ns/\ju H' ns WW rs/\bz K H0 H' p (t+101+20*8)/\Sm p p H H') ?_ ?_
  ·intro nx c_
   refine ⟨1+(i0:Int),rfl,by omega,by omega,dU (iT 0 (1+(i0:Int)).toNat) (fun i σ' H'=>∃ (v5:Option V) (xs:List V) (rs:List (Str×V)),σ'=[some (.ref p),some (.int most),some (.int (1+(i0:Int))),some (.ref N),some (.ref R),v5]/\H' R=some (.lst xs)/\ie H' xs (bh rs)/\rs.map (·.1)=ns.take i/\ju H' ns WW rs/\lu H' N ns/\bz K H0 H' p (t+101+20*i)/\Sm p p H H')
    ⟨none,[],[],rfl,aA,j0,rfl,⟨(fun _ h=>nomatch h),(fun _ h=>nomatch h)⟩,tn.same sR,(iz.same sR).mono (by omega),IJ.trans sR.sm⟩ (fun _ _ _ _ _=>True.intro) ?_ ?_⟩
   ·rintro i σ' H4 hi z0;refine hdn fun Gz9 zG9=>?_;obtain ⟨v5,xs,rs,rfl,q1,q2,q3,q4,Bt,q6,q7⟩:=z0;refine zG9 ?_
    have d_:i < ns.length:=by omega
    have e0:(0+(i:Int))=(i:Int):=by omega
    rw [e0]
    have wz:ns[i]? =some ns[i]:=Qa d_
    have F6:ns[i]∈ns:=Qj d_
    generalize ns[i]=nm at wz F6
    have qb:xs.length=i:=by
     have h1:=q2.1
     have h2:=congrArg List.length q3
     simp at h1 h2
     omega
    refine ⟨.inl ⟨rfl,_,ak.of q1⟩,_,.str nm,.inl (ak.of Bt.e),d6 (by rw [Qq,wz];rfl),H0,p,N,i,_,ns,rfl,q6,by omega,Bt,(fun z hz=>(lQ z (Ec z hz)).1),by omega,fun hv H5 hg nc gn=>⟨(show 2<=sizeLine by decide),fun c hc=>?_⟩⟩
    have g4:H5 R=some (.lst xs):=gn _ _ q1 z_ z_
    have uw:=Bt.nx q6 gn
    have IL:R≠c:=aK g4 hc
    refine ⟨R,xs,.ref c,rfl,rfl,by rw [aF IL];exact g4,by omega,?_⟩
    have CG:Tk H5 (upd (upd H5 c (.tup [.str nm,hv])) R (.lst (xs++[.ref c]))):=((aa.upd hc _).ts).set (by rw [aF IL];exact g4) (by intro _ z;cases z)
    have Vw:upd (upd H5 c (.tup [.str nm,hv])) R (.lst (xs++[.ref c])) c=some (.tup [.str nm,hv]):=by rw [aF IL.symm];exact aA
    have MK:=(q6.ts gn).trans CG
    refine ⟨_,xs++[.ref c],rs++[(nm,hv)],rfl,aA,hV (q2.ts MK) Vw,?_,?_,⟨by rw [aF Vv.symm,aF (aK uw.e hc)];exact uw.e,uw.ne,uw.few,uw.wd⟩,((nc.same (aa.upd hc _)).put z_ fR).mono (by omega),((q7.trans gn).trans (aa.upd hc _).sm).upd Ed⟩
    ·rw [Qm,q3,Qs,wz];rfl
    ·have:=((q4.tk MK).add (n:=nm) (v:=hv) F6 ((hg.tk CG).imp fun o h y e=>by obtain ⟨i',h1,h2⟩:=h y e;exact ⟨i',i,h1,h2,wz⟩))
     exact this.perm fun r hr=>by
      rcases List.mem_append.mp hr with hr | hr
      ·exact Qh _ hr
      ·rw [List.mem_singleton.mp hr];exact List.mem_cons_self
   ·rintro σ' H' z0;refine hdn fun Gz9 zG9=>?_;obtain ⟨v5,xs,rs,rfl,q1,q2,q3,q4,q5,q6,q7⟩:=z0;refine zG9 ?_
    have en:(1+(i0:Int)).toNat=ns.length:=by omega
    rw [en,Qo] at q3
    exact c_ _ _ ⟨v5,xs,rs,rfl,q1,q2,q3,q4,q6.mono (by omega),q7⟩
  ·rintro σ' H4 z0;refine hdn fun Gz9 zG9=>?_;obtain ⟨v5,xs,rs,rfl,q1,q2,q3,q4,q6,q7⟩:=z0;refine zG9 ?_
   have Ar:rs.length=ns.length:=by rw [<- q3,Ql]
   have qb:xs.length=rs.length:=by have:=q2.1;simpa using this
   refine ⟨H0,p,R,xs,_,rfl,q6,by omega,.inl (ak.of q1),by omega,fun L2 ys H5 ML IM IP nc gn=>⟨L2,ys,rfl,.inl ⟨ak.of IM,fun a ha=>?_⟩⟩⟩
   have s6:=aa.upd ha (.tup ys)
   have ow:=(q6.ts gn).trans s6.ts
   obtain ⟨rs',pr,pa⟩:=kT (q2.ts ow) IP
   obtain ⟨rows,rt⟩:=RT.of aA pa (by rw [<- q3];exact pr.map _) MJ (fun n hn=>lQ n (Ec n hn)) (by omega) (by omega) ((q4.tk ow).perm fun r hr=>pr.mem_iff.mp hr)
   exact k a _ rows ns _ rt (by omega) Ec ((nc.same s6).mono (by omega)) ((q7.trans gn).trans s6.sm)
theorem IQ {rs:List (Str×V)} (i:Nat) (h:i < (bh rs).length) (h':i < rs.length):(bh rs)[i]=(Sum.inr rs[i].1,rs[i].2):=by simp [bh]
def MM (H:Hp) (a:Addr) (xs:List V) (rs:List (Str×V)):Prop:=H a=some (.tup xs)/\ie H xs (bh rs)/\rs.length<=1000
def F7:Sp:=fun vs H Q _=>∃ (a:Addr) (xs:List V) (rs:List (Str×V)),vs=[.ref a]/\MM H a xs rs/\∀ d,H d=none->Q (.ref d) (upd H d (.dK (dictOf (bh rs))))
theorem fW (T:Txt K mg w):az P w K mg base 1 "heads_of" ["T"] F7:=by
 refine T.rR.fz pZ (fun vs H Q E h=>?_) (fun f ay A outer s H vs Q E hr h=>?_)
 ·obtain ⟨a,xs,rs,rfl,_⟩:=h
  rfl
 ·refine hdn fun Gz9 zG9=>?_;obtain ⟨a,xs,rs,rfl,⟨hx,hp,fg⟩,k⟩:=h;refine zG9 ?_
  refine ⟨_,(aG (aQ (zZ (own:=["name","head"]) (idx:=[]) (N':=["name","head"]) (eA (be eJ) (["T"]:List Str) (by decide+kernel)) rfl (qF K (zv 0)) (fun _ _ _ _ _ _=>(cZ K (n:=2) rfl (aN (aL (i:=0) (show List.Nodup (["name","head"]:List Str) by decide+kernel) rfl (Or.inl rfl)) (aN (aL (i:=1) (show List.Nodup (["name","head"]:List Str) by decide+kernel) rfl (Or.inl rfl)) cA)))) (fun _ _ _ _ _ _=>fZ) (fun _ _ _ _ _ _=>(zv 0)) (fun _ _ _ _ _ _=>(zv 1))))),?_⟩
  refine Or.inr ⟨⟨xs,af.of hx⟩,fun D hD=>?_⟩
  have J:=dA (K:=K) (a:=a) xs
  have hsz:sizeLine=16777216:=QL
  have qb:xs.length=rs.length:=by have:=hp.1;simpa using this
  have sD:∀ o,aa H (upd H D o):=fun o=>aa.upd hD o
  refine ⟨fun i m τ H'=>m=xs.length - i/\i<=xs.length/\(∃ v1 v2,τ=[v1,v2])/\H'=upd H D (.dK (dictOf ((bh rs).take i))),⟨_,rfl,Nat.zero_le _,⟨none,none,rfl⟩,rfl⟩,?_⟩
  rintro i m τ H' ⟨rfl,hi,⟨v1,v2,rfl⟩,rfl⟩
  obtain ⟨k1,k2⟩:=J _ (show af K (upd H D _) a xs from af.of (sD _ _ _ hx))
  by_cases bc:i < xs.length
  ·have ia:i < rs.length:=by omega
   have wg:i < (bh rs).length:=by simpa using ia
   refine .inr ⟨(k1 i bc).1,fun τ' H'=>(∃ v1 v2,τ'=[v1,v2])/\H'=upd H D (.dK (dictOf ((bh rs).take (i+1)))),fun τ' H' ⟨h1,h2⟩=>⟨xs.length - (i+1),by omega,rfl,bc,h1,h2⟩,fun x H' y=>?_⟩
   obtain ⟨e,e2⟩:=(k1 i bc).2 x H' y
   subst e e2
   obtain ⟨b,CH,MN⟩:=hp.2 i wg
   rw [IQ i wg ia] at MN
   have eb:xs.getD i .ai=.ref b:=by rw [Qb,CH];rfl
   show BO K 2 _ (xs.getD i .ai) _ _ _
   rw [eb]
   refine ⟨b,_,rfl,af.of (sD _ _ _ MN),rfl,_,_,rfl,_,_,rfl,rfl,?_⟩
   refine ⟨dictOf ((bh rs).take i),.inr rs[i].1,rfl,aA,?_,⟨_,_,rfl⟩,?_⟩
   ·have:=kR ((bh rs).take i)
    rw [List.length_take] at this
    omega
   ·rw [nA,pL (bh rs) i wg,IQ i wg ia]
  ·have e:i=xs.length:=by omega
   subst e
   refine .inl ⟨k2,?_⟩
   rw [List.take_of_length_le (by simp;omega)]
   exact k D hD
theorem IR {xs:List V} {rs:List (Str×V)} {nx:Str->Option Str} {ρ:Str->Nat} (g:mi H a xs rs nx ρ):MM H a xs rs:=⟨g.at_,g.ps,by have:=g.len;omega⟩
def MO:Sp:=fun vs H Q _=>∃ (a:Addr) (xs:List V) (rs:List (Str×V)) (nx:Str->Option Str) (ρ:Str->Nat) (x:Str),vs=[.ref a,.str x]/\mi H a xs rs nx ρ/\x∈rs.map (·.1)/\∀ H',aa H H'->Q (.str (je nx rs.length x)) H'
theorem uR (T:Txt K mg w):az P w K mg base 2 "row_of" ["T","x"] MO:=by
 have dF:az P w K mg base 1 "heads_of" ["T"] F7:=fW T
 refine T.vS.fz iS (fun vs H Q E h=>?_) (fun f ay A outer s H vs Q E hr h=>?_)
 ·refine hdn fun Gz9 zG9=>?_;obtain ⟨a,xs,rs,nx,ρ,x,rfl,_⟩:=h;refine zG9 ?_
  rfl
 ·refine hdn fun Gz9 zG9=>?_;obtain ⟨a,xs,rs,nx,ρ,x,rfl,g,hx,k⟩:=h;refine zG9 ?_
  have hu:=aX hr
  have fq:=Qx hu
  refine ⟨_,(aD (aP (i:=2) iS.nd rfl (Or.inl rfl) (bA dF (hr.mono (by decide)) (aB (zv 0) aC)))
   (aD (fF PassesOwn.never (aY (gZ fq) (bE (bD K) (bL hu (zv 2) (zv 1) (fun _ _=>rfl)) aH (fun _ _=>rfl)) bB (gg _)) (aG (aP (i:=1) iS.nd rfl (Or.inl rfl) (bE (bD K) (bL hu (zv 2) (zv 1) (fun _ _=>rfl)) aH (fun _ _=>rfl)))))
   (aG (aQ (zv 1))))),?_⟩
  refine aJ ⟨a,xs,rs,rfl,IR g,fun d hd=>?_⟩
  have s1:aa H (upd H d (.dK (dictOf (bh rs)))):=aa.upd hd _
  have g1:=g.ts s1.ts
  refine ⟨fun m σ H'=>H'=upd H d (.dK (dictOf (bh rs)))/\∃ y,σ=[some (.ref a),some (.str y),some (.ref d)]/\y∈rs.map (·.1)/\je nx rs.length y=je nx rs.length x/\m=ρ y,⟨_,rfl,x,rfl,hx,rfl,rfl⟩,?_⟩
  rintro m σ H' ⟨rfl,y,rfl,hy,he,rfl⟩
  obtain ⟨v,hv,v_⟩:=g1.get hy
  have Bu:fi (upd H d (.dK (dictOf (bh rs)))) d (.str y) (some v):=by
   rw [<- v_];exact fi.k (k:=Sum.inr y) aA
  obtain ⟨b,rfl,hb⟩:=g1.as _ hv
  rcases hb with ⟨z,ys,h1,h2,h3⟩ | ⟨z,h1,h3⟩
  ·refine ⟨d,_,rfl,Bu,_,.str z,.inr (af.of h1),aR _ _,rfl,_,rfl,?_⟩
   rw [QE,Qw (fun e=>h2 (V.str.inj e))]
   refine mh ?_
   have e2:je nx rs.length y=y:=cD _ h3
   have:=k _ s1
   rw [<- he,e2] at this
   exact this
  ·refine ⟨d,_,rfl,Bu,_,.str "as",.inr (af.of h1),aR _ _,rfl,_,rfl,?_⟩
   refine yc ?_
   obtain ⟨i1,i2⟩:=g1.B9 _ hv z h3
   refine ⟨fun σ' zx=>∃ m',m' < ρ y/\zx=upd H d (.dK (dictOf (bh rs)))/\∃ y,σ'=[some (.ref a),some (.str y),some (.ref d)]/\y∈rs.map (·.1)/\je nx rs.length y=je nx rs.length x/\m'=ρ y,fun _ _ h=>h,?_⟩
   refine ⟨d,_,rfl,Bu,_,.str z,.inr (af.of h1),rfl,_,i2,rfl,z,rfl,i1,?_,rfl⟩
   rw [<- he]
   exact g1.Hs hy h3
def MP:Sp:=fun vs H Q _=>∃ (a:Addr) (xs:List V) (rs:List (Str×V)) (nx:Str->Option Str) (ρ:Str->Nat) (x:Str),vs=[.ref a,.str x]/\mi H a xs rs nx ρ/\x∈rs.map (·.1)/\
 ∀ v H',aa H H'->br (dictOf (bh rs)) (.inr (je nx rs.length x))=some v->Q v H'
theorem qQ (T:Txt K mg w):az P w K mg base 3 "head_of" ["T","x"] MP:=by
 have dF:az P w K mg base 1 "heads_of" ["T"] F7:=fW T
 have yM:az P w K mg base 2 "row_of" ["T","x"] MO:=uR T
 refine T.vK.fz rX (fun vs H Q E h=>?_) (fun f ay A outer s H vs Q E hr h=>?_)
 ·refine hdn fun Gz9 zG9=>?_;obtain ⟨a,xs,rs,nx,ρ,x,rfl,_⟩:=h;refine zG9 ?_
  rfl
 ·refine hdn fun Gz9 zG9=>?_;obtain ⟨a,xs,rs,nx,ρ,x,rfl,g,hx,k⟩:=h;refine zG9 ?_
  have hu:=aX hr
  refine ⟨_,(aG (aQ (bL hu (bA dF (hr.mono (by decide)) (aB (zv 0) aC)) (bA yM (hr.mono (by decide)) (aB (zv 0) (aB (zv 1) aC))) (fun _ _=>rfl)))),?_⟩
  refine ⟨a,xs,rs,rfl,IR g,fun d hd=>?_⟩
  have s1:aa H (upd H d (.dK (dictOf (bh rs)))):=aa.upd hd _
  refine ⟨a,xs,rs,nx,ρ,x,rfl,g.ts s1.ts,hx,fun H' s2=>?_⟩
  obtain ⟨v,hv,v_⟩:=g.get (g.B_ hx).1
  refine ⟨d,v,rfl,?_,k v _ (s1.trans s2) v_⟩
  rw [<- v_];exact fi.k (k:=Sum.inr (je nx rs.length x)) (s2 _ _ aA)
def MQ (K:Q0):Sp:=fun vs H Q _=>∃ (H0:Hp) (p a:Addr) (t:Nat) (xs:List V) (rows:List ae) (ns ws:List Str),vs=[.ref p,.ref a]/\bz K H0 H p t/\t < 900000/\RT H a xs rows ns ws/\
 ∀ (n:Str) (H':Hp),n∈ns->bz K H0 H' p (t+1)->Sm p p H H'->Q (.str n) H'
theorem rD (T:Txt K mg w):az P w K mg base 3 "_law_any" ["_law_pen","_law_told"] (MQ K):=by
 have aM:az P w K mg base 2 "_law_next" ["_law_pen","_law_many"] (yl K):=bI T
 refine T.u6.fz qT (fun vs H Q E h=>?_) (fun f ay A outer s H vs Q E hr h=>?_)
 ·refine hdn fun Gz9 zG9=>?_;obtain ⟨H0,p,a,t,xs,rows,ns,ws,rfl,_⟩:=h;refine zG9 ?_
  rfl
 ·refine hdn fun Gz9 zG9=>?_;obtain ⟨H0,p,a,t,xs,rows,ns,ws,rfl,hn,ht,rt,k⟩:=h;refine zG9 ?_
  have hu:=aX hr
  have fq:=Qx (aX hr)
  have hsz:sizeLine=16777216:=QL
  have Ar:=rt.rl
  have qb:=rt.rv.len
  have pos:=rt.pos
  have few:=rt.few
  refine ⟨_,(aG (aQ (bE (bD K) (bE (bD K) (zv 1) (bA aM (hr.mono (by decide)) (aB (zv 0) (aU (cL (bP K) (by rfl) T.wx PySem.boot_len (aB (zv 1) aC)) aC))) (fun _ _=>rfl)) aH (fun _ _=>rfl)))),?_⟩
  refine .inl ⟨_,.inr (af.of rt.at_),H0,p,_,t,rfl,hn,⟨by omega,by omega⟩,by omega,fun r H1 r0 r1 hn1 ql=>?_⟩
  obtain ⟨i,rfl⟩:∃ i:Nat,r=(i:Int):=⟨r.toNat,by omega⟩
  have yo:=rt.tk (hn.ts ql)
  obtain ⟨b,v,q1,q2,q3⟩:=yo.rv.at_ i (by omega) (by omega)
  refine ⟨xs,.ref b,.inr (af.of yo.at_),d6 (by rw [Qa (by omega),q1]),_,_,.inr (af.of q2),aR _ _,k _ H1 (yo.nm.mem_iff.mp (List.mem_map.mpr ⟨_,Qj (by omega),rfl⟩)) hn1 ql⟩
theorem Vx {Q:VK} {v:V} (e:σ[i]? =some (some v)) (h:Q v H):tV i σ H Q:=by
 unfold tV
 rw [e]
 exact h
theorem cB {kvs:List (Key×V)} {k:Key} {v:V} (h:∀ kv∈kvs,kv.1≠k):putK kvs k v=kvs++[(k,v)]:=by
 unfold putK
 rw [if_neg]
 intro e
 rw [List.any_eq_true] at e
 obtain ⟨kv,hk,e⟩:=e
 exact h kv hk (Qt e)
def MR:Sp:=fun vs H Q _=>∃ (a:Addr) (xs:List V) (rows:List ae) (ns ws:List Str),vs=[.ref a]/\RT H a xs rows ns ws/\(∀ z∈ws,Wd z)/\
 ∀ (d:Addr) (H':Hp),H d=none->aa H H'->H' d=some (.dK (g_ rows))->Q (.ref d) H'
theorem q9 (T:Txt K mg w):az P w K mg base 2 "rows_of" ["T"] MR:=by
 have dF:az P w K mg base 1 "heads_of" ["T"] F7:=fW T
 refine T.uM.fz cO (fun vs H Q E h=>?_) (fun f ay A outer s H vs Q E hr h=>?_)
 ·obtain ⟨a,xs,rows,ns,ws,rfl,_⟩:=h
  rfl
 ·refine hdn fun Gz9 zG9=>?_;obtain ⟨a,xs,rows,ns,ws,rfl,rt,hw,k⟩:=h;refine zG9 ?_
  have hu:=aX hr
  have fq:=Qx (aX hr)
  have hsz:sizeLine=16777216:=QL
  obtain ⟨rs,g,nm,rl,v_⟩:=rt.good hw
  refine ⟨_,(aD (aP (i:=1) cO.nd rfl (Or.inl rfl) (bA dF (hr.mono (by decide)) (aB (zv 0) aC)))
   (aD (aP (i:=2) cO.nd rfl (Or.inl rfl) R5)
   (aD (gM PassesOwn.never rfl (zY (zv 1)) (aL (i:=3) cO.nd rfl (Or.inl rfl)) (aD (aP (i:=4) cO.nd rfl (Or.inl rfl) (zv 3))
   (aD (fF PassesOwn.never (aY (gZ fq) (bE (bD K) (bL hu (zv 1) (zv 4) (fun _ _=>rfl)) aH (fun _ _=>rfl)) bB (gg _)) (aG (aP (i:=4) cO.nd rfl (Or.inl rfl) (bE (bD K) (bL hu (zv 1) (zv 4) (fun _ _=>rfl)) aH (fun _ _=>rfl)))))
   (aG (rN hu (zv 2) (zv 3) (zv 4) rfl)))))
   (aG (aQ (zv 2)))))),?_⟩
  refine aJ ⟨a,xs,rs,rfl,IR g,fun d hd=>?_⟩
  have knd:((bh rs).map (·.1)).Nodup:=by
   have e:(bh rs).map (·.1)=(rs.map (·.1)).map (Sum.inr:Str->Key):=by simp [bh,Qn,QB]
   rw [e]
   exact List.pairwise_map.mpr (g.nd.imp fun h e=>h (Sum.inr.inj e))
  have XG:=g.len
  have ed:=iH _ knd
  dsimp only
  have s1:aa H (upd H d (.dK (dictOf (bh rs)))):=aa.upd hd _
  refine aJ fun R hR=>?_
  have IS:R≠d:=fun e=>by rw [e,aA] at hR;cases hR
  have Ed:H R=none:=s1.free hR
  refine aO (fun σ' H'=>∃ v3 v4:Option V,σ'=[some (.ref a),some (.ref d),some (.ref R),v3,v4]/\H' R=some (.dK (g_ rows))/\aa H H') ?_ ?_
  ·intro nx c_
   refine ⟨d,dictOf (bh rs),rfl,.inl (by rw [aF IS.symm];exact aA),fun o=>?_⟩
   refine dU (yP (dictOf (bh rs))) (fun i σ' H'=>∃ v3 v4:Option V,σ'=[some (.ref a),some (.ref d),some (.ref R),v3,v4]/\H' d=some (.aq o (.dK (dictOf (bh rs))))/\H' R=some (.dK ((g_ rows).take i))/\aa H H')
    ⟨none,none,rfl,aA,by rw [aF IS,aA];rfl,(((s1.put Ed)).put hd)⟩ (by rintro i σ' H' _ ⟨_,_,_,h,_⟩;exact h) ?_ ?_
   ·rintro i σ' H3 hi ⟨v3,v4,rfl,q1,q2,q3⟩
    have ia:i < rs.length:=by have:=kR (bh rs);simp at this;omega
    have IT:i < rows.length:=by omega
    have ek:qa (dictOf (bh rs)) i=.str rs[i].1:=by
     unfold qa
     rw [ed,Qa (by simpa using ia),IQ i (by simpa using ia) ia];rfl
    have en:rs[i].1=rows[i].1:=by
     have:(rs.map (·.1))[i]'(by simpa using ia)=(rows.map (·.1))[i]'(by simpa using IT):=by simp only [nm]
     simpa using this
    rw [ek]
    have hx:rs[i].1∈rs.map (·.1):=List.mem_map.mpr ⟨_,Qj ia,rfl⟩
    generalize rs[i].1=x at en hx
    have g3:=g.ts q3.ts
    refine aJ (Vx (v:=.str x) rfl ?_)
    refine aO (fun σ' H'=>H'=H3/\σ'=[some (.ref a),some (.ref d),some (.ref R),some (.str x),some (.str (je (qc rows) rs.length x))]) ?_ ?_
    ·intro Mu yk
     refine ⟨fun m σ H'=>H'=H3/\∃ y,σ=[some (.ref a),some (.ref d),some (.ref R),some (.str x),some (.str y)]/\y∈rs.map (·.1)/\je (qc rows) rs.length y=je (qc rows) rs.length x/\m=ns.idxOf y,⟨_,rfl,x,rfl,hx,rfl,rfl⟩,?_⟩
     rintro m σ H' ⟨rfl,y,rfl,hy,he,rfl⟩
     obtain ⟨v,hv,v_⟩:=g3.get hy
     have Bu:fi H' d (.str y) (some v):=by
      rw [<- v_];exact fi.rd (k:=Sum.inr y) (.inr ⟨o,q1⟩)
     obtain ⟨b,rfl,hb⟩:=g3.as _ hv
     rcases hb with ⟨z,ys,h1,h2,h3⟩ | ⟨z,h1,h3⟩
     ·refine ⟨d,_,rfl,Bu,_,.str z,.inr (af.of h1),aR _ _,rfl,_,rfl,?_⟩
      rw [QE,Qw (fun e=>h2 (V.str.inj e))]
      refine mh ?_
      have e2:je (qc rows) rs.length y=y:=cD _ h3
      refine yk _ _ ⟨rfl,?_⟩
      rw [<- he,e2]
     ·refine ⟨d,_,rfl,Bu,_,.str "as",.inr (af.of h1),aR _ _,rfl,_,rfl,?_⟩
      refine yc ?_
      obtain ⟨i1,i2⟩:=g3.B9 _ hv z h3
      refine ⟨fun σ' zx=>∃ m',m' < ns.idxOf y/\zx=H'/\∃ y,σ'=[some (.ref a),some (.ref d),some (.ref R),some (.str x),some (.str y)]/\y∈rs.map (·.1)/\je (qc rows) rs.length y=je (qc rows) rs.length x/\m'=ns.idxOf y,fun _ _ h=>h,?_⟩
      refine ⟨d,_,rfl,Bu,_,.str z,.inr (af.of h1),rfl,_,i2,rfl,z,rfl,i1,?_,rfl⟩
      rw [<- he]
      exact g3.Hs hy h3
    ·rintro σ' H' ⟨rfl,rfl⟩
     have fg:((g_ rows).take i).length<=14:=by have:=rt.few;have:=rt.rl;simp [g_];omega
     have Vy:putK ((g_ rows).take i) (.inr x) (.str (je (qc rows) rs.length x))=(g_ rows).take (i+1):=by
      rw [cB,Qs,Qa (by simpa [g_] using IT)]
      ·simp [g_,en,endOf,rl]
      ·intro kv FP e
       obtain ⟨j,hj,rfl⟩:=Qi FP
       have sr:j < i:=by simp at hj;omega
       rw [List.getElem_take] at e
       simp only [g_,Qr] at e
       have e':rows[j].1=rows[i].1:=by rw [<- en];exact Sum.inr.inj e
       have nd:=rt.jf
       have:=List.pairwise_iff_getElem.mp nd j i (by simp;omega) (by simpa using IT) sr
       simp at this
       exact this e'
     refine ⟨R,_,rfl,Df.k (k:=Sum.inr x) q2 (by omega),?_⟩
     rw [Vy]
     exact ⟨_,_,rfl,by rw [aF IS.symm];exact q1,aA,q3.put Ed⟩
   ·rintro σ' H' ⟨v3,v4,rfl,q1,q2,q3⟩
    have e:(dictOf (bh rs)).length=(g_ rows).length:=by rw [ed];simp [g_,rl]
    rw [e,Qo] at q2
    exact c_ _ _ ⟨v3,v4,rfl,q2,q3⟩
  ·rintro σ' H' ⟨v3,v4,rfl,q2,q3⟩
   exact k R H' Ed q3 q2
def MS:Sp:=fun vs H Q _=>∃ (x:V) (h:Hd) (ns:List Str),vs=[x]/\HV H x h/\h.ok ns/\∀ L H',H L=none->H' L=some (.lst ((wj h).map V.str))->aa H H'->Q (.ref L) H'
theorem mN (T:Txt K mg w):az P w K mg base 1 "names_in" ["head"] MS:=by
 refine T.qP.fz oF (fun vs H Q E h=>?_) (fun f ay A outer s H vs Q E hr h=>?_)
 ·obtain ⟨x,h,ns,rfl,_⟩:=h
  rfl
 ·obtain ⟨x,h,ns,rfl,hv,hok,k⟩:=h
  have hsz:sizeLine=16777216:=QL
  refine ⟨_,(aD (cH (aY (rK K) (bE (bD K) (zv 0) aH (fun _ _=>rfl)) (RZ K T.wC) rfl) (aG (aQ (qA (own:=["word","x"]) (idx:=[]) (N':=["word","x"]) (eA (be eP) (["head"]:List Str) (by decide+kernel)) rfl (qF K (bE (bD K) (zv 0) aH (fun _ _=>rfl))) (fun _ _ _ _ _ _=>(cZ K (n:=2) rfl (aN (aL (i:=0) (show List.Nodup (["word","x"]:List Str) by decide+kernel) rfl (Or.inl rfl)) (aN (aL (i:=1) (show List.Nodup (["word","x"]:List Str) by decide+kernel) rfl (Or.inl rfl)) cA)))) (fun _ _ _ _ _ _=>fZ) (fun _ _ _ _ _ _=>(zv 1))))) bC)
   (aG (aQ (cJ (lK K) (by rfl) T.wA PyProof.Rows.boot_list (aI (dL (uV K) (zv 0) (dR aH) dP) aC))))),?_⟩
  have fin:∀ (b:Addr) (z:Str) (ys:List Str),H b=some (.tup (.str z::ys.map V.str))->wj h=ys->∀ D:Ends,D.rt=Q->BK (A_ (Ho K) (ik (BX (fun x lo hi H Q=>Bc x lo hi H Q\/Bb K x lo hi H Q\/Af K x lo hi H Q) (tV 0) (BV (tC (V.int 1))) BU) xu)) D [some (.ref b)] H:=by
   intro b z ys e en D hD
   refine ⟨1,rfl,Or.inr (Or.inr ⟨b,_,rfl,af.of e,?_,fun p1 MT=>⟨p1,_,rfl,.inr (af.of aA),fun L hL=>?_⟩⟩)⟩
   ·intro ⟨h1,_⟩
    have:HT.bf (V.str z::ys.map V.str).length 0 (some ((1:Nat):Int))=0:=h1
    rw [HT.eK] at this
    simp at this
   ·have s1:=(aa.upd MT (.tup (jq (V.str z::ys.map V.str) (some 1) none))).trans (aa.upd hL (.lst (jq (V.str z::ys.map V.str) (some 1) none)))
    rw [hD]
    refine k L _ ((aa.upd MT _).free hL) ?_ s1
    rw [aA]
    have ec:jq (V.str z::ys.map V.str) (some 1) none=ys.map V.str:=by
     have:=i9 (V.str z::ys.map V.str) 1
     exact this
    rw [ec,en]
  have IU:∀ (b:Addr) (z:Str) (ys:List Str),H b=some (.tup (.str z::ys.map V.str))->(z=="box")=false->(z=="pick")=false->wj h=ys->xo (EJ (ER (ko (Fb K false) (ko (B5 K) (tV 0) (tC (V.int 0))) (Fc K [V.str "box",V.str "pick"]))) (BK (B3 ["word","x"] [] (iD K (ko (B5 K) (tV 0) (tC (V.int 1)))) (BO K 2 (BN (nk 0) (BN (nk 1) EL))) E_ (tV 1))) EI) (BK (A_ (Ho K) (ik (BX (fun x lo hi H Q=>Bc x lo hi H Q\/Bb K x lo hi H Q\/Af K x lo hi H Q) (tV 0) (BV (tC (V.int 1))) BU) xu))) {nx:=fun x H'=>Q V.ai H',rt:=Q} [some (.ref b)] H:=fun b z ys e n1 n2 en=>by
   refine ⟨_,.str z,.inr (af.of e),aR _ _,?_⟩
   intro aW hW
   refine ⟨_,.inr hW,rfl,rfl,_,rfl,?_⟩
   have ew:(false^^Ah (.str z) [V.str "box",V.str "pick"])=false:=by
    rw [QE,show ([V.str "box",V.str "pick"]:List V)=(["box","pick"]:List Str).map V.str from rfl,l6]
    refine Qw fun hm=>?_
    simp only [Qp,QA,or_false] at hm
    rcases hm with rfl | rfl
    ·simp at n1
    ·simp at n2
   rw [ew]
   exact mh (fin b z ys e en _ rfl)
  cases hv with
  | @one b s e=>exact IU b s [] e (by rcases hok with rfl | rfl<;>decide+kernel) (by rcases hok with rfl | rfl<;>decide+kernel) rfl
  | @as b y e=>exact IU b "as" [y] e (by decide+kernel) (by decide+kernel) rfl
  | @way b y z e=>exact IU b "way" [y,z] e (by decide+kernel) (by decide+kernel) rfl
  | @prs b c s ys ps e ec hp=>
   refine ⟨_,.str s,.inr (af.of e),aR _ _,?_⟩
   intro aW hW
   refine ⟨_,.inr hW,rfl,rfl,_,rfl,?_⟩
   have ew:(false^^Ah (.str s) [V.str "box",V.str "pick"])=true:=by
    rw [QE,show ([V.str "box",V.str "pick"]:List V)=(["box","pick"]:List Str).map V.str from rfl,l6]
    refine Qv ?_
    rcases hok.1 with rfl | rfl<;>simp
   rw [ew]
   refine yc ?_
   have gr:=hp.len
   have Fk:=hok.2.2.2
   refine ⟨_,.ref c,.inr (af.of e),rfl,Or.inr ⟨⟨ys,af.of ec⟩,fun D hD=>?_⟩⟩
   refine kJ (dA ys) (fun i τ H3=>H3 D=some (.lst (((ps.take i).map (·.2)).map V.str))/\aa H H3/\∃ v1 v2,τ=[v1,v2]) ⟨aA,aa.upd hD _,none,none,rfl⟩ (fun i τ H3 _ h=>af.of (h.2.1 _ _ ec)) ?_ ?_
   ·rintro i τ H3 hi ⟨q1,q2,v1,v2,rfl⟩
    have AI:i < ps.length:=by omega
    obtain ⟨d,e1,e2⟩:=hp.at_ i hi AI
    have eg:ys.getD i .ai=.ref d:=by rw [Qb,Qa hi,e1];rfl
    rw [eg]
    refine fJ (q2 _ _ e2) ?_
    refine ⟨_,q1,by simp;omega,?_,(q2.put hD),_,_,rfl⟩
    rw [aA,Qs,Qa AI,Qm,Qm]
    rfl
   ·rintro τ H3 ⟨q1,q2,v1,v2,rfl⟩
    rw [gr,Qo] at q1
    exact k D H3 hD q1 q2
def ux (s:Str):Str:=if s="box" then "part" else "case"
def F8 (mg:Str->Option Value):Sp:=fun vs H Q _=>∃ (x:V) (h:Hd) (ns:List Str),vs=[x]/\HV H x h/\h.ok ns/\Kn mg H "FROM" [.str "from"]/\Kn mg H "TO" [.str "to"]/\
 ∀ (L:Addr) (us:List V) (H':Hp),H L=none->H' L=some (.lst us)->SV H' us (h.bq.map (·.1))->aa H H'->Q (.ref L) H'
theorem g9 (T:Txt K mg w):az P w K mg base 1 "steps_in" ["head"] (F8 mg):=by
 refine T.qL.fz oB (fun vs H Q E h=>?_) (fun f ay A outer s H vs Q E hr h=>?_)
 ·obtain ⟨x,h,ns,rfl,_⟩:=h
  rfl
 ·refine hdn fun Gz9 zG9=>?_;obtain ⟨x,h,ns,rfl,hv,hok,kf,kt,k⟩:=h;refine zG9 ?_
  have fq:=Qx (aX hr)
  have hsz:sizeLine=16777216:=QL
  refine ⟨_,(aD (cH (aY (gZ fq) (bE (bD K) (zv 0) aH (fun _ _=>rfl)) bB (gg _)) (aG (aQ (d5 (aB (K1 T.rL) (aB (K1 T.IA) aC))))) bC)
   (aD (cH (Sq T.iL (bE (bD K) (zv 0) aH (fun _ _=>rfl))) (aG (aQ (qA (own:=["word","x"]) (idx:=[0]) (N':=["word","x","head"]) (eA (be eQ) (["head"]:List Str) (by decide+kernel)) rfl (qF K (bE (bD K) (zv 0) aH (fun _ _=>rfl))) (fun _ _ _ _ _ _=>(cZ K (n:=2) rfl (aN (aL (i:=0) (show List.Nodup (["word","x","head"]:List Str) by decide+kernel) rfl (Or.inl rfl)) (aN (aL (i:=1) (show List.Nodup (["word","x","head"]:List Str) by decide+kernel) rfl (Or.inl rfl)) cA)))) (fun _ _ _ _ _ _=>fZ) (fun _ _ _ _ _ _=>(bG (aI (Su T.iL (bE (bD K) (zv 2) aH (fun _ _=>rfl)) (fun _ _=>rfl)) (aB (zv 0) aC))))))) bC)
   (aG (aQ (d5 aC))))),?_⟩
  cases hv with
  | @one b s e=>
   refine ⟨_,.str s,.inr (af.of e),aR _ _,rfl,_,rfl,ic (fun c=>?_) (fun _=>⟨_,.str s,.inr (af.of e),aR _ _,Sum.inr s,rfl,_,rfl,ic (fun c=>?_) (fun _=>⟨(show 0<=sizeLine by decide),fun L hL=>k L [] _ hL aA SV.nil (aa.upd hL _)⟩)⟩)⟩
   ·rw [QE,kQ] at c
    rcases hok with rfl | rfl<;>exact absurd c (by decide+kernel)
   ·rcases hok with rfl | rfl<;>exact absurd c (by decide+kernel)
  | @as b y e=>
   refine ⟨_,.str "as",.inr (af.of e),aR _ _,rfl,_,rfl,ic (fun c=>?_) (fun _=>⟨_,.str "as",.inr (af.of e),aR _ _,Sum.inr "as",rfl,_,rfl,ic (fun c=>?_) (fun _=>⟨(show 0<=sizeLine by decide),fun L hL=>k L [] _ hL aA SV.nil (aa.upd hL _)⟩)⟩)⟩
   ·rw [QE,kQ] at c
    exact absurd c (by decide+kernel)
   ·exact absurd c (by decide+kernel)
  | @way b y z e=>
   refine ⟨_,.str "way",.inr (af.of e),aR _ _,rfl,_,rfl,ic (fun _=>?_) (fun c=>absurd c (by simp))⟩
   refine ⟨(show 2<=sizeLine by decide),fun L hL=>k L _ _ hL aA ?_ (aa.upd hL _)⟩
   exact (SV.nil.snoc (m:=["from"]) (kf.same (aa.upd hL _)).rd).snoc (m:=["to"]) (kt.same (aa.upd hL _)).rd
  | @prs b c s ys ps e ec hp=>
   have gr:=hp.len
   have Fk:=hok.2.2.2
   obtain ⟨n1,n2,n3⟩:(s=="way")=false/\(br [((Sum.inr "box":Key),V.str "part"),(Sum.inr "pick",V.str "case")] (Sum.inr s)).isSome=true/\br [((Sum.inr "box":Key),V.str "part"),(Sum.inr "pick",V.str "case")] (Sum.inr s)=some (.str (ux s)):=by
    rcases hok.1 with rfl | rfl<;>exact ⟨by decide+kernel,by decide+kernel,by decide+kernel⟩
   refine ⟨_,.str s,.inr (af.of e),aR _ _,rfl,_,rfl,ic (fun c=>?_) (fun _=>⟨_,.str s,.inr (af.of e),aR _ _,Sum.inr s,rfl,_,rfl,ic (fun _=>?_) (fun c=>?_)⟩)⟩
   ·rw [QE,kQ,n1] at c;cases c
   ·refine ⟨_,.ref c,.inr (af.of e),rfl,Or.inr ⟨⟨ys,af.of ec⟩,fun D hD=>?_⟩⟩
    refine kJ (dA ys) (fun i τ H3=>∃ (v0 v1:Option V) (zs:List V),τ=[v0,v1,some (.ref b)]/\H3 D=some (.lst zs)/\SV H3 zs ((ps.take i).map fun p=>[ux s,p.1])/\aa H H3) ⟨none,none,[],rfl,aA,SV.nil,aa.upd hD _⟩ (by rintro i τ H3 _ ⟨_,_,_,_,_,_,s⟩;exact af.of (s _ _ ec)) ?_ ?_
    ·rintro i τ H3 hi ⟨v0,v1,zs,rfl,q1,q2,q3⟩
     have AI:i < ps.length:=by omega
     obtain ⟨d,r1,r2⟩:=hp.at_ i hi AI
     have eg:ys.getD i .ai=.ref d:=by rw [Qb,Qa hi,r1];rfl
     rw [eg]
     refine fJ (q3 _ _ r2) ?_
     have Vt:zs.length=i:=by have:=q2.len;simp at this;omega
     refine ⟨_,.str s,.inr (af.of (q3 _ _ e)),aR _ _,Sum.inr s,_,rfl,n3,(show 2<=sizeLine by decide),fun c1 h1=>?_⟩
     have t1:=aa.upd h1 (.tup [.str (ux s),.str ps[i].1])
     have g1:upd H3 c1 (.tup [.str (ux s),.str ps[i].1]) c1=some (.tup [.str (ux s),.str ps[i].1]):=aA
     dsimp only
     generalize upd H3 c1 (.tup [.str (ux s),.str ps[i].1])=H5 at t1 g1
     have gD:=t1 _ _ q1
     have kp:∀ b ys,ao H5 b ys->ao (upd H5 D (.lst (zs++[.ref c1]))) b ys:=fun b ys r=>r.upd fun u hu z=>by
      subst z
      rcases r with r | ⟨_,r⟩<;>(rw [gD] at r;cases r)
     refine ⟨zs,gD,by omega,_,_,zs++[.ref c1],rfl,aA,?_,(q3.trans t1).put hD⟩
     have et:(ps.take (i+1)).map (fun p=>([ux s,p.1]:List Str))=(ps.take i).map (fun p=>([ux s,p.1]:List Str))++[[ux s,ps[i].1]]:=by
      rw [Qs,Qa AI,Qm];rfl
     rw [et]
     exact ((q2.keep fun b ys r=>r.same t1).keep kp).snoc (m:=[ux s,ps[i].1]) (kp _ _ (.inl g1))
    ·rintro τ H3 ⟨v0,v1,zs,rfl,q1,q2,q3⟩
     rw [gr,Qo] at q2
     refine k D zs H3 hD q1 ?_ q3
     have em:(Hd.prs s ps).bq.map (·.1)=ps.map fun p=>([ux s,p.1]:List Str):=by
      simp [Hd.bq,ux,Qn,QB]
     rw [em]
     exact q2
   ·rw [n2] at c;cases c
def MU (mg:Str->Option Value):Sp:=fun vs H Q _=>∃ (x:V) (h:Hd) (ns:List Str) (rows:List ae) (d:Addr),vs=[x,.ref d]/\HV H x h/\h.ok ns/\Kn mg H "FROM" [.str "from"]/\Kn mg H "TO" [.str "to"]/\Rd H d (.dK (g_ rows))/\(∀ z∈ns,z∈rows.map (·.1))/\(rows.map (·.1)).Nodup/\
 ∀ (m:Addr) (H':Hp),H m=none->H' m=some (.dT (ir rows h))->aa H H'->Q (.ref m) H'
theorem pD (T:Txt K mg w):az P w K mg base 2 "moves_in" ["head","rows"] (MU mg):=by
 have dJ:az P w K mg base 1 "steps_in" ["head"] (F8 mg):=g9 T
 have qU:az P w K mg base 1 "names_in" ["head"] MS:=mN T
 refine T.qE.fz oM (fun vs H Q E h=>?_) (fun f ay A outer s H vs Q E hr h=>?_)
 ·obtain ⟨x,h,ns,rows,d,rfl,_⟩:=h
  rfl
 ·refine hdn fun Gz9 zG9=>?_;obtain ⟨x,h,ns,rows,d,rfl,hv,hok,kf,kt,hd,ly,nd,k⟩:=h;refine zG9 ?_
  have hu:=aX hr
  have fq:=Qx (aX hr)
  have hsz:sizeLine=16777216:=QL
  have few:=iE hok
  refine ⟨_,(aG (aQ (S9 (own:=["step","x"]) (idx:=[1]) (N':=["step","x","rows"]) (eA (be fC) (["head","rows"]:List Str) (by decide+kernel)) rfl fq (Sk K (by rfl) T.U6 (aU (bA dJ (hr.mono (by decide)) (aB (zv 0) aC)) (aU (bA qU (hr.mono (by decide)) (aB (zv 0) aC)) aC))) (fun _ _ _ _ _ _=>(cZ K (n:=2) rfl (aN (aL (i:=0) (show List.Nodup (["step","x","rows"]:List Str) by decide+kernel) rfl (Or.inl rfl)) (aN (aL (i:=1) (show List.Nodup (["step","x","rows"]:List Str) by decide+kernel) rfl (Or.inl rfl)) cA)))) (fun _ _ _ _ _ _=>fZ) (fun _ _ _ _ _ _=>(zv 0)) (fun _ _ _ _ _ _=>(bL hu (zv 2) (zv 1) (fun _ _=>rfl)))))),?_⟩
  refine ⟨x,h,ns,rfl,hv,hok,kf,kt,fun L us H1 hL eL sv s1=>⟨x,h,ns,rfl,hv.tk s1.ts,hok,fun M H2 hM eM s2=>?_⟩⟩
  have Vz:=sv.len
  rw [Ql] at Vz
  refine ⟨L,M,us,(wj h).map V.str,rfl,ak.of (s2 _ _ eL),ak.of eM,fun D hD=>?_⟩
  have tq:H D=none:=(s1.trans s2).free hD
  have mn:min us.length ((wj h).map V.str).length=h.bq.length:=by have:=Ue (h:=h);simp;omega
  have VA:=mJ (rows:=rows) (xO hok)
  have ml:(ir rows h).length=h.bq.length:=by simp [ir]
  refine wF (zK us ((wj h).map V.str)) (fun i τ H3=>∃ v0 v1:Option V,τ=[v0,v1,some (.ref d)]/\H3 D=some (.dT ((ir rows h).take i))/\aa H2 H3) ⟨none,none,rfl,aA,aa.upd hD _⟩ (by rintro i τ H3 _ ⟨_,_,_,_,s⟩;exact ⟨ak.of (s _ _ (s2 _ _ eL)),ak.of (s _ _ eM)⟩) ?_ ?_
  ·rintro i τ H3 T hi ⟨v0,v1,rfl,q1,q2⟩ hT
   rw [mn] at hi
   have MV:i < us.length:=by omega
   obtain ⟨b,e1,e2⟩:=sv.at_ i MV (by simpa using hi)
   have g1:us.getD i .ai=.ref b:=by rw [Qb,Qa MV,e1];rfl
   have VB:((wj h).map V.str).getD i .ai=.str h.bq[i].2:=by rw [Qb,Qq,Ud i hi];rfl
   rw [g1,VB]
   have t1:=aa.upd hT (.tup [.ref b,.str h.bq[i].2])
   generalize upd H3 T (.tup [.ref b,.str h.bq[i].2])=H5 at t1
   have hz:h.bq[i].2∈ns:=rE hok _ (Qj hi)
   have VC:Rd H5 d (.dK (g_ rows)):=hd.same (((s1.trans s2).trans q2).trans t1)
   refine ⟨d,.str (endOf rows h.bq[i].2),rfl,by rw [<- iX nd (ly _ hz)];exact fi.rd (k:=Sum.inr h.bq[i].2) VC,?_⟩
   have er:ao H5 b (h.bq[i].1.map V.str):=by
    have:=(e2.same ((s2.trans q2).trans t1))
    simpa using this
   have IV:i < (ir rows h).length:=by omega
   have em:(ir rows h)[i]=(h.bq[i].1.map Sum.inr,.str (endOf rows h.bq[i].2)):=by simp [ir]
   refine ⟨(ir rows h).take i,(ir rows h)[i].1,b,rfl,by rw [em,FI];exact er,t1 _ _ q1,by simp;omega,_,_,rfl,?_,?_⟩
   ·have:=zQ VA IV
    rw [em] at this ⊢
    rw [this]
    exact aA
   ·exact (q2.trans t1).put hD
  ·rintro τ H3 ⟨v0,v1,rfl,q1,q2⟩
   rw [mn,<- ml,Qo] at q1
   exact k D H3 tq q1 ((s1.trans s2).trans q2)
def F9 (mg:Str->Option Value):Sp:=fun vs H Q _=>∃ (x dx a:Addr) (xs:List V) (rows:List ae) (ns ws:List Str),vs=[.ref x,.ref a]/\H x=some (.ins (adr mg "Net") dx [])/\RT H a xs rows ns ws/\(∀ z∈ws,Wd z)/\Kn mg H "FROM" [.str "from"]/\Kn mg H "TO" [.str "to"]/\
 ∀ H',H_ H' (adr mg "Net") x rows->Sx x H H'->Q .ai H'
theorem VD {f g:Str} {u v:V} (n:Nat):(cf f u (cf g v [])).length < 1000:=by
 have h1:=bV f u (cf g v [])
 have h2:=bV g v []
 simp at h2
 omega
theorem vG {K:Q0} {ta tv:TE} {f:Str} {D:Ends} (h:tv σ H fun y H1=>ta σ H1 fun x H2=>∃ a C dx fs,x=.ref a/\H2 a=some (.ins C dx fs)/\y_ K C/\xr K C f/\fs.length < 1000/\D.nx σ (upd H2 a (.ins C dx (cf f y fs)))):ES K ta tv f D σ H:=h
set_option maxHeartbeats 1000000 in
theorem qJ (T:Txt K mg w):Cd P w K mg base 4 "Net" (adr mg "Net") ["self","T"] (F9 mg):=by
 have uO:az P w K mg base 2 "rows_of" ["T"] MR:=q9 T
 have dJ:az P w K mg base 1 "steps_in" ["head"] (F8 mg):=g9 T
 have sB:az P w K mg base 2 "moves_in" ["head","rows"] (MU mg):=pD T
 have cl:=T.s_.2.1
 have na:=T.s_.2.2.1
 refine T.s_.fz oJ (fun vs H Q E h=>?_) (fun f ay A outer s H vs Q E hr h=>?_)
 ·refine hdn fun Gz9 zG9=>?_;obtain ⟨x,dx,a,xs,rows,ns,ws,rfl,_⟩:=h;refine zG9 ?_
  rfl
 ·refine hdn fun Gz9 zG9=>?_;obtain ⟨x,dx,a,xs,rows,ns,ws,rfl,hx,rt,hw,kf,kt,k⟩:=h;refine zG9 ?_
  have hu:=aX hr
  have fq:=Qx (aX hr)
  have hsz:sizeLine=16777216:=QL
  have jf:=rt.jf
  have Ar:=rt.rl
  have few:=rt.few
  have XH:(bg rows).length<=14:=by have:=List.length_filter_le (fun r:ae=>r.2.nx.isNone) rows;unfold bg;omega
  have Bm:((bg rows).map (·.1)).Nodup:=(jf.sublist (List.filter_sublist.map _))
  refine ⟨_,(aD (t7 K (zv 0) (o8 (bA uO (hr.mono (by decide)) (aB (zv 1) aC))))
   (aD (t7 K (zv 0) (o8 (zZ (own:=["name","head"]) (idx:=[]) (N':=["name","head"]) (eA (be cP) (["self","T"]:List Str) (by decide+kernel)) rfl (qF K (zv 1)) (fun _ _ _ _ _ _=>(cZ K (n:=2) rfl (aN (aL (i:=0) (show List.Nodup (["name","head"]:List Str) by decide+kernel) rfl (Or.inl rfl)) (aN (aL (i:=1) (show List.Nodup (["name","head"]:List Str) by decide+kernel) rfl (Or.inl rfl)) cA)))) (fun _ _ _ _ _ _=>(K2 (aY (nD fq) (bE (bD K) (zv 1) aH (fun _ _=>rfl)) bB (gg _)))) (fun _ _ _ _ _ _=>(zv 0)) (fun _ _ _ _ _ _=>(zv 1)))))
   (aD (t7 K (zv 0) (o8 (zZ (own:=["row","head"]) (idx:=[]) (N':=["row","head"]) (eA (be cP) (["self","T"]:List Str) (by decide+kernel)) rfl (o6 (dS K (zv 0))) (fun _ _ _ _ _ _=>(cZ K (n:=2) rfl (aN (aL (i:=0) (show List.Nodup (["row","head"]:List Str) by decide+kernel) rfl (Or.inl rfl)) (aN (aL (i:=1) (show List.Nodup (["row","head"]:List Str) by decide+kernel) rfl (Or.inl rfl)) cA)))) (fun _ _ _ _ _ _=>fZ) (fun _ _ _ _ _ _=>(zv 0)) (fun _ _ _ _ _ _=>(bG (aI (bE (bD K) (zv 1) aH (fun _ _=>rfl)) (aU (cJ (cN K) (by rfl) T.fB QG (aU (bA dJ (hr.mono (by decide)) (aB (zv 1) aC)) aC)) aC)))))))
   (aG (t7 K (zv 0) (o8 (zZ (own:=["row","head"]) (idx:=[0]) (N':=["row","head","self"]) (eA (be cP) (["self","T"]:List Str) (by decide+kernel)) rfl (o6 (dS K (zv 0))) (fun _ _ _ _ _ _=>(cZ K (n:=2) rfl (aN (aL (i:=0) (show List.Nodup (["row","head","self"]:List Str) by decide+kernel) rfl (Or.inl rfl)) (aN (aL (i:=1) (show List.Nodup (["row","head","self"]:List Str) by decide+kernel) rfl (Or.inl rfl)) cA)))) (fun _ _ _ _ _ _=>fZ) (fun _ _ _ _ _ _=>(zv 0)) (fun _ _ _ _ _ _=>(o8 (bA sB (hr.mono (by decide)) (aB (zv 1) (nG (dS K (zv 2)) aC)))))))))))),?_⟩
  generalize hC:adr mg "Net"=C at*
  refine kY ⟨a,xs,rows,ns,ws,rfl,rt,hw,fun d1 H1 F_ s1 e1=>⟨d1,rfl,.inl ⟨_,.inl e1,fun o1=>?_⟩⟩⟩
  have yp:d1≠x:=fun z=>by rw [z,hx] at F_;cases F_
  refine ⟨x,C,dx,[],rfl,by rw [aF yp.symm];exact s1 _ _ hx,cl,na "rows" (by simp),by simp,?_⟩
  have IW:Sx x H (upd (upd H1 d1 (.aq o1 (.dK (g_ rows)))) x (.ins C dx (cf "rows" (.ref d1) []))):=((s1.put F_).sx).trans Sx.upd
  have g1:upd (upd H1 d1 (.aq o1 (.dK (g_ rows)))) x (.ins C dx (cf "rows" (.ref d1) [])) d1=some (.aq o1 (.dK (g_ rows))):=by rw [aF yp];exact aA
  have gx:upd (upd H1 d1 (.aq o1 (.dK (g_ rows)))) x (.ins C dx (cf "rows" (.ref d1) [])) x=some (.ins C dx (cf "rows" (.ref d1) [])):=aA
  generalize upd (upd H1 d1 (.aq o1 (.dK (g_ rows)))) x (.ins C dx (cf "rows" (.ref d1) []))=H2 at IW g1 gx ⊢
  have nt:∀ ys,H x≠some (.tup ys):=fun ys z=>by rw [hx] at z;cases z
  have nf:∀ q u,H x≠some (.aq q u):=fun q u z=>by rw [hx] at z;cases z
  have fc:=rt.tk (IW.tk nt)
  clear e1 s1 F_ H1
  -- heads
  refine kY (Or.inr ⟨⟨xs,af.of fc.at_⟩,fun D hD=>?_⟩)
  have Ef:D≠x:=fun z=>by rw [z,gx] at hD;cases hD
  refine Uc (dA xs) (fun i τ H3=>∃ (v0 v1:Option V) (kvs:List (Key×V)),τ=[v0,v1]/\H3 D=some (.dK kvs)/\DV RH H3 kvs (bg (rows.take i))/\aa H2 H3) ⟨none,none,[],rfl,aA,DV.nil,aa.upd hD _⟩ (by rintro i τ H3 _ ⟨_,_,_,_,_,_,s⟩;exact af.of (s _ _ fc.at_)) ?_ ?_
  ·rintro i τ H3 hi ⟨v0,v1,kvs,rfl,q1,q2,q3⟩
   have ia:i < rows.length:=by have:=fc.rv.len;omega
   obtain ⟨b,v,r1,r2,r3⟩:=fc.rv.at_ i hi ia
   have eg:xs.getD i .ai=.ref b:=by rw [Qb,Qa hi,r1];rfl
   rw [eg]
   refine fJ (q3 _ _ r2) ?_
   have r3':=r3.same q3
   obtain ⟨c,ys,rfl,hc⟩:=r3'.dm
   have hok:=(fc.ok rows[i] (Qj ia)).2
   have et:rows.take (i+1)=rows.take i++[rows[i]]:=by rw [Qs,Qa ia];rfl
   have kl:kvs.length < sizeLine:=by
    have h1:=q2.len
    have h2:=List.length_filter_le (fun r:ae=>r.2.nx.isNone) (rows.take i)
    unfold bg at h1
    simp at h2
    omega
   refine ⟨_,.str rows[i].2.dm,.inr (af.of hc),aR _ _,rfl,_,rfl,ic (fun c1=>?_) (fun c1=>?_)⟩
   ·have hn:rows[i].2.nx.isNone=true:=by
     cases e:rows[i].2.nx.isNone with
     | true=>rfl
     | false=>
      have:=(xC hok).symm▸e
      rw [this] at c1
      simp at c1
    have en:bg (rows.take (i+1))=bg (rows.take i)++[rows[i]]:=by
     rw [et];unfold bg;rw [List.filter_append,List.filter_cons,if_pos hn];rfl
    have Cr:rows[i].1 ∉ (bg (rows.take i)).map (·.1):=fun hm=>by
     obtain ⟨r,hr,e⟩:=List.mem_map.mp hm
     have gi:=(List.mem_filter.mp hr).1
     obtain ⟨j,hj,rfl⟩:=Qi gi
     have sr:j < i:=by simp at hj;omega
     rw [List.getElem_take] at e
     have:=List.pairwise_iff_getElem.mp jf j i (by simp;omega) (by simpa using ia) sr
     simp only [Qr] at this
     exact this e
    refine ⟨kvs,.inr rows[i].1,rfl,q1,kl,_,_,kvs++[(.inr rows[i].1,.ref c)],rfl,?_,?_,q3.put hD⟩
    ·rw [q2.put Cr];exact aA
    ·rw [en]
     exact (q2.snoc (show RH H3 (.ref c) rows[i] from r3')).keep fun v r h=>HV.tk ((Tk.refl).set q1 fun xs z=>nomatch z) h
   ·have hn:rows[i].2.nx.isNone=false:=by
     have e:rows[i].2.dm="as":=by
      have:decide (V.str rows[i].2.dm=V.str "as")=true:=by simpa using c1
      exact V.str.inj (Qt this)
     exact (xC hok)▸e
    have en:bg (rows.take (i+1))=bg (rows.take i):=by
     rw [et];unfold bg;rw [List.filter_append,List.filter_cons,if_neg (by rw [hn];decide)];simp
    exact ⟨_,_,kvs,rfl,q1,by rw [en];exact q2,q3⟩
  ·rintro τ H3 ⟨v0,v1,k2,rfl,q1,q2,q3⟩
   rw [fc.rv.len,Qo] at q2
   refine ⟨D,rfl,.inl ⟨k2,.inl q1,fun o2=>?_⟩⟩
   refine ⟨x,C,dx,_,rfl,by rw [aF Ef.symm];exact q3 _ _ gx,cl,na "heads" (by simp),by simp [cf],?_⟩
   have MW:d1≠D:=fun z=>by rw [z,hD] at g1;cases g1
   have Bv:Sx x H2 (upd (upd H3 D (.aq o2 (.dK k2))) x (.ins C dx (cf "heads" (.ref D) (cf "rows" (.ref d1) [])))):=((q3.put hD:aa _ _) |> aa.sx).trans Sx.upd
   have g2:upd (upd H3 D (.aq o2 (.dK k2))) x (.ins C dx (cf "heads" (.ref D) (cf "rows" (.ref d1) []))) D=some (.aq o2 (.dK k2)):=by rw [aF Ef];exact aA
   have AJ:upd (upd H3 D (.aq o2 (.dK k2))) x (.ins C dx (cf "heads" (.ref D) (cf "rows" (.ref d1) []))) x=some (.ins C dx (cf "heads" (.ref D) (cf "rows" (.ref d1) []))):=aA
   have CI:DV RH (upd (upd H3 D (.aq o2 (.dK k2))) x (.ins C dx (cf "heads" (.ref D) (cf "rows" (.ref d1) [])))) k2 (bg rows):=q2.keep fun v r h=>HV.tk (((Tk.refl).set q1 fun xs z=>nomatch z).set (by rw [aF Ef.symm];exact q3 _ _ gx) fun xs z=>by cases z) h
   generalize upd (upd H3 D (.aq o2 (.dK k2))) x (.ins C dx (cf "heads" (.ref D) (cf "rows" (.ref d1) [])))=H4 at Bv g2 AJ CI ⊢
   have IX:H4 d1=some (.aq o1 (.dK (g_ rows))):=Bv _ _ yp g1
   have IY:=IW.trans Bv
   have MX:Kn mg H4 "FROM" [.str "from"]:=let ⟨o,e⟩:=kf;⟨o,IY.aq nf e⟩
   have MY:Kn mg H4 "TO" [.str "to"]:=let ⟨o,e⟩:=kt;⟨o,IY.aq nf e⟩
   have MZ:=CI.len
   have M0:∀ i (h:i < (bg rows).length),((bg rows)[i]).2.ok ns:=fun i h=>(rt.ok _ (List.mem_filter.mp (Qj h)).1).2
   have M1:∀ i (h:i < (bg rows).length),qa k2 i=.str (bg rows)[i].1:=fun i h=>by
    unfold qa
    rw [Qa (by omega)]
    show kV k2[i].1=_
    rw [(CI.at_ i (by omega) h).1];rfl
   have VE:∀ i (h:i < (bg rows).length),HV H4 (valAt k2 i) (bg rows)[i].2:=fun i h=>by
    unfold valAt
    rw [Qa (by omega)]
    exact (CI.at_ i (by omega) h).2
   have Ga:∀ i (h:i < (bg rows).length),(bg rows)[i].1 ∉ ((bg rows).take i).map (·.1):=fun i h hm=>by
    obtain ⟨r,hr,e⟩:=List.mem_map.mp hm
    obtain ⟨j,hj,rfl⟩:=Qi hr
    have sr:j < i:=by simp at hj;omega
    rw [List.getElem_take] at e
    have:=List.pairwise_iff_getElem.mp Bm j i (by simp;omega) (by simpa using h) sr
    simp only [Qr] at this
    exact this e
   have M2:∀ i (h:i < (bg rows).length),(bg rows).take (i+1)=(bg rows).take i++[(bg rows)[i]]:=fun i h=>by rw [Qs,Qa h];rfl
   clear q1 q2 q3 hD fc
   -- marks
   refine kY ⟨x,C,dx,_,.ref D,rfl,AJ,cl,na "heads" (by simp),by rw [bX,if_pos rfl],D,k2,rfl,.inl ⟨o2,g2,fun D3 Bw=>?_⟩⟩
   have Eg:D3≠x:=fun z=>by rw [z,AJ] at Bw;cases Bw
   refine sQ (m5 k2) (fun i τ H5=>∃ (v0 v1:Option V) (kvs:List (Key×V)),τ=[v0,v1]/\H5 D3=some (.dK kvs)/\DV RM H5 kvs ((bg rows).take i)/\aa H4 H5) ⟨none,none,[],rfl,aA,DV.nil,aa.upd Bw _⟩ (by rintro i τ H5 _ ⟨_,_,_,_,_,_,s⟩;exact s _ _ g2) ?_ ?_
   ·rintro i τ H5 T5 hi ⟨v0,v1,kvs,rfl,q1,q2,q3⟩ hT
    have ly:i < (bg rows).length:=by omega
    rw [M1 i ly]
    have hv:=VE i ly
    generalize valAt k2 i=v at hv
    have t1:=aa.upd hT (.tup [.str (bg rows)[i].1,v])
    generalize upd H5 T5 (.tup [.str (bg rows)[i].1,v])=H6 at t1
    have M3:=hv.same (q3.trans t1)
    obtain ⟨c,ys,rfl,hc⟩:=M3.dm
    refine ⟨_,.str (bg rows)[i].2.dm,.inr (af.of hc),aR _ _,.ref c,(bg rows)[i].2,ns,rfl,M3,M0 i ly,MX.same (q3.trans t1),MY.same (q3.trans t1),fun L us H7 hL eL sv s7=>?_⟩
    refine ⟨L,us,rfl,.inl ⟨ak.of eL,fun l hl=>⟨(show 2<=sizeLine by decide),fun t ht=>?_⟩⟩⟩
    have s8:=(s7.trans (aa.upd hl (.tup us))).trans (aa.upd ht (.tup [.str (bg rows)[i].2.dm,.ref l]))
    have el:upd (upd H7 l (.tup us)) t (.tup [.str (bg rows)[i].2.dm,.ref l]) l=some (.tup us):=aa.upd ht _ _ _ aA
    have et:upd (upd H7 l (.tup us)) t (.tup [.str (bg rows)[i].2.dm,.ref l]) t=some (.tup [.str (bg rows)[i].2.dm,.ref l]):=aA
    have Eh:SV (upd (upd H7 l (.tup us)) t (.tup [.str (bg rows)[i].2.dm,.ref l])) us ((bg rows)[i].2.bq.map (·.1)):=sv.keep fun b ys r=>r.same ((aa.upd hl _).trans (aa.upd ht _))
    dsimp only
    generalize upd (upd H7 l (.tup us)) t (.tup [.str (bg rows)[i].2.dm,.ref l])=H8 at s8 el et Eh
    have g3:=(t1.trans s8) _ _ q1
    have kl:kvs.length < sizeLine:=by have h1:=q2.len;simp at h1;omega
    have kp:Tk H8 (upd H8 D3 (.dK (kvs++[(.inr (bg rows)[i].1,.ref t)]))):=(Tk.refl).set g3 fun xs z=>nomatch z
    refine ⟨kvs,.inr (bg rows)[i].1,rfl,g3,kl,_,_,kvs++[(.inr (bg rows)[i].1,.ref t)],rfl,?_,?_,((q3.trans t1).trans s8).put Bw⟩
    ·rw [q2.put (Ga i ly)];exact aA
    ·rw [M2 i ly,q2.put (Ga i ly)]
     have kr:∀ b ys,ao H8 b ys->ao (upd H8 D3 (.dK (kvs++[(.inr (bg rows)[i].1,.ref t)]))) b ys:=fun b ys r=>r.put g3 (fun _ z=>nomatch z) fun _ _ z=>nomatch z
     refine ((q2.keep fun v r ⟨b,c,us,e1,e2,e3,e4⟩=>⟨b,c,us,e1,(t1.trans s8) _ _ e2,(t1.trans s8) _ _ e3,e4.keep fun b ys r=>r.same (t1.trans s8)⟩:DV RM H8 kvs _).snoc (show RM H8 (.ref t) (bg rows)[i] from ⟨t,l,us,rfl,et,el,Eh⟩)).keep fun v r ⟨b,c,us,e1,e2,e3,e4⟩=>⟨b,c,us,e1,kp _ _ e2,kp _ _ e3,e4.keep kr⟩
   ·rintro τ H5 ⟨v0,v1,k3,rfl,q1,q2,q3⟩
    rw [MZ,Qo] at q2
    refine ⟨D3,rfl,.inl ⟨k3,.inl q1,fun o3=>?_⟩⟩
    refine ⟨x,C,dx,_,rfl,by rw [aF Eg.symm];exact q3 _ _ AJ,cl,na "marks" (by simp),VD 2,?_⟩
    have XI:d1≠D3:=fun z=>by rw [z,Bw] at IX;cases IX
    have XJ:D≠D3:=fun z=>by rw [z,Bw] at g2;cases g2
    generalize M4:cf "marks" (.ref D3) (cf "heads" (.ref D) (cf "rows" (.ref d1) []))=ja
    have lk:∀ y:Str,ja.lookup y=if y="marks" then some (.ref D3) else if y="heads" then some (.ref D) else if y="rows" then some (.ref d1) else none:=fun y=>by rw [<- M4,bX,bX,bX];rfl
    have fl:ja.length<=3:=by rw [<- M4];have h1:=bV "marks" (.ref D3) (cf "heads" (.ref D) (cf "rows" (.ref d1) []));have h2:=bV "heads" (.ref D) (cf "rows" (.ref d1) []);have h3:=bV "rows" (.ref d1) [];simp at h3;omega
    have Bx:Sx x H4 (upd (upd H5 D3 (.aq o3 (.dK k3))) x (.ins C dx ja)):=((q3.put Bw:aa _ _) |> aa.sx).trans Sx.upd
    have g3:upd (upd H5 D3 (.aq o3 (.dK k3))) x (.ins C dx ja) D3=some (.aq o3 (.dK k3)):=by rw [aF Eg];exact aA
    have AK:upd (upd H5 D3 (.aq o3 (.dK k3))) x (.ins C dx ja) x=some (.ins C dx ja):=aA
    have Gb:Tk H5 (upd (upd H5 D3 (.aq o3 (.dK k3))) x (.ins C dx ja)):=((Tk.refl).set q1 fun xs z=>nomatch z).set (by rw [aF Eg.symm];exact q3 _ _ AJ) fun xs z=>by cases z
    have M5:∀ b ys,ao H5 b ys->ao (upd (upd H5 D3 (.aq o3 (.dK k3))) x (.ins C dx ja)) b ys:=fun b ys r=>(r.put q1 (fun _ z=>nomatch z) fun _ _ z=>nomatch z).put (by rw [aF Eg.symm];exact q3 _ _ AJ) (fun _ z=>by cases z) fun _ _ z=>by cases z
    have M6:DV RM (upd (upd H5 D3 (.aq o3 (.dK k3))) x (.ins C dx ja)) k3 (bg rows):=q2.keep fun v r ⟨b,c,us,e1,e2,e3,e4⟩=>⟨b,c,us,e1,Gb _ _ e2,Gb _ _ e3,e4.keep M5⟩
    have IZ:DV RH (upd (upd H5 D3 (.aq o3 (.dK k3))) x (.ins C dx ja)) k2 (bg rows):=CI.keep fun v r h=>HV.tk ((q3.ts).trans Gb) h
    generalize upd (upd H5 D3 (.aq o3 (.dK k3))) x (.ins C dx ja)=H6 at Bx g3 AK M6 IZ ⊢
    have Gc:H6 d1=some (.aq o1 (.dK (g_ rows))):=Bx _ _ yp IX
    have Ei:H6 D=some (.aq o2 (.dK k2)):=Bx _ _ Ef g2
    have VF:Kn mg H6 "FROM" [.str "from"]:=let ⟨o,e⟩:=MX;⟨o,Bx.aq (fun q u z=>by rw [AJ] at z;cases z) e⟩
    have VG:Kn mg H6 "TO" [.str "to"]:=let ⟨o,e⟩:=MY;⟨o,Bx.aq (fun q u z=>by rw [AJ] at z;cases z) e⟩
    have VH:∀ i (h:i < (bg rows).length),HV H6 (valAt k2 i) (bg rows)[i].2:=fun i h=>by
     unfold valAt
     rw [Qa (by omega)]
     exact (IZ.at_ i (by omega) h).2
    have VI:=IY.trans Bx
    have VJ:∀ z∈ns,z∈rows.map (·.1):=fun z hz=>rt.nm.mem_iff.mpr hz
    clear q1 q2 q3 Gb M5 CI Bx
    -- moves
    refine vG ⟨x,C,dx,ja,.ref D,rfl,AK,cl,na "heads" (by simp),by rw [lk,if_neg (by decide+kernel),if_pos rfl],D,k2,rfl,.inl ⟨o2,Ei,fun D4 AL=>?_⟩⟩
    have Gd:D4≠x:=fun z=>by rw [z,AK] at AL;cases AL
    refine sQ (m5 k2) (fun i τ H7=>∃ (v0 v1:Option V) (kvs:List (Key×V)),τ=[v0,v1,some (.ref x)]/\H7 D4=some (.dK kvs)/\DV (RO rows) H7 kvs ((bg rows).take i)/\aa H6 H7) ⟨none,none,[],rfl,aA,DV.nil,aa.upd AL _⟩ (by rintro i τ H5 _ ⟨_,_,_,_,_,_,s⟩;exact s _ _ Ei) ?_ ?_
    ·rintro i τ H7 T7 hi ⟨v0,v1,kvs,rfl,q1,q2,q3⟩ hT
     have ly:i < (bg rows).length:=by omega
     rw [M1 i ly]
     have hv:=VH i ly
     generalize valAt k2 i=v at hv
     have t1:=aa.upd hT (.tup [.str (bg rows)[i].1,v])
     generalize upd H7 T7 (.tup [.str (bg rows)[i].1,v])=H8 at t1
     have q4:=q3.trans t1
     refine ⟨x,C,dx,ja,.ref d1,rfl,q4 _ _ AK,cl,na "rows" (by simp),by rw [lk,if_neg (by decide+kernel),if_neg (by decide+kernel),if_pos rfl],?_⟩
     refine ⟨v,(bg rows)[i].2,ns,rows,d1,rfl,hv.same q4,M0 i ly,VF.same q4,VG.same q4,.inr ⟨o1,q4 _ _ Gc⟩,VJ,jf,fun m H9 hm em s9=>⟨m,rfl,.inr ⟨_,.inl em,fun o=>?_⟩⟩⟩
     have XM:D4≠m:=fun z=>by
      have:=t1 _ _ q1
      rw [z,hm] at this;cases this
     have kh:aa H8 (upd H9 m (.aq o (.dT (ir rows (bg rows)[i].2)))):=s9.put hm
     have M7:upd H9 m (.aq o (.dT (ir rows (bg rows)[i].2))) m=some (.aq o (.dT (ir rows (bg rows)[i].2))):=aA
     generalize upd H9 m (.aq o (.dT (ir rows (bg rows)[i].2)))=CJ at kh M7
     have M8:=(t1.trans kh) _ _ q1
     have kl:kvs.length < sizeLine:=by have h1:=q2.len;simp at h1;omega
     refine ⟨kvs,.inr (bg rows)[i].1,rfl,M8,kl,_,_,kvs++[(.inr (bg rows)[i].1,.ref m)],rfl,?_,?_,(q4.trans kh).put AL⟩
     ·rw [q2.put (Ga i ly)];exact aA
     ·rw [M2 i ly,q2.put (Ga i ly)]
      refine ((q2.keep fun v r ⟨m',o',e1,e2⟩=>⟨m',o',e1,(t1.trans kh) _ _ e2⟩:DV (RO rows) CJ kvs _).snoc (show RO rows CJ (.ref m) (bg rows)[i] from ⟨m,o,rfl,M7⟩)).keep fun v r ⟨m',o',e1,e2⟩=>⟨m',o',e1,?_⟩
      rw [aF (fun z=>by rw [z,M8] at e2;cases e2)]
      exact e2
    ·rintro τ H7 ⟨v0,v1,k4,rfl,q1,q2,q3⟩
     rw [MZ,Qo] at q2
     refine ⟨D4,rfl,.inl ⟨k4,.inl q1,fun o4=>?_⟩⟩
     refine ⟨x,C,dx,ja,rfl,by rw [aF Gd.symm];exact q3 _ _ AK,cl,na "moves" (by simp),by omega,?_⟩
     have XN:d1≠D4:=fun z=>by rw [z,AL] at Gc;cases Gc
     have XO:D≠D4:=fun z=>by rw [z,AL] at Ei;cases Ei
     have XQ:D3≠D4:=fun z=>by rw [z,AL] at g3;cases g3
     have s7:Sx x H6 (upd (upd H7 D4 (.aq o4 (.dK k4))) x (.ins C dx (cf "moves" (.ref D4) ja))):=((q3.put AL:aa _ _) |> aa.sx).trans Sx.upd
     have CK:Tk H7 (upd (upd H7 D4 (.aq o4 (.dK k4))) x (.ins C dx (cf "moves" (.ref D4) ja))):=((Tk.refl).set q1 fun xs z=>nomatch z).set (by rw [aF Gd.symm];exact q3 _ _ AK) fun xs z=>by cases z
     have VL:∀ b ys,ao H7 b ys->ao (upd (upd H7 D4 (.aq o4 (.dK k4))) x (.ins C dx (cf "moves" (.ref D4) ja))) b ys:=fun b ys r=>(r.put q1 (fun _ z=>nomatch z) fun _ _ z=>nomatch z).put (by rw [aF Gd.symm];exact q3 _ _ AK) (fun _ z=>by cases z) fun _ _ z=>by cases z
     have VM:∀ b q u,H7 b=some (.aq q u)->upd (upd H7 D4 (.aq o4 (.dK k4))) x (.ins C dx (cf "moves" (.ref D4) ja)) b=some (.aq q u):=fun b q u e=>by
      rw [aF (fun z=>by rw [z,q3 _ _ AK] at e;cases e),aF (fun z=>by rw [z,q1] at e;cases e)]
      exact e
     have l4:∀ y:Str,(cf "moves" (.ref D4) ja).lookup y=if y="moves" then some (.ref D4) else ja.lookup y:=fun y=>bX _ _ _ _
     refine k _ ⟨dx,cf "moves" (.ref D4) ja,aA,⟨⟨d1,o1,?_,s7 _ _ yp Gc⟩,⟨D,o2,k2,?_,s7 _ _ Ef Ei,IZ.keep fun v r h=>HV.tk (q3.ts.trans CK) h⟩,⟨D3,o3,k3,?_,s7 _ _ Eg g3,M6.keep fun v r ⟨b,c,us,e1,e2,e3,e4⟩=>⟨b,c,us,e1,CK _ _ (q3 _ _ e2),CK _ _ (q3 _ _ e3),e4.keep fun b ys r=>VL _ _ (r.same q3)⟩⟩,⟨D4,o4,k4,?_,?_,q2.keep fun v r ⟨m,o,e1,e2⟩=>⟨m,o,e1,VM _ _ _ e2⟩⟩⟩⟩ (VI.trans s7)
     ·rw [l4,if_neg (by decide+kernel),lk,if_neg (by decide+kernel),if_neg (by decide+kernel),if_pos rfl]
     ·rw [l4,if_neg (by decide+kernel),lk,if_neg (by decide+kernel),if_pos rfl]
     ·rw [l4,if_neg (by decide+kernel),lk,if_pos rfl]
     ·rw [l4,if_pos rfl]
     ·rw [aF Gd];exact aA
def dbl (ns:List Str):List Str:=ns.flatMap fun n=>[n++"q",n++"r"]
theorem cI:z∈dbl ns↔∃ n∈ns,z=n++"q"\/z=n++"r":=by
 unfold dbl
 rw [List.mem_flatMap]
 constructor
 ·rintro ⟨n,hn,h⟩
  simp only [Qp,QA,or_false] at h
  exact ⟨n,hn,h⟩
 ·rintro ⟨n,hn,h⟩
  exact ⟨n,hn,by simpa using h⟩
theorem xM:∀ z∈dbl N8,isName z=true/\Wd z:=by
 have h1:(dbl N8).all (fun z=>isName z&&decide (z.length<=20)&&z.cps.toList.all (fun c=>decide (c < 128)))=true:=by decide+kernel
 intro z hz
 have h2:=List.all_eq_true.mp h1 z hz
 simp only [Bool.and_eq_true,decide_eq_true_eq] at h2
 exact ⟨h2.1.1,h2.1.2,fun c hc=>Qt (List.all_eq_true.mp h2.2 c hc)⟩
theorem nO (ns:List Str):(dbl ns).length=2*ns.length:=by
 unfold dbl
 induction ns with
 | nil=>rfl
 | cons n ns ih=>rw [List.flatMap_cons,Qk,ih];simp;omega
theorem wO (ns:List Str) (i:Nat) (h:i < ns.length):(dbl ns)[2*i]? =some (ns[i]++"q")/\(dbl ns)[2*i+1]? =some (ns[i]++"r"):=by
 unfold dbl
 induction ns generalizing i with
 | nil=>simp at h
 | cons n ns ih=>
  rw [List.flatMap_cons]
  cases i with
  | zero=>exact ⟨rfl,rfl⟩
  | succ i=>
   have:=ih i (by simpa using h)
   rw [show 2*(i+1)=2*i+2 by omega,show 2*i+2+1=2*i+1+2 by omega]
   simpa using this
theorem VN (h:ns.Nodup) (h8:∀ n∈ns,n∈N8):(dbl ns).Nodup:=by
 have inj:∀ a∈N8,∀ b∈N8,∀ c∈(["q","r"]:List Str),∀ d∈(["q","r"]:List Str),a++c=b++d->a=b/\c=d:=by decide+kernel
 unfold dbl
 induction ns with
 | nil=>exact List.nodup_nil
 | cons n ns ih=>
  rw [List.nodup_cons] at h
  rw [List.flatMap_cons,List.nodup_append]
  refine ⟨?_,ih h.2 fun m hm=>h8 m (Qh _ hm),fun a ha b hb e=>?_⟩
  ·have:=inj n (h8 n List.mem_cons_self) n (h8 n List.mem_cons_self) "q" (by simp) "r" (by simp)
   simp only [List.nodup_cons,List.mem_singleton,List.not_mem_nil,not_false_eq_true,List.nodup_nil,and_true]
   exact fun z=>absurd (this z).2 (by decide+kernel)
  ·obtain ⟨m,hm,hb⟩:=List.mem_flatMap.mp hb
   subst e
   simp only [Qp,QA,or_false] at ha hb
   have key:∀ c∈(["q","r"]:List Str),∀ d∈(["q","r"]:List Str),n++c=m++d->False:=fun c hc d hd e=>by
    have:=(inj n (h8 n List.mem_cons_self) m (h8 m (Qh _ hm)) c hc d hd e).1
    rw [this] at h
    exact h.1 hm
   rcases ha with rfl | rfl<;>rcases hb with hb | hb
   ·exact key "q" (by simp) "q" (by simp) hb
   ·exact key "q" (by simp) "r" (by simp) hb
   ·exact key "r" (by simp) "q" (by simp) hb
   ·exact key "r" (by simp) "r" (by simp) hb
def I_ (K:Q0):Sp:=fun vs H Q _=>∃ (H0:Hp) (p:Addr) (v:V) (h:Hd) (t:Nat) (ns:List Str),vs=[.ref p,v]/\bz K H0 H p t/\t+20 < 900000/\HV H v h/\h.ok ns/\(∀ n∈ns,n∈N8)/\(∀ z∈h.Ao,z∈WW)/\
 ∀ (v':V) (h':Hd) (H':Hp),HV H' v' h'->h'.ok (dbl ns)->qj h h'->(∀ z∈h'.Ao,z∈WW)->bz K H0 H' p (t+20)->Sm p p H H'->Q v' H'
theorem yG (i:Nat) (h:i < 2):∃ c,jj (("qr":Str).cps.toList) (i:Int)=some c/\((⟨#[c]⟩:Str)="q"\/(⟨#[c]⟩:Str)="r"):=by
 match i,h with
 | 0,_=>exact ⟨113,rfl,.inl rfl⟩
 | 1,_=>exact ⟨114,rfl,.inr rfl⟩
set_option maxHeartbeats 2000000 in
theorem iZ (T:Txt K mg w):az P w K mg base 3 "_law_twin_head" ["_law_pen","_law_here"] (I_ K):=by
 have aM:az P w K mg base 2 "_law_next" ["_law_pen","_law_many"] (yl K):=bI T
 refine T.jJ.fz j5 (fun vs H Q E h=>?_) (fun f ay A outer s H vs Q E hr h=>?_)
 ·refine hdn fun Gz9 zG9=>?_;obtain ⟨H0,p,v,h,t,ns,rfl,_⟩:=h;refine zG9 ?_
  rfl
 ·refine hdn fun Gz9 zG9=>?_;obtain ⟨H0,p,v,h,t,ns,rfl,hn,ht,hv,hok,h8,Ge,k⟩:=h;refine zG9 ?_
  have hu:=aX hr
  have fq:=Qx (aX hr)
  have hsz:sizeLine=16777216:=QL
  have Gf:∀ z∈ns,z.length<=8:=fun z hz=>dG (lQ z (h8 z hz)).1
  have Gg:∀ z∈dbl ns,isName z=true:=fun z hz=>by
   obtain ⟨n,hn,h⟩:=cI.mp hz
   exact (xM z (cI.mpr ⟨n,h8 n hn,h⟩)).1
  refine ⟨_,(aD (cH (aY (rK K) (bE (bD K) (zv 1) aH (fun _ _=>rfl)) (bG (aE bB (aE bB aC))) rfl) (aG (aQ (zv 1))) bC)
   (aD (cH (aY (rK K) (bE (bD K) (zv 1) aH (fun _ _=>rfl)) (bG (aE bB (aE bB aC))) rfl) (aG (aQ (bT (nJ K) (dL (uV K) (zv 1) dP (dR aH)) (cJ (cN K) (by rfl) T.fB QG (fS (qA (own:=["_law_name"]) (idx:=[0]) (N':=["_law_name","_law_pen"]) (eA (be bR) (["_law_pen","_law_here"]:List Str) (by decide+kernel)) rfl (qF K (dL (uV K) (zv 1) (dR aH) dP)) (fun _ _ _ _ _ _=>(aL (i:=0) (show List.Nodup (["_law_name","_law_pen"]:List Str) by decide+kernel) rfl (Or.inl rfl))) (fun _ _ _ _ _ _=>fZ) (fun _ _ _ _ _ _=>(bT bM (zv 0) (bE (bD K) bB (bA aM (hr.mono (by decide)) (aB (zv 1) (aE aH aC))) (fun _ _=>rfl))))) aC))))) bC)
   (aG (aQ (bG (aI (bE (bD K) (zv 1) aH (fun _ _=>rfl)) (aU (cJ (cN K) (by rfl) T.fB QG (fS (qA (own:=["_law_word","_law_name"]) (idx:=[0]) (N':=["_law_word","_law_name","_law_pen"]) (eA (be bR) (["_law_pen","_law_here"]:List Str) (by decide+kernel)) rfl (qF K (bE (bD K) (zv 1) aH (fun _ _=>rfl))) (fun _ _ _ _ _ _=>(cZ K (n:=2) rfl (aN (aL (i:=0) (show List.Nodup (["_law_word","_law_name","_law_pen"]:List Str) by decide+kernel) rfl (Or.inl rfl)) (aN (aL (i:=1) (show List.Nodup (["_law_word","_law_name","_law_pen"]:List Str) by decide+kernel) rfl (Or.inl rfl)) cA)))) (fun _ _ _ _ _ _=>fZ) (fun _ _ _ _ _ _=>(bG (aB (zv 0) (g7 (bT bM (zv 1) (bE (bD K) bB (bA aM (hr.mono (by decide)) (aB (zv 2) (aE aH aC))) (fun _ _=>rfl))) aC))))) aC)) aC))))))),?_⟩
  /- A6 first two tests -/
  have tests:∀ (b:Addr) (z:Str) (ys:List V) (A B:TS) (D:Ends) (l1 l2:Str),H b=some (.tup (.str z::ys))->((z∈([l1,l2]:List Str))->∀ H1,aa H H1->A D [some (.ref p),some (.ref b)] H1)->((z ∉ ([l1,l2]:List Str))->∀ H1,aa H H1->B D [some (.ref p),some (.ref b)] H1)->
    ∀ H1,aa H H1->EJ (ER (ko (Fb K false) (ko (B5 K) (tV 1) (tC (V.int 0))) (ET (ik (tC (V.str l1)) (ik (tC (V.str l2)) xu))))) A B D [some (.ref p),some (.ref b)] H1:=by
   intro b z ys A B D l1 l2 e hA hB H1 s1
   refine ⟨_,.str z,.inr (af.of (s1 _ _ e)),aR _ _,(show 2<=sizeLine by decide),fun T1 M9=>⟨[.str l1,.str l2],.inr (af.of aA),rfl,rfl,_,rfl,?_⟩⟩
   show if (false^^Ah (.str z) (([l1,l2]:List Str).map V.str))=true then _ else _
   rw [l6,QE]
   by_cases hz:z∈([l1,l2]:List Str)
   ·rw [Qv hz];exact yc (hA hz _ (s1.trans (aa.upd M9 _)))
   ·rw [Qw hz];exact mh (hB hz _ (s1.trans (aa.upd M9 _)))
  have plain:∀ (b:Addr) (z0:Str) (ys:List Str),H b=some (.tup (.str z0::ys.map V.str))->(ys.length=1\/ys.length=2)->(∀ y∈ys,y.length<=8)->(∀ (pp:Addr) (zs:List Str) (H':Hp),H' pp=some (.tup (.str z0::zs.map V.str))->zs.length=ys.length->(∀ i (h1:i < zs.length) (h2:i < ys.length),zs[i]=ys[i]++"q"\/zs[i]=ys[i]++"r")->bz K H0 H' p (t+20)->Sm p p H H'->Q (.ref pp) H')->
    ∀ H1,aa H H1->BK (ko (Ib K) (BX (fun x lo hi H Q=>Bc x lo hi H Q\/(Bb K x lo hi H Q\/Af K x lo hi H Q)) (tV 1) BU (BV (tC (V.int 1)))) (A_ (K6 K) (ik (B3 ["_law_name"] [0] (iD K (BX (fun x lo hi H Q=>Bc x lo hi H Q\/(Bb K x lo hi H Q\/Af K x lo hi H Q)) (tV 1) (BV (tC (V.int 1))) BU)) (nk 0) E_ (ko G_ (tV 0) (ko (B5 K) (tC (V.str "qr")) (C8 (yl K) [] E0 (ik (tV 1) (ik (tC (V.int 2)) xu)))))) xu))) {nx:=fun _ H'=>Q .ai H',rt:=Q} [some (.ref p),some (.ref b)] H1:=by
   intro b z0 ys e hl VO kk H1 s1
   have e1:=s1 _ _ e
   have el:(V.str z0::ys.map V.str).length=ys.length+1:=by simp
   refine ⟨1,rfl,Or.inr (Or.inr ⟨b,_,rfl,af.of e1,?_,fun N hN=>?_⟩)⟩
   ·rw [el];rcases hl with h | h<;>(rw [h];decide)
   have ec:jq (V.str z0::ys.map V.str) none (some 1)=[.str z0]:=(mR _ 1).trans rfl
   rw [ec]
   have s2:=s1.trans (aa.upd hN (.tup [.str z0]))
   have f2:upd H1 N (.tup [.str z0]) N=some (.tup [.str z0]):=aA
   dsimp only
   generalize upd H1 N (.tup [.str z0])=H2 at s2 f2 ⊢
   refine ⟨1,rfl,Or.inr (Or.inr ⟨b,_,rfl,af.of (s2 _ _ e),?_,fun M hM=>?_⟩)⟩
   ·rw [el];rcases hl with h | h<;>(rw [h];decide)
   have VP:jq (V.str z0::ys.map V.str) (some 1) none=ys.map V.str:=(i9 _ 1).trans rfl
   rw [VP]
   have s3:=s2.trans (aa.upd hM (.tup (ys.map V.str)))
   have f3:upd H2 M (.tup (ys.map V.str)) M=some (.tup (ys.map V.str)):=aA
   have M_:=(aa.upd hM (.tup (ys.map V.str))) _ _ f2
   generalize upd H2 M (.tup (ys.map V.str))=H3 at s3 f3 M_ ⊢
   refine Or.inr ⟨⟨_,af.of f3⟩,fun D hD=>?_⟩
   have kg:=hn.same s3
   have ni:D≠p:=kg.ne hD
   have fD:=kg.free hD
   have tq:H D=none:=s3.free hD
   refine kJ (dA (ys.map V.str)) (fun i τ H'=>∃ (v0:Option V) (zs:List Str),τ=[v0,some (.ref p)]/\H' D=some (.lst (zs.map V.str))/\zs.length=i/\(∀ j (h1:j < zs.length) (h2:j < ys.length),zs[j]=ys[j]++"q"\/zs[j]=ys[j]++"r")/\bz K H0 H' p (t+i)/\Sm p p H H'/\Tk H3 H')
    ⟨none,[],rfl,aA,rfl,fun j h=>absurd h (by simp),kg.same (aa.upd hD _),(s3.trans (aa.upd hD _)).sm,(aa.upd hD _).ts⟩ (by rintro i τ H' _ ⟨_,_,_,_,_,_,_,_,tk⟩;exact af.of (tk _ _ f3)) ?_ ?_
   ·rintro i τ H4 hi z0;refine hdn fun Gz9 zG9=>?_;obtain ⟨v0,zs,rfl,q1,q2,q3,q4,q5,q6⟩:=z0;refine zG9 ?_
    rw [Ql] at hi
    rw [fY ys i hi]
    have ey:ys.getD i ""=ys[i]:=by rw [Qb,Qa hi];rfl
    rw [ey]
    have hy:=VO _ (Qj hi)
    refine ⟨H0,p,2,t+i,rfl,q4,⟨by decide,by decide⟩,by omega,fun r H5 r0 r1 nc gn=>?_⟩
    obtain ⟨j,rfl⟩:∃ j:Nat,r=(j:Int):=⟨r.toNat,by omega⟩
    obtain ⟨c,ip,k_⟩:=yG j (by omega)
    refine ⟨(show 2<=sizeLine by decide),c,ip,⟨by show ys[i].length+1<=sizeLine;omega,?_⟩⟩
    have g1:=gn _ _ q1 ni ni
    have VQ:Tk H4 (upd H5 D (.lst (zs.map V.str++[.str (ys[i]++⟨#[c]⟩)]))):=(q4.ts gn).trans (Tk.refl.set g1 (fun _ z=>nomatch z))
    refine ⟨_,g1,by simp;omega,_,zs++[ys[i]++⟨#[c]⟩],rfl,by rw [aA,Qm];rfl,by simp [q2],fun j' h1 h2=>?_,nc.put ni fD,(q5.trans gn).upd tq,q6.trans VQ⟩
    by_cases hj:j' < zs.length
    ·rw [Qe hj];exact q3 j' hj h2
    ·have ej:j'=zs.length:=by simp at h1;omega
     subst ej
     rw [Qf (Qy _)]
     simp only [Nat.sub_self,List.getElem_cons_zero]
     subst q2
     rcases k_ with h | h
     ·rw [h];exact .inl rfl
     ·rw [h];exact .inr rfl
   ·rintro τ H4 z0;refine hdn fun Gz9 zG9=>?_;obtain ⟨v0,zs,rfl,q1,q2,q3,q4,q5,q6⟩:=z0;refine zG9 ?_
    rw [Ql] at q2 q4
    refine ⟨D,_,rfl,.inl ⟨ak.of q1,fun N2 Ej=>?_⟩⟩
    have s5:=aa.upd Ej (.tup (zs.map V.str))
    have f5:upd H4 N2 (.tup (zs.map V.str)) N2=some (.tup (zs.map V.str)):=aA
    dsimp only
    generalize upd H4 N2 (.tup (zs.map V.str))=H5 at s5 f5 ⊢
    refine Ic (s5 _ _ (q6 _ _ M_)) f5 (by simp;omega) fun pp H6 s6 e6=>?_
    exact kk pp zs H6 e6 q2 q3 (((q4.same s5).same s6).mono (by omega)) ((q5.trans s5.sm).trans s6.sm)
  cases hv with
  | @one b z e=>
   refine tests b z [] _ _ _ "all" "none" e (fun hz H1 s1=>?_) (fun hz H1 s1=>?_) H (aa.refl _)
   ·exact k (.ref b) (.one z) H1 (.one (s1 _ _ e)) hok rfl (fun _ h=>nomatch h) ((hn.same s1).mono (by omega)) s1.sm
   ·exact absurd (by rcases hok with rfl | rfl<;>simp) hz
  | @as b y e=>
   refine tests b "as" [.str y] _ _ _ "all" "none" e (fun hz H1 s1=>absurd hz (by decide+kernel)) (fun hz H1 s1=>?_) H (aa.refl _)
   refine tests b "as" [.str y] _ _ _ "way" "as" e (fun hz H1 s1=>?_) (fun hz H1 s1=>absurd (by simp) hz) H1 s1
   refine plain b "as" [y] e (.inl rfl) (fun z hz=>by rw [List.mem_singleton.mp hz];exact Gf _ hok.2) (fun pp zs H' e' hl hz vf Ja=>?_) H1 s1
   match zs,hl with
   | [y'],_=>
    have h0:=hz 0 (by simp) (by simp)
    have hm:y'∈dbl ns:=cI.mpr ⟨y,hok.2,h0⟩
    exact k (.ref pp) (.as y') H' (.as e') ⟨Gg _ hm,hm⟩ h0 (fun _ h=>nomatch h) vf Ja
  | @way b x y e=>
   refine tests b "way" [.str x,.str y] _ _ _ "all" "none" e (fun hz H1 s1=>absurd hz (by decide+kernel)) (fun hz H1 s1=>?_) H (aa.refl _)
   refine tests b "way" [.str x,.str y] _ _ _ "way" "as" e (fun hz H1 s1=>?_) (fun hz H1 s1=>absurd (by simp) hz) H1 s1
   refine plain b "way" [x,y] e (.inr rfl) (fun z hz=>?_) (fun pp zs H' e' hl hz vf Ja=>?_) H1 s1
   ·simp only [Qp,QA,or_false] at hz
    rcases hz with rfl | rfl
    ·exact Gf _ hok.2.2.1
    ·exact Gf _ hok.2.2.2
   match zs,hl with
   | [x',y'],_=>
    have h0:=hz 0 (by simp) (by simp)
    have h1:=hz 1 (by simp) (by simp)
    have CC:x'∈dbl ns:=cI.mpr ⟨x,hok.2.2.1,h0⟩
    have Bl:y'∈dbl ns:=cI.mpr ⟨y,hok.2.2.2,h1⟩
    exact k (.ref pp) (.way x' y') H' (.way e') ⟨Gg _ CC,Gg _ Bl,CC,Bl⟩ ⟨h0,h1⟩ (fun _ h=>nomatch h) vf Ja
  | @prs b c s0 ys ps e ec hp=>
   have Na:s0 ∉ (["all","none"]:List Str)/\s0 ∉ (["way","as"]:List Str):=by rcases hok.1 with rfl | rfl<;>decide+kernel
   refine tests b s0 [.ref c] _ _ _ "all" "none" e (fun hz H1 s1=>absurd hz Na.1) (fun hz H1 s1=>?_) H (aa.refl _)
   refine tests b s0 [.ref c] _ _ _ "way" "as" e (fun hz H1 s1=>absurd hz Na.2) (fun hz H1 s1=>?_) H1 s1
   have gr:=hp.len
   obtain ⟨hs,Ek,HR,Fk⟩:=hok
   refine ⟨_,.str s0,.inr (af.of (s1 _ _ e)),aR _ _,_,.ref c,.inr (af.of (s1 _ _ e)),rfl,Or.inr ⟨⟨ys,af.of (s1 _ _ ec)⟩,fun D hD=>?_⟩⟩
   have kg:=hn.same s1
   have ni:D≠p:=kg.ne hD
   have fD:=kg.free hD
   have tq:H D=none:=s1.free hD
   refine kJ (dA ys) (fun i τ H'=>∃ (v0 v1:Option V) (us:List V) (qs:List (Str×Str)),τ=[v0,v1,some (.ref p)]/\H' D=some (.lst us)/\DF H' us qs/\qs.length=i/\(∀ j (h1:j < qs.length) (h2:j < ps.length),qs[j].1=ps[j].1/\(qs[j].2=ps[j].2++"q"\/qs[j].2=ps[j].2++"r"))/\bz K H0 H' p (t+i)/\Sm p p H H'/\Tk H1 H')
    ⟨none,none,[],[],rfl,aA,⟨rfl,fun i h=>absurd h (by simp)⟩,rfl,fun j h=>absurd h (by simp),kg.same (aa.upd hD _),(s1.trans (aa.upd hD _)).sm,(aa.upd hD _).ts⟩ (by rintro i τ H' _ ⟨_,_,_,_,_,_,_,_,_,_,_,tk⟩;exact af.of (tk _ _ (s1 _ _ ec))) ?_ ?_
   ·rintro i τ H4 hi z0;refine hdn fun Gz9 zG9=>?_;obtain ⟨v0,v1,us,qs,rfl,q1,q2,q3,q4,q5,q6,q7⟩:=z0;refine zG9 ?_
    have AI:i < ps.length:=by omega
    obtain ⟨d0,r1,r2⟩:=hp.at_ i hi AI
    have eg:ys.getD i .ai=.ref d0:=by rw [Qb,Qa hi,r1];rfl
    rw [eg]
    have hy:=Gf _ (Ek _ (Qj AI)).2.2
    refine fJ (q7 _ _ (s1 _ _ r2)) ?_
    refine ⟨H0,p,2,t+i,rfl,q5,⟨by decide,by decide⟩,by omega,fun r H5 r0 Fg nc gn=>?_⟩
    obtain ⟨j,rfl⟩:∃ j:Nat,r=(j:Int):=⟨r.toNat,by omega⟩
    obtain ⟨c',ip,k_⟩:=yG j (by omega)
    refine ⟨(show 2<=sizeLine by decide),c',ip,⟨by show ps[i].2.length+1<=sizeLine;omega,(show 2<=sizeLine by decide),fun T8 Gh=>?_⟩⟩
    have g1:=gn _ _ q1 ni ni
    have s8:=aa.upd Gh (.tup [.str ps[i].1,.str (ps[i].2++⟨#[c']⟩)])
    have f8:upd H5 T8 (.tup [.str ps[i].1,.str (ps[i].2++⟨#[c']⟩)]) T8=some (.tup [.str ps[i].1,.str (ps[i].2++⟨#[c']⟩)]):=aA
    have g8:=s8 _ _ g1
    have Nb:=nc.same s8
    have Nc:=(q6.trans gn).trans s8.sm (p:=p) (w:=p)
    have CG:Tk H4 (upd H5 T8 (.tup [.str ps[i].1,.str (ps[i].2++⟨#[c']⟩)])):=(q5.ts gn).trans s8.ts
    dsimp only
    generalize upd H5 T8 (.tup [.str ps[i].1,.str (ps[i].2++⟨#[c']⟩)])=H6 at s8 f8 g8 Nb Nc CG ⊢
    have Jb:Tk H6 (upd H6 D (.lst (us++[.ref T8]))):=Tk.refl.set g8 (fun _ z=>nomatch z)
    have ul:=q2.len
    refine ⟨us,g8,by omega,_,_,us++[.ref T8],qs++[(ps[i].1,ps[i].2++⟨#[c']⟩)],rfl,aA,?_,by simp [q3],fun j' h1 h2=>?_,Nb.put ni fD,Nc.upd tq,(q7.trans CG).trans Jb⟩
    ·have VR:=q2.tk (CG.trans Jb)
     refine ⟨by simp [ul],fun i' h1 h2=>?_⟩
     by_cases d_:i' < us.length
     ·rw [Qe d_,Qe (by omega)]
      exact VR.at_ i' d_ (by omega)
     ·have ei:i'=us.length:=by simp at h1;omega
      subst ei
      rw [Qf (Qy _),Qf (by omega)]
      simp only [Nat.sub_self,ul,List.getElem_cons_zero]
      exact ⟨T8,rfl,Jb _ _ f8⟩
    ·by_cases hj:j' < qs.length
     ·rw [Qe hj];exact q4 j' hj h2
     ·have ej:j'=qs.length:=by simp at h1;omega
      subst ej
      rw [Qf (Qy _)]
      simp only [Nat.sub_self,List.getElem_cons_zero]
      subst q3
      rcases k_ with h | h
      ·rw [h];exact ⟨rfl,.inl rfl⟩
      ·rw [h];exact ⟨rfl,.inr rfl⟩
   ·rintro τ H4 z0;refine hdn fun Gz9 zG9=>?_;obtain ⟨v0,v1,us,qs,rfl,q1,q2,q3,q4,q5,q6,q7⟩:=z0;refine zG9 ?_
    rw [gr] at q3 q5
    refine ⟨D,_,rfl,.inl ⟨ak.of q1,fun N2 Ej=>⟨(show 2<=sizeLine by decide),fun N3 Jc=>?_⟩⟩⟩
    have s5:=aa.upd Ej (.tup us)
    have f5:upd H4 N2 (.tup us) N2=some (.tup us):=aA
    have s6:=aa.upd Jc (.tup [.str s0,.ref N2])
    have Jd:=s5.trans s6
    have Nd:qs.map (·.1)=ps.map (·.1):=by
     refine List.ext_getElem (by simp;omega) fun i h1 h2=>?_
     simp only [Qr]
     exact (q4 i (by simpa using h1) (by simpa using h2)).1
    refine k (.ref N3) (.prs s0 qs) _ (.prs aA (s6 _ _ f5) (q2.tk Jd.ts)) ⟨hs,fun q hq=>?_,by rw [Nd];exact HR,by omega⟩ ⟨rfl,q3,q4⟩ (fun z hz=>?_) ((q5.same Jd).mono (by omega)) (q6.trans Jd.sm)
    ·obtain ⟨i,hi,rfl⟩:=Qi hq
     obtain ⟨g1,g2⟩:=q4 i hi (by omega)
     have Nf:=Ek _ (Qj (show i < ps.length by omega))
     have hm:qs[i].2∈dbl ns:=cI.mpr ⟨_,Nf.2.2,g2⟩
     exact ⟨by rw [g1];exact Nf.1,Gg _ hm,hm⟩
    ·have:z∈ps.map (·.1):=by rw [<- Nd];exact hz
     exact Ge z this
def Ng (K:Q0):Sp:=fun vs H Q _=>∃ (H0:Hp) (p a:Addr) (t:Nat) (xs:List V) (rows:List ae) (ns:List Str),vs=[.ref p,.ref a]/\bz K H0 H p t/\t+600 < 900000/\RT H a xs rows ns WW/\(∀ n∈ns,n∈N8)/\ns.length<=7/\
 ∀ (b:Addr) (ys:List V) (dc:List ae) (H':Hp),RT H' b ys dc (dbl ns) WW->(∀ r∈rows,∀ c:Str,(c="q"\/c="r")->qj r.2 (aj dc (r.1++c)))->bz K H0 H' p (t+600)->Sm p p H H'->Q (.ref b) H'
theorem yB {l m:List Str} (h:l.Perm m):(dbl l).Perm (dbl m):=h.flatMap_right _
theorem yC (l:List Str) (n:Str):dbl (l++[n])=dbl l++[n++"q",n++"r"]:=by simp [dbl]
theorem qD {rs:List (Str×V)} (h:ju H ns ws rs) {n:Str} {v:V} (h1:n∈ns) (h2:oq H ns ws v (Aq ns n)):ju H ns ws (rs++[(n,v)]):=
 (h.add h1 h2).perm fun r hr=>by
  rcases List.mem_append.mp hr with hr | hr
  ·exact Qh _ hr
  ·rw [List.mem_singleton.mp hr];exact List.mem_cons_self
set_option maxHeartbeats 2000000 in
theorem nW (T:Txt K mg w):az P w K mg base 4 "_law_twin" ["_law_pen","_law_told"] (Ng K):=by
 have fL:az P w K mg base 3 "_law_twin_head" ["_law_pen","_law_here"] (I_ K):=iZ T
 have d7:az P w K mg base 3 "_law_turned" ["_law_pen","_law_some"] (IC K):=gI T
 refine T.rW.fz dM (fun vs H Q E h=>?_) (fun f ay A outer s H vs Q E hr h=>?_)
 ·refine hdn fun Gz9 zG9=>?_;obtain ⟨H0,p,a,t,xs,rows,ns,rfl,_⟩:=h;refine zG9 ?_
  rfl
 ·refine hdn fun Gz9 zG9=>?_;obtain ⟨H0,p,a,t,xs,rows,ns,rfl,hn,ht,rt,h8,h5,k⟩:=h;refine zG9 ?_
  have hu:=aX hr
  have fq:=Qx (aX hr)
  have hsz:sizeLine=16777216:=QL
  have Ar:=rt.rl
  have qb:=rt.rv.len
  have VS:∀ z∈dbl ns,isName z=true/\Wd z:=fun z hz=>by
   obtain ⟨n,hn,h⟩:=cI.mp hz
   exact xM z (cI.mpr ⟨n,h8 n hn,h⟩)
  refine ⟨_,(aD (aP (i:=2) dM.nd rfl (Or.inl rfl) (d5 aC))
   (aD (gM PassesOwn.never rfl (qF K (zv 1)) (cZ K (n:=2) rfl (aN (aL (i:=3) dM.nd rfl (Or.inl rfl)) (aN (aL (i:=4) dM.nd rfl (Or.inl rfl)) cA))) (aD (eZ (mW K QH QJ QK bZ (zv 2) (bS (bG (g7 (bT bM (zv 3) bB) (aU (bA fL (hr.mono (by decide)) (aB (zv 0) (aB (zv 4) aC))) aC))) aC)))
   (aG (eZ (mW K QH QJ QK bZ (zv 2) (bS (bG (g7 (bT bM (zv 3) bB) (aU (bA fL (hr.mono (by decide)) (aB (zv 0) (aB (zv 4) aC))) aC))) aC))))))
   (aG (aQ (cJ (cN K) (by rfl) T.fB QG (aU (bA d7 (hr.mono (by decide)) (aB (zv 0) (aB (zv 2) aC))) aC)))))),?_⟩
  refine aJ ⟨(show 0<=sizeLine by decide),fun R hR=>?_⟩
  have z_:R≠p:=hn.ne hR
  have fR:=hn.free hR
  refine aO (fun σ' H'=>∃ (v3 v4:Option V) (us:List V) (rs:List (Str×V)),σ'=[some (.ref p),some (.ref a),some (.ref R),v3,v4]/\H' R=some (.lst us)/\ie H' us (bh rs)/\rs.map (·.1)=dbl (rows.map (·.1))/\ju H' (dbl ns) WW rs/\bz K H0 H' p (t+300)/\Sm p p H H'/\zu H' rows rs) ?_ ?_
  ·intro nx c_
   refine .inr ⟨⟨xs,af.of (aa.upd hR _ _ _ rt.at_)⟩,?_⟩
   refine dU (dA xs) (fun i σ' H'=>∃ (v3 v4:Option V) (us:List V) (rs:List (Str×V)),σ'=[some (.ref p),some (.ref a),some (.ref R),v3,v4]/\H' R=some (.lst us)/\ie H' us (bh rs)/\rs.map (·.1)=dbl ((rows.map (·.1)).take i)/\ju H' (dbl ns) WW rs/\bz K H0 H' p (t+40*i)/\Sm p p H H'/\zu H' (rows.take i) rs)
    ⟨none,none,[],[],rfl,aA,j0,rfl,⟨(fun _ h=>nomatch h),(fun _ h=>nomatch h)⟩,hn.same (aa.upd hR _),(aa.upd hR _).sm,fun r hr=>nomatch hr⟩ (by rintro i σ' H' _ ⟨_,_,_,_,_,_,_,_,_,_,s,_⟩;exact af.of (hn.ts s _ _ rt.at_)) ?_ ?_
   ·rintro i σ' H1 hi z0;refine hdn fun Gz9 zG9=>?_;obtain ⟨v3,v4,us,rs,rfl,q1,q2,q3,q4,q5,q6,q7⟩:=z0;refine zG9 ?_
    have ia:i < rows.length:=by omega
    obtain ⟨rb,hv,r1,r2,r3⟩:=rt.rv.at_ i hi ia
    have eg:xs.getD i .ai=.ref rb:=by rw [Qb,Qa hi,r1];rfl
    rw [eg]
    have i_:rows[i]∈rows:=Qj ia
    have Je:rows[i].1∈ns:=rt.nm.mem_iff.mp (List.mem_map.mpr ⟨_,i_,rfl⟩)
    have hok:=(rt.ok _ i_).2
    have Ge:=rt.ww _ i_
    have Nh:=rt.ah _ i_
    have Gi:(rows.map (·.1)).take (i+1)=(rows.map (·.1)).take i++[rows[i].1]:=by
     rw [Qs,Qq,Qa ia];rfl
    have VT:rs.length=2*i:=by
     have h1:=congrArg List.length q3
     rw [nO,Ql,List.length_take,Ql] at h1
     omega
    have Ni:rows.take (i+1)=rows.take i++[rows[i]]:=by rw [Qs,Qa ia];rfl
    generalize rows[i]=row at r2 r3 Je hok Ge Nh Gi Ni
    obtain ⟨nm,hd⟩:=row
    have nl:nm.length<=8:=dG (lQ _ (h8 _ Je)).1
    have VU:=hn.ts q6
    refine fJ (VU _ _ r2) ?_
    have Jf:us.length=rs.length:=by have:=q2.1;simpa using this
    /- O_ holds of a new head -/
    have VV:∀ (c:Str) (h':Hd),(c="q"\/c="r")->qj hd h'->Aq (dbl ns) (nm++c) h'.nx:=fun c h' hc c_ y' e'=>by
     obtain ⟨y,e1,e2⟩:∃ y,hd.nx=some y/\(y'=y++"q"\/y'=y++"r"):=by
      rcases c_.nx with ⟨_,z⟩ | ⟨y,y2,z1,z2,z3⟩
      ·rw [z] at e';cases e'
      ·rw [z2] at e';cases e';exact ⟨y,z1,z3⟩
     obtain ⟨i1,j1,qo,g1,g2⟩:=Nh y e1
     have VW:i1 < ns.length:=(List.getElem?_eq_some_iff.mp g1).1
     have Bh:j1 < ns.length:=(List.getElem?_eq_some_iff.mp g2).1
     have ei:ns[i1]=y:=(List.getElem?_eq_some_iff.mp g1).2
     have ej:ns[j1]=nm:=(List.getElem?_eq_some_iff.mp g2).2
     obtain ⟨a1,a2⟩:=wO ns i1 VW
     obtain ⟨b1,b2⟩:=wO ns j1 Bh
     rw [ei] at a1 a2
     rw [ej] at b1 b2
     rcases e2 with rfl | rfl<;>rcases hc with rfl | rfl
     ·exact ⟨2*i1,2*j1,by omega,a1,b1⟩
     ·exact ⟨2*i1,2*j1+1,by omega,a1,b2⟩
     ·exact ⟨2*i1+1,2*j1,by omega,a2,b1⟩
     ·exact ⟨2*i1+1,2*j1+1,by omega,a2,b2⟩
    have step:∀ (c:Str) (hc:c="q"\/c="r") (D:Ends) (H2:Hp) (us:List V) (rs:List (Str×V)) (tt:Nat),H2 R=some (.lst us)->ie H2 us (bh rs)->ju H2 (dbl ns) WW rs->bz K H0 H2 p tt->Sm p p H H2->us.length<=30->tt+20 < 900000->
      (∀ (gq:List V) (v':V) (H3:Hp),H3 R=some (.lst gq)->ie H3 gq (bh (rs++[(nm++c,v')]))->ju H3 (dbl ns) WW (rs++[(nm++c,v')])->gq.length=us.length+1->bz K H0 H3 p (tt+20)->Sm p p H H3->Tk H2 H3->(∃ h',HV H3 v' h'/\qj hd h')->D.nx [some (.ref p),some (.ref a),some (.ref R),some (.str nm),some hv] H3)->
      GV (EZ K "list" Kz (tV 2) (ik (ET (ik (ko G_ (tV 3) (tC (V.str c))) (ik (C8 (I_ K) [] E0 (ik (tV 0) (ik (tV 4) xu))) xu))) xu)) D [some (.ref p),some (.ref a),some (.ref R),some (.str nm),some hv] H2:=by
     intro c hc D H2 us rs tt z1 z2 z3 z4 z5 z6 z7 kk
     have sd:c.length=1:=by rcases hc with rfl | rfl<;>rfl
     refine ⟨.inl ⟨rfl,_,ak.of z1⟩,⟨by omega,?_⟩⟩
     refine ⟨H0,p,hv,hd,tt,ns,rfl,z4,z7,r3.tk (hn.ts z5),hok,h8,Ge,fun v' h' H3 C6 HA yk VX kg gu=>⟨(show 2<=sizeLine by decide),fun cc BJ=>?_⟩⟩
     have g3:=gu _ _ z1 z_ z_
     have s4:=aa.upd BJ (.tup [.str (nm++c),v'])
     have f4:upd H3 cc (.tup [.str (nm++c),v']) cc=some (.tup [.str (nm++c),v']):=aA
     have g4:=s4 _ _ g3
     have iz:=kg.same s4
     have t_:=(z5.trans gu).trans s4.sm (p:=p) (w:=p)
     have zz:Tk H2 (upd H3 cc (.tup [.str (nm++c),v'])):=(z4.ts gu).trans s4.ts
     have Jg:=C6.tk s4.ts
     dsimp only
     generalize upd H3 cc (.tup [.str (nm++c),v'])=H4 at s4 f4 g4 iz t_ zz Jg ⊢
     have ow:Tk H4 (upd H4 R (.lst (us++[.ref cc]))):=Tk.refl.set g4 (fun _ z=>nomatch z)
     refine ⟨R,us,.ref cc,rfl,rfl,g4,by omega,kk (us++[.ref cc]) v' _ aA (hV (z2.ts (zz.trans ow)) (ow _ _ f4)) (qD (z3.tk (zz.trans ow)) (cI.mpr ⟨nm,Je,by rcases hc with rfl | rfl<;>simp⟩) ⟨h',Jg.tk ow,HA,VV c h' hc yk,VX⟩) (by simp) (iz.put z_ fR) (t_.upd hR) (zz.trans ow) ⟨h',Jg.tk ow,yk⟩⟩
    refine step "q" (.inl rfl) _ H1 us rs _ q1 q2 q4 q5 q6 (by omega) (by omega) (fun Fq v1 H2 a1 a2 a3 a4 a5 a6 a7 a8=>?_)
    refine step "r" (.inr rfl) _ H2 Fq _ _ a1 a2 a3 a5 a6 (by omega) (by omega) (fun Ay v2 H3 b1 b2 b3 b4 b5 b6 b7 b8=>?_)
    refine ⟨_,_,Ay,rs++[(nm++"q",v1)]++[(nm++"r",v2)],rfl,b1,b2,?_,b3,b5.mono (by omega),b6,?_⟩
    rotate_left
    ·rw [Ni]
     intro r hr c hc
     rcases List.mem_append.mp hr with hr | hr
     ·obtain ⟨v,h,z1,z2,z3⟩:=q7 r hr c hc
      exact ⟨v,h,List.mem_append.mpr (.inl (List.mem_append.mpr (.inl z1))),z2.tk (a7.trans b7),z3⟩
     ·rw [List.mem_singleton.mp hr]
      rcases hc with rfl | rfl
      ·obtain ⟨h,z2,z3⟩:=a8
       exact ⟨v1,h,by simp,z2.tk b7,z3⟩
      ·obtain ⟨h,z2,z3⟩:=b8
       exact ⟨v2,h,by simp,z2,z3⟩
    rw [Gi,yC,Qm,Qm,q3]
    simp
   ·rintro σ' H1 z0;refine hdn fun Gz9 zG9=>?_;obtain ⟨v3,v4,us,rs,rfl,q1,q2,q3,q4,q5,q6,q7⟩:=z0;refine zG9 ?_
    rw [qb,Qo] at q7
    have e:(rows.map (·.1)).take xs.length=rows.map (·.1):=by rw [qb,<- Ql (f:=fun r:ae=>r.1),Qo]
    rw [e] at q3
    exact c_ _ _ ⟨v3,v4,us,rs,rfl,q1,q2,q3,q4,q5.mono (by omega),q6,q7⟩
  ·rintro σ' H1 z0;refine hdn fun Gz9 zG9=>?_;obtain ⟨v3,v4,us,rs,rfl,q1,q2,q3,q4,q5,q6,q7⟩:=z0;refine zG9 ?_
   have Lg:=nO ns
   have VT:rs.length=2*ns.length:=by
    have h1:=congrArg List.length q3
    rw [nO,Ql,Ql] at h1
    omega
   have Jf:us.length=rs.length:=by have:=q2.1;simpa using this
   have pos:=rt.pos
   refine ⟨H0,p,R,us,_,rfl,q5,by omega,.inl (ak.of q1),by omega,fun L2 ys H5 ML IM IP nc gn=>⟨L2,ys,rfl,.inl ⟨ak.of IM,fun b hb=>?_⟩⟩⟩
   have s6:=aa.upd hb (.tup ys)
   have ow:=(q5.ts gn).trans s6.ts
   obtain ⟨rs',pr,pa⟩:=kT (q2.ts ow) IP
   obtain ⟨dc,fc⟩:=RT.of aA pa ((pr.map _).trans (by rw [q3];exact yB rt.nm)) (VN rt.nd h8) VS (by omega) (by omega) ((q4.tk ow).perm fun r hr=>pr.mem_iff.mp hr)
   exact k b _ dc _ fc (xD fc pa ((q7.tk ow).sub fun x hx=>pr.mem_iff.mpr hx)) ((nc.same s6).mono (by omega)) ((q6.trans gn).trans s6.sm)
theorem VY {rb:Addr} {xs:List V} {rows:List ae} {v:V} {h':Hd} (rt:RT H a xs rows ns ws) (hi:i < rows.length) (tk:Tk H H') (e:H' b=some (.tup (xs.set i (.ref rb)))) (er:H' rb=some (.tup [.str rows[i].1,v])) (hv:HV H' v h') (ok:h'.ok ns) (ah:Aq ns rows[i].1 h'.nx) (ww:∀ z∈h'.Ao,z∈ws):
  RT H' b (xs.set i (.ref rb)) (rows.set i (rows[i].1,h')) ns ws:=by
 have hl:=rt.rv.len
 have nm:(rows.set i (rows[i].1,h')).map (·.1)=rows.map (·.1):=by
  rw [List.map_set]
  refine List.ext_getElem (by simp) fun j h1 h2=>?_
  rw [List.getElem_set]
  split
  ·next e=>subst e;simp
  ·rfl
 have mem:∀ r∈rows.set i (rows[i].1,h'),r∈rows\/r=(rows[i].1,h'):=fun r hr=>List.mem_or_eq_of_mem_set hr
 refine ⟨e,⟨by simp [hl],fun j h1 h2=>?_⟩,by rw [nm];exact rt.nm,rt.nd,fun r hr=>?_,rt.wd,fun r hr=>?_,fun r hr=>?_,rt.pos,rt.few⟩
 ·rw [List.length_set] at h1 h2
  rw [List.getElem_set,List.getElem_set]
  by_cases qo:i=j
  ·subst qo
   rw [if_pos rfl,if_pos rfl]
   exact ⟨rb,v,rfl,er,hv⟩
  ·rw [if_neg qo,if_neg qo]
   obtain ⟨b',v',q1,q2,q3⟩:=rt.rv.at_ j h1 h2
   exact ⟨b',v',q1,tk _ _ q2,q3.tk tk⟩
 ·rcases mem r hr with h | rfl
  ·exact rt.ok r h
  ·exact ⟨(rt.ok _ (Qj hi)).1,ok⟩
 ·rcases mem r hr with h | rfl
  ·exact rt.ah r h
  ·exact ah
 ·rcases mem r hr with h | rfl
  ·exact rt.ww r h
  ·exact ww
theorem zR {xs:List V} (h:i < xs.length) (v:V):(xs.take i++[v])++xs.drop (i+1)=xs.set i v:=by
 rw [List.append_assoc,List.set_eq_take_append_cons_drop,if_pos h];rfl
def Nj (K:Q0):Sp:=fun vs H Q _=>∃ (H0:Hp) (p a:Addr) (t:Nat) (xs:List V) (rows:List ae) (ns:List Str),vs=[.ref p,.ref a]/\bz K H0 H p t/\t+30 < 900000/\RT H a xs rows ns WW/\
 ∀ (b:Addr) (ys:List V) (dc:List ae) (H':Hp),RT H' b ys dc ns WW->bz K H0 H' p (t+30)->Sm p p H H'->Q (.ref b) H'
set_option maxHeartbeats 2000000 in
theorem pJ (T:Txt K mg w):az P w K mg base 5 "_law_bent" ["_law_pen","_law_told"] (Nj K):=by
 have aM:az P w K mg base 2 "_law_next" ["_law_pen","_law_many"] (yl K):=bI T
 have gR:az P w K mg base 4 "_law_head" ["_law_pen","_law_names","_law_ahead"] (IE K):=j7 T
 refine T.rY.fz dN (fun vs H Q E h=>?_) (fun f ay A outer s H vs Q E hr h=>?_)
 ·refine hdn fun Gz9 zG9=>?_;obtain ⟨H0,p,a,t,xs,rows,ns,rfl,_⟩:=h;refine zG9 ?_
  rfl
 ·refine hdn fun Gz9 zG9=>?_;obtain ⟨H0,p,a,t,xs,rows,ns,rfl,hn,ht,rt,k⟩:=h;refine zG9 ?_
  have hu:=aX hr
  have fq:=Qx (aX hr)
  have hsz:sizeLine=16777216:=QL
  have Ar:=rt.rl
  have qb:=rt.rv.len
  have pos:=rt.pos
  have few:=rt.few
  refine ⟨_,(aD (aP (i:=2) dN.nd rfl (Or.inl rfl) (bA aM (hr.mono (by decide)) (aB (zv 0) (aU (cL (bP K) (by rfl) T.wx PySem.boot_len (aB (zv 1) aC)) aC))))
   (aD (R6 (i:=3) (own:=["_law_name","_law_here"]) (idx:=[]) (N':=["_law_name","_law_here"]) (eA (be eO) (["_law_pen","_law_told","_law_at","_law_names","_law_row"]:List Str) (by decide+kernel)) rfl (qF K (zv 1)) (fun _ _ _ _ _ _=>(cZ K (n:=2) rfl (aN (aL (i:=0) (show List.Nodup (["_law_name","_law_here"]:List Str) by decide+kernel) rfl (Or.inl rfl)) (aN (aL (i:=1) (show List.Nodup (["_law_name","_law_here"]:List Str) by decide+kernel) rfl (Or.inl rfl)) cA)))) (fun _ _ _ _ _ _=>fZ) (fun _ _ _ _ _ _=>(zv 0)) dN.nd rfl rfl)
   (aD (aP (i:=4) dN.nd rfl (Or.inl rfl) (bG (aI (bE (bD K) (zv 3) (zv 2) (fun _ _=>rfl)) (aU (bA gR (hr.mono (by decide)) (aB (zv 0) (aB (zv 3) (aE aH aC)))) aC))))
   (aG (aQ (bT (nJ K) (bT (nJ K) (dL (uV K) (zv 1) dP (dR (zv 2))) (bG (aB (zv 4) aC))) (dL (uV K) (zv 1) (dR (bT bM (zv 2) aH)) dP))))))),?_⟩
  refine aJ (.inl ⟨_,.inr (af.of rt.at_),H0,p,_,t,rfl,hn,⟨by omega,by omega⟩,by omega,fun r H1 r0 r1 hn1 ql=>?_⟩)
  obtain ⟨i,rfl⟩:∃ i:Nat,r=(i:Int):=⟨r.toNat,by omega⟩
  have ia:i < rows.length:=by omega
  have yo:=rt.tk (hn.ts ql)
  refine .inr ⟨⟨xs,af.of yo.at_⟩,fun N hN=>?_⟩
  have XR:N≠p:=hn1.ne hN
  have fN:=hn1.free hN
  refine kJ (dA xs) (fun j τ H'=>∃ (v0 v1:Option V),τ=[v0,v1]/\H' N=some (.lst (((rows.map (·.1)).take j).map V.str))/\aa H1 H')
   ⟨none,none,rfl,aA,aa.upd hN _⟩ (by rintro j τ H' _ ⟨_,_,_,_,s⟩;exact af.of (s _ _ yo.at_)) ?_ ?_
  ·rintro j τ H2 hj ⟨v0,v1,rfl,q1,q2⟩
   have Nk:j < rows.length:=by omega
   obtain ⟨rb,hv,Fg,r2,r3⟩:=yo.rv.at_ j hj Nk
   have eg:xs.getD j .ai=.ref rb:=by rw [Qb,Qa hj,Fg];rfl
   rw [eg]
   have Gi:(rows.map (·.1)).take (j+1)=(rows.map (·.1)).take j++[rows[j].1]:=by
    rw [Qs,Qq,Qa Nk];rfl
   refine fJ (q2 _ _ r2) ⟨_,q1,by simp;omega,_,_,rfl,by rw [aA,Gi,Qm];rfl,q2.put hN⟩
  ·rintro τ H2 ⟨v0,v1,rfl,q1,q2⟩
   have e:(rows.map (·.1)).take xs.length=rows.map (·.1):=by rw [qb,<- Ql (f:=fun r:ae=>r.1),Qo]
   rw [e] at q1
   have hn2:=hn1.same q2
   have wz:∀ n∈rows.map (·.1),n∈ns:=fun n hn=>rt.nm.mem_iff.mp hn
   have tn:lu H2 N (rows.map (·.1)):=⟨q1,by intro z;rw [List.map_eq_nil_iff] at z;rw [z] at ia;simp at ia,by simp;omega,fun z hz=>rt.wd z (wz z hz)⟩
   have F6:(rows.map (·.1))[i]? =some rows[i].1:=by rw [Qq,Qa ia];rfl
   refine ⟨_,.str rows[i].1,.inl (ak.of q1),d6 (by rw [Qq,F6];rfl),H0,p,N,0,_,_,rfl,hn2,by omega,tn,fun z hz=>?_,by omega,fun v H3 hg kg gu=>⟨(show 2<=sizeLine by decide),fun rb VZ=>?_⟩⟩
   ·obtain ⟨r,hr,rfl⟩:=List.mem_map.mp hz
    exact (rt.ok r hr).1
   have s4:=aa.upd VZ (.tup [.str rows[i].1,v])
   have f4:upd H3 rb (.tup [.str rows[i].1,v]) rb=some (.tup [.str rows[i].1,v]):=aA
   have iz:=kg.same s4
   have zz:Tk H1 (upd H3 rb (.tup [.str rows[i].1,v])):=(q2.ts.trans (hn2.ts gu)).trans s4.ts
   have t_:Sm p p H (upd H3 rb (.tup [.str rows[i].1,v])):=((ql.trans q2.sm).trans gu).trans s4.sm
   have Nl:=hg.tk s4.ts
   dsimp only
   generalize upd H3 rb (.tup [.str rows[i].1,v])=H4 at s4 f4 iz zz t_ Nl ⊢
   have By:=yo.tk zz
   have V0:i < xs.length:=by omega
   refine ⟨(i:Int),rfl,Or.inr (Or.inr ⟨a,xs,rfl,af.of By.at_,?_,fun N1 V1=>?_⟩)⟩
   ·rw [HT.eK];rintro ⟨_,z⟩;omega
   rw [mR]
   have s5:=aa.upd V1 (.tup (xs.take i))
   have f5:upd H4 N1 (.tup (xs.take i)) N1=some (.tup (xs.take i)):=aA
   generalize upd H4 N1 (.tup (xs.take i))=H5 at s5 f5 ⊢
   refine ⟨(show 1<=sizeLine by decide),fun N2 Ej=>?_⟩
   have s6:=aa.upd Ej (.tup [.ref rb])
   have f6:upd H5 N2 (.tup [.ref rb]) N2=some (.tup [.ref rb]):=aA
   dsimp only
   generalize upd H5 N2 (.tup [.ref rb])=H6 at s6 f6 ⊢
   refine Ic (s6 _ _ f5) f6 (by simp;omega) fun P1 H7 s7 e7=>?_
   have Gj:=(s5.trans s6).trans s7
   refine ⟨(i:Int)+1,rfl,Or.inr (Or.inr ⟨a,xs,rfl,af.of (Gj _ _ By.at_),?_,fun N3 Jc=>?_⟩)⟩
   ·rw [show ((i:Int)+1)=((i+1:Nat):Int) by omega,HT.eK];rintro ⟨z,_⟩;omega
   rw [show ((i:Int)+1)=((i+1:Nat):Int) by omega,i9]
   have s8:=aa.upd Jc (.tup (xs.drop (i+1)))
   have f8:upd H7 N3 (.tup (xs.drop (i+1))) N3=some (.tup (xs.drop (i+1))):=aA
   generalize upd H7 N3 (.tup (xs.drop (i+1)))=H8 at s8 f8 ⊢
   refine Ic (s8 _ _ e7) f8 (by simp;omega) fun P2 H9 s9 e9=>?_
   rw [zR V0] at e9
   have El:=(Gj.trans s8).trans s9
   obtain ⟨h',g1,g2,g3,g4⟩:=(Nl.tk El.ts).ex
   have c_:h'.nx=none:=by
    cases ez:h'.nx with
    | none=>rfl
    | some y=>obtain ⟨j,hj,_⟩:=g3 y ez;omega
   have V2:h'.ok ns:=by
    cases h' with
    | one s=>exact g2
    | as y=>cases c_
    | way x y=>exact ⟨g2.1,g2.2.1,wz _ g2.2.2.1,wz _ g2.2.2.2⟩
    | prs s ps=>exact ⟨g2.1,fun q hq=>⟨(g2.2.1 q hq).1,(g2.2.1 q hq).2.1,wz _ (g2.2.1 q hq).2.2⟩,g2.2.2.1,g2.2.2.2⟩
   exact k P2 _ _ H9 (VY By ia El.ts e9 (El _ _ f4) g1 V2 (by rw [c_];intro y z;cases z) g4) ((iz.same El).mono (by omega)) (t_.trans El.sm)
structure AM (K:Q0) (mg:Str->Option Value) (H:Hp) (n1 n2:Addr) (r1 r2:List ae) (m1 m2:List Str):Prop where
 v1:Cv K mg H n1 r1 m1
 v2:Cv K mg H n2 r2 m2
 g1:eu r1 m1
 g2:eu r2 m2
theorem AM.same {H H':Hp} {n1 n2:Addr} {r1 r2:List ae} {m1 m2:List Str} (h:AM K mg H n1 n2 r1 r2 m1 m2) (s:aa H H'):AM K mg H' n1 n2 r1 r2 m1 m2:=⟨h.v1.same s,h.v2.same s,h.g1,h.g2⟩
def Nm:Sp:=fun vs H Q _=>∃ (W:Addr) (i:Nat) (ts:List V) (tr:List (Option (Nat×List Str))),vs=[.ref W,.int (i:Int)]/\H W=some (.lst ts)/\ur H ts tr/\FO tr/\i < tr.length/\tr.length<=1000/\
 ∀ (r:Addr) (us:List V) (H':Hp),aa H H'->H' r=some (.tup us)->SV H' us (gj tr i i)->Q (.ref r) H'
theorem mV (T:Txt K mg w):az P w K mg base 1 "road_back" ["trail","at"] Nm:=by
 refine T.oX.fz d8 (fun vs H Q E h=>?_) (fun f ay A outer s H vs Q E hr h=>?_)
 ·obtain ⟨W,i,ts,tr,rfl,_⟩:=h
  rfl
 ·refine hdn fun Gz9 zG9=>?_;obtain ⟨W,i,ts,tr,rfl,hW,tv,tok,hi,hl,k⟩:=h;refine zG9 ?_
  have hu:=aX hr
  have fq:=Qx (aX hr)
  have hsz:sizeLine=16777216:=QL
  have XS:=tv.len
  refine ⟨_,(aD (aP (i:=2) d8.nd rfl (Or.inl rfl) (d5 aC))
   (aD (fF PassesOwn.never (aY yT (bE (bD K) (zv 0) (zv 1) (fun _ _=>rfl)) mG (gg _)) (aD (lR (bE (bD K) (zv 0) (zv 1) (fun _ _=>rfl)) (cZ K (n:=2) rfl (aN (aL (i:=1) d8.nd rfl (Or.inl rfl)) (aN (aL (i:=3) d8.nd rfl (Or.inl rfl)) cA))))
   (aG (eZ (mW K QH QJ QK bZ (zv 2) (aB (zv 3) aC))))))
   (aG (aQ (cJ (cN K) (by rfl) T.fB QG (aI (UZ K (zv 2) (R0 Pn aH)) aC)))))),?_⟩
  refine aJ ⟨(show 0<=sizeLine by decide),fun L hL=>?_⟩
  refine aO (fun σ' H'=>∃ (v3:Option V) (j:Nat) (us:List V) (ss:List (List Str)),σ'=[some (.ref W),some (.int (j:Int)),some (.ref L),v3]/\aa H H'/\H' L=some (.lst us)/\SV H' us ss/\ss.length<=1000/\gj tr i i=ss.reverse) ?_ ?_
  ·intro nx c_
   refine ⟨fun m σ' H'=>∃ (v3:Option V) (j:Nat) (us:List V) (ss:List (List Str)),σ'=[some (.ref W),some (.int (j:Int)),some (.ref L),v3]/\aa H H'/\H' L=some (.lst us)/\SV H' us ss/\j<=m/\m+ss.length<=i/\gj tr i i=gj tr m j++ss.reverse,⟨i,none,i,[],[],rfl,aa.upd hL _,aA,SV.nil,Qy _,by simp,by simp⟩,?_⟩
   rintro m σ' H1 z0;refine hdn fun Gz9 zG9=>?_;obtain ⟨v3,j,us,ss,rfl,s1,e1,sv,hj,hm,he⟩:=z0;refine zG9 ?_
   have Gk:j < tr.length:=by omega
   have CM:=tv.at_ j (by omega) Gk
   have AG:jj ts (j:Int)=some (ts[j]'(by omega)):=d6 (Qa (by omega))
   refine ⟨_,_,.inl (ak.of (s1 _ _ hW)),AG,?_⟩
   cases ho:tr[j] with
   | none=>
    rw [ho] at CM
    have CM:ts[j]'(by omega)=.ai:=CM
    rw [CM]
    refine ⟨_,rfl,c_ _ _ ⟨v3,j,us,ss,rfl,s1,e1,sv,by omega,?_⟩⟩
    rw [he]
    have:gj tr m j=[]:=by
     cases m with
     | zero=>rfl
     | succ m=>unfold gj;rw [Qa Gk,ho]
    rw [this,List.nil_append]
   | some q=>
    rw [ho] at CM
    obtain ⟨b,c,q1,q2,q3⟩:=CM
    rw [q1]
    have XT:=tok j q.1 q.2 (by rw [Qa Gk,ho])
    have Jf:=sv.len
    refine ⟨_,rfl,yc ?_⟩
    refine ⟨fun σ' H'=>∃ m',m' < m/\∃ (v3:Option V) (j:Nat) (us:List V) (ss:List (List Str)),σ'=[some (.ref W),some (.int (j:Int)),some (.ref L),v3]/\aa H H'/\H' L=some (.lst us)/\SV H' us ss/\j<=m'/\m'+ss.length<=i/\gj tr i i=gj tr m' j++ss.reverse,fun _ _ h=>h,?_⟩
    refine ⟨_,_,.inl (ak.of (s1 _ _ hW)),AG,?_⟩
    rw [q1]
    refine fJ (s1 _ _ q2) ?_
    refine ⟨.inl ⟨rfl,_,ak.of e1⟩,L,us,.ref c,rfl,rfl,e1,by omega,m - 1,by omega,_,q.1,us++[.ref c],ss++[q.2],rfl,s1.put hL,aA,?_,by omega,by simp;omega,?_⟩
    ·exact (sv.snoc (q3.same s1)).keep fun b ys r=>r.put e1 (fun _ z=>nomatch z) (fun _ _ z=>nomatch z)
    ·rw [he]
     cases m with
     | zero=>omega
     | succ m=>
      have:gj tr (m+1) j=gj tr m q.1++[q.2]:=by
       show (match tr[j]? with | some (some (j,s))=>gj tr m j++[s] | _=>[])=_
       rw [Qa Gk,ho]
      rw [this,Nat.add_sub_cancel,List.reverse_append,List.append_assoc]
      rfl
  ·rintro σ' H1 z0;refine hdn fun Gz9 zG9=>?_;obtain ⟨v3,j,us,ss,rfl,s1,e1,sv,hl,he⟩:=z0;refine zG9 ?_
   have Jf:=sv.len
   refine ⟨_,rfl,rfl,L,us,rfl,ak.of e1,fun p hp=>?_⟩
   refine ⟨p,us.reverse,rfl,.inl ⟨ak.of aA,fun r hr=>?_⟩⟩
   have s2:=(aa.upd hp (.lst us.reverse)).trans (aa.upd hr (.tup us.reverse))
   refine k r _ _ (s1.trans s2) aA ?_
   rw [he]
   exact (sv.same s2).rev
def Nn:Sp:=fun vs H Q _=>∃ (D b:Addr) (U:List Tg) (f:AF) (n:Nat) (x:Tg),vs=[.ref D,.ref b]/\gb H D U f n/\jz f n/\U.length<=100/\ao H b ((bj x).map kV)/\x∈U/\
 ∀ (b':Addr) (y:Tg) (f':AF) (H':Hp),Sx D H H'->gb H' D U f' n->jz f' n->ao H' b' ((bj y).map kV)->y∈U->bx f' x y->(∀ z r,bx f z r->bx f' z r)->Q (.ref b') H'
set_option maxHeartbeats 1000000 in
theorem vH (T:Txt K mg w):az P w K mg base 1 "top_of" ["above","thing"] Nn:=by
 refine T.x9.fz j3 (fun vs H Q E h=>?_) (fun f ay A outer s H vs Q E hr h=>?_)
 ·refine hdn fun Gz9 zG9=>?_;obtain ⟨D,b,U,f,n,x,rfl,_⟩:=h;refine zG9 ?_
  rfl
 ·refine hdn fun Gz9 zG9=>?_;obtain ⟨D,b,U,f,n,x,rfl,ab,ac,hU,hb,hx,k⟩:=h;refine zG9 ?_
  have hu:=aX hr
  have hsz:sizeLine=16777216:=QL
  refine ⟨_,(aD (fF PassesOwn.never (aY (xX hu) (zv 1) (zv 0) rfl) (aD (aP (i:=2) j3.nd rfl (Or.inl rfl) (bL hu (zv 0) (zv 1) (fun _ _=>rfl)))
   (aD (cH (aY (xX hu) (zv 2) (zv 0) rfl) (aG (rN hu (zv 0) (zv 1) (bL hu (zv 0) (zv 2) (fun _ _=>rfl)) rfl)) bC)
   (aG (aP (i:=1) j3.nd rfl (Or.inl rfl) (zv 2))))))
   (aG (aQ (zv 1)))),?_⟩
  refine aO (fun σ' H'=>∃ (v2:Option V) (b':Addr) (y:Tg) (f':AF),σ'=[some (.ref D),some (.ref b'),v2]/\Sx D H H'/\gb H' D U f' n/\jz f' n/\ao H' b' ((bj y).map kV)/\y∈U/\bx f' x y/\∀ z r,bx f z r->bx f' z r) ?_ ?_
  ·intro nx c_
   refine ⟨fun m σ' H'=>∃ (v2:Option V) (b':Addr) (y:Tg) (f':AF) (ρ:Tg->Nat),σ'=[some (.ref D),some (.ref b'),v2]/\Sx D H H'/\gb H' D U f' n/\(∀ x y,f' x=some y->ρ x < ρ y)/\(∀ x,ρ x<=n)/\ao H' b' ((bj y).map kV)/\y∈U/\(∀ r,bx f' y r->bx f' x r)/\(∀ z r,bx f z r->bx f' z r)/\m=n - ρ y,?_,?_⟩
   ·obtain ⟨ρ,p1,p2⟩:=ac
    exact ⟨_,none,b,x,f,ρ,rfl,fun b o _ e=>e,ab,p1,p2,hb,hx,fun r h=>h,fun z r h=>h,rfl⟩
   rintro m σ' H1 ⟨v2,b1,y,f1,ρ,rfl,s1,yq,p1,p2,CH,hy,Jh,Ji,rfl⟩
   obtain ⟨kvs,g1,g2,g3,g4,g5⟩:=yq.ex
   refine ⟨D,br kvs (bj y),rfl,.inr ⟨kvs,bj y,b1,.inl g1,rfl,CH,rfl⟩,_,rfl,?_⟩
   rcases g5 y with ⟨q1,q2⟩ | ⟨c,u,q1,q2,q3,q4⟩
   ·rw [q1]
    exact mh (c_ _ _ ⟨v2,b1,y,f1,rfl,s1,yq,⟨ρ,p1,p2⟩,CH,hy,Jh _ (.top q2),Ji⟩)
   ·rw [q1]
    refine yc ?_
    have bc:=p1 _ _ q3
    have XU:=p2 u
    refine ⟨fun σ' H'=>∃ m',m' < n - ρ y/\∃ (v2:Option V) (b':Addr) (y:Tg) (f':AF) (ρ:Tg->Nat),σ'=[some (.ref D),some (.ref b'),v2]/\Sx D H H'/\gb H' D U f' n/\(∀ x y,f' x=some y->ρ x < ρ y)/\(∀ x,ρ x<=n)/\ao H' b' ((bj y).map kV)/\y∈U/\(∀ r,bx f' y r->bx f' x r)/\(∀ z r,bx f z r->bx f' z r)/\m'=n - ρ y,fun _ _ h=>h,?_⟩
    have lk:fi H1 D (.ref b1) (some (.ref c)):=by rw [<- q1];exact .inr ⟨kvs,bj y,b1,.inl g1,rfl,CH,rfl⟩
    refine aJ ⟨D,_,rfl,lk,?_⟩
    refine aO (fun σ' H'=>∃ (f':AF),σ'=[some (.ref D),some (.ref b1),some (.ref c)]/\Sx D H H'/\gb H' D U f' n/\(∀ x y,f' x=some y->ρ x < ρ y)/\ao H' c ((bj u).map kV)/\(∀ r,bx f' u r->bx f' x r)/\(∀ z r,bx f z r->bx f' z r)) ?_ ?_
    ·intro Np AN
     refine ⟨D,br kvs (bj u),rfl,.inr ⟨kvs,bj u,c,.inl g1,rfl,q2,rfl⟩,_,rfl,?_⟩
     rcases g5 u with ⟨w1,w2⟩ | ⟨d,v,w1,w2,w3,w4⟩
     ·rw [w1]
      exact mh (AN _ _ ⟨f1,rfl,s1,yq,p1,q2,fun r h=>Jh r (.up q3 h),Ji⟩)
     ·rw [w1]
      have hn:=yq.few
      have V3:fi H1 D (.ref c) (some (.ref d)):=by rw [<- w1];exact .inr ⟨kvs,bj u,c,.inl g1,rfl,q2,rfl⟩
      obtain ⟨a1,a2⟩:=jz.short ⟨ρ,p1,p2⟩ q3 w3
      refine yc ⟨D,_,rfl,V3,D,_,rfl,.inr ⟨kvs,bj y,b1,g1,rfl,CH,by omega,rfl⟩,AN _ _ ⟨iw f1 y v,rfl,s1.trans Sx.upd,yq.short g1 q3 w4 w2,fun z z' h=>?_,iK g1 _ _ q2,fun r h=>?_,fun z r h=>a2 z r (Ji z r h)⟩⟩
      ·unfold iw at h
       split at h
       ·rename_i hz
        cases h
        rw [hz]
        exact Nat.lt_trans (p1 _ _ q3) (p1 _ _ w3)
       ·exact p1 _ _ h
      ·obtain ⟨r0,h0⟩:=gF ⟨ρ,p1,p2⟩ u
       have:r=r0:=h.wm (a2 _ _ h0)
       rw [this]
       exact a2 _ _ (Jh _ (.up q3 h0))
    ·rintro σ' H2 z0;refine hdn fun Gz9 zG9=>?_;obtain ⟨f2,rfl,s2,CN,V4,Gm,e1,e2⟩:=z0;refine zG9 ?_
     exact ⟨n - ρ u,by omega,_,c,u,f2,ρ,rfl,s2,CN,V4,p2,Gm,q4,e1,e2,rfl⟩
  ·rintro σ' H1 z0;refine hdn fun Gz9 zG9=>?_;obtain ⟨v2,b',y,f',rfl,s1,yq,Jj,rd,hy,h1,h2⟩:=z0;refine zG9 ?_
   exact k b' y f' H1 s1 yq Jj rd hy h1 h2
def Nq:Sp:=fun vs H Q _=>∃ (D b c:Addr) (U:List Tg) (f:AF) (n:Nat) (x y:Tg),vs=[.ref D,.ref b,.ref c]/\gb H D U f n/\jz f n/\U.length<=100/\ao H b ((bj x).map kV)/\ao H c ((bj y).map kV)/\x∈U/\y∈U/\
 (∀ (r:Tg) (f':AF) (H':Hp),Sx D H H'->gb H' D U f' n->jz f' n->bx f' x r->bx f' y r->(∀ z r,bx f z r->bx f' z r)->Q (.bl false) H')/\
 ∀ (r r':Tg) (f':AF) (H':Hp),Sx D H H'->gb H' D U f' (n+1)->jz f' (n+1)->bx f x r->bx f y r'->r≠r'->(∀ z q,bx f z q->bx f' z (if q=r then r' else q))->Q (.bl true) H'
theorem lC (T:Txt K mg w):az P w K mg base 2 "put_in_one" ["above","a","b"] Nq:=by
 have oG:az P w K mg base 1 "top_of" ["above","thing"] Nn:=vH T
 refine T.nB.fz gJ (fun vs H Q E h=>?_) (fun f ay A outer s H vs Q E hr h=>?_)
 ·refine hdn fun Gz9 zG9=>?_;obtain ⟨D,b,c,U,f,n,x,y,rfl,_⟩:=h;refine zG9 ?_
  rfl
 ·refine hdn fun Gz9 zG9=>?_;obtain ⟨D,b,c,U,f,n,x,y,rfl,ab,ac,hU,hb,hc,hx,hy,k1,k2⟩:=h;refine zG9 ?_
  have hu:=aX hr
  have BA:=jT hr
  have hsz:sizeLine=16777216:=QL
  refine ⟨_,(aD (xA (i:=3) (j:=4) rfl gJ.nd rfl rfl (by decide) rfl rfl (aU (bA oG (hr.mono (by decide)) (aB (zv 0) (aB (zv 1) aC))) (aU (bA oG (hr.mono (by decide)) (aB (zv 0) (aB (zv 2) aC))) aC)) rfl)
   (aD (cH (aY (tN BA) (zv 3) (zv 4) (gg _)) (aG (aQ kC)) bC)
   (aD (rN hu (zv 0) (zv 3) (zv 4) rfl)
   (aG (aQ kC))))),?_⟩
  refine ⟨D,b,U,f,n,x,rfl,ab,ac,hU,hb,hx,fun b1 t1 f1 H1 s1 yq Jj V5 Bq yo Gn=>?_⟩
  have ip:ao H1 c ((bj y).map kV):=hc.sx s1 ab
  refine ⟨D,c,U,f1,n,y,rfl,yq,Jj,hU,ip,hy,fun b2 t2 f2 H2 s2 CN Nr Gm Jk fc Em=>⟨_,_,rfl,?_⟩⟩
  have Nt:ao H2 b1 ((bj t1).map kV):=V5.sx s2 yq
  have Gp:=Em _ _ yo
  dsimp only
  refine ⟨1,1,_,_,b1,b2,by decide,rfl,rfl,L1 Nt,L1 Gm,fun bo jo=>⟨_,rfl,?_⟩⟩
  rw [UI] at jo
  rw [QE]
  refine ic (fun cc=>?_) (fun cc=>?_)
  ·have e:=jo.mp cc
   exact k1 t1 f2 H2 (s1.trans s2) CN Nr Gp (by rw [e];exact fc) fun z r h=>Em _ _ (Gn _ _ h)
  ·have ne:t1≠t2:=fun e=>by rw [jo.mpr e] at cc;cases cc
   obtain ⟨kvs,g1,g2,_⟩:=CN.ex
   have hn:=CN.few
   obtain ⟨a1,a2⟩:=Nr.join Gp.root fc.root ne
   refine mC ?_
   refine ⟨D,_,rfl,.inr ⟨kvs,bj t1,b1,g1,rfl,Nt,by omega,rfl⟩,?_⟩
   obtain ⟨r0,h0⟩:=gF ac x
   obtain ⟨Nu,Nv⟩:=gF ac y
   have e1:r0=t1:=(Em _ _ (Gn _ _ h0)).wm Gp
   have e2:Nu=t2:=(Em _ _ (Gn _ _ Nv)).wm fc
   refine k2 r0 Nu (iw f2 t1 t2) _ ((s1.trans s2).trans Sx.upd) (CN.join g1 Gp.root Bq Jk Gm) a1 h0 Nv (by rw [e1,e2];exact ne) fun z q h=>?_
   rw [e1,e2]
   exact a2 z q (Em _ _ (Gn _ _ h))
def Jl (K:Q0) (mg:Str->Option Value):Sp:=fun vs H Q _=>∃ (n1 n2 b:Addr) (r1 r2:List ae) (m1 m2:List Str) (p:Pr),vs=[.ref n1,.ref n2,.ref b]/\AM K mg H n1 n2 r1 r2 m1 m2/\ao H b ((bj p).map kV)/\mw r1 r2 m1 m2 p/\fh r1 r2 p/\
 ∀ (L:Addr) (us:List V) (H':Hp),H L=none->aa H H'->H' L=some (.lst us)->mz H' us (gm r1 r2 p)->Q (.ref L) H'
set_option maxHeartbeats 1000000 in
theorem fI (T:Txt K mg w):az P w K mg base 1 "pairs_behind" ["left","right","pair"] (Jl K mg):=by
 have cl:=T.s_.2.1
 have na:=T.s_.2.2.1
 refine T.l9.fz cT (fun vs H Q E h=>?_) (fun f ay A outer s H vs Q E hr h=>?_)
 ·refine hdn fun Gz9 zG9=>?_;obtain ⟨n1,n2,b,r1,r2,m1,m2,p,rfl,_⟩:=h;refine zG9 ?_
  rfl
 ·refine hdn fun Gz9 zG9=>?_;obtain ⟨n1,n2,b,r1,r2,m1,m2,p,rfl,nt,hb,po,me,k⟩:=h;refine zG9 ?_
  have hu:=aX hr
  have fq:=Qx (aX hr)
  have hsz:sizeLine=16777216:=QL
  refine hdn fun Gz9 zG9=>?_;obtain ⟨dx,fs,d1,d3,d4,x0,x1,x2,x3,x4,x5,x6,x7⟩:=nt.v1.at_;refine zG9 ?_
  refine hdn fun Gz9 zG9=>?_;obtain ⟨zw,yr,En,Gq,Gr,y0,y1,y2,y3,y4,y5,y6,y7⟩:=nt.v2.at_;refine zG9 ?_
  obtain ⟨p1,o1,p2,p3⟩:=x7 _ po.a
  obtain ⟨q1,o2,q2,q3⟩:=y7 _ po.b
  have Gs:=LY po.a.2
  have MW:=nt.g1.Ij po.a
  have fw:(dw r1 p.1).length<=10:=by
   have h1:=iE (nt.g1.uo po.a).2
   have h2:=congrArg List.length Gs
   rw [Ql] at h2
   rw [h2];simpa [stH] using h1
  generalize hC:adr mg "Net"=C at x0 y0 cl na
  refine ⟨_,(aD (lR (zv 2) (cZ K (n:=2) rfl (aN (aL (i:=3) cT.nd rfl (Or.inl rfl)) (aN (aL (i:=4) cT.nd rfl (Or.inr rfl)) cA))))
   (aG (aQ (qA (own:=["step","end"]) (idx:=[1,4]) (N':=["step","end","right","b"]) (eA (be cK) (["left","right","pair","a","b"]:List Str) (by decide+kernel)) rfl (tU (bL hu (dS K (zv 0)) (zv 3) (fun _ _=>rfl))) (fun _ _ _ _ _ _=>(cZ K (n:=2) rfl (aN (aL (i:=0) (show List.Nodup (["step","end","right","b"]:List Str) by decide+kernel) rfl (Or.inl rfl)) (aN (aL (i:=1) (show List.Nodup (["step","end","right","b"]:List Str) by decide+kernel) rfl (Or.inl rfl)) cA)))) (fun _ _ _ _ _ _=>fZ) (fun _ _ _ _ _ _=>(bG (aB (zv 0) (bS (bG (aB (zv 1) (aI (bL hu (bL hu (dS K (zv 2)) (zv 3) (fun _ _=>rfl)) (zv 0) (fun _ _=>rfl)) aC))) aC)))))))),?_⟩
  refine yA (af.uq hb) ?_
  refine ⟨n1,C,dx,fs,_,rfl,x0,cl,na "moves" (by simp),x3,d4,_,rfl,p2,p1,wl r1 p.1,o1,rfl,p3,fun L hL=>?_⟩
  have oe:(wl r1 p.1).length=(dw r1 p.1).length:=by simp [wl]
  refine uC (fun i τ H'=>∃ (v0 v1:Option V) (us:List V),τ=[v0,v1,some (.ref n2),some (.str p.2)]/\H' L=some (.lst us)/\us.length=i/\mz H' us (((stH (aj r1 p.1)).take i).map fun s=>(s,fu r1 r2 p s))/\aa H H') ⟨none,none,[],rfl,aA,rfl,mz.nil,aa.upd hL _⟩ (by rintro i τ H' _ ⟨_,_,_,_,_,_,_,s⟩;exact s _ _ p3) ?_ ?_
  ·rintro i τ H1 TT cc hi ⟨v0,v1,us,rfl,z1,z2,z3,z4⟩ V6 rd
   have DU:i < (dw r1 p.1).length:=by omega
   have Nx:i < (stH (aj r1 p.1)).length:=by rw [<- Gs];simpa using DU
   have Ny:(stH (aj r1 p.1))[i]=(dw r1 p.1)[i].1:=by simp only [<- Gs,Qr]
   have Nz:=xU MW (Qj DU)
   have eo:(wl r1 p.1)[i]=((dw r1 p.1)[i].1.map Sum.inr,.str (dw r1 p.1)[i].2):=by simp [wl]
   rw [eo] at rd ⊢
   have Aa:(stH (aj r1 p.1)).take (i+1)=(stH (aj r1 p.1)).take i++[(dw r1 p.1)[i].1]:=by rw [Qs,Qa Nx,Ny];rfl
   have mr:(dw r1 p.1)[i].1∈stH (aj r1 p.1):=by rw [<- Ny];exact Qj Nx
   generalize (dw r1 p.1)[i]=mm at rd Nz Aa mr ⊢
   rw [FI] at rd
   obtain ⟨e2,NB⟩:=gE po.b.2 (show mm.1∈stH (aj r2 p.2) by rw [<- me.2];exact mr)
   have V7:fu r1 r2 p mm.1=(mm.2,e2):=by unfold fu;rw [Nz,NB];rfl
   dsimp only
   have s2:=aa.upd V6 (.tup [.ref cc,.str mm.2])
   generalize upd H1 TT (.tup [.ref cc,.str mm.2])=H2 at s2 ⊢
   have Jm:=z4.trans s2
   have V8:fi H2 q1 (.ref cc) (some (.str e2)):=by
    have:=zF r2 p.2 mm.1
    rw [NB] at this
    exact .inr ⟨_,mm.1.map Sum.inr,cc,.inr ⟨o2,Jm _ _ q3⟩,rfl,by rw [FI];exact rd.same s2,this.symm⟩
   refine ⟨n2,C,zw,yr,_,rfl,Jm _ _ y0,cl,na "moves" (by simp),y3,Gr,_,rfl,q2.same Jm,q1,_,rfl,V8,(show 2<=sizeLine by decide),fun te V9=>⟨(show 2<=sizeLine by decide),fun tc NC=>?_⟩⟩
   have s3:=aa.upd V9 (.tup [.str mm.2,.str e2])
   have e3:upd H2 te (.tup [.str mm.2,.str e2]) te=some (.tup ((bj (fu r1 r2 p mm.1)).map kV)):=by rw [V7];exact aA
   generalize upd H2 te (.tup [.str mm.2,.str e2])=H3 at s3 e3 NC ⊢
   have s4:=aa.upd NC (.tup [.ref cc,.ref te])
   have e4:upd H3 tc (.tup [.ref cc,.ref te]) tc=some (.tup [.ref cc,.ref te]):=aA
   generalize upd H3 tc (.tup [.ref cc,.ref te])=H4 at s4 e4 ⊢
   have Gu:=(s2.trans s3).trans s4
   have Jo:=Gu _ _ z1
   have kr:∀ b ys,ao H4 b ys->ao (upd H4 L (.lst (us++[.ref tc]))) b ys:=fun b ys h=>h.put Jo (fun _ z=>nomatch z) (fun _ _ z=>nomatch z)
   have tk:Tk H4 (upd H4 L (.lst (us++[.ref tc]))):=(Tk.refl).set Jo fun _ z=>nomatch z
   refine ⟨us,Jo,by omega,_,_,us++[.ref tc],rfl,aA,by simp [z2],?_,(z4.trans Gu).put hL⟩
   rw [Aa,Qm]
   exact ((z3.same Gu).keep tk kr).snoc (tk _ _ e4) (kr _ _ (rd.same Gu)) (tk _ _ (s4 _ _ e3))
  ·rintro τ H1 z0;refine hdn fun Gz9 zG9=>?_;obtain ⟨v0,v1,us,rfl,z1,z2,z3,z4⟩:=z0;refine zG9 ?_
   have:(wl r1 p.1).length=(stH (aj r1 p.1)).length:=by rw [oe,<- Gs];simp
   rw [this,Qo] at z3
   exact k L us H1 hL z4 z1 z3
structure w_ (H0 H:Hp) (L W D:Addr) (st:gh) (U:List Tg) (f:AF) (n:Nat):Prop where
 l:∃ xs,H L=some (.lst xs)/\jx H xs (st.map fun c=>bj c.1)
 w:∃ ts,H W=some (.lst ts)/\ur H ts (st.map (·.2))
 d:gb H D U f n
 sm:aa H0 H
theorem w_.same {H0 H H':Hp} {L W D:Addr} {st:gh} {U:List Tg} {f:AF} {n:Nat} (h:w_ H0 H L W D st U f n) (s:aa H H'):w_ H0 H' L W D st U f n:=by
 refine hdn fun Gz9 zG9=>?_;obtain ⟨⟨xs,a1,a2⟩,⟨ts,c1,c2⟩,d,e⟩:=h;refine zG9 ?_
 exact ⟨⟨xs,s _ _ a1,a2.same s⟩,⟨ts,s _ _ c1,c2.same s⟩,d.same s,e.trans s⟩
theorem gb.V_ (a:gb H D U f n) (s:Sx D H H'):(∀ b ys,ao H b ys->ao H' b ys)/\Tk H H':=by
 refine ⟨fun b ys r=>r.sx s a,?_⟩
 obtain ⟨kvs,g1,_⟩:=a.ex
 exact s.tk fun ys z=>by rw [g1] at z;cases z
theorem Wa {L W T8 r sb:Addr} {st:gh} {xs ts:List V} {p:Pr} {sp:List Str} (l1:H L=some (.lst xs)) (l2:jx H xs (st.map fun c=>bj c.1)) (w1:H W=some (.lst ts)) (w2:ur H ts (st.map (·.2))) (d:gb H D U f n) (sm:aa H0 H)
  (hL:H0 L=none) (hW:H0 W=none) (Eo:L≠W) (Gv:L≠D) (Gw:W≠D) (er:H r=some (.tup ((bj p).map kV))) (g:ao H sb (sp.map V.str)) (hT:upd H L (.lst (xs++[.ref r])) T8=none):
  w_ H0 (upd (upd (upd H L (.lst (xs++[.ref r]))) T8 (.tup [.int (i:Int),.ref sb])) W (.lst (ts++[.ref T8]))) L W D (st++[(p,some (i,sp))]) U f n/\
  Tk H (upd (upd (upd H L (.lst (xs++[.ref r]))) T8 (.tup [.int (i:Int),.ref sb])) W (.lst (ts++[.ref T8])))/\
  (∀ b ys,ao H b ys->ao (upd (upd (upd H L (.lst (xs++[.ref r]))) T8 (.tup [.int (i:Int),.ref sb])) W (.lst (ts++[.ref T8]))) b ys)/\
  ∀ b o,b≠L->b≠W->H b=some o->upd (upd (upd H L (.lst (xs++[.ref r]))) T8 (.tup [.int (i:Int),.ref sb])) W (.lst (ts++[.ref T8])) b=some o:=by
 have k2:∀ b ys,ao H b ys->ao (upd H L (.lst (xs++[.ref r]))) b ys:=fun b ys h=>h.put l1 (fun _ z=>nomatch z) (fun _ _ z=>nomatch z)
 have t2:Tk H (upd H L (.lst (xs++[.ref r]))):=(Tk.refl).set l1 fun _ z=>nomatch z
 have Wb:upd H L (.lst (xs++[.ref r])) L=some (.lst (xs++[.ref r])):=aA
 have D0:upd H L (.lst (xs++[.ref r])) W=some (.lst ts):=by rw [aF Eo.symm];exact w1
 have m2:aa H0 (upd H L (.lst (xs++[.ref r]))):=sm.put hL
 have f2:∀ b o,b≠L->H b=some o->upd H L (.lst (xs++[.ref r])) b=some o:=fun b o n e=>by rw [aF n];exact e
 generalize upd H L (.lst (xs++[.ref r]))=H2 at*
 have gu:=aa.upd hT (.tup [.int (i:Int),.ref sb])
 have e3:upd H2 T8 (.tup [.int (i:Int),.ref sb]) T8=some (.tup [.int (i:Int),.ref sb]):=aA
 generalize upd H2 T8 (.tup [.int (i:Int),.ref sb])=H3 at*
 have FU:=gu _ _ D0
 have k4:∀ b ys,ao H3 b ys->ao (upd H3 W (.lst (ts++[.ref T8]))) b ys:=fun b ys h=>h.put FU (fun _ z=>nomatch z) (fun _ _ z=>nomatch z)
 have t4:Tk H3 (upd H3 W (.lst (ts++[.ref T8]))):=(Tk.refl).set FU fun _ z=>nomatch z
 have kk:∀ b ys,ao H b ys->ao (upd H3 W (.lst (ts++[.ref T8]))) b ys:=fun b ys h=>k4 _ _ ((k2 _ _ h).same gu)
 have tt:Tk H (upd H3 W (.lst (ts++[.ref T8]))):=(t2.trans gu.ts).trans t4
 have fin:∀ b o,b≠L->b≠W->H b=some o->upd H3 W (.lst (ts++[.ref T8])) b=some o:=fun b o n1 n2 e=>by rw [aF n2];exact gu _ _ (f2 b o n1 e)
 refine ⟨⟨⟨xs++[.ref r],by rw [aF Eo];exact gu _ _ Wb,?_⟩,⟨ts++[.ref T8],aA,?_⟩,d.keep (fun o e=>fin D o Gv.symm Gw.symm e) kk,(m2.trans gu).put hW⟩,tt,kk,fin⟩
 ·rw [Qm]
  exact (l2.keep kk).snoc (.inl (tt _ _ er))
 ·rw [Qm]
  exact (w2.keep tt kk).snoc ⟨T8,sb,rfl,t4 _ _ e3,kk _ _ g⟩
def Jp (K:Q0) (mg:Str->Option Value):Sp:=fun vs H Q _=>∃ (n1 n2 b:Addr) (r1 r2:List ae) (m1 m2:List Str) (p:Pr),vs=[.ref n1,.ref n2,.ref b]/\AM K mg H n1 n2 r1 r2 m1 m2/\H b=some (.tup ((bj p).map kV))/\mw r1 r2 m1 m2 p/\
 (∀ (i:Nat) (st:gh) (un:List Nat) (f:AF) (n:Nat) (H':Hp),aa H H'->fj r1 r2 m1 m2 i st un f n->st[0]? =some (p,none)->st.length=i->Q .ai H')/\
 ∀ (r:Addr) (us:List V) (i:Nat) (st:gh) (un:List Nat) (f:AF) (n:Nat) (c:Pr×Option (Nat×List Str)) (H':Hp),aa H H'->H' r=some (.tup us)->SV H' us (gj (st.map (·.2)) i i)->fj r1 r2 m1 m2 i st un f n->st[0]? =some (p,none)->st[i]? =some c->¬fh r1 r2 c.1->Q (.ref r) H'
theorem zB (s:aa H0 H) (x:Sx D H H') (h:H0 D=none):aa H0 H':=fun b o e=>x b o (fun z=>by rw [z,h] at e;cases e) (s _ _ e)
set_option maxHeartbeats 4000000 in
theorem fH (T:Txt K mg w):az P w K mg base 3 "parting_road" ["left","right","first"] (Jp K mg):=by
 have nN:az P w K mg base 2 "put_in_one" ["above","a","b"] Nq:=lC T
 have dI:az P w K mg base 1 "pairs_behind" ["left","right","pair"] (Jl K mg):=fI T
 have pR:az P w K mg base 1 "road_back" ["trail","at"] Nm:=mV T
 have cl:=T.s_.2.1
 have na:=T.s_.2.2.1
 refine T.k8.fz aV (fun vs H Q E h=>?_) (fun f ay A outer s H vs Q E hr h=>?_)
 ·refine hdn fun Gz9 zG9=>?_;obtain ⟨n1,n2,b,r1,r2,m1,m2,p,rfl,_⟩:=h;refine zG9 ?_
  rfl
 ·refine hdn fun Gz9 zG9=>?_;obtain ⟨n1,n2,b,r1,r2,m1,m2,p,rfl,nt,hb,po,kA,kB⟩:=h;refine zG9 ?_
  have hu:=aX hr
  have fq:=Qx (aX hr)
  have BA:=jT hr
  have hsz:sizeLine=16777216:=QL
  have XW:=nt.g1.few
  have XX:=nt.g2.few
  have XY:(su m1 m2).length<=28:=by simp [su];omega
  refine ⟨_,(aD (aP (i:=3) aV.nd rfl (Or.inl rfl) (d5 (aB (zv 2) aC)))
   (aD (aP (i:=4) aV.nd rfl (Or.inl rfl) (d5 (aE mG aC)))
   (aD (aP (i:=5) aV.nd rfl (Or.inl rfl) UD)
   (aD (aP (i:=6) aV.nd rfl (Or.inl rfl) aH)
   (aD (fF PassesOwn.never (aY iQ (zv 6) (cL (bP K) (by rfl) T.wx PySem.boot_len (aB (zv 3) aC)) (gg _)) (aD (lR (bE (bD K) (zv 3) (zv 6) (fun _ _=>rfl)) (cZ K (n:=2) rfl (aN (aL (i:=7) aV.nd rfl (Or.inl rfl)) (aN (aL (i:=8) aV.nd rfl (Or.inl rfl)) cA))))
   (aD (cH (aY (sX BA) (bL hu (dS K (zv 0)) (zv 7) (fun _ _=>rfl)) (bL hu (dS K (zv 1)) (zv 8) (fun _ _=>rfl)) (gg _)) (aG (aQ (bA pR (hr.mono (by decide)) (aB (zv 4) (aB (zv 6) aC))))) bC)
   (aD (cH (nY (bA nN (hr.mono (by decide)) (aB (zv 5) (bS (bG (aE bB (aB (zv 7) aC))) (bS (bG (aE bB (aB (zv 8) aC))) aC))))) (aG (gM PassesOwn.never rfl (qF K (bA dI (hr.mono (by decide)) (aB (zv 0) (aB (zv 1) (aI (bE (bD K) (zv 3) (zv 6) (fun _ _=>rfl)) aC))))) (cZ K (n:=2) rfl (aN (aL (i:=9) aV.nd rfl (Or.inl rfl)) (aN (aL (i:=10) aV.nd rfl (Or.inl rfl)) cA))) (aD (eZ (mW K QH QJ QK bZ (zv 3) (aB (zv 10) aC)))
   (aG (eZ (mW K QH QJ QK bZ (zv 4) (bS (bG (aB (zv 6) (aB (zv 9) aC))) aC))))))) bC)
   (aG (LP (i:=6) aV.nd rfl (Or.inl rfl) aH wV))))))
   (aG (aQ mG))))))),?_⟩
  refine aJ ⟨(show 1<=sizeLine by decide),fun L hL=>?_⟩
  refine aJ ⟨(show 1<=sizeLine by decide),fun W hW=>?_⟩
  refine aJ fun D hD=>?_
  have s1:=aa.upd hL (.lst [V.ref b])
  have s2:=aa.upd hW (.lst [V.ai])
  have s3:=aa.upd hD (.dT [])
  have Wc:H W=none:=s1.free hW
  have tq:H D=none:=(s1.trans s2).free hD
  have Eo:L≠W:=fun z=>by rw [<- z,aA] at hW;cases hW
  have Gv:L≠D:=fun z=>by rw [<- z,s2 _ _ aA] at hD;cases hD
  have Gw:W≠D:=fun z=>by rw [<- z,aA] at hD;cases hD
  have b3:w_ H (upd (upd (upd H L (.lst [V.ref b])) W (.lst [V.ai])) D (.dT [])) L W D [(p,none)] (su m1 m2) (fun _=>none) 0:=by
   refine ⟨⟨[.ref b],s3 _ _ (s2 _ _ aA),jx.nil.snoc (.inl (s3 _ _ (s2 _ _ (s1 _ _ hb))))⟩,⟨[.ai],s3 _ _ aA,⟨rfl,fun i h h'=>?_⟩⟩,⟨[],aA,rfl,by simp,fun k hk=>absurd hk (by simp),fun x=>.inl ⟨rfl,rfl⟩⟩,(s1.trans s2).trans s3⟩
   obtain rfl:i=0:=by simp at h;omega
   rfl
  dsimp only
  generalize upd (upd (upd H L (.lst [V.ref b])) W (.lst [V.ai])) D (.dT [])=H3 at b3 ⊢
  clear s1 s2 s3 hW hD
  refine iP ?_
  refine aO (fun σ' H'=>∃ (v7 v8 v9 v10:Option V) (i:Nat) (st:gh) (un:List Nat) (f:AF) (n:Nat),σ'=[some (.ref n1),some (.ref n2),some (.ref b),some (.ref L),some (.ref W),some (.ref D),some (.int (i:Int)),v7,v8,v9,v10]/\w_ H H' L W D st (su m1 m2) f n/\fj r1 r2 m1 m2 i st un f n/\st[0]? =some (p,none)/\st.length=i) ?_ ?_
  ·intro nx c_
   refine ⟨fun mm σ' H'=>∃ (v7 v8 v9 v10:Option V) (i:Nat) (st:gh) (un:List Nat) (f:AF) (n:Nat),σ'=[some (.ref n1),some (.ref n2),some (.ref b),some (.ref L),some (.ref W),some (.ref D),some (.int (i:Int)),v7,v8,v9,v10]/\w_ H H' L W D st (su m1 m2) f n/\fj r1 r2 m1 m2 i st un f n/\st[0]? =some (p,none)/\i<=st.length/\mm=300 - i,
    ⟨300,none,none,none,none,0,_,[],_,0,rfl,b3,fj.start po,rfl,by simp,rfl⟩,?_⟩
   rintro mm σ' H4 ⟨v7,v8,v9,v10,i,st,un,f,n,rfl,bb,pi,h0,IV,rfl⟩
   obtain ⟨xs,l1,l2⟩:=bb.l
   have qb:xs.length=st.length:=by have:=l2.1;simpa using this
   have Vf:=bb.d.few
   have XZ:=pi.few
   refine .inl ⟨_,.inl (ak.of l1),_,rfl,ic (fun c=>?_) (fun c=>?_)⟩
   ·have hi:i < st.length:=by have:=Qt c;omega
    refine ⟨fun σ' H'=>∃ (v7 v8 v9 v10:Option V) (st:gh) (un:List Nat) (f:AF) (n:Nat),σ'=[some (.ref n1),some (.ref n2),some (.ref b),some (.ref L),some (.ref W),some (.ref D),some (.int ((i+1:Nat):Int)),v7,v8,v9,v10]/\w_ H H' L W D st (su m1 m2) f n/\fj r1 r2 m1 m2 (i+1) st un f n/\st[0]? =some (p,none)/\i+1<=st.length,?_,?_⟩
    ·rintro σ' H' z0;refine hdn fun Gz9 zG9=>?_;obtain ⟨v7,v8,v9,v10,st,un,f,n,rfl,p1,p2,p3,p4⟩:=z0;refine zG9 ?_
     exact ⟨300 - (i+1),by omega,v7,v8,v9,v10,i+1,st,un,f,n,rfl,p1,p2,p3,p4,rfl⟩
    have AO:st[i]? =some st[i]:=Qa hi
    have hok:=pi.ok _ (Qj hi)
    obtain ⟨q,xq,rq⟩:=l2.2 i (by omega) (by simpa using hi)
    rw [Qr] at rq
    have AG:xs[i]? =some (.ref q):=by rw [Qa (by omega),xq]
    generalize BJ:st[i]=c0 at AO hok rq
    have rq:ao H4 q [.str c0.1.1,.str c0.1.2]:=rq
    have BB:=nt.same bb.sm
    refine ⟨_,_,.inl (ak.of l1),d6 AG,yA (af.uq rq) ?_⟩
    dsimp only
    refine hdn fun Gz9 zG9=>?_;obtain ⟨dx,fs,d1,d3,d4,x0,x1,x2,x3,x4,x5,x6,x7⟩:=BB.v1.at_;refine zG9 ?_
    refine hdn fun Gz9 zG9=>?_;obtain ⟨zw,yr,En,Gq,Gr,y0,y1,y2,y3,y4,y5,y6,y7⟩:=BB.v2.at_;refine zG9 ?_
    obtain ⟨e1,e2,e3⟩:=x5 _ hok.a
    obtain ⟨g1,g2,g3⟩:=y5 _ hok.b
    generalize hC:adr mg "Net"=C at x0 y0 cl na
    refine ⟨n1,C,dx,fs,_,rfl,x0,cl,na "marks" (by simp),x2,d3,_,rfl,e2,n2,C,zw,yr,_,rfl,y0,cl,na "marks" (by simp),y2,Gq,_,rfl,g2,3,3,_,_,e1,g1,by decide,rfl,rfl,e3.td,g3.td,fun bo jo=>⟨_,rfl,?_⟩⟩
    rw [UJ] at jo
    refine ic (fun cc=>?_) (fun cc=>?_)
    ·have BC:¬fh r1 r2 c0.1:=fun z=>by rw [jo.mpr z] at cc;cases cc
     obtain ⟨Jq,Jr,Js⟩:=bb.w
     exact ⟨W,i,Jq,st.map (·.2),rfl,Jr,Js,pi.L5,by simpa using hi,by simp;omega,fun R us H6 s6 eR sv=>kB R us i st un f n c0 H6 (bb.sm.trans s6) eR sv pi h0 AO BC⟩
    have me:fh r1 r2 c0.1:=jo.mp (by cases bo<;>first | rfl | cases cc)
    refine mC ?_
    refine aO (fun σ' H'=>∃ (v9 v10:Option V) (st:gh) (un:List Nat) (f:AF) (n:Nat),σ'=[some (.ref n1),some (.ref n2),some (.ref b),some (.ref L),some (.ref W),some (.ref D),some (.int (i:Int)),some (.str c0.1.1),some (.str c0.1.2),v9,v10]/\w_ H H' L W D st (su m1 m2) f n/\fj r1 r2 m1 m2 (i+1) st un f n/\st[0]? =some (p,none)/\i+1<=st.length) ?_ ?_
    ·intro yp xf
     refine ⟨(show 2<=sizeLine by decide),fun ta We=>⟨(show 2<=sizeLine by decide),fun tb ND=>?_⟩⟩
     have s5:=(aa.upd We (.tup [.str "left",.str c0.1.1])).trans (aa.upd ND (.tup [.str "right",.str c0.1.2]))
     have ea:upd (upd H4 ta (.tup [.str "left",.str c0.1.1])) tb (.tup [.str "right",.str c0.1.2]) ta=some (.tup ((bj (lf c0.1.1)).map kV)):=aa.upd ND _ _ _ aA
     have eb:upd (upd H4 ta (.tup [.str "left",.str c0.1.1])) tb (.tup [.str "right",.str c0.1.2]) tb=some (.tup ((bj (rg c0.1.2)).map kV)):=aA
     generalize upd (upd H4 ta (.tup [.str "left",.str c0.1.1])) tb (.tup [.str "right",.str c0.1.2])=H5 at s5 ea eb ⊢
     have b5:=bb.same s5
     have Wf:lf c0.1.1∈su m1 m2:=List.mem_append.mpr (.inl (List.mem_map.mpr ⟨_,hok.a.1,rfl⟩))
     have Wg:rg c0.1.2∈su m1 m2:=List.mem_append.mpr (.inr (List.mem_map.mpr ⟨_,hok.b.1,rfl⟩))
     have NE:∀ {f':AF} {n':Nat} {H6:Hp},Sx D H5 H6->gb H6 D (su m1 m2) f' n'->w_ H H6 L W D st (su m1 m2) f' n':=fun {f' n' H6} sx ab=>by
      obtain ⟨Wh,Wi,Wj⟩:=b5.l
      obtain ⟨Jq,Jr,Js⟩:=b5.w
      obtain ⟨k1,k2⟩:=gb.V_ b5.d sx
      exact ⟨⟨Wh,sx _ _ Gv Wi,Wj.keep k1⟩,⟨Jq,sx _ _ Gw Jr,Js.keep k2 k1⟩,ab,zB b5.sm sx tq⟩
     refine ⟨D,ta,tb,su m1 m2,f,n,lf c0.1.1,rg c0.1.2,rfl,b5.d,pi.DZ,by omega,.inl ea,.inl eb,Wf,Wg,fun r f' H6 sx ab ac h1 h2 kp=>⟨_,rfl,mh ?_⟩,fun r r' f' H6 sx ab ac h1 h2 ne kp=>⟨_,rfl,yc ?_⟩⟩
     ·exact xf _ _ ⟨_,_,st,un,f',n,rfl,NE sx ab,pi.skip AO me ac kp h1 h2,h0,hi⟩
     ·have b6:=NE sx ab
      obtain ⟨AQ,Gx,Ep⟩:=b6.l
      have Wk:AQ.length=st.length:=by have:=Ep.1;simpa using this
      obtain ⟨q6,Wl,NF⟩:=Ep.2 i (by omega) (by simpa using hi)
      rw [Qr,BJ] at NF
      have pj:=pi.join nt.g1 nt.g2 AO me ac h1 h2 kp
      refine ⟨_,_,.inl (ak.of Gx),d6 (by rw [Qa (by omega),Wl]),n1,n2,q6,r1,r2,m1,m2,c0.1,rfl,nt.same b6.sm,NF,hok,me,fun M us H7 hM s7 eM pv=>Or.inl ⟨⟨us,ak.of eM⟩,?_⟩⟩
      have Jt:=pv.len
      have fl:(gm r1 r2 c0.1).length<=10:=by have:=iE (nt.g1.uo hok.a).2;simpa [gm,stH] using this
      have Ju:M≠L:=fun z=>by rw [z,Gx] at hM;cases hM
      have Wm:M≠W:=fun z=>by obtain ⟨X0,Wn,_⟩:=b6.w;rw [z,Wn] at hM;cases hM
      refine dU (e8 us) (fun j σ' H'=>∃ (v9 v10:Option V),σ'=[some (.ref n1),some (.ref n2),some (.ref b),some (.ref L),some (.ref W),some (.ref D),some (.int (i:Int)),some (.str c0.1.1),some (.str c0.1.2),v9,v10]/\w_ H H' L W D (st++(jg r1 r2 i c0.1).take j) (su m1 m2) f' (n+1)/\H' M=some (.lst us)/\mz H' us (gm r1 r2 c0.1))
       ⟨_,_,rfl,by simpa using b6.same s7,eM,pv⟩ (by rintro j σ' H' _ ⟨_,_,_,_,e,_⟩;exact ak.of e) ?_ ?_
      ·rintro j σ' H8 hj ⟨w9,CO,rfl,b8,NG,Jv⟩
       have CP:j < (gm r1 r2 c0.1).length:=by omega
       obtain ⟨cu,sb,te,u1,u2,u3,u4⟩:=Jv.at_ j hj CP
       have eg:us.getD j .ai=.ref cu:=by rw [Qb,Qa hj,u1];rfl
       rw [eg]
       have Aa:(jg r1 r2 i c0.1).take (j+1)=(jg r1 r2 i c0.1).take j++[((gm r1 r2 c0.1)[j].2,some (i,(gm r1 r2 c0.1)[j].1))]:=by
        unfold jg
        rw [Qs,Qq,Qa CP];rfl
       generalize (gm r1 r2 c0.1)[j]=pq at u3 u4 Aa
       obtain ⟨Jw,Jx,NH⟩:=b8.l
       obtain ⟨Jy,NI,NJ⟩:=b8.w
       have tl:((jg r1 r2 i c0.1).take j).length<=10:=by
        have:(jg r1 r2 i c0.1).length=(gm r1 r2 c0.1).length:=by simp [jg]
        rw [List.length_take];omega
       have X3:Jw.length<=300:=by have:=NH.1;rw [Ql,Qk] at this;omega
       have X4:Jy.length<=300:=by have:=NJ.len;rw [Ql,Qk] at this;omega
       refine fJ u2 ⟨.inl ⟨rfl,_,ak.of Jx⟩,L,Jw,.ref te,rfl,rfl,Jx,by omega,?_⟩
       have NK:upd H8 L (.lst (Jw++[.ref te])) W=some (.lst Jy):=by rw [aF Eo.symm];exact NI
       refine ⟨.inl ⟨rfl,_,ak.of NK⟩,(show 2<=sizeLine by decide),fun T8 Gh=>?_⟩
       obtain ⟨z1,z2,z3,z4⟩:=Wa (i:=i) Jx NH NI NJ b8.d b8.sm hL Wc Eo Gv Gw u4 u3 Gh
       refine ⟨W,Jy,.ref T8,rfl,rfl,aa.upd Gh _ _ _ NK,by omega,_,_,rfl,?_,z4 _ _ Ju Wm NG,Jv.keep z2 z3⟩
       rw [Aa,<- List.append_assoc]
       exact z1
      ·rintro σ' H8 ⟨w9,CO,rfl,b8,NG,Jv⟩
       have el:us.length=(jg r1 r2 i c0.1).length:=by rw [Jt];simp [jg]
       rw [el,Qo] at b8
       refine xf _ _ ⟨w9,CO,_,_,f',n+1,rfl,b8,pj,?_,by rw [Qk];omega⟩
       rw [Qg (by omega)];exact h0
    ·rintro σ' H6 z0;refine hdn fun Gz9 zG9=>?_;obtain ⟨w9,CO,jp,FS,f',n',rfl,p1,p2,p3,p4⟩:=z0;refine zG9 ?_
     exact ⟨.int (i:Int),rfl,(i:Int),1,rfl,rfl,_,_,w9,CO,jp,FS,f',n',rfl,p1,p2,p3,p4⟩
   ·have hi:st.length=i:=by have:=of_decide_eq_false c;omega
    exact c_ _ _ ⟨v7,v8,v9,v10,i,st,un,f,n,rfl,bb,pi,h0,hi⟩
  ·rintro σ' H4 z0;refine hdn fun Gz9 zG9=>?_;obtain ⟨v7,v8,v9,v10,i,st,un,f,n,rfl,bb,pi,h0,hi⟩:=z0;refine zG9 ?_
   exact kA i st un f n H4 bb.sm pi h0 hi
structure Ab (P:Program) (w:World) (H0 H:Hp) (L S:Addr) (ps:List Pr):Prop where
 l:∃ xs,H L=some (.lst xs)/\jx H xs (ps.map bj)/\ou H xs
 s:∃ av,qg P w H S av/\(∀ k,k∈av.map (·.1)↔k∈ps.map bj)/\av.length<=ps.length
 sm:aa H0 H
theorem Ab.same {P:Program} {w:World} {H0 H H':Hp} {L S:Addr} {ps:List Pr} (h:Ab P w H0 H L S ps) (s:aa H H'):Ab P w H0 H' L S ps:=by
 refine hdn fun Gz9 zG9=>?_;obtain ⟨⟨xs,a1,a2,a3⟩,⟨av,b1,b2,b3⟩,d⟩:=h;refine zG9 ?_
 exact ⟨⟨xs,s _ _ a1,a2.same s,a3.same s⟩,⟨av,b1.same s,b2,b3⟩,d.trans s⟩
def NL (K:Q0) (mg:Str->Option Value):Sp:=fun vs H Q _=>∃ (n1 n2 b:Addr) (r1 r2:List ae) (m1 m2:List Str) (p:Pr) (G:Pr->Prop),vs=[.ref n1,.ref n2,.ref b]/\AM K mg H n1 n2 r1 r2 m1 m2/\H b=some (.tup ((bj p).map kV))/\L6 r1 r2 m1 m2 G/\G p/\
 ∀ (L:Addr) (xs:List V) (ps:List Pr) (H':Hp),H L=none->aa H H'->H' L=some (.lst xs)->jx H' xs (ps.map bj)->ou H' xs->p∈ps->(∀ q∈ps,G q/\∀ s∈stH (aj r1 q.1),fu r1 r2 q s∈ps)->ps.length<=200->Q (.ref L) H'
theorem rS {m1 m2:List Str} (g1:eu r1 m1) (g2:eu r2 m2) {ps:List Pr} (nd:ps.Nodup) (h:∀ q∈ps,mw r1 r2 m1 m2 q):ps.length<=200:=by
 have f1:=g1.few
 have f2:=g2.few
 have:=hZ (m:=m1.flatMap fun a=>m2.map fun b=>((a,b):Pr)) nd fun x hx=>List.mem_flatMap.mpr ⟨x.1,(h x hx).a.1,List.mem_map.mpr ⟨x.2,(h x hx).b.1,rfl⟩⟩
 have e:(m1.flatMap fun a=>m2.map fun b=>((a,b):Pr)).length=m1.length*m2.length:=by
  rw [List.length_flatMap,lL _ m2.length]
  intro a _
  simp
 rw [e] at this
 have h3:m1.length*m2.length<=14*14:=Nat.mul_le_mul f1 f2
 omega
set_option maxHeartbeats 4000000 in
theorem nL (T:Txt K mg w):az P w K mg base 2 "pairs_met" ["left","right","first"] (NL K mg):=by
 have dI:az P w K mg base 1 "pairs_behind" ["left","right","pair"] (Jl K mg):=fI T
 refine T.pI.UC bQ (fun vs H Q E h=>?_) (fun f ay jc A outer s H vs Q E hr h=>?_)
 ·refine hdn fun Gz9 zG9=>?_;obtain ⟨n1,n2,b,r1,r2,m1,m2,p,G,rfl,_⟩:=h;refine zG9 ?_
  rfl
 ·refine hdn fun Gz9 zG9=>?_;obtain ⟨n1,n2,b,r1,r2,m1,m2,p,G,rfl,nt,hb,qh,gp,k⟩:=h;refine zG9 ?_
  have hu:=aX hr
  have fq:=Qx (aX hr)
  have Jz:=Ux hr
  have hsz:sizeLine=16777216:=QL
  refine ⟨_,(aD (aP (i:=3) bQ.nd rfl (Or.inl rfl) (d5 (aB (zv 2) aC)))
   (aD (aP (i:=4) bQ.nd rfl (Or.inl rfl) (UG P w Jz jc (zv 2)))
   (aD (aP (i:=5) bQ.nd rfl (Or.inl rfl) aH)
   (aD (fF PassesOwn.never (aY iQ (zv 5) (cL (bP K) (by rfl) T.wx PySem.boot_len (aB (zv 3) aC)) (gg _)) (aD (gM PassesOwn.never rfl (qF K (bA dI (hr.mono (by decide)) (aB (zv 0) (aB (zv 1) (aI (bE (bD K) (zv 3) (zv 5) (fun _ _=>rfl)) aC))))) (cZ K (n:=2) rfl (aN (aL (i:=6) bQ.nd rfl (Or.inl rfl)) (aN (aL (i:=7) bQ.nd rfl (Or.inl rfl)) cA))) (aG (cH (aY (wW P w Jz) (zv 7) (zv 4) rfl) (aD (eZ (zH P w Jz (zv 4) (zv 7)))
   (aG (eZ (mW K QH QJ QK bZ (zv 3) (aB (zv 7) aC))))) bC)))
   (aG (LP (i:=5) bQ.nd rfl (Or.inl rfl) aH wV))))
   (aG (aQ (zv 3))))))),?_⟩
  refine aJ ⟨(show 1<=sizeLine by decide),fun L hL=>?_⟩
  have s1:=aa.upd hL (.lst [V.ref b])
  refine aJ fun S hS=>?_
  have s2:=aa.upd hS (ii P w S [])
  have NN:L≠S:=fun z=>by rw [<- z,aA] at hS;cases hS
  have HZ:H S=none:=s1.free hS
  refine ⟨b,bj p,rfl,.inl (s2 _ _ (s1 _ _ hb)),aA,?_⟩
  have b3:Ab P w H (upd (upd (upd H L (.lst [V.ref b])) S (ii P w S [])) S (ii P w S [(bj p,b)])) L S [p]:=by
   have sm:aa (upd H L (.lst [V.ref b])) (upd (upd (upd H L (.lst [V.ref b])) S (ii P w S [])) S (ii P w S [(bj p,b)])):=s2.put hS
   refine ⟨⟨[.ref b],sm _ _ aA,jx.nil.snoc (.inl (sm _ _ (s1 _ _ hb))),ou.nil.snoc (sm _ _ (s1 _ _ hb))⟩,⟨[(bj p,b)],⟨aA,fun q hq=>?_⟩,fun k=>by simp,by simp⟩,s1.trans sm⟩
   rw [List.mem_singleton.mp hq]
   exact .inl (sm _ _ (s1 _ _ hb))
  dsimp only
  generalize upd (upd (upd H L (.lst [V.ref b])) S (ii P w S [])) S (ii P w S [(bj p,b)])=H3 at b3 ⊢
  clear s1 s2 hS
  refine iP ?_
  refine aO (fun σ' H'=>∃ (v6 v7:Option V) (i:Nat) (ps:List Pr),σ'=[some (.ref n1),some (.ref n2),some (.ref b),some (.ref L),some (.ref S),some (.int (i:Int)),v6,v7]/\Ab P w H H' L S ps/\ps.Nodup/\p∈ps/\(∀ q∈ps,G q)/\(∀ (j:Nat) (q:Pr),j < i->ps[j]? =some q->∀ s∈stH (aj r1 q.1),fu r1 r2 q s∈ps)/\ps.length=i) ?_ ?_
  ·intro nx c_
   refine ⟨fun mm σ' H'=>∃ (v6 v7:Option V) (i:Nat) (ps:List Pr),σ'=[some (.ref n1),some (.ref n2),some (.ref b),some (.ref L),some (.ref S),some (.int (i:Int)),v6,v7]/\Ab P w H H' L S ps/\ps.Nodup/\p∈ps/\(∀ q∈ps,G q)/\(∀ (j:Nat) (q:Pr),j < i->ps[j]? =some q->∀ s∈stH (aj r1 q.1),fu r1 r2 q s∈ps)/\i<=ps.length/\mm=300 - i,
    ⟨300,none,none,0,_,rfl,b3,by simp,by simp,fun q hq=>by rw [List.mem_singleton.mp hq];exact gp,fun j q hj=>absurd hj (by omega),by simp,rfl⟩,?_⟩
   rintro mm σ' H4 ⟨v6,v7,i,ps,rfl,bb,nd,hp,hG,sd,IV,rfl⟩
   obtain ⟨xs,l1,l2,l3⟩:=bb.l
   have qb:xs.length=ps.length:=by have:=l2.1;simpa using this
   have few:=rS nt.g1 nt.g2 nd fun q hq=>(qh q (hG q hq)).1
   refine .inl ⟨_,.inl (ak.of l1),_,rfl,ic (fun c=>?_) (fun c=>?_)⟩
   ·have hi:i < ps.length:=by have:=Qt c;omega
    refine ⟨fun σ' H'=>∃ (v6 v7:Option V) (ps:List Pr),σ'=[some (.ref n1),some (.ref n2),some (.ref b),some (.ref L),some (.ref S),some (.int ((i+1:Nat):Int)),v6,v7]/\Ab P w H H' L S ps/\ps.Nodup/\p∈ps/\(∀ q∈ps,G q)/\(∀ (j:Nat) (q:Pr),j < i+1->ps[j]? =some q->∀ s∈stH (aj r1 q.1),fu r1 r2 q s∈ps)/\i+1<=ps.length,?_,?_⟩
    ·rintro σ' H' z0;refine hdn fun Gz9 zG9=>?_;obtain ⟨v6,v7,ps,rfl,p1,p2,p3,p4,p5,p6⟩:=z0;refine zG9 ?_
     exact ⟨300 - (i+1),by omega,v6,v7,i+1,ps,rfl,p1,p2,p3,p4,p5,p6,rfl⟩
    have AO:ps[i]? =some ps[i]:=Qa hi
    obtain ⟨hok,me,NO⟩:=qh _ (hG _ (Qj hi))
    obtain ⟨q,xq,rq⟩:=l2.2 i (by omega) (by simpa using hi)
    rw [Qr] at rq
    have AG:xs[i]? =some (.ref q):=by rw [Qa (by omega),xq]
    generalize ps[i]=c0 at AO hok me NO rq
    refine aO (fun σ' H'=>∃ (v6 v7:Option V) (ps':List Pr),σ'=[some (.ref n1),some (.ref n2),some (.ref b),some (.ref L),some (.ref S),some (.int (i:Int)),v6,v7]/\Ab P w H H' L S ps'/\ps'.Nodup/\p∈ps'/\(∀ q∈ps',G q)/\(∀ (j:Nat) (q:Pr),j < i+1->ps'[j]? =some q->∀ s∈stH (aj r1 q.1),fu r1 r2 q s∈ps')/\i < ps'.length) ?_ ?_
    ·intro yp xf
     refine ⟨_,_,.inl (ak.of l1),d6 AG,n1,n2,q,r1,r2,m1,m2,c0,rfl,nt.same bb.sm,rq,hok,me,fun M us H5 hM s5 eM pv=>Or.inl ⟨⟨us,ak.of eM⟩,?_⟩⟩
     have Jt:=pv.len
     have Ju:M≠L:=fun z=>by rw [z,l1] at hM;cases hM
     have Wo:M≠S:=fun z=>by obtain ⟨av,sa,_⟩:=bb.s;rw [z,sa.at_] at hM;cases hM
     refine dU (e8 us) (fun j σ' H'=>∃ (v6 v7:Option V) (ps':List Pr),σ'=[some (.ref n1),some (.ref n2),some (.ref b),some (.ref L),some (.ref S),some (.int (i:Int)),v6,v7]/\Ab P w H H' L S ps'/\ps'.Nodup/\(∀ q∈ps',G q)/\(∀ (m:Nat) (q:Pr),ps[m]? =some q->ps'[m]? =some q)/\(∀ q∈((gm r1 r2 c0).take j),q.2∈ps')/\H' M=some (.lst us)/\mz H' us (gm r1 r2 c0))
      ⟨_,_,ps,rfl,bb.same s5,nd,hG,fun m q h=>h,fun q hq=>absurd hq (by simp),eM,pv⟩ (by rintro j σ' H' _ ⟨_,_,_,_,_,_,_,_,_,e,_⟩;exact ak.of e) ?_ ?_
     ·rintro j σ' H6 hj z0;refine hdn fun Gz9 zG9=>?_;obtain ⟨w6,w7,ps',rfl,b6,Er,G6,CQ,Es,JA,Gy⟩:=z0;refine zG9 ?_
      have CP:j < (gm r1 r2 c0).length:=by omega
      obtain ⟨cu,sb,te,u1,u2,u3,u4⟩:=Gy.at_ j hj CP
      have eg:us.getD j .ai=.ref cu:=by rw [Qb,Qa hj,u1];rfl
      rw [eg]
      have Aa:(gm r1 r2 c0).take (j+1)=(gm r1 r2 c0).take j++[(gm r1 r2 c0)[j]]:=by rw [Qs,Qa CP];rfl
      have NP:G (gm r1 r2 c0)[j].2:=by
       obtain ⟨s,hs,e⟩:=List.mem_map.mp (Qj CP:(gm r1 r2 c0)[j]∈gm r1 r2 c0)
       rw [<- e];exact NO s hs
      generalize (gm r1 r2 c0)[j]=pq at u3 u4 Aa NP
      obtain ⟨AQ,Gx,Ep,Wp⟩:=b6.l
      obtain ⟨av,sa,sk,sl⟩:=b6.s
      have Wk:AQ.length=ps'.length:=by have:=Ep.1;simpa using this
      have X5:=rS nt.g1 nt.g2 Er fun q hq=>(qh q (G6 q hq)).1
      refine fJ u2 ⟨te,S,bj pq.2,av,rfl,rfl,.inl u4,sa,fun bo jo=>⟨_,rfl,ic (fun c=>?_) (fun c=>?_)⟩⟩
      ·have NQ:bj pq.2 ∉ av.map (·.1):=fun hm=>by rw [jo.mpr hm] at c;cases c
       have Cr:pq.2 ∉ ps':=fun hm=>NQ ((sk _).mpr (wM.mpr hm))
       refine ⟨S,rfl,⟨av,sa⟩,te,_,av,rfl,.inl u4,sa,by omega,fun h=>absurd h NQ,fun _=>?_⟩
       have k1:∀ b ys,ao H6 b ys->ao (upd H6 S (ii P w S (av++[(bj pq.2,te)]))) b ys:=fun b ys h=>h.put sa.at_ (fun _ z=>nomatch z) (fun _ _ z=>nomatch z)
       have t1:Tk H6 (upd H6 S (ii P w S (av++[(bj pq.2,te)]))):=(Tk.refl).set sa.at_ fun _ z=>nomatch z
       have Et:upd H6 S (ii P w S (av++[(bj pq.2,te)])) L=some (.lst AQ):=by rw [aF NN];exact Gx
       have sS:upd H6 S (ii P w S (av++[(bj pq.2,te)])) S=some (ii P w S (av++[(bj pq.2,te)])):=aA
       have CS:aa H (upd H6 S (ii P w S (av++[(bj pq.2,te)]))):=b6.sm.put HZ
       have NR:upd H6 S (ii P w S (av++[(bj pq.2,te)])) M=some (.lst us):=by rw [aF Wo];exact JA
       generalize upd H6 S (ii P w S (av++[(bj pq.2,te)]))=H7 at k1 t1 Et sS CS NR ⊢
       have k2:∀ b ys,ao H7 b ys->ao (upd H7 L (.lst (AQ++[.ref te]))) b ys:=fun b ys h=>h.put Et (fun _ z=>nomatch z) (fun _ _ z=>nomatch z)
       have t2:Tk H7 (upd H7 L (.lst (AQ++[.ref te]))):=(Tk.refl).set Et fun _ z=>nomatch z
       have kk:∀ b ys,ao H6 b ys->ao (upd H7 L (.lst (AQ++[.ref te]))) b ys:=fun b ys h=>k2 _ _ (k1 _ _ h)
       refine ⟨.inl ⟨rfl,_,ak.of Et⟩,L,AQ,.ref te,rfl,rfl,Et,by omega,_,_,ps'++[pq.2],rfl,⟨⟨_,aA,?_,(Wp.tk (t1.trans t2)).snoc ((t1.trans t2) _ _ u4)⟩,⟨av++[(bj pq.2,te)],⟨by rw [aF NN.symm];exact sS,fun q hq=>?_⟩,fun kx=>?_,by simpa using sl⟩,CS.put hL⟩,?_,fun q hq=>?_,fun m q h=>?_,fun q hq=>?_,by rw [aF Ju];exact NR,Gy.keep (t1.trans t2) kk⟩
       ·rw [Qm]
        exact (Ep.keep kk).snoc (kk _ _ (.inl u4))
       ·rcases List.mem_append.mp hq with hq | hq
        ·exact kk _ _ (sa.ks q hq)
        ·rw [List.mem_singleton.mp hq];exact kk _ _ (.inl u4)
       ·rw [Qm,Qm,List.mem_append,List.mem_append,sk];rfl
       ·rw [List.nodup_append]
        exact ⟨Er,by simp,fun a ha b hb e=>Cr (by rw [<- List.mem_singleton.mp hb,<- e];exact ha)⟩
       ·rcases List.mem_append.mp hq with hq | hq
        ·exact G6 q hq
        ·rw [List.mem_singleton.mp hq];exact NP
       ·have:=CQ m q h
        have hm:=(List.getElem?_eq_some_iff.mp this).1
        rw [Qg hm];exact this
       ·rw [Aa] at hq
        rcases List.mem_append.mp hq with hq | hq
        ·exact List.mem_append.mpr (.inl (Es q hq))
        ·rw [List.mem_singleton.mp hq];exact List.mem_append.mpr (.inr (by simp))
      ·have ly:pq.2∈ps':=wM.mp ((sk _).mp (jo.mp (by cases bo<;>first | rfl | cases c)))
       refine ⟨_,_,ps',rfl,b6,Er,G6,CQ,fun q hq=>?_,JA,Gy⟩
       rw [Aa] at hq
       rcases List.mem_append.mp hq with hq | hq
       ·exact Es q hq
       ·rw [List.mem_singleton.mp hq];exact ly
     ·rintro σ' H6 z0;refine hdn fun Gz9 zG9=>?_;obtain ⟨w6,w7,ps',rfl,b6,Er,G6,CQ,Es,JA,Gy⟩:=z0;refine zG9 ?_
      rw [Jt,Qo] at Es
      have sub:∀ q∈ps,q∈ps':=fun q hq=>by
       obtain ⟨m,hm,e⟩:=Qi hq
       exact QC (CQ m q (by rw [Qa hm,e]))
      have d_:i < ps'.length:=(List.getElem?_eq_some_iff.mp (CQ i c0 AO)).1
      refine xf _ _ ⟨w6,w7,ps',rfl,b6,Er,sub p hp,G6,fun j q hj hq s hs=>?_,d_⟩
      have Eu:ps[j]? =some q:=by
       have NS:j < ps.length:=by omega
       have:=CQ j _ (Qa NS)
       rw [hq] at this
       rw [Qa NS];exact this.symm
      by_cases Cw:j=i
      ·subst Cw
       rw [AO] at Eu;cases Eu
       exact Es (s,fu r1 r2 c0 s) (List.mem_map.mpr ⟨s,hs,rfl⟩)
      ·exact sub _ (sd j q (by omega) Eu s hs)
    ·rintro σ' H6 z0;refine hdn fun Gz9 zG9=>?_;obtain ⟨w6,w7,ps',rfl,p1,p2,p3,p4,p5,p6⟩:=z0;refine zG9 ?_
     exact ⟨.int (i:Int),rfl,(i:Int),1,rfl,rfl,w6,w7,ps',rfl,p1,p2,p3,p4,p5,p6⟩
   ·have hi:ps.length=i:=by have:=of_decide_eq_false c;omega
    exact c_ _ _ ⟨v6,v7,i,ps,rfl,bb,nd,hp,hG,sd,hi⟩
  ·rintro σ' H4 z0;refine hdn fun Gz9 zG9=>?_;obtain ⟨v6,v7,i,ps,rfl,bb,nd,hp,hG,sd,hi⟩:=z0;refine zG9 ?_
   obtain ⟨xs,l1,l2,l3⟩:=bb.l
   refine k L xs ps H4 hL bb.sm l1 l2 l3 hp (fun q hq=>⟨hG q hq,fun s hs=>?_⟩) (rS nt.g1 nt.g2 nd fun q hq=>(qh q (hG q hq)).1)
   obtain ⟨m,hm,e⟩:=Qi hq
   exact sd m q (by omega) (by rw [Qa hm,e]) s hs
def Wq (mg:Str->Option Value):Sp:=fun vs H Q _=>∃ (a b:Addr) (xs ys:List V) (r1 r2:List ae) (m1 m2 ws gf:List Str) (x y:Str),vs=[.ref a,.str x,.ref b,.str y]/\RT H a xs r1 m1 ws/\RT H b ys r2 m2 gf/\(∀ z∈ws,Wd z)/\(∀ z∈gf,Wd z)/\Kn mg H "FROM" [.str "from"]/\Kn mg H "TO" [.str "to"]/\x∈m1/\y∈m2/\
 (∀ (r L:Addr) (xs:List V) (ps:List Pr) (i:Nat) (st:gh) (un:List Nat) (f:AF) (n:Nat) (H':Hp),H L=none->aa H H'->H' r=some (.tup [.str "alike",.ref L])->H' L=some (.lst xs)->jx H' xs (ps.map bj)->ou H' xs->(endOf r1 x,endOf r2 y)∈ps->(∀ q∈ps,mw r1 r2 m1 m2 q/\fh r1 r2 q/\∀ s∈stH (aj r1 q.1),fu r1 r2 q s∈ps)->ps.length<=200->fj r1 r2 m1 m2 i st un f n->st[0]? =some ((endOf r1 x,endOf r2 y),none)->st.length=i->Q (.ref r) H')/\
 ∀ (r R:Addr) (us:List V) (i:Nat) (st:gh) (un:List Nat) (f:AF) (n:Nat) (c:Pr×Option (Nat×List Str)) (H':Hp),aa H H'->H' r=some (.tup [.str "unlike",.ref R])->H' R=some (.tup us)->SV H' us (gj (st.map (·.2)) i i)->fj r1 r2 m1 m2 i st un f n->st[0]? =some ((endOf r1 x,endOf r2 y),none)->st[i]? =some c->¬fh r1 r2 c.1->Q (.ref r) H'
set_option maxHeartbeats 1000000 in
theorem vT (T:Txt K mg w):az P w K mg base 6 "alike" ["T","x","S","y"] (Wq mg):=by
 have BD:Cd P w K mg base 4 "Net" (adr mg "Net") ["self","T"] (F9 mg):=qJ T
 have dD:az P w K mg base 3 "parting_road" ["left","right","first"] (Jp K mg):=fH T
 have pO:az P w K mg base 2 "pairs_met" ["left","right","first"] (NL K mg):=nL T
 have cl:=T.s_.2.1
 have na:=T.s_.2.2.1
 refine T.U7.fz iG (fun vs H Q E h=>?_) (fun f ay A outer s H vs Q E hr h=>?_)
 ·refine hdn fun Gz9 zG9=>?_;obtain ⟨a,b,xs,ys,r1,r2,m1,m2,ws,gf,x,y,rfl,_⟩:=h;refine zG9 ?_
  rfl
 ·refine hdn fun Gz9 zG9=>?_;obtain ⟨a,b,xs,ys,r1,r2,m1,m2,ws,gf,x,y,rfl,rt,fc,hw,jb,kf,kt,hx,hy,kA,kB⟩:=h;refine zG9 ?_
  have hu:=aX hr
  have fq:=Qx (aX hr)
  refine ⟨_,(aD (xA (i:=4) (j:=5) rfl iG.nd rfl rfl (by decide) rfl rfl (aU (kX BD (hr.mono (by decide)) (aB (zv 0) aC)) (aU (kX BD (hr.mono (by decide)) (aB (zv 2) aC)) aC)) rfl)
   (aD (aP (i:=6) iG.nd rfl (Or.inl rfl) (bG (aI (bL hu (dS K (zv 4)) (zv 1) (fun _ _=>rfl)) (aI (bL hu (dS K (zv 5)) (zv 3) (fun _ _=>rfl)) aC))))
   (aD (aP (i:=7) iG.nd rfl (Or.inl rfl) (bA dD (hr.mono (by decide)) (aB (zv 4) (aB (zv 5) (aB (zv 6) aC)))))
   (aD (cH (aY w5 (zv 7) mG (gg _)) (aG (aQ (bG (aE bB (aU (bA pO (hr.mono (by decide)) (aB (zv 4) (aB (zv 5) (aB (zv 6) aC)))) aC))))) bC)
   (aG (aQ (bG (aE bB (aB (zv 7) aC))))))))),?_⟩
  refine fun n dn hn zl ne=>?_
  have s0:aa H (upd (upd H dn (.own n)) n (.ins (adr mg "Net") dn [])):=(aa.upd zl _).trans (aa.upd (by rw [aF ne.symm];exact hn) _)
  refine ⟨n,dn,a,xs,r1,m1,ws,rfl,aA,rt.tk s0.ts,hw,kf.same s0,kt.same s0,fun H2 Ew sx=>⟨rfl,?_⟩⟩
  have s2:aa H H2:=fun b o e=>sx b o (fun z=>by rw [z,hn] at e;cases e) (s0 b o e)
  have nv:=Ew.FN (K:=K) (rt.jy hw)
  refine fun n' BE vf JB ne'=>?_
  have Ac:aa H2 (upd (upd H2 BE (.own n')) n' (.ins (adr mg "Net") BE [])):=(aa.upd JB _).trans (aa.upd (by rw [aF ne'.symm];exact vf) _)
  refine ⟨n',BE,b,ys,r2,m2,gf,rfl,aA,fc.tk (s2.trans Ac).ts,jb,kf.same (s2.trans Ac),kt.same (s2.trans Ac),fun H3 JC Bv=>⟨rfl,?_⟩⟩
  have s3:aa H2 H3:=fun b o e=>Bv b o (fun z=>by rw [z,vf] at e;cases e) (Ac b o e)
  have JD:=JC.FN (K:=K) (fc.jy jb)
  have JE:=s2.trans s3
  have nt:AM K mg H3 n n' r1 r2 m1 m2:=⟨nv.same s3,JD,rt.jy hw,fc.jy jb⟩
  have po:mw r1 r2 m1 m2 (endOf r1 x,endOf r2 y):=⟨nt.g1.stay hx,nt.g2.stay hy⟩
  refine hdn fun Gz9 zG9=>?_;obtain ⟨dx,fs,d1,d3,d4,x0,x1,x2,x3,x4,x5,x6,x7⟩:=nt.v1.at_;refine zG9 ?_
  refine hdn fun Gz9 zG9=>?_;obtain ⟨zw,yr,En,Gq,Gr,y0,y1,y2,y3,y4,y5,y6,y7⟩:=nt.v2.at_;refine zG9 ?_
  refine ⟨_,_,rfl,?_⟩
  dsimp only
  refine aJ ⟨n,_,dx,fs,_,rfl,x0,cl,na "rows" (by simp),x1,d1,_,rfl,x4 x hx,n',_,zw,yr,_,rfl,y0,cl,na "rows" (by simp),y1,En,_,rfl,y4 y hy,(show 2<=sizeLine by decide),fun q hq=>?_⟩
  have s4:=aa.upd hq (.tup [.str (endOf r1 x),.str (endOf r2 y)])
  have e4:upd H3 q (.tup [.str (endOf r1 x),.str (endOf r2 y)]) q=some (.tup ((bj (endOf r1 x,endOf r2 y)).map kV)):=aA
  dsimp only
  generalize upd H3 q (.tup [.str (endOf r1 x),.str (endOf r2 y)])=H4 at s4 e4 ⊢
  have BB:=nt.same s4
  have AR:=JE.trans s4
  refine aJ ⟨n,n',q,r1,r2,m1,m2,_,rfl,BB,e4,po,fun i st un f0 nn H5 s5 pi h0 hl=>?_,fun R us i st un f0 nn c H5 s5 eR sv pi h0 hc BC=>?_⟩
  ·refine ⟨_,rfl,yc ?_⟩
   have qh:=pi.L7 nt.g1 nt.g2 hl
   refine ⟨n,n',q,r1,r2,m1,m2,_,_,rfl,BB.same s5,s5 _ _ e4,qh,⟨po,pi.done hl h0⟩,fun L Dz ps H6 hL s6 eL ks tv hf Ek gr=>⟨(show 2<=sizeLine by decide),fun r hr=>?_⟩⟩
   have s7:=aa.upd hr (.tup [.str "alike",.ref L])
   have Wr:=AR.trans (s5.trans (s6.trans s7))
   refine kA r L Dz ps i st un f0 nn _ ((AR.trans s5).free hL) Wr aA (s7 _ _ eL) (ks.same s7) (tv.same s7) hf (fun p hp=>?_) gr pi h0 hl
   obtain ⟨g1,g2⟩:=Ek p hp
   exact ⟨(qh p g1).1,(qh p g1).2.1,g2⟩
  ·refine ⟨_,rfl,mh ⟨(show 2<=sizeLine by decide),fun r hr=>?_⟩⟩
   have s7:=aa.upd hr (.tup [.str "unlike",.ref R])
   exact kB r R us i st un f0 nn c _ (AR.trans (s5.trans s7)) aA (s7 _ _ eR) (sv.same s7) pi h0 hc BC
def JF (mg:Str->Option Value):Sp:=fun vs H Q _=>∃ (a b:Addr) (xs ys:List V) (r1 r2:List ae) (m1 m2 ws gf:List Str) (x y:Str),vs=[.ref a,.str x,.ref b,.str y]/\RT H a xs r1 m1 ws/\RT H b ys r2 m2 gf/\(∀ z∈ws,Wd z)/\(∀ z∈gf,Wd z)/\Kn mg H "FROM" [.str "from"]/\Kn mg H "TO" [.str "to"]/\x∈m1/\y∈m2/\
 (∀ H',aa H H'->(∀ v m,fk (cz r1 r2) (endOf r1 x,endOf r2 y) v=some m->¬jm r1 r2 m)->Q (.bl true) H')/\
 ∀ H',aa H H'->(∃ v m,fk (cz r1 r2) (endOf r1 x,endOf r2 y) v=some m/\jm r1 r2 m)->Q (.bl false) H'
set_option maxHeartbeats 1000000 in
theorem iM (T:Txt K mg w):az P w K mg base 6 "are_alike" ["T","x","S","y"] (JF mg):=by
 have BD:Cd P w K mg base 4 "Net" (adr mg "Net") ["self","T"] (F9 mg):=qJ T
 have dD:az P w K mg base 3 "parting_road" ["left","right","first"] (Jp K mg):=fH T
 have cl:=T.s_.2.1
 have na:=T.s_.2.2.1
 refine T.o5.fz iI (fun vs H Q E h=>?_) (fun f ay A outer s H vs Q E hr h=>?_)
 ·refine hdn fun Gz9 zG9=>?_;obtain ⟨a,b,xs,ys,r1,r2,m1,m2,ws,gf,x,y,rfl,_⟩:=h;refine zG9 ?_
  rfl
 ·refine hdn fun Gz9 zG9=>?_;obtain ⟨a,b,xs,ys,r1,r2,m1,m2,ws,gf,x,y,rfl,rt,fc,hw,jb,kf,kt,hx,hy,kA,kB⟩:=h;refine zG9 ?_
  have hu:=aX hr
  have fq:=Qx (aX hr)
  refine ⟨_,(aD (xA (i:=4) (j:=5) rfl iI.nd rfl rfl (by decide) rfl rfl (aU (kX BD (hr.mono (by decide)) (aB (zv 0) aC)) (aU (kX BD (hr.mono (by decide)) (aB (zv 2) aC)) aC)) rfl)
   (aG (aQ (sC w5 (bA dD (hr.mono (by decide)) (aB (zv 4) (aB (zv 5) (bS (bG (aI (bL hu (dS K (zv 4)) (zv 1) (fun _ _=>rfl)) (aI (bL hu (dS K (zv 5)) (zv 3) (fun _ _=>rfl)) aC))) aC)))) mG (gg _))))),?_⟩
  refine fun n dn hn zl ne=>?_
  have s0:aa H (upd (upd H dn (.own n)) n (.ins (adr mg "Net") dn [])):=(aa.upd zl _).trans (aa.upd (by rw [aF ne.symm];exact hn) _)
  refine ⟨n,dn,a,xs,r1,m1,ws,rfl,aA,rt.tk s0.ts,hw,kf.same s0,kt.same s0,fun H2 Ew sx=>⟨rfl,?_⟩⟩
  have s2:aa H H2:=fun b o e=>sx b o (fun z=>by rw [z,hn] at e;cases e) (s0 b o e)
  have nv:=Ew.FN (K:=K) (rt.jy hw)
  refine fun n' BE vf JB ne'=>?_
  have Ac:aa H2 (upd (upd H2 BE (.own n')) n' (.ins (adr mg "Net") BE [])):=(aa.upd JB _).trans (aa.upd (by rw [aF ne'.symm];exact vf) _)
  refine ⟨n',BE,b,ys,r2,m2,gf,rfl,aA,fc.tk (s2.trans Ac).ts,jb,kf.same (s2.trans Ac),kt.same (s2.trans Ac),fun H3 JC Bv=>⟨rfl,?_⟩⟩
  have s3:aa H2 H3:=fun b o e=>Bv b o (fun z=>by rw [z,vf] at e;cases e) (Ac b o e)
  have JD:=JC.FN (K:=K) (fc.jy jb)
  have JE:=s2.trans s3
  have nt:AM K mg H3 n n' r1 r2 m1 m2:=⟨nv.same s3,JD,rt.jy hw,fc.jy jb⟩
  have po:mw r1 r2 m1 m2 (endOf r1 x,endOf r2 y):=⟨nt.g1.stay hx,nt.g2.stay hy⟩
  refine hdn fun Gz9 zG9=>?_;obtain ⟨dx,fs,d1,d3,d4,x0,x1,x2,x3,x4,x5,x6,x7⟩:=nt.v1.at_;refine zG9 ?_
  refine hdn fun Gz9 zG9=>?_;obtain ⟨zw,yr,En,Gq,Gr,y0,y1,y2,y3,y4,y5,y6,y7⟩:=nt.v2.at_;refine zG9 ?_
  refine ⟨_,_,rfl,?_⟩
  dsimp only
  refine ⟨n,_,dx,fs,_,rfl,x0,cl,na "rows" (by simp),x1,d1,_,rfl,x4 x hx,n',_,zw,yr,_,rfl,y0,cl,na "rows" (by simp),y1,En,_,rfl,y4 y hy,(show 2<=sizeLine by decide),fun q hq=>?_⟩
  have s4:=aa.upd hq (.tup [.str (endOf r1 x),.str (endOf r2 y)])
  have e4:upd H3 q (.tup [.str (endOf r1 x),.str (endOf r2 y)]) q=some (.tup ((bj (endOf r1 x,endOf r2 y)).map kV)):=aA
  generalize upd H3 q (.tup [.str (endOf r1 x),.str (endOf r2 y)])=H4 at s4 e4 ⊢
  have BB:=nt.same s4
  have AR:=JE.trans s4
  refine ⟨n,n',q,r1,r2,m1,m2,_,rfl,BB,e4,po,fun i st un f0 nn H5 s5 pi h0 hl=>?_,fun R us i st un f0 nn c H5 s5 eR sv pi h0 hc BC=>?_⟩
  ·exact kA H5 (AR.trans s5) (pi.none nt.g1 nt.g2 h0 hl)
  ·exact kB H5 (AR.trans s5) (pi.least h0 rt.Mh hc BC).1
def NT (mg:Str->Option Value):Sp:=fun vs H Q _=>∃ (a r:Addr) (xs us:List V) (rows:List ae) (ns ws:List Str) (x:Str) (road:List (List Str)),vs=[.ref a,.str x,.ref r]/\RT H a xs rows ns ws/\(∀ z∈ws,Wd z)/\x∈ns/\Kn mg H "FROM" [.str "from"]/\Kn mg H "TO" [.str "to"]/\H r=some (.tup us)/\SV H us road/\
 ∀ H',aa H H'->Q (Ia (wk rows (endOf rows x) road)) H'
theorem uU (T:Txt K mg w):az P w K mg base 6 "end_of" ["T","x","road"] (NT mg):=by
 have BD:Cd P w K mg base 4 "Net" (adr mg "Net") ["self","T"] (F9 mg):=qJ T
 have cl:=T.s_.2.1
 have na:=T.s_.2.2.1
 refine T.xI.fz eI (fun vs H Q E h=>?_) (fun f ay A outer s H vs Q E hr h=>?_)
 ·refine hdn fun Gz9 zG9=>?_;obtain ⟨a,r,xs,us,rows,ns,ws,x,road,rfl,_⟩:=h;refine zG9 ?_
  rfl
 ·refine hdn fun Gz9 zG9=>?_;obtain ⟨a,r,xs,us,rows,ns,ws,x,road,rfl,rt,hw,hx,kf,kt,hr0,sv,k⟩:=h;refine zG9 ?_
  have hu:=aX hr
  have fq:=Qx (aX hr)
  refine ⟨_,(aD (aP (i:=3) eI.nd rfl (Or.inl rfl) (kX BD (hr.mono (by decide)) (aB (zv 0) aC)))
   (aD (aP (i:=4) eI.nd rfl (Or.inl rfl) (bL hu (dS K (zv 3)) (zv 1) (fun _ _=>rfl)))
   (aD (gM PassesOwn.never rfl (qF K (zv 2)) (aL (i:=5) eI.nd rfl (Or.inl rfl)) (aD (cH (aY (uD hu) (zv 5) (bL hu (dS K (zv 3)) (zv 4) (fun _ _=>rfl)) rfl) (aG (aQ mG)) bC)
   (aG (aP (i:=4) eI.nd rfl (Or.inl rfl) (bL hu (bL hu (dS K (zv 3)) (zv 4) (fun _ _=>rfl)) (zv 5) (fun _ _=>rfl))))))
   (aG (aQ (zv 4)))))),?_⟩
  refine aJ fun n dn hn zl ne=>?_
  have s0:aa H (upd (upd H dn (.own n)) n (.ins (adr mg "Net") dn [])):=(aa.upd zl _).trans (aa.upd (by rw [aF ne.symm];exact hn) _)
  refine ⟨n,dn,a,xs,rows,ns,ws,rfl,aA,rt.tk s0.ts,hw,kf.same s0,kt.same s0,fun H2 Ew sx=>⟨rfl,?_⟩⟩
  have s2:aa H H2:=fun b o e=>sx b o (fun z=>by rw [z,hn] at e;cases e) (s0 b o e)
  refine hdn fun Gz9 zG9=>?_;obtain ⟨dx,fs,en,⟨⟨d1,o1,a1,a2⟩,_,_,⟨d4,o4,k4,e1,e2,e3⟩⟩⟩:=Ew;refine zG9 ?_
  generalize adr mg "Net"=C at*
  refine aJ ⟨n,C,dx,fs,.ref d1,rfl,en,cl,na "rows" (by simp),a1,d1,.str (endOf rows x),rfl,?_,?_⟩
  ·rw [<- iX rt.jf (rt.nm.mem_iff.mpr hx)]
   exact fi.rd (k:=Sum.inr x) (.inr ⟨o1,a2⟩)
  have look:∀ e,iu rows ns e->∃ m o,fi H2 d4 (.str e) (some (.ref m))/\H2 m=some (.aq o (.dT (ir rows (aj rows e)))):=fun e he=>by
   obtain ⟨v,h1,m,o,rfl,h2⟩:=e3.get rt.Bm (rt.uo hw he).1
   exact ⟨m,o,by rw [<- h1];exact fi.rd (k:=Sum.inr e) (.inr ⟨o4,e2⟩),h2⟩
  have yy:=rt.stay hw hx
  have AS:=sv.keep fun b ys h=>h.same s2
  have hl:=sv.len
  refine aO (fun σ' H'=>∃ v5 e,σ'=[some (.ref a),some (.str x),some (.ref r),some (.ref n),some (.str e),v5]/\wk rows (endOf rows x) road=some e/\H'=H2) ?_ ?_
  ·intro nx c_
   refine Or.inr ⟨⟨us,af.of (s2 _ _ hr0)⟩,?_⟩
   refine dU (dA us) (fun i σ' H'=>∃ v5 e,σ'=[some (.ref a),some (.str x),some (.ref r),some (.ref n),some (.str e),v5]/\wk rows (endOf rows x) road=wk rows e (road.drop i)/\iu rows ns e/\H'=H2) ⟨none,endOf rows x,rfl,rfl,yy,rfl⟩ (by rintro i σ' H' _ ⟨_,_,_,_,_,h⟩;(rw [h];exact af.of (s2 _ _ hr0))) ?_ ?_
   ·rintro i σ' H' hi ⟨v5,e,rfl,g,he,rfl⟩
    obtain ⟨b,q1,q2⟩:=AS.at_ i hi (by omega)
    have eg:us.getD i .ai=.ref b:=by rw [Qb,Qa hi,q1];rfl
    rw [eg]
    obtain ⟨m,o,l1,l2⟩:=look e he
    have ed:road.drop i=road[i]'(by omega)::road.drop (i+1):=List.drop_eq_getElem_cons (by omega)
    have dg:fi H' m (.ref b) ((L2.di rows e (road[i]'(by omega))).map V.str):=by
     rw [<- qW rows e _ he.2]
     exact .inr ⟨_,_,b,.inr ⟨o,l2⟩,rfl,by rw [FI];exact q2,rfl⟩
    rw [ed] at g
    refine aO (fun σ' H1=>(∃ e',L2.di rows e (road[i]'(by omega))=some e')/\H1=H'/\σ'=[some (.ref a),some (.str x),some (.ref r),some (.ref n),some (.str e),some (.ref b)]) ?_ ?_
    ·intro Mu yk
     refine ⟨n,C,dx,fs,.ref d4,rfl,en,cl,na "moves" (by simp),e1,d4,.ref m,rfl,l1,m,_,rfl,dg,_,rfl,ic (fun c=>?_) (fun c=>?_)⟩
     ·cases em:L2.di rows e (road[i]'(by omega)) with
      | some e'=>rw [em] at c;simp at c
      | none=>
       have:Ia (wk rows (endOf rows x) road)=.ai:=by rw [g];unfold wk;rw [em];rfl
       rw [<- this]
       exact k H' s2
     ·cases em:L2.di rows e (road[i]'(by omega)) with
      | some e'=>exact yk _ _ ⟨⟨e',em⟩,rfl,rfl⟩
      | none=>rw [em] at c;simp at c
    ·rintro σ' H1 ⟨⟨e',em⟩,rfl,rfl⟩
     rw [em] at dg
     refine ⟨n,C,dx,fs,.ref d4,rfl,en,cl,na "moves" (by simp),e1,d4,.ref m,rfl,l1,m,.str e',rfl,dg,?_⟩
     refine ⟨_,e',rfl,?_,rt.di hw he em,rfl⟩
     rw [g]
     show (match L2.di rows e _ with | some e'=>wk rows e' _ | none=>none)=_
     rw [em]
   ·rintro σ' H' ⟨v5,e,rfl,g,he,rfl⟩
    refine c_ _ _ ⟨v5,e,rfl,?_,rfl⟩
    rw [g,hl,List.drop_length];rfl
  ·rintro σ' H' ⟨v5,e,rfl,g,rfl⟩
   have:Ia (wk rows (endOf rows x) road)=.str e:=by rw [g];rfl
   rw [<- this]
   exact k _ s2
def NU (mg:Str->Option Value):Sp:=fun vs H Q _=>∃ (a:Addr) (xs:List V) (rows:List ae) (ns ws:List Str) (x:Str),vs=[.ref a,.str x]/\RT H a xs rows ns ws/\(∀ z∈ws,Wd z)/\x∈ns/\Kn mg H "FROM" [.str "from"]/\Kn mg H "TO" [.str "to"]/\
 ∀ (L:Addr) (us:List V) (H':Hp),H L=none->aa H H'->H' L=some (.lst us)->SV H' us ((dw rows x).map (·.1))->Q (.ref L) H'
theorem oC (T:Txt K mg w):az P w K mg base 4 "steps_of" ["T","x"] (NU mg):=by
 have uI:az P w K mg base 3 "head_of" ["T","x"] MP:=qQ T
 have dJ:az P w K mg base 1 "steps_in" ["head"] (F8 mg):=g9 T
 refine T.rT.fz oS (fun vs H Q E h=>?_) (fun f ay A outer s H vs Q E hr h=>?_)
 ·refine hdn fun Gz9 zG9=>?_;obtain ⟨a,xs,rows,ns,ws,x,rfl,_⟩:=h;refine zG9 ?_
  rfl
 ·refine hdn fun Gz9 zG9=>?_;obtain ⟨a,xs,rows,ns,ws,x,rfl,rt,hw,hx,kf,kt,k⟩:=h;refine zG9 ?_
  obtain ⟨rs,g,nm,rl,v_⟩:=rt.good hw
  have hm:∀ z,z∈ns↔z∈rs.map (·.1):=fun z=>by rw [nm];exact rt.nm.mem_iff.symm
  obtain ⟨e1,e2,e3⟩:=rt.B_ hw hx
  refine ⟨_,(aG (aQ (bA dJ (hr.mono (by decide)) (aU (bA uI (hr.mono (by decide)) (aB (zv 0) (aB (zv 1) aC))) aC)))),?_⟩
  refine ⟨a,xs,rs,_,_,x,rfl,g,(hm x).mp hx,fun v H1 s1 hv=>?_⟩
  have Eu:HV H v (aj rows (endOf rows x)):=v_ _ v e1 (by rw [rl] at hv;exact hv)
  refine ⟨v,_,ns,rfl,Eu.same s1,e3,kf.same s1,kt.same s1,fun L us H2 hL eL sv s2=>?_⟩
  have e:(dw rows x).map (·.1)=(aj rows (endOf rows x)).bq.map (·.1):=by simp [dw,Qn,QB]
  exact k L us H2 (s1.free hL) (s1.trans s2) eL (by rw [e];exact sv)
def NV (mg:Str->Option Value):Sp:=fun vs H Q _=>∃ (a b:Addr) (xs ys:List V) (r1 r2:List ae) (m1 m2 ws gf:List Str) (x y:Str),vs=[.ref a,.str x,.ref b,.str y]/\RT H a xs r1 m1 ws/\RT H b ys r2 m2 gf/\(∀ z∈ws,Wd z)/\(∀ z∈gf,Wd z)/\Kn mg H "FROM" [.str "from"]/\Kn mg H "TO" [.str "to"]/\x∈m1/\y∈m2/\
 (∀ (r L:Addr) (H':Hp),aa H H'->H' r=some (.tup [.str "alike",.ref L])->jh r1 r2 (endOf r1 x,endOf r2 y)->Q (.ref r) H')/\
 ∀ (r R:Addr) (us:List V) (w:List Nat) (H':Hp),aa H H'->H' r=some (.tup [.str "unlike",.ref R])->H' R=some (.tup us)->SV H' us (j_ (cz r1 r2) (endOf r1 x,endOf r2 y) w)->lj (cz r1 r2) (jm r1 r2) (endOf r1 x,endOf r2 y) w->Q (.ref r) H'
theorem Ws {xs:List V} {rows:List ae} (rt:RT H a xs rows ns ws) (x:Str):(stH (aj rows x)).length<=10:=by
 unfold aj
 cases hf:rows.find? fun r=>decide (r.1=x) with
 | none=>exact Nat.zero_le _
 | some r=>simpa [stH] using iE (rt.ok r (List.mem_of_find?_eq_some hf)).2
theorem vC (T:Txt K mg w):az P w K mg base 6 "alike" ["T","x","S","y"] (NV mg):=(vT T).imp fun vs H Q E h=>by
 refine hdn fun Gz9 zG9=>?_;obtain ⟨a,b,xs,ys,r1,r2,m1,m2,ws,gf,x,y,rfl,rt,fc,hw,jb,kf,kt,hx,hy,kA,kB⟩:=h;refine zG9 ?_
 refine ⟨a,b,xs,ys,r1,r2,m1,m2,ws,gf,x,y,rfl,rt,fc,hw,jb,kf,kt,hx,hy,fun r L Dz ps i st un f n H' hL s e1 e2 ks tv hf Ek gr pi h0 hl=>?_,fun r R us i st un f n c H' s e1 e2 sv pi h0 hc BC=>?_⟩
 ·exact kA r L H' s e1 (pi.none (rt.jy hw) (fc.jy jb) h0 hl)
 ·obtain ⟨⟨v,m,g1,g2⟩,lst⟩:=pi.least h0 rt.Mh hc BC
  obtain ⟨w,lw⟩:=xT (Ws rt) g1 g2
  rw [lst w lw] at sv
  exact kB r R us w H' s e1 e2 sv lw
def NW (mg:Str->Option Value):Sp:=fun vs H Q _=>∃ (a b:Addr) (xs ys:List V) (r1 r2:List ae) (m1 m2 ws gf:List Str) (x y:Str),vs=[.ref a,.str x,.ref b,.str y]/\RT H a xs r1 m1 ws/\RT H b ys r2 m2 gf/\(∀ z∈ws,Wd z)/\(∀ z∈gf,Wd z)/\Kn mg H "FROM" [.str "from"]/\Kn mg H "TO" [.str "to"]/\x∈m1/\y∈m2/\∀ H',aa H H'->Q (.bl true) H'
theorem nE {rows:List ae} {e:Str} {s:List Str} (he:endOf rows e=e) (hs:s∈stH (aj rows e)):wk rows e [s]=some ((di rows e s).getD ""):=by
 obtain ⟨e',h⟩:=gE he hs
 show (match di rows e s with | some e'=>wk rows e' [] | none=>none)=_
 rw [h];rfl
set_option maxHeartbeats 4000000 in
theorem gH (T:Txt K mg w):az P w K mg base 7 "_law_behind_steps" ["_law_told","_law_name","_law_other","_law_twin_name"] (NW mg):=by
 have jM:az P w K mg base 6 "alike" ["T","x","S","y"] (NV mg):=vC T
 have cE:az P w K mg base 6 "are_alike" ["T","x","S","y"] (JF mg):=iM T
 have iJ:az P w K mg base 6 "end_of" ["T","x","road"] (NT mg):=uU T
 have gX:az P w K mg base 4 "steps_of" ["T","x"] (NU mg):=oC T
 refine T.gP.fz aS (fun vs H Q E h=>?_) (fun f ay A outer s H vs Q E hr h=>?_)
 ·refine hdn fun Gz9 zG9=>?_;obtain ⟨a,b,xs,ys,r1,r2,m1,m2,ws,gf,x,y,rfl,_⟩:=h;refine zG9 ?_
  rfl
 ·refine hdn fun Gz9 zG9=>?_;obtain ⟨a,b,xs,ys,r1,r2,m1,m2,ws,gf,x,y,rfl,rt,fc,hw,jb,kf,kt,hx,hy,k⟩:=h;refine zG9 ?_
  have hu:=aX hr
  have fq:=Qx (aX hr)
  have Wt:=Uh hr
  have BA:=jT hr
  have hsz:sizeLine=16777216:=QL
  have JG:=rt.jy hw
  have jy:=fc.jy jb
  have JH:=JG.stay hx
  have JI:=jy.stay hy
  have po:mw r1 r2 m1 m2 (endOf r1 x,endOf r2 y):=⟨JH,JI⟩
  refine ⟨_,(aD (aP (i:=4) aS.nd rfl (Or.inl rfl) (bA jM (hr.mono (by decide)) (aB (zv 0) (aB (zv 1) (aB (zv 2) (aB (zv 3) aC))))))
   (aD (cH (aY (nD fq) (bE (bD K) (bA jM (hr.mono (by decide)) (aB (zv 2) (aB (zv 3) (aB (zv 0) (aB (zv 1) aC))))) aH (fun _ _=>rfl)) (bE (bD K) (zv 4) aH (fun _ _=>rfl)) (gg _)) (aG (aQ kC)) bC)
   (aD (cH (aY (gZ fq) (bE (bD K) (zv 4) aH (fun _ _=>rfl)) bB (gg _)) (aD (cH (aY (sX BA) (bA jM (hr.mono (by decide)) (aB (zv 2) (aB (zv 3) (aB (zv 0) (aB (zv 1) aC))))) (zv 4) (gg _)) (aG (aQ kC)) bC)
   (aD (cH (aY (yX Wt) (bE (bD K) (zv 4) aH (fun _ _=>rfl)) (bG aC) (gg _)) (aG (aQ kC)) bC)
   (aD (aP (i:=5) aS.nd rfl (Or.inl rfl) (dL (Mm K) (bE (bD K) (zv 4) aH (fun _ _=>rfl)) dP (dR aH)))
   (aD (aP (i:=6) aS.nd rfl (Or.inl rfl) (bA iJ (hr.mono (by decide)) (aB (zv 0) (aB (zv 1) (aB (zv 5) aC)))))
   (aD (aP (i:=7) aS.nd rfl (Or.inl rfl) (bA iJ (hr.mono (by decide)) (aB (zv 2) (aB (zv 3) (aB (zv 5) aC)))))
   (aG (aQ (sC (tN BA) (bA jM (hr.mono (by decide)) (aB (zv 0) (aB (zv 6) (aB (zv 2) (aB (zv 7) aC))))) (bG (aE bB (aI (dL (Mm K) (bE (bD K) (zv 4) aH (fun _ _=>rfl)) (dR aH) dP) aC))) (gg _))))))))) bC)
   (aD (gM PassesOwn.never rfl (qF K (bA gX (hr.mono (by decide)) (aB (zv 0) (aB (zv 1) aC)))) (aL (i:=5) aS.nd rfl (Or.inl rfl)) (aD (aP (i:=6) aS.nd rfl (Or.inl rfl) (bA iJ (hr.mono (by decide)) (aB (zv 0) (aB (zv 1) (bS (bG (aB (zv 5) aC)) aC)))))
   (aD (aP (i:=7) aS.nd rfl (Or.inl rfl) (bA iJ (hr.mono (by decide)) (aB (zv 2) (aB (zv 3) (bS (bG (aB (zv 5) aC)) aC)))))
   (aG (cH (tF (nY (bA cE (hr.mono (by decide)) (aB (zv 0) (aB (zv 6) (aB (zv 2) (aB (zv 7) aC))))))) (aG (aQ kC)) bC)))))
   (aG (aQ (sC (UA K BA) (bA gX (hr.mono (by decide)) (aB (zv 0) (aB (zv 1) aC))) (bA gX (hr.mono (by decide)) (aB (zv 2) (aB (zv 3) aC))) (gg _)))))))),?_⟩
  refine aJ ⟨a,b,xs,ys,r1,r2,m1,m2,ws,gf,x,y,rfl,rt,fc,hw,jb,kf,kt,hx,hy,fun F L H1 s1 e1 nb=>?_,fun F R us w H1 s1 e1 eR sv lw=>?_⟩
  ·dsimp only
   refine aO (fun σ' H'=>σ'=[some (.ref a),some (.str x),some (.ref b),some (.str y),some (.ref F),none,none,none]/\aa H1 H') ?_ ?_
   ·intro nx c_
    refine ⟨b,a,ys,xs,r2,r1,m2,m1,gf,ws,y,x,rfl,fc.tk s1.ts,rt.tk s1.ts,jb,hw,kf.same s1,kt.same s1,hy,hx,fun F2 L2 H2 s2 e2 Gz=>?_,fun F2 R2 Ay w2 H2 s2 e2 JJ AS GA=>?_⟩
    ·exact ⟨_,_,.inr (af.of e2),aR _ _,_,_,.inr (af.of (s2 _ _ e1)),aR _ _,rfl,_,rfl,LX (fun c=>absurd rfl c) (fun _=>c_ _ _ ⟨rfl,s2⟩)⟩
    ·obtain ⟨⟨m,g1,g2⟩,_⟩:=GA
     exact absurd g2 (nb.symm _ _ g1)
   rintro σ' H2 ⟨rfl,s2⟩
   have Ex:=s2 _ _ e1
   have s12:=s1.trans s2
   refine aO (fun σ' H'=>σ'=[some (.ref a),some (.str x),some (.ref b),some (.str y),some (.ref F),none,none,none]/\H'=H2) (fun nx c_=>⟨_,_,.inr (af.of Ex),aR _ _,rfl,_,rfl,LW (fun c=>absurd c (by decide+kernel)) (fun _=>c_ _ _ ⟨rfl,rfl⟩)⟩) ?_
   rintro σ' X6 ⟨rfl,rfl⟩
   refine aO (fun σ' H'=>∃ v5 v6 v7,σ'=[some (.ref a),some (.str x),some (.ref b),some (.str y),some (.ref F),v5,v6,v7]/\aa H H') ?_ ?_
   ·intro nx c_
    refine ⟨a,xs,r1,m1,ws,x,rfl,rt.tk s12.ts,hw,hx,kf.same s12,kt.same s12,fun L us H3 hL s3 eL sv=>.inl ⟨⟨us,ak.of eL⟩,?_⟩⟩
    have oz:=s12.trans s3
    have JK:(dw r1 x).map (·.1)=stH (aj r1 (endOf r1 x)):=by simp [dw,stH,Qn,QB]
    rw [JK] at sv
    have X7:=sv.len
    refine dU (e8 us) (fun j σ' H'=>∃ v5 v6 v7,σ'=[some (.ref a),some (.str x),some (.ref b),some (.str y),some (.ref F),v5,v6,v7]/\aa H3 H') ⟨_,_,_,rfl,aa.refl _⟩ (by rintro j σ' H' _ ⟨_,_,_,_,s⟩;exact ak.of (s _ _ eL)) ?_ (by rintro σ' H' ⟨v5,v6,v7,e,s⟩;exact c_ _ _ ⟨v5,v6,v7,e,oz.trans s⟩)
    rintro j σ' H4 hj ⟨v5,v6,v7,rfl,s4⟩
    obtain ⟨sb,g1,g2⟩:=sv.at_ j hj (by omega)
    have eg:us.getD j .ai=.ref sb:=by rw [Qb,Qa hj,g1];rfl
    rw [eg]
    have mr:(stH (aj r1 (endOf r1 x)))[j]'(by omega)∈stH (aj r1 (endOf r1 x)):=Qj _
    generalize (stH (aj r1 (endOf r1 x)))[j]'(by omega)=s at g2 mr
    have JL:s∈stH (aj r2 (endOf r2 y)):=by rw [<- show stH (aj r1 (endOf r1 x))=stH (aj r2 (endOf r2 y)) from nb.me.2];exact mr
    have pb:=po.behind JG jy nb.me mr
    have AR:=oz.trans s4
    refine aJ ⟨(show 1<=sizeLine by decide),fun t1 Bq=>?_⟩
    have s5:=aa.upd Bq (.tup [.ref sb])
    have f5:upd H4 t1 (.tup [.ref sb]) t1=some (.tup [.ref sb]):=aA
    dsimp only
    generalize upd H4 t1 (.tup [.ref sb])=H5 at s5 f5 ⊢
    have GB:=AR.trans s5
    refine ⟨a,t1,xs,_,r1,m1,ws,x,[s],rfl,rt.tk GB.ts,hw,hx,kf.same GB,kt.same GB,f5,SV.one ((g2.same s4).same s5),fun H6 s6=>?_⟩
    rw [nE JH.2 mr]
    have Wu:=GB.trans s6
    refine aJ ⟨(show 1<=sizeLine by decide),fun t2 Jk=>?_⟩
    have s7:=aa.upd Jk (.tup [.ref sb])
    have f7:upd H6 t2 (.tup [.ref sb]) t2=some (.tup [.ref sb]):=aA
    dsimp only
    generalize upd H6 t2 (.tup [.ref sb])=H7 at s7 f7 ⊢
    have GC:=Wu.trans s7
    refine ⟨b,t2,ys,_,r2,m2,gf,y,[s],rfl,fc.tk GC.ts,jb,hy,kf.same GC,kt.same GC,f7,SV.one ((g2.same s4).same ((s5.trans s6).trans s7)),fun H8 s8=>?_⟩
    rw [nE JI.2 JL]
    have GD:=GC.trans s8
    have Ey:=((s5.trans s6).trans s7).trans s8
    have Wv:jh r1 r2 (endOf r1 ((di r1 (endOf r1 x) s).getD ""),endOf r2 ((di r2 (endOf r2 y) s).getD "")):=by
     have h1:=nb.kid mr
     have h2:endOf r1 ((di r1 (endOf r1 x) s).getD "")=(di r1 (endOf r1 x) s).getD "":=pb.a.2
     have h3:endOf r2 ((di r2 (endOf r2 y) s).getD "")=(di r2 (endOf r2 y) s).getD "":=pb.b.2
     rw [h2,h3];exact h1
    refine ⟨a,b,xs,ys,r1,r2,m1,m2,ws,gf,_,_,rfl,rt.tk GD.ts,fc.tk GD.ts,hw,jb,kf.same GD,kt.same GD,pb.a.1,pb.b.1,fun H9 s9 _=>?_,fun H9 s9 h0=>?_⟩
    ·exact ⟨_,rfl,mh ⟨_,_,_,rfl,s4.trans (Ey.trans s9)⟩⟩
    ·obtain ⟨v,m,g1,g2⟩:=h0
     exact absurd g2 (Wv _ _ g1)
   ·rintro σ' H3 ⟨v5,v6,v7,rfl,s3⟩
    refine ⟨a,xs,r1,m1,ws,x,rfl,rt.tk s3.ts,hw,hx,kf.same s3,kt.same s3,fun L us H4 hL s4 eL sv=>?_⟩
    have GF:=s3.trans s4
    refine ⟨b,ys,r2,m2,gf,y,rfl,fc.tk GF.ts,jb,hy,kf.same GF,kt.same GF,fun L2 Ay H5 ML s5 Ww AS=>?_⟩
    have JK:(dw r1 x).map (·.1)=(dw r2 y).map (·.1):=by
     have h1:(dw r1 x).map (·.1)=stH (aj r1 (endOf r1 x)):=by simp [dw,stH,Qn,QB]
     have h2:(dw r2 y).map (·.1)=stH (aj r2 (endOf r2 y)):=by simp [dw,stH,Qn,QB]
     rw [h1,h2];exact nb.me.2
    rw [JK] at sv
    refine ⟨1,1,L,L2,us,Ay,_,_,by decide,rfl,rfl,ak.of (s5 _ _ eL),ak.of Ww,(sv.same s5).Il,AS.Il,fun bo jo=>?_⟩
    have:bo=true:=jo.mpr rfl
    subst this
    exact k H5 (GF.trans s5)
  ·dsimp only
   refine aO (fun σ' H'=>σ'=[some (.ref a),some (.str x),some (.ref b),some (.str y),some (.ref F),none,none,none]/\aa H1 H') ?_ ?_
   ·intro nx c_
    refine ⟨b,a,ys,xs,r2,r1,m2,m1,gf,ws,y,x,rfl,fc.tk s1.ts,rt.tk s1.ts,jb,hw,kf.same s1,kt.same s1,hy,hx,fun F2 L2 H2 s2 e2 Gz=>?_,fun F2 R2 Ay w2 H2 s2 e2 JJ AS GA=>?_⟩
    ·obtain ⟨⟨m,g1,g2⟩,_⟩:=lw
     exact absurd g2 (Gz.symm _ _ g1)
    ·exact ⟨_,_,.inr (af.of e2),aR _ _,_,_,.inr (af.of (s2 _ _ e1)),aR _ _,rfl,_,rfl,LX (fun c=>absurd rfl c) (fun _=>c_ _ _ ⟨rfl,s2⟩)⟩
   rintro σ' H2 ⟨rfl,s2⟩
   have Ex:=s2 _ _ e1
   have NX:=s2 _ _ eR
   have NY:=sv.same s2
   have s12:=s1.trans s2
   refine ⟨_,_,.inr (af.of Ex),aR _ _,rfl,_,rfl,LW (fun _=>?_) (fun c=>absurd rfl c)⟩
   refine aO (fun σ' H'=>σ'=[some (.ref a),some (.str x),some (.ref b),some (.str y),some (.ref F),none,none,none]/\aa H2 H') ?_ ?_
   ·intro nx c_
    refine ⟨b,a,ys,xs,r2,r1,m2,m1,gf,ws,y,x,rfl,fc.tk s12.ts,rt.tk s12.ts,jb,hw,kf.same s12,kt.same s12,hy,hx,fun F2 L2 H3 s3 e2 Gz=>?_,fun F2 R2 Ay w2 H3 s3 e2 JJ AS GA=>?_⟩
    ·obtain ⟨⟨m,g1,g2⟩,_⟩:=lw
     exact absurd g2 (Gz.symm _ _ g1)
    ·have ew:=lw.sw.wm GA
     subst ew
     rw [xH] at AS
     refine ⟨3,3,_,_,F2,F,by decide,rfl,rfl,jP e2 JJ AS,jP (s3 _ _ Ex) (s3 _ _ NX) (NY.same s3),fun bo jo=>?_⟩
     have:bo=true:=jo.mpr rfl
     subst this
     exact ⟨_,rfl,mh (c_ _ _ ⟨rfl,s3⟩)⟩
   rintro σ' H3 ⟨rfl,s3⟩
   have NZ:=s3 _ _ Ex
   have N4:=s3 _ _ NX
   have Wx:=NY.same s3
   have oz:=s12.trans s3
   have ul:=sv.len
   refine aO (fun σ' H'=>σ'=[some (.ref a),some (.str x),some (.ref b),some (.str y),some (.ref F),none,none,none]/\aa H3 H'/\us≠[]) ?_ ?_
   ·intro nx c_
    refine ⟨_,_,.inr (af.of NZ),rfl,(show 0<=sizeLine by decide),fun t0 CB=>?_⟩
    have s4:=aa.upd CB (.tup [])
    refine ⟨R,t0,us,rfl,rfl,s4 _ _ N4,aA,_,rfl,ic (fun c=>?_) (fun c=>?_)⟩
    ·exact k _ (oz.trans s4)
    ·exact c_ _ _ ⟨rfl,s4,fun z=>by rw [z] at c;cases c⟩
   rintro σ' H4 ⟨rfl,s4,N5⟩
   have N6:=s4 _ _ NZ
   have GG:=s4 _ _ N4
   have JM:=Wx.same s4
   have JN:=oz.trans s4
   obtain ⟨kk,w',rfl⟩:∃ kk w',w=kk::w':=by
    cases w with
    | nil=>exact absurd (QS ul) N5
    | cons kk w'=>exact ⟨kk,w',rfl⟩
   obtain ⟨s0,me,mr,Wy,N7⟩:=lw.first
   have mr:s0∈stH (aj r1 (endOf r1 x)):=mr
   have JL:s0∈stH (aj r2 (endOf r2 y)):=by rw [<- show stH (aj r1 (endOf r1 x))=stH (aj r2 (endOf r2 y)) from me.2];exact mr
   have pb:=po.behind JG jy me mr
   rw [Wy] at JM ul
   obtain ⟨u0,gq,rfl⟩:∃ u0 gq,us=u0::gq:=by
    cases us with
    | nil=>exact absurd rfl N5
    | cons u0 gq=>exact ⟨u0,gq,rfl⟩
   obtain ⟨sb,g1,g2⟩:=JM.at_ 0 (by simp) (by simp)
   have g1:u0=.ref sb:=g1
   subst g1
   have g2:ao H4 sb (s0.map V.str):=g2
   have Wz:SV H4 gq (j_ (cz r1 r2) (fu r1 r2 (endOf r1 x,endOf r2 y) s0) w'):=⟨by simpa using ul,fun i h1 h2=>by
    have:=JM.at_ (i+1) (by simpa using h1) (by simpa using h2)
    simpa using this⟩
   /- A6 first step alone -/
   refine aO (fun σ' H'=>∃ t1,σ'=[some (.ref a),some (.str x),some (.ref b),some (.str y),some (.ref F),some (.ref t1),none,none]/\aa H4 H'/\H' t1=some (.tup [.ref sb])) ?_ ?_
   ·intro nx c_
    refine ⟨_,_,.inr (af.of N6),rfl,1,rfl,?_⟩
    by_cases h0:gq=[]
    ·subst h0
     exact Or.inr ⟨R,_,rfl,af.of GG,⟨rfl,rfl⟩,c_ _ _ ⟨R,rfl,aa.refl _,GG⟩⟩
    ·refine Or.inl ⟨R,_,rfl,af.of GG,?_,fun t1 Bq=>?_⟩
     ·rintro ⟨_,z⟩
      have h1:HT.bf (V.ref sb::gq).length (V.ref sb::gq).length (some ((1:Nat):Int))=min 1 (V.ref sb::gq).length:=HT.eK _ _ _
      have h2:0 < gq.length:=by
       cases gq with
       | nil=>exact absurd rfl h0
       | cons _ _=>simp
      have z':HT.bf (V.ref sb::gq).length (V.ref sb::gq).length (some ((1:Nat):Int))=(V.ref sb::gq).length:=z
      rw [h1] at z'
      simp only [List.length_cons] at z'
      omega
     ·have ec:jq (V.ref sb::gq) none (some 1)=[.ref sb]:=(mR _ 1).trans rfl
      rw [ec]
      exact c_ _ _ ⟨t1,rfl,aa.upd Bq _,aA⟩
   rintro σ' H5 ⟨t1,rfl,s5,f5⟩
   have GH:=JN.trans s5
   refine aJ ⟨a,t1,xs,_,r1,m1,ws,x,[s0],rfl,rt.tk GH.ts,hw,hx,kf.same GH,kt.same GH,f5,SV.one (g2.same s5),fun H6 s6=>?_⟩
   rw [nE JH.2 mr]
   have GI:=GH.trans s6
   dsimp only
   refine aJ ⟨b,t1,ys,_,r2,m2,gf,y,[s0],rfl,fc.tk GI.ts,jb,hy,kf.same GI,kt.same GI,s6 _ _ f5,SV.one ((g2.same s5).same s6),fun H7 s7=>?_⟩
   rw [nE JI.2 JL]
   have Ez:=GI.trans s7
   have Gj:=(s5.trans s6).trans s7
   have N9:endOf r1 ((di r1 (endOf r1 x) s0).getD "")=(di r1 (endOf r1 x) s0).getD "":=pb.a.2
   have N_:endOf r2 ((di r2 (endOf r2 y) s0).getD "")=(di r2 (endOf r2 y) s0).getD "":=pb.b.2
   dsimp only
   refine ⟨a,b,xs,ys,r1,r2,m1,m2,ws,gf,_,_,rfl,rt.tk Ez.ts,fc.tk Ez.ts,hw,jb,kf.same Ez,kt.same Ez,pb.a.1,pb.b.1,fun F3 L3 H8 s8 e3 Oa=>?_,fun F3 R3 Tn w3 H8 s8 e3 WA Eh Ob=>?_⟩
   ·rw [N9,N_] at Oa
    obtain ⟨⟨m,q1,q2⟩,_⟩:=N7
    exact absurd q2 (Oa _ _ q1)
   ·rw [N9,N_] at Ob Eh
    have ew:w3=w':=Ob.wm N7
    subst ew
    have Ey:=Gj.trans s8
    refine ⟨_,_,.inr (af.of (Ey _ _ N6)),rfl,1,rfl,Or.inl ⟨R,_,rfl,af.of (Ey _ _ GG),?_,fun t9 WB=>?_⟩⟩
    ·rintro ⟨z,_⟩
     have h1:HT.bf (V.ref sb::gq).length 0 (some ((1:Nat):Int))=min 1 (V.ref sb::gq).length:=HT.eK _ _ _
     have z':HT.bf (V.ref sb::gq).length 0 (some ((1:Nat):Int))=0:=z
     rw [h1] at z'
     simp only [List.length_cons] at z'
     omega
    ·have ec:jq (V.ref sb::gq) (some 1) none=gq:=(i9 _ 1).trans rfl
     rw [ec]
     have s9:=aa.upd WB (.tup gq)
     have f9:upd H8 t9 (.tup gq) t9=some (.tup gq):=aA
     dsimp only
     generalize upd H8 t9 (.tup gq)=H9 at s9 f9 ⊢
     refine ⟨(show 2<=sizeLine by decide),fun CT WC=>?_⟩
     have kh:=aa.upd WC (.tup [.str "unlike",.ref t9])
     have Oc:upd H9 CT (.tup [.str "unlike",.ref t9]) CT=some (.tup [.str "unlike",.ref t9]):=aA
     generalize upd H9 CT (.tup [.str "unlike",.ref t9])=CJ at kh Oc ⊢
     refine ⟨3,3,_,_,F3,CT,by decide,rfl,rfl,jP ((s9.trans kh) _ _ e3) ((s9.trans kh) _ _ WA) (Eh.same (s9.trans kh)),jP Oc (kh _ _ f9) (Wz.same ((Ey.trans s9).trans kh)),fun bo jo=>?_⟩
     have:bo=true:=jo.mpr rfl
     subst this
     exact k _ (((Ez.trans s8).trans s9).trans kh)
def JO (K:Q0) (mg:Str->Option Value):Sp:=fun vs H Q _=>∃ (a:Addr) (ns:List Int),vs=[.ref a]/\ak K H a (ns.map V.int)/\ns.length<=63/\(Kn mg H "FROM" [.str "from"]/\Kn mg H "TO" [.str "to"])/\∀ H',Q (.bl true) H'
theorem xK {ns:List Int} (hs:ak K H a (ns.map V.int)) (hp:H p=none):bz K H (upd H p (.lst [.ref a,.int 0,.int 0])) p 0:=by
 refine ⟨⟨a,ns,0,0,aA,fun H' sm=>?_,by omega,by omega⟩,(aa.upd hp _).sm⟩
 rcases hs with h | h
 ·refine .inl ?_
  have n:a≠p:=fun z=>by rcases h with h | ⟨o,h⟩<;>(rw [z,hp] at h;cases h)
  exact h.imp (fun e=>sm _ _ e n n) fun ⟨o,e⟩=>⟨o,sm _ _ e n n⟩
 ·exact .inr h
theorem Kn.GJ {t:Nat} {ys:List V} (h:Kn mg H0 x ys) (hp:H0 p=none) (hn:bz K H0 H p t):Kn mg H x ys:=by
 obtain ⟨o,e⟩:=h
 have n:adr mg x≠p:=fun z=>by rw [z,hp] at e;cases e
 exact ⟨o,hn.sm _ _ e n n⟩
theorem WD {c:Nat} (h:jj (("qr":Str).cps.toList) (j:Int)=some c) (h':(⟨#[c]⟩:Str)="q"\/(⟨#[c]⟩:Str)="r") (x:Str):lq x (x++⟨#[c]⟩):=by
 rcases h' with h' | h'
 ·rw [h'];exact .inl rfl
 ·rw [h'];exact .inr rfl
set_option maxHeartbeats 4000000 in
theorem WE (T:Txt K mg w):az P w K mg base 14 "law" ["script"] (JO K mg):=by
 have aM:az P w K mg base 2 "_law_next" ["_law_pen","_law_many"] (yl K):=bI T
 have lH:az P w K mg base 5 "_law_telling" ["_law_pen","_law_most"] (MI K):=k0 T
 have lP:az P w K mg base 3 "_law_any" ["_law_pen","_law_told"] (MQ K):=rD T
 have qX:az P w K mg base 4 "_law_twin" ["_law_pen","_law_told"] (Ng K):=nW T
 have rP:az P w K mg base 5 "_law_bent" ["_law_pen","_law_told"] (Nj K):=pJ T
 have cE:az P w K mg base 6 "are_alike" ["T","x","S","y"] (JF mg):=iM T
 have gW:az P w K mg base 7 "_law_behind_steps" ["_law_told","_law_name","_law_other","_law_twin_name"] (NW mg):=gH T
 refine T.Ms.fz cV (fun vs H Q E h=>?_) (fun f ay A outer s H vs Q E hr h=>?_)
 ·obtain ⟨a,ns,rfl,_⟩:=h
  rfl
 ·refine hdn fun Gz9 zG9=>?_;obtain ⟨sc,cells,rfl,WG,X8,⟨kf,kt⟩,k⟩:=h;refine zG9 ?_
  have hu:=aX hr
  have fq:=Qx (aX hr)
  have hsz:sizeLine=16777216:=QL
  have hw:∀ z∈WW,Wd z:=fun z hz=>(My z hz).2
  refine ⟨_,(aD (aP (i:=1) cV.nd rfl (Or.inl rfl) (d5 (aB (zv 0) (aE aH (aE aH aC)))))
   (aD (gM PassesOwn.never rfl (kL (by rfl) T.mH (aE aH aC)) (aL (i:=2) cV.nd rfl (Or.inl rfl)) (aD (aP (i:=3) cV.nd rfl (Or.inl rfl) (bA lH (hr.mono (by decide)) (aB (zv 1) (aE aH aC))))
   (aD (aP (i:=4) cV.nd rfl (Or.inl rfl) (bA qX (hr.mono (by decide)) (aB (zv 1) (aB (zv 3) aC))))
   (aD (aP (i:=5) cV.nd rfl (Or.inl rfl) (zv 4))
   (aD (cH (aY (gZ fq) (bA aM (hr.mono (by decide)) (aB (zv 1) (aE aH aC))) aH (gg _)) (aG (aP (i:=5) cV.nd rfl (Or.inl rfl) (bA rP (hr.mono (by decide)) (aB (zv 1) (aB (zv 4) aC))))) bC)
   (aD (aP (i:=6) cV.nd rfl (Or.inl rfl) (bA lP (hr.mono (by decide)) (aB (zv 1) (aB (zv 3) aC))))
   (aD (cH (tF (nY (bA cE (hr.mono (by decide)) (aB (zv 3) (aB (zv 6) (aB (zv 3) (aB (zv 6) aC))))))) (aG (aQ kC)) bC)
   (aD (gM PassesOwn.never rfl (qF K (d5 (aE bB (aE bB aC)))) (aL (i:=7) cV.nd rfl (Or.inl rfl)) (aG (cH (tF (nY (bA cE (hr.mono (by decide)) (aB (zv 3) (aB (zv 6) (aB (zv 4) (g7 (bT bM (zv 6) (zv 7)) aC))))))) (aG (aQ kC)) bC)))
   (aG (gM PassesOwn.never rfl (kL (by rfl) T.mH (aE aH aC)) (aL (i:=8) cV.nd rfl (Or.inl rfl)) (aD (aP (i:=9) cV.nd rfl (Or.inl rfl) (bA lP (hr.mono (by decide)) (aB (zv 1) (aB (zv 5) aC))))
   (aD (aP (i:=10) cV.nd rfl (Or.inl rfl) (bA cE (hr.mono (by decide)) (aB (zv 3) (aB (zv 6) (aB (zv 5) (aB (zv 9) aC))))))
   (aD (cH (aY (nD fq) (bA cE (hr.mono (by decide)) (aB (zv 4) (g7 (bT bM (zv 6) (bE (bD K) bB (zv 8) (fun _ _=>rfl))) (aB (zv 5) (aB (zv 9) aC))))) (zv 10) (gg _)) (aG (aQ kC)) bC)
   (aG (cH (tF (nY (bA gW (hr.mono (by decide)) (aB (zv 3) (aB (zv 6) (aB (zv 5) (aB (zv 9) aC))))))) (aG (aQ kC)) bC)))))))))))))))
   (aG (aQ kC)))),?_⟩
  refine aJ ⟨(show 3<=sizeLine by decide),fun p hp=>?_⟩
  have Od:=xK WG hp
  dsimp only
  generalize upd H p (.lst [.ref sc,.int 0,.int 0])=H1 at Od
  refine aO (fun σ' H'=>True) ?_ (fun σ' H' _=>k H')
  intro nx c_
  refine ⟨4,rfl,by decide,by decide,?_⟩
  refine dU (iT 0 4) (fun i σ' H'=>∃ v2 v3 v4 v5 v6 v7 v8 v9 v10,σ'=[some (.ref sc),some (.ref p),v2,v3,v4,v5,v6,v7,v8,v9,v10]/\bz K H H' p (i*1300))
   ⟨none,none,none,none,none,none,none,none,none,rfl,Od⟩ (fun _ _ _ _ _=>trivial) ?_ (fun σ' H' _=>c_ _ _ trivial)
  rintro i σ' H2 hi z0;refine hdn fun Gz9 zG9=>?_;obtain ⟨v2,v3,v4,v5,v6,v7,v8,v9,v10,rfl,hn2⟩:=z0;refine zG9 ?_
  have X9:i < 4:=hi
  refine aJ ⟨H,p,6,i*1300,rfl,hn2,by omega,⟨by decide,by decide⟩,fun a xs rows ns H3 Oe hl h8 kg gu=>?_⟩
  refine aJ ⟨H,p,a,_,xs,rows,ns,rfl,kg,by omega,Oe,h8,by omega,fun b ys dc H4 GK tw iz t_=>?_⟩
  have By:=Oe.tk (kg.ts t_)
  have ts:wq rows dc ns (dbl ns):=⟨By.jy hw,GK.jy hw,tw,fun x hx c hc=>cI.mpr ⟨x,hx,by rcases hc with rfl | rfl<;>simp⟩⟩
  refine uY rfl ?_
  dsimp only
  refine aO (fun σ' H'=>∃ (b3:Addr) (zs:List V) (uy:List ae),σ'=[some (.ref sc),some (.ref p),some (.int (0+(i:Int))),some (.ref a),some (.ref b),some (.ref b3),v6,v7,v8,v9,v10]/\RT H' a xs rows ns WW/\RT H' b ys dc (dbl ns) WW/\RT H' b3 zs uy (dbl ns) WW/\bz K H H' p (i*1300+1250)) ?_ ?_
  ·intro yp xf
   refine ⟨H,p,2,_,rfl,iz,⟨by decide,by decide⟩,by omega,fun r H5 r0 r1 nc gn=>⟨rfl,_,rfl,ic (fun c=>?_) (fun c=>?_)⟩⟩
   ·have Of:=GK.tk (iz.ts gn)
    have WH:=By.tk (iz.ts gn)
    refine ⟨H,p,b,_,ys,dc,dbl ns,rfl,nc,by omega,Of,fun b3 zs uy H6 JP CU Og=>?_⟩
    exact xf _ _ ⟨b3,zs,uy,rfl,WH.tk (nc.ts Og),Of.tk (nc.ts Og),JP,CU.mono (by omega)⟩
   ·exact xf _ _ ⟨b,ys,dc,rfl,By.tk (iz.ts gn),GK.tk (iz.ts gn),GK.tk (iz.ts gn),nc.mono (by omega)⟩
  rintro σ' H6 z0;refine hdn fun Gz9 zG9=>?_;obtain ⟨b3,zs,uy,rfl,Oh,WI,JP,CU⟩:=z0;refine zG9 ?_
  refine aJ ⟨H,p,a,_,xs,rows,ns,WW,rfl,CU,by omega,Oh,fun x H7 hx JQ CS=>?_⟩
  have GL:=Oh.tk (CU.ts CS)
  have Oi:=WI.tk (CU.ts CS)
  have WJ:=JP.tk (CU.ts CS)
  have Oj:=Kn.GJ kf hp JQ
  have CK:=Kn.GJ kt hp JQ
  have xl:x.length<=8:=dG (lQ _ (h8 _ hx)).1
  have xm:∀ x',lq x x'->x'∈dbl ns:=fun x' h=>cI.mpr ⟨x,hx,h⟩
  dsimp only
  refine aO (fun σ' H'=>σ'=[some (.ref sc),some (.ref p),some (.int (0+(i:Int))),some (.ref a),some (.ref b),some (.ref b3),some (.str x),v7,v8,v9,v10]/\aa H7 H') ?_ ?_
  ·intro yp xf
   refine ⟨a,a,xs,xs,rows,rows,ns,ns,WW,WW,x,x,rfl,GL,GL,hw,hw,Oj,CK,hx,hx,fun H8 s8 _=>⟨_,rfl,mh (xf _ _ ⟨rfl,s8⟩)⟩,fun H8 s8 ⟨v,m,g1,g2⟩=>absurd g2 (jh.refl _ _ g1)⟩
  rintro σ' H8 ⟨rfl,s8⟩
  refine aO (fun σ' H'=>∃ v7,σ'=[some (.ref sc),some (.ref p),some (.int (0+(i:Int))),some (.ref a),some (.ref b),some (.ref b3),some (.str x),v7,v8,v9,v10]/\aa H7 H') ?_ ?_
  ·intro yp xf
   refine ⟨(show 2<=sizeLine by decide),fun L hL=>?_⟩
   have s9:=s8.trans (aa.upd hL (.lst [.str "q",.str "r"]))
   have e9:upd H8 L (.lst [.str "q",.str "r"]) L=some (.lst ((["q","r"]:List Str).map V.str)):=aA
   generalize upd H8 L (.lst [.str "q",.str "r"])=H9 at s9 e9 ⊢
   refine .inl ⟨⟨_,ak.of e9⟩,?_⟩
   refine dU (e8 ((["q","r"]:List Str).map V.str)) (fun j σ' H'=>∃ v7,σ'=[some (.ref sc),some (.ref p),some (.int (0+(i:Int))),some (.ref a),some (.ref b),some (.ref b3),some (.str x),v7,v8,v9,v10]/\aa H7 H'/\aa H9 H') ⟨_,rfl,s9,aa.refl _⟩ (by rintro j σ' H' _ ⟨_,_,_,s⟩;exact ak.of (s _ _ e9)) ?_ (by rintro σ' H' ⟨v7,e,s,_⟩;exact xf _ _ ⟨v7,e,s⟩)
   rintro j σ' CJ hj ⟨v7,rfl,kh,CT⟩
   obtain ⟨c,ec,hc⟩:∃ c:Str,((["q","r"]:List Str).map V.str).getD j .ai=.str c/\(c="q"\/c="r"):=by
    have CA:j < 2:=hj
    match j,CA with
    | 0,_=>exact ⟨"q",rfl,.inl rfl⟩
    | 1,_=>exact ⟨"r",rfl,.inr rfl⟩
   rw [ec]
   have EA:lq x (x++c):=by rcases hc with rfl | rfl;exact .inl rfl;exact .inr rfl
   have cl:c.length=1:=by rcases hc with rfl | rfl<;>rfl
   have nb:=ts.alike hx EA
   refine ⟨by omega,a,b,xs,ys,rows,dc,ns,dbl ns,WW,WW,x,x++c,rfl,GL.tk kh.ts,Oi.tk kh.ts,hw,hw,Oj.same kh,CK.same kh,hx,xm _ EA,fun EB JR _=>⟨_,rfl,mh ⟨_,rfl,kh.trans JR,CT.trans JR⟩⟩,fun EB JR ⟨v,m,g1,g2⟩=>absurd g2 (nb _ _ g1)⟩
  rintro σ' H9 ⟨v7,rfl,s9⟩
  have WK:=JQ.same s9
  refine ⟨2,rfl,by decide,by decide,?_⟩
  refine dU (iT 0 2) (fun j σ' H'=>∃ v8 v9 v10,σ'=[some (.ref sc),some (.ref p),some (.int (0+(i:Int))),some (.ref a),some (.ref b),some (.ref b3),some (.str x),v7,v8,v9,v10]/\RT H' a xs rows ns WW/\RT H' b ys dc (dbl ns) WW/\RT H' b3 zs uy (dbl ns) WW/\bz K H H' p (i*1300+1251+j))
   ⟨_,_,_,rfl,GL.tk s9.ts,Oi.tk s9.ts,WJ.tk s9.ts,WK⟩ (fun _ _ _ _ _=>trivial) ?_ ?_
  ·rintro j σ' CJ hj z0;refine hdn fun Gz9 zG9=>?_;obtain ⟨v8,v9,v10,rfl,Ol,Om,JS,CW⟩:=z0;refine zG9 ?_
   have CA:j < 2:=hj
   refine aJ ⟨H,p,b3,_,zs,uy,dbl ns,WW,rfl,CW,by omega,JS,fun y EB hy JT JU=>?_⟩
   have JV:=Ol.tk (CW.ts JU)
   have Oo:=Om.tk (CW.ts JU)
   have GN:=JS.tk (CW.ts JU)
   have JW:=Kn.GJ kf hp JT
   have JX:=Kn.GJ kt hp JT
   have fin:∀ {H':Hp} {w9 CO:Option V},aa EB H'->∃ v8 v9 v10,([some (.ref sc),some (.ref p),some (.int (0+(i:Int))),some (.ref a),some (.ref b),some (.ref b3),some (.str x),v7,some (.int (0+(j:Int))),w9,CO]:St)=[some (.ref sc),some (.ref p),some (.int (0+(i:Int))),some (.ref a),some (.ref b),some (.ref b3),some (.str x),v7,v8,v9,v10]/\RT H' a xs rows ns WW/\RT H' b ys dc (dbl ns) WW/\RT H' b3 zs uy (dbl ns) WW/\bz K H H' p (i*1300+1251+(j+1)):=fun s'=>⟨_,_,_,rfl,JV.tk s'.ts,Oo.tk s'.ts,GN.tk s'.ts,(JT.same s').mono (by omega)⟩
   obtain ⟨c,ip,k_⟩:=yG j CA
   have EA:=WD ip k_ x
   have cl:(⟨#[c]⟩:Str).length=1:=rfl
   have nb:=ts.alike hx EA
   dsimp only
   refine aO (fun σ' H'=>∃ bo:Bool,σ'=[some (.ref sc),some (.ref p),some (.int (0+(i:Int))),some (.ref a),some (.ref b),some (.ref b3),some (.str x),v7,some (.int (0+(j:Int))),some (.str y),some (.bl bo)]/\aa EB H'/\(bo=true↔jh rows uy (endOf rows x,endOf uy y))) ?_ ?_
   ·intro Np AN
    refine ⟨a,b3,xs,zs,rows,uy,ns,dbl ns,WW,WW,x,y,rfl,JV,GN,hw,hw,JW,JX,hx,hy,fun Oq s12 h0=>AN _ _ ⟨true,rfl,s12,⟨fun _=>h0,fun _=>rfl⟩⟩,fun Oq s12 ⟨v,m,g1,g2⟩=>AN _ _ ⟨false,rfl,s12,⟨(fun z=>nomatch z),(fun z=>absurd g2 (z _ _ g1))⟩⟩⟩
   rintro σ' Oq ⟨bo,rfl,s12,jo⟩
   refine aO (fun σ' H'=>σ'=[some (.ref sc),some (.ref p),some (.int (0+(i:Int))),some (.ref a),some (.ref b),some (.ref b3),some (.str x),v7,some (.int (0+(j:Int))),some (.str y),some (.bl bo)]/\aa EB H') ?_ ?_
   ·intro Np AN
    refine ⟨(show 2<=sizeLine by decide),c,by rw [Int.zero_add];exact ip,⟨by show x.length+1<=sizeLine;omega,?_⟩⟩
    refine ⟨b,b3,ys,zs,dc,uy,dbl ns,dbl ns,WW,WW,x++⟨#[c]⟩,y,rfl,Oo.tk s12.ts,GN.tk s12.ts,hw,hw,JW.same s12,JX.same s12,xm _ EA,hy,fun Ot oz h0=>?_,fun Ot oz ⟨v,m,g1,g2⟩=>?_⟩
    ·have:bo=true:=jo.mpr (nb.trans h0)
     subst this
     exact ⟨rfl,_,rfl,mh (AN _ _ ⟨rfl,s12.trans oz⟩)⟩
    ·have:bo=false:=by
      cases bo with
      | false=>rfl
      | true=>exact absurd g2 ((nb.symm.trans (jo.mp rfl)) _ _ g1)
     subst this
     exact ⟨rfl,_,rfl,mh (AN _ _ ⟨rfl,s12.trans oz⟩)⟩
   rintro σ' Ot ⟨rfl,oz⟩
   refine ⟨a,b3,xs,zs,rows,uy,ns,dbl ns,WW,WW,x,y,rfl,JV.tk oz.ts,GN.tk oz.ts,hw,hw,JW.same oz,JX.same oz,hx,hy,fun X_ JN=>⟨_,rfl,mh (fin (oz.trans JN))⟩⟩
  ·rintro σ' CJ z0;refine hdn fun Gz9 zG9=>?_;obtain ⟨v8,v9,v10,rfl,Ol,Om,JS,CW⟩:=z0;refine zG9 ?_
   exact ⟨_,_,_,_,_,_,_,_,_,rfl,CW.mono (by omega)⟩
end
abbrev pw:=PySem.Challenge.pw_coilkind_k23_whole_alike_goes_on
abbrev uz:=PySem.Challenge.rw_coilkind_k23_whole_alike_goes_on
def view:Program:={pw with main:={pw.main with body:=([1,2,3,4,5,6,8,9,10,11,12,13,14,15,16,18,19,20,21,22,23,24,26,27,28,29,30,31,32,33,34,35,36,37,38,39,40,41]:List Nat).filterMap fun i=>pw.main.body[i]?}}
def fns:List (Str×Stmt):=[⟨"row_of",kN⟩,⟨"head_of",iW⟩,⟨"heads_of",eJ⟩,⟨"rows_of",iO⟩,⟨"names_in",eP⟩,⟨"steps_of",h9⟩,⟨"end_of",jU⟩,⟨"steps_in",eQ⟩,⟨"moves_in",fC⟩,⟨"road_back",fQ⟩,⟨"alike",n6⟩,⟨"are_alike",fO⟩,⟨"parting_road",dH⟩,⟨"put_in_one",eW⟩,⟨"top_of",jX⟩,⟨"pairs_behind",cK⟩,⟨"pairs_met",fT⟩,⟨"_law_fill",gT⟩,⟨"_law_next",i4⟩,⟨"_law_turned",fE⟩,⟨"_law_words",dQ⟩,⟨"_law_head",fG⟩,⟨"_law_telling",dZ⟩,⟨"_law_any",iY⟩,⟨"_law_twin_head",bR⟩,⟨"_law_twin",gU⟩,⟨"_law_bent",eO⟩,⟨"_law_behind_steps",cC⟩,⟨"law",jV⟩]
def vals:List (Str×V):=[]
def tups:List (Str×List V):=[⟨"WORDED",[.str "box",.str "pick"]⟩]
def Ou:List (Str×List qf):=[⟨"STEP_WORDS",[⟨"box",.inl (.str "part")⟩,⟨"pick",.inl (.str "case")⟩]⟩]
def WL:List Str:=["len","range","list","tuple","dict","zip"]
def ki:List (Str×List V):=[⟨"FROM",[.str "from"]⟩,⟨"TO",[.str "to"]⟩]
def Ov:List AA:=[⟨"Net","Net.__init__",cP,["rows","heads","marks","moves"]⟩]
def look (K:Q0):=(Au (without K (we K ki)) fns,Ls (without K (we K ki)) vals,Aw (without K (we K ki)) tups,HK (without K (we K ki)) Ou,Ci (without K (we K ki)) WL,Aw K ki,decide (we K ki).Nodup,DQ (without K (we K ki)) Ov)
def want (w:World):=(Av fns,Lu vals,Ax tups,HL w Ou,true,Ax ki,true,DR Ov)
theorem WM (w:World):(PySem.W.openEnds treeTable pw (w.withFollow "special-get-raises" false) 2832).map (fun s=>(PySem.W.openSeen view ["STEP_WORDS"] (PySem.importedModules pw.main.body) (fun s=>PySem.W.xlAt view [] s&&PySem.W.recOk [] s) true s,(wc look want).obs s))=some (PySem.W.openGood view ["STEP_WORDS"],(wc look want).val (w.withFollow "special-get-raises" false)):=by kernel_rfl
theorem WO (w:World):(PySem.W.openEnds treeTable pw (w.withFollow "special-get-raises" true) 2832).map (fun s=>(PySem.W.openSeen view ["STEP_WORDS"] (PySem.importedModules pw.main.body) (fun s=>PySem.W.xlAt view [] s&&PySem.W.recOk [] s) true s,(wc look want).obs s))=some (PySem.W.openGood view ["STEP_WORDS"],(wc look want).val (w.withFollow "special-get-raises" true)):=by kernel_rfl
theorem yZ {K:Q0} (X:K.In h) (G:h.Ns mainGlobals mg) (e:look K=want w):U8 K mg w:=by
 obtain ⟨eF,e⟩:=Prod.mk.inj e
 obtain ⟨eV,e⟩:=Prod.mk.inj e
 obtain ⟨eT,e⟩:=Prod.mk.inj e
 obtain ⟨eD,e⟩:=Prod.mk.inj e
 obtain ⟨eN,e⟩:=Prod.mk.inj e
 obtain ⟨eR,e⟩:=Prod.mk.inj e
 obtain ⟨eU,eC⟩:=Prod.mk.inj e
 obtain ⟨ts,r1,r2,r3⟩:=xJ X G eR rfl
 have X':=qO (as:=we K ki) X
 have rL:=sW X G eR 0 (x:="FROM") rfl
 have IA:=sW X G eR 1 (x:="TO") rfl
 obtain ⟨WQ,Yb,WR,WS,nV⟩:=Tq X' G (pB eD 0 (x:="STEP_WORDS") rfl) rfl (by decide+kernel)
 obtain ⟨Yc,rfl,WT⟩:=Lv WS
 obtain ⟨Yd,rfl,WU⟩:=Lv WT
 obtain rfl:=Tp WU
 refine ⟨ts,r2,by rw [r1];exact Qt eU,?_,fun H hH=>⟨wH (r3 0 "FROM" _ rfl) hH,wH (r3 1 "TO" _ rfl) hH⟩⟩
 rw [r1]
 exact ⟨nn X' G eN 0,
  nn X' G eN 1,
  nn X' G eN 2,
  nn X' G eN 3,
  nn X' G eN 4,
  nn X' G eN 5,
  tu X' G eT 0,
  rL,
  IA,
  ⟨WQ,WR,nV⟩,
  qe X' G eF 0,
  qe X' G eF 1,
  Cj X' G eF 2,
  Cj X' G eF 3,
  Cj X' G eF 4,
  qe X' G eF 5,
  Ck X' G eF 6,
  Cj X' G eF 7,
  qe X' G eF 8,
  qe X' G eF 9,
  HH X' G eF 10,
  HH X' G eF 11,
  Ck X' G eF 12,
  Ck X' G eF 13,
  qe X' G eF 14,
  Ck X' G eF 15,
  Ck X' G eF 16,
  qe X' G eF 17,
  qe X' G eF 18,
  qe X' G eF 19,
  Cj X' G eF 20,
  Ck X' G eF 21,
  qe X' G eF 22,
  qe X' G eF 23,
  qe X' G eF 24,
  qe X' G eF 25,
  qe X' G eF 26,
  HH X' G eF 27,
  Cj X' G eF 28,
  Tu X' G eC 0⟩
def AU:DefRec:=⟨"law",rj jV,jr jV,be jV,(match jV with | .FunctionDef _ _ _ _ _ _ _ _ _ p=>p | _=>⟨0,0,0,0⟩)⟩
theorem walk:PySem.W.WalkO view ["STEP_WORDS"] XP (wc look want).says uz.row.toRowW AU [] (fun f vs=>PySem.call f vs):=
 wT (l:=uz) (n:=63) (k:=14) (x:="script") rfl (by decide) rfl ⟨rfl,by decide,by decide,rfl⟩ fun w mg fa h K X e G BZ=>by
  obtain ⟨ts,As,nd,T,hk⟩:=yZ X G e
  obtain ⟨f,fd,Fu,m,b⟩:=T.Ms
  rw [show AU.name="law" from rfl,m] at BZ
  cases BZ
  refine ⟨ts,fd,JO (without K (ts.map (·.1))) mg,As,nd,fun s u=>?_,fun base kb nb=>?_,fun H a ns hl ht hS=>⟨a,ns,rfl,hS,hl,hk H ht,fun _=>rfl⟩⟩
  ·refine hdn fun Gz9 zG9=>?_;obtain ⟨oc,od,kV,doc,pm,an,ay,ct,ky,rfl,lk,jc⟩:=Fu.ex;refine zG9 ?_
   exact .of_eq rfl
  ·refine hdn fun Gz9 zG9=>?_;obtain ⟨f',WV,G',m',k',b',Ye,Yg,Yh,Ox⟩:=(WE T:az uz.prog w (without K (ts.map (·.1))) mg base 14 "law" ["script"] (JO (without K (ts.map (·.1))) mg));refine zG9 ?_
   rw [m] at m'
   cases m'
   have e:fd=WV:=by
    refine hdn fun Gz9 zG9=>?_;obtain ⟨oc,od,kV,doc,pm,an,ay,ct,ky,e1,lk,jc⟩:=Fu.ex;refine zG9 ?_
    rw [lk] at Ox
    have:=QD Ox
    injection this with _ _ h3 _
    injection h3
   rw [e];exact G'
theorem hdef:PySem.W.defOf view uz.row.name=some (AU,[]):=by kernel_rfl
theorem hprog:uz.row.prog.theDef uz.row.name=some (AU.params,AU.body,AU.scope):=by kernel_rfl
theorem hkw:PySem.W.kwWritten? AU.params.kwonlyargs AU.params.kw_defaults=some []:=by kernel_rfl
theorem hok:(PySem.W.chainsOk view&&PySem.W.opensWell uz.row.prog&&(PySem.W.frees uz.row.toRowW&&uz.row.within.isEmpty))=true:=by kernel_rfl
theorem hbare:uz.row.prog.bare:=⟨rfl,rfl,rfl,rfl,rfl,by decide+kernel⟩
theorem WX:uz.row.toRowW.promised:=by w_witness2
theorem said:uz.wellSaid=true:=by
 refine zI (p:=pw) rfl ?_ ?_ ?_ ?_ ?_ ?_ ?_ ?_ ?_ ?_ ?_ ?_ ?_ ?_ ?_ ?_ ?_ ?_ ?_ ?_ ?_ ?_ ?_ ?_ ?_ ?_ ?_ ?_<;>kernel_rfl
end T1
open PySem PySem.W PyProof.Rows L2
set_option maxRecDepth 100000 in
set_option maxHeartbeats 0 in
theorem PySem.Challenge.cw_coilkind_k23_whole_alike_goes_on_holds : PySem.Challenge.rw_coilkind_k23_whole_alike_goes_on.Holds := by
 refine PySem.W.holds_law T1.said fun said=>?_
 exact PySem.W.holds_open (q:=T1.view) (loose:=["STEP_WORDS"]) (Xt:=fun s=>xlAt T1.view [] s&&recOk [] s) (XP:=XL T1.view []) (Yf:=(wc T1.look T1.want).obs) (Ya:=(wc T1.look T1.want).val) (YP:=(wc T1.look T1.want).says) (N:=2832)
  (yI "special-get-raises" T1.WM T1.WO) (wc T1.look T1.want).of (wc T1.look T1.want).keeps (fun s e=>xl_of s (Bool.and_eq_true_iff.mp e).1) XL.keeps T1.hdef T1.hprog T1.hkw (fun s e=>recFacts_of (Bool.and_eq_true_iff.mp e).2) rfl (by assumption) T1.hok T1.hbare T1.WX T1.walk
